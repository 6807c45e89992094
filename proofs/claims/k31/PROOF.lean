import PyProof.Rows.All
import Wide.All
import OpenK.AllK
import Wide.FinOn
import Lean
import PyProof.EqAt
import PyProof.EqKinds
import PyProof.TupleCall
import PySem.Challenge.RW_knotless_k31_letters_to_one_and_notes
set_option Elab.async false
noncomputable section
universe u v
section
local macro_rules|`(∅)=>`(by lia)
local macro_rules|`(!_)=>`(by decide)
local macro_rules|`(-_)=>`(by simp)
theorem oH:1<=PySem.sizeLine:=!_
theorem g8:2<=PySem.sizeLine:=!_
theorem ia:3<=PySem.sizeLine:=!_
theorem z4:4<=PySem.sizeLine:=!_
theorem aaN:5<=PySem.sizeLine:=!_
theorem aaO:6<=PySem.sizeLine:=!_
def ee:=@if_pos.{u}
def er:=@if_neg.{u}
def fy:=@decide_eq_true
def gU:=@decide_eq_false
def g9:=@of_decide_eq_true
def eL:=@absurd.{v}
def g7:=@congrArg.{u,v}
open List renaming getElem?_eq_getElem -> aa, length_map -> ah, getElem?_eq_some_iff -> ai, getElem?_map -> aj, length_append -> av, getD_eq_getElem?_getD -> az, range -> aA, mem_map -> aL, mem_of_getElem? -> aM, size_toArray -> aP, getElem_mem -> aQ, map_append -> aT, length_filter_le -> aX, mem_cons -> bf, mem_singleton -> bq, mem_append -> br, mem_cons_of_mem -> bu, length_cons -> bx, length_range -> bB, mem_filter -> bC, getElem?_append_left -> bM, map_cons -> bO, length_take -> bQ, length_set -> bT, append_nil -> bY, mem_cons_self -> b9, getElem?_append_right -> cu, append_assoc -> cH, mem_append_right -> cY, map_congr_left -> c6, mem_range -> dm, map_map -> dw, filterMap_cons -> dQ, lookup_cons -> fh, filter_cons -> fj, getElem?_eq_none -> fF, filter_append -> fO, take_of_length_le -> gi, getElem?_range -> gp, length_eq_zero_iff -> iw, drop_of_length_le -> iL, take_length -> iX, take_succ_eq_append_getElem -> ju, reverse_append -> ki, mem_map_of_mem -> kj, replicate -> k7, nodup_nil -> k8, range_succ -> mF, nodup_cons -> mG, getElem?_concat_length -> mH, getElem?_of_mem -> oi, pairwise_iff_getElem -> pN, extract_eq_drop_take -> pO, drop_eq_getElem_cons -> pP, lookup -> qj, pairwise_cons -> rZ, find?_cons -> r6, filter_cons_of_pos -> r8, filter_cons_of_neg -> r9, take_add_one -> uI, nodup_append -> uJ, getElem?_set -> uK, take_append_drop -> vI, set_append_right -> vJ, length_drop -> wK, any_eq_true -> wL
open PySem.W renaming Frag -> af, findIn -> aI, nsIn -> bG, mg_none_of -> cJ, mg_of -> cU, kia_one -> dP, keepIn -> dX, fnOf -> eT, emptyDict -> gm, codeIn -> jm, instObj -> jA, hasDictIn -> uG, plainGet -> wH
open Nat renaming le_refl -> ay, le_trans -> aN, ne_of_lt -> bE, lt_of_lt_of_le -> bH, zero_le -> bN, lt_of_le_of_lt -> cK, le_succ -> cV, add_le_add_left -> fz, sub_self -> iY, lt_irrefl -> iZ, le_of_lt -> kg, min_le_left -> mE, not_lt_zero -> rY, lt_succ_self -> wI, le_add_right -> wJ
open Bool renaming false_ne_true -> aF, and_eq_true -> c9, eq_iff_iff -> iB, false_eq_true -> mq
open Option.some renaming inj -> aK
open Array renaming length_toList -> aR, getElem_mem -> bK, toList_append -> cP, getElem?_toList -> dR, getElem?_eq_some_iff -> gh, getElem_extract -> gE, mem_toList_iff -> gZ, size_extract -> mw, getElem?_eq_getElem -> pQ, toList_push -> uL
open Option renaming some_ne_none -> aS
open PySem.F renaming plainAttrs_list -> be, type_list_append -> bg, slot_list_append -> bh
open Ne renaming symm -> bL
open Int renaming emod_nonneg -> bU, emod_lt_of_pos -> ck, toNat_natCast -> cy, zero_add -> gD, le_refl -> jn, le_trans -> qV
open Sum renaming inl -> gC
open ForInStep renaming yield -> jB
open False renaming elim -> jC
open True renaming intro -> k6
open PySem renaming mem_of_lookup -> qi
open PyProof.Rows renaming slot_tuple_getitem -> uH
set_option linter.all false
set_option maxRecDepth 100000
namespace L2
open PySem PySem.Spec PyProof.Rows
abbrev Key:=Sum Int Str
noncomputable def Jl:Key->Value->Bool
 |.inl k,v=>Value.isInt k v
 |.inr x,v=>Value.isStrOf x v
noncomputable def af2(w:World):Key->Int
 |.inl k=>hashInt k
 |.inr x=>hashStr w x
theorem ic:∀{k:Key} {v:Value},Jl k v=true->(∃i t,k=gC i/\v=Value.int i t)∨(∃x t,k=Sum.inr x/\v=Value.str x t)
 |.inl i,v,h=>by
  obtain⟨t,e⟩:=Value.isInt_shape (k:=i) (v:=v) h;exact .inl ⟨i,t,rfl,e⟩
 |.inr x,v,h=>by
  obtain⟨t,e⟩:=Value.isStrOf_shape (x:=x) (v:=v) h;exact .inr ⟨x,t,rfl,e⟩
theorem Rj(i:Int)(t:Tok):Jl (.inl i) (.int i t)=true:=by simp[Jl,Value.isInt]
theorem Rk(x:Str)(t:Tok):Jl (.inr x) (.str x t)=true:=by simp[Jl,Value.isStrOf]
theorem Zx(a b:Int):decide ((gC a:Key)=gC b)=(a==b):=by
 by_cases e:a=b
 ·subst e;simp
 ·have h:¬(gC a:Key)=gC b:=λq=>e (Sum.inl.inj q)
  rw[gU h];exact (beq_eq_false_iff_ne.mpr e).symm
theorem Zy(a b:Str):decide ((Sum.inr a:Key)=Sum.inr b)=decide (a=b):=by
 by_cases e:a=b
 ·subst e;simp
 ·have h:¬(Sum.inr a:Key)=Sum.inr b:=λq=>e (Sum.inr.inj q)
  rw[gU h,gU e]
theorem Zz(a:Int)(b:Str):decide ((gC a:Key)=Sum.inr b)=false:=gU (λq=>nomatch q)
theorem ZA(a:Str)(b:Int):decide ((Sum.inr a:Key)=gC b)=false:=gU (λq=>nomatch q)
noncomputable def ie(prog:Program)(w:World):PySem.KeyKind prog w Key where
 is:=Jl
 hash:=af2 w
 inj:=λv a b ha hb=>by
  rcases ic ha with ⟨i,t,rfl,rfl⟩|⟨x,t,rfl,rfl⟩
  ·rcases ic hb with ⟨j,u,rfl,e⟩|⟨y,u,rfl,e⟩
   ·injection e with e1 _;rw[e1]
   ·exact nomatch e
  ·rcases ic hb with ⟨j,u,rfl,e⟩|⟨y,u,rfl,e⟩
   ·exact nomatch e
   ·injection e with e1 _;rw[e1]
 byValue:=λk v h=>by
  rcases ic h with ⟨i,t,rfl,rfl⟩|⟨x,t,rfl,rfl⟩ <;> rfl
 pyHash:=λhv h=>by
  rcases ic hv with ⟨i,t,rfl,rfl⟩|⟨x,t,rfl,rfl⟩
  ·exact wpAny_pyHash_int h
  ·exact wpAny_pyHash_str h
 eqBool:=λhu hv h=>by
  rcases ic hu with ⟨i,t,rfl,rfl⟩|⟨x,t,rfl,rfl⟩
  ·rcases ic hv with ⟨j,u,rfl,rfl⟩|⟨y,u,rfl,rfl⟩
   ·rw[Zx] at h;exact wpAny_eqBool_int h
   ·rw[Zz] at h;exact SeqAt.EqAt.int_str i t y u _ _ _ _ h
  ·rcases ic hv with ⟨j,u,rfl,rfl⟩|⟨y,u,rfl,rfl⟩
   ·rw[ZA] at h;exact SeqAt.EqAt.str_int x t j u _ _ _ _ h
   ·rw[Zy] at h;exact wpAny_eqBool_str h
 «strs»:=λk x t v h=>by
  rcases ic h with ⟨i,u,rfl,e⟩|⟨y,u,rfl,e⟩
  ·exact nomatch e
  ·injection e with e1 _
   subst e1;cases v <;> rfl
theorem LU(prog:Program)(w:World)(i:Int)(t:Tok):(ie prog w).is (.inl i) (.int i t)=true:=Rj i t
theorem LV(prog:Program)(w:World)(x:Str)(t:Tok):(ie prog w).is (.inr x) (.str x t)=true:=Rk x t
inductive V where
 |fH|bl (b:Bool)|int (i:Int)|str (x:Str)|PL (b:Array UInt8)|ZC (b:UInt64)|ref (a:Addr)|ty (n:String)
 deriving DecidableEq
def RelV:V->Value->Prop
 |.fH,u=>u=Value.none
 |.bl b,u=>u=Value.bool b
 |.int i,u=>∃t,u=Value.int i t
 |.str x,u=>∃t,u=Value.str x t
 |.PL b,u=>∃t,u=Value.bytes b t
 |.ZC b,u=>∃t,u=Value.float b t
 |.ref a,u=>u=Value.ref a
 |.ty n,u=>u=Value.type n
abbrev bZ:List V->List Value->Prop:=Paired RelV
theorem bZ.length{xs:List V}{us:List Value}(r:bZ xs us):xs.length=us.length:=Paired.length r
theorem bZ.get:∀{xs:List V} {us:List Value} {i:Nat} {x:V},bZ xs us->xs[i]?=some x->∃u,us[i]?=some u/\RelV x u
 |_,_,_,_,.nil,e=>by simp at e
 |_,_,0,_,.cons r _,e=>by simp at e;subst e;exact⟨_,rfl,r⟩
 |_,_,i+1,x,.cons _ t,e=>by
  obtain⟨u,b,a⟩:=bZ.get (i:=i) (x:=x) t (by simpa using e);exact⟨u,by simpa using b,a⟩
theorem bZ.set{x:V}{u:Value}(r:RelV x u):∀{xs:List V} {us:List Value} (i:Nat),bZ xs us->bZ (xs.set i x) (us.set i u)
 |_,_,_,.nil=>.nil
 |_,_,0,.cons _ t=>.cons r t
 |_,_,i+1,.cons q t=>.cons q (bZ.set r i t)
theorem bZ.append:∀{xs b:List V} {us a:List Value},bZ xs us->bZ b a->bZ (xs++b) (us++a)
 |_,_,_,_,.nil,s=>s
 |_,_,_,_,.cons r t,s=>.cons r (bZ.append t s)
theorem bZ.take:∀{xs:List V} {us:List Value} (n:Nat),bZ xs us->bZ (xs.take n) (us.take n)
 |_,_,0,_=>.nil
 |_,_,_+1,.nil=>.nil
 |_,_,n+1,.cons r t=>.cons r (bZ.take n t)
theorem bZ.drop:∀{xs:List V} {us:List Value} (n:Nat),bZ xs us->bZ (xs.drop n) (us.drop n)
 |_,_,0,r=>r
 |_,_,_+1,.nil=>.nil
 |_,_,n+1,.cons _ t=>bZ.drop n t
def yG:Option V->Option Value->Prop
 |some v,some u=>RelV v u
 |none,none=>True
 |_,_=>False
def KV{κ:Type}:List (κ×V)->List (κ×Value)->Prop:=Paired λ(p:κ×V) (q:κ×Value)=>p.1=q.1/\RelV p.2 q.2
noncomputable def kV:Key->V
 |.inl i=>.int i
 |.inr x=>.str x
inductive HO where
 |lst (xs:List V)
 |tup (xs:List V)
 |dK (kvs:List (Key×V))|dT (kvs:List (List Key×V))
 |set (S:Int->Bool) (n:Nat)
 |ins (C dx:Addr) (fs:List (Str×V))
 |own (x:Addr)
 |xd (fs:List (Str×V))
 |met (f x:Addr)
 |S4 (lo hi:Int)
 |Ax (o:Obj) (u:HO)
 |Yo (ps:Array Value)
 |ext (φ:Heap->Prop)
abbrev Hp:=Addr->Option HO
noncomputable def upd(H:Hp)(a:Addr)(o:HO):Hp:=λb=>if b=a then some o else H b
theorem au{H:Hp}{a:Addr}{o:HO}:upd H a o a=some o:=by unfold upd;rw[ee rfl]
theorem aH{H:Hp}{a b:Addr}{o:HO}(h:b≠a):upd H a o b=H b:=by unfold upd;rw[er h]
theorem Kd{H:Hp}{a:Addr}{o u:HO}:upd (upd H a o) a u=upd H a u:=by
 funext b;unfold upd;split <;> rfl
theorem vK{H:Hp}{a b:Addr}{o u:HO}(h:H a=some o)(h':H b=some u)(d:o≠u):a≠b:=by
 intro e;subst e;rw[h] at h';exact d (aK h')
theorem aE{H:Hp}{a b:Addr}{o:HO}(h:H a=some o)(h':H b=none):a≠b:=by
 intro e;subst e;rw[h] at h';cases h'
section
variable(P:Program)(w:World)
def fP(H:Hp)(h:Heap)(a:Addr):HO->Prop
 |.lst xs=>xs.length<=sizeLine/\∃(its:List Value) (n:Nat),bZ xs its/\h.get? a=some {cls:=.type "list",data:=.seq its.toArray n}
 |.tup xs=>xs.length<=sizeLine/\∃its:List Value,bZ xs its/\IsTup h a its.toArray
 |.dK kvs=>kvs.length<=sizeLine/\(a==sysModules)=false/\∃vs,KV kvs vs/\h.DictOf (ie P w) a vs
 |.dT kvs=>kvs.length<=sizeLine/\(a==sysModules)=false/\∃xs:List (List Key×Addr×Value),
  Paired (λ(p:List Key×V) (q:List Key×Addr×Value)=>p.1=q.1/\H q.2.1=some (.tup (p.1.map kV))/\RelV p.2 q.2.2) kvs xs /\
  ∃o es ep,h.get? a=some o/\o.ExactDict/\o.data=.dict es ep/\es.toList=xs.map (entryOfKey (tupleKind (ie P w)))/\(xs.map (·.1)).Nodup
 |.set S n=>h.SetOf (intKind P w) a S n
 |.ins C dx fs=>H dx=some (.own a)/\fs.length<=1000/\dx≠a/\h.get? a=some (jA C dx) /\
  ∃mA,h.Ns1 dx mA/\(∀f,yG (fs.lookup f) (mA f))/\PySem.Within mA (fs.map (·.1))
 |.own _=>∃o,h.get? a=some o
 |.xd fs=>∃mA,h.Ns1 a mA/\∀f,yG (fs.lookup f) (mA f)
 |.S4 lo hi=>∃t u v,h.get? a=some {cls:=.type "range",data:=.fields #[.int lo t,.int hi u,.int 1 v]}
 |.Ax o u=>h.get? a=some o/\fP H h a u
 |.Yo ps=>h.get? a=some {cls:=.none,data:=.fields ps}
 |.met f x=>h.get? a=some (PySem.W.methodObj (.ref f) (.ref x))
 |.ext φ=>φ h/\(∃o,h.get? a=some o)/\∀h1 h2:Heap,φ h1->(∀o,h1.get? a=some o->h2.get? a=some o)->φ h2
def yM(H:Hp)(h:Heap):Prop:=∀a o,H a=some o->fP P w H h a o
end
section
variable{P:Program}{w:World}{H H':Hp}{h h':Heap}{a:Addr}{o:HO}
theorem fP.lt(x:fP P w H h a o):a<h.objs.size:=by
 cases o with
 |lst d=>obtain⟨_,_,_,_,e⟩:=x;exact Heap.lt_size e
 |tup d=>obtain⟨_,_,_,p⟩:=x;exact p.lt
 |dK b=>obtain⟨_,_,_,_,o,_,_,e,_⟩:=x;exact Heap.lt_size e
 |dT b=>obtain⟨_,_,_,_,o,_,_,e,_⟩:=x;exact Heap.lt_size e
 |set S n=>obtain⟨o,_,_,_,e,_⟩:=x;exact Heap.lt_size e
 |ins C j c=>obtain⟨_,_,_,e,_⟩:=x;exact Heap.lt_size e
 |own y=>obtain⟨_,e⟩:=x;exact Heap.lt_size e
 |xd c=>obtain⟨_,⟨_,_,_,e,_⟩,_⟩:=x;exact Heap.lt_size e
 |S4 lo l=>obtain⟨_,_,_,e⟩:=x;exact Heap.lt_size e
 |Ax i u=>obtain⟨e,_⟩:=x;exact Heap.lt_size e
 |Yo g=>exact Heap.lt_size (show h.get? a=some _ from x)
 |met f y=>exact Heap.lt_size (show h.get? a=some _ from x)
 |ext k=>obtain⟨_,⟨_,e⟩,_⟩:=x;exact Heap.lt_size e
theorem Paired.Wc{α β:Type}{F G:α->β->Prop}:∀{l₁:List α} {l₂:List β},Paired F l₁ l₂->(∀a b,F a b->G a b)->Paired G l₁ l₂
 |_,_,.nil,_=>.nil
 |_,_,.cons r t,f=>.cons (f _ _ r) (Paired.Wc t f)
theorem fP.stay(x:fP P w H h a o)(k:∀b u,(b=a∨H b=some (.own a))->h.get? b=some u->h'.get? b=some u)
 (J:∀b,H b=some (.own a)->H' b=some (.own a)) (D:∀b xs,H b=some (.tup xs)->H' b=some (.tup xs)):fP P w H' h' a o:=by
 induction o with
 |lst xs=>obtain⟨z,l,n,r,e⟩:=x;exact⟨z,l,n,r,k _ _ (.inl rfl) e⟩
 |tup xs=>obtain⟨z,l,r,g,e,c⟩:=x;exact⟨z,l,r,g,k _ _ (.inl rfl) e,c⟩
 |dK A=>obtain⟨z,y,I,r,g,j,i,e,c⟩:=x;exact⟨z,y,I,r,g,j,i,k _ _ (.inl rfl) e,c⟩
 |dT A =>
  obtain⟨z,y,xs,r,g,j,i,e,c⟩:=x;exact⟨z,y,xs,Paired.Wc r λp q z=>⟨z.1,D _ _ z.2.1,z.2.2⟩,g,j,i,k _ _ (.inl rfl) e,c⟩
 |set S n=>obtain⟨g,j,i,t,e,c⟩:=x;exact⟨g,j,i,t,k _ _ (.inl rfl) e,c⟩
 |ins C L E =>
  obtain⟨d,z,G,e,m,⟨s,j,i,F,c⟩,r⟩:=x;exact⟨J _ d,z,G,k _ _ (.inl rfl) e,m,⟨s,j,i,k _ _ (.inr d) F,c⟩,r⟩
 |own y=>obtain⟨g,e⟩:=x;exact⟨g,k _ _ (.inl rfl) e⟩
 |xd E=>obtain⟨m,⟨s,j,i,e,c⟩,r⟩:=x;exact⟨m,⟨s,j,i,k _ _ (.inl rfl) e,c⟩,r⟩
 |S4 lo N=>obtain⟨t,u,v,e⟩:=x;exact⟨t,u,v,k _ _ (.inl rfl) e⟩
 |Ax g u K=>obtain⟨e,q⟩:=x;exact⟨k _ _ (.inl rfl) e,K q⟩
 |Yo B =>
  have e:h.get? a=some {cls:=.none,data:=.fields B}:=x;show h'.get? a=some {cls:=.none,data:=.fields B};exact k a _ (.inl rfl) e
 |met f y =>
  have e:h.get? a=some (PySem.W.methodObj (.ref f) (.ref y)):=x;show h'.get? a=some (PySem.W.methodObj (.ref f) (.ref y));exact k a _ (.inl rfl) e
 |ext M=>obtain⟨p,⟨o,e⟩,st⟩:=x;exact⟨st _ _ p λo q=>k _ _ (.inl rfl) q,⟨o,k _ _ (.inl rfl) e⟩,st⟩
theorem yM.lt(x:yM P w H h)(e:H a=some o):a<h.objs.size:=(x a o e).lt
theorem yM.fresh(x:yM P w H h)(e:h.objs.size<=a):H a=none:=by
 cases q:H a with
 |none=>rfl
 |some u=>exact eL (bH (x.lt q) e) (iZ _)
theorem yM.kept(x:yM P w H h)(k:∀b u,h.get? b=some u->h'.get? b=some u):yM P w H h':=λa o e =>
 (x a o e).stay (λb u _ q=>k b u q) (λ_ q=>q) λ_ _ q=>q
theorem yM.laid(x:yM P w H h)(k:∀b u,h.get? b=some u->h'.get? b=some u)(i:h.objs.size<=a)(d:fP P w (upd H a o) h' a o):yM P w (upd H a o) h':=λb u e=>by
 have g:=x.fresh i;by_cases f:b=a
 ·subst f;rw[au] at e;cases e;exact d
 ·rw[aH f] at e
  exact (x b u e).stay (λc v _ q=>k c v q) (λc q=>by rw[aH (aE q g)];exact q) λc j q=>by rw[aH (aE q g)];exact q
end
def Rd(H:Hp)(a:Addr)(u:HO):Prop:=H a=some u∨∃o,H a=some (.Ax o u)
theorem Rd.ok{P:Program}{w:World}{H:Hp}{h:Heap}{a:Addr}{u:HO}(r:Rd H a u)(x:yM P w H h):fP P w H h a u:=by
 rcases r with r|⟨o,r⟩
 ·exact x a u r
 ·obtain⟨_,q⟩:=x a _ r
  exact q
def qb:Option HO->Prop
 |some (.lst _)=>True
 |some (.dK _)=>True
 |some (.dT _)=>True
 |some (.set _ _)=>True
 |some (.ins _ _ _)=>True
 |some (.ext _)=>True
 |_=>False
section
variable{P:Program}{w:World}{H:Hp}{h h':Heap}{x e:Addr}{o':HO}
theorem yM.write(ok:yM P w H h)(i:qb (H x))(n:e=x∨H e=some (.own x))(k:∀b u,b≠e->h.get? b=some u->h'.get? b=some u)(l:∃u,h'.get? e=some u)
 (m:fP P w (upd H x o') h' x o'):yM P w (upd H x o') h':=λb u q=>by
 have a:∀c y,H c=some (.own y)->c≠x:=λc y r z=>by subst z;rw[r] at i;exact i
 have j:∀c d,H c=some (.tup d)->c≠x:=λc d r z=>by subst z;rw[r] at i;exact i
 by_cases f:b=x
 ·subst f;rw[au] at q;cases q;exact m
 ·rw[aH f] at q
  by_cases g:b=e
  ·have o:H b=some (.own x):=by
    rcases n with z|z
    ·exact eL (g.trans z) f
    ·rw[g];exact z
   rw[q] at o;cases o;obtain⟨v,p⟩:=l;exact⟨v,by rw[g];exact p⟩
  ·refine (ok b u q).stay (λc v hc r=>k c v ?_ r) (λc r=>by rw[aH (a c b r)];exact r) λc d r=>by rw[aH (j c d r)];exact r
   rcases hc with rfl|hc
   ·exact g
   ·rintro rfl
    rcases n with z|z
    ·exact a c b hc z
    ·rw[hc] at z;cases z;exact f rfl
end
structure Un(fs ex:List Addr)(H H':Hp)(h h':Heap):Prop where
 keep:∀b o,h.get? b=some o->H b=none->b∉fs->b∉ex->h'.get? b=some o
 slot:∀b o,h.get? b=some o->H b=none->b∈fs->b∉ex->∃sl,h'.get? b=some {o with slots:=sl}
 free:∀b o,h.get? b=some o->H b=none->b∉ex->H' b=none
 there:∀b o,h.get? b=some o->b∉ex->∃o',h'.get? b=some o'
 tups:∀b xs,H b=some (.tup xs)->H' b=some (.tup xs)
 AV:∀b o u,H b=some (.Ax o u)->H' b=some (.Ax o u)
 Cq:∀b ps,H b=some (.Yo ps)->∃more,H' b=some (.Yo (ps++more))
section
variable{fs fs' ex ex':List Addr}{H H1 H2:Hp}{h h1 h2 h':Heap}{a x e:Addr}{o:HO}
theorem Un.any(u:Un fs ex H H1 h h1){b:Addr}{ob:Obj}(q:h.get? b=some ob)(n:H b=none)(c:b∉ex):∃d,h1.get? b=some {ob with slots:=d}:=by
 by_cases a:b∈fs
 ·exact u.slot b ob q n a c
 ·exact⟨ob.slots,u.keep b ob q n a c⟩
theorem Un.trans(a:Un fs ex H H1 h h1)(b:Un fs ex H1 H2 h1 h2):Un fs ex H H2 h h2 where
 keep:=λc d q n i e=>b.keep c d (a.keep c d q n i e) (a.free c d q n e) i e
 slot:=λc d q n i e=>by
  obtain⟨r,f⟩:=a.slot c d q n i e;obtain⟨k,l⟩:=b.slot c _ f (a.free c d q n e) i e;exact⟨k,l⟩
 free:=λc d q n e=>by
  obtain⟨j,f⟩:=a.there c d q e;exact b.free c j f (a.free c d q n e) e
 there:=λc d q e=>by
  obtain⟨j,f⟩:=a.there c d q e;exact b.there c j f e
 tups:=λc g q=>b.tups c g (a.tups c g q)
 AV:=λc d g q=>b.AV c d g (a.AV c d g q)
 Cq:=λc o q=>by
  obtain⟨m,f⟩:=a.Cq c o q;obtain⟨p,l⟩:=b.Cq c _ f;exact⟨m++p,by rw[l,Array.append_assoc]⟩
theorem Un.kept(k:∀b u,h.get? b=some u->h'.get? b=some u):Un fs ex H H h h' :=
 ⟨λb a q _ _ _=>k b a q,λb a q _ _ _=>⟨a.slots,k b a q⟩,λ_ _ _ n _=>n,λb a q _=>⟨a,k b a q⟩,λ_ _ q=>q,λ_ _ _ q=>q,λ_ c q=>⟨#[],by rw[q];simp⟩⟩
theorem Un.refl:Un fs ex H H h h:=Un.kept λ_ _ q=>q
theorem Un.laid(k:∀b u,h.get? b=some u->h'.get? b=some u)(d:h.objs.size<=a)(c:H a=none):Un fs ex H (upd H a o) h h' where
 keep:=λb u q _ _ _=>k b u q
 slot:=λb u q _ _ _=>⟨u.slots,k b u q⟩
 free:=λb u q n _=>by rw[aH (bE (bH (Heap.lt_size q) d))];exact n
 there:=λb u q _=>⟨u,k b u q⟩
 tups:=λb e q=>by rw[aH (aE q c)];exact q
 AV:=λb u e q=>by rw[aH (aE q c)];exact q
 Cq:=λb f q=>⟨#[],by rw[aH (aE q c),q];simp⟩
theorem Un.write(a:qb (H x))(m:e=x∨H e=some (.own x))(k:∀b u,b≠e->h.get? b=some u->h'.get? b=some u)(d:∃u,h'.get? e=some u):Un fs ex H (upd H x o) h h':=by
 have i:∀b,H b=none->b≠x:=λb n z=>by subst z;rw[n] at a;exact a
 have f:∀b,H b=none->b≠e:=λb n z=>by
  subst z;rcases m with r|r
  ·exact i b n r
  ·rw[n] at r;cases r
 have c:∀b u,H b=some u->¬qb (some u)->b≠x:=λb u q l z=>by subst z;rw[q] at a;exact l a
 refine⟨λb u q n _ _=>k b u (f b n) q,λb u q n _ _=>⟨u.slots,k b u (f b n) q⟩,λb u q n _=>by rw[aH (i b n)];exact n,λb u q _=>?_,
  λb j q=>by rw[aH (c b _ q λz=>z)];exact q,λb u j q=>by rw[aH (c b _ q λz=>z)];exact q,λb p q=>⟨#[],by rw[aH (c b _ q λz=>z),q];simp⟩⟩
 by_cases g:b=e
 ·subst g;exact d
 ·exact⟨u,k b u g q⟩
end
noncomputable def Fk(h:Heap)(H:Hp):List Addr:=(aA h.objs.size).filter λa=>(H a).isSome
noncomputable def Ke(h:Heap)(H:Hp):Heap:=PySem.W.hideAll h (Fk h H)
theorem Rl(h:Heap)(H:Hp):(Ke h H).objs.size=h.objs.size:=PySem.W.hideAll_size _ _
theorem S5{h:Heap}{H:Hp}{b:Addr}{o:Obj}(e:h.get? b=some o)(n:H b=none):(Ke h H).get? b=some o :=
 PySem.W.hideAll_get _ e λa=>by
  have q:(H b).isSome=true:=(bC.mp a).2;rw[n] at q;simp at q
theorem We{h:Heap}{H:Hp}{b:Addr}{o:Obj}(e:(Ke h H).get? b=some o):h.get? b=some o/\H b=none:=by
 have a:h.get? b=some o:=PySem.W.of_hideAll (Fk h H) e;refine⟨a,?_⟩;cases q:H b with
 |none=>rfl
 |some x =>
  have c:b∈Fk h H:=bC.mpr ⟨dm.mpr (Heap.lt_size a),by simp[q]⟩;have z:(Ke h H).get? b=none:=PySem.W.hideAll_none (Fk h H) c;rw[z] at e;cases e
noncomputable def Wf(g h:Heap)(L:Addr):List (Addr×Obj):=(aA h.objs.size).filterMap λa=>if a=L∨(g.get? a).isSome=true then none else (h.get? a).map λo=>(a,o)
noncomputable def rest(g h:Heap)(L d:Addr):List (Addr×Obj):=(Wf g h L).filter λp=>decide (p.1≠d)
structure Mod(K:af)(mg:Str->Option Value)(base:Heap):Prop where
 ZE:K.In base
 glob:base.Ns mainGlobals mg
 blt:∃mb,base.Ns builtinsNs mb/\∀x:Str,x≠"__name__" -> mb x=bootBuiltins x
 nolimit:base.NoLimit
structure Cx where
 prog:Program
 w:World
 K:af
 mg:Str->Option Value
 base:Heap
 A:Around
 N:List Str
 s₀:Shared
 H₀:Hp
 env:Env
 outer:List Env
 stack:List Env
 ex:List Addr
 fn:Str->Bool
 calm:Bool
 pn:List (Addr×Obj)
 xe:Value->Shared->Prop
noncomputable def frs(l:List Env):List Addr:=l.filterMap (·.frame)
noncomputable abbrev Cx.fs(X:Cx):List Addr:=frs X.outer
def S3(sc:Scope)(x:Str):Prop:=sc.names.lookup x=some .local∨sc.names.lookup x=some .cell∨sc.names.lookup x=some .free
def Loc(sc:Scope)(x:Str):Prop:=sc.names.lookup x=some .local∨sc.names.lookup x=some .cell
def Look(env:Env)(h:Heap)(m:Str->Option Value)(x:Str)(u:Value):Prop :=
 (env.kindOf x=some .local/\m x=some u)∨((env.kindOf x=some .cell∨env.kindOf x=some .free)/\∃c,env.cells.lookup x=some c/\h.IsCell c (some u))
structure Cx.Ok(X:Cx):Prop where
 mod:Mod X.K X.mg X.base
 kind:X.env.scope.kind=.function
 glob:X.env.globals=mainGlobals
 blt:X.env.builtins=builtinsNs
 above:X.s₀.heap.objs.size<=X.env.locals
 inj:∀x y c,X.env.cells.lookup x=some c->X.env.cells.lookup y=some c->x=y
 has:∀x,(X.env.kindOf x=some .cell∨X.env.kindOf x=some .free)->∃c,X.env.cells.lookup x=some c
 n7:∀x c,X.fn x=true->X.env.cells.lookup x=some c->X.s₀.heap.objs.size<=c
 hd:X.calm=true->X.A.handled=none
 frames:X.A.frames=some X.stack
 stk:X.stack=X.outer∨(X.stack=X.env::X.outer/\X.env.frame=some X.env.locals)
 exf:∀b∈X.ex,b≠X.env.locals/\∀x c,X.env.cells.lookup x=some c->c≠b
 bs:∀b o,X.base.get? b=some o->X.s₀.heap.get? b=some o/\X.H₀ b=none
 VW:X.base.objs.size<=X.s₀.heap.objs.size
 Rm:∀b o,X.base.get? b=some o->b∉X.ex
 S6:∀b∈X.ex,b∉X.fs
 Cr:X.s₀.heap.FunFrames X.base X.outer
 Yp:∀b∈X.fs,X.H₀ b=none
structure Inv(X:Cx)(pins:List (Addr×Obj))(σ:List (Option V))(H:Hp)(s:Shared):Prop where
 ok:X.Ok
 os:s.os=X.s₀.os
 bare:AllBare s.gens
 base:Un X.fs X.ex X.H₀ H X.s₀.heap s.heap
 loc:∃m,s.heap.Ns X.env.locals m/\∀(i:Nat) (x:Str) (v:V),X.N[i]?=some x->σ[i]?=some (some v)->S3 X.env.scope x->∃u,RelV v u/\Look X.env s.heap m x u
 cell:∀x c,X.env.cells.lookup x=some c->∃v,s.heap.IsCell c v
 free:H X.env.locals=none
 ua:∀x c,X.env.cells.lookup x=some c->H c=none
 pin:∀p∈X.pn++pins,s.heap.get? p.1=some p.2/\H p.1=none/\p.1≠X.env.locals/\p.1∉X.fs/\∀v,p.2.data≠.cell v
 hok:yM X.prog X.w H s.heap
 len:σ.length=X.N.length
section
variable{X:Cx}{pins:List (Addr×Obj)}{σ:List (Option V)}{H H':Hp}{s:Shared}{h':Heap}
theorem Cx.Ok.af5(ok:X.Ok){b:Addr}{o:Obj}(e:X.base.get? b=some o):b∉X.fs:=λa=>by
 have:=(ok.Cr.mem a).1
 rw[e] at this;cases this
theorem Inv.bs(I:Inv X pins σ H s):∀b o,X.base.get? b=some o->s.heap.get? b=some o/\H b=none:=λb o e =>
 ⟨I.base.keep b o (I.ok.bs b o e).1 (I.ok.bs b o e).2 (I.ok.af5 e) (I.ok.Rm b o e),I.base.free b o (I.ok.bs b o e).1 (I.ok.bs b o e).2 (I.ok.Rm b o e)⟩
theorem Inv.bk(I:Inv X pins σ H s):∀b o,X.base.get? b=some o->s.heap.get? b=some o:=λb o e=>(I.bs b o e).1
theorem Inv.mod(I:Inv X pins σ H s):Mod X.K X.mg X.base:=I.ok.mod
theorem Inv.Br(I:Inv X pins σ H s):X.K.In s.heap:=I.ok.mod.ZE.keeps I.bk
theorem Inv.lt(I:Inv X pins σ H s):X.env.locals<s.heap.objs.size:=let ⟨_,a,_⟩:=I.loc;a.lt
theorem Inv.sz(I:Inv X pins σ H s):X.s₀.heap.objs.size<=s.heap.objs.size:=aN I.ok.above (kg I.lt)
theorem Inv.af6(I:Inv X pins σ H s){a:Addr}(h:s.heap.objs.size<=a):a∉X.fs:=λb=>by
 obtain⟨_,o,c,_⟩:=I.ok.Cr.mem b;exact eL (bH (Heap.lt_size c) (aN I.sz h)) (iZ _)
theorem Inv.ZF(I:Inv X pins σ H s):∀x c,X.env.cells.lookup x=some c->c≠X.env.locals:=λx c e z=>by
 obtain⟨v,o,d,f⟩:=I.cell x c e;obtain⟨m,⟨g,i,h,b,a,_⟩,_⟩:=I.loc;rw[z,b] at d;cases d;rw[a] at f;cases f
theorem Inv.Cr(I:Inv X pins σ H s):s.heap.FunFrames X.base X.outer:=by
 have d:∀(l:List Env),(∀b∈frs l,b∈X.fs)->X.s₀.heap.FunFrames X.base l->s.heap.FunFrames X.base l:=by
  intro l;induction l with
  |nil=>intro _ _;trivial
  |cons j r p =>
   intro g h;obtain⟨k,⟨L,o,c,n,m,i⟩,q⟩:=h;have a:L∈X.fs:=g L (by unfold frs;rw[dQ,c];exact b9);obtain⟨t,e⟩:=I.base.slot L o m (I.ok.Yp L a) a λz=>I.ok.S6 L z a;exact⟨k,⟨L,_,c,n,e,i⟩,p (λb f=>g b (by unfold frs;rw[dQ,c];exact bu _ f)) q⟩
 exact d X.outer (λ_ f=>f) I.ok.Cr
theorem Inv.stack(I:Inv X pins σ H s):s.heap.FunFrames X.base X.stack:=by
 rcases I.ok.stk with e|⟨e,a⟩
 ·rw[e];exact I.Cr
 ·rw[e]
  obtain⟨m,b,_⟩:=I.loc;refine .cons (by rw[I.ok.kind];decide) a b ?_ I.Cr;exact Heap.get?_none_of_le (aN I.ok.VW I.ok.above)
theorem Inv.DE(I:Inv X pins σ H s):∀b∈frs X.stack,b∈X.env.locals::X.fs:=λb a=>by
 rcases I.ok.stk with e|⟨e,c⟩
 ·rw[e] at a;exact bu _ a
 ·rw[e] at a
  unfold frs at a;rw[dQ,c] at a;exact a
theorem Inv.Kf(I:Inv X pins σ H s):∀b∈frs X.stack,H b=none:=λb hb=>by
 rcases bf.mp (I.DE b hb) with e|hb
 ·rw[e];exact I.free
 ·obtain⟨_,o,a,_⟩:=I.ok.Cr.mem hb
  exact I.base.free b o a (I.ok.Yp b hb) λz=>I.ok.S6 b z hb
theorem Inv.step{g':Array GenState}{t':Nat}{d':Drawn}{ch:List Addr}(I:Inv X pins σ H s)
 (h:∀b∈ch,(b∈X.ex∨X.s₀.heap.objs.size<=b)/\b≠X.env.locals/\(∀x c,X.env.cells.lookup x=some c->c≠b)/\∀p∈X.pn++pins,p.1≠b)
 (keep:∀b o,b≠X.env.locals->b∉X.fs->b∉ch->s.heap.get? b=some o->H b=none->h'.get? b=some o)
 (slot:∀b o,b≠X.env.locals->b∈X.fs->b∉ch->s.heap.get? b=some o->H b=none->∃J,h'.get? b=some {o with slots:=J}) (free:∀b o,b∉ch->s.heap.get? b=some o->H b=none->H' b=none)
 (there:∀b o,b∉ch->s.heap.get? b=some o->∃C,h'.get? b=some C)
 (tups:∀b y,H b=some (.tup y)->H' b=some (.tup y)) (AV:∀b o u,H b=some (.Ax o u)->H' b=some (.Ax o u)) (Cq:∀b G,H b=some (.Yo G)->∃D,H' b=some (.Yo (G++D)))
 (S:∀m,s.heap.Ns X.env.locals m->h'.Ns X.env.locals m) (M:yM X.prog X.w H' h') (V:AllBare g') :
 Inv X pins σ H' {s with heap:=h',gens:=g',drawn:=d',toks:=t'}:=by
 have F:∀b o,X.s₀.heap.get? b=some o->b≠X.env.locals:=λb o e=>bE (bH (Heap.lt_size e) I.ok.above);have t:∀b o,X.s₀.heap.get? b=some o->b∉X.ex->b∉ch:=λb o e a A=>by
  rcases (h b A).1 with z|z
  ·exact a z
  ·exact eL (bH (Heap.lt_size e) z) (iZ _)
 have g:∀x c,X.env.cells.lookup x=some c->∀v,s.heap.IsCell c v->h'.IsCell c v:=λx c e v ⟨o,B,L⟩=>by
  have f:c∉ch:=λz=>(h c z).2.2.1 x c e rfl;by_cases P:c∈X.fs
  ·obtain⟨J,q⟩:=slot c o (I.ZF x c e) P f B (I.ua x c e)
   exact⟨_,q,L⟩
  ·exact⟨o,keep c o (I.ZF x c e) P f B (I.ua x c e),L⟩
 refine⟨I.ok,I.os,V,⟨λb o e n A a=>?_,λb o e n A a=>?_,λb o e n a=>?_,λb o e a=>?_,λb y e=>tups b y (I.base.tups b y e),λb o y e=>AV b o y (I.base.AV b o y e),λb G e=>?_⟩,?_,λx c e=>?_,?_,λx c e=>?_,λp N=>?_,M,I.len⟩
 ·exact keep b o (F b o e) A (t b o e a) (I.base.keep b o e n A a) (I.base.free b o e n a)
 ·obtain⟨J,j⟩:=I.base.slot b o e n A a
  obtain⟨K,E⟩:=slot b _ (F b o e) A (t b o e a) j (I.base.free b o e n a);exact⟨K,E⟩
 ·obtain⟨C,j⟩:=I.base.there b o e a
  exact free b C (t b o e a) j (I.base.free b o e n a)
 ·obtain⟨C,j⟩:=I.base.there b o e a
  exact there b C (t b o e a) j
 ·obtain⟨W,j⟩:=I.base.Cq b G e
  obtain⟨T,E⟩:=Cq b _ j;exact⟨W++T,by rw[E,Array.append_assoc]⟩
 ·obtain⟨m,U,R⟩:=I.loc
  refine⟨m,S m U,λi x v j E Q=>?_⟩;obtain⟨u,r,l⟩:=R i x v j E Q;refine⟨u,r,?_⟩;rcases l with l|⟨k,c,e,z⟩
  ·exact .inl l
  ·exact .inr ⟨k,c,e,g x c e _ z⟩
 ·obtain⟨v,z⟩:=I.cell x c e
  exact⟨v,g x c e v z⟩
 ·obtain⟨m,⟨o,_,_,B,_⟩,_⟩:=I.loc
  exact free _ o (λz=>(h _ z).2.1 rfl) B I.free
 ·obtain⟨v,o,B,L⟩:=I.cell x c e
  exact free c o (λz=>(h c z).2.2.1 x c e rfl) B (I.ua x c e)
 ·obtain⟨e,n,O,nf,d⟩:=I.pin p N
  have f:p.1∉ch:=λz=>(h p.1 z).2.2.2 p N rfl;exact⟨keep p.1 p.2 O nf f e n,free p.1 p.2 f e n,O,nf,d⟩
theorem Inv.un{t':Nat}(I:Inv X pins σ H s)(u:Un X.fs [] H H' s.heap h')(g:yM X.prog X.w H' h'):Inv X pins σ H' {s with heap:=h',toks:=t'}:=by
 obtain⟨m,⟨o,v,q,h,r⟩,_⟩:=id I.loc;obtain⟨p,i⟩:=u.any h I.free (-_);exact I.step (g':=s.gens) (d':=s.drawn) (ch:=[]) (λ_ z=>nomatch z) (λb o _ c _ e n=>u.keep b o e n c (-_)) (λb o _ c _ e n=>u.slot b o e n c (-_)) (λb o _ e n=>u.free b o e n (-_)) (λb o _ e=>u.there b o e (-_)) u.tups u.AV u.Cq (λt j=>by
  obtain⟨l,f,d,a,k⟩:=j;rw[h] at a;cases a;exact⟨_,f,d,i,k⟩) g I.bare
theorem Inv.call{g':Array GenState}{t':Nat}{d':Drawn}{ch:List Addr}(I:Inv X pins σ H s)(u:Un (frs X.stack) ch H H' s.heap h')(j:yM X.prog X.w H' h')(v:AllBare g')
 (f:∀b∈ch,(b∈X.ex∨X.s₀.heap.objs.size<=b)/\b≠X.env.locals/\(∀x c,X.env.cells.lookup x=some c->c≠b)/\∀p∈X.pn++pins,p.1≠b) :
 Inv X pins σ H' {s with heap:=h',gens:=g',drawn:=d',toks:=t'}:=by
 obtain⟨m,⟨o,D,B,k,r⟩,_⟩:=id I.loc;obtain⟨A,g⟩:=u.any k I.free λz=>(f _ z).2.1 rfl;exact I.step (ch:=ch) f (λb o g q a e n=>u.keep b o e n (λz=>(bf.mp (I.DE b z)).elim g q) a) (λb o _ _ a e n=>u.any e n a) (λb o a e n=>u.free b o e n a) (λb o a e=>u.there b o e a) u.tups u.AV u.Cq (λC l=>by
  obtain⟨y,i,h,d,t⟩:=l;rw[k] at d;cases d;exact⟨_,i,h,g,t⟩) j v
theorem Inv.turned{t':Nat}{a:Addr}(I:Inv X pins σ H s)(k:∀b o,b≠a->s.heap.get? b=some o->h'.get? b=some o)(A:H a=none)(g:a≠X.env.locals)
 (t:a∈X.ex∨X.s₀.heap.objs.size<=a) (l:∀x c,X.env.cells.lookup x=some c->c≠a) (B:∀p∈X.pn++pins,p.1≠a):Inv X pins σ H {s with heap:=h',toks:=t'}:=by
 have f:∀b u,H b=some u->b≠a:=λb u e z=>by rw[z,A] at e;cases e
 refine I.step (g':=s.gens) (d':=s.drawn) (ch:=[a]) (λb j=>?_) (λb o _ _ d e _=>k b o (λz=>d (by simp[z])) e) (λb o _ _ d e _=>⟨o.slots,k b o (λz=>d (by simp[z])) e⟩) (λ_ _ _ _ n=>n)
  (λb o d e=>⟨o,k b o (λz=>d (by simp[z])) e⟩) (λ_ _ e=>e) (λ_ _ _ e=>e) (λb C e=>⟨#[],by rw[e];simp⟩) (λm i=>?_) (λb u e=>?_) I.bare
 ·have e:b=a:=by simpa using j
  subst e;exact⟨t,g,l,B⟩
 ·obtain⟨o,w,h,y,r⟩:=i
  exact⟨o,w,h,k _ o (bL g) y,r⟩
 ·refine (I.hok b u e).stay (λc v d q=>k c v ?_ q) (λ_ q=>q) λ_ _ q=>q
  rcases d with z|z
  ·rw[z];exact f b u e
  ·exact f c _ z
theorem Inv.tok(I:Inv X pins σ H s)(t:Nat):Inv X pins σ H {s with toks:=t}:=I.un (h':=s.heap) (t':=t) Un.refl I.hok
theorem Inv.kept{t':Nat}(I:Inv X pins σ H s)(k:∀b u,s.heap.get? b=some u->h'.get? b=some u):Inv X pins σ H {s with heap:=h',toks:=t'}:=I.un (Un.kept k) (I.hok.kept k)
theorem Inv.laid{a:Addr}{o:HO}{t':Nat}(I:Inv X pins σ H s)(k:∀b u,s.heap.get? b=some u->h'.get? b=some u)(c:s.heap.objs.size<=a)(d:fP X.prog X.w (upd H a o) h' a o) :
 Inv X pins σ (upd H a o) {s with heap:=h',toks:=t'}:=I.un (Un.laid k c (I.hok.fresh c)) (I.hok.laid k c d)
theorem Inv.write{x e:Addr}{o:HO}{t':Nat}(I:Inv X pins σ H s)(d:qb (H x))(f:e=x∨H e=some (.own x))(k:∀b u,b≠e->s.heap.get? b=some u->h'.get? b=some u)(a:∃u,h'.get? e=some u)
 (c:fP X.prog X.w (upd H x o) h' x o):Inv X pins σ (upd H x o) {s with heap:=h',toks:=t'}:=I.un (Un.write d f k a) (I.hok.write d f k a c)
theorem Inv.PM{a:List (Addr×Obj)}(I:Inv X pins σ H s)(h:∀p∈a,s.heap.get? p.1=some p.2/\H p.1=none/\p.1≠X.env.locals/\p.1∉X.fs/\∀v,p.2.data≠.cell v):Inv X a σ H s :=
 ⟨I.ok,I.os,I.bare,I.base,I.loc,I.cell,I.free,I.ua,λp b=>(br.mp b).elim (λz=>I.pin p (List.mem_append_left _ z)) (h p),I.hok,I.len⟩
theorem LW{N:List Str}(c:N.Nodup){i j:Nat}{x:Str}(a:N[i]?=some x)(b:N[j]?=some x):i=j:=by
 obtain⟨g,d⟩:=ai.mp a;obtain⟨f,e⟩:=ai.mp b;exact (List.getElem_inj c).mp (d.trans e.symm)
theorem Jo{M:Model}{A:Around}{E:Value->Shared->Prop}{i:Nat}{x:Str}{v:V}{u:Value}{Q:Unit->Shared->Prop}(I:Inv X pins σ H s)(hN:X.N.Nodup)(O:X.N[i]?=some x)(t:Loc X.env.scope x)(r:RelV v u)
 (h:∀s',Inv X pins (σ.set i (some v)) H s'->(∃a,Heap.SameBut a s.heap s'.heap/\(a=X.env.locals∨X.env.cells.lookup x=some a))->Q () s') (hf:X.fn x=true∨X.env.scope.names.lookup x=some .local:=by first|exact .inl rfl|exact .inr rfl|assumption):wpAny M A (storeName X.env x u) Q E s:=by
 obtain⟨m,hn,hl⟩:=id I.loc;have R:(X.env.scope.kind==.class || (X.env.scope.kind==.module&&X.env.locals != X.env.globals))=false:=by rw[I.ok.kind];rfl
 have L:i<σ.length:=by rw[I.len];exact (ai.mp O).1
 have ZF:=I.ZF;have l:∀{a:Addr} {h':Heap},(∃o,s.heap.get? a=some o/\H a=none)->Heap.SameBut a s.heap h'->yM X.prog X.w H h':=λ{a h'} ha f b ob e=>by
  obtain⟨_,_,B⟩:=ha;refine (I.hok b ob e).stay (λc U hc q=>(f.2 c ?_).trans q) (λ_ q=>q) λ_ _ q=>q;rintro rfl;rcases hc with rfl|hc
  ·rw[B] at e;cases e
  ·rw[B] at hc;cases hc
 rcases t with hk|hk
 ·refine wpAny_storeName_local hk hn (λh' hn' f=>?_) R
  obtain⟨oL,_,_,hoL,_⟩:=id hn;refine h _ ⟨I.ok,I.os,I.bare,⟨λb o e n D t=>?_,λb o e n D t=>?_,I.base.free,λb o e t=>?_,I.base.tups,I.base.AV,I.base.Cq⟩,⟨_,hn',λj y v' g C e3=>?_⟩,λy c e=>?_,I.free,I.ua,λp Z=>?_,l ⟨oL,hoL,I.free⟩ f,by simpa using I.len⟩ ⟨_,f,.inl rfl⟩
  ·exact (f.2 b (bE (bH (Heap.lt_size e) I.ok.above))).trans (I.base.keep b o e n D t)
  ·obtain⟨Y,g⟩:=I.base.slot b o e n D t
   exact⟨Y,(f.2 b (bE (bH (Heap.lt_size e) I.ok.above))).trans g⟩
  ·obtain⟨W,g⟩:=I.base.there b o e t
   exact⟨W,(f.2 b (bE (bH (Heap.lt_size e) I.ok.above))).trans g⟩
  ·by_cases G:j=i
   ·subst G
    rw[O] at g;cases g;rw[List.getElem?_set_self L] at C;cases C;exact⟨u,r,.inl ⟨hk,-_⟩⟩
   ·rw[List.getElem?_set_ne (bL G)] at C
    obtain⟨u',r',q⟩:=hl j y v' g C e3;refine⟨u',r',?_⟩;rcases q with ⟨k,e⟩|⟨k,c,e,z⟩
    ·refine .inl ⟨k,?_⟩
     have:y≠x:=λe=>G (LW hN g (e▸O))
     simp[this,e]
    ·exact .inr ⟨k,c,e,z.sameBut f (ZF y c e)⟩
  ·obtain⟨U,z⟩:=I.cell y c e
   exact⟨U,z.sameBut f (ZF y c e)⟩
  ·obtain⟨e,n,S,nf,d⟩:=I.pin p Z
   exact⟨(f.2 p.1 S).trans e,n,S,nf,d⟩
 ·have F:X.fn x=true:=by
   rcases hf with z|z
   ·exact z
   ·rw[z] at hk;cases hk
  obtain⟨c,hc⟩:=I.ok.has x (.inl hk);obtain⟨U,z⟩:=I.cell x c hc;refine wpAny_storeName_cell I.ok.kind hk hc z (λh' K f=>?_);obtain⟨oc,P,af7⟩:=id z;refine h {s with heap:=h'} ⟨I.ok,I.os,I.bare,⟨λb o e n D t=>?_,λb o e n D t=>?_,I.base.free,λb o e t=>?_,I.base.tups,I.base.AV,I.base.Cq⟩,⟨m,hn.sameBut f (bL (ZF x c hc)),λj y v' g C e3=>?_⟩,λy T e=>?_,I.free,I.ua,λp Z=>?_,l ⟨oc,P,I.ua x c hc⟩ f,by simpa using I.len⟩ ⟨c,f,.inr hc⟩
  ·exact (f.2 b (bE (bH (Heap.lt_size e) (I.ok.n7 x c F hc)))).trans (I.base.keep b o e n D t)
  ·obtain⟨Y,g⟩:=I.base.slot b o e n D t
   exact⟨Y,(f.2 b (bE (bH (Heap.lt_size e) (I.ok.n7 x c F hc)))).trans g⟩
  ·obtain⟨W,g⟩:=I.base.there b o e t
   exact⟨W,(f.2 b (bE (bH (Heap.lt_size e) (I.ok.n7 x c F hc)))).trans g⟩
  ·by_cases G:j=i
   ·subst G
    rw[O] at g;cases g;rw[List.getElem?_set_self L] at C;cases C;exact⟨u,r,.inr ⟨.inl hk,c,hc,K⟩⟩
   ·rw[List.getElem?_set_ne (bL G)] at C
    obtain⟨u',r',q⟩:=hl j y v' g C e3;refine⟨u',r',?_⟩;rcases q with q|⟨k,T,e,z'⟩
    ·exact .inl q
    ·refine .inr ⟨k,T,e,z'.sameBut f ?_⟩
     rintro rfl;exact G (LW hN g (I.ok.inj _ _ _ e hc▸O))
  ·by_cases J:T=c
   ·subst J;exact⟨_,K⟩
   ·obtain⟨w2,z2⟩:=I.cell y T e
    exact⟨w2,z2.sameBut f J⟩
  ·obtain⟨e,n,S,nf,d⟩:=I.pin p Z
   refine⟨(f.2 p.1 ?_).trans e,n,S,nf,d⟩;intro q;rw[q,P] at e;have q':oc=p.2:=aK e;exact d U (by rw[<- q'];exact af7)
theorem yN{M:Model}{A:Around}{E:Value->Shared->Prop}{i:Nat}{x:Str}{v:V}{u:Value}{Q:Unit->Shared->Prop}(I:Inv X pins σ H s)(e:X.N.Nodup)(a:X.N[i]?=some x)(d:Loc X.env.scope x)(r:RelV v u)
 (h:∀s',Inv X pins (σ.set i (some v)) H s'->Q () s') (c:X.fn x=true∨X.env.scope.names.lookup x=some .local:=by first|exact .inl rfl|exact .inr rfl|assumption):wpAny M A (storeName X.env x u) Q E s :=
 Jo I e a d r (λs' b _=>h s' b) c
theorem Inv.Yq{s':Shared}{ch:List Addr}(I:Inv X pins σ H s)(g:s'.os=s.os)(u:Un (frs X.stack) ch H H' s.heap s'.heap)(d:yM X.prog X.w H' s'.heap)(h:AllBare s'.gens)
 (a:∀b∈ch,(b∈X.ex∨X.s₀.heap.objs.size<=b)/\b≠X.env.locals/\(∀x c,X.env.cells.lookup x=some c->c≠b)/\∀p∈X.pn++pins,p.1≠b):Inv X pins σ H' s':=by
 obtain⟨h',g',d',t',f⟩:=s';have e:f=s.os:=g;subst e;exact I.call (g':=g') (t':=t') (d':=d') u d h a
end
abbrev XK:=Value->Option Addr->Hp->Prop
abbrev St:=List (Option V)
abbrev VK:=V->Hp->Prop
abbrev TE:=St->Hp->VK->Prop
abbrev TT:=St->Hp->(Bool->Hp->Prop)->Prop
abbrev TA:=St->Hp->(List V->Hp->Prop)->Prop
structure Ends where
 nx:St->Hp->Prop
 rt:VK
 bk:St->Hp->Prop:=λ_ _=>False
 ct:St->Hp->Prop:=λ_ _=>False
abbrev TS:=Ends->St->Hp->Prop
inductive EP(X:Cx)(pins:List (Addr×Obj))(σ:St)(Q:VK)(u:Value)(s':Shared):Prop
 |mk (v:V) (H':Hp) (a:Inv X pins σ H' s') (b:RelV v u) (c:Q v H'):EP X pins σ Q u s'
inductive TP(X:Cx)(pins:List (Addr×Obj))(σ:St)(Q:Bool->Hp->Prop)(b:Bool)(s':Shared):Prop
 |mk (H':Hp) (a:Inv X pins σ H' s') (c:Q b H'):TP X pins σ Q b s'
inductive AP(X:Cx)(pins:List (Addr×Obj))(σ:St)(Q:List V->Hp->Prop)(us:List Value)(s':Shared):Prop
 |mk (vs:List V) (H':Hp) (a:Inv X pins σ H' s') (b:bZ vs us) (c:Q vs H'):AP X pins σ Q us s'
def SP(X:Cx)(pins:List (Addr×Obj))(D:Ends)(f:Flow)(s':Shared):Prop :=
 match f with
 |.next=>∃σ' H',Inv X pins σ' H' s'/\D.nx σ' H'
 |.brk=>∃σ' H',Inv X pins σ' H' s'/\D.bk σ' H'
 |.cont=>∃σ' H',Inv X pins σ' H' s'/\D.ct σ' H'
 |.ret u=>∃v σ' H',Inv X pins σ' H' s'/\RelV v u/\D.rt v H'
def PE(X:Cx)(e:Expr)(t:TE):Prop :=
 ∀(pins:List (Addr×Obj)) (s:Shared) (σ:St) (H:Hp) (Q:VK),Inv X pins σ H s->t σ H Q->wpAny (model X.prog X.w) X.A (eval e X.env) (EP X pins σ Q) X.xe s
def PT(X:Cx)(e:Expr)(t:TT):Prop :=
 ∀(pins:List (Addr×Obj)) (s:Shared) (σ:St) (H:Hp) (Q:Bool->Hp->Prop),Inv X pins σ H s->t σ H Q->wpAny (model X.prog X.w) X.A (isTrue e X.env (eval e X.env)) (TP X pins σ Q) X.xe s
def PW(X:Cx)(e:Expr)(t:TT):Prop :=
 ∀(whole:Sem Value) (pins:List (Addr×Obj)) (s:Shared) (σ:St) (H:Hp) (Q:Bool->Hp->Prop),Inv X pins σ H s->t σ H Q->wpAny (model X.prog X.w) X.A (isTrue e X.env whole) (TP X pins σ Q) X.xe s
theorem PW.pt{X:Cx}{e:Expr}{t:TT}(h:PW X e t):PT X e t:=h _
def PA(X:Cx)(es:List Expr)(t:TA):Prop :=
 ∀(pos:Pos) (pins:List (Addr×Obj)) (s:Shared) (σ:St) (H:Hp) (Q:List V->Hp->Prop),Inv X pins σ H s->t σ H Q->wpAny (model X.prog X.w) X.A (spliced (backTo pos (starEach es X.env))) (AP X pins σ Q) X.xe s
def PS(X:Cx)(st:Stmt)(t:TS):Prop :=
 ∀(pins:List (Addr×Obj)) (s:Shared) (σ:St) (H:Hp) (D:Ends),Inv X pins σ H s->t D σ H->wpAny (model X.prog X.w) X.A (exec st X.env) (SP X pins D) X.xe s
def iC(X:Cx)(st:List Stmt)(t:TS):Prop :=
 ∀(pins:List (Addr×Obj)) (s:Shared) (σ:St) (H:Hp) (D:Ends),Inv X pins σ H s->t D σ H->wpAny (model X.prog X.w) X.A (execs st X.env) (SP X pins D) X.xe s
theorem gz{α:Type}{t:Sem α}{Q b:α->Shared->Prop}{M:Model}{A:Around}{E:Value->Shared->Prop}{s:Shared}(h:wpAny M A t Q E s)(c:∀a s,Q a s->b a s):wpAny M A t b E s:=wpAny_mono h c λ_ _ x=>x
section
variable{X:Cx}
inductive Kg(i:Nat)(σ:St)(H:Hp)(Q:VK):Prop
 |mk (v:V) (a:σ[i]?=some (some v)) (b:Q v H):Kg i σ H Q
def tC(v:V):TE:=λ_ H Q=>Q v H
theorem ZG{i:Nat}{x:Str}{g:Pos}(q:X.N[i]?=some x)(n:S3 X.env.scope x)(f:(x==("__debug__" : Str))=false:=by decide)(j:(x==("__classdict__" : Str))=false:=by decide):PE X (.Name x g) (Kg i):=by
 intro d s w H Q I h;obtain⟨v,e,h⟩:=h;obtain⟨m,t,p⟩:=I.loc;obtain⟨u,r,l⟩:=p i x v q e n;have b:EP X d w Q u s:=⟨v,H,I,r,h⟩;rcases l with ⟨hk,o⟩|⟨hk,c,k,a⟩
 ·exact wpAny_Name (wpAny_loadName_local I.ok.kind hk t o b) f
 ·rcases hk with hk|hk
  ·exact wpAny_Name (wpAny_loadName_cell I.ok.kind hk k a b) f
  ·exact wpAny_Name (wpAny_loadName_free I.ok.kind hk k a b j) f
theorem aB{i j pos}:PE X (.Constant (.int i) j pos) (tC (.int i)):=λ_ _ _ H _ I h=>wpAny_Constant_int ⟨.int i,H,I.tok _,⟨_,rfl⟩,h⟩
theorem PN{b j pos}:PE X (.Constant (.bool b) j pos) (tC (.bl b)):=λ_ _ _ H _ I h=>Constant_bool ⟨.bl b,H,I,rfl,h⟩
theorem iO{j pos}:PE X (.Constant .none j pos) (tC .fH):=λ_ _ _ H _ I h=>Constant_none ⟨.fH,H,I,rfl,h⟩
theorem gF{x j pos}:PE X (.Constant (.str x) j pos) (tC (.str x)):=λ_ _ _ H _ I h=>Calls.Constant_str ⟨.str x,H,I.tok _,⟨_,rfl⟩,h⟩
def Gl(X:Cx)(x:Str):Prop:=X.env.kindOf x=some .globalImplicit
theorem Cs{E:Value->Shared->Prop}{a:List (Addr×Obj)}{s:Shared}{c:St}{H:Hp}{x:Str}{u:Value}{b:Pos}{Q:Value->Shared->Prop}(I:Inv X a c H s)(e:Gl X x)(d:X.mg x=some u)(h:Q u s)
 (f:(x==("__debug__" : Str))=false:=by decide):wpAny (model X.prog X.w) X.A (eval (.Name x b) X.env) Q E s :=
 Calls.Name_function_global I.ok.kind e (Calls.loadGlobal_global (by rw[I.ok.glob];exact I.mod.glob.keeps I.bk) d h) f
theorem Gw{E:Value->Shared->Prop}{a:List (Addr×Obj)}{s:Shared}{j:St}{H:Hp}{x:Str}{u:Value}{b:Pos}{Q:Value->Shared->Prop}(I:Inv X a j H s)(k:Gl X x)(d:X.mg x=none)(c:bootBuiltins x=some u)(h:Q u s)
 (i:x≠"__name__" := by decide) (e:(x==("__debug__" : Str))=false:=by decide):wpAny (model X.prog X.w) X.A (eval (.Name x b) X.env) Q E s:=by
 obtain⟨l,g,f⟩:=I.mod.blt;exact Calls.Name_function_global I.ok.kind k (Calls.loadGlobal_builtin (by rw[I.ok.glob];exact I.mod.glob.keeps I.bk) d (by rw[I.ok.blt];exact g.keeps I.bk) ((f x i).trans c) h) e
theorem mJ{x:Str}{v:V}{u:Value}{a:Pos}(c:Gl X x)(b:X.mg x=some u)(r:RelV v u)(d:(x==("__debug__" : Str))=false:=by decide):PE X (.Name x a) (tC v) :=
 λ_ _ _ H _ I h=>Cs I c b ⟨v,H,I,r,h⟩ d
theorem Ct{x:Str}{v:V}{u:Value}{a:Pos}(e:Gl X x)(c:X.mg x=none)(b:bootBuiltins x=some u)(r:RelV v u)(d:x≠"__name__" := by decide)(f:(x==("__debug__" : Str))=false:=by decide):PE X (.Name x a) (tC v) :=
 λ_ _ _ H _ I h=>Gw I e c b ⟨v,H,I,r,h⟩ d f
variable{a b:Expr}{ta tb:TE}{pos:Pos}
def PC(X:Cx)(op:CmpOp)(a b:Expr)(t:TE):Prop :=
 ∀(pins:List (Addr×Obj)) (s:Shared) (σ:St) (H:Hp) (Q:VK),Inv X pins σ H s->t σ H Q ->
  wpAny (model X.prog X.w) X.A (eval a X.env) (λv s₁=>wpAny (model X.prog X.w) X.A (eval b X.env) (λu s₂=>wpAny (model X.prog X.w) X.A (compareOp op v u) (EP X pins σ Q) X.xe s₂) X.xe s₁) X.xe s
inductive BlR(Q:Bool->Hp->Prop)(x:V)(H1:Hp):Prop
 |mk (c:Bool) (a:x=.bl c) (b:Q c H1):BlR Q x H1
def tB(t:TE):TT:=λσ H Q=>t σ H (BlR Q)
theorem S8{op:CmpOp}{t:TE}(h:PC X op a b t)(f:behindInMarks op b=false:=by first|exact acn _ (!_) (!_)|rfl):PT X (.Compare a [op] [b] pos) (tB t):=by
 intro e s m H Q I i;refine wpAny_isTrue_Compare1 (gz (h e s m H _ I i) λv o f=>gz f λu p k=>gz k λc r ⟨x,l,j,n,g⟩=>?_) f;obtain⟨d,rfl,q⟩:=g;cases n;exact wpAny_truthy_bool ⟨l,j,q⟩
theorem wM{e:Expr}{t:TE}(h:PE X e t)(g:∀a,isTrue e X.env a=(do let v <- a;standAt e.pos;holding [v] (truthy v)):=by intro _;rfl):PT X e (tB t):=by
 intro b s k H Q I f;refine isTrue_plain (gz (h b s k H _ I f) λv m ⟨x,j,i,l,c⟩=>?_) (g _);obtain⟨d,rfl,q⟩:=c;cases l;exact wpAny_truthy_bool ⟨j,i,q⟩
variable{tA Hx:TT}{rest:List Expr}
def af9(t u:TT):TT:=λσ H Q=>t σ H λc H1=>if c=true then u σ H1 Q else Q false H1
def tOr(t u:TT):TT:=λσ H Q=>t σ H λc H1=>if c=true then Q true H1 else u σ H1 Q
def aga(t:TT):TT:=λσ H Q=>t σ H λc H1=>Q (!c) H1
theorem wN(f:PT X a tA):PW X (.BoolOp .And [a] pos) tA:=by
 intro i b s d H Q I h;refine isTrue_and (gz (f b s d H Q I h) λc g e=>?_);cases c with
 |true=>exact isTrue_and_nil e
 |false=>exact e
theorem Kh(f:PT X a tA):PW X (.BoolOp .Or [a] pos) tA:=by
 intro i b s d H Q I h;refine isTrue_or (gz (f b s d H Q I h) λc g e=>?_);cases c with
 |false=>exact isTrue_or_nil e
 |true=>exact e
theorem Bs(k:PT X a tA)(l:PW X (.BoolOp .And (b::rest) pos) Hx):PW X (.BoolOp .And (a::b::rest) pos) (af9 tA Hx):=by
 intro m d s i H Q I h;refine isTrue_and (gz (k d s i H _ I h) λc j ⟨g,f,e⟩=>?_);cases c with
 |true=>exact l m d j i g Q f e
 |false=>exact⟨g,f,e⟩
theorem Jp(k:PT X a tA)(l:PW X (.BoolOp .Or (b::rest) pos) Hx):PW X (.BoolOp .Or (a::b::rest) pos) (tOr tA Hx):=by
 intro m d s i H Q I h;refine isTrue_or (gz (k d s i H _ I h) λc j ⟨g,f,e⟩=>?_);cases c with
 |true=>exact⟨g,f,e⟩
 |false=>exact l m d j i g Q f e
theorem jo(i:PT X a tA):PT X (.UnaryOp .Not a pos) (aga tA):=by
 intro b s e H Q I h;exact isTrue_not (gz (i b s e H (λc d=>Q (!c) d) I h) λ_ _ ⟨d,f,g⟩=>⟨d,f,g⟩)
def acp(ta tb:TE):TE:=λσ H Q=>ta σ H λx H1=>∃c,x=.bl c/\if c=true then tb σ H1 Q else Q (.bl false) H1
def acq(ta:TE):TE:=λσ H Q=>ta σ H λx H1=>∃c,x=.bl c/\Q (.bl (!c)) H1
theorem Tc{op}{t:TE}(h:PE X a t):PE X (.BoolOp op [a] pos) t:=λb s c H Q I d=>BoolOp_one (h b s c H Q I d)
theorem NV(k:PE X a ta)(l:PE X (.BoolOp .And (b::rest) pos) tb):PE X (.BoolOp .And (a::b::rest) pos) (acp ta tb):=by
 intro d s i H Q I h;refine BoolOp_and (gz (k d s i H _ I h) λv j ⟨x,g,f,m,e⟩=>?_);obtain⟨c,rfl,e⟩:=e;cases m;refine wpAny_truthy_bool ?_;cases c with
 |true=>exact l d j i g Q f e
 |false=>exact⟨.bl false,g,f,rfl,e⟩
theorem ZH(g:PE X a ta):PE X (.UnaryOp .Not a pos) (acq ta):=by
 intro b s e H Q I h;refine UnaryOp_ (gz (g b s e H _ I h) λv k ⟨x,j,f,i,d⟩=>?_);obtain⟨c,rfl,d⟩:=d;cases i;exact not_of (wpAny_truthy_bool ⟨.bl (!c),j,f,rfl,d⟩)
def tIf(t:TT)(ta tb:TE):TE:=λσ H Q=>t σ H λc H1=>if c=true then ta σ H1 Q else tb σ H1 Q
theorem yO{c:Expr}(n:PT X c tA)(l:PE X a ta)(m:PE X b tb):PE X (.IfExp c a b pos) (tIf tA ta tb):=by
 intro e s f H Q I h;refine wpAny_IfExp (gz (n e s f H _ I h) λd j ⟨k,g,i⟩=>?_);cases d with
 |true=>exact l e j f k Q g i
 |false=>exact m e j f k Q g i
end
def bP(K:af)(H:Hp)(a:Addr)(xs:List V):Prop :=
 Rd H a (.lst xs) ∨
  ∃(o:Obj) (its:Array Value) (n:Nat),K.lookup a=some o/\o.cls=.type "list" /\ o.dict=none/\o.data=.seq its n/\its.size<=sizeLine/\bZ xs its.toList
def cQ(K:af)(H:Hp)(a:Addr)(xs:List V):Prop :=
 Rd H a (.tup xs) ∨
  ∃(o:Obj) (its:Array Value) (n:Nat),K.lookup a=some o/\o.cls=.type "tuple" /\ o.data=.seq its n/\its.size<=sizeLine/\bZ xs its.toList
noncomputable def agb:Value->Option V
 |.none=>some .fH
 |.bool b=>some (.bl b)
 |.int i _=>some (.int i)
 |.str x _=>some (.str x)
 |.bytes b _=>some (.PL b)
 |.float b _=>some (.ZC b)
 |.ref a=>some (.ref a)
 |.type n=>some (.ty n)
 |_=>none
theorem RelV.abs{x:V}{u:Value}(r:RelV x u):agb u=some x:=by
 cases x with
 |fH=>cases r;rfl
 |bl _=>cases r;rfl
 |int _=>obtain⟨t,rfl⟩:=r;rfl
 |str _=>obtain⟨t,rfl⟩:=r;rfl
 |PL _=>obtain⟨t,rfl⟩:=r;rfl
 |ZC _=>obtain⟨t,rfl⟩:=r;rfl
 |ref _=>cases r;rfl
 |ty _=>cases r;rfl
theorem RelV.inj{x y:V}{u:Value}(r:RelV x u)(q:RelV y u):x=y:=aK (r.abs.symm.trans q.abs)
theorem bZ.inj:∀{xs a:List V} {us:List Value},bZ xs us->bZ a us->xs=a
 |_,_,_,.nil,.nil=>rfl
 |_,_,_,.cons r t,.cons b t'=>by rw[r.inj b,bZ.inj t t']
section
variable{X:Cx}{pins:List (Addr×Obj)}{σ:St}{H:Hp}{s:Shared}{a:Addr}{xs ys:List V}
theorem bP.of{K:af}(h:H a=some (.lst xs)):bP K H a xs:=.inl (.inl h)
theorem cQ.of{K:af}(h:H a=some (.tup xs)):cQ K H a xs:=.inl (.inl h)
theorem Inv.list(I:Inv X pins σ H s)(h:bP X.K H a xs):∃b:List Value,bZ xs b/\PlainL s.heap a b.toArray/\xs.length<=sizeLine:=by
 rcases h with h|⟨o,b,n,c,g,f,d,i,r⟩
 ·obtain⟨z,b,n,r,e⟩:=h.ok I.hok
  exact⟨b,r,⟨_,n,e,rfl,rfl,rfl⟩,z⟩
 ·refine⟨b.toList,r,⟨o,n,I.Br a o c,g,f,by simpa using d⟩,?_⟩
  have e:=r.length;simp only[aR] at e;lia
theorem Inv.tuple(I:Inv X pins σ H s)(h:cQ X.K H a xs):∃b:List Value,bZ xs b/\IsTup s.heap a b.toArray/\xs.length<=sizeLine:=by
 rcases h with h|⟨o,b,n,c,f,d,g,r⟩
 ·obtain⟨z,b,r,p⟩:=h.ok I.hok
  exact⟨b,r,p,z⟩
 ·refine⟨b.toList,r,⟨o,I.Br a o c,f,n,by simpa using d⟩,?_⟩
  have e:=r.length;simp only[aR] at e;lia
theorem Inv.LX(I:Inv X pins σ H s)(h:bP X.K H a xs)(h':bP X.K H a ys):xs=ys:=by
 obtain⟨c,r,⟨o,n,e,_,_,d⟩,_⟩:=I.list h;obtain⟨b,i,⟨j,k,f,_,_,g⟩,_⟩:=I.list h';rw[e] at f;cases f;rw[d] at g;injection g with d1 _
 have:c=b:=by simpa using g7 Array.toList d1
 subst this;exact r.inj i
theorem Inv.Rn(I:Inv X pins σ H s)(h:cQ X.K H a xs)(h':cQ X.K H a ys):xs=ys:=by
 obtain⟨c,r,⟨o,e,_,n,d⟩,_⟩:=I.tuple h;obtain⟨b,i,⟨j,f,_,k,g⟩,_⟩:=I.tuple h';rw[e] at f;cases f;rw[d] at g;injection g with d1 _
 have:c=b:=by simpa using g7 Array.toList d1
 subst this;exact r.inj i
end
noncomputable abbrev Cx.Iv(X:Cx)(E:Value->Shared->Prop):Cx:={X with xe:=E}
noncomputable abbrev Cx.Yr(X:Cx):Cx:=X.Iv λ_ _=>False
theorem Cx.Ok.Iv{X:Cx}(ok:X.Ok)(E:Value->Shared->Prop):(X.Iv E).Ok :=
 ⟨ok.mod,ok.kind,ok.glob,ok.blt,ok.above,ok.inj,ok.has,ok.n7,ok.hd,ok.frames,ok.stk,ok.exf,ok.bs,ok.VW,ok.Rm,ok.S6,ok.Cr,ok.Yp⟩
theorem Cx.Ok.yP{X:Cx}{E:Value->Shared->Prop}(ok:(X.Iv E).Ok):X.Ok :=
 ⟨ok.mod,ok.kind,ok.glob,ok.blt,ok.above,ok.inj,ok.has,ok.n7,ok.hd,ok.frames,ok.stk,ok.exf,ok.bs,ok.VW,ok.Rm,ok.S6,ok.Cr,ok.Yp⟩
section
variable{X:Cx}{pins:List (Addr×Obj)}{σ:St}{H:Hp}{s:Shared}{E:Value->Shared->Prop}
theorem Inv.Iv(I:Inv X pins σ H s)(E:Value->Shared->Prop):Inv (X.Iv E) pins σ H s:=⟨I.ok.Iv E,I.os,I.bare,I.base,I.loc,I.cell,I.free,I.ua,I.pin,I.hok,I.len⟩
theorem Inv.yP(I:Inv (X.Iv E) pins σ H s):Inv X pins σ H s:=⟨I.ok.yP,I.os,I.bare,I.base,I.loc,I.cell,I.free,I.ua,I.pin,I.hok,I.len⟩
theorem SP.yP{D:Ends}{f:Flow}{s':Shared}(h:SP (X.Iv E) pins D f s'):SP X pins D f s':=by
 cases f with
 |next=>obtain⟨a,b,I,q⟩:=h;exact⟨a,b,I.yP,q⟩
 |brk=>obtain⟨a,b,I,q⟩:=h;exact⟨a,b,I.yP,q⟩
 |cont=>obtain⟨a,b,I,q⟩:=h;exact⟨a,b,I.yP,q⟩
 |ret u=>obtain⟨v,a,b,I,r,q⟩:=h;exact⟨v,a,b,I.yP,r,q⟩
theorem iC.Yr{st:List Stmt}{t:TS}(h:iC X.Yr st t):iC X st t:=λpins s σ H D I a =>
 wpAny_mono (h pins s σ H D (I.Iv _) a) (λ_ _ q=>q.yP) λ_ _ z=>jC z
end
section
variable{X:Cx}{st:Stmt}{rest:List Stmt}{t u:TS}{e:Expr}{te:TE}{pos:Pos}
def acr:TS:=λD σ H=>D.nx σ H
def Td(t u:TS):TS:=λD σ H=>t {D with nx:=u D} σ H
theorem bz:iC X [] acr:=λ_ _ a H _ I h=>wpAny_execs_nil ⟨a,H,I,h⟩
theorem aq(i:PS X st t)(e:iC X rest u):iC X (st::rest) (Td t u):=by
 intro a s j H D I h;refine wpAny_execs_cons (gz (i a s j H {D with nx:=u D} I h) λf d q=>?_);cases f with
 |next =>
  obtain⟨b,c,g,q⟩:=q;exact e a d b c D g q
 |ret v=>exact q
 |brk=>exact q
 |cont=>exact q
theorem bJ(c:PS X st t):iC X [st] t:=by
 intro a s b H D I h;refine wpAny_execs_cons (gz (c a s b H D I h) λf d q=>?_);cases f with
 |next=>exact wpAny_execs_nil q
 |ret v=>exact q
 |brk=>exact q
 |cont=>exact q
theorem Inv.quiet{a:List (Addr×Obj)}{b:St}{H:Hp}{s:Shared}(I:Inv X a b H s):interactive X.env=false:=by simp[interactive,I.ok.kind]
def Ys(te:TE):TS:=λD σ H=>te σ H λ_ H1=>D.nx σ H1
theorem fE(i:PE X e te)(g:swapsWith e none pos.line X.env=pure false:=by rfl):PS X (.Expr e pos) (Ys te):=by
 intro a s b H D I h;exact wpAny_Expr_any (gz (i a s b H _ I h) λv j ⟨x,f,c,k,d⟩=>⟨b,f,c,d⟩) I.quiet g
def ZI(te:TE):TS:=λD σ H=>te σ H D.rt
theorem Te(i:PE X e te):PS X (.Return (some e) pos) (ZI te):=by
 intro a s b H D I h;exact wpAny_Return_some (gz (i a s b H _ I h) λv j ⟨x,g,c,f,d⟩=>⟨x,b,g,c,f,d⟩)
def Tf(c:TT)(t u:TS):TS:=λD σ H=>c σ H λb H1=>if b=true then t D σ H1 else u D σ H1
theorem cE{c:Expr}{a b:List Stmt}{l:TT}(o:PT X c l)(m:iC X a t)(n:iC X b u):PS X (.If c a b pos) (Tf l t u):=by
 intro e s f H D I h;refine wpAny_If (gz (o e s f H _ I h) λd i ⟨k,j,g⟩=>?_);cases d with
 |true=>exact m e i f k D j g
 |false=>exact n e i f k D j g
def ZJ:TS:=λ_ _ _=>False
theorem dO{a:List Stmt}:iC X a ZJ:=λ_ _ _ _ _ _ h=>h.elim
end
abbrev TG:=V->St->Hp->(St->Hp->Prop)->Prop
abbrev ZK:=List V->St->Hp->(St->Hp->Prop)->Prop
def PG(X:Cx)(target:Expr)(t:TG):Prop :=
 ∀(pins:List (Addr×Obj)) (s:Shared) (σ:St) (H:Hp) (v:V) (u:Value) (Q:St->Hp->Prop),Inv X pins σ H s->RelV v u->t v σ H Q ->
  wpAny (model X.prog X.w) X.A (assign target X.env u) (λ_ s'=>∃σ' H',Inv X pins σ' H' s'/\Q σ' H') X.xe s
def kC(X:Cx)(ts:List Expr)(t:ZK):Prop :=
 ∀(pins:List (Addr×Obj)) (s:Shared) (σ:St) (H:Hp) (vs:List V) (us:List Value) (Q:St->Hp->Prop),Inv X pins σ H s->bZ vs us->t vs σ H Q ->
  wpAny (model X.prog X.w) X.A (assignInOrder ((assignEach ts X.env).map (·.2)) us) (λ_ s'=>∃σ' H',Inv X pins σ' H' s'/\Q σ' H') X.xe s
abbrev ZL:=V->V->V->Hp->(Hp->Prop)->Prop
def acs(X:Cx)(t:ZL):Prop :=
 ∀(pins:List (Addr×Obj)) (s:Shared) (σ:St) (H:Hp) (o i v:V) (ov iv u:Value) (Q:Hp->Prop),Inv X pins σ H s->RelV o ov->RelV i iv->RelV v u->t o i v H Q ->
  wpAny (model X.prog X.w) X.A (setItem ov iv u) (λ_ s'=>∃H',Inv X pins σ H' s'/\Q H') X.xe s
abbrev Tn:=V->V->Hp->VK->Prop
def PIp(X:Cx)(op:Operator)(t:Tn):Prop :=
 ∀(pins:List (Addr×Obj)) (s:Shared) (σ:St) (H:Hp) (x y:V) (v u:Value) (Q:VK),Inv X pins σ H s->RelV x v->RelV y u->t x y H Q ->
  wpAny (model X.prog X.w) X.A (inplaceOp op v u) (EP X pins σ Q) X.xe s
section
variable{X:Cx}{pos:Pos}
def iD(i:Nat):TG:=λv σ H Q=>Q (σ.set i (some v)) H
theorem PR{i:Nat}{x:Str}(f:X.N.Nodup)(b:X.N[i]?=some x)(d:Loc X.env.scope x)(e:X.fn x=true∨X.env.scope.names.lookup x=some .local:=by first|exact .inl rfl|exact .inr rfl|assumption):PG X (.Name x pos) (iD i):=by
 intro a s g H v u Q I r h;exact wpAny_assign_Name (yN I f b d r (λj c=>⟨_,H,c,h⟩) e)
def agc:ZK:=λvs σ H Q=>vs=[]/\Q σ H
inductive Yt(t:TG)(u:ZK)(vs:List V)(σ:St)(H:Hp)(Q:St->Hp->Prop):Prop
 |mk (v:V) (r:List V) (a:vs=v::r) (b:t v σ H λσ' H'=>u r σ' H' Q):Yt t u vs σ H Q
theorem Ay:kC X [] agc:=by
 intro a s b H c d Q I r h;obtain⟨e,h⟩:=h;subst e;cases r;exact assignInOrder_nil ⟨b,H,I,h⟩
theorem i0{e:Expr}{b:List Expr}{t:TG}{u:ZK}(l:PG X e t)(k:kC X b u)
 (n:(assignEach (e::b) X.env).map (·.2)=assign e X.env::(assignEach b X.env).map (·.2):=by rfl):kC X (e::b) (Yt t u):=by
 intro a s o H q w Q I r h;obtain⟨v,p,g,h⟩:=h;subst g;cases r with
 |cons r f =>
  rw[n];refine assignInOrder_cons (gz (l a s o H _ _ _ I r h) λ_ i ⟨c,m,j,d⟩=>?_);exact k a i c m _ _ Q j f d
inductive ZM(K:af)(n:Nat)(t:ZK)(v:V)(σ:St)(H:Hp)(Q:St->Hp->Prop):Prop
 |mk (a:Addr) (xs:List V) (h1:v=.ref a) (h2:cQ K H a xs) (h3:xs.length=n) (h4:t xs σ H Q):ZM K n t v σ H Q
theorem Kl{d:List Expr}{k:Nat}{t:ZK}{n:Nat}(x:X.calm=true)(h:kC X d t)
 (B:(assignEach d X.env).length=n:=by rfl) (g:(assignEach d X.env).findIdx? (·.1)=none:=by rfl):PG X (.Tuple d k pos) (ZM X.K n t):=by
 intro c s j H v u Q I r f;obtain⟨a,m,q,z,w,f⟩:=f;subst q;cases r;obtain⟨p,i,l,D⟩:=I.tuple z;refine assign_Tuple_tuple (I.ok.hd x) l (by simp[B,<- w,i.length]) g λA C=>?_;have y:Inv X c j H {s with heap:=A}:=I.kept (t':=s.toks) λb o e=>C b o (bE (Heap.lt_size e)) e;exact h c _ j H m _ Q y (by simpa using i) f
def agd(to ti:TE)(t:ZL):TG:=λv σ H Q=>to σ H λo H1=>ti σ H1 λi H2=>t o i v H2 λH3=>Q σ H3
theorem ZN{o i:Expr}{to e:TE}{t:ZL}(C:PE X o to)(q:PE X i e)(F:acs X t)
 (l:∀v,assign (.Subscript o i pos) X.env v=(do
  let b <- holding [v] (eval o X.env);let c <- holding [v,b] (eval i X.env)
  standAt pos
  holding [v,b,c] (setItem b c v)
  release [v,b,c] []):=by intro _;rfl):PG X (.Subscript o i pos) (agd to e t):=by
 intro a s d H v u Q I r h;rw[l];refine wpAny_bind (wpAny_holding (gz (C a s d H _ I h) λb k ⟨x,A,n,E,f⟩=>?_));refine wpAny_bind (wpAny_holding (gz (q a k d A _ n f) λc m ⟨y,j,B,D,g⟩=>?_));refine wpAny_bind (wpAny_standAt (wpAny_bind (wpAny_holding (gz (F a m d j x y v b c u _ B E D r g) λ_ G ⟨p,w,z⟩=>?_))));exact wpAny_release ⟨d,p,w,z⟩
def Wg(te:TE)(g:TG):TS:=λD σ H=>te σ H λx H1=>g x σ H1 D.nx
theorem NY{b e:Expr}{d:TE}{g:TG}(k:PE X e d)(r:PG X b g)(p:swapsWithSole [b] e pos.line X.env=pure false:=by rfl)(i:swappedStores [b] e X.env=pure none:=by rfl)
 (m:(assignEach [b] X.env).map (·.2)=[assign b X.env]:=by rfl):PS X (.Assign [b] e pos) (Wg d g):=by
 intro a s c H D I h;refine wpAny_Assign_stores (gz (k a s c H _ I h) λv j ⟨x,n,l,o,f⟩=>?_) p i;rw[m];exact gz (r a j c n x v _ l o f) λ_ t q=>q
theorem ZO{i:Nat}{x:Str}{e:Expr}{c:TE}{a:Pos}(j:X.N.Nodup)(l:X.N[i]?=some x)(r:Loc X.env.scope x)(g:PE X e c)(q:swapsWith e (some (.Name x a)) pos.line X.env=pure false:=by rfl)(f:X.fn x=true∨X.env.scope.names.lookup x=some .local:=by first|exact .inl rfl|exact .inr rfl|assumption) :
 PS X (.Assign [.Name x a] e pos) (Wg c (iD i)):=by
 intro b s o H D I h;refine wpAny_Assign_Name (gz (g b s o H _ I h) λv t ⟨y,m,k,p,d⟩=>?_) q;exact yN k j l r p (λu n=>⟨_,m,n,d⟩) f
def age(i j:Nat)(ta:TA):TS:=λD σ H=>ta σ H λvs H1=>∃v w,vs=[v,w]/\D.nx ((σ.set i (some v)).set j (some w)) H1
theorem ZP{i j:Nat}{x y:Str}{a b:Expr}{B:TA}{m n t:Pos}{kt k2 pt2}(R:X.calm=true)(C:X.N.Nodup)(U:X.N[i]?=some x)(Z:X.N[j]?=some y)(l:i≠j)
 (J:X.env.scope.names.lookup x=some .local) (z:X.env.scope.names.lookup y=some .local) (Q:PA X [a,b] B)
 (L:swappedStores [.Tuple [.Name x m,.Name y n] kt t] (.Tuple [a,b] k2 pt2) X.env=pure (some [x,y]))
 (hs:swapsWithSole [.Tuple [.Name x m,.Name y n] kt t] (.Tuple [a,b] k2 pt2) pos.line X.env=pure false:=by rfl) :
 PS X (.Assign [.Tuple [.Name x m,.Name y n] kt t] (.Tuple [a,b] k2 pt2) pos) (age i j B):=by
 intro c s G H D I h;rw[exec_Assign_arm];refine wpAny_bind (wpAny_standAt ?_);rw[hs];refine wpAny_bind (wpAny_pure ?_);rw[er (!_)];refine wpAny_bind (Tuple_ (gz (Q _ c s G H _ I h) λO f ⟨vs,E,S,r1,k⟩=>?_));obtain⟨v,w,P,k⟩:=k;subst P;obtain⟨d,g,rfl,W,u⟩:∃d g,O=[d,g]/\RelV v d/\RelV w g:=by
  cases r1 with
  |cons p q =>
   cases q with
   |cons M T =>
    cases T;exact⟨_,_,rfl,p,M⟩
 refine wpAny_newObj_type ?_ g8;have Y:Inv X c G E {f with heap:=f.heap.push {cls:=.type "tuple",data:=.seq [d,g].toArray}}:=S.kept (t':=f.toks) λb o e=>Heap.get?_push_of_some _ e;rw[L];refine wpAny_bind (wpAny_pure ?_);show wpAny (model X.prog X.w) X.A (do rule "assign.swapped-stores";let items <- unpackItems (.ref f.heap.objs.size) 2 none;assignInOrder [λv=>bindName X.env y v,λv=>bindName X.env x v] items.reverse;pure Flow.next) _ _ _;refine wpAny_bind (wpAny_rule (wpAny_bind (unpackItems_tuple (items:=#[d,g]) (I.ok.hd R) (IsTup.new f.heap _) λh' r=>?_)));have V:=Y.kept (h':=h') (t':=f.toks) λb o e=>r b o (bE (Heap.lt_size e)) e;show wpAny _ _ (assignInOrder [λv=>bindName X.env y v,λv=>bindName X.env x v] [g,d] >>= λ_=>pure Flow.next) _ _ _;refine wpAny_bind (assignInOrder_cons (wpAny_bindName (yN V C Z (.inl z) u (λs2 K=>?_) (.inr z))));refine assignInOrder_cons (wpAny_bindName (yN K C U (.inl J) W (λs3 F=>assignInOrder_nil (wpAny_pure ?_)) (.inr J)));rw[List.set_comm _ _ (bL l)] at F;exact⟨_,E,F,k⟩
def agg(i:Nat)(te:TE)(ti:Tn):TS:=λD σ H=>∃x,σ[i]?=some (some x)/\te σ H λy H1=>ti x y H1 λz H2=>D.nx (σ.set i (some z)) H2
theorem ZQ{i:Nat}{x:Str}{e:Expr}{B:TE}{op:Operator}{p:Tn}{d:Pos}(P:X.N.Nodup)(q:X.N[i]?=some x)(n:Loc X.env.scope x)(O:PE X e B)(V:PIp X op p)(G:X.fn x=true∨X.env.scope.names.lookup x=some .local:=by first|exact .inl rfl|exact .inr rfl|assumption) :
 PS X (.AugAssign (.Name x d) op e pos) (agg i B p):=by
 intro a s t H D I h;obtain⟨v,J,h⟩:=h;obtain⟨m,Y,M⟩:=I.loc;have j:S3 X.env.scope x:=by rcases n with k|k;exact .inl k;exact .inr (.inl k)
 obtain⟨u,r,l⟩:=M i x v q J j;refine wpAny_AugAssign_Name ?_;have o:wpAny (model X.prog X.w) X.A (eval e X.env) (λw f=>wpAny (model X.prog X.w) X.A (inplaceOp op u w) (λr g=>wpAny (model X.prog X.w) X.A (storeName X.env x r) (λ_=>SP X a D .next) X.xe g) X.xe f) X.xe s:=by
  refine gz (O a s t H _ I h) λw K ⟨y,T,R,Z,C⟩=>?_;refine gz (V a K t T v y u w _ R r Z C) λz s2 ⟨zv,L,U,W,E⟩=>?_;exact yN U P q n W (λs3 S=>⟨_,L,S,E⟩) G
 rcases l with ⟨hk,F⟩|⟨hk,c,Q,b⟩
 ·exact wpAny_loadName_local I.ok.kind hk Y F o
 ·rcases hk with hk|hk
  ·exact wpAny_loadName_cell I.ok.kind hk Q b o
  ·rcases n with k|k
   ·have:X.env.scope.names.lookup x=some .free:=hk
    rw[k] at this;cases this
   ·have:X.env.scope.names.lookup x=some .free:=hk
    rw[k] at this;cases this
def ipI(f:Int->Int->Int):Tn:=λx y H Q=>∃i j,x=.int i/\y=.int j/\Q (.int (f i j)) H
theorem ZR:PIp X .Add (ipI λi j=>i+j):=by
 intro a s g H x y v u Q I e d h;obtain⟨i,j,c,b,q⟩:=h;subst c;subst b;obtain⟨t,rfl⟩:=e;obtain⟨f,rfl⟩:=d;exact iadd_int ⟨.int _,H,I.tok _,⟨_,rfl⟩,q⟩
def Km(c:TT)(tb:TS):TS:=λD σ H=>∃W:Nat->St->Hp->Prop,(∃m,W m σ H)/\∀m σ H,W m σ H ->
 c σ H λb H1=>if b=true then ∃N:St->Hp->Prop,(∀σ' H',N σ' H'->∃m',m'<m/\W m' σ' H')/\tb {D with nx:=N,ct:=N,bk:=D.nx} σ H1 else D.nx σ H1
theorem LY{c:Expr}{g:List Stmt}{F:TT}{C:TS}(u:PassesOwn (model X.prog X.w) X.A X.env X.xe)(O:PT X c F)(M:iC X g C):PS X (.While c g [] pos) (Km F C):=by
 intro a s R H D I h;obtain⟨W,⟨G,Q⟩,j⟩:=h;refine wpAny_While (codeAny_whileLoop (λn S=>∃i x,Inv X a i x S/\W n i x) ?_ G ⟨R,H,I,Q⟩);rintro n J ⟨e,B,P,K⟩;refine wpAny_passesOwn u (gz (O a J e B _ P (j n e B K)) λb L ⟨y,E,l⟩=>?_);cases b with
 |true =>
  obtain⟨N,z,l⟩:=l;rw[ee rfl];refine wpAny_passesOwn u (gz (M a L e y _ E l) λf T m=>?_);cases f with
  |next =>
   obtain⟨d,k,r,q⟩:=m;obtain⟨p,o,t⟩:=z d k q;exact⟨p,o,d,k,r,t⟩
  |cont =>
   obtain⟨d,k,r,q⟩:=m;obtain⟨p,o,t⟩:=z d k q;exact⟨p,o,d,k,r,t⟩
  |brk=>exact m
  |ret v=>exact m
 |false =>
  rw[er aF];exact wpAny_execs_nil ⟨e,y,E,l⟩
end
structure It where
 go:Nat->Hp->Prop
 Kn:Nat->Hp->V->Hp->Prop
 stop:Nat->Hp->Prop
def Cu(X:Cx)(pins:List (Addr×Obj))(H:Hp)(b:Addr):Prop :=
 H b=none/\b≠X.env.locals/\b∉X.fs/\(b∈X.ex∨X.s₀.heap.objs.size<=b)/\(∀x c,X.env.cells.lookup x=some c->c≠b)/\∀p∈X.pn++pins,p.1≠b
theorem Inv.Tg{X:Cx}{a:List (Addr×Obj)}{g:St}{H f:Hp}{s:Shared}{b:Addr}(I:Inv X a g H s)(d:s.heap.objs.size<=b)(i:f b=none):Cu X a f b:=by
 refine⟨i,Nat.ne_of_gt (bH I.lt d),I.af6 d,.inr (aN I.sz d),λx c e z=>?_,λp h z=>?_⟩
 ·obtain⟨v,q⟩:=I.cell x c e
  exact eL (bH q.lt (by rw[z];exact d)) (iZ _)
 ·exact eL (bH (Heap.lt_size (I.pin p h).1) (by rw[z];exact d)) (iZ _)
structure Turn(P:Program)(w:World)(K:af)(tg:Expr)(J:It)(fp:List Addr)(it:Addr)(tn:Nat->Heap->Prop):Prop where
 mem:it∈fp
 obj:∀i h,tn i h->∀b∈fp,∃o,h.get? b=some o/\∀v,o.data≠.cell v
 keep:∀i h h',tn i h->(∀b∈fp,∀o,h.get? b=some o->h'.get? b=some o)->tn i h'
 item:∀(X:Cx),X.prog=P->X.w=w->X.K=K->X.calm=true->∀(i:Nat) (pins:List (Addr×Obj)) (s:Shared) (σ:St) (H:Hp) (E:Value->Shared->Prop),Inv X pins σ H s->(∀b∈fp,Cu X pins H b)->tn i s.heap->J.go i H ->
  wpAny (model P w) X.A (pyNext (.ref it)) (λr s1=>∃u,r=some u /\
   wpAny (model P w) X.A (letOwnedTupleGo tg (.ref it) u) (λ_ s2=>∃x H',Inv X pins σ H' s2/\RelV x u/\J.Kn i H x H'/\tn (i+1) s2.heap/\∀b∈fp,H' b=none) E s1) E s
 done:∀(X:Cx),X.prog=P->X.w=w->X.K=K->X.calm=true->∀(i:Nat) (pins:List (Addr×Obj)) (s:Shared) (σ:St) (H:Hp) (E:Value->Shared->Prop),Inv X pins σ H s->(∀b∈fp,Cu X pins H b)->tn i s.heap->J.stop i H ->
  wpAny (model P w) X.A (pyNext (.ref it)) (λr s1=>r=none/\Inv X pins σ H s1) E s
 self:∀(A:Around) (i:Nat) (s:Shared) (Q:Value->Shared->Prop) (E:Value->Shared->Prop),tn i s.heap->Q (.ref it) s->wpAny (model P w) A (pyIter (.ref it)) Q E s
abbrev TI:=St->Hp->(It->Hp->Prop)->Prop
def PIE(X:Cx)(pins:List (Addr×Obj))(σ:St)(tg:Expr)(R:It->Hp->Prop)(itv:Value)(s2:Shared):Prop :=
 ∃(it:Addr) (fp:List Addr) (tn:Nat->Heap->Prop) (J:It) (H':Hp),itv=.ref it/\Inv X pins σ H' s2/\Turn X.prog X.w X.K tg J fp it tn/\tn 0 s2.heap/\(∀b∈fp,Cu X pins H' b)/\R J H'
def PI(X:Cx)(tg iter:Expr)(wi:TI):Prop :=
 ∀(pins:List (Addr×Obj)) (s:Shared) (σ:St) (H:Hp) (R:It->Hp->Prop),Inv X pins σ H s->wi σ H R ->
  wpAny (model X.prog X.w) X.A (eval iter X.env) (λv s1=>wpAny (model X.prog X.w) X.A (pyIter v) (PIE X pins σ tg R) X.xe s1) X.xe s
theorem Th{M:Model}{A:Around}{E:Value->Shared->Prop}{s:Shared}{b:Expr}{c:Addr}{u:Value}{o:Obj}{n:String}{vs:Array Value}{Q:Unit->Shared->Prop}(f:s.heap.get? c=some o)(e:o.cls=.type n)(d:o.data=.fields vs)
 (g:["enumerate","zip","dict_itemiterator","dict_reverseitemiterator","odict_iterator","itertools.zip_longest","itertools.pairwise"].contains n=false) (a:Q () s):wpAny M A (letOwnedTupleGo b (.ref c) u) Q E s:=by
 unfold letOwnedTupleGo;cases b <;> first
  |exact wpAny_pure a
  | (cases u <;> first
   |exact wpAny_pure a
   | (refine wpAny_bind (wpAny_load f ?_)
      rw[e,d];show wpAny M A (if (["enumerate","zip","dict_itemiterator","dict_reverseitemiterator","odict_iterator","itertools.zip_longest","itertools.pairwise"].contains n&&vs[0]?==some (rawInt _))=true then _ else _) Q E s;rw[er (by intro h;rw[g,Bool.false_and] at h;cases h)];exact wpAny_pure a))
noncomputable def Ko(K:af)(a:Addr):It :=
 ⟨λi H=>∃xs x,bP K H a xs/\xs[i]?=some x,λi H x H'=>H'=H/\∀xs,bP K H a xs->xs[i]?=some x,λi H=>∃xs,bP K H a xs/\xs.length<=i⟩
noncomputable def X0(K:af)(a:Addr):It :=
 ⟨λi H=>∃xs x,cQ K H a xs/\xs[i]?=some x,λi H x H'=>H'=H/\∀xs,cQ K H a xs->xs[i]?=some x,λi H=>∃xs,cQ K H a xs/\xs.length<=i⟩
noncomputable def Ti(lo:Int)(n:Nat):It:=⟨λi _=>i<n,λi H x H'=>H'=H/\x=.int (lo+i),λi _=>n<=i⟩
theorem Ro{P:Program}{w:World}{K:af}{Z:Expr}(a j:Addr):Turn P w K Z (Ko K a) [j] j (λi h=>h.IsListIter j a i) where
 mem:=-_
 obj:=λi h st b g=>by
  have e:b=j:=by simpa using g
  subst e;obtain⟨o,e,c,d⟩:=st;exact⟨o,e,λv z=>by rw[d] at z;cases z⟩
 keep:=λi h q st k=>st.at λo e=>k j (-_) o e
 item:=by
  intro X B r G N i f s O H E I m st J;subst B r G;obtain⟨S,x,n,A⟩:=J;obtain⟨t,y,p,U⟩:=I.list n;obtain⟨u,Q,T⟩:=y.get A;obtain⟨L,D,Y,F,C,M⟩:=m j (-_);refine wpAny_pyNext_list_item st p.isList (x:=u) (by simpa using Q) λq l sb=>?_;have V:Inv X f O H {s with heap:=q}:=I.turned (t':=s.toks) (λb o g e=>(sb.2 b g).trans e) L D F C M;obtain⟨o,e,c,d⟩:=id l;exact⟨u,rfl,Th (s:={s with heap:=q}) e c d (!_) ⟨x,H,V,T,⟨rfl,λys R=>by rw[I.LX R n];exact A⟩,l,λb g=>(m b g).1⟩⟩
 done:=by
  intro X B r G N i f s O H E I m st J;subst B r G;obtain⟨S,n,A⟩:=J;obtain⟨t,y,p,U⟩:=I.list n;obtain⟨L,D,Y,F,C,M⟩:=m j (-_);have hl:=y.length;exact wpAny_pyNext_list_end (I.ok.hd N) st p.isList (by simp;lia) λq W=>⟨rfl,I.turned (t':=s.toks) (λb o g e=>W b o g e) L D F C M⟩
 self:=λ_ _ _ _ _ st h=>wpAny_pyIter_listiter st h
theorem NZ{P:Program}{w:World}{K:af}{Z:Expr}(a l:Addr):Turn P w K Z (X0 K a) [l] l (λi h=>h.IsTupleIter l a i) where
 mem:=-_
 obj:=λi h st b j=>by
  have e:b=l:=by simpa using j
  subst e;obtain⟨o,e,c,d⟩:=st;exact⟨o,e,λv z=>by rw[d] at z;cases z⟩
 keep:=λi h r st k=>st.at λo e=>k l (-_) o e
 item:=by
  intro X B t G N i f s O H E I n st J;subst B t G;obtain⟨S,x,q,A⟩:=J;obtain⟨g,y,p,U⟩:=I.tuple q;obtain⟨u,Q,T⟩:=y.get A;obtain⟨L,D,Y,F,C,M⟩:=n l (-_);refine wpAny_pyNext_tuple_item st (show s.heap.IsTuple a g.toArray from p) (x:=u) (by simpa using Q) λr m sb=>?_;have V:Inv X f O H {s with heap:=r}:=I.turned (t':=s.toks) (λb o j e=>(sb.2 b j).trans e) L D F C M;obtain⟨o,e,c,d⟩:=id m;exact⟨u,rfl,Th (s:={s with heap:=r}) e c d (!_) ⟨x,H,V,T,⟨rfl,λys R=>by rw[I.Rn R q];exact A⟩,m,λb j=>(n b j).1⟩⟩
 done:=by
  intro X B t G N i f s O H E I n st J;subst B t G;obtain⟨S,q,A⟩:=J;obtain⟨g,y,p,U⟩:=I.tuple q;obtain⟨L,D,Y,F,C,M⟩:=n l (-_);have hl:=y.length;exact wpAny_pyNext_tuple_end (I.ok.hd N) st (show s.heap.IsTuple a g.toArray from p) (by simp;lia) λr W=>⟨rfl,I.turned (t':=s.toks) (λb o j e=>W b o j e) L D F C M⟩
 self:=λ_ _ _ _ _ st h=>wpAny_pyIter_tupleiter st h
theorem Oa{P:Program}{w:World}{K:af}{N:Expr}(c:Addr)(lo:Int)(n:Nat):Turn P w K N (Ti lo n) [c] c (λi h=>IsRangeIter h c (lo+(i:Nat)*1) ((n:Int)-(i:Nat)) 1) where
 mem:=-_
 obj:=λi h st b d=>by
  have e:b=c:=by simpa using d
  subst e;exact⟨_,st,λv z=>by
   have O:Data.fields _=Data.cell v:=z;cases O⟩
 keep:=λi h j st k=>k c (-_) _ st
 item:=by
  intro X p l x m i a s D H E I g st y;subst p l x;obtain⟨A,r,M,u,q,B⟩:=g c (-_);have W:=Walks.range (prog:=X.prog) (w:=X.w) (I.ok.hd m) c lo 1 n;refine W.item i s _ _ y st λv j C F f G=>?_;obtain⟨t,rfl⟩:=F;have J:Inv X a D H {s with heap:=j,toks:=C}:=I.turned (λb o d e=>G b o (by simpa using d) e) A r u q B;refine⟨_,rfl,Th (s:={s with heap:=j,toks:=C}) (n:="range_iterator") f rfl rfl (!_) ⟨.int (lo+i),H,J,⟨t,?_⟩,⟨rfl,rfl⟩,f,λb d=>(g b d).1⟩⟩;rw[Int.mul_one]
 done:=by
  intro X p l x m i a s D H E I g st y;subst p l x;obtain⟨A,r,M,u,q,B⟩:=g c (-_);exact wpAny_pyNext_range_end (I.ok.hd m) st (by have:n<=i:=y;lia) λj L=>⟨rfl,I.turned (t':=s.toks) (λb o d e=>L b o d e) A r u q B⟩
 self:=λ_ _ _ _ _ st h=>wpAny_pyIter_rangeiter st h
section
variable{X:Cx}{tg:Expr}
inductive Yu(K:af)(R:It->Hp->Prop)(x:V)(H1:Hp):Prop
 |mk (a:Addr) (h1:x=.ref a) (h2:∃xs,bP K H1 a xs) (h3:R (Ko K a) H1):Yu K R x H1
def acu(K:af)(tl:TE):TI:=λσ H R=>tl σ H (Yu K R)
def agh(K:af)(tl:TE):TI:=λσ H R=>tl σ H λx H1=>∃a,x=.ref a/\(∃xs,cQ K H1 a xs)/\R (X0 K a) H1
theorem fV{l:Expr}{g:TE}(hl:PE X l g):PI X tg l (acu X.K g):=by
 intro c s r H R I h;refine gz (hl c s r H _ I h) λv d ⟨x,n,f,t,i⟩=>?_;obtain⟨a,e,⟨u,m⟩,q⟩:=i;subst e;cases t;obtain⟨j,y,p,w⟩:=f.list m;refine wpAny_pyIter_list p.isList ?_;refine⟨d.heap.objs.size,[d.heap.objs.size],_,_,n,rfl,f.kept (t':=d.toks) λb o e=>Heap.get?_push_of_some _ e,Ro a _,⟨_,Heap.get?_push_size _ rfl,rfl,rfl⟩,λb k=>?_,q⟩;have e:b=d.heap.objs.size:=by simpa using k
 subst e;exact f.Tg (ay _) (f.hok.fresh (ay _))
theorem Ob{l:Expr}{i:TE}(hl:PE X l i):PI X tg l (agh X.K i):=by
 intro c s r H R I h;refine gz (hl c s r H _ I h) λv d ⟨x,n,f,t,j⟩=>?_;obtain⟨a,e,⟨u,m⟩,q⟩:=j;subst e;cases t;obtain⟨g,y,p,w⟩:=f.tuple m;refine wpAny_pyIter_tuple (show d.heap.IsTuple a g.toArray from p) ?_;refine⟨d.heap.objs.size,[d.heap.objs.size],_,_,n,rfl,f.kept (t':=d.toks) λb o e=>Heap.get?_push_of_some _ e,NZ a _,⟨_,Heap.get?_push_size _ rfl,rfl,rfl⟩,λb k=>?_,q⟩;have e:b=d.heap.objs.size:=by simpa using k
 subst e;exact f.Tg (ay _) (f.hok.fresh (ay _))
theorem Tj{c:List (Addr×Obj)}{f:St}{H:Hp}{s:Shared}{R:It->Hp->Prop}{E:Value->Shared->Prop}{lo a:Int}{t u v:Tok}{tk:Nat}(I:Inv X c f H s)(k:-(2^62)<=lo)(j:lo<2^62)(m:-(2^62)<=a)(l:a<2^62)
 (q:R (Ti lo (a-lo).toNat) H):wpAny (model X.prog X.w) X.A (pyIter (.ref s.heap.objs.size)) (PIE X c f tg R) E {s with heap:=s.heap.push {cls:=.type "range",data:=.fields #[.int lo t,.int a u,.int 1 v]},toks:=tk}:=by
 refine wpAny_pyIter_range (IsRange.new ..) (small_one k j m l) ?_;have d:Inv X c f H {s with heap:=s.heap.push {cls:=.type "range",data:=.fields #[.int lo t,.int a u,.int 1 v]},toks:=tk}:=I.kept λb o e=>Heap.get?_push_of_some _ e;refine⟨(s.heap.push {cls:=.type "range",data:=.fields #[.int lo t,.int a u,.int 1 v]}).objs.size,[(s.heap.push {cls:=.type "range",data:=.fields #[.int lo t,.int a u,.int 1 v]}).objs.size],_,_,H,rfl,
  d.kept (t':=tk) λb o e=>Heap.get?_push_of_some _ e,Oa _ lo (a-lo).toNat,?_,λb i=>?_,q⟩
 ·have h:lo+((0:Nat):Int)*1=lo:=-_
  have g:(((a-lo).toNat:Nat):Int)-((0:Nat):Int)=Builtin.Range.rangeSize lo a 1:=by rw[rangeSize_one];split <;> lia
  show IsRangeIter _ _ (lo+((0:Nat):Int)*1) ((((a-lo).toNat:Nat):Int)-((0:Nat):Int)) 1;rw[h,g];exact Heap.get?_push_size _ rfl
 ·have e:b=(s.heap.push {cls:=.type "range",data:=.fields #[.int lo t,.int a u,.int 1 v]}).objs.size:=by simpa using i
  subst e;exact d.Tg (ay _) (d.hok.fresh (ay _))
inductive Yv(R:It->Hp->Prop)(vs:List V)(H1:Hp):Prop
 |mk (j:Int) (h1:vs=[.int j]) (h2:-(2^62)<=j) (h3:j<2^62) (h4:R (Ti 0 j.toNat) H1):Yv R vs H1
def acv(ta:TA):TI:=λσ H R=>ta σ H (Yv R)
theorem gA{a:Expr}{f:TA}{p c:Pos}(v:Gl X "range")(i:X.mg "range" = none)(l:PA X [a] f)(n:starEach [a] X.env=[(false,eval a X.env)]:=by rfl):PI X tg (.Call (.Name "range" p) [a] [] c) (acv f):=by
 intro b s o H R I h;refine Call_ (Gw I v i boot_range (PyProof.Rows.callWith_type1 (gz (l c b s o H _ I h) λz w ⟨y,x,m,u,d⟩=>?_) n rfl));obtain⟨j,e,d,g,q⟩:=d;subst e;cases u with
 |cons r k =>
  cases k;obtain⟨t,rfl⟩:=r;exact call_range_1 (Tj m ∅ ∅ d g (by simpa using q))
def acw(wi:TI)(g:TG)(tb:TS):TS:=λD σ H=>wi σ H λJ H1=>∃W:Nat->Nat->St->Hp->Prop,(∃m,W 0 m σ H1)/\∀i m σ H,W i m σ H ->
 (J.stop i H/\D.nx σ H)∨(J.go i H/\∃N:St->Hp->Prop,(∀σ' H',N σ' H'->∃m',m'<m/\W (i+1) m' σ' H')/\∀x H',J.Kn i H x H'->g x σ H' λσ2 H2=>tb {D with nx:=N,ct:=N,bk:=D.nx} σ2 H2)
noncomputable def Gx(fp:List Addr)(h:Heap):List (Addr×Obj):=fp.filterMap λb=>(h.get? b).map λo=>(b,o)
theorem Bt{fp:List Addr}{h:Heap}{b:Addr}{o:Obj}(a:b∈fp)(e:h.get? b=some o):(b,o)∈Gx fp h:=List.mem_filterMap.mpr ⟨b,a,by rw[e];rfl⟩
theorem Rp{fp:List Addr}{h:Heap}{p:Addr×Obj}(a:p∈Gx fp h):p.1∈fp/\h.get? p.1=some p.2:=by
 obtain⟨b,d,e⟩:=List.mem_filterMap.mp a;cases q:h.get? b with
 |none=>rw[q] at e;cases e
 |some o =>
  rw[q] at e;have c:(b,o)=p:=aK e;subst c;exact⟨d,q⟩
theorem Inv.pinned{a:List (Addr×Obj)}{f:St}{H:Hp}{s:Shared}{fp:List Addr}(I:Inv X a f H s)(i:∀b∈fp,Cu X a H b)(k:∀b∈fp,∃o,s.heap.get? b=some o/\∀v,o.data≠.cell v):Inv X (a++Gx fp s.heap) f H s :=
 I.PM λp h=>(br.mp h).elim (λz=>I.pin p (cY _ z)) λz=>by
  obtain⟨c,e⟩:=Rp z;obtain⟨m,l,j,_⟩:=i p.1 c;obtain⟨o,g,d⟩:=k p.1 c;rw[e] at g;cases g;exact⟨e,m,l,j,d⟩
theorem Inv.Cv{a pl:List (Addr×Obj)}{b:St}{H:Hp}{s:Shared}(I:Inv X (a++pl) b H s):Inv X a b H s:=I.PM λp c=>I.pin p (cY _ (List.mem_append_left _ c))
theorem ZS{p:Expr}{B:List Stmt}{wi:TI}{g:TG}{tb:TS}{Z:Pos}(E:PassesOwn (model X.prog X.w) X.A X.env X.xe)(hc:X.calm=true)(hi:PI X tg p wi)(hg:PG X tg g)(k:iC X B tb)
 (hs:∀x,foldedSetIterable p X.env x=pure x:=by intro _;rfl):PS X (.For tg p B [] Z) (acw wi g tb):=by
 intro a s σ H D I h;refine wpAny_For (gz (hi a s σ H _ I h) λv s1 h1=>gz h1 λitv s2 h2=>?_) hs;obtain⟨it,G,tn,J,H2,e,I2,T,R,f2,W,⟨m0,w0⟩,F⟩:=h2;subst e;have y:∀{z:Hp},(∀b∈G,z b=none)->∀b∈G,Cu X a z b:=λhn b k=>⟨hn b k,(f2 b k).2⟩;refine codeAny_forLoop_any (λn s'=>∃i q z,Inv X a q z s'/\tn i s'.heap/\(∀b∈G,z b=none)/\W i n q z) ?_ m0 ⟨0,σ,H2,I2,R,λb k=>(f2 b k).1,w0⟩;rintro n s3 ⟨i,t,P,I3,O,L,w3⟩;rcases F i n t P w3 with ⟨M,qn⟩|⟨go,N,hN,step⟩
 ·refine wpAny_passesOwn E (gz (T.done X rfl rfl rfl hc i a s3 t P X.xe I3 (y L) O M) λr s4 ⟨S,I4⟩=>?_)
  subst S;exact wpAny_execs_nil ⟨t,P,I4,qn⟩
 ·refine wpAny_passesOwn E (gz (T.item X rfl rfl rfl hc i a s3 t P X.xe I3 (y L) O go) λr s4 ⟨u,S,h4⟩=>?_)
  subst S;refine wpAny_passesOwn E (gz h4 λ_ s5 ⟨x,H5,I5,r5,y5,V,RE⟩=>?_);have U:=I5.pinned (y RE) (T.obj _ _ V);refine wpAny_passesOwn E (gz (hg _ s5 t H5 x u _ U r5 (step x H5 y5)) λ_ s6 ⟨Q,H6,I6,q6⟩=>?_);refine wpAny_passesOwn E (gz (k _ s6 Q H6 _ I6 q6) λf Y C=>?_);have again:∀{j:St} {l:Hp},Inv X (a++Gx G s5.heap) j l Y->N j l->∃m,m<n/\∃i q z,Inv X a q z Y/\tn i Y.heap/\(∀b∈G,z b=none)/\W i m q z:=λ{j l} c K=>by
   obtain⟨m',hm,w7⟩:=hN j l K;refine⟨m',hm,i+1,j,l,c.Cv,T.keep _ _ _ V λb k o e=>(c.pin (b,o) (cY _ (cY _ (Bt k e)))).1,λb k=>?_,w7⟩;obtain⟨o,e,d⟩:=T.obj _ _ V b k;exact (c.pin (b,o) (cY _ (cY _ (Bt k e)))).2.1
  cases f with
  |next=>obtain⟨j,l,c,K⟩:=C;exact again c K
  |cont=>obtain⟨j,l,c,K⟩:=C;exact again c K
  |brk=>obtain⟨j,l,c,C⟩:=C;exact⟨j,l,c.Cv,C⟩
  |ret v=>obtain⟨x7,j,l,c,r7,C⟩:=C;exact⟨x7,j,l,c.Cv,r7,C⟩
end
theorem vL{K:af}{a:Addr}{xs:List V}{g:TG}{n:TS}{D:Ends}{b:St}{H:Hp}(c:Nat->St->Hp->Prop)(t:c 0 b H)(hl:∀i b H,i<=xs.length->c i b H->bP K H a xs)
 (u:∀i x b H,xs[i]?=some x->c i b H->g x b H λh k=>n {D with nx:=c (i+1),ct:=c (i+1),bk:=D.nx} h k) (r:∀b H,c xs.length b H->D.nx b H) :
 ∃W:Nat->Nat->St->Hp->Prop,(∃m,W 0 m b H)/\∀i m b H,W i m b H ->
  ((Ko K a).stop i H/\D.nx b H)∨((Ko K a).go i H/\∃N:St->Hp->Prop,(∀d f,N d f->∃l,l<m/\W (i+1) l d f)/\∀x f,(Ko K a).Kn i H x f->g x b f λh k=>n {D with nx:=N,ct:=N,bk:=D.nx} h k):=by
 refine⟨λi m b H=>m=xs.length-i/\i<=xs.length/\c i b H,⟨xs.length,-_,bN _,t⟩,?_⟩;rintro i m b H ⟨rfl,s,p⟩;have q:=hl i b H s p;by_cases j:i<xs.length
 ·refine .inr ⟨⟨xs,xs[i],q,by simp[j]⟩,c (i+1),λd f o=>⟨xs.length-(i+1),∅,rfl,j,o⟩,λx f y=>?_⟩
  obtain⟨e,y⟩:=y;subst e;exact u i x b _ (y xs q) p
 ·have e:i=xs.length:=∅
  subst e;exact .inl ⟨⟨xs,q,ay _⟩,r b H p⟩
theorem Az{lo:Int}{n:Nat}{g:TG}{l:TS}{D:Ends}{a:St}{H:Hp}(h:Nat->St->Hp->Prop)(r:h 0 a H)
 (s:∀i a H,i<n->h i a H->g (.int (lo+i)) a H λf j=>l {D with nx:=h (i+1),ct:=h (i+1),bk:=D.nx} f j) (q:∀a H,h n a H->D.nx a H) :
 ∃W:Nat->Nat->St->Hp->Prop,(∃m,W 0 m a H)/\∀i m a H,W i m a H ->
  ((Ti lo n).stop i H/\D.nx a H)∨((Ti lo n).go i H/\∃N:St->Hp->Prop,(∀b c,N b c->∃k,k<m/\W (i+1) k b c)/\∀x c,(Ti lo n).Kn i H x c->g x a c λf j=>l {D with nx:=N,ct:=N,bk:=D.nx} f j):=by
 refine⟨λi m a H=>m=n-i/\i<=n/\h i a H,⟨n,-_,bN _,r⟩,?_⟩;rintro i m a H ⟨rfl,t,p⟩;by_cases d:i<n
 ·refine .inr ⟨d,h (i+1),λb c o=>⟨n-(i+1),∅,rfl,d,o⟩,λx c y=>?_⟩
  obtain⟨e,y⟩:=y;subst e y;exact s i a _ d p
 ·have e:i=n:=∅
  subst e;exact .inl ⟨ay _,q a H p⟩
theorem To{c:TT}{k:TS}{D:Ends}{a:St}{H:Hp}(i:St->Hp->Prop)(h:St->Hp->Nat)(o:i a H)
 (r:∀a H,i a H->c a H λb f=>if b=true then k {D with nx:=λd e=>i d e/\h d e<h a H,ct:=λd e=>i d e/\h d e<h a H,bk:=D.nx} a f else D.nx a f)
 (g:∀a H Q j,(∀b f,Q b f->j b f)->c a H Q->c a H j):Km c k D a H:=by
 refine⟨λm a H=>m=h a H/\i a H,⟨_,rfl,o⟩,?_⟩;rintro m a H ⟨rfl,p⟩;refine g a H _ _ (λb f q=>?_) (r a H p);cases b with
 |true=>exact⟨_,λd e ⟨n,l⟩=>⟨_,l,rfl,n⟩,q⟩
 |false=>exact q
abbrev R2:=V->V->Hp->VK->Prop
def wO(X:Cx)(f:Value->Value->Sem Value)(r:R2):Prop :=
 ∀(pins:List (Addr×Obj)) (s:Shared) (σ:St) (H:Hp) (x y:V) (v u:Value) (Q:VK),Inv X pins σ H s->RelV x v->RelV y u->r x y H Q ->
  wpAny (model X.prog X.w) X.A (f v u) (EP X pins σ Q) X.xe s
def UnR(X:Cx)(f:Value->Sem Value)(r:V->Hp->VK->Prop):Prop :=
 ∀(pins:List (Addr×Obj)) (s:Shared) (σ:St) (H:Hp) (x:V) (v:Value) (Q:VK),Inv X pins σ H s->RelV x v->r x H Q ->
  wpAny (model X.prog X.w) X.A (f v) (EP X pins σ Q) X.xe s
def nX(X:Cx)(f:Value)(r:List V->Hp->VK->Prop):Prop :=
 ∀(pins:List (Addr×Obj)) (s:Shared) (σ:St) (H:Hp) (xs:List V) (us:List Value) (Q:VK),Inv X pins σ H s->bZ xs us->r xs H Q ->
  wpAny (model X.prog X.w) X.A (call f us) (EP X pins σ Q) X.xe s
def agj(X:Cx)(r:V->Hp->(Bool->Hp->Prop)->Prop):Prop :=
 ∀(pins:List (Addr×Obj)) (s:Shared) (σ:St) (H:Hp) (x:V) (v:Value) (Q:Bool->Hp->Prop),Inv X pins σ H s->RelV x v->r x H Q ->
  wpAny (model X.prog X.w) X.A (truthy v) (TP X pins σ Q) X.xe s
def VX(r:R2)(ta tb:TE):TE:=λσ H Q=>ta σ H λx H1=>tb σ H1 λy H2=>r x y H2 Q
def tUn(r:V->Hp->VK->Prop)(ta:TE):TE:=λσ H Q=>ta σ H λx H1=>r x H1 Q
inductive rI(C:Int->Int->Prop)(g:Int->Int->V)(x y:V)(H:Hp)(Q:VK):Prop
 |mk (i j:Int) (h1:x=.int i) (h2:y=.int j) (h3:C i j) (h4:Q (g i j) H):rI C g x y H Q
inductive Tp(g:Int->Int->V)(x y:V)(H:Hp)(Q:VK):Prop
 |mk (i j:Int) (h1:x=.int i) (h2:y=.int j) (h3:Q (g i j) H):Tp g x y H Q
def rU(g:Int->V):V->Hp->VK->Prop:=λx H Q=>∃i,x=.int i/\Q (g i) H
section
variable{X:Cx}{a b c:Expr}{ta tb tc:TE}{pos:Pos}
theorem ZT(p:PE X a ta)(q:PE X b tb){c:List (Addr×Obj)}{s:Shared}{e:St}{H:Hp}{R:V->V->Hp->Prop}(I:Inv X c e H s)
 (h:ta e H λx k=>tb e k λy d=>R x y d) {Q:Value->Shared->Prop} {f:Value->Value->Sem Value}
 (n:∀v u j x y d,Inv X c e d j->RelV x v->RelV y u->R x y d->wpAny (model X.prog X.w) X.A (f v u) Q X.xe j) :
 wpAny (model X.prog X.w) X.A (eval a X.env) (λv g=>wpAny (model X.prog X.w) X.A (eval b X.env) (λu i=>wpAny (model X.prog X.w) X.A (f v u) Q X.xe i) X.xe g) X.xe s:=by
 refine gz (p c s e H _ I h) λv o ⟨x,k,r,B,l⟩=>?_;refine gz (q c o e k _ r l) λu j ⟨y,d,t,z,m⟩=>?_;exact n v u j x y d t B z m
theorem bw{op:Operator}{r:R2}(l:wO X (binaryOp op) r)(g:PE X a ta)(j:PE X b tb):PE X (.BinOp a op b pos) (VX r ta tb):=by
 intro c s m H Q I h;exact wpAny_BinOp (ZT g j I h λv u i x y f k d e q=>l c i m f x y v u Q k d e q)
theorem acz{op:UnaryOp}{r:V->Hp->VK->Prop}(k:UnR X (unaryOp op) r)(g:PE X a ta):PE X (.UnaryOp op a pos) (tUn r ta):=by
 intro b s c H Q I h;exact UnaryOp_ (gz (g b s c H _ I h) λv f ⟨x,j,d,i,e⟩=>k b f c j x v Q d i e)
theorem rT{f:Value->Value->Sem Value}{C:Int->Int->Prop}{g:Int->Int->Int}
 (rule:∀(i j:Int) (t u:Tok) (s:Shared) (Q:Value->Shared->Prop) (E:Value->Shared->Prop),C i j->Q (.int (g i j) s.toks) {s with toks:=s.toks+1}->wpAny (model X.prog X.w) X.A (f (.int i t) (.int j u)) Q E s) :
 wO X f (rI C λi j=>.int (g i j)):=by
 intro a s k H x y v u Q I b d h;obtain⟨i,j,rfl,rfl,e,q⟩:=h;obtain⟨t,rfl⟩:=b;obtain⟨c,rfl⟩:=d;exact rule i j t c s _ _ e ⟨.int (g i j),H,I.tok _,⟨_,rfl⟩,q⟩
theorem Wh{f:Value->Value->Sem Value}{g:Int->Int->Int}
 (rule:∀(i j:Int) (t u:Tok) (s:Shared) (Q:Value->Shared->Prop) (E:Value->Shared->Prop),Q (.int (g i j) s.toks) {s with toks:=s.toks+1}->wpAny (model X.prog X.w) X.A (f (.int i t) (.int j u)) Q E s) :
 wO X f (Tp λi j=>.int (g i j)):=by
 intro a s e H x y v u Q I b d h;obtain⟨i,j,rfl,rfl,q⟩:=h;obtain⟨t,rfl⟩:=b;obtain⟨c,rfl⟩:=d;exact rule i j t c s _ _ ⟨.int (g i j),H,I.tok _,⟨_,rfl⟩,q⟩
theorem Wi{f:Value->Value->Sem Value}{g:Int->Int->Bool}
 (rule:∀(i j:Int) (t u:Tok) (s:Shared) (Q:Value->Shared->Prop) (E:Value->Shared->Prop),Q (.bool (g i j)) s->wpAny (model X.prog X.w) X.A (f (.int i t) (.int j u)) Q E s) :
 wO X f (Tp λi j=>.bl (g i j)):=by
 intro a s e H x y v u Q I b d h;obtain⟨i,j,rfl,rfl,q⟩:=h;obtain⟨t,rfl⟩:=b;obtain⟨c,rfl⟩:=d;exact rule i j t c s _ _ ⟨.bl (g i j),H,I,rfl,q⟩
def agk(i j:Int):Prop:=0<j/\j<1073741824
def acB(i j:Int):Prop:=0<=j/\j<=1000000/\i.natAbs<2^64
def ZU(i j:Int):Prop:=(-(2^64)<i/\i<2^64)∨(-(2^64)<j/\j<2^64)
theorem ZU.ok{i j:Int}(h:ZU i j):IntMulOk i j:=by
 rcases h with ⟨b,a⟩|⟨b,a⟩
 ·exact .of_left (intBits_le_64 b a)
 ·exact .of_right (intBits_le_64 b a)
theorem fB:wO X (binaryOp .Add) (Tp λi j=>.int (i+j)):=Wh λ_ _ _ _ _ _ _ q=>add_int q
theorem DF:wO X (binaryOp .Sub) (Tp λi j=>.int (i-j)):=Wh λ_ _ _ _ _ _ _ q=>sub_int q
theorem Tq:wO X (binaryOp .Mult) (rI ZU λi j=>.int (i*j)):=rT λ_ _ _ _ _ _ _ a q=>mul_int q a.ok
theorem fK:wO X (binaryOp .FloorDiv) (rI agk λi j=>.int (i/j)):=rT λi j _ _ _ _ _ a q=>by
 have c:(0:Int)<j:=a.1;have b:j<1073741824:=a.2;exact floordiv_int ∅ (by rw[Int.fdiv_eq_ediv_of_nonneg i ∅];exact q) (.inl (PyProof.noPylong_small ∅))
theorem dZ:wO X (binaryOp .Mod) (rI (λ_ j=>0<j) λi j=>.int (i%j)):=rT λi j _ _ _ _ _ a q=>by
 have b:(0:Int)<j:=a;exact mod_int' ∅ (by rw[Int.fmod_eq_emod_of_nonneg i ∅];exact q)
theorem Tr:wO X (binaryOp .Pow) (rI acB λi j=>.int (i^j.toNat)):=rT λ_ _ _ _ _ _ _ a q=>pow_int_small a.1 a.2.1 a.2.2 q
theorem ZV:wO X (binaryOp .LShift) (rI acB λi j=>.int (i*2^j.toNat)):=rT λ_ _ _ _ _ _ _ a q=>lshift_int_small a.1 a.2.1 a.2.2 q
theorem ZW:wO X (binaryOp .BitAnd) (Tp λi j=>.int (Builtin.bitAnd i j)):=Wh λ_ _ _ _ _ _ _ q=>and_int q
theorem acC:wO X (binaryOp .BitOr) (Tp λi j=>.int (Builtin.bitOr i j)):=Wh λ_ _ _ _ _ _ _ q=>or_int q
theorem unI{f:Value->Sem Value}{g:Int->Int}
 (rule:∀(i:Int) (t:Tok) (s:Shared) (Q:Value->Shared->Prop) (E:Value->Shared->Prop),Q (.int (g i) s.toks) {s with toks:=s.toks+1}->wpAny (model X.prog X.w) X.A (f (.int i t)) Q E s) :
 UnR X f (rU λi=>.int (g i)):=by
 intro a s c H x v Q I b h;obtain⟨i,rfl,q⟩:=h;obtain⟨t,rfl⟩:=b;exact rule i t s _ _ ⟨.int (g i),H,I.tok _,⟨_,rfl⟩,q⟩
theorem ZX:UnR X (unaryOp .USub) (rU λi=>.int (-i)):=unI λ_ _ _ _ _ q=>neg_int q
end
noncomputable def ZY:V->V->Bool
 |.fH,.fH=>true|.fH,.int _=>true|.int _,.fH=>true|.fH,.bl _=>true|.bl _,.fH=>true|.fH,.str _=>true|.str _,.fH=>true
 |.int _,.int _=>true|.bl _,.bl _=>true|.str _,.str _=>true|.PL _,.PL _=>true
 |.int _,.str _=>true|.str _,.int _=>true|.bl _,.str _=>true|.str _,.bl _=>true
 |_,_=>false
inductive rEq(x y:V)(H:Hp)(Q:VK):Prop
 |mk (a:ZY x y=true) (b:Q (.bl (decide (x=y))) H):rEq x y H Q
inductive rNe(x y:V)(H:Hp)(Q:VK):Prop
 |mk (a:ZY x y=true) (b:Q (.bl (!decide (x=y))) H):rNe x y H Q
theorem PU{i j:Int}:decide (V.int i=V.int j)=(i==j):=by
 rw[iB];simp
theorem Tt{i j:Bool}:decide (V.bl i=V.bl j)=(i==j):=by
 rw[iB];simp
theorem PV{i j:Str}:decide (V.str i=V.str j)=(i==j):=by
 rw[iB];simp
theorem PX{i j:Array UInt8}:decide (V.PL i=V.PL j)=(i.toList==j.toList):=by
 rw[iB];cases i;cases j;simp
section
variable{X:Cx}{a b c:Expr}{ta tb tc:TE}{pos:Pos}
theorem dS{a:List (Addr×Obj)}{b:St}{H:Hp}{s:Shared}{Q:VK}{k c:Bool}(I:Inv X a b H s)(q:Q (.bl k) H)(e:k=c):EP X a b Q (.bool c) s:=by
 subst e;exact⟨.bl k,H,I,rfl,q⟩
theorem uc:wO X (compareOp .Eq) rEq:=by
 intro e s f H x y v u Q I d a h;obtain⟨c,q⟩:=h;cases x with
 |fH =>
  cases d;cases y with
  |fH=>cases a;exact PySem.EqNone.eq_none_none (dS I q (-_))
  |bl j=>cases a;exact PySem.EqNone.eq_none_bool (dS I q (-_))
  |int j=>obtain⟨b,rfl⟩:=a;exact PySem.EqNone.eq_none_int (dS I q (-_))
  |str j=>obtain⟨b,rfl⟩:=a;exact PySem.EqNone.eq_none_str (dS I q (-_))
  |_=>exact eL (show false=true from c) aF
 |bl i =>
  cases d;cases y with
  |fH=>cases a;exact PySem.EqNone.eq_bool_none (dS I q (-_))
  |bl j=>cases a;exact eq_bool (dS I q Tt)
  |str j=>obtain⟨b,rfl⟩:=a;exact PySem.EqMixed.eq_bool_str (dS I q (-_))
  |_=>exact eL (show false=true from c) aF
 |int i =>
  obtain⟨t,rfl⟩:=d;cases y with
  |fH=>cases a;exact PySem.EqNone.eq_int_none (dS I q (-_))
  |int j=>obtain⟨b,rfl⟩:=a;exact eq_int (dS I q PU)
  |str j=>obtain⟨b,rfl⟩:=a;exact PySem.EqMixed.eq_int_str (dS I q (-_))
  |_=>exact eL (show false=true from c) aF
 |str i =>
  obtain⟨t,rfl⟩:=d;cases y with
  |fH=>cases a;exact PySem.EqNone.eq_str_none (dS I q (-_))
  |bl j=>cases a;exact PySem.EqMixed.eq_str_bool (dS I q (-_))
  |int j=>obtain⟨b,rfl⟩:=a;exact PySem.EqMixed.eq_str_int (dS I q (-_))
  |str j=>obtain⟨b,rfl⟩:=a;exact eq_str (dS I q PV)
  |_=>exact eL (show false=true from c) aF
 |PL i =>
  obtain⟨t,rfl⟩:=d;cases y with
  |PL j=>obtain⟨b,rfl⟩:=a;exact PySem.W.eq_bytes (dS I q PX)
  |_=>exact eL (show false=true from c) aF
 |_=>cases y <;> exact eL (show false=true from c) aF
theorem se:wO X (compareOp .NotEq) rNe:=by
 intro e s f H x y v u Q I d a h;obtain⟨c,q⟩:=h;cases x with
 |fH =>
  cases d;cases y with
  |fH=>cases a;exact PySem.EqNone.ne_none_none (dS I q (-_))
  |bl j=>cases a;exact PySem.EqNone.ne_none_bool (dS I q (-_))
  |int j=>obtain⟨b,rfl⟩:=a;exact PySem.EqNone.ne_none_int (dS I q (-_))
  |str j=>obtain⟨b,rfl⟩:=a;exact PySem.EqNone.ne_none_str (dS I q (-_))
  |_=>exact eL (show false=true from c) aF
 |bl i =>
  cases d;cases y with
  |fH=>cases a;exact PySem.EqNone.ne_bool_none (dS I q (-_))
  |bl j=>cases a;exact ne_bool (dS I q (g7 not Tt))
  |str j=>obtain⟨b,rfl⟩:=a;exact PySem.EqMixed.ne_bool_str (dS I q (-_))
  |_=>exact eL (show false=true from c) aF
 |int i =>
  obtain⟨t,rfl⟩:=d;cases y with
  |fH=>cases a;exact PySem.EqNone.ne_int_none (dS I q (-_))
  |int j=>obtain⟨b,rfl⟩:=a;exact ne_int (dS I q (g7 not PU))
  |str j=>obtain⟨b,rfl⟩:=a;exact PySem.EqMixed.ne_int_str (dS I q (-_))
  |_=>exact eL (show false=true from c) aF
 |str i =>
  obtain⟨t,rfl⟩:=d;cases y with
  |fH=>cases a;exact PySem.EqNone.ne_str_none (dS I q (-_))
  |bl j=>cases a;exact PySem.EqMixed.ne_str_bool (dS I q (-_))
  |int j=>obtain⟨b,rfl⟩:=a;exact PySem.EqMixed.ne_str_int (dS I q (-_))
  |str j=>obtain⟨b,rfl⟩:=a;exact ne_str (dS I q (g7 not PV))
  |_=>exact eL (show false=true from c) aF
 |PL i =>
  obtain⟨t,rfl⟩:=d;cases y with
  |PL j=>obtain⟨b,rfl⟩:=a;exact PySem.W.ne_bytes (dS I q (g7 not PX))
  |_=>exact eL (show false=true from c) aF
 |_=>cases y <;> exact eL (show false=true from c) aF
theorem pR:wO X (compareOp .Lt) (Tp λi j=>.bl (decide (i<j))):=Wi λ_ _ _ _ _ _ _ q=>lt_int q
theorem qX:wO X (compareOp .LtE) (Tp λi j=>.bl (decide (i<=j))):=Wi λ_ _ _ _ _ _ _ q=>le_int q
theorem PY:wO X (compareOp .Gt) (Tp λi j=>.bl (decide (j<i))):=Wi λ_ _ _ _ _ _ _ q=>gt_int q
theorem acD:wO X (compareOp .GtE) (Tp λi j=>.bl (decide (j<=i))):=Wi λ_ _ _ _ _ _ _ q=>ge_int q
theorem Oc:wO X (compareOp .Is) (λx y H Q=>y=.fH/\Q (.bl (decide (x=.fH))) H):=by
 intro b s d H x y v u Q I a c h;obtain⟨rfl,q⟩:=h;cases c;refine is_none_gen (dS I q ?_);cases x <;> first
  | (cases a;rfl)
  | (obtain⟨t,rfl⟩:=a;rfl)
theorem AA:wO X (compareOp .IsNot) (λx y H Q=>y=.fH/\Q (.bl (!decide (x=.fH))) H):=by
 intro b s d H x y v u Q I a c h;obtain⟨rfl,q⟩:=h;cases c;refine isnot_none_gen (dS I q ?_);cases x <;> first
  | (cases a;rfl)
  | (obtain⟨t,rfl⟩:=a;rfl)
theorem Tu(b:Expr){op:CmpOp}(h:op≠.In:=by decide)(a:op≠.NotIn:=by decide):behindInMarks op b=false:=by
 have c:(op==CmpOp.In)=false:=by cases op <;> first|rfl|exact eL rfl h
 have d:(op==CmpOp.NotIn)=false:=by cases op <;> first|rfl|exact eL rfl a
 cases b <;> simp[behindInMarks,c,d]
theorem Wj{op:CmpOp}{r:R2}(m:wO X (compareOp op) r)(i:PE X a ta)(k:PE X b tb)(e:behindInMarks op b=false):PE X (.Compare a [op] [b] pos) (VX r ta tb):=by
 intro c s n H Q I h;exact wpAny_Compare1 (ZT i k I h λv u j x y g l d f q=>m c j n g x y v u Q l d f q) e
def Tv(t:TE):TT:=λσ H Q=>t σ H (BlR Q)
theorem jW{op:CmpOp}{r:R2}(E:wO X (compareOp op) r)(n:PE X a ta)(p:PE X b tb)(j:behindInMarks op b=false):PT X (.Compare a [op] [b] pos) (Tv (VX r ta tb)):=by
 intro d s f H Q I h;refine wpAny_isTrue_Compare1 (gz (n d s f H _ I h) λv m ⟨x,C,q,G,g⟩=>gz (p d m f C _ q g) λu o ⟨y,l,D,F,i⟩ =>
  gz (E d o f l x y v u _ D G F i) λc J ⟨z,w,A,t,k,e,B⟩=>?_) j
 subst e;cases t;exact wpAny_truthy_bool ⟨w,A,B⟩
def Tw(r r':R2)(ta tb tc:TE):TE:=λσ H Q=>ta σ H λx H1=>tb σ H1 λy H2=>r x y H2 λz H3=>∃k,z=.bl k /\
 (if k=true then tc σ H3 λw' H4=>r' y w' H4 Q else Q (.bl false) H3)
theorem LZ{op g:CmpOp}{r p:R2}(S:wO X (compareOp op) r)(j:wO X (compareOp g) p)(E:PE X a ta)(G:PE X b tb)(J:PE X c tc)
 (A:lastMarks [op,g] [b,c]=false:=by with_unfolding_all rfl):PE X (.Compare a [op,g] [b,c] pos) (Tw r p ta tb tc):=by
 intro f s i H Q I h;refine Compare_chain (gz (E f s i H _ I h) λv D ⟨x,P,K,U,q⟩=>chain_link (gz (G f D i P _ K q) λu F ⟨y,C,R,o,w⟩ =>
  gz (S f F i C x y v u _ R U o w) λd O ⟨z,l,m,N,k,e,n⟩=>?_)) A
 subst e;cases N;refine wpAny_truthy_bool ?_;cases k with
 |false=>exact ite_ff ⟨.bl false,l,m,rfl,n⟩
 |true=>exact ite_tt (chain_last (gz (J f O i l _ m n) λW L ⟨T,M,t,V,B⟩=>j f L i M y T u W Q t o V B))
theorem jD{op g:CmpOp}{r p:R2}(W:wO X (compareOp op) r)(j:wO X (compareOp g) p)(G:PE X a ta)(K:PE X b tb)(L:PE X c tc)
 (A:lastMarks [op,g] [b,c]=false:=by with_unfolding_all rfl):PT X (.Compare a [op,g] [b,c] pos) (Tv (Tw r p ta tb tc)):=by
 intro f s i H Q I h;refine isTrue_chain (gz (G f s i H _ I h) λv F ⟨x,T,M,r1,q⟩=>test_link (gz (K f F i T _ M q) λu J ⟨y,D,U,o,w⟩ =>
  gz (W f J i D x y v u _ U r1 o w) λd S ⟨z,l,m,P,k,e,n⟩=>?_)) A
 subst e;cases P;refine wpAny_truthy_bool ?_;cases k with
 |false =>
  obtain⟨k',e',R⟩:=n;cases e';exact ite_ff ⟨l,m,R⟩
 |true =>
  refine ite_tt (test_last (gz (L f S i l _ m n) λw' N ⟨z',O,t,r4,B⟩=>gz (j f N i O y z' u w' _ t o r4 B) λd' s5 ⟨z2,Y,V,E,k2,C,Z⟩=>?_));subst C;cases E;exact wpAny_truthy_bool ⟨Y,V,Z⟩
def ZZ(K:af)(x:V)(H:Hp)(k:Bool):Prop :=
 match x with
 |.fH=>k=false
 |.bl b=>k=b
 |.int i=>k=(i != 0)
 |.str y=>y.length<=sizeLine/\k=((y.length:Int) != 0)
 |.PL y=>y.size<=sizeLine/\k=((y.size:Int) != 0)
 |.ref p=>(∃xs,bP K H p xs/\k=!xs.isEmpty)∨(∃xs,cQ K H p xs/\k=!xs.isEmpty)∨∃kvs,H p=some (.dK kvs)/\k=!kvs.isEmpty
 |_=>False
theorem Od{κ:Type}{kvs:List (κ×V)}{vs:List (κ×Value)}(r:KV kvs vs):(!vs.isEmpty)=!kvs.isEmpty:=by
 cases r <;> rfl
theorem Gy{xs:List V}{a:List Value}(r:bZ xs a):(!a.toArray.isEmpty)=!xs.isEmpty:=by
 cases r <;> simp
theorem Gz:(sizeLine:Nat)<2^63:=by rw[sizeLine_eq];decide
theorem Z0:agj X (λx H Q=>∃k,ZZ X.K x H k/\Q k H):=by
 intro u s D H x v Q I g h;obtain⟨k,e,q⟩:=h;have C:=Gz;have E:sizeLine=16777216:=sizeLine_eq;cases x with
 |fH =>
  cases g;have a:k=false:=e;subst a;exact truthy_none ⟨H,I,q⟩
 |bl b =>
  cases g;have a:k=b:=e;subst a;exact wpAny_truthy_bool ⟨H,I,q⟩
 |int i =>
  obtain⟨t,rfl⟩:=g;have a:k=(i != 0):=e;subst a;exact PySem.P.truthy_int ⟨H,I,q⟩
 |str y =>
  obtain⟨t,rfl⟩:=g;obtain⟨A,a⟩:y.length<=sizeLine/\k=((y.length:Int) != 0):=e;subst a;exact PySem.P.truthy_str ∅ ⟨H,I.tok _,q⟩
 |PL y =>
  obtain⟨t,rfl⟩:=g;obtain⟨A,a⟩:y.size<=sizeLine/\k=((y.size:Int) != 0):=e;subst a;exact PySem.W.truthy_bytes ∅ ⟨H,I.tok _,q⟩
 |ref p =>
  cases g;have a:(∃f,bP X.K H p f/\k=!f.isEmpty)∨(∃f,cQ X.K H p f/\k=!f.isEmpty)∨∃c,H p=some (.dK c)/\k=!c.isEmpty:=e;rcases a with ⟨f,j,a⟩|⟨f,j,a⟩|⟨c,j,a⟩
  ·subst a
   obtain⟨n,r,o,z⟩:=I.list j;have d:=r.length;exact wpAny_truthy_list o.isList (by simp only[aP];lia) ⟨H,I.tok _,by rw[Gy r];exact q⟩
  ·subst a
   obtain⟨n,r,o,z⟩:=I.tuple j;have d:=r.length;exact truthy_tuple o (by simp only[aP];lia) ⟨H,I.tok _,by rw[Gy r];exact q⟩
  ·subst a
   obtain⟨z,B,l,r,m⟩:c.length<=sizeLine/\(p==sysModules)=false/\∃l,KV c l/\s.heap.DictOf (ie X.prog X.w) p l:=I.hok p _ j;have d:c.length=l.length:=Paired.length r;exact wpAny_truthy_dict B m ∅ ⟨H,I.tok _,by rw[Od r];exact q⟩
 |_=>exact (show False from e).elim
theorem Tz(i:PE X a ta)(j:∀b,isTrue a X.env b=(do let v <- b;standAt a.pos;holding [v] (truthy v))) :
 PT X a (λd H Q=>ta d H λx e=>∃k,ZZ X.K x e k/\Q k e):=by
 intro c s d H Q I h;exact isTrue_plain (gz (i c s d H _ I h) λv g ⟨x,m,l,n,f⟩=>Z0 c g d m x v Q l n f) (j _)
theorem vals1{x:V}{us:List Value}(r:bZ [x] us):∃u,us=[u]/\RelV x u:=by
 cases r with
 |cons a b=>cases b;exact⟨_,rfl,a⟩
theorem Jq:nX X (.type "int") (λxs H Q=>(∃i,xs=[.int i]/\Q (.int i) H)∨∃k,xs=[.bl k]/\Q (.int (if k then 1 else 0)) H):=by
 intro a s c H xs d Q I r h;rcases h with ⟨i,rfl,q⟩|⟨k,rfl,q⟩
 ·obtain⟨u,rfl,t,rfl⟩:=vals1 r
  exact call_int_int ⟨.int i,H,I,⟨_,rfl⟩,q⟩
 ·obtain⟨u,rfl,b⟩:=vals1 r
  cases b;exact call_int_bool ⟨.int (if k then 1 else 0),H,I.tok _,⟨_,rfl⟩,q⟩
end
structure Oe(h:Heap)(x dx C:Addr)(mA:Str->Option Value):Prop where
 obj:h.get? x=some (jA C dx)
 ns:h.Ns1 dx mA
 ne:dx≠x
theorem Jr{h:Heap}{c:Addr}{d:Str->Option Value}(n:h.Ns1 c d):∃g,h.get? c=some g/\∀name,PySem.W.lookIn name g=some (d name):=by
 obtain⟨o,f,r,p,k,l,_,i⟩:=n;refine⟨o,p,λname=>?_⟩;have e:=i name;unfold nsFind findBy at e;rw[<- Array.find?_toList] at e;unfold PySem.W.lookIn;rw[k];dsimp only;split
 ·rename_i y q
  rw[q] at e;exact g7 some e
 ·rename_i q
  rw[q] at e;have a:f.toList.any (·.refKey)=false:=by
   rw[List.any_eq_false];intro y j;obtain⟨z,t,b⟩:=l y (gZ.mp j);simp[DictEntry.refKey,b]
  have m:¬f.toList.any (·.refKey)=true:=by rw[a];exact aF
  rw[er m];exact g7 some e
theorem Oe.look{h:Heap}{x b C:Addr}{c:Str->Option Value}(I:Oe h x b C c):∃a,PySem.W.InstAt h x (jA C b) C (some a)/\∀name,PySem.W.lookIn name a=some (c name) :=
 let ⟨a,e,d⟩:=Jr I.ns
 ⟨a,⟨I.obj,rfl,rfl,e⟩,d⟩
section
variable{prog:Program}{w:World}{A:Around}{E:Value->Shared->Prop}{s:Shared}{K:af}{x dx C f:Addr}{mA:Str->Option Value}{name:Str}{v:Value}
theorem get_map{a:Bool}{Q:Value->Shared->Prop}(X:K.In s.heap)(I:Oe s.heap x dx C mA)(d:wH K C name=true)(g:uG K C=true)
 (e:aI K (.ref C) name=some none) (c:mA name=some v) (b:PySem.W.handedIn v=true) (h:Q v {s with toks:=s.toks+1}) :
 wpAny (model prog w) A (getAttr (.ref x) name a) Q E s:=by
 obtain⟨i,J,f⟩:=I.look;exact PySem.W.get_value X J (PySem.W.plainGet_of d).1 (PySem.W.findObj_own g e rfl (by rw[f,c])) b h
theorem TF{pl:Sem Bool}{Q:Value×List Value->Shared->Prop}(X:K.In s.heap)(I:Oe s.heap x dx C mA)(a:wH K C name=true)
 (c:aI K (.ref C) name=some (some (.ref f))) (b:PySem.W.isFn K (.ref f)=true) (d:mA name=none) (h:Q (.ref f,[.ref x]) s) :
 wpAny (model prog w) A (getMethod (.ref x) name pl) Q E s:=by
 obtain⟨g,J,e⟩:=I.look;exact PySem.W.method_fn X J (PySem.W.plainGet_of a).1 (PySem.W.plainGet_of a).2 c (beq_iff_eq.mp b) (by show (PySem.W.lookIn name g).map (·.isSome)=some false;rw[e,d];rfl) h
theorem Wk{ns:List Str}{Q:Unit->Shared->Prop}(X:K.In s.heap)(I:Oe s.heap x dx C mA)
 (q:aI K (.ref C) "__setattr__" = some (some (.builtin "object.__setattr__"))) (l:PySem.W.plainOver K C=true) (j:PySem.W.takerIn K C name=some none) (m:uG K C=true)
 (k:PySem.Within mA ns) (hsz:ns.length<=sizeLine)
 (h:∀h',Oe h' x dx C (λy=>if y=name then some v else mA y)->Heap.SameBut dx s.heap h'->Q () {s with heap:=h',toks:=s.toks+2}) :
 wpAny (model prog w) A (setAttr (.ref x) name v) Q E s:=by
 obtain⟨z,J,u⟩:=I.look;refine PySem.W.set_plain X J q (PySem.W.osa_open (s:={s with toks:=s.toks+1}) (r:=none) X J l j λb=>?_);obtain⟨D,n,f⟩:=PySem.W.any_some m;have t:s.heap.get? x=some ⟨.ref C,some dx,.plain,#[]⟩:=I.obj;refine wpAny_bind (wpAny_pure (wpAny_bind (wpAny_bind (wpAny_loadPart t (wpAny_bind (PySem.W.Looks.here (s:={s with toks:=s.toks+1}) (PySem.W.looks_clsIn X n) ?_))))));rw[f];refine wpAny_pure (a:=some dx) (wpAny_bind (wpAny_pure (wpAny_bind ?_)));refine wpAny_nsSet1 (s:={s with toks:=s.toks+1}) I.ns λh' d c=>?_;obtain⟨B,p,o,i,g,e⟩:=d.count (PySem.Within.cons name v k);refine wpAny_bind (wpAny_lookBehind i (by rw[g];exact pastItsLine_dict (aN e (by rw[bx];lia))) ?_);exact wpAny_pure (h _ ⟨(c.2 _ (bL I.ne)).trans I.obj,d,I.ne⟩ c)
theorem TH{R:Result->Shared->Prop}{vs:List Value}{b:List (Str×Value)}(X:K.In s.heap)(c:PySem.W.makesIn K C=true)
 (i:aI K (.ref C) "__init__" = some (some (.ref f))) (e:PySem.W.typeIn K (.ref f)=some (.type "function"))
 (h:codeAny (model prog w) (A.under (.builtin "type.__call__" ⟨.ref C::vs,b⟩)) (.call (.ref f) ⟨.ref (s.heap.objs.size+1)::vs,b⟩) (PySem.W.InitBack (s.heap.objs.size+1) R)
  {s with heap:=(s.heap.push gm).push (jA C s.heap.objs.size)}) :
 codeAny (model prog w) A (.call (.ref C) ⟨vs,b⟩) R s:=by
 obtain⟨j,g,d,t,os⟩:=s;exact PySem.W.make_core (PySem.W.makes_of X c) (PySem.W.looks_findIn X i) (λa=>PySem.W.bind_fn X a e) (.inl rfl) h
end
noncomputable def yH(f:Str)(v:V):List (Str×V)->List (Str×V)
 |[]=>[(f,v)]
 | (g,x)::r=>if g=f then (g,v)::r else (g,x)::yH f v r
theorem EN(f g:Str)(v:V):∀c:List (Str×V),(yH f v c).lookup g=if g=f then some v else c.lookup g
 |[]=>by
  show qj g [(f,v)]=_;by_cases h:g=f
  ·have a:(g==f)=true:=beq_iff_eq.mpr h
   simp only[qj,a,ee h]
  ·have a:(g==f)=false:=beq_eq_false_iff_ne.mpr h
   simp only[qj,a,er h]
 | (k,x)::r=>by
  have d:=EN f g v r;rw[show yH f v ((k,x)::r)=(if k=f then (k,v)::r else (k,x)::yH f v r) from rfl];by_cases b:k=f
  ·rw[ee b]
   by_cases h:g=k
   ·have a:(g==k)=true:=beq_iff_eq.mpr h
    simp only[qj,a,ee (h.trans b)]
   ·have a:(g==k)=false:=beq_eq_false_iff_ne.mpr h
    simp only[qj,a,er (λe:g=f=>h (e.trans b.symm))]
  ·rw[er b]
   by_cases h:g=k
   ·have a:(g==k)=true:=beq_iff_eq.mpr h
    simp only[qj,a,er (λe:g=f=>b (h.symm.trans e))]
   ·have a:(g==k)=false:=beq_eq_false_iff_ne.mpr h
    simp only[qj,a];exact d
theorem DG(f:Str)(v:V):∀b:List (Str×V),f∈(yH f v b).map (·.1)/\∀g,g∈b.map (·.1)->g∈(yH f v b).map (·.1)
 |[]=>⟨by simp[yH],λg h=>by simp at h⟩
 | (k,x)::r=>by
  obtain⟨d,c⟩:=DG f v r;rw[show yH f v ((k,x)::r)=(if k=f then (k,v)::r else (k,x)::yH f v r) from rfl];by_cases a:k=f
  ·rw[ee a]
   subst a;exact⟨-_,λg h=>by simpa using h⟩
  ·rw[er a]
   refine⟨?_,λg h=>?_⟩
   ·rw[bO]
    exact bu _ d
   ·rw[bO] at h ⊢
    rcases bf.mp h with e|e
    ·exact bf.mpr (.inl e)
    ·exact bu _ (c g e)
theorem EO(f:Str)(v:V):∀b:List (Str×V),(yH f v b).length<=b.length+1
 |[]=>by simp[yH]
 | (k,x)::r=>by
  have c:=EO f v r;rw[show yH f v ((k,x)::r)=(if k=f then (k,v)::r else (k,x)::yH f v r) from rfl];by_cases a:k=f
  ·rw[ee a,bx,bx];lia
  ·rw[er a,bx,bx];lia
theorem yG.some_of{v:V}{o:Option Value}(r:yG (some v) o):∃u,o=some u/\RelV v u:=by
 cases o with
 |none=>exact (show False from r).elim
 |some u=>exact⟨u,rfl,r⟩
theorem yG.none_of{o:Option Value}(r:yG none o):o=none:=by
 cases o with
 |none=>rfl
 |some u=>exact (show False from r).elim
theorem Rq{v:V}{u:Value}(r:RelV v u):PySem.W.handedIn u=true:=by
 cases v with
 |fH=>cases (show u=Value.none from r);rfl
 |bl b=>cases (show u=Value.bool b from r);rfl
 |int i=>obtain⟨t,e⟩:=(show ∃t,u=Value.int i t from r);cases e;rfl
 |str x=>obtain⟨t,e⟩:=(show ∃t,u=Value.str x t from r);cases e;rfl
 |PL b=>obtain⟨t,e⟩:=(show ∃t,u=Value.bytes b t from r);cases e;rfl
 |ZC b=>obtain⟨t,e⟩:=(show ∃t,u=Value.float b t from r);cases e;rfl
 |ref a=>cases (show u=Value.ref a from r);rfl
 |ty n=>cases (show u=Value.type n from r);rfl
section
variable{P:Program}{w:World}{H H':Hp}{h h':Heap}{a C dx:Addr}{fs fs':List (Str×V)}
theorem Gf(c:yM P w H h)(e:H a=some (.ins C dx fs)):∃b,Oe h a dx C b/\(∀f,yG (fs.lookup f) (b f))/\PySem.Within b (fs.map (·.1))/\fs.length<=1000/\H dx=some (.own a):=by
 obtain⟨d,z,i,g,b,n,r,q⟩:=(show fP P w H h a (.ins C dx fs) from c a _ e);exact⟨b,⟨g,n,i⟩,r,q,z,d⟩
end
structure Iq(K:af)(C:Addr):Prop where
 pg:wH K C Str.empty=true
 hd:uG K C=true
 po:PySem.W.plainOver K C=true
 sa:aI K (.ref C) "__setattr__" = some (some (.builtin "object.__setattr__"))
theorem Iq.get{K:af}{C:Addr}(c:Iq K C)(f:Str):wH K C f=true:=c.pg
def dc(K:af)(C:Addr)(f:Str):Prop:=aI K (.ref C) f=some none
theorem dc.acE{K:af}{C:Addr}{f:Str}(n:dc K C f):PySem.W.takerIn K C f=some none:=by
 unfold PySem.W.takerIn;rw[show aI K (.ref C) f=some none from n];rfl
structure Kq(K:af)(C:Addr)(m:Str)(f:Addr):Prop where
 at_:aI K (.ref C) m=some (some (.ref f))
 fn:PySem.W.isFn K (.ref f)=true
 kp:dX K (.ref f)=true
section
variable{X:Cx}{pins:List (Addr×Obj)}{σ:St}{H:Hp}{s:Shared}{a C dx:Addr}{fs:List (Str×V)}{f:Str}{v:V}{A:Around}{E:Value->Shared->Prop}
theorem Of{b:Bool}{Q:Value->Shared->Prop}(I:Inv X pins σ H s)(e:H a=some (.ins C dx fs))(c:Iq X.K C)(n:dc X.K C f)(l:fs.lookup f=some v)
 (h:∀u s',Inv X pins σ H s'->RelV v u->Q u s'):wpAny (model X.prog X.w) A (getAttr (.ref a) f b) Q E s:=by
 obtain⟨g,O,r,_,_,_⟩:=Gf I.hok e;obtain⟨u,i,d⟩:=yG.some_of (v:=v) (o:=g f) (by rw[<- l];exact r f);exact get_map I.Br O (c.get f) c.hd n i (Rq d) (h u _ (I.tok _) d)
theorem GA{m:Str}{g:Addr}{pl:Sem Bool}{Q:Value×List Value->Shared->Prop}(I:Inv X pins σ H s)(e:H a=some (.ins C dx fs))(c:Iq X.K C)(k:Kq X.K C m g)(l:fs.lookup m=none)
 (h:Q (.ref g,[.ref a]) s):wpAny (model X.prog X.w) A (getMethod (.ref a) m pl) Q E s:=by
 obtain⟨b,O,r,_,_,_⟩:=Gf I.hok e;have d:b m=none:=yG.none_of (by rw[<- l];exact r m);exact TF I.Br O (c.get m) k.at_ k.fn d h
theorem Og{y:V}{u:Value}{Q:Unit->Shared->Prop}(I:Inv X pins σ H s)(e:H a=some (.ins C dx fs))(c:Iq X.K C)(n:dc X.K C f)(hl:fs.length<1000)(l:RelV y u)
 (h:∀s',Inv X pins σ (upd H a (.ins C dx (yH f y fs))) s'->Q () s'):wpAny (model X.prog X.w) A (setAttr (.ref a) f u) Q E s:=by
 obtain⟨j,O,r,i,_,k⟩:=Gf I.hok e;have m:(fs.map (·.1)).length<=sizeLine:=by rw[ah,sizeLine_eq];lia
 refine Wk I.Br O c.sa c.po n.acE c.hd i m λt d B=>h _ ?_;have hd:∃o,t.get? dx=some o:=let ⟨o,_,_,v,_⟩:=d.ns;⟨o,v⟩;refine I.write (x:=a) (e:=dx) (by rw[e];exact k6) (.inr k) (λb q p z=>(B.2 b p).trans z) hd ?_;refine⟨by rw[aH O.ne];exact k,?_,O.ne,d.obj,_,d.ns,λg=>?_,λg D=>?_⟩
 ·have:=EO f y fs;lia
 ·show yG ((yH f y fs).lookup g) (if g=f then some u else j g)
  rw[EN];by_cases q:g=f
  ·rw[ee q,ee q];exact l
  ·rw[er q,er q];exact r g
 ·by_cases q:g=f
  ·rw[q];exact (DG f y fs).1
  ·refine (DG f y fs).2 g (i g λz=>D ?_)
   show (if g=f then some u else j g)=none;rw[er q];exact z
theorem Inv.made(I:Inv X pins σ H s):Inv X pins σ (upd (upd H s.heap.objs.size (.own (s.heap.objs.size+1))) (s.heap.objs.size+1) (.ins C s.heap.objs.size []))
 {s with heap:=(s.heap.push gm).push (jA C s.heap.objs.size)}:=by
 have c:(s.heap.push gm).get? s.heap.objs.size=some gm:=Heap.get?_push_size s.heap rfl;have g:((s.heap.push gm).push (jA C s.heap.objs.size)).get? (s.heap.objs.size+1)=some (jA C s.heap.objs.size):=by
  have:=Heap.get?_push_size (s.heap.push gm) (o:=jA C s.heap.objs.size) rfl
  rwa [Heap.size_push] at this
 have h:(s.heap.push gm).Ns s.heap.objs.size (λ_=>none):=⟨gm,#[],_,c,rfl,(λe i=>eL i (-_)),λ_=>rfl⟩;have j:=I.laid (a:=s.heap.objs.size) (o:=.own (s.heap.objs.size+1)) (h':=s.heap.push gm) (t':=s.toks) (λb u q=>Heap.get?_push_of_some _ q) (ay _) ⟨_,c⟩;refine j.laid (a:=s.heap.objs.size+1) (o:=.ins C s.heap.objs.size []) (t':=s.toks) (λb u q=>Heap.get?_push_of_some _ q) (Nat.le_of_eq (Heap.size_push _ _)) ?_;have d:s.heap.objs.size≠s.heap.objs.size+1:=bE (wI _);refine⟨by rw[aH d,au],bN _,d,g,λ_=>none,(Heap.Ns1.of_empty h).at λo q=>Heap.get?_push_of_some _ q,λ_=>k6,λy f=>eL rfl f⟩
theorem Wl{prog:Program}{w:World}{env:Env}{e:Expr}{f:Str}{b:Pos}{s:Shared}{Q:Value->Shared->Prop}(c:attributeBase e f env (eval e env)=eval e env)
 (h:wpAny (model prog w) A (eval e env) (λo a=>wpAny (model prog w) A (getAttr o f true) Q E a) E s):wpAny (model prog w) A (eval (.Attribute e f b) env) Q E s :=
 Attribute_any_ h (by rw[arm_eval_Attribute,c])
end
inductive acF(K:af)(f:Str)(Q:VK)(x:V)(H1:Hp):Prop
 |mk (a C dx:Addr) (fs:List (Str×V)) (v:V) (h1:x=.ref a) (h2:H1 a=some (.ins C dx fs)) (h3:Iq K C) (h4:dc K C f) (h5:fs.lookup f=some v) (h6:Q v H1):acF K f Q x H1
def GB(K:af)(ta:TE)(f:Str):TE:=λσ H Q=>ta σ H (acF K f Q)
def agl(K:af)(ta tv:TE)(f:Str):TS:=λD σ H=>tv σ H λy H1=>ta σ H1 λx H2=>∃a C dx fs,x=.ref a/\H2 a=some (.ins C dx fs)/\Iq K C/\dc K C f/\fs.length<1000 /\
 D.nx σ (upd H2 a (.ins C dx (yH f y fs)))
section
variable{X:Cx}{o e value:Expr}{f:Str}{pos pos' tpos:Pos}{ta tv:TE}
theorem aY(j:PE X e ta)(k:attributeBase e f X.env (eval e X.env)=eval e X.env):PE X (.Attribute e f pos) (GB X.K ta f):=by
 intro b s r H Q I h;refine Wl k (gz (j b s r H _ I h) λu z ⟨x,o,m,d,a,C,y,w,v,g,t,c,n,l,q⟩=>?_);subst g;obtain rfl:u=Value.ref a:=d;exact Of m t c n l λB A p i=>⟨v,o,p,i,q⟩
theorem fZ(r:PE X o ta)(g:PE X value tv)(B:swapsWith value (some (.Attribute o f pos')) pos.line X.env=pure false):PS X (.Assign [.Attribute o f pos'] value pos) (agl X.K ta tv f):=by
 intro b s d H D I h;refine plainObj_wpAny_Assign_Attribute (gz (g b s d H _ I h) λu k ⟨y,w,t,j,q⟩=>gz (r b k d w _ t q) λp J ⟨x,G,z,e,a,C,F,E,m,A,c,n,l,i⟩=>?_) B;subst m;obtain rfl:p=Value.ref a:=e;exact Og z A c n l j λL v=>⟨d,_,v,i⟩
end
section
variable{X:Cx}{pins:List (Addr×Obj)}{σ:St}{H:Hp}{s:Shared}{A:Around}{E:Value->Shared->Prop}{Q:Value->Shared->Prop}{c:Value}{b:Bool}
inductive DH(K:af)(H:Hp):V->Value->Prop where
 |fH:DH K H .fH (.type "NoneType")
 |bl (x:Bool):DH K H (.bl x) (.type "bool")
 |int (i:Int):DH K H (.int i) (.type "int")
 |str (x:Str):DH K H (.str x) (.type "str")
 |ZC (x:UInt64):DH K H (.ZC x) (.type "float")
 |lst {a:Addr} {xs:List V} (e:H a=some (.lst xs)):DH K H (.ref a) (.type "list")
 |Ax {a:Addr} {o:Obj} {xs:List V} (e:H a=some (.Ax o (.lst xs))):DH K H (.ref a) (.type "list")
 |tup {a:Addr} {xs:List V} (e:H a=some (.tup xs)):DH K H (.ref a) (.type "tuple")
 |dK {a:Addr} {kvs:List (Key×V)} (e:H a=some (.dK kvs)):DH K H (.ref a) (.type "dict")
 |dT {a:Addr} {kvs:List (List Key×V)} (e:H a=some (.dT kvs)):DH K H (.ref a) (.type "dict")
 |ins {a C dx:Addr} {fs:List (Str×V)} (e:H a=some (.ins C dx fs)) (cl:Iq K C) (ha:aI K (.ref C) "__class__" = some (some (.builtin "object.__class__")))
  (hn:PySem.W.specialIn K (.builtin "object.__class__") "__get__" = some (some (.builtin "getset_descriptor.__get__"))) (htk:PySem.W.takesIn K (.builtin "object.__class__")=some true)
  (hm:PySem.W.mroIn K C (.type "object")=some true):DH K H (.ref a) (.ref C)
theorem Rr{x:V}{u t:Value}(I:Inv X pins σ H s)(d:RelV x u)(L:DH X.K H x t)(e:PySem.W.kitOne X.K t c=some b)(h:∀tk,Q (.bool b) {s with toks:=tk}) :
 wpAny (model X.prog X.w) A (call (.builtin "isinstance") [u,c]) Q E s:=by
 cases L with
 |fH=>cases (show u=Value.none from d);exact dP PySem.W.kitx_none I.Br k6 e (λz=>nomatch z) h
 |bl y=>cases (show u=Value.bool y from d);exact dP PySem.W.kitx_bool I.Br k6 e (λz=>nomatch z) h
 |int i=>obtain⟨t,q⟩:=(show ∃t,u=Value.int i t from d);cases q;exact dP PySem.W.kitx_int I.Br k6 e (λz=>nomatch z) h
 |str y=>obtain⟨t,q⟩:=(show ∃t,u=Value.str y t from d);cases q;exact dP PySem.W.kitx_str I.Br k6 e (λz=>nomatch z) h
 |ZC y=>obtain⟨t,q⟩:=(show ∃t,u=Value.float y t from d);cases q;exact dP PySem.W.kitx_float I.Br k6 e (λz=>nomatch z) h
 |@lst a k f =>
  cases (show u=Value.ref a from d);obtain⟨_,_,n,_,g⟩:=(show fP X.prog X.w H s.heap a (.lst k) from I.hok a _ f);exact dP PySem.W.kitx_list I.Br ⟨_,g,rfl⟩ e (λz=>nomatch z) h
 |@Ax a B k f =>
  cases (show u=Value.ref a from d);obtain⟨_,_,_,n,_,g⟩:=(show fP X.prog X.w H s.heap a (.Ax B (.lst k)) from I.hok a _ f);exact dP PySem.W.kitx_list I.Br ⟨_,g,rfl⟩ e (λz=>nomatch z) h
 |@tup a k f =>
  cases (show u=Value.ref a from d);obtain⟨_,_,_,p⟩:=(show fP X.prog X.w H s.heap a (.tup k) from I.hok a _ f);obtain⟨o,g,l,_⟩:=p;exact dP PySem.W.kitx_tuple I.Br ⟨o,g,l⟩ e (λz=>nomatch z) h
 |@dK a j f =>
  cases (show u=Value.ref a from d);obtain⟨_,_,R,_,p⟩:=(show fP X.prog X.w H s.heap a (.dK j) from I.hok a _ f);obtain⟨o,F,r,g,l,_⟩:=p;exact dP PySem.W.kitx_dict I.Br ⟨o,g,l.1⟩ e (λz=>nomatch z) h
 |@dT a j f =>
  cases (show u=Value.ref a from d);obtain⟨_,_,k,_,o,F,r,g,l,_⟩:=(show fP X.prog X.w H s.heap a (.dT j) from I.hok a _ f);exact dP PySem.W.kitx_dict I.Br ⟨o,g,l.1⟩ e (λz=>nomatch z) h
 |@ins a C N M f cl D G m v =>
  cases (show u=Value.ref a from d);obtain⟨P,O,_⟩:=Gf I.hok f;obtain⟨S,J,_⟩:=O.look;exact dP (PySem.W.kitx_own (cl.get _) cl.hd D G m v) I.Br J e (λz=>nomatch z) h
end
structure jE(k:Nat)(A:Around):Prop where
 hd:A.handled=none
 dp:A.depth+3*k+5<recursionLimit
 un:A.units+16*k+200<cLine
theorem jE.mono{j k:Nat}{A:Around}(r:jE k A)(h:j<=k):jE j A:=⟨r.hd,by have:=r.dp;lia,by have:=r.un;lia⟩
theorem jE.deeper{k:Nat}{A:Around}(r:jE (k+1) A)(env:Env):jE k (A.deeper env) :=
 ⟨r.hd,by have:=r.dp;show A.depth+1+3*k+5<_;lia,by have:=r.un;show A.units+3+16*k+200<_;lia⟩
theorem Oh{A:Around}{C:Addr}{us:List Value}{a:List (Str×Value)}:(A.under (.builtin "type.__call__" ⟨.ref C::us,a⟩)).depth=A.depth+1:=by
 first|rfl|simp[Around.under,Code.weight,Code.isCreation,Code.isGuard,Code.isCaller,Code.frames,Code.isFrame,guardIds]
theorem Oi{A:Around}{C:Addr}{us:List Value}{a:List (Str×Value)}:(A.under (.builtin "type.__call__" ⟨.ref C::us,a⟩)).units=A.units+1:=by
 first|rfl|simp[Around.under,Code.cUnits,Code.frames,Code.isFrame]
theorem jE.make{k:Nat}{A:Around}(r:jE (k+1) A)(C:Addr)(us:List Value)(a:List (Str×Value)):jE k (A.under (.builtin "type.__call__" ⟨.ref C::us,a⟩)) :=
 ⟨r.hd,by have:=r.dp;rw[Oh];lia,by have:=r.un;rw[Oi];lia⟩
theorem jE.depth{k:Nat}{A:Around}(r:jE k A):A.depth<recursionLimit:=by have:=r.dp;lia
theorem jE.units{k:Nat}{A:Around}(r:jE k A):A.units+64<cLine:=by have:=r.un;lia
def Cw:TA:=λ_ H Q=>Q [] H
def gG(ta:TE)(tr:TA):TA:=λσ H Q=>ta σ H λx H1=>tr σ H1 λxs H2=>Q (x::xs) H2
section
variable{X:Cx}{e:Expr}{es:List Expr}{te:TE}{t:TA}{pos:Pos}
theorem iP:PA X [] Cw:=λ_ _ _ _ H Q I h=>Calls.spliced_nil ⟨[],H,I,.nil,h⟩
theorem Wm(j:PE X e te)(q:PA X es t)(o:starEach (e::es) X.env=(false,eval e X.env)::starEach es X.env:=by rfl):PA X (e::es) (gG te t):=by
 intro pos a s b H Q I h;rw[o];show wpAny _ _ (spliced ((false,eval e X.env)::backTo pos (starEach es X.env))) _ _ s;refine Calls.spliced_cons (gz (j a s b H _ I h) λu i ⟨x,l,k,p,c⟩=>?_);exact gz (q pos a i b l _ k c) λv r ⟨f,g,m,n,d⟩=>⟨x::f,g,m,.cons p n,d⟩
def agm(t:TA):TE:=λσ H Q=>t σ H λxs H1=>xs.length<=sizeLine/\∀p,H1 p=none->Q (.ref p) (upd H1 p (.tup xs))
def agn(t:TA):TE:=λσ H Q=>t σ H λxs H1=>xs.length<=sizeLine/\∀p,H1 p=none->Q (.ref p) (upd H1 p (.lst xs))
theorem dU{x1}(h:PA X es t):PE X (.Tuple es x1 pos) (agm t):=by
 intro a s k H Q I j;refine wpAny_Tuple_spliced (gz (h pos a s k H _ I j) λl c ⟨g,f,d,r,z,q⟩=>⟨by rw[<- r.length];exact z,?_⟩);have i:f c.heap.objs.size=none:=d.hok.fresh (ay _);refine⟨.ref c.heap.objs.size,upd f c.heap.objs.size (.tup g),d.laid (t':=c.toks) (λb u e=>Heap.get?_push_of_some _ e) (ay _) ?_,rfl,q _ i⟩;exact⟨z,l,r,⟨_,Heap.get?_push_size _ rfl,rfl,_,rfl⟩⟩
theorem jq(h:PA X es t):PE X (.List es pos) (agn t):=by
 intro a s k H Q I j;refine wpAny_List_spliced (gz (h pos a s k H _ I j) λl c ⟨g,f,d,r,z,q⟩=>⟨by rw[<- r.length];exact z,?_⟩);have i:f c.heap.objs.size=none:=d.hok.fresh (ay _);refine⟨.ref c.heap.objs.size,upd f c.heap.objs.size (.lst g),d.laid (t':=c.toks) (λb u e=>Heap.get?_push_of_some _ e) (ay _) ?_,rfl,q _ i⟩;exact⟨z,l,0,r,Heap.get?_push_size _ rfl⟩
end
abbrev Sp:=List V->Hp->VK->XK->Prop
abbrev Rt:=List Env->Hp->Shared->XK->Value->Shared->Prop
structure Oj(P:Program)(w:World)(K:af)(mg:Str->Option Value)(base:Heap)(A:Around)(outer:List Env)(s:Shared)(H:Hp):Prop where
 frames:A.frames=some outer
 mod:Mod K mg base
 bs:∀b o,base.get? b=some o->s.heap.get? b=some o/\H b=none
 VW:base.objs.size<=s.heap.objs.size
 Cr:s.heap.FunFrames base outer
 Yp:∀b∈frs outer,H b=none
 hok:yM P w H s.heap
 bare:AllBare s.gens
def CE(outer:List Env)(P:Program)(w:World)(H:Hp)(s:Shared)(Q:VK)(u:Value)(s':Shared):Prop :=
 ∃v H',s'.os=s.os/\AllBare s'.gens/\Un (frs outer) [] H H' s.heap s'.heap/\yM P w H' s'.heap/\RelV v u/\Q v H'
def CR(CX:Rt)(outer:List Env)(P:Program)(w:World)(H:Hp)(s:Shared)(Q:VK)(E:XK)(r:Result)(s':Shared):Prop :=
 match r with
 |.ok (.ret u)=>CE outer P w H s Q u s'
 |.ok _=>False
 |.error e=>CX outer H s E e s'
structure cz(P:Program)(w:World)(K:af)(mg:Str->Option Value)(base:Heap)(CX:Rt)(k:Nat)(f:Addr)(fd:FuncData)(ps:List Str)(sp:Sp):Prop where
 len:∀vs H Q E,sp vs H Q E->vs.length=ps.length
 run:∀(A:Around) (outer:List Env) (s:Shared) (H:Hp) (args:Args) (us:List Value) (vs:List V) (Q:VK) (E:XK),jE k A->Oj P w K mg base A outer s H->BindsTo s fd args (ps.zip us)->bZ vs us->sp vs H Q E ->
  codeAny (model P w) A (.call (.ref f) args) (CR CX outer P w H s Q E) s
theorem Oj.make{P:Program}{w:World}{K:af}{b:Str->Option Value}{base:Heap}{A:Around}{a:List Env}{s:Shared}{H:Hp}(e:Oj P w K b base A a s H)(C:Addr)(us:List Value)(c:List (Str×Value)) :
 Oj P w K b base (A.under (.builtin "type.__call__" ⟨.ref C::us,c⟩)) a s H:=⟨by first|exact e.frames|(simpa [Around.under,Code.envs,Code.isFrame,pushEnvs] using e.frames),e.mod,e.bs,e.VW,e.Cr,e.Yp,e.hok,e.bare⟩
section
variable{X:Cx}{pins:List (Addr×Obj)}{σ:St}{H:Hp}{s s':Shared}
theorem Inv.acG(I:Inv X pins σ H s):Oj X.prog X.w X.K X.mg X.base X.A X.stack s H :=
 ⟨I.ok.frames,I.ok.mod,I.bs,aN I.ok.VW I.sz,I.stack,I.Kf,I.hok,I.bare⟩
theorem Inv.after{Q:VK}{u:Value}(I:Inv X pins σ H s)(h:CE X.stack X.prog X.w H s Q u s'):EP X pins σ Q u s':=by
 obtain⟨v,f,os,a,j,e,r,q⟩:=h;obtain⟨i,g,d,t,c⟩:=s';obtain rfl:c=s.os:=os;exact⟨v,f,I.call (h':=i) (g':=g) (d':=d) (t':=t) (ch:=[]) j e a (λb z=>eL z (-_)),r,q⟩
end
def Yw(sp:Sp)(Bu:List V)(E:XK)(t:TA):TE:=λσ H Q=>t σ H λvs H1=>sp (vs++Bu) H1 Q E
inductive Yx(C:Addr)(m:Str)(sp:Sp)(Bu:List V)(E:XK)(t:TA)(σ:St)(Q:VK)(x:V)(H1:Hp):Prop
 |mk (a dx:Addr) (fs:List (Str×V)) (h1:x=.ref a) (h2:H1 a=some (.ins C dx fs)) (h3:fs.lookup m=none) (h4:t σ H1 λvs H2=>sp (x::(vs++Bu)) H2 Q E):Yx C m sp Bu E t σ Q x H1
def ER(C:Addr)(m:Str)(sp:Sp)(Bu:List V)(E:XK)(ta:TE)(t:TA):TE:=λσ H Q=>ta σ H (Yx C m sp Bu E t σ Q)
def TJ(C:Addr)(sp:Sp)(Bu:List V)(E:XK)(t:TA):TE:=λσ H Q=>t σ H λvs H1=>∀x dx,H1 x=none->H1 dx=none->dx≠x ->
 sp (.ref x::(vs++Bu)) (upd (upd H1 dx (.own x)) x (.ins C dx [])) (λv H2=>v=.fH/\Q (.ref x) H2) E
def Binds(K:af)(fd:FuncData)(ps:List Str)(ds:List Value):Prop :=
 ∀(s:Shared) (us:List Value),K.In s.heap->(us++ds).length=ps.length->BindsTo s fd ⟨us,[]⟩ (ps.zip (us++ds))
theorem Binds.all{K:af}{b:FuncData}{ps:List Str}(h:∀us:List Value,us.length=ps.length->bindArgs b ⟨us,[]⟩=pure (ps.zip us)):Binds K b ps []:=λs us _ a=>by
 rw[bY] at a ⊢;exact .of_eq (h us a)
def sf(CX:Rt)(X:Cx)(E:XK):Prop:=∀(pins:List (Addr×Obj)) (σ:St) (H:Hp) (s:Shared) (e:Value) (s':Shared),Inv X pins σ H s->CX X.stack H s E e s'->X.xe e s'
section
variable{X:Cx}{CX:Rt}{k:Nat}{f C:Addr}{fd:FuncData}{ps:List Str}{sp:Sp}{Bu:List V}{ds:List Value}{E:XK}{x m:Str}{p pos apos:Pos}{e o:Expr}{es:List Expr}{ta:TE}{t:TA}
theorem Kr{a:List (Addr×Obj)}{c:St}{H:Hp}{s:Shared}{Q:VK}{us:List Value}{vs:List V}(F:cz X.prog X.w X.K X.mg X.base CX k f fd ps sp)(o:jE k X.A)(i:Binds X.K fd ps ds)(j:bZ Bu ds)(l:sf CX X E)
 (I:Inv X a c H s) (r:bZ vs us) (h:sp (vs++Bu) H Q E):wpAny (model X.prog X.w) X.A (call (.ref f) us) (EP X a c Q) X.xe s:=by
 have d:bZ (vs++Bu) (us++ds):=r.append j;have g:(us++ds).length=ps.length:=by rw[<- d.length];exact F.len _ _ _ _ h
 refine wpAny_call (codeAny_mono (F.run X.A X.stack s H ⟨us,[]⟩ (us++ds) (vs++Bu) Q E o I.acG (i s us I.Br g) d h) λr n b=>?_);cases r with
 |error e=>exact l a c H s e n I b
 |ok m =>
  cases m with
  |ret u=>exact I.after b
  |next=>exact jC b
  |brk=>exact jC b
  |cont=>exact jC b
theorem AB(F:cz X.prog X.w X.K X.mg X.base CX k f fd ps sp)(y:jE k X.A)(v:Gl X x)(g:X.mg x=some (.ref f))(n:dX X.K (.ref f)=true)(l:Binds X.K fd ps ds)(m:bZ Bu ds)(o:sf CX X E)
 (i:PA X (e::es) t) (c:(x==("__debug__" : Str))=false:=by decide) (j:starEach (e::es) X.env=(false,eval e X.env)::starEach es X.env:=by rfl) (b:(backTo pos (starEach es X.env)).any (·.1)=false:=by rfl) :
 PE X (.Call (.Name x p) (e::es) [] pos) (Yw sp Bu E t):=by
 intro a s u H Q I h;refine wpAny_Call_Name_kw (Cs I v g ?_ c);refine PySem.W.callWith_K (h₀:=X.base) I.ok.mod.ZE n (gz (i pos a s u H _ I h) λD z ⟨C,B,d,r,q⟩=>⟨d.Br,?_⟩) j b;exact Kr F y l m o d r q
theorem Cy{pl:Sem Bool}(J:PE X o ta)(c:Iq X.K C)(hm:Kq X.K C m f)(F:cz X.prog X.w X.K X.mg X.base CX k f fd ps sp)(R:jE k X.A)(L:Binds X.K fd ps ds)(M:bZ Bu ds)(O:sf CX X E)(G:PA X (e::es) t)
 (g:starEach (e::es) X.env=(false,eval e X.env)::starEach es X.env:=by rfl) (d:(backTo pos (starEach es X.env)).any (·.1)=false:=by rfl)
 (v:eval (.Call (.Attribute o m apos) (e::es) [] pos) X.env=(do
  let i <- eval o X.env
  standAt apos.atName
  let (f,first) <- holding [i] (getMethod i m pl)
  callWith pos f first (backTo pos (starEach (e::es) X.env)) (backToKw pos (keywordEach [] X.env))):=by rfl) :
 PE X (.Call (.Attribute o m apos) (e::es) [] pos) (ER C m sp Bu E ta t):=by
 intro b s p H Q I h;refine PySem.W.methodCall_KW (pl:=pl) (gz (J b s p H _ I h) λu D ⟨x,N,j,y,a,T,S,B,P,l,q⟩=>?_) v;subst B;obtain rfl:u=Value.ref a:=y;refine GA j P c hm l ?_;refine PySem.W.callWith_K (first:=[.ref a]) (h₀:=X.base) I.ok.mod.ZE hm.kp (gz (G pos b D p N _ j q) λus V ⟨vs,U,n,r,z⟩=>⟨n.Br,?_⟩) g d;exact Kr (us:=.ref a::us) (vs:=.ref a::vs) F R L M O n (.cons rfl r) z
theorem kD{pl:Sem Bool}(n:PE X o ta)(c:Iq X.K C)(hm:Kq X.K C m f)(F:cz X.prog X.w X.K X.mg X.base CX k f fd ps sp)(z:jE k X.A)(p:Binds X.K fd ps ds)(r:bZ Bu ds)(t:sf CX X E)
 (g:eval (.Call (.Attribute o m apos) [] [] pos) X.env=(do
  let e <- eval o X.env
  standAt apos.atName
  let (f,first) <- holding [e] (getMethod e m pl)
  callWith pos f first (backTo pos (starEach [] X.env)) (backToKw pos (keywordEach [] X.env))):=by rfl) :
 PE X (.Call (.Attribute o m apos) [] [] pos) (ER C m sp Bu E ta Cw):=by
 intro b s v H Q I h;refine PySem.W.methodCall_KW (pl:=pl) (gz (n b s v H _ I h) λu G ⟨x,J,d,i,a,D,B,j,y,l,q⟩=>?_) g;subst j;obtain rfl:u=Value.ref a:=i;refine GA d y c hm l ?_;exact PySem.W.callWith_K0 (first:=[.ref a]) d.Br hm.kp (Kr (us:=[.ref a]) (vs:=[.ref a]) F z p r t d (.cons rfl .nil) q)
structure Mk(K:af)(C f:Addr):Prop where
 makes:PySem.W.makesIn K C=true
 init:aI K (.ref C) "__init__" = some (some (.ref f))
 fn:PySem.W.isFn K (.ref f)=true
 kp:dX K (.ref C)=true
theorem L0{a:List (Addr×Obj)}{g:St}{H:Hp}{s:Shared}{Q:VK}{us:List Value}{vs:List V}(M:Mk X.K C f)(F:cz X.prog X.w X.K X.mg X.base CX k f fd ps sp)(J:jE (k+1) X.A)(o:Binds X.K fd ps ds)(p:bZ Bu ds)
 (B:sf CX X E) (I:Inv X a g H s) (r:bZ vs us)
 (h:∀x c,H x=none->H c=none->c≠x->sp (.ref x::(vs++Bu)) (upd (upd H c (.own x)) x (.ins C c [])) (λv m=>v=.fH/\Q (.ref x) m) E) :
 wpAny (model X.prog X.w) X.A (call (.ref C) us) (EP X a g Q) X.xe s:=by
 have i:=h (s.heap.objs.size+1) s.heap.objs.size (I.hok.fresh (cV _)) (I.hok.fresh (ay _)) (bE (wI _));have d:=Inv.made (C:=C) I;have j:bZ (V.ref (s.heap.objs.size+1)::(vs++Bu)) (Value.ref (s.heap.objs.size+1)::(us++ds)):=.cons rfl (r.append p);have n:(Value.ref (s.heap.objs.size+1)::us++ds).length=ps.length:=by
  have e:=j.length;rw[F.len _ _ _ _ i] at e;exact e.symm
 refine wpAny_call (TH (f:=f) I.Br M.makes M.init (beq_iff_eq.mp M.fn) (codeAny_mono (F.run _ X.stack _ _ ⟨Value.ref (s.heap.objs.size+1)::us,[]⟩ (Value.ref (s.heap.objs.size+1)::(us++ds)) _ _ E (J.make C us [])
  (d.acG.make C us []) (o _ (Value.ref (s.heap.objs.size+1)::us) d.Br n) j i) λr G b=>?_))
 cases r with
 |error e=>exact B a g _ _ e G d b
 |ok D =>
  cases D with
  |ret u =>
   obtain⟨v,l,t,y,q,z⟩:=d.after b;subst q;exact⟨y,⟨V.ref (s.heap.objs.size+1),l,t,rfl,z⟩⟩
  |next=>exact jC b
  |brk=>exact jC b
  |cont=>exact jC b
theorem PZ(M:Mk X.K C f)(F:cz X.prog X.w X.K X.mg X.base CX k f fd ps sp)(v:jE (k+1) X.A)(u:Gl X x)(g:X.mg x=some (.ref C))(l:Binds X.K fd ps ds)(m:bZ Bu ds)(n:sf CX X E)
 (i:PA X (e::es) t) (c:(x==("__debug__" : Str))=false:=by decide) (j:starEach (e::es) X.env=(false,eval e X.env)::starEach es X.env:=by rfl) (b:(backTo pos (starEach es X.env)).any (·.1)=false:=by rfl) :
 PE X (.Call (.Name x p) (e::es) [] pos) (TJ C sp Bu E t):=by
 intro a s o H Q I h;refine wpAny_Call_Name_kw (Cs I u g ?_ c);refine PySem.W.callWith_K (h₀:=X.base) I.ok.mod.ZE M.kp (gz (i pos a s o H _ I h) λD y ⟨B,z,d,r,q⟩=>⟨d.Br,?_⟩) j b;exact L0 M F v l m n d r q
theorem TL(M:Mk X.K C f)(F:cz X.prog X.w X.K X.mg X.base CX k f fd ps sp)(c:jE (k+1) X.A)(e:Gl X x)(d:X.mg x=some (.ref C))(i:Binds X.K fd ps ds)(j:bZ Bu ds)(g:sf CX X E)
 (a:(x==("__debug__" : Str))=false:=by decide):PE X (.Call (.Name x p) [] [] pos) (TJ C sp Bu E Cw):=by
 intro b s l H Q I h;refine wpAny_Call_Name_kw (Cs I e d ?_ a);exact PySem.W.callWith_K0 I.Br M.kp (L0 (us:=[]) M F c i j g I .nil h)
end
structure aJ(N P:List Str)(sc:Scope):Prop where
 kind:sc.kind=.function
 co:sc.isCoroutine=false
 gen:sc.isGenerator=false
 nd:N.Nodup
 pre:N.take P.length=P
 par:∀x∈P,sc.names.lookup x=some .local∨sc.names.lookup x=some .cell
 Z1:∀y∈sc.names,y.2≠.free
theorem Js{kindOf:Str->Option NameKind}{x:Str}:∀{a:List (Str×Value)} {m:Str->Option Value},(∀v,(x,v)∉a)->bindL kindOf a m x=m x
 |[],_,_=>rfl
 | (n,v)::r,m,h=>by
  unfold bindL;rw[Js λw b=>h w (bu _ b)];split
  ·have:x≠n:=by rintro rfl;exact h v b9
   simp[this]
  ·rfl
theorem Jt{kindOf:Str->Option NameKind}{x:Str}:∀{a:List (Str×Value)} {m:Str->Option Value},(∀v,(x,v)∉a)->bindC kindOf a m x=m x
 |[],_,_=>rfl
 | (n,v)::r,m,h=>by
  unfold bindC;rw[Jt λw b=>h w (bu _ b)];split
  ·rfl
  ·have:x≠n:=by rintro rfl;exact h v b9
   simp[this]
theorem Ju{kindOf:Str->Option NameKind}{x:Str}{v:Value}:∀{P:List Str} {vs:List Value} {i:Nat} {m:Str->Option Value},P.Nodup->P[i]?=some x->vs[i]?=some v->kindOf x=some .local ->
 bindL kindOf (P.zip vs) m x=some v
 |[],_,_,_,_,h,_,_=>by simp at h
 |_::_,[],_,_,_,_,h,_=>by simp at h
 |p::P,w::vs,0,m,nd,b,a,c=>by
  simp at b a;subst b;subst a;show bindL kindOf ((p,w)::P.zip vs) m p=_;unfold bindL;rw[Js λv d=>(mG.mp nd).1 (List.of_mem_zip d).1,ee c];simp
 |p::P,w::vs,i+1,m,nd,b,a,c=>by
  show bindL kindOf ((p,w)::P.zip vs) m x=_;unfold bindL;exact Ju (i:=i) (mG.mp nd).2 (by simpa using b) (by simpa using a) c
theorem Jv{kindOf:Str->Option NameKind}{x:Str}{v:Value}:∀{P:List Str} {vs:List Value} {i:Nat} {m:Str->Option Value},P.Nodup->P[i]?=some x->vs[i]?=some v->kindOf x≠some .local ->
 bindC kindOf (P.zip vs) m x=some v
 |[],_,_,_,_,h,_,_=>by simp at h
 |_::_,[],_,_,_,_,h,_=>by simp at h
 |p::P,w::vs,0,m,nd,b,a,c=>by
  simp at b a;subst b;subst a;show bindC kindOf ((p,w)::P.zip vs) m p=_;unfold bindC;rw[Jt λv d=>(mG.mp nd).1 (List.of_mem_zip d).1,er c];simp
 |p::P,w::vs,i+1,m,nd,b,a,c=>by
  show bindC kindOf ((p,w)::P.zip vs) m x=_;unfold bindC;exact Jv (i:=i) (mG.mp nd).2 (by simpa using b) (by simpa using a) c
noncomputable def start(N:List Str)(vs:List V):St:=vs.map some++k7 (N.length-vs.length) none
noncomputable def oj(CX:Rt)(P:Program)(w:World)(K:af)(mg:Str->Option Value)(base:Heap)(N:List Str)(qual:Str)(scope:Scope)(f:Addr)(cd:Value)(A:Around)(outer:List Env)(s:Shared)(H:Hp)(E:XK):Cx where
 prog:=P
 w:=w
 K:=K
 mg:=mg
 base:=base
 A:=A.deeper (envOfC qual scope s.heap.objs.size f cd)
 N:=N
 s₀:=s
 H₀:=H
 env:=envOfC qual scope s.heap.objs.size f cd
 outer:=outer
 stack:=envOfC qual scope s.heap.objs.size f cd::outer
 ex:=[]
 calm:=true
 fn:=λ_=>true
 pn:=[]
 xe:=λe s'=>wpAny (model P w) (A.deeper (envOfC qual scope s.heap.objs.size f cd)) (leaving (envOfC qual scope s.heap.objs.size f cd) e) (λ_ s''=>CX outer H s E e s'') (λe' s''=>CX outer H s E e' s'') s'
theorem L1{a:Scope}{n:Nat}{x:Str}(h:a.names.lookup x=some .cell):∃c,(cellsFrom n a.names []).lookup x=some c:=by
 have q:=PySem.W.cellsFrom_some a.names n [] (.inl h);exact Option.isSome_iff_exists.mp q
theorem Ru{CX:Rt}{P:Program}{w:World}{K:af}{F:Str->Option Value}{base:Heap}{N ps:List Str}{g:Str}{scope:Scope}{f:Addr}{D:Value}{A:Around}{d:List Env}{s I:Shared}{H:Hp}{E:XK}{us:List Value}{vs:List V}
 (S:aJ N ps scope) (O:A.handled=none) (l:Oj P w K F base A d s H) (hl:vs.length=ps.length) (r:bZ vs us)
 (x:InCallC s s.heap.objs.size (bindL (envOfC g scope s.heap.objs.size f D).kindOf (ps.zip us) λ_=>none) (cellsFrom (s.heap.objs.size+1) scope.names []) (bindC (envOfC g scope s.heap.objs.size f D).kindOf (ps.zip us) λ_=>none) I) :
 Inv (oj CX P w K F base N g scope f D A d s H E) [] (start N vs) H I:=by
 have L:ps.length<=N.length:=by have:=g7 List.length S.pre;rw[bQ] at this;lia
 obtain⟨C,R,rfl,J⟩:=x.done;have m:∀b:Addr,b∉(oj CX P w K F base N g scope f D A d s H E).ex:=λb z=>eL (show b∈([]:List Addr) from z) (-_);refine⟨⟨l.mod,S.kind,rfl,rfl,ay _,λy z c C j=>?_,λy hy=>?_,λy c _ h=>?_,λ_=>O,Around.frames_deeper l.frames,.inr ⟨rfl,rfl⟩,λb z=>eL z (m b),l.bs,l.VW,λb _ _=>m b,λb z=>eL z (m b),l.Cr,l.Yp⟩,
  rfl,l.bare,Un.kept J,⟨_,x.toInCall.ns,λi y v C j T=>?_⟩,λy c h=>⟨_,x.cell y c h⟩,l.hok.fresh (ay _),λy c h=>?_,λp o=>eL (show p∈([]:List (Addr×Obj)) from o) (-_),l.hok.kept J,?_⟩
 ·exact name_of_addr x.apart (qi C) (qi j)
 ·have hy:scope.names.lookup y=some .cell∨scope.names.lookup y=some .free:=hy
  rcases hy with hy|hy
  ·exact L1 hy
  ·exact eL rfl (S.Z1 _ (qi hy))
 ·exact kg (x.above y c (qi h))
 ·have B:i<vs.length:=by
   unfold start at j;by_cases B:i<vs.length
   ·exact B
   ·rw[cu (by simpa using B)] at j
    rw[List.getElem?_replicate] at j;split at j <;> cases j
  have M:vs[i]?=some v:=by
   unfold start at j;rw[bM (by simpa using B),aj] at j;cases e:vs[i]? with
   |none=>rw[e] at j;cases j
   |some a=>rw[e] at j;cases j;rfl
  obtain⟨u,G,Q⟩:=r.get M;have o:ps[i]?=some y:=by
   rw[<- S.pre,List.getElem?_take_of_lt ∅];exact C
  have t:ps.Nodup:=by rw[<- S.pre];exact S.nd.sublist (List.take_sublist _ _)
  refine⟨u,Q,?_⟩;rcases S.par y (aM o) with k|k
  ·exact .inl ⟨k,Ju t o G k⟩
  ·obtain⟨c,e⟩:=L1 (n:=s.heap.objs.size+1) k
   refine .inr ⟨.inl k,c,e,?_⟩;have q:=x.cell y c e;rw[Jv t o G (by show scope.names.lookup y≠_;rw[k];decide)] at q;exact q
 ·exact l.hok.fresh (kg (x.above y c (qi h)))
 ·unfold start
  show _=N.length;rw[av,ah,List.length_replicate];lia
theorem TM{CX:Rt}{P:Program}{w:World}{K:af}{F:Str->Option Value}{base:Heap}{k:Nat}{f:Addr}{name c:Str}{g:Arguments}{h:List Stmt}{scope:Scope}{dV kV z U d ct oc:Value}{X od:Option Addr}
 {R:Array (Option Value)} {N ps:List Str} {sp:Sp} (lk:K.lookup f=some ⟨oc,od,.func (eT name c g h scope dV kV z U X d ct),R⟩) (T:jm K d c=true) (S:aJ N ps scope)
 (B:∀vs H Q E,sp vs H Q E->vs.length=ps.length)
 (l:∀(A:Around) (a:List Env) (s:Shared) (H:Hp) (vs:List V) (Q:VK) (E:XK),jE k (A.deeper (envOfC c scope s.heap.objs.size f d))->sp vs H Q E ->
  ∃t,iC (oj CX P w K F base N c scope f d A a s H E) h t/\t {nx:=λ_ j=>Q .fH j,rt:=Q} (start N vs) H) :
 cz P w K F base CX (k+1) f (eT name c g h scope dV kV z U X d ct) ps sp:=by
 refine⟨B,λA a s H Z us vs Q E M D hb r SQ=>?_⟩;have hl:=B _ _ _ _ SQ;have KX:K.In s.heap:=D.mod.ZE.keeps λb o e=>(D.bs b o e).1;have G:s.heap.NoLimit:=D.mod.nolimit.keeps λb o e=>(D.bs b o e).1;have m:∀y∈ps.zip us,scope.names.lookup y.1=some .local∨(scope.names.lookup y.1=some .cell/\((cellsFrom (s.heap.objs.size+1) scope.names []).lookup y.1).isSome=true):=λ⟨n,v⟩ hy=>by
  rcases S.par n (List.of_mem_zip hy).1 with q|q
  ·exact .inl q
  ·exact .inr ⟨q,PySem.W.cellsFrom_some _ _ _ (.inl q)⟩
 refine codeAny_call_function M.depth (KX _ _ lk) rfl S.co S.gen rfl (PySem.W.codeRec_of KX T) (hb _ _ _ _ ?_);refine wpAny_newFunctionEnv_cells S.kind m λenv he Y x=>?_;subst he;refine⟨G.keeps x.toInCall.keep,codeAny_func ?_⟩;obtain⟨t,ht,hq⟩:=l A a s H vs Q E (M.deeper _) SQ;have I:Inv (oj CX P w K F base N c scope f d A a s H E) [] (start N vs) H Y:=Ru S M.hd D hl r x;refine wpAny_mono (ht [] Y (start N vs) H _ I hq) (λfl L p=>?_) λe L p=>p;have C:∀{i:St} {j:Hp} {v:V} {u:Value},Inv (oj CX P w K F base N c scope f d A a s H E) [] i j L->RelV v u->Q v j->CE a P w H s Q u L :=
  λ{i j v u} J O q=>⟨v,j,J.os,J.bare,J.base,J.hok,O,q⟩
 cases fl with
 |ret u =>
  obtain⟨v,i,j,J,O,q⟩:=p;exact C J O q
 |next =>
  obtain⟨i,j,J,q⟩:=p;exact C (v:=V.fH) (u:=Value.none) J rfl q
 |brk =>
  obtain⟨_,_,_,q⟩:=p;exact jC q
 |cont =>
  obtain⟨_,_,_,q⟩:=p;exact jC q
section
variable{X:Cx}{x:Str}{p pos:Pos}{e:Expr}{es:List Expr}{t:TA}{id T:String}{r:List V->Hp->VK->Prop}
def Hv(r:List V->Hp->VK->Prop)(t:TA):TE:=λσ H Q=>t σ H λvs H1=>r vs H1 Q
theorem L3(m:nX X (.builtin id) r)(y:Gl X x)(i:X.mg x=none)(g:bootBuiltins x=some (.builtin id))(k:PA X (e::es) t)(u:x≠"__name__" := by decide)(c:(x==("__debug__" : Str))=false:=by decide)
 (l:starEach (e::es) X.env=(false,eval e X.env)::starEach es X.env:=by rfl) (b:(backTo pos (starEach es X.env)).any (·.1)=false:=by rfl):PE X (.Call (.Name x p) (e::es) [] pos) (Hv r t):=by
 intro a s d H Q I h;refine wpAny_Call_Name_kw (Gw I y i g ?_ u c);exact PyProof.Rows.callWith_builtin1 (gz (k pos a s d H _ I h) λw j ⟨q,o,n,v,f⟩=>m a j d o q w Q n v f) l b
theorem fW(m:nX X (.type T) r)(y:Gl X x)(i:X.mg x=none)(g:bootBuiltins x=some (.type T))(k:PA X (e::es) t)(u:x≠"__name__" := by decide)(c:(x==("__debug__" : Str))=false:=by decide)
 (l:starEach (e::es) X.env=(false,eval e X.env)::starEach es X.env:=by rfl) (b:(backTo pos (starEach es X.env)).any (·.1)=false:=by rfl):PE X (.Call (.Name x p) (e::es) [] pos) (Hv r t):=by
 intro a s d H Q I h;refine wpAny_Call_Name_kw (Gw I y i g ?_ u c);exact PyProof.Rows.callWith_type1 (gz (k pos a s d H _ I h) λw j ⟨q,o,n,v,f⟩=>m a j d o q w Q n v f) l b
end
end L2
namespace HT
open PySem PyProof.Rows
theorem L4(A:Around)(s:Shared)(a:Int)(t:Tok)(c:Int)(u:Tok):∃e,SeqAt.EqAt A s (.int a t) (.int c u) e/\(e=true↔a=c) :=
 ⟨(a==c),SeqAt.EqAt.int_int a t c u,-_⟩
theorem TN(A:Around)(s:Shared)(a:Int)(t:Tok)(c:Int)(u:Tok)(prog:Program)(w:World)(E:Value->Shared->Prop)(Q:Value->Shared->Prop)(h:Q (.bool (decide (a<c))) s) :
 wpAny (model prog w) A (richCompare .Lt (.int a t) (.int c u)) Q E s :=
 (PyProof.Rows.lt_int h:wpAny (model prog w) A (compareOp .Lt (.int a t) (.int c u)) Q E s)
section
open PySem.SeqAt
open PySem.AutoSeq1 (wpAny_loadPart')
open PySem.MeetsSeq PySem.MeetsSeq2 PySem.MeetsSeq3
end
section
variable{prog:Program}{w:World}{A:Around}{E:Value->Shared->Prop}{s:Shared}
theorem Wn{t b:Addr}{vs a:List Value}{Q:Value->Shared->Prop}(u:IsTup s.heap t vs.toArray)(x:IsTup s.heap b a.toArray)(m:vs≠[])
 (z:a=[]->Q (.ref t) s) (y:a≠[]->Q (.ref s.heap.objs.size) {s with heap:=s.heap.push {cls:=.type "tuple",data:=.seq (vs++a).toArray}})
 (k:vs.length+a.length<=sizeLine):wpAny (model prog w) A (binaryOp .Add (.ref t) (.ref b)) Q E s:=by
 obtain⟨⟨cls,r,data,l⟩,j,q,n,p⟩:=id u;obtain⟨⟨v,f,data2,h⟩,c,d,o,g⟩:=id x;simp only at q p d g;subst q p d g;have e:vs.toArray++a.toArray=(vs++a).toArray:=-_
 by_cases i:a=[]
 ·exact concat_meets ⟨_,j,rfl⟩ ⟨_,c,rfl⟩ noFill_tuple_add seq_tuple_add PySem.F.slot_tuple_add PySem.F.entry_tuple_add (PySem.F.args_tuple_add_2 _ _)
   (tuple_addW1 t b vs.toArray a.toArray n o r f l h (by simpa using m) (by simp[i])) ⟨j,c,z i⟩
 ·refine concat_meets ⟨_,j,rfl⟩ ⟨_,c,rfl⟩ noFill_tuple_add seq_tuple_add PySem.F.slot_tuple_add PySem.F.entry_tuple_add (PySem.F.args_tuple_add_2 _ _)
   (tuple_addW2 t b vs.toArray a.toArray n o r f l h (by simpa using m) (by simpa using i) (by rw[aP,aP];exact k)) ⟨j,c,?_⟩
  rw[e];exact y i
noncomputable def lK(n d:Nat):Option Int->Nat
 |none=>d
 |some v=>if v<0 then (v+(n:Int)).toNat else min v.toNat n
theorem Gg(n d k:Nat):lK n d (some (k:Int))=min k n:=by
 show (if (k:Int)<0 then ((k:Int)+(n:Int)).toNat else min (k:Int).toNat n)=min k n;rw[er ∅,cy]
theorem Z2(n d:Nat)(b:d<=n)(o:Option Int):lK n d o<=n:=by
 cases o with
 |none=>exact b
 |some v =>
  show (if v<0 then (v+(n:Int)).toNat else min v.toNat n)<=n;by_cases a:v<0
  ·rw[ee a];lia
  ·rw[er a];exact Nat.min_le_right _ _
theorem P0(v:Int)(n d:Nat):(if v<0 then max (v+(n:Int)) 0 else min v (n:Int))=((lK n d (some v):Nat):Int):=by
 show (if v<0 then max (v+(n:Int)) 0 else min v (n:Int))=(((if v<0 then (v+(n:Int)).toNat else min v.toNat n):Nat):Int);by_cases a:v<0
 ·simp only[ee a];lia
 ·simp only[er a];lia
theorem Ol(lo a:Option Int)(n:Nat):Builtin.Slice.sliceAdjust lo a 1 (n:Int)=(((lK n 0 lo:Nat):Int),((lK n n a:Nat):Int)):=by
 have b:¬((1:Int)<0):=∅
 unfold Builtin.Slice.sliceAdjust;simp only[b,if_false];refine Prod.ext ?_ ?_
 ·cases lo with
  |none=>rfl
  |some v=>exact P0 v n 0
 ·cases a with
  |none=>rfl
  |some v=>exact P0 v n n
theorem Om(i j:Nat):Builtin.Slice.slicePlaces (i:Int) (j:Int) 1=j-i:=by
 unfold Builtin.Slice.slicePlaces;have a:(1:Int) > 0:=∅
 simp only[a,if_true,Int.ediv_one];split <;> lia
theorem GC{v:Value}{o:Option Int}{Q:Option Int->Shared->Prop}(p:IsPart v o)(h:Q o s):wpAny (model prog w) A (Builtin.Slice.slicePartIndex v) Q E s:=by
 cases p with
 |none=>exact slicePart_none h
 |int i t=>exact slicePart_int h
theorem DJ{f:Addr}{d e:Value}{lo b:Option Int}{n:Nat}{Q:Int×Int×Nat->Shared->Prop}(j:s.heap.IsSliceOf f d e .none)(pl:IsPart d lo)(i:IsPart e b)
 (h:Q (((lK n 0 lo:Nat):Int),1,lK n n b-lK n 0 lo) s):wpAny (model prog w) A (Builtin.Slice.sliceApplied (.ref f) (pure (n:Int))) Q E s:=by
 obtain⟨os,a,g,c⟩:=id j;unfold Builtin.Slice.sliceApplied Builtin.Slice.sliceFields;refine wpAny_bind (wpAny_bind (wpAny_field a c (x:=d) rfl (wpAny_bind (wpAny_field a c (x:=e) rfl (wpAny_bind (wpAny_field a c (x:=.none) rfl (wpAny_pure ?_)))))));refine wpAny_bind (slicePart_none ?_);show wpAny _ _ (if ((1:Int)==0)=true then _ else _) _ _ s;rw[er (!_)];refine wpAny_bind (GC pl (wpAny_bind (GC i (wpAny_bind (wpAny_pure ?_)))));show wpAny _ _ (match Builtin.Slice.sliceAdjust lo b 1 (n:Int) with|(lo,b)=>pure (lo,(1:Int),Builtin.Slice.slicePlaces lo b 1)) _ _ s;rw[Ol lo b n];show wpAny _ _ (pure (((lK n 0 lo:Nat):Int),(1:Int),Builtin.Slice.slicePlaces ((lK n 0 lo:Nat):Int) ((lK n n b:Nat):Int) 1)) _ _ s;rw[Om];exact wpAny_pure h
theorem TR(xs:Array Value)(i k:Nat):((aA k).filterMap λ(m:Nat)=>xs[((i:Int)+(m:Int)*1).toNat]?).toArray=((xs.toList.drop i).take k).toArray:=by
 have e:(λ(m:Nat)=>xs[((i:Int)+(m:Int)*1).toNat]?)=λm=>xs[i+m]?:=by
  funext m
  have:((i:Int)+(m:Int)*1).toNat=i+m:=∅
  rw[this]
 rw[e]
 have:=pick_run xs i k
 rw[List.filterMap_map] at this;have a:((λx=>xs[x]?)∘λx=>i+x)=λm=>xs[i+m]?:=rfl;rw[a] at this;rw[this]
theorem Cz{t d:Addr}{items:Array Value}{j l:Value}{lo a:Option Int}{Q:Value->Shared->Prop}(b:IsTup s.heap t items)(k:s.heap.IsSliceOf d j l .none)(pl:IsPart j lo)(r:IsPart l a)
 (o:¬(lK items.size 0 lo=0/\lK items.size items.size a=items.size))
 (h:Q (.ref s.heap.objs.size) {s with heap:=s.heap.push {cls:=.type "tuple",data:=.seq ((items.toList.drop (lK items.size 0 lo)).take (lK items.size items.size a-lK items.size 0 lo)).toArray}})
 (n:items.size<=sizeLine):wpAny (model prog w) A (getItem (.ref t) (.ref d)) Q E s:=by
 have c:sizeOk (.seq ((items.toList.drop (lK items.size 0 lo)).take (lK items.size items.size a-lK items.size 0 lo)).toArray):=by
  show ((items.toList.drop (lK items.size 0 lo)).take (lK items.size items.size a-lK items.size 0 lo)).toArray.size<=sizeLine;rw[aP,bQ,wK,aR];lia
 have x:lK items.size items.size a<=items.size:=Z2 _ _ (ay _) a;obtain⟨os,i,g,p⟩:=id k;have e:s.TypeIs (.ref d) "slice" := ⟨os,i,g⟩;unfold getItem
 try with_reducible refine wpAny_holding ?_
 first|refine wpAny_bind (wpAny_pure ?_)|skip
 refine wpAny_bind (wpAny_sequenceKey b.typeIs (!_) ?_);refine wpAny_bind (wpAny_callSpecial?_slot (name:=Str.ofString "__getitem__") b.typeIs uH
  (wpAny_call_entry uH b.typeIs entry_tuple_getitem ?_ (args_tuple_getitem _ _)))
 show wpAny _ _ (Builtin.Tuple.tupleItemsOf (.ref t) >>= _) _ _ s;refine wpAny_bind (tupleItemsOf_ b ?_);refine wpAny_bind (wpAny_typeOf e ?_);rw[ee (!_)];refine wpAny_bind (DJ k pl r ?_);have f:¬((((lK items.size 0 lo:Nat):Int)==0&&(1:Int)==1&&(lK items.size items.size a-lK items.size 0 lo)==items.size)=true):=by
  intro q;rw[c9,c9] at q;have u:((lK items.size 0 lo:Nat):Int)=0:=eq_of_beq q.1.1;have v:lK items.size items.size a-lK items.size 0 lo=items.size:=eq_of_beq q.2;exact o ⟨∅,∅⟩
 show wpAny _ _ (if (((lK items.size 0 lo:Nat):Int)==0&&(1:Int)==1&&(lK items.size items.size a-lK items.size 0 lo)==items.size)=true then _ else _) _ _ s;rw[er f,TR]
 first
  |exact wpAny_bind (m:=Builtin.Tuple.tupleExact _) (wpAny_newObj_type (wpAny_pure ⟨_,rfl,wpAny_pure h⟩) c)
  |exact wpAny_bind (m:=Builtin.Tuple.tupleExact _) (wpAny_newObj_type (wpAny_bind (wpAny_pure (wpAny_pure ⟨_,rfl,wpAny_pure h⟩))) c)
  |exact wpAny_bind (wpAny_bind (m:=Builtin.Tuple.tupleExact _) (wpAny_newObj_type (wpAny_pure (wpAny_pure ⟨_,rfl,wpAny_pure h⟩)) c))
  |exact wpAny_bind (wpAny_bind (m:=Builtin.Tuple.tupleExact _) (wpAny_newObj_type (wpAny_pure ⟨_,rfl,wpAny_pure h⟩) c))
end
end HT
namespace L2
open PySem PySem.Spec PyProof.Rows
abbrev TO:=St->Hp->(Option Int->Hp->Prop)->Prop
def PO(X:Cx)(e:Option Expr)(t:TO):Prop :=
 ∀(pins:List (Addr×Obj)) (s:Shared) (σ:St) (H:Hp) (Q:Option Int->Hp->Prop),Inv X pins σ H s->t σ H Q ->
  wpAny (model X.prog X.w) X.A (evalPart e X.env) (λu s'=>∃o H',Inv X pins σ H' s'/\IsPart u o/\Q o H') X.xe s
def Wo:TO:=λ_ H Q=>Q none H
inductive Yy(Q:Option Int->Hp->Prop)(x:V)(H1:Hp):Prop
 |mk (i:Int) (a:x=.int i) (b:Q (some i) H1):Yy Q x H1
def acI(t:TE):TO:=λσ H Q=>t σ H (Yy Q)
theorem intsAre_of{ns:List Int}:∀{us:List Value},bZ (ns.map V.int) us->IntsAre us ns:=by
 induction ns with
 |nil=>intro us r;rw[List.map_nil] at r;cases r;exact .nil
 |cons n ns a =>
  intro us r;rw[bO] at r;cases r with
  |cons b c =>
   obtain⟨t,e⟩:=b;subst e;exact .cons n t (a c)
section
variable{X:Cx}{e:Expr}{te:TE}{lo hi:Option Expr}{tl th:TO}{pos p2:Pos}
theorem Gh:PO X none Wo:=by
 intro a s b H Q I h;rw[evalPart_none];exact wpAny_pure ⟨none,H,I,.none,h⟩
theorem wQ(h:PE X e te):PO X (some e) (acI te):=by
 intro a s g H Q I c;rw[evalPart_some];refine gz (h a s g H _ I c) λu k ⟨x,f,d,j,b⟩=>?_;obtain⟨i,rfl,q⟩:=b;obtain⟨t,rfl⟩:=j;exact⟨some i,f,d,.int i t,q⟩
def UQ(X:Cx)(r:V->Option Int->Option Int->Hp->VK->Prop):Prop :=
 ∀(pins:List (Addr×Obj)) (s:Shared) (σ:St) (H:Hp) (x:V) (v vl vu:Value) (lo hi:Option Int) (sl:Addr) (Q:VK),Inv X pins σ H s->RelV x v->s.heap.IsSliceOf sl vl vu .none->IsPart vl lo->IsPart vu hi->r x lo hi H Q ->
  ∃T id,typeLookup (.type T) "__getitem__" = pure (some (.builtin id))/\s.TypeIs v T/\wpAny (model X.prog X.w) X.A (getItem v (.ref sl)) (EP X pins σ Q) X.xe s
def tSl(r:V->Option Int->Option Int->Hp->VK->Prop)(te:TE)(tl th:TO):TE:=λσ H Q=>te σ H λx H1=>tl σ H1 λl H2=>th σ H2 λu H3=>r x l u H3 Q
theorem yQ{r:V->Option Int->Option Int->Hp->VK->Prop}(m:UQ X r)(B:PE X e te)(hl:PO X lo tl)(o:PO X hi th):PE X (.Subscript e (.Slice lo hi none p2) pos) (tSl r te tl th):=by
 intro a s d H Q I h;refine Subscript_ (gz (B a s d H _ I h) λv y ⟨x,J,D,M,k⟩=>?_);refine wpAny_Slice (gz (hl a y d J _ D k) λf z ⟨l,t,K,C,p⟩=>gz (o a z d t _ K p) λg c ⟨u,i,F,L,G⟩=>?_);rw[evalPart_none];refine wpAny_pure ?_;have n:Inv X a d i {c with heap:=c.heap.push {cls:=.type "slice",data:=.fields #[f,g,.none]}}:=F.kept (t':=c.toks) λb O q=>Heap.get?_push_of_some _ q;obtain⟨T,id,E,j,N⟩:=m a {c with heap:=c.heap.push {cls:=.type "slice",data:=.fields #[f,g,.none]}} d i x v f g l u c.heap.objs.size Q n M (Heap.IsSliceOf.new ..) C L G;show wpAny (model X.prog X.w) X.A (subscriptTail e (.Slice lo hi none p2) v (.ref c.heap.objs.size)) (EP X a d Q) X.xe {c with heap:=c.heap.push {cls:=.type "slice",data:=.fields #[f,g,.none]}};exact tail_any (ops:=[.ref c.heap.objs.size,v]) j E N (by with_unfolding_all rfl)
noncomputable def CA(xs:List V)(lo hi:Option Int):List V:=(xs.drop (HT.lK xs.length 0 lo)).take (HT.lK xs.length xs.length hi-HT.lK xs.length 0 lo)
theorem ES(xs:List V)(lo hi:Option Int):(CA xs lo hi).length<=xs.length:=by
 unfold CA;rw[bQ,wK];lia
def acJ(K:af):V->Option Int->Option Int->Hp->VK->Prop:=λx lo hi H Q=>∃a xs,x=.ref a/\cQ K H a xs /\
 ¬(HT.lK xs.length 0 lo=0/\HT.lK xs.length xs.length hi=xs.length)/\∀p,H p=none->Q (.ref p) (upd H p (.tup (CA xs lo hi)))
theorem Ks:UQ X (acJ X.K):=by
 intro g s y H x v w z lo hi t Q I j n l m h;obtain⟨a,d,rfl,p,k,q⟩:=h;cases j;obtain⟨e,r,f,i⟩:=I.tuple p;have c:e.toArray.size=d.length:=by rw[aP];exact r.length.symm
 refine⟨"tuple",_,uH.lookup,f.typeIs,?_⟩;refine HT.Cz f n l m (by rw[c];exact k) ?_ (by rw[c];exact i);rw[c];refine⟨.ref s.heap.objs.size,_,I.laid (t':=s.toks) (o:=.tup (CA d lo hi)) (λb u q=>Heap.get?_push_of_some _ q) (ay _) ?_,rfl,q _ (I.hok.fresh (ay _))⟩;exact⟨aN (ES d lo hi) i,_,(r.drop (HT.lK d.length 0 lo)).take (HT.lK d.length d.length hi-HT.lK d.length 0 lo),IsTup.new _ _⟩
def Yz(K:af):R2:=λx y H Q=>∃a b xs ys,x=.ref a/\y=.ref b/\cQ K H a xs/\cQ K H b ys/\xs≠[]/\xs.length+ys.length<=sizeLine /\
 (ys=[]->Q (.ref a) H)/\(ys≠[]->∀p,H p=none->Q (.ref p) (upd H p (.tup (xs++ys))))
theorem bZ.Ku{xs:List V}{us:List Value}(r:bZ xs us):us=[]↔xs=[]:=by
 cases r with
 |nil=>simp
 |cons _ _=>simp
theorem Wp:wO X (binaryOp .Add) (Yz X.K):=by
 intro e s D H x y v u Q I i m h;obtain⟨a,b,l,A,rfl,rfl,p,t,B,g,j,k⟩:=h;cases i;cases m;obtain⟨n,d,r,_⟩:=I.tuple p;obtain⟨f,c,p2,_⟩:=I.tuple t;refine HT.Wn r p2 (λz=>B (d.Ku.mp z)) (λz=>⟨.ref a,H,I,rfl,j (c.Ku.mp z)⟩) (λz=>?_) (by rw[<- d.length,<- c.length];exact g);refine⟨.ref s.heap.objs.size,_,I.laid (t':=s.toks) (o:=.tup (l++A)) (λb C q=>Heap.get?_push_of_some _ q) (ay _) ?_,rfl,k (λw=>z (c.Ku.mpr w)) _ (I.hok.fresh (ay _))⟩;exact⟨by rw[av];exact g,_,d.append c,IsTup.new _ _⟩
end
noncomputable def Wq(n:Nat)(i:Int):Option Nat:=if 0<=i then (if i<n then some i.toNat else none) else if -(n:Int)<=i then some (i+n).toNat else none
noncomputable def FG{α:Type}(xs:List α)(i:Int):Option α:=(Wq xs.length i).bind λj=>xs[j]?
theorem Kv{n:Nat}{i:Int}{j:Nat}(h:Wq n i=some j):seqIndex? i n=some j/\j<n/\-(n:Int)<=i/\i<n:=by
 unfold Wq at h;by_cases b:0<=i
 ·rw[ee b] at h
  by_cases a:i<n
  ·rw[ee a] at h
   have e:i.toNat=j:=aK h;exact⟨by rw[seqIndex_of b a,e],∅,∅,a⟩
  ·rw[er a] at h;cases h
 ·rw[er b] at h
  by_cases a:-(n:Int)<=i
  ·rw[ee a] at h
   have e:(i+n).toNat=j:=aK h;exact⟨by rw[seqIndex_neg ∅ a,e],∅,a,∅⟩
  ·rw[er a] at h;cases h
theorem P4{α:Type}{xs:List α}{i:Int}{v:α}(h:FG xs i=some v):∃j,seqIndex? i xs.length=some j/\xs[j]?=some v/\j<xs.length/\-(xs.length:Int)<=i/\i<xs.length:=by
 unfold FG at h;cases e:Wq xs.length i with
 |none=>rw[e] at h;cases h
 |some j =>
  rw[e] at h;obtain⟨b,a,c,d⟩:=Kv e;exact⟨j,b,h,a,c,d⟩
theorem eY{α:Type}{xs:List α}{j:Nat}{v:α}(h:xs[j]?=some v):FG xs (j:Int)=some v:=by
 have a:j<xs.length:=(ai.mp h).1;have e:Wq xs.length (j:Int)=some j:=by
  unfold Wq;rw[ee ∅,ee ∅];simp
 unfold FG;rw[e];exact h
def CB(b:Expr):Prop:=∀o i,subscripted b false o i=operate [o,i] (getItem o i)
def D0(X:Cx)(r:R2):Prop :=
 ∀(value slice:Expr) (pins:List (Addr×Obj)) (s:Shared) (σ:St) (H:Hp) (x y:V) (v u:Value) (Q:VK),Inv X pins σ H s->RelV x v->RelV y u->r x y H Q ->
  subscripted slice false v u=operate [v,u] (getItem v u)->wpAny (model X.prog X.w) X.A (subscriptTail value slice v u) (EP X pins σ Q) X.xe s
def MtR(X:Cx)(id:String)(r:V->List V->Hp->VK->Prop):Prop :=
 ∀(pins:List (Addr×Obj)) (s:Shared) (σ:St) (H:Hp) (x:V) (xs:List V) (v:Value) (us:List Value) (Q:VK),Inv X pins σ H s->RelV x v->bZ xs us->r x xs H Q ->
  wpAny (model X.prog X.w) X.A (call (.builtin id) (v::us)) (EP X pins σ Q) X.xe s
section
variable{X:Cx}{a b:Expr}{ta tb:TE}{pos:Pos}
theorem P5{r:R2}(n:D0 X r)(g:PE X a ta)(j:PE X b tb)(m:CB b):PE X (.Subscript a b pos) (VX r ta tb):=by
 intro c s l H Q I h;exact Subscript_ (ZT g j I h λv u i x y f k d e q=>n a b c i l f x y v u Q k d e q (m _ _))
inductive Rv(K:af)(x y:V)(H:Hp)(Q:VK):Prop
 |mk (p:Addr) (xs:List V) (i:Int) (v:V) (h1:x=.ref p) (h2:y=.int i) (h3:bP K H p xs) (h4:FG xs i=some v) (h5:Q v H):Rv K x y H Q
inductive Rx(K:af)(x y:V)(H:Hp)(Q:VK):Prop
 |mk (p:Addr) (xs:List V) (i:Int) (v:V) (h1:x=.ref p) (h2:y=.int i) (h3:cQ K H p xs) (h4:FG xs i=some v) (h5:Q v H):Rx K x y H Q
theorem P6:D0 X (Rv X.K):=by
 intro e g a s n H x y v u Q I B C h A;obtain⟨p,N,i,z,rfl,rfl,G,E,q⟩:=h;cases B;obtain⟨t,rfl⟩:=C;obtain⟨d,r,f,O⟩:=I.list G;obtain⟨j,c,F,R,J,L⟩:=P4 E;obtain⟨w,m,k⟩:=r.get F;have D:=r.length;have P:=Gz;have b:EP X a n Q w s:=⟨z,H,I,k,q⟩;by_cases o:0<=i
 ·have l:i.toNat=j:=by
   rw[seqIndex_of o L] at c;exact aK c
  exact item_listR f.isList o ∅ (by rw[l];simpa using m) b A
 ·have l:(i+(d.toArray.size:Int)).toNat=j:=by
   rw[seqIndex_neg ∅ J] at c;rw[aP,<- D];exact aK c
  exact subscriptTail_builtinR (x:=w) f.isList.typeIs slot_list_getitem.lookup
   (wpAny_getItem_list_neg (Q:=λr M=>r=w/\EP X a n Q r M) f.isList ∅ (by rw[aP] <;> lia) ∅ (by rw[l];simpa using m) ⟨rfl,b⟩) A
theorem TU:D0 X (Rx X.K):=by
 intro c d a s g H x y v u Q I k l h F;obtain⟨p,G,i,z,rfl,rfl,B,o,q⟩:=h;cases k;obtain⟨t,rfl⟩:=l;obtain⟨m,r,f,J⟩:=I.tuple B;obtain⟨j,C,A,O,L,M⟩:=P4 o;obtain⟨w,D,e⟩:=r.get A;have n:=r.length;have N:=Gz;have b:EP X a g Q w s:=⟨z,H,I,e,q⟩;exact subscriptTail_builtinR (x:=w) f.typeIs slot_tuple_getitem.lookup
  (getItem_tuple (j:=j) (Q:=λr E=>r=w/\EP X a g Q r E) f ∅ ∅ (by rw[aP,<- n];exact C) (by simpa using D) ⟨rfl,b⟩) F
theorem Oo(a:List Value)(n j:Nat)(u:Value):Obj.mapSeq (·.setIfInBounds j u) {cls:=.type "list",data:=.seq a.toArray n}={cls:=.type "list",data:=.seq (a.set j u).toArray n}:=by
 simp[Obj.mapSeq]
theorem Inv.lst{b:List (Addr×Obj)}{c:St}{H:Hp}{s:Shared}{p:Addr}{xs:List V}(I:Inv X b c H s)(h:H p=some (.lst xs)) :
 ∃(a:List Value) (n:Nat),bZ xs a/\s.heap.get? p=some {cls:=.type "list",data:=.seq a.toArray n}/\xs.length<=sizeLine:=by
 obtain⟨z,a,n,r,e⟩:=I.hok p _ h;exact⟨a,n,r,e,z⟩
theorem Inv.Z3{a:List (Addr×Obj)}{j:St}{H:Hp}{s:Shared}{p:Addr}{xs g:List V}{c its':List Value}{n d:Nat}{f:Obj->Obj}(I:Inv X a j H s)(h:H p=some (.lst xs))
 (m:s.heap.get? p=some {cls:=.type "list",data:=.seq c.toArray n}) (i:f {cls:=.type "list",data:=.seq c.toArray n}={cls:=.type "list",data:=.seq its'.toArray d}) (r:bZ g its') (k:g.length<=sizeLine) (t:Nat) :
 Inv X a j (upd H p (.lst g)) {s with heap:=s.heap.update p f,toks:=t}:=by
 have e:(s.heap.update p f).get? p=some {cls:=.type "list",data:=.seq its'.toArray d}:=by
  rw[Heap.get?_update_self f m (by rw[i] <;> rfl),i]
 refine I.write (x:=p) (e:=p) (by rw[h];trivial) (.inl rfl) (λb u l q=>(Heap.get?_update_other _ _ (bL l)).trans q) ⟨_,e⟩ ?_;exact⟨k,its',d,r,e⟩
def acL:V->V->V->Hp->(Hp->Prop)->Prop:=λo i v H Q=>∃p xs k j,o=.ref p/\i=.int k/\H p=some (.lst xs)/\Wq xs.length k=some j/\Q (upd H p (.lst (xs.set j v)))
theorem set_list:acs X acL:=by
 intro a s E H o i v F J u Q I A z C h;obtain⟨p,y,k,j,rfl,rfl,g,D,q⟩:=h;cases A;obtain⟨t,rfl⟩:=z;obtain⟨b,n,r,f,B⟩:=I.lst g;obtain⟨c,G,x,m⟩:=Kv D;have d:=r.length;have K:=Gz;have l:Inv X a E (upd H p (.lst (y.set j v))) {s with heap:=s.heap.update p (Obj.mapSeq (·.setIfInBounds j u))} :=
  I.Z3 g f (Oo b n j u) (r.set C j) (by rw[bT];exact B) s.toks
 by_cases w:0<=k
 ·have e:k.toNat=j:=by
   rw[seqIndex_of w m] at c;exact aK c
  exact PySem.W.ki_setAt f w ∅ (by rw[aP,<- d];exact m) (by rw[e];exact⟨_,l,q⟩)
 ·have e:(k+(b.toArray.size:Int)).toNat=j:=by
   rw[seqIndex_neg ∅ x] at c;rw[aP,<- d];exact aK c
  exact PySem.W.ki_setBack f ∅ (by rw[aP,<- d];exact x) ∅ (by rw[e];exact⟨_,l,q⟩)
theorem Kw(lo a:Option Int)(n:Nat):(sliceBounds lo a none n).1=((HT.lK n 0 lo:Nat):Int)/\(sliceBounds lo a none n).2.1=((HT.lK n n a:Nat):Int)/\(sliceBounds lo a none n).2.2=1:=by
 refine⟨?_,?_,rfl⟩
 ·cases lo with
  |none=>simp[sliceBounds,HT.lK]
  |some i =>
   simp only[sliceBounds,HT.lK,Option.getD_none,show (1:Int) > 0 by decide,if_true];by_cases h:i<0
   ·simp only[h,if_true] <;> lia
   ·simp only[h,if_false] <;> lia
 ·cases a with
  |none=>simp[sliceBounds,HT.lK]
  |some i =>
   simp only[sliceBounds,HT.lK,Option.getD_none,show (1:Int) > 0 by decide,if_true];by_cases h:i<0
   ·simp only[h,if_true] <;> lia
   ·simp only[h,if_false] <;> lia
theorem Iw(a:List Value)(lo b:Option Int):slicePick a.toArray lo b none=((a.drop (HT.lK a.length 0 lo)).take (HT.lK a.length a.length b-HT.lK a.length 0 lo)).toArray:=by
 obtain⟨d,c,e⟩:=Kw lo b a.toArray.size;unfold slicePick;rw[d,c,e];simp only[sliceRange_one,pick_run,aP] <;> rfl
def agq(K:af):V->Option Int->Option Int->Hp->VK->Prop:=λx lo hi H Q=>∃a xs,x=.ref a/\bP K H a xs/\∀p,H p=none->Q (.ref p) (upd H p (.lst (CA xs lo hi)))
theorem Ws:UQ X (agq X.K):=by
 intro g s y H x v w z lo e t Q I i n l m h;obtain⟨a,c,rfl,p,q⟩:=h;cases i;obtain⟨j,r,f,k⟩:=I.list p;have d:=r.length;refine⟨"list",_,slot_list_getitem.lookup,f.isList.typeIs,?_⟩;refine wpAny_getItem_list_slice f.isList n l m .none (-_) ?_ (by rw[aP] <;> lia);rw[Iw,<- d];refine⟨.ref s.heap.objs.size,_,I.laid (t':=s.toks) (o:=.lst (CA c lo e)) (λb u q=>Heap.get?_push_of_some _ q) (ay _) ?_,rfl,q _ (I.hok.fresh (ay _))⟩;exact⟨aN (ES c lo e) k,_,0,(r.drop (HT.lK c.length 0 lo)).take (HT.lK c.length c.length e-HT.lK c.length 0 lo),Heap.get?_push_size _ rfl⟩
noncomputable def yR:V->Bool
 |.fH=>true
 |.bl _=>true
 |.int _=>true
 |.str _=>true
 |_=>false
noncomputable def Ry:V->V->Bool
 |.fH,.fH=>true
 |.bl a,.bl b=>a==b
 |.bl a,.int b=>(if a then 1 else 0)==b
 |.int a,.bl b=>a==(if b then 1 else 0)
 |.int a,.int b=>a==b
 |.str a,.str b=>a==b
 |_,_=>false
theorem Z4{A:Around}{s:Shared}{y x:V}{u v:Value}(f:RelV y u)(c:RelV x v)(g:yR y=true)(e:yR x=true):SeqAt.EqAt A s u v (Ry y x):=by
 cases y with
 |fH =>
  cases f;cases x with
  |fH=>cases c;exact SeqAt.EqAt.same _
  |bl b=>cases c;exact SeqAt.EqAt.none_bool b
  |int b=>obtain⟨t,rfl⟩:=c;exact SeqAt.EqAt.none_int b t
  |str b=>obtain⟨t,rfl⟩:=c;exact SeqAt.EqAt.none_str b t
  |_=>exact eL (show false=true from e) aF
 |bl a =>
  cases f;cases x with
  |fH=>cases c;exact SeqAt.EqAt.bool_none a
  |bl b=>cases c;exact SeqAt.EqAt.bool_bool a b
  |int b=>obtain⟨t,rfl⟩:=c;exact SeqAt.EqAt.bool_int a b t
  |str b=>obtain⟨t,rfl⟩:=c;exact SeqAt.EqAt.bool_str a b t
  |_=>exact eL (show false=true from e) aF
 |int a =>
  obtain⟨d,rfl⟩:=f;cases x with
  |fH=>cases c;exact SeqAt.EqAt.int_none a d
  |bl b=>cases c;exact SeqAt.EqAt.int_bool a d b
  |int b=>obtain⟨t,rfl⟩:=c;exact SeqAt.EqAt.int_int a d b t
  |str b=>obtain⟨t,rfl⟩:=c;exact SeqAt.EqAt.int_str a d b t
  |_=>exact eL (show false=true from e) aF
 |str a =>
  obtain⟨d,rfl⟩:=f;cases x with
  |fH=>cases c;exact SeqAt.EqAt.str_none a d
  |bl b=>cases c;exact SeqAt.EqAt.str_bool a d b
  |int b=>obtain⟨t,rfl⟩:=c;exact SeqAt.EqAt.str_int a d b t
  |str b=>obtain⟨t,rfl⟩:=c;exact SeqAt.EqAt.str_str a d b t
  |_=>exact eL (show false=true from e) aF
 |_=>exact eL (show false=true from g) aF
noncomputable def Oq(x:V)(u:Value):Bool:=match u with
 |.none=>Ry .fH x
 |.bool b=>Ry (.bl b) x
 |.int i _=>Ry (.int i) x
 |.str z _=>Ry (.str z) x
 |_=>false
theorem TV{x y:V}{u:Value}(r:RelV y u)(f:yR y=true):Oq x u=Ry y x:=by
 cases y with
 |fH=>cases r;rfl
 |bl b=>cases r;rfl
 |int i=>obtain⟨t,rfl⟩:=r;rfl
 |str z=>obtain⟨t,rfl⟩:=r;rfl
 |_=>exact eL (show false=true from f) aF
theorem CC{x:V}:∀{xs:List V} {us:List Value},bZ xs us->xs.all yR=true->us.any (Oq x)=xs.any λy=>Ry y x
 |_,_,.nil,_=>rfl
 |y::xs,u::us,.cons r t,f=>by
  rw[List.all_cons,c9] at f;rw[List.any_cons,List.any_cons,TV r f.1,CC t f.2]
theorem yS{A:Around}{s:Shared}{x:V}{v:Value}(a:RelV x v)(b:yR x=true):∀{xs:List V} {us:List Value},bZ xs us->xs.all yR=true->∀u∈us,SeqAt.EqAt A s u v (Oq x u)
 |_,_,.nil,_=>λu hu=>by cases hu
 |y::xs,u::us,.cons r t,f=>λc hu=>by
  rw[List.all_cons,c9] at f;rcases bf.mp hu with rfl|hu
  ·rw[TV r f.1];exact Z4 r a f.1 b
  ·exact yS a b t f.2 c hu
noncomputable def CD(x:V)(xs:List V):Bool:=xs.any λy=>Ry y x
inductive HY(K:af)(neg:Bool)(x y:V)(H:Hp)(Q:VK):Prop
 |mk (p:Addr) (xs:List V) (h1:y=.ref p) (h2:bP K H p xs∨cQ K H p xs) (h3:yR x=true) (h4:xs.all yR=true) (h5:Q (.bl (if neg then !CD x xs else CD x xs)) H):HY K neg x y H Q
theorem rW:wO X (compareOp .In) (HY X.K false):=by
 intro f s l H x y v u Q I e i h;obtain⟨p,k,rfl,hq,g,b,q⟩:=h;cases i;rcases hq with hq|hq
 ·obtain⟨a,r,d,j⟩:=I.list hq
  refine SeqAt.in_listAt (Oq x) d.isList (λw c=>yS e g r b w (by simpa using c)) ⟨.bl _,H,I,rfl,?_⟩;rw[show a.toArray.any (Oq x)=a.any (Oq x) by simp,CC r b];exact q
 ·obtain⟨a,r,d,j⟩:=I.tuple hq
  refine SeqAt.in_tupleAt (Oq x) d (λw c=>yS e g r b w (by simpa using c)) ⟨.bl _,H,I,rfl,?_⟩;rw[show a.toArray.any (Oq x)=a.any (Oq x) by simp,CC r b];exact q
theorem rA:wO X (compareOp .NotIn) (HY X.K true):=by
 intro f s l H x y v u Q I e i h;obtain⟨p,k,rfl,hq,g,b,q⟩:=h;cases i;rcases hq with hq|hq
 ·obtain⟨a,r,d,j⟩:=I.list hq
  refine SeqAt.notIn_listAt (Oq x) d.isList (λw c=>yS e g r b w (by simpa using c)) ⟨.bl _,H,I,rfl,?_⟩;rw[show a.toArray.any (Oq x)=a.any (Oq x) by simp,CC r b];exact q
 ·obtain⟨a,r,d,j⟩:=I.tuple hq
  refine SeqAt.notIn_tupleAt (Oq x) d (λw c=>yS e g r b w (by simpa using c)) ⟨.bl _,H,I,rfl,?_⟩;rw[show a.toArray.any (Oq x)=a.any (Oq x) by simp,CC r b];exact q
theorem Ky:nX X (.builtin "len") (λxs H Q=>∃p b,xs=[.ref p]/\(bP X.K H p b∨cQ X.K H p b)/\Q (.int b.length) H):=by
 intro f s k H xs l Q I r h;obtain⟨p,b,rfl,hq,q⟩:=h;obtain⟨u,rfl,g⟩:=vals1 r;cases g;have j:=Gz;rcases hq with hq|hq
 ·obtain⟨c,e,d,i⟩:=I.list hq
  have a:=e.length;exact Calls.call_len_list d.isList (by simp only[aP] <;> lia) ⟨.int b.length,H,I.tok _,⟨s.toks+1,by rw[aP,a]⟩,q⟩
 ·obtain⟨c,e,d,i⟩:=I.tuple hq
  have a:=e.length;exact len_tuple d (by simp only[aP] <;> lia) ⟨.int b.length,H,I.tok _,⟨s.toks+1,by rw[aP,a]⟩,q⟩
theorem ig:nX X (.type "list") (λxs H Q=>∃p f,xs=[.ref p]/\(bP X.K H p f∨cQ X.K H p f)/\∀l,H l=none->Q (.ref l) (upd H l (.lst f))):=by
 intro j s C H xs D Q I r h;obtain⟨p,f,rfl,hq,q⟩:=h;obtain⟨u,rfl,B⟩:=vals1 r;cases B;have i:∀(a:List Value),bZ f a->f.length<=sizeLine->∀(c:Heap) (d:Nat),(∀b A,s.heap.get? b=some A->c.get? b=some A) ->
  c.get? s.heap.objs.size=some {cls:=.type "list",dict:=none,data:=.seq a.toArray d,slots:=#[]}->EP X j C Q (.ref s.heap.objs.size) {s with heap:=c}:=λa g t c d m e =>
  ⟨.ref s.heap.objs.size,_,I.laid (t':=s.toks) m (ay _) (show fP X.prog X.w _ c _ (.lst f) from ⟨t,a,d,g,e⟩),rfl,q _ (I.hok.fresh (ay _))⟩
 rcases hq with hq|hq
 ·obtain⟨a,g,v,t⟩:=I.list hq
  have k:=g.length;obtain⟨o,z,x,n,y⟩:=v.isList;exact call_list_seq p (.inl rfl) z x y (λc d m e=>i a g t c d m e) (by simp only[aP] <;> lia)
 ·obtain⟨a,g,v,t⟩:=I.tuple hq
  have k:=g.length;obtain⟨o,z,x,n,y⟩:=v;exact call_list_seq p (.inr rfl) z x y (λc d m e=>i a g t c d m e) (by simp only[aP] <;> lia)
def tyV(K:af)(T:String)(x:V)(H:Hp):Prop:=match x with
 |.str _=>T = "str"
 |.int _=>T = "int"
 |.ref p=>(T = "list" /\ ∃xs,bP K H p xs)∨(T = "tuple" /\ ∃o,K.lookup p=some o/\o.cls=.type "tuple" /\ o.dict=none) ∨
  (T = "dict" /\ ((∃kvs,H p=some (.dK kvs))∨∃kvs,H p=some (.dT kvs)))∨(T = "set" /\ ∃S n,H p=some (.set S n))
 |_=>False
theorem TY{f:List (Addr×Obj)}{w:St}{H:Hp}{s:Shared}{T:String}{x:V}{v:Value}(I:Inv X f w H s)(r:RelV x v)(g:tyV X.K T x H) :
 s.TypeIs v T/\∀a,v=.ref a->∃ob,s.heap.get? a=some ob/\ob.dict=none:=by
 cases x with
 |str z =>
  obtain⟨t,rfl⟩:=r;cases (show T = "str" from g);exact⟨typeIs_str s z t,λ_ e=>nomatch e⟩
 |int i =>
  obtain⟨t,rfl⟩:=r;cases (show T = "int" from g);exact⟨typeIs_int s i t,λ_ e=>nomatch e⟩
 |ref p =>
  cases r;rcases g with ⟨rfl,y,u⟩|⟨rfl,o,b,q,j⟩|⟨rfl,b⟩|⟨rfl,S,n,b⟩
  ·obtain⟨m,_,l,_⟩:=I.list u
   refine⟨l.isList.typeIs,λa e=>?_⟩;cases e;obtain⟨o,n,e,c,j,_⟩:=l;exact⟨o,e,j⟩
  ·refine⟨⟨o,I.Br p o b,q⟩,λa e=>?_⟩
   cases e;exact⟨o,I.Br _ o b,j⟩
  ·have z:∃o,s.heap.get? p=some o/\o.ExactDict:=by
    rcases b with ⟨k,b⟩|⟨k,b⟩
    ·obtain⟨_,_,_,_,o,_,_,e,d,_⟩:=I.hok p _ b
     exact⟨o,e,d⟩
    ·obtain⟨_,_,_,_,o,_,_,e,d,_⟩:=I.hok p _ b
     exact⟨o,e,d⟩
   obtain⟨o,e,d⟩:=z;refine⟨⟨o,e,d.1⟩,λa h=>?_⟩;cases h;exact⟨o,e,d.2.1⟩
  ·obtain⟨o,_,_,_,e,d,_⟩:=I.hok p _ b
   refine⟨⟨o,e,d.1⟩,λa h=>?_⟩;cases h;exact⟨o,e,d.2.1⟩
 |_=>exact jC g
def ags(K:af)(T:String)(r:V->List V->Hp->VK->Prop)(to:TE):TE:=λσ H Q=>to σ H λx H1=>tyV K T x H1/\r x [] H1 Q
def tBM(K:af)(T:String)(r:V->List V->Hp->VK->Prop)(to:TE)(t:TA):TE:=λσ H Q=>to σ H λx H1=>tyV K T x H1/\t σ H1 λxs H2=>r x xs H2 Q
variable{o e:Expr}{es:List Expr}{to:TE}{t:TA}{name:Str}{apos cpos:Pos}{T id:String}{r:V->List V->Hp->VK->Prop}
theorem Z5(pa:PlainAttrs T)(d:Slot T name id)(e:typeOf (.builtin id)=pure (.type "method_descriptor"))(k:MtR X id r)(q:PE X o to)
 (b:attributeBase o name X.env (eval o X.env)=eval o X.env:=by rfl) (c:(apos.endLine==cpos.line)=true:=by rfl):PE X (.Call (.Attribute o name apos) [] [] cpos) (ags X.K T r to):=by
 intro a s g H Q I h;refine wpAny_Call_method0_late b c (gz (q a s g H _ I h) λv l ⟨x,p,f,i,t,j⟩=>?_);obtain⟨n,m⟩:=TY f i t;exact⟨T,id,pa,d,e,n,m,Calls.callWith_builtin rfl (PySem.evalArgs_none (k a l g p x [] v [] Q f i .nil j))⟩
theorem pS(pa:PlainAttrs T)(f:Slot T name id)(i:typeOf (.builtin id)=pure (.type "method_descriptor"))(q:MtR X id r)(F:PE X o to)(y:PA X (e::es) t)
 (c:attributeBase o name X.env (eval o X.env)=eval o X.env:=by rfl)
 (g:((backTo cpos (starEach (e::es) X.env)).all (λx=>!x.1)&&(backToKw cpos (keywordEach [] X.env)).all (λx=>x.1.isSome)
  && decide ((e::es).length+([]:List Keyword).length+(if ([]:List Keyword).isEmpty then 0 else 1)<30))=true:=by rfl)
 (d:(apos.endLine==cpos.line)=true:=by rfl) (J:starEach (e::es) X.env=(false,eval e X.env)::starEach es X.env:=by rfl) (b:(backTo cpos (starEach es X.env)).any (·.1)=false:=by rfl) :
 PE X (.Call (.Attribute o name apos) (e::es) [] cpos) (tBM X.K T r to t):=by
 intro a s j H Q I h;refine wpAny_Call_method_late c g d rfl (gz (F a s j H _ I h) λv w ⟨x,C,k,m,M,n⟩=>?_);obtain⟨B,A⟩:=TY k m M;refine⟨T,id,pa,f,i,B,A,?_⟩;have l:=y cpos a w j C _ k n;rw[J] at l ⊢;refine Calls.callWith_builtin (by show (false || (backTo cpos (starEach es X.env)).any (·.1))=false;rw[b] <;> rfl) (Calls.evalArgs_plain ?_);exact gz l λL z ⟨D,u,E,G,p⟩=>q a z j u x D v L Q E m G p
end
def MtM(X:Cx)(id:String)(r:V->List V->Hp->VK->Prop):Prop :=
 ∀(pins:List (Addr×Obj)) (s:Shared) (σ:St) (H:Hp) (x:V) (xs:List V) (v:Value) (us:List Value) (Q:VK),Inv X pins σ H s->RelV x v->bZ xs us->r x xs H Q ->
  wpAny (model X.prog X.w) X.A (call (.builtin id) (v::us)) (EP X pins σ Q) X.xe s
theorem bZ.one:∀{x:V} {us:List Value},bZ [x] us->∃u,us=[u]/\RelV x u
 |_,_,.cons r .nil=>⟨_,rfl,r⟩
theorem bZ.two:∀{x y:V} {us:List Value},bZ [x,y] us->∃u v,us=[u,v]/\RelV x u/\RelV y v
 |_,_,_,.cons r (.cons q .nil)=>⟨_,_,rfl,r,q⟩
theorem bZ.zero:∀{us:List Value},bZ [] us->us=[]
 |_,.nil=>rfl
theorem bZ.eraseIdx:∀{xs:List V} {us:List Value} (i:Nat),bZ xs us->bZ (xs.eraseIdx i) (us.eraseIdx i)
 |_,_,_,.nil=>.nil
 |_,_,0,.cons _ t=>t
 |_,_,i+1,.cons r t=>.cons r (bZ.eraseIdx i t)
theorem Jw{α:Type}:∀(l:List α) (i:Nat),(l.eraseIdx i).length<=l.length
 |[],_=>ay _
 |_::_,0=>cV _
 |_::r,i+1=>Nat.succ_le_succ (Jw r i)
section
variable{X:Cx}{pins:List (Addr×Obj)}{σ:St}{H:Hp}{s:Shared}{l b:Addr}{xs ys zs:List V}
theorem Inv.acM{a its':List Value}{n:Nat}{f:Array Value->Array Value}{t':Nat}(I:Inv X pins σ H s)(i:H l=some (.lst xs))
 (e:s.heap.get? l=some {cls:=.type "list",data:=.seq a.toArray n}) (d:f a.toArray=its'.toArray) (c:bZ ys its') (g:ys.length<=sizeLine) :
 Inv X pins σ (upd H l (.lst ys)) {s with heap:=s.heap.update l (Obj.mapSeq f),toks:=t'}:=by
 have q:=PySem.IsL.update e f;rw[d] at q;refine I.write (x:=l) (e:=l) (by rw[i];exact trivial) (.inl rfl) (λj u h b=>(Heap.get?_update_other s.heap (Obj.mapSeq f) (bL h)).trans b) ⟨_,q⟩ ?_;exact⟨g,its',_,c,q⟩
theorem Inv.agt{a:List Value}{t':Nat}(I:Inv X pins σ H s)(b:bZ ys a)(c:ys.length<=sizeLine) :
 Inv X pins σ (upd H s.heap.objs.size (.lst ys)) {s with heap:=s.heap.push {cls:=.type "list",data:=.seq a.toArray},toks:=t'} :=
 I.laid (λ_ _ q=>Heap.get?_push_of_some _ q) (ay _) ⟨c,a,0,b,Heap.get?_push_size _ rfl⟩
theorem Inv.fresh(I:Inv X pins σ H s):H s.heap.objs.size=none:=I.hok.fresh (ay _)
theorem Inv.Wt(I:Inv X pins σ H s)(b:H l=some (.lst xs)):xs.length<=sizeLine/\∃(a:List Value) (n:Nat),bZ xs a/\xs.length=a.length/\s.heap.get? l=some {cls:=.type "list",data:=.seq a.toArray n}:=by
 obtain⟨z,a,n,r,e⟩:=I.hok l _ b;exact⟨z,a,n,r,r.length,e⟩
end
section
variable{X:Cx}
inductive P7(x:V)(vs:List V)(H:Hp)(Q:VK):Prop
 |mk (l:Addr) (xs:List V) (y:V) (h1:x=.ref l) (h2:vs=[y]) (h3:H l=some (.lst xs)) (h4:xs.length<sizeLine) (h5:Q .fH (upd H l (.lst (xs++[y])))):P7 x vs H Q
theorem eE:MtM X "list.append" P7:=by
 intro b s o H x m v p Q I d g h;obtain⟨l,i,y,rfl,rfl,c,k,q⟩:=h;cases d;obtain⟨u,rfl,f⟩:=g.one;obtain⟨z,a,n,r,j,e⟩:=I.Wt c;refine call_meets F.slot_list_append ⟨_,e,rfl⟩ F.entry_list_append (F.args_list_append_2 _ _) (PySem.list_append l a.toArray n u (by rw[aP];lia)) ⟨e,?_⟩;refine⟨.fH,_,I.acM (its':=a++[u]) c e (-_) (r.append (.cons f .nil)) ?_,rfl,q⟩;rw[av,List.length_singleton];lia
def Z6:V->List V->Hp->VK->Prop:=λx vs H Q=>∃l xs i k y,x=.ref l/\vs=[.int i]/\H l=some (.lst xs)/\-(2^63)<=i/\i<2^63/\seqIndex? i xs.length=some k/\xs[k]?=some y/\Q y (upd H l (.lst (xs.eraseIdx k)))
theorem TZ:MtM X "list.pop" Z6:=by
 intro c s G H x E v J Q I f D h;obtain⟨l,m,i,k,y,rfl,rfl,d,C,A,B,j,q⟩:=h;cases f;obtain⟨u,rfl,o⟩:=D.one;obtain⟨t,rfl⟩:=o;obtain⟨z,a,n,r,p,e⟩:=I.Wt d;obtain⟨w,g,b⟩:=r.get j;refine call_meets F.slot_list_pop ⟨_,e,rfl⟩ F.entry_list_pop (F.args_list_pop_2 _ _)
  (MeetsSeq.list_pop_at l a.toArray n i t k w (fitsIndex_both C A) (by rw[aP,<- p];exact B) (by rw[<- dR];exact g) (by rw[aP];lia)) ⟨e,?_⟩
 refine⟨y,_,I.acM (its':=a.eraseIdx k) d e ?_ (r.eraseIdx k) ?_,b,q⟩
 ·show a.toArray.eraseIdxIfInBounds k=(a.eraseIdx k).toArray
  rw[List.eraseIdxIfInBounds_toArray]
 ·have:=Jw m k
  lia
def agu:R2:=λx y H Q=>∃l b xs zs,x=.ref l/\y=.ref b/\H l=some (.lst xs)/\H b=some (.lst zs)/\xs.length+zs.length<=sizeLine/\∀p,H p=none->Q (.ref p) (upd H p (.lst (xs++zs)))
theorem Z7:wO X (binaryOp .Add) agu:=by
 intro d s D H x y v u Q I f j h;obtain⟨l,b,t,C,rfl,rfl,k,g,B,q⟩:=h;cases f;cases j;obtain⟨z,c,n,r,A,e⟩:=I.Wt k;obtain⟨E,a,w,m,o,i⟩:=I.Wt g;refine PySem.P.add_list e i ?_ (by rw[aP,aP];lia);have p:c.toArray++a.toArray=(c++a).toArray:=-_
 rw[p];exact⟨.ref _,_,I.agt (t':=s.toks) (r.append m) (by rw[av];lia),rfl,q _ I.fresh⟩
end
section
variable{κ:Type}[DecidableEq κ]
noncomputable def CF(kvs:List (κ×V))(k:κ):Option V:=(kvs.find? λkv=>decide (kv.1=k)).map (·.2)
noncomputable def putK(kvs:List (κ×V))(k:κ)(v:V):List (κ×V) :=
 if (kvs.any λkv=>decide (kv.1=k))=true then kvs.map (λkv=>if kv.1=k then (kv.1,v) else kv) else kvs++[(k,v)]
theorem yU{p:κ×V}{r:List (κ×V)}{k:κ}(e:p.1=k):CF (p::r) k=some p.2:=by simp[CF,r6,e]
theorem yV{p:κ×V}{r:List (κ×V)}{k:κ}(e:¬p.1=k):CF (p::r) k=CF r k:=by simp[CF,r6,e]
theorem L5(k:κ):∀kvs:List (κ×V),(kvs.any λa=>decide (a.1=k))=(CF kvs k).isSome
 |[]=>rfl
 |p::r=>by
  rw[List.any_cons];by_cases e:p.1=k
  ·simp only[yU e,fy e,Bool.true_or,Option.isSome_some]
  ·rw[yV e,gU e,Bool.false_or];exact L5 k r
theorem ET(kvs:List (κ×V))(k:κ)(v:V):(putK kvs k v).length<=kvs.length+1:=by
 unfold putK;split
 ·rw[ah];lia
 ·rw[av,bx,List.length_nil];lia
theorem yG.DK{o:Option V}{u:Option Value}(r:yG o u):o.isSome=u.isSome:=by
 cases o with
 |none=>cases u with
  |none=>rfl
  |some _=>exact (show False from r).elim
 |some _=>cases u with
  |none=>exact (show False from r).elim
  |some _=>rfl
theorem yG.getD{o:Option V}{u:Option Value}{d:V}{d':Value}(r:yG o u)(a:RelV d d'):RelV (o.getD d) (u.getD d'):=by
 cases o with
 |none=>cases u with
  |none=>exact a
  |some _=>exact (show False from r).elim
 |some _=>cases u with
  |none=>exact (show False from r).elim
  |some _=>exact r
theorem KV.val{kvs:List (κ×V)}{vs:List (κ×Value)}(r:KV kvs vs)(k:κ):yG (CF kvs k) (valueAt vs k):=by
 unfold KV at r;induction r with
 |nil=>exact k6
 |@cons p q i a h t g =>
  obtain⟨d,f⟩:=h;by_cases e:p.1=k
  ·have c:q.1=k:=d.symm.trans e
   have b:valueAt (q::a) k=some q.2:=by simp[valueAt,r6,c]
   rw[yU e,b];exact f
  ·have c:¬q.1=k:=λz=>e (d.trans z)
   have b:valueAt (q::a) k=valueAt a k:=by simp[valueAt,r6,c]
   rw[yV e,b];exact g
theorem KV.any{kvs:List (κ×V)}{vs:List (κ×Value)}(r:KV kvs vs)(k:κ):(kvs.any λa=>decide (a.1=k))=vs.any λa=>decide (a.1=k):=by
 unfold KV at r;induction r with
 |nil=>rfl
 |cons h t b=>rw[List.any_cons,List.any_cons,b,h.1]
theorem KV.repl{kvs:List (κ×V)}{vs:List (κ×Value)}(r:KV kvs vs)(k:κ){y:V}{u:Value}(c:RelV y u) :
 KV (kvs.map λa=>if a.1=k then (a.1,y) else a) (vs.map λa=>if a.1=k then (a.1,u) else a):=by
 unfold KV at r ⊢;induction r with
 |nil=>exact .nil
 |@cons p q g i h t f =>
  rw[bO,bO];refine .cons ?_ f;obtain⟨b,d⟩:=h;by_cases e:p.1=k
  ·rw[ee e,ee (b.symm.trans e)];exact⟨b,c⟩
  ·rw[er e,er (λz=>e (b.trans z))];exact⟨b,d⟩
theorem KV.put{kvs:List (κ×V)}{vs:List (κ×Value)}(r:KV kvs vs)(k:κ){y:V}{u:Value}(a:RelV y u):KV (putK kvs k y) (stored vs k u):=by
 unfold putK stored;rw[r.any k];by_cases e:(vs.any λb=>decide (b.1=k))=true
 ·rw[ee e,ee e];exact r.repl k a
 ·rw[er e,er e];exact Paired.snoc r ⟨rfl,a⟩
theorem KV.length{kvs:List (κ×V)}{vs:List (κ×Value)}(r:KV kvs vs):kvs.length=vs.length:=Paired.length r
end
theorem L6{P:Program}{w:World}{k:Key}{u:Value}(r:RelV (kV k) u):(ie P w).is k u=true:=by
 cases k with
 |inl i=>obtain⟨t,e⟩:=(show ∃t,u=Value.int i t from r);subst e;exact LU P w i t
 |inr x=>obtain⟨t,e⟩:=(show ∃t,u=Value.str x t from r);subst e;exact LV P w x t
theorem Jx{P:Program}{w:World}:∀{a:List Key} {us:List Value},bZ (a.map kV) us->ItemsAre (ie P w) a us
 |[],_,r=>by rw[List.map_nil] at r;cases r;exact .nil
 |k::a,_,r=>by
  rw[bO] at r;cases r with
  |cons h t=>exact .cons (L6 h) (Jx t)
abbrev KT(H:Hp):List (List Key×V)->List (List Key×Addr×Value)->Prop:=Paired λp q=>p.1=q.1/\H q.2.1=some (.tup (p.1.map kV))/\RelV p.2 q.2.2
theorem KT.val{H:Hp}{kvs:List (List Key×V)}{xs:List (List Key×Addr×Value)}(r:KT H kvs xs)(k:List Key):yG (CF kvs k) ((atKey xs k).map (·.2)):=by
 induction r with
 |nil=>exact k6
 |@cons p q i a h t g =>
  obtain⟨d,_,f⟩:=h;by_cases e:p.1=k
  ·have c:q.1=k:=d.symm.trans e
   have b:atKey (q::a) k=some q.2:=by simp[atKey,r6,c]
   rw[yU e,b];exact f
  ·have c:¬q.1=k:=λz=>e (d.trans z)
   have b:atKey (q::a) k=atKey a k:=by simp[atKey,r6,c]
   rw[yV e,b];exact g
theorem KT.repl{H:Hp}{kvs:List (List Key×V)}{xs:List (List Key×Addr×Value)}(r:KT H kvs xs)(k:List Key){y:V}{u:Value}(d:RelV y u) :
 KT H (kvs.map λb=>if b.1=k then (b.1,y) else b) (xs.map (putAt k u)):=by
 induction r with
 |nil=>exact .nil
 |@cons p q i j h t f =>
  rw[bO,bO];refine .cons ?_ f;obtain⟨a,c,g⟩:=h;unfold putAt;by_cases e:p.1=k
  ·rw[ee e,ee (a.symm.trans e)];exact⟨a,c,d⟩
  ·rw[er e,er (λz=>e (a.trans z))];exact⟨a,c,g⟩
theorem KT.put{H:Hp}{kvs:List (List Key×V)}{xs:List (List Key×Addr×Value)}(r:KT H kvs xs)(k:List Key){b:Addr}{y:V}{u:Value}(c:H b=some (.tup (k.map kV)))(a:RelV y u) :
 KT H (putK kvs k y) (storedH xs k b u):=by
 have e:(kvs.any λd=>decide (d.1=k))=(atKey xs k).isSome:=by
  rw[L5,(r.val k).DK,Option.isSome_map]
 unfold putK storedH;rw[e];by_cases q:(atKey xs k).isSome=true
 ·rw[ee q,ee q];exact r.repl k a
 ·rw[er q,er q];exact Paired.snoc r ⟨rfl,c,a⟩
theorem KT.keeps{H a:Hp}{kvs:List (List Key×V)}{xs:List (List Key×Addr×Value)}(r:KT H kvs xs)(d:∀b c,H b=some (.tup c)->a b=some (.tup c)):KT a kvs xs :=
 Paired.Wc r λ_ _ z=>⟨z.1,d _ _ z.2.1,z.2.2⟩
section
variable{P:Program}{w:World}{H:Hp}{h:Heap}{a:Addr}
theorem YA{u:HO}(ok:yM P w H h)(e:Rd H a u):fP P w H h a u:=e.ok ok
theorem Jy{kvs:List (Key×V)}(ok:yM P w H h)(e:Rd H a (.dK kvs)):kvs.length<=sizeLine/\(a==sysModules)=false/\∃vs,KV kvs vs/\h.DictOf (ie P w) a vs :=
 show fP P w H h a (.dK kvs) from YA ok e
theorem acN{kvs:List (Key×V)}(ok:yM P w H h)(e:H a=some (.dK kvs)):kvs.length<=sizeLine/\(a==sysModules)=false/\∃vs,KV kvs vs/\h.DictOf (ie P w) a vs:=Jy ok (.inl e)
theorem GD{c:List Key}(ok:yM P w H h)(e:H a=some (.tup (c.map kV))):(tupleKind (ie P w)).is h c a:=by
 obtain⟨_,b,r,o,f,d,n,g⟩:=(show fP P w H h a (.tup (c.map kV)) from ok a _ e);exact⟨o,b.toArray,n,f,d,g,by simpa using Jx r⟩
theorem Jz{kvs:List (List Key×V)}(ok:yM P w H h)(e:Rd H a (.dT kvs)):kvs.length<=sizeLine/\(a==sysModules)=false /\
 ∃xs,KT H kvs xs/\h.DictOfH (tupleKind (ie P w)) a xs:=by
 obtain⟨z,y,xs,r,o,i,d,g,f,s,j,k⟩:=(show fP P w H h a (.dT kvs) from YA ok e);refine⟨z,y,xs,r,o,i,d,g,f,s,j,λx hx=>?_,k⟩;have b:∀{l:List (List Key×V)} {m:List (List Key×Addr×Value)},KT H l m->∀x∈m,(tupleKind (ie P w)).is h x.1 x.2.1:=by
  intro l m q;induction q with
  |nil=>intro x hx;exact nomatch hx
  |@cons p q u v c t n =>
   intro x hx;rcases bf.mp hx with e|hx
   ·subst e
    exact GD ok (by rw[<- c.1];exact c.2.1)
   ·exact n x hx
 exact b r x hx
theorem YB{kvs:List (List Key×V)}(ok:yM P w H h)(e:H a=some (.dT kvs)):kvs.length<=sizeLine/\(a==sysModules)=false /\
 ∃xs,KT H kvs xs/\h.DictOfH (tupleKind (ie P w)) a xs:=Jz ok (.inl e)
end
def AW(H:Hp)(a:Addr)(y:V)(r:Option V):Prop :=
 (∃kvs k,Rd H a (.dK kvs)/\y=kV k/\r=CF kvs k)∨∃kvs k b,Rd H a (.dT kvs)/\y=.ref b/\H b=some (.tup (k.map kV))/\r=CF kvs k
def Kz(H:Hp)(a:Addr)(y v:V)(H':Hp):Prop :=
 (∃kvs k,H a=some (.dK kvs)/\y=kV k/\kvs.length<sizeLine/\H'=upd H a (.dK (putK kvs k v))) ∨
 ∃kvs k b,H a=some (.dT kvs)/\y=.ref b/\H b=some (.tup (k.map kV))/\kvs.length<sizeLine/\H'=upd H a (.dT (putK kvs k v))
theorem AW.k{H:Hp}{a:Addr}{kvs:List (Key×V)}{k:Key}(e:H a=some (.dK kvs)):AW H a (kV k) (CF kvs k):=.inl ⟨kvs,k,.inl e,rfl,rfl⟩
theorem AW.t{H:Hp}{a b:Addr}{kvs:List (List Key×V)}{k:List Key}(e:H a=some (.dT kvs))(c:H b=some (.tup (k.map kV))):AW H a (.ref b) (CF kvs k):=.inr ⟨kvs,k,b,.inl e,rfl,c,rfl⟩
theorem Kz.k{H:Hp}{a:Addr}{kvs:List (Key×V)}{k:Key}{v:V}(e:H a=some (.dK kvs))(hl:kvs.length<sizeLine):Kz H a (kV k) v (upd H a (.dK (putK kvs k v))):=.inl ⟨kvs,k,e,rfl,hl,rfl⟩
theorem Kz.t{H:Hp}{a b:Addr}{kvs:List (List Key×V)}{k:List Key}{v:V}(e:H a=some (.dT kvs))(c:H b=some (.tup (k.map kV)))(hl:kvs.length<sizeLine) :
 Kz H a (.ref b) v (upd H a (.dT (putK kvs k v))):=.inr ⟨kvs,k,b,e,rfl,c,hl,rfl⟩
section
variable{X:Cx}{pins:List (Addr×Obj)}{σ:St}{H:Hp}{s:Shared}{a:Addr}{y v:V}{u r:Value}{o:Option V}{A:Around}{E:Value->Shared->Prop}
theorem Inv.big(I:Inv X pins σ H s):sysModules<s.heap.objs.size:=by
 have h:mainGlobals<s.heap.objs.size:=(I.mod.glob.keeps I.bk).lt;exact Nat.lt_trans (!_) h
theorem Rz{Q:Value->Shared->Prop}(r:A.units+1<cLine)(I:Inv X pins σ H s)(g:AW H a y (some v))(q:RelV y u)(h:∀d s',Inv X pins σ H s'->RelV v d->Q d s') :
 wpAny (model X.prog X.w) A (getItem (.ref a) u) Q E s:=by
 rcases g with ⟨m,k,e,i,l⟩|⟨m,k,b,e,i,C,l⟩
 ·subst i
  obtain⟨z,B,D,rel,j⟩:=Jy I.hok e;obtain⟨d,f,c⟩:=yG.some_of (v:=v) (o:=valueAt D k) (by rw[l];exact rel.val k);exact wpAny_getItem_of (L6 q) j.mapOf f (h d _ (I.tok _) c)
 ·subst i
  cases (show u=Value.ref b from q);obtain⟨z,B,x,rel,j⟩:=Jz I.hok e;obtain⟨d,f,c⟩:=yG.some_of (v:=v) (o:=(atKey x k).map (·.2)) (by rw[l];exact rel.val k);obtain⟨p,t,n⟩:=Option.map_eq_some_iff.mp f;refine wpAny_getItem_heap (tupleKind_room_in1 r) (GD I.hok C) j t ?_;rw[n];exact h d _ (I.tok _) c
theorem agv{Q:Value->Shared->Prop}(m:A.units+1<cLine)(I:Inv X pins σ H s)(g:AW H a y o)(j:RelV y u)(h:∀s',Inv X pins σ H s'->Q (.bool o.isSome) s') :
 wpAny (model X.prog X.w) A (compareOp .In u (.ref a)) Q E s:=by
 rcases g with ⟨i,k,e,d,l⟩|⟨i,k,b,e,d,n,l⟩
 ·subst d
  obtain⟨z,c,r,rel,f⟩:=Jy I.hok e;refine wpAny_in_of (L6 j) c f.mapOf ?_;rw[<- (rel.val k).DK,<- l];exact h _ (I.tok _)
 ·subst d
  cases (show u=Value.ref b from j);obtain⟨z,c,p,rel,f⟩:=Jz I.hok e;refine wpAny_in_heap (tupleKind_room_in1 m) (GD I.hok n) c f ?_;have q:=(rel.val k).DK;rw[Option.isSome_map] at q;rw[<- q,<- l];exact h _ (I.tok _)
theorem P8{h':Heap}{t':Nat}{ob:HO}(I:Inv X pins σ H s)(d:qb (H a))(f:Heap.SameBut a s.heap h')(g:∃q,h'.get? a=some q)(c:fP X.prog X.w (upd H a ob) h' a ob) :
 Inv X pins σ (upd H a ob) {s with heap:=h',toks:=t'} :=
 I.write (x:=a) (e:=a) d (.inl rfl) (λb q h z=>(f.2 b h).trans z) g c
theorem Z8{P:Program}{w:World}{c:Hp}{h':Heap}{kvs:List (Key×V)}{vs:List (Key×Value)}(z:kvs.length<=sizeLine)(d:(a==sysModules)=false)(b:KV kvs vs)(dd:h'.DictOf (ie P w) a vs) :
 fP P w c h' a (.dK kvs):=⟨z,d,vs,b,dd⟩
theorem RA{B:Hp}{Q:Unit->Shared->Prop}(K:A.units+1<cLine)(I:Inv X pins σ H s)(g:Kz H a y v B)(C:RelV y u)(F:RelV v r)(h:∀s',Inv X pins σ B s'->Q () s') :
 wpAny (model X.prog X.w) A (setItem (.ref a) u r) Q E s:=by
 rcases g with ⟨d,k,e,o,l,t⟩|⟨d,k,b,e,o,D,l,t⟩
 ·subst o t
  obtain⟨z,n,R,rel,p⟩:=acN I.hok e;have m:R.length<=sizeLine:=by rw[<- rel.length];exact z
  have j:(putK d k v).length<=sizeLine:=by have:=ET d k v;lia
  refine wpAny_setItem_pairs (hsz:=m) (L6 C) p λG f x=>h _ ?_;have N:∃q,G.get? a=some q:=let ⟨q,_,_,i,_⟩:=f;⟨q,i⟩;exact P8 I (by rw[e];exact k6) x N (Z8 j n (rel.put k F) f)
 ·subst o t
  cases (show u=Value.ref b from C);obtain⟨z,n,M,rel,p⟩:=YB I.hok e;have m:M.length<=sizeLine:=by rw[<- Paired.length rel];exact z
  have j:(putK d k v).length<=sizeLine:=by have:=ET d k v;lia
  refine wpAny_setItem_heap (hsz:=m) (tupleKind_room_in1 K) (GD I.hok D) p λG f x=>h _ ?_;obtain⟨q,P,L,i,O,U,S,_,T⟩:=f;refine P8 I (by rw[e];exact k6) x ⟨q,i⟩ ⟨j,n,_,(rel.put k D F).keeps λc V J=>?_,q,P,L,i,O,U,S,T⟩;rw[aH (vK J e (λz=>nomatch z))];exact J
end
def acO(i:Expr):Prop:=∀ov iv,subscripted i false ov iv=operate [ov,iv] (getItem ov iv)
theorem Wu{prog:Program}{w:World}{A:Around}{E:Value->Shared->Prop}{s:Shared}{env:Env}{b a:Expr}{l:Pos}{T id:String}{Q:Value->Shared->Prop}
 (hl:typeLookup (.type T) "__getitem__" = pure (some (.builtin id))) (n:acO a)
 (h:wpAny (model prog w) A (eval b env) (λo e=>wpAny (model prog w) A (eval a env) (λi c=>c.TypeIs o T/\wpAny (model prog w) A (getItem o i) Q E c) E e) E s) :
 wpAny (model prog w) A (eval (.Subscript b a l) env) Q E s:=by
 refine Subscript_ (wpAny_mono h (λo e k=>wpAny_mono k (λi c d=>?_) λ_ _ x=>x) λ_ _ x=>x);obtain⟨m,d⟩:=d;unfold subscriptTail;refine wpAny_bind ?_;rw[getitemInPython_of_ne m.not_modules];refine wpAny_bind (wpAny_specialOf m hl ?_);have g:wpAny (model prog w) A (subscripted a false o i) (λr f=>wpAny (model prog w) A (letTemporaryGo b o r >>= λ_=>pure r) Q E f) E c:=by
  rw[n o i];exact wpAny_operating (wpAny_mono d (λr f j=>wpAny_bind (wpAny_letTemporaryGo (wpAny_pure j))) λ_ _ x=>x)
 first
  |exact wpAny_pure (wpAny_bind g)
  |exact wpAny_bind (wpAny_pure (wpAny_bind g))
  |exact wpAny_bind g
theorem L7{X:Cx}{c:List (Addr×Obj)}{h:St}{H:Hp}{s:Shared}{a:Addr}{y:V}{o:Option V}(I:Inv X c h H s)(g:AW H a y o):s.TypeIs (.ref a) "dict" := by
 rcases g with ⟨f,k,e,_,_⟩|⟨f,k,b,e,_,_,_⟩
 ·obtain⟨_,_,j,_,d⟩:=Jy I.hok e
  exact d.typeIs
 ·obtain⟨_,_,i,_,d⟩:=Jz I.hok e
  exact d.typeIs
def acP(td ty:TE):TE:=λσ H Q=>td σ H λx H1=>ty σ H1 λy H2=>∃a v,x=.ref a/\AW H2 a y (some v)/\Q v H2
def agw(ty td:TE):TE:=λσ H Q=>ty σ H λy H1=>td σ H1 λx H2=>∃a o,x=.ref a/\AW H2 a y o/\Q (.bl o.isSome) H2
def acQ(td ty tv:TE):TS:=λD σ H=>tv σ H λv H1=>td σ H1 λx H2=>ty σ H2 λy H3=>∃a H4,x=.ref a/\Kz H3 a y v H4/\D.nx σ H4
section
variable{X:Cx}{o i e value:Expr}{pos pos' tpos:Pos}{td ty tv:TE}
theorem P9(k:X.A.units+1<cLine)(B:PE X o td)(t:PE X i ty)(C:acO i):PE X (.Subscript o i pos) (acP td ty):=by
 intro b s e H Q I h;refine Wu PySem.F.slot_dict_getitem.lookup C (gz (B b s e H _ I h) λu p ⟨x,z,r,f,j⟩=>gz (t b p e z _ r j) λG D ⟨y,n,d,m,a,v,q,g,l⟩=>?_);subst q;obtain rfl:u=Value.ref a:=f;exact⟨L7 d g,Rz k d g m λJ E w c=>⟨v,n,w,c,l⟩⟩
theorem T4(f:X.A.units+1<cLine)(r:PE X i ty)(z:PE X o td):PC X .In i o (agw ty td):=by
 intro b s c H Q I h;refine gz (r b s c H _ I h) λD m ⟨y,v,q,k,e⟩=>gz (z b m c v _ q e) λu B ⟨x,l,w,d,a,p,n,g,j⟩=>?_;subst n;obtain rfl:u=Value.ref a:=d;exact agv f w g k λC t=>⟨.bl p.isSome,l,t,rfl,j⟩
theorem KA(f:X.A.units+1<cLine)(K:PE X o td)(B:PE X i ty)(k:PE X value tv)(L:swapsWith value (some (.Subscript o i pos')) pos.line X.env=pure false) :
 PS X (.Assign [.Subscript o i pos'] value pos) (acQ td ty tv):=by
 intro b s c H D I h;refine wpAny_Assign_Subscript (gz (k b s c H _ I h) λr p ⟨v,G,w,E,e⟩=>gz (K b p c G _ w e) λu t ⟨x,n,J,d,l⟩=>gz (B b t c n _ J l) λP N ⟨y,O,C,m,a,z,q,g,F⟩=>?_) L;subst q;obtain rfl:u=Value.ref a:=d;exact RA f C g m E λM j=>⟨c,z,j,F⟩
end
theorem T5{P:Program}{w:World}{H:Hp}(h:Heap)(a:sysModules<h.objs.size):fP P w H (h.push {cls:=.type "dict",data:=.dict #[]}) h.objs.size (.dK []) :=
 ⟨bN _,beq_eq_false_iff_ne.mpr (bL (bE a)),[],.nil,Heap.DictOf.new h⟩
theorem T6{P:Program}{w:World}{H:Hp}(h:Heap)(a:sysModules<h.objs.size):fP P w H (h.push {cls:=.type "dict",data:=.dict #[]}) h.objs.size (.dT []) :=
 ⟨bN _,beq_eq_false_iff_ne.mpr (bL (bE a)),[],.nil,_,#[],0,Heap.get?_push_size _ rfl,⟨rfl,rfl,rfl⟩,rfl,rfl,k8⟩
def Z9:TE:=λ_ H Q=>∀p,H p=none->Q (.ref p) (upd H p (.dK []))
def aaa:TE:=λ_ H Q=>∀p,H p=none->Q (.ref p) (upd H p (.dT []))
section
variable{X:Cx}{pos:Pos}
theorem T7:PE X (.Dict [] [] pos) Z9:=λb s c H Q I h =>
 wpAny_Dict_empty ⟨.ref s.heap.objs.size,_,I.laid (a:=s.heap.objs.size) (o:=.dK []) (t':=s.toks) (λ_ _ q=>Heap.get?_push_of_some _ q) (ay _) (T5 s.heap I.big),rfl,h _ (I.hok.fresh (ay _))⟩
theorem yW:PE X (.Dict [] [] pos) aaa:=λb s c H Q I h =>
 wpAny_Dict_empty ⟨.ref s.heap.objs.size,_,I.laid (a:=s.heap.objs.size) (o:=.dT []) (t':=s.toks) (λ_ _ q=>Heap.get?_push_of_some _ q) (ay _) (T6 s.heap I.big),rfl,h _ (I.hok.fresh (ay _))⟩
end
structure M1(X:Cx)(o:Expr)(m:Str)(apos:Pos)(e:Expr)(cpos:Pos):Prop where
 base:attributeBase o m X.env (eval o X.env)=eval o X.env
 few:((backTo cpos (starEach [e] X.env)).all (λx=>!x.1)&&(backToKw cpos (keywordEach [] X.env)).all (λx=>x.1.isSome)
  && decide (([e]:List Expr).length+([]:List Keyword).length+(if ([]:List Keyword).isEmpty then 0 else 1)<30))=true
 line:(apos.endLine==cpos.line)=true
 trees:backTo cpos (starEach [e] X.env)=[(false,eval e X.env)]
def IsD(H:Hp)(a:Addr):Prop:=(∃kvs,Rd H a (.dK kvs))∨∃kvs,Rd H a (.dT kvs)
theorem aab{X:Cx}{c:List (Addr×Obj)}{k:St}{H:Hp}{s:Shared}{a:Addr}(I:Inv X c k H s)(d:IsD H a) :
 s.TypeIs (.ref a) "dict" /\ (∀b,Value.ref a=.ref b->∃ob,s.heap.get? b=some ob/\ob.dict=none)/\(a==sysModules)=false:=by
 rcases d with ⟨j,e⟩|⟨j,e⟩
 ·obtain⟨_,g,m,_,f⟩:=Jy I.hok e
  refine⟨f.typeIs,λb q=>?_,g⟩;cases q;obtain⟨ob,_,_,i,h,_⟩:=f;exact⟨ob,i,h.2.1⟩
 ·obtain⟨_,g,l,_,f⟩:=Jz I.hok e
  refine⟨f.typeIs,λb q=>?_,g⟩;cases q;obtain⟨ob,_,_,i,h,_⟩:=f;exact⟨ob,i,h.2.1⟩
section
variable{X:Cx}{pins:List (Addr×Obj)}{σ:St}{H:Hp}{s:Shared}{a:Addr}{y d:V}{u r:Value}{o:Option V}{A:Around}{E:Value->Shared->Prop}
theorem aac{Q:Value->Shared->Prop}(n:A.units+1<cLine)(I:Inv X pins σ H s)(g:AW H a y o)(j:RelV y u)(h:∀m s',Inv X pins σ H s'->RelV (o.getD .fH) m->Q m s') :
 wpAny (model X.prog X.w) A (call (.builtin "dict.get") [.ref a,u]) Q E s:=by
 rcases g with ⟨i,k,e,f,l⟩|⟨i,k,b,e,f,q,l⟩
 ·subst f
  obtain⟨z,d,r,rel,c⟩:=Jy I.hok e;refine call_meetsIn PySem.F.slot_dict_get c.typeIs PySem.F.entry_dict_get (PySem.F.args_dict_get_2 _ _) (meets_dict_get (ie X.prog X.w) a (L6 j) d) ⟨_,c.mapOf,h _ _ (I.tok _) ?_⟩;rw[l];exact (rel.val k).getD rfl
 ·subst f
  cases (show u=Value.ref b from j);obtain⟨z,d,p,rel,c⟩:=Jz I.hok e;refine call_meetsIn PySem.F.slot_dict_get c.typeIs PySem.F.entry_dict_get (PySem.F.args_dict_get_2 _ _) (meetsH_dict_get (tupleKind (ie X.prog X.w)) a b d) ⟨tupleKind_room_in1 n,k,p,GD I.hok q,c,h _ _ (I.tok _) ?_⟩;rw[l];exact (rel.val k).getD rfl
end
def aad(td ty:TE):TE:=λσ H Q=>td σ H λx H1=>∃a,x=.ref a/\IsD H1 a/\ty σ H1 λy H2=>∃o,AW H2 a y o/\Q (o.getD .fH) H2
section
variable{X:Cx}{o e f:Expr}{apos cpos:Pos}{td ty tx:TE}
theorem T8(l:X.A.units+1<cLine)(E:PE X o td)(w:PE X e ty)(m:M1 X o "get" apos e cpos):PE X (.Call (.Attribute o "get" apos) [e] [] cpos) (aad td ty):=by
 intro b s i H Q I h;refine wpAny_Call_method m.base m.few m.line PySem.F.plainAttrs_dict PySem.F.slot_dict_get PySem.F.type_dict_get (gz (E b s i H _ I h) λu r ⟨x,C,f,j,a,p,d,k⟩=>?_);subst p;obtain rfl:u=Value.ref a:=j;obtain⟨z,v,_⟩:=aab f d;refine⟨z,v,?_⟩;rw[m.trees];refine Calls.callWith_builtin rfl (Calls.evalArgs_plain (Calls.spliced_cons (gz (w b r i C _ f k) λL J ⟨y,q,D,t,G,g,n⟩=>Calls.spliced_nil ?_)));exact aac l D g t λM K B c=>⟨_,q,B,c,n⟩
end
end L2
namespace Att
open PySem PySem.W PySem.Calls PyProof.Rows
theorem FH{P:Params}{h:Heap}:∀(ns:List Int) (vs:List Value),WellAll P h vs (ns.map WData.int)->IntsAre vs ns:=by
 intro ns;induction ns with
 |nil =>
  intro vs w;rw[List.map_nil] at w;cases w;exact .nil
 |cons n ns c =>
  intro vs w;rw[bO] at w;cases w with
  |cons a b =>
   cases a;exact .cons _ _ (c _ b)
theorem RB{l:OpenLaw}{n:Nat}(w:l.most=some n){P:Params}{h:Heap}{args:List WData}{b:List Value}
 (c:l.row.toRowW.claim.pre args=true) (k:WellAll P h b args) :
 ∃a vs ns,b=[Value.ref a]/\args=[WData.list (ns.map WData.int)]/\h.get? a=some {cls:=.type "list",data:=.seq vs.toArray}/\IntsAre vs ns/\ns.length<=n:=by
 have j:WShape.hasAll [] args [.list .int]=true:=(pre_splitW c).1;have m:l.pre.holds [] {args:=args}=true:=(pre_splitW c).2;obtain⟨d,r,rfl,u,s⟩:=hasAllW_cons j;obtain rfl:=hasAllW_nil s;obtain⟨y,rfl,x⟩:=hasW_list u;obtain⟨ns,rfl⟩:=items_int x;have e:ns.length<=n:=by
  unfold OpenLaw.pre at m;have g:(WTm.not (.lt (.lit (.int (n:Int))) (.len (.arg 0)))).holds [] {args:=[.list (ns.map .int)]}=true:=by
   have g:=(holds_andW m).1;rw[w] at g;exact g
  have i:=condW_of g (w_not (w_lt w_lit (w_len_list (w_arg rfl))));rw[ah] at i;refine Nat.le_of_not_lt λq=>?_;have t:(n:Int)<((ns.length:Nat):Int):=∅
  first
   | (rw[fy t] at i;exact eL i (!_))
   | (simp at i;lia)
 cases k with
 |cons p o =>
  cases o;cases p with
  |list v f=>exact⟨_,_,ns,rfl,rfl,v,FH ns _ f,e⟩
theorem RC(l:OpenLaw)(args:List WData):l.row.toRowW.claim.post args (.bool true) args=true :=
 postW_of (r:=l.row.toRowW) (X:=(true==true))
  (show WShape.has [] (.bool true) .bool=true by first|rfl|decide|simp[WShape.has,WShape.arms,WShape.armsAll])
  (show (WTm.eq .res (.lit (.bool true))).value [] {args:=args,res:=some (.bool true),after:=args}=some (.bool (true==true)) from w_eq_bool (w_res rfl) w_lit) rfl
theorem L8{l:OpenLaw}{n:Nat}{q:Program}{e:List Str}{XP:(Str->Option Value)->Heap->Prop}{E:World->Heap->Prop}{d:DefRec}
 (P:l.most=some n) (y:d.params.defaults=[])
 (call:∀(w:World) (c b:Shared) (p v:Str->Option Value) (m:Addr) (o:Obj) (x t g:Value) (a:Addr) (vs:List Value) (ns:List Int),
  Ground q e [] XP w c p v b.heap->E w b.heap ->
  b.heap.get? m=some o->o.data=.func (docDef d.name d.params d.body d.scope x t g)->b.heap.CodeRec t d.name->p d.name=some (.ref m) ->
  b.heap.get? a=some {cls:=.type "list",data:=.seq vs.toArray}->IntsAre vs ns->ns.length<=n->b.gens=#[] ->
  codeAny (model l.prog w) callerA (.call (.ref m) ⟨[.ref a],[]⟩) (λr s=>r=.ok (.ret (.bool true))/\OldK b.heap s.heap/\s.os=b.os/\AllBare s.gens) b) :
 WalkO q e XP E l.row.toRowW d [] (λf vs=>PySem.call f vs):=by
 intro w c b p v G Y m o x t g I kV O J A C u S F B T k D M z Q;obtain rfl:I=.none:=Dflts.none C y;obtain rfl:kV=.none:=Dflts.noKw C;obtain⟨a,vs,ns,rfl,rfl,i,h,j⟩:=RB P k z;refine enter_call (codeAny_mono (call w c b p v m o x t g a vs ns G Y O (fd_plain J) A u i h j S) λr s L=>?_);obtain⟨rfl,K,R,N⟩:=L;exact⟨.inl ⟨.bool true,.bool true,[],rfl,λ_=>rfl,.bool true,RC l _,λ_=>⟨List.Pairwise.nil,λ_ H=>(nomatch H)⟩⟩,K,R,N⟩
end Att
namespace L2
open PySem PySem.Spec PyProof.Rows
theorem JA:∀{vs:List Value} {ns:List Int},IntsAre vs ns->bZ (ns.map V.int) vs
 |_,_,.nil=>.nil
 |_,_,.cons n t h=>.cons ⟨t,rfl⟩ (JA h)
def aae(H:Hp):Prop:=∀b,H b=none∨∃o xs,H b=some (.Ax o (.lst xs))
theorem T9{P:Program}{w:World}{K:af}{t J:Str->Option Value}{CX:Rt}{k:Nat}{Q a:Addr}{Z:FuncData}{x:Str}{sp:Sp}{c:Shared}{vs:List Value}{ns:List Int}
 (KX:K.In c.heap) (D:c.heap.Ns mainGlobals t) (f:c.heap.Ns builtinsNs J) (L:∀x:Str,x≠"__name__" -> J x=bootBuiltins x) (E:c.heap.NoLimit) (hg:c.gens=#[])
 (I:c.heap.get? a=some {cls:=.type "list",data:=.seq vs.toArray}) (X:IntsAre vs ns) (W:ns.length<=sizeLine) (hr:jE k callerA)
 (F:∀base:Heap,K.In base->base.Ns mainGlobals t->cz P w K t base CX k Q Z [x] sp) (l:∀(s:Shared) (u:Value),BindsTo s Z ⟨[u],[]⟩ [(x,u)])
 (SQ:∀H:Hp,aae H->bP K H a (ns.map V.int)->sp [.ref a] H (λv _=>v=.bl true) λ_ _ _=>False)
 (O:∀H e g,CX [] H c (λ_ _ _=>False) e g->False) :
 codeAny (model P w) callerA (.call (.ref Q) ⟨[.ref a],[]⟩) (λr g=>r=.ok (.ret (.bool true))/\OldK c.heap g.heap/\g.os=c.os/\AllBare g.gens) c:=by
 have Y:=JA X;have R:=X.length;have j:∀H:Hp,aae H->bP K H a (ns.map V.int)->yM P w H c.heap->(∀b,H b≠none->b=a)->(H a≠none->K.lookup a=none) ->
  codeAny (model P w) callerA (.call (.ref Q) ⟨[.ref a],[]⟩) (λr g=>r=.ok (.ret (.bool true))/\OldK c.heap g.heap/\g.os=c.os/\AllBare g.gens) c:=by
  intro H hO hS A hA hK;have Qa:∀{b:Addr} {o:Obj},c.heap.get? b=some o->H b=none->(Ke c.heap H).get? b=some o:=λe n=>S5 e n;have T:∀{b:Addr} {o:Obj} {B:Array DictEntry} {p:Nat},c.heap.get? b=some o->o.data=.dict B p->H b=none:=λ{b o B p} e d=>by
   cases q:H b with
   |none=>rfl
   |some u =>
    have S:b=a:=hA b (by rw[q];simp);subst S;rw[I] at e;cases e;have d':Data.seq vs.toArray _=Data.dict B p:=d;cases d'
  have i:∀{b:Addr} {m:Str->Option Value},c.heap.Ns b m->(Ke c.heap H).Ns b m:=λ{b m} ⟨o,B,p,e,d,r⟩=>⟨o,B,p,Qa e (T e d),d,r⟩;have C:K.In (Ke c.heap H):=λb o e=>Qa (KX b o e) (by
   cases q:H b with
   |none=>rfl
   |some u =>
    have S:b=a:=hA b (by rw[q];simp);subst S;rw[hK (by rw[q];simp)] at e;cases e)
  have hM:Mod K t (Ke c.heap H):=⟨C,i D,⟨J,i f,L⟩,let ⟨mc,h1,h2⟩:=E;⟨mc,i h1,h2⟩⟩;have e0:Oj P w K t (Ke c.heap H) callerA [] c H:=⟨rfl,hM,λb o e=>We e,Nat.le_of_eq (Rl _ _),trivial,λb f=>eL (show b∈([]:List Addr) from f) (-_),A,.of_eq hg⟩;refine codeAny_mono ((F _ C (i D)).run callerA [] c H ⟨[.ref a],[]⟩ [.ref a] [.ref a] _ _ hr e0 (l c (.ref a)) (.cons rfl .nil) (SQ H hO hS)) λr g h=>?_;cases r with
  |error e=>exact (O H e g h).elim
  |ok fl =>
   cases fl with
   |next=>exact jC h
   |brk=>exact jC h
   |cont=>exact jC h
   |ret u =>
    obtain⟨v,H',os,y,un,M,r',q⟩:=h;have q':v=.bl true:=q;subst q';obtain rfl:u=Value.bool true:=r';refine⟨rfl,OldK.of_keep λb o e=>?_,os,y⟩;cases q:H b with
    |none=>exact un.keep b o e q (by intro z;exact eL (show b∈([]:List Addr) from z) (-_)) (-_)
    |some u =>
     rcases hO b with z|⟨ob,xs,z⟩
     ·rw[q] at z;cases z
     ·have z2:=un.AV b ob _ z
      obtain⟨U,_⟩:=A b _ z;obtain⟨e2,_⟩:=M b _ z2;rw[e] at U;cases U;exact e2
 cases N:K.lookup a with
 |some o =>
  have e:=KX a o N;rw[I] at e;cases e;refine j (λ_=>none) (λ_=>.inl rfl) (.inr ⟨_,vs.toArray,_,N,rfl,rfl,rfl,by rw[aP,R];exact W,by simpa using Y⟩) (λb u z=>by have G:(none:Option HO)=some u:=z;cases G) (λb z=>eL rfl z) λz=>eL rfl z
 |none =>
  refine j (λb=>if b=a then some (.Ax {cls:=.type "list",data:=.seq vs.toArray} (.lst (ns.map V.int))) else none) (λb=>?_) (.inl (.inr ⟨{cls:=.type "list",data:=.seq vs.toArray},ee rfl⟩)) (λb u z=>?_) (λb z=>?_) λ_=>N
  ·by_cases f:b=a
   ·exact .inr ⟨_,_,ee f⟩
   ·exact .inl (er f)
  ·by_cases f:b=a
   ·have G:=(ee f).symm.trans z
    cases G;subst f;exact⟨I,by rw[ah];exact W,vs,_,Y,I⟩
   ·have G:=(er f).symm.trans z
    cases G
  ·by_cases f:b=a
   ·exact f
   ·exact eL (er f) z
theorem Wv{l:PySem.W.OpenLaw}{n k:Nat}{q:Program}{j:List Str}{XP:(Str->Option Value)->Heap->Prop}{I:World->Heap->Prop}{d:DefRec}{K:Params->af}{CX:World->Rt}{sp:World->Sp}{x:Str}
 (Q:l.most=some n) (B:n<=sizeLine) (z:d.params.defaults=[]) (L:jE k callerA)
 (X:∀(w:World) (h:Heap),I w h->(K w.params).In h)
 (F:∀(w:World) (m:Str->Option Value) (t:Addr) (h:Heap),(K w.params).In h->h.Ns mainGlobals m->m d.name=some (.ref t) ->
  ∃C:FuncData,(∀(s:Shared) (u:Value),BindsTo s C ⟨[u],[]⟩ [(x,u)]) /\
   ∀base:Heap,(K w.params).In base->base.Ns mainGlobals m->cz l.prog w (K w.params) m base (CX w) k t C [x] (sp w))
 (P:∀(w:World) (H:Hp) (a:Addr) (ns:List Int),ns.length<=n->aae H->bP (K w.params) H a (ns.map V.int)->sp w [.ref a] H (λv _=>v=.bl true) λ_ _ _=>False)
 (A:∀(w:World) (H:Hp) (s:Shared) (e:Value) (s':Shared),CX w [] H s (λ_ _ _=>False) e s'->False) :
 PySem.W.WalkO q j XP I l.row.toRowW d [] (λf vs=>PySem.call f vs):=by
 refine Att.L8 Q z λw E r m Z t o pm cd M a vs ns G Y ho hd S y p i c U=>?_;have D:=X w _ Y;obtain⟨C,O,J⟩:=F w m t _ D G.T.g y;exact T9 D G.T.g G.T.b G.T.builtins G.T.nolimit U p i (aN c B) L J O (λH N R=>P w H a ns c N R) λH e s'=>A w H r e s'
noncomputable def inClass(s:Stmt)(j:Nat):Stmt:=match s with
 |.ClassDef _ _ _ body _ _ _ _ _ _ _=>body.getD j (.Pass ⟨0,0,0,0⟩)
 |_=>.Pass ⟨0,0,0,0⟩
noncomputable def jv(s:Stmt):Arguments:=match s with
 |.FunctionDef _ a _ _ _ _ _ _ _ _=>a
 |_=>{posonlyargs:=[],args:=[],vararg:=none,kwonlyargs:=[],kw_defaults:=[],kwarg:=none,defaults:=[]}
noncomputable def fX(s:Stmt):List Stmt:=match s with
 |.FunctionDef _ _ b _ _ _ _ _ _ _=>b
 |_=>[]
noncomputable def aC(s:Stmt):Scope:=match s with
 |.FunctionDef _ _ _ _ _ _ sc _ _ _=>sc
 |_=>{kind:=.function,names:=[],isGenerator:=false,isCoroutine:=false}
abbrev iM:Rt:=λ_ _ _ _ _ _=>False
abbrev E0:XK:=λ_ _ _=>False
theorem mK{X:Cx}:sf iM X E0:=λ_ _ _ _ _ _ _ h=>h.elim
structure NP(K:af)(x qual:Str)(st:Stmt)(f:Addr)(fd:FuncData):Prop where
 ex:∃(oc:Value) (od:Option Addr) (kV doc pm:Value) (an:Option Addr) (cdv ct:Value) (osl:Array (Option Value)),
  fd=eT x qual (jv st) (fX st) (aC st) .none kV doc pm an cdv ct/\K.lookup f=some ⟨oc,od,.func fd,osl⟩/\jm K cdv qual=true
 kp:dX K (.ref f)=true
section
variable{P:Program}{w:World}{K:af}{mg:Str->Option Value}{base:Heap}
theorem NP.ok{x b:Str}{st:Stmt}{f:Addr}{i:FuncData}{N ps:List Str}{k:Nat}{sp:Sp}(F:NP K x b st f i)(S:aJ N ps (aC st))(e:∀vs H Q E,sp vs H Q E->vs.length=ps.length)
 (d:∀(c:Value) (A:Around) (a:List Env) (s:Shared) (H:Hp) (vs:List V) (Q:VK) (E:XK),jE k (A.deeper (envOfC b (aC st) s.heap.objs.size f c))->sp vs H Q E ->
  ∃t,iC (oj iM P w K mg base N b (aC st) f c A a s H E).Yr (fX st) t/\t {nx:=λ_ l=>Q .fH l,rt:=Q} (start N vs) H):cz P w K mg base iM (k+1) f i ps sp:=by
 obtain⟨r,u,kV,j,p,v,c,y,n,rfl,lk,g⟩:=F.ex;refine TM lk g S e λA a s H vs Q E o m=>?_;obtain⟨t,h,q⟩:=d c A a s H vs Q E o m;exact⟨t,h.Yr,q⟩
theorem NP.binds{x a:Str}{st:Stmt}{f:Addr}{g:FuncData}{ps:List Str}(F:NP K x a st f g)
 (h:∀(kV b d:Value) (e:Option Addr) (c ct:Value) (us:List Value),us.length=ps.length->bindArgs (eT x a (jv st) (fX st) (aC st) .none kV b d e c ct) ⟨us,[]⟩=pure (ps.zip us)):Binds K g ps []:=by
 obtain⟨k,l,kV,b,d,e,c,ct,i,rfl,lk,j⟩:=F.ex;exact .all (h kV b d e c ct)
theorem Ua{x a:Str}{st:Stmt}{f:Addr}{j:Value}{i g:Option Addr}{e:Array (Option Value)}{kV d h b ct:Value}(l:K.lookup f=some ⟨j,i,.func (eT x a (jv st) (fX st) (aC st) .none kV d h g b ct),e⟩)
 (c:jm K b a=true) (k:dX K (.ref f)=true):NP K x a st f (eT x a (jv st) (fX st) (aC st) .none kV d h g b ct):=⟨⟨j,i,kV,d,h,g,b,ct,e,rfl,l,c⟩,k⟩
end
theorem CG{A:Around}{k:Nat}(a:jE k A):A.units+1<cLine:=cK (fz (by decide:1<=64) _) a.units
theorem cS{n:Nat}(h:n<=1000):n<sizeLine:=cK h (!_)
section
variable{X:Cx}
theorem pv(i:Nat){x:Str}{a:Pos}(d:X.N[i]?=some x:=by rfl)(c:S3 X.env.scope x:=by first|exact Or.inl rfl|exact Or.inr (Or.inl rfl)|exact Or.inr (Or.inr rfl))(e:(x==("__debug__" : Str))=false:=by decide)
 (b:(x==("__classdict__" : Str))=false:=by decide):PE X (.Name x a) (Kg i):=ZG d c e b
end
theorem eZ{A B:Prop}(h:B):if false=true then A else B:=by
 rw[er aF];exact h
theorem gB{A B:Prop}(h:A):if true=true then A else B:=by
 rw[ee rfl];exact h
theorem ko{c A B:Prop}[Decidable c](b:c->A)(a:¬c->B):if c then A else B:=by
 by_cases h:c
 ·rw[ee h]
  exact b h
 ·rw[er h]
  exact a h
def aG(H H':Hp):Prop:=∀b o,H b=some o->H' b=some o
theorem aG.refl(H:Hp):aG H H:=λ_ _ h=>h
theorem aG.trans{H e d:Hp}(a:aG H e)(b:aG e d):aG H d:=λc o h=>b c o (a c o h)
theorem aG.free{H a:Hp}(e:aG H a){l:Addr}(h:a l=Option.none):H l=Option.none:=by
 cases q:H l with
 |none=>rfl
 |some o =>
  rw[e l o q] at h;cases h
theorem aG.seq{K:af}{H b:Hp}{a:Addr}{xs:List V}(e:aG H b)(h:bP K H a xs):bP K b a xs:=by
 rcases h with (h|⟨o,h⟩)|h
 ·exact .inl (.inl (e _ _ h))
 ·exact .inl (.inr ⟨o,e _ _ h⟩)
 ·exact .inr h
theorem RD{env:Env}{x:Str}{c:Addr}(h:env.cells.lookup x=some c):cellOf env x=pure c:=by
 unfold cellOf;rw[h]
noncomputable def mL(env:Env):List (Str×NameKind)->List (Str×Addr)->List (Str×Addr)
 |[],cs=>cs
 | (n,k)::r,cs=>mL env r (if k==.free then (n,(env.cells.lookup n).getD 0)::cs else cs)
theorem KC{env:Env}:∀(ns:List (Str×NameKind)) (cs:List (Str×Addr)),(∀n,(n,NameKind.free)∈ns->∃c,env.cells.lookup n=some c) ->
 (forIn (m:=Sem) ns cs λx r=>match x with
  | (a,d)=>if (d==NameKind.free)=true then do let c <- cellOf env a;pure (jB ((a,c)::r)) else pure (jB r))=pure (mL env ns cs)
 |[],cs,_=>rfl
 | (n,k)::r,cs,h=>by
  rw[List.forIn_cons];by_cases b:(k==NameKind.free)=true
  ·have g:k=.free:=by simpa using b
   obtain⟨c,e⟩:=h n (by rw[g];exact b9);simp only[b,if_true,RD e];have q:=KC r ((n,c)::cs) λm f=>h m (bu _ f);show (forIn (m:=Sem) r ((n,c)::cs) _)=pure (mL env r (if (k==.free)=true then (n,(env.cells.lookup n).getD 0)::cs else cs));rw[ee b,e];exact q
  ·simp only[b]
   have q:=KC r cs λm f=>h m (bu _ f);show (forIn (m:=Sem) r cs _)=pure (mL env r (if (k==.free)=true then (n,(env.cells.lookup n).getD 0)::cs else cs));rw[er b];exact q
theorem A2{scope:Scope}{env:Env}(h:∀n,(n,NameKind.free)∈scope.names->∃c,env.cells.lookup n=some c):closureFor scope env=pure (mL env scope.names []):=by
 have e:=KC scope.names [] h;unfold closureFor;show (forIn (m:=Sem) scope.names [] (λx r=>match x with
  | (a,b)=>if (b==NameKind.free)=true then do let c <- cellOf env a;pure (jB ((a,c)::r)) else pure (jB r)) >>= λs=>pure s)=_
 rw[e];rfl
theorem lM{env:Env}{x:Str}{c:Addr}:∀(ns:List (Str×NameKind)) (cs:List (Str×Addr)),(∀n,(n,NameKind.free)∈ns->∃c,env.cells.lookup n=some c)->(cs.lookup x=some c->env.cells.lookup x=some c) ->
 (mL env ns cs).lookup x=some c->env.cells.lookup x=some c
 |[],_,_,a,h=>a h
 | (n,k)::r,cs,g,a,h=>by
  unfold mL at h;refine lM r _ (λm i=>g m (bu _ i)) (λq=>?_) h;by_cases b:(k==NameKind.free)=true
  ·have l:k=.free:=by simpa using b
   subst l;obtain⟨d,e⟩:=g n b9;rw[ee b,e,fh] at q;by_cases f:(x==n)=true
   ·have j:x=n:=by simpa using f
    rw[f] at q;subst j;rw[e];exact q
   ·simp only[f] at q
    exact a q
  ·rw[er b] at q
   exact a q
theorem Bv{env:Env}{x:Str}:∀(ns:List (Str×NameKind)) (cs:List (Str×Addr)),((cs.lookup x).isSome=true∨(x,NameKind.free)∈ns)->((mL env ns cs).lookup x).isSome=true
 |[],_,h=>h.elim id λz=>eL z (-_)
 | (n,k)::r,cs,h=>by
  unfold mL;refine Bv r _ ?_;rcases h with h|h
  ·refine .inl ?_
   split
   ·rw[fh]
    split
    ·rfl
    ·exact h
   ·exact h
  ·rcases bf.mp h with e|h
   ·cases e
    refine .inl ?_;rw[ee (show (NameKind.free==NameKind.free)=true from rfl),fh];simp
   ·exact .inr h
noncomputable def jF(cap:List (Option Nat))(σ:St):St:=cap.map λo=>o.bind λj=>(σ[j]?).join
noncomputable def lN(X:Cx)(scope:Scope)(N':List Str)(fp:List Addr)(pins:List (Addr×Obj))(s₃:Shared)(agA:Hp):Cx where
 prog:=X.prog
 w:=X.w
 K:=X.K
 mg:=X.mg
 base:=X.base
 A:=X.A
 N:=N'
 s₀:=s₃
 H₀:=agA
 env:=compEnvC scope (mL X.env scope.names []) s₃.heap.objs.size X.env
 outer:=X.stack
 stack:=X.stack
 ex:=fp
 fn:=λ_=>false
 calm:=X.calm
 pn:=X.pn++pins
 xe:=λ_ _=>False
structure jG(X:Cx)(scope:Scope)(N':List Str)(cap:List (Option Nat)):Prop where
 kind:scope.kind=.function
 Ot:∀y∈scope.names,y.2≠.cell
 loc:∀y∈scope.names,y.2=.local->scope.names.lookup y.1=some .local
 fr:∀y∈scope.names,y.2=.free->X.env.kindOf y.1=some .cell
 frl:∀y∈scope.names,y.2=.free->scope.names.lookup y.1=some .free
 nd:N'.Nodup
 len:cap.length=N'.length
 cap:∀(i j:Nat) (x:Str),cap[i]?=some (some j)->N'[i]?=some x->X.N[j]?=some x/\(x,NameKind.free)∈scope.names
section
variable{X:Cx}{scope:Scope}{N':List Str}{cap:List (Option Nat)}{fp:List Addr}{pins:List (Addr×Obj)}{s:Shared}{σ:St}{H:Hp}
theorem jG.clos(S:jG X scope N' cap)(ok:X.Ok):∀n,(n,NameKind.free)∈scope.names->∃c,X.env.cells.lookup n=some c:=λn a=>ok.has n (.inl (S.fr _ a rfl))
theorem wR{env:Env}{x:Str}:∀{names:List (Str×NameKind)} {k:NameKind},
 (names.map λ(n,k)=>if (k==NameKind.free&&env.scope.kind==.function&&env.kindOf n==some .cell) then (n,NameKind.cell) else (n,k)).lookup x=some k->k=.cell∨k=.free->(∀y∈names,y.2≠.cell)->(x,NameKind.free)∈names
 |[],_,h,_,_=>by simp at h
 | (n,q)::r,k,h,hk,d=>by
  have h':qj x ((if (q==NameKind.free&&env.scope.kind==.function&&env.kindOf n==some .cell)=true then (n,NameKind.cell) else (n,q))::(r.map λ(n,k)=>if (k==NameKind.free&&env.scope.kind==.function&&env.kindOf n==some .cell) then (n,NameKind.cell) else (n,k)))=some k:=h;by_cases c:(x==n)=true
  ·have g:x=n:=by simpa using c
   subst g;by_cases b:(q==NameKind.free&&env.scope.kind==.function&&env.kindOf x==some .cell)=true
   ·have:q=.free:=by
     rw[c9,c9] at b
     simpa using b.1.1
    subst this;exact b9
   ·rw[er b,fh,c] at h'
    have e:q=k:=aK h';subst e;rcases hk with hk|hk
    ·exact eL hk (d _ b9)
    ·rw[hk];exact b9
  ·have a:(x==n)=false:=by simpa using c
   refine bu _ (wR (env:=env) (k:=k) ?_ hk λy f=>d y (bu _ f));split at h'
   ·rw[fh,a] at h';exact h'
   ·rw[fh,a] at h';exact h'
theorem CH{env:Env}{x:Str}(c:env.scope.kind=.function)(d:env.kindOf x=some .cell):∀{names:List (Str×NameKind)},names.lookup x=some .free ->
 (names.map λ(n,k)=>if (k==NameKind.free&&env.scope.kind==.function&&env.kindOf n==some .cell) then (n,NameKind.cell) else (n,k)).lookup x=some .cell
 |[],h=>by simp at h
 | (n,k)::r,h=>by
  show qj x ((if (k==NameKind.free&&env.scope.kind==.function&&env.kindOf n==some .cell)=true then (n,NameKind.cell) else (n,k))::_)=_;cases a:x==n with
  |true =>
   have e:x=n:=by simpa using a
   subst e;simp only[fh,a] at h;have f:k=.free:=aK h;subst f;rw[ee (by rw[c,d];rfl),fh,a]
  |false =>
   simp only[fh,a] at h;have b:=CH c d h;split
   ·rw[fh,a];exact b
   ·rw[fh,a];exact b
theorem jG.ok(S:jG X scope N' cap)(I:Inv X pins σ H s)(d:∀b∈fp,Cu X pins H b)(f:∀b∈fp,∃o,s.heap.get? b=some o):(lN X scope N' fp pins s H).Ok where
 mod:=I.ok.mod
 kind:=S.kind
 glob:=I.ok.glob
 blt:=I.ok.blt
 above:=ay _
 inj:=λx y c j i=>I.ok.inj x y c (lM _ _ (S.clos I.ok) (λz=>by simp at z) j) (lM _ _ (S.clos I.ok) (λz=>by simp at z) i)
 has:=λx hx=>by
  have g:(x,NameKind.free)∈scope.names:=by
   rcases hx with hx|hx
   ·exact wR (env:=X.env) hx (.inl rfl) S.Ot
   ·exact wR (env:=X.env) hx (.inr rfl) S.Ot
  exact Option.isSome_iff_exists.mp (Bv scope.names [] (.inr g))
 n7:=λx c h=>by cases h
 hd:=I.ok.hd
 frames:=I.ok.frames
 stk:=.inl rfl
 exf:=λb a=>by
  obtain⟨o,e⟩:=f b a;refine⟨bE (Heap.lt_size e),λx c h=>(d b a).2.2.2.2.1 x c (lM _ _ (S.clos I.ok) (λz=>by simp at z) h)⟩
 bs:=I.bs
 VW:=aN I.ok.VW I.sz
 Rm:=λb o e a=>by
  rcases (d b a).2.2.2.1 with z|z
  ·exact I.ok.Rm b o e z
  ·exact eL (bH (Heap.lt_size e) (aN I.ok.VW z)) (iZ _)
 S6:=λb a k=>by
  rcases bf.mp (I.DE b k) with z|z
  ·exact (d b a).2.1 z
  ·exact (d b a).2.2.1 z
 Cr:=I.stack
 Yp:=I.Kf
theorem jG.look(S:jG X scope N' cap)(I:Inv X pins σ H s){f:Heap}{m:Str->Option Value}(g:∀x c v,X.env.cells.lookup x=some c->s.heap.IsCell c v->f.IsCell c v)(i:Nat)(x:Str)(v:V)(K:N'[i]?=some x)(J:(jF cap σ)[i]?=some (some v)) :
 ∃u,RelV v u/\Look (compEnvC scope (mL X.env scope.names []) s.heap.objs.size X.env) f m x u:=by
 have L:∀x c,(mL X.env scope.names []).lookup x=some c->X.env.cells.lookup x=some c:=λx c h=>lM _ _ (S.clos I.ok) (λz=>by simp at z) h;have d:((cap[i]?).map λo=>o.bind λj=>(σ[j]?).join)=some (some v):=by
  have:=J
  unfold jF at this;rw[aj] at this;exact this
 cases t:cap[i]? with
 |none=>rw[t] at d;cases d
 |some o =>
  cases o with
  |none=>rw[t] at d;cases d
  |some j =>
   rw[t] at d;obtain⟨F,b⟩:=S.cap i j x t K;have n:(σ[j]?).join=some v:=aK d;have D:σ[j]?=some (some v):=by
    cases A:σ[j]? with
    |none=>rw[A] at n;cases n
    |some y =>
     cases y with
     |none=>rw[A] at n;cases n
     |some z =>
      rw[A] at n;have e:z=v:=aK n;rw[e]
   have a:=S.fr _ b rfl;obtain⟨M,G,E⟩:=I.loc;obtain⟨u,r,l⟩:=E j x v F D (.inr (.inl a));refine⟨u,r,?_⟩;rcases l with ⟨C,_⟩|⟨C,c,B,k⟩
   ·have z:X.env.kindOf x=some .cell:=a
    rw[C] at z;cases z
   ·obtain⟨q,p⟩:=Option.isSome_iff_exists.mp (Bv (env:=X.env) (x:=x) scope.names [] (.inr b))
    have w:q=c:=by
     have:=L x q p
     rw[B] at this;exact (aK this).symm
    subst w;exact .inr ⟨.inl (CH I.ok.kind a (S.frl _ b rfl)),q,p,g x q _ B k⟩
theorem jG.start(S:jG X scope N' cap)(I:Inv X pins σ H s)(u:∀b∈fp,Cu X pins H b)(k:∀b∈fp,∃o,s.heap.get? b=some o){a:Heap}{tk:Nat}{m:Str->Option Value}(l:a.Ns s.heap.objs.size m)
 (j:∀b o,s.heap.get? b=some o->a.get? b=some o):Inv (lN X scope N' fp pins s H) [] (jF cap σ) H {s with heap:=a,toks:=tk}:=by
 have r:∀x c,(mL X.env scope.names []).lookup x=some c->X.env.cells.lookup x=some c:=λx c h=>lM _ _ (S.clos I.ok) (λz=>by simp at z) h;have f:∀{c:Addr} {v:Option Value},s.heap.IsCell c v->a.IsCell c v:=λ{c v} ⟨o,e,d⟩=>⟨o,j c o e,d⟩;refine⟨S.ok I u k,rfl,I.bare,Un.kept j,⟨m,l,λi x v A y C=>S.look I (λ_ _ _ _ z=>f z) i x v A y⟩,λx c h=>?_,I.hok.fresh (ay _),λx c h=>I.ua x c (r x c h),λp t=>?_,I.hok.kept j,?_⟩
 ·obtain⟨v,z⟩:=I.cell x c (r x c h)
  exact⟨v,f z⟩
 ·have g:p∈(X.pn++pins)++[]:=t
  have B:p∈X.pn++pins:=by rw[bY] at g;exact g
  obtain⟨e,n,w,nf,d⟩:=I.pin p B;refine⟨j _ _ e,n,bE (Heap.lt_size e),λz=>?_,d⟩;rcases bf.mp (I.DE p.1 z) with q|q
  ·exact w q
  ·exact nf q
 ·unfold jF
  rw[ah];exact S.len
theorem jG.again(S:jG X scope N' cap)(I:Inv X pins σ H s)(k:∀b∈fp,Cu X pins H b){p:St}{g:Hp}{f:Shared}(a:Inv (lN X scope N' fp pins s H) [] p g f):Inv (lN X scope N' fp pins s H) [] (jF cap σ) g f:=by
 obtain⟨m,t,_⟩:=a.loc;refine⟨a.ok,a.os,a.bare,a.base,⟨m,t,λi x v r n z=>S.look I (λy c u h j=>?_) i x v r n⟩,a.cell,a.free,a.ua,a.pin,a.hok,?_⟩
 ·obtain⟨o,e,d⟩:=j
  obtain⟨w,q⟩:=a.base.any e (I.ua y c h) λl=>(k c l).2.2.2.2.1 y c h rfl;exact⟨_,q,d⟩
 ·unfold jF
  rw[ah];exact S.len
theorem jG.back{h k:Hp}{f s3 s':Shared}{s:St}{j:Addr}{d:Heap}(S:jG X scope N' cap)(y:Inv X pins σ h f)(D:∀b∈fp,Cu X pins h b){o:HO}
 (E:s3.heap.objs.size=f.heap.objs.size+1) (k3:∀b u,f.heap.get? b=some u->s3.heap.get? b=some u) (x:j=f.heap.objs.size) (G:s3.os=f.os)
 (m:Inv (lN X scope N' fp pins s3 (upd h j o)) [] s k s') (r:Heap.SameBut s3.heap.objs.size s'.heap d):Inv X pins σ k {s' with heap:=d}:=by
 have C:Un (frs X.stack) fp h (upd h j o) f.heap s3.heap:=Un.laid k3 (by rw[x];exact ay _) (y.hok.fresh (by rw[x];exact ay _));have i:Un (frs X.stack) fp h k f.heap s'.heap:=C.trans m.base;have g:∀b a,f.heap.get? b=some a->b≠s3.heap.objs.size:=λb a e=>by
  have:=Heap.lt_size e
  rw[E];exact bE (Nat.lt_succ_of_lt this)
 have t:k s3.heap.objs.size=none:=m.free;have K:Un (frs X.stack) fp h k f.heap d :=
  ⟨λb a e n l p=>(r.2 b (g b a e)).trans (i.keep b a e n l p),λb a e n l p=>by
   obtain⟨B,q⟩:=i.slot b a e n l p;exact⟨B,(r.2 b (g b a e)).trans q⟩,i.free,λb a e p=>by
   obtain⟨A,q⟩:=i.there b a e p;exact⟨A,(r.2 b (g b a e)).trans q⟩,i.tups,i.AV,i.Cq⟩
 have hok:yM X.prog X.w k d:=λb a e=>(m.hok b a e).stay (λc v F q=>(r.2 c (by
  rintro rfl;rcases F with z|z
  ·rw[<- z,t] at e;cases e
  ·rw[t] at z;cases z)).trans q) (λ_ q=>q) λ_ _ q=>q
 refine y.Yq (s':={s' with heap:=d}) (ch:=fp) (m.os.trans G) K hok m.bare λb l=>?_;obtain⟨_,I,_,J,H,L⟩:=D b l;exact⟨J,I,H,L⟩
def kE(X:Cx)(ifs:List Expr)(t:TT):Prop :=
 ∀(pins:List (Addr×Obj)) (s:Shared) (σ:St) (H:Hp) (Q:Bool->Hp->Prop),Inv X pins σ H s->t σ H Q ->
  wpAny (model X.prog X.w) X.A (forIn ifs true λc r=>if r=true then do let ok <- isTrue c X.env (eval c X.env);pure (jB ok) else pure (jB r)) (TP X pins σ Q) X.xe s
def acR:TT:=λ_ H Q=>Q true H
theorem mO:kE X [] acR:=λ_ _ _ H _ I h=>wpAny_tests_nil ⟨H,I,h⟩
theorem mP{c:Expr}{t:TT}(h:PT X c t):kE X [c] t:=λpins s σ H Q I a=>wpAny_tests_one (h pins s σ H Q I a)
def YD(wi:TI)(cap:List (Option Nat))(g:TG)(tc:TT)(te:TE):TE:=λσ H Q=>wi σ H λJ H1=>∀acc,H1 acc=none->∃W:Nat->Nat->Hp->Prop,(∃m,W 0 m (upd H1 acc (.lst [])))/\∀i m H,W i m H ->
 (J.stop i H/\Q (.ref acc) H)∨(J.go i H/\∀x H',J.Kn i H x H'->g x (jF cap σ) H' λσ2 H2=>tc σ2 H2 λb H3=>if b=true then te σ2 H3 λy H4=>∃xs,H4 acc=some (.lst xs)/\xs.length<sizeLine /\
  ∃m',m'<m/\W (i+1) m' (upd H4 acc (.lst (xs++[y]))) else ∃m',m'<m/\W (i+1) m' H3)
theorem RG{o a j:PySem.Expr}{t:List PySem.Expr}{scope:Scope}{D:Pos}{E p:Value}{env:Env}{prog:Program}{w:World}{A:Around}{s:Shared}{R:Result->Shared->Prop}(I:Nat->Shared->Prop)
 (u:∀n s,I n s->wpAny (model prog w) A (pyNext E) (λr b=>match r with
  |none=>R (.ok .next) b
  |some v=>wpAny (model prog w) A (letOwnedTupleGo a E v) (λ_ f=>wpAny (model prog w) A (assign a env v) (λ_ g =>
   wpAny (model prog w) A (forIn t true λc r=>if r=true then do let ok <- isTrue c env (eval c env);pure (jB ok) else pure (jB r)) (λok d=>if ok=true then wpAny (model prog w) A (eval o env) (λx l =>
    wpAny (model prog w) A (call (.builtin "list.append") [p,x]) (λ_ e=>∃m,m<n/\I m e) (λ_ _=>False) l) (λ_ _=>False) d
    else ∃m,m<n/\I m d) (λ_ _=>False) g)
   (λ_ _=>False) f) (λ_ _=>False) b) (λ_ _=>False) s)
 (n:Nat) (h:I n s):codeAny (model prog w) A (.compLoop (.ListComp o [⟨a,j,t,0⟩] scope D) 0 E p env) R s:=by
 refine codeAny_loop rfl I (λn s G=>?_) n h;show wpAny _ A ((compTurn (.ListComp o [⟨a,j,t,0⟩] scope D) 0 E p env).onRaise (λx=>do noteFrame x env;theTreesLotGoes x)) _ _ s;refine wpAny_noted ?_;rw[compTurn_list];refine wpAny_bind (wpAny_standAt (wpAny_bind (wpAny_mono (u n s G) (λr b k=>?_) λ_ _ z=>z.elim)));cases r with
 |none=>exact wpAny_pure k
 |some v =>
  refine wpAny_bind (wpAny_mono k (λ_ f q=>?_) λ_ _ z=>z.elim);refine wpAny_bind (wpAny_mono q (λ_ g y=>?_) λ_ _ z=>z.elim);refine wpAny_bind (wpAny_mono y (λF d i=>?_) λ_ _ z=>z.elim);cases F with
  |false=>exact wpAny_pure ⟨rfl,i⟩
  |true=>exact wpAny_bind (wpAny_bind (wpAny_mono i (λx l B=>wpAny_bind (wpAny_mono B (λ_ e C=>wpAny_pure (wpAny_pure ⟨rfl,C⟩)) λ_ _ z=>z.elim)) λ_ _ z=>z.elim))
theorem GF{L tg F:Expr}{R:List Expr}{pos:Pos}{g:TG}{tc:TT}{te:TE}{Q:VK}{a:Shared}{B:Hp}{it:Addr}{tn:Nat->Heap->Prop}{J:It}{E:Value->Shared->Prop}{RR:Value->Addr->Result->Shared->Prop}
 (S:jG X scope N' cap) (hc:X.calm=true) (hg:∀fp pins s H,PG (lN X scope N' fp pins s H) tg g) (hts:∀fp pins s H,kE (lN X scope N' fp pins s H) R tc) (he:∀fp pins s H,PE (lN X scope N' fp pins s H) L te)
 (Z:Inv X pins σ B a) (T:Turn X.prog X.w X.K tg J fp it tn) (M:tn 0 a.heap) (V:∀b∈fp,Cu X pins B b)
 (h:∀k,B k=none->∃W:Nat->Nat->Hp->Prop,(∃m,W 0 m (upd B k (.lst [])))/\∀i m H,W i m H ->
  (J.stop i H/\Q (.ref k) H)∨(J.go i H/\∀x j,J.Kn i H x j->g x (jF cap σ) j λσ2 B=>tc σ2 B λb H3=>if b=true then te σ2 H3 λy H4=>∃xs,H4 k=some (.lst xs)/\xs.length<sizeLine /\
   ∃l,l<m/\W (i+1) l (upd H4 k (.lst (xs++[y]))) else ∃l,l<m/\W (i+1) l H3))
 (hRR:∀C s' j,(∃m,s'.heap.Ns C m)->(∀O,Heap.SameBut C s'.heap O->Inv X pins σ j {s' with heap:=O})->Q (.ref a.heap.objs.size) j->j C=none->a.heap.objs.size<C ->
  RR (.ref a.heap.objs.size) C (.ok .next) s') :
 wpAny (model X.prog X.w) X.A (newList []) (λk s₃=>wpAny (model X.prog X.w) X.A (newFunctionEnv scope X.env.globals (mL X.env scope.names []) [] X.env.qual none .none (some X.env)) (λD s₄ =>
  codeAny (model X.prog X.w) X.A (.compStart (.ListComp L [⟨tg,F,R,0⟩] scope pos) 0 (.ref it) k {D with scope:=relabel scope X.env}) (RR k D.locals) s₄) E s₃) E a:=by
 refine wpAny_newObj_type (wpAny_newFunctionEnv S.Ot (by intro y hy;simp at hy) (λt Ou Ov=>?_) S.kind);dsimp only at Ou Ov ⊢;have hfr:B a.heap.objs.size=none:=Z.hok.fresh (ay _);generalize N:a.heap.push {cls:=.type "list",dict:=none,data:=.seq ([]:List Value).toArray}=h3 at Ou Ov ⊢;have e3:h3.objs.size=a.heap.objs.size+1:=by rw[<- N,Heap.size_push]
 have k3:∀b u,a.heap.get? b=some u->h3.get? b=some u:=λb u e=>by rw[<- N];exact Heap.get?_push_of_some _ e
 have I3:Inv X pins σ (upd B a.heap.objs.size (.lst [])) {a with heap:=h3,toks:=a.toks}:=by
  refine Z.laid (t':=a.toks) k3 (ay _) ?_;exact⟨bN _,[],0,.nil,by rw[<- N];exact Heap.get?_push_size _ rfl⟩
 have f3:∀b∈fp,Cu X pins (upd B a.heap.objs.size (.lst [])) b:=λb f=>by
  obtain⟨o,e,_⟩:=T.obj _ _ M b f;exact⟨by rw[aH (bE (Heap.lt_size e))];exact (V b f).1,(V b f).2⟩
 have ex3:∀b∈fp,∃o,h3.get? b=some o:=λb f=>by
  obtain⟨o,e,_⟩:=T.obj _ _ M b f;exact⟨o,k3 b o e⟩
 have kp:∀b o,h3.get? b=some o->t.get? b=some o:=λb o e=>Ov.extBut b o (bE (Heap.lt_size e)) (Heap.get?_push_of_some _ e);have I4:=S.start (fp:=fp) (tk:=a.toks+([]:List (Str×Value)).length) I3 f3 ex3 Ou kp;have Ma:tn 0 t:=T.keep _ _ _ M λb _ o e=>kp b o (k3 b o e);obtain⟨W,⟨m0,w0⟩,turn⟩:=h a.heap.objs.size hfr;let G:=lN X scope N' fp pins {a with heap:=h3,toks:=a.toks} (upd B a.heap.objs.size (.lst []));have v:∀{Jm:List (Addr×Obj)} {j:Hp},(∀p∈Jm,p.1∉fp)->(∀b∈fp,j b=none)->∀b∈fp,Cu G Jm j b:=λ{Jm j} hpn hn b f=>by
  obtain⟨o,e⟩:=ex3 b f;refine⟨hn b f,bE (Heap.lt_size e),λz=>?_,.inl f,λx c hx=>(f3 b f).2.2.2.2.1 x c (lM _ _ (S.clos Z.ok) (λz=>by simp at z) hx),λp hp=>?_⟩
  ·rcases bf.mp (Z.DE b z) with q|q
   ·exact (V b f).2.1 q
   ·exact (V b f).2.2.1 q
  ·rcases br.mp hp with q|q
   ·exact (V b f).2.2.2.2.2 p q
   ·exact λz=>hpn p q (z▸f)
 have I:codeAny (model X.prog X.w) X.A (.compLoop (.ListComp L [⟨tg,F,R,0⟩] scope pos) 0 (.ref it) (.ref a.heap.objs.size) G.env) (RR (.ref a.heap.objs.size) h3.objs.size) {a with heap:=t,toks:=a.toks+([]:List (Str×Value)).length}:=by
  refine RG (λn s'=>∃i j,Inv G [] (jF cap σ) j s'/\tn i s'.heap/\(∀b∈fp,j b=none)/\W i n j) ?_ m0 ⟨0,_,I4,Ma,λb f=>(f3 b f).1,w0⟩;rintro n s5 ⟨i,H5,I5,NO,RE,w5⟩;rcases turn i n H5 w5 with ⟨stop,qn⟩|⟨go,step⟩
  ·refine wpAny_mono (T.done G rfl rfl rfl hc i [] s5 (jF cap σ) H5 (λ_ _=>False) I5 (v (λ_ z=>eL z (-_)) RE) NO stop) (λr s6 ⟨hr,I6⟩=>?_) λ_ _ z=>z
   subst hr;refine hRR _ s6 H5 ?_ (λO sb=>S.back Z V (s3:={a with heap:=h3,toks:=a.toks}) e3 k3 rfl rfl I6 sb) qn I6.free (by rw[e3];exact wI _);obtain⟨m,hn,_⟩:=I6.loc;exact⟨m,hn⟩
  ·refine wpAny_mono (T.item G rfl rfl rfl hc i [] s5 (jF cap σ) H5 (λ_ _=>False) I5 (v (λ_ z=>eL z (-_)) RE) NO go) (λr s6 ⟨u,hr,h6⟩=>?_) λ_ _ z=>z
   subst hr;refine wpAny_mono h6 (λ_ s7 ⟨x,H7,I7,r7,y7,Ow,fr7⟩=>?_) λ_ _ z=>z;have I7':=I7.pinned (v (λ_ z=>eL z (-_)) fr7) (T.obj _ _ Ow);have again:∀{Y:St} {P:Hp} {U:Shared},Inv G ([]++Gx fp s7.heap) Y P U->(∃l,l<n/\W (i+1) l P)->∃m,m<n/\∃i j,Inv G [] (jF cap σ) j U/\tn i U.heap/\(∀b∈fp,j b=none)/\W i m j:=λ{Y P U} I8 n8=>by
    obtain⟨l,hm,w8⟩:=n8;have pn:∀b∈fp,∃o,s7.heap.get? b=some o/\U.heap.get? b=some o/\P b=none:=λb f=>by
     obtain⟨o,e,d⟩:=T.obj _ _ Ow b f;have q:=I8.pin (b,o) (cY _ (cY _ (Bt f e)));exact⟨o,e,q.1,q.2.1⟩
    refine⟨l,hm,i+1,P,S.again I3 f3 I8.Cv,T.keep _ _ _ Ow λb f o e=>?_,λb f=>?_,w8⟩
    ·obtain⟨o',e',q,_⟩:=pn b f
     rw[e] at e';cases e';exact q
    ·obtain⟨_,_,_,q⟩:=pn b f
     exact q
   refine wpAny_mono (hg fp pins _ _ _ s7 (jF cap σ) H7 x u _ I7' r7 (step x H7 y7)) (λ_ U ⟨Y,P,I8,q8⟩=>?_) λ_ _ z=>z;refine wpAny_mono (hts fp pins _ _ _ U Y P _ I8 q8) (λb s9 ⟨H9,I9,q9⟩=>?_) λ_ _ z=>z;cases b with
   |false=>exact again I9 q9
   |true =>
    refine wpAny_mono (he fp pins _ _ _ s9 Y H9 _ I9 q9) (λu VY ⟨y,Ub,I10,r10,xs,hx,hl,q10⟩=>?_) λ_ _ z=>z;refine wpAny_mono (eE (X:=G) _ VY Y Ub (.ref a.heap.objs.size) [y] (.ref a.heap.objs.size) [u] (λ_ j=>∃l,l<n/\W (i+1) l j) I10 rfl (.cons r10 .nil) ⟨_,xs,y,rfl,rfl,hx,hl,q10⟩) (λ_ HX ⟨_,lC,I11,_,q11⟩=>again I11 q11) λ_ _ z=>z
 exact codeAny_compStart_list I (T.self _ 0 _ _ _ Ma I)
theorem gq{b j a:Expr}{c:List Expr}{l:Pos}{n:TI}{g:TG}{o:TT}{p:TE}(S:jG X scope N' cap)(z:X.calm=true)(K:PI X j a n)(P:∀fp pins s H,PG (lN X scope N' fp pins s H) j g)
 (f:∀fp pins s H,kE (lN X scope N' fp pins s H) c o) (y:∀fp pins s H,PE (lN X scope N' fp pins s H) b p) (N:∀x,foldedSetIterable a X.env x=pure x:=by intro _;rfl) :
 PE X (.ListComp b [⟨j,a,c,0⟩] scope l) (YD n cap g o p):=by
 intro pins s σ H Q I h;rw[eval_ListComp];refine wpAny_comprehension_free (use:=none) rfl N (A2 (S.clos I.ok)) S.kind S.loc (gz (K pins s σ H _ I h) λv V G=>gz G λB u F=>?_);obtain⟨Y,fp,R,J,U,e,L,T,k,D,r⟩:=F;subst e;refine GF (RR:=λi C=>compPost (model X.prog X.w) X.A X.xe none (EP X pins σ Q) i C) S z P f y L T k D r ?_;intro C W t ⟨m,M⟩ q E _ _;exact⟨m,M,λd O=>⟨.ref u.heap.objs.size,t,q d O,rfl,E⟩⟩
theorem Bw{j B d:Expr}{k:List Expr}{t:Pos}{wi:TI}{g:TG}{Z:TT}{te:TE}{i:Nat}{x:Str}{f n:Pos}(hN:X.N.Nodup)(V:X.N[i]?=some x)(hx:Loc X.env.scope x)(S:jG X scope N' cap)(hc:X.calm=true)
 (hi:PI X B d wi) (hg:∀fp pins s H,PG (lN X scope N' fp pins s H) B g)
 (G:∀fp pins s H,kE (lN X scope N' fp pins s H) k Z) (he:∀fp pins s H,PE (lN X scope N' fp pins s H) j te) (hs:∀x,foldedSetIterable d X.env x=pure x:=by intro _;rfl)
 (M:swapsWith (.ListComp j [⟨B,d,k,0⟩] scope t) (some (.Name x f)) n.line X.env=pure true:=by rfl) (hf:X.fn x=true∨X.env.scope.names.lookup x=some .local:=by first|exact .inl rfl|exact .inr rfl|assumption) :
 PS X (.Assign [.Name x f] (.ListComp j [⟨B,d,k,0⟩] scope t) n) (Wg (YD wi cap g Z te) (iD i)):=by
 intro pins s σ H D I h;rw[exec_Assign_Name_used _ _ _ _ M];refine wpAny_bind (wpAny_standAt (wpAny_bind ?_));show wpAny _ X.A (do let _ <- comprehension (.ListComp j [⟨B,d,k,0⟩] scope t) scope X.env _ (newList []) false (eval d X.env) (some (assign (.Name x f) X.env))) _ _ s;refine wpAny_bind (wpAny_mono (wpAny_comprehension_free (use:=some (assign (.Name x f) X.env)) (Q:=λ_ l=>SP X pins D .next l) rfl hs (A2 (S.clos I.ok)) S.kind S.loc
  (gz (hi pins s σ H _ I h) λv s1 h1=>gz h1 λitv P h2=>?_)) (λ_ l U=>wpAny_pure (wpAny_pure U)) λ_ _ e=>e)
 obtain⟨it,fp,tn,J,H2,e,r,T,L,f2,hW⟩:=h2;subst e;refine GF (RR:=λW C=>compPost (model X.prog X.w) X.A X.xe (some (assign (.Name x f) X.env)) (λ_ l=>SP X pins D .next l) W C) (Q:=λx H1=>iD i x σ H1 D.nx) S hc hg G he r T L f2 hW ?_;intro C l Y ⟨m,hn⟩ hI U hC u;have I':Inv X pins σ Y l:=hI l.heap (.refl ..);show wpAny _ _ (assign (.Name x f) X.env (.ref P.heap.objs.size)) _ _ l;refine wpAny_assign_Name (Jo (v:=.ref P.heap.objs.size) I' hN V hx rfl (λs6 I6 ⟨a,sb,ha⟩=>?_) hf);have E:∀b,b<P.heap.objs.size->b≠C:=λb K=>bE (Nat.lt_trans K u);have O:a≠C:=by
  rcases ha with z|z
  ·rw[z];exact E _ r.lt
  ·obtain⟨_,q⟩:=r.cell x a z
   exact E _ q.lt
 refine⟨m,hn.sameBut sb (bL O),λh' R=>⟨_,Y,I6.turned (t':=s6.toks) (λb o K e=>(R.2 b K).trans e) hC (bL (E _ r.lt)) (.inr (aN r.sz (kg u))) (λy c F=>?_) (λp hp=>?_),U⟩⟩
 ·obtain⟨_,q⟩:=r.cell y c F
  exact E _ q.lt
 ·exact E _ (Heap.lt_size (r.pin p hp).1)
end
section
variable{X:Cx}
noncomputable def VZ(K:af)(a:Addr):It :=
 ⟨λi H=>∃xs x,bP K H a xs/\xs[i]?=some x,λi H x H'=>∃p v,H p=none/\x=.ref p/\H'=upd H p (.tup [.int (i:Nat),v])/\∀xs,bP K H a xs->xs[i]?=some v,λi H=>∃xs,bP K H a xs/\xs.length<=i⟩
theorem RH{P:Program}{w:World}{K:af}{F:List Expr}{x1}{pos:Pos}(a e f:Addr)(G:e≠f) :
 Turn P w K (.Tuple F x1 pos) (VZ K a) [e,f] e (λi h=>∃old,IsEnum h e f (i:Nat) old/\h.IsListIter f a i) where
 mem:=-_
 obj:=λi h ⟨old,st,y⟩ b hb=>by
  rcases bf.mp hb with z|hb
  ·subst z
   exact⟨_,st,λv z=>by
    have z':Data.fields _=Data.cell v:=z;cases z'⟩
  ·have z:b=f:=by simpa using hb
   subst z;obtain⟨o,e,c,d⟩:=y;exact⟨o,e,λv z=>by rw[d] at z;cases z⟩
 keep:=λi h h' ⟨old,st,y⟩ k=>⟨old,k e (-_) _ st,y.at λo q=>k f (-_) o q⟩
 item:=by
  intro X R W U g i l s σ H E I t ⟨old,st,y⟩ hg;subst R W U;obtain⟨L,x,J,N⟩:=hg;obtain⟨M,Q,p,hz⟩:=I.list J;obtain⟨u,hu,ru⟩:=Q.get N;refine wpAny_pyNext_enum_item st y p.isList (x:=u) (by simpa using hu) G λh' eo O tu sz kp=>?_;refine⟨_,rfl,wpAny_letOwnedTupleGo_enum eo λB e2 A=>?_⟩;have j:H s.heap.objs.size=none:=I.hok.fresh (ay _);have nE:∀b o,H b=some o->b≠e:=λb o q z=>by rw[z,(t e (-_)).1] at q;cases q
  have nI:∀b o,H b=some o->b≠f:=λb o q z=>by rw[z,(t f (-_)).1] at q;cases q
  have D:∀b o,b≠e->b≠f->s.heap.get? b=some o->B.get? b=some o:=λb o h1 h3 q=>(A.2 b h1).trans (kp b o h1 h3 q);have hes:e<s.heap.objs.size:=Heap.lt_size st;have Z:B.get? s.heap.objs.size=some {cls:=.type "tuple",data:=.seq #[.int (i:Nat) s.toks,u]}:=(A.2 _ (Nat.ne_of_gt hes)).trans tu;have li2:B.IsListIter f a (i+1):=O.at λo q=>(A.2 f (bL G)).trans q;have C:∀b,b∉[e,f]->b≠e/\b≠f:=λb hb=>⟨λz=>hb (by simp[z]),λz=>hb (by simp[z])⟩;have V:∀b∈[e,f],upd H s.heap.objs.size (.tup [.int (i:Nat),x]) b=none:=λb hb=>by
   obtain⟨o,q,_⟩:∃o,s.heap.get? b=some o/\True:=by
    rcases bf.mp hb with z|hb
    ·subst z;exact⟨_,st,trivial⟩
    ·have z:b=f:=by simpa using hb
     subst z;obtain⟨o,q,_⟩:=y;exact⟨o,q,trivial⟩
   rw[aH (bE (Heap.lt_size q))];exact (t b hb).1
  have I1:Inv X l σ (upd H s.heap.objs.size (.tup [.int (i:Nat),x])) {s with heap:=B,toks:=s.toks+1}:=by
   refine I.step (g':=s.gens) (d':=s.drawn) (ch:=[e,f]) (λb hb=>?_) (λb o _ _ g q _=>D b o (C b g).1 (C b g).2 q) (λb o _ _ g q _=>⟨o.slots,D b o (C b g).1 (C b g).2 q⟩)
    (λb o _ q n=>by rw[aH (bE (Heap.lt_size q))];exact n) (λb o g q=>⟨o,D b o (C b g).1 (C b g).2 q⟩) (λb L q=>by rw[aH (aE q j)];exact q) (λb o u q=>by rw[aH (aE q j)];exact q)
    (λb ps q=>⟨#[],by rw[aH (aE q j),q];simp⟩) (λm hm=>?_) (λb o q=>?_) I.bare
   ·obtain⟨_,S,_,T,f4,f5⟩:=t b hb
    exact⟨T,S,f4,f5⟩
   ·obtain⟨o,es,ep,ho,r⟩:=hm
    exact⟨o,es,ep,D _ o (bL (t e (-_)).2.1) (bL (t f (-_)).2.1) ho,r⟩
   ·by_cases hb:b=s.heap.objs.size
    ·subst hb
     rw[au] at q;cases q;exact⟨by show 2<=sizeLine;decide,[.int (i:Nat) s.toks,u],.cons ⟨_,rfl⟩ (.cons ru .nil),⟨_,Z,rfl,_,rfl⟩⟩
    ·rw[aH hb] at q
     refine (I.hok b o q).stay (λc v g r=>D c v ?_ ?_ r) (λc r=>by rw[aH (aE r j)];exact r) λc L r=>by rw[aH (aE r j)];exact r
     ·rcases g with z|z
      ·rw[z];exact nE b o q
      ·exact nE c _ z
     ·rcases g with z|z
      ·rw[z];exact nI b o q
      ·exact nI c _ z
  refine⟨.ref s.heap.objs.size,_,I1,rfl,⟨_,x,j,rfl,rfl,λys hy=>by rw[I.LX hy J];exact N⟩,⟨u,?_,li2⟩,V⟩;have Y:IsEnum B e f ((i:Int)+1) u:=e2;show IsEnum B e f (((i+1:Nat):Int)) u;rw[Int.natCast_add];exact Y
 done:=by
  intro X R W U g i l s σ H E I t ⟨old,st,y⟩ hg;subst R W U;obtain⟨L,J,N⟩:=hg;obtain⟨M,Q,p,hz⟩:=I.list J;obtain⟨f0,S,f2,T,f4,f5⟩:=t f (-_);have hl:=Q.length;exact wpAny_pyNext_enum_end (I.ok.hd g) st y p.isList (by simp;lia) λh' eb=>⟨rfl,I.turned (t':=s.toks) (λb o hb q=>eb b o hb q) f0 S T f4 f5⟩
 self:=λ_ _ _ _ _ ⟨_,st,_⟩ h=>wpAny_pyIter_enum st h
def acU(K:af)(ta:TA):TI:=λσ H R=>ta σ H λvs H1=>∃a xs,vs=[.ref a]/\bP K H1 a xs/\R (VZ K a) H1
theorem Qd{l:Expr}{o:TA}{p i:Pos}{g:List Expr}{x1}{f:Pos}(L:Gl X "enumerate")(v:X.mg "enumerate" = none)(A:PA X [l] o)(G:starEach [l] X.env=[(false,eval l X.env)]:=by rfl) :
 PI X (.Tuple g x1 f) (.Call (.Name "enumerate" p) [l] [] i) (acU X.K o):=by
 intro c s t H R I h;refine Call_ (Gw I L v boot_enumerate (PyProof.Rows.callWith_type1 (gz (A i c s t H _ I h) λS d ⟨Q,k,j,J,u⟩=>?_) G rfl));obtain⟨a,M,e,C,q⟩:=u;subst e;cases J with
 |cons r w =>
  cases w;cases r;obtain⟨y,P,B,O⟩:=j.list C;refine call_enumerate_list B.isList λE m D N x=>wpAny_pyIter_enum m ?_;have F:Inv X c t k {d with heap:=E,toks:=d.toks}:=j.kept x;have n:∀b,d.heap.objs.size<=b->Cu X c k b:=λb hb=>j.Tg hb (j.hok.fresh hb);refine⟨d.heap.objs.size+1,[d.heap.objs.size+1,d.heap.objs.size],_,_,k,rfl,F,RH a _ _ (Nat.succ_ne_self _),⟨.none,m,D⟩,λb hb=>?_,q⟩;rcases bf.mp hb with z|hb
  ·subst z;exact n _ ∅
  ·have z:b=d.heap.objs.size:=by simpa using hb
   subst z;exact n _ ∅
end
theorem aG.dB{K:af}{H b:Hp}{a:Addr}{xs:List V}(e:aG H b)(h:cQ K H a xs):cQ K b a xs:=by
 rcases h with (h|⟨o,h⟩)|h
 ·exact .inl (.inl (e _ _ h))
 ·exact .inl (.inr ⟨o,e _ _ h⟩)
 ·exact .inr h
theorem aG.new{H:Hp}{p:Addr}{o:HO}(h:H p=none):aG H (upd H p o):=λb u e=>by rw[aH (aE e h)];exact e
theorem aG.out{a H:Hp}{p:Addr}{o:HO}(s:aG a H)(h:a p=none):aG a (upd H p o):=λb u e=>by rw[aH (aE e h)];exact s b u e
mutual
def Rep(K:af)(H:Hp):PyData->V->Prop
 |.none,v=>v=.fH
 |.bool b,v=>v=.bl b
 |.int i,v=>v=.int i
 |.str x,v=>v=.str x
 |.list ds,v=>∃a vs,v=.ref a/\bP K H a vs/\cW K H ds vs
 |.tuple ds,v=>∃a vs,v=.ref a/\cQ K H a vs/\cW K H ds vs
 |.dict _,_=>False
def cW(K:af)(H:Hp):List PyData->List V->Prop
 |[],vs=>vs=[]
 |d::ds,vs=>∃v r,vs=v::r/\Rep K H d v/\cW K H ds r
end
section
variable{K:af}{H H':Hp}
mutual
theorem Rep.mono(s:aG H H'):∀{d:PyData} {v:V},Rep K H d v->Rep K H' d v
 |.none,_,h=>h
 |.bool _,_,h=>h
 |.int _,_,h=>h
 |.str _,_,h=>h
 |.list ds,_,⟨a,vs,e,q,r⟩=>⟨a,vs,e,s.seq q,cW.mono s r⟩
 |.tuple ds,_,⟨a,vs,e,q,r⟩=>⟨a,vs,e,s.dB q,cW.mono s r⟩
 |.dict _,_,h=>h
theorem cW.mono(s:aG H H'):∀{ds:List PyData} {vs:List V},cW K H ds vs->cW K H' ds vs
 |[],_,h=>h
 |_::_,_,⟨v,r,e,q,t⟩=>⟨v,r,e,q.mono s,cW.mono s t⟩
end
theorem cW.length:∀{ds:List PyData} {vs:List V},cW K H ds vs->vs.length=ds.length
 |[],_,h=>by rw[h];rfl
 |_::_,_,⟨v,r,e,_,t⟩=>by rw[e,bx,bx,cW.length t]
theorem cW.get:∀{ds:List PyData} {vs:List V} {i:Nat} {d:PyData},cW K H ds vs->ds[i]?=some d->∃v,vs[i]?=some v/\Rep K H d v
 |[],_,_,_,_,e=>by simp at e
 |x::ds,_,0,d,⟨v,r,e,q,t⟩,h=>by
  subst e;have z:x=d:=by simpa using h
  subst z;exact⟨v,rfl,q⟩
 |_::ds,_,i+1,d,⟨v,r,e,q,t⟩,h=>by
  subst e;obtain⟨y,b,a⟩:=cW.get (i:=i) (d:=d) t (by simpa using h);exact⟨y,by simpa using b,a⟩
theorem ud:∀ns:List Int,cW K H (ns.map PyData.int) (ns.map V.int)
 |[]=>rfl
 |n::ns=>⟨.int n,_,rfl,rfl,ud ns⟩
theorem yX:∀{ns:List Int} {vs:List V},cW K H (ns.map PyData.int) vs->vs=ns.map V.int
 |[],_,h=>h
 |n::ns,_,⟨v,r,e,q,t⟩=>by
  have q':v=.int n:=q;rw[e,q',yX t];rfl
theorem Rep.JB{ns:List Int}{a:Addr}(h:cQ K H a (ns.map V.int)):Rep K H (.tuple (ns.map .int)) (.ref a):=⟨a,_,rfl,h,ud ns⟩
theorem Rep.yY{ns:List Int}{v:V}(h:Rep K H (.tuple (ns.map .int)) v):∃a,v=.ref a/\cQ K H a (ns.map V.int):=by
 obtain⟨a,b,e,q,r⟩:=h;rw[yX r] at q;exact⟨a,e,q⟩
end
section
variable{X:Cx}{pins:List (Addr×Obj)}{σ:St}{H:Hp}{s:Shared}
mutual
theorem Rep.reads(I:Inv X pins σ H s):∀{d:PyData} {v:V} {u:Value},Rep X.K H d v->RelV v u->∃j,Reads s.heap u d j
 |.none,_,_,h,r=>by cases h;cases r;exact⟨_,.none⟩
 |.bool b,_,_,h,r=>by cases h;cases r;exact⟨_,.bool b⟩
 |.int i,_,_,h,r=>by cases h;obtain⟨t,rfl⟩:=r;exact⟨_,.int i t⟩
 |.str x,_,_,h,r=>by cases h;obtain⟨t,rfl⟩:=r;exact⟨_,.str x t⟩
 |.list w,_,_,⟨a,p,e,q,t⟩,r=>by
  subst e;cases r;obtain⟨f,k,⟨o,n,g,c,y,m⟩,_⟩:=I.list q;obtain⟨j,l⟩:=cW.reads I t k;exact⟨_,.list g c m (by simpa using l)⟩
 |.tuple w,_,_,⟨a,p,e,q,t⟩,r=>by
  subst e;cases r;obtain⟨f,k,⟨o,g,c,n,m⟩,_⟩:=I.tuple q;obtain⟨j,l⟩:=cW.reads I t k;exact⟨_,.tuple g c m (by simpa using l)⟩
 |.dict _,_,_,h,_=>h.elim
theorem cW.reads(I:Inv X pins σ H s):∀{ds:List PyData} {vs:List V} {us:List Value},cW X.K H ds vs->bZ vs us->∃a,ReadsAll s.heap us ds a
 |[],_,_,h,r=>by cases h;cases r;exact⟨_,.nil⟩
 |_::_,_,_,⟨v,i,e,q,t⟩,r=>by
  subst e;cases r with
  |cons f d =>
   obtain⟨a,c⟩:=q.reads I f;obtain⟨g,b⟩:=cW.reads I t d;exact⟨_,.cons c b⟩
end
end
section
variable{X:Cx}
def agD(K:af)(u:Nat):R2:=λx y H Q=>∃da db,Rep K H da x/\Rep K H db y/\da.canLay0=true/\db.canLay0=true/\u+min da.depth db.depth<cLine/\Q (.bl (PyData.eqv da db)) H
def agE(K:af)(u:Nat):R2:=λx y H Q=>∃da db,Rep K H da x/\Rep K H db y/\da.canLay0=true/\db.canLay0=true/\u+min da.depth db.depth<cLine/\Q (.bl (!PyData.eqv da db)) H
theorem Ox:wO X (compareOp .Eq) (agD X.K X.A.units):=by
 intro a s m H x y v u Q I b f ⟨o,n,h,i,g,e,c,q⟩;obtain⟨l,j⟩:=h.reads I b;obtain⟨k,d⟩:=i.reads I f;exact SeqAt.compareEq_reads j d g e c ⟨.bl _,H,I,rfl,q⟩
theorem KD:wO X (compareOp .NotEq) (agE X.K X.A.units):=by
 intro a s m H x y v u Q I b f ⟨o,n,h,i,g,e,c,q⟩;obtain⟨l,j⟩:=h.reads I b;obtain⟨k,d⟩:=i.reads I f;exact SeqAt.compareNe_reads j d g e c ⟨.bl _,H,I,rfl,q⟩
theorem GG:nX X (.builtin "isinstance") (λxs H Q=>∃x n t b,xs=[x,.ty n]/\DH X.K H x t/\PySem.W.kitOne X.K t (.type n)=some b/\Q (.bl b) H):=by
 intro c s g H xs h Q I r ⟨x,n,t,b,e,ty,k,q⟩;subst e;obtain⟨u,i,e,f,a⟩:=bZ.two r;subst e;cases a;exact Rr I f ty k λd=>⟨.bl _,H,I.tok d,rfl,q⟩
theorem RJ(t:X.calm=true):nX X (.type "set") (λxs H Q=>∃(a:Addr) (ns:List Int),xs=[.ref a]/\bP X.K H a (ns.map V.int)/\ns.length+1<scanBound /\
 ∀p,H p=none->Q (.ref p) (upd H p (.set (λf=>(firstMet (λi=>ns.getD i 0) ns.length).any (·==f)) (firstMet (λi=>ns.getD i 0) ns.length).length))):=by
 intro g s z H xs A Q I r ⟨a,ns,e,v,n,q⟩;subst e;obtain⟨u,e,m⟩:=bZ.one r;subst e;cases m;obtain⟨d,k,p,x⟩:=I.list v;have j:=k.length;rw[ah] at j;have c:d.toArray.size=ns.length:=by simp[j]
 refine call_set_list (I.ok.hd t) p.isList (ns:=ns) (by simpa using intsAre_of k) (by rw[c];exact n) λy w h l=>?_;rw[c] at h;exact⟨.ref s.heap.objs.size,_,I.laid (o:=.set (λf=>(firstMet (λi=>ns.getD i 0) ns.length).any (·==f)) (firstMet (λi=>ns.getD i 0) ns.length).length) (λb o e=>l b o (Heap.lt_size e) e) (ay _) h,rfl,q _ (I.hok.fresh (ay _))⟩
theorem RK:nX X (.builtin "len") (λxs H Q=>∃(a:Addr) (S:Int->Bool) (n:Nat),xs=[.ref a]/\H a=some (.set S n)/\Q (.int n) H):=by
 intro b s v H xs y Q I r ⟨a,S,n,e,j,q⟩;subst e;obtain⟨u,e,h⟩:=bZ.one r;subst e;cases h;obtain⟨o,l,m,t,f,d,g,x,p,c,k,i⟩:=(show s.heap.SetOf (intKind X.prog X.w) a S n from I.hok a _ j);subst i;refine call_len_set f d g k ?_ ⟨.int _,H,I.tok _,⟨_,rfl⟩,q⟩
 have:l.size<2^62:=bH c (!_)
 lia
theorem RL(x:X.calm=true):nX X (.builtin "min") (λxs H Q=>∃(a:Addr) (ns:List Int),xs=[.ref a]/\bP X.K H a (ns.map V.int)/\0<ns.length/\∀m,m∈ns->(∀n∈ns,m<=n)->Q (.int m) H):=by
 intro g s J H xs L Q I r ⟨a,ns,e,A,d,q⟩;subst e;obtain⟨u,e,w⟩:=bZ.one r;subst e;cases w;obtain⟨f,B,p,E⟩:=I.list A;have k:IntsAre f ns:=intsAre_of B;have i:=p.isList;obtain⟨xs,e⟩:=k.allInts.items;have b:ns=xs.toList.map (·.1):=by
  rw[<- k.numsOf,<- nums_intItems,<- e]
 have c:0<xs.size:=by
  have l:=d;rw[b,ah,aR] at l;exact l
 rw[e] at i;refine min_intList (I.ok.hd x) i c λv G D o z=>?_;obtain⟨t,rfl⟩:=intItems_at o;obtain⟨F,y⟩:=argBest_lt (numAt xs) (xs.size-1);refine⟨.int _,H,I.kept z,⟨t,rfl⟩,q _ ?_ λa h=>?_⟩
 ·rw[b,numAt_eq];exact getD_mem (by rw[ah,aR];lia)
 ·rw[b] at h
  obtain⟨j,C,rfl⟩:=mem_getD h;rw[ah,aR] at C;rw[<- numAt_eq];exact y j ∅
end
noncomputable def KE(scope YE:Scope)(N0 N2:List Str)(cap:List (Option Nat)):Bool :=
 (scope.kind==.function)&&(scope.names.all λy=>y.2 != .cell)&&(scope.names.all λy=>y.2 != .local || scope.names.lookup y.1==some .local) &&
 (scope.names.all λy=>y.2 != .free || YE.names.lookup y.1==some .cell)&&(scope.names.all λy=>y.2 != .free || scope.names.lookup y.1==some .free)&&decide N2.Nodup&&(cap.length==N2.length) &&
 ((aA cap.length).all λi=>match cap[i]?,N2[i]? with
   |some (some j),some x=>N0[j]?==some x&&scope.names.any (λy=>y.1==x&&y.2==.free)
   |_,_=>true)
theorem RN{X:Cx}{scope l:Scope}{m c:List Str}{b:List (Option Nat)}(v:X.env.scope=l)(u:X.N=m)(h:KE scope l m c b=true):jG X scope c b:=by
 unfold KE at h;simp only[c9] at h;obtain⟨⟨⟨⟨⟨⟨⟨A,f⟩,n⟩,g⟩,k⟩,r⟩,p⟩,o⟩:=h;rw[List.all_eq_true] at f n g k o;refine⟨by simpa using A,λy a e=>?_,λy a e=>?_,λy a e=>?_,λy a e=>?_,g9 r,by simpa using p,λi j x d s=>?_⟩
 ·have:=f y a;rw[e] at this;exact eL this (!_)
 ·have:=n y a;rw[e] at this;simpa using this
 ·have:=g y a
  rw[e] at this;show X.env.scope.names.lookup y.1=some .cell;rw[v]
  simpa using this
 ·have:=k y a;rw[e] at this;simpa using this
 ·have w:i<b.length:=(ai.mp d).1
  have q:=o i (dm.mpr w);rw[d,s] at q;simp only[c9] at q;refine⟨by rw[u];simpa using q.1,?_⟩;obtain⟨y,a,z⟩:=wL.mp q.2;simp only[c9] at z;have t:y.1=x:=by simpa using z.1
  have B:y.2=.free:=by simpa using z.2
  rw[<- t,<- B];exact a
def CW(H1:Hp)(acc:Addr)(n:Nat)(P:Nat->List V->Hp->Prop):Nat->Nat->Hp->Prop :=
 λi m H=>m=n-i/\i<=n/\aG H1 H/\∃ys,H acc=some (.lst ys)/\P i ys H
theorem ir{J:It}{n:Nat}{k:List (Option Nat)}{g:TG}{z:TT}{B:TE}{A:St}{v:Hp->Prop}{f:Hp}{a:Addr}(P:Nat->List V->Hp->Prop)(r:f a=none)
 (go:∀i H,i<n->aG f H->J.go i H) (stop:∀H,aG f H->J.stop n H) (C:P 0 [] (upd f a (.lst [])))
 (step:∀i h H,i<n->aG f H->H a=some (.lst h)->P i h H->∀x j,J.Kn i H x j->g x (jF k A) j λd u=>z d u λb q=>if b=true then B d q λy o=>∃xs,o a=some (.lst xs)/\xs.length<sizeLine /\
  ∃c,c<n-i/\CW f a n P (i+1) c (upd o a (.lst (xs++[y]))) else ∃c,c<n-i/\CW f a n P (i+1) c q)
 (t:∀h H,aG f H->H a=some (.lst h)->P n h H->v H) :
 ∃W:Nat->Nat->Hp->Prop,(∃m,W 0 m (upd f a (.lst [])))/\∀i m H,W i m H ->
  (J.stop i H/\v H)∨(J.go i H/\∀x j,J.Kn i H x j->g x (jF k A) j λd u=>z d u λb q=>if b=true then B d q λy o=>∃xs,o a=some (.lst xs)/\xs.length<sizeLine /\
   ∃c,c<m/\W (i+1) c (upd o a (.lst (xs++[y]))) else ∃c,c<m/\W (i+1) c q):=by
 refine⟨CW f a n P,⟨n,rfl,bN _,aG.new r,[],au,C⟩,?_⟩;rintro i m H ⟨rfl,D,s,h,w,p⟩;by_cases l:i<n
 ·exact .inr ⟨go i H l s,step i h H l s w p⟩
 ·have e:i=n:=∅
  subst e;exact .inl ⟨stop H s,t h H s w p⟩
theorem fQ{e b:Hp}{a:Addr}{n i:Nat}{P:Nat->List V->Hp->Prop}{c:List V}{y:V}(d:e a=none)(g:i<n)(s:aG e b)(h:b a=some (.lst c))(hl:c.length<sizeLine)(p:P (i+1) (c++[y]) (upd b a (.lst (c++[y])))) :
 ∃xs,b a=some (.lst xs)/\xs.length<sizeLine/\∃f,f<n-i/\CW e a n P (i+1) f (upd b a (.lst (xs++[y]))) :=
 ⟨c,h,hl,n-(i+1),∅,rfl,g,s.out d,_,au,p⟩
theorem jX{e b:Hp}{a:Addr}{n i:Nat}{P:Nat->List V->Hp->Prop}{d:List V}(f:i<n)(s:aG e b)(g:b a=some (.lst d))(p:P (i+1) d b):∃c,c<n-i/\CW e a n P (i+1) c b :=
 ⟨n-(i+1),∅,rfl,f,s,_,g,p⟩
theorem DL{K:af}{a:Addr}{xs:List V}{b:Hp}(h:bP K b a xs):∀i H,i<xs.length->aG b H->(Ko K a).go i H:=λi H c s=>⟨xs,xs[i],s.seq h,by simp[c]⟩
theorem vM{K:af}{a:Addr}{xs:List V}{b:Hp}(h:bP K b a xs):∀H,aG b H->(Ko K a).stop xs.length H:=λH s=>⟨xs,s.seq h,ay _⟩
theorem aag{K:af}{a:Addr}{xs:List V}{b:Hp}(h:bP K b a xs):∀i H,i<xs.length->aG b H->(VZ K a).go i H:=λi H c s=>⟨xs,xs[i],s.seq h,by simp[c]⟩
theorem Uc{K:af}{a:Addr}{xs:List V}{b:Hp}(h:bP K b a xs):∀H,aG b H->(VZ K a).stop xs.length H:=λH s=>⟨xs,s.seq h,ay _⟩
theorem Bx{lo:Int}{n:Nat}{b:Hp}:∀i H,i<n->aG b H->(Ti lo n).go i H:=λi H a s=>a
theorem sj{lo:Int}{n:Nat}{a:Hp}:∀H,aG a H->(Ti lo n).stop n H:=λH s=>ay n
noncomputable def hide(H:Hp)(l:Addr):Hp:=λb=>if b=l then none else H b
theorem aah{α:Type}{xs:List α}{i:Int}{v:α}(a:0<=i)(h:xs[i.toNat]?=some v):FG xs i=some v:=by
 obtain⟨k,rfl⟩:=Int.eq_ofNat_of_zero_le a;exact eY (by simpa using h)
theorem Ud{ns:List Int}{i:Int}(b:0<=i)(h:i<ns.length):FG (ns.map V.int) i=some (.int (ns.getD i.toNat 0)):=by
 have a:i.toNat<ns.length:=∅
 refine aah b ?_;rw[aj,az,aa a];rfl
section
variable{X:Cx}
theorem Ue(K:af)(h:X.K=K):D0 X (Rv K):=by subst h;exact P6
theorem Wx(K:af)(h:X.K=K):D0 X (Rx K):=by subst h;exact TU
theorem Wy(K:af)(h:X.K=K):UQ X (acJ K):=by subst h;exact Ks
theorem By(K:af)(h:X.K=K):wO X (compareOp .In) (HY K false):=by subst h;exact rW
theorem Gi(K:af)(h:X.K=K){e:Expr}{f:Str}{a:Pos}{b:TE}(c:PE X e b)(d:attributeBase e f X.env (eval e X.env)=eval e X.env):PE X (.Attribute e f a) (GB K b f):=by subst h;exact aY c d
theorem KG(K:af)(h:X.K=K){a:List Expr}{k:Nat}{b:Pos}{t:ZK}{n:Nat}(e:X.calm=true)(h':kC X a t)(d:(assignEach a X.env).length=n:=by rfl)
 (c:(assignEach a X.env).findIdx? (·.1)=none:=by rfl):PG X (.Tuple a k b) (ZM K n t):=by subst h;exact Kl e h' d c
theorem RO:nX X (.builtin "isinstance") (λxs H Q=>∃(a:Addr) (f:List V) (n:String) (b:Bool),xs=[.ref a,.ty n]/\cQ X.K H a f/\PySem.W.kitOne X.K (.type "tuple") (.type n)=some b/\Q (.bl b) H):=by
 intro d s t H xs v Q I r ⟨a,f,n,b,e,l,k,q⟩;subst e;obtain⟨u,w,e,i,c⟩:=bZ.two r;subst e;cases c;cases i;obtain⟨h,p,⟨o,m,j,_⟩,_⟩:=I.tuple l;exact dP PySem.W.kitx_tuple I.Br ⟨o,m,j⟩ k (λz=>nomatch z) λg=>⟨.bl _,H,I.tok g,rfl,q⟩
theorem RP:nX X (.builtin "isinstance") (λxs H Q=>∃(a:Addr) (f:List V) (n:String) (b:Bool),xs=[.ref a,.ty n]/\bP X.K H a f/\PySem.W.kitOne X.K (.type "list") (.type n)=some b/\Q (.bl b) H):=by
 intro d s v H xs w Q I r ⟨a,f,n,b,e,l,k,q⟩;subst e;obtain⟨u,x,e,i,c⟩:=bZ.two r;subst e;cases c;cases i;obtain⟨h,t,⟨o,p,m,j,_⟩,_⟩:=I.list l;exact dP PySem.W.kitx_list I.Br ⟨o,m,j⟩ k (λz=>nomatch z) λg=>⟨.bl _,H,I.tok g,rfl,q⟩
noncomputable def eB:Expr->Bool
 |.Starred _ _=>false
 |_=>true
theorem Mb{e:Expr}{a:List Expr}{env:Env}(h:eB e=true):starEach (e::a) env=(false,eval e env)::starEach a env:=by
 cases e <;> first|rfl|(exact Bool.noConfusion h)|simp[starEach]
theorem mQ{e:Expr}{b:List Expr}{a:TE}{t:TA}(c:PE X e a)(f:PA X b t)(d:eB e=true:=by rfl):PA X (e::b) (gG a t):=Wm c f (Mb d)
theorem Wz{bs:List Bool}{us:List Value}(r:bZ (bs.map V.bl) us){i:Nat}{v:Value}(h:us[i]?=some v):v=.bool (bs.getD i true):=by
 have c:=r.length;rw[ah] at c;have d:i<us.length:=(ai.mp h).1;have e:(bs.map V.bl)[i]?=some (.bl (bs.getD i true)):=by
  rw[aj,aa ∅,az,aa ∅];rfl
 obtain⟨u,a,b⟩:=r.get e;rw[h] at a;cases a;exact b
theorem range_all(bs:List Bool):((aA bs.length).all λi=>bs.getD i true)=bs.all id:=by
 rw[iB,List.all_eq_true,List.all_eq_true];constructor
 ·intro h x b
  obtain⟨i,a,e⟩:=List.getElem_of_mem b
  have:=h i (dm.mpr a)
  rw[az,aa a,e] at this;exact this
 ·intro h i a
  have a:=dm.mp a
  have:=h bs[i] (aQ a)
  rw[az,aa a];exact this
theorem Ug(l:X.calm=true):nX X (.builtin "all") (λxs H Q=>∃(a:Addr) (bs:List Bool),xs=[.ref a]/\bP X.K H a (bs.map V.bl)/\Q (.bl (bs.all id)) H):=by
 intro f s C H xs D Q I r ⟨a,bs,e,t,q⟩;subst e;obtain⟨u,e,k⟩:=bZ.one r;subst e;cases k;obtain⟨c,h,p,y⟩:=I.list t;have g:=h.length;rw[ah] at g;refine call_all_walk (wpAny_pyIter_list p.isList ?_);have d:a<s.heap.objs.size:=by obtain⟨o,n,e,_⟩:=p;exact Heap.lt_size e
 refine⟨s.heap.objs.size,_,_,_,_,_,λi=>bs.getD i true,rfl,Walks.list (A:=X.A.in1) (show X.A.in1.handled=none from I.ok.hd l) _ a (bE d) c.toArray,⟨⟨_,Heap.get?_push_size _ rfl,rfl,rfl⟩,p.isList.at λo e=>Heap.get?_push_of_some _ e⟩,?_,λB j m=>?_⟩
 ·intro i v s Q E x w
  have e:=Wz h (show c[i]?=some v by simpa using x);subst e;exact wpAny_truthy_bool w
 ·have e:(aA c.toArray.size).all (λi=>bs.getD i true)=bs.all id:=by
   rw[show c.toArray.size=bs.length by simp[g]];exact range_all bs
  rw[e];exact⟨.bl _,H,I.kept (t':=j) λb o e=>m b o (by
   intro z
   have:b=s.heap.objs.size:=by simpa using z
   exact eL (Heap.lt_size e) (by rw[this];exact iZ _)) (Heap.get?_push_of_some _ e),rfl,q⟩
end
end L2
namespace Gr
abbrev Ps:=List (Int×Int)
def AD(ps:Ps)(k:Nat)(x y:Int):Prop:=ps[k]?=some (x,y)∨ps[k]?=some (y,x)
theorem BA{α:Type}{xs:List α}{x:α}(h:xs.Nodup)(f:x∉xs):(xs++[x]).Nodup:=by
 rw[uJ];refine⟨h,-_,λa c b d=>?_⟩
 have:b=x:=by simpa using d
 rw[this];exact λe=>f (e▸c)
noncomputable def ends(ps:Ps):List Int:=ps.flatMap λp=>[p.1,p.2]
end Gr
namespace L2
open PySem Gr
noncomputable abbrev two(a b:Int):List V:=[.int a,.int b]
def Uh(K:af)(ta:TE):TT:=λσ H Q=>ta σ H λx H'=>∃k,ZZ K x H' k/\Q k H'
theorem RQ{X:Cx}{a:Expr}{c:TE}(d:PE X a c)(e:∀b,isTrue a X.env b=(do let v <- b;standAt a.pos;holding [v] (truthy v))):PT X a (Uh X.K c):=Tz d e
theorem WA{c:TT}{l:TS}{D:Ends}{a:St}{H:Hp}(h:Nat->St->Hp->Prop)(j:Nat)(n:h j a H)
 (o:∀m a H,h m a H->c a H λb e=>if b=true then l {D with nx:=λd i=>∃g,g<m/\h g d i,ct:=λd i=>∃g,g<m/\h g d i,bk:=D.nx} a e else D.nx a e)
 (f:∀a H Q k,(∀b e,Q b e->k b e)->c a H Q->c a H k):Km c l D a H:=by
 refine⟨h,⟨j,n⟩,λm a H p=>f a H _ _ (λb e q=>?_) (o m a H p)⟩;cases b with
 |true=>exact⟨_,λd i z=>z,q⟩
 |false=>exact q
theorem Ui{K:af}{a:Addr}{xs:List V}{g:TG}{o:TS}{D:Ends}{c:St}{H:Hp}(d:Nat->St->Hp->Prop)(z:d 0 c H)(hl:∀i c H,i<=xs.length->d i c H->bP K H a xs)
 (A:∀i x c H p,xs[i]?=some x->d i c H->H p=none->g (.ref p) c (upd H p (.tup [.int (i:Nat),x])) λj l=>o {D with nx:=d (i+1),ct:=d (i+1),bk:=D.nx} j l) (u:∀c H,d xs.length c H->D.nx c H) :
 ∃W:Nat->Nat->St->Hp->Prop,(∃m,W 0 m c H)/\∀i m c H,W i m c H ->
  ((VZ K a).stop i H/\D.nx c H)∨((VZ K a).go i H/\∃N:St->Hp->Prop,(∀f h,N f h->∃n,n<m/\W (i+1) n f h)/\∀x h,(VZ K a).Kn i H x h->g x c h λj l=>o {D with nx:=N,ct:=N,bk:=D.nx} j l):=by
 refine⟨λi m c H=>m=xs.length-i/\i<=xs.length/\d i c H,⟨xs.length,-_,bN _,z⟩,?_⟩;rintro i m c H ⟨rfl,w,p⟩;have q:=hl i c H w p;by_cases k:i<xs.length
 ·refine .inr ⟨⟨xs,xs[i],q,by simp[k]⟩,d (i+1),λf h s=>⟨xs.length-(i+1),∅,rfl,k,s⟩,λx h y=>?_⟩
  obtain⟨b,v,t,rfl,rfl,r⟩:=y;exact A i v c H b (r xs q) p t
 ·have e:i=xs.length:=∅
  subst e;exact .inl ⟨⟨xs,q,ay _⟩,u c H p⟩
end L2
namespace L2
open PySem PySem.Spec PyProof.Rows
section
variable{X:Cx}
theorem Mc:nX X (.type "range") (λxs H Q=>∃j:Int,xs=[.int j]/\∀p,H p=none->Q (.ref p) (upd H p (.S4 0 j))):=by
 intro c s f H xs g Q I r ⟨j,e,q⟩;subst e;obtain⟨u,e,d⟩:=bZ.one r;subst e;obtain⟨t,rfl⟩:=d;refine call_range_1 ⟨.ref s.heap.objs.size,_,I.laid (a:=s.heap.objs.size) (o:=.S4 0 j) (λb o e=>Heap.get?_push_of_some _ e) (ay _) ?_,rfl,q _ (I.hok.fresh (ay _))⟩;exact⟨_,_,_,Heap.get?_push_size _ rfl⟩
theorem Oz{a:Array Value}{n:Nat}(hl:a.size=n)(h:∀(i:Nat) (v:Value),a[i]?=some v->∃t,v=Value.int (0+(i:Int)*1) t):bZ ((aA n).map λk=>V.int (k:Nat)) a.toList:=by
 have c:∀(b:List Value) (m:Nat),(∀(i:Nat) (v:Value),b[i]?=some v->∃t,v=Value.int ((m+i:Nat):Int) t)->bZ ((List.range' m b.length).map λk=>V.int (k:Nat)) b:=by
  intro b;induction b with
  |nil=>intro m _;exact .nil
  |cons u b f =>
   intro m d;rw[bx,List.range'_succ,bO];refine .cons (d 0 u rfl) (f (m+1) λi v e=>?_);obtain⟨t,q⟩:=d (i+1) v (by simpa using e);exact⟨t,by rw[q];congr 1;lia⟩
 have:=c a.toList 0 λi v e=>by
  obtain⟨t,q⟩:=h i v (by simpa using e);exact⟨t,by rw[q];congr 1;lia⟩
 rw[aR,hl,<- List.range_eq_range'] at this;exact this
theorem OA(m:X.calm=true):nX X (.type "list") (λxs H Q=>∃(p:Addr) (j:Nat),xs=[.ref p]/\H p=some (.S4 0 j)/\j<=1000/\∀l,H l=none->Q (.ref l) (upd H l (.lst ((aA j).map λk=>.int (k:Nat))))):=by
 intro f s F H xs G Q I r ⟨p,j,e,h,A,q⟩;subst e;obtain⟨u,e,i⟩:=bZ.one r;subst e;cases i;obtain⟨t,u,v,C⟩:=(show fP X.prog X.w H s.heap p (.S4 0 j) from I.hok p _ h);refine call_list_range (I.ok.hd m) (n:=j) C (small_one ∅ ∅ ∅ ∅) (by rw[rangeSize_one];split <;> lia) ∅ λE D b x y B z=>?_;obtain⟨c,d⟩:=z;have g:=Oz c d;refine⟨.ref s.heap.objs.size,_,I.laid (a:=s.heap.objs.size) (o:=.lst ((aA j).map λk=>.int (k:Nat))) y (ay _) ⟨?_,b.toList,x,g,by simpa using B⟩,rfl,q _ (I.hok.fresh (ay _))⟩;rw[ah,bB];exact kg (cS A)
end
end L2
namespace Gr
end Gr
namespace L2
open PySem PySem.Spec PyProof.Rows
def WB(h:Heap)(e T:Addr)(cls fl:Value):Prop :=
 ∃oe vs oT ts,h.get? e=some oe/\oe.cls=cls/\oe.dict=none/\oe.data=.fields vs/\vs[1]?=some (.ref T)/\T≠e/\h.get? T=some oT/\oT.data=.fields ts/\ts[3]?=some fl
structure JC(F R:List Addr)(h h':Heap):Prop where
 keep:∀b o,b∉F->b∉R->h.get? b=some o->h'.get? b=some o
 slot:∀b o,b∈F->b∉R->h.get? b=some o->∃sl,h'.get? b=some {o with slots:=sl}
theorem JC.mono{F R d:List Addr}{h h':Heap}(t:JC F R h h')(f:∀b∈R,b∈d):JC F d h h' :=
 ⟨λb o c a e=>t.keep b o c (λz=>a (f b z)) e,λb o c a e=>t.slot b o c (λz=>a (f b z)) e⟩
theorem JC.trans{F R:List Addr}{h j i:Heap}(a:JC F R h j)(b:JC F R j i):JC F R h i :=
 ⟨λc o d f e=>b.keep c o d f (a.keep c o d f e),λc o d f e=>by
  obtain⟨m,k⟩:=a.slot c o d f e;obtain⟨g,l⟩:=b.slot c _ d f k;exact⟨g,l⟩⟩
theorem JC.acV{F:List Addr}{h:Heap}{a:Addr}{g:Obj->Obj}:JC F [a] h (h.update a g) :=
 ⟨λb o _ c e=>(Heap.get?_update_other _ _ (λz=>c (by simp[z]))).trans e,λb o _ c e=>⟨o.slots,(Heap.get?_update_other _ _ (λz=>c (by simp[z]))).trans e⟩⟩
theorem RS{f:Array Value->Array Value}{o:Obj}:(Obj.mapFields f o).dict=o.dict:=by
 obtain⟨c,d,a,b⟩:=o;cases a <;> rfl
section
variable{M:Model}{A:Around}{E:Value->Shared->Prop}{s:Shared}{base:Heap}{env:Env}{outer:List Env}{L e:Addr}
theorem GH(hl:s.heap.FunFrames base (env::outer)){b:Obj}{vs:Array Value}(f:s.heap.get? e=some b)(g:b.data=.fields vs):e∉frs (env::outer):=λd=>by
 obtain⟨_,o,c,a⟩:=hl.mem d;rw[f] at c;cases c;exact a vs g
theorem JD{d:Obj}{vs:Array Value}{a:Value}{B:Bool}{Q:Unit->Shared->Prop}(u:A.frames=some (env::outer))(hl:s.heap.FunFrames base (env::outer))(D:env.frame=some L)
 (w:s.heap.get? e=some d) (m:d.dict=none) (n:d.data=.fields vs) (hsz:1<vs.size)
 (h:∀h',WB h' e s.heap.objs.size d.cls (rawInt L)->JC (frs (env::outer)) [e] s.heap h'->Q () {s with heap:=h'}) :
 wpAny M A (do let fv <- frameOf env;let j <- entryPlaceOf L B;let F <- EntryCells.newEntry a fv .none (rawInt L) .none j;setField (.ref e) 1 F) Q E s:=by
 have l:=GH hl w n;refine wpAny_bind (wpAny_frameOf_fun u hl D λg1 C=>?_);obtain⟨t,c,v⟩:=C;refine wpAny_bind (wpAny_entryPlaceOf λj i=>?_);unfold EntryCells.newEntry newFields;refine wpAny_bind (wpAny_newObj_type ?_ (i.sizeOk5 _ _ _ _ _));have k:g1.get? e=some d:=(c e l).trans w;have f:g1.objs.size≠e:=Nat.ne_of_gt (Heap.lt_size k);refine wpAny_setField (Heap.get?_push_of_some _ k) n hsz (h _ ?_ ?_)
 ·have g:=Obj.data_mapFields n (·.setIfInBounds 1 (Value.ref g1.objs.size))
  have qT:=(Heap.get?_update_other _ (Obj.mapFields (·.setIfInBounds 1 (Value.ref g1.objs.size))) (bL f)).trans (Heap.get?_push_size g1 (o:={cls:=.type "traceback",dict:=none,data:=.fields ([a,.ref L,.none,rawInt L,.none]++(if j.isEmpty then k7 6 Value.none else j)).toArray}) rfl);rw[<- t];refine⟨_,_,_,_,Heap.get?_update_self _ (Heap.get?_push_of_some _ k) (Obj.isFreed_of_fields g),Obj.cls_mapFields _ _,?_,g,?_,f,qT,rfl,?_⟩
  ·rw[RS]
   exact m
  ·simp[hsz]
  ·rcases i with rfl|⟨_,_,_,_,_,_,_,rfl⟩ <;> simp
 ·refine⟨λb o x p r=>?_,λb o x p r=>?_⟩
  ·rw[Heap.get?_update_other _ _ (λz=>p (by simp[z]))]
   exact Heap.get?_push_of_some _ ((c b x).trans r)
  ·obtain⟨y,q⟩:=v b o r
   refine⟨y,?_⟩;rw[Heap.get?_update_other _ _ (λz=>p (by simp[z]))];exact Heap.get?_push_of_some _ q
theorem OB{a:Obj}{vs:Array Value}{Q:Unit->Shared->Prop}(b:A.frames=some (env::outer))(hl:s.heap.FunFrames base (env::outer))(g:env.frame=some L)
 (f:s.heap.get? e=some a) (c:a.dict=none) (i:a.data=.fields vs) (d:vs[1]?=some .none)
 (h:∀h',WB h' e s.heap.objs.size a.cls (rawInt L)->JC (frs (env::outer)) [e] s.heap h'->Q () {s with heap:=h'}):wpAny M A (noteFrame (.ref e) env) Q E s:=by
 unfold noteFrame;simp only[g];refine wpAny_bind (wpAny_field f i d ?_);rw[er (!_)];exact JD b hl g f c i (gh.mp d).1 h
theorem RT{T:Addr}{cls:Value}{Q:Unit->Shared->Prop}(j:A.frames=some (env::outer))(hl:s.heap.FunFrames base (env::outer))(l:env.frame=some L)(B:WB s.heap e T cls .none)
 (h:∀h',WB h' e s.heap.objs.size cls (rawInt L)->JC (frs (env::outer)) [e,T] s.heap h'->Q () {s with heap:=h'}):wpAny M A (noteFrame (.ref e) env) Q E s:=by
 obtain⟨v,D,F,r,m,x,i,n,p,C,f,c,q⟩:=B;subst x;unfold noteFrame;simp only[l];refine wpAny_bind (wpAny_field m n p ?_);rw[ee (-_)];refine wpAny_bind (wpAny_field f c q ?_);rw[er (by simp[rawInt])];refine wpAny_bind (wpAny_setField f c (gh.mp q).1 ?_);have t:=GH (e:=T) hl f c;have g:(s.heap.update T (Obj.mapFields (·.setIfInBounds 3 Value.none))).objs.size=s.heap.objs.size:=Heap.size_after_update ..;have a:∀b,b≠T->(s.heap.update T (Obj.mapFields (·.setIfInBounds 3 Value.none))).get? b=s.heap.get? b:=λb d=>Heap.get?_update_other _ _ (bL d);refine JD (s:={s with heap:=s.heap.update T (Obj.mapFields (·.setIfInBounds 3 Value.none))}) (base:=base) j (hl.of_keeps λb o d k=>⟨o,(a b λz=>?_).trans d,rfl⟩) l ((a e (bL C)).trans m) i n (gh.mp p).1 λh' w u=>?_
 ·rw[z,f] at d
  cases d;exact k r c
 ·have y:WB h' e s.heap.objs.size v.cls (rawInt L):=g▸w
  exact h h' y ((JC.acV.mono (-_)).trans (u.mono (-_)))
theorem EU{T:Addr}{cls q:Value}{Q:Unit->Shared->Prop}(f:WB s.heap e T cls q)(h:∀h',WB h' e T cls .none->(∀F,JC F [T] s.heap h')->h'.objs.size=s.heap.objs.size->Q () {s with heap:=h'}) :
 wpAny M A (setFlight (.ref e) none) Q E s:=by
 obtain⟨n,p,t,m,g,o,d,i,k,l,j,c,r⟩:=f;have a:3<m.size:=(gh.mp r).1;unfold setFlight;refine wpAny_bind (wpAny_field g i k ?_);rw[ee (-_)];refine wpAny_setField j c a (h _ ?_ (λF=>JC.acV) (Heap.size_after_update ..));have b:=Obj.data_mapFields c (·.setIfInBounds 3 ((none:Option Addr).elim Value.none λf=>rawInt f));exact⟨n,p,_,_,(Heap.get?_update_other _ _ l).trans g,o,d,i,k,l,Heap.get?_update_self _ j (Obj.isFreed_of_fields b),b,by simp[a]⟩
end
theorem fP.there{P:Program}{w:World}{H:Hp}{h:Heap}{a:Addr}:∀{o:HO},fP P w H h a o->∃ob,h.get? a=some ob
 |.lst _,⟨_,_,_,_,e⟩=>⟨_,e⟩
 |.tup _,⟨_,_,_,o,e,_⟩=>⟨o,e⟩
 |.dK _,⟨_,_,_,_,o,_,_,e,_⟩=>⟨o,e⟩
 |.dT _,⟨_,_,_,_,o,_,_,e,_⟩=>⟨o,e⟩
 |.set _ _,⟨o,_,_,_,e,_⟩=>⟨o,e⟩
 |.ins _ _ _,⟨_,_,_,e,_⟩=>⟨_,e⟩
 |.own _,e=>e
 |.xd _,⟨_,n,_⟩=>let ⟨o,e,_⟩:=Jr n;⟨o,e⟩
 |.met _ _,e=>⟨_,e⟩
 |.S4 _ _,⟨_,_,_,e⟩=>⟨_,e⟩
 |.Ax o _,⟨e,_⟩=>⟨o,e⟩
 |.Yo _,e=>⟨_,e⟩
 |.ext _,⟨_,e,_⟩=>e
theorem yM.ry{P:Program}{w:World}{H:Hp}{h h':Heap}{F R:List Addr}(ok:yM P w H h)(t:JC F R h h')(c:∀b∈F,H b=none)(d:∀b∈R,H b=none):yM P w H h':=λa o e =>
 (ok a o e).stay (λb u hb q=>t.keep b u (λz=>by
  have:=c b z
  rcases hb with rfl|hb
  ·rw[e] at this;cases this
  ·rw[hb] at this;cases this) (λz=>by
  have:=d b z
  rcases hb with rfl|hb
  ·rw[e] at this;cases this
  ·rw[hb] at this;cases this) q) (λ_ q=>q) λ_ _ q=>q
def Rec(X:Cx)(pins:List (Addr×Obj))(H:Hp)(b:Addr):Prop :=
 H b=none/\b≠X.env.locals/\b∉X.fs/\X.s₀.heap.get? b=none/\(∀x c,X.env.cells.lookup x=some c->c≠b)/\∀p∈X.pn++pins,p.1≠b
section
variable{X:Cx}{pins:List (Addr×Obj)}{σ:St}{H H':Hp}{s:Shared}{h':Heap}
theorem Inv.WC(I:Inv X pins σ H s)(f:X.ex=[]){b:Addr}(h:H' b=none)(d:s.heap.get? b=none):Rec X pins H' b:=by
 refine⟨h,λz=>?_,λz=>?_,?_,λx c e z=>?_,λp g z=>?_⟩
 ·obtain⟨m,⟨o,_,_,a,_⟩,_⟩:=I.loc
  rw[<- z,d] at a;cases a
 ·obtain⟨_,o,a,_⟩:=I.Cr.mem z
  rw[d] at a;cases a
 ·cases q:X.s₀.heap.get? b with
  |none=>rfl
  |some o =>
   obtain⟨i,e⟩:=I.base.there b o q (by rw[f];simp);rw[d] at e;cases e
 ·obtain⟨v,o,a,_⟩:=I.cell x c e
  rw[z,d] at a;cases a
 ·have:=(I.pin p g).1
  rw[z,d] at this;cases this
theorem Inv.Me(I:Inv X pins σ H s)(a:X.ex=[]):Rec X pins H s.heap.objs.size:=by
 refine I.WC a (I.hok.fresh (ay _)) ?_;cases q:s.heap.get? s.heap.objs.size with
 |none=>rfl
 |some o=>exact eL (Heap.lt_size q) (iZ _)
theorem Inv.ry{R:List Addr}{t':Nat}(I:Inv X pins σ H s)(A:∀b∈R,Rec X pins H b)(t:JC (frs X.stack) R s.heap h'):Inv X pins σ H {s with heap:=h',toks:=t'}:=by
 have G:∀b∈frs X.stack,H b=none:=λb a=>I.Kf b a;have g:∀b o,b∉R->s.heap.get? b=some o->∃j,h'.get? b=some {o with slots:=j}:=λb o C e=>by
  by_cases a:b∈frs X.stack
  ·exact t.slot b o a C e
  ·exact⟨o.slots,t.keep b o a C e⟩
 have L:∀b o,b≠X.env.locals->b∉X.fs->b∉R->s.heap.get? b=some o->h'.get? b=some o:=λb o N a C e =>
  t.keep b o (λz=>(bf.mp (I.DE b z)).elim N a) C e
 have E:∀b o,X.s₀.heap.get? b=some o->b≠X.env.locals:=λb o e=>bE (bH (Heap.lt_size e) I.ok.above);have h:∀b o,X.s₀.heap.get? b=some o->b∉R:=λb o e z=>by rw[(A b z).2.2.2.1] at e;cases e
 have f:∀x c,X.env.cells.lookup x=some c->∀v,s.heap.IsCell c v->h'.IsCell c v:=λx c e v ⟨o,F,S⟩=>by
  obtain⟨j,q⟩:=g c o (λz=>(A c z).2.2.2.2.1 x c e rfl) F;exact⟨_,q,S⟩
 refine⟨I.ok,I.os,I.bare,⟨λb o e n a B=>?_,λb o e n a B=>?_,I.base.free,λb o e B=>?_,I.base.tups,I.base.AV,I.base.Cq⟩,?_,λx c e=>?_,I.free,I.ua,λp J=>?_,I.hok.ry t G (λb a=>(A b a).1),I.len⟩
 ·exact L b o (E b o e) a (h b o e) (I.base.keep b o e n a B)
 ·obtain⟨j,y⟩:=I.base.slot b o e n a B
  obtain⟨D,w⟩:=g b _ (h b o e) y;exact⟨D,w⟩
 ·obtain⟨U,y⟩:=I.base.there b o e B
  obtain⟨j,w⟩:=g b _ (h b o e) y;exact⟨_,w⟩
 ·obtain⟨m,⟨o,T,M,F,r⟩,Q⟩:=I.loc
  obtain⟨j,q⟩:=g _ o (λz=>(A _ z).2.1 rfl) F;refine⟨m,⟨_,T,M,q,r⟩,λi x v y w O=>?_⟩;obtain⟨u,P,l⟩:=Q i x v y w O;refine⟨u,P,?_⟩;rcases l with l|⟨k,c,e,z⟩
  ·exact .inl l
  ·exact .inr ⟨k,c,e,f x c e _ z⟩
 ·obtain⟨v,z⟩:=I.cell x c e
  exact⟨v,f x c e v z⟩
 ·obtain⟨e,n,K,nf,d⟩:=I.pin p J
  exact⟨L p.1 p.2 K nf (λz=>(A p.1 z).2.2.2.2.2 p J rfl) e,n,K,nf,d⟩
end
def XP(X:Cx)(pins:List (Addr×Obj))(σ:St)(E:XK)(e:Value)(s':Shared):Prop :=
 ∃ea T cls H',e=.ref ea/\Inv X pins σ H' s'/\WB s'.heap ea T cls .none/\Rec X pins H' ea/\Rec X pins H' T/\E cls none H'
def EV(P:Program)(w:World):Rt:=λouter H s E e s' =>
 ∃ea T cls H',e=.ref ea/\s'.os=s.os/\AllBare s'.gens/\Un (frs outer) [] H H' s.heap s'.heap/\yM P w H' s'.heap/\WB s'.heap ea T cls .none/\s.heap.get? ea=none/\s.heap.get? T=none/\H' ea=none/\H' T=none/\E cls none H'
theorem acY{X:Cx}{a:List (Addr×Obj)}{i:St}{H:Hp}{s s':Shared}{E:XK}{e:Value}(I:Inv X a i H s)(c:X.ex=[])(h:EV X.prog X.w X.stack H s E e s'):XP X a i E e s':=by
 obtain⟨r,T,f,j,l,os,d,m,g,p,t,k,o,n,q⟩:=h;exact⟨r,T,f,j,l,I.Yq (ch:=[]) os m g d (λb z=>eL z (-_)),p,I.WC c o t,I.WC c n k,q⟩
theorem Uj{X:Cx}{a:List (Addr×Obj)}{d:St}{H:Hp}{s:Shared}{R:List Addr}{h':Heap}(I:Inv X a d H s)(c:X.ex=[])(e:∀b∈R,Rec X a H b)(t:JC (frs X.stack) R s.heap h'):Un X.fs [] X.H₀ H X.s₀.heap h':=by
 have:=(I.ry (t':=s.toks) e t).base
 rw[c] at this;exact this
section
variable{P:Program}{w:World}{K:af}{mg:Str->Option Value}{base:Heap}{N:List Str}{qual:Str}{scope:Scope}{f:Addr}{cd:Value}{A:Around}{outer:List Env}{s0:Shared}{H0:Hp}{E:XK}
theorem acZ{a:List (Addr×Obj)}{u:St}{e:Value}{s:Shared}(h:XP (oj (EV P w) P w K mg base N qual scope f cd A outer s0 H0 E) a u E e s):(oj (EV P w) P w K mg base N qual scope f cd A outer s0 H0 E).xe e s:=by
 obtain⟨d,T,i,k,rfl,I,v,j,t,q⟩:=h;show wpAny _ _ (leaving _ (.ref d)) _ _ s;unfold leaving;refine wpAny_bind (RT (base:=base) I.ok.frames I.stack rfl v λB x o=>?_);refine EU x λp r n y=>?_;have g:=I.Me rfl;have l:∀b∈[d,T,s.heap.objs.size],Rec (oj (EV P w) P w K mg base N qual scope f cd A outer s0 H0 E) a k b:=by
  intro b m;simp only[bf,List.not_mem_nil,or_false] at m;rcases m with z|z|z
  ·rw[z];exact j
  ·rw[z];exact t
  ·rw[z];exact g
 have c:JC (frs (oj (EV P w) P w K mg base N qual scope f cd A outer s0 H0 E).stack) [d,T,s.heap.objs.size] s.heap p:=(o.mono (-_)).trans ((n _).mono (-_));have J:=I.ry (t':=s.toks) l c;exact⟨d,_,i,k,rfl,I.os,I.bare,Uj I rfl l c,J.hok,r,j.2.2.2.1,g.2.2.2.1,j.1,g.1,q⟩
theorem YG:sf (EV P w) (oj (EV P w) P w K mg base N qual scope f cd A outer s0 H0 E) E:=λa b H s e c I h=>acZ (acY I rfl h)
theorem NP.okX{x qual:Str}{st:Stmt}{f:Addr}{e:FuncData}{N ps:List Str}{k:Nat}{sp:Sp}(F:NP K x qual st f e)(S:aJ N ps (aC st))(c:∀vs H Q E,sp vs H Q E->vs.length=ps.length)
 (b:∀(a:Value) (A:Around) (outer:List Env) (s:Shared) (H:Hp) (vs:List V) (Q:VK) (E:XK),jE k (A.deeper (envOfC qual (aC st) s.heap.objs.size f a))->sp vs H Q E ->
  ∃t,iC (oj (EV P w) P w K mg base N qual (aC st) f a A outer s H E) (fX st) t/\t {nx:=λ_ h=>Q .fH h,rt:=Q} (start N vs) H):cz P w K mg base (EV P w) (k+1) f e ps sp:=by
 obtain⟨n,o,kV,g,m,p,a,q,j,rfl,lk,d⟩:=F.ex;exact TM lk d S c λA outer s H vs Q E l i=>b a A outer s H vs Q E l i
end
theorem Qe{P:Program}{w:World}{X:Cx}:sf (EV P w) X E0:=λ_ _ _ _ _ _ _ h=>by
 obtain⟨_,_,_,_,_,_,_,_,_,_,_,_,_,_,q⟩:=h;exact q.elim
abbrev ac1:List Value:=[.type "ValueError",.type "Exception",.type "BaseException",.type "object"]
structure Uk(K:af)(C:Addr):Prop where
 ex:PySem.W.excIn K C ac1 "ValueError.__new__" = true
 ga:aI K (.ref C) "__getattribute__" = some (some (.builtin "BaseException.__getattribute__"))
 gb:aI K (.ref C) "__getattr__" = some none
 hd:uG K C=true
 ca:aI K (.ref C) "__class__" = some (some (.builtin "object.__class__"))
 cg:PySem.W.specialIn K (.builtin "object.__class__") "__get__" = some (some (.builtin "getset_descriptor.__get__"))
 ct:PySem.W.takesIn K (.builtin "object.__class__")=some true
 mo:PySem.W.mroIn K C (.type "object")=some true
 mb:PySem.W.mroIn K C (.type "BaseException")=some true
theorem WD{K:af}{h:Heap}{C:Addr}{a:List Value}{j:String}(X:K.In h)(q:PySem.W.excIn K C a j=true) :
 ∃bm N nm e bs c sn d ab col dd k0 k1 k2 k3 k5 m,h.get? C=some (excClassObj nm e C N bs bm c sn d ab col dd k0 k1 k2 k3 k5 j)/\h.Ns N m/\m "__init__" = none/\OwnTail h a bm/\bm.contains (.type "BaseException")=a.contains (.type "BaseException"):=by
 unfold PySem.W.excIn at q;split at q
 ·rename_i dd w g u
  obtain⟨nm,bs,t,l,e,c,sn,d,ab,col,r⟩:=w;obtain⟨g⟩:=g;split at q
  ·rename_i D bm k0 k1 k2 k3 n k5 i o
   simp only[c9,beq_iff_eq,Bool.not_eq_true'] at q;obtain⟨⟨⟨⟨⟨s,p⟩,k⟩,v⟩,b⟩,f⟩:=q;dsimp only at i o k b f;subst s p i o k;have T:=PySem.W.tail_of_in X v;exact⟨bm,l,nm,e,bs,c,sn,d,ab,col,dd,k0,k1,k2,k3,k5,h.nsMap l,X _ _ u,.of_isNs (PySem.W.isNs_of_in X b),PySem.W.nsMap_none_of_in X b f,T,T.hasType rfl⟩
  ·cases q
 ·cases q
section
variable{P:Program}{w:World}{K:af}{mg:Str->Option Value}{base:Heap}{N:List Str}{qual:Str}{scope:Scope}{f:Addr}{cd:Value}{A:Around}{outer:List Env}{s0:Shared}{H0:Hp}{E:XK}
theorem raised{a:List (Addr×Obj)}{l:St}{H:Hp}{s:Shared}{h':Heap}{e C:Addr}{vs:List Value}(I:Inv (oj (EV P w) P w K mg base N qual scope f cd A outer s0 H0 E) a l H s)(hm:Heap.MadeExcOf s.heap h' e (.ref C) vs)
 (q:E (.ref C) none H):(oj (EV P w) P w K mg base N qual scope f cd A outer s0 H0 E).xe (.ref e) {s with heap:=h'}:=by
 have h:H e=none:=by
  cases z:H e with
  |none=>rfl
  |some o =>
   obtain⟨y,m⟩:=(I.hok e o z).there;rw[hm.new] at m;cases m
 have i:=I.WC rfl h hm.new;have d:Inv (oj (EV P w) P w K mg base N qual scope f cd A outer s0 H0 E) a l H {s with heap:=h'}:=I.kept (t':=s.toks) hm.keeps;obtain⟨t,p,_,_⟩:=hm.there;show wpAny _ _ (leaving _ (.ref e)) _ _ _;unfold leaving;refine wpAny_bind (OB (base:=base) d.ok.frames d.stack rfl p rfl rfl rfl λD x r=>?_);refine EU x λu v n B=>?_;have g:=d.Me rfl;have j:∀b∈[e,h'.objs.size],Rec (oj (EV P w) P w K mg base N qual scope f cd A outer s0 H0 E) a H b:=by
  intro b k;simp only[bf,List.not_mem_nil,or_false] at k;rcases k with z|z
  ·rw[z];exact i
  ·rw[z];exact g
 have c:JC (frs (oj (EV P w) P w K mg base N qual scope f cd A outer s0 H0 E).stack) [e,h'.objs.size] h' u:=(r.mono (-_)).trans ((n _).mono (-_));have J:=d.ry (t':=s.toks) j c;exact⟨e,_,.ref C,H,rfl,I.os,I.bare,Uj d rfl j c,J.hok,v,i.2.2.2.1,g.2.2.2.1,i.1,g.1,q⟩
theorem Mf{x:Str}{C:Addr}{a:Expr}{M b l:Pos}{o:TE}(S:Gl (oj (EV P w) P w K mg base N qual scope f cd A outer s0 H0 E) x)(r:mg x=some (.ref C))(O:Uk K C)(t:A.handled=none)
 (z:PE (oj (EV P w) P w K mg base N qual scope f cd A outer s0 H0 E) a o) (i:(x==("__debug__" : Str))=false:=by decide)
 (m:backTo b (starEach [a] (oj (EV P w) P w K mg base N qual scope f cd A outer s0 H0 E).env)=[(false,eval a (oj (EV P w) P w K mg base N qual scope f cd A outer s0 H0 E).env)]:=by rfl) :
 PS (oj (EV P w) P w K mg base N qual scope f cd A outer s0 H0 E) (.Raise (some (.Call (.Name x M) [a] [] b)) none l) (λ_ k H=>o k H λ_ n=>E (.ref C) none n):=by
 intro c s k H D I h;obtain⟨bm,L,nm,R,bs,J,sn,Q,ab,col,dd,k0,k1,k2,k3,k5,X,u,G,g,T,B⟩:=WD I.ok.mod.ZE O.ex;refine wpAny_Raise_call_subT (C:=C) (nm:=nm) (q:=R) (N:=L) (bs:=bs) (bm:=bm) (hdct:=J) (sn:=sn) (sub:=Q) (ab:=ab) (col:=col) (dd:=dd) (k0:=k0) (k1:=k1) (k2:=k2) (k3:=k3) (k5:=k5) PySem.F.excBase_ValueError (by rw[B];decide) t (by rw[m];rfl) g (Cs I S r ⟨rfl,?_⟩ i);rw[m];refine Calls.evalArgs_plain (Calls.spliced_cons (gz (z c s k H _ I h) λv V ⟨y,n,d,U,p⟩=>Calls.spliced_nil ?_));exact⟨rfl,by show 1<=sizeLine;decide,d.bk _ _ u,G.keeps d.bk,T.keeps d.bk,λW e j=>raised d j p⟩
end
end L2
namespace RM
structure Row where
 hd:Int
 co:Int
 ho:Int
 by_:Int
deriving DecidableEq
theorem Row.ext'{r s:Row}(b:r.hd=s.hd)(a:r.co=s.co)(c:r.ho=s.ho)(d:r.by_=s.by_):r=s:=by
 cases r;cases s;simp_all
def lt(r s:Row):Prop:=r.hd<s.hd∨(r.hd=s.hd/\(r.co<s.co∨(r.co=s.co/\(r.ho<s.ho∨(r.ho=s.ho/\r.by_<s.by_)))))
instance (r s:Row):Decidable (lt r s):=by unfold lt;infer_instance
def le(r s:Row):Prop:=¬lt s r
instance (r s:Row):Decidable (le r s):=by unfold le;infer_instance
theorem le_refl(r:Row):le r r:=by unfold le lt;lia
theorem aaj{a b c:Int}{k l i:Prop}(h:¬k->¬l->¬i)(g:¬(b<a∨(b=a/\k)))(f:¬(c<b∨(c=b/\l))):¬(c<a∨(c=a/\i)):=by
 have j:a<=b:=Int.not_lt.mp λy=>g (.inl y);have d:b<=c:=Int.not_lt.mp λy=>f (.inl y);intro z;rcases z with z|⟨z,n⟩
 ·exact Int.not_lt.mpr (qV j d) z
 ·subst z
  have e:=Int.le_antisymm j d;subst e;exact h (λy=>g (.inr ⟨rfl,y⟩)) (λy=>f (.inr ⟨rfl,y⟩)) n
theorem le_trans{r s t:Row}(d:le r s)(c:le s t):le r t :=
 aaj (aaj (aaj λa b=>Int.not_lt.mpr (qV (Int.not_lt.mp a) (Int.not_lt.mp b)))) d c
theorem YH{r s:Row}(h:lt r s):le r s:=by unfold le lt at *;lia
structure Net where
 n:Nat
 nm:Nat->Int
 a:Nat->Nat
 b:Nat->Nat
 c:Nat->Int
 live:List Nat
 inj:∀i j,i<n->j<n->nm i=nm j->i=j
 ab:∀k∈live,a k<n/\b k<n/\a k≠b k
 c1:∀k∈live,1<=c k
section
variable(N:Net)
def Gj(k h g:Nat):Prop:=k∈N.live/\((N.a k=h/\N.b k=g)∨(N.b k=h/\N.a k=g))
noncomputable def own(h:Nat):Row:=⟨N.nm h,0,0,-1⟩
noncomputable def over(k:Nat)(r:Row):Row:=⟨r.hd,r.co+N.c k,r.ho+1,k⟩
end
variable{N:Net}
theorem Gj.symm{k h g:Nat}(e:Gj N k h g):Gj N k g h:=⟨e.1,e.2.elim (λz=>.inr ⟨z.2,z.1⟩) λz=>.inl ⟨z.2,z.1⟩⟩
theorem Gj.lt{k h g:Nat}(e:Gj N k h g):h<N.n/\g<N.n/\h≠g:=by
 obtain⟨d,e⟩:=e;obtain⟨b,a,c⟩:=N.ab k d;rcases e with ⟨rfl,rfl⟩|⟨rfl,rfl⟩
 ·exact⟨b,a,c⟩
 ·exact⟨a,b,bL c⟩
theorem Gj.cost{k h g:Nat}(e:Gj N k h g):1<=N.c k:=N.c1 k e.1
structure Ul(cut:Int)(R:Nat->Row)(h:Nat)(d:Row):Prop where
 one:d=own N h∨∃k g,Gj N k h g/\(R g).ho+1<cut/\d=over N k (R g)
 own:le d (RM.own N h)
 all:∀k g,Gj N k h g->(R g).ho+1<cut->le d (over N k (R g))
def Sane(N:Net)(R:Nat->Row):Prop:=∀h,h<N.n->0<=(R h).ho/\(R h).ho<N.n
noncomputable def upd(R:Nat->Row)(h:Nat)(d:Row):Nat->Row:=λx=>if x=h then d else R x
structure om(N:Net)(R:Nat->Row)(k h g:Nat):Prop where
 AD:Gj N k h g
 cut:(R g).ho+1<N.n
 eq:R h=over N k (R g)
theorem Gj.far{k h g g':Nat}(a:Gj N k h g)(c:Gj N k h g'):g=g':=by
 obtain⟨b,e⟩:=a;obtain⟨_,d⟩:=c
 have:=(N.ab k b).2.2
 lia
section
variable{R:Nat->Row}{k h g:Nat}
theorem om.ho(t:om N R k h g):(R h).ho=(R g).ho+1:=by rw[t.eq];rfl
theorem om.by(t:om N R k h g):(R h).by_=k:=by rw[t.eq];rfl
theorem om.uniq{a g':Nat}(t:om N R k h g)(u:om N R a h g'):k=a/\g=g':=by
 have c:=t.by;have b:=u.by;have e:k=a:=∅
 subst e;exact⟨rfl,t.AD.far u.AD⟩
theorem om.one{h' g':Nat}(t:om N R k h g)(u:om N R k h' g'):h=h'/\g=g':=by
 obtain⟨f,e⟩:=t.AD;obtain⟨_,c⟩:=u.AD;have i:=t.ho;have d:=u.ho;have a:h=h'∨(h=g'/\g=h'):=by
  rcases e with ⟨rfl,rfl⟩|⟨rfl,rfl⟩ <;> rcases c with ⟨rfl,rfl⟩|⟨rfl,rfl⟩ <;> simp
 rcases a with a|⟨a,b⟩
 ·subst a
  exact⟨rfl,t.AD.far u.AD⟩
 ·subst a b
  lia
end
end RM
namespace RM
variable{N:Net}
end RM
namespace L2
open PySem PySem.Spec PyProof.Rows
inductive Mg:List Value->List Value->Bool->Prop
 |nil:Mg [] [] false
 |ne {a c:Int} {t u:Tok} {vs ws:List Value} (h:a≠c):Mg (.int a t::vs) (.int c u::ws) (decide (a<c))
 |eq {a:Int} {t u:Tok} {vs ws:List Value} {r:Bool} (h:Mg vs ws r):Mg (.int a t::vs) (.int a u::ws) r
section
open PySem.SeqAt
open PySem.AutoSeq1 (wpAny_loadPart')
open PySem.MeetsSeq PySem.MeetsSeq2 PySem.MeetsSeq3
theorem OC(l b:Addr)(items f:Array Value)(n K:Nat)(dd D:Option Addr)(I H:Array (Option Value))(r:Bool)(N:Mg items.toList f.toList r)(hsz:items.size=f.size) :
 Meets (Builtin.«tuple.__lt__» ⟨[.ref l,.ref b],[]⟩)
  (λ_ R s=>s.heap.get? l=some {cls:=.type "tuple",dict:=dd,data:=.seq items n,slots:=I}/\s.heap.get? b=some {cls:=.type "tuple",dict:=D,data:=.seq f K,slots:=H} /\
   R (.ok (.ret (.bool r))) s) :=
 .of_wp λj w A R s h=>by
  obtain⟨v,g,d,z,os⟩:=s;obtain⟨L,M,h⟩:=h;have Q:=AutoSeq1.sub_tuple_tuple
  wp_walk using wpAny_loadPart' L,wpAny_loadPart' M,wpAny_forIn_list _ (λrest b G=>b.1=none/\G=⟨v,g,d,z,os⟩/\∃(q p:List Value),rest=q.zip p/\Mg q p r) _
  case turn =>
   rintro⟨y,x⟩ rest b G ⟨m,rfl,q,p,i,o⟩;cases o with
   |nil=>rw[List.zip_nil_left] at i;cases i
   |@ne a c t u q p C =>
    rw[List.zip_cons_cons] at i;injection i with hyx hrest
    injection hyx with hy o
    subst hy o;obtain⟨e,E,k⟩:=HT.L4 A.in1 ⟨v,g,d,z,os⟩ a t c u;refine wpAny_bind (E j w _ _ ?_);cases e with
    |true=>exact eL (k.mp rfl) C
    |false =>
     have B:=HT.TN A.in1 ⟨v,g,d,z,os⟩ a t c u j w
     wp_walk using B
     exact⟨_,rfl,by simpa using h⟩
   |@eq a t u q p S F =>
    rw[List.zip_cons_cons] at i;injection i with hyx hrest
    injection hyx with hy o
    subst hy o;obtain⟨e,E,k⟩:=HT.L4 A.in1 ⟨v,g,d,z,os⟩ a t a u;refine wpAny_bind (E j w _ _ ?_);cases e with
    |true =>
     wp_walk
     exact⟨rfl,rfl,_,_,hrest,F⟩
    |false=>exact eL (k.mpr rfl) aF
  case fin =>
   rintro⟨O,P⟩ G ⟨m,rfl,q,p,i,o⟩;simp only at m;subst m;cases o with
   |nil =>
    have J:decide (items.size<f.size)=false:=gU ∅;rw[<- J] at h
    wp_walk
    exact⟨_,rfl,by simpa [Builtin.Tuple.tupleCompareSizes] using h⟩
   |ne=>rw[List.zip_cons_cons] at i;cases i
   |eq=>rw[List.zip_cons_cons] at i;cases i
  case h =>
   exact⟨rfl,rfl,items.toList,f.toList,rfl,N⟩
end
theorem WE{prog:Program}{w:World}{A:Around}{E:Value->Shared->Prop}{s:Shared}{l b:Addr}{items a:Array Value}{r:Bool}{Q:Value->Shared->Prop}(hl:IsTup s.heap l items)(v:IsTup s.heap b a)(y:Mg items.toList a.toList r)(hsz:items.size=a.size)
 (p:A.units<cLine) (h:Q (.bool r) s):wpAny (model prog w) A (compareOp .Lt (.ref l) (.ref b)) Q E s:=by
 obtain⟨⟨u,z,i,o⟩,m,k,n,j⟩:=id hl;obtain⟨⟨q,f,data2,g⟩,e,c,t,d⟩:=id v;simp only at k j c d;subst k j c d;exact richCompare_meets_room (op:=.Lt) ⟨_,m,rfl⟩ ⟨_,e,rfl⟩ PySem.F.slot_tuple_lt PySem.F.entry_tuple_lt (PySem.F.args_tuple_lt_2 _ _) (OC l b items a n t z f o g r y hsz)
  ⟨m,e,show Value.bool r≠Value.notImplemented/\Q (.bool r) s from ⟨(λx=>nomatch x),h⟩⟩ p
inductive GI:List V->List V->Bool->Prop
 |nil:GI [] [] false
 |ne {a c:Int} {vs ws:List V} (h:a≠c):GI (.int a::vs) (.int c::ws) (decide (a<c))
 |eq {a:Int} {vs ws:List V} {r:Bool} (h:GI vs ws r):GI (.int a::vs) (.int a::ws) r
theorem GI.vals{vs f:List V}{r:Bool}(h:GI vs f r):∀{us a:List Value},bZ vs us->bZ f a->Mg us a r:=by
 induction h with
 |nil=>intro us a c b;cases c;cases b;exact .nil
 |ne h =>
  intro us a c b;cases c with
  |cons d _ =>
   cases b with
   |cons e _ =>
    obtain⟨t,rfl⟩:=d;obtain⟨u,rfl⟩:=e;exact .ne h
 |eq _ j =>
  intro us a c b;cases c with
  |cons d i =>
   cases b with
   |cons e g =>
    obtain⟨t,rfl⟩:=d;obtain⟨u,rfl⟩:=e;exact .eq (j i g)
section
variable{X:Cx}
def agG(K:af):R2:=λx y H Q=>∃a b xs ys r,x=.ref a/\y=.ref b/\cQ K H a xs/\cQ K H b ys/\xs.length=ys.length/\GI xs ys r/\Q (.bl r) H
theorem aak(i:X.A.units<cLine):wO X (compareOp .Lt) (agG X.K):=by
 intro c s B H x y v u Q I g k h;obtain⟨a,b,w,z,r,rfl,rfl,m,p,n,t,q⟩:=h;cases g;cases k;obtain⟨l,f,o,_⟩:=I.tuple m;obtain⟨d,e,j,_⟩:=I.tuple p;exact WE o j (t.vals f e) (by rw[aP,aP,<- f.length,<- e.length];exact n) i ⟨.bl r,H,I,rfl,q⟩
end
end L2
namespace RM
open PySem L2
noncomputable def jV(b:Int):V:=if b<0 then .fH else .int b
noncomputable abbrev cR(r:Row):List V:=[.int r.hd,.int r.co,.int r.ho,jV r.by_]
theorem aZ{b:Int}(h:b<0):jV b=.fH:=ee h
theorem aW{b:Int}(h:0<=b):jV b=.int b:=er ∅
end RM
namespace L2
open PySem PySem.Spec PyProof.Rows
end L2
namespace L2
open PySem PySem.Spec PyProof.Rows RM
end L2
namespace L2
open PySem PySem.Spec PyProof.Rows
section
variable{X:Cx}
def agH(K:af):R2:=λx y H Q=>∃da db,Rep K H da x/\Rep K H db y/\da.canLay0=true/\db.canLay0=true/\da.depth<=64/\Q (.bl (PyData.eqv da db)) H
theorem Qf(K:af)(l:X.K=K)(c:X.A.units+64<cLine):wO X (compareOp .Eq) (agH K):=by
 subst l;intro a s j H x y v u Q I b e ⟨m,k,g,h,f,d,i,q⟩;exact Ox a s j H x y v u Q I b e ⟨m,k,g,h,f,d,cK (fz (aN (mE _ _) i) _) c,q⟩
end
end L2
namespace RM
open PySem L2
noncomputable def SR(b:Int):PyData:=if b<0 then .none else .int b
noncomputable def DM(r:Row):PyData:=.tuple [.int r.hd,.int r.co,.int r.ho,SR r.by_]
theorem WG{K:af}{H:Hp}(b:Int):Rep K H (SR b) (jV b):=by
 unfold SR jV;by_cases h:b<0
 ·rw[ee h,ee h];rfl
 ·rw[er h,er h];rfl
theorem yZ{K:af}{H:Hp}{p:Addr}{r:Row}(h:cQ K H p (cR r)):Rep K H (DM r) (.ref p) :=
 ⟨p,_,rfl,h,_,_,rfl,rfl,_,_,rfl,rfl,_,_,rfl,rfl,_,_,rfl,WG _,rfl⟩
theorem y9(r:Row):(DM r).canLay0=true:=by
 show (true&&(true&&(true&&((SR r.by_).canLay0&&true))))=true;unfold SR;split <;> rfl
theorem JE(r:Row):(DM r).depth=1:=by
 show max 0 (max 0 (max 0 (max (SR r.by_).depth 0)))+1=1;unfold SR;split <;> rfl
theorem Mh{r s:Row}(g:-1<=r.by_)(i:-1<=s.by_):PyData.eqv (DM r) (DM s)=decide (r=s):=by
 have e:PyData.eqv (DM r) (DM s)=((r.hd==s.hd)&&((r.co==s.co)&&((r.ho==s.ho)&&(PyData.eqv (SR r.by_) (SR s.by_)&&true)))):=rfl;rw[e];have d:PyData.eqv (SR r.by_) (SR s.by_)=decide (r.by_=s.by_):=by
  unfold SR;by_cases b:r.by_<0 <;> by_cases a:s.by_<0
  ·rw[ee b,ee a]
   exact (fy ∅).symm
  ·rw[ee b,er a]
   exact (gU ∅).symm
  ·rw[er b,ee a]
   exact (gU ∅).symm
  ·rw[er b,er a]
   show (r.by_==s.by_)=_;by_cases c:r.by_=s.by_
   ·rw[fy c,c];exact beq_self_eq_true _
   ·rw[gU c];exact beq_eq_false_iff_ne.mpr c
 rw[d];by_cases h:r=s
 ·subst h
  simp
 ·rw[gU h]
  have:¬(r.hd=s.hd/\r.co=s.co/\r.ho=s.ho/\r.by_=s.by_):=λz=>h (Row.ext' z.1 z.2.1 z.2.2.1 z.2.2.2)
  simp only[Bool.and_true];by_cases b:r.hd=s.hd
  ·by_cases a:r.co=s.co
   ·by_cases c:r.ho=s.ho
    ·have f:¬r.by_=s.by_:=λz=>this ⟨b,a,c,z⟩
     simp[f]
    ·simp[c]
   ·simp[a]
  ·simp[b]
end RM
namespace L2
open PySem PySem.Spec PyProof.Rows
end L2
namespace RM
open PySem L2
theorem WH{r s:Row}(h:r.hd=s.hd->r.co=s.co->r.ho=s.ho->¬lt r s):GI [.int r.hd,.int r.co,.int r.ho] [.int s.hd,.int s.co,.int s.ho] (decide (lt r s)):=by
 obtain⟨l,n,i,p⟩:=r;obtain⟨k,m,j,o⟩:=s;dsimp only at h;have a:∀{b g:Bool} {vs ws},GI vs ws b->b=g->GI vs ws g:=λh e=>e▸h;by_cases d:l=k
 ·subst d
  by_cases c:n=m
  ·subst c
   by_cases f:i=j
   ·subst f
    exact a (.eq (.eq (.eq .nil))) (gU (h rfl rfl rfl)).symm
   ·exact a (.eq (.eq (.ne f))) (by unfold lt;simp[f])
  ·exact a (.eq (.ne c)) (by unfold lt;simp[c])
 ·exact a (.ne d) (by unfold lt;simp[d])
end RM
namespace L2
open PySem PySem.Spec PyProof.Rows
end L2
set_option maxHeartbeats 4000000
namespace TW
open PySem L2 PyProof.Rows
open RM (cR jV aZ aW)
seal L2.PE L2.PA L2.PT L2.PW L2.PS L2.iC L2.PG L2.kC L2.PI L2.kE
structure Um(n:Int)(a b c d e:Int):Prop where
 a0:0<=a
 a1:a<n
 b0:0<=b
 b1:b<n
 ab:a≠b
 c1:1<=c
 d1:1<=d
 d4:d<=4
 e1:1<=e
 e7:e<=7
noncomputable abbrev ac3(a b c d e:Int):List V:=[.int a,.int b,.int c,.int d,.int e]
structure R5 where
 a:Int
 b:Int
 c:Int
 d:Int
 e:Int
noncomputable abbrev R5.vs(r:R5):List V:=ac3 r.a r.b r.c r.d r.e
noncomputable abbrev R5.ns(r:R5):List Int:=[r.a,r.b,r.c,r.d,r.e]
noncomputable def R5.D(r:R5):PyData:=.tuple (r.ns.map .int)
abbrev R5.Ok(n:Int)(r:R5):Prop:=Um n r.a r.b r.c r.d r.e
def GJ(K:af)(H:Hp)(l:Addr)(rs:List R5):Prop:=Rep K H (.list (rs.map R5.D)) (.ref l)
section
variable{K:af}{H H':Hp}{l:Addr}{rs:List R5}
theorem GJ.mono(s:aG H H')(h:GJ K H l rs):GJ K H' l rs:=Rep.mono s h
theorem GJ.at(h:GJ K H l rs):∃vs,bP K H l vs/\vs.length=rs.length/\∀(i:Nat) r,rs[i]?=some r->∃p,vs[i]?=some (.ref p)/\cQ K H p r.vs:=by
 obtain⟨a,vs,e,q,r⟩:=h;cases e;refine⟨vs,q,by rw[r.length,ah],λi x g=>?_⟩;obtain⟨v,c,b⟩:=r.get (i:=i) (d:=x.D) (by rw[aj,g];rfl);obtain⟨p,e,f⟩:=Rep.yY (ns:=x.ns) b;subst e;exact⟨p,c,f⟩
end
theorem GK:∀(ns:List Int),ns.Nodup->(firstMet (λi=>ns.getD i 0) ns.length).length=ns.length:=by
 intro ns l;have e:(aA ns.length).map (λi=>ns.getD i 0)=ns:=by
  apply List.ext_getElem
  ·simp
  ·intro i d m
   simp at d;simp[az,d]
 have c:∀(b a:List Int),(a++b).Nodup->b.foldl step_dedup a=a++b:=by
  intro b;induction b with
  |nil=>intro a _;simp
  |cons x b f =>
   intro a h;have k:x∉a:=λj=>by
    rw[uJ] at h;exact h.2.2 x j x (-_) rfl
   have g:step_dedup a x=a++[x]:=by
    unfold step_dedup;simp[k]
   rw[List.foldl_cons,g,f _ (by simpa using h)];simp
 unfold firstMet;rw[e,c ns [] (by simpa using l)];simp
theorem dG{f:Str}{v:V}:∀{a:List (Str×V)} {names:List Str},a.map (·.1)=names->names.contains f=false->yH f v a=a++[(f,v)]
 |[],_,_,_=>rfl
 | (g,u)::r,_,e,h=>by
  subst e;rw[bO,List.contains_cons,Bool.or_eq_false_iff] at h;have b:¬g=f:=λz=>by
   have:=h.1
   rw[z] at this;simp at this
  show (if g=f then (g,v)::r else (g,u)::yH f v r)=_;rw[er b,dG rfl h.2];rfl
theorem AE{K:af}{H d:Hp}{p C e:Addr}{f:List (Str×V)}{a:Addr}{xs:List V}(k:∀b o,H b=some o->b≠p->d b=some o)(c:H p=some (.ins C e f))(h:bP K H a xs):bP K d a xs:=by
 rcases h with (h|⟨o,h⟩)|h
 ·exact .inl (.inl (k _ _ h (vK h c (by intro z;cases z))))
 ·exact .inl (.inr ⟨o,k _ _ h (vK h c (by intro z;cases z))⟩)
 ·exact .inr h
theorem WI{K:af}{H d:Hp}{p C e:Addr}{f:List (Str×V)}{a:Addr}{xs:List V}(k:∀b o,H b=some o->b≠p->d b=some o)(c:H p=some (.ins C e f))(h:cQ K H a xs):cQ K d a xs:=by
 rcases h with (h|⟨o,h⟩)|h
 ·exact .inl (.inl (k _ _ h (vK h c (by intro z;cases z))))
 ·exact .inl (.inr ⟨o,k _ _ h (vK h c (by intro z;cases z))⟩)
 ·exact .inr h
mutual
theorem WK{K:af}{H f:Hp}{p C i:Addr}{g:List (Str×V)}(k:∀b o,H b=some o->b≠p->f b=some o)(c:H p=some (.ins C i g)):∀{d:PyData} {v:V},Rep K H d v->Rep K f d v
 |.none,_,h=>h
 |.bool _,_,h=>h
 |.int _,_,h=>h
 |.str _,_,h=>h
 |.list ds,_,⟨a,vs,e,q,r⟩=>⟨a,vs,e,AE k c q,jH k c r⟩
 |.tuple ds,_,⟨a,vs,e,q,r⟩=>⟨a,vs,e,WI k c q,jH k c r⟩
 |.dict _,_,h=>h
theorem jH{K:af}{H c:Hp}{p C f:Addr}{d:List (Str×V)}(k:∀b o,H b=some o->b≠p->c b=some o)(a:H p=some (.ins C f d)):∀{ds:List PyData} {vs:List V},cW K H ds vs->cW K c ds vs
 |[],_,h=>h
 |_::_,_,⟨v,r,e,q,t⟩=>⟨v,r,e,WK k a q,jH k a t⟩
end
noncomputable abbrev agI(ln lr:Addr)(n m:Nat):List (Str×V):=[("house_names",.ref ln),("rope_tuples",.ref lr),("size",.int n),("many",.int m)]
structure c7(K:af)(C:Addr)(H:Hp)(p ln lr:Addr)(ns:List Int)(rs:List R5):Prop where
 ob:∃dx,H p=some (.ins C dx (agI ln lr ns.length rs.length))
 nl:H ln=some (.lst (ns.map V.int))
 rl:∃vs,H lr=some (.lst vs)/\cW K H (rs.map R5.D) vs
section
variable{K:af}{C:Addr}{H H':Hp}{p ln lr:Addr}{ns:List Int}{rs:List R5}
theorem c7.mono(s:aG H H')(h:c7 K C H p ln lr ns rs):c7 K C H' p ln lr ns rs:=by
 obtain⟨⟨a,c⟩,b,d,e,f⟩:=h;exact⟨⟨a,s _ _ c⟩,s _ _ b,d,s _ _ e,f.mono s⟩
end
theorem KH(a x:Int):Ry (.int a) (.int x)=decide (x=a):=by
 show (a==x)=decide (x=a);by_cases e:x=a
 ·rw[fy e,e];exact beq_self_eq_true a
 ·rw[gU e];exact beq_eq_false_iff_ne.mpr (bL e)
theorem mR(x:Int)(xs:List Int):CD (.int x) (xs.map V.int)=decide (x∈xs):=by
 unfold CD;induction xs with
 |nil=>simp
 |cons y d c =>
  rw[bO,List.any_cons,c,KH];by_cases a:x=y
  ·subst a;simp
  ·by_cases b:x∈d
   ·simp[a,b]
   ·simp[a,b]
theorem oq(xs:List Int):(xs.map V.int).all yR=true:=by
 rw[List.all_eq_true];intro v a;obtain⟨x,_,rfl⟩:=aL.mp a;rfl
noncomputable def above(xs:List Int)(x:Int):Nat:=(xs.filter λy=>decide (x<=y)).length
theorem Uo{xs:List Int}{x:Int}(h:x∈xs):above xs (x+1)<above xs x:=by
 unfold above;induction xs with
 |nil=>cases h
 |cons y c g =>
  have f:(c.filter λy=>decide (x+1<=y)).length<=(c.filter λy=>decide (x<=y)).length:=by
   clear g h;induction c with
   |nil=>simp
   |cons z j b =>
    simp only[fj];by_cases a:x+1<=z
    ·rw[ee (by simpa using a),ee (by simp;lia)];simp;exact b
    ·rw[er (by simpa using a)]
     split
     ·simp;lia
     ·exact b
  simp only[fj];by_cases d:x=y
  ·subst d
   rw[er (by simp;lia),ee (-_)];simp;lia
  ·have i:x∈c:=by
    rcases bf.mp h with e|e
    ·exact eL e d
    ·exact e
   have:=g i
   by_cases a:x+1<=y
   ·rw[ee (by simpa using a),ee (by simp;lia)];simp;exact this
   ·rw[er (by simpa using a),er (by simp;lia)];exact this
theorem WL{n x y:Int}(j:2<=n):0<=x%n/\x%n<n/\0<=(x%n+1+y%(n-1))%n/\(x%n+1+y%(n-1))%n<n/\x%n≠(x%n+1+y%(n-1))%n:=by
 have f:=bU x (show n≠0 by lia);have d:=ck x (show 0<n by lia);have h:=bU y (show n-1≠0 by lia);have i:=ck y (show 0<n-1 by lia);have g:=bU (x%n+1+y%(n-1)) (show n≠0 by lia);have e:=ck (x%n+1+y%(n-1)) (show 0<n by lia);refine⟨f,d,g,e,?_⟩;generalize x%n=a at *;generalize y%(n-1)=b at *;by_cases c:a+1+b<n
 ·rw[Int.emod_eq_of_lt ∅ c];lia
 ·rw[<- Int.sub_emod_right,Int.emod_eq_of_lt ∅ ∅];lia
theorem aal{c:TT}{t u r:TS}{D:Ends}{a:L2.St}{H:Hp}(J:L2.St->Hp->Prop)(b:∀a H,J a H->r D a H)(h:(∀a H,J a H->r D a H)->Tf c t u {D with nx:=r D} a H):Td (Tf c t u) r D a H:=h b
theorem OD{K:af}{a:Addr}{xs:List V}{b:Hp}(h:cQ K b a xs):∀i H,i<xs.length->aG b H->(X0 K a).go i H:=λi H c s=>⟨xs,xs[i],s.dB h,by simp[c]⟩
theorem GL{K:af}{a:Addr}{xs:List V}{b:Hp}(h:cQ K b a xs):∀H,aG b H->(X0 K a).stop xs.length H:=λH s=>⟨xs,s.dB h,ay _⟩
structure BB(n m:Nat)(r:RM.Row):Prop where
 hd:0<=r.hd
 co:0<=r.co
 ho:0<=r.ho/\r.ho<n
 by_:r.by_=-1∨(0<=r.by_/\r.by_<m)
noncomputable abbrev bR(ks:List Nat):List V:=ks.map λk=>V.int (k:Nat)
theorem jI(a:List Nat)(k:Nat):bR (a++[k])=bR a++[V.int (k:Nat)]:=by
 unfold bR;rw[aT];rfl
theorem WM{K:af}{H:Hp}{q a:Addr}{xs c:List V}{o:HO}(b:H q=some (.lst xs))(h:cQ K H a c):cQ K (upd H q o) a c:=by
 rcases h with (h|⟨d,h⟩)|h
 ·exact .inl (.inl (by rw[aH (vK h b (by intro z;cases z))];exact h))
 ·exact .inl (.inr ⟨d,by rw[aH (vK h b (by intro z;cases z))];exact h⟩)
 ·exact .inr h
noncomputable def aV(ns:List Int)(rs:List R5)(live:List Nat)(nd:ns.Nodup)(ok:∀r∈rs,r.Ok ns.length)(hl:∀k∈live,k<rs.length):RM.Net where
 n:=ns.length
 nm i:=ns.getD i 0
 a k:=((rs[k]?).map λr=>r.a.toNat).getD 0
 b k:=((rs[k]?).map λr=>r.b.toNat).getD 0
 c k:=((rs[k]?).map λr=>r.c).getD 0
 live:=live
 inj i j hi hj e:=by
  have e1:ns.getD i 0=ns[i]:=by simp[az,hi]
  have e2:ns.getD j 0=ns[j]:=by simp[az,hj]
  have e:ns[i]=ns[j]:=by rw[<- e1,<- e2];exact e
  exact (List.getElem?_inj hi nd).mp (by rw[aa hi,aa hj,e])
 ab k hk:=by
  have h:=hl k hk;have o:=ok _ (aQ h);simp only[aa h,Option.map_some,Option.getD_some];have h1:=o.a0;have h2:=o.a1;have h3:=o.b0;have h4:=o.b1;have h5:=o.ab;exact⟨∅,∅,∅⟩
 c1 k hk:=by
  have h:=hl k hk;have o:=ok _ (aQ h);simp only[aa h,Option.map_some,Option.getD_some];exact o.c1
def wU(K:af)(H:Hp)(l:Addr)(n:Nat)(R:Nat->RM.Row):Prop:=∃ps:List Addr,bP K H l (ps.map V.ref)/\ps.length=n/\∀(i:Nat) p,ps[i]?=some p->cQ K H p (cR (R i))
theorem wU.mono{K:af}{H a:Hp}{l:Addr}{n:Nat}{R:Nat->RM.Row}(s:aG H a)(h:wU K H l n R):wU K a l n R:=by
 obtain⟨d,c,b,f⟩:=h;exact⟨d,s.seq c,b,λi p e=>s.dB (f i p e)⟩
theorem pT:∀ns:List Int,PyData.canLayAll0 (ns.map .int)=true
 |[]=>rfl
 |n::ns=>by
  show (PyData.canLay0 (.int n)&&PyData.canLayAll0 (ns.map .int))=true;rw[pT ns];rfl
theorem vN:∀ns:List Int,PyData.depthAll (ns.map .int)=0
 |[]=>rfl
 |n::ns=>by
  show max (PyData.depth (.int n)) (PyData.depthAll (ns.map .int))=0;rw[vN ns];rfl
theorem Uq(xs:List V)(i:Nat):CA xs (some (i:Int)) none=xs.drop i:=by
 unfold CA;rw[HT.Gg];show (xs.drop (min i xs.length)).take (xs.length-min i xs.length)=_;by_cases h:i<=xs.length
 ·rw[Nat.min_eq_left h,gi (by rw[wK];exact ay _)]
 ·rw[Nat.min_eq_right ∅,iL (ay _),iL ∅]
  simp
section
variable{ns:List Int}{rs:List R5}{live:List Nat}{nd:ns.Nodup}{ok:∀r∈rs,r.Ok ns.length}{hl:∀k∈live,k<rs.length}
def wW(n m:Nat)(R:Nat->RM.Row):Prop:=∀i,i<n->BB n m (R i)
theorem wW.aam{m:Nat}{R:Nat->RM.Row}(h:wW ns.length m R):RM.Sane (aV ns rs live nd ok hl) R:=λi a=>(h i a).ho
theorem WN{R:Nat->RM.Row}{h:Nat}{d:RM.Row}(l:wW ns.length rs.length R)(b:h<ns.length)(m:∀x∈ns,0<=x)(i:RM.Ul (N:=aV ns rs live nd ok hl) ns.length R h d):BB ns.length rs.length d:=by
 rcases i.one with e|⟨k,g,a,c,e⟩
 ·rw[e]
  have j:(aV ns rs live nd ok hl).nm h=ns[h]:=by show ns.getD h 0=_;simp[az,b]
  refine⟨?_,jn _,⟨jn _,?_⟩,.inl rfl⟩
  ·show 0<=(aV ns rs live nd ok hl).nm h
   rw[j];exact m _ (aQ b)
  ·show (0:Int)<ns.length
   lia
 ·have f:=l g a.lt.2.1
  have n:=a.cost;have o:k<rs.length:=hl k a.1;rw[e];refine⟨f.hd,?_,⟨?_,c⟩,.inr ⟨?_,?_⟩⟩
  ·show 0<=(R g).co+(aV ns rs live nd ok hl).c k
   have:=f.co
   lia
  ·show 0<=(R g).ho+1
   have:=f.ho.1
   lia
  ·show (0:Int)<=(k:Nat);lia
  ·show ((k:Nat):Int)<(rs.length:Nat);lia
end
theorem BB.by1{n m:Nat}{r:RM.Row}(h:BB n m r):-1<=r.by_:=by have:=h.by_;lia
noncomputable def isAt(rs:List R5)(h:Int)(i:Nat):Bool:=match rs[i]? with|some r=>decide (h=r.a) || decide (h=r.b)|none=>false
noncomputable def SS(rs:List R5)(h:Int)(n:Nat):List Nat:=(aA n).filter (isAt rs h)
theorem Mi(rs:List R5)(h:Int)(n:Nat):SS rs h (n+1)=SS rs h n++(if isAt rs h n then [n] else []):=by
 unfold SS;rw[mF,fO];congr 1;by_cases a:isAt rs h n=true
 ·rw[ee a];simp[a]
 ·rw[er a];simp[a]
theorem WO(rs:List R5)(h:Int)(n:Nat):(SS rs h n).length<=n:=by
 have:=aX (isAt rs h) (aA n)
 rw[bB] at this;exact this
theorem OE(x a b:Int):CD (V.int x) [V.int a,V.int b]=(decide (x=a) || decide (x=b)):=by
 show (Ry (.int a) (.int x) || (Ry (.int b) (.int x) || false))=_;rw[KH,KH,Bool.or_false]
theorem jJ(a:List Nat):bR a=(a.map λk:Nat=>(k:Int)).map V.int:=by
 unfold bR;rw[dw];rfl
theorem zc(x:Nat)(xs:List Nat):CD (.int (x:Nat)) (bR xs)=decide (x∈xs):=by
 rw[jJ,mR];by_cases h:x∈xs
 ·rw[fy h]
  exact fy (aL.mpr ⟨x,h,rfl⟩)
 ·rw[gU h]
  refine gU λz=>h ?_;obtain⟨y,a,e⟩:=aL.mp z
  have:y=x:=∅
  exact this▸a
theorem rX(xs:List Nat):(bR xs).all yR=true:=by rw[jJ];exact oq _
theorem Ur(rs:List R5)(h:Int)(n:Nat):(SS rs h n).Pairwise (·<·):=List.Pairwise.filter _ List.pairwise_lt_range
theorem WQ{a:List Nat}(h:a.Pairwise (·<·)){j:Nat}(d:j<a.length){k:Nat}(b:k∈a.take j):k<a[j]:=by
 obtain⟨i,c,e⟩:=List.getElem_of_mem b;rw[bQ] at c;rw[List.getElem_take] at e;rw[<- e];exact pN.mp h i j ∅ d ∅
theorem AF{rs:List R5}{h:Int}{n k:Nat}:k∈SS rs h n↔k<n/\isAt rs h k=true:=by
 unfold SS;rw[bC,dm]
section
variable{ns:List Int}{rs:List R5}{live:List Nat}{nd:ns.Nodup}{ok:∀r∈rs,r.Ok ns.length}{hl:∀k∈live,k<rs.length}
noncomputable def fR(r:R5)(h:Nat):Nat:=(if (h:Int)=r.a then r.b else r.a).toNat
theorem ue{k h g:Nat}(f:k∈live):RM.Gj (aV ns rs live nd ok hl) k h g↔isAt rs (h:Int) k=true/\g=fR (rs[k]'(hl k f)) h:=by
 have d:=hl k f;have o:=ok _ (aQ d);have i:rs[k]?=some rs[k]:=aa d;have l:(aV ns rs live nd ok hl).a k=rs[k].a.toNat:=by show ((rs[k]?).map λr=>r.a.toNat).getD 0=_;rw[i];rfl
 have j:(aV ns rs live nd ok hl).b k=rs[k].b.toNat:=by show ((rs[k]?).map λr=>r.b.toNat).getD 0=_;rw[i];rfl
 unfold RM.Gj isAt fR;rw[l,j,i];dsimp only;generalize rs[k]=r at o;have n:=o.a0;have m:=o.b0;have p:=o.ab;constructor
 ·rintro⟨_,⟨e,c⟩|⟨e,c⟩⟩
  ·have z:(h:Int)=r.a:=∅
   rw[ee z];exact⟨by simp[z],c.symm⟩
  ·have z:(h:Int)=r.b:=∅
   rw[er ∅];exact⟨by simp[z],c.symm⟩
 ·rintro⟨e,c⟩
  refine⟨f,?_⟩;have e:(h:Int)=r.a∨(h:Int)=r.b:=by simpa using e
  by_cases z:(h:Int)=r.a
  ·rw[ee z] at c
   exact .inl ⟨∅,c.symm⟩
  ·rw[er z] at c
   exact .inr ⟨∅,c.symm⟩
end
theorem Us(ns:List Int)(a b:Nat):∃cs:List Int,CA (ns.map V.int) (some (a:Int)) (some (b:Int))=cs.map V.int/\cs.length<=b-a:=by
 refine⟨(ns.drop (HT.lK ns.length 0 (some (a:Int)))).take (HT.lK ns.length ns.length (some (b:Int))-HT.lK ns.length 0 (some (a:Int))),?_,?_⟩
 ·unfold CA
  rw[ah,List.map_take,List.map_drop]
 ·rw[HT.Gg,HT.Gg,bQ,wK]
  lia
theorem Gk{α:Type}{xs:List α}{x y:α}{j:Nat}(h:(xs++[x])[j]?=some y):xs[j]?=some y∨(j=xs.length/\y=x):=by
 by_cases a:j<xs.length
 ·rw[bM a] at h
  exact .inl h
 ·have:=(ai.mp h).1
  rw[av] at this;have e:j=xs.length:=by have:j<xs.length+1:=this;lia
  subst e;rw[cu (ay _),iY] at h;cases h;exact .inr ⟨rfl,rfl⟩
theorem Qg{n i:Nat}(h:i<n):Wq n (i:Int)=some i:=by
 unfold Wq;rw[ee ∅,ee ∅];simp
section
variable{ns:List Int}{rs:List R5}{live:List Nat}{nd:ns.Nodup}{ok:∀r∈rs,r.Ok ns.length}{hl:∀k∈live,k<rs.length}
theorem ac4{k:Nat}(h:k<rs.length):(aV ns rs live nd ok hl).c k=rs[k].c:=by
 show ((rs[k]?).map λr=>r.c).getD 0=_;rw[aa h];rfl
end
end TW
namespace TW
open PySem L2 PyProof.Rows
theorem bI{a b:TS}{D:Ends}{d:L2.St}{H:Hp}(h:∀N:L2.St->Hp->Prop,(∀c e,b D c e->N c e)->a {D with nx:=N} d H):Td a b D d H:=h _ λ_ _ x=>x
theorem KI{K:af}{H:Hp}{Q:VK}{p:Addr}{xs:List V}{i:Int}{v:V}(h:bP K H p xs)(e:FG xs i=some v)(k:Q v H):Rv K (.ref p) (.int i) H Q:=⟨p,xs,i,v,rfl,rfl,h,e,k⟩
theorem WR{K:af}{a:L2.St}{H:Hp}{Q:VK}{p:Addr}{xs:List V}{i:Int}{v:V}(h:cQ K H p xs)(e:FG xs i=some v)(k:Q v H):tC (.int i) a H λy b=>Rx K (.ref p) y b Q:=⟨p,xs,i,v,rfl,rfl,h,e,k⟩
theorem oX{c:TT}{t u r:TS}{D:Ends}{a:L2.St}{H:Hp}(J:L2.St->Hp->Prop)(b:∀a H,J a H->r D a H)(h:∀N:L2.St->Hp->Prop,(∀a H,J a H->N a H)->Tf c t u {D with nx:=N} a H):Td (Tf c t u) r D a H:=h _ b
theorem BC{lo:Int}{n:Nat}{g:TG}{j:TS}{D:Ends}{a:L2.St}{H:Hp}(e:Nat->L2.St->Hp->Prop)(o:e 0 a H)
 (q:∀i a H (N:L2.St->Hp->Prop),(∀b c,e (i+1) b c->N b c)->i<n->e i a H->g (.int (lo+i)) a H λd f=>j {D with nx:=N,ct:=N,bk:=D.nx} d f) (k:∀a H,e n a H->D.nx a H) :
 ∃W:Nat->Nat->L2.St->Hp->Prop,(∃m,W 0 m a H)/\∀i m a H,W i m a H ->
  ((Ti lo n).stop i H/\D.nx a H)∨((Ti lo n).go i H/\∃N:L2.St->Hp->Prop,(∀b c,N b c->∃h,h<m/\W (i+1) h b c)/\∀x c,(Ti lo n).Kn i H x c->g x a c λd f=>j {D with nx:=N,ct:=N,bk:=D.nx} d f) :=
 Az e o (λi a H l p=>q i a H _ (λ_ _ x=>x) l p) k
theorem vO{K:af}{a:Addr}{xs:List V}{g:TG}{k:TS}{D:Ends}{b:L2.St}{H:Hp}(f:Nat->L2.St->Hp->Prop)(o:f 0 b H)(hl:∀i b H,i<=xs.length->f i b H->bP K H a xs)
 (q:∀i x b H (N:L2.St->Hp->Prop),(∀c d,f (i+1) c d->N c d)->xs[i]?=some x->f i b H->g x b H λe h=>k {D with nx:=N,ct:=N,bk:=D.nx} e h) (l:∀b H,f xs.length b H->D.nx b H) :
 ∃W:Nat->Nat->L2.St->Hp->Prop,(∃m,W 0 m b H)/\∀i m b H,W i m b H ->
  ((Ko K a).stop i H/\D.nx b H)∨((Ko K a).go i H/\∃N:L2.St->Hp->Prop,(∀c d,N c d->∃j,j<m/\W (i+1) j c d)/\∀x d,(Ko K a).Kn i H x d->g x b d λe h=>k {D with nx:=N,ct:=N,bk:=D.nx} e h) :=
 vL f o hl (λi x b H n p=>q i x b H _ (λ_ _ x=>x) n p) l
end TW
namespace TW
open PySem L2 PyProof.Rows
open RM (cR jV aZ aW)
seal L2.PE L2.PA L2.PT L2.PW L2.PS L2.iC L2.PG L2.kC L2.PI L2.kE
section
open Classical
noncomputable def zd(N:RM.Net)(R:Nat->RM.Row)(h:Nat):Option (Nat×Nat) :=
 if e:∃p:Nat×Nat,RM.om N R p.1 h p.2 then some (choose e) else none
end
theorem uf{N:RM.Net}{R:Nat->RM.Row}{h k g:Nat}:zd N R h=some (k,g)↔RM.om N R k h g:=by
 unfold zd;constructor
 ·intro e
  split at e
  ·rename_i q
   have:=Classical.choose_spec q
   rw[aK e] at this;exact this
  ·cases e
 ·intro t
  have q:∃p:Nat×Nat,RM.om N R p.1 h p.2:=⟨(k,g),t⟩;rw[dif_pos q];have u:=Classical.choose_spec q;obtain⟨a,b⟩:=u.uniq t;exact g7 some (Prod.ext a b)
theorem Mj{N:RM.Net}{R:Nat->RM.Row}{h:Nat}(q:∀k g,¬RM.om N R k h g):zd N R h=none:=by
 cases e:zd N R h with
 |none=>rfl
 |some p=>exact eL (uf.mp e) (q p.1 p.2)
def uM(K:af)(H:Hp)(v:V):Option (Nat×Nat)->Prop
 |none=>v=.fH
 |some p=>∃t,v=.ref t/\cQ K H t [.int (p.1:Nat),.int (p.2:Nat)]
theorem uM.mono{K:af}{H a:Hp}{v:V}{o:Option (Nat×Nat)}(s:aG H a)(h:uM K H v o):uM K a v o:=by
 cases o with
 |none=>exact h
 |some p =>
  obtain⟨t,e,q⟩:=h;exact⟨t,e,s.dB q⟩
theorem uM.lst{K:af}{H:Hp}{v:V}{o:Option (Nat×Nat)}{l:Addr}{xs:List V}{ob:HO}(hl:H l=some (.lst xs))(h:uM K H v o):uM K (upd H l ob) v o:=by
 cases o with
 |none=>exact h
 |some p =>
  obtain⟨t,e,q⟩:=h;exact⟨t,e,WM hl q⟩
def aan(K:af)(H:Hp)(l:Addr)(n:Nat)(u:Nat->Option (Nat×Nat)):Prop:=∃vs:List V,H l=some (.lst vs)/\vs.length=n/\∀(i:Nat) v,vs[i]?=some v->uM K H v (u i)
section
variable{ns:List Int}{rs:List R5}{live:List Nat}{nd:ns.Nodup}{ok:∀r∈rs,r.Ok ns.length}{hl:∀k∈live,k<rs.length}
theorem Ut{R:Nat->RM.Row}{k h:Nat}(a:k∈live):(∃g,RM.om (aV ns rs live nd ok hl) R k h g)↔isAt rs (h:Int) k=true/\(R (fR (rs[k]'(hl k a)) h)).ho+1<ns.length/\R h=RM.over (aV ns rs live nd ok hl) k (R (fR (rs[k]'(hl k a)) h)):=by
 constructor
 ·rintro⟨g,t⟩
  obtain⟨b,c⟩:=(ue a).mp t.AD;subst c;exact⟨b,t.cut,t.eq⟩
 ·rintro⟨b,c,d⟩
  exact⟨_,(ue a).mpr ⟨b,rfl⟩,c,d⟩
theorem aao{R:Nat->RM.Row}{k h g:Nat}(t:RM.om (aV ns rs live nd ok hl) R k h g):g=fR (rs[k]'(hl k t.AD.1)) h:=((ue t.AD.1).mp t.AD).2
theorem OF{k h:Nat}(a:k<rs.length)(ok:∀r∈rs,r.Ok ns.length):fR rs[k] h<ns.length:=by
 have o:=ok _ (aQ a);have c:=o.a0;have b:=o.a1;have d:=o.b0;have e:=o.b1;unfold fR;split <;> lia
theorem Qh{k h:Nat}(c:k<rs.length)(ok:∀r∈rs,r.Ok ns.length):(if (h:Int)=rs[k].a then rs[k].b else rs[k].a)=((fR rs[k] h:Nat):Int):=by
 have o:=ok _ (aQ c);have e:=o.a0;have d:=o.b0;unfold fR;split <;> lia
end
theorem agK{x y z i:Int}(lo a:Int)(d:lo<=x/\x<=a)(b:lo<=y/\y<=a)(c:lo<=z/\z<=a)(e:0<=i)(f:i<3):∃w,(lo<=w/\w<=a)/\FG [V.int x,V.int y,V.int z] i=some (.int w):=by
 have:i=0∨i=1∨i=2:=∅
 rcases this with rfl|rfl|rfl
 ·exact⟨x,d,rfl⟩
 ·exact⟨y,b,rfl⟩
 ·exact⟨z,c,rfl⟩
theorem WS(xs:List Nat):CD .fH (bR xs)=false:=by
 unfold CD;rw[Bool.eq_false_iff];intro h;obtain⟨x,a,e⟩:=wL.mp h;obtain⟨y,_,rfl⟩:=aL.mp a;cases e
end TW
namespace L2
open PySem PySem.Spec PyProof.Rows
theorem KJ{us:List Value}{ns:List Int}(h:IntsAre us ns):bZ (ns.map V.int) us:=by
 induction h with
 |nil=>exact .nil
 |cons n t _ a=>exact .cons ⟨t,rfl⟩ a
section
variable{X:Cx}
def WT(K:af):List V->Hp->VK->Prop:=λxs H Q=>∃(a:Addr) (ns:List Int),xs=[.ref a]/\bP K H a (ns.map V.int)/\ns.length<64/\∀l (ns':List Int),H l=none->ns'.Perm ns->ns'.Pairwise (·<=·)->Q (.ref l) (upd H l (.lst (ns'.map V.int)))
theorem EW:nX X (.builtin "sorted") (WT X.K):=by
 intro f s y H w z Q I r ⟨a,k,e,l,t,q⟩;subst e;obtain⟨u,e,i⟩:=bZ.one r;subst e;cases i;obtain⟨c,m,p,x⟩:=I.list l;have h:IntsAre c k:=intsAre_of m;have g:=IntsAre.length h;refine sorted_ints (vs:=c) p.isList h ∅ λout d v a2 n=>?_;obtain⟨e,j⟩:=sortedAll_at s.heap c out;refine⟨.ref (s.heap.objs.size+1),_,I.laid (a:=s.heap.objs.size+1) (o:=.lst (d.map V.int)) (t':=s.toks) (λb o e=>sortedAll_old e) (cV _) ⟨?_,out.toList,e,KJ v,?_⟩,rfl,q _ d (I.hok.fresh (cV _)) a2 n⟩
 ·rw[ah,a2.length_eq]
  exact kg (cS ∅)
 ·rw[j]
end
end L2
namespace TW
open PySem L2 PyProof.Rows
open RM (cR jV aZ aW)
seal L2.PE L2.PA L2.PT L2.PW L2.PS L2.iC L2.PG L2.kC L2.PI L2.kE
theorem JF:∀{xs b:List Nat},xs.Pairwise (·<·)->b.Pairwise (·<·)->(∀k,k∈xs↔k∈b)->xs=b
 |[],[],_,_,_=>rfl
 |[],y::b,_,_,h=>eL ((h y).mpr b9) (-_)
 |x::xs,[],_,_,h=>eL ((h x).mp b9) (-_)
 |x::xs,y::b,f,d,h=>by
  have c:=rZ.mp f;have a:=rZ.mp d;have e:x=y:=by
   rcases bf.mp ((h x).mp b9) with z|z
   ·exact z
   ·rcases bf.mp ((h y).mpr b9) with w|w
    ·exact w.symm
    ·have:=a.1 x z
     have:=c.1 y w
     lia
  subst e;rw[JF c.2 a.2 λk=>?_];constructor
  ·intro z
   rcases bf.mp ((h k).mp (bu _ z)) with w|w
   ·have:=c.1 k z;lia
   ·exact w
  ·intro z
   rcases bf.mp ((h k).mpr (bu _ z)) with w|w
   ·have:=a.1 k z;lia
   ·exact w
theorem om.lt{N:RM.Net}{R:Nat->RM.Row}{k h g:Nat}(t:RM.om N R k h g):h<N.n/\g<N.n:=⟨t.AD.lt.1,t.AD.lt.2.1⟩
def eU(N:RM.Net)(R:Nat->RM.Row)(os:List Nat):Prop:=os.Pairwise (·<·)/\∀k,k∈os↔∃h g,RM.om N R k h g
theorem eU.uniq{N:RM.Net}{R:Nat->RM.Row}{xs c:List Nat}(a:eU N R xs)(b:eU N R c):xs=c:=JF a.1 b.1 λk=>(a.2 k).trans (b.2 k).symm
theorem Ml{i:List Nat}{c:List Int}(p:c.Perm (i.map λk:Nat=>(k:Int)))(t:c.Pairwise (·<=·))(nd:i.Nodup):∃os:List Nat,c.map V.int=bR os/\os.Pairwise (·<·)/\(∀k,k∈os↔k∈i)/\os.length=i.length:=by
 have j:∀m∈c,∃k:Nat,m=(k:Int)/\k∈i:=λm d=>by
  obtain⟨k,f,e⟩:=aL.mp (p.mem_iff.mp d);exact⟨k,e.symm,f⟩
 have q:(c.map Int.toNat).map (λk:Nat=>(k:Int))=c:=by
  rw[dw]
  conv=>rhs;rw[<- List.map_id c]
  apply c6;intro m d;obtain⟨k,e,_⟩:=j m d;rw[e];rfl
 have l:c.Nodup:=by
  refine p.nodup_iff.mpr ?_;unfold List.Nodup;rw[List.pairwise_map];exact nd.imp λh e=>h ∅
 refine⟨c.map Int.toNat,?_,?_,λk=>?_,by rw[ah,p.length_eq,ah]⟩
 ·rw[jJ,q]
 ·rw[List.pairwise_map]
  have g:=List.pairwise_and_iff.mpr ⟨t,l⟩;refine List.Pairwise.imp_of_mem (λ{a b} r s h=>?_) g;obtain⟨x,u,_⟩:=j a r;obtain⟨y,n,_⟩:=j b s;have w:=h.1;have v:=h.2;lia
 ·constructor
  ·intro f
   obtain⟨m,d,e⟩:=aL.mp f;obtain⟨y,n,o⟩:=j m d;rw[n] at e
   have:y=k:=by rw[<- e];rfl
   exact this▸o
  ·intro f
   have:((k:Nat):Int)∈c:=p.mem_iff.mpr (aL.mpr ⟨k,f,rfl⟩)
   exact aL.mpr ⟨_,this,rfl⟩
end TW
namespace TW
open PySem L2 PyProof.Rows Gr
open RM (cR jV aZ aW)
section
variable{ns:List Int}{rs:List R5}{live:List Nat}{nd:ns.Nodup}{ok:∀r∈rs,r.Ok ns.length}{hl:∀k∈live,k<rs.length}
theorem Mm{R:Nat->RM.Row}{os:List Nat}(O:eU (aV ns rs live nd ok hl) R os):∀k∈os,k<rs.length:=λk a=>by
 obtain⟨h,g,t⟩:=(O.2 k).mp a;exact hl k t.AD.1
end
end TW
namespace L2
open PySem PySem.Calls PySem.Spec PyProof.Rows PyProof.V PySem.W
end L2
namespace Gr
end Gr
namespace TW
open PySem L2 PyProof.Rows Gr
end TW
namespace L2
open PySem PySem.Calls PySem.Spec PyProof.Rows PyProof.V PySem.W
end L2
namespace TW
open PySem L2 PyProof.Rows Gr
end TW
namespace TW
open PySem L2 PyProof.Rows
noncomputable def stand(b:List Bool):List Nat:=(aA b.length).filter λk=>b.getD k false
theorem RU{b:List Bool}{k:Nat}:k∈stand b↔b[k]?=some true:=by
 unfold stand;rw[bC,dm,az];constructor
 ·rintro⟨a,c⟩
  rw[aa a] at c ⊢
  simpa using c
 ·intro h
  have a:=(ai.mp h).1;exact⟨a,by rw[h];rfl⟩
theorem OG(b:List Bool):(stand b).Pairwise (·<·):=List.Pairwise.filter _ List.pairwise_lt_range
theorem Mn:∀{xs b:List Nat},xs.Pairwise (·<·)->b.Pairwise (·<·)->(∀k,k∈xs↔k∈b)->xs=b
 |[],[],_,_,_=>rfl
 |[],y::b,_,_,h=>eL ((h y).mpr (-_)) (-_)
 |x::xs,[],_,_,h=>eL ((h x).mp (-_)) (-_)
 |x::xs,y::b,d,c,h=>by
  rw[rZ] at d c;have e:x=y:=by
   have h1:=(h x).mp (-_);have h2:=(h y).mpr (-_);rw[bf] at h1 h2;rcases h1 with h1|h1
   ·exact h1
   ·rcases h2 with h2|h2
    ·exact h2.symm
    ·have:=d.1 _ h2
     have:=c.1 _ h1
     lia
  subst e;rw[Mn d.2 c.2 λk=>?_];constructor
  ·intro a
   rcases bf.mp ((h k).mp (bu _ a)) with rfl|z
   ·exact eL (d.1 _ a) (iZ _)
   ·exact z
  ·intro a
   rcases bf.mp ((h k).mpr (bu _ a)) with rfl|z
   ·exact eL (c.1 _ a) (iZ _)
   ·exact z
theorem OH(n:Nat):stand (k7 n true)=aA n:=by
 refine Mn (OG _) List.pairwise_lt_range λj=>?_;rw[RU,List.getElem?_replicate,dm];by_cases h:j<n
 ·simp[h]
 ·simp[h]
def Fit(rs:List R5)(bs:List (List Bool)):Prop:=bs.length=rs.length/\∀(i:Nat) r b,rs[i]?=some r->bs[i]?=some b->(b.length:Int)=r.d
structure Qi(C:Addr)(H:Hp)(p tp lu:Addr)(ws:List (List Nat)):Prop where
 ob:∃dx,H p=some (.ins C dx [("town",.ref tp),("upright",.ref lu)])
 up:∃ls:List Addr,H lu=some (.lst (ls.map V.ref))/\ls.length=ws.length/\∀(i:Nat) l w,ls[i]?=some l->ws[i]?=some w->H l=some (.lst (bR w))
section
variable{C:Addr}{H H':Hp}{p tp lu:Addr}{ws:List (List Nat)}
theorem c7.but{K:af}{C n j:Addr}{i:List (Str×V)}{tp e c:Addr}{ns:List Int}{rs:List R5}(h:c7 K C H tp e c ns rs)(k:∀b o,H b=some o->b≠p->H' b=some o)(a:H p=some (.ins n j i))(l:tp≠p):c7 K C H' tp e c ns rs:=by
 obtain⟨⟨d,m⟩,f,q,g,r⟩:=h;exact⟨⟨d,k _ _ m l⟩,k _ _ f (vK f a (by intro z;cases z)),q,k _ _ g (vK g a (by intro z;cases z)),jH k a r⟩
end
end TW
namespace L2
open PySem PySem.Spec PyProof.Rows
section
variable{X:Cx}
theorem RV(K:af)(e:X.K=K){a:Expr}{c:TE}(d:PE X a c)(f:∀b,isTrue a X.env b=(do let v <- b;standAt a.pos;holding [v] (truthy v))):PT X a (Uh K c):=by
 subst e;exact RQ d f
end
end L2
namespace TW
open PySem L2 PyProof.Rows
noncomputable def Qj(e:Int)(g:Nat):Bool:=decide (e/2^g%2=1)
theorem Uu{e z:Int}{g:Nat}(f:1<=e)(d:e<=7)(a:([1,2,4]:List Int)[g]?=some z):(!decide (Builtin.bitAnd e z=0))=Qj e g:=by
 have c:g=0∨g=1∨g=2:=by
  have:=(ai.mp a).1
  simp at this;lia
 have b:e=1∨e=2∨e=3∨e=4∨e=5∨e=6∨e=7:=∅
 rcases c with rfl|rfl|rfl <;> cases a <;> rcases b with rfl|rfl|rfl|rfl|rfl|rfl|rfl <;> decide +kernel
theorem agL{g:Nat}(h:g<3):∃z,([1,2,4]:List Int)[g]?=some z:=⟨_,aa (by simpa using h)⟩
noncomputable def isLive(rs:List R5)(ws:List (List Nat))(g i:Nat):Bool:=match rs[i]?,ws[i]? with|some r,some w=>(!w.isEmpty)&&Qj r.e g|_,_=>false
noncomputable def ze(rs:List R5)(ws:List (List Nat))(g n:Nat):List Nat:=(aA n).filter (isLive rs ws g)
theorem zf(rs:List R5)(a:List (List Nat))(g n:Nat):ze rs a g (n+1)=ze rs a g n++(if isLive rs a g n=true then [n] else []):=by
 unfold ze;rw[mF,fO];congr 1;by_cases h:isLive rs a g n=true
 ·rw[ee h,fj,ee h];rfl
 ·rw[er h,fj,er h];rfl
theorem OI(rs:List R5)(a:List (List Nat))(g n:Nat):(ze rs a g n).length<=n:=by
 have:=aX (isLive rs a g) (aA n)
 rw[bB] at this;exact this
end TW
namespace L2
open PySem PySem.Spec PyProof.Rows
structure YJ(K:af)(C:Addr)(m:Str)(f:Addr):Prop where
 hg:PySem.W.specialIn K (.ref C) "__getattribute__" = some (some (.builtin "type.__getattribute__"))
 hr:PySem.W.readsIn K C (.type "type")=true
 md:PySem.W.findCls K (.ref C) (.type "type") m=some (.val (.ref f))
 kp:dX K (.ref f)=true
section
variable{X:Cx}
theorem DN{e:Expr}{t u:TE}(d:PE X e t)(c:PE X e u):PE X e (λb H Q=>t b H Q∨u b H Q):=λa s b H Q I h=>h.elim (d a s b H Q I) (c a s b H Q I)
end
def ac5(C:Addr)(sp:Sp)(Bu:List V)(E:XK)(ta:TE)(t:TA):TE:=λσ H Q=>ta σ H λx H1=>x=.ref C/\t σ H1 λvs H2=>sp (vs++Bu) H2 Q E
section
variable{X:Cx}{CX:Rt}{k:Nat}{f C:Addr}{fd:FuncData}{ps:List Str}{sp:Sp}{Bu:List V}{ds:List Value}{E:XK}{x m:Str}{p pos apos:Pos}{e o:Expr}{es:List Expr}{ta:TE}{t:TA}
theorem OJ{pl:Sem Bool}(D:PE X o ta)(c:YJ X.K C m f)
 (F:cz X.prog X.w X.K X.mg X.base CX k f fd ps sp) (hr:jE k X.A) (G:Binds X.K fd ps ds) (J:bZ Bu ds) (N:sf CX X E) (B:PA X (e::es) t)
 (d:starEach (e::es) X.env=(false,eval e X.env)::starEach es X.env:=by rfl) (b:(backTo pos (starEach es X.env)).any (·.1)=false:=by rfl)
 (n:eval (.Call (.Attribute o m apos) (e::es) [] pos) X.env=(do
  let i <- eval o X.env
  standAt apos.atName
  let (f,first) <- holding [i] (getMethod i m pl)
  callWith pos f first (backTo pos (starEach (e::es) X.env)) (backToKw pos (keywordEach [] X.env))):=by rfl) :
 PE X (.Call (.Attribute o m apos) (e::es) [] pos) (ac5 C sp Bu E ta t):=by
 intro a s l H Q I h;refine PySem.W.methodCall_KW (pl:=pl) (gz (D a s l H _ I h) λu z ⟨x,L,g,p,y,q⟩=>?_) n;subst y;obtain rfl:u=Value.ref C:=p;refine PySem.W.method_cls g.Br c.hg (PySem.W.cls_value g.Br c.hr c.md rfl ?_);have M:=g.tok (z.toks+1);refine PySem.W.callWith_K (first:=[]) (h₀:=X.base) I.ok.mod.ZE c.kp (gz (B pos a _ l L _ M q) λus P ⟨vs,O,j,r,v⟩=>⟨j.Br,?_⟩) d b;exact Kr (us:=us) (vs:=vs) F hr G J N j r v
end
end L2
namespace TW
open PySem L2 PyProof.Rows
theorem EX{b:Bool}{A B:Prop}(e:b=false)(h:B):if b=true then A else B:=by subst e;exact eZ h
theorem Uv{b:Bool}{A B:Prop}(e:b=true)(h:A):if b=true then A else B:=by subst e;exact gB h
inductive EY(cL c1 cA:Addr)(H:Hp)(a:Addr)(s to:Int):Int->Prop
 |bare (dx:Addr) (h:H a=some (.ins cL dx [("sender",.int s)])):EY cL c1 cA H a s to 0
 |one (dx:Addr) (h:H a=some (.ins c1 dx [("sender",.int s),("to",.int to)])):EY cL c1 cA H a s to 1
 |all (dx:Addr) (h:H a=some (.ins cA dx [("sender",.int s)])):EY cL c1 cA H a s to 2
section
variable{cL c1 cA:Addr}{H H':Hp}{a lh q:Addr}{s to k:Int}{xs:List V}
theorem EY.mono(h:EY cL c1 cA H a s to k)(e:aG H H'):EY cL c1 cA H' a s to k:=by
 cases h with
 |bare b h=>exact .bare b (e _ _ h)
 |one b h=>exact .one b (e _ _ h)
 |all b h=>exact .all b (e _ _ h)
end
end TW
namespace L2
open PySem PySem.W PyProof.Rows
section
variable{n:Nat}{r:Nat->Int}{cmp:Nat->Nat->(Bool->Shared->Prop)->Shared->Prop}{s:Shared}
variable(hc:∀i j C,i<n->j<n->C (decide (r i<r j)) s->cmp i j C s)
include hc
end
end L2
namespace L2
open PySem PySem.W PySem.Spec PyProof.Rows
abbrev T3:=Int×Int×Int
noncomputable def CI(x y:T3):Bool:=decide (x.1<y.1) || (decide (x.1=y.1)&&(decide (x.2.1<y.2.1) || (decide (x.2.1=y.2.1)&&decide (x.2.2<y.2.2))))
theorem wX{x y:T3}:CI x y=true↔x.1<y.1∨(x.1=y.1/\(x.2.1<y.2.1∨(x.2.1=y.2.1/\x.2.2<y.2.2))):=by
 unfold CI;simp[Bool.or_eq_true,c9]
theorem RW{x y z:T3}(a:CI x y=true)(b:CI y z=true):CI x z=true:=by
 rw[wX] at *;lia
theorem WU(x:T3):CI x x=false:=by
 rw[Bool.eq_false_iff];intro z;rw[wX] at z;lia
theorem le3{x y z:T3}(a:CI x y=false)(b:CI z y=true):CI z x=true:=by
 have c:¬CI x y=true:=by rw[a];exact aF
 rw[wX] at *;lia
noncomputable def EZ(ts:List T3)(x:T3):Int:=((ts.filter λz=>CI z x).length:Nat)
theorem filter_le{α:Type}{p q:α->Bool}:∀{l:List α},(∀z,p z=true->q z=true)->(l.filter p).length<=(l.filter q).length
 |[],_=>ay _
 |a::l,h=>by
  have c:=filter_le (l:=l) h;rw[fj,fj];by_cases b:p a=true
  ·rw[ee b,ee (h a b),bx,bx];lia
  ·rw[er b]
   split
   ·rw[bx];lia
   ·exact c
theorem filter_lt{α:Type}{p q:α->Bool}{x:α}:∀{l:List α},(∀z,p z=true->q z=true)->x∈l->p x=false->q x=true->(l.filter p).length<(l.filter q).length
 |a::l,h,hx,d,c=>by
  rw[fj,fj];rcases bf.mp hx with rfl|hx
  ·rw[er (by rw[d];exact aF),ee c,bx]
   have:=filter_le (l:=l) h
   lia
  ·have e:=filter_lt h hx d c
   by_cases b:p a=true
   ·rw[ee b,ee (h a b),bx,bx];lia
   ·rw[er b]
    split
    ·rw[bx];lia
    ·exact e
theorem Mp{ts:List T3}{x y:T3}(b:x∈ts):decide (EZ ts x<EZ ts y)=CI x y:=by
 unfold EZ;cases e:CI x y with
 |true =>
  refine fy ?_
  have:=filter_lt (l:=ts) (p:=λz=>CI z x) (q:=λz=>CI z y) (x:=x) (λz a=>RW a e) b (WU x) e
  lia
 |false =>
  refine gU ?_
  have:=filter_le (l:=ts) (p:=λz=>CI z y) (q:=λz=>CI z x) (λz a=>le3 e a)
  lia
noncomputable abbrev HP(x:T3):List V:=[.int x.1,.int x.2.1,.int x.2.2]
def NQ(h:Heap)(v:Value)(x:T3):Prop:=∃(q:Addr) (o:Obj) (n:Nat) (t1 t2 t3:Tok),v=.ref q/\h.get? q=some o/\o.cls=.type "tuple" /\ o.data=.seq #[.int x.1 t1,.int x.2.1 t2,.int x.2.2 t3] n
section
variable{prog:Program}{w:World}{A:Around}{s:Shared}
theorem aap{E:Value->Shared->Prop}{u v:Value}{x y:T3}{C:Bool->Shared->Prop}(f:NQ s.heap u x)(g:NQ s.heap v y)(k:C (CI x y) s):wpAny (model prog w) A (keyLt' (tuples' true) u v) C E s:=by
 obtain⟨p,o,n,H,B,F,rfl,l,G,h⟩:=f;obtain⟨q,m,r,t,D,J,rfl,j,I,i⟩:=g;refine kat_lt l h j i ?_;refine kat_cons (wpAny_eqBool_int (kat_go (λa=>kat_yes ?_) λa=>kat_no (oneLt_int ?_)))
 case refine_2 =>
  have d:¬x.1=y.1:=by simpa using a
  have e:CI x y=decide (x.1<y.1):=by unfold CI;rw[gU d];simp
  rw[<- e];exact k
 have a:x.1=y.1:=by simpa using a
 refine kat_cons (wpAny_eqBool_int (kat_go (λb=>kat_yes ?_) λb=>kat_no (kat_one _ _ (lt_int ?_))))
 case refine_2 =>
  have d:¬x.2.1=y.2.1:=by simpa using b
  have e:CI x y=decide (x.2.1<y.2.1):=by rw[iB,wX,decide_eq_true_eq];lia
  rw[<- e];exact k
 have b:x.2.1=y.2.1:=by simpa using b
 refine kat_cons (wpAny_eqBool_int (kat_go (λc=>kat_yes (kat_nil ?_)) λc=>kat_no (kat_one _ _ (lt_int ?_))))
 ·have c:x.2.2=y.2.2:=by simpa using c
  have e:CI x y=false:=by
   rw[Bool.eq_false_iff];intro z;rw[wX] at z;lia
  rw[e] at k;exact k
 ·have e:CI x y=decide (x.2.2<y.2.2):=by rw[iB,wX,decide_eq_true_eq];lia
  rw[<- e];exact k
theorem GN{h:Heap}:∀{vs:List Value} {ts:List T3},vs.length=ts.length->(∀(i:Nat) v x,vs[i]?=some v->ts[i]?=some x->NQ h v x)->∃d,KatTups h vs d/\d.length=vs.length/\∀f∈d,∃i t,f=Value.int i t
 |[],[],_,_=>⟨[],trivial,rfl,λ_ hf=>eL hf (-_)⟩
 |v::vs,x::ts,hl,h=>by
  obtain⟨d,a,b,c⟩:=GN (vs:=vs) (ts:=ts) (by simpa using hl) λi v x j g=>h (i+1) v x (by simpa using j) (by simpa using g);obtain⟨q,o,n,l,p,r,rfl,m,k,e⟩:=h 0 v x rfl rfl;refine⟨.int x.1 l::d,KatTups.cons m k e rfl a,by simp[b],λf hf=>?_⟩;rcases bf.mp hf with rfl|hf
  ·exact⟨_,_,rfl⟩
  ·exact c f hf
end
section
variable{prog:Program}{w:World}{A:Around}{s:Shared}{E:Value->Shared->Prop}
theorem Uw{d:Addr}{v:Value}{c:Nat}{P:PySem.Fin->Shared->Prop}(b:s.heap.get? d=some (seqObj "list" [v].toArray c))(k:P (.done (.ret .none)) {s with heap:=sortedHeap s.heap d [v] #[v]}) :
 wpAny (model prog w) A (Builtin.«list.sort» ⟨[.ref d],[]⟩) P E s:=by
 have j:d<s.heap.objs.size:=Heap.lt_size b;rw[list_sort_plain];refine wpAny_bind (listItems_at b rfl (wpAny_bind (listUpdate_at b rfl ?_)));have a:∃e,(s.heap.update d (Obj.mapSeq λ_=>#[])).get? d=some (seqObj "list" #[] e):=⟨_,get?_update_seq b (λ_=>#[])⟩;obtain⟨e,a⟩:=a;refine wpAny_bind (seqEpoch_at a rfl (wpAny_bind (wpAny_newTuple (wpAny_bind (wpAny_newList (wpAny_holding ?_))))));have i:(s.heap.update d (Obj.mapSeq λ_=>#[])).objs.size=s.heap.objs.size:=Heap.size_update _ _ _;have g:(((s.heap.update d (Obj.mapSeq λ_=>#[])).push (seqObj "tuple" [v].toArray 0)).push (seqObj "list" #[] 0)).get? d=some (seqObj "list" #[] e) :=
  Heap.get?_push_of_some _ (Heap.get?_push_of_some _ a)
 show wpAny (model prog w) A _ P E {s with heap:=((s.heap.update d (Obj.mapSeq λ_=>#[])).push (seqObj "tuple" [v].toArray 0)).push (seqObj "list" #[] 0)};have f:[v].toArray.size<2:=-_
 have h:(arrOf (SortSt.mk' general' (#[v].zip #[v]) #[] 7 none)).map (·.2)=#[v]:=by
  show (#[v].zip #[v]).map (·.2)=#[v];simp
 dsimp only;rw[ee f,ee f];refine wpAny_bind (wpAny_pure ?_);rw[StateT.run_pure];refine wpAny_bind (wpAny_pure (wpAny_bind (seqEpoch_at g rfl (wpAny_bind (listUpdate_at g rfl ?_ (hsz2:=?_))))))
 ·simp only[bne_self_eq_false,mq,if_false]
  refine wpAny_pure ?_;rw[h];exact k
 ·show ((arrOf (SortSt.mk' general' (#[v].zip #[v]) #[] 7 none)).map (·.2)).size<=sizeLine+1
  rw[h];show 1<=sizeLine+1;exact Nat.le_add_left _ _
theorem OL{l:Addr}{v:Value}{Q:Value->Shared->Prop}(hl:s.heap.IsList l [v].toArray)(k:Q (.ref (s.heap.objs.size+1)) {s with heap:=sortedAll s.heap [v] #[v]}):wpAny (model prog w) A (call (.builtin "sorted") [.ref l]) Q E s:=by
 refine Calls.call_function_entry kind_sorted plain_sorted entry_sorted (args_sorted1 _) ?_;unfold Builtin.«sorted»;refine wpAny_bind (m:=checkCount "sorted" 1 1 _) (wpAny_pure (wpAny_bind (collect_list hl (wpAny_bind (wpAny_newList ?_)))));have a:((s.heap.push (seqObj "list" #[] 0)).update s.heap.objs.size (Obj.mapSeq (·++[v].toArray))).objs.size=s.heap.objs.size+1:=(Heap.size_update _ _ _).trans (size_push' _ _);have b:(((s.heap.push (seqObj "list" #[] 0)).update s.heap.objs.size (Obj.mapSeq (·++[v].toArray))).push (seqObj "list" [v].toArray 0)).get? (s.heap.objs.size+1)=some (seqObj "list" [v].toArray 0):=a▸Heap.get?_push_size _ rfl;show wpAny _ _ _ _ _ {s with heap:=((s.heap.push (seqObj "list" #[] 0)).update s.heap.objs.size (Obj.mapSeq (·++[v].toArray))).push (seqObj "list" [v].toArray 0)};rw[a];exact wpAny_bind (wpAny_holding (wpAny_call_entry slot_list_sort ⟨_,b,rfl⟩ entry_list_sort (Uw b ⟨_,rfl,wpAny_pure ⟨_,rfl,k⟩⟩) (args_list_sort _)))
end
def fT(K:af)(H:Hp)(qs:List Addr)(ts:List T3):Prop:=qs.length=ts.length/\∀(i:Nat) q t,qs[i]?=some q->ts[i]?=some t->cQ K H q (HP t)
theorem fT.mono{K:af}{H c:Hp}{qs:List Addr}{ts:List T3}(s:aG H c)(h:fT K H qs ts):fT K c qs ts:=⟨h.1,λi q t a b=>s.dB (h.2 i q t a b)⟩
def AG(ts:List T3):Prop:=∀(i j:Nat) (x y:T3),i<j->ts[i]?=some x->ts[j]?=some y->CI y x=false
section
variable{X:Cx}
theorem Qk:∀{qs:List Addr} {a:List Value},bZ (qs.map V.ref) a->a=qs.map Value.ref
 |[],_,r=>by cases r;rfl
 |q::qs,_,r=>by
  cases r with
  |cons h t =>
   have h:_=Value.ref q:=h;rw[h,Qk t];rfl
theorem DO:∀qs:List Addr,bZ (qs.map V.ref) (qs.map Value.ref)
 |[]=>.nil
 |q::qs=>.cons rfl (DO qs)
end
section
variable{X:Cx}{pins:List (Addr×Obj)}{σ:St}{H:Hp}{s:Shared}
theorem Inv.agM{d:Addr}{o:Obj}{u:HO}(I:Inv X pins σ H s)(t:H d=some (.Ax o u))(E:∀f h,X.H₀ d≠some (.Ax f h)):Inv X pins σ (upd H d u) s:=by
 have m:∀b v,H b=some v->(∀f h,v≠.Ax f h)->b≠d:=λb v e B z=>by
  rw[z,t] at e;cases e;exact B _ _ rfl
 have j:∀b,H b=none->(upd H d u) b=none:=λb e=>by
  rw[aH (λz=>by rw[z,t] at e;cases e)];exact e
 have A:∀b y,H b=some (.own y)->(upd H d u) b=some (.own y):=λb y e=>by rw[aH (m b _ e (by intro _ _ z;cases z))];exact e
 have l:∀b g,H b=some (.tup g)->(upd H d u) b=some (.tup g):=λb g e=>by rw[aH (m b _ e (by intro _ _ z;cases z))];exact e
 refine⟨I.ok,I.os,I.bare,⟨I.base.keep,I.base.slot,λb f e n F=>j b (I.base.free b f e n F),I.base.there,λb g e=>l b g (I.base.tups b g e),λb f h e=>?_,λb D e=>?_⟩,I.loc,I.cell,j _ I.free,λx c e=>j c (I.ua x c e),λp C=>?_,λb v e=>?_,I.len⟩
 ·have k:=I.base.AV b f h e
  rw[aH (λz=>E f h (by rw[<- z];exact e))];exact k
 ·obtain⟨i,k⟩:=I.base.Cq b D e
  exact⟨i,by rw[aH (m b _ k (by intro _ _ z;cases z))];exact k⟩
 ·obtain⟨a,b,c⟩:=I.pin p C
  exact⟨a,j _ b,c⟩
 ·by_cases w:b=d
  ·subst w
   rw[au] at e;cases e;obtain⟨_,q⟩:=I.hok b _ t;exact q.stay (λc v _ r=>r) (λc r=>A c _ r) l
  ·rw[aH w] at e
   exact (I.hok b v e).stay (λc v _ r=>r) (λc r=>A c _ r) l
def ac6(t:TE):TE:=λσ H Q=>∃d kvs,H d=some (.dT kvs)/\t σ H λv H1=>∃o,H1 d=some (.Ax o (.dT kvs))/\Q v (upd H1 d (.dT kvs))
theorem WV{e:Expr}{t:TE}(h:PE X e t):PE X e (ac6 t):=by
 intro pins s σ H Q I ⟨d,j,f,q⟩;refine gz (h pins s σ H _ I q) λv l ⟨x,m,i,k,o,c,b⟩=>⟨x,_,i.agM c (λa g z=>?_),k,b⟩
 have:=I.base.AV d a g z
 rw[f] at this;cases this
end
section
variable{prog:Program}{w:World}{A:Around}{E:Value->Shared->Prop}{s:Shared}{d v it:Addr}{od:Obj}{es:Array DictEntry}{ep:Nat}
theorem OM{Q:Value->Shared->Prop}(lo:(d==sysModules)=false)(c:s.heap.get? d=some od)(b:od.ExactDict)(e:od.data=.dict es ep)
 (k:Q (.ref s.heap.objs.size) {s with heap:=s.heap.push {cls:=.type "dict_items",data:=.fields #[.ref d]}}):wpAny (model prog w) A (call (.builtin "dict.items") [.ref d]) Q E s:=by
 have a:s.TypeIs (.ref d) "dict" := ⟨od,c,b.1⟩;refine wpAny_call_entry F.slot_dict_items a F.entry_dict_items ?_ (F.args_dict_items_1 _);unfold Builtin.«dict.items» Builtin.Dict.noArgs Builtin.Dict.showsAll;refine wpAny_bind (wpAny_bind (wpAny_notOrdered_dict a (wpAny_pure ?_)));rw[er (by rw[lo];exact aF)];exact wpAny_bind (wpAny_pure (wpAny_bind (wpAny_newObj_type (wpAny_pure ⟨_,rfl,k⟩))))
theorem ON{Q:Value->Shared->Prop}(a:s.heap.IsItemsView v d)(b:s.heap.get? d=some od)(c:od.data=.dict es ep)
 (k:Q (.ref s.heap.objs.size) {s with heap:=s.heap.push {cls:=.type "dict_itemiterator",data:=.fields #[.none,.bool false,.ref d,.int 0 0,.int es.size 0,.int ep 0,.none,.none]}}):wpAny (model prog w) A (pyIter (.ref v)) Q E s:=by
 obtain⟨h,f,g,e⟩:=id a;have own:Builtin.Dict_items.ownsTuple "dict_itemiterator" = true:=!_
 refine wpAny_pyIter_slot a.typeIs F.slot_dict_items_iter (wpAny_call_entry F.slot_dict_items_iter a.typeIs F.entry_dict_items_iter ?_ (F.args_dict_items_iter_1 _));unfold Builtin.«dict_items.__iter__» Builtin.Dict_items.dictOf Builtin.Dict_items.newIterator;refine wpAny_bind (wpAny_pure (wpAny_bind (wpAny_bind (wpAny_field f e (x:=.ref d) rfl (wpAny_pure (wpAny_bind (wpAny_bind (wpAny_dictEntries b c (wpAny_bind (wpAny_dictEpoch b c ?_))))))))));simp only[own,if_true];refine wpAny_newObj_type (wpAny_pure ⟨_,rfl,"dict_itemiterator",_,⟨_,Heap.get?_push_size _ rfl,rfl⟩,F.slot_dict_itemiterator_next.lookup,?_⟩) ?_
 ·simpa [rawInt,Builtin.Dict_items.ownedTupleFields] using k
 ·simp[sizeOk,Builtin.Dict_items.ownedTupleFields,sizeLine_eq]
theorem OO{i:Nat}{a:DictEntry}{ok r:Value}{Q:Option Value->Shared->Prop}(v:IsItemIter s.heap it d i es.size ep ok r)(X:s.heap.get? d=some od)(h3:od.data=.dict es ep)(V:es[i]?=some a)
 (k:∀h',IsItemIterOut h' it d (i+1) es.size ep a.key a.val s.heap.objs.size->h'.get? s.heap.objs.size=some {cls:=.type "tuple",data:=.seq #[a.key,a.val]}->h'.objs.size=s.heap.objs.size+1 ->
  (∀b o,b≠it->s.heap.get? b=some o->h'.get? b=some o)->Q (some (.ref s.heap.objs.size)) {s with heap:=h'}):wpAny (model prog w) A (pyNext (.ref it)) Q E s:=by
 obtain⟨h,g,p,m,os⟩:=s;have u:Shared.TypeIs ⟨h,g,p,m,os⟩ (.ref it) "dict_itemiterator" := ⟨_,v,rfl⟩;have own:Builtin.Dict_items.ownsTuple "dict_itemiterator" = true:=!_
 obtain⟨hlt,hen⟩:=gh.mp V;unfold pyNext;refine wpAny_bind (wpAny_attempt (wpAny_callSpecial?_slot (name:=Str.ofString "__next__") u F.slot_dict_itemiterator_next (wpAny_call_entry F.slot_dict_itemiterator_next u F.entry_dict_itemiterator_next ?_ (F.args_dict_itemiterator_next_1 _))));refine wpAny_bind (wpAny_pure (wpAny_bind (wpAny_bind (wpAny_bind (wpAny_typeNameOfWhole_itemiter u (wpAny_pure (wpAny_bind (wpAny_fieldsOf v rfl ?_))))))));simp only[own,if_true];have nn:¬(Value.ref d==Value.none)=true:=aF;have D:¬(i:Int)<0:=∅
 show wpAny (model prog w) A.in1 (if (Value.ref d==Value.none)=true then _ else _) _ _ _;rw[er nn];refine wpAny_bind (wpAny_pure (wpAny_bind (wpAny_dictEntries X h3 ?_)));rw[er (-_)];refine wpAny_bind (wpAny_pure (wpAny_bind (wpAny_dictEpoch X h3 ?_)));rw[er (-_)];refine wpAny_pure ?_;simp only[D,if_false,cy,V];refine wpAny_bind (wpAny_bind (wpAny_typeNameOfWhole_itemiter u (wpAny_pure (wpAny_bind (wpAny_isOneOf_itemiter u ?_)))));have t0:(rawInt ((i:Int)+1))=Value.int ((i+1:Nat):Int) 0:=by
  show Value.int ((i:Int)+1) 0=_;rw[show ((i+1:Nat):Int)=(i:Int)+1 by lia]
 show wpAny _ _ (setField (.ref it) 3 (rawInt ((i:Int)+1)) >>= _) _ _ ⟨h,g,p,m,os⟩;rw[t0];refine wpAny_bind (wpAny_setField_rec v (-_) λj z e=>wpAny_bind (wpAny_holding ?_));have z:IsItemIter j it d (i+1) es.size ep ok r:=z;have e:Heap.SameBut it h j:=e;have t:Shared.TypeIs ⟨j,g,p,m,os⟩ (.ref it) "dict_itemiterator" := ⟨_,z,rfl⟩;have K:j.objs.size=h.objs.size:=e.1;have I:it<h.objs.size:=Heap.lt_size v;refine wpAny_bind (wpAny_isOneOf_itemiter t (wpAny_bind (wpAny_isOneOf_itemiter t ?_)));show wpAny _ _ (Builtin.Dict_items.pairFromOwner (.ref it) 6 a.key a.val) _ _ ⟨j,g,p,m,os⟩;unfold Builtin.Dict_items.pairFromOwner;refine wpAny_bind (wpAny_newTuple ?_);obtain⟨f,l⟩:∃f,j.push {cls:=.type "tuple",data:=.seq #[a.key,a.val]}=f:=⟨_,rfl⟩;have y:IsItemIter f it d (i+1) es.size ep ok r:=l▸Heap.get?_push_of_some _ z;have J:f.get? h.objs.size=some {cls:=.type "tuple",data:=.seq #[a.key,a.val]}:=by
  rw[<- l,<- K];exact Heap.get?_push_size _ rfl
 have z5:f.objs.size=h.objs.size+1:=by rw[<- l,Heap.size_push,K]
 have k5:∀b o,b≠it->h.get? b=some o->f.get? b=some o:=λb o c q=>l▸Heap.get?_push_of_some _ (e.extBut b o c q);show wpAny _ _ (Builtin.Dict_items.ownedTupleIsFree (.ref it) >>= _) _ _ ⟨j.push {cls:=.type "tuple",data:=.seq #[a.key,a.val]},g,p,m,os⟩;rw[l,K];unfold Builtin.Dict_items.ownedTupleIsFree;refine wpAny_bind (wpAny_bind (wpAny_field y rfl (x:=.none) rfl (wpAny_pure ?_)));simp only[if_true];refine wpAny_bind (wpAny_field y rfl (x:=ok) rfl (wpAny_bind (wpAny_field y rfl (x:=r) rfl ?_)));refine wpAny_bind (wpAny_setField_rec y (-_) λC H R=>?_);have H:IsItemIter C it d (i+1) es.size ep a.key r:=H;refine wpAny_bind (wpAny_setField_rec H (-_) λB L G=>?_);have L:IsItemIter B it d (i+1) es.size ep a.key a.val:=L;refine wpAny_bind (wpAny_setField_rec L (-_) λM S O=>?_);have S:IsItemIterOut M it d (i+1) es.size ep a.key a.val h.objs.size:=S;refine wpAny_bind (wpAny_setField_rec S (-_) λn N P=>?_);have N:IsItemIterOut n it d (i+1) es.size ep a.key a.val h.objs.size:=N;have W:Heap.SameBut it f C:=R;have U:Heap.SameBut it C B:=G;have T:Heap.SameBut it B M:=O;have Y:Heap.SameBut it M n:=P;have Z:∀b o,b≠it->f.get? b=some o->n.get? b=some o:=λb o c q=>Y.extBut b o c (T.extBut b o c (U.extBut b o c (W.extBut b o c q)));refine wpAny_bind (wpAny_letGo (wpAny_pure (wpAny_pure ⟨_,rfl,wpAny_pure (k n N (Z _ _ (Nat.ne_of_gt I) J) ?_ λb o c q=>Z b o c (k5 b o c q))⟩)));show n.objs.size=h.objs.size+1;rw[Y.1,T.1,U.1,W.1,z5]
theorem RX{i:Nat}{ok l:Value}{Q:Option Value->Shared->Prop}(j:A.handled=none)(f:IsItemIter s.heap it d i es.size ep ok l)(g:s.heap.get? d=some od)(h:od.data=.dict es ep)(o:es.size<=i)
 (k:∀h',Heap.ExtBut it s.heap h'->Q none {s with heap:=h'}):wpAny (model prog w) A (pyNext (.ref it)) Q E s:=by
 have c:s.TypeIs (.ref it) "dict_itemiterator" := ⟨_,f,rfl⟩;have own:Builtin.Dict_items.ownsTuple "dict_itemiterator" = true:=!_
 have n:¬(Value.ref d==Value.none)=true:=aF;have e:¬(i:Int)<0:=∅
 unfold pyNext;refine wpAny_bind (wpAny_attempt (wpAny_callSpecial?_slot (name:=Str.ofString "__next__") c F.slot_dict_itemiterator_next (wpAny_call_entry F.slot_dict_itemiterator_next c F.entry_dict_itemiterator_next ?_ (F.args_dict_itemiterator_next_1 _))));refine wpAny_bind (wpAny_pure (wpAny_bind (wpAny_bind (wpAny_bind (wpAny_typeNameOfWhole_itemiter c (wpAny_pure (wpAny_bind (wpAny_fieldsOf f rfl ?_))))))));simp only[own,if_true];show wpAny (model prog w) A.in1 (if (Value.ref d==Value.none)=true then _ else _) _ _ _;rw[er n];refine wpAny_bind (wpAny_pure (wpAny_bind (wpAny_dictEntries g h ?_)));rw[er (-_)];refine wpAny_bind (wpAny_pure (wpAny_bind (wpAny_dictEpoch g h ?_)));rw[er (-_)];refine wpAny_pure ?_;simp only[e,if_false,cy,Array.getElem?_eq_none o];refine wpAny_bind (wpAny_bind (wpAny_typeNameOfWhole_itemiter c (wpAny_pure ?_)));show wpAny _ _ (setField (.ref it) 2 .none >>= _) _ _ s;refine wpAny_bind (wpAny_setField f rfl (-_) ?_);unfold newExc newTuple raiseNew;refine wpAny_bind (wpAny_bind (wpAny_newObj_type (wpAny_bind (m:=firstArgMember _ _) (wpAny_of_eq (a:=Value.none) rfl (wpAny_newObj_type (wpAny_bind (wpAny_handled ?_)) (by size_fits)))) (by size_fits)));rw[show A.in1.handled=none from j];refine wpAny_bind (wpAny_pure (wpAny_throw ?_));refine wpAny_bind ?_;refine wpAny_isInstance (T:="StopIteration") (b:=true) ⟨_,Heap.get?_push_size _ rfl,rfl⟩ isSubtype_stop ?_;have up:=(Heap.SameBut.update s.heap it (Obj.mapFields λx=>x.setIfInBounds 2 Value.none)).extBut;exact wpAny_pure (k _ ((up.push _).push _))
end
noncomputable def GO(v d:Addr):HO:=.ext λh=>h.IsItemsView v d
section
variable{X:Cx}
def aaq:V->List V->Hp->VK->Prop:=λx vs H Q=>∃d kvs,x=.ref d/\vs=[]/\H d=some (.dT kvs)/\∀v,H v=none->Q (.ref v) (upd H v (GO v d))
theorem Ux:MtR X "dict.items" aaq:=by
 intro f s J H x F v K Q I i r h;obtain⟨d,c,rfl,rfl,l,q⟩:=h;cases i;have j:=r.zero;subst j;obtain⟨z,lo,C,m,o,E,B,p,n,y,_⟩:=(show fP X.prog X.w H s.heap d (.dT c) from I.hok d _ l);refine OM lo p n y ⟨.ref s.heap.objs.size,_,I.laid (a:=s.heap.objs.size) (o:=GO s.heap.objs.size d) (t':=s.toks) (λb o e=>Heap.get?_push_of_some _ e) (ay _) ⟨⟨_,Heap.get?_push_size _ rfl,rfl,rfl⟩,⟨_,Heap.get?_push_size _ rfl⟩,λG D ⟨g,A,u,t⟩ k=>⟨g,k _ A,u,t⟩⟩,rfl,q _ (I.hok.fresh (ay _))⟩
noncomputable def Xg(d:Addr)(o:Obj)(kvs:List (List Key×V)):It :=
 ⟨λi H=>H d=some (.Ax o (.dT kvs))/\i<kvs.length,
  λi H x H'=>∃p kb k v,H p=none/\x=.ref p/\H'=upd H p (.tup [.ref kb,v])/\kvs[i]?=some (k,v)/\H kb=some (.tup (k.map kV)),
  λi H=>H d=some (.Ax o (.dT kvs))/\kvs.length<=i⟩
theorem BD{α β:Type}{F:α->β->Prop}:∀{l₁:List α} {l₂:List β},Paired F l₁ l₂->∀{i:Nat} {a:α},l₁[i]?=some a->∃b,l₂[i]?=some b/\F a b
 |_,_,.cons h t,0,a,e=>by cases e;exact⟨_,rfl,h⟩
 |_,_,.cons h t,i+1,a,e=>BD t (by simpa using e)
theorem OP{P:Program}{w:World}{K:af}{D:List Expr}{x1}{pos:Pos}(d g:Addr){o:Obj}{O:Array DictEntry}{ep:Nat}{kvs:List (List Key×V)}(Q:o.data=.dict O ep) :
 Turn P w K (.Tuple D x1 pos) (Xg d o kvs) [g] g (λi h=>∃ok A,IsItemIter h g d i O.size ep ok A) where
 mem:=-_
 obj:=λi h ⟨ok,A,st⟩ b a=>by
  have e:b=g:=by simpa using a
  subst e;exact⟨_,st,λv z=>by
   have z':Data.fields _=Data.cell v:=z;cases z'⟩
 keep:=λi h h' ⟨ok,A,st⟩ k=>⟨ok,A,k g (-_) _ st⟩
 item:=by
  intro X Y hw hK j i l s σ H E I W ⟨ok,A,st⟩ hg;subst Y hw hK;obtain⟨e,B⟩:=hg;obtain⟨F,z,lo,xs,p,o',es',ep',C,g3,G,T,g6⟩:=(show fP X.prog X.w H s.heap d (.Ax o (.dT kvs)) from I.hok d _ e);rw[F] at C;cases C;rw[Q] at G;cases G;obtain⟨N,R,f2,Z,f4,f5⟩:=W g (-_);obtain⟨⟨k2,M,u⟩,hx,hk1,U,YK⟩:=BD p (aa B);have he:O[i]?=some (entryOfKey (tupleKind (ie X.prog X.w)) (k2,M,u)):=by
   rw[<- dR,T,aj,hx];rfl
  refine OO st F Q he λh' io tu sz kp=>⟨_,rfl,wpAny_letOwnedTupleGo_items io λS e2 L=>?_⟩;have f:H s.heap.objs.size=none:=I.hok.fresh (ay _);have lt:g<s.heap.objs.size:=Heap.lt_size st;have x:∀b q,b≠g->s.heap.get? b=some q->S.get? b=some q:=λb q a r=>(L.2 b a).trans (kp b q a r);have J:∀b q,H b=some q->b≠g:=λb q r z=>by rw[z,N] at r;cases r
  have tu2:S.get? s.heap.objs.size=some {cls:=.type "tuple",data:=.seq #[.ref M,u]}:=(L.2 _ (Nat.ne_of_gt lt)).trans tu;have I1:Inv X l σ (upd H s.heap.objs.size (.tup [.ref M,kvs[i].2])) {s with heap:=S,toks:=s.toks}:=by
   refine I.step (g':=s.gens) (d':=s.drawn) (ch:=[g]) (λb a=>?_) (λb q _ _ j r _=>x b q (λz=>j (by simp[z])) r) (λb q _ _ j r _=>⟨q.slots,x b q (λz=>j (by simp[z])) r⟩)
    (λb q _ r n=>by rw[aH (bE (Heap.lt_size r))];exact n) (λb q j r=>⟨q,x b q (λz=>j (by simp[z])) r⟩) (λb ys r=>by rw[aH (aE r f)];exact r) (λb q y r=>by rw[aH (aE r f)];exact r)
    (λb ps r=>⟨#[],by rw[aH (aE r f),r];simp⟩) (λm hm=>?_) (λb q r=>?_) I.bare
   ·have e:b=g:=by simpa using a
    subst e;exact⟨Z,R,f4,f5⟩
   ·obtain⟨q,es2,ep2,hq,r⟩:=hm
    exact⟨q,es2,ep2,x _ q (bL R) hq,r⟩
   ·by_cases a:b=s.heap.objs.size
    ·subst a
     rw[au] at r;cases r;exact⟨by show 2<=sizeLine;decide,[.ref M,u],.cons rfl (.cons YK .nil),⟨_,tu2,rfl,_,rfl⟩⟩
    ·rw[aH a] at r
     refine (I.hok b q r).stay (λc y j t=>?_) (λc t=>by rw[aH (aE t f)];exact t) λc ys t=>by rw[aH (aE t f)];exact t
     rcases j with e|e
     ·rw[e] at t ⊢;exact x b y (J b q r) t
     ·exact x c y (J c _ e) t
  refine⟨.ref s.heap.objs.size,_,I1,rfl,⟨_,M,kvs[i].1,kvs[i].2,f,rfl,rfl,aa B,U⟩,⟨_,_,e2⟩,λb a=>?_⟩;have e:b=g:=by simpa using a
  subst e;rw[aH (bE lt)];exact N
 done:=by
  intro X Y hw hK j i l s σ H E I W ⟨ok,A,st⟩ hg;subst Y hw hK;obtain⟨e,hle⟩:=hg;obtain⟨F,z,lo,xs,p,o',es',ep',C,g3,G,T,g6⟩:=(show fP X.prog X.w H s.heap d (.Ax o (.dT kvs)) from I.hok d _ e);rw[F] at C;cases C;rw[Q] at G;cases G;obtain⟨N,R,f2,Z,f4,f5⟩:=W g (-_);have hl:O.size=kvs.length:=by
   have:=g7 List.length T
   rw[ah,<- Paired.length p] at this
   simpa using this
  exact RX (I.ok.hd j) st F Q ∅ λh' eb=>⟨rfl,I.turned (t':=s.toks) (λb o a e=>eb b o a e) N R Z f4 f5⟩
 self:=λ_ _ _ _ _ ⟨_,_,st⟩ h=>kcp_self st h
def aar(td:TE):TI:=λσ H R=>td σ H λx H1=>∃v d kvs,x=.ref v/\H1 v=some (GO v d)/\H1 d=some (.dT kvs)/\∀o,R (Xg d o kvs) (upd H1 d (.Ax o (.dT kvs)))
theorem Uy{l:Expr}{D:TE}{i:List Expr}{x1}{g:Pos}(hl:PE X l D):PI X (.Tuple i x1 g) l (aar D):=by
 intro c s C H R I h;refine gz (hl c s C H _ I h) λv a ⟨x,m,k,Q,E⟩=>?_;obtain⟨A,d,f,e,F,n,q⟩:=E;subst e;cases Q;obtain⟨z,lo,J,r,o,M,G,j,K,t,P⟩:=(show fP X.prog X.w m a.heap d (.dT f) from k.hok d _ n);obtain⟨O,_,_⟩:=(show fP X.prog X.w m a.heap A (GO A d) from k.hok A _ F);have B:Inv X c C (upd m d (.Ax o (.dT f))) a:=k.write (t':=a.toks) (h':=a.heap) (x:=d) (e:=d) (by rw[n];exact k6) (.inl rfl) (λb u _ q=>q) ⟨o,j⟩ ⟨j,z,lo,J,Paired.Wc r λp q y=>⟨y.1,by rw[aH (vK y.2.1 n (by intro z;cases z))];exact y.2.1,y.2.2⟩,o,M,G,j,K,t,P⟩;have N:(upd m d (.Ax o (.dT f))) a.heap.objs.size=none:=by
  rw[aH (bL (bE (Heap.lt_size j)))];exact k.hok.fresh (ay _)
 refine ON O j t ?_;refine⟨a.heap.objs.size,[a.heap.objs.size],_,_,_,rfl,B.kept (t':=a.toks) λb o e=>Heap.get?_push_of_some _ e,OP d _ t,⟨_,_,Heap.get?_push_size _ rfl⟩,λb L=>?_,q o⟩;have e:b=a.heap.objs.size:=by simpa using L
 subst e;exact B.Tg (ay _) N
theorem aas{d:Addr}{o:Obj}{kvs:List (List Key×V)}{a:Hp}(h:a d=some (.Ax o (.dT kvs))):∀i H,i<kvs.length->aG a H->(Xg d o kvs).go i H:=λi H b s=>⟨s _ _ h,b⟩
theorem Uz{d:Addr}{o:Obj}{kvs:List (List Key×V)}{a:Hp}(h:a d=some (.Ax o (.dT kvs))):∀H,aG a H->(Xg d o kvs).stop kvs.length H:=λH s=>⟨s _ _ h,ay _⟩
end
end L2
namespace L2
theorem UA{X:Cx}(K:af)(a:X.K=K):wO X (PySem.binaryOp .Add) (Yz K):=by
 subst a;exact Wp
end L2
namespace TW
open PySem L2 PyProof.Rows
theorem KL{xs m:List T3}(h:xs.Perm m)(A:AG xs)(q:AG m):xs=m:=by
 have c:∀a b:T3,CI a b=false->CI b a=false->a=b:=λa b k g=>by
  have e:¬CI a b=true:=by rw[k];exact aF
  have d:¬CI b a=true:=by rw[g];exact aF
  rw[wX] at e d;obtain⟨B,z,x⟩:=a;obtain⟨o,v,p⟩:=b;have s:B=o:=by simp at e d;lia
  subst s;have r:z=v:=by simp at e d;lia
  subst r;have t:x=p:=by simp at e d;lia
  rw[t]
 have n:∀{l:List T3},AG l->l.Pairwise λa b=>CI b a=false:=λ{l} u=>by
  rw[pN];intro i j w y f;exact u i j _ _ f (aa w) (aa y)
 exact List.Perm.eq_of_pairwise (λa b _ _ k g=>c a b g k) (n A) (n q) h
noncomputable def fk(t:T3):List Key×V:=([.inl t.1,.inl t.2.1],.int t.2.2)
noncomputable abbrev keyOf(h c:Int):List Key:=[.inl h,.inl c]
def bX(ts:List T3):Prop:=(ts.map λt=>(t.1,t.2.1)).Nodup
noncomputable def jK(ts:List T3)(h c:Int):Option Int:=(ts.find? λt=>decide (t.1=h/\t.2.1=c)).map λt=>t.2.2
noncomputable def put3(ts:List T3)(h c r:Int):List T3:=(ts.filter λt=>!decide (t.1=h/\t.2.1=c))++[(h,c,r)]
theorem mz{ts:List T3}(n:bX ts){h c r:Int}:jK ts h c=some r↔(h,c,r)∈ts:=by
 unfold jK;constructor
 ·intro e
  cases f:ts.find? λt=>decide (t.1=h/\t.2.1=c) with
  |none=>rw[f] at e;cases e
  |some t =>
   rw[f] at e;cases e;have a:=List.find?_some f;have b:=List.mem_of_find?_eq_some f;have a:t.1=h/\t.2.1=c:=by simpa using a
   obtain⟨p,m,o⟩:=t;obtain⟨rfl,rfl⟩:=a;exact b
 ·intro e
  cases f:ts.find? λt=>decide (t.1=h/\t.2.1=c) with
  |none =>
   have:=List.find?_eq_none.mp f _ e
   simp at this
  |some t =>
   have a:=List.find?_some f;have b:=List.mem_of_find?_eq_some f;have a:t.1=h/\t.2.1=c:=by simpa using a
   obtain⟨i,k⟩:=oi e;obtain⟨j,d⟩:=oi b;have g:(ts.map λt=>(t.1,t.2.1))[i]?=some (h,c):=by rw[aj,k];rfl
   have l:(ts.map λt=>(t.1,t.2.1))[j]?=some (h,c):=by rw[aj,d,<- a.1,<- a.2];rfl
   have:i=j:=(List.getElem?_inj (ai.mp g).1 n).mp (g.trans l.symm)
   subst this;rw[k] at d;cases d;rfl
theorem BE{xs a:List T3}(b:xs.Perm a)(nx:bX xs){h c:Int}:jK xs h c=jK a h c:=by
 have d:bX a:=(b.map _).nodup_iff.mp nx;cases e:jK a h c with
 |some r=>exact (mz nx).mpr (b.mem_iff.mpr ((mz d).mp e))
 |none =>
  cases f:jK xs h c with
  |none=>rfl
  |some r =>
   have:=(mz d).mpr (b.mem_iff.mp ((mz nx).mp f))
   rw[e] at this;cases this
theorem UB{ts:List T3}(n:bX ts){h c r:Int}:bX (put3 ts h c r):=by
 unfold bX put3;rw[aT,uJ];refine⟨?_,-_,λx g y d=>?_⟩
 ·exact List.Nodup.sublist ((List.filter_sublist).map _) n
 ·obtain⟨t,a,rfl⟩:=aL.mp g
  have b:=(bC.mp a).2;have e:y=(h,c):=by simpa using d
  rw[e];intro z;have f:t.1=h/\t.2.1=c:=⟨(Prod.mk.inj z).1,(Prod.mk.inj z).2⟩;simp[f] at b
theorem ou(t:T3)(h c:Int):(fk t).1=keyOf h c↔t.1=h/\t.2.1=c:=by
 unfold fk keyOf;constructor
 ·intro e
  have a:=(List.cons.inj e).1;have b:=(List.cons.inj (List.cons.inj e).2).1;exact⟨Sum.inl.inj a,Sum.inl.inj b⟩
 ·rintro⟨rfl,rfl⟩
  rfl
theorem sq:∀(ts:List T3) (h c:Int),CF (ts.map fk) (keyOf h c)=(jK ts h c).map V.int
 |[],h,c=>rfl
 |t::ts,h,c=>by
  rw[bO];by_cases e:t.1=h/\t.2.1=c
  ·rw[yU ((ou t h c).mpr e)]
   unfold jK;rw[List.find?_cons_of_pos (by simp[e])];rfl
  ·rw[yV (λz=>e ((ou t h c).mp z)),sq ts h c]
   unfold jK;rw[List.find?_cons_of_neg (by rw[gU e];exact aF)]
noncomputable def CJ(h c r:Int)(t:T3):T3:=if t.1=h/\t.2.1=c then (h,c,r) else t
theorem UC(h c r:Int)(t:T3):((CJ h c r t).1,(CJ h c r t).2.1)=(t.1,t.2.1):=by
 unfold CJ;split
 ·rename_i e
  show (h,c)=(t.1,t.2.1);rw[e.1,e.2]
 ·rfl
theorem JG{h c r:Int}:∀{ts:List T3},bX ts->(∃t∈ts,t.1=h/\t.2.1=c)->(ts.map (CJ h c r)).Perm (put3 ts h c r)
 |[],_,⟨_,h,_⟩=>by cases h
 |t::ts,n,j=>by
  have d:bX ts:=(mG.mp n).2;have g:=(mG.mp n).1;unfold put3;by_cases e:t.1=h/\t.2.1=c
  ·have b:∀u∈ts,¬(u.1=h/\u.2.1=c):=λu hu z=>g (aL.mpr ⟨u,hu,Prod.ext (z.1.trans e.1.symm) (z.2.trans e.2.symm)⟩)
   have i:ts.map (CJ h c r)=ts:=by
    refine (c6 λu hu=>?_).trans (List.map_id ts);unfold CJ;rw[er (b u hu)];rfl
   have f:ts.filter (λu=>!decide (u.1=h/\u.2.1=c))=ts:=List.filter_eq_self.mpr λu hu=>by rw[gU (b u hu)];rfl
   rw[bO,i,fj,er (by simp[e]),f];have a:CJ h c r t=(h,c,r):=by unfold CJ;rw[ee e]
   rw[a];exact (List.perm_append_comm (l₁:=[(h,c,r)]) (l₂:=ts))
  ·have a:CJ h c r t=t:=by unfold CJ;rw[er e]
   rw[bO,a,fj,ee (by rw[gU e];rfl)];refine List.Perm.cons t (JG d ?_);obtain⟨u,hu,z⟩:=j;rcases bf.mp hu with rfl|hu
   ·exact eL z e
   ·exact⟨u,hu,z⟩
theorem JH{xs a:List T3}(b:xs.Perm a)(h c r:Int):(put3 xs h c r).Perm (put3 a h c r):=(b.filter _).append_right _
theorem GP{ts g:List T3}{h c r:Int}(d:ts.Perm g)(n:bX ts):∃ts',putK (ts.map fk) (keyOf h c) (V.int r)=ts'.map fk/\ts'.Perm (put3 g h c r)/\bX ts':=by
 unfold putK;by_cases a:((ts.map fk).any λf=>decide (f.1=keyOf h c))=true
 ·rw[ee a]
  refine⟨ts.map (CJ h c r),?_,?_,?_⟩
  ·rw[dw,dw]
   refine c6 λt _=>?_;show (if (fk t).1=keyOf h c then ((fk t).1,V.int r) else fk t)=fk (CJ h c r t);unfold CJ;by_cases e:t.1=h/\t.2.1=c
   ·rw[ee ((ou t h c).mpr e),ee e,(ou t h c).mpr e]
    rfl
   ·rw[er (λz=>e ((ou t h c).mp z)),er e]
  ·refine (JG n ?_).trans (JH d h c r)
   obtain⟨f,l,k⟩:=wL.mp a;obtain⟨t,b,rfl⟩:=aL.mp l;exact⟨t,b,(ou t h c).mp (g9 k)⟩
  ·unfold bX
   rw[dw]
   have:((λt:T3=>(t.1,t.2.1))∘CJ h c r)=λt:T3=>(t.1,t.2.1):=funext λt=>UC h c r t
   rw[this];exact n
 ·rw[er a]
  have i:∀t∈ts,¬(t.1=h/\t.2.1=c):=λt b z=>a (wL.mpr ⟨fk t,aL.mpr ⟨t,b,rfl⟩,fy ((ou t h c).mpr z)⟩);have e:put3 ts h c r=ts++[(h,c,r)]:=by
   unfold put3;rw[List.filter_eq_self.mpr λu j=>by rw[gU (i u j)];rfl]
  refine⟨ts++[(h,c,r)],by rw[aT];rfl,e▸JH d h c r,e▸UB n⟩
structure ql(C:Addr)(H:Hp)(p d:Addr)(ts:List T3):Prop where
 ob:∃dx,H p=some (.ins C dx [("kept",.ref d)])
 di:H d=some (.dT (ts.map fk))
theorem ql.mono{C:Addr}{H a:Hp}{p d:Addr}{ts:List T3}(s:aG H a)(h:ql C H p d ts):ql C a p d ts:=by
 obtain⟨⟨b,e⟩,c⟩:=h;exact⟨⟨b,s _ _ e⟩,s _ _ c⟩
def aat(K:af)(H:Hp)(l:Addr)(ts:List T3):Prop:=∃qs:List Addr,H l=some (.lst (qs.map V.ref))/\fT K H qs ts
def yo(u:HO):Prop:=∀xs,u≠.tup xs/\∀o,u≠.Ax o (.tup xs)
theorem sr{a:List V}:yo (.lst a):=λb=>⟨λe=>(by cases e),λo e=>(by cases e)⟩
theorem Mq{kvs:List (List Key×V)}:yo (.dT kvs):=λa=>⟨λe=>(by cases e),λo e=>(by cases e)⟩
theorem aau{o:Obj}{kvs:List (List Key×V)}:yo (.Ax o (.dT kvs)):=λa=>⟨λe=>(by cases e),λo e=>(by cases e)⟩
theorem mS{C a:Addr}{b:List (Str×V)}:yo (.ins C a b):=λc=>⟨λe=>(by cases e),λo e=>(by cases e)⟩
theorem cQ.past{K:af}{H g:Hp}{z a:Addr}{u:HO}{xs:List V}(f:H z=some u)(d:yo u)(c:∀b v,H b=some v->b≠z->g b=some v)(h:cQ K H a xs):cQ K g a xs:=by
 rcases h with (h|⟨o,h⟩)|h
 ·exact .inl (.inl (c _ _ h λe=>by subst e;rw[f] at h;exact (d xs).1 (aK h)))
 ·exact .inl (.inr ⟨o,c _ _ h λe=>by subst e;rw[f] at h;exact (d xs).2 o (aK h)⟩)
 ·exact .inr h
theorem fT.past{K:af}{H d:Hp}{z:Addr}{u:HO}{qs:List Addr}{ts:List T3}(f:H z=some u)(e:yo u)(c:∀b v,H b=some v->b≠z->d b=some v)(h:fT K H qs ts):fT K d qs ts :=
 ⟨h.1,λi q t a b=>cQ.past f e c (h.2 i q t a b)⟩
theorem cN{H:Hp}{z:Addr}{o:HO}:∀b v,H b=some v->b≠z->(upd H z o) b=some v:=λb v e a=>by rw[aH a];exact e
theorem fT.snoc{K:af}{H:Hp}{qs:List Addr}{ts:List T3}{q:Addr}{t:T3}(h:fT K H qs ts)(d:cQ K H q (HP t)):fT K H (qs++[q]) (ts++[t]):=by
 refine⟨by rw[av,av,h.1];rfl,λi a u b c=>?_⟩;by_cases z:i<qs.length
 ·rw[bM z] at b
  rw[bM (h.1▸z)] at c;exact h.2 i a u b c
 ·have e:i=qs.length:=by
   have:=(ai.mp b).1
   rw[av] at this
   have:i<qs.length+1:=this
   lia
  subst e;rw[mH] at b;rw[h.1,mH] at c;cases b;cases c;exact d
theorem fT.nil{K:af}{H:Hp}:fT K H [] []:=⟨rfl,λi q t a=>by cases a⟩
noncomputable def two(f:Bool->Addr):List V:=[.ref (f false),.ref (f true)]
theorem OQ{H:Hp}{a b:Addr}{u v:HO}(d:H a=some u)(c:H b=some v)(n:u≠v):a≠b:=λe=>by
 subst e;rw[d] at c;exact n (aK c)
structure Keeps(K:af)(H:Hp)(lk:Addr)(kk:Bool->Addr)(ks:Bool->List T3):Prop where
 hk:H lk=some (.lst (two kk))
 Kp:∀b,aat K H (kk b) (ks b)
 nk:∀b,kk b≠lk
end TW
namespace L2
open PySem PySem.W PySem.Spec PyProof.Rows
section
variable{prog:Program}{w:World}{A:Around}{E:Value->Shared->Prop}{s:Shared}{d v it:Addr}{od:Obj}{es:Array DictEntry}{ep:Nat}
theorem RY{Q:Value->Shared->Prop}(lo:(d==sysModules)=false)(a:s.heap.get? d=some od)(e:od.ExactDict)(c:od.data=.dict es ep)
 (k:Q (.ref s.heap.objs.size) {s with heap:=s.heap.push {cls:=.type "dict_keyiterator",data:=.fields #[.ref d,.int 0 0,.int es.size 0,.int ep 0]}}):wpAny (model prog w) A (pyIter (.ref d)) Q E s:=by
 have b:s.TypeIs (.ref d) "dict" := ⟨od,a,e.1⟩;refine wpAny_pyIter_slot b F.slot_dict_iter (wpAny_call_entry F.slot_dict_iter b F.entry_dict_iter ?_ (F.args_dict_iter_1 _));unfold Builtin.«dict.__iter__» Builtin.Dict.dictSlotNone;refine wpAny_bind (wpAny_bind (wpAny_notOrdered_dict b ?_));show wpAny _ _ (pure (Value.ref d)) _ _ s;refine wpAny_pure ?_;show wpAny _ _ (Builtin.Dict.showsAll d >>= _) _ _ s;unfold Builtin.Dict.showsAll;rw[er (by rw[lo];exact aF)];refine wpAny_bind (wpAny_pure (wpAny_bind (wpAny_dictEntries a c (wpAny_bind (wpAny_dictEpoch a c ?_)))));refine wpAny_bind (wpAny_newObj_type (wpAny_pure ⟨_,rfl,"dict_keyiterator",_,⟨_,Heap.get?_push_size _ rfl,rfl⟩,F.slot_dict_keyiterator_next.lookup,?_⟩))
 simpa [rawInt] using k
theorem RZ{i:Nat}{e:DictEntry}{Q:Option Value->Shared->Prop}(j:s.heap.IsKeyIter it d i es.size ep)(l:s.heap.get? d=some od)(m:od.data=.dict es ep)(h:es[i]?=some e)
 (k:∀h',h'.IsKeyIter it d (i+1) es.size ep->Heap.SameBut it s.heap h'->Q (some e.key) {s with heap:=h'}):wpAny (model prog w) A (pyNext (.ref it)) Q E s:=by
 obtain⟨o,g,r,c⟩:=id j;have b:=j.typeIs;have own:Builtin.Dict_items.ownsTuple "dict_keyiterator" = false:=!_
 have p:¬(Value.ref d==Value.none)=true:=aF;have f:¬(i:Int)<0:=∅
 obtain⟨q,n⟩:=gh.mp h;unfold pyNext;refine wpAny_bind (wpAny_attempt (wpAny_callSpecial?_slot (name:=Str.ofString "__next__") b F.slot_dict_keyiterator_next (wpAny_call_entry F.slot_dict_keyiterator_next b F.entry_dict_keyiterator_next ?_ (F.args_dict_keyiterator_next_1 _))));refine wpAny_bind (wpAny_pure (wpAny_bind (wpAny_bind (wpAny_bind (wpAny_typeNameOfWhole_keyiter b (wpAny_pure (wpAny_bind (wpAny_fieldsOf g c ?_))))))));simp only[own,mq,if_false];show wpAny (model prog w) A.in1 (if (Value.ref d==Value.none)=true then _ else _) _ _ s;rw[er p];refine wpAny_bind (wpAny_pure (wpAny_bind (wpAny_dictEntries l m ?_)));rw[er (-_)];refine wpAny_bind (wpAny_pure (wpAny_bind (wpAny_dictEpoch l m ?_)));rw[er (-_)];refine wpAny_pure ?_;simp only[f,if_false,cy,h];refine wpAny_bind (wpAny_bind (wpAny_typeNameOfWhole_keyiter b (wpAny_pure (wpAny_bind (wpAny_isOneOf_keyiter b ?_)))));show wpAny _ _ (setField (.ref it) 1 (rawInt ((i:Int)+1)) >>= _) _ _ s;refine wpAny_bind (wpAny_setField g c (-_) ?_);have a:(s.heap.update it (Obj.mapFields (·.setIfInBounds 1 (rawInt ((i:Int)+1))))).IsKeyIter it d (i+1) es.size ep :=
  ⟨_,Heap.get?_update_self _ g (Obj.isFreed_of_fields (Obj.data_mapFields c _)),(Obj.cls_mapFields ..).trans r,by rw[Obj.data_mapFields c];simp[rawInt]⟩
 refine wpAny_bind (wpAny_holding ?_);refine wpAny_bind (wpAny_isOneOf_keyiter (s:={s with heap:=s.heap.update it (Obj.mapFields (·.setIfInBounds 1 (rawInt ((i:Int)+1))))}) a.typeIs ?_);show wpAny _ _ (pure e.key) _ _ _;exact wpAny_pure (wpAny_pure ⟨_,rfl,wpAny_pure (k _ a (Heap.SameBut.update ..))⟩)
theorem UD{i:Nat}{Q:Option Value->Shared->Prop}(n:A.handled=none)(g:s.heap.IsKeyIter it d i es.size ep)(h:s.heap.get? d=some od)(l:od.data=.dict es ep)(q:es.size<=i)
 (k:∀h',Heap.ExtBut it s.heap h'->Q none {s with heap:=h'}):wpAny (model prog w) A (pyNext (.ref it)) Q E s:=by
 obtain⟨o,j,r,f⟩:=id g;have c:=g.typeIs;have own:Builtin.Dict_items.ownsTuple "dict_keyiterator" = false:=!_
 have p:¬(Value.ref d==Value.none)=true:=aF;have e:¬(i:Int)<0:=∅
 unfold pyNext;refine wpAny_bind (wpAny_attempt (wpAny_callSpecial?_slot (name:=Str.ofString "__next__") c F.slot_dict_keyiterator_next (wpAny_call_entry F.slot_dict_keyiterator_next c F.entry_dict_keyiterator_next ?_ (F.args_dict_keyiterator_next_1 _))));refine wpAny_bind (wpAny_pure (wpAny_bind (wpAny_bind (wpAny_bind (wpAny_typeNameOfWhole_keyiter c (wpAny_pure (wpAny_bind (wpAny_fieldsOf j f ?_))))))));simp only[own,mq,if_false];show wpAny (model prog w) A.in1 (if (Value.ref d==Value.none)=true then _ else _) _ _ s;rw[er p];refine wpAny_bind (wpAny_pure (wpAny_bind (wpAny_dictEntries h l ?_)));rw[er (-_)];refine wpAny_bind (wpAny_pure (wpAny_bind (wpAny_dictEpoch h l ?_)));rw[er (-_)];refine wpAny_pure ?_;simp only[e,if_false,cy,Array.getElem?_eq_none q];refine wpAny_bind (wpAny_bind (wpAny_typeNameOfWhole_keyiter c (wpAny_pure ?_)));show wpAny _ _ (setField (.ref it) 0 .none >>= _) _ _ s;refine wpAny_bind (wpAny_setField j f (-_) ?_);unfold newExc newTuple raiseNew;refine wpAny_bind (wpAny_bind (wpAny_newObj_type (wpAny_bind (m:=firstArgMember _ _) (wpAny_of_eq (a:=Value.none) rfl (wpAny_newObj_type (wpAny_bind (wpAny_handled ?_)) (by size_fits)))) (by size_fits)));rw[show A.in1.handled=none from n];refine wpAny_bind (wpAny_pure (wpAny_throw ?_));refine wpAny_bind ?_;refine wpAny_isInstance (T:="StopIteration") (b:=true) ⟨_,Heap.get?_push_size _ rfl,rfl⟩ isSubtype_stop ?_;have up:=(Heap.SameBut.update s.heap it (Obj.mapFields λx=>x.setIfInBounds 0 Value.none)).extBut;exact wpAny_pure (k _ ((up.push _).push _))
end
end L2
namespace TW
open PySem L2 PyProof.Rows
theorem Mr{J:It}{n:Nat}{q:List (Option Nat)}{g:TG}{E:TT}{G:TE}{F:L2.St}{B:Hp->Prop}{k:Hp}{c:Addr}(I:Nat->V)(f:Nat->Option V)(j:k c=none)
 (go:∀i H,i<n->aG k H->J.go i H) (stop:∀H,aG k H->J.stop n H) (Kn:∀i H x a,i<n->aG k H->J.Kn i H x a->a=H/\x=I i) (K:n<=1000)
 (step:∀(i:Nat) (H:Hp) (R:V->Hp->Prop) (S:Hp->Prop),i<n->aG k H->(∀y a,aG H a->f i=some y->R y a)->(∀a,aG H a->f i=none->S a) ->
  g (I i) (jF q F) H λd w=>E d w λb l=>if b=true then G d l R else S l)
 (u:∀H,aG k H->H c=some (.lst ((aA n).filterMap f))->B H) :
 ∃W:Nat->Nat->Hp->Prop,(∃m,W 0 m (upd k c (.lst [])))/\∀i m H,W i m H ->
  (J.stop i H/\B H)∨(J.go i H/\∀x a,J.Kn i H x a->g x (jF q F) a λd w=>E d w λb l=>if b=true then G d l λy z=>∃xs,z c=some (.lst xs)/\xs.length<sizeLine /\
   ∃o,o<m/\W (i+1) o (upd z c (.lst (xs++[y]))) else ∃o,o<m/\W (i+1) o l):=by
 have p:∀i,((aA i).filterMap f).length<=i:=λi=>by
  have:=List.length_filterMap_le f (aA i)
  rwa [bB] at this
 refine ir (n:=n) (λi A _=>A=(aA i).filterMap f) j go stop rfl ?_ ?_
 ·rintro i A H r s t rfl x a L
  obtain⟨rfl,rfl⟩:=Kn i H x a r s L;have e:(aA (i+1)).filterMap f=(aA i).filterMap f++(f i).toList:=by
   rw[mF,List.filterMap_append];cases h:f i <;> simp[h]
  refine step i a _ _ r s (λy z C v=>?_) (λl D v=>?_)
  ·refine fQ j r (s.trans C) (C _ _ t) (cS (aN (p i) (aN (kg r) K))) ?_
   show _=(aA (i+1)).filterMap f;rw[e,v];rfl
  ·refine jX r (s.trans D) (D _ _ t) ?_
   show _=(aA (i+1)).filterMap f;rw[e,v];simp
 ·rintro A H s t rfl
  exact u H s t
theorem rB{α β:Type}:∀(xs:List α) (F:α->Option β),(aA xs.length).filterMap (λi=>xs[i]?.bind F)=xs.filterMap F
 |[],F=>rfl
 |x::xs,F=>by
  have e:((λi:Nat=>(x::xs)[i]?.bind F)∘Nat.succ)=λi=>xs[i]?.bind F:=funext λi=>-_
  rw[bx,List.range_succ_eq_map,dQ,List.filterMap_map,e,rB xs F,dQ];rfl
theorem R0{K:af}{l c:Addr}{xs:List Int}{j:List (Option Nat)}{g:TG}{C:TT}{E:TE}{D:L2.St}{w:Hp->Prop}{p:Hp}(F:Int->Option V)(o:p c=none)(hl:bP K p l (xs.map V.int))(L:xs.length<=1000)
 (step:∀(x:Int) (H:Hp) (R:V->Hp->Prop) (S:Hp->Prop),x∈xs->aG p H->(∀y a,aG H a->F x=some y->R y a)->(∀a,aG H a->F x=none->S a) ->
  g (.int x) (jF j D) H λd u=>C d u λb k=>if b=true then E d k R else S k)
 (r:∀H,aG p H->H c=some (.lst (xs.filterMap F))->w H) :
 ∃W:Nat->Nat->Hp->Prop,(∃m,W 0 m (upd p c (.lst [])))/\∀i m H,W i m H ->
  ((Ko K l).stop i H/\w H)∨((Ko K l).go i H/\∀x a,(Ko K l).Kn i H x a->g x (jF j D) a λd u=>C d u λb k=>if b=true then E d k λy B=>∃xs,B c=some (.lst xs)/\xs.length<sizeLine /\
    ∃h,h<m/\W (i+1) h (upd B c (.lst (xs++[y]))) else ∃h,h<m/\W (i+1) h k):=by
 have z:(xs.map V.int).length=xs.length:=ah _;refine Mr (n:=xs.length) (λi=>(xs.map V.int).getD i .fH) (λi=>xs[i]?.bind F) o (λi H f s=>DL hl i H (by rw[z];exact f) s) (λH s=>by have:=vM hl H s;rwa [z] at this) (λi H x a f s q=>?_) L (λi H R S f s J I=>?_) (λH s G=>r H s (by rw[<- rB];exact G))
 ·obtain⟨rfl,q⟩:=q
  have q:=q _ (s.seq hl);exact⟨rfl,by rw[az,q];rfl⟩
 ·have e:(xs.map V.int).getD i .fH=V.int xs[i]:=by rw[az,aj,aa f];rfl
  have A:xs[i]?=some xs[i]:=aa f;rw[e];refine step _ H R S (aQ f) s (λy a v t=>J y a v ?_) (λa v t=>I a v ?_)
  ·show xs[i]?.bind F=_
   rw[A];exact t
  ·show xs[i]?.bind F=_
   rw[A];exact t
theorem R1(xs:List Int)(f:Int->Bool):xs.filterMap (λx=>if f x=true then some (V.int x) else none)=(xs.filter f).map V.int:=by
 induction xs with
 |nil=>rfl
 |cons x xs a =>
  by_cases h:f x=true
  ·rw[r8 h,bO,<- a,dQ];simp only[h,if_true]
  ·rw[r9 h,<- a,dQ];simp only[h];rfl
theorem lO{K:af}{l c:Addr}{xs:List Int}{h:List (Option Nat)}{g:TG}{v:TT}{z:TE}{w:L2.St}{t:Hp->Prop}{n:Hp}(f:Int->Bool)(k:n c=none)(hl:bP K n l (xs.map V.int))(D:xs.length<=1000)
 (step:∀(x:Int) (H:Hp) (R:V->Hp->Prop) (S:Hp->Prop),x∈xs->aG n H->(∀a,aG H a->f x=true->R (.int x) a)->(∀a,aG H a->f x=false->S a) ->
  g (.int x) (jF h w) H λd q=>v d q λb j=>if b=true then z d j R else S j)
 (o:∀H,aG n H->H c=some (.lst ((xs.filter f).map V.int))->t H) :
 ∃W:Nat->Nat->Hp->Prop,(∃m,W 0 m (upd n c (.lst [])))/\∀i m H,W i m H ->
  ((Ko K l).stop i H/\t H)∨((Ko K l).go i H/\∀x a,(Ko K l).Kn i H x a->g x (jF h w) a λd q=>v d q λb j=>if b=true then z d j λy u=>∃xs,u c=some (.lst xs)/\xs.length<sizeLine /\
    ∃e,e<m/\W (i+1) e (upd u c (.lst (xs++[y]))) else ∃e,e<m/\W (i+1) e j):=by
 refine R0 (λx=>if f x=true then some (V.int x) else none) k hl D (λx H R S E s C B=>step x H R S E s (λa r p=>C _ a r (ee p)) (λa r p=>B a r (er (by rw[p];exact aF)))) (λH s A=>o H s (by rw[<- R1];exact A))
def YL(u:HO):Prop:=∀xs,u≠.lst xs/\∀o,u≠.Ax o (.lst xs)
theorem UE{C a:Addr}{b:List (Str×V)}:YL (.ins C a b):=λc=>⟨λe=>(by cases e),λo e=>(by cases e)⟩
theorem bP.past{K:af}{H g:Hp}{z a:Addr}{u:HO}{xs:List V}(f:H z=some u)(d:YL u)(c:∀b v,H b=some v->b≠z->g b=some v)(h:bP K H a xs):bP K g a xs:=by
 rcases h with (h|⟨o,h⟩)|h
 ·exact .inl (.inl (c _ _ h λe=>by subst e;rw[f] at h;exact (d xs).1 (aK h)))
 ·exact .inl (.inr ⟨o,c _ _ h λe=>by subst e;rw[f] at h;exact (d xs).2 o (aK h)⟩)
 ·exact .inr h
noncomputable def iE(c:Option Int):V:=(c.map V.int).getD .fH
theorem mT(i:Int)(c:Option Int):ZY (.int i) (iE c)=true:=by cases c <;> rfl
theorem Ms(c:Option Int):yR (iE c)=true:=by cases c <;> rfl
theorem CK(xs:List Int):CD .fH (xs.map V.int)=false:=by
 unfold CD;rw[List.any_map,List.any_eq_false];intro x _;show ¬(Ry (.int x) .fH)=true;simp[Ry]
noncomputable def gx(c:Option Int)(r:Int):Bool:=!decide (V.int r=iE c)
noncomputable def DB(ts:List T3)(so:Option Int)(kI:Int)(aU:Option Int)(os hs:List Int):List Int :=
 match so with
 |none=>os.filter (gx aU)
 |some to=>if to∈hs then [] else match jK ts kI to with
  |some r=>if r∈os then [r].filter (gx aU) else os.filter (gx aU)
  |none=>os.filter (gx aU)
theorem WX(ts:List T3)(c:Option Int)(a:Int)(aU:Option Int)(os d:List Int):(DB ts c a aU os d).length<=os.length+1:=by
 have h:∀l:List Int,l.length<=os.length+1->(l.filter (gx aU)).length<=os.length+1:=λl b=>aN (aX _ _) b;unfold DB;split
 ·exact h _ (cV _)
 ·split
  ·exact bN _
  ·split
   ·split
    ·exact h _ (by show 1<=_;lia)
    ·exact h _ (cV _)
   ·exact h _ (cV _)
noncomputable def DP(s to k c:Int):Bool:=if k=1 then decide (V.int c=V.int to) else if k=2 then !decide (V.int c=V.int s) else false
noncomputable def rC(to k:Int):Option Int:=if k=1 then some to else none
theorem made{H:Hp}{x a C:Addr}{d:List (Str×V)}(e:H x=none)(b:H a=none)(c:a≠x):aG H (upd (upd (upd H a (.own x)) x (.ins C a [])) x (.ins C a d)):=by
 rw[Kd];exact (aG.new b).trans (aG.new (by rw[aH (bL c)];exact e))
theorem neT{b:Bool}(h:¬b=true):b=false:=by
 cases b
 ·rfl
 ·exact eL rfl h
end TW
namespace TX
open PySem PySem.StrLaws PySem.Builtin PySem.Builtin.Str
noncomputable abbrev cs(x:Str):List Nat:=x.cps.toList
end TX
namespace TX
open PySem PySem.StrLaws PySem.Builtin PySem.Builtin.Str PySem.NumText
noncomputable abbrev num(n:Int):Str:=Str.ofString (toString n)
abbrev Wr(n:Int):Prop:=0<=n/\n<10^60
end TX
namespace TX
open PySem PySem.StrLaws PySem.Builtin PySem.Builtin.Str
end TX
namespace L2
open PySem PySem.W PySem.Spec PyProof.Rows
theorem GQ{α β:Type}{f g:α->Option β}:∀{l:List α},(∀x∈l,f x=g x)->l.filterMap f=l.filterMap g
 |[],_=>rfl
 |x::l,h=>by
  rw[dQ,dQ,h x (b9 ..),GQ λy a=>h y (bu _ a)]
theorem R3{α:Type}(xs:List α):((aA xs.length).map (λk=>xs.length-1-k)).filterMap (λi=>xs.toArray[i]?)=xs.reverse:=by
 have b:(aA xs.length).map (λk=>xs.length-1-k)=(aA xs.length).reverse:=by
  refine List.ext_getElem (-_) λi b a=>?_;simp at b a;simp[List.getElem_reverse]
 rw[b,List.filterMap_reverse];congr 1;refine List.ext_getElem? λi=>?_;have a:(aA xs.length).filterMap (λi=>xs.toArray[i]?)=xs:=by
  have:=TW.rB xs (λx=>some x)
  rw[List.filterMap_some] at this;refine Eq.trans (GQ λi c=>?_) this;rw[List.getElem?_toArray];cases xs[i]? <;> rfl
 rw[a]
theorem GR(a:List Value):slicePick a.toArray none none (some (-1))=a.reverse.toArray:=by
 unfold slicePick;congr 1;have e:sliceBounds none none (some (-1)) a.toArray.size=((a.length:Int)-1,-1,-1):=by
  simp[sliceBounds]
 rw[e,<- R3 a];congr 1;unfold sliceRange;by_cases h:a.length=0
 ·simp[h]
 ·have c:((a.length:Int)-1) > -1:=∅
  have d:((a.length:Int)-1 - -1 - -1-1)/(- -1)=(a.length:Int):=by
   have:((a.length:Int)-1 - -1 - -1-1)=(a.length:Int):=∅
   rw[this];show (a.length:Int)/1=_;exact Int.ediv_one _
  simp only[show ¬((-1:Int) > 0) by decide,if_false,c,if_true,d,cy];refine c6 λk b=>?_
  have:=dm.mp b
  lia
section
variable{X:Cx}
def aav(K:af)(te:TE)(ts:TO):TE:=λσ H Q=>te σ H λx H1=>ts σ H1 λo H2=>∃a xs,x=.ref a/\o=some (-1)/\bP K H2 a xs/\∀p,H2 p=none->Q (.ref p) (upd H2 p (.lst xs.reverse))
theorem R4{xs:List V}{us:List Value}(h:bZ xs us):bZ xs.reverse us.reverse:=by
 induction h with
 |nil=>exact .nil
 |cons r t a =>
  rw[List.reverse_cons,List.reverse_cons];exact a.append (.cons r .nil)
theorem Mt{e st:Expr}{p:TE}{ts:TO}{m j:Pos}(F:PE X e p)(P:PO X (some st) ts):PE X (.Subscript e (.Slice none none (some st) m) j) (aav X.K p ts):=by
 intro c s f H Q I h;refine Subscript_ (gz (F c s f H _ I h) λv C ⟨x,L,G,N,t⟩=>?_);refine wpAny_Slice ?_;rw[evalPart_none];refine wpAny_pure ?_;refine wpAny_pure ?_;refine gz (P c C f L _ G t) λn d ⟨o,B,M,O,a,y,D,z,J,q⟩=>?_;subst D z;cases N;have g:Inv X c f B {d with heap:=d.heap.push {cls:=.type "slice",data:=.fields #[.none,.none,n]}}:=M.kept (t':=d.toks) λb u q=>Heap.get?_push_of_some _ q;obtain⟨i,r,k,E⟩:=g.list J;have l:=r.length;show wpAny (model X.prog X.w) X.A (subscriptTail e (.Slice none none (some st) m) (.ref a) (.ref d.heap.objs.size)) (EP X c f Q) X.xe {d with heap:=d.heap.push {cls:=.type "slice",data:=.fields #[.none,.none,n]}};refine tail_any (ops:=[.ref a,.ref d.heap.objs.size]) k.isList.typeIs slot_list_getitem.lookup ?_ (by with_unfolding_all rfl);refine wpAny_getItem_list_slice k.isList (Heap.IsSliceOf.new ..) .none .none O (-_) ?_ (by rw[aP] <;> lia);rw[GR];refine⟨.ref _,_,g.laid (t':=d.toks) (o:=.lst y.reverse) (λb u q=>Heap.get?_push_of_some _ q) (ay _) ?_,rfl,q _ (g.hok.fresh (ay _))⟩;exact⟨by rw[List.length_reverse];exact E,i.reverse,0,R4 r,Heap.get?_push_size _ rfl⟩
end
end L2
namespace TW
open PySem L2 PyProof.Rows
theorem Ql{K:af}{l a:Addr}{xs:List V}{j:List (Option Nat)}{g:TG}{z:TT}{B:TE}{A:L2.St}{v:Hp->Prop}{p:Hp}(f:Nat->Option V)(o:p a=none)(hl:bP K p l xs)(E:xs.length<=1000)
 (step:∀(i:Nat) (x:V) (H:Hp) (R:V->Hp->Prop) (S:Hp->Prop),xs[i]?=some x->aG p H->(∀y d,aG H d->f i=some y->R y d)->(∀d,aG H d->f i=none->S d) ->
  g x (jF j A) H λc t=>z c t λb k=>if b=true then B c k R else S k)
 (r:∀H,aG p H->H a=some (.lst ((aA xs.length).filterMap f))->v H) :
 ∃W:Nat->Nat->Hp->Prop,(∃m,W 0 m (upd p a (.lst [])))/\∀i m H,W i m H ->
  ((Ko K l).stop i H/\v H)∨((Ko K l).go i H/\∀x d,(Ko K l).Kn i H x d->g x (jF j A) d λc t=>z c t λb k=>if b=true then B c k λy w=>∃xs,w a=some (.lst xs)/\xs.length<sizeLine /\
    ∃h,h<m/\W (i+1) h (upd w a (.lst (xs++[y]))) else ∃h,h<m/\W (i+1) h k):=by
 refine Mr (n:=xs.length) (λi=>xs.getD i .fH) f o (DL hl) (vM hl) (λi H x d u s q=>?_) E (λi H R S u s D C=>?_) r
 ·obtain⟨rfl,q⟩:=q
  have q:=q _ (s.seq hl);exact⟨rfl,by rw[az,q];rfl⟩
 ·have e:xs.getD i .fH=xs[i]:=by rw[az,aa u];rfl
  rw[e];exact step i _ H R S (aa u) s D C
theorem GS{α β:Type}(xs:List α)(h:α->β):(aA xs.length).filterMap (λi=>xs[i]?.map h)=xs.map h:=by
 have e:∀l:List α,l.filterMap (λx=>some (h x))=l.map h:=λl=>by
  induction l with
  |nil=>rfl
  |cons a l b=>rw[dQ,b];rfl
 rw[<- e,<- rB xs (λx=>some (h x))];refine GQ λi _=>?_;cases xs[i]? <;> rfl
inductive Role where
 |fC|e9|iQ|nY (i:Nat)|zg|rows (g:Nat)|kq|book (g:Nat)|fq (g:Nat)
 |aO|groups|mU|handed (c:Nat)|cT|bW (i:Nat)|letter (i:Nat)|done (i:Nat)|aD (i:Nat)|lP
 deriving DecidableEq
structure wY(H:Hp)(loc:Role->Addr)(ob:Role->Option HO):Prop where
 get:∀r o,ob r=some o->H (loc r)=some o
 inj:∀r q,ob r≠none->ob q≠none->loc r=loc q->r=q
noncomputable def jr(ob:Role->Option HO)(r:Role)(o:HO):Role->Option HO:=λq=>if q=r then some o else ob q
noncomputable def yI(loc:Role->Addr)(r:Role)(a:Addr):Role->Addr:=λq=>if q=r then a else loc q
theorem eF{ob:Role->Option HO}{r:Role}{o:HO}:jr ob r o r=some o:=ee rfl
theorem dM{ob:Role->Option HO}{r q:Role}{o:HO}(h:q≠r):jr ob r o q=ob q:=er h
theorem jg{b:Role->Addr}{r:Role}{a:Addr}:yI b r a r=a:=ee rfl
theorem jw{b:Role->Addr}{r q:Role}{a:Addr}(h:q≠r):yI b r a q=b q:=er h
def Fp(loc:Role->Addr)(ob:Role->Option HO)(b:Addr):Prop:=∃r,ob r≠none/\loc r=b
section
variable{H H':Hp}{loc:Role->Addr}{ob:Role->Option HO}
theorem wY.mono(h:wY H loc ob)(s:aG H H'):wY H' loc ob:=⟨λr o e=>s _ _ (h.get r o e),h.inj⟩
theorem wY.keep(h:wY H loc ob)(k:∀b o,H b=some o->Fp loc ob b->H' b=some o):wY H' loc ob :=
 ⟨λr o e=>k _ _ (h.get r o e) ⟨r,by rw[e];exact aS o,rfl⟩,h.inj⟩
theorem wY.set(h:wY H loc ob){r:Role}(d:ob r≠none)(o:HO):wY (upd H (loc r) o) loc (jr ob r o):=by
 have c:∀q,jr ob r o q≠none->ob q≠none:=λq a=>by
  by_cases e:q=r
  ·rw[e];exact d
  ·rw[dM e] at a;exact a
 refine⟨λq u e=>?_,λq b g f e=>h.inj q b (c q g) (c b f) e⟩;by_cases z:q=r
 ·subst z
  rw[eF] at e;cases e;exact au
 ·rw[dM z] at e
  rw[aH (λw=>z (h.inj q r (by rw[e];exact aS u) d w))];exact h.get q u e
theorem wY.new(h:wY H loc ob){p:Addr}(j:H p=none)(r:Role)(o:HO):wY (upd H p o) (yI loc r p) (jr ob r o):=by
 have g:∀q,q≠r->ob q≠none->loc q≠p:=λq k f e=>by
  cases i:ob q with
  |none=>exact f i
  |some u =>
   have:=h.get q u i
   rw[e,j] at this;cases this
 refine⟨λq u e=>?_,λq c d b e=>?_⟩
 ·by_cases z:q=r
  ·subst z
   rw[eF] at e;cases e;rw[jg];exact au
  ·rw[dM z] at e
   rw[jw z,aH (g q z (by rw[e];exact aS u))];exact h.get q u e
 ·by_cases z:q=r
  ·by_cases a:c=r
   ·rw[z,a]
   ·rw[z,jg,jw a] at e
    rw[dM a] at b;exact eL e.symm (g c a b)
  ·by_cases a:c=r
   ·rw[a,jg,jw z] at e
    rw[dM z] at d;exact eL e (g q z d)
   ·rw[jw z,jw a] at e
    rw[dM z] at d;rw[dM a] at b;exact h.inj q c d b e
theorem wY.YM(h:wY H loc ob){p:Addr}{r:Role}{o:HO}{b:Addr}(d:Fp (yI loc r p) (jr ob r o) b):Fp loc ob b∨b=p:=by
 obtain⟨q,c,a⟩:=d;by_cases z:q=r
 ·rw[z,jg] at a
  exact .inr a.symm
 ·rw[dM z] at c
  rw[jw z] at a;exact .inl ⟨q,c,a⟩
theorem JI{r:Role}(d:ob r≠none){o:HO}{b:Addr}:Fp loc (jr ob r o) b↔Fp loc ob b:=by
 constructor
 ·rintro⟨q,a,c⟩
  refine⟨q,?_,c⟩;by_cases z:q=r
  ·rw[z];exact d
  ·rw[dM z] at a;exact a
 ·rintro⟨q,a,c⟩
  refine⟨q,?_,c⟩;by_cases z:q=r
  ·rw[z,eF];exact aS o
  ·rw[dM z];exact a
end
inductive dN where
 |post (h:Nat)|Iz (h r:Nat)|hand (h c:Nat)|send (h r w:Nat)|twice (h r:Nat)|WY (h r:Nat)
noncomputable def dN.vs:dN->List V
 |.post h=>[.str "post",.int h]
 |.Iz h r=>[.str "come",.int h,.int r]
 |.hand h c=>[.str "hand",.int h,.int c]
 |.send h r w=>[.str "send",.int h,.int r,.int w]
 |.twice h r=>[.str "twice",.int h,.int r]
 |.WY h r=>[.str "lost",.int h,.int r]
structure LS where
 s:Nat
 to:Nat
 kd:Int
 grp:Nat
 old:Bool
 done:List Nat
 aD:List dN
structure Cp where
 l:Nat
 r:Nat
 w:Nat
 h:Nat
noncomputable def Cp.vs(c:Cp):List V:=[.int c.l,.int c.r,.int c.w,.int c.h]
structure NS where
 ws:List (List Nat)
 R:Nat->Nat->RM.Row
 ts:Nat->List T3
 aO:List Nat
 groups:List Nat
 had:List (List Nat)
 ls:List LS
 cps:List Cp
structure TQ where
 rq:Nat->List Addr
 dq:Nat->List Addr
 cq:List Addr
structure NC where
 fC:Addr
 str:Addr
 book:Addr
 post:Addr
 alm:Addr
 let1:Addr
 ac7:Addr
noncomputable def rD(c:NC)(dx:Addr)(l:LS):HO:=if l.kd=1 then .ins c.let1 dx [("sender",.int l.s),("to",.int l.to)] else .ins c.ac7 dx [("sender",.int l.s)]
noncomputable def desc(c:NC)(dx:Role->Addr)(tp:Addr)(loc:Role->Addr)(q:TQ)(s:NS):Role->Option HO
 |.fC=>some (.ins c.fC (dx .fC) [("town",.ref tp),("strands",.ref (loc .e9)),("rows_by_group",.ref (loc .zg)),("books",.ref (loc .kq)),("homes",.ref (loc .aO)),("groups",.ref (loc .groups)),("handed",.ref (loc .mU)),("letters",.ref (loc .cT)),("copies",.ref (loc .lP))])
 |.e9=>some (.ins c.str (dx .e9) [("town",.ref tp),("upright",.ref (loc .iQ))])
 |.iQ=>some (.lst ((aA s.ws.length).map λi=>.ref (loc (.nY i))))
 |.nY i=>s.ws[i]?.map λw=>.lst (bR w)
 |.zg=>some (.lst ((aA 3).map λg=>.ref (loc (.rows g))))
 |.rows g=>if g<3 then some (.lst ((q.rq g).map V.ref)) else none
 |.kq=>some (.lst ((aA 3).map λg=>.ref (loc (.book g))))
 |.book g=>if g<3 then some (.ins c.book (dx (.book g)) [("kept",.ref (loc (.fq g)))]) else none
 |.fq g=>if g<3 then some (.dT ((s.ts g).map fk)) else none
 |.aO=>some (.lst (bR s.aO))
 |.groups=>some (.lst (bR s.groups))
 |.mU=>some (.lst ((aA s.had.length).map λi=>.ref (loc (.handed i))))
 |.handed i=>s.had[i]?.map λw=>.lst (bR w)
 |.cT=>some (.lst ((aA s.ls.length).map λi=>.ref (loc (.bW i))))
 |.bW i=>s.ls[i]?.map λl=>.ins c.post (dx (.bW i)) [("letter",.ref (loc (.letter i))),("group",.int l.grp),("old",.bl l.old),("done_at",.ref (loc (.done i))),("deeds",.ref (loc (.aD i)))]
 |.letter i=>s.ls[i]?.map λl=>rD c (dx (.letter i)) l
 |.done i=>s.ls[i]?.map λl=>.dK (l.done.map λh:Nat=>(gC (h:Int),.bl true))
 |.aD i=>s.ls[i]?.map λl=>.lst ((q.dq i).map V.ref)
 |.lP=>some (.lst (q.cq.map V.ref))
mutual
noncomputable def Mu:PyData->Bool
 |.none=>true
 |.bool _=>true
 |.int _=>true
 |.str _=>true
 |.list _=>false
 |.tuple ds=>DQ ds
 |.dict _=>true
noncomputable def DQ:List PyData->Bool
 |[]=>true
 |d::ds=>Mu d&&DQ ds
end
structure dF(K:af)(H:Hp)(qs:List Addr)(xs:List (List V)):Prop where
 len:qs.length=xs.length
 at':∀(i:Nat) q x,qs[i]?=some q->xs[i]?=some x->cQ K H q x
theorem dF.mono{K:af}{H c:Hp}{qs:List Addr}{xs:List (List V)}(h:dF K H qs xs)(k:∀b x,cQ K H b x->cQ K c b x):dF K c qs xs:=⟨h.len,λi q x a b=>k _ _ (h.at' i q x a b)⟩
noncomputable def gH(n:Nat)(R:Nat->RM.Row):List (List V):=(aA n).map λi=>RM.cR (R i)
structure rE(K:af)(H:Hp)(n:Nat)(q:TQ)(s:NS):Prop where
 rows:∀g,g<3->dF K H (q.rq g) (gH n (s.R g))
 aD:∀i l,s.ls[i]?=some l->dF K H (q.dq i) (l.aD.map dN.vs)
 cps:dF K H q.cq (s.cps.map Cp.vs)
theorem rE.mono{K:af}{H a:Hp}{n:Nat}{q:TQ}{s:NS}(h:rE K H n q s)(k:∀b x,cQ K H b x->cQ K a b x):rE K a n q s :=
 ⟨λg c=>(h.rows g c).mono k,λi l e=>(h.aD i l e).mono k,h.cps.mono k⟩
def fG(K:af)(c:NC)(H:Hp)(F:Addr->Prop)(p tp:Addr)(n:Nat)(s:NS):Prop :=
 ∃loc dx q,loc .fC=p/\wY H loc (desc c dx tp loc q s)/\(∀b,F b↔Fp loc (desc c dx tp loc q s) b)/\rE K H n q s
structure Step(H:Hp)(F:Addr->Prop)(H':Hp)(F':Addr->Prop):Prop where
 kp:∀b o,H b=some o->¬F b->H' b=some o
 fr:∀b,F' b->F b∨H b=none
theorem OR{c:NC}{m:Role->Addr}{n:Addr}{i:Role->Addr}{q:TQ}{s:NS}{r:Role}{o:HO}(h:desc c m n i q s r=some o):yo o:=by
 have b:∀{g:Type} {f:g->HO} {x:Option g},(∀a,yo (f a))->x.map f=some o->yo o:=λ{g f x} k e=>by
  cases x with
  |none=>cases e
  |some a=>cases e;exact k a
 have ins:∀{C d:Addr} {j:List (Str×V)},yo (.ins C d j):=mS;cases r <;> simp only[desc] at h
 all_goals first
  | (cases h;exact mS)
  | (cases h;exact sr)
  |exact b (λ_=>sr) h
  |exact b (λ_=>mS) h
  | (split at h
     ·cases h;first|exact sr|exact mS|exact Mq
     ·cases h)
  | (refine b (λl=>?_) h;unfold rD;split <;> exact mS)
  | (refine b (λl=>?_) h;exact λp=>⟨λe=>(by cases e),λo e=>(by cases e)⟩)
section
variable{K:af}{c:NC}{CT:Addr}{H H':Hp}{F F':Addr->Prop}{p tp ln lr:Addr}{n:Nat}{s s':NS}{ns:List Int}{rs:List R5}
theorem fG.mono(h:fG K c H F p tp n s)(e:aG H H'):fG K c H' F p tp n s:=by
 obtain⟨a,d,q,g,f,i,j⟩:=h;exact⟨a,d,q,g,f.mono e,i,j.mono λb x=>e.dB⟩
theorem fG.Qm(h:fG K c H F p tp n s){b:Addr}{o:HO}(g:F b)(e:H b=some o):yo o:=by
 obtain⟨a,f,q,l,i,j,m⟩:=h;obtain⟨r,k,rfl⟩:=(j b).mp g;cases d:desc c f tp a q s r with
 |none=>exact eL d k
 |some u =>
  have:=i.get r u d
  rw[e] at this;cases this;exact OR d
theorem fG.there(h:fG K c H F p tp n s){b:Addr}(i:F b):∃o,H b=some o:=by
 obtain⟨a,e,q,k,f,g,l⟩:=h;obtain⟨r,j,rfl⟩:=(g b).mp i;cases d:desc c e tp a q s r with
 |none=>exact eL d j
 |some u=>exact⟨u,f.get r u d⟩
theorem fG.tup(h:fG K c H F p tp n s)(a:∀b o,H b=some o->¬F b->H' b=some o){b:Addr}{x:List V}(e:cQ K H b x):cQ K H' b x:=by
 rcases e with (e|⟨o,e⟩)|e
 ·exact .inl (.inl (a _ _ e λz=>(h.Qm z e x).1 rfl))
 ·exact .inl (.inr ⟨o,a _ _ e λz=>(h.Qm z e x).2 o rfl⟩)
 ·exact .inr e
theorem fG.keep(h:fG K c H F p tp n s)(i:∀b o,H b=some o->F b->H' b=some o)(l:∀b x,cQ K H b x->cQ K H' b x):fG K c H' F p tp n s:=by
 obtain⟨a,f,q,j,g,d,k⟩:=h;exact⟨a,f,q,j,g.keep λb o e z=>i b o e ((d b).mpr z),d,k.mono l⟩
end
mutual
theorem Rep.tups{K:af}{H c:Hp}(g:∀b x,cQ K H b x->cQ K c b x):∀{d:PyData} {v:V},Mu d=true->Rep K H d v->Rep K c d v
 |.none,_,_,h=>h
 |.bool _,_,_,h=>h
 |.int _,_,_,h=>h
 |.str _,_,_,h=>h
 |.list _,_,f,_=>by simp[Mu] at f
 |.tuple ds,_,f,⟨a,vs,e,q,r⟩=>⟨a,vs,e,g _ _ q,cW.tups g f r⟩
 |.dict _,_,_,h=>h
theorem cW.tups{K:af}{H c:Hp}(a:∀b x,cQ K H b x->cQ K c b x):∀{ds:List PyData} {vs:List V},DQ ds=true->cW K H ds vs->cW K c ds vs
 |[],_,_,h=>h
 |d::ds,_,f,⟨v,r,e,q,t⟩=>by
  have f:(Mu d&&DQ ds)=true:=f;rw[c9] at f;exact⟨v,r,e,Rep.tups a f.1 q,cW.tups a f.2 t⟩
end
theorem GU:∀rs:List R5,DQ (rs.map R5.D)=true
 |[]=>rfl
 |r::rs=>by
  show (Mu r.D&&DQ (rs.map R5.D))=true;rw[GU rs];rfl
section
variable{K:af}{c:NC}{CT:Addr}{H H':Hp}{F F':Addr->Prop}{p tp ln lr:Addr}{n:Nat}{s s':NS}{ns:List Int}{rs:List R5}
theorem c7.keep(h:c7 K CT H tp ln lr ns rs)(k1:∀b o,H b=some o->b=tp∨b=ln∨b=lr->H' b=some o)(e:∀b x,cQ K H b x->cQ K H' b x):c7 K CT H' tp ln lr ns rs:=by
 obtain⟨⟨a,d⟩,c,f,g,i⟩:=h;exact⟨⟨a,k1 _ _ d (.inl rfl)⟩,k1 _ _ c (.inr (.inl rfl)),f,k1 _ _ g (.inr (.inr rfl)),cW.tups e (GU rs) i⟩
structure NW(K:af)(c:NC)(CT:Addr)(H:Hp)(F:Addr->Prop)(p tp ln lr:Addr)(ns:List Int)(rs:List R5)(s:NS):Prop where
 fC:fG K c H F p tp ns.length s
 vP:c7 K CT H tp ln lr ns rs
 o1:¬F tp
 o2:¬F ln
 o3:¬F lr
theorem NW.mono(h:NW K c CT H F p tp ln lr ns rs s)(e:aG H H'):NW K c CT H' F p tp ln lr ns rs s:=⟨h.fC.mono e,h.vP.mono e,h.o1,h.o2,h.o3⟩
theorem NW.done(h:NW K c CT H F p tp ln lr ns rs s)(st:Step H F H' F')(i:fG K c H' F' p tp ns.length s'):NW K c CT H' F' p tp ln lr ns rs s':=by
 have a:∀b x,cQ K H b x->cQ K H' b x:=λb x=>h.fC.tup st.kp;obtain⟨⟨k,f⟩,d,l,j,m⟩:=id h.vP;have nf:∀b o,H b=some o->¬F b->¬F' b:=λb o e g z=>by
  rcases st.fr b z with w|w
  ·exact g w
  ·rw[e] at w;cases w
 refine⟨i,h.vP.keep (λb o e q=>st.kp b o e ?_) a,nf _ _ f h.o1,nf _ _ d h.o2,nf _ _ j h.o3⟩;rcases q with rfl|rfl|rfl
 ·exact h.o1
 ·exact h.o2
 ·exact h.o3
theorem Step.refl'(e:aG H H'):Step H F H' F:=⟨λb o q _=>e _ _ q,λb z=>.inl z⟩
theorem Step.trans{c:Hp}{d:Addr->Prop}(a:Step H F H' F')(b:Step H' F' c d):Step H F c d:=by
 refine⟨λx o e nf=>b.kp x o (a.kp x o e nf) λz=>?_,λx z=>?_⟩
 ·rcases a.fr x z with w|w
  ·exact nf w
  ·rw[e] at w;cases w
 ·rcases b.fr x z with w|w
  ·exact a.fr x w
  ·by_cases q:F x
   ·exact .inl q
   ·refine .inr ?_
    cases f:H x with
    |none=>rfl
    |some o =>
     have:=a.kp x o f q
     rw[this] at w;cases w
end
theorem wY.join{H:Hp}{k i:Role->Addr}{j c:Role->Option HO}(a:wY H k j)(b:wY H i c)(l:∀r q,j r≠none->c q≠none->k r≠i q) :
 wY H (λr=>if (c r).isSome=true then i r else k r) (λr=>if (c r).isSome=true then c r else j r):=by
 have m:∀{r},(c r).isSome=true->c r≠none:=λ{r} h e=>by rw[e] at h;cases h
 refine⟨λr o e=>?_,λr q f d e=>?_⟩
 ·by_cases z:(c r).isSome=true
  ·rw[ee z] at e ⊢
   exact b.get r o e
  ·rw[er z] at e ⊢
   exact a.get r o e
 ·by_cases z:(c r).isSome=true
  ·by_cases g:(c q).isSome=true
   ·simp only[z,g,if_true] at f d e
    exact b.inj r q f d e
   ·simp only[z,g,if_true,if_false] at f d e
    exact eL e.symm (l q r (by simpa using d) (m z))
  ·by_cases g:(c q).isSome=true
   ·simp only[z,g,if_true,if_false] at f d e
    exact eL e (l r q (by simpa using f) (m g))
   ·simp only[z,g,if_false] at f d e
    exact a.inj r q (by simpa using f) (by simpa using d) e
structure FI(H0 H:Hp)(p:Addr)(loc:Role->Addr)(ob:Role->Option HO):Prop where
 own:wY H loc ob
 np:loc .fC=p
 hn:ob .fC≠none
 kp:∀b o,H0 b=some o->b≠p->H b=some o
 fr:∀b,Fp loc ob b->b=p∨H0 b=none
section
variable{H0 H H':Hp}{p:Addr}{loc:Role->Addr}{ob:Role->Option HO}
theorem FI.free(h:FI H0 H p loc ob){a:Addr}(b:H a=none):H0 a=none:=by
 cases e:H0 a with
 |none=>rfl
 |some o =>
  by_cases z:a=p
  ·exfalso
   cases c:ob .fC with
   |none=>exact h.hn c
   |some u =>
    have:=h.own.get .fC u c
    rw[h.np,<- z,b] at this;cases this
  ·have:=h.kp a o e z
   rw[b] at this;cases this
theorem FI.new(h:FI H0 H p loc ob){a:Addr}(c:H a=none){r:Role}(d:r≠.fC)(o:HO):FI H0 (upd H a o) p (yI loc r a) (jr ob r o):=by
 refine⟨h.own.new c r o,by rw[jw (bL d)];exact h.np,by rw[dM (bL d)];exact h.hn,λb u e n=>?_,λb f=>?_⟩
 ·have:=h.kp b u e n
  rw[aH (aE this c)];exact this
 ·rcases h.own.YM f with z|rfl
  ·exact h.fr b z
  ·exact .inr (h.free c)
theorem FI.put(h:FI H0 H p loc ob)(o:HO):FI H0 (upd H p o) p loc (jr ob .fC o):=by
 have e:=h.own.set (r:=.fC) h.hn o;rw[h.np] at e;refine⟨e,h.np,by rw[eF];exact aS o,λb u q n=>?_,λb a=>h.fr b ((JI h.hn).mp a)⟩;rw[aH n];exact h.kp b u q n
theorem wY.add{H H':Hp}{loc:Role->Addr}{ob:Role->Option HO}(h:wY H loc ob)(s:aG H H'){a:Addr}(d:H a=none){o:HO}(e:H' a=some o)(r:Role):wY H' (yI loc r a) (jr ob r o):=by
 have c:=h.new d r o;refine⟨λq u b=>?_,c.inj⟩;by_cases z:q=r
 ·subst z
  rw[eF] at b;cases b;rw[jg];exact e
 ·rw[dM z] at b
  rw[jw z];exact s _ _ (h.get q u b)
theorem FI.add(h:FI H0 H p loc ob)(s:aG H H'){a:Addr}(d:H a=none){o:HO}(e:H' a=some o){r:Role}(f:r≠.fC):FI H0 H' p (yI loc r a) (jr ob r o):=by
 have c:=h.new d f o;exact⟨h.own.add s d e r,c.np,c.hn,λb u q n=>s _ _ (h.kp b u q n),c.fr⟩
theorem FI.aaw(h:FI H0 H p loc ob){r:Role}(a:ob r≠none)(c:r≠.fC)(o:HO):FI H0 (upd H (loc r) o) p loc (jr ob r o):=by
 refine⟨h.own.set a o,h.np,by rw[dM (bL c)];exact h.hn,λb u e n=>?_,λb d=>h.fr b ((JI a).mp d)⟩;have f:b≠loc r:=λz=>by
  rcases h.fr (loc r) ⟨r,a,rfl⟩ with w|w
  ·exact n (z.trans w)
  ·rw[z,w] at e;cases e
 rw[aH f];exact h.kp b u e n
theorem FI.ext{loc':Role->Addr}{SV:Role->Option HO}(h:FI H0 H p loc ob)(d:∀r,ob r=SV r)(c:∀r,ob r≠none->loc r=loc' r):FI H0 H p loc' SV:=by
 have e:ob=SV:=funext d;subst e;refine⟨⟨λr o e=>?_,λr q a b e=>h.own.inj r q a b ?_⟩,?_,h.hn,h.kp,λb f=>?_⟩
 ·rw[<- c r (by rw[e];exact aS o)]
  exact h.own.get r o e
 ·rw[c r a,c q b]
  exact e
 ·rw[<- c .fC h.hn]
  exact h.np
 ·obtain⟨r,a,e⟩:=f
  exact h.fr b ⟨r,a,(c r a).trans e⟩
theorem FI.join{f:Role->Addr}{a:Role->Option HO}(h:FI H0 H p loc ob)(b:wY H' f a)(g:a .fC=none)(fresh:∀r,a r≠none->H (f r)=none)(s:aG H H') :
 FI H0 H' p (λr=>if (a r).isSome=true then f r else loc r) (λr=>if (a r).isSome=true then a r else ob r):=by
 refine⟨(h.own.mono s).join b λr q d c e=>?_,?_,?_,λb o e n=>s _ _ (h.kp b o e n),λx j=>?_⟩
 ·cases i:ob r with
  |none=>exact d i
  |some u =>
   have:=h.own.get r u i
   rw[e,fresh q c] at this;cases this
 ·show (if (a .fC).isSome=true then _ else _)=p
  rw[g];exact h.np
 ·show (if (a .fC).isSome=true then _ else _)≠none
  rw[g];exact h.hn
 ·obtain⟨r,d,c⟩:=j
  by_cases z:(a r).isSome=true
  ·simp only[z,if_true] at d c
   rw[<- c];exact .inr (h.free (fresh r d))
  ·simp only[z,if_false] at d c
   exact h.fr x ⟨r,by simpa using d,by simpa using c⟩
end
noncomputable def yJ(ns:List Int)(i:Nat):RM.Row:=⟨ns.getD i 0,0,0,-1⟩
noncomputable def S0(ns:List Int)(rs:List R5)(cl:List (Nat×Nat)):NS where
 ws:=rs.map λr=>aA r.d.toNat
 R:=λ_=>yJ ns
 ts:=λ_=>[]
 aO:=cl.map (·.1)
 groups:=cl.map (·.2)
 had:=cl.map λ_=>[]
 ls:=[]
 cps:=[]
noncomputable def R6(C dx tp lu:Addr)(ls:List Addr)(ws:List (List Nat)):Role->Option HO
 |.e9=>some (.ins C dx [("town",.ref tp),("upright",.ref lu)])
 |.iQ=>some (.lst (ls.map V.ref))
 |.nY i=>ws[i]?.map λw=>.lst (bR w)
 |_=>none
noncomputable def WZ(sp lu:Addr)(ls:List Addr):Role->Addr
 |.e9=>sp
 |.iQ=>lu
 |.nY i=>ls.getD i 0
 |_=>0
theorem aax{H:Hp}{C sp n t f:Addr}{ls:List Addr}{d:List (List Nat)}(p:H sp=some (.ins C n [("town",.ref t),("upright",.ref f)]))(x:H f=some (.lst (ls.map V.ref)))(hl:ls.length=d.length)
 (A:∀(i:Nat) l w,ls[i]?=some l->d[i]?=some w->H l=some (.lst (bR w))) (nd:ls.Nodup) (D:f∉ls):wY H (WZ sp f ls) (R6 C n t f ls d):=by
 have b:∀{i:Nat},R6 C n t f ls d (.nY i)≠none->∃(a:i<ls.length),WZ sp f ls (.nY i)=ls[i]:=λ{i} h=>by
  have a:i<ls.length:=by
   rw[hl];by_cases z:i<d.length
   ·exact z
   ·exact eL (show (d[i]?.map λw=>HO.lst (bR w))=none by rw[fF ∅];rfl) h
  refine⟨a,?_⟩;show ls.getD i 0=ls[i];rw[az,aa a];rfl
 have B:∀{i:Nat} (a:i<ls.length),∃w,H ls[i]=some (.lst (bR w)):=λ{i} a=>⟨d[i]'(hl▸a),A i _ _ (aa a) (aa (hl▸a))⟩;have u:sp≠f:=OQ p x (λe=>by cases e);have v:∀{i:Nat} (a:i<ls.length),sp≠ls[i]:=λ{i} a=>by
  obtain⟨w,g⟩:=B a;exact OQ p g (λe=>by cases e)
 have y:∀{i:Nat} (a:i<ls.length),f≠ls[i]:=λ{i} a e=>D (e▸aQ a);refine⟨λr o e=>?_,λr q m k e=>?_⟩
 ·cases r <;> first|(cases e;done)|skip
  case e9=>cases e;exact p
  case iQ=>cases e;exact x
  case nY i =>
   obtain⟨a,c⟩:=b (i:=i) (by rw[e];exact aS o);have g:=aa (hl▸a:i<d.length);have e:(d[i]?.map λw=>HO.lst (bR w))=some o:=e;rw[g] at e;cases e;rw[c];exact A i _ _ (aa a) g
 ·cases r <;> first|exact eL rfl m|skip
  all_goals cases q <;> first|exact eL rfl k|rfl|skip
  case e9.iQ=>exact eL e u
  case e9.nY i =>
   obtain⟨a,c⟩:=b k;exact eL (e.trans c) (v a)
  case iQ.e9=>exact eL e.symm u
  case iQ.nY i =>
   obtain⟨a,c⟩:=b k;exact eL (e.trans c) (y a)
  case nY.e9 i =>
   obtain⟨a,c⟩:=b m;exact eL (e.symm.trans c) (v a)
  case nY.iQ i =>
   obtain⟨a,c⟩:=b m;exact eL (e.symm.trans c) (y a)
  case nY.nY i j =>
   obtain⟨a,c⟩:=b m;obtain⟨E,s⟩:=b k;rw[c,s] at e;have q:ls[i]?=ls[j]?:=by rw[aa a,aa E,e]
   have:=(List.getElem?_inj a nd).mp q
   rw[this]
structure cX(ns:List Int)(rs:List R5):Prop where
 nd:ns.Nodup
 ok:∀r∈rs,r.Ok ns.length
 n1:1<=ns.length
 O2:ns.length<=10
 V0:rs.length<=20
 pos:∀x∈ns,0<=x
structure CL(ns:List Int)(rs:List R5)(s:NS):Prop where
 wl:s.ws.length=rs.length
 w4:∀w∈s.ws,w.length<=4
 fit:∀g,g<3->wW ns.length rs.length (s.R g)
noncomputable abbrev Qn(rs:List R5)(ws:List (List Nat))(g:Nat):List Nat:=ze rs ws g rs.length
theorem zh{rs:List R5}{b:List (List Nat)}{g:Nat}:∀k∈Qn rs b g,k<rs.length:=λk a=>dm.mp (bC.mp a).1
noncomputable def kJ(ns:List Int)(rs:List R5)(o:cX ns rs)(ws:List (List Nat))(g:Nat):RM.Net:=aV ns rs (Qn rs ws g) o.nd o.ok zh
section
variable{K:af}{c:NC}{CT:Addr}{H H':Hp}{loc dx:Role->Addr}{q:TQ}{p tp ln lr:Addr}{n:Nat}{s:NS}{ns:List Int}{rs:List R5}
theorem wY.strAt(O:wY H loc (desc c dx tp loc q s)):Qi c.str H (loc .e9) tp (loc .iQ) s.ws:=by
 refine⟨⟨dx .e9,O.get .e9 _ rfl⟩,(aA s.ws.length).map λi=>loc (.nY i),?_,by rw[ah,bB],λi l w a b=>?_⟩
 ·have:=O.get .iQ _ rfl
  rw[this,dw];rfl
 ·have d:=(ai.mp b).1
  rw[aj,gp d] at a;cases a;exact O.get (.nY i) _ (by show (s.ws[i]?.map _)=_;rw[b];rfl)
theorem wY.KN(O:wY H loc (desc c dx tp loc q s)){g:Nat}(a:g<3):ql c.book H (loc (.book g)) (loc (.fq g)) (s.ts g) :=
 ⟨⟨dx (.book g),O.get (.book g) _ (ee a)⟩,O.get (.fq g) _ (ee a)⟩
theorem qm{f:Nat->V}{m g:Nat}(h:g<m):FG ((aA m).map f) (g:Int)=some (f g):=eY (by rw[aj,gp h];rfl)
theorem dF.OT{l:Addr}{qs:List Addr}{R:Nat->RM.Row}(h:dF K H qs (gH n R))(hl:bP K H l (qs.map V.ref)):wU K H l n R:=by
 have e:qs.length=n:=by rw[h.len];simp[gH]
 refine⟨qs,hl,e,λi p a=>h.at' i p _ a ?_⟩;have b:=(ai.mp a).1;unfold gH;rw[aj,gp ∅];rfl
theorem sA{xs:List Nat}{i:Nat}(h:i<xs.length):FG (bR xs) (i:Int)=some (.int (xs[i]:Nat)):=eY (by rw[aj,aa h];rfl)
end
noncomputable def fD{α:Type}(f:Nat->α)(i:Nat)(v:α):Nat->α:=λg=>if g=i then v else f g
theorem bS{α:Type}{f:Nat->α}{i:Nat}{v:α}:fD f i v i=v:=ee rfl
theorem cZ{α:Type}{f:Nat->α}{i g:Nat}{v:α}(h:g≠i):fD f i v g=f g:=er h
theorem wY.ext{H:Hp}{c loc':Role->Addr}{ob SV:Role->Option HO}(h:wY H c ob)(f:∀r,ob r=SV r)(d:∀r,ob r≠none->c r=loc' r):wY H loc' SV/\∀b,Fp c ob b↔Fp loc' SV b:=by
 have e:ob=SV:=funext f;subst e;refine⟨⟨λr o e=>?_,λr q a b e=>h.inj r q a b ?_⟩,λb=>⟨λ⟨r,a,e⟩=>⟨r,a,(d r a).symm.trans e⟩,λ⟨r,a,e⟩=>⟨r,a,(d r a).trans e⟩⟩⟩
 ·rw[<- d r (by rw[e];exact aS o)]
  exact h.get r o e
 ·rw[d r a,d q b]
  exact e
section
variable{K:af}{c:NC}{H H':Hp}{F:Addr->Prop}{loc dx:Role->Addr}{q:TQ}{p tp:Addr}{n g:Nat}{s:NS}
theorem OU(D:loc .fC=p)(O:wY H loc (desc c dx tp loc q s))(u:∀b,F b↔Fp loc (desc c dx tp loc q s) b)(j:rE K H n q s)(B:g<3){d' d:Addr}(h:H d'=none)
 (S:H' (loc (.book g))=some (.ins c.book d [("kept",.ref d')])) (R:H' d'=some (.dT [])) (G:∀b o,H b=some o->b≠loc (.book g)->H' b=some o) :
 ∃I,fG K c H' I p tp n {s with ts:=fD s.ts g []}/\Step H F H' I:=by
 have A:desc c dx tp loc q s (.book g)≠none:=by
  show (if g<3 then some _ else none)≠none;rw[ee B];exact aS _
 have E:F (loc (.book g)):=(u _).mpr ⟨.book g,A,rfl⟩;have f:∀b o,H b=some o->¬F b->H' b=some o:=λb o e z=>G b o e λw=>z (w▸E);have t:fG K c H F p tp n s:=⟨loc,dx,q,D,O,u,j⟩;have C:=O.set A (.ins c.book d [("kept",.ref d')]);have y:d'≠loc (.book g):=λz=>by
  have:=t.there E
  obtain⟨o,e⟩:=this;rw[z,e] at h;cases h
 have v:(upd H (loc (.book g)) (.ins c.book d [("kept",.ref d')])) d'=none:=by rw[aH y];exact h
 have M:=C.new v (.fq g) (.dT []);have P:wY H' (yI loc (.fq g) d') (jr (jr (desc c dx tp loc q s) (.book g) (.ins c.book d [("kept",.ref d')])) (.fq g) (.dT [])):=by
  refine M.keep λb o e _=>?_;by_cases z:b=d'
  ·rw[z,au] at e
   cases e;rw[z];exact R
  ·rw[aH z] at e
   by_cases m:b=loc (.book g)
   ·rw[m,au] at e
    cases e;rw[m];exact S
   ·rw[aH m] at e
    exact G b o e m
 obtain⟨L,T⟩:=P.ext (SV:=desc c (λr=>if r=.book g then d else dx r) tp (yI loc (.fq g) d') q {s with ts:=fD s.ts g []}) (loc':=yI loc (.fq g) d') (λr=>by
  cases r <;> first|rfl|skip
  ·rename_i k
   show jr (desc c dx tp loc q s) (.book g) _ (.book k)=(if k<3 then some (HO.ins c.book (if Role.book k=.book g then d else dx (.book k)) [("kept",.ref (yI loc (.fq g) d' (.fq k)))]) else none);by_cases z:k=g
   ·subst z
    rw[eF,ee B,ee rfl,jg]
   ·have J:Role.book k≠.book g:=λe=>z (by cases e;rfl)
    have a:Role.fq k≠.fq g:=λe=>z (by cases e;rfl);rw[dM J,er J,jw a];rfl
  ·rename_i k
   show jr (jr (desc c dx tp loc q s) (.book g) _) (.fq g) _ (.fq k)=(if k<3 then some (HO.dT ((fD s.ts g [] k).map fk)) else none);by_cases z:k=g
   ·subst z
    rw[eF,ee B,bS];rfl
   ·have a:Role.fq k≠.fq g:=λe=>z (by cases e;rfl)
    rw[dM a,cZ z];rfl) (λr _=>rfl)
 refine⟨Fp _ _,⟨_,_,q,?_,L,λb=>Iff.rfl,⟨λk Q=>(j.rows k Q).mono λb x=>t.tup f,λi l e=>(j.aD i l e).mono λb x=>t.tup f,j.cps.mono λb x=>t.tup f⟩⟩,f,λb N=>?_⟩
 ·rw[jw (λz=>by cases z)]
  exact D
 ·rcases C.YM ((T b).mpr N) with z|rfl
  ·exact .inl ((u b).mpr ((JI A).mp z))
  ·exact .inr h
theorem W1(B:loc .fC=p)(O:wY H loc (desc c dx tp loc q s))(t:∀b,F b↔Fp loc (desc c dx tp loc q s) b)(j:rE K H n q s)(I:g<3){x:Nat}(U:x<n){a:Addr}{d:RM.Row}(P:cQ K H a (RM.cR d)) :
 ∃E,fG K c (upd H (loc (.rows g)) (.lst (((q.rq g).map V.ref).set x (.ref a)))) E p tp n {s with R:=fD s.R g (RM.upd (s.R g) x d)}/\Step H F (upd H (loc (.rows g)) (.lst (((q.rq g).map V.ref).set x (.ref a)))) E:=by
 have A:desc c dx tp loc q s (.rows g)≠none:=by
  show (if g<3 then some _ else none)≠none;rw[ee I];exact aS _
 have N:F (loc (.rows g)):=(t _).mpr ⟨.rows g,A,rfl⟩;have C:∀b o,H b=some o->¬F b->(upd H (loc (.rows g)) (.lst (((q.rq g).map V.ref).set x (.ref a)))) b=some o:=λb o e z=>by
  have L:b≠loc (.rows g):=λw=>z (w▸N);rw[aH L];exact e
 have S:fG K c H F p tp n s:=⟨loc,dx,q,B,O,t,j⟩;have h:∀{b x},cQ K H b x->_:=λ{b x} e=>S.tup C (b:=b) (x:=x) e;have J:=O.set A (.lst (((q.rq g).map V.ref).set x (.ref a)));obtain⟨M,T⟩:=J.ext (SV:=desc c dx tp loc {q with rq:=fD q.rq g ((q.rq g).set x a)} {s with R:=fD s.R g (RM.upd (s.R g) x d)}) (loc':=loc) (λr=>by
  cases r <;> first|rfl|skip
  rename_i k;show jr (desc c dx tp loc q s) (.rows g) _ (.rows k)=(if k<3 then some (HO.lst ((fD q.rq g ((q.rq g).set x a) k).map V.ref)) else none);by_cases z:k=g
  ·subst z
   rw[eF,ee I,bS,List.map_set]
  ·rw[dM (λe=>z (by cases e;rfl)),cZ z]
   rfl) (λr _=>rfl)
 refine⟨Fp _ _,⟨loc,dx,_,B,M,λb=>Iff.rfl,⟨λk D=>?_,λi l e=>(j.aD i l e).mono λb x=>h,j.cps.mono λb x=>h⟩⟩,C,λb Q=>.inl ((t b).mpr ((JI A).mp ((T b).mpr Q)))⟩;show dF K _ (fD q.rq g ((q.rq g).set x a) k) (gH n (fD s.R g (RM.upd (s.R g) x d) k));by_cases z:k=g
 ·subst z
  rw[bS,bS];have G:=j.rows k D;have y:(q.rq k).length=n:=by rw[G.len];simp[gH]
  refine⟨by rw[bT,y];simp[gH],λi b v f u=>?_⟩;have m:=(ai.mp f).1;rw[bT,y] at m;unfold gH at u;rw[aj,gp m] at u;cases u;rw[uK] at f;by_cases w:x=i
  ·subst w
   rw[ee rfl,ee (by rw[y];exact m)] at f;cases f
   have:RM.upd (s.R k) x d x=d:=by unfold RM.upd;rw[ee rfl]
   show cQ K _ a (RM.cR (RM.upd (s.R k) x d x));rw[this];exact h P
  ·rw[er w] at f
   have:RM.upd (s.R k) x d i=s.R k i:=by unfold RM.upd;rw[er (bL w)]
   show cQ K _ b (RM.cR (RM.upd (s.R k) x d i));rw[this];exact h (G.at' i b _ f (by unfold gH;rw[aj,gp m];rfl))
 ·rw[cZ z,cZ z]
  exact (j.rows k D).mono λb x=>h
end
end TW
namespace TW
open PySem L2 PyProof.Rows
open Classical in
noncomputable def Off(H:Hp)(F:Addr->Prop):Hp:=λb=>if F b then none else H b
section
variable{K:af}{c:NC}{CT:Addr}{H H':Hp}{F F' F1 F2 G:Addr->Prop}{p tp ln lr:Addr}{n:Nat}{s:NS}{ns:List Int}{rs:List R5}
theorem pU{b:Addr}{o:HO}(h:Off H F b=some o):¬F b/\H b=some o:=by
 unfold Off at h;by_cases z:F b
 ·rw[ee z] at h;cases h
 ·rw[er z] at h;exact⟨z,h⟩
theorem qp{b:Addr}{o:HO}(z:¬F b)(h:H b=some o):Off H F b=some o:=by
 unfold Off;rw[er z];exact h
theorem dH:aG (Off H F) H:=λb o e=>(pU e).2
theorem zj(st:Step H F H' F'):aG (Off H F) (Off H' F'):=λb o e=>by
 obtain⟨c,a⟩:=pU e;refine qp (λz=>?_) (st.kp b o a c);rcases st.fr b z with w|w
 ·exact c w
 ·rw[a] at w;cases w
theorem iF(e:aG H H'):aG (Off H F) (Off H' F):=zj (Step.refl' e)
theorem fG.agO(h:fG K c H F p tp n s){b:Addr}{x:List V}(e:cQ K H b x):cQ K (Off H F) b x:=by
 rcases e with (e|⟨o,e⟩)|e
 ·exact .inl (.inl (qp (λz=>(h.Qm z e x).1 rfl) e))
 ·exact .inl (.inr ⟨o,qp (λz=>(h.Qm z e x).2 o rfl) e⟩)
 ·exact .inr e
theorem c7.nw(a:c7 K CT (Off H G) tp ln lr ns rs)(N:fG K c H F p tp ns.length s)(sub:∀b,F b->G b):NW K c CT H F p tp ln lr ns rs s:=by
 obtain⟨⟨g,e⟩,d,h,f,i⟩:=id a;exact⟨N,a.mono dH,λz=>(pU e).1 (sub _ z),λz=>(pU d).1 (sub _ z),λz=>(pU f).1 (sub _ z)⟩
end
def KO(K:af)(H:Hp)(l:Addr)(rs:List R5):Prop:=∃qs:List Addr,H l=some (.lst (qs.map V.ref))/\dF K H qs (rs.map R5.vs)
theorem KO.keep{K:af}{H a:Hp}{l:Addr}{rs:List R5}(h:KO K H l rs)(k:∀o,H l=some o->a l=some o)(f:∀b x,cQ K H b x->cQ K a b x):KO K a l rs:=by
 obtain⟨c,e,d⟩:=h;exact⟨c,k _ e,d.mono f⟩
theorem KO.Qo{K:af}{H:Hp}{l:Addr}:∀{rs:List R5} {qs:List Addr},dF K H qs (rs.map R5.vs)->cW K H (rs.map R5.D) (qs.map V.ref)
 |[],[],_=>rfl
 |[],_::_,h=>by cases h.len
 |_::_,[],h=>by cases h.len
 |r::rs,q::qs,h=>⟨.ref q,qs.map V.ref,rfl,Rep.JB (ns:=r.ns) (h.at' 0 q _ rfl rfl),KO.Qo (l:=l) ⟨Nat.succ.inj h.len,λi p x a b=>h.at' (i+1) p x a b⟩⟩
theorem UH{H c d:Hp}{F:Addr->Prop}{p:Addr}(t:aG H c)(a:H p=none)(f:∀b o,c b=some o->b≠p->d b=some o)(g:∀b,F b->b=p∨c b=none):aG H (Off d F):=λb o e=>qp (λz=>by
 rcases g b z with rfl|w
 ·rw[e] at a;cases a
 ·rw[t _ _ e] at w;cases w) (f b o (t b o e) (aE e a))
end TW
namespace L2
open PySem PySem.Spec PyProof.Rows
structure KP(K:af)(x qual:Str)(st:Stmt)(f:Addr)(fd:FuncData)(dv:Value):Prop where
 ex:∃(oc:Value) (od:Option Addr) (T:Addr) (o:Obj) (n:Nat) (kV doc pm:Value) (an:Option Addr) (cdv ct:Value) (osl:Array (Option Value)),
  fd=eT x qual (jv st) (fX st) (aC st) (.ref T) kV doc pm an cdv ct/\K.lookup f=some ⟨oc,od,.func fd,osl⟩/\jm K cdv qual=true/\K.lookup T=some o/\o.data=.seq #[dv] n
 kp:dX K (.ref f)=true
section
variable{P:Program}{w:World}{K:af}{mg:Str->Option Value}{base:Heap}
theorem KP.ok{x b:Str}{st:Stmt}{f:Addr}{i:FuncData}{m:Value}{N ps:List Str}{k:Nat}{sp:Sp}(F:KP K x b st f i m)(S:aJ N ps (aC st))(e:∀vs H Q E,sp vs H Q E->vs.length=ps.length)
 (d:∀(c:Value) (A:Around) (a:List Env) (s:Shared) (H:Hp) (vs:List V) (Q:VK) (E:XK),jE k (A.deeper (envOfC b (aC st) s.heap.objs.size f c))->sp vs H Q E ->
  ∃t,iC (oj iM P w K mg base N b (aC st) f c A a s H E).Yr (fX st) t/\t {nx:=λ_ l=>Q .fH l,rt:=Q} (start N vs) H):cz P w K mg base iM (k+1) f i ps sp:=by
 obtain⟨y,z,T,o,n,kV,j,v,B,c,C,r,rfl,lk,g,_⟩:=F.ex;refine TM lk g S e λA a s H vs Q E u p=>?_;obtain⟨t,h,q⟩:=d c A a s H vs Q E u p;exact⟨t,h.Yr,q⟩
theorem KP.binds{x a:Str}{st:Stmt}{f:Addr}{i:FuncData}{g:Value}{ps:List Str}{ds:List Value}{m:Nat}(F:KP K x a st f i g)(v:m+ds.length=ps.length)
 (h:∀(T:Addr) (kV b d:Value) (e:Option Addr) (c ct:Value) (us:List Value),us.length=m ->
  ∃k,bindArgs (eT x a (jv st) (fX st) (aC st) (.ref T) kV b d e c ct) ⟨us,[]⟩=seqItems? (.ref T) >>= k/\k (some #[g])=pure (ps.zip (us++ds))):Binds K i ps ds:=by
 obtain⟨w,y,T,o,n,kV,b,d,e,c,ct,q,rfl,lk,u,lt,r⟩:=F.ex;intro s us t j;obtain⟨k,p,l⟩:=h T kV b d e c ct us (by rw[av] at j;lia);exact PySem.W.binds_K t rfl lt r p l
theorem Qp{x a:Str}{st:Stmt}{f T:Addr}{o:Obj}{n:Nat}{i:Value}{j:Value}{m h:Option Addr}{e:Array (Option Value)}{kV d g b ct:Value}(l:K.lookup f=some ⟨j,m,.func (eT x a (jv st) (fX st) (aC st) (.ref T) kV d g h b ct),e⟩)
 (c:jm K b a=true) (k:dX K (.ref f)=true) (lt:K.lookup T=some o) (p:o.data=.seq #[i] n):KP K x a st f (eT x a (jv st) (fX st) (aC st) (.ref T) kV d g h b ct) i:=⟨⟨j,m,T,o,n,kV,d,g,h,b,ct,e,rfl,l,c,lt,p⟩,k⟩
end
end L2
namespace TW
open PySem L2 PyProof.Rows
structure mV(K:af)(c:NC)(H:Hp)(F:Addr->Prop)(loc dx:Role->Addr)(q:TQ)(p tp:Addr)(n:Nat)(s:NS):Prop where
 hp:loc .fC=p
 own:wY H loc (desc c dx tp loc q s)
 fp:∀b,F b↔Fp loc (desc c dx tp loc q s) b
 tup:rE K H n q s
section
variable{K:af}{c:NC}{H H':Hp}{F:Addr->Prop}{loc dx:Role->Addr}{q:TQ}{p tp:Addr}{n:Nat}{s:NS}
theorem mV.fC(h:mV K c H F loc dx q p tp n s):fG K c H F p tp n s:=⟨loc,dx,q,h.hp,h.own,h.fp,h.tup⟩
theorem mV.mono(h:mV K c H F loc dx q p tp n s)(e:aG H H'):mV K c H' F loc dx q p tp n s:=⟨h.hp,h.own.mono e,h.fp,h.tup.mono λb x=>e.dB⟩
theorem AH(X:mV K c H F loc dx q p tp n s){r:Role}(f:desc c dx tp loc q s r≠none){o:HO}{q':TQ}{s':NS}
 (k:∀x,jr (desc c dx tp loc q s) r o x=desc c dx tp loc q' s' x) (d:(∀b x,cQ K H b x->cQ K (upd H (loc r) o) b x)->rE K (upd H (loc r) o) n q' s') :
 mV K c (upd H (loc r) o) F loc dx q' p tp n s'/\Step H F (upd H (loc r) o) F:=by
 obtain⟨g,O,a,l⟩:=X;have j:F (loc r):=(a _).mpr ⟨r,f,rfl⟩;have m:fG K c H F p tp n s:=⟨loc,dx,q,g,O,a,l⟩;have h:∀b u,H b=some u->¬F b->(upd H (loc r) o) b=some u:=λb u e z=>cN b u e λw=>z (w▸j);obtain⟨i,t⟩:=(O.set f o).ext (SV:=desc c dx tp loc q' s') (loc':=loc) k (λx _=>rfl);exact⟨⟨g,i,λb=>(a b).trans ((JI f).symm.trans (t b)),d λb x=>m.tup h⟩,h,λb z=>.inl z⟩
theorem gu{ls:List LS}{i k:Nat}{a:LS}(b:i<ls.length):(ls.set i a)[k]?=if k=i then some a else ls[k]?:=by
 rw[uK];by_cases z:i=k
 ·subst z
  rw[ee rfl,ee b,ee rfl]
 ·rw[er z,er (bL z)]
noncomputable def mW(c:NC)(dx:Role->Addr)(loc:Role->Addr)(i:Nat)(l:LS):HO:=.ins c.post (dx (.bW i)) [("letter",.ref (loc (.letter i))),("group",.int l.grp),("old",.bl l.old),("done_at",.ref (loc (.done i))),("deeds",.ref (loc (.aD i)))]
theorem Xa(X:mV K c H F loc dx q p tp n s){i:Nat}{l:LS}(hl:s.ls[i]?=some l) :
 mV K c (upd H (loc (.bW i)) (mW c dx loc i {l with old:=true})) F loc dx q p tp n {s with ls:=s.ls.set i {l with old:=true}}/\Step H F (upd H (loc (.bW i)) (mW c dx loc i {l with old:=true})) F:=by
 have a:=(ai.mp hl).1;refine AH X (r:=.bW i) (q':=q) (by show (s.ls[i]?.map _)≠none;rw[hl];exact aS _) (λx=>?_) (λb=>⟨λg f=>(X.tup.rows g f).mono b,λk d e=>?_,X.tup.cps.mono b⟩)
 ·cases x <;> first|rfl|skip
  ·show some _=some (HO.lst ((aA (s.ls.set i _).length).map _))
   rw[bT]
  all_goals rename_i k
  ·show jr (desc c dx tp loc q s) (.bW i) _ (.bW k)=((s.ls.set i _)[k]?.map λl=>mW c dx loc k l)
   rw[gu a];by_cases z:k=i
   ·subst z
    rw[eF,ee rfl];rfl
   ·rw[dM (λe=>z (by cases e;rfl)),er z]
    rfl
  ·show (s.ls[k]?.map λl=>rD c (dx (.letter k)) l)=((s.ls.set i _)[k]?.map λl=>rD c (dx (.letter k)) l)
   rw[gu a];by_cases z:k=i
   ·subst z
    rw[ee rfl,hl];rfl
   ·rw[er z]
  ·show (s.ls[k]?.map λl=>HO.dK (l.done.map λh:Nat=>(gC (h:Int),.bl true)))=((s.ls.set i _)[k]?.map λl=>HO.dK (l.done.map λh:Nat=>(gC (h:Int),.bl true)))
   rw[gu a];by_cases z:k=i
   ·subst z
    rw[ee rfl,hl];rfl
   ·rw[er z]
  ·show (s.ls[k]?.map λ_=>HO.lst ((q.dq k).map V.ref))=((s.ls.set i _)[k]?.map λ_=>HO.lst ((q.dq k).map V.ref))
   rw[gu a];by_cases z:k=i
   ·subst z
    rw[ee rfl,hl];rfl
   ·rw[er z]
 ·have e:(s.ls.set i _)[k]?=some d:=e
  rw[gu a] at e;by_cases z:k=i
  ·subst z
   rw[ee rfl] at e;cases e;exact (X.tup.aD k l hl).mono b
  ·rw[er z] at e
   exact (X.tup.aD k d e).mono b
theorem UI(X:mV K c H F loc dx q p tp n s){i:Nat}{l:LS}(hl:s.ls[i]?=some l)(ds:List Nat) :
 mV K c (upd H (loc (.done i)) (.dK (ds.map λh:Nat=>(gC (h:Int),.bl true)))) F loc dx q p tp n {s with ls:=s.ls.set i {l with done:=ds}}/\Step H F (upd H (loc (.done i)) (.dK (ds.map λh:Nat=>(gC (h:Int),.bl true)))) F:=by
 have a:=(ai.mp hl).1;refine AH X (r:=.done i) (q':=q) (by show (s.ls[i]?.map _)≠none;rw[hl];exact aS _) (λx=>?_) (λb=>⟨λg f=>(X.tup.rows g f).mono b,λk d e=>?_,X.tup.cps.mono b⟩)
 ·cases x <;> first|rfl|skip
  ·show some _=some (HO.lst ((aA (s.ls.set i _).length).map _))
   rw[bT]
  all_goals rename_i k
  ·show (s.ls[k]?.map λl=>mW c dx loc k l)=((s.ls.set i _)[k]?.map λl=>mW c dx loc k l)
   rw[gu a];by_cases z:k=i
   ·subst z
    rw[ee rfl,hl];rfl
   ·rw[er z]
  ·show (s.ls[k]?.map λl=>rD c (dx (.letter k)) l)=((s.ls.set i _)[k]?.map λl=>rD c (dx (.letter k)) l)
   rw[gu a];by_cases z:k=i
   ·subst z
    rw[ee rfl,hl];rfl
   ·rw[er z]
  ·show jr (desc c dx tp loc q s) (.done i) _ (.done k)=((s.ls.set i _)[k]?.map λl=>HO.dK (l.done.map λh:Nat=>(gC (h:Int),.bl true)))
   rw[gu a];by_cases z:k=i
   ·subst z
    rw[eF,ee rfl];rfl
   ·rw[dM (λe=>z (by cases e;rfl)),er z]
    rfl
  ·show (s.ls[k]?.map λ_=>HO.lst ((q.dq k).map V.ref))=((s.ls.set i _)[k]?.map λ_=>HO.lst ((q.dq k).map V.ref))
   rw[gu a];by_cases z:k=i
   ·subst z
    rw[ee rfl,hl];rfl
   ·rw[er z]
 ·have e:(s.ls.set i _)[k]?=some d:=e
  rw[gu a] at e;by_cases z:k=i
  ·subst z
   rw[ee rfl] at e;cases e;exact (X.tup.aD k l hl).mono b
  ·rw[er z] at e
   exact (X.tup.aD k d e).mono b
theorem CM(X:mV K c H F loc dx q p tp n s){i:Nat}{l:LS}(hl:s.ls[i]?=some l){a:Addr}{d:dN}(w:cQ K H a d.vs) :
 mV K c (upd H (loc (.aD i)) (.lst ((q.dq i).map V.ref++[.ref a]))) F loc dx {q with dq:=fD q.dq i (q.dq i++[a])} p tp n {s with ls:=s.ls.set i {l with aD:=l.aD++[d]}}/\Step H F (upd H (loc (.aD i)) (.lst ((q.dq i).map V.ref++[.ref a]))) F:=by
 have o:=(ai.mp hl).1;refine AH X (r:=.aD i) (q':={q with dq:=fD q.dq i (q.dq i++[a])}) (by show (s.ls[i]?.map _)≠none;rw[hl];exact aS _) (λx=>?_) (λm=>⟨λg A=>(X.tup.rows g A).mono m,λk v e=>?_,X.tup.cps.mono m⟩)
 ·cases x <;> first|rfl|skip
  ·show some _=some (HO.lst ((aA (s.ls.set i _).length).map _))
   rw[bT]
  all_goals rename_i k
  ·show (s.ls[k]?.map λl=>mW c dx loc k l)=((s.ls.set i _)[k]?.map λl=>mW c dx loc k l)
   rw[gu o];by_cases z:k=i
   ·subst z
    rw[ee rfl,hl];rfl
   ·rw[er z]
  ·show (s.ls[k]?.map λl=>rD c (dx (.letter k)) l)=((s.ls.set i _)[k]?.map λl=>rD c (dx (.letter k)) l)
   rw[gu o];by_cases z:k=i
   ·subst z
    rw[ee rfl,hl];rfl
   ·rw[er z]
  ·show (s.ls[k]?.map λl=>HO.dK (l.done.map λh:Nat=>(gC (h:Int),.bl true)))=((s.ls.set i _)[k]?.map λl=>HO.dK (l.done.map λh:Nat=>(gC (h:Int),.bl true)))
   rw[gu o];by_cases z:k=i
   ·subst z
    rw[ee rfl,hl];rfl
   ·rw[er z]
  ·show jr (desc c dx tp loc q s) (.aD i) _ (.aD k)=((s.ls.set i _)[k]?.map λ_=>HO.lst ((fD q.dq i (q.dq i++[a]) k).map V.ref))
   rw[gu o];by_cases z:k=i
   ·subst z
    rw[eF,ee rfl,bS,aT];rfl
   ·rw[dM (λe=>z (by cases e;rfl)),er z,cZ z]
    rfl
 ·show dF K _ (fD q.dq i (q.dq i++[a]) k) _
  have e:(s.ls.set i _)[k]?=some v:=e;rw[gu o] at e;by_cases z:k=i
  ·subst z
   rw[ee rfl] at e;cases e;rw[bS];show dF K _ _ ((l.aD++[d]).map dN.vs);rw[aT];have u:=(X.tup.aD k l hl).mono m;refine⟨by rw[av,av,u.len];rfl,λj b x t f=>?_⟩;rcases Gk t with t|⟨rfl,rfl⟩
   ·have y:=(ai.mp t).1
    rw[bM (by rw[<- u.len];exact y)] at f;exact u.at' j b x t f
   ·rw[u.len,cu (ay _)] at f
    rw[iY] at f;cases f;exact m _ _ w
  ·rw[er z] at e
   rw[cZ z];exact (X.tup.aD k v e).mono m
theorem Qq(X:mV K c H F loc dx q p tp n s){qs:List Addr}{cps:List Cp}(b:dF K H qs (cps.map Cp.vs)) :
 mV K c (upd H (loc .lP) (.lst (qs.map V.ref))) F loc dx {q with cq:=qs} p tp n {s with cps:=cps}/\Step H F (upd H (loc .lP) (.lst (qs.map V.ref))) F :=
 AH X (r:=.lP) (q':={q with cq:=qs}) (aS _) (λx=>by cases x <;> rfl) (λa=>⟨λg d=>(X.tup.rows g d).mono a,λk l e=>(X.tup.aD k l e).mono a,b.mono a⟩)
theorem UJ(X:mV K c H F loc dx q p tp n s){i:Nat}(d:i<s.had.length)(a:List Nat) :
 mV K c (upd H (loc (.handed i)) (.lst (bR a))) F loc dx q p tp n {s with had:=s.had.set i a}/\Step H F (upd H (loc (.handed i)) (.lst (bR a))) F:=by
 refine AH X (r:=.handed i) (q':=q) (by show (s.had[i]?.map _)≠none;rw[aa d];exact aS _) (λx=>?_) (λb=>⟨λg f=>(X.tup.rows g f).mono b,λk l e=>(X.tup.aD k l e).mono b,X.tup.cps.mono b⟩);cases x <;> first|rfl|skip
 ·show some _=some (HO.lst ((aA (s.had.set i _).length).map _))
  rw[bT]
 ·rename_i k
  show jr (desc c dx tp loc q s) (.handed i) _ (.handed k)=((s.had.set i a)[k]?.map λw=>HO.lst (bR w));rw[uK];by_cases z:k=i
  ·subst z
   rw[eF,ee rfl,ee d];rfl
  ·rw[dM (λe=>z (by cases e;rfl)),er (bL z)]
   rfl
end
theorem GV{α:Type}{xs:List α}{i:Nat}{x:α}(h:xs[i]?=some x):xs.set i x=xs:=by
 obtain⟨a,rfl⟩:=ai.mp h;exact List.set_getElem_self a
noncomputable def yK(c:NC)(DC KQ la da ea:Addr)(n:Nat)(l:LS):Role->Option HO
 |.bW i=>if i=n then some (.ins c.post DC [("letter",.ref la),("group",.int l.grp),("old",.bl l.old),("done_at",.ref da),("deeds",.ref ea)]) else none
 |.letter i=>if i=n then some (rD c KQ l) else none
 |.done i=>if i=n then some (.dK (l.done.map λh:Nat=>(gC (h:Int),.bl true))) else none
 |.aD i=>if i=n then some (.lst []) else none
 |_=>none
noncomputable def newL(pa la da ea:Addr):Role->Addr
 |.bW _=>pa
 |.letter _=>la
 |.done _=>da
 |.aD _=>ea
 |_=>0
section
variable{K:af}{c:NC}{H H':Hp}{F:Addr->Prop}{loc dx:Role->Addr}{q:TQ}{p tp:Addr}{n:Nat}{s:NS}
theorem aay{DC KQ pa la da ea:Addr}{l:LS}(v:H pa=some (.ins c.post DC [("letter",.ref la),("group",.int l.grp),("old",.bl l.old),("done_at",.ref da),("deeds",.ref ea)]))(t:H la=some (rD c KQ l))(x:H da=some (.dK (l.done.map λh:Nat=>(gC (h:Int),.bl true))))(w:H ea=some (.lst []))
 (j:pa≠la) (k:pa≠da) (s:pa≠ea) (m:la≠da) (p:la≠ea) (q:da≠ea):wY H (newL pa la da ea) (yK c DC KQ la da ea n l):=by
 have d:∀{i:Nat} {o:HO} {g:HO},(if i=n then some o else none)=some g->o=g/\i=n:=λ{i o g} e=>by
  by_cases z:i=n
  ·rw[ee z] at e;cases e;exact⟨rfl,z⟩
  ·rw[er z] at e;cases e
 have f:∀{i:Nat} {o:HO},(if i=n then some o else none)≠none->i=n:=λ{i o} e=>by
  by_cases z:i=n
  ·exact z
  ·rw[er z] at e;exact eL rfl e
 refine⟨λr o e=>?_,λr u a b e=>?_⟩
 ·cases r <;> first|(cases e;done)|skip
  ·rw[<- (d e).1];exact v
  ·rw[<- (d e).1];exact t
  ·rw[<- (d e).1];exact x
  ·rw[<- (d e).1];exact w
 ·cases r <;> first|exact eL rfl a|skip
  all_goals cases u <;> first|exact eL rfl b|skip
  all_goals first
   | (rw[f a,f b];done)
   |exact eL e j
   |exact eL e.symm j
   |exact eL e k
   |exact eL e.symm k
   |exact eL e s
   |exact eL e.symm s
   |exact eL e m
   |exact eL e.symm m
   |exact eL e p
   |exact eL e.symm p
   |exact eL e q
   |exact eL e.symm q
theorem UK(C:loc .fC=p)(O:wY H loc (desc c dx tp loc q s))(j:∀b,F b↔Fp loc (desc c dx tp loc q s) b)(m:rE K H n q s){DC KQ pa la da ea:Addr}{l:LS}(R:l.aD=[])
 (X:H pa=some (.ins c.post DC [("letter",.ref la),("group",.int l.grp),("old",.bl l.old),("done_at",.ref da),("deeds",.ref ea)])) (T:H la=some (rD c KQ l)) (h3:H da=some (.dK (l.done.map λh:Nat=>(gC (h:Int),.bl true)))) (Z:H ea=some (.lst []))
 (I:pa≠la) (M:pa≠da) (d3:pa≠ea) (N:la≠da) (Q:la≠ea) (Y:da≠ea) (n1:¬F pa) (n2:¬F la) (n3:¬F da) (n4:¬F ea) :
 ∃E,fG K c (upd H (loc .cT) (.lst (((aA s.ls.length).map λi=>.ref (loc (.bW i)))++[.ref pa]))) E p tp n {s with ls:=s.ls++[l]} /\
  (∀b o,H b=some o->¬F b->(upd H (loc .cT) (.lst (((aA s.ls.length).map λi=>.ref (loc (.bW i)))++[.ref pa]))) b=some o)/\∀b,E b->F b∨b=pa∨b=la∨b=da∨b=ea:=by
 have v:=aay (n:=s.ls.length) (c:=c) X T h3 Z I M d3 N Q Y;have N0:fG K c H F p tp n s:=⟨loc,dx,q,C,O,j,m⟩;have A:desc c dx tp loc q s .cT≠none:=aS _;have L:F (loc .cT):=(j _).mpr ⟨.cT,A,rfl⟩;have t:∀r,yK c DC KQ la da ea s.ls.length l r≠none->¬F (newL pa la da ea r):=λr h=>by
  cases r <;> first|exact eL rfl h|assumption
 have D:∀b o,H b=some o->¬F b->(upd H (loc .cT) (.lst (((aA s.ls.length).map λi=>.ref (loc (.bW i)))++[.ref pa]))) b=some o:=λb u e z=>cN b u e λw=>z (w▸L);have y:∀b x,cQ K H b x->cQ K _ b x:=λb x=>N0.tup D;have J:=O.join v λr U a b e=>t U b (e▸(j _).mpr ⟨r,a,rfl⟩);have S:=J.set (r:=.cT) A (.lst (((aA s.ls.length).map λi=>V.ref (loc (.bW i)))++[.ref pa]));have f:∀{k:Nat},k≠s.ls.length->(s.ls++[l])[k]?=s.ls[k]?:=λ{k} z=>by
  by_cases w:k<s.ls.length
  ·exact bM w
  ·rw[fF (by rw[av];show s.ls.length+1<=k;lia),fF ∅]
 have d:(s.ls++[l])[s.ls.length]?=some l:=by rw[cu (ay _),iY];rfl
 obtain⟨G,F4⟩:=S.ext (SV:=desc c (λr=>if r=.bW s.ls.length then DC else if r=.letter s.ls.length then KQ else dx r) tp (λr=>if (yK c DC KQ la da ea s.ls.length l r).isSome=true then newL pa la da ea r else loc r) {q with dq:=fD q.dq s.ls.length []} {s with ls:=s.ls++[l]})
  (loc':=λr=>if (yK c DC KQ la da ea s.ls.length l r).isSome=true then newL pa la da ea r else loc r) (λr=>by
   cases r <;> first|rfl|skip
   ·
    show some _=some (HO.lst ((aA (s.ls++[l]).length).map _));rw[av];show _=some (HO.lst ((aA (s.ls.length+1)).map _));rw[mF,aT];congr 2;congr 1
    ·refine c6 λi W=>?_
     have z:i≠s.ls.length:=by have:=dm.mp W;lia
     simp[yK,z]
    ·simp[yK,newL]
   all_goals rename_i k
   all_goals by_cases z:k=s.ls.length
   all_goals first|subst z|skip
   all_goals rw[dM (λe=>by cases e)]
   ·simp[yK,newL,desc,d]
   ·have:=f z
    simp[yK,newL,desc,z,this]
   ·simp[yK,newL,desc,d]
   ·have:=f z
    simp[yK,newL,desc,z,this]
   ·simp[yK,newL,desc,d]
   ·have:=f z
    simp[yK,newL,desc,z,this]
   ·simp[yK,newL,desc,d,bS]
   ·have:=f z
    simp[yK,newL,desc,z,this,cZ z]) (λr _=>rfl)
 refine⟨Fp _ _,⟨λr=>if (yK c DC KQ la da ea s.ls.length l r).isSome=true then newL pa la da ea r else loc r,_,_,C,G,λb=>Iff.rfl,⟨λg hg=>(m.rows g hg).mono y,λk B e=>?_,m.cps.mono y⟩⟩,D,λb P=>?_⟩
 ·have e:(s.ls++[l])[k]?=some B:=e
  show dF K _ (fD q.dq s.ls.length [] k) _;by_cases z:k=s.ls.length
  ·subst z
   rw[d] at e;cases e;rw[bS,R];exact⟨rfl,λi b x e=>by cases e⟩
  ·rw[f z] at e
   rw[cZ z];exact (m.aD k B e).mono y
 ·obtain⟨r,a,e⟩:=(JI (ob:=λr=>if (yK c DC KQ la da ea s.ls.length l r).isSome=true then yK c DC KQ la da ea s.ls.length l r else desc c dx tp loc q s r) (r:=.cT) A).mp ((F4 b).mpr P)
  by_cases z:(yK c DC KQ la da ea s.ls.length l r).isSome=true
  ·simp only[z,if_true] at e
   subst e;right;cases r <;> first|(cases z;done)|skip
   ·exact .inl rfl
   ·exact .inr (.inl rfl)
   ·exact .inr (.inr (.inl rfl))
   ·exact .inr (.inr (.inr rfl))
  ·simp only[z,if_false] at a e
   exact .inl ((j b).mpr ⟨r,by simpa using a,by simpa using e⟩)
end
theorem Qs(a b x y:Int):PyData.eqv (.tuple (([a,b]:List Int).map .int)) (.tuple (([x,y]:List Int).map .int))=decide (a=x/\b=y):=by
 show (PyData.eqv (.int a) (.int x)&&(PyData.eqv (.int b) (.int y)&&true))=_;show ((a==x)&&((b==y)&&true))=_;rw[Bool.and_true,iB];simp
noncomputable def oY(s:NS)(i:Nat)(d:dN):NS:=match s.ls[i]? with|some l=>{s with ls:=s.ls.set i {l with aD:=l.aD++[d]}}|none=>s
theorem fL{s:NS}{i:Nat}{d:dN}{l:LS}(h:s.ls[i]?=some l):oY s i d={s with ls:=s.ls.set i {l with aD:=l.aD++[d]}}:=by
 unfold oY;rw[h]
theorem R7{α:Type}{f:α->Bool}{xs:List α}{i:Nat}(a:i<xs.length):(xs.take (i+1)).filter f=(xs.take i).filter f++if f xs[i]=true then [xs[i]] else []:=by
 rw[ju a,fO];congr 1;cases e:f xs[i]
 ·rw[er (!_),r9 (by rw[e];decide)];rfl
 ·rw[ee rfl,r8 e];rfl
theorem dF.snoc{K:af}{H:Hp}{qs:List Addr}{xs:List (List V)}{a:Addr}{x:List V}(h:dF K H qs xs)(e:cQ K H a x):dF K H (qs++[a]) (xs++[x]):=by
 refine⟨by rw[av,av,h.len];rfl,λj b y c d=>?_⟩;rcases Gk c with c|⟨rfl,rfl⟩
 ·have f:=(ai.mp c).1
  rw[bM (by rw[<- h.len];exact f)] at d;exact h.at' j b y c d
 ·rw[h.len,cu (ay _),iY] at d
  cases d;exact e
end TW
namespace RM
variable{N:Net}{S:Nat->Row}
end RM
namespace Gr
end Gr
namespace L2
open PySem PySem.Spec PyProof.Rows
section
variable{X:Cx}{pos:Pos}
theorem sS(i:Nat){x:Str}{e:Expr}{b:TE}{a:Pos}{ps:List Str}{d:Scope}(S:aJ X.N ps d)(h:PE X e b)(c:X.N[i]?=some x:=by rfl)(f:Loc X.env.scope x:=by first|exact Or.inl rfl|exact Or.inr rfl)(g:swapsWith e (some (.Name x a)) pos.line X.env=pure false:=by rfl)(j:X.fn x=true∨X.env.scope.names.lookup x=some .local:=by first|exact .inl rfl|exact .inr rfl|assumption) :
 PS X (.Assign [.Name x a] e pos) (Wg b (iD i)):=ZO S.nd c f h g j
theorem gS(i:Nat){x:Str}(d:X.N.Nodup)(a:X.N[i]?=some x:=by rfl)(c:Loc X.env.scope x:=by first|exact Or.inl rfl|exact Or.inr rfl)(b:X.fn x=true∨X.env.scope.names.lookup x=some .local:=by first|exact .inl rfl|exact .inr rfl|assumption):PG X (.Name x pos) (iD i):=PR d a c b
theorem gT(i:Nat){x:Str}{ps:List Str}{b:Scope}(S:aJ X.N ps b)(a:X.N[i]?=some x:=by rfl)(d:Loc X.env.scope x:=by first|exact Or.inl rfl|exact Or.inr rfl)(c:X.fn x=true∨X.env.scope.names.lookup x=some .local:=by first|exact .inl rfl|exact .inr rfl|assumption):PG X (.Name x pos) (iD i):=PR S.nd a d c
theorem oR{e:Expr}{a:TE}(b:PE X e a):iC X [.Return (some e) pos] (ZI a):=bJ (Te b)
theorem oB{b j pos'}:iC X [.Return (some (.Constant (.bool b) j pos')) pos] (ZI (tC (.bl b))):=bJ (Te PN)
theorem oE{e:Expr}{a:TE}(b:PE X e a)(c:swapsWith e none pos.line X.env=pure false:=by rfl):iC X [.Expr e pos] (Ys a):=bJ (fE b c)
theorem gV{a:Expr}{b:TE}(c:PE X a b)(d:eB a=true:=by rfl):PA X [a] (gG b Cw):=(mQ c iP d)
theorem nZ{a b:Expr}{c d:TE}(f:PE X a c)(e:PE X b d)(g:eB a=true:=by rfl)(h:eB b=true:=by rfl):PA X [a,b] (gG c (gG d Cw)):=(mQ f (mQ e iP h) g)
theorem Ir{a c b:Expr}{d e f:TE}(i:PE X a d)(g:PE X c e)(k:PE X b f)(j:eB a=true:=by rfl)(l:eB c=true:=by rfl)(h:eB b=true:=by rfl):PA X [a,c,b] (gG d (gG e (gG f Cw))):=(mQ i (mQ g (mQ k iP h) l) j)
theorem YO{a d b c:Expr}{e f h g:TE}(l:PE X a e)(j:PE X d f)(n:PE X b h)(p:PE X c g)(m:eB a=true:=by rfl)(o:eB d=true:=by rfl)(k:eB b=true:=by rfl)(i:eB c=true:=by rfl):PA X [a,d,b,c] (gG e (gG f (gG h (gG g Cw)))):=(mQ l (mQ j (mQ n (mQ p iP i) k) o) m)
theorem aN5{c b d e a:Expr}{i g h j f:TE}(q:PE X c i)(o:PE X b g)(t:PE X d h)(r:PE X e j)(s:PE X a f)(l:eB c=true:=by rfl)(m:eB b=true:=by rfl)(p:eB d=true:=by rfl)(n:eB e=true:=by rfl)(k:eB a=true:=by rfl):PA X [c,b,d,e,a] (gG i (gG g (gG h (gG j (gG f Cw))))):=(mQ q (mQ o (mQ t (mQ r (mQ s iP k) n) p) m) l)
theorem SE{d c e f b a:Expr}{k h i l g j:TE}(u:PE X d k)(s:PE X c h)(x:PE X e i)(v:PE X f l)(w:PE X b g)(m:PE X a j)(o:eB d=true:=by rfl)(p:eB c=true:=by rfl)(t:eB e=true:=by rfl)(q:eB f=true:=by rfl)(n:eB b=true:=by rfl)(r:eB a=true:=by rfl):PA X [d,c,e,f,b,a] (gG k (gG h (gG i (gG l (gG g (gG j Cw)))))):=(mQ u (mQ s (mQ x (mQ v (mQ w (mQ m iP r) n) q) t) p) o)
theorem aN7{d c e g b a f:Expr}{m i k n h l j:TE}(y:PE X d m)(w:PE X c i)(B:PE X e k)(z:PE X g n)(A:PE X b h)(p:PE X a l)(o:PE X f j)(s:eB d=true:=by rfl)(t:eB c=true:=by rfl)(x:eB e=true:=by rfl)(u:eB g=true:=by rfl)(r:eB b=true:=by rfl)(v:eB a=true:=by rfl)(q:eB f=true:=by rfl):PA X [d,c,e,g,b,a,f] (gG m (gG i (gG k (gG n (gG h (gG l (gG j Cw))))))):=(mQ y (mQ w (mQ B (mQ z (mQ A (mQ p (mQ o iP q) v) r) u) x) t) s)
theorem kO{N ps:List Str}{b scope:Scope}(S:aJ N ps b)(c:List Str)(a:List (Option Nat))(e:X.env.scope=b:=by rfl)(d:X.N=N:=by rfl)(h:KE scope b N c a=true:=by decide +kernel):jG X scope c a:=RN e d h
end
section
variable{X:Cx}{a b tg iter:Expr}{ta tb:TE}{pos:Pos}{op:CmpOp}{r:R2}{body:List Stmt}{wi:TI}{g:TG}{ts:TS}
theorem xL(d:PE X a ta)(e:PE X b tb)(c:CB b:=by exact λ_ _=>rfl):PE X (.Subscript a b pos) (VX (Rv X.K) ta tb):=P5 P6 d e c
theorem xT(d:PE X a ta)(e:PE X b tb)(c:CB b:=by exact λ_ _=>rfl):PE X (.Subscript a b pos) (VX (Rx X.K) ta tb):=P5 TU d e c
theorem yL(K:af)(c:PE X a ta)(f:PE X b tb)(d:X.K=K:=by rfl)(e:CB b:=by exact λ_ _=>rfl):PE X (.Subscript a b pos) (VX (Rv K) ta tb):=P5 (Ue K d) c f e
theorem yT(K:af)(c:PE X a ta)(f:PE X b tb)(d:X.K=K:=by rfl)(e:CB b:=by exact λ_ _=>rfl):PE X (.Subscript a b pos) (VX (Rx K) ta tb):=P5 (Wx K d) c f e
theorem qE(g:wO X (compareOp op) r)(e:PE X a ta)(f:PE X b tb)(d:op≠.In:=by decide)(c:op≠.NotIn:=by decide):PE X (.Compare a [op] [b] pos) (VX r ta tb):=Wj g e f (Tu b d c)
theorem qT(g:wO X (compareOp op) r)(e:PE X a ta)(f:PE X b tb)(d:op≠.In:=by decide)(c:op≠.NotIn:=by decide):PT X (.Compare a [op] [b] pos) (Tv (VX r ta tb)):=jW g e f (Tu b d c)
theorem fS(a:PI X tg iter wi)(e:PG X tg g)(d:iC X body ts)(b:PassesOwn (model X.prog X.w) X.A X.env X.xe:=by exact PassesOwn.never)(f:X.calm=true:=by rfl)(c:∀x,foldedSetIterable iter X.env x=pure x:=by intro _;rfl):PS X (.For tg iter body [] pos) (acw wi g ts):=ZS b f a e d c
end
section
variable{X:Cx}{x:Str}{p pos:Pos}{e:Expr}{es:List Expr}{te:TE}{t:TA}{id:String}{r:List V->Hp->VK->Prop}
theorem cB(i:nX X (.builtin id) r)(d:X.mg x=none)(c:bootBuiltins x=some (.builtin id))(f:PA X (e::es) t)(h:Gl X x:=by rfl)(j:x≠"__name__" := by decide)(b:(x==("__debug__" : Str))=false:=by decide)
 (g:starEach (e::es) X.env=(false,eval e X.env)::starEach es X.env:=by rfl) (a:(backTo pos (starEach es X.env)).any (·.1)=false:=by rfl):PE X (.Call (.Name x p) (e::es) [] pos) (Hv r t):=L3 i h d c f j b g a
theorem lS(d:X.mg "len" = none)(f:PE X e te)(i:Gl X "len" := by rfl)(b:eB e=true:=by rfl)(h:starEach [e] X.env=(false,eval e X.env)::starEach [] X.env:=by rfl)(a:(backTo pos (starEach [] X.env)).any (·.1)=false:=by rfl) :
 PE X (.Call (.Name "len" p) [e] [] pos) (Hv (λg H Q=>∃p c,g=[.ref p]/\(bP X.K H p c∨cQ X.K H p c)/\Q (.int c.length) H) (gG te Cw)):=L3 Ky i d PySem.boot_len (mQ f iP b) (!_) (!_) h a
end
theorem jL{N P:List Str}{a:Scope}(e:a.kind=.function:=by rfl)(b:a.isCoroutine=false:=by rfl)(f:a.isGenerator=false:=by rfl)(g:N.Nodup:=by decide +kernel)(h:N.take P.length=P:=by rfl)(d:∀x∈P,a.names.lookup x=some .local∨a.names.lookup x=some .cell:=by decide +kernel)(c:∀y∈a.names,y.2≠.free:=by decide +kernel):aJ N P a:=⟨e,b,f,g,h,d,c⟩
structure nW(K:af)(mg:Str->Option Value)(x key:Str)(st:Stmt)(f:Addr)(d:FuncData)(ps:List Str):Prop where
 F:NP K x key st f d
 B:Binds K d ps []
 g:mg x=some (.ref f)
structure jz(K:af)(C:Addr)(x key:Str)(st:Stmt)(f:Addr)(d:FuncData)(ps:List Str):Prop where
 F:NP K x key st f d
 B:Binds K d ps []
 m:Kq K C x f
structure Mv(K:af)(C:Addr)(key:Str)(st:Stmt)(f:Addr)(d:FuncData)(ps:List Str):Prop where
 F:NP K "__init__" key st f d
 B:Binds K d ps []
 M:Mk K C f
def EG(K:af)(mg:Str->Option Value)(x key:Str)(st:Stmt)(f:Addr):Prop:=∃d,NP K x key st f d/\mg x=some (.ref f)
def EM(K:af)(C:Addr)(x key:Str)(st:Stmt)(f:Addr):Prop:=∃d,NP K x key st f d/\Kq K C x f
structure EC(K:af)(C:Addr):Prop where
 c:Iq K C
 YQ:PySem.W.makesIn K C=true
 kc:dX K (.ref C)=true
section
variable{K:af}{h:Heap}{mg:Str->Option Value}{x key:Str}{st:Stmt}{C f:Addr}{oc:Value}{od an:Option Addr}{osl:Array (Option Value)}{kV doc pm cdv ct:Value}
theorem xy(X:K.In h)(G:h.Ns mainGlobals mg)(a:bG K mainGlobals x=some (some (.ref f)))(l:K.lookup f=some ⟨oc,od,.func (eT x key (jv st) (fX st) (aC st) .none kV doc pm an cdv ct),osl⟩)(c:jm K cdv key=true)(k:dX K (.ref f)=true):EG K mg x key st f:=⟨_,Ua l c k,cU X G a⟩
theorem je(a:aI K (.ref C) x=some (some (.ref f)))(i:PySem.W.isFn K (.ref f)=true)(l:K.lookup f=some ⟨oc,od,.func (eT x key (jv st) (fX st) (aC st) .none kV doc pm an cdv ct),osl⟩)(c:jm K cdv key=true)(k:dX K (.ref f)=true):EM K C x key st f:=⟨_,Ua l c k,⟨a,i,k⟩⟩
theorem YR(c:wH K C Str.empty=true)(a:uG K C=true)(d:PySem.W.plainOver K C=true)(e:aI K (.ref C) "__setattr__" = some (some (.builtin "object.__setattr__")))(f:PySem.W.makesIn K C=true)(b:dX K (.ref C)=true):EC K C:=⟨⟨c,a,d,e⟩,f,b⟩
end
section
variable{X:Cx}{k k':Nat}{f C:Addr}{fd:FuncData}{ps:List Str}{sp:Sp}{x m key:Str}{st:Stmt}{p pos apos:Pos}{e o:Expr}{es:List Expr}{ta:TE}{t:TA}
theorem cG(F:cz X.prog X.w X.K X.mg X.base iM k f fd ps sp)(l:jE k' X.A)(c:nW X.K X.mg x key st f fd ps)(h:PA X (e::es) t)(b:k<=k':=by decide)(i:Gl X x:=by rfl)
 (d:(x==("__debug__" : Str))=false:=by decide) (j:starEach (e::es) X.env=(false,eval e X.env)::starEach es X.env:=by rfl) (a:(backTo pos (starEach es X.env)).any (·.1)=false:=by rfl) :
 PE X (.Call (.Name x p) (e::es) [] pos) (Yw sp [] E0 t):=AB F (l.mono b) i c.g c.F.kp c.B .nil mK h d j a
theorem cM{pl:Sem Bool}(j:PE X o ta)(c:Iq X.K C)(u:jz X.K C m key st f fd ps)(F:cz X.prog X.w X.K X.mg X.base iM k f fd ps sp)(l:jE k' X.A)(i:PA X (e::es) t)(b:k<=k':=by decide)
 (d:starEach (e::es) X.env=(false,eval e X.env)::starEach es X.env:=by rfl) (a:(backTo pos (starEach es X.env)).any (·.1)=false:=by rfl)
 (h:eval (.Call (.Attribute o m apos) (e::es) [] pos) X.env=(do
  let g <- eval o X.env
  standAt apos.atName
  let (f,first) <- holding [g] (getMethod g m pl)
  callWith pos f first (backTo pos (starEach (e::es) X.env)) (backToKw pos (keywordEach [] X.env))):=by rfl) :
 PE X (.Call (.Attribute o m apos) (e::es) [] pos) (ER C m sp [] E0 ta t):=Cy j c u.m F (l.mono b) u.B .nil mK i d a h
theorem cI(u:Mv X.K C key st f fd ps)(F:cz X.prog X.w X.K X.mg X.base iM k f fd ps sp)(j:jE k' X.A)(d:X.mg x=some (.ref C))(g:PA X (e::es) t)(b:k+1<=k':=by decide)(h:Gl X x:=by rfl)
 (c:(x==("__debug__" : Str))=false:=by decide) (i:starEach (e::es) X.env=(false,eval e X.env)::starEach es X.env:=by rfl) (a:(backTo pos (starEach es X.env)).any (·.1)=false:=by rfl) :
 PE X (.Call (.Name x p) (e::es) [] pos) (TJ C sp [] E0 t):=PZ u.M F (j.mono b) h d u.B .nil mK g c i a
end
section
variable{P:Program}{w:World}{K:af}{mg:Str->Option Value}{base:Heap}
theorem NP.kh{x a:Str}{st:Stmt}{f:Addr}{e:FuncData}{N ps:List Str}{k:Nat}{sp:Sp}(F:NP K x a st f e)(S:aJ N ps (aC st))
 (i:∀{c:Value} {A:Around} {b:List Env} {s:Shared} {vs:List V} (H:Hp) (Q:VK) (E:XK),jE k (A.deeper (envOfC a (aC st) s.heap.objs.size f c))->sp vs H Q E ->
  ∃t,iC (oj iM P w K mg base N a (aC st) f c A b s H E).Yr (fX st) t/\t {nx:=λ_ g=>Q .fH g,rt:=Q} (start N vs) H) (d:∀vs H Q E,sp vs H Q E->vs.length=ps.length:=by intro _ _ _ _ h;cases h;subst_vars;rfl):cz P w K mg base iM (k+1) f e ps sp:=F.ok S d λ_ _ _ _ H _ Q E j h=>i H Q E j h
theorem NP.Xb{x a:Str}{st:Stmt}{f:Addr}{e:FuncData}{N ps:List Str}{k:Nat}{sp:Sp}(F:NP K x a st f e)(S:aJ N ps (aC st))
 (i:∀{c:Value} {A:Around} {b:List Env} {s:Shared} {vs:List V} (H:Hp) (Q:VK) (E:XK),jE k (A.deeper (envOfC a (aC st) s.heap.objs.size f c))->sp vs H Q E ->
  ∃t,iC (oj (EV P w) P w K mg base N a (aC st) f c A b s H E) (fX st) t/\t {nx:=λ_ g=>Q .fH g,rt:=Q} (start N vs) H) (d:∀vs H Q E,sp vs H Q E->vs.length=ps.length:=by intro _ _ _ _ h;cases h;subst_vars;rfl):cz P w K mg base (EV P w) (k+1) f e ps sp:=F.okX S d λ_ _ _ _ H _ Q E j h=>i H Q E j h
theorem KP.kh{x a:Str}{st:Stmt}{f:Addr}{e:FuncData}{i:Value}{N ps:List Str}{k:Nat}{sp:Sp}(F:KP K x a st f e i)(S:aJ N ps (aC st))
 (j:∀{c:Value} {A:Around} {b:List Env} {s:Shared} {vs:List V} (H:Hp) (Q:VK) (E:XK),jE k (A.deeper (envOfC a (aC st) s.heap.objs.size f c))->sp vs H Q E ->
  ∃t,iC (oj iM P w K mg base N a (aC st) f c A b s H E).Yr (fX st) t/\t {nx:=λ_ g=>Q .fH g,rt:=Q} (start N vs) H) (d:∀vs H Q E,sp vs H Q E->vs.length=ps.length:=by intro _ _ _ _ h;cases h;subst_vars;rfl):cz P w K mg base iM (k+1) f e ps sp:=F.ok S d λ_ _ _ _ H _ Q E l h=>j H Q E l h
end
end L2
namespace L2
open PySem PySem.W PySem.Spec PyProof.Rows
noncomputable def Xc:Bool->Keyed->Array Keyed->Nat->Nat->Nat->StateT SortSt Sem (Option Nat):=sortPriv% PySem.Builtin.gallop
noncomputable def UL:Array Keyed->Array Keyed->StateT SortSt Sem (Array Keyed):=sortPriv% PySem.Builtin.mergeLo
noncomputable def UM:Array Keyed->Array Keyed->StateT SortSt Sem (Array Keyed):=sortPriv% PySem.Builtin.mergeHi
section
variable{prog:Program}{w:World}{A:Around}{E:Value->Shared->Prop}{s:Shared}{κ:SortKind}{a₀:Array Keyed}{r:Keyed->Int}
def R8(prog:Program)(w:World)(A:Around)(s:Shared)(κ:SortKind)(a₀:Array Keyed)(r:Keyed->Int):Prop :=
 ∀x y,x∈a₀->y∈a₀->∀(E:Value->Shared->Prop) (C:Bool->Shared->Prop),C (decide (r x<r y)) s->wpAny (model prog w) A (keyLt' κ x.1 y.1) C E s
theorem qR{st:SortSt}{x y:Keyed}{Q:Option Bool->SortSt->Prop}(d:R8 prog w A s κ a₀ r)(a:kindOf st=κ)(c:x∈a₀)(b:y∈a₀)(h:Q (some (decide (r x<r y))) st):wpS (model prog w) A E s (lt' x y) Q st:=by
 rw[lt'_eq];refine wpS_bind (wpS_get ?_);rw[a];refine wpS_bind (wpS_lift (wpAny_attempt (d _ _ c b _ _ ⟨rfl,?_⟩)));exact wpS_pure h
theorem jM{st:SortSt}{a:Array Keyed}{i:Nat}{x:Keyed}{Q:Keyed->SortSt->Prop}(e:a[i]?=some x)(h:Q x st):wpS (model prog w) A E s (elem' a i) Q st:=by
 rw[elem'_eq,e];exact wpS_pure h
noncomputable def AI(l:Bool)(u v:Int):Bool:=if l then decide (u<v) else !decide (v<u)
theorem UN{st:SortSt}{l:Bool}{c x:Keyed}{a:Array Keyed}{i:Nat}{Q:Option Bool->SortSt->Prop}(j:R8 prog w A s κ a₀ r)(d:kindOf st=κ)(g:x∈a₀)(f:c∈a₀)(e:a[i]?=some x)
 (h:Q (some (AI l (r x) (r c))) st):wpS (model prog w) A E s (do let x <- elem' a i;if l=true then lt' x c else do let b <- lt' c x;pure (b.map (!·))) Q st:=by
 refine wpS_bind (jM e ?_);cases l
 ·exact wpS_bind (qR j d f g (wpS_pure h))
 ·exact qR j d g f h
def Sl(a₀ a:Array Keyed)(r:Keyed->Int)(b n:Nat)(f:Nat->Int):Prop:=∀i,i<n->∃x,a[b+i]?=some x/\x∈a₀/\r x=f i
def Up(f:Nat->Int)(n:Nat):Prop:=∀i j,i<=j->j<n->f i<=f j
theorem UO{l:Bool}{f:Nat->Int}{v:Int}{n:Nat}(h:Up f n):∀i j,i<=j->j<n->AI l (f j) v=true->AI l (f i) v=true:=λi j a b c=>by
 have:=h i j a b
 unfold AI at *;cases l <;> simp at*<;> lia
theorem YS{st:SortSt}{B:Nat->Bool}{n lo f:Nat}{g:Nat->Option (Option Nat)×Nat×Nat->StateT SortSt Sem (ForInStep (Option (Option Nat)×Nat×Nat))}{Q:Option (Option Nat)×Nat×Nat->SortSt->Prop}
 (C:∀x p q R,q<=p->R (.done (none,p,q)) st->wpS (model prog w) A E s (g x (none,p,q)) R st)
 (D:∀x p q R,p<q->q<=n->R (.yield (if B (p+(q-p)/2)=true then (none,p+(q-p)/2+1,q) else (none,p,p+(q-p)/2))) st->wpS (model prog w) A E s (g x (none,p,q)) R st)
 (v:∀i j,i<=j->j<n->B j=true->B i=true) (t:lo<=f) (F:f<=n) (u:∀i,i<lo->B i=true) (r:∀i,f<=i->i<n->B i=false)
 (h:∀k,k<=n->(∀i,i<k->B i=true)->(∀i,k<=i->i<n->B i=false)->Q (none,k,k) st):wpS (model prog w) A E s (forIn [0:n] (none,lo,f) g) Q st:=by
 refine wpS_forRange (I:=λx c d=>d=st/\∃p q,c=(none,p,q)/\p<=q/\q<=n/\q-p<=n-x/\(∀i,i<p->B i=true)/\∀i,q<=i->i<n->B i=false) ?_ ?_ ⟨rfl,lo,f,rfl,t,F,∅,u,r⟩
 ·rintro x c d _ H ⟨rfl,p,q,rfl,z,l,G,m,o⟩
  by_cases e:q<=p
  ·refine C _ _ _ _ e ?_
   have:q=p:=∅
   subst this;exact h q l m o
  ·refine D _ _ _ _ ∅ l ?_
   cases b:B (p+(q-p)/2)
   ·exact⟨rfl,p,_,rfl,∅,∅,∅,m,λi a c=>by
     cases y:B i with
     |false=>rfl
     |true=>rw[v _ i a c y] at b;cases b⟩
   ·exact⟨rfl,_,q,rfl,∅,∅,∅,λi a=>v i _ ∅ ∅ b,o⟩
 ·rintro c d ⟨rfl,p,q,rfl,z,l,G,m,o⟩
  have:q=p:=∅
  subst this;exact h q l m o
theorem R9{st:SortSt}{l:Bool}{g:Keyed}{a:Array Keyed}{base n d:Nat}{f:Nat->Int}{Q:Option Nat->SortSt->Prop}(L:R8 prog w A s κ a₀ r)(M:kindOf st=κ)(o:g∈a₀)(O:Sl a₀ a r base n f)(U:Up f n)(X:d<n)
 (h:∀k,k<=n->(∀i,i<k->AI l (f i) (r g)=true)->(∀i,k<=i->i<n->AI l (f i) (r g)=false)->Q (some k) st):wpS (model prog w) A E s (Xc l g a base n d) Q st:=by
 have K:=UO (l:=l) (v:=r g) U;have N:∀i j,i<=j->j<n->AI l (f i) (r g)=false->AI l (f j) (r g)=false:=λi j a b c=>by
  cases e:AI l (f j) (r g) with
  |false=>rfl
  |true=>rw[K i j a b e] at c;cases c
 obtain⟨x0,V,W,Y⟩:=O d X;refine wpS_bind (UN L M W o V ?_);rw[Y];dsimp only;cases T:AI l (f d) (r g)
 all_goals (simp only[if_true,mq,if_false])
 ·refine wpS_bind (wpS_mono (wpS_forRange (I:=λx c m=>m=st/\∃p q,c=(none,p,q)/\p<q/\x<q/\p<=d/\AI l (f (d-p)) (r g)=false)
   (Q:=λc m=>m=st/\∃p q,c=(none,p,q)/\p<q/\p<=d/\AI l (f (d-p)) (r g)=false/\(d+1<=q∨AI l (f (d-q)) (r g)=true)) ?_ ?_ ?_) ?k1)
  ·rintro x c m _ hx ⟨rfl,p,q,rfl,D,P,y,u⟩
   dsimp only;by_cases t:q≥d+1
   ·rw[ee t]
    exact wpS_pure ⟨rfl,p,q,rfl,D,y,u,.inl t⟩
   ·rw[er t]
    obtain⟨S,F,H,G⟩:=O (d-q) ∅;refine wpS_bind (UN L M H o F ?_);rw[G];dsimp only;cases J:AI l (f (d-q)) (r g)
    ·simp only[mq,if_false]
     exact wpS_pure ⟨rfl,q,_,rfl,∅,∅,∅,J⟩
    ·simp only[if_true]
     exact wpS_pure ⟨rfl,p,q,rfl,D,y,u,.inr J⟩
  ·rintro c m ⟨rfl,p,q,rfl,D,P,y,u⟩
   exact⟨rfl,p,q,rfl,D,y,u,.inl ∅⟩
  ·exact⟨rfl,0,1,rfl,∅,∅,∅,T⟩
  case k1 =>
  rintro c m ⟨rfl,p,q,rfl,D,y,u,h5⟩;dsimp only;refine wpS_bind (YS (B:=λi=>AI l (f i) (r g)) (λx p q R C k=>?_) (λx p q R C Z k=>?_) K ∅ ∅ (λi hi=>?_) (λi a b=>N _ i a b u) λk a b c=>wpS_pure (h k a b c))
  case refine_1=>dsimp only;rw[ee C];exact wpS_pure k
  case refine_2 =>
   dsimp only;rw[er ∅];obtain⟨S,F,H,G⟩:=O (p+(q-p)/2) ∅;refine wpS_bind (UN L M H o F ?_);rw[G];dsimp only at k ⊢;cases z:AI l (f (p+(q-p)/2)) (r g) <;> rw[z] at k <;> exact wpS_pure k
  rcases h5 with h5|h5
  ·lia
  ·exact K i _ ∅ ∅ h5
 ·refine wpS_bind (wpS_mono (wpS_forRange (I:=λx c m=>m=st/\∃p q,c=(none,p,q)/\p<q/\x<q/\d+p<n/\AI l (f (d+p)) (r g)=true)
   (Q:=λc m=>m=st/\∃p q,c=(none,p,q)/\p<q/\d+p<n/\AI l (f (d+p)) (r g)=true/\(n-d<=q∨AI l (f (d+q)) (r g)=false)) ?_ ?_ ?_) ?k1)
  ·rintro x c m _ hx ⟨rfl,p,q,rfl,D,P,y,u⟩
   dsimp only;by_cases t:q≥n-d
   ·rw[ee t]
    exact wpS_pure ⟨rfl,p,q,rfl,D,y,u,.inl t⟩
   ·rw[er t]
    obtain⟨S,F,H,G⟩:=O (d+q) ∅;refine wpS_bind (UN L M H o F ?_);rw[G];dsimp only;cases J:AI l (f (d+q)) (r g)
    ·exact wpS_pure ⟨rfl,p,q,rfl,D,y,u,.inr J⟩
    ·exact wpS_pure ⟨rfl,q,_,rfl,∅,∅,∅,J⟩
  ·rintro c m ⟨rfl,p,q,rfl,D,P,y,u⟩
   exact⟨rfl,p,q,rfl,D,y,u,.inl ∅⟩
  ·exact⟨rfl,0,1,rfl,∅,∅,∅,T⟩
  case k1 =>
  rintro c m ⟨rfl,p,q,rfl,D,y,u,h5⟩;dsimp only;refine wpS_bind (YS (B:=λi=>AI l (f i) (r g)) (λx p q R C k=>?_) (λx p q R C Z k=>?_) K ∅ ∅ (λi hi=>K i _ ∅ y u) (λi a b=>?_) λk a b c=>wpS_pure (h k a b c))
  case refine_1=>dsimp only;rw[ee C];exact wpS_pure k
  case refine_2 =>
   dsimp only;rw[er ∅];obtain⟨S,F,H,G⟩:=O (p+(q-p)/2) ∅;refine wpS_bind (UN L M H o F ?_);rw[G];dsimp only at k ⊢;cases z:AI l (f (p+(q-p)/2)) (r g) <;> rw[z] at k <;> exact wpS_pure k
  rcases h5 with h5|h5
  ·lia
  ·exact N _ i ∅ b h5
structure MI(r:Keyed->Int)(T out X Y:List Keyed):Prop where
 p:(out++(X++Y)).Perm T
 so:out.Pairwise λx y=>r x<=r y
 sx:X.Pairwise λx y=>r x<=r y
 sy:Y.Pairwise λx y=>r x<=r y
 le:∀x∈out,∀y∈X++Y,r x<=r y
theorem MI.swap{T a X Y:List Keyed}(h:MI r T a X Y):MI r T a Y X:=⟨((List.perm_append_comm).append_left a).trans h.p,h.so,h.sy,h.sx,λx c y b=>h.le x c y (by simp only[br] at *;exact b.symm)⟩
theorem MI.a{T b X Y:List Keyed}{x y:Keyed}(h:MI r T b (x::X) (y::Y))(c:r x<=r y):MI r T (b++[x]) X (y::Y):=by
 have d:=rZ.mp h.sx;have e:=rZ.mp h.sy;refine⟨by simpa using h.p,List.pairwise_append.mpr ⟨h.so,-_,λu hu v hv=>?_⟩,d.2,h.sy,λu hu v hv=>?_⟩
 ·rw[bq] at hv;subst hv
  exact h.le u hu v (-_)
 ·rcases br.mp hu with hu|hu
  ·exact h.le u hu v (by simp at hv ⊢;exact .inr hv)
  ·rw[bq] at hu;subst hu
   rcases br.mp hv with hv|hv
   ·exact d.1 v hv
   ·rcases bf.mp hv with rfl|hv
    ·exact c
    ·exact qV c (e.1 v hv)
theorem MI.as{T Y:List Keyed}{y:Keyed}:∀{out X Z:List Keyed},MI r T out (Z++X) (y::Y)->(∀x∈Z,r x<=r y)->MI r T (out++Z) X (y::Y)
 |out,X,[],h,_=>by simpa using h
 |out,X,z::Z,h,b=>by
  have:=MI.as (Z:=Z) (MI.a h (b z (-_))) λx c=>b x (by simp[c])
  simpa using this
theorem MI.fin{T a X:List Keyed}(h:MI r T a X []):(a++X).Perm T/\(a++X).Pairwise λx y=>r x<=r y :=
 ⟨by simpa using h.p,List.pairwise_append.mpr ⟨h.so,h.sx,λu b v c=>h.le u b v (by simp[c])⟩⟩
theorem MI.last{T a Y:List Keyed}{x:Keyed}(h:MI r T a [x] Y)(hl:∀y∈Y,r y<=r x):(a++Y++[x]).Perm T/\(a++Y++[x]).Pairwise λx y=>r x<=r y:=by
 refine⟨((List.perm_append_comm (l₁:=Y) (l₂:=[x])).append_left a).trans h.p |> (by simpa using ·),List.pairwise_append.mpr ⟨List.pairwise_append.mpr ⟨h.so,h.sy,λu hu v b=>h.le u hu v (by simp[b])⟩,-_,λu hu v b=>?_⟩⟩;rw[bq] at b;subst b;rcases br.mp hu with hu|hu
 ·exact h.le u hu v (-_)
 ·exact hl u hu
theorem drop_cons{a:Array Keyed}{i:Nat}(h:i<a.size):a.toList.drop i=a[i]::a.toList.drop (i+1):=by
 rw[pP (by simpa using h)];simp
theorem drop_take{a:Array Keyed}{i k:Nat}:a.toList.drop i=(a.extract i (i+k)).toList++a.toList.drop (i+k):=by
 rw[Array.toList_extract,pO];rw[show i+k-i=k by lia,<- List.drop_drop,vI]
theorem Gm{a:Array Keyed}{i:Nat}:(a.extract i a.size).toList=a.toList.drop i:=by
 rw[Array.toList_extract,pO,gi (-_)]
theorem UP{α β:Type}{G:Prop}{C P:α->β->Prop}(h:(∀x y,C x y->P x y)->G)(k:∀x y,C x y->P x y):G:=h k
theorem ade{α:Type}{G:Prop}{P:α->Prop}(h:(∀x,P x)->G)(k:∀x,P x):G:=h k
noncomputable def fv(r:Keyed->Int)(a:Array Keyed)(b i:Nat):Int:=((a[b+i]?).map r).getD 0
theorem n9{a:Array Keyed}{b i:Nat}(h:b+i<a.size):fv r a b i=r (a[b+i]):=by unfold fv;rw[getElem?_pos a (b+i) h];rfl
theorem Mw{a:Array Keyed}{b n:Nat}(m:∀x∈a,x∈a₀)(h:b+n<=a.size):Sl a₀ a r b n (fv r a b):=λi c=>⟨a[b+i],getElem?_pos a _ ∅,m _ (bK _),(n9 ∅).symm⟩
abbrev FJ(r:Keyed->Int)(l:List Keyed):Prop:=l.Pairwise λx y=>r x<=r y
theorem FJ.le{a:Array Keyed}{i j:Nat}(h:FJ r a.toList)(b:i<=j)(c:j<a.size):r a[i]<=r a[j]:=by
 by_cases e:i=j
 ·subst e;exact jn _
 ·have:=pN.mp h i j (by simpa using (by lia:i<a.size)) (by simpa using c) ∅
  simpa using this
theorem Qt{a:Array Keyed}{b n:Nat}(d:FJ r a.toList)(h:b+n<=a.size):Up (fv r a b) n:=λi j c e=>by
 rw[n9 ∅,n9 ∅];exact d.le ∅ ∅
theorem Qu{a:Array Keyed}{i k:Nat}{x:Keyed}(h:x∈(a.extract i (i+k)).toList)(c:i+k<=a.size):∃j,∃h:j<k,x=a[i+j]:=by
 obtain⟨j,b,e⟩:=Array.mem_iff_getElem.mp (gZ.mp h);rw[mw] at b;exact⟨j,∅,by rw[<- e,gE]⟩
noncomputable abbrev setG(st:SortSt)(g:Nat):SortSt:=SortSt.mk' (kindOf st) (arrOf st) (pendingOf st) g (failedOf st)
theorem agQ{st:SortSt}{a b:Array Keyed}{Q:Array Keyed->SortSt->Prop}(hc:R8 prog w A s κ a₀ r)(hk:kindOf st=κ)(ma:∀x∈a,x∈a₀)(mb:∀x∈b,x∈a₀)(sa:FJ r a.toList)(sb:FJ r b.toList)
 (ha:0<a.size) (hb:0<b.size) (h0:r b[0]<=r a[0]) (hl:∀y∈b,r y<=r a[a.size-1])
 (h:∀out g,out.toList.Perm (a.toList++b.toList)->FJ r out.toList->Q out (setG st g)):wpS (model prog w) A E s (UL a b) Q st:=by
 have V:∀{out:Array Keyed} {d f:Nat},MI r (a.toList++b.toList) out.toList (a.toList.drop d) (b.toList.drop f)->(f=b.size∨d=a.size)->(out++a.extract d a.size++b.extract f b.size).toList.Perm (a.toList++b.toList)/\FJ r (out++a.extract d a.size++b.extract f b.size).toList:=λ{out d f} m e=>by
  rw[cP,cP,Gm,Gm];rcases e with e|e
  ·subst e
   rw[iL (l:=b.toList) (-_)] at m ⊢;rw[bY];exact m.fin
  ·subst e
   rw[iL (l:=a.toList) (-_)] at m ⊢;rw[bY];exact m.swap.fin
 have fin2:∀{out:Array Keyed} {d f:Nat},MI r (a.toList++b.toList) out.toList (a.toList.drop d) (b.toList.drop f)->d+1=a.size->(out++b.extract f b.size++a.extract d a.size).toList.Perm (a.toList++b.toList)/\FJ r (out++b.extract f b.size++a.extract d a.size).toList:=λ{out d f} m e=>by
  rw[cP,cP,Gm,Gm];have U:a.toList.drop d=[a[a.size-1]]:=by
   rw[drop_cons ∅,iL (by simp;lia)];congr 2;lia
  rw[U] at m ⊢;exact m.last λy hy=>hl y (by simpa using List.mem_of_mem_drop hy)
 have pB:∀{out:Array Keyed} {d f:Nat} (u:d<a.size) (p:f<b.size),MI r (a.toList++b.toList) out.toList (a.toList.drop d) (b.toList.drop f)->r b[f]<=r a[d]->MI r (a.toList++b.toList) (out.push b[f]).toList (a.toList.drop d) (b.toList.drop (f+1)):=λ{out d f} u p m e=>by
  rw[drop_cons u,drop_cons p] at m;rw[uL,drop_cons u];exact (m.swap.a e).swap
 have pA:∀{out:Array Keyed} {d f:Nat} (u:d<a.size) (p:f<b.size),MI r (a.toList++b.toList) out.toList (a.toList.drop d) (b.toList.drop f)->r a[d]<=r b[f]->MI r (a.toList++b.toList) (out.push a[d]).toList (a.toList.drop (d+1)) (b.toList.drop f):=λ{out d f} u p m e=>by
  rw[drop_cons u,drop_cons p] at m;rw[uL,drop_cons p];exact m.a e
 have tA:∀{out:Array Keyed} {d f k:Nat} (u:d+k<=a.size) (p:f<b.size),MI r (a.toList++b.toList) out.toList (a.toList.drop d) (b.toList.drop f)->(∀j,(h:j<k)->r a[d+j]<=r b[f])->MI r (a.toList++b.toList) (out++a.extract d (d+k)).toList (a.toList.drop (d+k)) (b.toList.drop f):=λ{out d f k} u p m e=>by
  rw[drop_take (k:=k),drop_cons p] at m;rw[cP,drop_cons p];refine m.as λx T=>?_;obtain⟨j,O,rfl⟩:=Qu T u;exact e j O
 have tB:∀{out:Array Keyed} {d f k:Nat} (u:d<a.size) (p:f+k<=b.size),MI r (a.toList++b.toList) out.toList (a.toList.drop d) (b.toList.drop f)->(∀j,(h:j<k)->r b[f+j]<=r a[d])->MI r (a.toList++b.toList) (out++b.extract f (f+k)).toList (a.toList.drop d) (b.toList.drop (f+k)):=λ{out d f k} u p m e=>by
  rw[drop_take (a:=b) (k:=k),drop_cons u] at m;rw[cP,drop_cons u];refine (m.swap.as λx T=>?_).swap;obtain⟨j,O,rfl⟩:=Qu T p;exact e j O
 have m0:MI r (a.toList++b.toList) (#[]:Array Keyed).toList (a.toList.drop 0) (b.toList.drop 0):=⟨-_,-_,by simpa using sa,by simpa using sb,λx T=>by simp at T⟩;have m1:=pB ha hb m0 h0;refine wpS_bind (wpS_lift (wpAny_rule ⟨rfl,?_⟩));refine wpS_bind (jM (getElem?_pos b 0 hb) ?_);dsimp only;by_cases U:1=b.size
 ·rw[ee (by simp[<- U])]
  exact wpS_pure (h _ (gallopOf st) (V m1 (.inl U)).1 (V m1 (.inl U)).2)
 rw[er (by simpa using U)];by_cases e2:0+1=a.size
 ·rw[ee (by simp[<- e2])]
  exact wpS_pure (h _ (gallopOf st) (fin2 m1 e2).1 (fin2 m1 e2).2)
 rw[er (by simpa using e2)];refine wpS_bind (wpS_get ?_);refine wpS_bind (wpS_mono (wpS_forRange (I:=λx c J=>∃out d f B g,c=(none,out,d,f,B)/\J=setG st g/\MI r (a.toList++b.toList) out.toList (a.toList.drop d) (b.toList.drop f)/\d+1<a.size/\f<b.size/\x<d+f)
  (Q:=λc J=>∃res g t,c=(some res,t)/\J=setG st g/\res.toList.Perm (a.toList++b.toList)/\FJ r res.toList) ?_ ?_ ⟨_,_,_,_,gallopOf st,rfl,rfl,m1,∅,∅,∅⟩) ?_)
 ·rintro x c J _ T ⟨out,d,f,B,g,rfl,rfl,m,u,p,S⟩
  dsimp only;refine wpS_bind (wpS_mono (wpS_forRange (I:=λy c n=>∃out D F G H,c=(none,out,D,F,G,H)/\n=setG st g/\MI r (a.toList++b.toList) out.toList (a.toList.drop D) (b.toList.drop F)/\D+1<a.size/\F<b.size/\d+f+y<=D+F)
   (Q:=λc n=>n=setG st g/\((∃res t,c=(some res,t)/\res.toList.Perm (a.toList++b.toList)/\FJ r res.toList)∨∃out D F G H,c=(none,out,D,F,G,H)/\MI r (a.toList++b.toList) out.toList (a.toList.drop D) (b.toList.drop F)/\D+1<a.size/\F<b.size/\d+f<D+F)) ?_ ?_ ⟨_,_,_,_,_,rfl,rfl,m,u,p,∅⟩) ?_)
  ·rintro y c n _ hy ⟨out,D,F,G,H,rfl,rfl,m,u,p,S⟩
   dsimp only;refine wpS_bind (jM (getElem?_pos b F p) (wpS_bind (jM (getElem?_pos a D ∅) (wpS_bind (qR hc hk (mb _ (bK _)) (ma _ (bK _)) ?_)))));dsimp only;by_cases W:r b[F]<r a[D]
   ·rw[ee (fy W)]
    have z:=pB ∅ p m ∅;refine wpS_bind (jM (getElem?_pos b F p) ?_);by_cases e:F+1=b.size
    ·rw[ee (by simp[e])]
     exact wpS_pure ⟨rfl,.inl ⟨_,_,rfl,V z (.inl e)⟩⟩
    rw[er (by simpa using e)];by_cases Y:H+1≥B
    ·rw[ee Y]
     exact wpS_pure ⟨rfl,.inr ⟨_,_,_,_,_,rfl,z,u,∅,∅⟩⟩
    ·rw[er Y]
     exact wpS_pure ⟨_,_,_,_,_,rfl,rfl,z,u,∅,∅⟩
   ·rw[er (by simpa using W)]
    have z:=pA ∅ p m ∅;refine wpS_bind (jM (getElem?_pos a D ∅) ?_);by_cases e:D+1+1=a.size
    ·rw[ee (by simp[e])]
     exact wpS_pure ⟨rfl,.inl ⟨_,_,rfl,fin2 z e⟩⟩
    rw[er (by simpa using e)];by_cases Y:G+1≥B
    ·rw[ee Y]
     exact wpS_pure ⟨rfl,.inr ⟨_,_,_,_,_,rfl,z,∅,∅,∅⟩⟩
    ·rw[er Y]
     exact wpS_pure ⟨_,_,_,_,_,rfl,rfl,z,∅,∅,∅⟩
  ·rintro c n ⟨out,D,F,G,H,rfl,rfl,m,u,p,S⟩
   lia
  rintro c n ⟨rfl,⟨res,t,rfl,p1,Z⟩|⟨out,D,F,G,H,rfl,m,u,p,h3'⟩⟩
  ·exact wpS_pure ⟨_,_,_,rfl,rfl,p1,Z⟩
  dsimp only;refine wpS_bind (wpS_lift (wpAny_rule ⟨rfl,?_⟩));refine wpS_bind (wpS_mono (wpS_forRange (I:=λy c n=>∃out v q B G H g,c=(none,out,v,q,B,G,H)/\n=setG st g/\MI r (a.toList++b.toList) out.toList (a.toList.drop v) (b.toList.drop q)/\v+1<a.size/\q<b.size/\D+F<=v+q)
   (Q:=λc n=>∃g,n=setG st g/\((∃res t,c=(some res,t)/\res.toList.Perm (a.toList++b.toList)/\FJ r res.toList)∨∃out v q B G H,c=(none,out,v,q,B,G,H)/\MI r (a.toList++b.toList) out.toList (a.toList.drop v) (b.toList.drop q)/\v+1<a.size/\q<b.size/\D+F<=v+q)) ?_ ?_ ⟨_,_,_,_,_,_,_,rfl,rfl,m,u,p,∅⟩) ?_)
  ·rintro y c n _ hy ⟨out,v,q,B,G,H,g,rfl,rfl,m,u,p,S⟩
   dsimp only;refine ade (α:=Nat) (λK=>by
    by_cases hm:B > 1
    ·rw[ee hm]
     generalize B-1=mg';exact K mg'
    ·rw[er hm]
     exact K B) ?_
   intro B;refine wpS_bind (wpS_modify (wpS_bind (jM (getElem?_pos b q p) (wpS_bind (R9 (st:=setG st B) hc hk (mb _ (bK _)) (Mw ma ∅) (Qt sa ∅) ∅ λk hk1 hk2 YK=>?_)))));dsimp only;refine UP (α:=Array Keyed) (β:=Nat) (C:=λo i=>MI r (a.toList++b.toList) o.toList (a.toList.drop i) (b.toList.drop q)/\i+1<a.size/\v<=i/\∀h:i<a.size,r b[q]<=r a[i]) (λK=>by
    have lo:∀j,(h:j<k)->r a[v+j]<=r b[q]:=λj O=>by
     have:=hk2 j O
     rw[n9 ∅] at this
     simpa [AI] using this
    have R:∀h:v+k<a.size,r b[q]<=r a[v+k]:=λhh=>by
     have:=YK k (ay _) ∅
     rw[n9 hh] at this;simp[AI] at this;lia
    have z:=tA ∅ p m lo;by_cases M:k > 0
    ·rw[ee M]
     by_cases e:v+k+1=a.size
     ·rw[ee (by simp[e])]
      exact wpS_pure ⟨_,rfl,.inl ⟨_,_,rfl,fin2 z e⟩⟩
     rw[er (by simpa using e)];by_cases e:v+k=a.size
     ·rw[ee (by simp[e])]
      exact wpS_pure ⟨_,rfl,.inl ⟨_,_,rfl,V z (.inr e)⟩⟩
     rw[er (by simpa using e)];have N:v<=v+k:=∅
     have X:v+k+1<a.size:=∅
     generalize out++a.extract v (v+k)=out' at z ⊢;generalize v+k=ka' at z R N X ⊢;exact K out' ka' ⟨z,X,N,R⟩
    ·rw[er M]
     obtain rfl:k=0:=∅
     exact K out v ⟨m,u,ay _,R⟩) ?_
   rintro out d ⟨m,u,agR,P⟩;have z:=pB ∅ p m (P ∅);refine wpS_bind (jM (getElem?_pos b q p) ?_);by_cases e:q+1=b.size
   ·rw[ee (by simp[e])]
    exact wpS_pure ⟨_,rfl,.inl ⟨_,_,rfl,V z (.inl e)⟩⟩
   rw[er (by simpa using e)];refine wpS_bind (jM (getElem?_pos a d ∅) (wpS_bind (R9 (st:=setG st B) hc hk (ma _ (bK _)) (Mw mb ∅) (Qt sb ∅) ∅ λL hj1 hj2 nT=>?_)));dsimp only;generalize out.push b[q]=out at z ⊢;refine UP (α:=Array Keyed) (β:=Nat) (C:=λo i=>MI r (a.toList++b.toList) o.toList (a.toList.drop d) (b.toList.drop i)/\q+1<=i/\i<b.size/\∀h:i<b.size,r a[d]<=r b[i]) (λK=>by
    have lo:∀j,(h:j<L)->r b[q+1+j]<=r a[d]:=λj O=>by
     have:=hj2 j O
     rw[n9 ∅] at this;simp[AI] at this;lia
    have R:∀h:q+1+L<b.size,r a[d]<=r b[q+1+L]:=λhh=>by
     have:=nT L (ay _) ∅
     rw[n9 hh] at this
     simpa [AI] using this
    have Xd:=tB ∅ ∅ z lo;by_cases M:L > 0
    ·rw[ee M]
     by_cases e:q+1+L=b.size
     ·rw[ee (by simp[e])]
      exact wpS_pure ⟨_,rfl,.inl ⟨_,_,rfl,V Xd (.inl e)⟩⟩
     rw[er (by simpa using e)];have N:q+1<=q+1+L:=∅
     have X:q+1+L<b.size:=∅
     generalize out++b.extract (q+1) (q+1+L)=out' at Xd ⊢;generalize q+1+L=kb' at Xd R N X ⊢;exact K out' kb' ⟨Xd,N,X,R⟩
    ·rw[er M]
     obtain rfl:L=0:=∅
     exact K out (q+1) ⟨z,ay _,∅,R⟩) ?_
   rintro out f ⟨m,hb1,hb2,P⟩;have z:=pA ∅ hb2 m (P hb2);refine wpS_bind (jM (getElem?_pos a d ∅) ?_);by_cases e:d+1+1=a.size
   ·rw[ee (by simp[e])]
    exact wpS_pure ⟨_,rfl,.inl ⟨_,_,rfl,fin2 z e⟩⟩
   rw[er (by simpa using e)];by_cases e7:(decide (k<7)&&decide (L<7))=true
   ·rw[ee e7]
    exact wpS_pure ⟨_,rfl,.inr ⟨_,_,_,_,_,_,rfl,z,∅,∅,∅⟩⟩
   ·rw[er e7]
    exact wpS_pure ⟨_,_,_,_,_,_,_,rfl,rfl,z,∅,∅,∅⟩
  ·rintro c n ⟨out,v,q,B,G,H,g,rfl,rfl,m,u,p,S⟩
   exact⟨_,rfl,.inr ⟨_,_,_,_,_,_,rfl,m,u,p,S⟩⟩
  rintro c n ⟨g,rfl,⟨res,t,rfl,p1,Z⟩|⟨out,v,q,B,G,H,rfl,m,u,p,h3'⟩⟩
  ·exact wpS_pure ⟨_,_,_,rfl,rfl,p1,Z⟩
  dsimp only;exact wpS_bind (wpS_modify (wpS_pure ⟨_,_,_,_,_,rfl,rfl,m,u,p,∅⟩))
 ·rintro c J ⟨out,d,f,B,g,rfl,rfl,m,u,p,S⟩
  lia
 ·rintro c J ⟨res,g,t,rfl,rfl,p1,Z⟩
  exact wpS_pure (h _ _ p1 Z)
theorem gI{a:Array Keyed}{i:Nat}(b:0<i)(h:i<=a.size):(a.toList.take i).reverse=a[i-1]::(a.toList.take (i-1)).reverse:=by
 obtain⟨j,rfl⟩:∃j,i=j+1:=⟨i-1,∅⟩;rw[ju (by rw[aR];lia),ki];simp
theorem E1{a:Array Keyed}{i j:Nat}(h:i<=j):(a.toList.take j).reverse=((a.extract i j).reverse).toList++(a.toList.take i).reverse:=by
 rw[Array.toList_reverse,<- ki,Array.toList_extract,pO];congr 1;rw[show j=i+(j-i) by lia,List.take_add,show i+(j-i)-i=j-i by lia]
theorem CN{a:Array Keyed}{i:Nat}:(a.extract 0 i).toList=a.toList.take i:=by
 rw[Array.toList_extract,pO];simp
theorem Mx{a:Array Keyed}{i k:Nat}{x:Keyed}(h:x∈((a.extract i k).reverse).toList)(c:k<=a.size):∃j,∃h:j<k,i<=j/\x=a[j]:=by
 have h:x∈a.extract i k:=Array.mem_reverse.mp (gZ.mp h);obtain⟨j,b,e⟩:=Array.mem_iff_getElem.mp h;rw[mw] at b;exact⟨i+j,∅,∅,by rw[<- e,gE]⟩
theorem KR{T l:List Keyed}(h:l.Perm T/\l.Pairwise λx y=>-r x<=-r y):l.reverse.Perm T/\FJ r l.reverse :=
 ⟨(List.reverse_perm l).trans h.1,List.pairwise_reverse.mpr (h.2.imp λz=>∅)⟩
theorem agS{st:SortSt}{a b:Array Keyed}{Q:Array Keyed->SortSt->Prop}(hc:R8 prog w A s κ a₀ r)(hk:kindOf st=κ)(ma:∀x∈a,x∈a₀)(mb:∀x∈b,x∈a₀)(sa:FJ r a.toList)(sb:FJ r b.toList)
 (ha:0<a.size) (hb:0<b.size) (h0:∀x∈a,r b[0]<=r x) (hl:r b[b.size-1]<=r a[a.size-1])
 (h:∀out g,out.toList.Perm (a.toList++b.toList)->FJ r out.toList->Q out (setG st g)):wpS (model prog w) A E s (UM a b) Q st:=by
 have DR:∀{out:Array Keyed} {l f:Nat},MI (λx=>-r x) (a.toList++b.toList) out.toList (a.toList.take l).reverse (b.toList.take f).reverse->(f=0∨l=0)->(a.extract 0 l++b.extract 0 f++out.reverse).toList.Perm (a.toList++b.toList)/\FJ r (a.extract 0 l++b.extract 0 f++out.reverse).toList:=λ{out l f} m e=>by
  rw[cP,cP,CN,CN,Array.toList_reverse];rcases e with e|e
  ·subst e
   have:=KR m.fin
   rw[ki,List.reverse_reverse] at this
   simpa using this
  ·subst e
   have:=KR m.swap.fin
   rw[ki,List.reverse_reverse] at this
   simpa using this
 have fin2:∀{out:Array Keyed} {l f:Nat},MI (λx=>-r x) (a.toList++b.toList) out.toList (a.toList.take l).reverse (b.toList.take f).reverse->f=1->(b.extract 0 f++a.extract 0 l++out.reverse).toList.Perm (a.toList++b.toList)/\FJ r (b.extract 0 f++a.extract 0 l++out.reverse).toList:=λ{out l f} m e=>by
  rw[cP,cP,CN,CN,Array.toList_reverse];subst e;have V:(b.toList.take 1).reverse=[b[0]]:=by rw[gI ∅ hb];simp
  have e2:b.toList.take 1=[b[0]]:=by rw[<- List.reverse_reverse (b.toList.take 1),V];rfl
  rw[V] at m;rw[e2]
  have:=KR (m.swap.last λy hy=>Int.neg_le_neg (h0 y (by simpa using List.mem_of_mem_take (List.mem_reverse.mp hy))))
  rw[ki,ki,List.reverse_reverse] at this
  simpa using this
 have pB:∀{out:Array Keyed} {l f:Nat} (p:0<l) (q:l<=a.size) (v:0<f) (d:f<=b.size),MI (λx=>-r x) (a.toList++b.toList) out.toList (a.toList.take l).reverse (b.toList.take f).reverse->r a[l-1]<=r b[f-1]->MI (λx=>-r x) (a.toList++b.toList) (out.push b[f-1]).toList (a.toList.take l).reverse (b.toList.take (f-1)).reverse:=λ{out l f} p q v d m e=>by
  rw[gI p q,gI v d] at m;rw[uL,gI p q];exact (m.swap.a (Int.neg_le_neg e)).swap
 have pA:∀{out:Array Keyed} {l f:Nat} (p:0<l) (q:l<=a.size) (v:0<f) (d:f<=b.size),MI (λx=>-r x) (a.toList++b.toList) out.toList (a.toList.take l).reverse (b.toList.take f).reverse->r b[f-1]<=r a[l-1]->MI (λx=>-r x) (a.toList++b.toList) (out.push a[l-1]).toList (a.toList.take (l-1)).reverse (b.toList.take f).reverse:=λ{out l f} p q v d m e=>by
  rw[gI p q,gI v d] at m;rw[uL,gI v d];exact m.a (Int.neg_le_neg e)
 have tA:∀{out:Array Keyed} {l f k:Nat} (p:k<=l) (q:l<=a.size) (v:0<f) (d:f<=b.size),MI (λx=>-r x) (a.toList++b.toList) out.toList (a.toList.take l).reverse (b.toList.take f).reverse->(∀j,k<=j->(h:j<l)->r b[f-1]<=r a[j])->MI (λx=>-r x) (a.toList++b.toList) (out++(a.extract k l).reverse).toList (a.toList.take k).reverse (b.toList.take f).reverse:=λ{out l f k} p q v d m e=>by
  rw[E1 p,gI v d] at m;rw[cP,gI v d];refine m.as λx hx=>?_;obtain⟨j,T,P,rfl⟩:=Mx hx q;exact Int.neg_le_neg (e j P T)
 have tB:∀{out:Array Keyed} {l f k:Nat} (p:0<l) (q:l<=a.size) (v:k<=f) (d:f<=b.size),MI (λx=>-r x) (a.toList++b.toList) out.toList (a.toList.take l).reverse (b.toList.take f).reverse->(∀j,k<=j->(h:j<f)->r a[l-1]<=r b[j])->MI (λx=>-r x) (a.toList++b.toList) (out++(b.extract k f).reverse).toList (a.toList.take l).reverse (b.toList.take k).reverse:=λ{out l f k} p q v d m e=>by
  rw[E1 (a:=b) v,gI p q] at m;rw[cP,gI p q];refine (m.swap.as λx hx=>?_).swap;obtain⟨j,T,P,rfl⟩:=Mx hx d;exact Int.neg_le_neg (e j P T)
 have m0:MI (λx=>-r x) (a.toList++b.toList) (#[]:Array Keyed).toList (a.toList.take a.size).reverse (b.toList.take b.size).reverse:=by
  rw[gi (-_),gi (-_)];exact⟨by simpa using (List.reverse_perm _).append (List.reverse_perm _),-_,List.pairwise_reverse.mpr (sa.imp λz=>∅),List.pairwise_reverse.mpr (sb.imp λz=>∅),λx hx=>by simp at hx⟩
 have m1:=pA ha (ay _) hb (ay _) m0 hl;refine wpS_bind (wpS_lift (wpAny_rule ⟨rfl,?_⟩));refine wpS_bind (jM (getElem?_pos a (a.size-1) ∅) ?_);dsimp only;by_cases V:a.size-1=0
 ·rw[ee (by simp[V])]
  exact wpS_pure (h _ (gallopOf st) (DR m1 (.inr V)).1 (DR m1 (.inr V)).2)
 rw[er (by simpa using V)];by_cases e2:b.size=1
 ·rw[ee (by simp[e2])]
  exact wpS_pure (h _ (gallopOf st) (fin2 m1 e2).1 (fin2 m1 e2).2)
 rw[er (by simpa using e2)];refine wpS_bind (wpS_get ?_);refine wpS_bind (wpS_mono (wpS_forRange (I:=λx c N=>∃l f out J g,c=(none,l,f,out,J)/\N=setG st g/\MI (λx=>-r x) (a.toList++b.toList) out.toList (a.toList.take l).reverse (b.toList.take f).reverse/\0<l/\l<=a.size/\1<f/\f<=b.size/\l+f+x<a.size+b.size)
  (Q:=λc N=>∃res g t,c=(some res,t)/\N=setG st g/\res.toList.Perm (a.toList++b.toList)/\FJ r res.toList) ?_ ?_ ⟨_,_,_,_,gallopOf st,rfl,rfl,m1,∅,∅,∅,∅,∅⟩) ?_)
 ·rintro x c N _ hx ⟨l,f,out,J,g,rfl,rfl,m,p,q,v,d,Z⟩
  dsimp only;refine wpS_bind (wpS_mono (wpS_forRange (I:=λy c n=>∃D H out L M,c=(none,D,H,out,L,M)/\n=setG st g/\MI (λx=>-r x) (a.toList++b.toList) out.toList (a.toList.take D).reverse (b.toList.take H).reverse/\0<D/\D<=a.size/\1<H/\H<=b.size/\D+H+y<=l+f)
   (Q:=λc n=>n=setG st g/\((∃res t,c=(some res,t)/\res.toList.Perm (a.toList++b.toList)/\FJ r res.toList)∨∃D H out L M,c=(none,D,H,out,L,M)/\MI (λx=>-r x) (a.toList++b.toList) out.toList (a.toList.take D).reverse (b.toList.take H).reverse/\0<D/\D<=a.size/\1<H/\H<=b.size/\D+H<l+f)) ?_ ?_ ⟨_,_,_,_,_,rfl,rfl,m,p,q,v,d,∅⟩) ?_)
  ·rintro y c n _ hy ⟨D,H,out,L,M,rfl,rfl,m,p,q,v,d,Z⟩
   dsimp only;refine wpS_bind (jM (getElem?_pos b (H-1) ∅) (wpS_bind (jM (getElem?_pos a (D-1) ∅) (wpS_bind (qR hc hk (mb _ (bK _)) (ma _ (bK _)) ?_)))));dsimp only;by_cases hlt:r b[H-1]<r a[D-1]
   ·rw[ee (fy hlt)]
    have F:=pA p q ∅ d m ∅;refine wpS_bind (jM (getElem?_pos a (D-1) ∅) ?_);by_cases e:D-1=0
    ·rw[ee (by simp[e])]
     exact wpS_pure ⟨rfl,.inl ⟨_,_,rfl,DR F (.inr e)⟩⟩
    rw[er (by simpa using e)];by_cases e3:L+1≥J
    ·rw[ee e3]
     exact wpS_pure ⟨rfl,.inr ⟨_,_,_,_,_,rfl,F,∅,∅,v,d,∅⟩⟩
    ·rw[er e3]
     exact wpS_pure ⟨_,_,_,_,_,rfl,rfl,F,∅,∅,v,d,∅⟩
   ·rw[er (by simpa using hlt)]
    have F:=pB p q ∅ d m ∅;refine wpS_bind (jM (getElem?_pos b (H-1) ∅) ?_);by_cases e:H-1=1
    ·rw[ee (by simp[e])]
     exact wpS_pure ⟨rfl,.inl ⟨_,_,rfl,fin2 F e⟩⟩
    rw[er (by simpa using e)];by_cases e3:M+1≥J
    ·rw[ee e3]
     exact wpS_pure ⟨rfl,.inr ⟨_,_,_,_,_,rfl,F,p,q,∅,∅,∅⟩⟩
    ·rw[er e3]
     exact wpS_pure ⟨_,_,_,_,_,rfl,rfl,F,p,q,∅,∅,∅⟩
  ·rintro c n ⟨D,H,out,L,M,rfl,rfl,m,p,q,v,d,Z⟩
   lia
  rintro c n ⟨rfl,⟨res,t,rfl,p1,p2⟩|⟨D,H,out,L,M,rfl,m,p,q,v,d,h3'⟩⟩
  ·exact wpS_pure ⟨_,_,_,rfl,rfl,p1,p2⟩
  dsimp only;refine wpS_bind (wpS_lift (wpAny_rule ⟨rfl,?_⟩));refine wpS_bind (wpS_mono (wpS_forRange (I:=λy c n=>∃G u out J L M g,c=(none,G,u,out,J,L,M)/\n=setG st g/\MI (λx=>-r x) (a.toList++b.toList) out.toList (a.toList.take G).reverse (b.toList.take u).reverse/\0<G/\G<=a.size/\1<u/\u<=b.size/\G+u<=D+H)
   (Q:=λc n=>∃g,n=setG st g/\((∃res t,c=(some res,t)/\res.toList.Perm (a.toList++b.toList)/\FJ r res.toList)∨∃G u out J L M,c=(none,G,u,out,J,L,M)/\MI (λx=>-r x) (a.toList++b.toList) out.toList (a.toList.take G).reverse (b.toList.take u).reverse/\0<G/\G<=a.size/\1<u/\u<=b.size/\G+u<=D+H)) ?_ ?_ ⟨_,_,_,_,_,_,_,rfl,rfl,m,p,q,v,d,∅⟩) ?_)
  ·rintro y c n _ hy ⟨G,u,out,J,L,M,g,rfl,rfl,m,p,q,v,d,Z⟩
   dsimp only;refine ade (α:=Nat) (λK=>by
    by_cases hm:J > 1
    ·rw[ee hm]
     generalize J-1=mg';exact K mg'
    ·rw[er hm]
     exact K J) ?_
   intro J;refine wpS_bind (wpS_modify (wpS_bind (jM (getElem?_pos b (u-1) ∅) (wpS_bind (R9 (st:=setG st J) hc hk (mb _ (bK _)) (Mw ma ∅) (Qt sa ∅) ∅ λk hk1 hk2 YK=>?_)))));dsimp only;refine UP (α:=Array Keyed) (β:=Nat) (C:=λo i=>MI (λx=>-r x) (a.toList++b.toList) o.toList (a.toList.take i).reverse (b.toList.take u).reverse/\0<i/\i<=G/\∀(h:0<i) (h':i<=a.size),r a[i-1]<=r b[u-1]) (λK=>by
    have lo:∀j,k<=j->(h:j<G)->r b[u-1]<=r a[j]:=λj T Y=>by
     have:=YK j T Y
     rw[n9 ∅] at this;simp[AI] at this;lia
    have hi:∀(h:0<k) (h':k<=a.size),r a[k-1]<=r b[u-1]:=λhh hh'=>by
     have:=hk2 (k-1) ∅
     rw[n9 ∅] at this
     simpa [AI] using this
    have F:=tA hk1 q ∅ d m lo;by_cases R:G-k > 0
    ·rw[ee R]
     by_cases e:k=0
     ·rw[ee (by simp[e])]
      exact wpS_pure ⟨_,rfl,.inl ⟨_,_,rfl,DR F (.inr e)⟩⟩
     rw[er (by simpa using e)];generalize out++(a.extract k G).reverse=out' at F ⊢;have X:0<k:=∅
     obtain⟨W,B⟩:∃W,W=k:=⟨_,rfl⟩;rw[<- B];exact K out' W ⟨B▸F,B▸X,B▸hk1,B▸hi⟩
    ·rw[er R]
     have e:k=G:=∅
     subst e;exact K out k ⟨m,p,ay _,hi⟩) ?_
   rintro out S ⟨m,p,agR,U⟩;have F:=pB p ∅ ∅ d m (U p ∅);refine wpS_bind (jM (getElem?_pos b (u-1) ∅) ?_);by_cases e:u-1=1
   ·rw[ee (by simp[e])]
    exact wpS_pure ⟨_,rfl,.inl ⟨_,_,rfl,fin2 F e⟩⟩
   rw[er (by simpa using e)];refine wpS_bind (jM (getElem?_pos a (S-1) ∅) (wpS_bind (R9 (st:=setG st J) hc hk (ma _ (bK _)) (Mw mb ∅) (Qt sb ∅) ∅ λO hj1 P nT=>?_)));dsimp only;generalize out.push b[u-1]=out at F ⊢;refine UP (α:=Array Keyed) (β:=Nat) (C:=λo i=>MI (λx=>-r x) (a.toList++b.toList) o.toList (a.toList.take S).reverse (b.toList.take i).reverse/\1<i/\i<=u-1/\∀(h:0<i) (h':i<=b.size),r b[i-1]<=r a[S-1]) (λK=>by
    have lo:∀j,O<=j->(h:j<u-1)->r a[S-1]<=r b[j]:=λj T Y=>by
     have:=nT j T Y
     rw[n9 ∅] at this
     simpa [AI] using this
    have hi:∀(h:0<O) (h':O<=b.size),r b[O-1]<=r a[S-1]:=λhh hh'=>by
     have:=P (O-1) ∅
     rw[n9 ∅] at this;simp[AI] at this;lia
    have Xd:=tB p ∅ hj1 ∅ F lo;by_cases R:u-1-O > 0
    ·rw[ee R]
     by_cases e:O=1
     ·rw[ee (by simp[e])]
      exact wpS_pure ⟨_,rfl,.inl ⟨_,_,rfl,fin2 Xd e⟩⟩
     rw[er (by simpa using e)];by_cases e:O=0
     ·rw[ee (by simp[e])]
      exact wpS_pure ⟨_,rfl,.inl ⟨_,_,rfl,DR Xd (.inl e)⟩⟩
     rw[er (by simpa using e)];generalize out++(b.extract O (u-1)).reverse=out' at Xd ⊢;have X:1<O:=∅
     obtain⟨W,B⟩:∃W,W=O:=⟨_,rfl⟩;rw[<- B];exact K out' W ⟨B▸Xd,B▸X,B▸hj1,B▸hi⟩
    ·rw[er R]
     have e4:O=u-1:=∅
     subst e4;exact K out (u-1) ⟨F,∅,∅,hi⟩) ?_
   rintro out ib ⟨m,hb1,hb2,U⟩;have F:=pA p ∅ ∅ ∅ m (U ∅ ∅);refine wpS_bind (jM (getElem?_pos a (S-1) ∅) ?_);by_cases e:S-1=0
   ·rw[ee (by simp[e])]
    exact wpS_pure ⟨_,rfl,.inl ⟨_,_,rfl,DR F (.inr e)⟩⟩
   rw[er (by simpa using e)];by_cases e7:(decide (G-S<7)&&decide (u-1-ib<7))=true
   ·rw[ee e7]
    exact wpS_pure ⟨_,rfl,.inr ⟨_,_,_,_,_,_,rfl,F,∅,∅,∅,∅,∅⟩⟩
   ·rw[er e7]
    exact wpS_pure ⟨_,_,_,_,_,_,_,rfl,rfl,F,∅,∅,∅,∅,∅⟩
  ·rintro c n ⟨G,u,out,J,L,M,g,rfl,rfl,m,p,q,v,d,Z⟩
   exact⟨_,rfl,.inr ⟨_,_,_,_,_,_,rfl,m,p,q,v,d,Z⟩⟩
  rintro c n ⟨g,rfl,⟨res,t,rfl,p1,p2⟩|⟨G,u,out,J,L,M,rfl,m,p,q,v,d,h3'⟩⟩
  ·exact wpS_pure ⟨_,_,_,rfl,rfl,p1,p2⟩
  dsimp only;exact wpS_bind (wpS_modify (wpS_pure ⟨_,_,_,_,_,rfl,rfl,m,p,q,v,d,∅⟩))
 ·rintro c N ⟨l,f,out,J,g,rfl,rfl,m,p,q,v,d,Z⟩
  lia
 ·rintro c N ⟨res,g,t,rfl,rfl,p1,p2⟩
  exact wpS_pure (h _ _ p1 p2)
theorem adf{α:Type}{G:Prop}{C P:α->Prop}(h:(∀x,C x->P x)->G)(k:∀x,C x->P x):G:=h k
def Kp(a a':Array Keyed)(lo hi:Nat):Prop:=a'.Perm a/\∀k,k<lo∨hi<=k->a'[k]?=a[k]?
theorem Kp.refl{a:Array Keyed}{lo b:Nat}:Kp a a lo b:=⟨Array.Perm.refl _,λ_ _=>rfl⟩
theorem Kp.trans{a b c:Array Keyed}{lo d:Nat}(h:Kp a b lo d)(h':Kp b c lo d):Kp a c lo d:=⟨h'.1.trans h.1,λk z=>(h'.2 k z).trans (h.2 k z)⟩
theorem Kp.size{a b:Array Keyed}{lo c:Nat}(h:Kp a b lo c):b.size=a.size:=h.1.size_eq
theorem Kp.mem{a b:Array Keyed}{lo c:Nat}(h:Kp a b lo c)(m:∀x∈a,x∈a₀):∀x∈b,x∈a₀:=λx d=>m x ((h.1.mem_iff).mp d)
theorem KS{a:Array Keyed}{i j lo b:Nat}(c:j<=a.size)(e:lo<=i)(d:j<=b):Kp a (mirror a i j ((j-i)/2)) lo b:=⟨mirror_perm _ _ _ _,λk z=>by rw[getElem?_mirror_all c,er ∅]⟩
theorem KU{a:Array Keyed}{i j lo k:Nat}(b:lo+j<=a.size):fv r (mirror a (lo+i) (lo+j) ((lo+j-(lo+i))/2)) lo k=if i<=k/\k<j then fv r a lo (i+j-1-k) else fv r a lo k:=by
 unfold fv;rw[getElem?_mirror_all b];by_cases h:i<=k/\k<j
 ·rw[ee h,ee ∅,show lo+i+(lo+j)-1-(lo+k)=lo+(i+j-1-k) by lia]
 ·rw[er h,er ∅]
theorem JJ{st:SortSt}{lo i j:Nat}{Q:Option Bool->SortSt->Prop}(d:R8 prog w A s κ a₀ r)(c:kindOf st=κ)(m:∀x∈arrOf st,x∈a₀)(a:lo+i<(arrOf st).size)(b:lo+j<(arrOf st).size)
 (h:Q (some (decide (fv r (arrOf st) lo i<fv r (arrOf st) lo j))) st):wpS (model prog w) A E s (ltAt' (lo+i) (lo+j)) Q st:=by
 rw[n9 a,n9 b] at h;refine wpS_bind (wpS_get (wpS_bind (jM (getElem?_pos (arrOf st) (lo+i) a) (wpS_bind (jM (getElem?_pos (arrOf st) (lo+j) b) (qR d c (m _ (bK _)) (m _ (bK _)) h))))))
def Dn(f:Nat->Int)(n:Nat):Prop:=∀i j,i<=j->j<n->f j<=f i
theorem Up.next{f:Nat->Int}{n:Nat}(h:Up f n)(d:1<=n)(e:f (n-1)<=f n):Up f (n+1):=λi j a b=>by
 by_cases z:j=n
 ·subst z
  by_cases c:i=j
  ·subst c;exact jn _
  ·exact qV (h i (j-1) ∅ ∅) e
 ·exact h i j a ∅
theorem Dn.next{f:Nat->Int}{n:Nat}(h:Dn f n)(d:1<=n)(e:f n<=f (n-1)):Dn f (n+1):=λi j a b=>by
 by_cases z:j=n
 ·subst z
  by_cases c:i=j
  ·subst c;exact jn _
  ·exact qV e (h i (j-1) ∅ ∅)
 ·exact h i j a ∅
theorem Up.eq{f g:Nat->Int}{n:Nat}(h:Up f n)(e:∀i,i<n->g i=f i):Up g n:=λi j a b=>by rw[e i ∅,e j b];exact h i j a b
theorem Dn.eq{f g:Nat->Int}{n:Nat}(h:Dn f n)(e:∀i,i<n->g i=f i):Dn g n:=λi j a b=>by rw[e i ∅,e j b];exact h i j a b
theorem adg{st:SortSt}{lo f a:Nat}{g:Nat->Option (Option Nat)×Nat->StateT SortSt Sem (ForInStep (Option (Option Nat)×Nat))}{R:Option (Option Nat)×Nat->SortSt->Prop}
 (m:1<=f) (j:f<=a) (d:Up (fv r (arrOf st) lo) f)
 (i:∀x n R,1<=n->n<a->R (if fv r (arrOf st) lo n<fv r (arrOf st) lo (n-1) then .done (none,n) else .yield (none,n+1)) st->wpS (model prog w) A E s (g x (none,n)) R st)
 (h:∀n,f<=n->n<=a->Up (fv r (arrOf st) lo) n->(n<a->fv r (arrOf st) lo n<fv r (arrOf st) lo (n-1))->R (none,n) st):wpS (model prog w) A E s (forIn [f:a] (none,f) g) R st:=by
 refine wpS_forRange (I:=λx c b=>b=st/\c=(none,x)/\Up (fv r (arrOf st) lo) x) ?_ ?_ ⟨rfl,rfl,d⟩
 ·rintro x c b k l ⟨rfl,rfl,d⟩
  refine i _ _ _ ∅ l ?_;by_cases e:fv r (arrOf b) lo x<fv r (arrOf b) lo (x-1)
  ·rw[ee e]
   exact h x k ∅ d λ_=>e
  ·rw[er e]
   exact⟨rfl,rfl,d.next ∅ ∅⟩
 ·rintro c b ⟨rfl,rfl,d⟩
  rw[show max f a=a by lia] at d ⊢;exact h a j (ay _) d λz=>∅
theorem aaB{st:SortSt}{lo g:Nat}{Q:Option Nat->SortSt->Prop}(J:R8 prog w A s κ a₀ r)(L:kindOf st=κ)(m:∀x∈arrOf st,x∈a₀)(h1:1<=g)(hz:lo+g<=(arrOf st).size)
 (h:∀n a,1<=n->n<=g->Kp (arrOf st) a lo (lo+g)->Up (fv r a lo) n->Q (some n) (setArr st a)):wpS (model prog w) A E s (countRun' lo g) Q st:=by
 refine wpS_bind (adg (r:=r) (lo:=lo) (ay _) h1 (λi j a b=>by rw[show i=j by lia];exact jn _) (λx n R a b k=>?_) λn a b B W=>?_)
 ·dsimp only
  rw[show lo+n-1=lo+(n-1) by lia];refine wpS_bind (JJ J L m ∅ ∅ ?_);dsimp only;split at k <;> rename_i z
  ·rw[ee (fy z)];exact wpS_pure k
  ·rw[er (by simpa using z)];exact wpS_pure k
 dsimp only;by_cases e:n=g
 ·rw[ee (by simp[e])]
  exact wpS_pure (h n _ a b Kp.refl B)
 rw[er (by simpa using e)];have W:=W ∅;refine adf (α:=Array Keyed) (C:=λo=>Kp (arrOf st) o lo (lo+g)/\Dn (fv r o lo) (n+1)) (λK=>by
  by_cases X:n > 1
  ·rw[ee X,show lo+n-1=lo+(n-1) by lia]
   refine wpS_bind (JJ (i:=0) J L m ∅ ∅ ?_);dsimp only;by_cases z:fv r (arrOf st) lo 0<fv r (arrOf st) lo (n-1)
   ·rw[ee (fy z)]
    exact wpS_pure (h n _ a b Kp.refl B)
   rw[er (by simpa using z)];refine wpS_bind (wpS_modify ?_);have l:Kp (arrOf st) (mirror (arrOf st) lo (lo+n) ((lo+n-lo)/2)) lo (lo+g):=KS ∅ (ay _) ∅;have v:∀k,fv r (mirror (arrOf st) lo (lo+n) ((lo+n-lo)/2)) lo k=fv r (arrOf st) lo k:=λk=>by
    have:=KU (r:=r) (a:=arrOf st) (i:=0) (j:=n) (lo:=lo) (k:=k) ∅
    rw[Nat.add_zero] at this;rw[this];split
    ·rename_i y
     have a1:=B 0 (0+n-1-k) ∅ ∅;have a2:=B (0+n-1-k) (n-1) ∅ ∅;have a3:=B 0 k ∅ ∅;have a4:=B k (n-1) ∅ ∅;lia
    ·rfl
   have p:Dn (fv r (mirror (arrOf st) lo (lo+n) ((lo+n-lo)/2)) lo) (n+1):=by
    refine Dn.eq (f:=fv r (arrOf st) lo) (Dn.next (λi j c d=>?_) ∅ ∅) λi _=>v i;have a1:=B 0 i ∅ ∅;have a2:=B j (n-1) ∅ ∅;have a3:=B i (n-1) ∅ ∅;have a4:=B 0 j ∅ ∅;lia
   show wpS _ _ _ _ _ _ (setArr st (mirror (arrOf st) lo (lo+n) ((lo+n-lo)/2)));generalize mirror (arrOf st) lo (lo+n) ((lo+n-lo)/2)=o at l p ⊢;exact K o ⟨l,p⟩
  ·rw[er X]
   have P:n=1:=∅
   have:Dn (fv r (arrOf st) lo) (n+1):=Dn.next (λi j c d=>by rw[show i=j by lia];exact jn _) ∅ ∅
   have T:=K (arrOf st) ⟨Kp.refl,this⟩;exact T) ?_
 rintro o ⟨l,p⟩;refine wpS_bind (wpS_lift (wpAny_rule ⟨rfl,?_⟩));have D:∀{o:Array Keyed},Kp (arrOf st) o lo (lo+g)->o.size=(arrOf st).size:=λz=>z.size;refine wpS_bind (wpS_mono (wpS_forRange (I:=λx c u=>∃o q,u=setArr st o/\c=(none,x,q)/\x<=g/\q+1<=x/\Kp (arrOf st) o lo (lo+g)/\Dn (fv r o lo) x/\∀i,x-(q+1)<=i->i<x->fv r o lo i=fv r o lo (x-1))
  (Q:=λc u=>∃o q x,u=setArr st o/\c=(none,x,q)/\1<=x/\x<=g/\q+1<=x/\Kp (arrOf st) o lo (lo+g)/\Dn (fv r o lo) x/\∀i,x-(q+1)<=i->i<x->fv r o lo i=fv r o lo (x-1)) ?_ ?_ ⟨o,0,rfl,rfl,∅,∅,l,p,λi c d=>by rw[show i=n+1-1 by lia]⟩) ?_)
 ·rintro x c u Z W ⟨o,q,rfl,rfl,F,S,l,p,t⟩
  have V:=D l;have O:∀x∈arrOf (setArr st o),x∈a₀:=l.mem m;dsimp only;rw[show lo+x-1=lo+(x-1) by lia];refine wpS_bind (JJ J L O (by show _<o.size;lia) (by show _<o.size;lia) ?_);dsimp only;by_cases z:fv r o lo x<fv r o lo (x-1)
  ·rw[ee (fy z)]
   by_cases N:q > 0
   ·rw[ee N]
    refine wpS_bind (wpS_modify (wpS_pure ?_));have P:lo+x-(q+1)=lo+(x-(q+1)):=∅
    have v:∀k,fv r (mirror o (lo+(x-(q+1))) (lo+x) ((lo+x-(lo+(x-(q+1))))/2)) lo k=fv r o lo k:=λk=>by
     rw[KU ∅];split
     ·rw[t _ ∅ ∅,t k ∅ ∅]
     ·rfl
    refine⟨mirror o (lo+x-(q+1)) (lo+x) ((lo+x-(lo+x-(q+1)))/2),0,rfl,rfl,∅,∅,l.trans (KS ∅ ∅ ∅),?_,λi c d=>by rw[show i=x+1-1 by lia]⟩;rw[P];exact (p.next ∅ ∅).eq λi _=>v i
   ·rw[er N]
    exact wpS_pure ⟨o,0,rfl,rfl,∅,∅,l,p.next ∅ ∅,λi c d=>by rw[show i=x+1-1 by lia]⟩
  ·rw[er (by simpa using z)]
   refine wpS_bind (JJ J L O (by show _<o.size;lia) (by show _<o.size;lia) ?_);dsimp only;by_cases Y:fv r o lo (x-1)<fv r o lo x
   ·rw[ee (fy Y)]
    exact wpS_pure ⟨o,q,x,rfl,rfl,∅,∅,S,l,p,t⟩
   ·rw[er (by simpa using Y)]
    refine wpS_pure ⟨o,q+1,rfl,rfl,∅,∅,l,p.next ∅ ∅,λi c d=>?_⟩;rw[show x+1-1=x by lia];by_cases e5:i=x
    ·rw[e5]
    ·rw[t i ∅ ∅];lia
 ·rintro c u ⟨o,q,rfl,rfl,F,S,l,p,t⟩
  exact⟨o,q,_,rfl,rfl,∅,F,S,l,p,t⟩
 rintro c u ⟨o,q,x,rfl,rfl,Z,F,S,l,p,t⟩;dsimp only;refine adf (α:=Array Keyed) (C:=λo=>Kp (arrOf st) o lo (lo+g)/\Dn (fv r o lo) x) (λK=>by
  have V:=D l;by_cases N:q > 0
  ·rw[ee N]
   refine wpS_bind (wpS_modify ?_);have P:lo+x-(q+1)=lo+(x-(q+1)):=∅
   have v:∀k,fv r (mirror o (lo+(x-(q+1))) (lo+x) ((lo+x-(lo+(x-(q+1))))/2)) lo k=fv r o lo k:=λk=>by
    rw[KU ∅];split
    ·rw[t _ ∅ ∅,t k ∅ ∅]
    ·rfl
   have G:Kp (arrOf st) (mirror o (lo+(x-(q+1))) (lo+x) ((lo+x-(lo+(x-(q+1))))/2)) lo (lo+g):=l.trans (KS ∅ ∅ ∅);have M:=p.eq λi (_:i<x)=>v i;show wpS _ _ _ _ _ _ (setArr st (mirror o (lo+x-(q+1)) (lo+x) ((lo+x-(lo+x-(q+1)))/2)));rw[P];generalize mirror o (lo+(x-(q+1))) (lo+x) ((lo+x-(lo+(x-(q+1))))/2)=o' at G M ⊢;exact K o' ⟨G,M⟩
  ·rw[er N]
   exact K o ⟨l,p⟩) ?_
 rintro o ⟨l,p⟩;have V:=D l;refine wpS_bind (wpS_modify ?_);have G:Kp (arrOf st) (mirror o lo (lo+x) ((lo+x-lo)/2)) lo (lo+g):=l.trans (KS ∅ ∅ ∅);have H:Up (fv r (mirror o lo (lo+x) ((lo+x-lo)/2)) lo) x:=λi j c d=>by
  have:=λk=>KU (r:=r) (a:=o) (i:=0) (j:=x) (lo:=lo) (k:=k) ∅
  simp only[Nat.add_zero] at this;rw[this i,this j,ee ∅,ee ∅];exact p _ _ ∅ ∅
 show wpS _ _ _ _ _ _ (setArr st (mirror o lo (lo+x) ((lo+x-lo)/2)));generalize mirror o lo (lo+x) ((lo+x-lo)/2)=o at G H ⊢;have V:=D G;have O:∀x∈arrOf (setArr st o),x∈a₀:=G.mem m;refine wpS_bind (adg (st:=setArr st o) (r:=r) (lo:=lo) Z F H (λy n R a b k=>?_) λn' a' b' U _=>wpS_pure (h n' o ∅ b' G U));dsimp only;rw[show lo+n-1=lo+(n-1) by lia];refine wpS_bind (JJ J L O (by show _<o.size;lia) (by show _<o.size;lia) ?_);dsimp only;split at k <;> rename_i z
 ·rw[ee (fy z)];exact wpS_pure k
 ·rw[er (by simpa using z)];exact wpS_pure k
theorem aaC{a:Array Keyed}{k l lo b:Nat}(c:k<a.size)(e:lo<=l)(hl:l<=k)(d:k<b):Kp a (bubble a k (k-l)) lo b:=⟨bubble_perm _ _ _,λi z=>by rw[getElem?_bubble c _ ∅,er ∅,er ∅]⟩
theorem UR{a:Array Keyed}{k l lo i:Nat}(c:lo+k<a.size)(hl:l<=k):fv r (bubble a (lo+k) (lo+k-(lo+l))) lo i=if i=l then fv r a lo k else if l<i/\i<=k then fv r a lo (i-1) else fv r a lo i:=by
 unfold fv;rw[getElem?_bubble c _ ∅];by_cases e:i=l
 ·rw[ee e,ee ∅]
 ·rw[er e,er ∅]
  by_cases b:l<i/\i<=k
  ·rw[ee b,ee ∅,show lo+i-1=lo+(i-1) by lia]
  ·rw[er b,er ∅]
theorem adk{st:SortSt}{lo n ok:Nat}{Q:Bool->SortSt->Prop}(C:R8 prog w A s κ a₀ r)(F:kindOf st=κ)(m:∀x∈arrOf st,x∈a₀)(K:lo+n<=(arrOf st).size)(G:ok<=n)(f:Up (fv r (arrOf st) lo) ok)
 (h:∀a,Kp (arrOf st) a lo (lo+n)->Up (fv r a lo) n->Q true (setArr st a)):wpS (model prog w) A E s (binarySort' lo n ok) Q st:=by
 refine wpS_bind (wpS_mono (wpS_forRange (I:=λk c b=>∃a,b=setArr st a/\c=(none,())/\Kp (arrOf st) a lo (lo+n)/\Up (fv r a lo) (min k n))
  (Q:=λc b=>∃a,b=setArr st a/\c=(none,())/\Kp (arrOf st) a lo (lo+n)/\Up (fv r a lo) n) ?_ ?_ ⟨arrOf st,rfl,rfl,Kp.refl,λi j c d=>?_⟩) ?_)
 ·rintro k c b B D ⟨a,rfl,rfl,e,f⟩
  rw[show min k n=k by lia] at f;have L:=e.size;have y:∀x∈arrOf (setArr st a),x∈a₀:=e.mem m;refine wpS_bind (wpS_mono (wpS_forRange (I:=λx c b=>b=setArr st a/\∃p q,c=(none,p,q)/\p<=q/\q<=k/\q-p<=k-x/\(∀i,i<p->fv r a lo i<=fv r a lo k)/\∀i,q<=i->i<k->fv r a lo k<fv r a lo i)
   (Q:=λc b=>b=setArr st a/\∃p,c=(none,p,p)/\p<=k/\(∀i,i<p->fv r a lo i<=fv r a lo k)/\∀i,p<=i->i<k->fv r a lo k<fv r a lo i) ?_ ?_ ⟨rfl,0,k,rfl,∅,∅,∅,λi c=>∅,λi c d=>∅⟩) ?_)
  ·rintro x c b _ M ⟨rfl,p,q,rfl,u,g,H,l,o⟩
   dsimp only;by_cases t:p≥q
   ·rw[ee t]
    have:q=p:=∅
    subst this;exact wpS_pure ⟨rfl,q,rfl,g,l,o⟩
   ·rw[er t]
    refine wpS_bind (JJ C F y (by show _<a.size;lia) (by show _<a.size;lia) ?_);dsimp only;by_cases z:fv r a lo k<fv r a lo ((p+q)/2)
    ·rw[ee (fy z)]
     refine wpS_pure ⟨rfl,p,_,rfl,∅,∅,∅,l,λi c d=>?_⟩
     have:=f ((p+q)/2) i c d
     lia
    ·rw[er (by simpa using z)]
     refine wpS_pure ⟨rfl,_,q,rfl,∅,∅,∅,λi c=>?_,o⟩
     have:=f i ((p+q)/2) ∅ ∅
     lia
  ·rintro c b ⟨rfl,p,q,rfl,u,g,H,l,o⟩
   have:q=p:=∅
   subst this;exact⟨rfl,q,rfl,g,l,o⟩
  ·rintro c b ⟨rfl,p,rfl,g,l,o⟩
   dsimp only;refine wpS_bind (wpS_modify (wpS_pure ⟨bubble a (lo+k) (lo+k-(lo+p)),rfl,rfl,e.trans (aaC ∅ ∅ ∅ ∅),?_⟩));rw[show min (k+1) n=k+1 by lia];intro i j v J;rw[UR ∅ g,UR ∅ g]
   repeat' split
   all_goals first
    | (exfalso;lia)
    |exact jn _
    |exact l _ ∅
    |exact Int.le_of_lt (o _ ∅ ∅)
    |exact f _ _ ∅ ∅
 ·rintro c b ⟨a,rfl,rfl,e,f⟩
  rw[show min (max (max ok 1) n) n=n by lia] at f;exact⟨a,rfl,rfl,e,f⟩
 ·by_cases u:ok=0
  ·rw[show i=j by lia];exact jn _
  ·exact f i j c ∅
 ·rintro c b ⟨a,rfl,rfl,e,f⟩
  exact wpS_pure (h a e f)
theorem US{sa:Nat}:∀(l:List Keyed) (o:Nat) (a:Array Keyed),sa+o+l.length<=a.size->((l.zipIdx o).foldl (λa (x:Keyed×Nat)=>match x with|(p,j)=>a.setIfInBounds (sa+j) p) a).toList=a.toList.take (sa+o)++l++a.toList.drop (sa+o+l.length)
 |[],o,a,h=>-_
 |x::l,o,a,h=>by
  simp only[bx] at h;rw[List.zipIdx_cons,List.foldl_cons];dsimp only;rw[US l (o+1) _ (by rw[Array.size_setIfInBounds];lia),Array.toList_setIfInBounds];have hl:sa+o<a.toList.length:=by rw[aR];lia
  rw[List.set_eq_take_append_cons_drop,ee hl];have b:(a.toList.take (sa+o)).length=sa+o:=by rw[bQ];lia
  rw[List.take_append,List.drop_append,b,show sa+(o+1)-(sa+o)=1 by lia,show sa+(o+1)+l.length-(sa+o)=l.length+1 by lia,gi (by rw[b];lia),iL (l:=a.toList.take (sa+o)) (by rw[b];lia)];simp[List.drop_drop];congr 1;lia
theorem Xf{a e g:Array Keyed}{t:Nat}(h:e.toList=a.toList.take t++g.toList++a.toList.drop (t+g.size))(f:t+g.size<=a.size)(p:Nat):e[p]?=if p<t then a[p]? else if p<t+g.size then g[p-t]? else a[p]?:=by
 have c:(a.toList.take t).length=t:=by rw[bQ,aR];lia
 rw[<- dR,h,cH];by_cases b:p<t
 ·rw[ee b,bM (by rw[c];exact b),List.getElem?_take_of_lt b,dR]
 ·rw[er b,cu (by rw[c];lia),c]
  by_cases d:p<t+g.size
  ·rw[ee d,bM (by rw[aR];lia),dR]
  ·rw[er d,cu (by rw[aR];lia),aR,List.getElem?_drop,show t+g.size+(p-t-g.size)=p by lia,dR]
theorem UT{a:Array Keyed}{b n:Nat}(h:Up (fv r a b) n)(f:b+n<=a.size):FJ r (a.extract b (b+n)).toList:=by
 refine pN.mpr λi j c e d=>?_;rw[aR,mw] at c e;rw[Array.getElem_toList,Array.getElem_toList,gE,gE]
 have:=h i j ∅ ∅
 rwa [n9 ∅,n9 ∅] at this
theorem wZ{a:Array Keyed}{i j:Nat}{x:Keyed}(h:x∈a.extract i j):∃p,∃c:p<a.size,i<=p/\p<j/\x=a[p]:=by
 obtain⟨q,b,e⟩:=Array.mem_iff_getElem.mp h;rw[mw] at b;exact⟨i+q,∅,∅,∅,by rw[<- e,gE]⟩
theorem agT{st:SortSt}{i sa l pa f t pb:Nat}{Q:Bool->SortSt->Prop}(hc:R8 prog w A s κ a₀ r)(L:kindOf st=κ)(m:∀x∈arrOf st,x∈a₀)(hf:failedOf st=none)(e1:(pendingOf st)[i]?=some (sa,l,pa))(e2:(pendingOf st)[i+1]?=some (f,t,pb))
 (hsb:f=sa+l) (h1:0<l) (h2:0<t) (hz:f+t<=(arrOf st).size) (F:Up (fv r (arrOf st) sa) l) (D:Up (fv r (arrOf st) f) t)
 (h:∀a g,Kp (arrOf st) a sa (f+t)->Up (fv r a sa) (l+t)->Q true (SortSt.mk' (kindOf st) a (((pendingOf st).setIfInBounds i (sa,l+t,pa)).eraseIdxIfInBounds (i+1)) g none)):wpS (model prog w) A E s (mergeAt' i) Q st:=by
 rcases st with ⟨H,a,W,P,fl⟩;have hf:fl=none:=hf;subst hf;have L:H=κ:=L;have e1:W[i]?=some (sa,l,pa):=e1;have e2:W[i+1]?=some (f,t,pb):=e2;have m:∀x∈a,x∈a₀:=m;have hz:f+t<=a.size:=hz;have F:Up (fv r a sa) l:=F;have D:Up (fv r a f) t:=D;have h:∀I g,Kp a I sa (f+t)->Up (fv r I sa) (l+t)->Q true (SortSt.mk' H I ((W.setIfInBounds i (sa,l+t,pa)).eraseIdxIfInBounds (i+1)) g none):=h;refine wpS_bind (wpS_get ?_);dsimp only;rw[e1,e2];dsimp only;refine wpS_bind (m:=modify λ_=>SortSt.mk' H a ((W.setIfInBounds i (sa,l+t,pa)).eraseIdxIfInBounds (i+1)) P none) (wpS_modify ?_);generalize (W.setIfInBounds i (sa,l+t,pa)).eraseIdxIfInBounds (i+1)=pn at h ⊢;have sl:∀b n,b+n<=a.size->Sl a₀ a r b n (fv r a b):=λb n hb=>Mw m hb;refine wpS_bind (jM (getElem?_pos a f ∅) (wpS_bind (R9 (st:=SortSt.mk' H a pn P none) hc L (m _ (bK _)) (sl sa l ∅) F h1 λk hk1 hk2 YK=>?_)));dsimp only;have lo:∀j,j<k->fv r a sa j<=r a[f]:=λj v=>by
  have:=hk2 j v
  simpa [AI] using this
 have hi:∀j,k<=j->j<l->r a[f]<fv r a sa j:=λj v B=>by
  have:=YK j v B
  simpa [AI] using this
 have b0:fv r a f 0=r a[f]:=n9 ∅;have T:(∀i,i<l->fv r a sa i<=fv r a f 0)->Up (fv r a sa) (l+t):=λz i j J v=>by
  have sh:∀j,l<=j->fv r a sa j=fv r a f (j-l):=λj v=>by unfold fv;rw[show f+(j-l)=sa+j by lia]
  by_cases hi1:i<l
  ·by_cases O:j<l
   ·exact F i j J O
   ·rw[sh j ∅]
    exact qV (z i hi1) (D 0 _ ∅ ∅)
  ·rw[sh i ∅,sh j ∅]
   exact D _ _ ∅ ∅
 by_cases ek:l-k=0
 ·rw[ee (by simp[ek])]
  exact wpS_pure (h a _ Kp.refl (T λi hi'=>by rw[b0];exact lo i ∅))
 rw[er (by simpa using ek)];have el:sa+k+(l-k)-1=sa+(l-1):=∅
 rw[el];refine wpS_bind (jM (getElem?_pos a (sa+(l-1)) ∅) (wpS_bind (R9 (st:=SortSt.mk' H a pn P none) hc L (m _ (bK _)) (sl f t ∅) D ∅ λo O M nT=>?_)));dsimp only;have la:r a[sa+(l-1)]=fv r a sa (l-1):=(n9 ∅).symm;rw[la] at M nT;have lo2:∀j,j<o->fv r a f j<fv r a sa (l-1):=λj v=>by
  have:=M j v
  simpa [AI] using this
 have hi2:∀j,o<=j->j<t->fv r a sa (l-1)<=fv r a f j:=λj v B=>by
  have:=nT j v B
  simpa [AI] using this
 by_cases V:o=0
 ·rw[ee (by simp[V])]
  exact wpS_pure (h a _ Kp.refl (T λi hi'=>qV (F i (l-1) ∅ ∅) (hi2 0 ∅ ∅)))
 rw[er (by simpa using V)];have zx:(a.extract (sa+k) f).size=l-k:=by rw[mw];lia
 have zy:(a.extract f (f+o)).size=o:=by rw[mw];lia
 have mx:∀x∈a.extract (sa+k) f,∃p,k<=p/\p<l/\r x=fv r a sa p:=λx q=>by
  obtain⟨p,C,c,d,rfl⟩:=wZ q;refine⟨p-sa,∅,∅,?_⟩;unfold fv;rw[show sa+(p-sa)=p by lia,getElem?_pos a p C];rfl
 have my:∀x∈a.extract f (f+o),∃p,p<o/\r x=fv r a f p:=λx q=>by
  obtain⟨p,C,c,d,rfl⟩:=wZ q;refine⟨p-f,∅,?_⟩;unfold fv;rw[show f+(p-f)=p by lia,getElem?_pos a p C];rfl
 have m1:∀x∈a.extract (sa+k) f,x∈a₀:=λx q=>by obtain⟨p,C,_,_,rfl⟩:=wZ q;exact m _ (bK _)
 have m2:∀x∈a.extract f (f+o),x∈a₀:=λx q=>by obtain⟨p,C,_,_,rfl⟩:=wZ q;exact m _ (bK _)
 have u1:Up (fv r a (sa+k)) (l-k):=λi j c d=>by
  have:=F (k+i) (k+j) ∅ ∅
  unfold fv at *
  rwa [<- Nat.add_assoc,<- Nat.add_assoc] at this
 have t1:FJ r (a.extract (sa+k) f).toList:=by
  have:=UT u1 ∅
  rwa [show sa+k+(l-k)=f by lia] at this
 have t2:FJ r (a.extract f (f+o)).toList:=UT (λi j c d=>D i j c ∅) ∅;have xl:∀N,r ((a.extract (sa+k) f)[(a.extract (sa+k) f).size-1]'(N))=fv r a sa (l-1):=λN=>by
  rw[gE,<- la];congr 2;lia
 have y0:∀N,r ((a.extract f (f+o))[0]'(N))=r a[f]:=λN=>by rw[gE];rfl
 have Y:∀(u:Array Keyed) (g:Nat),u.toList.Perm ((a.extract (sa+k) f).toList++(a.extract f (f+o)).toList)->FJ r u.toList ->
  Q true (SortSt.mk' H (u.toList.zipIdx.foldl (λa (x:Keyed×Nat)=>match x with|(p,j)=>a.setIfInBounds (sa+k+j) p) a) pn g none):=λu g C X=>by
  have hmz:u.size=l-k+o:=by
   have:=C.length_eq
   rw[av,aR,aR,aR,zx,zy] at this;exact this
  have S:∀x∈u,x∈a.extract (sa+k) f∨x∈a.extract f (f+o):=λx q=>by
   have:=(C.mem_iff).mp (gZ.mpr q)
   rw[br,gZ,gZ] at this;exact this
  have hl:=US (sa:=sa+k) u.toList 0 a (by rw[aR];lia);generalize (u.toList.zipIdx.foldl (λa (x:Keyed×Nat)=>match x with|(p,j)=>a.setIfInBounds (sa+k+j) p) a)=I at hl ⊢;rw[Nat.add_zero,aR] at hl;have hg:=Xf hl ∅;have fl:∀j,j<k->fv r I sa j=fv r a sa j:=λj v=>by unfold fv;rw[hg,ee ∅]
  have fr:∀j,k+(l-k+o)<=j->fv r I sa j=fv r a f (j-l):=λj v=>by unfold fv;rw[hg,er ∅,er ∅,show f+(j-l)=sa+j by lia]
  have fm:∀j,k<=j->(v:j-k<u.size)->fv r I sa j=r u[j-k]:=λj v B=>by
   unfold fv;rw[hg,er ∅,ee ∅,show sa+j-(sa+k)=j-k by lia,getElem?_pos u (j-k) B];rfl
  have mlo:∀x∈u,∀j,j<k->fv r a sa j<=r x:=λx q j v=>by
   rcases S x q with z|z
   ·obtain⟨p,c,d,e⟩:=mx x z
    rw[e];exact F j p ∅ d
   ·obtain⟨p,c,e⟩:=my x z
    rw[e]
    have:=D 0 p ∅ ∅
    have:=lo j v
    lia
  have mhi:∀x∈u,∀j,o<=j->j<t->r x<=fv r a f j:=λx q j v B=>by
   rcases S x q with z|z
   ·obtain⟨p,c,d,e⟩:=mx x z
    rw[e];exact qV (F p (l-1) ∅ ∅) (hi2 j v B)
   ·obtain⟨p,c,e⟩:=my x z
    rw[e];exact D p j ∅ B
  refine h I g ⟨Array.perm_iff_toList_perm.mpr ?_,λp z=>?_⟩ λi j J v=>?_
  ·have ea:a.toList=a.toList.take (sa+k)++((a.extract (sa+k) f).toList++(a.extract f (f+o)).toList)++a.toList.drop (sa+k+u.size):=by
    have d1:=drop_take (a:=a) (i:=sa+k) (k:=l-k);have d2:=drop_take (a:=a) (i:=f) (k:=o);rw[show sa+k+(l-k)=f by lia] at d1;rw[show sa+k+u.size=f+o by lia,cH,cH,<- d2,<- d1,vI]
   rw[hl];refine List.Perm.trans ?_ (List.Perm.of_eq ea.symm);exact (C.append_left _).append_right _
  ·rw[hg]
   by_cases c1:p<sa+k
   ·rw[ee c1]
   ·rw[er c1,er ∅]
  ·by_cases ci:i<k
   ·rw[fl i ci]
    by_cases cj:j<k
    ·rw[fl j cj];exact F i j J ∅
    ·by_cases G:j-k<u.size
     ·rw[fm j ∅ G];exact mlo _ (bK _) i ci
     ·rw[fr j ∅]
      have:=D 0 (j-l) ∅ ∅
      have:=lo i ci
      lia
   ·by_cases ci2:i-k<u.size
    ·rw[fm i ∅ ci2]
     by_cases G:j-k<u.size
     ·rw[fm j ∅ G];exact FJ.le X ∅ G
     ·rw[fr j ∅];exact mhi _ (bK _) _ ∅ ∅
    ·rw[fr i ∅,fr j ∅]
     exact D _ _ ∅ ∅
 have R:∀x∈a.extract (sa+k) f,r a[f]<=r x:=λx q=>by
  obtain⟨p,c,d,e⟩:=mx x q;rw[e];exact Int.le_of_lt (hi p c d)
 have U:∀x∈a.extract f (f+o),r x<=fv r a sa (l-1):=λx q=>by
  obtain⟨p,c,e⟩:=my x q;rw[e];exact Int.le_of_lt (lo2 p c)
 by_cases Z:l-k<=o
 ·rw[ee Z]
  refine wpS_bind (agQ (st:=SortSt.mk' H a pn P none) hc L m1 m2 t1 t2 ∅ ∅ (by rw[y0];exact R _ (bK _)) (λy hy=>by rw[xl];exact U y hy) λK g C X=>?_);exact wpS_bind (wpS_modify (wpS_bind (wpS_get (wpS_pure (Y K g C X)))))
 ·rw[er Z]
  refine wpS_bind (agS (st:=SortSt.mk' H a pn P none) hc L m1 m2 t1 t2 ∅ ∅ (λx q=>by rw[y0];exact R x q) (by rw[xl];exact U _ (bK _)) λK g C X=>?_);exact wpS_bind (wpS_modify (wpS_bind (wpS_get (wpS_pure (Y K g C X)))))
def Ch(r:Keyed->Int)(a:Array Keyed):Nat->List (Nat×Nat×Nat)->Nat->Prop
 |lo,[],hi=>lo=hi
 |lo,(s,n,_)::t,hi=>s=lo/\0<n/\Up (fv r a s) n/\Ch r a (s+n) t hi
theorem Ch.len{a:Array Keyed}{b:Nat}:∀{L:List (Nat×Nat×Nat)} {lo:Nat},Ch r a lo L b->lo+L.length<=b
 |[],lo,h=>by have h:lo=b:=h;simp;lia
 | (s,n,p)::t,lo,h=>by
  have:=Ch.len h.2.2.2
  have d:s=lo:=h.1;have c:0<n:=h.2.1;rw[bx];lia
theorem Ch.app{a:Array Keyed}{b:Nat}{M:List (Nat×Nat×Nat)}:∀{L:List (Nat×Nat×Nat)} {lo:Nat},Ch r a lo (L++M) b->∃mid,Ch r a lo L mid/\Ch r a mid M b
 |[],lo,h=>⟨lo,rfl,h⟩
 | (s,n,p)::t,lo,h=>by
  obtain⟨mid,x,y⟩:=Ch.app h.2.2.2;exact⟨mid,⟨h.1,h.2.1,h.2.2.1,x⟩,y⟩
theorem Ch.join{a:Array Keyed}{mid b:Nat}{M:List (Nat×Nat×Nat)}:∀{L:List (Nat×Nat×Nat)} {lo:Nat},Ch r a lo L mid->Ch r a mid M b->Ch r a lo (L++M) b
 |[],lo,h,k=>by have h:lo=mid:=h;subst h;exact k
 | (s,n,p)::t,lo,h,k=>⟨h.1,h.2.1,h.2.2.1,Ch.join h.2.2.2 k⟩
theorem Ch.congr{a f:Array Keyed}{b:Nat}:∀{L:List (Nat×Nat×Nat)} {lo:Nat},Ch r a lo L b->(∀k,lo<=k->k<b->f[k]?=a[k]?)->Ch r f lo L b
 |[],lo,h,_=>h
 | (s,n,p)::t,lo,h,e=>by
  have j:s=lo:=h.1
  have:=Ch.len h.2.2.2
  exact⟨h.1,h.2.1,h.2.2.1.eq λi g=>by unfold fv;rw[e _ ∅ ∅],Ch.congr h.2.2.2 λk c d=>e k ∅ d⟩
theorem Ch.pw{a:Array Keyed}{b:Nat}:∀{L M:List (Nat×Nat×Nat)} {lo:Nat},Ch r a lo L b->L.map (λt=>(t.1,t.2.1))=M.map (λt=>(t.1,t.2.1))->Ch r a lo M b
 |[],[],lo,h,_=>h
 | (s,n,p)::t,(s',d,c)::t',lo,h,e=>by
  simp only[bO,List.cons.injEq,Prod.mk.injEq] at e;obtain⟨⟨rfl,rfl⟩,e⟩:=e;exact⟨h.1,h.2.1,h.2.2.1,Ch.pw h.2.2.2 e⟩
 |[],_::_,_,_,e=>by simp at e
 |_::_,[],_,_,e=>by simp at e
theorem JK{α:Type}{x y v:α}{M:List α}:∀{L:List α},((L++x::y::M).set L.length v).eraseIdx (L.length+1)=L++v::M
 |[]=>rfl
 |z::L=>by
  have:=JK (x:=x) (y:=y) (v:=v) (M:=M) (L:=L)
  simpa using this
def SI(κ:SortKind)(a₀:Array Keyed)(r:Keyed->Int)(st:SortSt)(lo:Nat):Prop:=kindOf st=κ/\(arrOf st).Perm a₀/\failedOf st=none/\Ch r (arrOf st) 0 (pendingOf st).toList lo
theorem SI.mem{st:SortSt}{lo:Nat}(h:SI κ a₀ r st lo):∀x∈arrOf st,x∈a₀:=λx a=>(h.2.1.mem_iff).mp a
theorem UU{st:SortSt}{lo i:Nat}{Q:Bool->SortSt->Prop}(R:R8 prog w A s κ a₀ r)(Z:SI κ a₀ r st lo)(X:lo<=a₀.size)(U:i+1<(pendingOf st).size)
 (h:∀c,SI κ a₀ r c lo->(pendingOf c).size+1=(pendingOf st).size->(∀k,lo<=k->(arrOf c)[k]?=(arrOf st)[k]?)->Q true c):wpS (model prog w) A E s (mergeAt' i) Q st:=by
 obtain⟨F,o,N,m⟩:=Z;obtain⟨⟨e,f,l⟩,t⟩:∃x,(pendingOf st)[i]?=some x:=⟨_,getElem?_pos (pendingOf st) i ∅⟩;obtain⟨⟨z,b,H⟩,p⟩:∃x,(pendingOf st)[i+1]?=some x:=⟨_,getElem?_pos (pendingOf st) (i+1) U⟩;have G:(pendingOf st).toList=(pendingOf st).toList.take i++(e,f,l)::(z,b,H)::(pendingOf st).toList.drop (i+2):=by
  rw[<- dR] at t p;obtain⟨g1,q⟩:=ai.mp t;obtain⟨g2,u⟩:=ai.mp p;rw[<- q,<- u,<- pP,<- pP,vI]
 have j:((pendingOf st).toList.take i).length=i:=by rw[bQ,aR];lia
 rw[G] at m;obtain⟨mid,D,S⟩:=m.app;obtain⟨J,K,V,O,Y,W,B⟩:=S;have z1:=Ch.len B;have I:=o.size_eq;have z0:=Ch.len D;refine agT R F (λx hx=>(o.mem_iff).mp hx) N t p O K Y ∅ V W λa g n T=>?_;have C:(((pendingOf st).setIfInBounds i (e,f+b,l)).eraseIdxIfInBounds (i+1)).toList=(pendingOf st).toList.take i++(e,f+b,l)::(pendingOf st).toList.drop (i+2):=by
  rw[Array.toList_eraseIdxIfInBounds,Array.toList_setIfInBounds]
  have:=JK (x:=(e,f,l)) (y:=(z,b,H)) (v:=(e,f+b,l)) (M:=(pendingOf st).toList.drop (i+2)) (L:=(pendingOf st).toList.take i)
  rw[j,<- G] at this;exact this
 refine h _ ⟨F,n.1.trans o,rfl,?_⟩ ?_ λk P=>n.2 k ∅
 ·show Ch r a 0 _ lo
  rw[show pendingOf (SortSt.mk' (kindOf st) a (((pendingOf st).setIfInBounds i (e,f+b,l)).eraseIdxIfInBounds (i+1)) g none)=(((pendingOf st).setIfInBounds i (e,f+b,l)).eraseIdxIfInBounds (i+1)) from rfl,C];refine Ch.join (mid:=mid) (D.congr λk _ d=>n.2 k ∅) ⟨J,∅,T,?_⟩;rw[show e+(f+b)=z+b by lia];exact B.congr λk d _=>n.2 k ∅
 ·show (((pendingOf st).setIfInBounds i (e,f+b,l)).eraseIdxIfInBounds (i+1)).size+1=_
  rw[<- aR,C];simp[j];lia
theorem adl{st:SortSt}{Q:Unit->SortSt->Prop}(R:R8 prog w A s κ a₀ r)(hS:SI κ a₀ r st 0)(h1:0<a₀.size)(h:∀b,(arrOf b).Perm a₀->failedOf b=none->Up (fv r (arrOf b) 0) a₀.size->Q () b):wpS (model prog w) A E s sortRuns' Q st:=by
 have hz:(arrOf st).size=a₀.size:=hS.2.1.size_eq;refine wpS_bind (wpS_get ?_);dsimp only;rw[show (arrOf st).size=_ from hz];generalize (sortPriv% PySem.Builtin.minRun) a₀.size a₀.size 0=mr;refine wpS_bind (wpS_mono (wpS_forRange (I:=λx c b=>∃lo,c=(none,lo)/\SI κ a₀ r b lo/\lo<=a₀.size/\x<=lo) (Q:=λc b=>c=(none,a₀.size)/\SI κ a₀ r b a₀.size) ?_ ?_ ⟨0,rfl,hS,∅,∅⟩) ?_)
 ·rintro x c b _ T ⟨lo,rfl,l,W,M⟩
  dsimp only;by_cases D:lo≥a₀.size
  ·rw[ee D]
   have:lo=a₀.size:=∅
   subst this;exact wpS_pure ⟨rfl,l⟩
  rw[er D];have hz':(arrOf b).size=a₀.size:=l.2.1.size_eq;refine wpS_bind (aaB R l.1 l.mem ∅ ∅ λn a B q kp up=>?_);dsimp only;have g:SI κ a₀ r (setArr b a) lo:=⟨l.1,kp.1.trans l.2.1,l.2.2.1,l.2.2.2.congr λk _ d=>kp.2 k ∅⟩;have m:Up (fv r (arrOf (setArr b a)) lo) n:=up;generalize setArr b a=f at g m ⊢;refine UP (α:=SortSt) (β:=Nat) (C:=λst n=>SI κ a₀ r st lo/\0<n/\lo+n<=a₀.size/\Up (fv r (arrOf st) lo) n) (λK=>by
   by_cases J:n<mr
   ·rw[ee J]
    refine wpS_bind (wpS_lift (wpAny_rule ⟨rfl,?_⟩));have hz2:(arrOf f).size=a₀.size:=g.2.1.size_eq;obtain⟨N,S⟩:∃N,N=min (a₀.size-lo) mr:=⟨_,rfl⟩;rw[<- S];refine wpS_bind (adk R g.1 g.mem ∅ ∅ m λa LQ o=>?_);rw[er (-_)];have j:SI κ a₀ r (setArr f a) lo:=⟨g.1,LQ.1.trans g.2.1,g.2.2.1,g.2.2.2.congr λk _ d=>LQ.2 k ∅⟩;have F:Up (fv r (arrOf (setArr f a)) lo) N:=o;generalize setArr f a=e at j F ⊢;exact K e N ⟨j,∅,∅,F⟩
   ·rw[er J]
    obtain⟨U,hn⟩:∃U,U=n:=⟨_,rfl⟩;rw[<- hn];exact K f U ⟨g,∅,∅,hn▸m⟩) ?_
  rintro f n ⟨g,B,q,m⟩;refine wpS_bind (wpS_get ?_);have H:∀e,SI κ a₀ r e lo->Up (fv r (arrOf e) lo) n->SI κ a₀ r (setPending e ((pendingOf e).push (lo,n,0))) (lo+n):=λe j o=>⟨j.1,j.2.1,j.2.2.1,by
   show Ch r (arrOf e) 0 ((pendingOf e).push (lo,n,0)).toList (lo+n);rw[uL];exact j.2.2.2.join ⟨rfl,B,o,rfl⟩⟩
  cases hb:(pendingOf f).back? with
  |none =>
   exact wpS_bind (wpS_modify (wpS_pure ⟨_,rfl,H f g m,q,∅⟩))
  |some t =>
   obtain⟨O,G,p1⟩:=t;dsimp only;generalize (sortPriv% PySem.Builtin.power) a₀.size (2*O+G) (2*O+G+G+n) a₀.size=pw;refine wpS_bind (wpS_mono (wpS_forRange (I:=λ_ c b=>c=(none,())/\SI κ a₀ r b lo/\Up (fv r (arrOf b) lo) n) (Q:=λc b=>c=(none,())/\SI κ a₀ r b lo/\Up (fv r (arrOf b) lo) n) ?_ (λc b z=>z) ⟨rfl,g,m⟩) ?_)
   ·rintro y c e _ _ ⟨rfl,j,o⟩
    refine wpS_bind (wpS_get ?_);by_cases v:(pendingOf e).size > 1
    ·rw[ee v]
     obtain⟨⟨f1,f2,u⟩,T⟩:∃x,(pendingOf e)[(pendingOf e).size-2]?=some x:=⟨_,getElem?_pos (pendingOf e) _ ∅⟩;rw[show (pendingOf e)[(pendingOf e).size-2]?=_ from T];dsimp only;by_cases ho:u<=pw
     ·rw[ee ho]
      exact wpS_pure ⟨rfl,j,o⟩
     rw[er ho];refine wpS_bind (UU R j ∅ (by show (pendingOf e).size-2+1<(pendingOf e).size;lia) λMa V _ ke=>?_);rw[er (-_)];exact wpS_pure ⟨rfl,V,o.eq λi _=>by unfold fv;rw[ke _ ∅]⟩
    ·rw[er v]
     exact wpS_pure ⟨rfl,j,o⟩
   ·rintro c e ⟨rfl,j,o⟩
    dsimp only;refine wpS_bind (wpS_modify (wpS_bind (wpS_modify (wpS_pure ⟨_,rfl,H (setPending e ((pendingOf e).modify ((pendingOf e).size-1) λx=>(x.fst,x.2.fst,pw))) ⟨j.1,j.2.1,j.2.2.1,j.2.2.2.pw ?_⟩ o,q,∅⟩))));show _=((pendingOf e).modify ((pendingOf e).size-1) λx=>(x.fst,x.2.fst,pw)).toList.map _;rw[<- Array.toList_map,<- Array.toList_map];congr 1;apply Array.ext
    ·simp
    ·intro i h1 h2
     simp[Array.getElem_modify];split <;> simp
 ·rintro c b ⟨lo,rfl,l,W,M⟩
  rw[show max 0 a₀.size=a₀.size by lia] at M
  have:lo=a₀.size:=∅
  subst this;exact⟨rfl,l⟩
 rintro c b ⟨rfl,l⟩;dsimp only;have l0:=Ch.len l.2.2.2;rw[aR] at l0;refine wpS_bind (wpS_mono (wpS_forRange (I:=λx c b=>c=(none,())/\SI κ a₀ r b a₀.size/\(pendingOf b).size+x<=a₀.size) (Q:=λc b=>c=(none,())/\SI κ a₀ r b a₀.size/\(pendingOf b).size<=1) ?_ ?_ ⟨rfl,l,∅⟩) ?_)
 ·rintro x c f _ T ⟨rfl,g,hpx⟩
  refine wpS_bind (wpS_get ?_);by_cases v:(pendingOf f).size<=1
  ·rw[ee v]
   exact wpS_pure ⟨rfl,g,v⟩
  rw[er v];refine wpS_bind (UU R g (ay _) ?_ λe j Sa _=>?_)
  ·have X:∀(c:Prop) [Decidable c],(if c then (pendingOf f).size-2-1 else (pendingOf f).size-2)+1<(pendingOf f).size:=λc _=>by split <;> lia
   exact X _
  ·rw[er (-_)]
   exact wpS_pure ⟨rfl,j,∅⟩
 ·rintro c f ⟨rfl,g,hpx⟩
  exact⟨rfl,g,∅⟩
 rintro c f ⟨rfl,g,Z⟩;refine wpS_pure (h f g.2.1 g.2.2.1 ?_);have p:=g.2.2.2;have P:(pendingOf f).toList.length<=1:=by rw[aR];exact Z
 generalize (pendingOf f).toList=L at p P
 match L,p,P with
 |[],p,_=>have:0=a₀.size:=p;lia
 |[(O,G,p1)],⟨q1,q2,q3,Y⟩,_ =>
  have Y:O+G=a₀.size:=Y;subst q1;rw[<- Y,Nat.zero_add];exact q3
 |_::_::_,_,P=>simp at P
end
theorem KW{n:Nat}(h:n<=100000):n<sizeLine:=cK h (!_)
section
variable{prog:Program}{w:World}{A:Around}{E:Value->Shared->Prop}{s:Shared}{κ:SortKind}{r:Keyed->Int}
def Keeps(h h':Heap)(d:Addr):Prop:=∀b o,b≠d->h.get? b=some o->h'.get? b=some o
theorem UW{d:Addr}{vs:List Value}{c:Nat}{P:PySem.Fin->Shared->Prop}(f:s.heap.get? d=some (seqObj "list" vs.toArray c))(C:2<=vs.length)(B:vs.length<=sizeLine)
 (y:∀h',Keeps s.heap h' d->∀Q:SortKind->Shared->Prop,Q κ {s with heap:=h'}->wpAny (model prog w) A (keyKind' vs.toArray) Q E {s with heap:=h'})
 (q:∀h',Keeps s.heap h' d->R8 prog w A {s with heap:=h'} κ (pairsOf vs) r)
 (k:∀out:Array Keyed,out.Perm (pairsOf vs)->Up (fv r out 0) vs.length->P (.done (.ret .none)) {s with heap:=sortedHeap s.heap d vs (out.map (·.2))}) :
 wpAny (model prog w) A (Builtin.«list.sort» ⟨[.ref d],[]⟩) P E s:=by
 have u:d<s.heap.objs.size:=Heap.lt_size f;rw[list_sort_plain];refine wpAny_bind (listItems_at f rfl (wpAny_bind (listUpdate_at f rfl ?_)));obtain⟨g,m⟩:∃g,(s.heap.update d (Obj.mapSeq λ_=>#[])).get? d=some (seqObj "list" #[] g):=⟨_,get?_update_seq f (λ_=>#[])⟩;refine wpAny_bind (seqEpoch_at m rfl (wpAny_bind (wpAny_newTuple (wpAny_bind (wpAny_newList (wpAny_holding ?_))))));have i:(((s.heap.update d (Obj.mapSeq λ_=>#[])).push (seqObj "tuple" vs.toArray 0)).push (seqObj "list" #[] 0)).get? d=some (seqObj "list" #[] g) :=
  Heap.get?_push_of_some _ (Heap.get?_push_of_some _ m)
 have l:Keeps s.heap (((s.heap.update d (Obj.mapSeq λ_=>#[])).push (seqObj "tuple" vs.toArray 0)).push (seqObj "list" #[] 0)) d:=λb o t e =>
  Heap.get?_push_of_some _ (Heap.get?_push_of_some _ (Heap.get?_update_of_ne _ (bL t) e))
 show wpAny (model prog w) A _ P E {s with heap:=((s.heap.update d (Obj.mapSeq λ_=>#[])).push (seqObj "tuple" vs.toArray 0)).push (seqObj "list" #[] 0)};dsimp only;have h:¬vs.toArray.size<2:=by simp;lia
 rw[er h,er h];refine wpAny_bind (y _ l _ ?_);refine wpAny_bind (wpAny_mono (adl (a₀:=pairsOf vs) (κ:=κ) (r:=r) (st:=SortSt.mk' κ (vs.toArray.zip vs.toArray) #[] 7 none) (Q:=λ_ a=>(arrOf a).Perm (pairsOf vs)/\failedOf a=none/\Up (fv r (arrOf a) 0) (pairsOf vs).size) (q _ l) ⟨rfl,Array.Perm.refl _,rfl,rfl⟩ (by rw[pairsOf_size];lia) λa z x v=>⟨z,x,v⟩) ?_ λ_ _ e=>e);rintro⟨⟨⟩,a⟩ D ⟨rfl,j,p,n⟩;dsimp only;refine wpAny_bind (seqEpoch_at i rfl ?_);refine wpAny_bind (listUpdate_at i rfl ?_ (hsz2:=by refine aN (Nat.le_of_eq ((Array.size_map ..).trans (j.size_eq.trans (pairsOf_size _)))) ?_;lia));rw[p];simp only[bne_self_eq_false,mq,if_false];rw[pairsOf_size] at n;exact wpAny_pure (k _ j n)
theorem OW{l:Addr}{vs:List Value}{Q:Value->Shared->Prop}(hl:s.heap.IsList l vs.toArray)(j:2<=vs.length)(f:vs.length<=sizeLine)
 (n:∀(A:Around) (E:Value->Shared->Prop) h',(∀b o,s.heap.get? b=some o->h'.get? b=some o)->∀Q:SortKind->Shared->Prop,Q κ {s with heap:=h'}->wpAny (model prog w) A (keyKind' vs.toArray) Q E {s with heap:=h'})
 (i:∀(A:Around) h',(∀b o,s.heap.get? b=some o->h'.get? b=some o)->R8 prog w A {s with heap:=h'} κ (pairsOf vs) r)
 (k:∀out:Array Keyed,out.Perm (pairsOf vs)->Up (fv r out 0) vs.length->Q (.ref (s.heap.objs.size+1)) {s with heap:=sortedAll s.heap vs (out.map (·.2))}):wpAny (model prog w) A (call (.builtin "sorted") [.ref l]) Q E s:=by
 refine Calls.call_function_entry kind_sorted plain_sorted entry_sorted (args_sorted1 _) ?_;unfold Builtin.«sorted»;refine wpAny_bind (m:=checkCount "sorted" 1 1 _) (wpAny_pure (wpAny_bind (collect_list hl (hsz:=f) (wpAny_bind (wpAny_newList ?_)))));have c:((s.heap.push (seqObj "list" #[] 0)).update s.heap.objs.size (Obj.mapSeq (·++vs.toArray))).objs.size=s.heap.objs.size+1:=(Heap.size_update _ _ _).trans (size_push' _ _);have h:(((s.heap.push (seqObj "list" #[] 0)).update s.heap.objs.size (Obj.mapSeq (·++vs.toArray))).push (seqObj "list" vs.toArray 0)).get? (s.heap.objs.size+1)=some (seqObj "list" vs.toArray 0):=c▸Heap.get?_push_size _ rfl;have d:∀{h'},Keeps (((s.heap.push (seqObj "list" #[] 0)).update s.heap.objs.size (Obj.mapSeq (·++vs.toArray))).push (seqObj "list" vs.toArray 0)) h' (s.heap.objs.size+1)->∀b o,s.heap.get? b=some o->h'.get? b=some o:=λ{h'} K b o e=>by
  have g:b<s.heap.objs.size:=Heap.lt_size e;exact K b o (bE (Nat.lt_succ_of_lt g)) (Heap.get?_push_of_some _ (Heap.get?_update_of_ne _ (Nat.ne_of_gt g) (Heap.get?_push_of_some _ e)))
 show wpAny _ _ _ _ _ {s with heap:=((s.heap.push (seqObj "list" #[] 0)).update s.heap.objs.size (Obj.mapSeq (·++vs.toArray))).push (seqObj "list" vs.toArray 0)};rw[c];exact wpAny_bind (wpAny_holding (wpAny_call_entry slot_list_sort ⟨_,h,rfl⟩ entry_list_sort (UW (κ:=κ) (r:=r) h j f (λh' K=>n _ _ h' (d K)) (λh' K=>i _ h' (d K)) λout a b=>⟨_,rfl,wpAny_pure ⟨_,rfl,k out a b⟩⟩) (args_list_sort _)))
end
section
variable{X:Cx}
def UX(K:af):List V->Hp->VK->Prop:=λxs H Q=>∃(a:Addr) (qs:List Addr) (ts:List T3),xs=[.ref a]/\bP K H a (qs.map V.ref)/\fT K H qs ts/\ts.length<2000 /\
 ∀l (A3:List Addr) (ts':List T3),H l=none->ts'.Perm ts->AG ts'->fT K H A3 ts'->Q (.ref l) (upd H l (.lst (A3.map V.ref)))
noncomputable def zl(h:Heap)(v:Value):T3:=by
 classical exact if e:∃x,NQ h v x then e.choose else (0,0,0)
theorem NQ.uniq{h:Heap}{v:Value}{x y:T3}(a:NQ h v x)(b:NQ h v y):x=y:=by
 obtain⟨q,o,n,s,l,p,rfl,g,r,d⟩:=a;obtain⟨u,i,j,k,m,w,e,c,t,f⟩:=b;cases e;rw[g] at c;cases c
 have:=d.symm.trans f
 simp only[Data.seq.injEq,Array.mk.injEq,List.cons.injEq,Value.int.injEq] at this;exact Prod.ext this.1.1.1 (Prod.ext this.1.2.1.1 this.1.2.2.1.1)
theorem CO{h:Heap}{v:Value}{x:T3}(a:NQ h v x):zl h v=x:=by
 have e:∃x,NQ h v x:=⟨x,a⟩;unfold zl;rw[dif_pos e];exact e.choose_spec.uniq a
theorem NQ.keep{h h':Heap}{v:Value}{x:T3}(k:∀b o,h.get? b=some o->h'.get? b=some o)(a:NQ h v x):NQ h' v x:=by
 obtain⟨q,o,n,c,e,g,rfl,d,i,f⟩:=a;exact⟨q,o,n,c,e,g,rfl,k _ _ d,i,f⟩
theorem CP:nX X (.builtin "sorted") (UX X.K):=by
 intro G s σ H xs us Q I r ⟨a,g,ts,e,hq,U,hB,q⟩;subst e;obtain⟨u,e,ru⟩:=bZ.one r;subst e;cases ru;obtain⟨its,rv,p,hz⟩:=I.list hq;have agU:=Qk rv;subst agU;have B:=U.1;by_cases h0:ts.length=0
 ·have m:g=[]:=iw.mp ∅
  subst m;have A:ts=[]:=iw.mp h0;subst A;refine EW G s σ H [V.ref a] [Value.ref a] Q I (.cons rfl .nil) ⟨a,[],rfl,hq,!_,λl ns' hl R _=>?_⟩
  have:ns'=[]:=List.Perm.eq_nil R
  subst this;exact q l [] [] hl (List.Perm.refl _) (λi j x y _ h=>by simp at h) ⟨rfl,λi q t h=>by simp at h⟩
 by_cases W:ts.length=1
 ·obtain⟨c,m⟩:∃c,g=[c]:=List.length_eq_one_iff.mp ∅
  subst m;refine OL (v:=.ref c) p.isList ?_;obtain⟨e,he⟩:=sortedAll_at s.heap [.ref c] #[.ref c];refine⟨.ref (s.heap.objs.size+1),_,I.laid (a:=s.heap.objs.size+1) (o:=.lst [.ref c]) (t':=s.toks) (λb o e=>sortedAll_old e) (cV _) ⟨?_,[.ref c],e,.cons rfl .nil,he⟩,rfl,q _ [c] ts (I.hok.fresh (cV _)) (List.Perm.refl _) (λi j x y Z zk h2'=>?_) U⟩
  ·show 1<=sizeLine
   decide
  ·have:=(ai.mp h2').1
   lia
 have mk:∀{c:Addr} {x:T3},cQ X.K H c (HP x)->NQ s.heap (.ref c) x:=λ{c x} Y=>by
  obtain⟨jt,rj,tp,_⟩:=I.tuple Y;obtain⟨o,ho,hc,n,hd⟩:=tp;cases rj with
  |cons x1 r1=>cases r1 with
   |cons x2 r2=>cases r2 with
    |cons x3 r3 =>
     cases r3;obtain⟨t1,rfl⟩:=x1;obtain⟨t2,rfl⟩:=x2;obtain⟨t3,rfl⟩:=x3;exact⟨c,o,n,t1,t2,t3,rfl,ho,hc,hd⟩
 have J:∀c∈g,∃x∈ts,NQ s.heap (.ref c) x/\cQ X.K H c (HP x):=λc Xe=>by
  obtain⟨i,hi,e⟩:=List.mem_iff_getElem.mp Xe;have Y:=U.2 i c (ts[i]'∅) (by rw[aa hi,e]) (aa _);exact⟨ts[i],aQ _,mk Y,Y⟩
 have P:∀{h':Heap},(∀b o,s.heap.get? b=some o->h'.get? b=some o)->∀(i:Nat) v x,(g.map Value.ref)[i]?=some v->ts[i]?=some x->NQ h' v x:=λ{h'} F i v x m A=>by
  rw[aj] at m;cases M:g[i]? with
  |none=>rw[M] at m;cases m
  |some c =>
   rw[M] at m;cases m;exact (mk (U.2 i c x M A)).keep F
 refine OW (κ:=tuples' true) (r:=λx=>EZ ts (zl s.heap x.1)) (vs:=g.map Value.ref) p.isList (by rw[ah];lia) (by rw[ah];exact kg (KW ∅)) (λA' E' h' F Q' k=>?_) (λA' h' F x y L hy E' C k=>?_) λout R hu=>?_
 ·obtain⟨fs,kt,fl,fi⟩:=GN (h:=h') (vs:=g.map Value.ref) (ts:=ts) (by rw[ah];exact B) (P F)
  refine kat_kind (s:={s with heap:=h'}) (T:=.type "int") kt (by rw[fl,ah];lia) (λf hf=>?_) rfl ?_
  ·obtain⟨i,t,rfl⟩:=fi f hf
   exact Looks.of_pure rfl
  have agV:(Value.type "int" != Value.type "tuple")=true:=!_
  rw[agV];exact k
 ·have S:∀x∈pairsOf (g.map Value.ref),∃z∈ts,NQ s.heap x.1 z:=λx L=>by
   have:=gZ.mpr L
   rw[pairsOf_toList] at this;obtain⟨c,Xe,e⟩:=aL.mp (mem_zip_self this).2;obtain⟨z,hz,tz,_⟩:=J c Xe;exact⟨z,hz,e▸tz⟩
  obtain⟨zx,mx,tx⟩:=S x L;obtain⟨zy,my,ty⟩:=S y hy;refine aap (tx.keep F) (ty.keep F) ?_;have k:C (decide (EZ ts (zl s.heap x.1)<EZ ts (zl s.heap y.1))) {s with heap:=h'}:=k;rw[CO tx,CO ty,Mp mx] at k;exact k
 ·obtain⟨e,he⟩:=sortedAll_at s.heap (g.map Value.ref) (out.map (·.2))
  have D:(out.toList.map (·.2)).Perm (g.map Value.ref):=by
   have:=(Array.perm_iff_toList_perm.mp R).map (·.2)
   rw[pairsOf_toList] at this;refine this.trans (List.Perm.of_eq ?_);exact List.map_snd_zip (ay _)
  have hfs:∀x∈out.toList,x.1=x.2/\x.1∈g.map Value.ref:=λx L=>by
   have:=(Array.perm_iff_toList_perm.mp R).mem_iff.mp L
   rw[pairsOf_toList] at this;exact mem_zip_self this
  obtain⟨d,E⟩:∃d:List Addr,out.toList.map (·.2)=d.map Value.ref:=by
   have:∀l:List Value,(∀v∈l,∃q,v=Value.ref q)->∃d:List Addr,l=d.map Value.ref:=λl=>by
    induction l with
    |nil=>exact λ_=>⟨[],rfl⟩
    |cons v l ih =>
     intro h;obtain⟨d,e⟩:=ih λv hv=>h v (.tail _ hv);obtain⟨q,rfl⟩:=h v (.head _);exact⟨q::d,by rw[e];rfl⟩
   refine this _ λv hv=>?_;obtain⟨q,_,e⟩:=aL.mp (D.mem_iff.mp hv);exact⟨q,e.symm⟩
  have eo:(out.map (·.2)).toList=d.map Value.ref:=by rw[Array.toList_map];exact E
  have w:d.Perm g:=by
   rw[E] at D
   have:=D.map λv=>match v with|Value.ref q=>q|_=>0
   rw[dw,dw] at this;exact List.map_id g▸List.map_id d▸this
  have O:ts=g.map λq=>zl s.heap (.ref q):=by
   apply List.ext_getElem
   ·rw[ah];exact B.symm
   ·intro i W h2
    rw[List.getElem_map];exact (CO (P (h':=s.heap) (λ_ _ e=>e) i _ _ (by rw[aj,aa ∅];rfl) (aa W))).symm
  refine⟨.ref (s.heap.objs.size+1),_,I.laid (a:=s.heap.objs.size+1) (o:=.lst (d.map V.ref)) (t':=s.toks) (λb o e=>sortedAll_old e) (cV _) ⟨?_,(out.map (·.2)).toList,e,eo▸DO d,he⟩,rfl,q _ d (d.map λq=>zl s.heap (.ref q)) (I.hok.fresh (cV _)) ?_ (λi j x y Z m A=>?_) ⟨by rw[ah],λi c t0 m A=>?_⟩⟩
  ·rw[ah,w.length_eq]
   exact kg (KW ∅)
  ·rw[O]
   exact w.map _
  ·have hlo:out.size=g.length:=by
    have:=R.size_eq
    rw[pairsOf_size,ah] at this;exact this
   have hql:d.length=g.length:=w.length_eq;have hj:j<d.length:=by
    have:=(ai.mp A).1
    rwa [ah] at this
   have N:∀(p:Nat) (z:T3),p<d.length->(d.map λq=>zl s.heap (.ref q))[p]?=some z->z∈ts/\fv (λx=>EZ ts (zl s.heap x.1)) out 0 p=EZ ts z:=λp z Ww e=>by
    rw[aj,aa Ww] at e;have ez:zl s.heap (.ref d[p])=z:=aK e;have Iu:0+p<out.size:=∅
    rw[n9 Iu];have W:(out[0+p]).1=.ref d[p]:=by
     have hm:out[0+p]∈out.toList:=-_
     rw[(hfs _ hm).1]
     have:(out.toList.map (·.2))[p]'(by rw[ah,aR];lia)=(d.map Value.ref)[p]'(by rw[ah];exact Ww):=by simp only[E]
     rw[List.getElem_map,List.getElem_map,Array.getElem_toList] at this
     simpa using this
    refine⟨?_,by rw[W,ez]⟩;rw[<- ez,O];exact aL.mpr ⟨_,w.mem_iff.mp (aQ Ww),rfl⟩
   obtain⟨m1,v1⟩:=N i x ∅ m;obtain⟨m2,v2⟩:=N j y hj A
   have:=hu i j ∅ (by rw[ah];lia)
   rw[v1,v2] at this;rw[<- Mp (ts:=ts) m2];exact gU ∅
  ·have hi:=(ai.mp m).1
   rw[aj,m] at A;have M:zl s.heap (.ref c)=t0:=aK A;obtain⟨z,_,tz,sz⟩:=J c (w.mem_iff.mp (aM m));rw[<- M,CO tz];exact sz
end
end L2
namespace L2
open PySem PySem.W PySem.Spec PySem.Calls PyProof.Rows
section
variable{prog:Program}{w:World}{A:Around}{d:Addr}{es:Array DictEntry}{ep:Nat}
def OX(h:Heap)(d:Addr)(es:Array DictEntry)(ep:Nat):Prop:=∃o,h.get? d=some o/\o.ExactDict/\o.data=.dict es ep
theorem OX.at'{h h':Heap}(x:OX h d es ep)(e:∀o,h.get? d=some o->h'.get? d=some o):OX h' d es ep:=by
 obtain⟨o,a,r⟩:=x;exact⟨o,e o a,r⟩
theorem OX.lt{h:Heap}(x:OX h d es ep):d<h.objs.size:=by
 obtain⟨o,a,_⟩:=x;exact Heap.lt_size a
theorem OY(t:A.handled=none)(I:Addr)(j:d≠I):Walks prog w A I [I,d] [I] es.size (λi v=>∃p,es[i]?=some p/\p.key=v) (λi h=>h.IsKeyIter I d i es.size ep/\OX h d es ep) where
 sub:=λb a=>by simp at a;simp[a]
 frame:=λ_ _ _ st q=>⟨st.1.at λo e=>q I (-_) o e,st.2.at' λo e=>q d (-_) o e⟩
 item:=λi s Q E r st f=>by
  obtain⟨o,k,_,n⟩:=id st.2;refine RZ st.1 k n (pQ r) λl g c=>?_;exact f _ l s.toks ⟨_,pQ r,rfl⟩ ⟨g,st.2.at' λo e=>c.extBut d o j e⟩ λb o a e=>c.extBut b o (λh=>a (by simp[h])) e
 done:=λs Q E st f=>by
  obtain⟨o,k,_,n⟩:=id st.2;exact UD t st.1 k n (ay _) λl m=>f l s.toks λb o a e=>m b o (λh=>a (by simp[h])) e
 self:=λ_ _ _ _ st f=>wpAny_pyIter_keyiter st.1 f
theorem UY(lo:(d==sysModules)=false):KdlSrc prog w "dict" d d es.size (λi v=>∃f,es[i]?=some f/\f.key=v) (λh=>OX h d es ep) where
 type:=λ_ hm=>by
  obtain⟨o,b,a,_⟩:=hm;exact⟨o,b,a.1⟩
 there:=λ_ hm=>⟨hm.lt,hm.lt⟩
 keep:=λ_ _ hm j=>hm.at' λo e=>j d (.inl rfl) o e
 notList:=!_
 notTuple:=!_
 hint:=λ_ _ _ _ hm c=>kdl_hint_dict (by obtain⟨o,b,a,_⟩:=hm;exact⟨o,b,a.1⟩) c
 iter:=λ_ s g hm=>⟨{cls:=.type "dict_keyiterator",data:=.fields #[.ref d,.int 0 0,.int es.size 0,.int ep 0]},_,(λ_ _ c=>by
  obtain⟨o,b,a,k⟩:=hm;exact RY lo b a k c),OY g _ (bE hm.lt),⟨⟨_,Heap.get?_push_size _ rfl,rfl,rfl⟩,hm.at' λo e=>Heap.get?_push_of_some _ e⟩⟩
end
section
variable{X:Cx}
def aaD:List V->Hp->VK->Prop:=λxs H Q=>∃(a:Addr) (kvs:List (List Key×V)),xs=[.ref a]/\H a=some (.dT kvs)/\∀l (qs:List Addr),H l=none->qs.length=kvs.length->(∀(i:Nat) q k v,qs[i]?=some q->kvs[i]?=some (k,v)->H q=some (.tup (k.map kV)))->Q (.ref l) (upd H l (.lst (qs.map V.ref)))
theorem OZ(M:X.calm=true):nX X (.type "list") aaD:=by
 intro A s σ H W us Q I r ⟨a,l,e,N,q⟩;subst e;obtain⟨u,e,J⟩:=bZ.one r;subst e;cases J;obtain⟨z,lo,j,d,o,O,U,P,F,E,B,_⟩:=YB I.hok N;have K:O.size=l.length:=by
  have:=g7 List.length B
  rw[ah,<- Paired.length d] at this
  simpa using this
 refine kdl_call (UY lo) (I.ok.hd M) ⟨o,P,F,E⟩ (by rw[K];exact z) λh' D b c G R n=>?_;obtain⟨C,x⟩:=n;have g:j.length=l.length:=(Paired.length d).symm;have h:b.toList=(j.map λy=>y.2.1).map Value.ref:=by
  refine List.ext_getElem? λi=>?_;by_cases n:i<b.size
  ·obtain⟨T,f,w⟩:=x i b[i] (pQ n)
   have m:i<j.length:=∅
   rw[<- dR,B,aj,aa m] at f;cases f;rw[dR,pQ n,aj,aj,aa m,<- w];rfl
  ·rw[fF (by rw[aR];lia),fF (by rw[ah,ah];lia)]
 refine⟨.ref s.heap.objs.size,_,I.laid (a:=s.heap.objs.size) (o:=.lst ((j.map λy=>y.2.1).map V.ref)) (t':=D) G (ay _) ⟨?_,b.toList,c,(by rw[h];exact DO _),by simpa using R⟩,rfl,q _ (j.map λy=>y.2.1) (I.hok.fresh (ay _)) (by rw[ah];exact g) λi p k v f w=>?_⟩
 ·rw[ah,ah,g]
  exact z
 ·obtain⟨⟨Z,Y,u⟩,S,L,t,YK⟩:=BD d w
  rw[aj,S] at f;cases f;exact t
end
end L2
namespace fc
open PySem L2
noncomputable def top (i:Nat):Stmt:=PySem.Challenge.pw_knotless_k31_letters_to_one_and_notes.main.body.getD i (.Pass ⟨0,0,0,0⟩)
noncomputable abbrev uN:Stmt:=(inClass (top 2) 0)
noncomputable abbrev w9:Stmt:=(inClass (top 2) 1)
noncomputable abbrev xg:Stmt:=(inClass (top 2) 2)
noncomputable abbrev xh:Stmt:=(inClass (top 2) 3)
noncomputable abbrev uO:Stmt:=(inClass (top 2) 4)
noncomputable abbrev DS:Stmt:=(top 4)
noncomputable abbrev BF:Stmt:=(top 5)
noncomputable abbrev qq:Stmt:=(inClass (top 17) 0)
noncomputable abbrev sC:Stmt:=(inClass (top 17) 1)
noncomputable abbrev sD:Stmt:=(inClass (top 17) 2)
noncomputable abbrev qt:Stmt:=(inClass (top 17) 3)
noncomputable abbrev sE:Stmt:=(inClass (top 18) 0)
noncomputable abbrev uP:Stmt:=(inClass (top 18) 1)
noncomputable abbrev uQ:Stmt:=(inClass (top 18) 2)
noncomputable abbrev sF:Stmt:=(inClass (top 18) 3)
noncomputable abbrev uR:Stmt:=(inClass (top 19) 0)
noncomputable abbrev DT:Stmt:=(top 21)
noncomputable abbrev KY:Stmt:=(top 22)
noncomputable abbrev UZ:Stmt:=(top 23)
noncomputable abbrev U0:Stmt:=(top 25)
noncomputable abbrev KZ:Stmt:=(top 26)
noncomputable abbrev DU:Stmt:=(top 28)
noncomputable abbrev K0:Stmt:=(top 29)
noncomputable abbrev uS:Stmt:=(inClass (top 36) 0)
noncomputable abbrev zm:Stmt:=(inClass (top 36) 1)
noncomputable abbrev zo:Stmt:=(inClass (top 36) 2)
noncomputable abbrev qu:Stmt:=(inClass (top 36) 3)
noncomputable abbrev sG:Stmt:=(inClass (top 36) 4)
noncomputable abbrev zp:Stmt:=(inClass (top 36) 5)
noncomputable abbrev uT:Stmt:=(top 37)
noncomputable abbrev uU:Stmt:=(top 38)
noncomputable abbrev xj:Stmt:=(top 39)
noncomputable abbrev zq:Stmt:=(top 40)
noncomputable abbrev ow:Stmt:=(inClass (top 42) 0)
noncomputable abbrev lQ:Stmt:=(inClass (top 42) 3)
noncomputable abbrev lR:Stmt:=(inClass (top 42) 4)
noncomputable abbrev sH:Stmt:=(inClass (top 42) 5)
noncomputable abbrev BG:Stmt:=(top 43)
noncomputable abbrev uV:Stmt:=(top 44)
noncomputable abbrev qv:Stmt:=(inClass (top 47) 0)
noncomputable abbrev xm:Stmt:=(inClass (top 48) 0)
noncomputable abbrev BH:Stmt:=(inClass (top 48) 1)
noncomputable abbrev BI:Stmt:=(inClass (top 48) 2)
noncomputable abbrev zu:Stmt:=(inClass (top 48) 3)
noncomputable abbrev zw:Stmt:=(inClass (top 48) 4)
noncomputable abbrev xo:Stmt:=(inClass (top 48) 6)
noncomputable abbrev BJ:Stmt:=(inClass (top 48) 7)
noncomputable abbrev iR:Stmt:=(inClass (top 48) 13)
noncomputable abbrev xq:Stmt:=(inClass (top 48) 14)
noncomputable abbrev fM:Stmt:=(inClass (top 48) 15)
noncomputable abbrev zz:Stmt:=(inClass (top 48) 16)
noncomputable abbrev uW:Stmt:=(inClass (top 48) 17)
noncomputable abbrev qw:Stmt:=(inClass (top 48) 18)
noncomputable abbrev oz:Stmt:=(inClass (top 48) 19)
noncomputable abbrev BK:Stmt:=(inClass (top 48) 20)
noncomputable abbrev qy:Stmt:=(inClass (top 48) 22)
noncomputable abbrev mX:Stmt:=(inClass (top 48) 24)
noncomputable abbrev lT:Stmt:=(inClass (top 48) 25)
noncomputable abbrev oA:Stmt:=(inClass (top 48) 26)
noncomputable abbrev xr:Stmt:=(top 49)
noncomputable abbrev qz:Stmt:=(top 50)
noncomputable abbrev zA:Stmt:=(top 52)
noncomputable abbrev DV:Stmt:=(top 53)
noncomputable abbrev DW:Stmt:=(top 54)
noncomputable abbrev DX:Stmt:=(top 55)
noncomputable abbrev zB:Stmt:=(top 56)
noncomputable abbrev BL:Stmt:=(top 57)
noncomputable abbrev sI:Stmt:=(top 58)
noncomputable abbrev GW:Stmt:=(top 59)
noncomputable abbrev K1:Stmt:=(top 60)
noncomputable abbrev U1:Stmt:=(top 61)
theorem GX:aJ ["self"] ["self"] (aC uN):=jL
theorem IB:aJ ["self","house","caller","rope"] ["self","house","caller","rope"] (aC w9):=jL
theorem IC:aJ ["self","house","caller"] ["self","house","caller"] (aC xg):=jL
theorem A4:aJ ["self"] ["self"] (aC xh):=jL
theorem vQ:(["noted","rope"]:List Str).Nodup:=by decide +kernel
theorem GY:aJ ["self"] ["self"] (aC uO):=jL
theorem BN:aJ ["book","letter","house","came","open_here","here","handed"] ["book","letter","house","came","open_here","here"] (aC DS):=jL
theorem ID:(["caller","letter"]:List Str).Nodup:=by decide +kernel
theorem ug:aJ ["book","sought","house","came","open_here","here","noted","leading"] ["book","sought","house","came","open_here","here"] (aC BF):=jL
theorem GZ:(["rope","came"]:List Str).Nodup:=by decide +kernel
theorem DY:aJ ["self","sender"] ["self","sender"] (aC qq):=jL
theorem FL:aJ ["self","caller"] ["self","caller"] (aC sC):=jL
theorem FN:aJ ["self"] ["self"] (aC sD):=jL
theorem DZ:aJ ["self"] ["self"] (aC qt):=jL
theorem FO:aJ ["self","sender","to"] ["self","sender","to"] (aC sE):=jL
theorem G0:aJ ["self","caller"] ["self","caller"] (aC uP):=jL
theorem G1:aJ ["self"] ["self"] (aC uQ):=jL
theorem FP:aJ ["self"] ["self"] (aC sF):=jL
theorem G2:aJ ["self","caller"] ["self","caller"] (aC uR):=jL
theorem O0:aJ ["town","house"] ["town","house"] (aC DT):=jL
theorem My:aJ ["town","row","rope","hops"] ["town","row","rope"] (aC KY):=jL
theorem G3:aJ ["town","live","rows","house","least","rope","made"] ["town","live","rows","house"] (aC UZ):=jL
theorem U3:aJ ["town","live","rows"] ["town","live","rows"] (aC U0):=jL
theorem Sb:(["house","live","rows","town"]:List Str).Nodup:=by decide +kernel
theorem Mz:aJ ["town","live","rows"] ["town","live","rows"] (aC KZ):=jL
theorem MA:(["up"]:List Str).Nodup:=by decide +kernel
theorem BO:aJ ["town","live","rows","house","joined"] ["town","live","rows","house"] (aC DU):=jL
theorem IE:(["rope","joined"]:List Str).Nodup:=by decide +kernel
theorem G4:aJ ["town","live","rows","house","rope","other"] ["town","live","rows","house"] (aC K0):=jL
theorem G5:aJ ["self","names","ropes"] ["self","names","ropes"] (aC uS):=jL
theorem K2:aJ ["self","house"] ["self","house"] (aC zm):=jL
theorem K3:aJ ["self","number"] ["self","number"] (aC zo):=jL
theorem vR:aJ ["self","house"] ["self","house"] (aC qu):=jL
theorem qY:(["number","rope","house"]:List Str).Nodup:=by decide +kernel
theorem yp:aJ ["self","rope","house","ends"] ["self","rope","house"] (aC sG):=jL
theorem K4:aJ ["self","rope","group"] ["self","rope","group"] (aC zp):=jL
theorem G6:aJ ["names"] ["names"] (aC uT):=jL
theorem zC:aJ ["size","ropes","rope"] ["size","ropes"] (aC uU):=jL
theorem IF:aJ ["size","rope"] ["size","rope"] (aC xj):=jL
theorem K5:aJ ["size","one","other"] ["size","one","other"] (aC zq):=jL
theorem uh:aJ ["self","town"] ["self","town"] (aC ow):=jL
theorem zD:(["rope","town"]:List Str).Nodup:=by decide +kernel
theorem AX:aJ ["self","rope"] ["self","rope"] (aC lQ):=jL
theorem qZ:aJ ["self","rope","number","stand"] ["self","rope","number"] (aC lR):=jL
theorem yq:aJ ["self","group"] ["self","group"] (aC sH):=jL
theorem BP:(["rope","group","self"]:List Str).Nodup:=by decide +kernel
theorem MB:aJ ["town","rope"] ["town","rope"] (aC BG):=jL
theorem G7:aJ ["group"] ["group"] (aC uV):=jL
theorem D3:aJ ["self","letter","group"] ["self","letter","group"] (aC qv):=jL
theorem jh:aJ ["self","town","callers"] ["self","town","callers"] (aC xm):=jL
theorem D4:(["bit","town"]:List Str).Nodup:=by decide +kernel
theorem D5:(["bit"]:List Str).Nodup:=by decide +kernel
theorem D6:(["caller"]:List Str).Nodup:=by decide +kernel
theorem D7:(["caller"]:List Str).Nodup:=by decide +kernel
theorem D8:(["caller"]:List Str).Nodup:=by decide +kernel
theorem MC:aJ ["self","group"] ["self","group"] (aC BH):=jL
theorem MD:aJ ["self","group"] ["self","group"] (aC BI):=jL
theorem K6:aJ ["self","group"] ["self","group"] (aC zu):=jL
theorem K7:aJ ["self","group"] ["self","group"] (aC zw):=jL
theorem IG:aJ ["self","house","group"] ["self","house","group"] (aC xo):=jL
theorem zE:aJ ["self","house","group","ahead","row"] ["self","house","group"] (aC BJ):=jL
theorem um:aJ ["self","sender","to","letter","number","house"] ["self","sender","to"] (aC iR):=jL
theorem II:aJ ["self"] ["self"] (aC xq):=jL
theorem gJ:aJ ["self","at","landed","number","rope","house","posted","fate"] ["self","at"] (aC fM):=jL
theorem K8:aJ ["self","letter"] ["self","letter"] (aC zz):=jL
theorem G8:aJ ["self","posted","rope","house"] ["self","posted","rope","house"] (aC uW):=jL
theorem eK:aJ ["self","number","house","came","posted","group","open_here","here","found","caller","rope"] ["self","number","house","came"] (aC qw):=jL
theorem mY:aJ ["self","house","group","there"] ["self","house","group"] (aC oz):=jL
theorem zF:(["caller","self","there"]:List Str).Nodup:=by decide +kernel
theorem zG:aJ ["self","number","house","rope","posted","wire"] ["self","number","house","rope"] (aC BK):=jL
theorem vS:aJ ["self","group","posted"] ["self","group"] (aC qy):=jL
theorem BQ:aJ ["self","house"] ["self","house"] (aC mX):=jL
theorem AY:aJ ["self","caller"] ["self","caller"] (aC lT):=jL
theorem CQ:aJ ["self","sender","to"] ["self","sender","to"] (aC oA):=jL
theorem A5:aJ ["town"] ["town"] (aC xr):=jL
theorem D9:(["house","town"]:List Str).Nodup:=by decide +kernel
theorem vU:aJ ["town","callers","caller"] ["town","callers"] (aC qz):=jL
theorem K9:aJ ["_law_script","_law_k"] ["_law_script","_law_k"] (aC zA):=jL
theorem O6:aJ ["_law_found"] ["_law_found"] (aC DV):=jL
theorem lU:aJ ["_law_script","_law_size","_law_names_here","_law_k","_law_cell","_law_name"] ["_law_script","_law_size"] (aC DW):=jL
theorem dJ:aJ ["_law_script","_law_size","_law_group","_law_ropes_here","_law_many","_law_k","_law_cell","_law_one","_law_other","_law_rest","_law_cost","_law_lets"] ["_law_script","_law_size","_law_group"] (aC DX):=jL
theorem jY:aJ ["_law_script","_law_size","_law_group","_law_callers_here","_law_most","_law_k","_law_cell","_law_place"] ["_law_script","_law_size","_law_group"] (aC zB):=jL
theorem zH:aJ ["_law_net","_law_size","_law_group","_law_turn","_law_house"] ["_law_net","_law_size","_law_group"] (aC BL):=jL
theorem qA:aJ ["_law_story","_law_row"] ["_law_story"] (aC sI):=jL
theorem BR:(["_law_one"]:List Str).Nodup:=by decide +kernel
theorem Ea:aJ ["_law_ropes_here","_law_opened","_law_notes","_law_here","_law_house","_law_came","_law_to"] ["_law_ropes_here","_law_opened","_law_notes","_law_here","_law_house","_law_came","_law_to"] (aC GW):=jL
theorem La:(["_law_rope","_law_came"]:List Str).Nodup:=by decide +kernel
theorem Lb:(["_law_rope","_law_came","_law_house","_law_ropes_here"]:List Str).Nodup:=by decide +kernel
theorem gK:aJ ["_law_ropes_here","_law_opened","_law_notes","_law_callers_here","_law_sender","_law_to","_law_first","_law_group","_law_number","_law_story","_law_waiting","_law_at","_law_house","_law_came","_law_caller","_law_here","_law_rope"] ["_law_ropes_here","_law_opened","_law_notes","_law_callers_here","_law_sender","_law_to"] (aC K1):=jL
theorem ME:(["_law_caller","_law_callers_here","_law_group","_law_house"]:List Str).Nodup:=by decide +kernel
theorem iy:aJ ["_law_script","_law_size","_law_group","_law_ropes_here","_law_callers_here","_law_net","_law_one","_law_notes","_law_number","_law_cell","_law_sender","_law_mates","_law_to","_law_ought","_law_row","_law_story","_law_told"] ["_law_script"] (aC U1):=jL
theorem Sd:(["_law_caller","_law_callers_here","_law_one"]:List Str).Nodup:=by decide +kernel
theorem JL:(["_law_house","_law_caller","_law_notes","_law_one"]:List Str).Nodup:=by decide +kernel
set_option genInjectivity false in
structure Ad where
 (kK mZ m5 m6 kL vV sJ dY jN gM gf jO kM kN jP kP vW CS MF MG xu vX CU kQ pV pW i6 jQ pX kT kU m7 pY iG gO gP jR sL kW i7 m8 sM sN pZ p6 m9 sO ng p7 kX i8 iH sP i9 iu gQ iI nh jc p8 vY vZ wc p9 sQ jS zI CV MH:Addr)
 (oZ rF rG rH o6 AJ xw lz ni nj lA nv o8 pq nA pC AK Gn Qv Qw Gp AL Gq pD uo uq lB nB ur pF pG rJ uu jZ iS iT nC xx pH lD rK xA xB uv uw rL xC rM ux pI lE j3 xD lF jx iU j4 rN lG uy AM AN AO uz xE nD CY Gs MJ:FuncData)
 iV:Addr
 xF:FuncData
 fN:Addr
 pJ:FuncData
 ji:Tok
 iJ:Addr
 fY:Addr
 iW:Addr
 jd:Addr
 bD:Addr
 c8:Addr
 eS:Addr
 cO:Addr
 CZ:Addr
 AQ:Addr
 pK:Tok
 rP:Tok
 rQ:Tok
 rR:Tok
 nG:Tok
 ff:Addr
structure Txt(K:af)(mg:Str->Option Value)(t:Ad):Prop where
 uX:Mv K t.eS "Book.__init__" uN t.kK t.oZ ["self"]
 C0:jz K t.eS "learn" "Book.learn" w9 t.mZ t.rF ["self","house","caller","rope"]
 C1:jz K t.eS "known" "Book.known" xg t.m5 t.rG ["self","house","caller"]
 xG:jz K t.eS "notes" "Book.notes" xh t.m6 t.rH ["self"]
 uY:jz K t.eS "forget" "Book.forget" uO t.kL t.o6 ["self"]
 JM:nW K mg "targets" "targets" DS t.vV t.AJ ["book","letter","house","came","open_here","here"]
 G9:nW K mg "ropes_on" "ropes_on" BF t.sJ t.xw ["book","sought","house","came","open_here","here"]
 qB:Mv K t.iJ "Letter.__init__" qq t.dY t.lz ["self","sender"]
 zJ:jz K t.iJ "meant" "Letter.meant" sC t.jN t.ni ["self","caller"]
 nH:jz K t.iJ "seeks" "Letter.seeks" sD t.gM t.nj ["self"]
 lH:jz K t.iJ "number" "Letter.number" qt t.gf t.lA ["self"]
 zK:Mv K t.fY "ToOne.__init__" sE t.jO t.nv ["self","sender","to"]
 A6:jz K t.fY "meant" "ToOne.meant" uP t.kM t.o8 ["self","caller"]
 uZ:jz K t.fY "seeks" "ToOne.seeks" uQ t.kN t.pq ["self"]
 sR:jz K t.fY "number" "ToOne.number" sF t.jP t.nA ["self"]
 A7:jz K t.iW "meant" "ToAll.meant" uR t.kP t.pC ["self","caller"]
 Eb:nW K mg "own_row" "own_row" DT t.vW t.AK ["town","house"]
 Lc:nW K mg "offer" "offer" KY t.CS t.Gn ["town","row","rope"]
 YT:nW K mg "due" "due" UZ t.MF t.Qv ["town","live","rows","house"]
 YU:nW K mg "ups" "ups" U0 t.MG t.Qw ["town","live","rows"]
 C2:nW K mg "opens" "opens" KZ t.xu t.Gp ["town","live","rows"]
 JN:nW K mg "open_at" "open_at" DU t.vX t.AL ["town","live","rows","house"]
 Qx:nW K mg "up_of" "up_of" K0 t.CU t.Gq ["town","live","rows","house"]
 A8:Mv K t.bD "Town.__init__" uS t.kQ t.pD ["self","names","ropes"]
 E2:jz K t.bD "name" "Town.name" zm t.pV t.uo ["self","house"]
 zL:jz K t.bD "rope" "Town.rope" zo t.pW t.uq ["self","number"]
 lI:jz K t.bD "ropes_at" "Town.ropes_at" qu t.i6 t.lB ["self","house"]
 nJ:jz K t.bD "far_end" "Town.far_end" sG t.jQ t.nB ["self","rope","house"]
 E3:jz K t.bD "lets" "Town.lets" zp t.pX t.ur ["self","rope","group"]
 A9:nW K mg "check_names" "check_names" uT t.kT t.pF ["names"]
 Ba:nW K mg "check_ropes" "check_ropes" uU t.kU t.pG ["size","ropes"]
 C3:nW K mg "check_rope" "check_rope" xj t.m7 t.rJ ["size","rope"]
 E4:nW K mg "joins_two" "joins_two" zq t.pY t.uu ["size","one","other"]
 we:Mv K t.c8 "Strands.__init__" ow t.iG t.jZ ["self","town"]
 lV:jz K t.c8 "standing" "Strands.standing" lQ t.gO t.iS ["self","rope"]
 lW:jz K t.c8 "wire_for" "Strands.wire_for" lR t.gP t.iT ["self","rope","number"]
 sU:jz K t.c8 "live" "Strands.live" sH t.jR t.nC ["self","group"]
 Hf:nW K mg "wires_of" "wires_of" BG t.sL t.xx ["town","rope"]
 eV:nW K mg "check_group" "check_group" uV t.kW t.pH ["group"]
 yr:Mv K t.jd "Posted.__init__" qv t.i7 t.lD ["self","letter","group"]
 C4:Mv K t.cO "Net.__init__" xm t.m8 t.rK ["self","town","callers"]
 sV:jz K t.cO "rows" "Net.rows" BH t.sM t.xA ["self","group"]
 xH:jz K t.cO "live" "Net.live" BI t.sN t.xB ["self","group"]
 zM:jz K t.cO "opens" "Net.opens" zu t.pZ t.uv ["self","group"]
 E5:jz K t.cO "notes" "Net.notes" zw t.p6 t.uw ["self","group"]
 C5:jz K t.cO "row_at" "Net.row_at" xo t.m9 t.rL ["self","house","group"]
 Hg:jz K t.cO "call" "Net.call" BJ t.sO t.xC ["self","house","group"]
 sW:KP K "post" "Net.post" iR t.iV t.xF (.none)
 aaE:Binds K t.xF ["self","sender","to"] [.none]
 O7:Binds K t.xF ["self","sender","to"] []
 O9:Kq K t.cO "post" t.iV
 xJ:jz K t.cO "flying" "Net.flying" xq t.ng t.rM ["self"]
 kY:KP K "pass_on" "Net.pass_on" fM t.fN t.pJ (.int 0 t.ji)
 IJ:Binds K t.pJ ["self","at"] [.int 0 t.ji]
 V1:Binds K t.pJ ["self","at"] []
 IK:Kq K t.cO "pass_on" t.fN
 E6:jz K t.cO "story" "Net.story" zz t.p7 t.ux ["self","letter"]
 Bb:jz K t.cO "fate_of" "Net.fate_of" uW t.kX t.pI ["self","posted","rope","house"]
 qC:jz K t.cO "do_letter" "Net.do_letter" qw t.i8 t.lE ["self","number","house","came"]
 wg:jz K t.cO "callers_at" "Net.callers_at" oz t.iH t.j3 ["self","house","group"]
 Hh:jz K t.cO "send" "Net.send" BK t.sP t.xD ["self","number","house","rope"]
 yt:jz K t.cO "take_news" "Net.take_news" qy t.i9 t.lF ["self","group"]
 uA:jz K t.cO "check_house" "Net.check_house" mX t.iu t.jx ["self","house"]
 lX:jz K t.cO "check_caller" "Net.check_caller" lT t.gQ t.iU ["self","caller"]
 wm:jz K t.cO "check_pair" "Net.check_pair" oA t.iI t.j4 ["self","sender","to"]
 C6:nW K mg "first_rows" "first_rows" xr t.nh t.rN ["town"]
 yu:nW K mg "check_callers" "check_callers" qz t.jc t.lG ["town","callers"]
 gy:nW K mg "_law_cell_at" "_law_cell_at" zA t.p8 t.uy ["_law_script","_law_k"]
 JO:nW K mg "_law_whole" "_law_whole" DV t.vY t.AM ["_law_found"]
 JP:nW K mg "_law_names" "_law_names" DW t.vZ t.AN ["_law_script","_law_size"]
 JQ:nW K mg "_law_ropes" "_law_ropes" DX t.wc t.AO ["_law_script","_law_size","_law_group"]
 E7:nW K mg "_law_callers" "_law_callers" zB t.p9 t.uz ["_law_script","_law_size","_law_group"]
 Hi:nW K mg "_law_rounds" "_law_rounds" BL t.sQ t.xE ["_law_net","_law_size","_law_group"]
 zN:nW K mg "_law_story_kind" "_law_story_kind" sI t.jS t.nD ["_law_story"]
 MK:nW K mg "_law_over" "_law_over" GW t.zI t.CY ["_law_ropes_here","_law_opened","_law_notes","_law_here","_law_house","_law_came","_law_to"]
 Qy:nW K mg "_law_due" "_law_due" K1 t.CV t.Gs ["_law_ropes_here","_law_opened","_law_notes","_law_callers_here","_law_sender","_law_to"]
 U4:nW K mg "law" "law" U1 t.MH t.MJ ["_law_script"]
 Hj:Iq K t.iJ
 U5:mg "Letter" = some (.ref t.iJ)
 SW:dc K t.iJ "sender"
 YV:dc K t.iJ "to"
 pL:Iq K t.fY
 Xh:mg "ToOne" = some (.ref t.fY)
 sX:dc K t.fY "sender"
 xK:dc K t.fY "to"
 xM:Iq K t.iW
 Xi:mg "ToAll" = some (.ref t.iW)
 nK:dc K t.iW "sender"
 aaF:dc K t.iW "to"
 dj:Iq K t.jd
 U6:mg "Posted" = some (.ref t.jd)
 gY:dc K t.jd "letter"
 jT:dc K t.jd "group"
 xN:dc K t.jd "old"
 oF:dc K t.jd "done_at"
 iK:dc K t.jd "deeds"
 fJ:Iq K t.bD
 aaG:mg "Town" = some (.ref t.bD)
 sY:dc K t.bD "house_names"
 gR:dc K t.bD "rope_tuples"
 mC:dc K t.bD "size"
 uB:dc K t.bD "many"
 jk:Iq K t.c8
 Se:mg "Strands" = some (.ref t.c8)
 nL:dc K t.c8 "town"
 nM:dc K t.c8 "upright"
 xO:Iq K t.eS
 aaH:mg "Book" = some (.ref t.eS)
 qc:dc K t.eS "kept"
 bV:Iq K t.cO
 ado:mg "Net" = some (.ref t.cO)
 oG:dc K t.cO "town"
 u9:dc K t.cO "strands"
 kr:dc K t.cO "rows_by_group"
 qe:dc K t.cO "books"
 qg:dc K t.cO "homes"
 nN:dc K t.cO "groups"
 C7:dc K t.cO "handed"
 eX:dc K t.cO "letters"
 nO:dc K t.cO "copies"
 zO:mg "opens_opens" = some (.ref t.xu)
 IL:Kq K t.iW "seeks" t.gM
 Hl:Kq K t.iW "number" t.gf
 Xj:Mk K t.iW t.dY
 Ec:YJ K t.iJ "__init__" t.dY
 U7:mg "NoWire" = some (.ref t.CZ)
 U8:Uk K t.CZ
 Sf:mg "NoGroup" = some (.ref t.AQ)
 Sg:Uk K t.AQ
 IM:mg "MOST_HOUSES" = some (.int 10 t.pK)
 Le:mg "MOST_ROPES" = some (.int 20 t.rP)
 Lf:mg "MOST_WIRES" = some (.int 4 t.rQ)
 Lg:mg "ALL_GROUPS" = some (.int 7 t.rR)
 Ho:mg "MOST_CALLERS" = some (.int 20 t.nG)
 nP:mg "GROUP_BITS" = some (.ref t.ff)
 gv:∀H,cQ K H t.ff [.int 1,.int 2,.int 4]
 iN:mg "len" = none
 nQ:mg "isinstance" = none
 U9:mg "int" = none
 aaI:mg "bool" = none
 sZ:mg "list" = none
 Xk:mg "tuple" = none
 jy:mg "range" = none
 E8:mg "enumerate" = none
 adp:mg "min" = none
 adq:mg "set" = none
 ads:mg "str" = none
 adt:mg "all" = none
 Hq:mg "sorted" = none
theorem Pa{α:Type}{M:List α->Prop}(h:∀a,M [a]):∀us:List α,us.length=1->M us
 |[_],_=>h _
theorem Ed{α:Type}{M:List α->Prop}(h:∀a b,M [a,b]):∀us:List α,us.length=2->M us
 |[_,_],_=>h _ _
theorem JR{α:Type}{M:List α->Prop}(h:∀a b c,M [a,b,c]):∀us:List α,us.length=3->M us
 |[_,_,_],_=>h _ _ _
theorem j6{α:Type}{M:List α->Prop}(h:∀a c d b,M [a,c,d,b]):∀us:List α,us.length=4->M us
 |[_,_,_,_],_=>h _ _ _ _
theorem el6{α:Type}{M:List α->Prop}(h:∀a c d b e f,M [a,c,d,b,e,f]):∀us:List α,us.length=6->M us
 |[_,_,_,_,_,_],_=>h _ _ _ _ _ _
theorem el7{α:Type}{M:List α->Prop}(h:∀a c d b f g e,M [a,c,d,b,f,g,e]):∀us:List α,us.length=7->M us
 |[_,_,_,_,_,_,_],_=>h _ _ _ _ _ _ _
theorem aaK{K:af}{h:Heap}{b:Str->Option Value}(X:K.In h)(G:h.Ns mainGlobals b){kK mZ m5 m6 kL vV sJ o jN F P jO kM Z jP kP vW CS MF MG N vX CU kQ pV pW i6 jQ pX kT kU m7 pY iG gO gP jR sL kW i7 m8 sM sN pZ p6 m9 sO ng p7 kX i8 iH sP i9 iu gQ iI nh jc p8 vY vZ wc p9 sQ jS zI CV MH:Addr}
 {ML Fb Fc Fd M Fe:Value} {MM Ff:Option Addr} {MN:Array (Option Value)} {l:Addr}
 {O:Addr} {Lh:Option Addr} {MO:Nat} {Li:Array (Option Value)}
 {Hr zQ zR zS T zT:Value} {Hs zU:Option Addr} {Ht:Array (Option Value)} {n:Addr}
 {A:Addr} {FQ:Option Addr} {Hu:Nat} {FT:Array (Option Value)}
 {S:Tok}
 {e:Addr}
 {k:Addr}
 {j:Addr}
 {g:Addr}
 {d:Addr}
 {i:Addr}
 {f:Addr}
 {a:Addr}
 {x:Addr}
 {Q:Addr}
 {pK:Tok}
 {rP:Tok}
 {rQ:Tok}
 {U:Tok}
 {nG:Tok}
 {R:Addr} {IP:Option Addr} {Lj:Nat} {IQ IS IT:Tok} {IU:Array (Option Value)}
 (Eg:bG K mainGlobals "Letter" = some (some (.ref e)))
 (Hw:bG K mainGlobals "ToOne" = some (some (.ref k)))
 (Hy:bG K mainGlobals "ToAll" = some (some (.ref j)))
 (Eh:bG K mainGlobals "Posted" = some (some (.ref g)))
 (Lk:bG K mainGlobals "Town" = some (some (.ref d)))
 (BU:bG K mainGlobals "Strands" = some (some (.ref i)))
 (Ll:bG K mainGlobals "Book" = some (some (.ref f)))
 (Pb:bG K mainGlobals "Net" = some (some (.ref a)))
 (vd:EM K f "__init__" "Book.__init__" uN kK)
 (xQ:EM K f "learn" "Book.learn" w9 mZ)
 (xR:EM K f "known" "Book.known" xg m5)
 (xS:EM K f "notes" "Book.notes" xh m6)
 (ve:EM K f "forget" "Book.forget" uO kL)
 (Ei:EG K b "targets" "targets" DS vV)
 (BV:EG K b "ropes_on" "ropes_on" BF sJ)
 (qD:EM K e "__init__" "Letter.__init__" qq o)
 (tD:EM K e "meant" "Letter.meant" sC jN)
 (tE:EM K e "seeks" "Letter.seeks" sD F)
 (qF:EM K e "number" "Letter.number" qt P)
 (tF:EM K k "__init__" "ToOne.__init__" sE jO)
 (vf:EM K k "meant" "ToOne.meant" uP kM)
 (vg:EM K k "seeks" "ToOne.seeks" uQ Z)
 (tG:EM K k "number" "ToOne.number" sF jP)
 (vh:EM K j "meant" "ToAll.meant" uR kP)
 (Ej:EG K b "own_row" "own_row" DT vW)
 (Lm:EG K b "offer" "offer" KY CS)
 (Va:EG K b "due" "due" UZ MF)
 (Vb:EG K b "ups" "ups" U0 MG)
 (Ln:EG K b "opens" "opens" KZ N)
 (Ek:EG K b "open_at" "open_at" DU vX)
 (Lo:EG K b "up_of" "up_of" K0 CU)
 (vj:EM K d "__init__" "Town.__init__" uS kQ)
 (zV:EM K d "name" "Town.name" zm pV)
 (zW:EM K d "rope" "Town.rope" zo pW)
 (qG:EM K d "ropes_at" "Town.ropes_at" qu i6)
 (tH:EM K d "far_end" "Town.far_end" sG jQ)
 (zX:EM K d "lets" "Town.lets" zp pX)
 (vm:EG K b "check_names" "check_names" uT kT)
 (vn:EG K b "check_ropes" "check_ropes" uU kU)
 (xU:EG K b "check_rope" "check_rope" xj m7)
 (zY:EG K b "joins_two" "joins_two" zq pY)
 (oJ:EM K i "__init__" "Strands.__init__" ow iG)
 (lY:EM K i "standing" "Strands.standing" lQ gO)
 (lZ:EM K i "wire_for" "Strands.wire_for" lR gP)
 (tK:EM K i "live" "Strands.live" sH jR)
 (BW:EG K b "wires_of" "wires_of" BG sL)
 (vp:EG K b "check_group" "check_group" uV kW)
 (qH:EM K g "__init__" "Posted.__init__" qv i7)
 (xV:EM K a "__init__" "Net.__init__" xm m8)
 (BX:EM K a "rows" "Net.rows" BH sM)
 (BY:EM K a "live" "Net.live" BI sN)
 (zZ:EM K a "opens" "Net.opens" zu pZ)
 (z6:EM K a "notes" "Net.notes" zw p6)
 (xW:EM K a "row_at" "Net.row_at" xo m9)
 (BZ:EM K a "call" "Net.call" BJ sO)
 (Ca:aI K (.ref a) "post" = some (some (.ref l)))
 (Cb:PySem.W.isFn K (.ref l)=true)
 (Cc:K.lookup l=some ⟨ML,MM,.func (eT "post" "Net.post" (jv iR) (fX iR) (aC iR) (.ref O) Fb Fc Fd Ff M Fe),MN⟩)
 (Cd:jm K M "Net.post" = true)
 (xX:dX K (.ref l)=true)
 (z7:K.lookup O=some ⟨.type "tuple",Lh,.seq #[.none] MO,Li⟩)
 (xY:EM K a "flying" "Net.flying" xq ng)
 (vq:aI K (.ref a) "pass_on" = some (some (.ref n)))
 (vt:PySem.W.isFn K (.ref n)=true)
 (vz:K.lookup n=some ⟨Hr,Hs,.func (eT "pass_on" "Net.pass_on" (jv fM) (fX fM) (aC fM) (.ref A) zQ zR zS zU T zT),Ht⟩)
 (vA:jm K T "Net.pass_on" = true)
 (pM:dX K (.ref n)=true)
 (tL:K.lookup A=some ⟨.type "tuple",FQ,.seq #[.int 0 S] Hu,FT⟩)
 (z8:EM K a "story" "Net.story" zz p7)
 (vB:EM K a "fate_of" "Net.fate_of" uW kX)
 (qI:EM K a "do_letter" "Net.do_letter" qw i8)
 (oK:EM K a "callers_at" "Net.callers_at" oz iH)
 (Ce:EM K a "send" "Net.send" BK sP)
 (qJ:EM K a "take_news" "Net.take_news" qy i9)
 (nS:EM K a "check_house" "Net.check_house" mX iu)
 (l6:EM K a "check_caller" "Net.check_caller" lT gQ)
 (oM:EM K a "check_pair" "Net.check_pair" oA iI)
 (xZ:EG K b "first_rows" "first_rows" xr nh)
 (qK:EG K b "check_callers" "check_callers" qz jc)
 (Aa:EG K b "_law_cell_at" "_law_cell_at" zA p8)
 (El:EG K b "_law_whole" "_law_whole" DV vY)
 (Em:EG K b "_law_names" "_law_names" DW vZ)
 (Eo:EG K b "_law_ropes" "_law_ropes" DX wc)
 (Ab:EG K b "_law_callers" "_law_callers" zB p9)
 (Cf:EG K b "_law_rounds" "_law_rounds" BL sQ)
 (tM:EG K b "_law_story_kind" "_law_story_kind" sI jS)
 (Hz:EG K b "_law_over" "_law_over" GW zI)
 (Lp:EG K b "_law_due" "_law_due" K1 CV)
 (Vc:EG K b "law" "law" U1 MH)
 (r:EC K e)
 (oN:aI K (.ref e) "sender" = some none)
 (x8:aI K (.ref e) "to" = some none)
 (I:EC K k)
 (qL:aI K (.ref k) "sender" = some none)
 (Ae:aI K (.ref k) "to" = some none)
 (E:EC K j)
 (qM:aI K (.ref j) "sender" = some none)
 (Af:aI K (.ref j) "to" = some none)
 (L:EC K g)
 (oO:aI K (.ref g) "letter" = some none)
 (qN:aI K (.ref g) "group" = some none)
 (vC:aI K (.ref g) "old" = some none)
 (nU:aI K (.ref g) "done_at" = some none)
 (qO:aI K (.ref g) "deeds" = some none)
 (z:EC K d)
 (ku:aI K (.ref d) "house_names" = some none)
 (kB:aI K (.ref d) "rope_tuples" = some none)
 (x9:aI K (.ref d) "size" = some none)
 (ya:aI K (.ref d) "many" = some none)
 (J:EC K i)
 (qP:aI K (.ref i) "town" = some none)
 (mh:aI K (.ref i) "upright" = some none)
 (q:EC K f)
 (yb:aI K (.ref f) "kept" = some none)
 (D:EC K a)
 (Ah:aI K (.ref a) "town" = some none)
 (tN:aI K (.ref a) "strands" = some none)
 (jU:aI K (.ref a) "rows_by_group" = some none)
 (yc:aI K (.ref a) "books" = some none)
 (yd:aI K (.ref a) "homes" = some none)
 (vD:aI K (.ref a) "groups" = some none)
 (vE:aI K (.ref a) "handed" = some none)
 (tO:aI K (.ref a) "letters" = some none)
 (vF:aI K (.ref a) "copies" = some none)
 (tP:bG K mainGlobals "opens_opens" = some (some (.ref N)))
 (tQ:aI K (.ref j) "seeks" = some (some (.ref F)))
 (qQ:aI K (.ref j) "number" = some (some (.ref P)))
 (HC:aI K (.ref j) "__init__" = some (some (.ref o)))
 (oQ:PySem.W.specialIn K (.ref e) "__getattribute__" = some (some (.builtin "type.__getattribute__")))
 (oS:PySem.W.readsIn K e (.type "type")=true)
 (oU:PySem.W.findCls K (.ref e) (.type "type") "__init__" = some (.val (.ref o)))
 (Ep:bG K mainGlobals "NoWire" = some (some (.ref x)))
 (Er:Uk K x)
 (Cg:bG K mainGlobals "NoGroup" = some (some (.ref Q)))
 (Ci:Uk K Q)
 (vG:bG K mainGlobals "MOST_HOUSES" = some (some (.int 10 pK)))
 (ye:bG K mainGlobals "MOST_ROPES" = some (some (.int 20 rP)))
 (yf:bG K mainGlobals "MOST_WIRES" = some (some (.int 4 rQ)))
 (yg:bG K mainGlobals "ALL_GROUPS" = some (some (.int 7 U)))
 (tR:bG K mainGlobals "MOST_CALLERS" = some (some (.int 20 nG)))
 (yh:bG K mainGlobals "GROUP_BITS" = some (some (.ref R)))
 (yi:K.lookup R=some ⟨.type "tuple",IP,.seq #[.int 1 IQ,.int 2 IS,.int 4 IT] Lj,IU⟩)
 (Vd:bG K mainGlobals "len" = some none)
 (yj:bG K mainGlobals "isinstance" = some none)
 (Ve:bG K mainGlobals "int" = some none)
 (Pc:bG K mainGlobals "bool" = some none)
 (Pd:bG K mainGlobals "list" = some none)
 (Lq:bG K mainGlobals "tuple" = some none)
 (Lr:bG K mainGlobals "range" = some none)
 (Ai:bG K mainGlobals "enumerate" = some none)
 (Vf:bG K mainGlobals "min" = some none)
 (Vg:bG K mainGlobals "set" = some none)
 (Vh:bG K mainGlobals "str" = some none)
 (Vi:bG K mainGlobals "all" = some none)
 (HD:bG K mainGlobals "sorted" = some none):∃t,Txt K b t:=by
 obtain⟨oZ,Bc,Be⟩:=vd;obtain⟨rF,Dc,Lu⟩:=xQ;obtain⟨rG,Dd,Lv⟩:=xR;obtain⟨rH,De,Lw⟩:=xS;obtain⟨o6,Bf,IV⟩:=ve;obtain⟨AJ,JS,Sh⟩:=Ei;obtain⟨xw,HE,Pe⟩:=BV;obtain⟨lz,yv,p⟩:=qD;obtain⟨ni,Aj,HF⟩:=tD;obtain⟨nj,Ak,y⟩:=tE;obtain⟨lA,yw,s⟩:=qF;obtain⟨nv,Al,Am⟩:=tF;obtain⟨o8,Bg,IW⟩:=vf;obtain⟨pq,Bh,IX⟩:=vg;obtain⟨nA,An,HG⟩:=tG;obtain⟨pC,Bj,IY⟩:=vh;obtain⟨AK,JT,Si⟩:=Ej;obtain⟨Gn,Qz,Xl⟩:=Lm;obtain⟨Qv,YW,w⟩:=Va;obtain⟨Qw,YX,v⟩:=Vb;obtain⟨Gp,QA,Xm⟩:=Ln;obtain⟨AL,JU,Sj⟩:=Ek;obtain⟨Gq,QB,Xn⟩:=Lo;obtain⟨pD,Bk,Bl⟩:=vj;obtain⟨uo,Fg,MQ⟩:=zV;obtain⟨uq,Fi,MR⟩:=zW;obtain⟨lB,yx,FU⟩:=qG;obtain⟨nB,Ao,HH⟩:=tH;obtain⟨ur,Fj,MS⟩:=zX;obtain⟨pF,Bm,IZ⟩:=vm;obtain⟨pG,Bo,I0⟩:=vn;obtain⟨rJ,Df,Lx⟩:=xU;obtain⟨uu,V,MT⟩:=zY;obtain⟨jZ,wu,wz⟩:=oJ;obtain⟨iS,tT,Cj⟩:=lY;obtain⟨iT,tU,Ck⟩:=lZ;obtain⟨nC,Aq,HJ⟩:=tK;obtain⟨xx,HK,Pf⟩:=BW;obtain⟨pH,Bp,Ja⟩:=vp;obtain⟨lD,yy,yz⟩:=qH;obtain⟨rK,Dg,Dh⟩:=xV;obtain⟨xA,HL,Pg⟩:=BX;obtain⟨xB,HM,Ph⟩:=BY;obtain⟨uv,Fl,MU⟩:=zZ;obtain⟨uw,Fq,MV⟩:=z6;obtain⟨rL,Di,Ly⟩:=xW;obtain⟨xC,HN,Pj⟩:=BZ;have C:=Qp (st:=iR) Cc Cd xX z7 rfl;obtain⟨rM,Dj,Lz⟩:=xY;have u:=Qp (st:=fM) vz vA pM tL rfl;obtain⟨ux,Ft,MW⟩:=z8;obtain⟨pI,Bq,Jb⟩:=vB;obtain⟨lE,yC,FW⟩:=qI;obtain⟨j3,wA,Es⟩:=oK;obtain⟨xD,Y,Pk⟩:=Ce;obtain⟨lF,yD,FY⟩:=qJ;obtain⟨jx,uC,Dk⟩:=nS;obtain⟨iU,tV,Cm⟩:=l6;obtain⟨j4,wB,Et⟩:=oM;obtain⟨rN,Dl,LA⟩:=xZ;obtain⟨lG,yE,FZ⟩:=qK;obtain⟨uy,Fv,MX⟩:=Aa;obtain⟨AM,JV,Sk⟩:=El;obtain⟨AN,JW,Sm⟩:=Em;obtain⟨AO,JX,Sn⟩:=Eo;obtain⟨uz,Fw,MY⟩:=Ab;obtain⟨xE,HQ,Po⟩:=Cf;obtain⟨nD,Ar,HR⟩:=tM;obtain⟨CY,MZ,Vj⟩:=Hz;obtain⟨Gs,QC,Xo⟩:=Lp;obtain⟨MJ,YY,B⟩:=Vc;exact⟨⟨kK,mZ,m5,m6,kL,vV,sJ,o,jN,F,P,jO,kM,Z,jP,kP,vW,CS,MF,MG,N,vX,CU,kQ,pV,pW,i6,jQ,pX,kT,kU,m7,pY,iG,gO,gP,jR,sL,kW,i7,m8,sM,sN,pZ,p6,m9,sO,ng,p7,kX,i8,iH,sP,i9,iu,gQ,iI,nh,jc,p8,vY,vZ,wc,p9,sQ,jS,zI,CV,MH,oZ,rF,rG,rH,o6,AJ,xw,lz,ni,nj,lA,nv,o8,pq,nA,pC,AK,Gn,Qv,Qw,Gp,AL,Gq,pD,uo,uq,lB,nB,ur,pF,pG,rJ,uu,jZ,iS,iT,nC,xx,pH,lD,rK,xA,xB,uv,uw,rL,xC,rM,ux,pI,lE,j3,xD,lF,jx,iU,j4,rN,lG,uy,AM,AN,AO,uz,xE,nD,CY,Gs,MJ,l,(eT "post" "Net.post" (jv iR) (fX iR) (aC iR) (.ref O) Fb Fc Fd Ff M Fe),n,(eT "pass_on" "Net.pass_on" (jv fM) (fX fM) (aC fM) (.ref A) zQ zR zS zU T zT),S,e,k,j,g,d,i,f,a,x,Q,pK,rP,rQ,U,nG,R⟩,⟨⟨Bc,Bc.binds λ_ _ _ _ _ _=>Pa λ_=>rfl,⟨q.YQ,Be.at_,Be.fn,q.kc⟩⟩,
  ⟨Dc,Dc.binds λ_ _ _ _ _ _=>j6 λ_ _ _ _=>rfl,Lu⟩,
  ⟨Dd,Dd.binds λ_ _ _ _ _ _=>JR λ_ _ _=>rfl,Lv⟩,
  ⟨De,De.binds λ_ _ _ _ _ _=>Pa λ_=>rfl,Lw⟩,
  ⟨Bf,Bf.binds λ_ _ _ _ _ _=>Pa λ_=>rfl,IV⟩,
  ⟨JS,JS.binds λ_ _ _ _ _ _=>el6 λ_ _ _ _ _ _=>rfl,Sh⟩,
  ⟨HE,HE.binds λ_ _ _ _ _ _=>el6 λ_ _ _ _ _ _=>rfl,Pe⟩,
  ⟨yv,yv.binds λ_ _ _ _ _ _=>Ed λ_ _=>rfl,⟨r.YQ,p.at_,p.fn,r.kc⟩⟩,
  ⟨Aj,Aj.binds λ_ _ _ _ _ _=>Ed λ_ _=>rfl,HF⟩,
  ⟨Ak,Ak.binds λ_ _ _ _ _ _=>Pa λ_=>rfl,y⟩,
  ⟨yw,yw.binds λ_ _ _ _ _ _=>Pa λ_=>rfl,s⟩,
  ⟨Al,Al.binds λ_ _ _ _ _ _=>JR λ_ _ _=>rfl,⟨I.YQ,Am.at_,Am.fn,I.kc⟩⟩,
  ⟨Bg,Bg.binds λ_ _ _ _ _ _=>Ed λ_ _=>rfl,IW⟩,
  ⟨Bh,Bh.binds λ_ _ _ _ _ _=>Pa λ_=>rfl,IX⟩,
  ⟨An,An.binds λ_ _ _ _ _ _=>Pa λ_=>rfl,HG⟩,
  ⟨Bj,Bj.binds λ_ _ _ _ _ _=>Ed λ_ _=>rfl,IY⟩,
  ⟨JT,JT.binds λ_ _ _ _ _ _=>Ed λ_ _=>rfl,Si⟩,
  ⟨Qz,Qz.binds λ_ _ _ _ _ _=>JR λ_ _ _=>rfl,Xl⟩,
  ⟨YW,YW.binds λ_ _ _ _ _ _=>j6 λ_ _ _ _=>rfl,w⟩,
  ⟨YX,YX.binds λ_ _ _ _ _ _=>JR λ_ _ _=>rfl,v⟩,
  ⟨QA,QA.binds λ_ _ _ _ _ _=>JR λ_ _ _=>rfl,Xm⟩,
  ⟨JU,JU.binds λ_ _ _ _ _ _=>j6 λ_ _ _ _=>rfl,Sj⟩,
  ⟨QB,QB.binds λ_ _ _ _ _ _=>j6 λ_ _ _ _=>rfl,Xn⟩,
  ⟨Bk,Bk.binds λ_ _ _ _ _ _=>JR λ_ _ _=>rfl,⟨z.YQ,Bl.at_,Bl.fn,z.kc⟩⟩,
  ⟨Fg,Fg.binds λ_ _ _ _ _ _=>Ed λ_ _=>rfl,MQ⟩,
  ⟨Fi,Fi.binds λ_ _ _ _ _ _=>Ed λ_ _=>rfl,MR⟩,
  ⟨yx,yx.binds λ_ _ _ _ _ _=>Ed λ_ _=>rfl,FU⟩,
  ⟨Ao,Ao.binds λ_ _ _ _ _ _=>JR λ_ _ _=>rfl,HH⟩,
  ⟨Fj,Fj.binds λ_ _ _ _ _ _=>JR λ_ _ _=>rfl,MS⟩,
  ⟨Bm,Bm.binds λ_ _ _ _ _ _=>Pa λ_=>rfl,IZ⟩,
  ⟨Bo,Bo.binds λ_ _ _ _ _ _=>Ed λ_ _=>rfl,I0⟩,
  ⟨Df,Df.binds λ_ _ _ _ _ _=>Ed λ_ _=>rfl,Lx⟩,
  ⟨V,V.binds λ_ _ _ _ _ _=>JR λ_ _ _=>rfl,MT⟩,
  ⟨wu,wu.binds λ_ _ _ _ _ _=>Ed λ_ _=>rfl,⟨J.YQ,wz.at_,wz.fn,J.kc⟩⟩,
  ⟨tT,tT.binds λ_ _ _ _ _ _=>Ed λ_ _=>rfl,Cj⟩,
  ⟨tU,tU.binds λ_ _ _ _ _ _=>JR λ_ _ _=>rfl,Ck⟩,
  ⟨Aq,Aq.binds λ_ _ _ _ _ _=>Ed λ_ _=>rfl,HJ⟩,
  ⟨HK,HK.binds λ_ _ _ _ _ _=>Ed λ_ _=>rfl,Pf⟩,
  ⟨Bp,Bp.binds λ_ _ _ _ _ _=>Pa λ_=>rfl,Ja⟩,
  ⟨yy,yy.binds λ_ _ _ _ _ _=>JR λ_ _ _=>rfl,⟨L.YQ,yz.at_,yz.fn,L.kc⟩⟩,
  ⟨Dg,Dg.binds λ_ _ _ _ _ _=>JR λ_ _ _=>rfl,⟨D.YQ,Dh.at_,Dh.fn,D.kc⟩⟩,
  ⟨HL,HL.binds λ_ _ _ _ _ _=>Ed λ_ _=>rfl,Pg⟩,
  ⟨HM,HM.binds λ_ _ _ _ _ _=>Ed λ_ _=>rfl,Ph⟩,
  ⟨Fl,Fl.binds λ_ _ _ _ _ _=>Ed λ_ _=>rfl,MU⟩,
  ⟨Fq,Fq.binds λ_ _ _ _ _ _=>Ed λ_ _=>rfl,MV⟩,
  ⟨Di,Di.binds λ_ _ _ _ _ _=>JR λ_ _ _=>rfl,Ly⟩,
  ⟨HN,HN.binds λ_ _ _ _ _ _=>JR λ_ _ _=>rfl,Pj⟩,
  C,
  (C.binds (ps:=["self","sender","to"]) (ds:=[.none]) (m:=2) rfl λ_ _ _ _ _ _ _=>Ed λ_ _=>⟨_,rfl,rfl⟩),
  (C.binds (ps:=["self","sender","to"]) (ds:=[]) (m:=3) rfl λ_ _ _ _ _ _ _=>JR λ_ _ _=>⟨_,rfl,rfl⟩),
  ⟨Ca,Cb,xX⟩,
  ⟨Dj,Dj.binds λ_ _ _ _ _ _=>Pa λ_=>rfl,Lz⟩,
  u,
  (u.binds (ps:=["self","at"]) (ds:=[.int 0 S]) (m:=1) rfl λ_ _ _ _ _ _ _=>Pa λ_=>⟨_,rfl,rfl⟩),
  (u.binds (ps:=["self","at"]) (ds:=[]) (m:=2) rfl λ_ _ _ _ _ _ _=>Ed λ_ _=>⟨_,rfl,rfl⟩),
  ⟨vq,vt,pM⟩,
  ⟨Ft,Ft.binds λ_ _ _ _ _ _=>Ed λ_ _=>rfl,MW⟩,
  ⟨Bq,Bq.binds λ_ _ _ _ _ _=>j6 λ_ _ _ _=>rfl,Jb⟩,
  ⟨yC,yC.binds λ_ _ _ _ _ _=>j6 λ_ _ _ _=>rfl,FW⟩,
  ⟨wA,wA.binds λ_ _ _ _ _ _=>JR λ_ _ _=>rfl,Es⟩,
  ⟨Y,Y.binds λ_ _ _ _ _ _=>j6 λ_ _ _ _=>rfl,Pk⟩,
  ⟨yD,yD.binds λ_ _ _ _ _ _=>Ed λ_ _=>rfl,FY⟩,
  ⟨uC,uC.binds λ_ _ _ _ _ _=>Ed λ_ _=>rfl,Dk⟩,
  ⟨tV,tV.binds λ_ _ _ _ _ _=>Ed λ_ _=>rfl,Cm⟩,
  ⟨wB,wB.binds λ_ _ _ _ _ _=>JR λ_ _ _=>rfl,Et⟩,
  ⟨Dl,Dl.binds λ_ _ _ _ _ _=>Pa λ_=>rfl,LA⟩,
  ⟨yE,yE.binds λ_ _ _ _ _ _=>Ed λ_ _=>rfl,FZ⟩,
  ⟨Fv,Fv.binds λ_ _ _ _ _ _=>Ed λ_ _=>rfl,MX⟩,
  ⟨JV,JV.binds λ_ _ _ _ _ _=>Pa λ_=>rfl,Sk⟩,
  ⟨JW,JW.binds λ_ _ _ _ _ _=>Ed λ_ _=>rfl,Sm⟩,
  ⟨JX,JX.binds λ_ _ _ _ _ _=>JR λ_ _ _=>rfl,Sn⟩,
  ⟨Fw,Fw.binds λ_ _ _ _ _ _=>JR λ_ _ _=>rfl,MY⟩,
  ⟨HQ,HQ.binds λ_ _ _ _ _ _=>JR λ_ _ _=>rfl,Po⟩,
  ⟨Ar,Ar.binds λ_ _ _ _ _ _=>Pa λ_=>rfl,HR⟩,
  ⟨MZ,MZ.binds λ_ _ _ _ _ _=>el7 λ_ _ _ _ _ _ _=>rfl,Vj⟩,
  ⟨QC,QC.binds λ_ _ _ _ _ _=>el6 λ_ _ _ _ _ _=>rfl,Xo⟩,
  ⟨YY,YY.binds λ_ _ _ _ _ _=>Pa λ_=>rfl,B⟩,
  r.c,
  (cU X G Eg),
  oN,
  x8,
  I.c,
  (cU X G Hw),
  qL,
  Ae,
  E.c,
  (cU X G Hy),
  qM,
  Af,
  L.c,
  (cU X G Eh),
  oO,
  qN,
  vC,
  nU,
  qO,
  z.c,
  (cU X G Lk),
  ku,
  kB,
  x9,
  ya,
  J.c,
  (cU X G BU),
  qP,
  mh,
  q.c,
  (cU X G Ll),
  yb,
  D.c,
  (cU X G Pb),
  Ah,
  tN,
  jU,
  yc,
  yd,
  vD,
  vE,
  tO,
  vF,
  (cU X G tP),
  ⟨tQ,y.fn,y.kp⟩,
  ⟨qQ,s.fn,s.kp⟩,
  ⟨E.YQ,HC,p.fn,E.kc⟩,
  ⟨oQ,oS,oU,p.kp⟩,
  (cU X G Ep),
  Er,
  (cU X G Cg),
  Ci,
  (cU X G vG),
  (cU X G ye),
  (cU X G yf),
  (cU X G yg),
  (cU X G tR),
  (cU X G yh),
  (λH=>.inr ⟨_,_,_,yi,rfl,rfl,ia,(.cons ⟨_,rfl⟩ (.cons ⟨_,rfl⟩ (.cons ⟨_,rfl⟩ .nil)))⟩),
  (cJ X G Vd),
  (cJ X G yj),
  (cJ X G Ve),
  (cJ X G Pc),
  (cJ X G Pd),
  (cJ X G Lq),
  (cJ X G Lr),
  (cJ X G Ai),
  (cJ X G Vf),
  (cJ X G Vg),
  (cJ X G Vh),
  (cJ X G Vi),
  (cJ X G HD)⟩⟩
end fc
namespace fc
open PySem L2 TW PyProof.Rows
open RM (cR jV aZ aW)
seal L2.PE L2.PA L2.PT L2.PW L2.PS L2.iC L2.PG L2.kC L2.PI L2.kE
theorem bF{CX:Rt}{P:Program}{w:World}{K:af}{c:Str->Option Value}{base:Heap}{N:List Str}{b:Str}{scope:Scope}{f:Addr}{d:Value}{A:Around}{a:List Env}{s:Shared}{H:Hp}{E:XK}:(oj CX P w K c base N b scope f d A a s H E).K=K:=rfl
local macro_rules|`(tactic|left)=>`(tactic|try dsimp only[bF])
section
variable{P:Program}{w:World}{K:af}{mg:Str->Option Value}{base:Heap}
inductive QD(vs:List V)(H:Hp)(Q:VK)(E:XK):Prop
 |mk (i:Int):vs=[.int i]->Q (.bl true) H->QD  vs H Q E
theorem Pp{t:Ad}(T:Txt K mg t):cz P w K mg base iM 1 t.vY t.AM ["_law_found"]  QD:=by
 refine T.JO.F.kh O6 λH Q E a h=>?_
 ·obtain⟨i,rfl,k⟩:=h
  refine⟨_,(oR (NV (cB GG T.nQ boot_isinstance (nZ (pv 0) (Ct rfl T.U9 boot_int (v:=.ty "int") rfl))) (Tc (ZH (cB GG T.nQ boot_isinstance (nZ (pv 0) (Ct rfl T.aaI boot_bool (v:=.ty "bool") rfl))))))),?_⟩
  left
  refine⟨_,rfl,_,_,_,_,rfl,.int _,rfl,_,rfl,gB ?_⟩;refine⟨_,rfl,_,_,_,_,rfl,.int _,rfl,_,rfl,?_⟩;exact k
inductive Vk(K:af)(vs:List V)(H:Hp)(Q:VK)(E:XK):Prop
 |mk (a:Addr) (ns:List Int) (k:Int):vs=[.ref a,.int k]->bP K H a (ns.map V.int)->0<=k->Q (.int (ns.getD k.toNat 0)) H->Vk K vs H Q E
theorem gw{t:Ad}(T:Txt K mg t):cz P w K mg base iM 1 t.p8 t.uy ["_law_script","_law_k"]  (Vk K):=by
 refine T.gy.F.kh K9 λH Q E g h=>?_
 ·obtain⟨a,ns,i,rfl,d,f,k⟩:=h
  refine⟨_,(aq (cE (qT pR (pv 1) (lS T.iN (pv 0))) (oR (xL (pv 0) (pv 1))) bz) (oR aB)),?_⟩
  left
  refine⟨_,rfl,_,rfl,a,_,rfl,.inl d,_,_,rfl,rfl,_,rfl,?_⟩;refine ko (λc=>?_) (λc=>?_)
  ·have b:i<ns.length:=by simpa using c
   refine⟨_,rfl,_,rfl,a,_,_,_,rfl,rfl,d,Ud f b,k⟩
  ·have b:¬i<ns.length:=by simpa using c
   have e:ns.getD i.toNat 0=0:=by
    rw[az,fF ∅];rfl
   rw[e] at k;exact k
inductive QE(vs:List V)(H:Hp)(Q:VK)(E:XK):Prop
 |mk (n a b:Int):vs=[.int n,.int a,.int b]->0<=a->a<n->0<=b->b<n->a≠b->Q (.bl true) H->QE  vs H Q E
theorem LB{t:Ad}(T:Txt K mg t):cz P w K mg base iM 1 t.pY t.uu ["size","one","other"]  QE:=by
 refine T.E4.F.kh K5 λH Q E i h=>?_
 ·obtain⟨n,a,b,rfl,d,c,e,f,g,k⟩:=h
  refine⟨_,(oR (NV (LZ qX pR aB (pv 1) (pv 0)) (NV (LZ qX pR aB (pv 2) (pv 0)) (Tc (qE se (pv 1) (pv 2)))))),?_⟩
  left
  refine⟨_,rfl,_,_,rfl,rfl,_,rfl,?_⟩;rw[fy d];refine gB ⟨_,rfl,_,_,rfl,rfl,_,rfl,?_⟩;rw[fy c];refine gB ⟨_,rfl,_,_,rfl,rfl,_,rfl,?_⟩;rw[fy e];refine gB ⟨_,rfl,_,_,rfl,rfl,_,rfl,?_⟩;rw[fy f];refine gB ⟨_,rfl,_,rfl,rfl,?_⟩;rw[gU (λz=>g (V.int.inj z))];exact k
inductive Fx(K:af)(vs:List V)(H:Hp)(Q:VK)(E:XK):Prop
 |mk (n:Int) (p:Addr) (a b c d e:Int):vs=[.int n,.ref p]->cQ K H p (ac3 a b c d e)->Um n a b c d e->Q .fH H->Fx K vs H Q E
theorem Jc{t:Ad}(T:Txt K mg t):cz P w K mg base iM 2 t.m7 t.rJ ["size","rope"]  (Fx K):=by
 refine T.C3.F.kh IF λH Q E u h=>?_
 ·obtain⟨n,p,a,b,c,d,e,rfl,f,j,k⟩:=h
  obtain⟨o,m,s,q,r,y,i,x,l,g⟩:=j;refine⟨_,(aq (cE (qT se (lS T.iN (pv 1)) aB) dO bz) (aq (cE (jo (wM (cG (LB T) u T.E4 (Ir (pv 0) (xT (pv 1) aB) (xT (pv 1) aB))))) dO bz) (aq (cE (qT pR (xT (pv 1) aB) aB) dO bz) (aq (cE (jo (jD qX qX aB (xT (pv 1) aB) (mJ rfl T.Lf (v:=.int 4) ⟨_,rfl⟩))) dO bz) (bJ (cE (jo (jD qX qX aB (xT (pv 1) aB) (mJ rfl T.Lg (v:=.int 7) ⟨_,rfl⟩))) dO bz)))))),?_⟩
  left
  refine⟨_,rfl,p,_,rfl,.inr f,rfl,_,rfl,eZ ?_⟩;refine⟨_,rfl,_,rfl,p,_,_,_,rfl,rfl,f,rfl,_,rfl,p,_,_,_,rfl,rfl,f,rfl,?_⟩;refine⟨_,_,_,rfl,o,m,s,q,r,_,rfl,eZ ?_⟩;refine⟨_,rfl,p,_,_,_,rfl,rfl,f,rfl,_,_,rfl,rfl,_,rfl,?_⟩;rw[gU (show ¬c<1 by lia)];refine eZ ?_;refine⟨_,rfl,p,_,_,_,rfl,rfl,f,rfl,_,_,rfl,rfl,_,rfl,?_⟩;rw[fy i];refine gB ?_;refine⟨_,_,rfl,rfl,_,rfl,?_⟩;rw[fy x];refine eZ ?_;refine⟨_,rfl,p,_,_,_,rfl,rfl,f,rfl,_,_,rfl,rfl,_,rfl,?_⟩;rw[fy l];refine gB ?_;refine⟨_,_,rfl,rfl,_,rfl,?_⟩;rw[fy g];refine eZ ?_;exact k
inductive Dm(K:af)(vs:List V)(H:Hp)(Q:VK)(E:XK):Prop
 |mk (n:Int) (l:Addr) (rs:List R5):vs=[.int n,.ref l]->GJ K H l rs->rs.length<=20->(∀r∈rs,r.Ok n)->Q .fH H->Dm K vs H Q E
theorem HS{t:Ad}(T:Txt K mg t):cz P w K mg base iM 3 t.kU t.pG ["size","ropes"]  (Dm K):=by
 refine T.Ba.F.kh zC λH Q E q h=>?_
 ·obtain⟨n,l,m,rfl,s,A,r,k⟩:=h
  obtain⟨f,d,B,z⟩:=s.at;refine⟨_,(aq (cE (qT PY (lS T.iN (pv 1)) (mJ rfl T.Le (v:=.int 20) ⟨_,rfl⟩)) dO bz) (bJ (fS (fV (pv 1)) (gT 2 zC) (oE (cG (Jc T) q T.C3 (nZ (pv 0) (pv 2))))))),?_⟩
  left
  refine⟨_,rfl,l,_,rfl,.inl d,_,_,rfl,rfl,_,rfl,?_⟩;rw[gU (show ¬(20:Int)<f.length by lia)];refine eZ ?_;refine⟨_,rfl,l,rfl,⟨_,d⟩,vL (K:=K) (a:=l) (xs:=f) (λi c b=>b=H/\∃v,c=[some (.int n),some (.ref l),v]) ⟨rfl,_,rfl⟩ (λi c b _ ⟨e,_⟩=>by rw[e];exact d) ?_ ?_⟩
  ·rintro i y c b g ⟨rfl,v,rfl⟩
   have x:i<f.length:=(ai.mp g).1;have o:m[i]?=some m[i]:=-_
   obtain⟨p,j,u⟩:=z i _ o;rw[g] at j;cases j;refine⟨_,rfl,_,rfl,n,p,_,_,_,_,_,rfl,u,r _ (aM o),rfl,_,rfl⟩
  ·rintro c b ⟨rfl,v,rfl⟩
   exact k
inductive Dp(K:af)(vs:List V)(H:Hp)(Q:VK)(E:XK):Prop
 |mk (l:Addr) (ns:List Int):vs=[.ref l]->bP K H l (ns.map V.int)->1<=ns.length->ns.length<=10->(∀n∈ns,0<=n)->ns.Nodup->(∀H',aG H H'->Q .fH H')->Dp K vs H Q E
theorem HU{t:Ad}(T:Txt K mg t):cz P w K mg base iM 1 t.kT t.pF ["names"]  (Dp K):=by
 refine T.A9.F.kh G6 λH Q E r h=>?_
 ·obtain⟨l,ns,rfl,a,q,n,j,g,k⟩:=h
  refine⟨_,(aq (cE (jo (jD qX qX aB (lS T.iN (pv 0)) (mJ rfl T.IM (v:=.int 10) ⟨_,rfl⟩))) dO bz) (aq (cE (qT pR (cB (RL rfl) T.adp boot_min (gV (pv 0))) aB) dO bz) (bJ (cE (qT se (cB RK T.iN PySem.boot_len (gV (fW (RJ rfl) (by rfl) T.adq boot_set (gV (pv 0))))) (lS T.iN (pv 0))) dO bz)))),?_⟩
  left
  refine⟨_,rfl,l,_,rfl,.inl a,_,_,rfl,rfl,_,rfl,?_⟩;rw[fy (show (1:Int)<=(ns.map V.int).length by rw[ah];lia)];refine gB ?_;refine⟨_,_,rfl,rfl,_,rfl,?_⟩;rw[fy (show ((ns.map V.int).length:Int)<=10 by rw[ah];lia)];refine eZ ?_;refine⟨_,rfl,l,ns,rfl,a,∅,λm d c=>?_⟩;refine⟨_,_,rfl,rfl,_,rfl,?_⟩;rw[gU (show ¬m<0 by have:=j m d;lia)];refine eZ ?_;refine⟨_,rfl,l,ns,rfl,a,bH (show ns.length+1<100 by lia) (!_),λp b=>?_⟩;have e:=aG.new (o:=.set (λf=>(firstMet (λi=>ns.getD i 0) ns.length).any (·==f)) (firstMet (λi=>ns.getD i 0) ns.length).length) b;refine⟨p,_,_,rfl,au,_,rfl,l,_,rfl,.inl (e.seq a),rfl,_,rfl,?_⟩;rw[GK ns g,ah];simp only[decide_true,Bool.not_true];refine eZ ?_;exact k _ (aG.new b)
inductive Vl(K:af)(C:Addr)(vs:List V)(H:Hp)(Q:VK)(E:XK):Prop
 |mk (p dx l1 l2:Addr) (ns:List Int) (rs:List R5):vs=[.ref p,.ref l1,.ref l2]->H p=some (.ins C dx [])->bP K H l1 (ns.map V.int)->GJ K H l2 rs->1<=ns.length->ns.length<=10->(∀n∈ns,0<=n)->ns.Nodup->rs.length<=20->(∀r∈rs,r.Ok ns.length)->(∀ln lr H',H ln=none->H lr=none->c7 K C H' p ln lr ns rs->(∀b o,H b=some o->b≠p->H' b=some o)->Q .fH H')->Vl K C vs H Q E
theorem HV{t:Ad}(T:Txt K mg t):cz P w K mg base iM 4 t.kQ t.pD ["self","names","ropes"]  (Vl K t.bD):=by
 refine T.A8.F.kh G5 λH Q E hr h=>?_
 ·obtain⟨p,f,y,z,ns,rs,rfl,hp,U,hR,h1,h2,h3,h4,h5,h6,k⟩:=h
  refine⟨_,(aq (fE (cG (HU T) hr T.A9 (gV (pv 1)))) (aq (fE (cG (HS T) hr T.Ba (nZ (lS T.iN (pv 1)) (pv 2)))) (aq (fZ (pv 0) (fW ig (by rfl) T.sZ boot_list (gV (pv 1))) rfl) (aq (fZ (pv 0) (fW ig (by rfl) T.sZ boot_list (gV (pv 2))) rfl) (aq (fZ (pv 0) (lS T.iN (pv 1)) rfl) (bJ (fZ (pv 0) (lS T.iN (pv 2)) rfl))))))),?_⟩
  left
  refine⟨_,rfl,y,ns,rfl,U,h1,h2,h3,h4,λX r=>?_⟩;refine⟨_,rfl,y,_,rfl,.inl (r.seq U),?_⟩;refine⟨_,rfl,(ns.length:Int),z,rs,-_,hR.mono r,h5,h6,?_⟩;have g:=r _ _ hp;have M:=hR.mono r;have A:=r.seq U;obtain⟨_,i,e,hq,SX⟩:=id M;cases e;refine⟨_,rfl,y,_,rfl,.inl A,λd hn=>?_⟩;have l:p≠d:=aE g hn;have s2:=aG.new (o:=.lst (ns.map V.int)) hn;refine⟨_,rfl,p,_,f,[],rfl,s2 _ _ g,T.fJ,T.sY,!_,?_⟩;rw[dG (names:=[]) rfl rfl];generalize n:upd (upd X d (.lst (ns.map V.int))) p (.ins t.bD f ([]++[(Str.ofString "house_names",V.ref d)]))=H2;have I:∀b o,X b=some o->b≠p->H2 b=some o:=λb o e a=>by rw[<- n,aH a];exact s2 _ _ e
  have c:H2 p=some (.ins t.bD f [(Str.ofString "house_names",V.ref d)]):=by rw[<- n];exact au
  have R:H2 d=some (.lst (ns.map V.int)):=by rw[<- n,aH (bL l),au]
  have fr2:∀{b:Addr},X b=none->b≠p->b≠d->H2 b=none:=λ{b} e n1 n2=>by rw[<- n,aH n1,aH n2];exact e
  have N:bP K H2 y (ns.map V.int):=AE (λb o e a=>I b o e a) g A;have B:bP K H2 z i:=AE (λb o e a=>I b o e a) g hq;have Y:cW K H2 (rs.map R5.D) i:=jH (λb o e a=>I b o e a) g SX;refine⟨_,rfl,z,_,rfl,.inl B,λj x=>?_⟩;have m:p≠j:=aE c x;have s3:=aG.new (o:=.lst i) x;refine⟨_,rfl,p,_,f,_,rfl,s3 _ _ c,T.fJ,T.gR,(by show 1<1000;decide),?_⟩;rw[dG (names:=["house_names"]) rfl (by decide +kernel)];generalize v:upd (upd H2 j (.lst i)) p (.ins t.bD f ([(Str.ofString "house_names",V.ref d)]++[(Str.ofString "rope_tuples",V.ref j)]))=H3;have G:∀b o,H2 b=some o->b≠p->H3 b=some o:=λb o e a=>by rw[<- v,aH a];exact s3 _ _ e
  have s:H3 p=some (.ins t.bD f [(Str.ofString "house_names",V.ref d),(Str.ofString "rope_tuples",V.ref j)]):=by rw[<- v];exact au
  have O:H3 j=some (.lst i):=by rw[<- v,aH (bL m),au]
  have hn3:=G _ _ R (bL l);have S:bP K H3 y (ns.map V.int):=AE G c N;have V2:bP K H3 z i:=AE G c B;have W:cW K H3 (rs.map R5.D) i:=jH G c Y;refine⟨_,rfl,y,_,rfl,.inl S,_,rfl,p,_,f,_,rfl,s,T.fJ,T.mC,(by show 2<1000;decide),?_⟩;rw[dG (names:=["house_names","rope_tuples"]) rfl (by decide +kernel)];generalize J:upd H3 p (.ins t.bD f ([(Str.ofString "house_names",V.ref d),(Str.ofString "rope_tuples",V.ref j)]++[(Str.ofString "size",V.int ((ns.map V.int).length:Nat))]))=H4;have C:∀b o,H3 b=some o->b≠p->H4 b=some o:=λb o e a=>by rw[<- J,aH a];exact e
  have V3:H4 p=some (.ins t.bD f [(Str.ofString "house_names",V.ref d),(Str.ofString "rope_tuples",V.ref j),(Str.ofString "size",V.int ((ns.map V.int).length:Nat))]):=by rw[<- J];exact au
  have V4:bP K H4 z i:=AE C s V2;have ag1:cW K H4 (rs.map R5.D) i:=jH C s W;refine⟨_,rfl,z,_,rfl,.inl V4,_,rfl,p,_,f,_,rfl,V3,T.fJ,T.uB,(by show 3<1000;decide),?_⟩;rw[dG (names:=["house_names","rope_tuples","size"]) rfl (by decide +kernel)];have L:∀b o,H4 b=some o->b≠p->∀u,(upd H4 p u) b=some o:=λb o e a u=>by rw[aH a];exact e
  have Z:i.length=rs.length:=by rw[SX.length,ah]
  refine k d j _ (r.free hn) ?_ ⟨⟨f,?_⟩,?_,i,?_,jH (λb o e a=>L b o e a _) V3 ag1⟩ ?_
  ·cases q:H j with
   |none=>rfl
   |some o =>
    have:=I j o (r _ _ q) (λe=>m e.symm)
    rw[x] at this;cases this
  ·rw[au,Z,ah]
   rfl
  ·exact L _ _ (C _ _ hn3 (bL l)) (bL l) _
  ·exact L _ _ (C _ _ O (bL m)) (bL m) _
  ·exact λb o e a=>L _ _ (C _ _ (G _ _ (I _ _ (r _ _ e) a) a) a) a _
inductive Vm(K:af)(C:Addr)(vs:List V)(H:Hp)(Q:VK)(E:XK):Prop
 |mk (p ln lr:Addr) (ns:List Int) (rs:List R5) (i:Nat) (n:Int):vs=[.ref p,.int i]->c7 K C H p ln lr ns rs->ns[i]?=some n->Q (.int n) H->Vm K C vs H Q E
theorem LC{t:Ad}(T:Txt K mg t):cz P w K mg base iM 1 t.pV t.uo ["self","house"]  (Vm K t.bD):=by
 refine T.E2.F.kh K2 λH Q E r h=>?_
 ·obtain⟨p,c,j,m,o,i,n,rfl,e,f,k⟩:=h
  obtain⟨⟨d,b⟩,g,q,a,l⟩:=id e;refine⟨_,(oR (xL (aY (pv 0) rfl) (pv 1))),?_⟩
  left
  refine⟨_,rfl,p,_,d,_,_,rfl,b,T.fJ,T.sY,rfl,_,rfl,c,_,_,_,rfl,rfl,bP.of g,eY (v:=V.int n) (by rw[aj,f];rfl),k⟩
inductive Vn(K:af)(C:Addr)(vs:List V)(H:Hp)(Q:VK)(E:XK):Prop
 |mk (p ln lr:Addr) (ns:List Int) (rs:List R5) (i:Nat) (r:R5):vs=[.ref p,.int i]->c7 K C H p ln lr ns rs->rs[i]?=some r->(∀q,H q=some (.tup r.vs)∨cQ K H q r.vs->Q (.ref q) H)->Vn K C vs H Q E
theorem Dq{t:Ad}(T:Txt K mg t):cz P w K mg base iM 1 t.pW t.uq ["self","number"]  (Vn K t.bD):=by
 refine T.zL.F.kh K3 λH Q E z h=>?_
 ·obtain⟨p,s,f,ns,u,i,r,rfl,m,o,k⟩:=h
  obtain⟨⟨j,c⟩,x,y,a,l⟩:=id m;obtain⟨v,b,g⟩:=l.get (i:=i) (d:=r.D) (by rw[aj,o];rfl);obtain⟨q,e,n⟩:=Rep.yY (ns:=r.ns) g;subst e;refine⟨_,(oR (xL (aY (pv 0) rfl) (pv 1))),?_⟩
  left
  exact⟨_,rfl,p,_,j,_,_,rfl,c,T.fJ,T.gR,rfl,_,rfl,f,_,_,_,rfl,rfl,bP.of a,eY b,k q (.inr n)⟩
inductive YZ(K:af)(C:Addr)(vs:List V)(H:Hp)(Q:VK)(E:XK):Prop
 |mk (p ln lr:Addr) (ns:List Int) (rs:List R5) (i:Nat) (r:R5) (h:Int):vs=[.ref p,.int i,.int h]->c7 K C H p ln lr ns rs->rs[i]?=some r->Q (.int (if h=r.a then r.b else r.a)) H->YZ K C vs H Q E
theorem qU{t:Ad}(T:Txt K mg t):cz P w K mg base iM 1 t.jQ t.nB ["self","rope","house"]  (YZ K t.bD):=by
 refine T.nJ.F.kh yp λH Q E G h=>?_
 ·obtain⟨p,z,m,ns,A,i,r,x,rfl,u,y,k⟩:=h
  obtain⟨⟨o,l⟩,B,C,b,s⟩:=id u;obtain⟨v,j,n⟩:=s.get (i:=i) (d:=r.D) (by rw[aj,y];rfl);obtain⟨q,e,g⟩:=Rep.yY (ns:=r.ns) n;subst e;refine⟨_,(aq (sS 3 yp (xL (aY (pv 0) rfl) (pv 1))) (oR (yO (qT uc (pv 2) (xT (pv 3) aB)) (xT (pv 3) aB) (xT (pv 3) aB)))),?_⟩
  left
  refine⟨_,rfl,p,_,o,_,_,rfl,l,T.fJ,T.gR,rfl,_,rfl,m,_,_,_,rfl,rfl,bP.of b,eY j,?_⟩;refine⟨_,rfl,_,rfl,q,_,_,_,rfl,rfl,g,rfl,rfl,_,rfl,?_⟩;refine ko (λc=>?_) (λc=>?_)
  ·have f:x=r.a:=by simpa using c
   rw[ee f] at k;exact⟨_,rfl,q,_,_,_,rfl,rfl,g,rfl,k⟩
  ·have f:¬x=r.a:=by simpa using c
   rw[er f] at k;exact⟨_,rfl,q,_,_,_,rfl,rfl,g,rfl,k⟩
inductive adz(K:af)(C:Addr)(vs:List V)(H:Hp)(Q:VK)(E:XK):Prop
 |mk (p ln lr:Addr) (ns:List Int) (rs:List R5) (h:Int):vs=[.ref p,.int h]->c7 K C H p ln lr ns rs->rs.length<=20->(∀l H',aG H H'->H l=none->H' l=some (.lst (bR (SS rs h rs.length)))->Q (.ref l) H')->adz K C vs H Q E
theorem oV{t:Ad}(T:Txt K mg t):cz P w K mg base iM 1 t.i6 t.lB ["self","house"]  (adz K t.bD):=by
 refine T.lI.F.kh vR λH Q E hr h=>?_
 ·obtain⟨p,ln,lr,ns,rs,x,rfl,hT,AZ,k⟩:=h
  obtain⟨⟨dx,Y⟩,hn,B,g,M⟩:=id hT;have G:B.length=rs.length:=by rw[M.length,ah]
  refine⟨_,(oR (gq (kO vR ["number","rope","house"] [none,none,some 1]) rfl (Qd rfl T.E8 (gV (aY (pv 0) rfl))) (λ_ _ _ _=>by exact (KG K rfl (n:=2) rfl (i0 (gS 0 qY) (i0 (gS 1 qY) Ay)))) (λ_ _ _ _=>by exact (mP (jW (By K rfl) (pv 2) (dU (nZ (yT K (pv 1) aB) (yT K (pv 1) aB))) (by with_unfolding_all rfl)))) (λ_ _ _ _=>by exact (pv 0)))),?_⟩
  left
  refine⟨_,rfl,p,_,dx,_,_,rfl,Y,T.fJ,T.gR,rfl,lr,B,rfl,bP.of g,λj f=>?_⟩;refine ir (n:=B.length) (λi m _=>m=bR (SS rs x i)) f (aag (bP.of g)) (Uc (bP.of g)) rfl ?_ ?_
  ·rintro i m A U l z r y H3 ⟨q,v,I,rfl,rfl,X⟩
   have C:=X B (l.seq (bP.of g));have W:rs[i]?=some rs[i]:=-_
   obtain⟨v',u,hD⟩:=M.get (i:=i) (d:=(rs[i]).D) (by rw[aj,W];rfl);rw[C] at u;cases u;obtain⟨b,e,hb⟩:=Rep.yY (ns:=(rs[i]).ns) hD;subst e;have s:=(l.out (o:=.tup [.int (i:Nat),.ref b]) (l.free I)).dB hb;have Z:j≠q:=aE z I;refine⟨q,_,rfl,cQ.of au,rfl,_,_,rfl,_,_,rfl,rfl,?_⟩;refine⟨_,rfl,_,rfl,b,_,_,_,rfl,rfl,s,rfl,_,rfl,b,_,_,_,rfl,rfl,s,rfl,g8,λc O=>?_⟩;refine⟨c,_,rfl,.inr (cQ.of au),rfl,rfl,_,rfl,?_⟩;have eb:CD (V.int x) [V.int rs[i].a,V.int rs[i].b]=isAt rs x i:=by
    unfold isAt;rw[W];exact OE _ _ _
   have S:=l.out (o:=.tup [.int (i:Nat),.ref b]) (l.free I);have R:=S.out (o:=.tup [V.int rs[i].a,V.int rs[i].b]) (S.free O);have L:(upd (upd A q (HO.tup [V.int (i:Nat),V.ref b])) c (HO.tup [V.int rs[i].a,V.int rs[i].b])) j=some (.lst m):=by
    have N:(upd A q (HO.tup [V.int (i:Nat),V.ref b])) j=some (.lst m):=by rw[aH Z];exact z
    rw[aH (aE N O)];exact N
   try dsimp only
   rw[er aF,eb];have hl:m.length<sizeLine:=by rw[r,ah];exact cK (aN (WO rs x i) ∅) (cS (ay _))
   refine ko (λJ=>?_) (λJ=>?_)
   ·exact⟨_,rfl,fQ f U R L hl (by rw[r,Mi,ee J,jI])⟩
   ·exact jX U R L (by rw[r,Mi,er J,bY])
  ·intro m A l z r
   rw[G] at r;exact k j A l f (by rw[z,r])
inductive M0(K:af)(C:Addr)(vs:List V)(H:Hp)(Q:VK)(E:XK):Prop
 |mk (p ln lr:Addr) (ns:List Int) (rs:List R5) (i:Nat) (n:Int):vs=[.ref p,.int i]->c7 K C H p ln lr ns rs->ns[i]?=some n->(∀q H',aG H H'->cQ K H' q (cR ⟨n,0,0,-1⟩)->Q (.ref q) H')->M0 K C vs H Q E
theorem HW{t:Ad}(T:Txt K mg t):cz P w K mg base iM 2 t.vW t.AK ["town","house"]  (M0 K t.bD):=by
 refine T.Eb.F.kh O0 λH Q E m h=>?_
 ·obtain⟨p,d,c,f,l,i,n,rfl,a,j,k⟩:=h
  obtain⟨⟨e,b⟩,_,_,_⟩:=id a;refine⟨_,(oR (dU (YO (cM (pv 0) T.fJ T.E2 (LC T) m (gV (pv 1))) aB aB iO))),?_⟩
  left
  refine⟨_,rfl,p,e,_,rfl,b,rfl,_,rfl,p,d,c,f,l,i,n,rfl,a,j,z4,λq g=>?_⟩;exact k q _ (aG.new g) (cQ.of au)
inductive QF(K:af)(C:Addr)(vs:List V)(H:Hp)(Q:VK)(E:XK):Prop
 |mk (p ln lr:Addr) (ns:List Int) (rs:List R5) (i:Nat) (x:R5) (a:Addr) (r:RM.Row):vs=[.ref p,.ref a,.int i]->c7 K C H p ln lr ns rs->rs[i]?=some x->cQ K H a (cR r)->(¬r.ho+1<ns.length->∀H',aG H H'->Q .fH H')->(r.ho+1<ns.length->∀q H',aG H H'->cQ K H' q (cR ⟨r.hd,r.co+x.c,r.ho+1,i⟩)->Q (.ref q) H')->QF K C vs H Q E
theorem M2{t:Ad}(T:Txt K mg t):cz P w K mg base iM 2 t.CS t.Gn ["town","row","rope"]  (QF K t.bD):=by
 refine T.Lc.F.kh My λH Q E B h=>?_
 ·obtain⟨p,m,l,ns,s,i,x,a,r,rfl,j,o,b,y,v⟩:=h
  obtain⟨⟨g,f⟩,_,_,_⟩:=id j;refine⟨_,(aq (sS 3 My (bw fB (xT (pv 1) aB) aB)) (aq (cE (qT acD (pv 3) (aY (pv 0) rfl)) (oR iO) bz) (oR (dU (YO (xT (pv 1) aB) (bw fB (xT (pv 1) aB) (xT (cM (pv 0) T.fJ T.zL (Dq T) B (gV (pv 2))) aB)) (pv 3) (pv 2)))))),?_⟩
  left
  refine⟨_,rfl,a,_,_,_,rfl,rfl,b,rfl,_,_,rfl,rfl,?_⟩;refine⟨_,rfl,_,rfl,p,_,g,_,_,rfl,f,T.fJ,T.mC,rfl,_,_,rfl,rfl,_,rfl,?_⟩;refine ko (λe=>?_) (λe=>?_)
  ·have A:(ns.length:Int)<=r.ho+1:=g9 e
   exact y ∅ _ (aG.refl _)
  ·have A:¬(ns.length:Int)<=r.ho+1:=of_decide_eq_false (eq_false_of_ne_true e)
   refine⟨_,rfl,a,_,_,_,rfl,rfl,b,rfl,_,rfl,a,_,_,_,rfl,rfl,b,rfl,_,rfl,p,g,_,rfl,f,rfl,_,rfl,p,m,l,ns,s,i,x,rfl,j,o,λq n=>?_⟩;have d:cQ K H q x.vs:=n.elim (λz=>cQ.of z) id;refine⟨q,_,_,_,rfl,rfl,d,rfl,_,_,rfl,rfl,_,rfl,_,rfl,z4,λu k=>?_⟩;refine v ∅ u _ (aG.new k) (cQ.of ?_);rw[au];show some (HO.tup [.int r.hd,.int (r.co+x.c),.int (r.ho+1),.int (i:Int)])=some (HO.tup [.int r.hd,.int (r.co+x.c),.int (r.ho+1),jV (i:Int)]);rw[aW ∅]
inductive Y0(K:af)(C:Addr)(vs:List V)(H:Hp)(Q:VK)(E:XK):Prop
 |mk (p ln lr c b:Addr) (ns:List Int) (rs:List R5) (live:List Nat) (nd:ns.Nodup) (ok:∀r∈rs,r.Ok ns.length) (hl:∀k∈live,k<rs.length) (R:Nat->RM.Row) (h:Nat):vs=[.ref p,.ref c,.ref b,.int h]->c7 K C H p ln lr ns rs->bP K H c (bR live)->wU K H b ns.length R->h<ns.length->rs.length<=20->RM.Sane (aV ns rs live nd ok hl) R->(∀q d H',aG H H'->cQ K H' q (cR d)->RM.Ul (N:=aV ns rs live nd ok hl) ns.length R h d->Q (.ref q) H')->Y0 K C vs H Q E
theorem aaL{t:Ad}(T:Txt K mg t):cz P w K mg base iM 3 t.MF t.Qv ["town","live","rows","house"]  (Y0 K t.bD):=by
 refine T.YT.F.kh G3 λH Q E hr h=>?_
 ·obtain⟨p,ln,lr,c,b,ns,rs,e,n,m,i,R,x,rfl,hT,hC,hR,hx,AZ,aam,k⟩:=h
  obtain⟨⟨dx,hp⟩,_,_,_⟩:=id hT;obtain⟨ps,hP,ePs,Xp⟩:=hR;have enm:(aV ns rs e n m i).nm x=ns[x]:=by show ns.getD x 0=_;simp[az,hx]
  refine⟨_,(aq (sS 4 G3 (cG (HW T) hr T.Eb (nZ (pv 0) (pv 3)))) (aq (fS (fV (cM (pv 0) T.fJ T.lI (oV T) hr (gV (pv 3)))) (gT 5 G3) (bJ (cE (jW rW (pv 5) (pv 1) (by with_unfolding_all rfl)) (aq (sS 6 G3 (cG (M2 T) hr T.Lc (Ir (pv 0) (xL (pv 2) (cM (pv 0) T.fJ T.nJ (qU T) hr (nZ (pv 5) (pv 3)))) (pv 5)))) (bJ (cE (PW.pt (Bs (qT AA (pv 6) iO) (wN (qT (aak (Nat.lt_of_succ_lt (CG hr))) (yQ Ks (pv 6) Gh (wQ aB)) (yQ Ks (pv 4) Gh (wQ aB)))))) (bJ (sS 4 G3 (pv 6))) bz))) bz))) (oR (pv 4)))),?_⟩
  left
  refine⟨_,rfl,_,rfl,p,ln,lr,ns,rs,x,ns[x],rfl,hT,aa hx,λp0 H0 s0 hp0=>?_⟩;have hown:cQ K H0 p0 (cR (RM.own (aV ns rs e n m i) x)):=by unfold RM.own;rw[enm];exact hp0
  refine⟨_,rfl,p,dx,_,rfl,s0 _ _ hp,rfl,_,rfl,p,ln,lr,ns,rs,x,rfl,hT.mono s0,AZ,λl H1 s1 LP M=>?_⟩;have s01:=s0.trans s1;refine⟨l,rfl,⟨_,bP.of M⟩,?_⟩;generalize S:SS rs (x:Int) rs.length=v at M;refine vL (K:=K) (a:=l) (xs:=bR v) (λj σ Y=>aG H1 Y/\∃(q:Addr) (d:RM.Row) (v5 v6:Option V),σ=[some (.ref p),some (.ref c),some (.ref b),some (.int x),some (.ref q),v5,v6]/\cQ K Y q (cR d) /\
   (d=RM.own (aV ns rs e n m i) x∨∃f g,f∈v.take j/\RM.Gj (aV ns rs e n m i) f x g/\(R g).ho+1<ns.length/\d=RM.over (aV ns rs e n m i) f (R g))/\RM.le d (RM.own (aV ns rs e n m i) x) /\
   ∀f g,f∈v.take j->RM.Gj (aV ns rs e n m i) f x g->(R g).ho+1<ns.length->RM.le d (RM.over (aV ns rs e n m i) f (R g)))
   ⟨aG.refl _,p0,RM.own (aV ns rs e n m i) x,_,_,rfl,s1.dB hown,.inl rfl,RM.le_refl _,λf g he=>by simp at he⟩ (λj σ Y _ z=>bP.of (z.1 _ _ M)) ?_ ?_
  ·rintro j y σ Y hj ⟨s2,q,d,v5,v6,rfl,hq,d1,Z,W⟩
   have G:j<v.length:=by
    have:=(ai.mp hj).1
    rw[ah] at this;exact this
   rw[aj,aa G] at hj;cases hj;have et:v.take (j+1)=v.take j++[v[j]]:=by rw[uI,aa G];rfl
   have X:v[j]∈v:=aQ G;have Y3:∀A∈v.take j,A<v[j]:=λA s=>WQ (S▸Ur rs (x:Int) rs.length) G s;have J:(d=RM.own (aV ns rs e n m i) x∨∃f g,f∈v.take j++[v[j]]/\RM.Gj (aV ns rs e n m i) f x g/\(R g).ho+1<ns.length/\d=RM.over (aV ns rs e n m i) f (R g)):=d1.imp id λ⟨a1,a2,a3,a4⟩=>⟨a1,a2,List.mem_append_left _ a3,a4⟩;rw[et];show iD 5 (V.int ((v[j]:Nat):Int)) _ _ _;generalize v[j]=f at X Y3 J;rw[<- S,AF] at X;obtain⟨Xq,hat⟩:=X;have V5:=s01.trans s2;refine⟨_,rfl,_,rfl,c,_,rfl,.inl (V5.seq hC),rfl,rX e,_,rfl,?_⟩
   try dsimp only
   rw[er aF,zc];refine ko (λL=>?_) (λL=>?_)
   case refine_2 =>
    have L:f∉e:=λz=>L (fy z);refine⟨s2,q,d,_,_,rfl,hq,J,Z,λA g s AD O=>?_⟩;rcases br.mp s with z|z
    ·exact W A g z AD O
    ·rw[bq.mp z] at AD
     exact eL AD.1 L
   have L:f∈e:=g9 L;have U:rs[f]?=some rs[f]:=aa Xq;have AD:RM.Gj (aV ns rs e n m i) f x (fR rs[f] x):=(ue L).mpr ⟨hat,rfl⟩;have P1:fR rs[f] x<ns.length:=AD.lt.2.1;have hgs:=aam _ P1;have Vp:(if (x:Int)=rs[f].a then rs[f].b else rs[f].a)=((fR rs[f] x:Nat):Int):=by
    have o:=m _ (aQ Xq);have h1:=o.a0;have h2:=o.b0;unfold fR;split <;> lia
   have Vq:(aV ns rs e n m i).c f=rs[f].c:=by show ((rs[f]?).map λr=>r.c).getD 0=_;rw[U];rfl
   have fu:∀g,RM.Gj (aV ns rs e n m i) f x g->g=fR rs[f] x:=λg a=>((ue L).mp a).2;generalize fR rs[f] x=g at AD P1 hgs Vp fu;have hpg:ps[g]?=some ps[g]:=aa ∅;have aaM:FG (ps.map V.ref) (if (x:Int)=rs[f].a then rs[f].b else rs[f].a)=some (.ref ps[g]):=by rw[Vp];exact eY (by rw[aj,hpg];rfl)
   have hrg:=V5.dB (Xp g _ hpg);refine⟨_,rfl,_,rfl,_,rfl,p,dx,_,rfl,V5 _ _ hp,rfl,_,rfl,_,rfl,p,ln,lr,ns,rs,f,rs[f],x,rfl,hT.mono V5,U,b,_,_,_,rfl,rfl,V5.seq hP,aaM,_,rfl,?_⟩;refine⟨p,ln,lr,ns,rs,f,rs[f],ps[g],R g,rfl,hT.mono V5,U,hrg,λO H3 s3=>?_,λO u H3 s3 hu=>?_⟩
   ·refine⟨_,rfl,rfl,_,rfl,eZ (eZ ?_)⟩
    refine⟨s2.trans s3,q,d,_,_,rfl,s3.dB hq,J,Z,λA D s C N=>?_⟩;rcases br.mp s with z|z
    ·exact W A D z C N
    ·rw[bq.mp z] at C
     rw[fu D C] at N;exact eL N O
   have eov:(⟨(R g).hd,(R g).co+rs[f].c,(R g).ho+1,f⟩:RM.Row)=RM.over (aV ns rs e n m i) f (R g):=by unfold RM.over;rw[Vq]
   rw[eov] at hu;have V2:=s3.dB hq;have I:=s2.trans s3;refine⟨_,rfl,rfl,_,rfl,gB ?_⟩;have lex:GI [V.int (RM.over (aV ns rs e n m i) f (R g)).hd,V.int (RM.over (aV ns rs e n m i) f (R g)).co,V.int (RM.over (aV ns rs e n m i) f (R g)).ho] [V.int d.hd,V.int d.co,V.int d.ho] (decide (RM.lt (RM.over (aV ns rs e n m i) f (R g)) d)):=RM.WH (by
    rcases d1 with z|⟨A,D,s,_,_,z⟩
    ·rw[z]
     intro _ _ e3
     have:(R g).ho+1=0:=e3
     lia
    ·have hlt':=Y3 A s
     rw[z];intro e1 e2 e3 e4;rcases e4 with e4|⟨_,e4|⟨_,e4|⟨_,e4⟩⟩⟩
     ·lia
     ·lia
     ·lia
     ·have:((f:Nat):Int)<((A:Nat):Int):=e4
      lia)
   have nw:∀r:RM.Row,¬(HT.lK (cR r).length 0 none=0/\HT.lK (cR r).length (cR r).length (some 3)=(cR r).length):=λr z=>eL z.2 (by show HT.lK 4 4 (some 3)≠4;decide);have ct:∀r:RM.Row,CA (cR r) none (some 3)=[V.int r.hd,V.int r.co,V.int r.ho]:=λr=>rfl;refine⟨_,rfl,_,rfl,u,_,rfl,hu,nw _,λz1 hz1=>?_⟩;rw[ct];have t1:=aG.new (o:=.tup [V.int (RM.over (aV ns rs e n m i) f (R g)).hd,V.int (RM.over (aV ns rs e n m i) f (R g)).co,V.int (RM.over (aV ns rs e n m i) f (R g)).ho]) hz1;refine⟨_,rfl,_,rfl,q,_,rfl,t1.dB V2,nw _,λz2 hz2=>?_⟩;rw[ct];have t2:=aG.new (o:=.tup [V.int d.hd,V.int d.co,V.int d.ho]) hz2;have I:=I.trans (t1.trans t2);have hu:=(t1.trans t2).dB hu;have V2:=(t1.trans t2).dB V2;refine⟨z1,z2,_,_,_,rfl,rfl,cQ.of (t2 _ _ au),cQ.of au,rfl,lex,_,rfl,?_⟩;by_cases B:RM.lt (RM.over (aV ns rs e n m i) f (R g)) d
   ·rw[fy B]
    refine gB ?_;refine⟨_,rfl,I,u,_,_,_,rfl,hu,.inr ⟨f,g,cY _ (bq.mpr rfl),AD,O,rfl⟩,RM.le_trans (RM.YH B) Z,λA D s C N=>?_⟩;rcases br.mp s with z|z
    ·exact RM.le_trans (RM.YH B) (W A D z C N)
    ·rw[bq.mp z] at C ⊢
     rw[fu D C];exact RM.le_refl _
   ·rw[gU B]
    refine eZ ⟨I,q,d,_,_,rfl,V2,J,Z,λA D s C N=>?_⟩;rcases br.mp s with z|z
    ·exact W A D z C N
    ·rw[bq.mp z] at C ⊢
     rw[fu D C];exact B
  ·rintro σ Y ⟨s2,q,d,v5,v6,rfl,hq,d1,Z,W⟩
   rw[ah,gi (ay _)] at W;refine⟨_,rfl,k q d Y (s01.trans s2) hq ⟨d1.imp id λ⟨a1,a2,_,a4⟩=>⟨a1,a2,a4⟩,Z,λf g AD O=>W f g ?_ AD O⟩⟩;rw[<- S,AF];exact⟨i f AD.1,((ue AD.1).mp AD).1⟩
inductive Vr(K:af)(C:Addr)(vs:List V)(H:Hp)(Q:VK)(E:XK):Prop
 |mk (p ln lr c b:Addr) (ns:List Int) (rs:List R5) (live:List Nat) (nd:ns.Nodup) (ok:∀r∈rs,r.Ok ns.length) (hl:∀k∈live,k<rs.length) (R:Nat->RM.Row) (h:Nat):vs=[.ref p,.ref c,.ref b,.int h]->c7 K C H p ln lr ns rs->bP K H c (bR live)->wU K H b ns.length R->h<ns.length->rs.length<=20->wW ns.length rs.length R->(∀v H',aG H H'->uM K H' v (zd (aV ns rs live nd ok hl) R h)->Q v H')->Vr K C vs H Q E
theorem Vs{t:Ad}(T:Txt K mg t):cz P w K mg base iM 3 t.CU t.Gq ["town","live","rows","house"]  (Vr K t.bD):=by
 refine T.Qx.F.kh G4 λH Q E B h=>?_
 ·obtain⟨p,ln,lr,c,b,ns,rs,live,nd,ok,s,R,i,rfl,L,hC,U,hin,AZ,Y,k⟩:=h
  obtain⟨⟨dx,hp⟩,_,_,_⟩:=id L;obtain⟨o,M,ePs,Xp⟩:=id U;have I:o[i]?=some o[i]:=aa ∅;have y:FG (o.map V.ref) (i:Int)=some (.ref o[i]):=eY (by rw[aj,I];rfl);have x:=Xp i _ I;have fi:=Y i hin;refine⟨_,(aq (sS 4 G4 (xT (xL (pv 2) (pv 3)) aB)) (aq (cE (PW.pt (Jp (jW rA (pv 4) (pv 1) (by with_unfolding_all rfl)) (Kh (jW rA (pv 4) (cM (pv 0) T.fJ T.lI (oV T) B (gV (pv 3))) (by with_unfolding_all rfl))))) (oR iO) bz) (aq (sS 5 G4 (cM (pv 0) T.fJ T.nJ (qU T) B (nZ (pv 4) (pv 3)))) (aq (cE (qT KD (cG (M2 T) B T.Lc (Ir (pv 0) (xL (pv 2) (pv 5)) (pv 4))) (xL (pv 2) (pv 3))) (oR iO) bz) (oR (dU (nZ (pv 4) (pv 5)))))))),?_⟩
  left
  refine⟨_,rfl,_,rfl,KI M y (WR x rfl ?_)⟩;have f:∀{H3:Hp},aG H H3->(∀k g,¬RM.om (aV ns rs live nd ok s) R k i g)->Q .fH H3:=λs3 no=>k .fH _ s3 (by rw[Mj no];rfl);show iD 4 (jV (R i).by_) _ _ _;rcases fi.by_ with N|⟨b0,b1⟩
  ·rw[show jV (R i).by_=V.fH by rw[N];rfl]
   refine⟨_,rfl,_,rfl,c,_,rfl,.inl hC,rfl,rX live,_,rfl,?_⟩
   try dsimp only
   rw[ee rfl,WS];refine gB (gB (f (aG.refl _) λn g t=>?_))
   have:=t.by
   lia
  obtain⟨d,S⟩:∃d:Nat,(R i).by_=(d:Int):=⟨(R i).by_.toNat,∅⟩;have A:d<rs.length:=∅
  rw[show jV (R i).by_=V.int (d:Nat) by rw[S,aW ∅]];have q:∀n g,RM.om (aV ns rs live nd ok s) R n i g->n=d:=λn g t=>by have:=t.by;lia
  refine⟨_,rfl,_,rfl,c,_,rfl,.inl hC,rfl,rX live,_,rfl,?_⟩
  try dsimp only
  rw[ee rfl,zc];by_cases G:d∈live
  case neg =>
   rw[gU G];refine gB (gB (f (aG.refl _) λn g t=>?_))
   have:=q n g t
   subst this;exact G t.AD.1
  rw[fy G];refine eZ ?_;refine⟨_,rfl,_,rfl,p,dx,_,rfl,hp,rfl,_,rfl,p,ln,lr,ns,rs,i,rfl,L,AZ,λl H1 v LP O=>?_⟩;refine⟨l,_,rfl,.inl (bP.of O),rfl,rX _,_,rfl,?_⟩
  try dsimp only
  rw[ee rfl,zc];by_cases m:d∈SS rs (i:Int) rs.length
  case neg =>
   rw[gU m];refine gB (f v λn g t=>?_)
   have:=q n g t
   subst this;exact m (AF.mpr ⟨A,((ue G).mp t.AD).1⟩)
  rw[fy m];refine eZ ?_;have m:=(AF.mp m).2;have D:rs[d]?=some rs[d]:=aa A;have Vp:=Qh (h:=i) A ok;have P1:fR rs[d] i<ns.length:=OF A ok;have J:=Ut (ns:=ns) (rs:=rs) (live:=live) (nd:=nd) (ok:=ok) (hl:=s) (R:=R) (h:=i) G;have Vq:=ac4 (ns:=ns) (live:=live) (nd:=nd) (ok:=ok) (hl:=s) A;have r:∀g,RM.om (aV ns rs live nd ok s) R d i g->g=fR rs[d] i:=λg t=>aao t;refine⟨_,rfl,p,dx,_,rfl,v _ _ hp,rfl,_,rfl,_,rfl,p,ln,lr,ns,rs,d,rs[d],i,rfl,L.mono v,D,?_⟩;show iD 5 (V.int (if (i:Int)=rs[d].a then rs[d].b else rs[d].a)) _ _ _;rw[Vp];generalize fR rs[d] i=g at Vp P1 J r;have z:o[g]?=some o[g]:=aa ∅;have aaM:FG (o.map V.ref) (g:Int)=some (.ref o[g]):=eY (by rw[aj,z];rfl);refine⟨_,rfl,_,rfl,_,rfl,KI (v.seq M) aaM ⟨_,rfl,p,ln,lr,ns,rs,d,rs[d],o[g],R g,rfl,L.mono v,D,v.dB (Xp g _ z),λW H2 s2=>?_,λW u H2 s2 hu=>?_⟩⟩
  ·have j:=v.trans s2
   refine⟨_,rfl,_,rfl,KI (j.seq M) y ⟨.none,RM.DM (R i),rfl,RM.yZ (j.dB x),rfl,RM.y9 _,cK (fz (aN (mE _ _) (!_)) _) B.units,_,rfl,?_⟩⟩;refine gB (f j λn C t=>?_);have X:=q n C t;subst X;have e2:=r C t;subst e2;exact W t.cut
  ·have j:=v.trans s2
   have eov:(⟨(R g).hd,(R g).co+rs[d].c,(R g).ho+1,d⟩:RM.Row)=RM.over (aV ns rs live nd ok s) d (R g):=by unfold RM.over;rw[Vq]
   rw[eov] at hu;refine⟨_,rfl,_,rfl,KI (j.seq M) y ⟨RM.DM (RM.over (aV ns rs live nd ok s) d (R g)),RM.DM (R i),RM.yZ hu,RM.yZ (j.dB x),RM.y9 _,RM.y9 _,cK (fz (aN (mE _ _) (by rw[RM.JE];decide)) _) B.units,_,rfl,?_⟩⟩;rw[RM.Mh (show (-1:Int)<=(d:Nat) by lia) fi.by1];by_cases e:RM.over (aV ns rs live nd ok s) d (R g)=R i
   case neg =>
    rw[gU e];refine gB (f j λn C t=>?_);have X:=q n C t;subst X;have e2:=r C t;subst e2;exact e t.eq.symm
   rw[fy e];refine eZ ?_;have hh:RM.om (aV ns rs live nd ok s) R d i g:=by
    obtain⟨g2,t⟩:=J.mpr ⟨m,W,e.symm⟩
    have:=r g2 t
    subst this;exact t
   refine⟨_,rfl,_,rfl,g8,λo2 Z=>?_⟩;exact k (.ref o2) _ (j.trans (aG.new Z)) (by rw[uf.mpr hh];exact⟨o2,rfl,cQ.of au⟩)
inductive Y4(K:af)(C:Addr)(vs:List V)(H:Hp)(Q:VK)(E:XK):Prop
 |mk (p ln lr c b:Addr) (ns:List Int) (rs:List R5) (live:List Nat) (nd:ns.Nodup) (ok:∀r∈rs,r.Ok ns.length) (hl:∀k∈live,k<rs.length) (R:Nat->RM.Row):vs=[.ref p,.ref c,.ref b]->c7 K C H p ln lr ns rs->bP K H c (bR live)->wU K H b ns.length R->ns.length<=12->rs.length<=20->wW ns.length rs.length R->(∀l H',aG H H'->H l=none->aan K H' l ns.length (zd (aV ns rs live nd ok hl) R)->Q (.ref l) H')->Y4 K C vs H Q E
theorem aaQ{t:Ad}(T:Txt K mg t):cz P w K mg base iM 4 t.MG t.Qw ["town","live","rows"]  (Y4 K t.bD):=by
 refine T.YU.F.kh U3 λH Q E X h=>?_
 ·obtain⟨p,M,L,c,b,ns,D,d,G,A,B,R,rfl,C,O,y,Y,U,u,k⟩:=h
  obtain⟨⟨N,J⟩,_,_,_⟩:=id C;refine⟨_,(oR (gq (kO U3 ["house","live","rows","town"] [none,some 1,some 2,some 0]) rfl (gA rfl T.jy (gV (aY (pv 0) rfl))) (λ_ _ _ _=>by exact (gS 0 Sb)) (λ_ _ _ _=>by exact mO) (λ_ _ _ _=>by exact (cG (Vs T) X T.Qx (YO (pv 3) (pv 1) (pv 2) (pv 0)))))),?_⟩
  left
  refine⟨_,rfl,p,_,N,_,_,rfl,J,T.fJ,T.mC,rfl,(ns.length:Int),rfl,∅,∅,λs a=>?_⟩;refine ir (n:=((ns.length:Int)).toNat) (λi l o=>l.length=i/\∀(j:Nat) v,l[j]?=some v->uM K o v (zd (aV ns D d G A B) R j)) a Bx sj ⟨rfl,λj v e=>by simp at e⟩ ?_ ?_
  ·rintro i l o S g m ⟨q,f⟩ x H3 ⟨rfl,rfl⟩
   refine⟨_,rfl,_,rfl,_,rfl,_,rfl,p,M,L,c,b,ns,D,d,G,A,B,R,i,by rw[gD];rfl,C.mono g,g.seq O,y.mono g,∅,U,u,λv Z r I=>?_⟩;refine fQ a S (g.trans r) (r _ _ m) (by rw[q];exact cS ∅) ⟨by rw[av,q];rfl,λj w e=>?_⟩;refine uM.lst (r _ _ m) ?_;rcases Gk e with z|⟨W,V⟩
   ·exact (f j w z).mono r
   ·rw[W,V,q];exact I
  rintro l o g m ⟨q,f⟩;exact k s o g a ⟨l,m,∅,f⟩
inductive QG(K:af)(C:Addr)(vs:List V)(H:Hp)(Q:VK)(E:XK):Prop
 |mk (p ln lr c b:Addr) (ns:List Int) (rs:List R5) (live:List Nat) (nd:ns.Nodup) (ok:∀r∈rs,r.Ok ns.length) (hl:∀k∈live,k<rs.length) (R:Nat->RM.Row):vs=[.ref p,.ref c,.ref b]->c7 K C H p ln lr ns rs->bP K H c (bR live)->wU K H b ns.length R->ns.length<=12->rs.length<=20->wW ns.length rs.length R->(∀l os H',aG H H'->H l=none->H' l=some (.lst (bR os))->eU (aV ns rs live nd ok hl) R os->os.length<=12->Q (.ref l) H')->QG K C vs H Q E
theorem M3{t:Ad}(T:Txt K mg t):cz P w K mg base iM 5 t.xu t.Gp ["town","live","rows"]  (QG K t.bD):=by
 refine T.C2.F.kh Mz λH Q E hr h=>?_
 ·obtain⟨p,ln,lr,c,b,ns,W,a,L,U,O,R,rfl,hT,hC,I,Xr,AZ,M,k⟩:=h
  refine⟨_,(oR (cB EW T.Hq boot_sorted (gV (gq (kO Mz ["up"] [none]) rfl (fV (cG (aaQ T) hr T.YU (Ir (pv 0) (pv 1) (pv 2)))) (λ_ _ _ _=>by exact (gS 0 MA)) (λ_ _ _ _=>by exact (mP (qT AA (pv 0) iO))) (λ_ _ _ _=>by exact (yT K (pv 0) aB)))))),?_⟩
  left
  refine⟨_,rfl,_,rfl,_,rfl,p,ln,lr,c,b,ns,W,a,L,U,O,R,rfl,hT,hC,I,Xr,AZ,M,λlu H2 s2 alK hO=>?_⟩;obtain⟨Z,d,evs,N⟩:=hO;refine⟨lu,rfl,⟨_,bP.of d⟩,λV j=>?_⟩;refine ir (n:=Z.length) (λi J _=>∃f:List Nat,J=bR f/\f.length<=i/\f.Nodup/\∀k,k∈f↔∃h g,h<i/\RM.om (aV ns W a L U O) R k h g) j (DL (bP.of d)) (vM (bP.of d)) ⟨[],rfl,bN _,k8,λk=>⟨λz=>eL z (-_),λ⟨_,_,z,_⟩=>eL z (rY _)⟩⟩ ?_ ?_
  ·rintro i J H3 D r C ⟨f,rfl,X,G,A⟩ y H4 ⟨rfl,hv⟩
   have s:=hv _ (r.seq (bP.of d));rw[aa D] at s;cases s;have o:=(N i _ (aa D)).mono r;generalize Z[i]=v at o;cases x:zd (aV ns W a L U O) R i with
   |none =>
    rw[x] at o;have o:v=.fH:=o;subst o;refine⟨_,rfl,rfl,_,rfl,eZ ?_⟩;refine jX D r C ⟨f,rfl,∅,G,λk=>(A k).trans ⟨λ⟨h,g,z,t⟩=>⟨h,g,∅,t⟩,λ⟨h,g,z,t⟩=>⟨h,g,?_,t⟩⟩⟩;by_cases e:h=i
    ·subst e
     rw[uf.mpr t] at x;cases x
    ·lia
   |some q =>
    rw[x] at o;obtain⟨t1,rfl,ht⟩:=o;have m:=(uf (k:=q.1) (g:=q.2)).mp x;refine⟨_,rfl,rfl,_,rfl,gB ?_⟩;refine⟨_,rfl,t1,_,0,_,rfl,rfl,ht,rfl,?_⟩;refine fQ j D r C (by rw[ah];exact cS ∅) ⟨f++[q.1],by rw[jI],by rw[av];exact Nat.add_le_add_right X 1,Gr.BA G λz=>?_,λk=>?_⟩
    ·obtain⟨h,g,z1,t⟩:=(A _).mp z
     have:=(t.one m).1
     lia
    ·rw[br,bq,A]
     constructor
     ·rintro (⟨h,g,z,t⟩|rfl)
      ·exact⟨h,g,∅,t⟩
      ·exact⟨i,q.2,∅,m⟩
     ·rintro⟨h,g,z,t⟩
      by_cases e:h=i
      ·subst e
       exact .inr (t.uniq m).1
      ·exact .inl ⟨h,g,∅,t⟩
  rintro J H3 r C ⟨f,rfl,X,G,A⟩;refine⟨V,f.map λk:Nat=>(k:Int),rfl,bP.of (by rw[C,jJ]),by rw[ah];lia,λl ms Y u pw=>?_⟩;obtain⟨os,S,o1,o2,o3⟩:=Ml u pw G;rw[S];have B:=s2.trans r;refine k l os _ (B.trans (aG.new Y)) (B.free Y) au ⟨o1,λk=>?_⟩ ∅;rw[o2,A];constructor
  ·rintro⟨h,g,_,t⟩;exact⟨h,g,t⟩
  ·rintro⟨h,g,t⟩
   have:h<ns.length:=(om.lt t).1
   exact⟨h,g,∅,t⟩
theorem Eu{p:Nat->Bool}{xs:List Nat}{i:Nat}(a:i<xs.length):(xs.take (i+1)).filter p=(xs.take i).filter p++if p xs[i] then [xs[i]] else []:=by
 rw[ju a,fO];congr 1;cases e:p xs[i]
 ·rw[er (!_),r9 (by rw[e];decide)];rfl
 ·rw[ee rfl,r8 e];rfl
inductive M4(K:af)(C:Addr)(vs:List V)(H:Hp)(Q:VK)(E:XK):Prop
 |mk (p ln lr c b:Addr) (ns:List Int) (rs:List R5) (live:List Nat) (nd:ns.Nodup) (ok:∀r∈rs,r.Ok ns.length) (hl:∀k∈live,k<rs.length) (R:Nat->RM.Row) (h:Int):vs=[.ref p,.ref c,.ref b,.int h]->c7 K C H p ln lr ns rs->bP K H c (bR live)->wU K H b ns.length R->ns.length<=12->rs.length<=20->wW ns.length rs.length R->(∀l os H',aG H H'->H l=none->H' l=some (.lst (bR (os.filter (isAt rs h))))->eU (aV ns rs live nd ok hl) R os->os.length<=12->Q (.ref l) H')->M4 K C vs H Q E
theorem Pq{t:Ad}(T:Txt K mg t):cz P w K mg base iM 6 t.vX t.AL ["town","live","rows","house"]  (M4 K t.bD):=by
 refine T.JN.F.kh BO λH Q E Y h=>?_
 ·obtain⟨p,U,S,c,b,W,rs,m,nd,ok,V,R,x,rfl,G,hC,L,Z,X,C,k⟩:=h
  refine⟨_,(aq (sS 4 BO (cM (pv 0) T.fJ T.lI (oV T) Y (gV (pv 3)))) (oR (gq (kO BO ["rope","joined"] [none,some 4]) rfl (fV (AB (M3 T) (Y.mono (!_)) rfl T.zO T.C2.F.kp T.C2.B .nil mK (Ir (pv 0) (pv 1) (pv 2)))) (λ_ _ _ _=>by exact (gS 0 IE)) (λ_ _ _ _=>by exact (mP (jW (By K rfl) (pv 0) (pv 1) (by with_unfolding_all rfl)))) (λ_ _ _ _=>by exact (pv 0))))),?_⟩
  left
  obtain⟨⟨dx,hp⟩,_⟩:=id G;refine⟨_,rfl,p,dx,_,rfl,hp,rfl,_,rfl,p,U,S,W,rs,x,rfl,G,X,λlj H1 l alN O=>?_⟩;refine⟨_,rfl,_,rfl,_,rfl,p,U,S,c,b,W,rs,m,nd,ok,V,R,rfl,G.mono l,l.seq hC,L.mono l,Z,X,C,λlo os H2 u Vt e o s=>?_⟩;have N:=u _ _ O;have J:∀k∈os,decide (k∈SS rs x rs.length)=isAt rs x k:=λk hk=>by
   obtain⟨h,g,t⟩:=(o.2 k).mp hk;have A:k<rs.length:=V k t.AD.1;by_cases z:isAt rs x k=true
   ·rw[z];exact fy (AF.mpr ⟨A,z⟩)
   ·rw[Bool.not_eq_true] at z
    rw[z];refine gU λy=>?_;rw[(AF.mp y).2] at z;cases z
  refine⟨lo,rfl,⟨_,bP.of e⟩,λv a=>?_⟩;refine ir (n:=(bR os).length) (λi M _=>M=bR ((os.take i).filter (isAt rs x))) a (DL (bP.of e)) (vM (bP.of e)) rfl ?_ ?_
  ·rintro i M H3 r f j rfl y H4 ⟨rfl,q⟩
   have q:=q _ (f.seq (bP.of e));have d:i<os.length:=by rw[ah] at r;exact r
   rw[aj,aa d] at q;cases q;refine⟨_,rfl,_,rfl,lj,_,rfl,.inl (bP.of (f _ _ N)),rfl,rX _,_,rfl,?_⟩
   try dsimp only
   rw[er aF,zc,J _ (aQ d)];refine ko (λD=>?_) (λD=>?_)
   ·refine⟨_,rfl,?_⟩
    refine fQ a r f j ?_ ?_
    ·rw[ah]
     refine cS (aN (aX _ _) ?_);rw[bQ];lia
    ·rw[Eu d,ee D,jI]
   ·refine jX r f j ?_
    rw[Eu d,er D,bY]
  ·rintro M H3 f j rfl
   rw[ah,iX] at j;have I:=(l.trans u).trans f;exact k v os _ I ((l.trans u).free a) j o s
inductive Vu(K:af)(C:Addr)(vs:List V)(H:Hp)(Q:VK)(E:XK):Prop
 |mk (p ln lr:Addr) (ns:List Int) (rs:List R5) (i:Nat) (r:R5) (g:Nat) (z:Int):vs=[.ref p,.int i,.int g]->c7 K C H p ln lr ns rs->rs[i]?=some r->([1,2,4]:List Int)[g]?=some z->Q (.bl (!decide (Builtin.bitAnd r.e z=0))) H->Vu K C vs H Q E
theorem LD{t:Ad}(T:Txt K mg t):cz P w K mg base iM 1 t.pX t.ur ["self","rope","group"]  (Vu K t.bD):=by
 refine T.E3.F.kh K4 λH Q E G h=>?_
 ·obtain⟨p,y,f,ns,A,i,r,g,z,rfl,s,x,n,k⟩:=h
  obtain⟨⟨l,c⟩,B,C,a,m⟩:=id s;obtain⟨v,b,j⟩:=m.get (i:=i) (d:=r.D) (by rw[aj,x];rfl);obtain⟨q,e,u⟩:=Rep.yY (ns:=r.ns) j;subst e;refine⟨_,(oR (qE se (bw ZW (xT (xL (aY (pv 0) rfl) (pv 1)) aB) (xT (mJ rfl T.nP (v:=.ref t.ff) rfl) (pv 2))) aB)),?_⟩
  left
  refine⟨_,rfl,p,_,l,_,_,rfl,c,T.fJ,T.gR,rfl,_,rfl,f,_,_,_,rfl,rfl,bP.of a,eY b,?_⟩;refine⟨q,_,_,_,rfl,rfl,u,rfl,?_⟩;have o:([.int 1,.int 2,.int 4]:List V)[g]?=some (.int z):=by
   have e:([.int 1,.int 2,.int 4]:List V)=([1,2,4]:List Int).map V.int:=rfl;rw[e,aj,n];rfl
  refine⟨_,rfl,_,_,_,_,rfl,rfl,T.gv H,eY o,_,_,rfl,rfl,rfl,?_⟩;have e:decide (V.int (Builtin.bitAnd r.e z)=V.int 0)=decide (Builtin.bitAnd r.e z=0):=-_
  rw[e];exact k
inductive JY(K:af)(C:Addr)(vs:List V)(H:Hp)(Q:VK)(E:XK):Prop
 |mk (p ln lr:Addr) (ns:List Int) (rs:List R5) (i:Nat) (r:R5):vs=[.ref p,.int i]->c7 K C H p ln lr ns rs->rs[i]?=some r->Q (.int r.d) H->JY K C vs H Q E
theorem M5{t:Ad}(T:Txt K mg t):cz P w K mg base iM 2 t.sL t.xx ["town","rope"]  (JY K t.bD):=by
 refine T.Hf.F.kh MB λH Q E m h=>?_
 ·obtain⟨p,e,d,g,l,i,r,rfl,b,j,k⟩:=h
  obtain⟨⟨f,c⟩,_⟩:=id b;refine⟨_,(oR (xT (cM (pv 0) T.fJ T.zL (Dq T) m (gV (pv 1))) aB)),?_⟩
  left
  refine⟨_,rfl,p,f,_,rfl,c,rfl,_,rfl,p,e,d,g,l,i,r,rfl,b,j,λq a=>?_⟩;have a:cQ K H q r.vs:=a.elim cQ.of id;exact⟨q,_,_,_,rfl,rfl,a,rfl,k⟩
inductive HZ(K:af)(CT C NW:Addr)(vs:List V)(H:Hp)(Q:VK)(E:XK):Prop
 |mk (p tp lu ln lr:Addr) (ns:List Int) (rs:List R5) (ws:List (List Nat)) (i:Int):vs=[.ref p,.int i]->c7 K CT H tp ln lr ns rs->Qi C H p tp lu ws->ws.length=rs.length->(∀(j:Nat) w l H',i=(j:Int)->ws[j]?=some w->aG H H'->H l=none->H' l=some (.lst (bR w))->Q (.ref l) H')->(¬(0<=i/\i<rs.length)->E (.ref NW) none H)->HZ K CT C NW vs H Q E
theorem A0{t:Ad}(T:Txt K mg t):cz P w K mg base (EV P w) 1 t.gO t.iS ["self","rope"]  (HZ K t.bD t.c8 t.CZ):=by
 refine T.lV.F.Xb AX λH Q E G h=>?_
 ·obtain⟨p,C,A,I,J,L,rs,e,i,rfl,y,x,M,k,u⟩:=h
  obtain⟨⟨r,q⟩,a,f,D,n⟩:=id x;obtain⟨⟨v,m⟩,_⟩:=id y;refine⟨_,(aq (cE (jo (jD qX pR aB (pv 1) (aY (aY (pv 0) rfl) rfl))) (bJ (Mf rfl T.U7 T.U8 G.hd gF)) bz) (oR (fW ig (by rfl) T.sZ boot_list (gV (xL (aY (pv 0) rfl) (pv 1)))))),?_⟩
  left
  refine⟨_,rfl,_,_,rfl,rfl,_,rfl,?_⟩;by_cases o:0<=i
  case neg =>
   rw[gU o];exact eZ ⟨_,rfl,gB (u λz=>o z.1)⟩
  rw[fy o];refine gB ?_;refine⟨_,rfl,p,_,r,_,_,rfl,q,T.jk,T.nL,rfl,C,_,v,_,_,rfl,m,T.fJ,T.uB,rfl,_,_,rfl,rfl,_,rfl,?_⟩;by_cases g:i<(rs.length:Int)
  case neg =>
   rw[gU g];exact gB (u λz=>g z.2)
  rw[fy g];refine eZ ?_;obtain⟨j,rfl⟩:∃j:Nat,i=(j:Int):=⟨i.toNat,∅⟩;have B:j<e.length:=∅
  have b:e[j]?=some e[j]:=aa B;have c:a[j]?=some a[j]:=aa ∅;have d:FG (a.map V.ref) (j:Int)=some (.ref a[j]):=eY (by rw[aj,c];rfl);refine⟨_,rfl,p,_,r,_,_,rfl,q,T.jk,T.nM,rfl,_,rfl,A,_,_,_,rfl,rfl,bP.of f,d,a[j],_,rfl,.inl (bP.of (n j _ _ c b)),λl s=>?_⟩;exact k j _ l _ rfl b (aG.new s) s au
inductive QH(NG:Addr)(vs:List V)(H:Hp)(Q:VK)(E:XK):Prop
 |mk (g:Int):vs=[.int g]->(0<=g/\g<3->Q .fH H)->(¬(0<=g/\g<3)->E (.ref NG) none H)->QH NG vs H Q E
theorem tW{t:Ad}(T:Txt K mg t):cz P w K mg base (EV P w) 1 t.kW t.pH ["group"]  (QH t.AQ):=by
 refine T.eV.F.Xb G7 λH Q E d h=>?_
 ·obtain⟨g,rfl,k,c⟩:=h
  refine⟨_,(bJ (cE (jo (jD qX pR aB (pv 0) (lS T.iN (mJ rfl T.nP (v:=.ref t.ff) rfl)))) (bJ (Mf rfl T.Sf T.Sg d.hd gF)) bz)),?_⟩
  left
  refine⟨_,rfl,_,_,rfl,rfl,_,rfl,?_⟩;by_cases b:0<=g
  case neg =>
   rw[gU b];exact eZ ⟨_,rfl,gB (c λz=>b z.1)⟩
  rw[fy b];refine gB ?_;refine⟨_,_,rfl,.inr (T.gv H),_,_,rfl,rfl,_,rfl,?_⟩;by_cases a:g<3
  case neg =>
   have e:decide (g<((([.int 1,.int 2,.int 4]:List V).length:Nat):Int))=false:=gU a;rw[e];exact gB (c λz=>a z.2)
  have e:decide (g<((([.int 1,.int 2,.int 4]:List V).length:Nat):Int))=true:=fy a;rw[e];exact eZ (k ⟨b,a⟩)
inductive Vv(K:af)(CT C NG:Addr)(vs:List V)(H:Hp)(Q:VK)(E:XK):Prop
 |mk (p tp lu ln lr:Addr) (ns:List Int) (rs:List R5) (ws:List (List Nat)) (g:Int):vs=[.ref p,.int g]->c7 K CT H tp ln lr ns rs->Qi C H p tp lu ws->ws.length=rs.length->rs.length<=20->(∀r∈rs,1<=r.e/\r.e<=7)->(∀(gg:Nat) l H',g=(gg:Int)->gg<3->aG H H'->H l=none->H' l=some (.lst (bR (ze rs ws gg rs.length)))->Q (.ref l) H')->(¬(0<=g/\g<3)->E (.ref NG) none H)->Vv K CT C NG vs H Q E
theorem F0{t:Ad}(T:Txt K mg t):cz P w K mg base (EV P w) 2 t.jR t.nC ["self","group"]  (Vv K t.bD t.c8 t.AQ):=by
 refine T.sU.F.Xb yq λH Q E N h=>?_
 ·obtain⟨p,u,lu,Z,Y,ns,rs,d,g,rfl,U,X,ew,AZ,he,k,kx⟩:=h
  obtain⟨⟨C,v⟩,A,G,els,L⟩:=id X;obtain⟨⟨O,o⟩,_⟩:=id U;refine⟨_,(aq (fE (AB (tW T) (N.mono (!_)) rfl T.eV.g T.eV.F.kp T.eV.B .nil YG (gV (pv 1)))) (oR (gq (kO yq ["rope","group","self"] [none,some 1,some 0]) rfl (gA rfl T.jy (gV (aY (aY (pv 0) rfl) rfl))) (λ_ _ _ _=>by exact (gS 0 BP)) (λ_ _ _ _=>by exact (mP (PW.pt (Bs (RV K rfl (yL K (Gi K rfl (pv 2) rfl) (pv 0)) (λ_=>rfl)) (wN (wM (cM (Gi K rfl (pv 2) rfl) T.fJ T.E3 (LD T) N (nZ (pv 0) (pv 1))))))))) (λ_ _ _ _=>by exact (pv 0))))),?_⟩
  left
  refine⟨_,rfl,g,rfl,λhg=>?_,kx⟩;obtain⟨a,rfl⟩:∃a:Nat,g=(a:Int):=⟨g.toNat,∅⟩;have r:a<3:=∅
  obtain⟨z,S⟩:=agL r;refine⟨_,rfl,p,_,C,_,_,rfl,v,T.jk,T.nL,rfl,u,_,O,_,_,rfl,o,T.fJ,T.uB,rfl,_,rfl,(by show -(2^62)<=((rs.length:Nat):Int);lia),(by show ((rs.length:Nat):Int)<2^62;lia),λD c=>?_⟩;refine ir (n:=(((rs.length:Nat):Int)).toNat) (λi J _=>J=bR (ze rs d a i)) c Bx sj rfl ?_ ?_
  ·rintro i J R s b j rfl x H3 ⟨rfl,rfl⟩
   have y:i<rs.length:=by simpa using s
   have I:rs[i]?=some rs[i]:=aa y;have l:d[i]?=some d[i]:=aa ∅;have q:A[i]?=some A[i]:=aa ∅;have SY:(bR (ze rs d a i)).length<sizeLine:=by rw[ah];exact cS (by have:=OI rs d a i;lia)
   have M:isLive rs d a i=((!(d[i]).isEmpty)&&Qj (rs[i]).e a):=by unfold isLive;rw[I,l]
   refine⟨_,rfl,p,_,C,_,_,rfl,b _ _ v,T.jk,T.nM,rfl,_,rfl,lu,_,_,V.ref A[i],rfl,rfl,bP.of (b _ _ G),(by rw[gD];exact eY (by rw[aj,q];rfl)),?_⟩;refine⟨!(bR d[i]).isEmpty,?_,?_⟩
   ·exact .inl ⟨_,bP.of (b _ _ (L i _ _ q l)),rfl⟩
   cases f:d[i] with
   |nil =>
    refine eZ (jX s b j ?_);rw[zf,M,f];simp
   |cons y0 r0 =>
    refine gB ?_;refine⟨_,rfl,p,_,C,_,_,rfl,b _ _ v,T.jk,T.nL,rfl,u,O,_,rfl,b _ _ o,rfl,_,rfl,_,rfl,u,Z,Y,ns,rs,i,rs[i],a,z,(by show [V.ref u,V.int (0+(i:Int)),V.int (a:Nat)]=_;rw[gD]),U.mono b,I,S,_,rfl,?_⟩;have m:=he _ (aM I);rw[Uu m.1 m.2 S];cases W:Qj rs[i].e a with
    |true =>
     refine gB ⟨_,rfl,fQ c s b j SY ?_⟩;rw[zf,M,f,W,gD];exact (jI _ _).symm
    |false =>
     refine eZ (jX s b j ?_);rw[zf,M,f,W];simp
  ·rintro J R b j rfl
   exact k a D R rfl r b c (by rw[j,cy])
inductive QI(K:af)(vs:List V)(H:Hp)(Q:VK)(E:XK):Prop
 |mk (p C dx:Addr) (s:Int):vs=[.ref p,.int s]->H p=some (.ins C dx [])->Iq K C->dc K C "sender" -> Q .fH (upd H p (.ins C dx [("sender",.int s)]))->QI K vs H Q E
theorem wC{t:Ad}(T:Txt K mg t):cz P w K mg base iM 1 t.dY t.lz ["self","sender"]  (QI K):=by
 refine T.qB.F.kh DY λH Q E e h=>?_
 ·obtain⟨p,C,a,f,rfl,b,c,d,k⟩:=h
  refine⟨_,(bJ (fZ (pv 0) (pv 1) rfl)),?_⟩
  left
  exact⟨_,rfl,_,rfl,p,C,a,[],rfl,b,c,d,!_,k⟩
inductive M6(vs:List V)(H:Hp)(Q:VK)(E:XK):Prop
 |mk (p:Addr) (c:Int):vs=[.ref p,.int c]->Q (.bl false) H->M6  vs H Q E
theorem Ga{t:Ad}(T:Txt K mg t):cz P w K mg base iM 1 t.jN t.ni ["self","caller"]  M6:=by
 refine T.zJ.F.kh FL λH Q E a h=>?_
 ·obtain⟨p,c,rfl,k⟩:=h
  exact⟨_,oB,k⟩
inductive M7(vs:List V)(H:Hp)(Q:VK)(E:XK):Prop
 |mk (p:Addr):vs=[.ref p]->Q .fH H->M7  vs H Q E
theorem yF{t:Ad}(T:Txt K mg t):cz P w K mg base iM 1 t.gM t.nj ["self"]  M7:=by
 refine T.nH.F.kh FN λH Q E a h=>?_
 ·obtain⟨p,rfl,k⟩:=h
  exact⟨_,(oR iO),k⟩
inductive AR(K:af)(vs:List V)(H:Hp)(Q:VK)(E:XK):Prop
 |mk (p C dx:Addr) (s:Int):vs=[.ref p]->H p=some (.ins C dx [("sender",.int s)])->Iq K C->dc K C "sender" -> Q (.int s) H->AR K vs H Q E
theorem wD{t:Ad}(T:Txt K mg t):cz P w K mg base iM 1 t.gf t.lA ["self"]  (AR K):=by
 refine T.lH.F.kh DZ λH Q E e h=>?_
 ·obtain⟨p,C,a,f,rfl,b,c,d,k⟩:=h
  exact⟨_,(oR (aY (pv 0) rfl)),_,rfl,p,C,a,_,_,rfl,b,c,d,rfl,k⟩
inductive JZ(C:Addr)(vs:List V)(H:Hp)(Q:VK)(E:XK):Prop
 |mk (p dx:Addr) (s to:Int):vs=[.ref p,.int s,.int to]->H p=some (.ins C dx [])->(∀H',H' p=some (.ins C dx [("sender",.int s),("to",.int to)])->(∀b o,H b=some o->b≠p->H' b=some o)->Q .fH H')->JZ C vs H Q E
theorem Gb{t:Ad}(T:Txt K mg t):cz P w K mg base iM 2 t.jO t.nv ["self","sender","to"]  (JZ t.fY):=by
 refine T.zK.F.kh FO λH Q E g h=>?_
 ·obtain⟨p,a,f,i,rfl,d,k⟩:=h
  refine⟨_,(aq (fE (OJ (mJ rfl T.U5 (v:=.ref t.iJ) rfl) T.Ec (wC T) (g.mono (!_)) T.qB.B .nil mK (nZ (pv 0) (pv 1)))) (bJ (fZ (pv 0) (pv 2) rfl))),?_⟩
  left
  refine⟨rfl,_,rfl,_,rfl,p,t.fY,a,f,rfl,d,T.pL,T.sX,?_⟩;refine⟨_,rfl,_,rfl,p,t.fY,a,_,rfl,au,T.pL,T.xK,(by show 1<1000;decide),?_⟩;rw[dG (names:=["sender"]) rfl (by decide +kernel)];exact k _ au λb o e c=>by rw[aH c,aH c];exact e
inductive M8(C:Addr)(vs:List V)(H:Hp)(Q:VK)(E:XK):Prop
 |mk (p dx:Addr) (s to c:Int):vs=[.ref p,.int c]->H p=some (.ins C dx [("sender",.int s),("to",.int to)])->Q (.bl (decide (V.int c=V.int to))) H->M8 C vs H Q E
theorem Ia{t:Ad}(T:Txt K mg t):cz P w K mg base iM 1 t.kM t.o8 ["self","caller"]  (M8 t.fY):=by
 refine T.A6.F.kh G0 λH Q E d h=>?_
 ·obtain⟨p,a,e,f,c,rfl,b,k⟩:=h
  exact⟨_,(oR (qE uc (pv 1) (aY (pv 0) rfl))),_,rfl,_,rfl,p,_,a,_,_,rfl,b,T.pL,T.xK,rfl,rfl,k⟩
inductive M9(C:Addr)(vs:List V)(H:Hp)(Q:VK)(E:XK):Prop
 |mk (p dx:Addr) (s to:Int):vs=[.ref p]->H p=some (.ins C dx [("sender",.int s),("to",.int to)])->Q (.int to) H->M9 C vs H Q E
theorem Ib{t:Ad}(T:Txt K mg t):cz P w K mg base iM 1 t.kN t.pq ["self"]  (M9 t.fY):=by
 refine T.uZ.F.kh G1 λH Q E c h=>?_
 ·obtain⟨p,a,d,e,rfl,b,k⟩:=h
  exact⟨_,(oR (aY (pv 0) rfl)),_,rfl,p,_,a,_,_,rfl,b,T.pL,T.xK,rfl,k⟩
inductive Ew(C:Addr)(vs:List V)(H:Hp)(Q:VK)(E:XK):Prop
 |mk (p dx:Addr) (s to:Int):vs=[.ref p]->H p=some (.ins C dx [("sender",.int s),("to",.int to)])->Q (.int (s+to+1)) H->Ew C vs H Q E
theorem Gc{t:Ad}(T:Txt K mg t):cz P w K mg base iM 1 t.jP t.nA ["self"]  (Ew t.fY):=by
 refine T.sR.F.kh FP λH Q E c h=>?_
 ·obtain⟨p,a,d,e,rfl,b,k⟩:=h
  exact⟨_,(oR (bw fB (bw fB (aY (pv 0) rfl) (aY (pv 0) rfl)) aB)),_,rfl,p,_,a,_,_,rfl,b,T.pL,T.sX,rfl,_,rfl,p,_,a,_,_,rfl,b,T.pL,T.xK,rfl,_,_,rfl,rfl,_,_,rfl,rfl,k⟩
inductive Na(C:Addr)(vs:List V)(H:Hp)(Q:VK)(E:XK):Prop
 |mk (p dx:Addr) (s c:Int):vs=[.ref p,.int c]->H p=some (.ins C dx [("sender",.int s)])->Q (.bl (!decide (V.int c=V.int s))) H->Na C vs H Q E
theorem Ic{t:Ad}(T:Txt K mg t):cz P w K mg base iM 1 t.kP t.pC ["self","caller"]  (Na t.iW):=by
 refine T.A7.F.kh G2 λH Q E d h=>?_
 ·obtain⟨p,a,e,c,rfl,b,k⟩:=h
  exact⟨_,(oR (qE se (pv 1) (aY (pv 0) rfl))),_,rfl,_,rfl,p,_,a,_,_,rfl,b,T.xM,T.nK,rfl,rfl,k⟩
inductive QJ(C:Addr)(vs:List V)(H:Hp)(Q:VK)(E:XK):Prop
 |mk (p dx:Addr):vs=[.ref p]->H p=some (.ins C dx [])->(∀d H',H d=none->ql C H' p d []->(∀b o,H b=some o->b≠p->H' b=some o)->Q .fH H')->QJ C vs H Q E
theorem Ie{t:Ad}(T:Txt K mg t):cz P w K mg base iM 1 t.kK t.oZ ["self"]  (QJ t.eS):=by
 refine T.uX.F.kh GX λH Q E i h=>?_
 ·obtain⟨p,f,rfl,c,k⟩:=h
  refine⟨_,(bJ (fZ (pv 0) yW rfl)),?_⟩
  left
  refine λd a=>⟨_,rfl,p,t.eS,f,[],rfl,?_,T.xO,T.qc,!_,?_⟩
  ·rw[aH (aE c a)];exact c
  ·refine k d _ a ⟨⟨f,au⟩,?_⟩ λb o e g=>?_
   ·rw[aH (aE c a).symm];exact au
   ·rw[aH g,aH (aE e a)];exact e
inductive QK(C:Addr)(vs:List V)(H:Hp)(Q:VK)(E:XK):Prop
 |mk (p d:Addr) (ts:List T3) (h c r:Int):vs=[.ref p,.int h,.int c,.int r]->ql C H p d ts->ts.length<10000->(∀H',H' d=some (.dT (putK (ts.map fk) (keyOf h c) (.int r)))->(∀b o,H b=some o->b≠d->H' b=some o)->Q .fH H')->QK C vs H Q E
theorem Jd{t:Ad}(T:Txt K mg t):cz P w K mg base iM 1 t.mZ t.rF ["self","house","caller","rope"]  (QK t.eS):=by
 refine T.C0.F.kh IB λH Q E q h=>?_
 ·obtain⟨p,d,f,i,n,r,rfl,⟨⟨j,g⟩,c⟩,l,k⟩:=h
  refine⟨_,(bJ (KA (CG q) (aY (pv 0) rfl) (dU (nZ (pv 1) (pv 2))) (pv 3) rfl)),?_⟩
  left
  refine⟨_,rfl,_,rfl,p,t.eS,j,_,_,rfl,g,T.xO,T.qc,rfl,_,rfl,_,rfl,g8,λb a=>?_⟩;have m:d≠b:=aE c a;refine⟨d,_,rfl,Kz.t (k:=keyOf i n) (kvs:=f.map fk) (by rw[aH m];exact c) au (by rw[ah];exact Nat.lt_trans l (by show 10000<2^24;decide)),?_⟩;exact k _ au λx o e nx=>by rw[aH nx,aH (aE e a)];exact e
inductive QL(C:Addr)(vs:List V)(H:Hp)(Q:VK)(E:XK):Prop
 |mk (p d:Addr) (ts:List T3) (h c:Int):vs=[.ref p,.int h,.int c]->ql C H p d ts->(∀H',aG H H'->Q (((jK ts h c).map V.int).getD .fH) H')->QL C vs H Q E
theorem Je{t:Ad}(T:Txt K mg t):cz P w K mg base iM 1 t.m5 t.rG ["self","house","caller"]  (QL t.eS):=by
 refine T.C1.F.kh IC λH Q E l h=>?_
 ·obtain⟨p,d,m,a,f,rfl,⟨⟨i,g⟩,e⟩,k⟩:=h
  refine⟨_,(oR (T8 (CG l) (aY (pv 0) rfl) (dU (nZ (pv 1) (pv 2))) ⟨rfl,rfl,rfl,rfl⟩)),?_⟩
  left
  refine⟨_,rfl,p,t.eS,i,_,_,rfl,g,T.xO,T.qc,rfl,d,rfl,.inr ⟨_,.inl e⟩,_,rfl,_,rfl,g8,λb j=>?_⟩;have c:=aG.new (o:=.tup [.int a,.int f]) j;refine⟨_,AW.t (k:=keyOf a f) (c _ _ e) au,?_⟩;rw[sq];exact k _ c
inductive QM(K:af)(C:Addr)(vs:List V)(H:Hp)(Q:VK)(E:XK):Prop
 |mk (p d:Addr) (ts:List T3):vs=[.ref p]->ql C H p d ts->ts.length<2000->(∀l (qs:List Addr) (us:List T3) H',aG H H'->H l=none->H' l=some (.lst (qs.map V.ref))->fT K H' qs us->us.Perm ts->AG us->Q (.ref l) H')->QM K C vs H Q E
theorem Jf{t:Ad}(T:Txt K mg t):cz P w K mg base iM 1 t.m6 t.rH ["self"]  (QM K t.eS):=by
 refine T.xG.F.kh A4 λH Q E hr h=>?_
 ·obtain⟨p,d,j,rfl,⟨⟨dx,R⟩,D⟩,h64,k⟩:=h
  refine⟨_,(oR (cB CP T.Hq boot_sorted (gV (WV (gq (kO A4 ["noted","rope"] [none,none]) rfl (Uy (Z5 PySem.F.plainAttrs_dict PySem.F.slot_dict_items PySem.F.type_dict_items Ux (aY (pv 0) rfl))) (λ_ _ _ _=>by exact (KG K rfl (n:=2) rfl (i0 (gS 0 vQ) (i0 (gS 1 vQ) Ay)))) (λ_ _ _ _=>by exact mO) (λ_ _ _ _=>by exact (bw (UA K rfl) (pv 0) (dU (gV (pv 1)))))))))),?_⟩
  left
  refine⟨d,j.map fk,D,?_⟩;refine⟨_,rfl,p,t.eS,dx,_,_,rfl,R,T.xO,T.qc,rfl,?_⟩;refine⟨.inr (.inr (.inl ⟨rfl,.inr ⟨_,D⟩⟩)),d,_,rfl,rfl,D,λv hv=>?_⟩;have X:=aG.new (o:=GO v d) hv;have I:=au (H:=H) (a:=v) (o:=GO v d);have B:=X _ _ D;generalize upd H v (GO v d)=H1 at X I B;refine⟨v,d,_,rfl,I,B,λo=>?_⟩;intro C f;have g:=au (H:=H1) (a:=d) (o:=.Ax o (.dT (j.map fk)));have Z:∀{r:Hp},aG (upd H1 d (.Ax o (.dT (j.map fk)))) r->aG H (upd r d (.dT (j.map fk))):=λ{r} m b u e=>by
   by_cases z:b=d
   ·subst z
    rw[D] at e;cases e;exact au
   ·rw[aH z]
    exact m _ _ (by rw[aH z];exact X _ _ e)
  generalize upd H1 d (.Ax o (.dT (j.map fk)))=H2 at g Z f;refine ir (n:=(j.map fk).length) (λi ys r=>∃s:List Addr,ys=s.map V.ref/\fT K r s (j.take i)) f (aas g) (Uz g) ⟨[],rfl,fT.nil⟩ ?_ ?_
  ·rintro i ys r hi m U ⟨s,rfl,y⟩ x H4 ⟨q,kb,ky,vv,hq,rfl,rfl,G,J⟩
   have A:i<j.length:=by rw[ah] at hi;exact hi
   rw[aj,aa A] at G;cases G;generalize M:j[i]=u;have hu:j[i]?=some u:=by rw[aa A,M]
   obtain⟨W,Y,O⟩:=u;rw[M] at J;have u4:=aG.new (o:=.tup [.ref kb,.int O]) hq;refine⟨q,_,rfl,cQ.of au,rfl,_,_,rfl,_,_,rfl,rfl,?_⟩;refine⟨_,rfl,_,rfl,oH,λb hb=>?_⟩;have u5:=aG.new (o:=.tup [V.int O]) hb;refine⟨kb,b,[.int W,.int Y],_,rfl,rfl,cQ.of (u5 _ _ (u4 _ _ J)),cQ.of au,(-_),ia,λz=>(by cases z),λ_ c hc=>?_⟩;have u6:=aG.new (o:=.tup ([V.int W,.int Y]++[.int O])) hc;have S:=u4.trans (u5.trans u6);have L:=S _ _ U;have N:s.length=i:=by rw[y.1,bQ];lia
   refine fQ f hi (m.trans S) L (by rw[ah];exact KW ∅) ⟨s++[c],-_,?_⟩;rw[uI,hu];exact fT.past L sr cN (fT.snoc (t:=(W,Y,O)) (y.mono S) (cQ.of au))
  ·rintro ys r m U ⟨s,rfl,y⟩
   have Sq:C≠d:=(aE g f).symm;rw[ah,iX] at y;refine⟨o,m _ _ g,?_⟩;refine⟨C,s,j,rfl,bP.of (by rw[aH Sq];exact U),fT.past (m _ _ g) aau cN y,h64,λl A3 us N R hs M=>?_⟩;exact k l A3 us _ ((Z m).trans (aG.new N)) ((Z m).free N) au (M.mono (aG.new N)) R hs
inductive Nb(C:Addr)(vs:List V)(H:Hp)(Q:VK)(E:XK):Prop
 |mk (p d:Addr) (ts:List T3):vs=[.ref p]->ql C H p d ts->(∀d' H',H d'=none->ql C H' p d' []->(∀b o,H b=some o->b≠p->H' b=some o)->Q .fH H')->Nb C vs H Q E
theorem Ig{t:Ad}(T:Txt K mg t):cz P w K mg base iM 1 t.kL t.o6 ["self"]  (Nb t.eS):=by
 refine T.uY.F.kh GY λH Q E m h=>?_
 ·obtain⟨p,d,j,rfl,⟨⟨f,c⟩,l⟩,k⟩:=h
  refine⟨_,(bJ (fZ (pv 0) yW rfl)),?_⟩
  left
  refine λg a=>⟨_,rfl,p,t.eS,f,[("kept",.ref d)],rfl,?_,T.xO,T.qc,(by show 1<1000;decide),?_⟩
  ·rw[aH (aE c a)];exact c
  ·refine k g _ a ⟨⟨f,au⟩,?_⟩ λb o e i=>?_
   ·rw[aH (aE c a).symm];exact au
   ·rw[aH i,aH (aE e a)];exact e
inductive adD(K:af)(C:Addr)(vs:List V)(H:Hp)(Q:VK)(E:XK):Prop
 |mk (bk d lo lh:Addr) (ts:List T3) (so aU:Option Int) (kI:Int) (os hs:List Int):vs=[.ref bk,iE so,.int kI,iE aU,.ref lo,.ref lh]->ql C H bk d ts->bP K H lo (os.map V.int)->bP K H lh (hs.map V.int)->os.length<=1000->(∀l H',aG H H'->H l=none->H' l=some (.lst ((DB ts so kI aU os hs).map V.int))->Q (.ref l) H')->adD K C vs H Q E
theorem Nc{t:Ad}(T:Txt K mg t):cz P w K mg base iM 2 t.sJ t.xw ["book","sought","house","came","open_here","here"]  (adD K t.eS):=by
 refine T.G9.F.kh ug λH Q E hr h=>?_
 ·obtain⟨W,d,lo,lh,I,X,i,N,os,v,rfl,Y,D,hH,O,k⟩:=h
  refine⟨_,(aq (cE (jW rW (pv 1) (pv 5) (by with_unfolding_all rfl)) (oR (jq iP)) bz) (aq (sS 6 ug (yO (qT Oc (pv 1) iO) iO (cM (pv 0) T.xO T.C1 (Je T) hr (nZ (pv 2) (pv 1))))) (aq (sS 7 ug (yO (jW rW (pv 6) (pv 4) (by with_unfolding_all rfl)) (jq (gV (pv 6))) (pv 4))) (oR (gq (kO ug ["rope","came"] [none,some 3]) rfl (fV (pv 7)) (λ_ _ _ _=>by exact (gS 0 GZ)) (λ_ _ _ _=>by exact (mP (qT se (pv 0) (pv 1)))) (λ_ _ _ _=>by exact (pv 0))))))),?_⟩
  left
  obtain⟨dx,M⟩:=Y.ob;refine⟨_,rfl,_,rfl,lh,_,rfl,.inl hH,Ms X,oq v,_,rfl,?_⟩;cases X with
  |none =>
   refine EX (by show CD .fH _=false;exact CK v) ?_;refine⟨_,rfl,rfl,_,rfl,Uv (fy rfl) ?_⟩;refine⟨_,rfl,_,rfl,lo,_,rfl,.inl D,rfl,oq os,_,rfl,EX (by show CD .fH _=false;exact CK os) ?_⟩;refine⟨_,rfl,_,rfl,lo,rfl,⟨_,D⟩,λc a=>?_⟩;refine lO (gx i) a D O (λx m R S _ u A j=>?_) (λm u f=>k c m u a f);refine⟨_,rfl,_,rfl,mT x i,_,rfl,?_⟩;exact ko (λe=>⟨_,rfl,A _ (aG.refl _) e⟩) (λe=>j _ (aG.refl _) (neT e))
  |some p =>
   refine ko (λe=>?_) (λe=>?_)
   ·refine⟨bN _,λl q=>k l _ (aG.new q) q ?_⟩
    have U:p∈v:=by
     have e:CD (.int p) (v.map V.int)=true:=e;rw[mR] at e;exact g9 e
    show _=some (HO.lst (List.map V.int (if p∈v then [] else _)));rw[ee U];exact au
   ·have U:¬p∈v:=λz=>e (by show CD (.int p) (v.map V.int)=true;rw[mR];exact fy z)
    refine⟨_,rfl,rfl,_,rfl,EX (gU λz=>by cases z) ?_⟩;refine⟨_,rfl,W,dx,_,rfl,M,rfl,_,rfl,_,rfl,W,d,I,N,p,rfl,Y,λH1 y=>?_⟩;have n:∀l b,aG H b->H l=none->b l=some (.lst ((match jK I N p with
     |some r=>if r∈os then [r].filter (gx i) else os.filter (gx i)
     |none=>os.filter (gx i)).map V.int))->Q (.ref l) b:=λl b s q f=>k l b s q (by
     show _=some (HO.lst (List.map V.int (if p∈v then [] else _)));rw[er U];exact f)
    have g:=y.seq D;cases Z:jK I N p with
    |none =>
     rw[Z] at n;refine⟨_,rfl,_,rfl,lo,_,rfl,.inl g,rfl,oq os,_,rfl,EX (by show CD .fH _=false;exact CK os) ?_⟩;refine⟨_,rfl,_,rfl,lo,rfl,⟨_,g⟩,λc a=>?_⟩;refine lO (gx i) a g O (λx m R S _ u A j=>?_) (λm u f=>n c m (y.trans u) (y.free a) f);refine⟨_,rfl,_,rfl,mT x i,_,rfl,?_⟩;exact ko (λe=>⟨_,rfl,A _ (aG.refl _) e⟩) (λe=>j _ (aG.refl _) (neT e))
    |some r =>
     rw[Z] at n;dsimp only[Option.map_some,Option.getD_some];refine⟨_,rfl,_,rfl,lo,_,rfl,.inl g,rfl,oq os,_,rfl,ko (λC=>?_) (λC=>?_)⟩
     ·have B:r∈os:=by
       have C:CD (.int r) (os.map V.int)=true:=C;rw[mR] at C;exact g9 C
      have n:∀l b,aG H b->H l=none->b l=some (.lst (([r].filter (gx i)).map V.int))->Q (.ref l) b:=λl b s q f=>n l b s q (by
       show _=some (HO.lst (List.map V.int (if r∈os then _ else _)));rw[ee B];exact f)
      refine⟨_,rfl,oH,λG J=>?_⟩;have L:=aG.new (o:=.lst [V.int r]) J;have j:bP K (upd H1 G (.lst [V.int r])) G ([r].map V.int):=bP.of au;generalize upd H1 G (.lst [V.int r])=m at L j;refine⟨_,rfl,G,rfl,⟨_,j⟩,λc a=>?_⟩;refine lO (gx i) a j (by show 1<=1000;decide) (λx H3 R S _ s3 A j=>?_) (λH3 s3 f=>n c H3 (y.trans (L.trans s3)) (y.free (L.free a)) f);refine⟨_,rfl,_,rfl,mT x i,_,rfl,?_⟩;exact ko (λe=>⟨_,rfl,A _ (aG.refl _) e⟩) (λe=>j _ (aG.refl _) (neT e))
     ·have B:¬r∈os:=λz=>C (by show CD (.int r) (os.map V.int)=true;rw[mR];exact fy z)
      have n:∀l b,aG H b->H l=none->b l=some (.lst ((os.filter (gx i)).map V.int))->Q (.ref l) b:=λl b s q f=>n l b s q (by
       show _=some (HO.lst (List.map V.int (if r∈os then _ else _)));rw[er B];exact f)
      refine⟨_,rfl,_,rfl,lo,rfl,⟨_,g⟩,λc a=>?_⟩;refine lO (gx i) a g O (λx m R S _ u A j=>?_) (λm u f=>n c m (y.trans u) (y.free a) f);refine⟨_,rfl,_,rfl,mT x i,_,rfl,?_⟩;exact ko (λe=>⟨_,rfl,A _ (aG.refl _) e⟩) (λe=>j _ (aG.refl _) (neT e))
inductive J0(K:af)(C cL c1 cA:Addr)(vs:List V)(H:Hp)(Q:VK)(E:XK):Prop
 |mk (bk d la lo lh:Addr) (ts:List T3) (s to kd kI:Int) (aU:Option Int) (os hs:List Int):vs=[.ref bk,.ref la,.int kI,iE aU,.ref lo,.ref lh]->ql C H bk d ts->EY cL c1 cA H la s to kd->bP K H lo (os.map V.int)->bP K H lh (hs.map V.int)->os.length<=1000->hs.length<=1000->(∀p l1 l2 H',aG H H'->H p=none->H l1=none->H l2=none->l1≠l2->H' p=some (.tup [.ref l1,.ref l2])->H' l1=some (.lst ((hs.filter (DP s to kd)).map V.int))->H' l2=some (.lst ((DB ts (rC to kd) kI aU os hs).map V.int))->Q (.ref p) H')->J0 K C cL c1 cA vs H Q E
theorem Pr{t:Ad}(T:Txt K mg t):cz P w K mg base iM 3 t.vV t.AJ ["book","letter","house","came","open_here","here"]  (J0 K t.eS t.iJ t.fY t.iW):=by
 refine T.JM.F.kh BN λH Q E y h=>?_
 ·obtain⟨M,d,j,lo,G,C,I,A,kd,D,L,os,J,rfl,N,Z,U,z,X,Y,k⟩:=h
  refine⟨_,(aq (Bw (i:=6) BN.nd rfl (Or.inl rfl) (kO BN ["caller","letter"] [none,some 1]) rfl (fV (pv 5)) (λ_ _ _ _=>by exact (gS 0 ID)) (λ_ _ _ _=>by exact (mP (wM (DN (cM (pv 1) T.Hj T.zJ (Ga T) y (gV (pv 0))) (DN (cM (pv 1) T.pL T.A6 (Ia T) y (gV (pv 0))) (cM (pv 1) T.xM T.A7 (Ic T) y (gV (pv 0)))))))) (λ_ _ _ _=>by exact (pv 0))) (oR (dU (nZ (pv 6) (cG (Nc T) y T.G9 (SE (pv 0) (DN (kD (pv 1) T.Hj T.nH.m (yF T) (y.mono (!_)) T.nH.B .nil mK) (DN (kD (pv 1) T.pL T.uZ.m (Ib T) (y.mono (!_)) T.uZ.B .nil mK) (kD (pv 1) T.xM T.IL (yF T) (y.mono (!_)) T.nH.B .nil mK))) (pv 2) (pv 3) (pv 4) (pv 5))))))),?_⟩
  left
  refine⟨_,rfl,G,rfl,⟨_,z⟩,λr q=>?_⟩;refine lO (DP I A kd) q z Y (λx O R S _ b h1 W=>?_) (λO b hy=>?_)
  ·have s:=Z.mono b
   cases s with
   |bare c f =>
    exact .inl ⟨_,rfl,j,c,_,rfl,f,rfl,_,rfl,j,x,rfl,_,rfl,W _ (aG.refl _) rfl⟩
   |one c f =>
    refine .inr (.inl ⟨_,rfl,j,c,_,rfl,f,rfl,_,rfl,j,c,I,A,x,rfl,f,_,rfl,?_⟩);exact ko (λe=>⟨_,rfl,h1 _ (aG.refl _) e⟩) (λe=>W _ (aG.refl _) (neT e))
   |all c f =>
    refine .inr (.inr ⟨_,rfl,j,c,_,rfl,f,rfl,_,rfl,j,c,I,x,rfl,f,_,rfl,?_⟩);exact ko (λe=>⟨_,rfl,h1 _ (aG.refl _) e⟩) (λe=>W _ (aG.refl _) (neT e))
  ·have s:=Z.mono b
   have rest:∀g l,aG O l->O g=none->l g=some (.lst ((DB C (rC A kd) D L os J).map V.int))->2<=sizeLine/\∀p,l p=none->Q (.ref p) (upd l p (.tup [.ref r,.ref g])):=λg l n a v=>by
    refine⟨!_,λp hp=>?_⟩;have u:=aG.new (o:=.tup [V.ref r,.ref g]) hp;exact k p r g _ ((b.trans n).trans u) (b.free (n.free hp)) q (b.free a) (aE hy a) au (u _ _ (n _ _ hy)) (u _ _ v)
   refine⟨_,rfl,_,rfl,?_⟩;cases s with
   |bare c f =>
    exact .inl ⟨_,rfl,j,c,_,rfl,f,rfl,j,rfl,_,rfl,_,rfl,_,rfl,_,rfl,M,d,lo,G,C,none,L,D,os,J,rfl,N.mono b,b.seq U,b.seq z,X,λg l n a v=>rest g l n a v⟩
   |one c f =>
    exact .inr (.inl ⟨_,rfl,j,c,_,rfl,f,rfl,j,c,I,A,rfl,f,_,rfl,_,rfl,_,rfl,_,rfl,M,d,lo,G,C,some A,L,D,os,J,rfl,N.mono b,b.seq U,b.seq z,X,λg l n a v=>rest g l n a v⟩)
   |all c f =>
    exact .inr (.inr ⟨_,rfl,j,c,_,rfl,f,rfl,j,rfl,_,rfl,_,rfl,_,rfl,_,rfl,M,d,lo,G,C,none,L,D,os,J,rfl,N.mono b,b.seq U,b.seq z,X,λg l n a v=>rest g l n a v⟩)
inductive J1(K:af)(vs:List V)(H:Hp)(Q:VK)(E:XK):Prop
 |mk (a:Addr) (cs:List Int) (n:Nat):vs=[.ref a,.int n]->bP K H a (cs.map V.int)->1<=n->n<=10->(∀l H' (xs:List Int),aG H H'->H l=none->H' l=some (.lst (xs.map V.int))->xs.length=n->xs.Nodup->(∀x∈xs,0<=x)->Q (.ref l) H')->J1 K vs H Q E
theorem Pu{t:Ad}(T:Txt K mg t):cz P w K mg base iM 2 t.vZ t.AN ["_law_script","_law_size"]  (J1 K):=by
 refine T.JP.F.kh lU λH Q E N h=>?_
 ·obtain⟨a,cs,n,rfl,O,W,hn,k⟩:=h
  refine⟨_,(aq (sS 2 lU (jq iP)) (aq (fS (gA rfl T.jy (gV (pv 1))) (gT 3 lU) (aq (sS 4 lU (cG (gw T) N T.gy (nZ (pv 0) (bw fB aB (pv 3))))) (aq (sS 5 lU (bw dZ (bw fK (pv 4) aB) aB)) (aq (cE (qT uc (bw dZ (pv 4) aB) aB) (bJ (sS 5 lU (bw dZ (bw fK (pv 4) aB) (bw DF (bw Tr aB aB) aB)))) bz) (aq (LY PassesOwn.never (jW rW (pv 5) (pv 2) (by with_unfolding_all rfl)) (bJ (sS 5 lU (bw fB (pv 5) aB)))) (oE (pS be bh bg eE (pv 2) (gV (pv 5))))))))) (aq (cE (qT uc (bw dZ (bw fK (cG (gw T) N T.gy (nZ (pv 0) aB)) aB) aB) aB) (oR (Mt (pv 2) (wQ (acz ZX aB)))) bz) (oR (pv 2))))),?_⟩
  left
  refine⟨bN _,λl B=>?_⟩;refine⟨_,rfl,(n:Int),rfl,∅,∅,?_⟩;refine Az (n:=((n:Int)).toNat) (λi f m=>aG H m/\∃(d:List Int) (L A C:Option V),f=[some (.ref a),some (.int n),some (.ref l),L,A,C]/\m l=some (.lst (d.map V.int))/\d.length=i/\d.Nodup/\∀x∈d,0<=x)
   ⟨aG.new B,[],none,none,none,rfl,au,rfl,k8,λx g=>eL g (-_)⟩ ?_ ?_
  ·rintro i f m hi ⟨j,d,L,A,C,rfl,g,M,r,p⟩
   rw[gD];refine⟨_,rfl,_,rfl,_,_,rfl,rfl,a,cs,_,rfl,j.seq O,∅,?_⟩;dsimp only[iD];generalize cs.getD _ 0=c;refine⟨_,rfl,_,_,rfl,rfl,⟨!_,!_⟩,_,_,rfl,rfl,(by show (0:Int)<40;decide),?_⟩;dsimp only[iD];refine aal (λf G=>G=m/\∃z:Int,0<=z/\f=[some (.ref a),some (.int n),some (.ref l),some (.int (i:Nat)),some (.int c),some (.int z)]) ?_ λnx=>?_
   case refine_2 =>
    refine⟨_,rfl,_,_,rfl,rfl,(by show (0:Int)<3;decide),rfl,_,rfl,ko (λe=>?_) (λe=>?_)⟩
    ·exact⟨_,rfl,_,_,rfl,rfl,⟨!_,!_⟩,_,_,rfl,rfl,⟨!_,!_,!_⟩,_,_,rfl,rfl,_,_,rfl,rfl,(by show (0:Int)<10^(60:Int).toNat-20;decide),nx _ _ ⟨rfl,_,bU _ (!_),rfl⟩⟩
    ·exact nx _ _ ⟨rfl,_,bU _ (!_),rfl⟩
   rintro f G ⟨rfl,z,I,rfl⟩;refine To (λf D=>D=G/\∃x:Int,0<=x/\f=[some (.ref a),some (.int n),some (.ref l),some (.int (i:Nat)),some (.int c),some (.int x)])
    (λ(f:L2.St) (_:Hp)=>match f[5]? with|some (some (V.int x))=>above d x|_=>0) ⟨rfl,_,I,rfl⟩ ?_ ?_
   ·rintro f D ⟨rfl,x,J,rfl⟩
    refine⟨_,rfl,_,rfl,l,_,rfl,.inl (bP.of g),rfl,oq d,_,rfl,?_⟩
    try dsimp only
    rw[er aF,mR];refine ko (λc=>?_) (λc=>?_)
    ·have s:x∈d:=g9 c
     exact⟨_,rfl,_,_,rfl,rfl,⟨rfl,x+1,∅,rfl⟩,Uo s⟩
    ·have s:x∉d:=λz=>c (fy z)
     refine⟨_,rfl,.inl ⟨rfl,_,bP.of g⟩,_,rfl,l,_,_,rfl,rfl,g,?_,?_⟩
     ·rw[ah];exact cS ∅
     ·refine⟨j.out B,d++[x],_,_,_,rfl,?_,?_,Gr.BA r s,?_⟩
      ·rw[au,aT];rfl
      ·simp[M]
      ·intro y S
       rcases br.mp S with z|z
       ·exact p y z
       ·have:y=x:=by simpa using z
        rw[this];exact J
   ·rintro f D Q1 Q2 hq ⟨v,Z,u,X,q,ys,e3,e4,U,R,b,e7,e8⟩
    exact⟨v,Z,u,X,q,ys,e3,e4,U,R,b,e7,hq _ _ e8⟩
  ·rintro f m ⟨j,d,L,A,C,rfl,g,M,r,p⟩
   refine⟨_,rfl,a,cs,1,rfl,j.seq O,!_,_,_,rfl,rfl,⟨!_,!_⟩,_,_,rfl,rfl,(by show (0:Int)<2;decide),rfl,_,rfl,ko (λe=>?_) (λe=>?_)⟩
   ·refine⟨_,rfl,_,rfl,_,rfl,l,_,rfl,rfl,bP.of g,λY o=>?_⟩
    rw[<- List.map_reverse];exact k Y _ d.reverse (j.trans (aG.new o)) (j.free o) au (by rw[List.length_reverse];lia) ((List.reverse_perm d).nodup_iff.mpr r) λx g=>p x (List.mem_reverse.mp g)
   ·exact⟨_,rfl,k l m d j B g ∅ r p⟩
theorem Xs{x:Int}{g:Nat}(d:1<=x)(c:x<=7)(e:g<3):1<=Builtin.bitOr x (1*2^((g:Int)).toNat)/\Builtin.bitOr x (1*2^((g:Int)).toNat)<=7:=by
 have b:x=1∨x=2∨x=3∨x=4∨x=5∨x=6∨x=7:=∅
 have a:g=0∨g=1∨g=2:=∅
 rcases a with rfl|rfl|rfl <;> rcases b with rfl|rfl|rfl|rfl|rfl|rfl|rfl <;> decide +kernel
def Y5(K:af)(H:Hp)(l:Addr)(rs:List R5):Prop:=∃qs:List Addr,H l=some (.lst (qs.map V.ref))/\dF K H qs (rs.map R5.vs)
theorem dF.snoc{K:af}{H:Hp}{qs:List Addr}{xs:List (List V)}{q:Addr}{x:List V}(h:dF K H qs xs)(d:cQ K H q x):dF K H (qs++[q]) (xs++[x]):=by
 refine⟨by rw[av,av,h.len];rfl,λi a u b c=>?_⟩;by_cases z:i<qs.length
 ·rw[bM z] at b
  rw[bM (h.len▸z)] at c;exact h.at' i a u b c
 ·have e:i=qs.length:=by
   have:=(ai.mp b).1
   rw[av] at this
   have:i<qs.length+1:=this
   lia
  subst e;rw[mH] at b;rw[h.len,mH] at c;cases b;cases c;exact d
inductive J2(K:af)(vs:List V)(H:Hp)(Q:VK)(E:XK):Prop
 |mk (a:Addr) (cs:List Int) (n g:Nat):vs=[.ref a,.int n,.int g]->bP K H a (cs.map V.int)->1<=n->n<=10->g<3->(∀l H' (rs:List R5),aG H H'->H l=none->Y5 K H' l rs->rs.length<=14->(∀r∈rs,r.Ok n)->Q (.ref l) H')->J2 K vs H Q E
theorem Pw{t:Ad}(T:Txt K mg t):cz P w K mg base iM 2 t.wc t.AO ["_law_script","_law_size","_law_group"]  (J2 K):=by
 refine T.JQ.F.kh dJ λH Q E hr h=>?_
 ·obtain⟨a,cs,n,g,rfl,hS,hn1,hn,hg,k⟩:=h
  refine⟨_,(aq (sS 3 dJ (jq iP)) (aq (sS 4 dJ aB) (aq (cE (qT PY (pv 1) aB) (bJ (sS 4 dJ (bw fB (bw DF (pv 1) aB) (bw dZ (bw fK (cG (gw T) hr T.gy (nZ (pv 0) aB)) aB) aB)))) bz) (aq (fS (gA rfl T.jy (gV (pv 4))) (gT 5 dJ) (aq (sS 6 dJ (cG (gw T) hr T.gy (nZ (pv 0) (bw fB aB (pv 5))))) (aq (sS 7 dJ (bw dZ (bw fK (pv 6) aB) (pv 1))) (aq (sS 8 dJ (bw dZ (bw fB (bw fB (pv 7) aB) (bw dZ (bw fK (pv 6) aB) (bw DF (pv 1) aB))) (pv 1))) (aq (cE (qT pR (pv 5) (bw DF (pv 1) aB)) (aq (sS 7 dJ (bw fB (pv 5) aB)) (bJ (sS 8 dJ (bw dZ (bw fK (pv 6) aB) (bw fB (pv 5) aB))))) bz) (aq (sS 9 dJ (bw fK (pv 6) aB)) (aq (sS 10 dJ (bw fB aB (bw dZ (pv 9) aB))) (aq (cE (qT uc (bw dZ (bw fK (pv 9) aB) aB) aB) (bJ (sS 10 dJ (bw fB aB (bw dZ (bw fK (pv 9) aB) (bw DF (bw Tr aB aB) aB))))) bz) (aq (sS 11 dJ (bw fB aB (bw dZ (bw fK (pv 9) aB) aB))) (aq (cE (qT PY (bw dZ (bw fK (pv 9) aB) aB) aB) (bJ (sS 11 dJ (bw acC (pv 11) (bw ZV aB (pv 2))))) bz) (aq (cE (qT uc (bw dZ (pv 6) aB) aB) (bJ (ZP (i:=7) (j:=8) rfl dJ.nd rfl rfl (!_) rfl rfl (nZ (pv 8) (pv 7)) rfl)) bz) (oE (pS be bh bg eE (pv 3) (gV (dU (aN5 (pv 7) (pv 8) (pv 10) (bw fB aB (bw dZ (bw fK (pv 9) aB) aB)) (pv 11))))))))))))))))) (oR (pv 3)))))),?_⟩
  left
  refine⟨bN _,λl hl=>?_⟩;have s0:=aG.new (o:=.lst []) hl;have LP:=au (H:=H) (a:=l) (o:=.lst []);generalize upd H l (.lst [])=H0 at s0 LP;dsimp only[iD];refine bI λN hN=>?_;refine hN [some (.ref a),some (.int n),some (.int g),some (.ref l),some (.int 0),none,none,none,none,none,none,none] H0 ?_;refine oX (λd H1=>H1=H0/\∃m:Nat,m<=14/\(0<m->2<=n)/\d=[some (.ref a),some (.int n),some (.int g),some (.ref l),some (.int (m:Nat)),none,none,none,none,none,none,none]) ?_ λL nx=>?_
  case refine_2 =>
   refine⟨_,rfl,_,_,rfl,rfl,_,rfl,ko (λe=>?_) (λe=>?_)⟩
   ·have W:(1:Int)<n:=g9 e
    refine⟨_,rfl,_,_,rfl,rfl,_,rfl,a,cs,1,rfl,s0.seq hS,!_,_,_,rfl,rfl,⟨!_,!_⟩,_,_,rfl,rfl,(by show (0:Int)<6;decide),_,_,rfl,rfl,nx _ _ ?_⟩;generalize cs.getD _ 0/3=y;have q1:=bU y (show (6:Int)≠0 by decide);have q2:=ck y (show (0:Int)<6 by decide);refine⟨rfl,((n:Int)-1+y%6).toNat,∅,λ_=>∅,?_⟩;rw[Int.toNat_of_nonneg ∅];rfl
   ·exact nx _ _ ⟨rfl,0,∅,λz=>eL z (!_),rfl⟩
  rintro d H1 ⟨rfl,m,hm,W,rfl⟩;refine⟨_,rfl,(m:Int),rfl,∅,∅,?_⟩;refine BC (n:=((m:Int)).toNat) (λi d v=>aG H v/\∃(rs:List R5) (v5 Z v7 v8 J p f:Option V),d=[some (.ref a),some (.int n),some (.int g),some (.ref l),some (.int (m:Nat)),v5,Z,v7,v8,J,p,f]/\Y5 K v l rs/\rs.length=i/\∀r∈rs,r.Ok n)
   ⟨s0,[],_,_,_,_,_,_,_,rfl,⟨[],LP,⟨rfl,λi q x e=>by cases e⟩⟩,rfl,λr s=>eL s (-_)⟩ ?_ ?_
  ·rintro i d v Nf Gd hi ⟨M,rs,v5,Z,v7,v8,J,p,f,rfl,⟨qs,A,vH⟩,S,ok⟩
   rw[gD];have hi':i<m:=by simpa using hi
   have W:2<=n:=W ∅;refine bI λNx cD=>?_;refine⟨_,rfl,_,rfl,_,_,rfl,rfl,a,cs,_,rfl,M.seq hS,∅,?_⟩;dsimp only[iD];generalize cs.getD _ 0=c;refine cD _ _ ?_;obtain⟨o1,o2,o3,o4,o5⟩:=WL (n:=n) (x:=c/2) (y:=c/13) ∅;refine⟨_,rfl,_,_,rfl,rfl,⟨!_,!_⟩,_,rfl,_,_,rfl,rfl,(by show (0:Int)<n;lia),?_⟩;refine⟨_,rfl,_,_,rfl,rfl,_,rfl,_,_,rfl,rfl,⟨!_,!_⟩,_,rfl,_,_,rfl,rfl,_,_,rfl,rfl,(by show 0<(n:Int)-1;lia),_,_,rfl,rfl,_,rfl,_,_,rfl,rfl,(by show (0:Int)<n;lia),?_⟩;dsimp only[iD];refine oX (λd H3=>H3=v/\∃x y:Int,(0<=x/\x<n/\0<=y/\y<n/\x≠y)/\d=[some (.ref a),some (.int n),some (.int g),some (.ref l),some (.int (m:Nat)),some (.int (i:Nat)),some (.int c),some (.int x),some (.int y),J,p,f]) ?_ λL nx=>?_
   case refine_2 =>
    refine⟨_,rfl,_,rfl,_,_,rfl,rfl,_,_,rfl,rfl,_,rfl,ko (λe=>?_) (λe=>?_)⟩
    ·have e:(i:Int)<(n:Int)-1:=g9 e
     refine⟨_,rfl,_,_,rfl,rfl,?_⟩;refine⟨_,rfl,_,_,rfl,rfl,⟨!_,!_⟩,_,rfl,_,_,rfl,rfl,_,_,rfl,rfl,(by show (0:Int)<(i:Int)+1;lia),nx _ _ ⟨rfl,(i:Int)+1,c/2%((i:Int)+1),?_,rfl⟩⟩;have q1:=bU (c/2) (show (i:Int)+1≠0 by lia);have q2:=ck (c/2) (show (0:Int)<(i:Int)+1 by lia);lia
    ·exact nx _ _ ⟨rfl,_,_,⟨o1,o2,o3,o4,o5⟩,rfl⟩
   rintro d H3 ⟨rfl,x,y,⟨G,C,R,O,D⟩,rfl⟩;refine⟨_,rfl,_,_,rfl,rfl,⟨!_,!_⟩,?_⟩;dsimp only[iD];generalize c/97=rt;refine⟨_,rfl,_,_,rfl,rfl,(by show (0:Int)<3;decide),_,_,rfl,rfl,?_⟩;dsimp only[iD];refine oX (λd H4=>H4=H3/\∃z:Int,1<=z/\d=[some (.ref a),some (.int n),some (.int g),some (.ref l),some (.int (m:Nat)),some (.int (i:Nat)),some (.int c),some (.int x),some (.int y),some (.int rt),some (.int z),f]) ?_ λL nx=>?_
   case refine_2 =>
    refine⟨_,rfl,_,_,rfl,rfl,⟨!_,!_⟩,_,_,rfl,rfl,(by show (0:Int)<3;decide),rfl,_,rfl,ko (λe=>?_) (λe=>?_)⟩
    ·refine⟨_,rfl,_,_,rfl,rfl,⟨!_,!_⟩,_,_,rfl,rfl,⟨!_,!_,!_⟩,_,_,rfl,rfl,_,_,rfl,rfl,(by show (0:Int)<10^(60:Int).toNat-1;decide),_,_,rfl,rfl,nx _ _ ⟨rfl,_,?_,rfl⟩⟩
     have:=bU (rt/9) (show (10:Int)^(60:Int).toNat-1≠0 by decide)
     lia
    ·refine nx _ _ ⟨rfl,_,?_,rfl⟩
     have:=bU rt (show (3:Int)≠0 by decide)
     lia
   rintro d H4 ⟨rfl,z,hz,rfl⟩;refine⟨_,rfl,_,_,rfl,rfl,⟨!_,!_⟩,_,_,rfl,rfl,(by show (0:Int)<7;decide),_,_,rfl,rfl,?_⟩;dsimp only[iD];refine oX (λd Y=>Y=H4/\∃e:Int,1<=e/\e<=7/\d=[some (.ref a),some (.int n),some (.int g),some (.ref l),some (.int (m:Nat)),some (.int (i:Nat)),some (.int c),some (.int x),some (.int y),some (.int rt),some (.int z),some (.int e)]) ?_ λL nx=>?_
   case refine_2 =>
    have q1:=bU (rt/11) (show (7:Int)≠0 by decide);have q2:=ck (rt/11) (show (0:Int)<7 by decide);refine⟨_,rfl,_,_,rfl,rfl,⟨!_,!_⟩,_,_,rfl,rfl,(by show (0:Int)<4;decide),_,_,rfl,rfl,_,rfl,ko (λe=>?_) (λe=>?_)⟩
    ·have b:=Xs (x:=1+rt/11%7) ∅ ∅ hg
     exact⟨_,rfl,_,rfl,_,_,rfl,rfl,⟨∅,∅,!_⟩,_,_,rfl,rfl,nx _ _ ⟨rfl,_,b.1,b.2,rfl⟩⟩
    ·exact nx _ _ ⟨rfl,_,∅,∅,rfl⟩
   rintro d Y ⟨rfl,le,le1,le7,rfl⟩;refine oX (λd I=>aG Y I/\∃x y:Int,(0<=x/\x<n/\0<=y/\y<n/\x≠y)/\d=[some (.ref a),some (.int n),some (.int g),some (.ref l),some (.int (m:Nat)),some (.int (i:Nat)),some (.int c),some (.int x),some (.int y),some (.int rt),some (.int z),some (.int le)]) ?_ λL nx=>?_
   case refine_2 =>
    refine⟨_,rfl,_,_,rfl,rfl,(by show (0:Int)<2;decide),rfl,_,rfl,ko (λe=>?_) (λe=>?_)⟩
    ·exact⟨_,rfl,_,rfl,_,_,rfl,nx _ _ ⟨aG.refl _,y,x,⟨R,O,G,C,bL D⟩,rfl⟩⟩
    ·exact nx _ _ ⟨aG.refl _,x,y,⟨G,C,R,O,D⟩,rfl⟩
   rintro d I ⟨s6,x,y,⟨G,C,R,O,D⟩,rfl⟩;have U:=s6 _ _ A;refine⟨_,rfl,.inl ⟨rfl,_,bP.of U⟩,_,rfl,_,rfl,_,rfl,_,rfl,_,_,rfl,rfl,⟨!_,!_⟩,_,_,rfl,rfl,(by show (0:Int)<4;decide),_,_,rfl,rfl,_,rfl,aaN,λq hq=>?_⟩;have u7:=aG.new (o:=.tup [V.int x,.int y,.int z,.int (1+rt/5%4),.int le]) hq;have B:=au (H:=I) (a:=q) (o:=.tup [V.int x,.int y,.int z,.int (1+rt/5%4),.int le]);generalize upd I q (.tup [V.int x,.int y,.int z,.int (1+rt/5%4),.int le])=H7 at u7 B;have u:=s6.trans u7;have S1:=u _ _ A;have X:=vH.mono λb x=>u.dB;have q1:=bU (rt/5) (show (4:Int)≠0 by decide);have q2:=ck (rt/5) (show (0:Int)<4 by decide);refine⟨l,_,_,rfl,rfl,S1,(by rw[ah,vH.len,ah];exact cS ∅),?_⟩;refine Gd _ _ ⟨(M.trans u).out hl,rs++[⟨x,y,z,1+rt/5%4,le⟩],_,_,_,_,_,_,_,rfl,⟨qs++[q],?_,?_⟩,by rw[av,S];rfl,λr s=>?_⟩
   ·rw[au,aT];rfl
   ·rw[aT]
    exact (dF.snoc X (cQ.of B)).mono λb x=>cQ.past S1 sr cN
   ·rcases br.mp s with w'|w'
    ·exact ok r w'
    ·rw[bq.mp w']
     exact⟨G,C,R,O,D,hz,by show 1<=1+rt/5%4;lia,by show 1+rt/5%4<=4;lia,le1,le7⟩
  ·rintro d v ⟨M,rs,v5,Z,v7,v8,J,p,f,rfl,hR,S,ok⟩
   exact⟨_,rfl,k l v rs M hl hR (by rw[S];simpa using hm) ok⟩
theorem J3{K:af}{H:Hp}{l q:Addr}{qs:List Addr}{cl:List (Nat×Nat)}{pl a:Nat}(hl:H l=some (.lst (qs.map V.ref)))(d:dF K H qs (cl.map λc=>[.int c.1,.int c.2]))(e:H q=some (.tup [V.int pl,.int a])) :
 (upd H l (.lst (qs.map V.ref++[.ref q]))) l=some (.lst ((qs++[q]).map V.ref))/\dF K (upd H l (.lst (qs.map V.ref++[.ref q]))) (qs++[q]) ((cl++[(pl,a)]).map λc=>[.int c.1,.int c.2]):=by
 refine⟨by rw[au,aT];rfl,?_⟩;rw[aT];exact (dF.snoc d (cQ.of e)).mono λb x=>cQ.past hl sr cN
inductive Fy(K:af)(vs:List V)(H:Hp)(Q:VK)(E:XK):Prop
 |mk (a:Addr) (cs:List Int) (n g:Nat):vs=[.ref a,.int n,.int g]->bP K H a (cs.map V.int)->1<=n->n<=10->g<3->(∀l (qs:List Addr) H' (cl:List (Nat×Nat)),aG H H'->H l=none->H' l=some (.lst (qs.map V.ref))->dF K H' qs (cl.map λc=>[.int c.1,.int c.2])->1<=cl.length->cl.length<=20->(∀c∈cl,c.1<n/\c.2<3)->Q (.ref l) H')->Fy K vs H Q E
theorem LF{t:Ad}(T:Txt K mg t):cz P w K mg base iM 2 t.p9 t.uz ["_law_script","_law_size","_law_group"]  (Fy K):=by
 refine T.E7.F.kh jY λH Q E Z h=>?_
 ·obtain⟨a,cs,n,g,rfl,hS,hn1,hn,hg,k⟩:=h
  refine⟨_,(aq (sS 3 jY (jq iP)) (aq (sS 4 jY (xL (jq (Ir aB aB aB)) (bw dZ (bw fK (cG (gw T) Z T.gy (nZ (pv 0) aB)) aB) aB))) (aq (fS (gA rfl T.jy (gV (bw fB aB (bw dZ (bw fK (cG (gw T) Z T.gy (nZ (pv 0) aB)) aB) (pv 4))))) (gT 5 jY) (aq (sS 6 jY (bw fK (cG (gw T) Z T.gy (nZ (pv 0) (bw fB aB (bw dZ (pv 5) aB)))) (bw fB aB (bw Tq aB (bw fK (pv 5) aB))))) (aq (sS 7 jY (bw dZ (pv 6) (pv 1))) (bJ (cE (qT uc (bw dZ (bw fK (pv 6) aB) aB) aB) (oE (pS be bh bg eE (pv 3) (gV (dU (nZ (pv 7) (bw dZ (bw fB (bw fB (pv 2) aB) (bw dZ (bw fK (pv 6) aB) aB)) aB)))))) (oE (pS be bh bg eE (pv 3) (gV (dU (nZ (pv 7) (pv 2))))))))))) (oR (pv 3))))),?_⟩
  left
  refine⟨bN _,λl J=>?_⟩;have s0:=aG.new (o:=.lst []) J;have LP:=au (H:=H) (a:=l) (o:=.lst []);generalize upd H l (.lst [])=H0 at s0 LP;refine⟨ia,λW h1=>?_⟩;have u1:=aG.new (o:=.lst [V.int 6,V.int 6,V.int 20]) h1;have B:=au (H:=H0) (a:=W) (o:=.lst [V.int 6,V.int 6,V.int 20]);have A:=u1 _ _ LP;have I:=s0.trans u1;generalize upd H0 W (.lst [V.int 6,V.int 6,V.int 20])=H1 at u1 B A I;refine⟨_,rfl,a,cs,1,rfl,I.seq hS,!_,_,_,rfl,rfl,⟨!_,!_⟩,_,_,rfl,rfl,(by show (0:Int)<3;decide),?_⟩;obtain⟨u,hmo,U⟩:=agK (x:=6) (y:=6) (z:=20) (i:=cs.getD (1:Int).toNat 0/7%3) 1 20 (!_) (!_) (!_) (bU _ (!_)) (ck _ (!_));refine⟨W,_,_,_,rfl,rfl,bP.of B,U,?_⟩;dsimp only[iD];refine⟨_,rfl,a,cs,1,rfl,I.seq hS,!_,_,_,rfl,rfl,⟨!_,!_⟩,_,rfl,_,_,rfl,rfl,(by show 0<u;lia),_,_,rfl,rfl,?_⟩;have q1:=bU (cs.getD (1:Int).toNat 0/36) (show u≠0 by lia);have q2:=ck (cs.getD (1:Int).toNat 0/36) (show 0<u by lia);obtain⟨m,em⟩:∃m:Nat,1+cs.getD (1:Int).toNat 0/36%u=(m:Int):=⟨(1+cs.getD (1:Int).toNat 0/36%u).toNat,∅⟩;have hm1:1<=m:=∅
  have alT:m<=20:=∅
  refine⟨(m:Int),(by rw[<- em]),∅,∅,?_⟩;refine BC (n:=m) (λi σ p=>aG H p/\∃(G:List Addr) (cl:List (Nat×Nat)) (v5 Y v7:Option V),σ=[some (.ref a),some (.int n),some (.int g),some (.ref l),some (.int u),v5,Y,v7]/\p l=some (.lst (G.map V.ref))/\dF K p G (cl.map λc=>[.int c.1,.int c.2])/\cl.length=i/\∀c∈cl,c.1<n/\c.2<3)
   ⟨I,[],[],_,_,_,rfl,A,⟨rfl,λi q x e=>by cases e⟩,rfl,λc hc=>eL hc (-_)⟩ ?_ ?_
  ·rintro i σ p Nf Gd hi ⟨D,G,cl,v5,Y,v7,rfl,f,v,O,M⟩
   rw[gD];have e6:=bU (i:Int) (show (6:Int)≠0 by decide);have d6:0<=(i:Int)/6:=Int.ediv_nonneg ∅ (!_);have d6':(i:Int)/6<=20:=∅
   refine⟨_,rfl,_,rfl,_,_,rfl,rfl,(by show (0:Int)<6;decide),_,_,rfl,rfl,a,cs,_,rfl,D.seq hS,∅,_,rfl,_,_,rfl,rfl,⟨!_,!_⟩,_,_,rfl,rfl,.inl ⟨!_,!_⟩,_,_,rfl,rfl,_,_,rfl,rfl,⟨∅,∅⟩,?_⟩;dsimp only[iD];generalize cs.getD _ 0/(1+7*((i:Int)/6))=c;refine⟨_,rfl,_,rfl,_,_,rfl,rfl,(by show (0:Int)<n;lia),?_⟩;dsimp only[iD];have N:=bU c (show (n:Int)≠0 by lia);have L:=ck c (show (0:Int)<n by lia);obtain⟨r,X⟩:∃r:Nat,c%(n:Int)=(r:Int):=⟨(c%(n:Int)).toNat,∅⟩;rw[X];have C:r<n:=∅
   refine⟨_,rfl,_,_,rfl,rfl,⟨!_,!_⟩,_,_,rfl,rfl,(by show (0:Int)<4;decide),rfl,_,rfl,ko (λe=>?_) (λe=>?_)⟩
   ·have g1:=bU ((g:Int)+1+c/44%2) (show (3:Int)≠0 by decide)
    have g2:=ck ((g:Int)+1+c/44%2) (show (0:Int)<3 by decide);obtain⟨S,R⟩:∃S:Nat,((g:Int)+1+c/44%2)%3=(S:Int):=⟨(((g:Int)+1+c/44%2)%3).toNat,∅⟩;refine⟨_,rfl,.inl ⟨rfl,_,bP.of f⟩,_,rfl,_,rfl,_,_,rfl,rfl,_,rfl,_,_,rfl,rfl,⟨!_,!_⟩,_,_,rfl,rfl,(by show (0:Int)<2;decide),_,_,rfl,rfl,_,_,rfl,rfl,(by show (0:Int)<3;decide),g8,λq hq=>?_⟩;have s:=aG.new (o:=.tup [V.int r,.int (((g:Int)+1+c/44%2)%3)]) hq;have d:=au (H:=p) (a:=q) (o:=.tup [V.int r,.int (((g:Int)+1+c/44%2)%3)]);generalize upd p q (.tup [V.int r,.int (((g:Int)+1+c/44%2)%3)])=H3 at s d;rw[R] at d;have j:=s _ _ f;obtain⟨N,L⟩:=J3 (cl:=cl) j (v.mono λb x=>s.dB) d;refine⟨l,_,_,rfl,rfl,j,(by rw[ah,v.len,ah];exact cS ∅),Gd _ _ ⟨(D.trans s).out J,_,_,_,_,_,rfl,N,L,by rw[av,O];rfl,λz hz=>?_⟩⟩;rcases br.mp hz with w'|w'
    ·exact M z w'
    ·rw[bq.mp w']
     exact⟨C,by show S<3;lia⟩
   ·refine⟨_,rfl,.inl ⟨rfl,_,bP.of f⟩,_,rfl,_,rfl,g8,λq hq=>?_⟩
    have s:=aG.new (o:=.tup [V.int r,.int g]) hq;have d:=au (H:=p) (a:=q) (o:=.tup [V.int r,.int g]);generalize upd p q (.tup [V.int r,.int g])=H3 at s d;have j:=s _ _ f;obtain⟨N,L⟩:=J3 (cl:=cl) j (v.mono λb x=>s.dB) d;refine⟨l,_,_,rfl,rfl,j,(by rw[ah,v.len,ah];exact cS ∅),Gd _ _ ⟨(D.trans s).out J,_,_,_,_,_,rfl,N,L,by rw[av,O];rfl,λz hz=>?_⟩⟩;rcases br.mp hz with w'|w'
    ·exact M z w'
    ·rw[bq.mp w']
     exact⟨C,hg⟩
  ·rintro σ p ⟨D,G,cl,v5,Y,v7,rfl,f,v,O,M⟩
   exact⟨_,rfl,k l G p cl D J f v ∅ ∅ M⟩
inductive Ih(K:af)(CT C:Addr)(vs:List V)(H:Hp)(Q:VK)(E:XK):Prop
 |mk (p dx tp ln lr:Addr) (ns:List Int) (rs:List R5):vs=[.ref p,.ref tp]->H p=some (.ins C dx [])->c7 K CT H tp ln lr ns rs->rs.length<=20->(∀r∈rs,1<=r.d/\r.d<=4)->(∀lu (ls:List Addr) H',H lu=none->(∀l∈ls,H l=none)->lu∉ls->ls.Nodup->ls.length=rs.length->H' p=some (.ins C dx [("town",.ref tp),("upright",.ref lu)])->H' lu=some (.lst (ls.map V.ref))->(∀(j:Nat) l r,ls[j]?=some l->rs[j]?=some r->H' l=some (.lst (bR (aA r.d.toNat))))->(∀b o,H b=some o->b≠p->H' b=some o)->Q .fH H')->Ih K CT C vs H Q E
theorem Dr{t:Ad}(T:Txt K mg t):cz P w K mg base iM 3 t.iG t.jZ ["self","town"]  (Ih K t.bD t.c8):=by
 refine T.we.F.kh uh λH Q E hr h=>?_
 ·obtain⟨p,W,A,ln,lr,ns,rs,rfl,hp,hT,AZ,hw,k⟩:=h
  refine⟨_,(aq (fZ (pv 0) (pv 1) rfl) (bJ (fZ (pv 0) (gq (kO uh ["rope","town"] [none,some 1]) rfl (gA rfl T.jy (gV (aY (pv 1) rfl))) (λ_ _ _ _=>by exact (gS 0 zD)) (λ_ _ _ _=>by exact mO) (λ_ _ _ _=>by exact (fW (OA rfl) (by rfl) T.sZ boot_list (gV (fW Mc (by rfl) T.jy boot_range (gV (cG (M5 T) hr T.Hf (nZ (pv 1) (pv 0))))))))) rfl))),?_⟩
  left
  obtain⟨⟨dt,htp⟩,_⟩:=id hT;have Y6:A≠p:=vK htp hp λz=>by have:=(HO.ins.inj z).2.2;cases this
  refine⟨_,rfl,_,rfl,p,_,W,[],rfl,hp,T.jk,T.nL,!_,?_⟩;rw[dG (names:=[]) rfl rfl];generalize G:upd H p (.ins t.c8 W ([]++[(Str.ofString "town",V.ref A)]))=H1;have Z:∀b o,H b=some o->b≠p->H1 b=some o:=λb o e X=>by rw[<- G,aH X];exact e
  have y:H1 p=some (.ins t.c8 W [(Str.ofString "town",V.ref A)]):=by rw[<- G];exact au
  have I:=hT.but Z hp Y6;have f1:∀{l:Addr},H1 l=none->H l=none:=λ{l} e=>by
   cases q:H l with
   |none=>rfl
   |some o =>
    by_cases z:l=p
    ·rw[z,y] at e;cases e
    ·have:=Z _ _ q z
     rw[e] at this;cases this
  obtain⟨⟨dt,ag8⟩,_⟩:=id I;refine⟨_,rfl,A,_,dt,_,_,rfl,ag8,T.fJ,T.uB,rfl,_,rfl,(by show -(2^62)<=((rs.length:Nat):Int);lia),(by show ((rs.length:Nat):Int)<2^62;lia),λc a=>?_⟩;refine ir (n:=(((rs.length:Nat):Int)).toNat) (λi Y O=>∃f:List Addr,Y=f.map V.ref/\f.length=i/\f.Nodup/\(∀l∈f,H l=none/\O l≠none)/\∀(j:Nat) l r,f[j]?=some l->rs[j]?=some r->O l=some (.lst (bR (aA r.d.toNat)))/\l≠c) a Bx sj ⟨[],rfl,rfl,k8,λl s=>(by cases s),λj l r e=>by simp at e⟩ ?_ ?_
  ·rintro i Y O S B N ⟨f,rfl,u,nd,m,g⟩ x H3 ⟨rfl,rfl⟩
   have S:i<rs.length:=by simpa using S
   have So:rs[i]?=some rs[i]:=aa S;have wi:=hw _ (aM So);obtain⟨d,ed⟩:∃d:Nat,rs[i].d=(d:Int):=⟨rs[i].d.toNat,∅⟩;refine⟨_,rfl,_,rfl,A,ln,lr,ns,rs,i,rs[i],(by show [V.ref A,V.int (0+(i:Int))]=_;rw[gD]),I.mono B,So,?_⟩;refine⟨rs[i].d,rfl,λq hq=>?_⟩;have U:=aG.new (o:=.S4 0 rs[i].d) hq;refine⟨q,d,rfl,(by rw[au,ed]),∅,λl s=>?_⟩;have LP:H l=none:=f1 ((B.trans U).free s);have nl:l∉f:=λz=>(m l z).2 (U.free s);have M:=U.trans (aG.new (o:=.lst ((aA d).map λk=>V.int (k:Nat))) s);have Vo:=M _ _ N;have v:(upd (upd H3 q (.S4 0 rs[i].d)) l (.lst ((aA d).map λk=>V.int (k:Nat)))) l=some (.lst (bR (aA d))):=au;have Y7:l≠c:=(aE (U _ _ N) s).symm;generalize upd (upd H3 q (.S4 0 rs[i].d)) l (.lst ((aA d).map λk=>V.int (k:Nat)))=H4 at M Vo v;refine fQ a (by simpa using S) (B.trans M) Vo (by rw[ah,u];exact cS ∅) ⟨f++[l],by rw[aT];rfl,by rw[av,u];rfl,Gr.BA nd nl,λC hl'=>?_,λj C r D L=>?_⟩
   ·rcases br.mp hl' with z|z
    ·obtain⟨z1,R⟩:=m C z
     refine⟨z1,?_⟩;by_cases q:C=c
     ·rw[q,au];exact aS _
     ·rw[aH q]
      cases e:H3 C with
      |none=>exact eL e R
      |some o=>rw[M _ _ e];exact aS _
    ·rw[bq.mp z]
     exact⟨LP,by rw[aH Y7,v];exact aS _⟩
   ·rcases Gk D with D|⟨rfl,rfl⟩
    ·obtain⟨z1,R⟩:=g j C r D L
     exact⟨by rw[aH R];exact M _ _ z1,R⟩
    ·rw[u,So] at L
     cases L;rw[ed,cy];exact⟨by rw[aH Y7];exact v,Y7⟩
  ·rintro Y O B N ⟨f,rfl,u,nd,m,g⟩
   have u:f.length=rs.length:=by simpa using u
   have npa:p≠c:=aE y a;have J:=B _ _ y;refine⟨_,rfl,p,_,W,_,rfl,J,T.jk,T.nM,(by show 1<1000;decide),?_⟩;rw[dG (names:=["town"]) rfl (by decide +kernel)];refine k c f _ (f1 a) (λl s=>(m l s).1) (λz=>?_) nd u au (by rw[aH (bL npa)];exact N) (λj l r D L=>?_) λb o e X=>by rw[aH X];exact B _ _ (Z _ _ e X)
   ·obtain⟨j,hj⟩:=oi z
    have hjl:=(ai.mp hj).1;exact (g j c _ hj (aa (u▸hjl))).2 rfl
   ·have z:=(g j l r D L).1
    rw[aH (vK z J (by intro z;cases z))];exact z
inductive Fz(K:af)(C:Addr)(vs:List V)(H:Hp)(Q:VK)(E:XK):Prop
 |mk (tp ln lr:Addr) (ns:List Int) (rs:List R5):vs=[.ref tp]->c7 K C H tp ln lr ns rs->ns.length<=12->(∀l (qs:List Addr) H',aG H H'->H l=none->H' l=some (.lst (qs.map V.ref))->dF K H' qs (gH ns.length (yJ ns))->Q (.ref l) H')->Fz K C vs H Q E
theorem Jg{t:Ad}(T:Txt K mg t):cz P w K mg base iM 3 t.nh t.rN ["town"]  (Fz K t.bD):=by
 refine T.C6.F.kh A5 λH Q E G h=>?_
 ·obtain⟨v,A,z,ns,D,rfl,u,B,k⟩:=h
  refine⟨_,(oR (gq (kO A5 ["house","town"] [none,some 0]) rfl (gA rfl T.jy (gV (aY (pv 0) rfl))) (λ_ _ _ _=>by exact (gS 0 D9)) (λ_ _ _ _=>by exact mO) (λ_ _ _ _=>by exact (cG (HW T) G T.Eb (nZ (pv 1) (pv 0)))))),?_⟩
  left
  obtain⟨⟨y,p⟩,_⟩:=id u;refine⟨_,rfl,v,_,y,_,_,rfl,p,T.fJ,T.mC,rfl,(ns.length:Int),rfl,∅,∅,λm a=>?_⟩;refine ir (n:=((ns.length:Int)).toNat) (λi r g=>∃c:List Addr,r=c.map V.ref/\dF K g c (gH i (yJ ns))) a Bx sj ⟨[],rfl,⟨rfl,λi q x e=>by cases e⟩⟩ ?_ ?_
  ·rintro i r g f j l ⟨c,rfl,d⟩ x L ⟨rfl,rfl⟩
   have f:i<ns.length:=by simpa using f
   rw[gD];refine⟨_,rfl,_,rfl,v,A,z,ns,D,i,ns[i],rfl,u.mono j,aa f,λq J o C=>?_⟩;have s:=o _ _ l;have I:c.length=i:=by rw[d.len];simp[gH]
   refine fQ a (by simpa using f) (j.trans o) s (by rw[ah];exact cS ∅) ⟨c++[q],by rw[aT];rfl,?_⟩;have e:gH (i+1) (yJ ns)=gH i (yJ ns)++[cR ⟨ns[i],0,0,-1⟩]:=by
    unfold gH;rw[mF,aT,bO,List.map_nil];congr 3;unfold yJ;rw[az,aa f];rfl
   rw[e];exact (dF.snoc (d.mono λb x=>o.dB) C).mono λb x=>cQ.past s sr cN
  ·rintro r g j l ⟨c,rfl,d⟩
   rw[show ((ns.length:Int)).toNat=ns.length from rfl] at d;exact k m c g j a l d
inductive As(K:af)(C:Addr)(vs:List V)(H:Hp)(Q:VK)(E:XK):Prop
 |mk (tp ln lr lc:Addr) (ns:List Int) (rs:List R5) (qs:List Addr) (cl:List (Nat×Nat)):vs=[.ref tp,.ref lc]->c7 K C H tp ln lr ns rs->bP K H lc (qs.map V.ref)->dF K H qs (cl.map λc=>[.int c.1,.int c.2])->cl.length<=20->(∀c∈cl,c.1<ns.length/\c.2<3)->Q .fH H->As K C vs H Q E
theorem Ex{t:Ad}(T:Txt K mg t):cz P w K mg base iM 1 t.jc t.lG ["town","callers"]  (As K t.bD):=by
 refine T.yu.F.kh vU λH Q E R h=>?_
 ·obtain⟨B,M,L,l,ns,N,e,cl,rfl,I,m,u,O,s,k⟩:=h
  refine⟨_,(aq (cE (qT PY (lS T.iN (pv 1)) (mJ rfl T.Ho (v:=.int 20) ⟨_,rfl⟩)) dO bz) (bJ (fS (fV (pv 1)) (gT 2 vU) (aq (cE (qT se (lS T.iN (pv 2)) aB) dO bz) (aq (cE (jo (jD qX pR aB (xT (pv 2) aB) (aY (pv 0) rfl))) dO bz) (bJ (cE (jo (jD qX pR aB (xT (pv 2) aB) (lS T.iN (mJ rfl T.nP (v:=.ref t.ff) rfl)))) dO bz))))))),?_⟩
  left
  obtain⟨⟨C,p⟩,_⟩:=id I;have J:e.length=cl.length:=by rw[u.len,ah]
  refine⟨_,rfl,l,_,rfl,.inl m,_,_,rfl,rfl,_,rfl,EX (gU (by rw[ah];lia)) ?_⟩;refine⟨_,rfl,l,rfl,⟨_,m⟩,vL (K:=K) (a:=l) (xs:=e.map V.ref) (λi j c=>c=H/\∃r:Option V,j=[some (.ref B),some (.ref l),r]) ⟨rfl,_,rfl⟩ (λi j c _ z=>by rw[z.1];exact m) ?_ ?_⟩
  ·rintro i y j c o ⟨rfl,r,rfl⟩
   have b:=(ai.mp o).1;rw[ah] at b;have f:i<cl.length:=J▸b;have G:y=.ref e[i]:=by
    rw[aj,aa b] at o;exact (aK o).symm
   subst G;have d:cQ K c e[i] [.int cl[i].1,.int cl[i].2]:=u.at' i _ _ (aa b) (by rw[aj,aa f];rfl);obtain⟨A,x⟩:=s _ (aQ f);generalize e[i]=q at d;generalize cl[i]=cc at d A x;obtain⟨n,g⟩:=cc;refine⟨_,rfl,q,_,rfl,.inr d,rfl,_,rfl,EX (by show (!decide (V.int 2=V.int 2))=false;rw[fy rfl];rfl) ?_⟩;refine⟨_,rfl,q,_,_,_,rfl,rfl,d,rfl,_,_,rfl,rfl,_,rfl,?_⟩;rw[fy (show (0:Int)<=(n:Int) by lia)];refine gB ⟨_,rfl,B,_,C,_,_,rfl,p,T.fJ,T.mC,rfl,_,_,rfl,rfl,_,rfl,?_⟩;rw[fy (show (n:Int)<(ns.length:Int) by have:n<ns.length:=A;lia)];refine eZ ?_;refine⟨_,rfl,q,_,_,_,rfl,rfl,d,rfl,_,_,rfl,rfl,_,rfl,?_⟩;rw[fy (show (0:Int)<=(g:Int) by lia)];refine gB ⟨_,_,rfl,.inr (T.gv _),_,_,rfl,rfl,_,rfl,?_⟩;have D:decide ((g:Int)<((([.int 1,.int 2,.int 4]:List V).length:Nat):Int))=true:=fy (by show (g:Int)<3;have:g<3:=x;lia);rw[D];exact eZ ⟨rfl,_,rfl⟩
  ·rintro j c ⟨rfl,r,rfl⟩
   exact k
end
noncomputable abbrev nc(t:Ad):NC:=⟨t.cO,t.c8,t.eS,t.jd,t.iJ,t.fY,t.iW⟩
section
variable{P:Program}{w:World}{K:af}{mg:Str->Option Value}{base:Heap}
inductive J4(K:af)(CT:Addr)(c:NC)(vs:List V)(H:Hp)(Q:VK)(E:XK):Prop
 |mk (p dx tp ln lr lc:Addr) (ns:List Int) (rs:List R5) (qs:List Addr) (cl:List (Nat×Nat)):vs=[.ref p,.ref tp,.ref lc]->H p=some (.ins c.fC dx [])->c7 K CT H tp ln lr ns rs->ns.length<=12->rs.length<=20->(∀r∈rs,1<=r.d/\r.d<=4)->bP K H lc (qs.map V.ref)->dF K H qs (cl.map λc=>[.int c.1,.int c.2])->cl.length<=20->(∀c∈cl,c.1<ns.length/\c.2<3)->(∀F H',fG K c H' F p tp ns.length (S0 ns rs cl)->(∀b o,H b=some o->b≠p->H' b=some o)->(∀b,F b->b=p∨H b=none)->Q .fH H')->J4 K CT c vs H Q E
noncomputable abbrev nf(fs:List (Str×V))(k:Str)(v:V):List (Str×V):=fs++[(k,v)]
structure FA(K:af)(CT:Addr)(H:Hp)(tp ln lr lc:Addr)(ns:List Int)(rs:List R5)(qs:List Addr)(cl:List (Nat×Nat)):Prop where
 vP:c7 K CT H tp ln lr ns rs
 QN:bP K H lc (qs.map V.ref)
 tup:dF K H qs (cl.map λc=>[.int c.1,.int c.2])
theorem FA.mono{a c g f d:Addr}{H e:Hp}{ns:List Int}{rs:List R5}{qs:List Addr}{cl:List (Nat×Nat)}(h:FA K a H c g f d ns rs qs cl)(s:aG H e):FA K a e c g f d ns rs qs cl:=⟨h.vP.mono s,s.seq h.QN,h.tup.mono λb x=>s.dB⟩
theorem FA.put{g c f d i p C k:Addr}{H:Hp}{ns:List Int}{rs:List R5}{qs:List Addr}{cl:List (Nat×Nat)}{j:List (Str×V)}{o:HO}(h:FA K g H c f d i ns rs qs cl)(a:H p=some (.ins C k j))(n:c≠p):FA K g (upd H p o) c f d i ns rs qs cl :=
 ⟨h.vP.but (λb u e l=>by rw[aH l];exact e) a n,bP.past a UE cN h.QN,h.tup.mono λb x=>cQ.past a mS cN⟩
theorem wF(la:Nat->Addr)(i:Nat)(l:Addr):(aA (i+1)).map (λg=>V.ref (fD la i l g))=(aA i).map (λg=>V.ref (la g))++[.ref l]:=by
 rw[mF,aT,bO,List.map_nil,bS];congr 1;refine c6 λg a=>?_;rw[cZ (bE (dm.mp a))]
noncomputable def aaS(loc:Role->Addr)(acc:Addr)(la:Nat->Addr):Role->Addr
 |.zg=>acc
 |.rows g=>la g
 |r=>loc r
noncomputable def obR(ob:Role->Option HO)(la:Nat->Addr)(rq:Nat->List Addr)(i:Nat):Role->Option HO
 |.zg=>some (.lst ((aA i).map λg=>.ref (la g)))
 |.rows g=>if g<i then some (.lst ((rq g).map V.ref)) else none
 |r=>ob r
noncomputable def Xu(loc:Role->Addr)(acc:Addr)(lb ld:Nat->Addr):Role->Addr
 |.kq=>acc
 |.book g=>lb g
 |.fq g=>ld g
 |r=>loc r
noncomputable def LR(C:Addr)(ob:Role->Option HO)(Px lb ld:Nat->Addr)(i:Nat):Role->Option HO
 |.kq=>some (.lst ((aA i).map λg=>.ref (lb g)))
 |.book g=>if g<i then some (.ins C (Px g) [("kept",.ref (ld g))]) else none
 |.fq g=>if g<i then some (.dT []) else none
 |r=>ob r
noncomputable def adE(loc:Role->Addr)(acc:Addr)(lh:Nat->Addr):Role->Addr
 |.mU=>acc
 |.handed g=>lh g
 |r=>loc r
noncomputable def obH(ob:Role->Option HO)(lh:Nat->Addr)(i:Nat):Role->Option HO
 |.mU=>some (.lst ((aA i).map λg=>.ref (lh g)))
 |.handed g=>if g<i then some (.lst []) else none
 |r=>ob r
noncomputable def dxF(dx Vw:Addr)(Px:Nat->Addr):Role->Addr
 |.fC=>dx
 |.e9=>Vw
 |.book g=>Px g
 |_=>0
noncomputable def adF(p sp lu:Addr)(ls:List Addr)(acc:Addr)(la:Nat->Addr)(acb:Addr)(lb ld:Nat->Addr)(V6 Xv Xw:Addr)(lh:Nat->Addr)(acl kF:Addr):Role->Addr
 |.fC=>p
 |.e9=>sp
 |.iQ=>lu
 |.nY i=>ls.getD i 0
 |.zg=>acc
 |.rows g=>la g
 |.kq=>acb
 |.book g=>lb g
 |.fq g=>ld g
 |.aO=>V6
 |.groups=>Xv
 |.mU=>Xw
 |.handed i=>lh i
 |.cT=>acl
 |.lP=>kF
 |_=>0
theorem Jh{t:Ad}(T:Txt K mg t):cz P w K mg base iM 5 t.m8 t.rK ["self","town","callers"]  (J4 K t.bD (nc t)):=by
 refine T.C4.F.kh jh λH Q E hr h=>?_
 ·obtain⟨p,s,y,ln,lr,lc,ns,rs,qs,cl,rfl,hp,hT,h12,AZ,hw,hL,vH,Xx,hok,k⟩:=h
  refine⟨_,(aq (fE (cG (Ex T) hr T.yu (nZ (pv 1) (pv 2)))) (aq (fZ (pv 0) (pv 1) rfl) (aq (fZ (pv 0) (cI T.we (Dr T) hr T.Se (gV (pv 1))) rfl) (aq (fZ (pv 0) (gq (kO jh ["bit","town"] [none,some 1]) rfl (Ob (mJ rfl T.nP (v:=.ref t.ff) rfl)) (λ_ _ _ _=>by exact (gS 0 D4)) (λ_ _ _ _=>by exact mO) (λ_ _ _ _=>by exact (cG (Jg T) hr T.C6 (gV (pv 1))))) rfl) (aq (fZ (pv 0) (gq (kO jh ["bit"] [none]) rfl (Ob (mJ rfl T.nP (v:=.ref t.ff) rfl)) (λ_ _ _ _=>by exact (gS 0 D5)) (λ_ _ _ _=>by exact mO) (λ_ _ _ _=>by exact (TL T.uX.M (Ie T) (hr.mono (!_)) rfl T.aaH T.uX.B .nil mK))) rfl) (aq (fZ (pv 0) (gq (kO jh ["caller"] [none]) rfl (fV (pv 2)) (λ_ _ _ _=>by exact (gS 0 D6)) (λ_ _ _ _=>by exact mO) (λ_ _ _ _=>by exact (yT K (pv 0) aB))) rfl) (aq (fZ (pv 0) (gq (kO jh ["caller"] [none]) rfl (fV (pv 2)) (λ_ _ _ _=>by exact (gS 0 D7)) (λ_ _ _ _=>by exact mO) (λ_ _ _ _=>by exact (yT K (pv 0) aB))) rfl) (aq (fZ (pv 0) (gq (kO jh ["caller"] [none]) rfl (fV (pv 2)) (λ_ _ _ _=>by exact (gS 0 D8)) (λ_ _ _ _=>by exact mO) (λ_ _ _ _=>by exact (jq iP))) rfl) (aq (fZ (pv 0) (jq iP) rfl) (bJ (fZ (pv 0) (jq iP) rfl))))))))))),?_⟩
  left
  obtain⟨⟨dt,htp⟩,htn,vs,htr,_⟩:=id hT;have Y6:y≠p:=vK htp hp λz=>by have:=(HO.ins.inj z).2.2;cases this
  refine bI λNx L=>?_;refine⟨_,rfl,_,rfl,y,ln,lr,lc,ns,rs,qs,cl,rfl,hT,hL,vH,Xx,hok,L _ _ ?_⟩;have B0:FI H H p (λ_=>p) (λr=>if r=.fC then some (.ins t.cO s []) else none):=by
   refine⟨⟨λr o e=>?_,λr q h1 h2 _=>?_⟩,rfl,-_,λb o e _=>e,λb hb=>.inl ?_⟩
   ·by_cases z:r=.fC
    ·rw[ee z] at e;cases e;exact hp
    ·rw[er z] at e;cases e
   ·have g:∀{r:Role},(if r=Role.fC then some (HO.ins t.cO s []) else none)≠none->r=.fC:=λ{r} h=>by
     by_cases z:r=.fC
     ·exact z
     ·rw[er z] at h;exact eL rfl h
    rw[g h1,g h2]
   ·obtain⟨_,_,e⟩:=hb
    exact e.symm
  refine bI λNx L=>?_;refine⟨_,rfl,_,rfl,p,_,s,[],rfl,hp,T.bV,T.oG,!_,?_⟩;rw[dG (names:=[]) rfl rfl];refine L _ _ ?_;have B1:=B0.put (.ins t.cO s ([]++[(Str.ofString "town",V.ref y)]));have hT1:c7 K t.bD (upd H p (.ins t.cO s ([]++[(Str.ofString "town",V.ref y)]))) y ln lr ns rs:=hT.but (λb o e n=>by rw[aH n];exact e) hp Y6;have hp1:=au (H:=H) (a:=p) (o:=.ins t.cO s ([]++[(Str.ofString "town",V.ref y)]));have kq1:∀b x,cQ K H b x->cQ K (upd H p (.ins t.cO s ([]++[(Str.ofString "town",V.ref y)]))) b x:=λb x=>cQ.past hp mS cN;have hL1:=bP.past hp UE (cN (o:=.ins t.cO s ([]++[(Str.ofString "town",V.ref y)]))) hL;have aaU:=vH.mono kq1;generalize upd H p (.ins t.cO s ([]++[(Str.ofString "town",V.ref y)]))=H1 at B1 hT1 hp1 hL1 aaU;refine bI λNx L=>?_;refine⟨_,rfl,λI Vw nsp tw hne=>?_⟩;have t2:aG H1 (upd (upd H1 Vw (.own I)) I (.ins t.c8 Vw [])):=(aG.new tw).trans (aG.new (by rw[aH (bL hne)];exact nsp));refine⟨I,Vw,y,ln,lr,ns,rs,rfl,au,hT1.mono t2,AZ,hw,λlu J H2 hlu hls nlu nd el h2p h2u h2w kp=>⟨rfl,?_⟩⟩;have s2:aG H1 H2:=λb o e=>kp b o (t2 b o e) (aE e nsp);have adH:H1 lu=none:=t2.free hlu;have adI:∀l∈J,H1 l=none:=λl hl=>t2.free (hls l hl);have OS:wY H2 (WZ I lu J) (R6 t.c8 Vw y lu J (rs.map λr=>aA r.d.toNat)):=by
   refine aax h2p h2u (by rw[ah];exact el) (λi l w' e1 e2=>?_) nd nlu;rw[aj] at e2;cases e3:rs[i]? with
   |none=>rw[e3] at e2;cases e2
   |some r=>rw[e3] at e2;cases e2;exact h2w i l r e1 e3
  have B2:=B1.join OS rfl (λr m=>by
   cases r <;> first|exact eL rfl m|skip
   ·exact nsp
   ·exact adH
   ·rename_i i
    show H1 (J.getD i 0)=none;by_cases z:i<J.length
    ·rw[az,aa z]
     exact adI _ (aQ z)
    ·exact eL (show ((rs.map λr:R5=>aA r.d.toNat)[i]?.map λw=>HO.lst (bR w))=none by rw[fF (by rw[ah];lia)];rfl) m) s2
  have adJ:FA K t.bD H2 y ln lr lc ns rs qs cl:=⟨hT1.mono s2,s2.seq hL1,aaU.mono λb x=>s2.dB⟩;have hp2:=s2 _ _ hp1;refine⟨_,rfl,p,_,s,_,rfl,hp2,T.bV,T.u9,(by show 1<1000;decide),?_⟩;rw[dG (names:=["town"]) rfl (by decide +kernel)];refine L _ _ ?_;have B3:=B2.put (.ins t.cO s (([]++[(Str.ofString "town",V.ref y)])++[(Str.ofString "strands",V.ref I)]));have aaW:=adJ.put hp2 Y6 (o:=.ins t.cO s (([]++[(Str.ofString "town",V.ref y)])++[(Str.ofString "strands",V.ref I)]));have hp3:=au (H:=H2) (a:=p) (o:=.ins t.cO s (([]++[(Str.ofString "town",V.ref y)])++[(Str.ofString "strands",V.ref I)]));generalize upd H2 p (.ins t.cO s (([]++[(Str.ofString "town",V.ref y)])++[(Str.ofString "strands",V.ref I)]))=H3 at B3 aaW hp3;generalize ahc:(λr=>if (R6 t.c8 Vw y lu J (rs.map λr:R5=>aA r.d.toNat) r).isSome=true then WZ I lu J r else p)=Ii at B3;generalize za:(jr (λr=>if (R6 t.c8 Vw y lu J (rs.map λr:R5=>aA r.d.toNat) r).isSome=true then R6 t.c8 Vw y lu J (rs.map λr:R5=>aA r.d.toNat) r else jr (λr=>if r=.fC then some (.ins t.cO s []) else none) .fC (.ins t.cO s ([]++[(Str.ofString "town",V.ref y)])) r) .fC (.ins t.cO s (([]++[(Str.ofString "town",V.ref y)])++[(Str.ofString "strands",V.ref I)])))=ny at B3;refine bI λNx L=>?_;refine⟨_,rfl,⟨_,T.gv _⟩,λA hacc=>?_⟩;refine ir (n:=3) (λi ys X=>∃(U:Nat->Addr) (G:Nat->List Addr),ys=(aA i).map (λg=>.ref (U g))/\FI H X p (aaS Ii A U) (obR ny U G i)/\(∀g,g<i->dF K X (G g) (gH ns.length (yJ ns)))) hacc (OD (T.gv _)) (GL (T.gv _)) ?_ ?_ ?_
  ·refine⟨λ_=>0,λ_=>[],rfl,(B3.new hacc (r:=.zg) (!_) (.lst [])).ext (λr=>?_) (λr m=>?_),λg D=>eL D ∅⟩
   ·cases r <;> first|rfl|skip
    rename_i g;show ny (.rows g)=_;rw[show ny (.rows g)=none by rw[<- za];rfl];show none=(if g<0 then some (HO.lst (([]:List Addr).map V.ref)) else none);rw[er (rY g)]
   ·cases r <;> first|rfl|skip
    rename_i g;exact eL (show ny (.rows g)=none by rw[<- za];rfl) m
  ·rintro i ys X W sx O ⟨U,G,rfl,B,hR⟩ x H4 ⟨rfl,hx⟩
   refine⟨_,rfl,y,ln,lr,ns,rs,rfl,(aaW.mono sx).vP,h12,λl A3 H5 s5 hl h5 ht=>?_⟩;have hy5:=s5 _ _ O;have B5:=((B.add s5 hl h5 (r:=.rows i) (λz=>by cases z)).aaw (r:=.zg) (aS _) (λz=>by cases z) (.lst ((aA i).map (λg=>V.ref (U g))++[.ref l])));have vc:l≠A:=(aE O hl).symm;refine fQ hacc W (sx.trans s5) hy5 (by rw[ah,bB];exact cS ∅) ⟨fD U i l,fD G i A3,(wF U i l).symm,B5.ext (λr=>?_) (λr m=>?_),λg D=>?_⟩
   ·cases r <;> first|rfl|skip
    ·show some (HO.lst _)=some (HO.lst _)
     rw[wF]
    ·rename_i g
     show jr (obR ny U G i) (.rows i) _ (.rows g)=if g<i+1 then some (HO.lst ((fD G i A3 g).map V.ref)) else none
     by_cases z:g=i
     ·subst z
      rw[eF,ee ∅,bS]
     ·rw[dM (λe=>z (by cases e;rfl)),cZ z]
      show (if g<i then some (HO.lst ((G g).map V.ref)) else none)=_;by_cases z2:g<i
      ·rw[ee z2,ee ∅]
      ·rw[er z2,er ∅]
   ·cases r <;> first|rfl|skip
    rename_i g;show yI (aaS Ii A U) (.rows i) l (.rows g)=fD U i l g;by_cases z:g=i
    ·subst z
     rw[jg,bS]
    ·rw[jw (λe=>z (by cases e;rfl)),cZ z]
     rfl
   ·by_cases z:g=i
    ·subst z
     rw[bS];exact ht.mono λb x=>cQ.past hy5 sr cN
    ·rw[cZ z]
     exact ((hR g ∅).mono λb x=>s5.dB).mono λb x=>cQ.past hy5 sr cN
  rintro ys H4 s4 O ⟨U,G,rfl,B4,hR4⟩;have adM:=aaW.mono s4;have V3:=s4 _ _ hp3;refine⟨_,rfl,p,_,s,_,rfl,V3,T.bV,T.kr,(by show 2<1000;decide),?_⟩;rw[dG (names:=["town","strands"]) rfl (by decide +kernel)];refine L _ _ ?_;generalize eo5:HO.ins t.cO s ((([]++[(Str.ofString "town",V.ref y)])++[(Str.ofString "strands",V.ref I)])++[(Str.ofString "rows_by_group",V.ref A)])=o5;have B5:=B4.put o5;have aaX:=adM.put V3 Y6 (o:=o5);have hp5:=au (H:=H4) (a:=p) (o:=o5);have hR5:∀g,g<3->dF K (upd H4 p o5) (G g) (gH ns.length (yJ ns)):=λg D=>(hR4 g D).mono λb x=>cQ.past V3 mS cN;generalize upd H4 p o5=H5 at B5 aaX hp5 hR5;generalize adO:aaS Ii A U=Vx at B5;generalize aaY:jr (obR ny U G 3) .fC o5=Xy at B5;have n5:∀g,Xy .kq=none/\Xy (.book g)=none/\Xy (.fq g)=none:=λg=>by rw[<- aaY,<- za];exact⟨rfl,rfl,rfl⟩
  refine bI λNx L=>?_;refine⟨_,rfl,⟨_,T.gv _⟩,λC Xz=>?_⟩;refine ir (n:=3) (λi ys X=>∃(N ld Px:Nat->Addr),ys=(aA i).map (λg=>.ref (N g))/\FI H X p (Xu Vx C N ld) (LR t.eS Xy Px N ld i)) Xz (OD (T.gv _)) (GL (T.gv _)) ?_ ?_ ?_
  ·refine⟨λ_=>0,λ_=>0,λ_=>0,rfl,(B5.new Xz (r:=.kq) (λz=>by cases z) (.lst [])).ext (λr=>?_) (λr m=>?_)⟩
   ·cases r <;> first|rfl|skip
    ·rename_i g
     show Xy (.book g)=(if g<0 then some (HO.ins t.eS 0 [("kept",.ref 0)]) else none);rw[er (rY g)];exact (n5 g).2.1
    ·rename_i g
     show Xy (.fq g)=(if g<0 then some (HO.dT []) else none);rw[er (rY g)];exact (n5 g).2.2
   ·cases r <;> first|rfl|skip
    ·rename_i g
     exact eL (n5 g).2.1 m
    ·rename_i g
     exact eL (n5 g).2.2 m
  ·rintro i ys X W sx O ⟨N,ld,Px,rfl,B⟩ x H6 ⟨rfl,hx⟩
   refine λbp DC nbp ahg hne=>?_;have t6:aG H6 (upd (upd H6 DC (.own bp)) bp (.ins t.eS DC [])):=(aG.new ahg).trans (aG.new (by rw[aH (bL hne)];exact nbp));refine⟨bp,DC,rfl,au,λd H7 hd hB kp=>⟨rfl,?_⟩⟩;have s7:aG H6 H7:=λb o e=>kp b o (t6 b o e) (aE e nbp);have hd6:H6 d=none:=t6.free hd;obtain⟨⟨UG,h7b⟩,h7d⟩:=hB;have nbd:bp≠d:=OQ h7b h7d (λe=>by cases e);have sm:aG H6 (hide H7 d):=λb o e=>by
    have nb:b≠d:=aE e hd6;show (if b=d then none else H7 b)=some o;rw[er nb];exact s7 _ _ e
   have sm2:aG (hide H7 d) H7:=λb o e=>by
    have e:(if b=d then none else H7 b)=some o:=e;by_cases z:b=d
    ·rw[ee z] at e;cases e
    ·rw[er z] at e;exact e
   have hmb:(hide H7 d) bp=some (.ins t.eS UG [("kept",.ref d)]):=by
    show (if bp=d then none else H7 bp)=_;rw[er nbd];exact h7b
   have hmd:(hide H7 d) d=none:=ee rfl;have B1:=B.add sm nbp hmb (r:=.book i) (λz=>by cases z);have B2:=B1.add sm2 hmd h7d (r:=.fq i) (λz=>by cases z);have B3:=B2.aaw (r:=.kq) (aS _) (λz=>by cases z) (.lst ((aA i).map (λg=>V.ref (N g))++[.ref bp]));refine fQ Xz W (sx.trans s7) (s7 _ _ O) (by rw[ah,bB];exact cS ∅) ⟨fD N i bp,fD ld i d,fD Px i UG,(wF N i bp).symm,B3.ext (λr=>?_) (λr m=>?_)⟩
   ·cases r <;> first|rfl|skip
    ·show some (HO.lst _)=some (HO.lst _)
     rw[wF]
    ·rename_i g
     show jr (LR t.eS Xy Px N ld i) (.book i) _ (.book g)=if g<i+1 then some (HO.ins t.eS (fD Px i UG g) [("kept",.ref (fD ld i d g))]) else none
     by_cases z:g=i
     ·subst z
      rw[eF,ee ∅,bS,bS]
     ·rw[dM (λe=>z (by cases e;rfl)),cZ z,cZ z]
      show (if g<i then some (HO.ins t.eS (Px g) [("kept",.ref (ld g))]) else none)=_;by_cases z2:g<i
      ·rw[ee z2,ee ∅]
      ·rw[er z2,er ∅]
    ·rename_i g
     show jr (jr (LR t.eS Xy Px N ld i) (.book i) _) (.fq i) _ (.fq g)=if g<i+1 then some (HO.dT []) else none
     by_cases z:g=i
     ·subst z
      rw[eF,ee ∅];rfl
     ·rw[dM (λe=>z (by cases e;rfl))]
      show (if g<i then some (HO.dT []) else none)=_;by_cases z2:g<i
      ·rw[ee z2,ee ∅]
      ·rw[er z2,er ∅]
   ·cases r <;> first|rfl|skip
    ·rename_i g
     show yI (Xu Vx C N ld) (.book i) bp (.book g)=fD N i bp g;by_cases z:g=i
     ·subst z
      rw[jg,bS]
     ·rw[jw (λe=>z (by cases e;rfl)),cZ z]
      rfl
    ·rename_i g
     show yI (yI (Xu Vx C N ld) (.book i) bp) (.fq i) d (.fq g)=fD ld i d g;by_cases z:g=i
     ·subst z
      rw[jg,bS]
     ·rw[jw (λe=>z (by cases e;rfl)),cZ z]
      rfl
  rintro ys H6 s6 O ⟨N,ld,Px,rfl,B6⟩;have adP:=aaX.mono s6;have hR6:∀g,g<3->dF K H6 (G g) (gH ns.length (yJ ns)):=λg D=>(hR5 g D).mono λb x=>s6.dB;have hp6:=s6 _ _ hp5;subst eo5;refine⟨_,rfl,p,_,s,_,rfl,hp6,T.bV,T.qe,(by show 3<1000;decide),?_⟩;rw[dG (names:=["town","strands","rows_by_group"]) rfl (by decide +kernel)];refine L _ _ ?_;generalize eo7:HO.ins t.cO s (((([]++[(Str.ofString "town",V.ref y)])++[(Str.ofString "strands",V.ref I)])++[(Str.ofString "rows_by_group",V.ref A)])++[(Str.ofString "books",V.ref C)])=o7;have B7:=B6.put o7;have Py:=adP.put hp6 Y6 (o:=o7);have hp7:=au (H:=H6) (a:=p) (o:=o7);have hR7:∀g,g<3->dF K (upd H6 p o7) (G g) (gH ns.length (yJ ns)):=λg D=>(hR6 g D).mono λb x=>cQ.past hp6 mS cN;generalize upd H6 p o7=H7 at B7 Py hp7 hR7;have zb:(qs.map V.ref).length=cl.length:=by rw[ah,Py.tup.len,ah]
  have adR:∀{i:Nat} {x:V} {X:Hp},(qs.map V.ref)[i]?=some x->FA K t.bD X y ln lr lc ns rs qs cl->∃(W:i<cl.length) (q:Addr),x=.ref q/\cQ K X q [.int cl[i].1,.int cl[i].2]:=λ{i x X} hx ev=>by
   have W:=(ai.mp hx).1;rw[zb] at W;have hq:i<qs.length:=by rw[<- ah (f:=V.ref),zb];exact W
   refine⟨W,qs[i],?_,ev.tup.at' i _ _ (aa hq) (by rw[aj,aa W];rfl)⟩;rw[aj,aa hq] at hx;exact (aK hx).symm
  refine bI λNx L=>?_;refine⟨_,rfl,lc,rfl,⟨_,Py.QN⟩,λV6 aaZ=>?_⟩;refine Ql (λi=>cl[i]?.map λc=>V.int (c.1:Nat)) aaZ Py.QN ∅ (λi x X R S hx sx h1 h2=>?_) (λH8 s8 O=>?_)
  ·obtain⟨W,q,rfl,hq⟩:=adR hx (Py.mono sx)
   exact⟨_,rfl,q,_,_,_,rfl,rfl,hq,rfl,h1 _ _ (aG.refl _) (by rw[aa W];rfl)⟩
  rw[zb,GS] at O;have B8:=B7.add s8 aaZ O (r:=.aO) (λz=>by cases z);have adS:=Py.mono s8;have t8:=s8 _ _ hp7;subst eo7;refine⟨_,rfl,p,_,s,_,rfl,t8,T.bV,T.qg,(by show 4<1000;decide),?_⟩;rw[dG (names:=["town","strands","rows_by_group","books"]) rfl (by decide +kernel)];refine L _ _ ?_;generalize eo9:HO.ins t.cO s ((((([]++[(Str.ofString "town",V.ref y)])++[(Str.ofString "strands",V.ref I)])++[(Str.ofString "rows_by_group",V.ref A)])++[(Str.ofString "books",V.ref C)])++[(Str.ofString "homes",V.ref V6)])=o9;have B9:=B8.put o9;have Ss:=adS.put t8 Y6 (o:=o9);have hp9:=au (H:=H8) (a:=p) (o:=o9);have hR9:∀g,g<3->dF K (upd H8 p o9) (G g) (gH ns.length (yJ ns)):=λg D=>((hR7 g D).mono λb x=>s8.dB).mono λb x=>cQ.past t8 mS cN;generalize upd H8 p o9=H9 at B9 Ss hp9 hR9;refine bI λNx L=>?_;refine⟨_,rfl,lc,rfl,⟨_,Ss.QN⟩,λXv aa0=>?_⟩;refine Ql (λi=>cl[i]?.map λc=>V.int (c.2:Nat)) aa0 Ss.QN ∅ (λi x X R S hx sx h1 h2=>?_) (λUb VY O=>?_)
  ·obtain⟨W,q,rfl,hq⟩:=adR hx (Ss.mono sx)
   exact⟨_,rfl,q,_,_,_,rfl,rfl,hq,rfl,h1 _ _ (aG.refl _) (by rw[aa W];rfl)⟩
  rw[zb,GS] at O;have B10:=B9.add VY aa0 O (r:=.groups) (λz=>by cases z);have Y8:=Ss.mono VY;have XA:=VY _ _ hp9;subst eo9;refine⟨_,rfl,p,_,s,_,rfl,XA,T.bV,T.nN,(by show 5<1000;decide),?_⟩;rw[dG (names:=["town","strands","rows_by_group","books","homes"]) rfl (by decide +kernel)];refine L _ _ ?_;generalize ahm:HO.ins t.cO s (((((([]++[(Str.ofString "town",V.ref y)])++[(Str.ofString "strands",V.ref I)])++[(Str.ofString "rows_by_group",V.ref A)])++[(Str.ofString "books",V.ref C)])++[(Str.ofString "homes",V.ref V6)])++[(Str.ofString "groups",V.ref Xv)])=nR;have YI:=B10.put nR;have QO:=Y8.put XA Y6 (o:=nR);have aa1:=au (H:=Ub) (a:=p) (o:=nR);have aa2:∀g,g<3->dF K (upd Ub p nR) (G g) (gH ns.length (yJ ns)):=λg D=>((hR9 g D).mono λb x=>VY.dB).mono λb x=>cQ.past XA mS cN;generalize upd Ub p nR=lC at YI QO aa1 aa2;generalize aa3:yI (yI (Xu Vx C N ld) .aO V6) .groups Xv=Y9 at YI;generalize Za:jr (jr (jr (jr (jr (LR t.eS Xy Px N ld 3) .fC _) .aO _) .fC _) .groups _) .fC nR=Vy at YI;have n11:∀g,Vy .mU=none/\Vy (.handed g)=none:=λg=>by rw[<- Za,<- aaY,<- za];exact⟨rfl,rfl⟩
  refine bI λNx L=>?_;refine⟨_,rfl,lc,rfl,⟨_,QO.QN⟩,λXw Sq=>?_⟩;refine ir (n:=(qs.map V.ref).length) (λi ys X=>∃Y:Nat->Addr,ys=(aA i).map (λg=>.ref (Y g))/\FI H X p (adE Y9 Xw Y) (obH Vy Y i)) Sq (DL QO.QN) (vM QO.QN) ?_ ?_ ?_
  ·refine⟨λ_=>0,rfl,(YI.new Sq (r:=.mU) (λz=>by cases z) (.lst [])).ext (λr=>?_) (λr m=>?_)⟩
   ·cases r <;> first|rfl|skip
    rename_i g;show Vy (.handed g)=(if g<0 then some (HO.lst []) else none);rw[er (rY g)];exact (n11 g).2
   ·cases r <;> first|rfl|skip
    rename_i g;exact eL (n11 g).2 m
  ·rintro i ys X W sx O ⟨Y,rfl,B⟩ x V7 ⟨rfl,hx⟩
   refine⟨bN _,λl hl=>?_⟩;have u:=aG.new (o:=.lst []) hl;have B3:=(B.new hl (r:=.handed i) (λz=>by cases z) (.lst [])).aaw (r:=.mU) (aS _) (λz=>by cases z) (.lst ((aA i).map (λg=>V.ref (Y g))++[.ref l]));refine fQ Sq W (sx.trans u) (u _ _ O) (by rw[ah,bB];exact cS ∅) ⟨fD Y i l,(wF Y i l).symm,B3.ext (λr=>?_) (λr m=>?_)⟩
   ·cases r <;> first|rfl|skip
    ·show some (HO.lst _)=some (HO.lst _)
     rw[wF]
    ·rename_i g
     show jr (obH Vy Y i) (.handed i) _ (.handed g)=if g<i+1 then some (HO.lst []) else none
     by_cases z:g=i
     ·subst z
      rw[eF,ee ∅]
     ·rw[dM (λe=>z (by cases e;rfl))]
      show (if g<i then some (HO.lst []) else none)=_;by_cases z2:g<i
      ·rw[ee z2,ee ∅]
      ·rw[er z2,er ∅]
   ·cases r <;> first|rfl|skip
    rename_i g;show yI (adE Y9 Xw Y) (.handed i) l (.handed g)=fD Y i l g;by_cases z:g=i
    ·subst z
     rw[jg,bS]
    ·rw[jw (λe=>z (by cases e;rfl)),cZ z]
     rfl
  rintro ys V7 s12 O ⟨Y,rfl,B12⟩;rw[zb] at B12;have adU:∀g,g<3->dF K V7 (G g) (gH ns.length (yJ ns)):=λg D=>(aa2 g D).mono λb x=>s12.dB;have aa4:=s12 _ _ aa1;subst ahm;refine⟨_,rfl,p,_,s,_,rfl,aa4,T.bV,T.C7,(by show 6<1000;decide),?_⟩;rw[dG (names:=["town","strands","rows_by_group","books","homes","groups"]) rfl (by decide +kernel)];refine L _ _ ?_;generalize aho:HO.ins t.cO s ((((((([]++[(Str.ofString "town",V.ref y)])++[(Str.ofString "strands",V.ref I)])++[(Str.ofString "rows_by_group",V.ref A)])++[(Str.ofString "books",V.ref C)])++[(Str.ofString "homes",V.ref V6)])++[(Str.ofString "groups",V.ref Xv)])++[(Str.ofString "handed",V.ref Xw)])=OV;have B13:=B12.put OV;have aa5:=au (H:=V7) (a:=p) (o:=OV);have aa6:∀g,g<3->dF K (upd V7 p OV) (G g) (gH ns.length (yJ ns)):=λg D=>(adU g D).mono λb x=>cQ.past aa4 mS cN;generalize upd V7 p OV=YC at B13 aa5 aa6;refine bI λNx L=>?_;refine⟨bN _,λZ aa7=>?_⟩;have B14:=B13.new aa7 (r:=.cT) (λz=>by cases z) (.lst []);have u14:=aG.new (o:=.lst []) aa7;have XC:=u14 _ _ aa5;have aa8:∀g,g<3->dF K (upd YC Z (.lst [])) (G g) (gH ns.length (yJ ns)):=λg D=>(aa6 g D).mono λb x=>u14.dB;generalize upd YC Z (.lst [])=k9 at B14 XC aa8;subst aho;refine⟨_,rfl,p,_,s,_,rfl,XC,T.bV,T.eX,(by show 7<1000;decide),?_⟩;rw[dG (names:=["town","strands","rows_by_group","books","homes","groups","handed"]) rfl (by decide +kernel)];refine L _ _ ?_;generalize ahs:HO.ins t.cO s (((((((([]++[(Str.ofString "town",V.ref y)])++[(Str.ofString "strands",V.ref I)])++[(Str.ofString "rows_by_group",V.ref A)])++[(Str.ofString "books",V.ref C)])++[(Str.ofString "homes",V.ref V6)])++[(Str.ofString "groups",V.ref Xv)])++[(Str.ofString "handed",V.ref Xw)])++[(Str.ofString "letters",V.ref Z)])=Nn;have B15:=B14.put Nn;have adV:=au (H:=k9) (a:=p) (o:=Nn);have adW:∀g,g<3->dF K (upd k9 p Nn) (G g) (gH ns.length (yJ ns)):=λg D=>(aa8 g D).mono λb x=>cQ.past XC mS cN;generalize upd k9 p Nn=X7 at B15 adV adW;refine⟨bN _,λkF adX=>?_⟩;have B16:=B15.new adX (r:=.lP) (λz=>by cases z) (.lst []);have u16:=aG.new (o:=.lst []) adX;have aba:=u16 _ _ adV;have adY:∀g,g<3->dF K (upd X7 kF (.lst [])) (G g) (gH ns.length (yJ ns)):=λg D=>(adW g D).mono λb x=>u16.dB;generalize upd X7 kF (.lst [])=Zb at B16 aba adY;subst ahs;refine⟨_,rfl,p,_,s,_,rfl,aba,T.bV,T.nO,(by show 8<1000;decide),?_⟩;rw[dG (names:=["town","strands","rows_by_group","books","homes","groups","handed","letters"]) rfl (by decide +kernel)];generalize aht:HO.ins t.cO s ((((((((([]++[(Str.ofString "town",V.ref y)])++[(Str.ofString "strands",V.ref I)])++[(Str.ofString "rows_by_group",V.ref A)])++[(Str.ofString "books",V.ref C)])++[(Str.ofString "homes",V.ref V6)])++[(Str.ofString "groups",V.ref Xv)])++[(Str.ofString "handed",V.ref Xw)])++[(Str.ofString "letters",V.ref Z)])++[(Str.ofString "copies",V.ref kF)])=o17;have B17:=B16.put o17;have adZ:∀g,g<3->dF K (upd Zb p o17) (G g) (gH ns.length (yJ ns)):=λg D=>(adY g D).mono λb x=>cQ.past aba mS cN;generalize upd Zb p o17=Zc at B17 adZ;subst aht Za aa3 aaY adO za ahc;have hws:(rs.map λr:R5=>aA r.d.toNat).length=J.length:=by rw[ah];exact el.symm
  have ahv:J.map V.ref=(aA (rs.map λr:R5=>aA r.d.toNat).length).map λi=>V.ref (J.getD i 0):=by
   rw[hws];refine List.ext_getElem (-_) λi h1 h2=>?_;simp at h1;simp[h1]
  have YF:FI H Zc p (adF p I lu J A U C N ld V6 Xv Xw Y Z kF) (desc (nc t) (dxF s Vw Px) y (adF p I lu J A U C N ld V6 Xv Xw Y Z kF) ⟨G,λ_=>[],[]⟩ (S0 ns rs cl)):=by
   refine B17.ext (λr=>?_) (λr m=>?_)
   ·cases r <;> first|rfl|skip
    case iQ =>
     show some (HO.lst (J.map V.ref))=some (HO.lst ((aA (rs.map λr:R5=>aA r.d.toNat).length).map λi=>V.ref (J.getD i 0)));rw[<- ahv]
    case nY j =>
     show (if ((rs.map λr:R5=>aA r.d.toNat)[j]?.map λw=>HO.lst (bR w)).isSome=true then ((rs.map λr:R5=>aA r.d.toNat)[j]?.map λw=>HO.lst (bR w)) else none)=((rs.map λr:R5=>aA r.d.toNat)[j]?.map λw=>HO.lst (bR w));cases (rs.map λr:R5=>aA r.d.toNat)[j]? <;> rfl
    case aO =>
     show some (HO.lst _)=some (HO.lst ((cl.map (·.1)).map _));rw[dw];rfl
    case groups =>
     show some (HO.lst _)=some (HO.lst ((cl.map (·.2)).map _));rw[dw];rfl
    case mU =>
     show some (HO.lst ((aA cl.length).map λg=>V.ref (Y g)))=some (HO.lst ((aA (cl.map λ_=>([]:List Nat)).length).map λg=>V.ref (Y g)));rw[ah]
    case handed j =>
     show (if j<cl.length then some (HO.lst []) else none)=((cl.map λ_=>([]:List Nat))[j]?.map λw=>HO.lst (bR w));rw[aj];by_cases z:j<cl.length
     ·rw[ee z,aa z]
      rfl
     ·rw[er z,fF ∅]
      rfl
   ·cases r <;> first|rfl|exact eL rfl m|skip
    case nY j =>
     show (if ((rs.map λr:R5=>aA r.d.toNat)[j]?.map λw=>HO.lst (bR w)).isSome=true then J.getD j 0 else p)=J.getD j 0;have m:(if ((rs.map λr:R5=>aA r.d.toNat)[j]?.map λw=>HO.lst (bR w)).isSome=true then ((rs.map λr:R5=>aA r.d.toNat)[j]?.map λw=>HO.lst (bR w)) else none)≠none:=m;cases e:(rs.map λr:R5=>aA r.d.toNat)[j]? with
     |none=>rw[e] at m;exact eL rfl m
     |some w'=>rfl
  refine k _ Zc ⟨_,dxF s Vw Px,⟨G,λ_=>[],[]⟩,YF.np,YF.own,λb=>Iff.rfl,⟨adZ,λi l e=>?_,⟨rfl,λi q x e=>by cases e⟩⟩⟩ YF.kp YF.fr;cases e
inductive QS(K:af)(c:NC)(vs:List V)(H:Hp)(Q:VK)(E:XK):Prop
 |mk (F:Addr->Prop) (p tp:Addr) (n g:Nat) (s:NS):vs=[.ref p,.int g]->fG K c H F p tp n s->g<3->(∀l (qs:List Addr) H',aG H H'->H l=none->H' l=some (.lst (qs.map V.ref))->dF K H' qs (gH n (s.R g))->Q (.ref l) H')->QS K c vs H Q E
theorem uD{t:Ad}(T:Txt K mg t):cz P w K mg base iM 2 t.sM t.xA ["self","group"]  (QS K (nc t)):=by
 refine T.sV.F.kh MC λH Q E f h=>?_
 ·obtain⟨F,p,s,n,g,st,rfl,⟨a,r,q,i,O,m,j⟩,c,k⟩:=h
  refine⟨_,(aq (fE (AB (tW T) (f.mono (!_)) rfl T.eV.g T.eV.F.kp T.eV.B .nil Qe (gV (pv 1)))) (oR (fW ig (by rfl) T.sZ boot_list (gV (xL (aY (pv 0) rfl) (pv 1)))))),?_⟩
  left
  have e:=O.get .fC _ rfl;rw[i] at e;refine⟨_,rfl,g,rfl,λ_=>?_,λz=>eL ⟨∅,∅⟩ z⟩;refine⟨_,rfl,p,_,_,_,_,rfl,e,T.bV,T.kr,rfl,_,rfl,a .zg,_,_,_,rfl,rfl,bP.of (O.get .zg _ rfl),qm c,a (.rows g),_,rfl,.inl (bP.of (O.get (.rows g) _ (ee c))),λl d=>?_⟩;have u:=aG.new (o:=.lst ((q.rq g).map V.ref)) d;exact k l (q.rq g) _ u d au ((j.rows g c).mono λb x=>u.dB)
inductive QT(K:af)(CT:Addr)(c:NC)(vs:List V)(H:Hp)(Q:VK)(E:XK):Prop
 |mk (F:Addr->Prop) (p tp ln lr:Addr) (ns:List Int) (rs:List R5) (s:NS) (g:Nat):vs=[.ref p,.int g]->NW K c CT H F p tp ln lr ns rs s->cX ns rs->CL ns rs s->g<3->(∀l H',aG H H'->H l=none->H' l=some (.lst (bR (Qn rs s.ws g)))->Q (.ref l) H')->QT K CT c vs H Q E
theorem Au{t:Ad}(T:Txt K mg t):cz P w K mg base iM 3 t.sN t.xB ["self","group"]  (QT K t.bD (nc t)):=by
 refine T.xH.F.kh MD λH Q E d h=>?_
 ·obtain⟨F,p,y,f,i,s,v,st,g,rfl,N,ok,A,J,k⟩:=h
  refine⟨_,(oR (Cy (aY (pv 0) rfl) T.jk T.sU.m (F0 T) (d.mono (!_)) T.sU.B .nil Qe (gV (pv 1)))),?_⟩
  left
  obtain⟨a,n,q,e,O,D,I⟩:=N.fC;have c:=O.get .fC _ rfl;rw[e] at c;refine⟨_,rfl,p,_,_,_,_,rfl,c,T.bV,T.u9,rfl,a .e9,n .e9,_,rfl,O.get .e9 _ rfl,rfl,_,rfl,a .e9,y,a .iQ,f,i,s,v,st.ws,g,rfl,N.vP,O.strAt,A.wl,ok.V0,(λr b=>⟨(ok.ok r b).e1,(ok.ok r b).e7⟩),λu l j G _ C o x=>?_,λz=>eL ⟨∅,∅⟩ z⟩
  have:u=g:=∅
  subst this;exact k l j C o x
inductive Nd(K:af)(CT:Addr)(c:NC)(vs:List V)(H:Hp)(Q:VK)(E:XK):Prop
 |mk (F:Addr->Prop) (p tp ln lr:Addr) (ns:List Int) (rs:List R5) (s:NS) (o:cX ns rs) (g:Nat):vs=[.ref p,.int g]->NW K c CT H F p tp ln lr ns rs s->CL ns rs s->g<3->(∀l os H',aG H H'->H l=none->H' l=some (.lst (bR os))->eU (kJ ns rs o s.ws g) (s.R g) os->os.length<=12->Q (.ref l) H')->Nd K CT c vs H Q E
theorem Dt{t:Ad}(T:Txt K mg t):cz P w K mg base iM 6 t.pZ t.uv ["self","group"]  (Nd K t.bD (nc t)):=by
 refine T.zM.F.kh K6 λH Q E d h=>?_
 ·obtain⟨F,p,f,j,m,ns,o,st,ok,g,rfl,N,r,i,k⟩:=h
  refine⟨_,(oR (AB (M3 T) (d.mono (!_)) rfl T.zO T.C2.F.kp T.C2.B .nil mK (Ir (aY (pv 0) rfl) (cM (pv 0) T.bV T.xH (Au T) d (gV (pv 1))) (cM (pv 0) T.bV T.sV (uD T) d (gV (pv 1)))))),?_⟩
  left
  obtain⟨v,U,q,u,O,S,W⟩:=id N.fC;have c:=O.get .fC _ rfl;rw[u] at c;refine⟨_,rfl,p,_,_,_,_,rfl,c,T.bV,T.oG,rfl,?_⟩;refine⟨_,rfl,p,_,_,rfl,c,rfl,_,rfl,F,p,f,j,m,ns,o,st,g,rfl,N,ok,r,i,λL X a x I=>?_⟩;have n:=N.mono a;refine⟨_,rfl,p,_,_,rfl,a _ _ c,rfl,_,rfl,F,p,f,ns.length,g,st,rfl,n.fC,i,λy Y V b J C s=>?_⟩;refine⟨f,j,m,L,y,ns,o,_,ok.nd,ok.ok,zh,st.R g,rfl,n.vP.mono b,bP.of (b _ _ I),s.OT (bP.of C),by have:=ok.O2;lia,ok.V0,r.fit g i,λl os G D A M z e=>?_⟩;exact k l os G (a.trans (b.trans D)) ((a.trans b).free A) M z e
inductive Ng(K:af)(c:NC)(vs:List V)(H:Hp)(Q:VK)(E:XK):Prop
 |mk (F:Addr->Prop) (p tp:Addr) (n g:Nat) (s:NS):vs=[.ref p,.int g]->fG K c H F p tp n s->g<3->(s.ts g).length<2000->(∀l (qs:List Addr) (us:List T3) H',aG H H'->H l=none->H' l=some (.lst (qs.map V.ref))->fT K H' qs us->us.Perm (s.ts g)->AG us->Q (.ref l) H')->Ng K c vs H Q E
theorem LG{t:Ad}(T:Txt K mg t):cz P w K mg base iM 2 t.p6 t.uw ["self","group"]  (Ng K (nc t)):=by
 refine T.E5.F.kh K7 λH Q E d h=>?_
 ·obtain⟨F,p,o,n,g,st,rfl,⟨a,i,q,f,O,j,l⟩,c,b,k⟩:=h
  refine⟨_,(aq (fE (AB (tW T) (d.mono (!_)) rfl T.eV.g T.eV.F.kp T.eV.B .nil Qe (gV (pv 1)))) (oR (kD (xL (aY (pv 0) rfl) (pv 1)) T.xO T.xG.m (Jf T) (d.mono (!_)) T.xG.B .nil mK))),?_⟩
  left
  have e:=O.get .fC _ rfl;rw[f] at e;refine⟨_,rfl,g,rfl,λ_=>?_,λz=>eL ⟨∅,∅⟩ z⟩;exact⟨_,rfl,p,_,_,_,_,rfl,e,T.bV,T.qe,rfl,_,rfl,a .kq,_,_,_,rfl,rfl,bP.of (O.get .kq _ rfl),qm c,a (.book g),i (.book g),_,rfl,O.get (.book g) _ (ee c),rfl,a (.book g),a (.fq g),st.ts g,rfl,O.KN c,b,k⟩
inductive Nh(K:af)(CT:Addr)(c:NC)(vs:List V)(H:Hp)(Q:VK)(E:XK):Prop
 |mk (F:Addr->Prop) (p tp ln lr:Addr) (ns:List Int) (rs:List R5) (s:NS) (h:Nat):vs=[.ref p,.int h]->NW K c CT H F p tp ln lr ns rs s->h<ns.length->Q .fH H->Nh K CT c vs H Q E
theorem Cn{t:Ad}(T:Txt K mg t):cz P w K mg base iM 1 t.iu t.jx ["self","house"]  (Nh K t.bD (nc t)):=by
 refine T.uA.F.kh BQ λH Q E i h=>?_
 ·obtain⟨F,p,f,j,l,ns,o,st,x,rfl,N,r,k⟩:=h
  refine⟨_,(bJ (cE (jo (jD qX pR aB (pv 1) (aY (aY (pv 0) rfl) rfl))) dO bz)),?_⟩
  left
  obtain⟨e,m,q,c,O,g,n⟩:=id N.fC;obtain⟨⟨d,a⟩,_⟩:=id N.vP;have b:=O.get .fC _ rfl;rw[c] at b;refine⟨_,rfl,_,_,rfl,rfl,_,rfl,?_⟩;rw[fy (show (0:Int)<=(x:Int) by lia)];refine gB ⟨_,rfl,p,_,_,_,_,rfl,b,T.bV,T.oG,rfl,f,_,d,_,_,rfl,a,T.fJ,T.mC,rfl,_,_,rfl,rfl,_,rfl,?_⟩;rw[fy (show (x:Int)<(ns.length:Int) by lia)];exact eZ k
inductive J6(K:af)(c:NC)(vs:List V)(H:Hp)(Q:VK)(E:XK):Prop
 |mk (F:Addr->Prop) (p tp:Addr) (n x:Nat) (s:NS):vs=[.ref p,.int x]->fG K c H F p tp n s->x<s.aO.length->Q .fH H->J6 K c vs H Q E
theorem rm{t:Ad}(T:Txt K mg t):cz P w K mg base iM 1 t.gQ t.iU ["self","caller"]  (J6 K (nc t)):=by
 refine T.lX.F.kh AY λH Q E e h=>?_
 ·obtain⟨F,p,i,n,x,st,rfl,⟨a,f,q,c,O,d,g⟩,j,k⟩:=h
  refine⟨_,(bJ (cE (jo (jD qX pR aB (pv 1) (lS T.iN (aY (pv 0) rfl)))) dO bz)),?_⟩
  left
  have b:=O.get .fC _ rfl;rw[c] at b;refine⟨_,rfl,_,_,rfl,rfl,_,rfl,?_⟩;rw[fy (show (0:Int)<=(x:Int) by lia)];refine gB ⟨_,rfl,p,_,_,_,_,rfl,b,T.bV,T.qg,rfl,a .aO,_,rfl,.inl (bP.of (O.get .aO _ rfl)),_,_,rfl,rfl,_,rfl,?_⟩;rw[ah,fy (show (x:Int)<(st.aO.length:Int) by lia)];exact eZ k
inductive Ni(K:af)(CT:Addr)(c:NC)(vs:List V)(H:Hp)(Q:VK)(E:XK):Prop
 |mk (F:Addr->Prop) (p tp ln lr:Addr) (ns:List Int) (rs:List R5) (s:NS) (h g:Nat):vs=[.ref p,.int h,.int g]->NW K c CT H F p tp ln lr ns rs s->h<ns.length->g<3->(∀q H',aG H H'->cQ K H' q (cR (s.R g h))->Q (.ref q) H')->Ni K CT c vs H Q E
theorem Ji{t:Ad}(T:Txt K mg t):cz P w K mg base iM 3 t.m9 t.rL ["self","house","group"]  (Ni K t.bD (nc t)):=by
 refine T.C5.F.kh IG λH Q E e h=>?_
 ·obtain⟨F,p,i,m,n,ns,y,st,x,g,rfl,N,f,z,k⟩:=h
  refine⟨_,(aq (fE (cM (pv 0) T.bV T.uA (Cn T) e (gV (pv 1)))) (oR (xL (cM (pv 0) T.bV T.sV (uD T) e (gV (pv 2))) (pv 1)))),?_⟩
  left
  obtain⟨o,B,q,j,O,A,G⟩:=id N.fC;have c:=O.get .fC _ rfl;rw[j] at c;refine⟨_,rfl,p,_,_,rfl,c,rfl,_,rfl,F,p,i,m,n,ns,y,st,x,rfl,N,f,?_⟩;refine⟨_,rfl,p,_,_,rfl,c,rfl,_,rfl,F,p,i,ns.length,g,st,rfl,N.fC,z,λl b r s D u d=>?_⟩;have C:b.length=ns.length:=by rw[d.len];simp[gH]
  have a:x<b.length:=∅
  refine⟨_,rfl,l,_,_,_,rfl,rfl,bP.of u,eY (v:=.ref b[x]) (by rw[aj,aa a];rfl),k _ r s (d.at' x _ _ (aa a) ?_)⟩;unfold gH;rw[aj,gp f];rfl
inductive J7(K:af)(c:NC)(vs:List V)(H:Hp)(Q:VK)(E:XK):Prop
 |mk (F:Addr->Prop) (p tp:Addr) (n:Nat) (s:NS):vs=[.ref p]->fG K c H F p tp n s->(∀l (qs:List Addr) H',aG H H'->H l=none->H' l=some (.lst (qs.map V.ref))->dF K H' qs (s.cps.map Cp.vs)->Q (.ref l) H')->J7 K c vs H Q E
theorem Jj{t:Ad}(T:Txt K mg t):cz P w K mg base iM 1 t.ng t.rM ["self"]  (J7 K (nc t)):=by
 refine T.xJ.F.kh II λH Q E m h=>?_
 ·obtain⟨F,p,j,n,st,rfl,N,k⟩:=h
  refine⟨_,(oR (fW ig (by rfl) T.sZ boot_list (gV (aY (pv 0) rfl)))),?_⟩
  left
  obtain⟨a,i,q,e,O,g,f⟩:=id N;have d:=O.get .fC _ rfl;rw[e] at d;refine⟨_,rfl,p,_,_,_,_,rfl,d,T.bV,T.nO,rfl,a .lP,_,rfl,.inl (bP.of (O.get .lP _ rfl)),λl c=>?_⟩;have u:=aG.new (o:=.lst (q.cq.map V.ref)) c;exact k l q.cq _ u c au (f.cps.mono λb x=>u.dB)
noncomputable def yk(g:Nat)(l:LS):LS:=if l.grp=g then {l with old:=true} else l
noncomputable def FD(s:NS)(g:Nat):NS:={s with ts:=fD s.ts g [],ls:=s.ls.map (yk g)}
inductive QU(K:af)(c:NC)(vs:List V)(H:Hp)(Q:VK)(E:XK):Prop
 |mk (F:Addr->Prop) (p tp:Addr) (n g:Nat) (s:NS):vs=[.ref p,.int g]->fG K c H F p tp n s->g<3->(∀F' H',fG K c H' F' p tp n (FD s g)->Step H F H' F'->Q .fH H')->QU K c vs H Q E
theorem Ez{t:Ad}(T:Txt K mg t):cz P w K mg base iM 2 t.i9 t.lF ["self","group"]  (QU K (nc t)):=by
 refine T.yt.F.kh vS λH Q E hr h=>?_
 ·obtain⟨F,p,Z,n,g,st,rfl,⟨c,dx,q,R,O,hF,hT⟩,v,k⟩:=h
  refine⟨_,(aq (fE (kD (xL (aY (pv 0) rfl) (pv 1)) T.xO T.uY.m (Ig T) (hr.mono (!_)) T.uY.B .nil mK)) (bJ (fS (fV (aY (pv 0) rfl)) (gT 2 vS) (bJ (cE (qT uc (aY (pv 2) rfl) (pv 1)) (bJ (fZ (pv 2) PN rfl)) bz))))),?_⟩
  left
  have W:=O.get .fC _ rfl;rw[R] at W;refine⟨_,rfl,p,_,_,_,_,rfl,W,T.bV,T.qe,rfl,_,rfl,c .kq,_,_,_,rfl,rfl,bP.of (O.get .kq _ rfl),qm v,c (.book g),dx (.book g),_,rfl,O.get (.book g) _ (ee v),rfl,c (.book g),c (.fq g),st.ts g,rfl,O.KN v,λd' U L hB kp=>?_⟩;obtain⟨⟨UG,G⟩,A⟩:=hB;obtain⟨s,N',x⟩:=OU R O hF hT v L G A kp;obtain⟨b,j,S,Ww,I,N,C⟩:=N';have X:mV K (nc t) U s b j S p Z n {st with ts:=fD st.ts g []}:=⟨Ww,I,N,C⟩;have Zd:=I.get .fC _ rfl;rw[Ww] at Zd;have XD:=I.get .cT _ rfl;refine⟨_,rfl,p,_,_,_,_,rfl,Zd,T.bV,T.eX,rfl,b .cT,rfl,⟨_,bP.of XD⟩,vL (K:=K) (a:=b .cT) (xs:=(aA st.ls.length).map λi=>.ref (b (.bW i))) (λi u r=>mV K (nc t) r s b j S p Z n {st with ts:=fD st.ts g [],ls:=(st.ls.take i).map (yk g)++st.ls.drop i}/\Step U s r s/\∃M:Option V,u=[some (.ref p),some (.int g),M]) ⟨by rw[List.take_zero,List.drop_zero];exact X,Step.refl' (aG.refl _),_,rfl⟩ (λi u r _ z=>?_) ?_ ?_⟩
  ·have e:=z.1.own.get .cT _ rfl
   have el:((st.ls.take i).map (yk g)++st.ls.drop i).length=st.ls.length:=by
    rw[av,ah,<- av,vI]
   refine bP.of (e.trans ?_);show some (HO.lst ((aA ((st.ls.take i).map (yk g)++st.ls.drop i).length).map _))=_;rw[el]
  ·rintro i y u r J ⟨o,d,M,rfl⟩
   have f:i<st.ls.length:=by
    have:=(ai.mp J).1
    rw[ah,bB] at this;exact this
   rw[aj,gp f] at J;cases J;have l:((st.ls.take i).map (yk g)++st.ls.drop i)[i]?=some st.ls[i]:=by
    rw[cu (by rw[ah,bQ];lia),ah,bQ,Nat.min_eq_left ∅,iY,List.getElem?_drop,Nat.add_zero];exact aa f
   have Y:=o.own.get (.bW i) (mW (nc t) j b i st.ls[i]) (by show (((st.ls.take i).map (yk g)++st.ls.drop i)[i]?.map _)=_;rw[l];rfl);have next:(st.ls.take (i+1)).map (yk g)++st.ls.drop (i+1)=((st.ls.take i).map (yk g)++st.ls.drop i).set i (yk g st.ls[i]):=by
    rw[uI,aa f,aT,cH,vJ _ _ (by rw[ah,bQ];lia),ah,bQ,Nat.min_eq_left ∅,iY,pP f];rfl
   rw[next];refine⟨_,rfl,_,_,_,_,_,rfl,Y,T.dj,T.jT,rfl,_,rfl,rfl,_,rfl,ko (λe=>?_) (λe=>?_)⟩
   ·have e:(st.ls[i]).grp=g:=by
     have:=V.int.inj (g9 e)
     lia
    refine⟨_,rfl,_,_,_,_,rfl,Y,T.dj,T.xN,(by show 5<1000;decide),?_⟩;obtain⟨X3,D⟩:=Xa o l;refine⟨?_,d.trans D,_,rfl⟩;unfold yk;rw[ee e];exact X3
   ·have e:¬(st.ls[i]).grp=g:=λz=>e (fy (by rw[z]))
    refine⟨?_,d,_,rfl⟩
    have:yk g st.ls[i]=st.ls[i]:=er e
    rw[this,GV l];exact o
  ·rintro u r ⟨o,d,M,rfl⟩
   rw[ah,bB,gi (ay _),List.drop_eq_nil_of_le (ay _),bY] at o;exact k s r o.fC (x.trans d)
noncomputable def FE(s:NS)(g x:Nat)(d:RM.Row):NS:=if d=s.R g x then s else FD {s with R:=fD s.R g (RM.upd (s.R g) x d)} g
inductive Nj(K:af)(CT:Addr)(c:NC)(vs:List V)(H:Hp)(Q:VK)(E:XK):Prop
 |mk (F:Addr->Prop) (p tp ln lr:Addr) (ns:List Int) (rs:List R5) (s:NS) (o:cX ns rs) (x g:Nat):vs=[.ref p,.int x,.int g]->NW K c CT H F p tp ln lr ns rs s->CL ns rs s->x<ns.length->g<3->(∀d F' H',RM.Ul (N:=kJ ns rs o s.ws g) ns.length (s.R g) x d->BB ns.length rs.length d->fG K c H' F' p tp ns.length (FE s g x d)->Step H F H' F'->Q (.bl (!decide (d=s.R g x))) H')->Nj K CT c vs H Q E
theorem Nk{t:Ad}(T:Txt K mg t):cz P w K mg base iM 4 t.sO t.xC ["self","house","group"]  (Nj K t.bD (nc t)):=by
 refine T.Hg.F.kh zE λH Q E c h=>?_
 ·obtain⟨F,p,j,M,B,ns,W,st,ok,x,g,rfl,N,s,f,a,k⟩:=h
  refine⟨_,(aq (sS 3 zE (cM (pv 0) T.bV T.C5 (Ji T) c (nZ (pv 1) (pv 2)))) (aq (sS 4 zE (cG (aaL T) c T.YT (YO (aY (pv 0) rfl) (cM (pv 0) T.bV T.xH (Au T) c (gV (pv 2))) (cM (pv 0) T.bV T.sV (uD T) c (gV (pv 2))) (pv 1)))) (aq (cE (qT Ox (pv 4) (pv 3)) oB bz) (aq (NY (pv 4) (ZN (xL (aY (pv 0) rfl) (pv 2)) (pv 1) set_list)) (aq (fE (cM (pv 0) T.bV T.yt (Ez T) c (gV (pv 2)))) oB))))),?_⟩
  left
  obtain⟨loc,dx,q,hp,O,hF,hT⟩:=id N.fC;have J:=O.get .fC _ rfl;rw[hp] at J;refine⟨_,rfl,p,_,_,rfl,J,rfl,_,rfl,_,rfl,F,p,j,M,B,ns,W,st,x,g,rfl,N,f,a,λq1 H1 y C=>?_⟩;have N1:=N.mono y;have S:=y _ _ J;refine⟨_,rfl,p,_,_,_,_,rfl,S,T.bV,T.oG,rfl,?_⟩;refine⟨_,rfl,p,_,_,rfl,S,rfl,_,rfl,F,p,j,M,B,ns,W,st,g,rfl,N1,ok,s,a,λl2 H2 D hl2 h2=>?_⟩;have N2:=N1.mono D;refine⟨_,rfl,p,_,_,rfl,D _ _ S,rfl,_,rfl,F,p,j,ns.length,g,st,rfl,N2.fC,a,λl3 qs H3 G hl3 h3 ht=>?_⟩;have Y:=N2.mono G;refine⟨_,rfl,j,M,B,l2,l3,ns,W,_,ok.nd,ok.ok,zh,st.R g,x,rfl,Y.vP,bP.of (G _ _ h2),ht.OT (bP.of h3),f,ok.V0,(s.fit g a).aam,λq4 d H4 s4 V4 X=>?_⟩;have A:=WN (s.fit g a) f ok.pos X;have N4:=Y.mono s4;have l:=D.trans (G.trans s4);have i:=y.trans l;refine⟨_,rfl,_,rfl,RM.DM d,RM.DM (st.R g x),RM.yZ V4,RM.yZ (l.dB C),RM.y9 _,RM.y9 _,cK (fz (aN (mE _ _) (by rw[RM.JE];decide:(RM.DM d).depth<=64)) _) c.units,?_⟩;rw[RM.Mh A.by1 (s.fit g a x f).by1];refine⟨_,rfl,ko (λe=>?_) (λe=>?_)⟩
  ·have o:d=st.R g x:=g9 e
   have:=k d F H4 X A (by unfold FE;rw[ee o];exact N4.fC) (Step.refl' i)
   rw[fy o] at this;exact this
  ·have o:¬d=st.R g x:=λz=>e (fy z)
   obtain⟨b,dx4,n,V3,r,U,m⟩:=id N4.fC;have FF:=r.get .fC _ rfl;rw[V3] at FF;have I:(n.rq g).length=ns.length:=by rw[(m.rows g a).len];simp[gH]
   obtain⟨F5,u,Z⟩:=W1 V3 r U m a f V4;refine⟨_,rfl,_,rfl,p,_,_,_,_,rfl,FF,T.bV,T.kr,rfl,_,rfl,b .zg,_,_,_,rfl,rfl,bP.of (r.get .zg _ rfl),qm a,_,rfl,b (.rows g),_,_,_,rfl,rfl,r.get (.rows g) _ (ee a),Qg (by rw[ah,I];exact f),?_⟩;generalize upd H4 (b (.rows g)) (.lst (((n.rq g).map V.ref).set x (.ref q4)))=H5 at u Z;obtain⟨Vx,dx5,q5,v,O5,hF5,hT5⟩:=id u;have Zf:=O5.get .fC _ rfl;rw[v] at Zf;refine⟨_,rfl,p,_,_,rfl,Zf,rfl,_,rfl,F5,p,j,ns.length,g,_,rfl,u,a,λF6 H6 N6 L=>?_⟩
   have:=k d F6 H6 X A (by unfold FE;rw[er o];exact N6) ((Step.refl' i).trans (Z.trans L))
   rw[gU o] at this;exact this
theorem mj{n:Nat}(h:n<=1000000):n<sizeLine:=cK h (by show 1000000<2^24;decide)
inductive QV(K:af)(c:NC)(vs:List V)(H:Hp)(Q:VK)(E:XK):Prop
 |mk (F:Addr->Prop) (p tp:Addr) (n x:Nat) (to:Option Nat) (s:NS):vs=[.ref p,.int x,iE (to.map λy:Nat=>(y:Int))]->fG K c H F p tp n s->x<s.aO.length->s.groups.length=s.aO.length->(∀y,to=some y->y<s.aO.length/\s.groups[y]?=s.groups[x]?)->Q .fH H->QV K c vs H Q E
theorem Du{t:Ad}(T:Txt K mg t):cz P w K mg base iM 2 t.iI t.j4 ["self","sender","to"]  (QV K (nc t)):=by
 refine T.wm.F.kh CQ λH Q E i h=>?_
 ·obtain⟨F,p,l,n,x,s,st,rfl,N,u,r,g,k⟩:=h
  refine⟨_,(aq (fE (cM (pv 0) T.bV T.lX (rm T) i (gV (pv 1)))) (bJ (cE (qT AA (pv 2) iO) (aq (fE (cM (pv 0) T.bV T.lX (rm T) i (gV (pv 2)))) (bJ (cE (qT se (xL (aY (pv 0) rfl) (pv 1)) (xL (aY (pv 0) rfl) (pv 2))) dO bz))) bz))),?_⟩
  left
  obtain⟨b,z,q,m,O,v,A⟩:=id N;have f:=O.get .fC _ rfl;rw[m] at f;refine⟨_,rfl,p,_,_,rfl,f,rfl,_,rfl,F,p,l,n,x,st,rfl,N,u,?_⟩;cases s with
  |none=>exact⟨_,rfl,rfl,_,rfl,eZ k⟩
  |some y =>
   obtain⟨o,j⟩:=g y rfl;refine⟨_,rfl,rfl,_,rfl,gB ?_⟩;refine⟨_,rfl,p,_,_,rfl,f,rfl,_,rfl,F,p,l,n,y,st,rfl,N,o,?_⟩;have a:=bP.of (K:=K) (O.get .groups _ rfl);have c:x<st.groups.length:=∅
   have d:y<st.groups.length:=∅
   have e:st.groups[y]=st.groups[x]:=by
    rw[aa d,aa c] at j;exact aK j
   refine⟨_,rfl,p,_,_,_,_,rfl,f,T.bV,T.nN,rfl,_,rfl,b .groups,_,_,_,rfl,rfl,a,sA c,_,rfl,p,_,_,_,_,rfl,f,T.bV,T.nN,rfl,_,rfl,b .groups,_,_,_,rfl,rfl,a,sA d,rfl,_,rfl,?_⟩;rw[e,fy rfl];exact eZ k
noncomputable def Co(s:NS)(h g x:Nat):Bool:=decide (s.aO[x]?=some h/\s.groups[x]?=some g)
noncomputable def oh(s:NS)(h g:Nat):List Nat:=(aA s.aO.length).filter (Co s h g)
theorem oW{f:Nat->Bool}{i:Nat}:(aA (i+1)).filter f=(aA i).filter f++if f i=true then [i] else []:=by
 rw[mF,fO];congr 1;cases e:f i
 ·rw[er (!_),r9 (by rw[e];decide)];rfl
 ·rw[ee rfl,r8 e];rfl
inductive QW(K:af)(c:NC)(vs:List V)(H:Hp)(Q:VK)(E:XK):Prop
 |mk (F:Addr->Prop) (p tp:Addr) (n h g:Nat) (s:NS):vs=[.ref p,.int h,.int g]->fG K c H F p tp n s->s.groups.length=s.aO.length->s.aO.length<=20->(∀l H',aG H H'->H l=none->H' l=some (.lst (bR (oh s h g)))->Q (.ref l) H')->QW K c vs H Q E
theorem Dv{t:Ad}(T:Txt K mg t):cz P w K mg base iM 1 t.iH t.j3 ["self","house","group"]  (QW K (nc t)):=by
 refine T.wg.F.kh mY λH Q E hr h=>?_
 ·obtain⟨F,p,tp,n,c,g,st,rfl,N,Z,AZ,k⟩:=h
  refine⟨_,(aq (sS 3 mY (dU (nZ (pv 1) (pv 2)))) (oR (gq (kO mY ["caller","self","there"] [none,some 0,some 3]) rfl (gA rfl T.jy (gV (lS T.iN (aY (pv 0) rfl)))) (λ_ _ _ _=>by exact (gS 0 zF)) (λ_ _ _ _=>by exact (mP (qT (Qf K rfl hr.units) (dU (nZ (yL K (Gi K rfl (pv 1) rfl) (pv 0)) (yL K (Gi K rfl (pv 1) rfl) (pv 0)))) (pv 2)))) (λ_ _ _ _=>by exact (pv 0))))),?_⟩
  left
  refine⟨_,rfl,_,rfl,g8,λM C=>?_⟩;have m:=aG.new (o:=.tup [V.int c,V.int g]) C;have S:=au (H:=H) (a:=M) (o:=.tup [V.int c,V.int g]);generalize upd H M (.tup [V.int c,V.int g])=H1 at m S;obtain⟨d,dx,q,Y,O,hF,hT⟩:=N.mono m;have B:=O.get .fC _ rfl;rw[Y] at B;have j:=bP.of (K:=K) (O.get .aO _ rfl);have s:=bP.of (K:=K) (O.get .groups _ rfl);refine⟨_,rfl,p,_,_,_,_,rfl,B,T.bV,T.qg,rfl,d .aO,_,rfl,.inl j,(((bR st.aO).length:Nat):Int),rfl,∅,by rw[ah];lia,λu b=>?_⟩;rw[ah];refine ir (n:=((st.aO.length:Int)).toNat) (λi A _=>A=bR ((aA i).filter (Co st c g))) b Bx sj rfl ?_ ?_
  ·rintro i A U W e r rfl y H4 ⟨rfl,rfl⟩
   rw[gD];have l:i<st.aO.length:=∅
   have f:i<st.groups.length:=∅
   have G:=e _ _ B;refine⟨_,rfl,p,_,_,_,_,rfl,G,T.bV,T.qg,rfl,_,rfl,d .aO,_,_,_,rfl,rfl,e.seq j,sA l,_,rfl,p,_,_,_,_,rfl,G,T.bV,T.nN,rfl,_,rfl,d .groups,_,_,_,rfl,rfl,e.seq s,sA f,g8,λz1 D=>?_⟩;have R:=aG.new (o:=.tup [V.int (st.aO[i]:Nat),V.int (st.groups[i]:Nat)]) D;have x:=e.trans R;have I:=R _ _ r;refine⟨_,rfl,.tuple (([(st.aO[i]:Int),(st.groups[i]:Int)]:List Int).map .int),.tuple (([(c:Int),(g:Int)]:List Int).map .int),Rep.JB (ns:=[(st.aO[i]:Int),(st.groups[i]:Int)]) (cQ.of au),Rep.JB (ns:=[(c:Int),(g:Int)]) (cQ.of (x _ _ S)),pT _,pT _,(by show PyData.depthAll _+1<=64;rw[vN];decide),_,rfl,?_⟩
   try dsimp only
   have X:Co st c g i=decide ((st.aO[i]:Int)=(c:Int)/\(st.groups[i]:Int)=(g:Int)):=by
    unfold Co;rw[aa l,aa f,decide_eq_decide];constructor
    ·rintro⟨L,J⟩
     exact⟨by rw[aK L],by rw[aK J]⟩
    ·rintro⟨L,J⟩
     exact⟨g7 some ∅,g7 some ∅⟩
   rw[Qs,<- X];refine ko (λv=>?_) (λv=>?_)
   ·refine⟨_,rfl,?_⟩
    refine fQ b W x I ?_ ?_
    ·rw[ah]
     refine cS (aN (aX _ _) ?_);rw[bB];lia
    ·rw[oW,ee v,jI]
   ·refine jX W x I ?_
    rw[oW,er v,bY]
  ·rintro A U e r rfl
   have z:=m.trans e;exact k u U z (m.free b) r
inductive J8(K:af)(CT C NW:Addr)(vs:List V)(H:Hp)(Q:VK)(E:XK):Prop
 |mk (p tp lu ln lr:Addr) (ns:List Int) (rs:List R5) (ws:List (List Nat)) (i x:Int):vs=[.ref p,.int i,.int x]->c7 K CT H tp ln lr ns rs->Qi C H p tp lu ws->ws.length=rs.length->(∀(j:Nat) w H',i=(j:Int)->ws[j]?=some w->aG H H'->(w=[]->Q .fH H')/\(∀k:Nat,w[(x%(w.length:Int)).toNat]?=some k->w≠[]->Q (.int (k:Nat)) H'))->(¬(0<=i/\i<rs.length)->E (.ref NW) none H)->J8 K CT C NW vs H Q E
theorem A1{t:Ad}(T:Txt K mg t):cz P w K mg base (EV P w) 2 t.gP t.iT ["self","rope","number"]  (J8 K t.bD t.c8 t.CZ):=by
 refine T.lW.F.Xb qZ λH Q E r h=>?_
 ·obtain⟨p,Z,N,v,A,J,R,D,i,x,rfl,L,f,W,k,kx⟩:=h
  obtain⟨⟨C,u⟩,_⟩:=id f;refine⟨_,(aq (sS 3 qZ (Cy (pv 0) T.jk T.lV.m (A0 T) (r.mono (!_)) T.lV.B .nil YG (gV (pv 1)))) (aq (cE (qT Ox (pv 3) (jq iP)) (oR iO) bz) (oR (xL (pv 3) (bw dZ (pv 2) (lS T.iN (pv 3))))))),?_⟩
  left
  refine⟨_,rfl,p,C,_,rfl,u,rfl,_,rfl,p,Z,N,v,A,J,R,D,i,rfl,L,f,W,λj e l H1 X U G LP I=>?_,kx⟩;refine⟨_,rfl,bN _,λq M=>?_⟩;have g:=aG.new (o:=.lst []) M;have c:=g _ _ I;refine⟨.list ((e.map λk:Nat=>(k:Int)).map .int),.list [],⟨l,_,rfl,bP.of c,(by rw[jJ];exact ud _)⟩,⟨q,_,rfl,bP.of au,rfl⟩,pT _,rfl,cK (fz (aN (Nat.min_le_right _ _) (!_)) _) r.units,_,rfl,?_⟩;obtain⟨Y,S⟩:=k j e _ X U (G.trans g);cases e with
  |nil=>exact gB (Y rfl)
  |cons y b =>
   refine eZ ?_;have a:(0:Int)<(((y::b).length:Nat):Int):=by rw[bx];lia
   have O:=bU x (show (((y::b).length:Nat):Int)≠0 by lia);have s:=ck x a;have d:(x%(((y::b).length:Nat):Int)).toNat<(y::b).length:=∅
   refine⟨_,rfl,_,rfl,_,rfl,l,_,rfl,.inl (bP.of c),_,_,rfl,(by rw[ah]),a,?_⟩;obtain⟨z,n⟩:∃z,(y::b)[(x%(((y::b).length:Nat):Int)).toNat]?=some z:=⟨_,aa d⟩;refine⟨l,_,_,V.int (z:Nat),rfl,rfl,bP.of c,?_,S z n (by intro z;cases z)⟩;rw[show x%(((y::b).length:Nat):Int)=(((x%(((y::b).length:Nat):Int)).toNat:Nat):Int) by lia];exact eY (by rw[aj,n];rfl)
noncomputable def Av(l:LS)(h:Nat):Bool:=(CF (l.done.map λh:Nat=>((gC (h:Int):Key),V.bl true)) (gC (h:Int))).isSome
inductive QX(K:af)(CT:Addr)(c:NC)(vs:List V)(H:Hp)(Q:VK)(E:XK):Prop
 |mk (F:Addr->Prop) (loc dx:Role->Addr) (q:TQ) (p tp ln lr:Addr) (ns:List Int) (rs:List R5) (s:NS) (o:cX ns rs) (i r h:Nat) (l:LS):vs=[.ref p,.ref (loc (.bW i)),.int r,.int h]->mV K c H F loc dx q p tp ns.length s->NW K c CT H F p tp ln lr ns rs s->CL ns rs s->s.ls[i]?=some l->l.grp<3->(∀os H',aG H H'->eU (kJ ns rs o s.ws l.grp) (s.R l.grp) os->os.length<=12->Q (.str (if r∈os then (if Av l h=true then "twice" else "come") else "lost")) H')->QX K CT c vs H Q E
theorem Ij{t:Ad}(T:Txt K mg t):cz P w K mg base iM 7 t.kX t.pI ["self","posted","rope","house"]  (QX K t.bD (nc t)):=by
 refine T.Bb.F.kh G8 λH Q E n h=>?_
 ·obtain⟨F,a,z,q,p,D,x,v,A,B,st,o,i,r,y,l,rfl,X,N,G,b,I,k⟩:=h
  refine⟨_,(aq (cE (jW rA (pv 2) (cM (pv 0) T.bV T.zM (Dt T) n (gV (aY (pv 1) rfl))) (by with_unfolding_all rfl)) (oR gF) bz) (oR (yO (S8 (T4 (CG n) (pv 3) (aY (pv 1) rfl)) (by with_unfolding_all rfl)) gF gF))),?_⟩
  left
  have s:=X.own.get .fC _ rfl;rw[X.hp] at s;have u:=X.own.get (.bW i) (mW (nc t) z a i l) (by show (st.ls[i]?.map _)=_;rw[b];rfl);have g:=X.own.get (.done i) (.dK (l.done.map λh:Nat=>(gC (h:Int),.bl true))) (by show (st.ls[i]?.map _)=_;rw[b];rfl);refine⟨_,rfl,_,rfl,p,_,_,rfl,s,rfl,_,rfl,a (.bW i),_,_,_,_,rfl,u,T.dj,T.jT,rfl,F,p,D,x,v,A,B,st,o,l.grp,rfl,N,G,I,λlo os C d J m j f=>⟨lo,_,rfl,.inl (bP.of m),rfl,rX _,_,rfl,?_⟩⟩
  try dsimp only
  rw[ee rfl,zc];have k:=k os C d j f;by_cases e:r∈os
  ·rw[ee e] at k
   rw[fy e];refine eZ ?_;refine⟨_,rfl,_,rfl,a (.bW i),_,_,_,_,rfl,d _ _ u,T.dj,T.oF,rfl,a (.done i),_,rfl,AW.k (k:=.inl (y:Int)) (d _ _ g),_,rfl,?_⟩;unfold Av at k;refine ko (λc=>?_) (λc=>?_)
   ·rw[ee c] at k
    exact k
   ·rw[er c] at k
    exact k
  ·rw[er e] at k
   rw[gU e];exact gB k
noncomputable def gX(l:LS):Nat:=if l.kd=1 then l.s+l.to+1 else l.s
theorem XE{t:Ad}(T:Txt K mg t){b a:Role->Addr}{f:L2.St}{H:Hp}{Q:VK}{i:Nat}{l:LS}(h:∀Q:VK,Q (.ref (a (.bW i))) H->Kg 4 f H Q)(j:H (a (.bW i))=some (mW (nc t) b a i l))(c:H (a (.letter i))=some (rD (nc t) (b (.letter i)) l))(q:Q (.int (gX l:Nat)) H) :
 ER t.iJ (Str.ofString "number") (AR K) [] E0 (GB K (Kg 4) (Str.ofString "letter")) Cw f H Q∨ER t.fY (Str.ofString "number") (Ew t.fY) [] E0 (GB K (Kg 4) (Str.ofString "letter")) Cw f H Q∨ER t.iW (Str.ofString "number") (AR K) [] E0 (GB K (Kg 4) (Str.ofString "letter")) Cw f H Q:=by
 by_cases e:l.kd=1
 ·have d:H (a (.letter i))=some (.ins t.fY (b (.letter i)) [("sender",.int l.s),("to",.int l.to)]):=by rw[c];unfold rD;rw[ee e]
  have g:V.int ((l.s:Int)+(l.to:Int)+1)=.int (gX l:Nat):=by unfold gX;rw[ee e];rfl
  refine .inr (.inl ?_);unfold ER GB;exact (h _ ⟨a (.bW i),_,_,_,_,rfl,j,T.dj,T.gY,rfl,a (.letter i),b (.letter i),_,rfl,d,rfl,a (.letter i),b (.letter i),l.s,l.to,rfl,d,(by rw[g];exact q)⟩)
 ·have d:H (a (.letter i))=some (.ins t.iW (b (.letter i)) [("sender",.int l.s)]):=by rw[c];unfold rD;rw[er e]
  have g:V.int (l.s:Int)=.int (gX l:Nat):=by unfold gX;rw[er e]
  refine .inr (.inr ?_);unfold ER GB;exact (h _ ⟨a (.bW i),_,_,_,_,rfl,j,T.dj,T.gY,rfl,a (.letter i),b (.letter i),_,rfl,d,rfl,a (.letter i),t.iW,b (.letter i),l.s,rfl,d,T.xM,T.nK,(by rw[g];exact q)⟩)
noncomputable def Nl(s:NS)(i h r x f:Nat):NS:={oY s i (.send h r x) with cps:=s.cps++[⟨i,r,x,f⟩]}
inductive QY(K:af)(CT:Addr)(c:NC)(vs:List V)(H:Hp)(Q:VK)(E:XK):Prop
 |mk (F:Addr->Prop) (p tp ln lr:Addr) (ns:List Int) (rs:List R5) (s:NS) (i h r:Nat) (l:LS) (re:R5) (w:List Nat) (x:Nat):vs=[.ref p,.int i,.int h,.int r]->NW K c CT H F p tp ln lr ns rs s->cX ns rs->CL ns rs s->s.ls[i]?=some l->l.aD.length<1000000->s.cps.length<1000000->rs[r]?=some re->s.ws[r]?=some w->w[(((gX l:Nat):Int)%(w.length:Int)).toNat]?=some x->w≠[]->(∀F' H',NW K c CT H' F' p tp ln lr ns rs (Nl s i h r x (fR re h))->Step H F H' F'->Q .fH H')->QY K CT c vs H Q E
theorem Nm{t:Ad}(T:Txt K mg t):cz P w K mg base iM 3 t.sP t.xD ["self","number","house","rope"]  (QY K t.bD (nc t)):=by
 refine T.Hh.F.kh zG λH Q E s h=>?_
 ·obtain⟨F,p,A,ln,lr,ns,D,st,i,c,r,l,re,w',x,rfl,N,tok,Ey,b,hld,hcl,e,hw,Y,hwn,k⟩:=h
  refine⟨_,(aq (sS 4 zG (xL (aY (pv 0) rfl) (pv 1))) (aq (sS 5 zG (Cy (aY (pv 0) rfl) T.jk T.lW.m (A1 T) (s.mono (!_)) T.lW.B .nil Qe (nZ (pv 3) (DN (kD (aY (pv 4) rfl) T.Hj T.lH.m (wD T) (s.mono (!_)) T.lH.B .nil mK) (DN (kD (aY (pv 4) rfl) T.pL T.sR.m (Gc T) (s.mono (!_)) T.sR.B .nil mK) (kD (aY (pv 4) rfl) T.xM T.Hl (wD T) (s.mono (!_)) T.lH.B .nil mK)))))) (aq (fE (pS be bh bg eE (aY (pv 4) rfl) (gV (dU (YO gF (pv 2) (pv 3) (pv 5)))))) (oE (pS be bh bg eE (aY (pv 0) rfl) (gV (dU (YO (pv 1) (pv 3) (pv 5) (cM (aY (pv 0) rfl) T.fJ T.nJ (qU T) s (nZ (pv 3) (pv 2))))))))))),?_⟩
  left
  obtain⟨a,C,q,hp,O,hF,hT⟩:=id N.fC;have U:=O.get .fC _ rfl;rw[hp] at U;have J:=(ai.mp b).1;have S:=(ai.mp e).1;have XD:=O.get .cT _ rfl;have Iu:=O.get (.bW i) (mW (nc t) C a i l) (by show (st.ls[i]?.map _)=_;rw[b];rfl);have X:=O.get (.letter i) (rD (nc t) (C (.letter i)) l) (by show (st.ls[i]?.map _)=_;rw[b];rfl);refine⟨_,rfl,p,_,_,_,_,rfl,U,T.bV,T.eX,rfl,_,rfl,a .cT,_,_,_,rfl,rfl,bP.of XD,qm J,?_⟩;refine⟨_,rfl,p,_,_,_,_,rfl,U,T.bV,T.u9,rfl,a .e9,C .e9,_,rfl,O.get .e9 _ rfl,rfl,_,rfl,?_⟩;have n:=O.get (.aD i) (.lst ((q.dq i).map V.ref)) (by show (st.ls[i]?.map _)=_;rw[b];rfl);refine XE T (l:=l) (λQ q=>⟨_,rfl,q⟩) Iu X ?_;refine⟨a .e9,A,a .iQ,ln,lr,ns,D,st.ws,r,(gX l:Nat),rfl,N.vP,O.strAt,Ey.wl,λj w2 H1 ej y u=>⟨λz=>?_,λkk hk _=>?_⟩,λz=>eL ⟨∅,∅⟩ z⟩
  ·have:j=r:=∅
   subst this;rw[hw] at y;cases y;exact eL z hwn
  have:j=r:=∅
  subst this;rw[hw] at y;cases y;rw[Y] at hk;cases hk;have X1:mV K (nc t) H1 F a C q p A ns.length st:=mV.mono ⟨hp,O,hF,hT⟩ u;have PB:=(X1.tup.aD i _ b).len;rw[ah] at PB;refine⟨_,rfl,a (.bW i),_,_,_,_,rfl,u _ _ Iu,T.dj,T.iK,rfl,.inl ⟨rfl,_,bP.of (u _ _ n)⟩,_,rfl,_,rfl,_,rfl,z4,λz1 W=>?_⟩;have M:=aG.new (o:=.tup [V.str "send",V.int c,V.int j,V.int x]) W;refine⟨a (.aD i),_,_,rfl,rfl,M _ _ (u _ _ n),mj (by rw[ah,PB];lia),?_⟩;obtain⟨f,I⟩:=CM (X1.mono M) b (d:=.send c j x) (cQ.of au);have g:=(Step.refl' (F:=F) (u.trans M)).trans I;have L:=N.done g f.fC;generalize upd (upd H1 z1 (.tup [V.str "send",V.int c,V.int j,V.int x])) (a (.aD i)) (.lst ((q.dq i).map V.ref++[.ref z1]))=H2 at f g L;have Vz:=f.own.get .fC _ rfl;rw[f.hp] at Vz;have v:=f.own.get .lP _ rfl;obtain⟨⟨dt,G⟩,_⟩:=id L.vP;have Zg:q.cq.length=st.cps.length:=by
   have z:=f.tup.cps.len;rw[ah] at z;exact z
  obtain⟨_,rfl⟩:=ai.mp e;refine⟨_,rfl,p,_,_,_,_,rfl,Vz,T.bV,T.nO,rfl,.inl ⟨rfl,_,bP.of v⟩,_,rfl,_,rfl,_,rfl,_,rfl,p,_,_,_,_,rfl,Vz,T.bV,T.oG,rfl,A,dt,_,rfl,G,rfl,_,rfl,_,rfl,A,ln,lr,ns,D,j,_,c,rfl,L.vP,e,?_⟩;rw[Qh (h:=c) S tok.ok];refine⟨z4,λz2 Z=>?_⟩;have R:=aG.new (o:=.tup [V.int i,V.int j,V.int x,V.int (fR D[j] c:Nat)]) Z;refine⟨a .lP,_,_,rfl,rfl,R _ _ v,mj (by rw[ah,Zg];lia),?_⟩;have X3:=f.mono R;obtain⟨X4,Ma⟩:=Qq X3 (qs:=q.cq++[z2]) (cps:=st.cps++[⟨i,j,x,fR D[j] c⟩]) (by rw[aT];exact X3.tup.cps.snoc (cQ.of au));rw[aT] at X4 Ma;have NO:=(g.trans (Step.refl' (F:=F) R)).trans Ma;refine k F _ ?_ NO;unfold Nl;rw[fL b];exact N.done NO X4.fC
end
section
noncomputable def nV(ds:List Nat)(h:Nat):List Nat:=if h∈ds then ds else ds++[h]
theorem Su{ds:List Nat}{h:Nat}:putK (ds.map λh:Nat=>((gC (h:Int):Key),V.bl true)) (gC (h:Int)) (V.bl true)=(nV ds h).map λh:Nat=>((gC (h:Int):Key),V.bl true):=by
 have e:((ds.map λh:Nat=>((gC (h:Int):Key),V.bl true)).any λb=>decide (b.1=(gC (h:Int):Key)))=decide (h∈ds):=by
  rw[iB,List.any_map,wL,decide_eq_true_iff];constructor
  ·rintro⟨x,a,e⟩
   have e:=Sum.inl.inj (g9 e)
   have:x=h:=∅
   exact this▸a
  ·exact λa=>⟨h,a,fy rfl⟩
 unfold putK nV;rw[e];by_cases z:h∈ds
 ·rw[ee (fy z),ee z,dw]
  refine c6 λx _=>?_;show (if _ then _ else _)=_;split <;> rfl
 ·rw[er (by rw[decide_eq_true_iff];exact z),er z,aT]
  rfl
structure Fr(s s':NS):Prop where
 ws:s'.ws=s.ws
 R:s'.R=s.R
 ts:s'.ts=s.ts
 aO:s'.aO=s.aO
 groups:s'.groups=s.groups
 lt:∀(i:Nat) (l:LS),s.ls[i]?=some l->∃l':LS,s'.ls[i]?=some l'/\l'.s=l.s/\l'.to=l.to/\l'.kd=l.kd/\l'.grp=l.grp/\l'.old=l.old
theorem Fr.refl(s:NS):Fr s s:=⟨rfl,rfl,rfl,rfl,rfl,λ_ l h=>⟨l,h,rfl,rfl,rfl,rfl,rfl⟩⟩
theorem Fr.trans{a b c:NS}(f:Fr a b)(g:Fr b c):Fr a c:=by
 refine⟨g.ws.trans f.ws,g.R.trans f.R,g.ts.trans f.ts,g.aO.trans f.aO,g.groups.trans f.groups,λi l h=>?_⟩;obtain⟨d,p,m,j,n,r,e⟩:=f.lt i l h;obtain⟨k,o,f1,f2,s,q,t⟩:=g.lt i d p;exact⟨k,o,f1.trans m,f2.trans j,s.trans n,q.trans r,t.trans e⟩
theorem Fr.ok{ns:List Int}{rs:List R5}{s s':NS}(f:Fr s s')(h:CL ns rs s):CL ns rs s' :=
 ⟨by rw[f.ws];exact h.wl,by rw[f.ws];exact h.w4,by rw[f.R];exact h.fit⟩
theorem Zh{s:NS}{i:Nat}{l a:LS}{had:List (List Nat)}{cps:List Cp}(hl:s.ls[i]?=some l)(c:a.s=l.s)(g:a.to=l.to)(d:a.kd=l.kd)(e:a.grp=l.grp)(f:a.old=l.old):Fr s {s with ls:=s.ls.set i a,had:=had,cps:=cps}:=by
 refine⟨rfl,rfl,rfl,rfl,rfl,λk b h=>?_⟩;show ∃b,(s.ls.set i a)[k]?=some b/\_;rw[gu (ai.mp hl).1];by_cases z:k=i
 ·subst z
  rw[hl] at h;cases h;exact⟨a,ee rfl,c,g,d,e,f⟩
 ·exact⟨b,by rw[er z];exact h,rfl,rfl,rfl,rfl,rfl⟩
theorem QZ{s:NS}{i:Nat}{d:dN}:Fr s (oY s i d):=by
 cases h:s.ls[i]? with
 |none=>unfold oY;rw[h];exact Fr.refl s
 |some l=>rw[fL h];exact Zh h rfl rfl rfl rfl rfl
structure Bd(n m D:Nat)(s:NS):Prop where
 gl:s.groups.length=s.aO.length
 AZ:s.aO.length<=20
 g3:∀g∈s.groups,g<3
 hm:∀h∈s.aO,h<n
 hl:s.had.length=s.aO.length
 hb:∀w∈s.had,w.length<=D
 ll:s.ls.length<=D
 lb:∀l∈s.ls,l.aD.length+s.cps.length<=D/\l.done.length<=D/\l.grp<3/\(l.kd=1∨l.kd=2)
 cb:s.cps.length<=D
 cl:∀c∈s.cps,c.l<s.ls.length/\c.r<m/\c.h<n
 tb:∀g,50*(s.ts g).length<=D/\bX (s.ts g)
theorem Bd.mono{n m D a:Nat}{s:NS}(b:Bd n m D s)(h:D<=a):Bd n m a s :=
 ⟨b.gl,b.AZ,b.g3,b.hm,b.hl,λw z=>aN (b.hb w z) h,aN b.ll h,λl z=>⟨aN (b.lb l z).1 h,aN (b.lb l z).2.1 h,(b.lb l z).2.2⟩,aN b.cb h,b.cl,λg=>⟨aN (b.tb g).1 h,(b.tb g).2⟩⟩
theorem Bd.set{n m D:Nat}{s:NS}{i:Nat}{l a:LS}(b:Bd n m D s)(k:Nat)(hl:s.ls[i]?=some l){cps:List Cp}{had:List (List Nat)}(u:cps.length<=s.cps.length+1)(k2:cps.length<=s.cps.length∨2<=k)(k1:1<=k)(t:a.aD.length+cps.length<=l.aD.length+s.cps.length+k)(v:a.done.length<=l.done.length+k)(q:a.grp=l.grp)(j:a.kd=l.kd)
 (p:∀c∈cps,c∈s.cps∨(c.l<s.ls.length/\c.r<m/\c.h<n)) (o:had.length=s.had.length) (f:∀w∈had,w.length<=D+k):Bd n m (D+k) {s with ls:=s.ls.set i a,had:=had,cps:=cps}:=by
 have d:=b.lb l (aM hl);refine⟨b.gl,b.AZ,b.g3,b.hm,o.trans b.hl,f,?_,λe z=>?_,?_,λc z=>?_,λg=>⟨aN (b.tb g).1 (wJ _ _),(b.tb g).2⟩⟩
 ·show (s.ls.set i a).length<=_
  rw[bT]
  have:=b.ll
  lia
 ·rcases List.mem_or_eq_of_mem_set z with z|rfl
  ·have h:=b.lb e z
   refine⟨?_,?_,h.2.2⟩
   ·show e.aD.length+cps.length<=_
    have:=h.1
    lia
   ·have:=h.2.1
    lia
  ·refine⟨?_,?_,q▸d.2.2.1,j▸d.2.2.2⟩
   ·show e.aD.length+cps.length<=_
    have:=d.1
    lia
   ·have:=d.2.1
    lia
 ·show cps.length<=_
  have:=b.cb
  lia
 ·show c.l<(s.ls.set i a).length/\_
  rw[bT];rcases p c z with y|y
  ·exact b.cl c y
  ·exact y
theorem Bd.al4{n m D:Nat}{s:NS}(b:Bd n m D s)(i:Nat)(d:dN):Bd n m (D+1) (oY s i d):=by
 cases h:s.ls[i]? with
 |none=>unfold oY;rw[h];exact b.mono (cV D)
 |some l =>
  rw[fL h];refine b.set 1 h (cV _) (.inl (ay _)) (ay _) ?_ (cV _) rfl rfl (λc z=>.inl z) rfl (λw z=>Nat.le_succ_of_le (b.hb w z));show (l.aD++[d]).length+_<=_;rw[av];show l.aD.length+1+_<=_;lia
noncomputable def eO(s:NS)(i h:Nat)(l:LS):NS:={s with ls:=s.ls.set i {l with done:=nV l.done h}}
theorem LI{s:NS}{i h:Nat}{l:LS}(hl:s.ls[i]?=some l):Fr s (eO s i h l):=Zh hl rfl rfl rfl rfl rfl
theorem Q0{n m D:Nat}{s:NS}{i h:Nat}{l:LS}(b:Bd n m D s)(hl:s.ls[i]?=some l):Bd n m (D+1) (eO s i h l):=by
 refine b.set 1 hl (cV _) (.inl (ay _)) (ay _) (cV _) ?_ rfl rfl (λc z=>.inl z) rfl (λw z=>Nat.le_succ_of_le (b.hb w z));show (nV l.done h).length<=_;unfold nV;split
 ·exact cV _
 ·rw[av];exact ay _
noncomputable def tX(s:NS)(i c:Nat):NS:={s with had:=s.had.set c (s.had.getD c []++[i])}
noncomputable def kZ(i h:Nat)(s:NS)(c:Nat):NS:=oY (tX s i c) i (.hand h c)
theorem Gu{s:NS}{i h c:Nat}:Fr s (kZ i h s c):=Fr.trans (b:=tX s i c) ⟨rfl,rfl,rfl,rfl,rfl,λ_ l h=>⟨l,h,rfl,rfl,rfl,rfl,rfl⟩⟩ QZ
theorem LJ{n m D:Nat}{s:NS}{i h c:Nat}(b:Bd n m D s):Bd n m (D+1) (kZ i h s c):=by
 have q:∀w∈(tX s i c).had,w.length<=D+1:=λw z=>by
  rcases List.mem_or_eq_of_mem_set z with y|rfl
  ·exact Nat.le_succ_of_le (b.hb w y)
  ·rw[av]
   refine Nat.add_le_add_right ?_ 1;rw[az];cases e:s.had[c]? with
   |none=>exact bN _
   |some w=>exact b.hb w (aM e)
 unfold kZ;cases d:s.ls[i]? with
 |none =>
  unfold oY;rw[show (tX s i c).ls[i]?=none from d];have a:=b.mono (cV D);exact⟨a.gl,a.AZ,a.g3,a.hm,by show (s.had.set _ _).length=_;rw[bT];exact a.hl,q,a.ll,a.lb,a.cb,a.cl,a.tb⟩
 |some l =>
  rw[fL (show (tX s i c).ls[i]?=some l from d)];refine b.set 1 d (cV _) (.inl (ay _)) (ay _) ?_ (cV _) rfl rfl (λc z=>.inl z) (by show (s.had.set _ _).length=_;rw[bT]) q;show (l.aD++[_]).length+s.cps.length<=_;rw[av];show l.aD.length+1+s.cps.length<=_;lia
noncomputable def gW(ws:List (List Nat))(r k:Nat):Nat:=match ws[r]? with|some w=>w.getD (k%w.length) 0|none=>0
noncomputable def eN(rs:List R5)(r h:Nat):Nat:=match rs[r]? with|some re=>fR re h|none=>0
noncomputable def Sv(s:NS)(i:Nat):Nat:=match s.ls[i]? with|some l=>gX l|none=>0
noncomputable def tY(rs:List R5)(i h:Nat)(s:NS)(r:Nat):NS:=Nl s i h r (gW s.ws r (Sv s i)) (eN rs r h)
theorem Gv{rs:List R5}{s:NS}{i h r:Nat}:Fr s (tY rs i h s r):=Fr.trans (QZ (i:=i) (d:=.send h r (gW s.ws r (Sv s i)))) ⟨rfl,rfl,rfl,rfl,rfl,λ_ l h=>⟨l,h,rfl,rfl,rfl,rfl,rfl⟩⟩
theorem OF{ns:List Int}{rs:List R5}(o:cX ns rs){r h:Nat}(a:r<rs.length):eN rs r h<ns.length:=by
 unfold eN;rw[aa a];have k:=o.ok _ (aQ a);have c:=k.a0;have b:=k.b0;have d:=k.a1;have e:=k.b1;show fR _ _<_;unfold fR;split <;> lia
theorem Q3{ns:List Int}{rs:List R5}(o:cX ns rs){D:Nat}{s:NS}{i h r:Nat}(b:Bd ns.length rs.length D s)(a:i<s.ls.length)(e:r<rs.length):Bd ns.length rs.length (D+2) (tY rs i h s r):=by
 have d:=aa a;unfold tY Nl;rw[fL d];refine b.set 2 d (by rw[av];exact ay _) (.inr (ay _)) (!_) ?_ (wJ _ _) rfl rfl (λc z=>?_) rfl (λw z=>aN (b.hb w z) (wJ _ _))
 ·show (s.ls[i].aD++[_]).length+(s.cps++[_]).length<=_
  rw[av,av];show s.ls[i].aD.length+1+(s.cps.length+1)<=_;lia
 ·rcases br.mp z with y|y
  ·exact .inl y
  ·rw[bq] at y
   subst y;exact .inr ⟨a,e,OF o e⟩
theorem yl{f:NS->Nat->NS}(h:∀s x,Fr s (f s x)):∀(xs:List Nat) (s:NS),Fr s (xs.foldl f s)
 |[],s=>Fr.refl s
 |x::xs,s=>(h s x).trans (yl h xs (f s x))
theorem AS{n m k:Nat}{f:NS->Nat->NS}(I:NS->Prop):∀(xs:List Nat) (s:NS) (D:Nat),(∀s x D,x∈xs->I s->Bd n m D s->I (f s x)/\Bd n m (D+k) (f s x))->I s->Bd n m D s->Bd n m (D+k*xs.length) (xs.foldl f s)
 |[],s,D,_,_,b=>b
 |x::xs,s,D,h,i,b=>by
  obtain⟨c,a⟩:=h s x D b9 i b
  have:=AS I xs (f s x) (D+k) (λs y D z=>h s y D (bu _ z)) c a
  refine this.mono (Nat.le_of_eq ?_);rw[bx,Nat.mul_succ];lia
theorem J9{f:NS->Nat->NS}{xs:List Nat}{s:NS}{j:Nat}(h:j<xs.length):(xs.take (j+1)).foldl f s=f ((xs.take j).foldl f s) xs[j]:=by
 rw[ju h,List.foldl_append];rfl
noncomputable def iz(s:NS)(l:LS)(h:Nat):List Nat:=(oh s h l.grp).filter λc=>DP l.s l.to l.kd c
noncomputable def Aw(rs:List R5)(s:NS)(l:LS)(h:Nat)(aU:Option Nat)(os:List Nat):List Nat:=(DB (s.ts l.grp) (rC l.to l.kd) h (aU.map λk:Nat=>(k:Int)) ((os.filter (isAt rs h)).map λk:Nat=>(k:Int)) ((oh s h l.grp).map λk:Nat=>(k:Int))).map Int.toNat
noncomputable def Np(rs:List R5)(s:NS)(i h:Nat)(l:LS)(aU:Option Nat)(os:List Nat):NS:=(Aw rs s l h aU os).foldl (tY rs i h) ((iz s l h).foldl (kZ i h) (eO s i h l))
theorem Dy{ts:List T3}{b:Option Int}{a:Int}{aU:Option Int}{os d:List Int}:(∀x∈DB ts b a aU os d,x∈os)/\(DB ts b a aU os d).length<=os.length:=by
 have f:(∀x∈os.filter (gx aU),x∈os)/\(os.filter (gx aU)).length<=os.length:=⟨λx z=>(bC.mp z).1,aX _ _⟩;unfold DB;split
 ·exact f
 ·split
  ·exact⟨λx z=>eL z (-_),bN _⟩
  ·split
   ·split
    ·rename_i r _ c
     refine⟨λx z=>?_,?_⟩
     ·have:=(bC.mp z).1
      rw[bq] at this;exact this▸c
     ·refine aN (aX _ _) ?_
      show 1<=os.length;cases os with
      |nil=>cases c
      |cons=>simp
    ·exact f
   ·exact f
theorem XF{rs:List R5}{s:NS}{l:LS}{h:Nat}{aU:Option Nat}{os:List Nat}:(DB (s.ts l.grp) (rC l.to l.kd) h (aU.map λk:Nat=>(k:Int)) ((os.filter (isAt rs h)).map λk:Nat=>(k:Int)) ((oh s h l.grp).map λk:Nat=>(k:Int))).map V.int=bR (Aw rs s l h aU os):=by
 unfold Aw;rw[bR,dw];refine c6 λx a=>?_;obtain⟨k,_,rfl⟩:=aL.mp (Dy.1 x a);rfl
theorem Q4{rs:List R5}{s:NS}{l:LS}{h:Nat}{aU:Option Nat}{os:List Nat}:(∀r∈Aw rs s l h aU os,r∈os)/\(Aw rs s l h aU os).length<=os.length:=by
 unfold Aw;refine⟨λr b=>?_,?_⟩
 ·obtain⟨x,c,rfl⟩:=aL.mp b
  obtain⟨k,a,rfl⟩:=aL.mp (Dy.1 x c);exact (bC.mp a).1
 ·rw[ah]
  refine aN Dy.2 ?_;rw[ah];exact aX _ _
theorem Nq{s:NS}{l:LS}{h:Nat}:(∀c∈iz s l h,c<s.aO.length)/\(iz s l h).length<=s.aO.length:=by
 unfold iz oh;refine⟨λc z=>dm.mp (bC.mp (bC.mp z).1).1,?_⟩;refine aN (aX _ _) (aN (aX _ _) ?_);rw[bB];exact ay _
theorem EA{ns:List Int}{rs:List R5}{o:cX ns rs}{s:NS}{g:Nat}{os:List Nat}(O:eU (kJ ns rs o s.ws g) (s.R g) os){r:Nat}(d:r∈os):r<rs.length/\∃w,s.ws[r]?=some w/\w≠[]:=by
 obtain⟨a,b,t⟩:=(O.2 r).mp d;have m:r∈Qn rs s.ws g:=t.AD.1;refine⟨zh r m,?_⟩;have e:=(bC.mp m).2;unfold isLive at e;split at e
 ·rename_i h w f c
  refine⟨w,c,λz=>?_⟩;subst z;cases e
 ·cases e
theorem LK{rs:List R5}{s:NS}{i h:Nat}{l:LS}{aU:Option Nat}{os:List Nat}(hl:s.ls[i]?=some l):Fr s (Np rs s i h l aU os):=((LI hl).trans (yl (λ_ _=>Gu) _ _)).trans (yl (λ_ _=>Gv) _ _)
end
section
variable{P:Program}{w:World}{K:af}{mg:Str->Option Value}{base:Heap}
theorem abe{c:NC}{H:Hp}{a b:Addr}{l:LS}{d:Addr}(h:H a=some (rD c b l))(k:l.kd=1∨l.kd=2):EY d c.let1 c.ac7 H a l.s l.to l.kd:=by
 rcases k with e|e
 ·rw[e]
  refine .one b ?_;rw[h];unfold rD;rw[ee e]
 ·rw[e]
  refine .all b ?_;rw[h];unfold rD;rw[er (by rw[e];decide)]
inductive Zi(K:af)(CT:Addr)(c:NC)(vs:List V)(H:Hp)(Q:VK)(E:XK):Prop
 |mk (F:Addr->Prop) (p tp ln lr:Addr) (ns:List Int) (rs:List R5) (s:NS) (o:cX ns rs) (i h:Nat) (aU:Option Nat) (l:LS) (D:Nat):vs=[.ref p,.int i,.int h,iE (aU.map λk:Nat=>(k:Int))]->NW K c CT H F p tp ln lr ns rs s->CL ns rs s->Bd ns.length rs.length D s->D<=900000->s.ls[i]?=some l->(∀os F' H',eU (kJ ns rs o s.ws l.grp) (s.R l.grp) os->os.length<=12->NW K c CT H' F' p tp ln lr ns rs (Np rs s i h l aU os)->Step H F H' F'->Q .fH H')->Zi K CT c vs H Q E
theorem wG{t:Ad}(T:Txt K mg t):cz P w K mg base iM 7 t.i8 t.lE ["self","number","house","came"]  (Zi K t.bD (nc t)):=by
 refine T.qC.F.kh eK λH Q E Y h=>?_
 ·obtain⟨F,p,tp,ln,lr,ns,rs,st,o,i,f,M,l,D,rfl,N,Ey,bd,hD,G,k⟩:=h
  refine⟨_,(aq (sS 4 eK (xL (aY (pv 0) rfl) (pv 1))) (aq (sS 5 eK (aY (pv 4) rfl)) (aq (KA (CG Y) (aY (pv 4) rfl) (pv 2) PN rfl) (aq (sS 6 eK (cG (Pq T) Y T.JN (YO (aY (pv 0) rfl) (cM (pv 0) T.bV T.xH (Au T) Y (gV (pv 5))) (cM (pv 0) T.bV T.sV (uD T) Y (gV (pv 5))) (pv 2)))) (aq (sS 7 eK (cM (pv 0) T.bV T.wg (Dv T) Y (nZ (pv 2) (pv 5)))) (aq (sS 8 eK (cG (Pr T) Y T.JM (SE (xL (aY (pv 0) rfl) (pv 5)) (aY (pv 4) rfl) (pv 2) (pv 3) (pv 6) (pv 7)))) (aq (fS (fV (xT (pv 8) aB)) (gT 9 eK) (aq (fE (pS be bh bg eE (xL (aY (pv 0) rfl) (pv 9)) (gV (pv 1)))) (oE (pS be bh bg eE (aY (pv 4) rfl) (gV (dU (Ir gF (pv 2) (pv 9)))))))) (bJ (fS (fV (xT (pv 8) aB)) (gT 10 eK) (oE (cM (pv 0) T.bV T.Hh (Nm T) Y (Ir (pv 1) (pv 2) (pv 10))))))))))))),?_⟩
  left
  obtain⟨g,dx,q,hp,O,hF,hT⟩:=id N.fC;have X:mV K (nc t) H F g dx q p tp ns.length st:=⟨hp,O,hF,hT⟩;have cC:=O.get .fC _ rfl;rw[hp] at cC;have hil:=(ai.mp G).1;obtain⟨lb1,lb2,hg,lkd⟩:=bd.lb l (aM G);have XD:=O.get .cT _ rfl;have Iu:=O.get (.bW i) (mW (nc t) dx g i l) (by show (st.ls[i]?.map _)=_;rw[G];rfl);have hdo:=O.get (.done i) (.dK (l.done.map λh:Nat=>(gC (h:Int),.bl true))) (by show (st.ls[i]?.map _)=_;rw[G];rfl);refine bI λNx J=>?_;refine⟨_,rfl,p,_,_,_,_,rfl,cC,T.bV,T.eX,rfl,_,rfl,g .cT,_,_,_,rfl,rfl,bP.of XD,qm hil,J _ _ ?_⟩;refine bI λNx J=>?_;refine⟨_,rfl,g (.bW i),_,_,_,_,rfl,Iu,T.dj,T.jT,rfl,J _ _ ?_⟩;refine bI λNx J=>?_;refine⟨_,rfl,g (.bW i),_,_,_,_,rfl,Iu,T.dj,T.oF,rfl,_,rfl,g (.done i),_,rfl,Kz.k (k:=.inl (f:Int)) hdo (mj (by rw[ah];lia)),?_⟩;rw[Su];refine J _ _ ?_;obtain⟨X1,st1⟩:=UI X G (nV l.done f);have N1:=N.done st1 X1.fC;generalize upd H (g (.done i)) (.dK ((nV l.done f).map λh:Nat=>((gC (h:Int):Key),V.bl true)))=H1 at X1 st1 N1;have fr1:=LI (h:=f) G;have Zj:=Q0 (h:=f) bd G;have es1:eO st i f l={st with ls:=st.ls.set i {l with done:=nV l.done f}}:=rfl;rw[<- es1] at X1 N1;have EB:(eO st i f l).ls[i]?=some {l with done:=nV l.done f}:=by
   show (st.ls.set i _)[i]?=_;rw[gu hil,ee rfl]
  have ets:(eO st i f l).ts=st.ts:=rfl;have ehe:oh (eO st i f l) f l.grp=oh st f l.grp:=rfl;have k1:∀os F' H',eU (kJ ns rs o (eO st i f l).ws l.grp) ((eO st i f l).R l.grp) os->os.length<=12->NW K (nc t) t.bD H' F' p tp ln lr ns rs ((Aw rs st l f M os).foldl (tY rs i f) ((iz st l f).foldl (kZ i f) (eO st i f l)))->Step H1 F H' F'->Q .fH H':=λos F' H' a b c d=>k os F' H' a b c (st1.trans d);have Sw:=fr1.ok Ey;have ehd:iz st l f=(oh (eO st i f l) f l.grp).filter λc:Nat=>DP l.s l.to l.kd c:=rfl;have ego:∀os,Aw rs st l f M os=(DB ((eO st i f l).ts l.grp) (rC l.to l.kd) f (M.map λk:Nat=>(k:Int)) ((os.filter (isAt rs f)).map λk:Nat=>(k:Int)) ((oh (eO st i f l) f l.grp).map λk:Nat=>(k:Int))).map Int.toNat:=λos=>rfl;have hgi:∀os,(DB ((eO st i f l).ts l.grp) (rC l.to l.kd) f (M.map λk:Nat=>(k:Int)) ((os.filter (isAt rs f)).map λk:Nat=>(k:Int)) ((oh (eO st i f l) f l.grp).map λk:Nat=>(k:Int))).map V.int=bR (Aw rs st l f M os):=λos=>XF;have B:∀os,(∀r∈Aw rs st l f M os,r∈os)/\(Aw rs st l f M os).length<=os.length:=λos=>Q4;have U:(∀c∈iz st l f,c<(eO st i f l).aO.length)/\(iz st l f).length<=(eO st i f l).aO.length:=Nq;have hhi:((oh (eO st i f l) f l.grp).map λk:Nat=>(k:Int)).filter (DP l.s l.to l.kd)=(iz st l f).map λk:Nat=>(k:Int):=by
   rw[ehd,List.filter_map];rfl
  generalize Aw rs st l f M=I at k1 hgi B;generalize iz st l f=n at k1 U hhi;generalize eO st i f l=m at X1 N1 Zj k1 EB Sw hgi U hhi;have al9:=(ai.mp EB).1;have mD:=X1.own.get .fC _ rfl;rw[X1.hp] at mD;refine bI λNx J=>?_;refine⟨_,rfl,p,_,_,_,_,rfl,mD,T.bV,T.oG,rfl,?_⟩;refine⟨_,rfl,p,_,_,rfl,mD,rfl,_,rfl,F,p,tp,ln,lr,ns,rs,m,l.grp,rfl,N1,o,Sw,hg,λa1 H2 t2 ha1 h1=>?_⟩;refine⟨_,rfl,p,_,_,rfl,t2 _ _ mD,rfl,_,rfl,F,p,tp,ns.length,l.grp,m,rfl,(N1.mono t2).fC,hg,λa2 qs H3 t3 ha2 h2 ht=>?_⟩;refine⟨_,rfl,tp,ln,lr,a1,a2,ns,rs,_,o.nd,o.ok,zh,m.R l.grp,f,rfl,(N1.mono (t2.trans t3)).vP,bP.of (t3 _ _ h1),ht.OT (bP.of h2),by have:=o.O2;lia,o.V0,Sw.fit l.grp hg,λlo os H4 t4 Vt hlo hO h12=>J _ _ ?_⟩;have t14:=t2.trans (t3.trans t4);refine bI λNx J=>?_;refine⟨_,rfl,p,_,_,rfl,t14 _ _ mD,rfl,_,rfl,_,rfl,F,p,tp,ns.length,f,l.grp,m,rfl,(N1.mono t14).fC,Zj.gl,Zj.AZ,λlh H5 t5 ahD XG=>J _ _ ?_⟩;have t15:=t14.trans t5;have X5:=X1.mono t15;have abf:=t5 _ _ hlo;have ad3:=X5.own.get (.bW i) (mW (nc t) dx g i {l with done:=nV l.done f}) (by show (m.ls[i]?.map _)=_;rw[EB];rfl);have ad4:=X5.own.get (.letter i) (rD (nc t) (dx (.letter i)) {l with done:=nV l.done f}) (by show (m.ls[i]?.map _)=_;rw[EB];rfl);rw[jJ] at abf XG;refine bI λNx J=>?_;refine⟨_,rfl,p,_,_,_,_,rfl,t15 _ _ mD,T.bV,T.qe,rfl,_,rfl,g .kq,_,_,_,rfl,rfl,bP.of (X5.own.get .kq _ rfl),qm hg,_,rfl,g (.bW i),_,_,_,_,rfl,ad3,T.dj,T.gY,rfl,_,rfl,_,rfl,_,rfl,_,rfl,g (.book l.grp),g (.fq l.grp),g (.letter i),lo,lh,m.ts l.grp,l.s,l.to,l.kd,f,M.map λk:Nat=>(k:Int),_,_,rfl,X5.own.KN hg,abe ad4 lkd,bP.of abf,bP.of XG,?_,?_,λtq b1 b2 H6 t6 ahF ahG ahH ama htq hb1 hb2=>J _ _ ?_⟩
  ·rw[ah]
   have:=aX (isAt rs f) os
   lia
  ·rw[ah]
   unfold oh
   have:=aX (Co m f l.grp) (aA m.aO.length)
   rw[bB] at this
   have:=Zj.AZ
   lia
  rw[hhi,<- jJ] at hb1;rw[hgi os] at hb2;have B:=B os;have k1:=k1 os;generalize I os=I at hb2 B k1;have t16:=t15.trans t6;have X6:=X1.mono t16;have nF:∀{b},H5 b=none->¬F b:=λ{b} e z=>by
   obtain⟨u,e'⟩:=X5.fC.there z;rw[e] at e';cases e'
  have nq:=nF ahF;have n1:=nF ahG;have n2:=nF ahH;have ad5:Step H1 F H6 F:=Step.refl' t16;refine bI λNx J=>?_;refine⟨_,rfl,tq,_,0,_,rfl,rfl,cQ.of htq,rfl,b1,rfl,⟨_,bP.of hb1⟩,vO (K:=K) (a:=b1) (xs:=bR n) (λj σ H7=>∃(q7:TQ) (v9:Option V),mV K (nc t) H7 F g dx q7 p tp ns.length ((n.take j).foldl (kZ i f) m)/\Step H6 F H7 F/\σ=[some (.ref p),some (.int i),some (.int f),some (iE (M.map λk:Nat=>(k:Int))),some (.ref (g (.bW i))),some (.int l.grp),some (.ref lo),some (.ref lh),some (.ref tq),v9,none]) ⟨q,none,X6,Step.refl' (aG.refl _),rfl⟩ (λj σ H7 _ z=>?_) ?_ ?_⟩
  ·obtain⟨q7,v9,S,Ow,rfl⟩:=z
   exact bP.of (Ow.kp _ _ hb1 n1)
  ·rintro j y σ H7 Nf Gd hj ⟨q7,v9,S,Ow,rfl⟩
   have C:j<n.length:=by
    have:=(ai.mp hj).1
    rw[ah] at this;exact this
   rw[aj,aa C] at hj;cases hj;rw[J9 C] at Gd;have b7:Bd ns.length rs.length (D+1+1*(n.take j).length) ((n.take j).foldl (kZ i f) m):=AS (λ_=>True) _ _ _ (λs x D _ _ b=>⟨trivial,LJ b⟩) trivial Zj;have f7:Fr m ((n.take j).foldl (kZ i f) m):=yl (λ_ _=>Gu) _ _;have hjt:(n.take j).length<=20:=by
    rw[bQ]
    have:=U.2
    have:=Zj.AZ
    lia
   obtain⟨l7,S1,_⟩:=f7.lt i _ EB;have A:n[j]<((n.take j).foldl (kZ i f) m).had.length:=by
    rw[b7.hl,f7.aO];exact U.1 _ (aQ C)
   generalize (n.take j).foldl (kZ i f) m=v at S b7 S1 A Gd;show iD 9 (V.int ((n[j]:Nat):Int)) _ _ _;generalize n[j]=c at A Gd;have Zk:=S.own.get .fC _ rfl;rw[S.hp] at Zk;have hhc:=S.own.get (.handed c) (.lst (bR v.had[c])) (by show (v.had[c]?.map _)=_;rw[aa A];rfl);have hwl:=b7.hb _ (aQ A);have hdl:=(b7.lb l7 (aM S1)).1;refine⟨_,rfl,p,_,_,_,_,rfl,Zk,T.bV,T.C7,rfl,_,rfl,g .mU,_,_,_,rfl,rfl,bP.of (S.own.get .mU _ rfl),qm A,.inl ⟨rfl,_,bP.of hhc⟩,_,rfl,g (.handed c),_,_,rfl,rfl,hhc,mj (by rw[ah];lia),?_⟩;obtain⟨X8,Z⟩:=UJ S A (v.had[c]++[i]);rw[jI] at X8 Z;generalize upd H7 (g (.handed c)) (.lst (bR v.had[c]++[V.int i]))=H8 at X8 Z;have es:{v with had:=v.had.set c (v.had[c]++[i])}=tX v i c:=by
    unfold tX;rw[az,aa A];rfl
   rw[es] at X8;have W:(tX v i c).ls[i]?=some l7:=S1;have ahI:=X8.own.get (.bW i) (mW (nc t) dx g i l7) (by show ((tX v i c).ls[i]?.map _)=_;rw[W];rfl);have ad6:=X8.own.get (.aD i) (.lst ((q7.dq i).map V.ref)) (by show ((tX v i c).ls[i]?.map _)=_;rw[W];rfl);have PB:=(X8.tup.aD i _ W).len;rw[ah] at PB;refine⟨_,rfl,g (.bW i),_,_,_,_,rfl,ahI,T.dj,T.iK,rfl,.inl ⟨rfl,_,bP.of ad6⟩,_,rfl,_,rfl,ia,λz1 hz1=>?_⟩;have u1:=aG.new (o:=.tup [V.str "hand",V.int f,V.int c]) hz1;refine⟨g (.aD i),_,_,rfl,rfl,u1 _ _ ad6,mj (by rw[ah,PB];lia),?_⟩;obtain⟨X9,st9⟩:=CM (X8.mono u1) W (d:=.hand f c) (cQ.of au);rw[<- fL W] at X9;exact Gd _ _ ⟨_,_,X9,(Ow.trans Z).trans ((Step.refl' (F:=F) u1).trans st9),rfl⟩
  ·rintro σ H7 ⟨q7,v9,S,Ow,rfl⟩
   refine J _ _ ?_;rw[ah,iX] at S;have b7:Bd ns.length rs.length (D+1+1*n.length) (n.foldl (kZ i f) m):=AS (λ_=>True) _ _ _ (λs x D _ _ b=>⟨trivial,LJ b⟩) trivial Zj;have f7:Fr m (n.foldl (kZ i f) m):=yl (λ_ _=>Gu) _ _;have hjt:n.length<=20:=by
    have:=U.2
    have:=Zj.AZ
    lia
   have N7:=N1.done (ad5.trans Ow) S.fC;obtain⟨l7,S1,_⟩:=f7.lt i _ EB;have ad7:=f7.ok Sw;have V8:eU (kJ ns rs o (n.foldl (kZ i f) m).ws l.grp) ((n.foldl (kZ i f) m).R l.grp) os:=by rw[f7.ws,f7.R];exact hO
   generalize n.foldl (kZ i f) m=v at S b7 S1 N7 k1 ad7 V8;refine⟨_,rfl,tq,_,1,_,rfl,rfl,cQ.of (Ow.kp _ _ htq nq),rfl,b2,rfl,⟨_,bP.of (Ow.kp _ _ hb2 n2)⟩,vO (K:=K) (a:=b2) (xs:=bR I) (λj σ H8=>∃(F8:Addr->Prop) (v10:Option V),NW K (nc t) t.bD H8 F8 p tp ln lr ns rs ((I.take j).foldl (tY rs i f) v)/\Step H6 F H8 F8/\σ=[some (.ref p),some (.int i),some (.int f),some (iE (M.map λk:Nat=>(k:Int))),some (.ref (g (.bW i))),some (.int l.grp),some (.ref lo),some (.ref lh),some (.ref tq),v9,v10]) ⟨F,none,N7,Ow,rfl⟩ (λj σ H8 _ z=>?_) ?_ ?_⟩
   ·obtain⟨F8,v10,N8,Z,rfl⟩:=z
    exact bP.of (Z.kp _ _ hb2 n2)
   ·rintro j y σ H8 Nf Gd hj ⟨F8,v10,N8,Z,rfl⟩
    have C:j<I.length:=by
     have:=(ai.mp hj).1
     rw[ah] at this;exact this
    rw[aj,aa C] at hj;cases hj;rw[J9 C] at Gd;have hgl:∀r∈I,r<rs.length:=λr Y=>(EA V8 (B.1 r Y)).1;have f8:Fr v ((I.take j).foldl (tY rs i f) v):=yl (λ_ _=>Gv) _ _;have b8:Bd ns.length rs.length (D+1+1*n.length+2*(I.take j).length) ((I.take j).foldl (tY rs i f) v):=AS (λs=>i<s.ls.length) _ _ _ (λs x D hx hi b=>⟨by
     obtain⟨l',e,_⟩:=(Gv (rs:=rs) (h:=f) (i:=i) (r:=x) (s:=s)).lt i _ (aa hi);exact (ai.mp e).1,Q3 o b hi (hgl x (List.mem_of_mem_take hx))⟩) (ai.mp S1).1 b7
    have amc:(I.take j).length<=12:=by
     rw[bQ]
     have:=B.2
     lia
    obtain⟨hrl,L,hw,hwn⟩:=EA V8 (B.1 _ (aQ C));rw[<- f8.ws] at hw;obtain⟨l8,W,_⟩:=f8.lt i _ S1;have ad8:=f8.ok ad7;generalize (I.take j).foldl (tY rs i f) v=s8 at N8 b8 W hw ad8 Gd;show iD 10 (V.int ((I[j]:Nat):Int)) _ _ _;generalize I[j]=r at hrl hw Gd;obtain⟨amd,dx8,q8,t8,O8,hF8,hT8⟩:=id N8.fC;have Zl:=O8.get .fC _ rfl;rw[t8] at Zl;have hdl:=(b8.lb l8 (aM W)).1;have A:=b8.cb;have hwl:gX l8%L.length<L.length:=Nat.mod_lt _ (List.length_pos_iff.mpr hwn);have hwx:L[(((gX l8:Nat):Int)%(L.length:Int)).toNat]?=some L[gX l8%L.length]:=by
     rw[show (((gX l8:Nat):Int)%(L.length:Int))=((gX l8%L.length:Nat):Int) from rfl,cy];exact aa hwl
    have hre:=aa hrl;refine⟨_,rfl,p,_,_,rfl,Zl,rfl,_,rfl,_,rfl,_,rfl,F8,p,tp,ln,lr,ns,rs,s8,i,f,r,l8,rs[r],L,_,rfl,N8,o,ad8,W,∅,∅,hre,hw,hwx,hwn,λF9 H9 N9 st9=>?_⟩;refine Gd _ _ ⟨F9,_,?_,Z.trans st9,rfl⟩;have e1:gW s8.ws r (Sv s8 i)=L[gX l8%L.length]:=by
     unfold gW Sv;rw[hw,W];show L.getD (gX l8%L.length) 0=_;rw[az,aa hwl];rfl
    have e2:eN rs r f=fR rs[r] f:=by
     unfold eN;rw[hre]
    unfold tY;rw[e1,e2];exact N9
   ·rintro σ H8 ⟨F8,v10,N8,Z,rfl⟩
    rw[ah,iX] at N8;exact k1 F8 H8 hO h12 N8 (ad5.trans Z)
theorem abg{a b:TS}{D:Ends}{c:L2.St}{H:Hp}(J:L2.St->Hp->Prop)(d:∀c H,J c H->b D c H)(h:∀N:L2.St->Hp->Prop,(∀c H,J c H->N c H)->a {D with nx:=N} c H):Td a b D c H:=h _ d
inductive Q5(C:Addr)(vs:List V)(H:Hp)(Q:VK)(E:XK):Prop
 |mk (p dx la:Addr) (g:Int):vs=[.ref p,.ref la,.int g]->H p=some (.ins C dx [])->(∀da ea H',H da=none->H ea=none->da≠ea->H' p=some (.ins C dx [("letter",.ref la),("group",.int g),("old",.bl false),("done_at",.ref da),("deeds",.ref ea)])->H' da=some (.dK [])->H' ea=some (.lst [])->(∀b o,H b=some o->b≠p->H' b=some o)->Q .fH H')->Q5 C vs H Q E
theorem ED{t:Ad}(T:Txt K mg t):cz P w K mg base iM 1 t.i7 t.lD ["self","letter","group"]  (Q5 t.jd):=by
 refine T.yr.F.kh D3 λH Q E s h=>?_
 ·obtain⟨p,i,u,g,rfl,r,k⟩:=h
  refine⟨_,(aq (fZ (pv 0) (pv 1) rfl) (aq (fZ (pv 0) (pv 2) rfl) (aq (fZ (pv 0) PN rfl) (aq (fZ (pv 0) T7 rfl) (bJ (fZ (pv 0) (jq iP) rfl)))))),?_⟩
  left
  refine⟨_,rfl,_,rfl,p,_,i,_,rfl,r,T.dj,T.gY,(!_),?_⟩;rw[dG (names:=[]) rfl rfl];refine⟨_,rfl,_,rfl,p,_,i,_,rfl,au,T.dj,T.jT,(by show 1<1000;decide),?_⟩;rw[dG (names:=["letter"]) rfl (by decide +kernel),Kd];refine⟨_,rfl,p,_,i,_,rfl,au,T.dj,T.xN,(by show 2<1000;decide),?_⟩;rw[dG (names:=["letter","group"]) rfl (by decide +kernel),Kd];intro j a;have f:H j=none:=by
   by_cases z:j=p
   ·subst z;rw[au] at a;cases a
   ·rw[aH z] at a;exact a
  have q:p≠j:=aE r f;refine⟨_,rfl,p,_,i,_,rfl,(by rw[aH q];exact au),T.dj,T.oF,(by show 3<1000;decide),?_⟩;rw[dG (names:=["letter","group","old"]) rfl (by decide +kernel)];refine⟨bN _,λn c=>?_⟩;have l:n≠p:=λz=>by subst z;rw[au] at c;cases c
  rw[aH l] at c;have d:j≠n:=λz=>by subst z;rw[au] at c;cases c
  rw[aH (bL d),aH l] at c;refine⟨_,rfl,p,_,i,_,rfl,(by rw[aH (bL l)];exact au),T.dj,T.iK,(by show 4<1000;decide),?_⟩;rw[dG (names:=["letter","group","old","done_at"]) rfl (by decide +kernel)];refine k j n _ f c d au ?_ ?_ λb o e m=>?_
  ·rw[aH (bL q),aH d,aH (bL q)];exact au
  ·rw[aH l];exact au
  ·rw[aH m,aH (aE e c),aH m,aH (aE e f),aH m];exact e
noncomputable def cF(s:NS)(x:Nat)(to:Option Nat):LS:={s:=x,to:=to.getD 0,kd:=if to.isSome=true then 1 else 2,grp:=s.groups.getD x 0,old:=false,done:=[],aD:=[]}
noncomputable def Ka(s:NS)(l:LS):NS:={s with ls:=s.ls++[l]}
noncomputable def gj(s:NS)(x:Nat)(to:Option Nat):NS:={s with ls:=s.ls++[{cF s x to with aD:=[.post (s.aO.getD x 0)]}]}
noncomputable def c5(rs:List R5)(s:NS)(x:Nat)(to:Option Nat)(os:List Nat):NS:=Np rs (gj s x to) s.ls.length (s.aO.getD x 0) {cF s x to with aD:=[.post (s.aO.getD x 0)]} none os
theorem Sz{s:NS}{x:Nat}{to:Option Nat}:oY (Ka s (cF s x to)) s.ls.length (.post (s.aO.getD x 0))=gj s x to:=by
 rw[fL (l:=cF s x to) (by show (s.ls++[_])[s.ls.length]?=_;rw[cu (ay _),iY];rfl)];show {s with ls:=(s.ls++[_]).set s.ls.length _}={s with ls:=_};congr 1;rw[vJ _ _ (ay _),iY];rfl
theorem iA{s:NS}{l:LS}:(s.ls++[l])[s.ls.length]?=some l:=by rw[cu (ay _),iY];rfl
theorem Q6{n m D:Nat}{s:NS}{x:Nat}{to:Option Nat}(b:Bd n m D s)(g:x<s.aO.length):Bd n m (D+1) (gj s x to):=by
 have a:=b.mono (cV D);refine⟨a.gl,a.AZ,a.g3,a.hm,a.hl,a.hb,?_,λl z=>?_,a.cb,λc z=>?_,a.tb⟩
 ·show (s.ls++[_]).length<=_
  rw[av];exact Nat.add_le_add_right b.ll 1
 ·rcases br.mp z with y|y
  ·exact a.lb l y
  ·rw[bq] at y
   subst y;refine⟨?_,bN _,?_,?_⟩
   ·show 1+s.cps.length<=D+1
    have:=b.cb
    lia
   ·show s.groups.getD x 0<3
    have d:x<s.groups.length:=by rw[b.gl];exact g
    rw[az,aa d];exact b.g3 _ (aQ d)
   ·show (if _ then (1:Int) else 2)=1∨(if _ then (1:Int) else 2)=2
    split
    ·exact .inl rfl
    ·exact .inr rfl
 ·obtain⟨f,e⟩:=b.cl c z
  refine⟨?_,e⟩;show c.l<(s.ls++[_]).length;rw[av];exact bH f (wJ _ _)
inductive Q7(K:af)(CT:Addr)(c:NC)(vs:List V)(H:Hp)(Q:VK)(E:XK):Prop
 |mk (F:Addr->Prop) (p tp ln lr:Addr) (ns:List Int) (rs:List R5) (s:NS) (o:cX ns rs) (x:Nat) (to:Option Nat) (D:Nat):vs=[.ref p,.int x,iE (to.map λy:Nat=>(y:Int))]->NW K c CT H F p tp ln lr ns rs s->CL ns rs s->Bd ns.length rs.length D s->D<=800000->x<s.aO.length->(∀y,to=some y->y<s.aO.length/\s.groups[y]?=s.groups[x]?)->(∀os F' H',eU (kJ ns rs o s.ws (s.groups.getD x 0)) (s.R (s.groups.getD x 0)) os->os.length<=12->NW K c CT H' F' p tp ln lr ns rs (c5 rs s x to os)->Step H F H' F'->Q (.int s.ls.length) H')->Q7 K CT c vs H Q E
theorem Nr{t:Ad}(T:Txt K mg t):cz P w K mg base iM 8 t.iV t.xF ["self","sender","to"]  (Q7 K t.bD (nc t)):=by
 refine T.sW.kh um λH Q E X h=>?_
 ·obtain⟨F,p,tp,ln,lr,ns,rs,st,o,x,f,D,rfl,N,Ey,bd,hD,W,hto,k⟩:=h
  refine⟨_,(aq (fE (cM (pv 0) T.bV T.wm (Du T) X (nZ (pv 1) (pv 2)))) (aq (sS 3 um (yO (qT Oc (pv 2) iO) (PZ T.Xj (wC T) (X.mono (!_)) rfl T.Xi T.qB.B .nil mK (gV (pv 1))) (cI T.zK (Gb T) X T.Xh (nZ (pv 1) (pv 2))))) (aq (sS 4 um (lS T.iN (aY (pv 0) rfl))) (aq (fE (pS be bh bg eE (aY (pv 0) rfl) (gV (cI T.yr (ED T) X T.U6 (nZ (pv 3) (xL (aY (pv 0) rfl) (pv 1))))))) (aq (sS 5 um (xL (aY (pv 0) rfl) (pv 1))) (aq (fE (pS be bh bg eE (aY (xL (aY (pv 0) rfl) (pv 4)) rfl) (gV (dU (nZ gF (pv 5)))))) (aq (fE (cM (pv 0) T.bV T.qC (wG T) X (Ir (pv 4) (pv 5) iO))) (oR (pv 4))))))))),?_⟩
  left
  obtain⟨j,dx,q,hp,O,hF,hT⟩:=id N.fC;have cC:=O.get .fC _ rfl;rw[hp] at cC;have hxg:x<st.groups.length:=by rw[bd.gl];exact W
  refine bI λNx n=>?_;refine⟨_,rfl,p,_,_,rfl,cC,rfl,_,rfl,_,rfl,F,p,tp,ns.length,x,f,st,rfl,N.fC,W,bd.gl,hto,n _ _ ?_⟩;refine abg (λσ r=>∃la KQ,aG H r/\H la=none/\r la=some (rD (nc t) KQ (cF st x f))/\σ=[some (.ref p),some (.int x),some (iE (f.map λy:Nat=>(y:Int))),some (.ref la),none,none]) ?_ (λN hN=>?_)
  rotate_left
  ·cases f with
   |none =>
    refine⟨_,rfl,rfl,_,rfl,gB ?_⟩;refine⟨_,rfl,λz dz R J I=>⟨z,_,dz,x,rfl,au,T.xM,T.nK,rfl,?_⟩⟩;exact hN _ _ ⟨z,dz,made R J I,R,au,rfl⟩
   |some y =>
    refine⟨_,rfl,rfl,_,rfl,eZ ?_⟩;refine⟨_,rfl,_,rfl,λz dz R J I=>⟨z,dz,x,y,rfl,au,λH3 hy3 kp=>⟨rfl,?_⟩⟩⟩;exact hN _ _ ⟨z,dz,λb u e=>kp b u (((aG.new J).trans (aG.new (by rw[aH (bL I)];exact R))) b u e) (aE e R),R,hy3,rfl⟩
  rintro σ r ⟨la,KQ,s,abi,hla,rfl⟩;have mD:=s _ _ cC;have N1:=N.mono s;obtain⟨O1,T1⟩:=And.intro (O.mono s) (hT.mono λb x=>s.dB (a:=b) (xs:=x));have XH:=O1.get .cT _ rfl;refine bI λNx n=>?_;refine⟨_,rfl,p,_,_,_,_,rfl,mD,T.bV,T.eX,rfl,j .cT,_,rfl,.inl (bP.of XH),?_⟩;rw[ah,bB];refine n _ _ ?_;refine bI λNx n=>?_;refine⟨_,rfl,p,_,_,_,_,rfl,mD,T.bV,T.eX,rfl,.inl ⟨rfl,_,bP.of XH⟩,_,rfl,_,rfl,p,_,_,_,_,rfl,mD,T.bV,T.nN,rfl,_,rfl,j .groups,_,_,_,rfl,rfl,bP.of (O1.get .groups _ rfl),sA hxg,λpa DC c XI XJ=>⟨pa,DC,la,_,rfl,au,λda ea H2 G Sy nde h2p h2d h2e LQ=>⟨rfl,?_⟩⟩⟩;have m:aG r H2:=λb u e=>LQ b u (((aG.new XI).trans (aG.new (by rw[aH (bL XJ)];exact c))) b u e) (aE e c);have C:r da=none:=by
   cases e:r da with
   |none=>rfl
   |some u =>
    have:=((aG.new (o:=.own pa) XI).trans (aG.new (o:=.ins t.jd DC []) (by rw[aH (bL XJ)];exact c))) _ _ e
    rw[G] at this;cases this
  have A:r ea=none:=by
   cases e:r ea with
   |none=>rfl
   |some u =>
    have:=((aG.new (o:=.own pa) XI).trans (aG.new (o:=.ins t.jd DC []) (by rw[aH (bL XJ)];exact c))) _ _ e
    rw[Sy] at this;cases this
  have nF:∀{b},r b=none->¬F b:=λ{b} e z=>by
   obtain⟨u,e'⟩:=N1.fC.there z;rw[e] at e';cases e'
  have nFl:¬F la:=λz=>by
   obtain⟨u,e'⟩:=N.fC.there z;rw[abi] at e';cases e'
  have npd:pa≠da:=λz=>by rw[<- z,au] at G;cases G
  have npe:pa≠ea:=λz=>by rw[<- z,au] at Sy;cases Sy
  have Y7:∀{b},r b=none->la≠b:=λ{b} e=>aE hla e;have eg:st.groups.getD x 0=st.groups[x]:=by rw[az,aa hxg];rfl
  have ad9:=m _ _ XH;refine⟨j .cT,_,_,rfl,rfl,ad9,mj (by rw[ah,bB];have:=bd.ll;lia),?_⟩;obtain⟨F3,N3,kp3,fr3⟩:=UK (l:=cF st x f) (DC:=DC) (KQ:=KQ) (pa:=pa) (la:=la) (da:=da) (ea:=ea) hp (O1.mono m) hF (T1.mono λb x=>m.dB (a:=b) (xs:=x)) rfl (by show _=some (HO.ins _ _ [_,(_,V.int ((st.groups.getD x 0:Nat):Int)),_,_,_]);rw[eg];exact h2p) (m _ _ hla) h2d h2e (bL (Y7 c)) npd npe (Y7 C) (Y7 A) nde (nF c) nFl (nF C) (nF A);have M:Step H F _ F3:=⟨λb u e z=>kp3 b u (m _ _ (s _ _ e)) z,λb z=>by
   rcases fr3 b z with y|rfl|rfl|rfl|rfl
   ·exact .inl y
   ·exact .inr (s.free c)
   ·exact .inr abi
   ·exact .inr (s.free C)
   ·exact .inr (s.free A)⟩
  have W3:=N.done M N3;generalize upd H2 (j .cT) (.lst (((aA st.ls.length).map λi=>V.ref (j (.bW i)))++[.ref pa]))=H3 at M W3 N3;refine n _ _ ?_;obtain⟨L,Y,q3,Z,S,hF3,hT3⟩:=id W3.fC;have X3:mV K (nc t) H3 F3 L Y q3 p tp ns.length (Ka st (cF st x f)):=⟨Z,S,hF3,hT3⟩;have Dw:=S.get .fC _ rfl;rw[Z] at Dw;have g:(Ka st (cF st x f)).ls[st.ls.length]?=some (cF st x f):=iA;have XM:st.ls.length<(Ka st (cF st x f)).ls.length:=(ai.mp g).1;have eh:st.aO.getD x 0=st.aO[x]:=by rw[az,aa W];rfl
  refine bI λNx n=>?_;refine⟨_,rfl,p,_,_,_,_,rfl,Dw,T.bV,T.qg,rfl,_,rfl,L .aO,_,_,_,rfl,rfl,bP.of (S.get .aO _ rfl),sA W,n _ _ ?_⟩;have VA:=S.get (.bW st.ls.length) (mW (nc t) Y L st.ls.length (cF st x f)) (by show ((Ka st (cF st x f)).ls[st.ls.length]?.map _)=_;rw[g];rfl);have aea:=S.get (.aD st.ls.length) (.lst ((q3.dq st.ls.length).map V.ref)) (by show ((Ka st (cF st x f)).ls[st.ls.length]?.map _)=_;rw[g];rfl);have PB:=(X3.tup.aD _ _ g).len;rw[ah] at PB;refine bI λNx n=>?_;refine⟨_,rfl,p,_,_,_,_,rfl,Dw,T.bV,T.eX,rfl,_,rfl,L .cT,_,_,_,rfl,rfl,bP.of (S.get .cT _ rfl),qm XM,L (.bW st.ls.length),_,_,_,_,rfl,VA,T.dj,T.iK,rfl,.inl ⟨rfl,_,bP.of aea⟩,_,rfl,g8,λz1 hz1=>?_⟩;have u1:=aG.new (o:=.tup [V.str "post",V.int (st.aO[x]:Nat)]) hz1;refine⟨L (.aD st.ls.length),_,_,rfl,rfl,u1 _ _ aea,mj (by rw[ah,PB];exact bN _),?_⟩;obtain⟨U,Ma⟩:=CM (X3.mono u1) g (d:=.post st.aO[x]) (cQ.of au);rw[<- fL g,<- eh,Sz] at U;rw[<- eh] at Ma u1;rw[<- eh];have v:=M.trans ((Step.refl' (F:=F3) u1).trans Ma);have W4:=N.done v U.fC;generalize upd (upd H3 z1 (.tup [V.str "post",V.int (st.aO.getD x 0:Nat)])) (L (.aD st.ls.length)) (.lst ((q3.dq st.ls.length).map V.ref++[.ref z1]))=H4 at U v W4;refine n _ _ ?_;have FF:=U.own.get .fC _ rfl;rw[U.hp] at FF;have abk:CL ns rs (gj st x f):=⟨Ey.wl,Ey.w4,Ey.fit⟩;refine bI λNx n=>?_;refine⟨_,rfl,p,_,_,rfl,FF,rfl,_,rfl,_,rfl,F3,p,tp,ln,lr,ns,rs,gj st x f,o,st.ls.length,st.aO.getD x 0,none,{cF st x f with aD:=[.post (st.aO.getD x 0)]},D+1,rfl,W4,abk,Q6 bd W,∅,iA,λos F5 H5 hO h12 W5 NO=>?_⟩;exact n _ _ ⟨_,rfl,k os F5 H5 hO h12 W5 (v.trans NO)⟩
theorem Zm{ns:List Int}{rs:List R5}(o:cX ns rs){D:Nat}{s:NS}{i h:Nat}{l:LS}{aU:Option Nat}{os:List Nat}(b:Bd ns.length rs.length D s)(hl:s.ls[i]?=some l)(O:eU (kJ ns rs o s.ws l.grp) (s.R l.grp) os)(m:os.length<=12):Bd ns.length rs.length (D+45) (Np rs s i h l aU os):=by
 have g:=Q0 (h:=h) b hl;have f1:=LI (h:=h) hl;have n:Bd ns.length rs.length (D+1+1*(iz s l h).length) ((iz s l h).foldl (kZ i h) (eO s i h l)):=AS (λ_=>True) _ _ _ (λs x D _ _ b=>⟨trivial,LJ b⟩) trivial g;have p:Fr (eO s i h l) ((iz s l h).foldl (kZ i h) (eO s i h l)):=yl (λ_ _=>Gu) _ _;obtain⟨u,a,_⟩:=(f1.trans p).lt i l hl;have w:=(Nq (s:=s) (l:=l) (h:=h)).2;have v:=b.AZ;have d:=Q4 (rs:=rs) (s:=s) (l:=l) (h:=h) (aU:=aU) (os:=os);have y:=d.2;have j:=AS (k:=2) (f:=tY rs i h) (λs=>i<s.ls.length) (Aw rs s l h aU os) _ _ (λs x D q c b=>⟨by
  obtain⟨t,e,_⟩:=(Gv (rs:=rs) (h:=h) (i:=i) (r:=x) (s:=s)).lt i _ (aa c);exact (ai.mp e).1,Q3 o b c (EA O (d.1 x q)).1⟩) (ai.mp a).1 n
 exact j.mono ∅
noncomputable def uE(l:LS)(cp:Cp)(os:List Nat):Str:=if cp.r∈os then (if Av l cp.h=true then "twice" else "come") else "lost"
noncomputable def fU(l:LS)(cp:Cp)(os:List Nat):dN:=if cp.r∈os then (if Av l cp.h=true then .twice cp.h cp.r else .Iz cp.h cp.r) else .WY cp.h cp.r
theorem XN{l:LS}{cp:Cp}{os:List Nat}:(fU l cp os).vs=[.str (uE l cp os),.int cp.h,.int cp.r]:=by
 unfold fU uE;split
 ·split <;> rfl
 ·rfl
noncomputable def comes(l:LS)(cp:Cp)(os:List Nat):Bool:=decide (cp.r∈os)&&!Av l cp.h
theorem SA{l:LS}{cp:Cp}{os:List Nat}:decide (V.str (uE l cp os)=V.str "come")=comes l cp os:=by
 unfold uE comes;by_cases e:cp.r∈os
 ·rw[ee e,fy e]
  cases Av l cp.h
  ·rw[er (!_)];decide +kernel
  ·rw[ee rfl];decide +kernel
 ·rw[er e,gU e,Bool.false_and];decide +kernel
noncomputable def Nt(s:NS)(a:Nat):NS:={s with cps:=s.cps.eraseIdx a}
noncomputable def Q8(s:NS)(g:Nat)(ts:List T3):NS:={s with ts:=fD s.ts g ts}
noncomputable def j8(s:NS)(a:Nat)(cp:Cp)(l:LS)(os:List Nat):NS:={s with cps:=s.cps.eraseIdx a,ls:=s.ls.set cp.l {l with aD:=l.aD++[fU l cp os]}}
noncomputable def bA(s:NS)(a:Nat)(cp:Cp)(l:LS)(os:List Nat)(ts:List T3):NS:=if l.old=true then j8 s a cp l os else Q8 (j8 s a cp l os) l.grp ts
noncomputable def gk(rs:List R5)(s:NS)(a:Nat)(cp:Cp)(l:LS)(os:List Nat)(ts:List T3):NS :=
 if comes l cp os=true then Np rs (bA s a cp l os ts) cp.l cp.h {l with aD:=l.aD++[fU l cp os]} (some cp.r) os else j8 s a cp l os
theorem EE{n m D:Nat}{s:NS}{a:Nat}{cp:Cp}{l:LS}{os:List Nat}(b:Bd n m D s)(hl:s.ls[cp.l]?=some l)(d:a<s.cps.length):Bd n m (D+1) (j8 s a cp l os):=by
 have e:(s.cps.eraseIdx a).length+1=s.cps.length:=by
  rw[List.length_eraseIdx,ee d];lia
 refine b.set 1 hl ∅ (.inl ∅) (ay _) ?_ (cV _) rfl rfl (λc z=>.inl (List.mem_of_mem_eraseIdx z)) rfl (λw z=>Nat.le_succ_of_le (b.hb w z));show (l.aD++[_]).length+_<=_;rw[av];show l.aD.length+1+_<=_;lia
theorem VB{ts ts':List T3}{h c r:Int}(p:ts'.Perm (put3 ts h c r)):ts'.length<=ts.length+1:=by
 rw[p.length_eq];unfold put3;rw[av];exact Nat.add_le_add_right (aX _ _) 1
theorem XO{n m D:Nat}{s:NS}{g:Nat}{ts:List T3}{h c r:Int}(b:Bd n m D s)(p:ts.Perm (put3 (s.ts g) h c r))(e:bX ts):Bd n m (D+50) (Q8 s g ts):=by
 have a:=b.mono (wJ D 50);refine⟨a.gl,a.AZ,a.g3,a.hm,a.hl,a.hb,a.ll,a.lb,a.cb,a.cl,λd=>?_⟩;show 50*(fD s.ts g ts d).length<=_/\bX (fD s.ts g ts d);by_cases z:d=g
 ·subst z
  rw[bS];refine⟨?_,e⟩
  have:=VB p
  have:=(b.tb d).1
  lia
 ·rw[cZ z]
  exact a.tb d
theorem EF{s:NS}{a:Nat}{cp:Cp}{l:LS}{os:List Nat}(hl:s.ls[cp.l]?=some l):(j8 s a cp l os).ls[cp.l]?=some {l with aD:=l.aD++[fU l cp os]}:=by
 show (s.ls.set cp.l _)[cp.l]?=_;rw[gu (ai.mp hl).1,ee rfl]
theorem jf{s:NS}{a:Nat}{cp:Cp}{l:LS}{os:List Nat}{ts:List T3}(hl:s.ls[cp.l]?=some l):(bA s a cp l os ts).ls[cp.l]?=some {l with aD:=l.aD++[fU l cp os]}:=by
 unfold bA;split
 ·exact EF hl
 ·exact EF (a:=a) hl
theorem tZ{s:NS}{a:Nat}{cp:Cp}{l:LS}{os:List Nat}{ts:List T3}:(bA s a cp l os ts).ws=s.ws/\(bA s a cp l os ts).R=s.R/\(bA s a cp l os ts).aO=s.aO/\(bA s a cp l os ts).groups=s.groups:=by
 unfold bA;split <;> exact⟨rfl,rfl,rfl,rfl⟩
theorem Nu{n m D:Nat}{s:NS}{a:Nat}{cp:Cp}{l:LS}{os:List Nat}{ts:List T3}{h c r:Int}(b:Bd n m D s)(hl:s.ls[cp.l]?=some l)(d:a<s.cps.length)(p:ts.Perm (put3 (s.ts l.grp) h c r))(e:bX ts):Bd n m (D+51) (bA s a cp l os ts):=by
 unfold bA;split
 ·exact (EE b hl d).mono ∅
 ·exact (XO (h:=h) (c:=c) (r:=r) (EE b hl d) p e).mono ∅
theorem XQ{ns:List Int}{rs:List R5}(o:cX ns rs){D:Nat}{s:NS}{a:Nat}{cp:Cp}{l:LS}{os:List Nat}{ts:List T3}{h c r:Int}(b:Bd ns.length rs.length D s)(hl:s.ls[cp.l]?=some l)(f:a<s.cps.length)(O:eU (kJ ns rs o s.ws l.grp) (s.R l.grp) os)(d:os.length<=12)(p:ts.Perm (put3 (s.ts l.grp) h c r))(g:bX ts):Bd ns.length rs.length (D+100) (gk rs s a cp l os ts):=by
 unfold gk;split
 ·have e:=tZ (s:=s) (a:=a) (cp:=cp) (l:=l) (os:=os) (ts:=ts)
  exact (Zm o (Nu (h:=h) (c:=c) (r:=r) b hl f p g) (jf hl) (by rw[e.1,e.2.1];exact O) d).mono ∅
 ·exact (EE b hl f).mono ∅
theorem _root_.TW.dF.erase{H:Hp}{qs:List Addr}{xs:List (List V)}(h:dF K H qs xs)(a:Nat):dF K H (qs.eraseIdx a) (xs.eraseIdx a):=by
 refine⟨by rw[List.length_eraseIdx,List.length_eraseIdx,h.len],λi q x b c=>?_⟩;rw[List.getElem?_eraseIdx] at b c;by_cases z:i<a
 ·rw[ee z] at b c
  exact h.at' i q x b c
 ·rw[er z] at b c
  exact h.at' (i+1) q x b c
theorem EH{α β:Type}(f:α->β):∀(xs:List α) (a:Nat),(xs.map f).eraseIdx a=(xs.eraseIdx a).map f
 |[],_=>rfl
 |_::_,0=>rfl
 |x::xs,a+1=>g7 (f x::·) (EH f xs a)
theorem VC{c:NC}{H d:Hp}{F:Addr->Prop}{a i:Role->Addr}{q:TQ}{p m:Addr}{n g:Nat}{s:NS}(X:mV K c H F a i q p m n s)(f:g<3)(ts:List T3)(y:d (a (.fq g))=some (.dT (ts.map fk)))(w:∀b o,H b=some o->b≠a (.fq g)->d b=some o) :
 mV K c d F a i q p m n (Q8 s g ts)/\Step H F d F:=by
 obtain⟨v,h⟩:=AH X (r:=.fq g) (o:=.dT (ts.map fk)) (q':=q) (s':=Q8 s g ts) (by show (if g<3 then some _ else none)≠none;rw[ee f];exact aS _) (λx=>by
  cases x <;> first|rfl|skip
  rename_i k;show jr (desc c i m a q s) (.fq g) _ (.fq k)=(if k<3 then some (HO.dT ((fD s.ts g ts k).map fk)) else none);by_cases z:k=g
  ·subst z
   rw[eF,ee f,bS]
  ·rw[dM (λe=>z (by cases e;rfl)),cZ z]
   rfl) (λj=>⟨λg f=>(X.tup.rows g f).mono j,λk l e=>(X.tup.aD k l e).mono j,X.tup.cps.mono j⟩)
 have t:aG (upd H (a (.fq g)) (.dT (ts.map fk))) d:=λb u e=>by
  by_cases z:b=a (.fq g)
  ·rw[z,au] at e
   cases e;rw[z];exact y
  ·rw[aH z] at e
   exact w b u e z
 exact⟨v.mono t,h.trans (Step.refl' t)⟩
theorem XR{t:Ad}(T:Txt K mg t){b a:Role->Addr}{g:L2.St}{H:Hp}{Q:VK}{i:Nat}{l:LS}(f:∀Q:VK,Q (.ref (a (.bW i))) H->Kg 6 g H Q)(h:H (a (.bW i))=some (mW (nc t) b a i l))(c:H (a (.letter i))=some (rD (nc t) (b (.letter i)) l))(q:Q (.int l.s) H) :
 GB K (GB K (Kg 6) (Str.ofString "letter")) (Str.ofString "sender") g H Q:=by
 by_cases e:l.kd=1
 ·have d:H (a (.letter i))=some (.ins t.fY (b (.letter i)) [("sender",.int l.s),("to",.int l.to)]):=by rw[c];unfold rD;rw[ee e]
  unfold GB;exact (f _ ⟨a (.bW i),_,_,_,_,rfl,h,T.dj,T.gY,rfl,a (.letter i),_,b (.letter i),_,_,rfl,d,T.pL,T.sX,rfl,q⟩)
 ·have d:H (a (.letter i))=some (.ins t.iW (b (.letter i)) [("sender",.int l.s)]):=by rw[c];unfold rD;rw[er e]
  unfold GB;exact (f _ ⟨a (.bW i),_,_,_,_,rfl,h,T.dj,T.gY,rfl,a (.letter i),_,b (.letter i),_,_,rfl,d,T.xM,T.nK,rfl,q⟩)
inductive Q9(K:af)(CT:Addr)(c:NC)(vs:List V)(H:Hp)(Q:VK)(E:XK):Prop
 |mk (F:Addr->Prop) (p tp ln lr:Addr) (ns:List Int) (rs:List R5) (s:NS) (o:cX ns rs) (a D:Nat) (cp:Cp) (l:LS):vs=[.ref p,.int a]->NW K c CT H F p tp ln lr ns rs s->CL ns rs s->Bd ns.length rs.length D s->D<=400000->s.cps[a]?=some cp->s.ls[cp.l]?=some l->(∀os ts F' H',eU (kJ ns rs o s.ws l.grp) (s.R l.grp) os->os.length<=12->ts.Perm (put3 (s.ts l.grp) cp.h l.s cp.r)->bX ts->NW K c CT H' F' p tp ln lr ns rs (gk rs s a cp l os ts)->Step H F H' F'->Q (.str (uE l cp os)) H')->Q9 K CT c vs H Q E
theorem Ik{t:Ad}(T:Txt K mg t):cz P w K mg base iM 8 t.fN t.pJ ["self","at"]  (Q9 K t.bD (nc t)):=by
 refine T.kY.kh gJ λH Q E hr h=>?_
 ·obtain⟨F,p,Z,ln,lr,ns,B,st,o,a,D,cp,l,rfl,N,C,J,hD,M,g,k⟩:=h
  refine⟨_,(aq (cE (jo (jD qX pR aB (pv 1) (lS T.iN (aY (pv 0) rfl)))) dO bz) (aq (sS 2 gJ (pS be PySem.F.slot_list_pop PySem.F.type_list_pop TZ (aY (pv 0) rfl) (gV (pv 1)))) (aq (sS 3 gJ (xT (pv 2) aB)) (aq (sS 4 gJ (xT (pv 2) aB)) (aq (sS 5 gJ (xT (pv 2) aB)) (aq (sS 6 gJ (xL (aY (pv 0) rfl) (pv 3))) (aq (sS 7 gJ (cM (pv 0) T.bV T.Bb (Ij T) hr (Ir (pv 6) (pv 4) (pv 5)))) (aq (fE (pS be bh bg eE (aY (pv 6) rfl) (gV (dU (Ir (pv 7) (pv 5) (pv 4)))))) (aq (cE (qT uc (pv 7) gF) (aq (cE (jo (wM (aY (pv 6) rfl))) (oE (cM (xL (aY (pv 0) rfl) (aY (pv 6) rfl)) T.xO T.C0 (Jd T) hr (Ir (pv 5) (aY (aY (pv 6) rfl) rfl) (pv 4)))) bz) (oE (cM (pv 0) T.bV T.qC (wG T) hr (Ir (pv 3) (pv 5) (pv 4))))) bz) (oR (pv 7))))))))))),?_⟩
  left
  obtain⟨b,y,q,hp,O,hF,hT⟩:=id N.fC;have X:mV K (nc t) H F b y q p Z ns.length st:=⟨hp,O,hF,hT⟩;have cC:=O.get .fC _ rfl;rw[hp] at cC;have hal:=(ai.mp M).1;have hil:=(ai.mp g).1;have hcb:=J.cb;obtain⟨lb1,lb2,hg,lkd⟩:=J.lb l (aM g);obtain⟨ts,ets,x,v⟩:=GP (h:=(cp.h:Int)) (c:=(l.s:Int)) (r:=(cp.r:Int)) (List.Perm.refl (st.ts l.grp)) (J.tb l.grp).2;have u:=O.get .lP _ rfl;have Zg:q.cq.length=st.cps.length:=by
   have z:=hT.cps.len;rw[ah] at z;exact z
  have S:a<q.cq.length:=∅
  refine bI λA f=>?_;refine⟨_,rfl,_,_,rfl,rfl,_,rfl,?_⟩;rw[fy (show (0:Int)<=(a:Int) by lia)];refine gB ⟨_,rfl,p,_,_,_,_,rfl,cC,T.bV,T.nO,rfl,b .lP,_,rfl,.inl (bP.of u),_,_,rfl,rfl,_,rfl,?_⟩;rw[ah,Zg,fy (show (a:Int)<(st.cps.length:Int) by lia)];refine eZ (f _ _ ?_);refine bI λA f=>?_;refine⟨_,rfl,p,_,_,_,_,rfl,cC,T.bV,T.nO,rfl,.inl ⟨rfl,_,bP.of u⟩,_,rfl,b .lP,_,a,a,_,rfl,rfl,u,∅,∅,(Kv (by rw[ah,Zg];exact Qg hal)).1,(by rw[aj,aa S];rfl),?_⟩;have htu:cQ K H q.cq[a] cp.vs:=hT.cps.at' a _ _ (aa S) (by rw[aj,M];rfl);obtain⟨n,m⟩:=Qq X (qs:=q.cq.eraseIdx a) (cps:=st.cps.eraseIdx a) (by rw[<- EH];exact hT.cps.erase a);rw[EH];have L:cQ K _ q.cq[a] cp.vs:=N.fC.tup m.kp htu;generalize upd H (b .lP) (.lst ((q.cq.eraseIdx a).map V.ref))=H1 at n m L;generalize q.cq[a]=qa at L;refine f _ _ ?_;have es:{st with cps:=st.cps.eraseIdx a}=Nt st a:=rfl;rw[es] at n;have EB:(Nt st a).ls[cp.l]?=some l:=g;have N1:=N.done m n.fC;have mD:=n.own.get .fC _ rfl;rw[n.hp] at mD;have aeb:=n.own.get (.bW cp.l) (mW (nc t) y b cp.l l) (by show ((Nt st a).ls[cp.l]?.map _)=_;rw[EB];rfl);refine bI λA f=>?_;refine⟨_,rfl,qa,_,0,_,rfl,rfl,L,rfl,f _ _ ?_⟩;refine bI λA f=>?_;refine⟨_,rfl,qa,_,1,_,rfl,rfl,L,rfl,f _ _ ?_⟩;refine bI λA f=>?_;refine⟨_,rfl,qa,_,3,_,rfl,rfl,L,rfl,f _ _ ?_⟩;refine bI λA f=>?_;refine⟨_,rfl,p,_,_,_,_,rfl,mD,T.bV,T.eX,rfl,_,rfl,b .cT,_,_,_,rfl,rfl,bP.of (n.own.get .cT _ rfl),qm hil,f _ _ ?_⟩;have Sw:CL ns B (Nt st a):=⟨C.wl,C.w4,C.fit⟩;refine bI λA f=>?_;refine⟨_,rfl,p,_,_,rfl,mD,rfl,_,rfl,_,rfl,_,rfl,F,b,y,_,p,Z,ln,lr,ns,B,Nt st a,o,cp.l,cp.r,cp.h,l,rfl,n,N1,Sw,EB,hg,λos H2 s2 hO h12=>?_⟩;have ef:(if cp.r∈os then (if Av l cp.h=true then "twice" else "come") else "lost" : Str)=uE l cp os:=rfl;rw[ef];refine f _ _ ?_;have k:=k os ts;have X2:=n.mono s2;have aec:=s2 _ _ aeb;have U:=X2.own.get (.aD cp.l) (.lst ((q.dq cp.l).map V.ref)) (by show ((Nt st a).ls[cp.l]?.map _)=_;rw[EB];rfl);have PB:=(X2.tup.aD cp.l _ EB).len;rw[ah] at PB;have PB:(q.dq cp.l).length=l.aD.length:=PB;refine bI λA f=>?_;refine⟨_,rfl,b (.bW cp.l),_,_,_,_,rfl,aec,T.dj,T.iK,rfl,.inl ⟨rfl,_,bP.of U⟩,_,rfl,_,rfl,_,rfl,ia,λz1 hz1=>?_⟩;have u1:=aG.new (o:=.tup [V.str (uE l cp os),V.int cp.h,V.int cp.r]) hz1;refine⟨b (.aD cp.l),_,_,rfl,rfl,u1 _ _ U,mj (by rw[ah,PB];lia),?_⟩;obtain⟨i,st3⟩:=CM (X2.mono u1) EB (d:=fU l cp os) (by rw[XN];exact cQ.of au);have VD:=(m.trans (Step.refl' (F:=F) (s2.trans u1))).trans st3;generalize upd (upd H2 z1 (.tup [V.str (uE l cp os),V.int cp.h,V.int cp.r])) (b (.aD cp.l)) (.lst ((q.dq cp.l).map V.ref++[.ref z1]))=H3 at i VD;refine f _ _ ?_;have es:{Nt st a with ls:=(Nt st a).ls.set cp.l {l with aD:=l.aD++[fU l cp os]}}=j8 st a cp l os:=rfl;rw[es] at i;have Dw:=i.own.get .fC _ rfl;rw[i.hp] at Dw;have XM:=EF (a:=a) (os:=os) g;have VA:=i.own.get (.bW cp.l) (mW (nc t) y b cp.l {l with aD:=l.aD++[fU l cp os]}) (by show ((j8 st a cp l os).ls[cp.l]?.map _)=_;rw[XM];rfl);have ahN:=i.own.get (.letter cp.l) (rD (nc t) (y (.letter cp.l)) {l with aD:=l.aD++[fU l cp os]}) (by show ((j8 st a cp l os).ls[cp.l]?.map _)=_;rw[XM];rfl);have N3:=N.done VD i.fC;refine⟨_,rfl,rfl,_,rfl,?_⟩;rw[SA];by_cases e:comes l cp os=true
  ·have k:∀F' G,NW K (nc t) t.bD G F' p Z ln lr ns B (Np B (bA st a cp l os ts) cp.l cp.h {l with aD:=l.aD++[fU l cp os]} (some cp.r) os)->Step H F G F'->Q (.str (uE l cp os)) G:=λF' G W z=>k F' G hO h12 x v (by unfold gk;rw[ee e];exact W) z
   rw[e];refine gB ?_;refine oX (λσ H4=>mV K (nc t) H4 F b y {q with cq:=q.cq.eraseIdx a,dq:=fD q.dq cp.l (q.dq cp.l++[z1])} p Z ns.length (bA st a cp l os ts)/\Step H F H4 F/\σ=[some (.ref p),some (.int a),some (.ref qa),some (.int cp.l),some (.int cp.r),some (.int cp.h),some (.ref (b (.bW cp.l))),some (.str (uE l cp os))]) ?_ (λN' hN=>?_)
   ·rintro σ H4 ⟨I,Ma,rfl⟩
    have FF:=I.own.get .fC _ rfl;rw[I.hp] at FF;have Y:=tZ (s:=st) (a:=a) (cp:=cp) (l:=l) (os:=os) (ts:=ts);have abk:CL ns B (bA st a cp l os ts):=⟨by rw[Y.1];exact C.wl,by rw[Y.1];exact C.w4,by rw[Y.2.1];exact C.fit⟩;refine⟨_,rfl,p,_,_,rfl,FF,rfl,_,rfl,_,rfl,_,rfl,F,p,Z,ln,lr,ns,B,bA st a cp l os ts,o,cp.l,cp.h,some cp.r,{l with aD:=l.aD++[fU l cp os]},D+51,rfl,N.done Ma I.fC,abk,Nu J g hal x v,∅,jf g,λos' F5 H5 j _ W5 NO=>?_⟩;have j:eU (kJ ns B o (bA st a cp l os ts).ws l.grp) ((bA st a cp l os ts).R l.grp) os':=j;rw[Y.1,Y.2.1] at j;rw[j.uniq hO] at W5;exact⟨_,rfl,k F5 H5 W5 (Ma.trans NO)⟩
   ·refine⟨_,rfl,b (.bW cp.l),_,_,_,_,rfl,VA,T.dj,T.xN,rfl,_,rfl,?_⟩
    cases eo:l.old with
    |true =>
     refine eZ ?_;refine hN _ _ ⟨?_,VD,rfl⟩;unfold bA;rw[ee eo];exact i
    |false =>
     refine gB ?_;refine⟨_,rfl,p,_,_,_,_,rfl,Dw,T.bV,T.qe,rfl,_,rfl,b (.bW cp.l),_,_,_,_,rfl,VA,T.dj,T.jT,rfl,b .kq,_,_,_,rfl,rfl,bP.of (i.own.get .kq _ rfl),qm hg,b (.book l.grp),y (.book l.grp),_,rfl,i.own.get (.book l.grp) _ (ee hg),rfl,_,rfl,?_⟩;refine XR T (λQ q=>⟨_,rfl,q⟩) VA ahN ?_;refine⟨_,rfl,b (.book l.grp),b (.fq l.grp),st.ts l.grp,cp.h,l.s,cp.r,rfl,i.own.KN hg,?_,λH4 h4 kp4=>?_⟩
     ·have:=(J.tb l.grp).1
      lia
     ·rw[ets] at h4
      obtain⟨I,Ma⟩:=VC i hg ts h4 kp4;refine hN _ _ ⟨?_,VD.trans Ma,rfl⟩;unfold bA;rw[er (by rw[eo];decide)];exact I
  ·have e':comes l cp os=false:=by simpa using e
   rw[e'];refine eZ ?_;refine⟨_,rfl,k F H3 hO h12 x v ?_ VD⟩;unfold gk;rw[e',er (!_)];exact N3
end
section
inductive Rw(rs:List R5)(os:List Nat)(r0:Nat)(x:Nat):Nat->Prop
 |refl:Rw rs os r0 x x
 |step {y r:Nat} (t:Rw rs os r0 x y) (hr:r∈os) (ne:r≠r0) (ha:isAt rs (y:Int) r=true):Rw rs os r0 x (eN rs r y)
inductive Ds(N:RM.Net)(R:Nat->RM.Row)(c:Nat):Nat->Prop
 |self:Ds N R c c
 |on {r x y:Nat} (t:RM.om N R r x y) (d:Ds N R c y):Ds N R c x
theorem Ds.rank{N:RM.Net}{R:Nat->RM.Row}{c x:Nat}(d:Ds N R c x):(R c).ho<=(R x).ho:=by
 induction d with
 |self=>exact jn _
 |on t _ a=>have:=t.ho;lia
variable{ns:List Int}{rs:List R5}{os:List Nat}{live:List Nat}{nd:ns.Nodup}{ok:∀r∈rs,r.Ok ns.length}{hl:∀k∈live,k<rs.length}{R:Nat->RM.Row}
theorem PD{r x:Nat}(a:r∈live)(b:isAt rs (x:Int) r=true):RM.Gj (aV ns rs live nd ok hl) r x (eN rs r x):=by
 refine (ue a).mpr ⟨b,?_⟩;unfold eN;rw[aa (hl r a)]
theorem Ra{N:RM.Net}{r a b x y:Nat}(e:RM.Gj N r a b)(c:RM.Gj N r x y):(a=x/\b=y)∨(a=y/\b=x):=by
 rcases e.2 with ⟨d,h⟩|⟨d,h⟩ <;> rcases c.2 with ⟨f,g⟩|⟨f,g⟩ <;> lia
theorem Nv{r x:Nat}(f:r<rs.length)(ok:∀r∈rs,r.Ok ns.length)(c:isAt rs (x:Int) r=true):isAt rs ((eN rs r x:Nat):Int) r=true/\eN rs r (eN rs r x)=x/\eN rs r x≠x/\eN rs r x<ns.length:=by
 have o:=ok _ (aQ f);have l:=o.a0;have k:=o.b0;have j:=o.ab;have m:=o.a1;have n:=o.b1;have h:∀y,eN rs r y=fR rs[r] y:=λy=>by unfold eN;rw[aa f]
 have g:∀y:Int,isAt rs y r=(decide (y=rs[r].a) || decide (y=rs[r].b)):=λy=>by unfold isAt;rw[aa f]
 rw[h,h,g];rw[g] at c;have c:(decide ((x:Int)=rs[r].a) || decide ((x:Int)=rs[r].b))=true:=c;rw[Bool.or_eq_true,decide_eq_true_iff,decide_eq_true_iff] at c;show (decide _ || decide _)=true/\fR rs[r] (fR rs[r] x)=x/\fR rs[r] x≠x/\fR rs[r] x<_;rw[Bool.or_eq_true,decide_eq_true_iff,decide_eq_true_iff];unfold fR;rcases c with e|e
 ·rw[ee e]
  have d:((rs[r].b.toNat:Nat):Int)=rs[r].b:=∅
  rw[d,er (bL j)];lia
 ·have i:¬(x:Int)=rs[r].a:=∅
  rw[er i];have d:((rs[r].a.toNat:Nat):Int)=rs[r].a:=∅
  rw[d,ee rfl];lia
theorem Rb(O:eU (aV ns rs live nd ok hl) R os){r0 c p:Nat}(i:RM.om (aV ns rs live nd ok hl) R r0 c p){r y z:Nat}(j:r∈os)(h:r≠r0)(f:RM.Gj (aV ns rs live nd ok hl) r y z)(d:Ds (aV ns rs live nd ok hl) R c y):Ds (aV ns rs live nd ok hl) R c z:=by
 obtain⟨a,b,t⟩:=(O.2 r).mp j;rcases Ra t.AD f with ⟨rfl,rfl⟩|⟨rfl,rfl⟩
 ·cases d with
  |self=>exact eL (t.uniq i).1 h
  |on e g =>
   obtain⟨_,rfl⟩:=t.uniq e;exact g
 ·exact .on t d
theorem XS(O:eU (aV ns rs live nd ok hl) R os){r x:Nat}(f:r∈os)(g:isAt rs (x:Int) r=true):¬Rw rs os r x (eN rs r x):=by
 intro t;obtain⟨c,p,i⟩:=(O.2 r).mp f;have l:∀k∈os,k∈live:=λk s=>by
  obtain⟨a,b,t⟩:=(O.2 k).mp s;exact t.AD.1
 have o:∀{y z:Nat},Rw rs os r y z->Ds (aV ns rs live nd ok hl) R c y->Ds (aV ns rs live nd ok hl) R c z:=λ{y z} t=>by
  induction t with
  |refl=>exact id
  |step t f j g m=>exact λd=>Rb O i f j (PD (l _ f) g) (m d)
 have h:∀{y z:Nat},Rw rs os r y z->Ds (aV ns rs live nd ok hl) R c z->Ds (aV ns rs live nd ok hl) R c y:=λ{y z} t=>by
  induction t with
  |refl=>exact id
  |step t f j g m=>exact λd=>m (Rb O i f j (PD (l _ f) g).symm d)
 have e:=i.ho;rcases Ra i.AD (PD (l r f) g) with ⟨rfl,n⟩|⟨q,rfl⟩
 ·have:=(o t .self).rank
  rw[<- n] at this;lia
 ·have:=(h t (q▸.self)).rank
  lia
theorem Rw.trans{r0 x y z:Nat}(a:Rw rs os r0 x y)(b:Rw rs os r0 y z):Rw rs os r0 x z:=by
 induction b with
 |refl=>exact a
 |step t e f d c=>exact .step c e f d
theorem Rw.symm{r0 x y:Nat}(ok:∀r∈rs,r.Ok ns.length)(lt:∀k∈os,k<rs.length)(a:Rw rs os r0 x y):Rw rs os r0 y x:=by
 induction a with
 |refl=>exact .refl
 |@step y r t b d c g =>
  obtain⟨f,e,_⟩:=Nv (lt r b) ok c
  have:Rw rs os r0 (eN rs r y) y:=by
   have:=Rw.step (rs:=rs) (os:=os) (r0:=r0) (x:=eN rs r y) .refl b d f
   rw[e] at this;exact this
  exact this.trans g
structure En where
 h:Nat
 fr:Option (Nat×Nat)
noncomputable def En.by?(e:En):Option Nat:=e.fr.map (·.1)
noncomputable def goes(rs:List R5)(os:List Nat)(e:En):List Nat:=os.filter λr=>isAt rs (e.h:Int) r&&!decide (some r=e.by?)
theorem qh{e:En}{r:Nat}:r∈goes rs os e↔r∈os/\isAt rs (e.h:Int) r=true/\some r≠e.by?:=by
 unfold goes;rw[bC,c9,Bool.not_eq_true',decide_eq_false_iff_not]
end
section
variable{P:Program}{w:World}{K:af}{mg:Str->Option Value}{base:Heap}
inductive Nz(K:af)(c:NC)(vs:List V)(H:Hp)(Q:VK)(E:XK):Prop
 |mk (F:Addr->Prop) (p tp:Addr) (n i:Nat) (s:NS) (l:LS):vs=[.ref p,.int i]->fG K c H F p tp n s->s.ls[i]?=some l->(∀a (qs:List Addr) H',aG H H'->H a=none->H' a=some (.lst (qs.map V.ref))->dF K H' qs (l.aD.map dN.vs)->Q (.ref a) H')->Nz K c vs H Q E
theorem LL{t:Ad}(T:Txt K mg t):cz P w K mg base iM 1 t.p7 t.ux ["self","letter"]  (Nz K (nc t)):=by
 refine T.E6.F.kh K8 λH Q E B h=>?_
 ·obtain⟨F,p,A,n,i,st,l,rfl,N,d,k⟩:=h
  refine⟨_,(aq (cE (jo (jD qX pR aB (pv 1) (lS T.iN (aY (pv 0) rfl)))) dO bz) (oR (fW ig (by rfl) T.sZ boot_list (gV (aY (xL (aY (pv 0) rfl) (pv 1)) rfl))))),?_⟩
  left
  obtain⟨c,s,q,r,O,z,v⟩:=id N;have f:=O.get .fC _ rfl;rw[r] at f;have g:=(ai.mp d).1;have m:=O.get .cT _ rfl;have y:=O.get (.bW i) (mW (nc t) s c i l) (by show (st.ls[i]?.map _)=_;rw[d];rfl);have e:=O.get (.aD i) (.lst ((q.dq i).map V.ref)) (by show (st.ls[i]?.map _)=_;rw[d];rfl);refine⟨_,rfl,_,_,rfl,rfl,_,rfl,?_⟩;rw[fy (show (0:Int)<=(i:Int) by lia)];refine gB ⟨_,rfl,p,_,_,_,_,rfl,f,T.bV,T.eX,rfl,c .cT,_,rfl,.inl (bP.of m),_,_,rfl,rfl,_,rfl,?_⟩;rw[ah,bB,fy (show (i:Int)<(st.ls.length:Int) by lia)];refine eZ ?_;refine⟨_,rfl,p,_,_,_,_,rfl,f,T.bV,T.eX,rfl,_,rfl,c .cT,_,_,_,rfl,rfl,bP.of m,qm g,c (.bW i),_,_,_,_,rfl,y,T.dj,T.iK,rfl,c (.aD i),_,rfl,.inl (bP.of e),λa j=>?_⟩;have u:=aG.new (o:=.lst ((q.dq i).map V.ref)) j;exact k a (q.dq i) _ u j au ((v.aD i l d).mono λb x=>u.dB)
noncomputable def dW:dN->Str
 |.post _=>"post"
 |.Iz _ _=>"come"
 |.hand _ _=>"hand"
 |.send _ _ _=>"send"
 |.twice _ _=>"twice"
 |.WY _ _=>"lost"
noncomputable def dI:dN->List Int
 |.post h=>[h]
 |.Iz h r=>[h,r]
 |.hand h c=>[h,c]
 |.send h r w=>[h,r,w]
 |.twice h r=>[h,r]
 |.WY h r=>[h,r]
theorem LM(d:dN):d.vs=.str (dW d)::(dI d).map V.int:=by cases d <;> rfl
theorem XT(d:dN):1<=(dI d).length:=by cases d <;> simp[dI]
noncomputable def ym:List V:=[.str "post",.str "come",.str "hand",.str "send",.str "twice",.str "lost"]
theorem XU(d:dN):CD (.str (dW d)) ym=true:=by
 cases d
 ·exact (by decide +kernel:CD (.str "post") ym=true)
 ·exact (by decide +kernel:CD (.str "come") ym=true)
 ·exact (by decide +kernel:CD (.str "hand") ym=true)
 ·exact (by decide +kernel:CD (.str "send") ym=true)
 ·exact (by decide +kernel:CD (.str "twice") ym=true)
 ·exact (by decide +kernel:CD (.str "lost") ym=true)
theorem Dz(d:dN):FG (V.str (dW d)::(dI d).map V.int) 0=some (V.str (dW d)):=eY (j:=0) rfl
theorem VE(d:dN):V.int ((((.str (dW d)::(dI d).map V.int:List V).length:Nat):Int))=V.int (2+(if (!decide (V.str (dW d)=V.str "post"))=true then 1 else 0)+(if decide (V.str (dW d)=V.str "send")=true then 1 else 0)):=by
 have a:∀h,(decide (V.str (dW (.post h))=V.str "post"))=true:=λh=>by show decide (V.str "post" = V.str "post")=true;decide +kernel
 cases d
 ·show V.int 2=V.int (2+(if (!decide (V.str "post" = V.str "post"))=true then 1 else 0)+(if decide (V.str "post" = V.str "send")=true then 1 else 0));decide +kernel
 ·show V.int 3=V.int (2+(if (!decide (V.str "come" = V.str "post"))=true then 1 else 0)+(if decide (V.str "come" = V.str "send")=true then 1 else 0));decide +kernel
 ·show V.int 3=V.int (2+(if (!decide (V.str "hand" = V.str "post"))=true then 1 else 0)+(if decide (V.str "hand" = V.str "send")=true then 1 else 0));decide +kernel
 ·show V.int 4=V.int (2+(if (!decide (V.str "send" = V.str "post"))=true then 1 else 0)+(if decide (V.str "send" = V.str "send")=true then 1 else 0));decide +kernel
 ·show V.int 3=V.int (2+(if (!decide (V.str "twice" = V.str "post"))=true then 1 else 0)+(if decide (V.str "twice" = V.str "send")=true then 1 else 0));decide +kernel
 ·show V.int 3=V.int (2+(if (!decide (V.str "lost" = V.str "post"))=true then 1 else 0)+(if decide (V.str "lost" = V.str "send")=true then 1 else 0));decide +kernel
inductive VF(K:af)(vs:List V)(H:Hp)(Q:VK)(E:XK):Prop
 |mk (a:Addr) (qs:List Addr) (ds:List dN):vs=[.ref a]->bP K H a (qs.map V.ref)->dF K H qs (ds.map dN.vs)->(∀H',aG H H'->Q (.bl true) H')->VF K vs H Q E
theorem Ge{t:Ad}(T:Txt K mg t):cz P w K mg base iM 2 t.jS t.nD ["_law_story"]  (VF K):=by
 refine T.zN.F.kh qA λH Q E hr h=>?_
 ·obtain⟨a,r,S,rfl,N,W,k⟩:=h
  refine⟨_,(aq (cE (jo (wM (cB RP T.nQ boot_isinstance (nZ (pv 0) (Ct rfl T.sZ boot_list (v:=.ty "list") rfl))))) oB bz) (aq (fS (fV (pv 0)) (gT 1 qA) (aq (cE (PW.pt (Jp (jo (wM (cB RO T.nQ boot_isinstance (nZ (pv 1) (Ct rfl T.Xk boot_tuple (v:=.ty "tuple") rfl))))) (Jp (qT pR (lS T.iN (pv 1)) aB) (Kh (jo (wM (cB GG T.nQ boot_isinstance (nZ (xT (pv 1) aB) (Ct rfl T.ads boot_str (v:=.ty "str") rfl))))))))) oB bz) (aq (cE (jo (wM (cB (Ug rfl) T.adt boot_all (gV (gq (kO qA ["_law_one"] [none]) rfl (Ob (yQ Ks (pv 1) (wQ aB) Gh)) (λ_ _ _ _=>by exact (gS 0 BR)) (λ_ _ _ _=>by exact mO) (λ_ _ _ _=>by exact (cG (Pp T) hr T.JO (gV (pv 0))))))))) oB bz) (aq (cE (jW rA (xT (pv 1) aB) (dU (SE gF gF gF gF gF gF)) (by with_unfolding_all rfl)) oB bz) (bJ (cE (qT se (lS T.iN (pv 1)) (bw fB (bw fB aB (fW Jq (by rfl) T.U9 boot_int (gV (qE se (xT (pv 1) aB) gF)))) (fW Jq (by rfl) T.U9 boot_int (gV (qE uc (xT (pv 1) aB) gF))))) oB bz)))))) oB)),?_⟩
  left
  have eq:r.length=S.length:=by rw[W.len,ah]
  refine⟨_,rfl,a,_,_,_,rfl,N,rfl,_,rfl,eZ ?_⟩;refine⟨_,rfl,a,rfl,⟨_,N⟩,vL (K:=K) (a:=a) (xs:=r.map V.ref) (λi C f=>aG H f/\∃U:Option V,C=[some (.ref a),U]) ⟨aG.refl _,_,rfl⟩ (λi C f _ z=>z.1.seq N) ?_ ?_⟩
  ·rintro i y C f L ⟨A,U,rfl⟩
   have s:i<r.length:=by
    have:=(ai.mp L).1
    rw[ah] at this;exact this
   rw[aj,aa s] at L;cases L;have c:=A.dB (W.at' i r[i] (S[i]'∅).vs (aa s) (by rw[aj,aa ∅];rfl));generalize r[i]=q at c;generalize S[i]'∅=d at c;rw[LM] at c;have h1:=XT d;refine⟨_,rfl,q,_,_,_,rfl,c,rfl,_,rfl,eZ ?_⟩;refine⟨_,rfl,q,_,rfl,.inr c,_,_,rfl,rfl,_,rfl,?_⟩;rw[gU (show ¬(((V.str (dW d)::(dI d).map V.int).length:Nat):Int)<2 by rw[bx,ah];lia)];refine eZ ⟨_,rfl,q,_,0,_,rfl,rfl,c,Dz d,_,_,_,_,rfl,.str _,rfl,_,rfl,eZ ?_⟩;have nw:¬(HT.lK (V.str (dW d)::(dI d).map V.int).length 0 (some 1)=0/\HT.lK (V.str (dW d)::(dI d).map V.int).length (V.str (dW d)::(dI d).map V.int).length none=(V.str (dW d)::(dI d).map V.int).length):=λz=>by
    have z1:=z.1;rw[show (1:Int)=((1:Nat):Int) from rfl,HT.Gg,bx] at z1;lia
   refine⟨_,rfl,_,rfl,q,_,rfl,c,nw,λz hz=>?_⟩;have ct:CA (V.str (dW d)::(dI d).map V.int) (some 1) none=(dI d).map V.int:=Uq _ 1;rw[ct];have Z:=aG.new (o:=.tup ((dI d).map V.int)) hz;have p:cQ K _ z ((dI d).map V.int):=cQ.of (au (H:=f) (a:=z) (o:=.tup ((dI d).map V.int)));generalize upd f z (.tup ((dI d).map V.int))=H3 at Z p;refine⟨z,rfl,⟨_,p⟩,λJ e=>?_⟩;refine ir (n:=((dI d).map V.int).length) (λi R _=>∃g:List Bool,R=g.map V.bl/\g.length=i/\g.all id=true) e (OD p) (GL p) ⟨[],rfl,rfl,rfl⟩ ?_ ?_
   ·rintro j R H4 O B G ⟨g,rfl,m,l⟩ x H5 ⟨rfl,D⟩
    have D:=D _ (B.dB p);have I:j<(dI d).length:=by rw[ah] at O;exact O
    rw[aj,aa I] at D;cases D;have h3:(dI d).length<=3:=by cases d <;> simp[dI]
    refine⟨_,rfl,_,rfl,?_⟩;exact fQ e O B G (by rw[ah];exact cS ∅) ⟨g++[true],-_,by simp[m],by simp[l]⟩
   rintro R H4 B G ⟨g,rfl,m,l⟩;refine⟨J,g,rfl,bP.of G,_,rfl,?_⟩;rw[l];refine eZ ?_;have u:=Z.trans B;have X:=u.dB c;refine⟨_,rfl,q,_,0,_,rfl,rfl,X,Dz d,aaO,λb hb=>?_⟩;have Y:=aG.new (o:=.tup ym) hb;refine⟨b,ym,rfl,.inr (cQ.of au),rfl,!_,_,rfl,?_⟩
   try dsimp only
   rw[ee rfl,XU];refine eZ ?_;have M:=Y.dB X;refine⟨_,rfl,q,_,rfl,.inr M,_,rfl,q,_,0,_,rfl,rfl,M,Dz d,rfl,.inr ⟨_,rfl,_,_,rfl,rfl,_,rfl,q,_,0,_,rfl,rfl,M,Dz d,rfl,.inr ⟨_,rfl,_,_,rfl,rfl,rfl,_,rfl,?_⟩⟩⟩;rw[fy (VE d)];exact eZ ⟨(A.trans u).trans Y,_,rfl⟩
  ·rintro C f ⟨A,U,rfl⟩
   exact k f A
end
section
structure Fo(ns:List Int)(rs:List R5)(os:List Nat):Prop where
 lt:∀r∈os,r<rs.length
 ok:∀r∈rs,r.Ok ns.length
 cut:∀r∈os,∀x:Nat,isAt rs (x:Int) r=true->¬Rw rs os r x (eN rs r x)
 ri:os.Pairwise (·<·)
variable{ns:List Int}{rs:List R5}{os:List Nat}
theorem Fo.of{live:List Nat}{nd:ns.Nodup}{ok:∀r∈rs,r.Ok ns.length}{hl:∀k∈live,k<rs.length}{R:Nat->RM.Row}(O:eU (aV ns rs live nd ok hl) R os):Fo ns rs os:=⟨Mm O,ok,λ_ b _ a=>XS O b a,O.1⟩
theorem Fo.back(F:Fo ns rs os){r x:Nat}(b:r∈os)(a:isAt rs (x:Int) r=true):isAt rs ((eN rs r x:Nat):Int) r=true/\eN rs r (eN rs r x)=x/\eN rs r x≠x/\eN rs r x<ns.length:=Nv (F.lt r b) F.ok a
theorem Fo.two(F:Fo ns rs os){r x y:Nat}(g:r∈os)(f:isAt rs (x:Int) r=true)(e:isAt rs (y:Int) r=true):y=x∨y=eN rs r x:=by
 have c:=F.lt r g;have o:=F.ok _ (aQ c);have i:=o.a0;have h:=o.b0;have d:∀y:Int,isAt rs y r=(decide (y=rs[r].a) || decide (y=rs[r].b)):=λy=>by unfold isAt;rw[aa c]
 rw[d,Bool.or_eq_true,decide_eq_true_iff,decide_eq_true_iff] at f e;unfold eN;rw[aa c];show y=x∨y=fR rs[r] x;unfold fR;split <;> lia
theorem Fo.symm(F:Fo ns rs os){r0 x y:Nat}(a:Rw rs os r0 x y):Rw rs os r0 y x:=a.symm F.ok F.lt
theorem Fo.avoid(F:Fo ns rs os){q x z h:Nat}(g:q∈os)(f:isAt rs (x:Int) q=true)(a:isAt rs (x:Int) h=true)(t:Rw rs os q (eN rs q x) z):Rw rs os h (eN rs q x) z:=by
 induction t with
 |refl=>exact .refl
 |@step y r t b i c j =>
  refine .step j b (λe=>?_) c;subst e;rcases F.two b a c with e|e
  ·subst e
   exact F.cut q g y f (F.symm t)
  ·have d:=Rw.step t b i c
   rw[e,(F.back b a).2.1] at d;exact F.cut q g x f (F.symm d)
noncomputable def nx(rs:List R5)(e:En)(r:Nat):En:=⟨eN rs r e.h,some (r,e.h)⟩
structure WJ(ns:List Int)(rs:List R5)(os:List Nat)(f:Nat)(D Pn:List En):Prop where
 nd:((D++Pn).map (·.h)).Nodup
 fr:∀e∈D++Pn,∀r p,e.fr=some (r,p)->r∈os/\isAt rs (p:Int) r=true/\eN rs r p=e.h/\(∃e'∈D,e'.h=p)/\Rw rs os r f p
 f0:∀e∈D++Pn,e.fr=none->e.h=f
 lt:∀e∈D++Pn,e.h<ns.length
theorem WJ.zero{f:Nat}(b:f<ns.length):WJ ns rs os f [] [⟨f,none⟩] :=
 ⟨-_,λe a r p h=>(by rw[bq.mp a] at h;cases h),λe a _=>(by rw[bq.mp a]),λe a=>(by rw[bq.mp a];exact b)⟩
variable{f:Nat}{D Pn A B:List En}{e:En}
theorem WJ.side(F:Fo ns rs os)(w:WJ ns rs os f D Pn)(g:e∈D++Pn){r0:Nat}(n:r0∈os)(k:isAt rs (e.h:Int) r0=true)(l:some r0≠e.by?):Rw rs os r0 f e.h:=by
 cases z:e.fr with
 |none=>rw[w.f0 e g z];exact .refl
 |some q =>
  obtain⟨r,p⟩:=q;obtain⟨c,i,j,_,m⟩:=w.fr e g r p z;have a:r≠r0:=λq=>l (by unfold En.by?;rw[z,<- q];rfl);obtain⟨d,b,_⟩:=F.back c i;rw[j] at d b;have t:=F.avoid c d k (by rw[b];exact F.symm m);rw[b] at t
  have:=Rw.step (F.symm t) c a i
  rw[j] at this;exact this
theorem Il(nd:((D++Pn).map (·.h)).Nodup)(c:e∈Pn):∀a∈D,a.h≠e.h:=λa b z=>by
 rw[aT,uJ] at nd;exact nd.2.2 _ (kj b) _ (kj c) z
theorem WJ.next(F:Fo ns rs os)(w:WJ ns rs os f D (A++e::B)){j:List Nat}(Q:j.Nodup)(s:∀r∈j,r∈goes rs os e):WJ ns rs os f (D++[e]) (A++B++j.map (nx rs e)):=by
 have n:e∈A++e::B:=-_
 have t:e∈D++(A++e::B):=cY _ n;have H:=Il w.nd n;have pm:((D++[e])++(A++B++j.map (nx rs e))).Perm ((D++(A++e::B))++j.map (nx rs e)):=by
  have c:([e]++(A++B)).Perm (A++e::B):=by
   show (e::(A++B)).Perm _;exact List.perm_middle.symm
  have i:=(c.append_left D).append_right (j.map (nx rs e))
  simpa [cH] using i
 have E:∀r∈j,∀b∈D++(A++e::B),b.h≠eN rs r e.h:=λr m b g z=>by
  obtain⟨c,i,K⟩:=qh.mp (s r m);have R:=w.side F t c i K;obtain⟨N,T,X,_⟩:=F.back c i;by_cases q:some r=b.by?
  ·unfold En.by? at q
   cases y:b.fr with
   |none=>rw[y] at q;cases q
   |some v =>
    obtain⟨W,p⟩:=v;rw[y] at q;have q:r=W:=aK q;subst q;obtain⟨_,o,C,⟨J,L,I⟩,_⟩:=w.fr b g r p y
    have:p=e.h:=by
     have:=(F.back c o).2.1
     rw[C,z,T] at this;exact this.symm
    exact H J L (I.trans this)
  ·have M:=w.side F g c (by rw[z];exact N) q
   rw[z] at M;exact F.cut r c e.h i ((F.symm R).trans M)
 have k:∀b,b∈(D++[e])++(A++B++j.map (nx rs e))->b∈D++(A++e::B)∨∃r∈j,b=nx rs e r:=λb g=>by
  rcases br.mp (pm.mem_iff.mp g) with h|h
  ·exact .inl h
  ·obtain⟨r,m,z⟩:=aL.mp h
   exact .inr ⟨r,m,z.symm⟩
 refine⟨?_,λb g r p h=>?_,λb g h=>?_,λb g=>?_⟩
 ·rw[(pm.map (·.h)).nodup_iff,aT,uJ]
  refine⟨w.nd,?_,λx V y O=>?_⟩
  ·rw[dw]
   refine List.pairwise_map.mpr (List.Pairwise.imp_of_mem ?_ Q);intro r l m d U z;obtain⟨c,i,_⟩:=qh.mp (s r m);obtain⟨G,o,_⟩:=qh.mp (s l d);have z:eN rs r e.h=eN rs l e.h:=z
   have:=Rw.step (rs:=rs) (os:=os) (r0:=r) (x:=e.h) .refl G (bL U) o
   rw[<- z] at this;exact F.cut r c e.h i this
  ·obtain⟨a,S,rfl⟩:=aL.mp V
   obtain⟨b,g,rfl⟩:=aL.mp O;obtain⟨r,m,rfl⟩:=aL.mp g;exact E r m a S
 ·rcases k b g with u|⟨l,d,rfl⟩
  ·obtain⟨G,o,C,⟨J,L,I⟩,P⟩:=w.fr b u r p h
   exact⟨G,o,C,⟨J,List.mem_append_left _ L,I⟩,P⟩
  ·obtain⟨c,i,K⟩:=qh.mp (s l d)
   cases h;exact⟨c,i,rfl,⟨e,-_,rfl⟩,w.side F t c i K⟩
 ·rcases k b g with u|⟨l,d,rfl⟩
  ·exact w.f0 b u h
  ·cases h
 ·rcases k b g with u|⟨l,d,rfl⟩
  ·exact w.lt b u
  ·obtain⟨c,i,_⟩:=qh.mp (s l d)
   exact (F.back c i).2.2.2
end
section
variable{ns:List Int}{rs:List R5}{os:List Nat}{s:NS}{l:LS}{i h:Nat}
theorem NB:∀(cs:List Nat) (s:NS) (l:LS),s.ls[i]?=some l->∃had,cs.foldl (kZ i h) s={s with had:=had,ls:=s.ls.set i {l with aD:=l.aD++cs.map (dN.hand h)}}
 |[],s,l,e=>⟨s.had,by
  show s={s with had:=s.had,ls:=s.ls.set i {l with aD:=l.aD++[]}};rw[bY,GV e]⟩
 |c::cs,s,l,e=>by
  have b:=(ai.mp e).1;have d:(tX s i c).ls[i]?=some l:=e;have a:kZ i h s c={s with had:=s.had.set c (s.had.getD c []++[i]),ls:=s.ls.set i {l with aD:=l.aD++[.hand h c]}}:=by
   unfold kZ;rw[fL d];rfl
  obtain⟨had,f⟩:=NB cs (kZ i h s c) {l with aD:=l.aD++[.hand h c]} (by rw[a];show (s.ls.set i _)[i]?=_;rw[gu b,ee rfl]);refine⟨had,?_⟩;rw[List.foldl_cons,f,a];show {s with had:=had,ls:=(s.ls.set i _).set i _}=_;rw[List.set_set];simp only[cH,bO];rfl
theorem ND:∀(a:List Nat) (s:NS) (l:LS),s.ls[i]?=some l->a.foldl (tY rs i h) s={s with cps:=s.cps++a.map λr=>⟨i,r,gW s.ws r (gX l),eN rs r h⟩,ls:=s.ls.set i {l with aD:=l.aD++a.map λr=>.send h r (gW s.ws r (gX l))}}
 |[],s,l,e=>by
  show s={s with cps:=s.cps++[],ls:=s.ls.set i {l with aD:=l.aD++[]}};rw[bY,bY,GV e]
 |r::a,s,l,e=>by
  have d:=(ai.mp e).1;have c:Sv s i=gX l:=by unfold Sv;rw[e]
  have b:tY rs i h s r={s with cps:=s.cps++[⟨i,r,gW s.ws r (gX l),eN rs r h⟩],ls:=s.ls.set i {l with aD:=l.aD++[.send h r (gW s.ws r (gX l))]}}:=by
   unfold tY Nl;rw[fL e,c]
  rw[List.foldl_cons,ND a (tY rs i h s r) {l with aD:=l.aD++[.send h r (gW s.ws r (gX l))]} (by rw[b];show (s.ls.set i _)[i]?=_;rw[gu d,ee rfl]),b];show {s with cps:=_,ls:=(s.ls.set i _).set i _}=_;rw[List.set_set];simp only[cH,bO];rfl
theorem uF{aU:Option Nat}(e:s.ls[i]?=some l):∃had,Np rs s i h l aU os={s with had:=had,cps:=s.cps++(Aw rs s l h aU os).map λr=>⟨i,r,gW s.ws r (gX l),eN rs r h⟩,ls:=s.ls.set i {l with done:=nV l.done h,aD:=l.aD++((iz s l h).map (dN.hand h)++(Aw rs s l h aU os).map λr=>.send h r (gW s.ws r (gX l)))}}:=by
 have a:=(ai.mp e).1;unfold Np;have b:(eO s i h l).ls[i]?=some {l with done:=nV l.done h}:=by
  show (s.ls.set i _)[i]?=_;rw[gu a,ee rfl]
 obtain⟨had,c⟩:=NB (h:=h) (iz s l h) (eO s i h l) _ b;refine⟨had,?_⟩;rw[c,ND _ _ {l with done:=nV l.done h,aD:=l.aD++(iz s l h).map (dN.hand h)} (by show ((s.ls.set i _).set i _)[i]?=_;rw[gu (by rw[bT];exact a),ee rfl])];show {s with had:=had,cps:=_,ls:=((s.ls.set i _).set i _).set i _}=_;rw[List.set_set,List.set_set];simp only[cH];rfl
theorem NF{ds:List Nat}{h:Nat}{l:LS}(e:l.done=ds):Av l h=decide (h∈ds):=by
 unfold Av;rw[e];clear e;induction ds with
 |nil=>rfl
 |cons d ds a =>
  rw[bO];by_cases z:d=h
  ·subst z
   rw[yU rfl];simp
  ·rw[yV (λe=>z (by have:=Sum.inl.inj e;lia)),a]
   have:¬h=d:=λe=>z e.symm
   simp[this]
def NL(rs:List R5)(os:List Nat)(aO:List Nat)(ts:List T3):Prop:=∀t∈ts,∃h c r:Nat,t=((h:Int),(c:Int),(r:Int))/\r∈os/\isAt rs (h:Int) r=true/\Rw rs os r (eN rs r h) (aO.getD c 0)
theorem XX{e:En}:((((os.filter (isAt rs e.h)).map λk:Nat=>(k:Int)).filter (gx (e.by?.map λk:Nat=>(k:Int)))).map Int.toNat)=goes rs os e:=by
 unfold goes;rw[List.filter_map,dw,List.filter_filter]
 have:(Int.toNat∘λk:Nat=>(k:Int))=id:=by funext k;exact cy k
 rw[this,List.map_id];refine List.filter_congr λr _=>?_;rw[Bool.and_comm];congr 1;show gx (e.by?.map λk:Nat=>(k:Int)) (r:Int)=_;unfold gx;congr 1;rw[decide_eq_decide];cases e.by? with
 |none=>exact⟨λz=>(by cases z),λz=>(by cases z)⟩
 |some q=>exact⟨λz=>(by have z:V.int (r:Int)=V.int (q:Int):=z;have:=V.int.inj z;rw[show r=q by lia]),λz=>(by rw[aK z];rfl)⟩
theorem XY(F:Fo ns rs os){e:En}:(goes rs os e).Nodup:=List.Nodup.sublist List.filter_sublist (F.ri.imp λh=>bE h)
noncomputable def EI(rs:List R5)(c:Cp):En:=⟨c.h,some (c.r,eN rs c.r c.h)⟩
end
section
structure SD(ns:List Int)(rs:List R5)(bs:List (List Bool))(cl:List (Nat×Nat))(D:Nat)(s:NS):Prop where
 ok:CL ns rs s
 bd:Bd ns.length rs.length D s
 ws:s.ws=bs.map stand
 fit:Fit rs bs
 hm:s.aO=cl.map (·.1)
 gr:s.groups=cl.map (·.2)
variable{ns:List Int}{rs:List R5}{bs:List (List Bool)}{cl:List (Nat×Nat)}{D:Nat}{s:NS}
theorem SD.mono{a:Nat}(h:SD ns rs bs cl D s)(e:D<=a):SD ns rs bs cl a s:=⟨h.ok,h.bd.mono e,h.ws,h.fit,h.hm,h.gr⟩
theorem XZ{n m:Nat}{g:Nat}(b:Bd n m D s):Bd n m D (FD s g):=by
 refine⟨b.gl,b.AZ,b.g3,b.hm,b.hl,b.hb,by show (s.ls.map _).length<=D;rw[ah];exact b.ll,λl z=>?_,b.cb,λc z=>by show c.l<(s.ls.map _).length/\_;rw[ah];exact b.cl c z,λa=>?_⟩
 ·obtain⟨e,d,rfl⟩:=aL.mp z
  unfold yk;split
  ·exact b.lb e d
  ·exact b.lb e d
 ·show 50*(fD s.ts g [] a).length<=D/\bX (fD s.ts g [] a)
  by_cases z:a=g
  ·subst z
   rw[bS];exact⟨bN _,k8⟩
  ·rw[cZ z]
   exact b.tb a
theorem SD.news(h:SD ns rs bs cl D s)(g:Nat):SD ns rs bs cl D (FD s g):=⟨⟨h.ok.wl,h.ok.w4,h.ok.fit⟩,XZ h.bd,h.ws,h.fit,h.hm,h.gr⟩
theorem SD.call{g x:Nat}{d:RM.Row}(h:SD ns rs bs cl D s)(c:BB ns.length rs.length d):SD ns rs bs cl D (FE s g x d):=by
 unfold FE;split
 ·exact h
 ·refine SD.news (s:={s with R:=fD s.R g (RM.upd (s.R g) x d)}) ⟨⟨h.ok.wl,h.ok.w4,λk a=>?_⟩,⟨h.bd.gl,h.bd.AZ,h.bd.g3,h.bd.hm,h.bd.hl,h.bd.hb,h.bd.ll,h.bd.lb,h.bd.cb,h.bd.cl,h.bd.tb⟩,h.ws,h.fit,h.hm,h.gr⟩ g
  show wW _ _ (fD s.R g (RM.upd (s.R g) x d) k);by_cases z:k=g
  ·subst z
   rw[bS];intro i b;unfold RM.upd;split
   ·exact c
   ·exact h.ok.fit k a i b
  ·rw[cZ z]
   exact h.ok.fit k a
theorem PF{i h:Nat}{l:LS}{aU:Option Nat}{os:List Nat}(hl:s.ls[i]?=some l):(Np rs s i h l aU os).ws=s.ws/\(Np rs s i h l aU os).R=s.R/\(Np rs s i h l aU os).aO=s.aO/\(Np rs s i h l aU os).groups=s.groups:=by
 have f:=LK (rs:=rs) (h:=h) (aU:=aU) (os:=os) hl;exact⟨f.ws,f.R,f.aO,f.groups⟩
theorem SD.post{x:Nat}{to:Option Nat}{os:List Nat}(o:cX ns rs)(h:SD ns rs bs cl D s)(j:x<s.aO.length)(O:eU (kJ ns rs o s.ws (s.groups.getD x 0)) (s.R (s.groups.getD x 0)) os)(b:os.length<=12):SD ns rs bs cl (D+100) (c5 rs s x to os):=by
 obtain⟨a,e,f,g⟩:=PF (rs:=rs) (h:=s.aO.getD x 0) (aU:=none) (os:=os) (s:=gj s x to) (i:=s.ls.length) (l:={cF s x to with aD:=[.post (s.aO.getD x 0)]}) iA;have d:=Zm o (h:=s.aO.getD x 0) (aU:=none) (Q6 (to:=to) h.bd j) iA O b;exact⟨⟨(g7 List.length a).trans h.ok.wl,λw c=>h.ok.w4 w (by rw[show (c5 rs s x to os).ws=s.ws from a] at c;exact c),by rw[show (c5 rs s x to os).R=s.R from e];exact h.ok.fit⟩,d.mono ∅,a.trans h.ws,h.fit,f.trans h.hm,g.trans h.gr⟩
theorem SD.pass{a:Nat}{cp:Cp}{l:LS}{os:List Nat}{ts:List T3}{h' c r:Int}(o:cX ns rs)(h:SD ns rs bs cl D s)(hl:s.ls[cp.l]?=some l)(n:a<s.cps.length)(O:eU (kJ ns rs o s.ws l.grp) (s.R l.grp) os)(g:os.length<=12)(p:ts.Perm (put3 (s.ts l.grp) h' c r))(m:bX ts):SD ns rs bs cl (D+100) (gk rs s a cp l os ts):=by
 have k:=XQ o (a:=a) (cp:=cp) h.bd hl n O g p m;have e:(gk rs s a cp l os ts).ws=s.ws/\(gk rs s a cp l os ts).R=s.R/\(gk rs s a cp l os ts).aO=s.aO/\(gk rs s a cp l os ts).groups=s.groups:=by
  unfold gk;split
  ·obtain⟨u,q,v,t⟩:=tZ (s:=s) (a:=a) (cp:=cp) (l:=l) (os:=os) (ts:=ts)
   obtain⟨b,d,f,i⟩:=PF (rs:=rs) (h:=cp.h) (aU:=some cp.r) (os:=os) (jf (a:=a) (os:=os) (ts:=ts) hl);exact⟨b.trans u,d.trans q,f.trans v,i.trans t⟩
  ·exact⟨rfl,rfl,rfl,rfl⟩
 obtain⟨b,d,f,i⟩:=e;exact⟨⟨(g7 List.length b).trans h.ok.wl,λw j=>h.ok.w4 w (by rw[b] at j;exact j),by rw[d];exact h.ok.fit⟩,k,b.trans h.ws,h.fit,f.trans h.hm,i.trans h.gr⟩
end
section
variable{ns:List Int}{rs:List R5}{os:List Nat}{s s':NS}{g:Nat}
def Led(rs:List R5)(os:List Nat)(s:NS)(g h c r:Nat):Prop:=r∈os/\isAt rs (h:Int) r=true/\s.groups[c]?=some g/\Rw rs os r (eN rs r h) (s.aO.getD c 0)
structure S2(rs:List R5)(os:List Nat)(g:Nat)(s:NS):Prop where
 nt:∀t∈s.ts g,∃h c r:Nat,t=((h:Int),(c:Int),(r:Int))/\Led rs os s g h c r
 cp:∀c∈s.cps,∀l,s.ls[c.l]?=some l->l.grp=g->l.old=false->Led rs os s g c.h l.s c.r
def pe(s:NS):Prop:=∀l∈s.ls,s.groups[l.s]?=some l.grp
structure Ld(o:cX ns rs)(s:NS):Prop where
 sd:pe s
 ld:∀g,g<3->∀os,eU (kJ ns rs o s.ws g) (s.R g) os->S2 rs os g s
theorem Led.of{h c r:Nat}(a:Led rs os s g h c r)(d:s'.groups=s.groups)(b:∀c,s.groups[c]?=some g->s'.aO.getD c 0=s.aO.getD c 0):Led rs os s' g h c r:=⟨a.1,a.2.1,by rw[d];exact a.2.2.1,by rw[b c a.2.2.1];exact a.2.2.2⟩
theorem S2.of(a:S2 rs os g s)(i:∀t∈s'.ts g,t∈s.ts g)(d:s'.groups=s.groups)(f:∀c,s.groups[c]?=some g->s'.aO.getD c 0=s.aO.getD c 0)(m:∀c∈s'.cps,∀b,s'.ls[c.l]?=some b->b.grp=g->b.old=false->c∈s.cps/\∃l,s.ls[c.l]?=some l/\l.s=b.s/\l.grp=g/\l.old=false):S2 rs os g s':=by
 refine⟨λt h=>?_,λc h b o n w=>?_⟩
 ·obtain⟨h,c,r,e,q⟩:=a.nt t (i t h)
  exact⟨h,c,r,e,q.of d f⟩
 ·obtain⟨v,l,p,k,j,u⟩:=m c h b o n w
  have:=(a.cp c v l p j u).of d f
  rw[k] at this;exact this
theorem VG(h:pe s)(f:s'.groups=s.groups)(hl:∀a∈s'.ls,∃l∈s.ls,a.s=l.s/\a.grp=l.grp):pe s':=λa d=>by
 obtain⟨l,c,b,e⟩:=hl a d;rw[f,b,e];exact h l c
theorem VH{l:LS}{k:Nat}:(yk k l).s=l.s/\(yk k l).grp=l.grp:=by unfold yk;split <;> exact⟨rfl,rfl⟩
theorem news_at{k i:Nat}{a:LS}(h:(FD s k).ls[i]?=some a):∃l,s.ls[i]?=some l/\a=yk k l:=by
 have h:(s.ls.map (yk k))[i]?=some a:=h;rw[aj] at h;cases e:s.ls[i]? with
 |none=>rw[e] at h;cases h
 |some l=>rw[e] at h;exact⟨l,rfl,(aK h).symm⟩
theorem VI(h:pe s)(k:Nat):pe (FD s k):=VG h rfl λc b=>by
 obtain⟨l,a,rfl⟩:=aL.mp b;exact⟨l,a,VH⟩
theorem S2.Zn:S2 rs os g (FD s g):=by
 refine⟨λt h=>?_,λc _ e d a b=>?_⟩
 ·have h:t∈fD s.ts g [] g:=h
  rw[bS] at h;cases h
 ·exfalso
  obtain⟨l,f,rfl⟩:=news_at d;unfold yk at a b;split at b
  ·cases b
  ·rename_i z
   rw[er z] at a;exact z a
theorem S2.news(a:S2 rs os g s)(k:Nat):S2 rs os g (FD s k):=by
 by_cases z:g=k
 ·subst z
  exact S2.Zn
 ·refine a.of (λt h=>?_) rfl (λ_ _=>rfl) λc h m j d b=>?_
  ·have h:t∈fD s.ts k [] g:=h
   rw[cZ z] at h;exact h
  ·obtain⟨l,i,rfl⟩:=news_at j
   have e:=VH (l:=l) (k:=k);have f:¬l.grp=k:=λq=>z (by rw[<- d,e.2,q]);unfold yk at b;rw[er f] at b;exact⟨h,l,i,e.1.symm,e.2▸d,b⟩
theorem Ld.call{o:cX ns rs}{x:Nat}{d:RM.Row}(h:Ld o s):Ld o (FE s g x d):=by
 unfold FE;split
 ·exact h
 ·refine⟨VI (s:={s with R:=fD s.R g (RM.upd (s.R g) x d)}) h.sd g,λk b os O=>?_⟩
  by_cases z:k=g
  ·subst z
   exact S2.Zn
  ·have O:eU (kJ ns rs o s.ws k) (fD s.R g (RM.upd (s.R g) x d) k) os:=O
   rw[cZ z] at O;exact S2.news (s:={s with R:=fD s.R g (RM.upd (s.R g) x d)}) ((h.ld k b os O).of (λt h=>h) rfl (λ_ _=>rfl) λc h a f e i=>⟨h,a,f,rfl,e,i⟩) g
end
section
variable{ns:List Int}{rs:List R5}{os:List Nat}{s:NS}{g:Nat}
theorem VJ{l:LS}{h:Nat}{aU:Option Nat}:∀r∈Aw rs s l h aU os,r∈os/\isAt rs (h:Int) r=true/\some r≠aU:=λr d=>by
 unfold Aw at d;obtain⟨x,a,rfl⟩:=aL.mp d;have b:gx (aU.map λk:Nat=>(k:Int)) x=true:=by
  unfold DB at a;split at a
  ·exact (bC.mp a).2
  ·split at a
   ·cases a
   ·split at a
    ·split at a
     ·exact (bC.mp a).2
     ·exact (bC.mp a).2
    ·exact (bC.mp a).2
 obtain⟨k,c,rfl⟩:=aL.mp (Dy.1 x a);rw[cy];refine⟨(bC.mp c).1,(bC.mp c).2,λz=>?_⟩;rw[<- z] at b;unfold gx at b;rw[Bool.not_eq_true',decide_eq_false_iff_not] at b;exact b rfl
theorem Ld.post{o:cX ns rs}{x:Nat}{to:Option Nat}(h:Ld o s)(M:x<s.aO.length)(g:x<s.groups.length)(m:∀c∈s.cps,c.l<s.ls.length)(G:eU (kJ ns rs o s.ws (s.groups.getD x 0)) (s.R (s.groups.getD x 0)) os):Ld o (c5 rs s x to os):=by
 have p:s.groups[x]?=some (s.groups.getD x 0):=by rw[az,aa g];rfl
 unfold c5;generalize u:s.aO.getD x 0=f;obtain⟨I,v⟩:=uF (rs:=rs) (os:=os) (h:=f) (aU:=none) (s:=gj s x to) (i:=s.ls.length) (l:={cF s x to with aD:=[.post f]}) (by show (s.ls++[_])[s.ls.length]?=_;rw[u];exact iA);rw[v];have n:=VJ (rs:=rs) (os:=os) (s:=gj s x to) (l:={cF s x to with aD:=[.post f]}) (h:=f) (aU:=none);generalize Aw rs (gj s x to) {cF s x to with aD:=[.post f]} f none os=gs at n;have D:∀b,(gj s x to).ls.set s.ls.length b=s.ls++[b]:=λb=>by
  show (s.ls++[_]).set s.ls.length b=_;rw[vJ _ _ (ay _),iY];rfl
 rw[D];refine⟨λb H=>?_,λk E j O=>?_⟩
 ·rcases br.mp H with z|z
  ·exact h.sd b z
  ·rw[bq.mp z]
   exact p
 ·have a:=h.ld k E j O
  refine⟨λt w=>a.nt t w,λc C b d e K=>?_⟩;have d:(s.ls++[_])[c.l]?=some b:=d;rcases br.mp C with z|z
  ·rw[bM (m c z)] at d
   exact a.cp c z b d e K
  ·obtain⟨r,L,rfl⟩:=aL.mp z
   rw[iA] at d;cases d;have e:s.groups.getD x 0=k:=e;subst e;have J:=G.uniq O;subst J;have F:=Fo.of O;obtain⟨q,A,_⟩:=n r L;obtain⟨y,B,_⟩:=F.back q A;refine⟨q,y,p,?_⟩;show Rw rs os r (eN rs r (eN rs r f)) (s.aO.getD x 0);rw[B,u];exact .refl
theorem Ld.pass{o:cX ns rs}{a:Nat}{cp:Cp}{l:LS}{ts:List T3}(h:Ld o s)(hcl:∀c∈s.cps,c.l<s.ls.length)(G:s.cps[a]?=some cp)(hl:s.ls[cp.l]?=some l)(hg:l.grp<3)(Q:eU (kJ ns rs o s.ws l.grp) (s.R l.grp) os)(V:ts.Perm (put3 (s.ts l.grp) cp.h l.s cp.r)):Ld o (gk rs s a cp l os ts):=by
 have E:=(ai.mp hl).1;have P:=aM G;have F:=Fo.of Q;have m:∀(n:NS) (y:LS),y.s=l.s->y.grp=l.grp->y.old=l.old->n.ls=s.ls.set cp.l y->∀(i:Nat) d,n.ls[i]?=some d->∃e,s.ls[i]?=some e/\e.s=d.s/\e.grp=d.grp/\e.old=d.old:=λn y Y e2 Z I i d p=>by
  rw[I,gu E] at p;by_cases z:i=cp.l
  ·rw[ee z] at p
   cases p;exact⟨l,by rw[z];exact hl,Y.symm,e2.symm,Z.symm⟩
  ·rw[er z] at p
   exact⟨d,p,rfl,rfl,rfl⟩
 have x:∀n:NS,n.groups=s.groups->(∀(i:Nat) d,n.ls[i]?=some d->∃e,s.ls[i]?=some e/\e.s=d.s/\e.grp=d.grp/\e.old=d.old)->pe n:=λn eg st=>VG h.sd eg λd K=>by
  obtain⟨i,p⟩:=oi K;obtain⟨e,j,w,u,_⟩:=st i d p;exact⟨e,aM j,w.symm,u.symm⟩
 unfold gk;split
 ·have le:=tZ (s:=s) (a:=a) (cp:=cp) (l:=l) (os:=os) (ts:=ts)
  have ec:(bA s a cp l os ts).cps=s.cps.eraseIdx a:=by unfold bA;split <;> rfl
  have I:(bA s a cp l os ts).ls=s.ls.set cp.l {l with aD:=l.aD++[fU l cp os]}:=by unfold bA;split <;> rfl
  obtain⟨had,X⟩:=uF (rs:=rs) (os:=os) (h:=cp.h) (aU:=some cp.r) (jf (a:=a) (os:=os) (ts:=ts) hl);rw[X];have L:=VJ (rs:=rs) (os:=os) (s:=bA s a cp l os ts) (l:={l with aD:=l.aD++[fU l cp os]}) (h:=cp.h) (aU:=some cp.r);generalize Aw rs (bA s a cp l os ts) {l with aD:=l.aD++[fU l cp os]} cp.h (some cp.r) os=gs at L;have st:=m {bA s a cp l os ts with had:=had,cps:=(bA s a cp l os ts).cps++gs.map λr=>(⟨cp.l,r,gW (bA s a cp l os ts).ws r (gX {l with aD:=l.aD++[fU l cp os]}),eN rs r cp.h⟩:Cp),ls:=(bA s a cp l os ts).ls.set cp.l {l with done:=nV l.done cp.h,aD:=l.aD++[fU l cp os]++((iz (bA s a cp l os ts) {l with aD:=l.aD++[fU l cp os]} cp.h).map (dN.hand cp.h)++gs.map λr=>.send cp.h r (gW (bA s a cp l os ts).ws r (gX {l with aD:=l.aD++[fU l cp os]})))}} {l with done:=nV l.done cp.h,aD:=l.aD++[fU l cp os]++((iz (bA s a cp l os ts) {l with aD:=l.aD++[fU l cp os]} cp.h).map (dN.hand cp.h)++gs.map λr=>.send cp.h r (gW (bA s a cp l os ts).ws r (gX {l with aD:=l.aD++[fU l cp os]})))} rfl rfl rfl (by rw[I,List.set_set]);refine⟨x _ le.2.2.2 st,λk J g O=>?_⟩;have O:eU (kJ ns rs o (bA s a cp l os ts).ws k) ((bA s a cp l os ts).R k) g:=O;rw[le.1,le.2.1] at O;have b:=h.ld k J g O;have D:∀c,s.groups[c]?=some k->(bA s a cp l os ts).aO.getD c 0=s.aO.getD c 0:=λc _=>by rw[le.2.2.1]
  refine⟨λt f=>?_,λc v d H A B=>?_⟩
  ·have old:t∈s.ts k->∃h c r:Nat,t=((h:Int),(c:Int),(r:Int))/\Led rs g _ k h c r:=λz=>by
    obtain⟨K,U,r',e',q⟩:=b.nt t z;exact⟨K,U,r',e',q.of le.2.2.2 D⟩
   have f:t∈(bA s a cp l os ts).ts k:=f;unfold bA at f;split at f
   ·exact old f
   ·rename_i no
    have f:t∈fD s.ts l.grp ts k:=f;by_cases z:k=l.grp
    ·subst z
     rw[bS] at f;have f:=V.mem_iff.mp f;unfold put3 at f;rcases br.mp f with w'|w'
     ·exact old (bC.mp w').1
     ·refine⟨cp.h,l.s,cp.r,bq.mp w',?_⟩
      exact (b.cp cp P l hl rfl (by simpa using no)).of le.2.2.2 D
    ·rw[cZ z] at f
     exact old f
  ·obtain⟨e,j,w,u,C⟩:=st c.l d H
   have v:c∈(bA s a cp l os ts).cps++_:=v;rw[ec] at v;rcases br.mp v with z|z
   ·have:=(b.cp c (List.mem_of_mem_eraseIdx z) e j (u.trans A) (C.trans B)).of le.2.2.2 D
    rw[w] at this;exact this
   ·obtain⟨r,W,rfl⟩:=aL.mp z
    have j:s.ls[cp.l]?=some e:=j;rw[hl] at j;cases j;have ek:l.grp=k:=u.trans A;subst ek;have eo:=Q.uniq O;subst eo;have q:=b.cp cp P l hl rfl (C.trans B);obtain⟨N,M,g3⟩:=L r W;obtain⟨S,T,_⟩:=F.back N M;have ne:cp.r≠r:=λz=>g3 (by rw[z]);have t1:=F.avoid q.1 q.2.1 M q.2.2.2;have t2:Rw rs os r cp.h (eN rs cp.r cp.h):=.step .refl q.1 ne q.2.1;have q':Led rs os s l.grp (eN rs r cp.h) l.s r:=⟨N,S,q.2.2.1,by rw[T];exact t2.trans t1⟩
    have:=q'.of le.2.2.2 D
    rw[w] at this;exact this
 ·have st:=m (j8 s a cp l os) {l with aD:=l.aD++[fU l cp os]} rfl rfl rfl rfl
  refine⟨x _ rfl st,λk J g O=>?_⟩;refine (h.ld k J g O).of (λt h=>h) rfl (λ_ _=>rfl) λc v d H A B=>?_;obtain⟨e,j,w,u,C⟩:=st c.l d H;exact⟨List.mem_of_mem_eraseIdx v,e,j,w,u.trans A,C.trans B⟩
theorem aee{o:cX ns rs}{cl:List (Nat×Nat)}:Ld o (S0 ns rs cl):=⟨λl h=>(by cases h),λg _ os _=>⟨λt h=>(by cases h),λc h=>(by cases h)⟩⟩
end
section
variable{P:Program}{w:World}{K:af}{mg:Str->Option Value}{base:Heap}
noncomputable def dD(d:dN):PyData:=.tuple (.str (dW d)::(dI d).map .int)
theorem EJ{H:Hp}:∀{qs:List Addr} {ds:List dN},dF K H qs (ds.map dN.vs)->cW K H (ds.map dD) (qs.map V.ref)
 |[],[],_=>rfl
 |[],_::_,h=>by cases h.len
 |_::_,[],h=>by cases h.len
 |q::qs,d::ds,h=>⟨.ref q,qs.map V.ref,rfl,⟨q,V.str (dW d)::(dI d).map V.int,rfl,by rw[<- LM];exact h.at' 0 q _ rfl rfl,⟨_,_,rfl,rfl,ud _⟩⟩,EJ ⟨Nat.succ.inj h.len,λi p x a b=>h.at' (i+1) p x a b⟩⟩
theorem Yb(d:dN):PyData.strOk (dW d)=true:=by
 cases d
 ·exact (by decide +kernel:PyData.strOk "post" = true)
 ·exact (by decide +kernel:PyData.strOk "come" = true)
 ·exact (by decide +kernel:PyData.strOk "hand" = true)
 ·exact (by decide +kernel:PyData.strOk "send" = true)
 ·exact (by decide +kernel:PyData.strOk "twice" = true)
 ·exact (by decide +kernel:PyData.strOk "lost" = true)
theorem AU:∀ds:List dN,PyData.canLayAll0 (ds.map dD)=true
 |[]=>rfl
 |d::ds=>by
  show ((PyData.strOk (dW d)&&PyData.canLayAll0 ((dI d).map .int))&&PyData.canLayAll0 (ds.map dD))=true;rw[AU ds,pT,Yb];rfl
theorem Im:∀ds:List dN,PyData.depthAll (ds.map dD)<=1
 |[]=>!_
 |d::ds=>by
  show max (max 0 (PyData.depthAll ((dI d).map .int))+1) (PyData.depthAll (ds.map dD))<=1
  have:=Im ds
  have:=vN (dI d)
  lia
noncomputable def Yc(t:T3):PyData:=.tuple (([t.1,t.2.1,t.2.2]:List Int).map .int)
theorem Io{H:Hp}:∀{qs:List Addr} {us:List T3},fT K H qs us->cW K H (us.map Yc) (qs.map V.ref)
 |[],[],_=>rfl
 |[],_::_,h=>by cases h.1
 |_::_,[],h=>by cases h.1
 |q::qs,u::us,h=>⟨.ref q,qs.map V.ref,rfl,Rep.JB (ns:=[u.1,u.2.1,u.2.2]) (h.2 0 q u rfl rfl),Io ⟨Nat.succ.inj h.1,λi p x a b=>h.2 (i+1) p x a b⟩⟩
theorem DA:∀us:List T3,PyData.canLayAll0 (us.map Yc)=true
 |[]=>rfl
 |u::us=>by
  show (PyData.canLayAll0 (([u.1,u.2.1,u.2.2]:List Int).map .int)&&PyData.canLayAll0 (us.map Yc))=true;rw[DA us,pT];rfl
theorem Kc:∀us:List T3,PyData.depthAll (us.map Yc)<=1
 |[]=>!_
 |u::us=>by
  show max (PyData.depthAll (([u.1,u.2.1,u.2.2]:List Int).map .int)+1) (PyData.depthAll (us.map Yc))<=1
  have:=Kc us
  have:=vN [u.1,u.2.1,u.2.2]
  lia
end
section
variable{K:af}{H H' H2:Hp}{G:Addr->Prop}
def qb(H:Hp)(G:Addr->Prop):Prop:=∀b,G b->∃o,H b=some o/\yo o
end
section
theorem LN(y:Int){n:Nat}(h:0<n):∃x:Nat,y%(n:Int)=(x:Int)/\x<n:=by
 have b:=bU y (show (n:Int)≠0 by lia);have a:=ck y (show (0:Int)<(n:Int) by lia);exact⟨(y%(n:Int)).toNat,∅,∅⟩
end
section
variable{ns:List Int}{rs:List R5}{os:List Nat}{s:NS}
theorem VL(F:Fo ns rs os){l:LS}{e:En}:(Aw rs s l e.h e.by? os).Nodup/\∀r∈Aw rs s l e.h e.by? os,r∈goes rs os e:=by
 have a:((((os.filter (isAt rs e.h)).map λk:Nat=>(k:Int)).filter (gx (e.by?.map λk:Nat=>(k:Int)))).map Int.toNat).Nodup/\∀r∈(((os.filter (isAt rs e.h)).map λk:Nat=>(k:Int)).filter (gx (e.by?.map λk:Nat=>(k:Int)))).map Int.toNat,r∈goes rs os e:=by
  rw[XX];exact⟨XY F,λ_ h=>h⟩
 unfold Aw DB;split
 ·exact a
 ·split
  ·exact⟨k8,λr b=>by cases b⟩
  ·split
   ·rename_i q _
    split
    ·rename_i g
     have sub:∀r∈([q].filter (gx (e.by?.map λk:Nat=>(k:Int)))).map Int.toNat,r∈goes rs os e:=λr b=>by
      refine a.2 r ?_;obtain⟨y,f,c⟩:=aL.mp b;obtain⟨i,d⟩:=bC.mp f;rw[bq.mp i] at c d;exact aL.mpr ⟨q,bC.mpr ⟨g,d⟩,c⟩
     refine⟨?_,sub⟩;rw[fj];split <;> simp
    ·exact a
   ·exact a
theorem WJ.Qo(F:Fo ns rs os){f:Nat}{D i:List En}(w:WJ ns rs os f D i):(D++i).length<=rs.length+1:=by
 have k:∀L:List En,(L.map (·.h)).Nodup->(∀e∈L,e∈D++i)->(∀e∈L,e.fr≠none)->L.length<=rs.length:=λL nd sub fr=>by
  have u:(L.map λe=>e.by?.getD rs.length).Nodup:=by
   rw[List.Nodup,List.pairwise_map] at nd ⊢;refine List.Pairwise.imp_of_mem ?_ nd;intro a b x y N s;cases p:a.fr with
   |none=>exact fr a x p
   |some S =>
    cases t:b.fr with
    |none=>exact fr b y t
    |some Q =>
     obtain⟨E,K⟩:=S;obtain⟨I,W⟩:=Q;have J:E=I:=by
      unfold En.by? at s;rw[p,t] at s;exact s
     subst J;obtain⟨H,G,O,_,R⟩:=w.fr a (sub a x) _ _ p;obtain⟨U,M,v,_,C⟩:=w.fr b (sub b y) _ _ t;rcases F.two H G M with z|z
     ·rw[z] at v
      exact N (O.symm.trans v)
     ·rw[z] at C
      exact F.cut E H K G ((F.symm R).trans C)
  have T:∀r∈L.map (λe=>e.by?.getD rs.length),r∈aA rs.length:=λr o=>by
   obtain⟨e,c,d⟩:=aL.mp o;cases z:e.fr with
   |none=>exact eL z (fr e c)
   |some q =>
    obtain⟨P,V⟩:=q;unfold En.by? at d;rw[z] at d;have d:P=r:=d;subst d;exact dm.mpr (F.lt _ (w.fr e (sub e c) _ _ z).1)
  have:=u.length_le_of_subset T
  rwa [ah,bB] at this
 by_cases o:∃e∈D++i,e.fr=none
 ·obtain⟨e,c,d⟩:=o
  obtain⟨A,B,j⟩:=List.append_of_mem c;have nd:=w.nd;rw[j] at nd ⊢;have pm:(A++e::B).Perm (e::(A++B)):=List.perm_middle;have g:((e::(A++B)).map (·.h)).Nodup:=(pm.map _).nodup_iff.mp nd;rw[bO,mG] at g;have l:∀m∈A++B,m∈D++i:=λm n=>by
   rw[j];exact pm.mem_iff.mpr (bu _ n)
  have:=k (A++B) g.2 l λm n z=>g.1 (by
   rw[w.f0 e c d,<- w.f0 m (l m n) z];exact kj n)
  rw[pm.length_eq];simp only[bx];lia
 ·have:=k (D++i) w.nd (λe c=>c) λe c z=>o ⟨e,c,z⟩
  lia
structure J5(ns:List Int)(rs:List R5)(os:List Nat)(i g num:Nat)(D:List En)(s:NS):Prop where
 all:∀c∈s.cps,c.l=i
 wj:∃f,WJ ns rs os f D (s.cps.map (EI rs))
 lt:∃l,s.ls[i]?=some l/\l.done=D.map (·.h)/\l.grp=g/\gX l=num
def Wd(os:List Nat)(ws:List (List Nat))(num:Nat)(ds:List dN):Prop:=∀d∈ds,∀h r x,d=.send h r x->r∈os/\x=gW ws r num
theorem Zo{h num:Nat}{l f:List Nat}{b:List (List Nat)}(j:∀r∈f,r∈os):Wd os b num (l.map (dN.hand h)++f.map λr=>.send h r (gW b r num)):=λd i m r x e=>by
 rcases br.mp i with z|z
 ·obtain⟨c,_,k⟩:=aL.mp z
  rw[<- k] at e;cases e
 ·obtain⟨n,a,g⟩:=aL.mp z
  rw[<- g] at e;cases e;exact⟨j _ a,rfl⟩
theorem NH(F:Fo ns rs os){i h num:Nat}{e:En}(g:e.h=h){a:List Nat}{d:List (List Nat)}(b:∀r∈a,r∈goes rs os e):(a.map λr=>(⟨i,r,gW d r num,eN rs r h⟩:Cp)).map (EI rs)=a.map (nx rs e):=by
 rw[dw];refine c6 λr j=>?_;obtain⟨f,c,_⟩:=qh.mp (b r j);subst g;show (⟨eN rs r e.h,some (r,eN rs r (eN rs r e.h))⟩:En)=⟨eN rs r e.h,some (r,e.h)⟩;rw[(F.back f c).2.1]
theorem J5.post{n m v x:Nat}{to:Option Nat}(F:Fo ns rs os)(z:Bd n m v s)(G:n=ns.length)(o:x<s.aO.length)(D:s.cps=[]) :
 ∃l,(c5 rs s x to os).ls[s.ls.length]?=some l/\J5 ns rs os s.ls.length (s.groups.getD x 0) (gX (cF s x to)) [⟨s.aO.getD x 0,none⟩] (c5 rs s x to os)/\Wd os s.ws (gX (cF s x to)) l.aD/\(c5 rs s x to os).ls.length=s.ls.length+1:=by
 have j:s.aO.getD x 0<ns.length:=by
  rw[<- G];refine z.hm _ ?_;rw[az,aa o];exact aQ o
 generalize p:s.aO.getD x 0=f at j;have u:c5 rs s x to os=Np rs (gj s x to) s.ls.length f {cF s x to with aD:=[.post f]} none os:=by unfold c5;rw[p]
 obtain⟨H,t⟩:=uF (rs:=rs) (os:=os) (h:=f) (aU:=none) (s:=gj s x to) (i:=s.ls.length) (l:={cF s x to with aD:=[.post f]}) (by show (s.ls++[_])[s.ls.length]?=_;rw[p];exact iA);have go:(Aw rs (gj s x to) {cF s x to with aD:=[.post f]} f none os).Nodup/\∀r∈Aw rs (gj s x to) {cF s x to with aD:=[.post f]} f none os,r∈goes rs os ⟨f,none⟩:=VL (e:=⟨f,none⟩) F;rw[u,t];generalize Aw rs (gj s x to) {cF s x to with aD:=[.post f]} f none os=gs at go;generalize iz (gj s x to) {cF s x to with aD:=[.post f]} f=hs;have k:∀g,(gj s x to).ls.set s.ls.length g=s.ls++[g]:=λg=>by
  show (s.ls++[_]).set s.ls.length g=_;rw[vJ _ _ (ay _),iY];rfl
 have J:∀E y,gX {cF s x to with aD:=E,done:=y}=gX (cF s x to):=λ_ _=>rfl;have w:=(WJ.zero (rs:=rs) (os:=os) j).next (A:=[]) (B:=[]) F go.1 go.2;have q:(gj s x to).cps++gs.map (λr=>(⟨s.ls.length,r,gW s.ws r (gX (cF s x to)),eN rs r f⟩:Cp))=gs.map λr=>⟨s.ls.length,r,gW s.ws r (gX (cF s x to)),eN rs r f⟩:=by
  show s.cps++_=_;rw[D];rfl
 obtain⟨L,b⟩:∃L:LS,L={cF s x to with done:=nV [] f,aD:=[.post f]++(hs.map (dN.hand f)++gs.map λr=>.send f r (gW s.ws r (gX (cF s x to))))}:=⟨_,rfl⟩;refine⟨L,?_,⟨λc a=>?_,⟨f,?_⟩,L,?_,by rw[b];rfl,by rw[b];rfl,by rw[b];rfl⟩,?_,?_⟩
 ·show ((gj s x to).ls.set s.ls.length _)[s.ls.length]?=_
  rw[k,b];exact iA
 ·have a:c∈(gj s x to).cps++gs.map λr=>(⟨s.ls.length,r,gW s.ws r (gX (cF s x to)),eN rs r f⟩:Cp):=a
  rw[q] at a;obtain⟨r,_,rfl⟩:=aL.mp a;rfl
 ·show WJ ns rs os f _ (((gj s x to).cps++gs.map λr=>(⟨s.ls.length,r,gW s.ws r (gX (cF s x to)),eN rs r f⟩:Cp)).map (EI rs))
  rw[q,NH F (e:=⟨f,none⟩) rfl go.2];exact w
 ·show ((gj s x to).ls.set s.ls.length _)[s.ls.length]?=_
  rw[k,b];exact iA
 ·rw[b]
  intro d hd h r C e;rcases bf.mp hd with rfl|hd
  ·cases e
  ·exact Zo (λr I=>(qh.mp (go.2 r I)).1) d hd h r C e
 ·show ((gj s x to).ls.set s.ls.length _).length=_
  rw[bT];exact av
theorem J5.pass{i g num:Nat}{D:List En}{cp:Cp}{l:LS}{ts:List T3}(F:Fo ns rs os)(j:J5 ns rs os i g num D s)(b:s.cps[0]?=some cp)(hl:s.ls[cp.l]?=some l) :
 uE l cp os = "come" /\ ∃e m n,J5 ns rs os i g num (D++[e]) (gk rs s 0 cp l os ts)/\(gk rs s 0 cp l os ts).ls[i]?=some m/\m.aD=l.aD++n/\Wd os s.ws num n/\(gk rs s 0 cp l os ts).ls.length=s.ls.length:=by
 obtain⟨f,wj⟩:=j.wj;obtain⟨l0,K,I,Q,N⟩:=j.lt;have t:=j.all cp (aM b);rw[t,K] at hl;cases hl;obtain⟨rest,u⟩:∃rest,s.cps=cp::rest:=by
  cases e:s.cps with
  |nil=>rw[e] at b;cases b
  |cons c r=>rw[e] at b;cases b;exact⟨r,rfl⟩
 rw[u,bO] at wj;generalize M:EI rs cp=e at wj;have o:e.h=cp.h:=by rw[<- M];rfl
 have L:e.fr=some (cp.r,eN rs cp.r cp.h):=by rw[<- M];rfl
 have P:e.by?=some cp.r:=by unfold En.by?;rw[L];rfl
 have C:e∈D++e::rest.map (EI rs):=-_
 obtain⟨H,q2,q3,q4,q5⟩:=wj.fr e C _ _ L;have nd:e.h∉l.done:=λz=>by
  rw[I] at z;obtain⟨y,O,Y⟩:=aL.mp z;exact Il wj.nd (-_) y O Y
 have k:Av l cp.h=false:=by rw[NF rfl,<- o];exact gU nd
 have E:comes l cp os=true:=by
  unfold comes;rw[k,fy H];rfl
 refine⟨by unfold uE;rw[ee H,k,er (!_)],e,?_⟩;have G:fU l cp os=.Iz cp.h cp.r:=by
  unfold fU;rw[k,ee H,er (!_)]
 have q:s.ls[cp.l]?=some l:=by rw[t];exact K
 have x:=(ai.mp q).1;have v:=jf (a:=0) (os:=os) (ts:=ts) q;obtain⟨U,S⟩:=uF (rs:=rs) (os:=os) (h:=cp.h) (aU:=some cp.r) v;have go:=VL (s:=bA s 0 cp l os ts) (l:={l with aD:=l.aD++[fU l cp os]}) (e:=e) F;rw[P,o] at go;unfold gk;rw[ee E,S];generalize Aw rs (bA s 0 cp l os ts) {l with aD:=l.aD++[fU l cp os]} cp.h (some cp.r) os=gs at go;generalize iz (bA s 0 cp l os ts) {l with aD:=l.aD++[fU l cp os]} cp.h=hs;have T:(bA s 0 cp l os ts).ws=s.ws:=tZ.1;have Z:(bA s 0 cp l os ts).cps=rest:=by
  unfold bA;split
  ·show s.cps.eraseIdx 0=rest
   rw[u];rfl
  ·show s.cps.eraseIdx 0=rest
   rw[u];rfl
 have J:(bA s 0 cp l os ts).ls.length=s.ls.length:=by
  unfold bA;split
  ·exact bT
  ·exact bT
 have X:gX {l with aD:=l.aD++[fU l cp os]}=num:=N;rw[T,Z,X];have w:=wj.next (A:=[]) (B:=rest.map (EI rs)) F go.1 go.2;have p:∀m,((bA s 0 cp l os ts).ls.set cp.l m)[i]?=some m:=λm=>by
  rw[<- t,uK,ee rfl,ee (by rw[J];exact x)]
 refine⟨_,[.Iz cp.h cp.r]++(hs.map (dN.hand cp.h)++gs.map λr=>.send cp.h r (gW s.ws r num)),⟨λc V=>?_,⟨f,?_⟩,_,p _,?_,Q,N⟩,p _,?_,?_,?_⟩
 ·rcases br.mp V with z|z
  ·exact j.all c (by rw[u];exact bu _ z)
  ·obtain⟨r,_,rfl⟩:=aL.mp z
   exact t
 ·show WJ ns rs os f _ ((rest++gs.map λr=>(⟨cp.l,r,gW s.ws r num,eN rs r cp.h⟩:Cp)).map (EI rs))
  rw[aT,NH F o go.2];exact w
 ·show nV l.done cp.h=_
  unfold nV;rw[er (by rw[<- o];exact nd),I,aT,<- o];rfl
 ·show (l.aD++[fU l cp os])++_=_
  rw[G,cH]
 ·intro d hd h r W e
  rcases bf.mp hd with rfl|hd
  ·cases e
  ·exact Zo (λr R=>(qh.mp (go.2 r R)).1) d hd h r W e
 ·show ((bA s 0 cp l os ts).ls.set cp.l _).length=_
  rw[bT];exact J
theorem J5.len(F:Fo ns rs os){i g num:Nat}{D:List En}(j:J5 ns rs os i g num D s):D.length+s.cps.length<=rs.length+1:=by
 obtain⟨f,wj⟩:=j.wj
 have:=wj.Qo F
 rwa [av,ah] at this
end
section
variable{ns:List Int}{rs:List R5}{bs:List (List Bool)}{cl:List (Nat×Nat)}{os:Nat->List Nat}{Ls:List (Nat×Option Nat)}{b D:Nat}{s:NS}
theorem VM{a:Nat}{cp:Cp}{l:LS}{os:List Nat}{ts:List T3}(hl:s.ls[cp.l]?=some l):(gk rs s a cp l os ts).ls.length=s.ls.length:=by
 unfold gk;split
 ·obtain⟨c,b⟩:=uF (rs:=rs) (os:=os) (h:=cp.h) (aU:=some cp.r) (jf (a:=a) (os:=os) (ts:=ts) hl)
  rw[b];show ((bA s a cp l os ts).ls.set _ _).length=_;rw[bT];unfold bA;split <;> exact bT
 ·exact bT
theorem aef{o:cX ns rs}{g:Nat}{os:List Nat}(h:Ld o s)(d:g<3)(O:eU (kJ ns rs o s.ws g) (s.R g) os):NL rs os s.aO (s.ts g):=λt a=>by
 obtain⟨b,c,r,e,q⟩:=(h.ld g d os O).nt t a;exact⟨b,c,r,e,q.1,q.2.1,q.2.2.2⟩
theorem SG{a:Nat}{cp:Cp}{l:LS}{os:List Nat}{ts:List T3}(hl:s.ls[cp.l]?=some l):(gk rs s a cp l os ts).ws=s.ws/\(gk rs s a cp l os ts).R=s.R/\(gk rs s a cp l os ts).aO=s.aO/\(gk rs s a cp l os ts).groups=s.groups:=by
 unfold gk;by_cases c:comes l cp os=true
 ·rw[ee c]
  obtain⟨i,f,k,g⟩:=tZ (s:=s) (a:=a) (cp:=cp) (l:=l) (os:=os) (ts:=ts);obtain⟨d,b,e,j⟩:=PF (rs:=rs) (h:=cp.h) (aU:=some cp.r) (os:=os) (jf (a:=a) (os:=os) (ts:=ts) hl);exact⟨d.trans i,b.trans f,e.trans k,j.trans g⟩
 ·rw[er c]
  exact⟨rfl,rfl,rfl,rfl⟩
end
section
structure EK(ns:List Int)(rs:List R5)(o:cX ns rs)(bs:List (List Bool))(cl:List (Nat×Nat))(D:Nat)(s:NS):Prop extends SD ns rs bs cl D s where
 ld:Ld o s
variable{ns:List Int}{rs:List R5}{o:cX ns rs}{bs:List (List Bool)}{cl:List (Nat×Nat)}{D:Nat}{s s':NS}
theorem EK.b0(h:EK ns rs o bs cl D s):SD ns rs bs cl D s:=⟨h.ok,h.bd,h.ws,h.fit,h.hm,h.gr⟩
theorem EK.mono{a:Nat}(h:EK ns rs o bs cl D s)(e:D<=a):EK ns rs o bs cl a s:=⟨h.b0.mono e,h.ld⟩
theorem EK.call{g x:Nat}{d:RM.Row}(h:EK ns rs o bs cl D s)(a:BB ns.length rs.length d):EK ns rs o bs cl D (FE s g x d):=⟨h.b0.call a,h.ld.call⟩
theorem EK.post{x:Nat}{to:Option Nat}{os:List Nat}(h:EK ns rs o bs cl D s)(b:x<s.aO.length)(O:eU (kJ ns rs o s.ws (s.groups.getD x 0)) (s.R (s.groups.getD x 0)) os)(a:os.length<=12):EK ns rs o bs cl (D+100) (c5 rs s x to os):=⟨h.b0.post o b O a,h.ld.post b (by rw[h.bd.gl];exact b) (λc d=>(h.bd.cl c d).1) O⟩
theorem EK.pass{a:Nat}{cp:Cp}{l:LS}{os:List Nat}{ts:List T3}(h:EK ns rs o bs cl D s)(hl:s.ls[cp.l]?=some l)(b:s.cps[a]?=some cp)(O:eU (kJ ns rs o s.ws l.grp) (s.R l.grp) os)(d:os.length<=12)(p:ts.Perm (put3 (s.ts l.grp) cp.h l.s cp.r))(e:bX ts):EK ns rs o bs cl (D+100) (gk rs s a cp l os ts):=⟨h.b0.pass o hl (ai.mp b).1 O d p e,h.ld.pass (λc f=>(h.bd.cl c f).1) b hl (h.bd.lb l (aM hl)).2.2.1 O p⟩
inductive Pz(ns:List Int)(rs:List R5)(o:cX ns rs):Nat->NS->NS->Prop
 |refl {s:NS}:Pz ns rs o 0 s s
 |step {n:Nat} {s s':NS} {cp:Cp} {l:LS} {os:List Nat} {ts:List T3}:Pz ns rs o n s s'->s'.cps[0]?=some cp->s'.ls[cp.l]?=some l->eU (kJ ns rs o s'.ws l.grp) (s'.R l.grp) os->os.length<=12->ts.Perm (put3 (s'.ts l.grp) cp.h l.s cp.r)->bX ts->Pz ns rs o (n+1) s (gk rs s' 0 cp l os ts)
theorem Pz.sd{n:Nat}(z:Pz ns rs o n s s')(h:EK ns rs o bs cl D s):EK ns rs o bs cl (D+100*n) s':=by
 induction z with
 |refl=>exact h
 |step z a e O b p d c=>exact (c h).pass e a O b p d
theorem Pz.same{n:Nat}(z:Pz ns rs o n s s'):s'.ws=s.ws/\s'.R=s.R/\s'.aO=s.aO/\s'.groups=s.groups/\s'.ls.length=s.ls.length:=by
 induction z with
 |refl=>exact⟨rfl,rfl,rfl,rfl,rfl⟩
 |step z f b O g p r j =>
  obtain⟨d,c,e,l⟩:=SG (rs:=rs) (a:=0) (os:=_) (ts:=_) b;obtain⟨k,h,m,i,q⟩:=j;exact⟨d.trans k,c.trans h,e.trans m,l.trans i,(VM b).trans q⟩
theorem Pz.j5{n i g num:Nat}{os:List Nat}{E0:List En}(z:Pz ns rs o n s s')(O:eU (kJ ns rs o s.ws g) (s.R g) os)(j:J5 ns rs os i g num E0 s):∃E:List En,E.length=n/\J5 ns rs os i g num (E0++E) s':=by
 induction z with
 |refl=>exact⟨[],rfl,by rw[bY];exact j⟩
 |step z a d f l p y t =>
  obtain⟨E,k,b⟩:=t O j;obtain⟨u,q,_⟩:=z.same;obtain⟨C,h,B,m,A⟩:=b.lt;have c:=b.all _ (aM a);rw[c,h] at d;cases d;rw[m,u,q] at f;have w:=f.uniq O;subst w;obtain⟨_,e,x,r,v,_⟩:=J5.pass (Fo.of O) b a (by rw[c];exact h);exact⟨E++[e],by rw[av,k];rfl,by rw[<- cH];exact v⟩
theorem Pz.len{n i g num:Nat}{os:List Nat}{E0:List En}(z:Pz ns rs o n s s')(O:eU (kJ ns rs o s.ws g) (s.R g) os)(j:J5 ns rs os i g num E0 s):E0.length+n+s'.cps.length<=rs.length+1:=by
 obtain⟨E,a,b⟩:=z.j5 O j
 have:=b.len (Fo.of O)
 rw[av,a] at this;exact this
theorem LO{ls:List LS}{i:Nat}(h:i<ls.length)(l:LS):(ls.set i l)[i]?=some l:=by rw[uK,ee rfl,ee h]
end
section
variable{P:Program}{w:World}{K:af}{mg:Str->Option Value}{base:Heap}
noncomputable abbrev aeg(cl:List (Nat×Nat)):List (List V):=cl.map λc=>[.int c.1,.int c.2]
inductive Ip(K:af)(CT:Addr)(c:NC)(vs:List V)(H:Hp)(Q:VK)(E:XK):Prop
 |mk (F:Addr->Prop) (p tp ln lr:Addr) (ns:List Int) (rs:List R5) (o:cX ns rs) (bs:List (List Bool)) (cl:List (Nat×Nat)) (D:Nat) (s:NS) (g:Nat):vs=[.ref p,.int (ns.length:Nat),.int g]->NW K c CT H F p tp ln lr ns rs s->EK ns rs o bs cl D s->g<3->(∀s' F' H',NW K c CT H' F' p tp ln lr ns rs s'->EK ns rs o bs cl D s'->Step H F H' F'->Q .fH H')->Ip K CT c vs H Q E
theorem NI{t:Ad}(T:Txt K mg t):cz P w K mg base iM 5 t.sQ t.xE ["_law_net","_law_size","_law_group"]  (Ip K t.bD (nc t)):=by
 refine T.Hi.F.kh zH λH Q E X h=>?_
 ·obtain⟨F,p,J,B,A,ns,y,o,M,R,D,st,g,rfl,N,sd,hg,k⟩:=h
  refine⟨_,(bJ (fS (gA rfl T.jy (gV (bw Tq aB (pv 1)))) (gT 3 zH) (bJ (fS (gA rfl T.jy (gV (pv 1))) (gT 4 zH) (oE (cM (pv 0) T.bV T.Hg (Nk T) X (nZ (bw dZ (bw fB (pv 4) (pv 3)) (pv 1)) (pv 2)))))))),?_⟩
  left
  have O2:=o.O2;have n1:=o.n1;refine⟨_,rfl,_,_,rfl,rfl,.inl ⟨!_,!_⟩,2*(ns.length:Int),rfl,∅,∅,Az (n:=(2*(ns.length:Int)).toNat) (λi e v=>∃(l:NS) (s:Addr->Prop) (L c:Option V),NW K (nc t) t.bD v s p J B A ns y l/\EK ns y o M R D l/\Step H F v s/\e=[some (.ref p),some (.int (ns.length:Nat)),some (.int g),L,c]) ⟨st,F,_,_,N,sd,Step.refl' (aG.refl _),rfl⟩ ?_ ?_⟩
  ·rintro i e v hi ⟨l,s,L,c,C,G,f,rfl⟩
   refine⟨_,rfl,(ns.length:Int),rfl,∅,∅,Az (n:=(ns.length:Int).toNat) (λj e z=>∃(m:NS) (r:Addr->Prop) (c:Option V),NW K (nc t) t.bD z r p J B A ns y m/\EK ns y o M R D m/\Step H F z r/\e=[some (.ref p),some (.int (ns.length:Nat)),some (.int g),some (.int (0+(i:Int))),c]) ⟨l,s,_,C,G,f,rfl⟩ ?_ ?_⟩
   ·rintro j e z hj ⟨m,r,c,u,a,b,rfl⟩
    obtain⟨loc,dx,q,Y,O,hF,hT⟩:=id u.fC;have S:=O.get .fC _ rfl;rw[Y] at S;have I:(0:Int)<=(0+(j:Int)+(0+(i:Int)))%(ns.length:Int):=bU _ ∅;have W:(0+(j:Int)+(0+(i:Int)))%(ns.length:Int)<(ns.length:Int):=ck _ ∅;obtain⟨x,ex⟩:∃x:Nat,(0+(j:Int)+(0+(i:Int)))%(ns.length:Int)=(x:Int):=⟨_,(Int.toNat_of_nonneg I).symm⟩;have hx:x<ns.length:=∅
    refine⟨_,rfl,p,_,_,rfl,S,rfl,_,rfl,_,rfl,_,_,rfl,rfl,_,rfl,_,_,rfl,rfl,∅,?_⟩
    try dsimp only
    rw[ex];refine⟨_,rfl,r,p,J,B,A,ns,y,m,o,x,g,rfl,u,a.ok,hx,hg,λd F4 H4 hd Z N4 U=>?_⟩;exact⟨_,F4,_,u.done U N4,a.call Z,b.trans U,rfl⟩
   ·rintro e z ⟨m,r,c,u,a,b,rfl⟩
    exact⟨m,r,_,_,u,a,b,rfl⟩
  ·rintro e v ⟨l,s,L,c,C,G,f,rfl⟩
   exact k l s v C G f
end
section
structure Eqv(a b:NS):Prop where
 ws:a.ws=b.ws
 R:a.R=b.R
 hm:a.aO=b.aO
 gr:a.groups=b.groups
 ls:a.ls=b.ls
 cps:a.cps=b.cps
 ts:∀g,(a.ts g).Perm (b.ts g)
variable{ns:List Int}{rs:List R5}{o:cX ns rs}{bs:List (List Bool)}{cl:List (Nat×Nat)}{D:Nat}{s a b:NS}
theorem Eqv.refl:Eqv a a:=⟨rfl,rfl,rfl,rfl,rfl,rfl,λ_=>.refl _⟩
theorem BE{xs a:List T3}(p:xs.Perm a)(d:bX xs)(b:bX a){h c:Int}:jK xs h c=jK a h c:=by
 refine Option.ext λr=>?_;rw[mz d,mz b];exact p.mem_iff
theorem Eqv.here(e:Eqv a b){h g:Nat}:oh a h g=oh b h g:=by
 unfold oh Co;rw[e.hm,e.gr]
theorem Eqv.go(e:Eqv a b){l:LS}{h:Nat}{aU:Option Nat}{os:List Nat}(d:bX (a.ts l.grp))(c:bX (b.ts l.grp)):Aw rs a l h aU os=Aw rs b l h aU os:=by
 unfold Aw;rw[e.here];unfold DB;simp only[BE (e.ts l.grp) d c]
theorem Eqv.do_(e:Eqv a b){i h:Nat}{l:LS}{aU:Option Nat}{os:List Nat}(hl:a.ls[i]?=some l)(j:bX (a.ts l.grp))(d:bX (b.ts l.grp)):Eqv (Np rs a i h l aU os) (Np rs b i h l aU os):=by
 obtain⟨n,f⟩:=uF (rs:=rs) (os:=os) (h:=h) (aU:=aU) hl;obtain⟨m,k⟩:=uF (rs:=rs) (os:=os) (h:=h) (aU:=aU) (s:=b) (i:=i) (l:=l) (by rw[<- e.ls];exact hl);have c:=e.go (rs:=rs) (l:=l) (h:=h) (aU:=aU) (os:=os) j d;have g:iz a l h=iz b l h:=by unfold iz;rw[e.here]
 rw[f,k];refine⟨e.ws,e.R,e.hm,e.gr,?_,?_,e.ts⟩
 ·show a.ls.set i _=b.ls.set i _
  rw[e.ls,c,g,e.ws]
 ·show a.cps++_=b.cps++_
  rw[e.cps,c,e.ws]
theorem SH(e:Eqv a b){cp:Cp}{l:LS}{os:List Nat}{ts ts':List T3}(p:ts.Perm ts'):Eqv (bA a 0 cp l os ts) (bA b 0 cp l os ts'):=by
 have c:Eqv (j8 a 0 cp l os) (j8 b 0 cp l os):=by
  refine⟨e.ws,e.R,e.hm,e.gr,?_,?_,e.ts⟩
  ·show a.ls.set cp.l _=b.ls.set cp.l _
   rw[e.ls]
  ·show a.cps.eraseIdx 0=b.cps.eraseIdx 0
   rw[e.cps]
 unfold bA;split
 ·exact c
 ·refine⟨c.ws,c.R,c.hm,c.gr,c.ls,c.cps,λg=>?_⟩
  show (fD (j8 a 0 cp l os).ts l.grp ts g).Perm (fD (j8 b 0 cp l os).ts l.grp ts' g);by_cases z:g=l.grp
  ·subst z
   rw[bS,bS];exact p
  ·rw[cZ z,cZ z]
   exact c.ts g
theorem NJ{cp:Cp}{l:LS}{os:List Nat}{ts:List T3}(h:bX (s.ts l.grp))(a:bX ts):bX ((bA s 0 cp l os ts).ts l.grp):=by
 unfold bA;split
 ·exact h
 ·show bX (fD _ l.grp ts l.grp)
  rw[bS];exact a
theorem Pz.eqv{n:Nat}(m:Pz ns rs o n s a)(h:EK ns rs o bs cl D s):∀{b:NS},Pz ns rs o n s b->Eqv a b:=by
 induction m with
 |refl =>
  intro b c;cases c;exact Eqv.refl
 |@step n s a q l os ts m d k O z p x E =>
  intro b c;cases c with
  |@step _ _ b w G r f c j g B C u i =>
   have e:=E h c;have y:=m.sd h;have A:=c.sd h;rw[e.cps,j] at d;cases d;have v:=k;rw[e.ls,g] at k;cases k;rw[e.ws,e.R] at O;have F:=O.uniq B;subst F;have t:ts.Perm f:=by
    refine p.trans (List.Perm.trans ?_ u.symm);unfold put3;exact List.Perm.append_right _ ((e.ts l.grp).filter _)
   unfold gk;split
   ·exact (SH e t).do_ (jf (a:=0) (os:=os) (ts:=ts) v) (NJ (y.bd.tb l.grp).2 x) (NJ (A.bd.tb l.grp).2 i)
   ·refine⟨e.ws,e.R,e.hm,e.gr,?_,?_,e.ts⟩
    ·show a.ls.set q.l _=b.ls.set q.l _
     rw[e.ls]
    ·show a.cps.eraseIdx 0=b.cps.eraseIdx 0
     rw[e.cps]
end
section
variable{P:Program}{w:World}{K:af}{mg:Str->Option Value}{base:Heap}
theorem OE(h a b:Int):CD (.int h) [.int a,.int b]=(decide (h=a) || decide (h=b)):=by
 have:=mR h [a,b]
 rw[show ([a,b]:List Int).map V.int=[.int a,.int b] from rfl] at this;rw[this];by_cases d:h=a <;> by_cases c:h=b <;> simp[d,c]
inductive NK(K:af)(vs:List V)(H:Hp)(Q:VK)(E:XK):Prop
 |mk (b lo d lh:Addr) (ns:List Int) (rs:List R5) (os:List Nat) (ts:List T3) (hs:List Nat) (h:Nat) (aU to:Option Nat):vs=[.ref b,.ref lo,.ref d,.ref lh,.int h,iE (aU.map λk:Nat=>(k:Int)),iE (to.map λk:Nat=>(k:Int))]->KO K H b rs->bP K H lo (bR os)->H d=some (.dT (ts.map fk))->bP K H lh (bR hs)->(∀k∈os,k<rs.length)->bX ts->rs.length<=20->os.length<=12->(∀t∈ts,∃h c r:Nat,t=((h:Int),(c:Int),(r:Int))/\r∈os/\isAt rs (h:Int) r=true)->(∀l H',aG H H'->H l=none->H' l=some (.lst ((DB ts (to.map λk:Nat=>(k:Int)) (h:Int) (aU.map λk:Nat=>(k:Int)) ((os.filter (isAt rs (h:Int))).map λk:Nat=>(k:Int)) (hs.map λk:Nat=>(k:Int))).map V.int))->Q (.ref l) H')->NK K vs H Q E
theorem SJ{t:Ad}(T:Txt K mg t):cz P w K mg base iM 1 t.zI t.CY ["_law_ropes_here","_law_opened","_law_notes","_law_here","_law_house","_law_came","_law_to"]  (NK K):=by
 refine T.MK.F.kh Ea λH Q E hr h=>?_
 ·obtain⟨b,lo,d,lh,ns,rs,os,g,i,h,f,D,rfl,hB,hO,hd,hh,hlt,oe,V0,o12,led,k⟩:=h
  refine⟨_,(aq (cE (jW rW (pv 6) (pv 3) (by with_unfolding_all rfl)) (oR (jq iP)) bz) (aq (cE (PW.pt (Bs (qT AA (pv 6) iO) (wN (S8 (T4 (CG hr) (dU (nZ (pv 4) (pv 6))) (pv 2)) (by with_unfolding_all rfl))))) (oR (gq (kO Ea ["_law_rope","_law_came"] [none,some 5]) rfl (fV (jq (gV (P9 (CG hr) (pv 2) (dU (nZ (pv 4) (pv 6))) (λ_ _=>rfl))))) (λ_ _ _ _=>by exact (gS 0 La)) (λ_ _ _ _=>by exact (mP (qT se (pv 0) (pv 1)))) (λ_ _ _ _=>by exact (pv 0)))) bz) (oR (gq (kO Ea ["_law_rope","_law_came","_law_house","_law_ropes_here"] [none,some 5,some 4,some 0]) rfl (fV (pv 1)) (λ_ _ _ _=>by exact (gS 0 Lb)) (λ_ _ _ _=>by exact (mP (PW.pt (Bs (qT se (pv 0) (pv 1)) (wN (jW (By K rfl) (pv 2) (yQ (Wy K rfl) (yL K (pv 3) (pv 0)) Gh (wQ aB)) (by with_unfolding_all rfl))))))) (λ_ _ _ _=>by exact (pv 0)))))),?_⟩
  left
  obtain⟨u,hL,WW⟩:=id hB;have eus:u.length=rs.length:=by rw[WW.len,ah]
  rw[jJ] at hO hh;have fin:∀ot:Option Int,(DB g ot (h:Int) (f.map λk:Nat=>(k:Int)) ((os.filter (isAt rs (h:Int))).map λk:Nat=>(k:Int)) (i.map λk:Nat=>(k:Int))=((os.filter (isAt rs (h:Int))).map λk:Nat=>(k:Int)).filter (gx (f.map λk:Nat=>(k:Int))))->(os.map λk:Nat=>(k:Int)).filter (λx=>gx (f.map λk:Nat=>(k:Int)) x&&isAt rs (h:Int) x.toNat)=DB g ot (h:Int) (f.map λk:Nat=>(k:Int)) ((os.filter (isAt rs (h:Int))).map λk:Nat=>(k:Int)) (i.map λk:Nat=>(k:Int)):=λot e=>by
   rw[e,List.filter_map,List.filter_map,List.filter_filter];congr 1
  refine bI λNx cD=>?_;refine⟨_,rfl,_,rfl,lh,_,rfl,.inl hh,Ms _,oq _,_,rfl,?_⟩;by_cases m:∃t,D=some t/\t∈i
  ·obtain⟨t,rfl,ht⟩:=m
   have e1:CD (.int (t:Int)) ((i.map λk:Nat=>(k:Int)).map V.int)=true:=by rw[mR];exact fy (kj ht)
   refine Uv (by show CD (.int (t:Int)) _=true;exact e1) ?_;refine⟨bN _,λl hl=>k l _ (aG.new hl) hl ?_⟩
   have:DB g (some (t:Int)) (h:Int) (f.map λk:Nat=>(k:Int)) ((os.filter (isAt rs (h:Int))).map λk:Nat=>(k:Int)) (i.map λk:Nat=>(k:Int))=[]:=ee (kj ht)
   show _=some (HO.lst (List.map V.int (DB g (some (t:Int)) _ _ _ _)));rw[this];exact au
  refine EX ?_ (cD _ _ ?_)
  ·cases D with
   |none=>exact CK _
   |some t =>
    show CD (.int (t:Int)) _=false;rw[mR];refine gU λz=>m ⟨t,rfl,?_⟩;obtain⟨y,j,ey⟩:=aL.mp z;rw[show t=y by lia];exact j
  refine oX (λσ v=>aG H v/\(DB g (D.map λk:Nat=>(k:Int)) (h:Int) (f.map λk:Nat=>(k:Int)) ((os.filter (isAt rs (h:Int))).map λk:Nat=>(k:Int)) (i.map λk:Nat=>(k:Int))=((os.filter (isAt rs (h:Int))).map λk:Nat=>(k:Int)).filter (gx (f.map λk:Nat=>(k:Int))))/\σ=[some (.ref b),some (.ref lo),some (.ref d),some (.ref lh),some (.int (h:Nat)),some (iE (f.map λk:Nat=>(k:Int))),some (iE (D.map λk:Nat=>(k:Int)))]) ?_ (λN' hN=>?_)
  rotate_left
  ·cases D with
   |none=>exact⟨_,rfl,rfl,_,rfl,eZ (hN _ _ ⟨aG.refl _,rfl,rfl⟩)⟩
   |some t =>
    have L:¬(t:Int)∈i.map λk:Nat=>(k:Int):=λz=>by
     obtain⟨y,j,ey⟩:=aL.mp z;exact m ⟨t,rfl,by rw[show t=y by lia];exact j⟩
    refine⟨_,rfl,rfl,_,rfl,gB ⟨_,rfl,_,rfl,g8,λb3 hb3=>?_⟩⟩;have W:=aG.new (o:=.tup [V.int h,iE ((some t:Option Nat).map λk:Nat=>(k:Int))]) hb3;have A:upd H b3 (.tup [V.int h,iE ((some t:Option Nat).map λk:Nat=>(k:Int))]) b3=some (.tup [V.int h,.int t]):=au;generalize upd H b3 (.tup [V.int h,iE ((some t:Option Nat).map λk:Nat=>(k:Int))])=q at W A;refine⟨_,rfl,d,_,rfl,AW.t (k:=keyOf h t) (W _ _ hd) A,_,rfl,?_⟩;rw[sq];cases X:jK g (h:Int) (t:Int) with
    |none =>
     refine eZ (hN _ _ ⟨W,?_,rfl⟩);show (if (t:Int)∈_ then _ else _)=_;rw[er L,X]
    |some r =>
     refine gB ?_;refine⟨_,rfl,_,rfl,_,rfl,g8,λb4 hb4=>?_⟩;have u4:=aG.new (o:=.tup [V.int h,iE ((some t:Option Nat).map λk:Nat=>(k:Int))]) hb4;have B:upd q b4 (.tup [V.int h,iE ((some t:Option Nat).map λk:Nat=>(k:Int))]) b4=some (.tup [V.int h,.int t]):=au;generalize upd q b4 (.tup [V.int h,iE ((some t:Option Nat).map λk:Nat=>(k:Int))])=H4 at u4 B;have s4:=W.trans u4;have g4:=AW.t (k:=keyOf h t) (s4 _ _ hd) B;rw[sq,X] at g4;refine⟨d,_,rfl,g4,oH,λU vc=>?_⟩;have u5:=aG.new (o:=.lst [V.int r]) vc;have M:=au (H:=H4) (a:=U) (o:=.lst [V.int r]);generalize upd H4 U (.lst [V.int r])=H5 at u5 M;have s5:=s4.trans u5;have XW:bP K H5 U (([r]:List Int).map V.int):=bP.of M;refine⟨U,rfl,⟨_,XW⟩,λp c=>?_⟩;refine lO (gx (f.map λk:Nat=>(k:Int))) c XW (by show 1<=1000;decide) (λx v R S _ n C s=>?_) (λv n j=>k p v (s5.trans n) (s5.free c) ?_)
     ·refine⟨_,rfl,_,rfl,mT x _,_,rfl,?_⟩
      exact ko (λe=>⟨_,rfl,C _ (aG.refl _) e⟩) (λe=>s _ (aG.refl _) (neT e))
     ·rw[j]
      obtain⟨h',c',Y,et,O4,hat⟩:=led _ ((mz oe).mp X);have et1:h=h':=by have:=g7 (·.1) et;simp at this;lia
      have et3:r=(Y:Int):=g7 (·.2.2) et;subst et1 et3;have hrm:(Y:Int)∈(os.filter (isAt rs (h:Int))).map λk:Nat=>(k:Int):=kj (bC.mpr ⟨O4,hat⟩)
      have:DB g (some (t:Int)) (h:Int) (f.map λk:Nat=>(k:Int)) ((os.filter (isAt rs (h:Int))).map λk:Nat=>(k:Int)) (i.map λk:Nat=>(k:Int))=[(Y:Int)].filter (gx (f.map λk:Nat=>(k:Int))):=by
       show (if (t:Int)∈_ then _ else _)=_;rw[er L,X];show (if (Y:Int)∈_ then _ else _)=_;rw[ee hrm]
      show _=some (HO.lst (List.map V.int (DB g (some (t:Int)) _ _ _ _)));rw[this]
  rintro σ v ⟨n,eon,rfl⟩;have N:=n.seq hO;refine⟨_,rfl,lo,rfl,⟨_,N⟩,λp c=>?_⟩;refine lO (λx=>gx (f.map λk:Nat=>(k:Int)) x&&isAt rs (h:Int) x.toNat) c N (by rw[ah];lia) (λx q R S hx s3 C s=>?_) (λq s3 j=>k p q (n.trans s3) (n.free c) ?_)
  ·obtain⟨r,Z,rfl⟩:=aL.mp hx
   have G:=hlt r Z;rw[cy] at C s;refine⟨_,rfl,_,rfl,mT _ _,_,rfl,?_⟩;refine ko (λe=>?_) (λe=>s _ (aG.refl _) (by
    have e:¬gx (f.map λk:Nat=>(k:Int)) (r:Int)=true:=e;rw[neT e];rfl))
   have e:gx (f.map λk:Nat=>(k:Int)) (r:Int)=true:=e;rw[e,Bool.true_and] at C s;have J:=n.trans s3;have I:=J.dB (WW.at' r (u[r]'∅) (rs[r]).vs (aa _) (by rw[aj,aa G];rfl));have PK:FG (u.map V.ref) (r:Int)=some (.ref (u[r]'∅)):=eY (by rw[aj,aa];rfl);generalize u[r]'∅=pt at PK I;have nw:¬(HT.lK (rs[r]).vs.length 0 none=0/\HT.lK (rs[r]).vs.length (rs[r]).vs.length (some 2)=(rs[r]).vs.length):=λz=>eL z.2 (by show HT.lK 5 5 (some 2)≠5;decide);have ct:CA (rs[r]).vs none (some 2)=[V.int rs[r].a,V.int rs[r].b]:=rfl;refine⟨_,rfl,_,rfl,_,rfl,b,_,_,_,rfl,rfl,bP.of (J _ _ hL),PK,_,rfl,pt,_,rfl,I,nw,λz3 Sa=>?_⟩;rw[ct];have u7:=aG.new (o:=.tup [V.int rs[r].a,V.int rs[r].b]) Sa;have O:=au (H:=q) (a:=z3) (o:=.tup [V.int rs[r].a,V.int rs[r].b]);generalize upd q z3 (.tup [V.int rs[r].a,V.int rs[r].b])=H7 at u7 O;refine⟨z3,_,rfl,.inr (cQ.of O),rfl,rfl,_,rfl,?_⟩
   try dsimp only
   rw[er aF,OE];have eia:isAt rs (h:Int) r=(decide ((h:Int)=rs[r].a) || decide ((h:Int)=rs[r].b)):=by unfold isAt;rw[aa G]
   rw[<- eia];exact ko (λe=>⟨_,rfl,C _ u7 e⟩) (λe=>s _ u7 (neT e))
  ·rw[j,<- fin _ eon]
end
section
variable{ns:List Int}{rs:List R5}{o:cX ns rs}{bs:List (List Bool)}{cl:List (Nat×Nat)}{D:Nat}{s s0 s' a b:NS}{os:List Nat}
theorem J5.comes{i g num:Nat}{D:List En}{cp:Cp}{l:LS}(j:J5 ns rs os i g num D s)(b:s.cps[0]?=some cp)(hl:s.ls[cp.l]?=some l):cp.l=i/\fc.comes l cp os=true/\fU l cp os=.Iz cp.h cp.r/\uE l cp os = "come" := by
 obtain⟨f,wj⟩:=j.wj;obtain⟨v,t,q,x,w⟩:=j.lt;have n:=j.all cp (aM b);rw[n,t] at hl;cases hl;obtain⟨rest,u⟩:∃rest,s.cps=cp::rest:=by
  cases e:s.cps with
  |nil=>rw[e] at b;cases b
  |cons c r=>rw[e] at b;cases b;exact⟨r,rfl⟩
 rw[u,bO] at wj;have m:EI rs cp∈D++EI rs cp::rest.map (EI rs):=-_
 obtain⟨k,_⟩:=wj.fr (EI rs cp) m _ _ rfl;have nd:cp.h∉l.done:=λz=>by
  rw[q] at z;obtain⟨y,o,p⟩:=aL.mp z;exact Il wj.nd (b9 (a:=EI rs cp)) y o (show y.h=(EI rs cp).h from p)
 have d:Av l cp.h=false:=by rw[NF rfl];exact gU nd
 refine⟨n,?_,?_,?_⟩
 ·unfold fc.comes
  rw[d,fy k];rfl
 ·unfold fU
  rw[d,ee k,er (!_)]
 ·unfold uE
  rw[ee k,d,er (!_)]
structure SL(l l':LS):Prop where
 s:l'.s=l.s
 to:l'.to=l.to
 kd:l'.kd=l.kd
 grp:l'.grp=l.grp
 old:l'.old=l.old
theorem Yd{cp:Cp}{l:LS}{ts:List T3}(hl:s.ls[cp.l]?=some l):∃c,(gk rs s 0 cp l os ts).ls=s.ls.set cp.l c/\SL l c:=by
 unfold gk;split
 ·obtain⟨e,d⟩:=uF (rs:=rs) (os:=os) (h:=cp.h) (aU:=some cp.r) (jf (a:=0) (os:=os) (ts:=ts) hl)
  rw[d];have f:(bA s 0 cp l os ts).ls=s.ls.set cp.l {l with aD:=l.aD++[fU l cp os]}:=by unfold bA;split <;> rfl
  have b:∀L,(bA s 0 cp l os ts).ls.set cp.l L=s.ls.set cp.l L:=λL=>by rw[f,List.set_set]
  exact⟨_,b _,⟨rfl,rfl,rfl,rfl,rfl⟩⟩
 ·exact⟨_,rfl,⟨rfl,rfl,rfl,rfl,rfl⟩⟩
theorem Pz.lt{n i:Nat}{d:LS}(z:Pz ns rs o n s s')(h:s.ls[i]?=some d):∃l,s'.ls[i]?=some l/\SL d l:=by
 induction z with
 |refl=>exact⟨d,h,⟨rfl,rfl,rfl,rfl,rfl⟩⟩
 |step z m c O q p t r =>
  obtain⟨l,f,a⟩:=r h;obtain⟨j,k,b⟩:=Yd (rs:=rs) (os:=_) (ts:=_) c;have g:=(ai.mp c).1;rw[k,gu g];split
  ·rename_i e
   rw[e] at f;rw[f] at c;cases c;exact⟨j,rfl,⟨b.s.trans a.s,b.to.trans a.to,b.kd.trans a.kd,b.grp.trans a.grp,b.old.trans a.old⟩⟩
  ·exact⟨l,f,a⟩
structure Mid(rs:List R5)(o:cX ns rs)(os:List Nat)(s s0:NS)(x:Nat)(to:Option Nat)(i g kk h:Nat)(aU:Option Nat)(ds:List dN)(Wr:List (Nat×Option Nat))(ts:List T3)(s':NS)(l':LS):Prop where
 hl:s'.ls[i]?=some l'
 dd:l'.aD=ds
 cp:s'.cps.map (λc=>(c.h,some c.r))=Wr
 pt:ts.Perm (s'.ts g)
 oe:bX ts
 LH:bX (s'.ts g)
 hm:s'.aO=s.aO
 gr:s'.groups=s.groups
 ws:s'.ws=s.ws
 sl:SL (cF s x to) l'
 pz:Pz ns rs o kk s0 (Np rs s' i h l' aU os)
structure Hd(rs:List R5)(o:cX ns rs)(s s0:NS)(i g f kk:Nat)(ds:List dN)(W:List (Nat×Option Nat))(ts:List T3):Prop where
 oe:bX ts
 or_:(kk=0/\ds=[.post f]/\W=[(f,none)]/\ts.Perm (s.ts g))∨∃n sk l,kk=n+1/\Pz ns rs o n s0 sk/\sk.ls[i]?=some l/\l.aD=ds/\W.drop kk=sk.cps.map (λc=>(c.h,some c.r))/\W.length=kk+sk.cps.length/\ts.Perm (sk.ts g)
theorem Hd.mid{x f g k num:Nat}{to:Option Nat}{ds:List dN}{W:List (Nat×Option Nat)}{ts:List T3}{E0:List En}(hd:Hd rs o s (c5 rs s x to os) s.ls.length g f k ds W ts)(sd:EK ns rs o bs cl D (c5 rs s x to os))(G:bX (s.ts g))(I:s.cps=[])(eg:s.groups.getD x 0=g)(X:s.aO.getD x 0=f)(O:eU (kJ ns rs o s.ws g) (s.R g) os)(S:os.length<=12)(j:J5 ns rs os s.ls.length g num E0 (c5 rs s x to os)){h:Nat}{aU:Option Nat}(K:W[k]?=some (h,aU)) :
 (aU=none/\k=0/\h=f/\∃s' A,Mid rs o os s (c5 rs s x to os) x to s.ls.length g k h none ds (W.drop (k+1)) ts s' A)∨∃r ts',aU=some r/\putK (ts.map fk) (keyOf h x) (V.int r)=ts'.map fk/\∃s' A,Mid rs o os s (c5 rs s x to os) x to s.ls.length g k h (some r) (ds++[.Iz h r]) (W.drop (k+1)) ts' s' A:=by
 have y:=LK (rs:=rs) (h:=s.aO.getD x 0) (aU:=none) (os:=os) (s:=gj s x to) (i:=s.ls.length) (l:={cF s x to with aD:=[.post (s.aO.getD x 0)]}) iA;have Q:(c5 rs s x to os).ws=s.ws:=y.ws;have Y:(c5 rs s x to os).R=s.R:=y.R;have eH:(c5 rs s x to os).aO=s.aO:=y.aO;have eG:(c5 rs s x to os).groups=s.groups:=y.groups;rcases hd.or_ with ⟨rfl,rfl,rfl,J⟩|⟨n,e,l,rfl,z,U,F,w,hlen,J⟩
 ·cases K
  refine .inl ⟨rfl,rfl,rfl,gj s x to,{cF s x to with aD:=[.post f]},?_⟩;refine⟨by rw[<- X];exact iA,rfl,?_,J,hd.oe,G,rfl,rfl,rfl,⟨rfl,rfl,rfl,rfl,rfl⟩,?_⟩
  ·show s.cps.map _=_
   rw[I];rfl
  ·have:Np rs (gj s x to) s.ls.length f {cF s x to with aD:=[.post f]} none os=c5 rs s x to os:=by unfold c5;rw[X]
   rw[this];exact .refl
 ·have Xq:=(ai.mp K).1
  have t:(W.drop (n+1))[0]?=some (h,aU):=by rw[List.getElem?_drop];exact K
  rw[w,aj] at t;cases u:e.cps[0]? with
  |none=>rw[u] at t;cases t
  |some cp =>
   rw[u] at t;obtain⟨H,P⟩:=Prod.mk.inj (aK t);have H:cp.h=h:=H;have P:some cp.r=aU:=P;subst H P;obtain⟨f1,f2,f3,f4,f5⟩:=z.same;obtain⟨E,_,j1⟩:=z.j5 (by rw[Q,Y];exact O) j;have m:cp.l=s.ls.length:=j1.all _ (aM u);have p:e.ls[cp.l]?=some l:=by rw[m];exact U
   obtain⟨_,V9,L,_⟩:=j1.comes u p;obtain⟨B,k1,v⟩:∃B,(c5 rs s x to os).ls[s.ls.length]?=some B/\SL (cF s x to) B:=by
    unfold c5;obtain⟨had,ed⟩:=uF (rs:=rs) (os:=os) (h:=s.aO.getD x 0) (aU:=none) (s:=gj s x to) (i:=s.ls.length) (l:={cF s x to with aD:=[.post (s.aO.getD x 0)]}) iA;rw[ed];refine⟨_,LO (ls:=(gj s x to).ls) (by show s.ls.length<(s.ls++[_]).length;rw[av];exact wI _) _,⟨rfl,rfl,rfl,rfl,rfl⟩⟩
   obtain⟨l2,Z,q⟩:=z.lt k1;rw[U] at Z;cases Z;have d:SL (cF s x to) l:=⟨q.s.trans v.s,q.to.trans v.to,q.kd.trans v.kd,q.grp.trans v.grp,q.old.trans v.old⟩;have b:l.grp=g:=d.grp.trans eg;have C:l.s=x:=d.s;have N:l.old=false:=d.old;obtain⟨ts',p1,p2,M⟩:=GP (h:=(cp.h:Int)) (c:=(x:Int)) (r:=(cp.r:Int)) J hd.oe;refine .inr ⟨cp.r,ts',rfl,p1,bA e 0 cp l os ts',{l with aD:=l.aD++[fU l cp os]},?_⟩;have T:(bA e 0 cp l os ts').ts l.grp=ts':=by
    unfold bA;rw[er (by rw[N];decide)];show fD _ l.grp ts' l.grp=ts';exact bS
   obtain⟨g1,g2,g3,g4⟩:=tZ (s:=e) (a:=0) (cp:=cp) (l:=l) (os:=os) (ts:=ts');have st:=Pz.step (ts:=ts') z u p (os:=os) (by rw[b,f1,f2,Q,Y];exact O) S (by rw[b,C];exact p2) M;unfold gk at st;rw[ee V9,m] at st;refine⟨?_,by rw[L,F],?_,?_,M,?_,g3.trans (f3.trans eH),g4.trans (f4.trans eG),g1.trans (f1.trans Q),⟨d.s,d.to,d.kd,d.grp,d.old⟩,st⟩
   ·rw[<- m]
    exact jf (a:=0) (os:=os) (ts:=ts') p
   ·have ec:(bA e 0 cp l os ts').cps=e.cps.eraseIdx 0:=by unfold bA;split <;> rfl
    rw[ec]
    have:W.drop (n+1+1)=(W.drop (n+1)).drop 1:=by rw[List.drop_drop]
    rw[this,w];cases e.cps with
    |nil=>rfl
    |cons c cs=>rfl
   ·rw[<- b,T]
   ·rw[<- b,T]
    exact M
end
section
variable{ns:List Int}{rs:List R5}{o:cX ns rs}{os:List Nat}{s s0 s':NS}{x i g kk h:Nat}{to aU:Option Nat}{ds:List dN}{Wr:List (Nat×Option Nat)}{ts:List T3}{l':LS}{cl:List (Nat×Nat)}
noncomputable def Ye(rs:List R5)(s:NS)(num h r:Nat):dN:=.send h r (gW s.ws r num)
theorem Mid.fin(m:Mid rs o os s s0 x to i g kk h aU ds Wr ts s' l'):∃a d,Pz ns rs o kk s0 a/\a.ls[i]?=some d/\d.aD=ds++((iz s' l' h).map (dN.hand h)++(Aw rs s' l' h aU os).map (Ye rs s (gX (cF s x to)) h))/\a.cps.map (λc=>(c.h,some c.r))=Wr++(Aw rs s' l' h aU os).map (λr=>(eN rs r h,some r))/\a.ts g=s'.ts g:=by
 obtain⟨j,e⟩:=uF (rs:=rs) (os:=os) (h:=h) (aU:=aU) m.hl;have b:=(ai.mp m.hl).1;have f:gX l'=gX (cF s x to):=by unfold gX;rw[m.sl.kd,m.sl.s,m.sl.to]
 have pz:=m.pz;rw[e] at pz;refine⟨_,_,pz,LO b _,?_,?_,rfl⟩
 ·show l'.aD++_=_
  rw[m.dd,f,m.ws];rfl
 ·show (s'.cps++_).map _=_
  rw[aT,m.cp,dw];rfl
noncomputable def rz(cl:List (Nat×Nat))(h g:Nat):List Nat:=(aA cl.length).filter λc=>decide (cl[c]?=some (h,g))
theorem NN(a:s.aO=cl.map (·.1))(b:s.groups=cl.map (·.2)):oh s h g=rz cl h g:=by
 unfold oh rz Co;rw[a,b,ah];refine List.filter_congr λc d=>?_;rw[decide_eq_decide,aj,aj];cases cl[c]? with
 |none=>exact⟨λz=>(by cases z.1),λz=>(by cases z)⟩
 |some p=>exact⟨λz=>g7 some (Prod.ext (aK z.1) (aK z.2)),λz=>by cases z;exact⟨rfl,rfl⟩⟩
noncomputable def jb(x:Nat)(to:Option Nat)(c:Nat):Bool:=match to with|none=>!decide (c=x)|some y=>decide (c=y)
theorem Mid.hand(m:Mid rs o os s s0 x to i g kk h aU ds Wr ts s' l')(hm:s.aO=cl.map (·.1))(a:s.groups=cl.map (·.2))(b:(cF s x to).grp=g):iz s' l' h=(rz cl h g).filter (jb x to):=by
 unfold iz;rw[m.sl.grp,b,NN (m.hm.trans hm) (m.gr.trans a)];refine List.filter_congr λc d=>?_;rw[m.sl.s,m.sl.to,m.sl.kd];unfold DP jb cF;cases to with
 |none =>
  show (if (2:Int)=1 then _ else if (2:Int)=2 then !decide (V.int c=V.int x) else false)=_;rw[er (!_),ee rfl];congr 1;rw[decide_eq_decide];exact⟨λz=>by have:=V.int.inj z;lia,λz=>by rw[z]⟩
 |some y =>
  show (if (1:Int)=1 then decide (V.int c=V.int (y:Int)) else _)=_;rw[ee rfl,decide_eq_decide];exact⟨λz=>by have:=V.int.inj z;lia,λz=>by rw[z]⟩
theorem Mid.go(m:Mid rs o os s s0 x to i g kk h aU ds Wr ts s' l')(hm:s.aO=cl.map (·.1))(c:s.groups=cl.map (·.2))(e:(cF s x to).grp=g):DB ts (to.map λk:Nat=>(k:Int)) (h:Int) (aU.map λk:Nat=>(k:Int)) ((os.filter (isAt rs (h:Int))).map λk:Nat=>(k:Int)) ((rz cl h g).map λk:Nat=>(k:Int))=(Aw rs s' l' h aU os).map λk:Nat=>(k:Int):=by
 have a:rC l'.to l'.kd=to.map λk:Nat=>(k:Int):=by
  rw[m.sl.to,m.sl.kd];unfold rC cF;cases to with
  |none=>rfl
  |some y=>rfl
 have d:DB ts (to.map λk:Nat=>(k:Int)) (h:Int) (aU.map λk:Nat=>(k:Int)) ((os.filter (isAt rs (h:Int))).map λk:Nat=>(k:Int)) ((rz cl h g).map λk:Nat=>(k:Int))=DB (s'.ts l'.grp) (rC l'.to l'.kd) (h:Int) (aU.map λk:Nat=>(k:Int)) ((os.filter (isAt rs (h:Int))).map λk:Nat=>(k:Int)) ((oh s' h l'.grp).map λk:Nat=>(k:Int)):=by
  rw[a,m.sl.grp,e,NN (m.hm.trans hm) (m.gr.trans c)];unfold DB;simp only[BE m.pt m.oe m.LH]
 rw[d];unfold Aw;rw[dw]
 conv=>lhs;rw[<- List.map_id (DB _ _ _ _ _ _)]
 refine c6 λy b=>?_;obtain⟨k,_,rfl⟩:=aL.mp (Dy.1 y b);rfl
end
section
variable{ns:List Int}{rs:List R5}{o:cX ns rs}{os:List Nat}{bs:List (List Bool)}{cl:List (Nat×Nat)}{s s0:NS}{i g f kk num D:Nat}{ds:List dN}{W:List (Nat×Option Nat)}{ts:List T3}{E0:List En}
theorem Hd.bd(h:Hd rs o s s0 i g f kk ds W ts)(sd:EK ns rs o bs cl D s0)(O:eU (kJ ns rs o s0.ws g) (s0.R g) os)(j:J5 ns rs os i g num E0 s0)(q:E0.length=1)(k:rs.length<=14)(m:50*(s.ts g).length<=D):W.length<=15/\kk<=W.length/\ds.length<=D+1500+1/\50*ts.length<=D+1500:=by
 rcases h.or_ with ⟨rfl,rfl,rfl,a⟩|⟨n,r,l,rfl,d,p,rfl,_,e,a⟩
 ·have:=a.length_eq
  exact⟨by show 1<=15;decide,bN _,by show 1<=_;lia,∅⟩
 ·have:=d.len O j
  have b:=((d.sd sd).bd.lb l (aM p)).1;have c:=((d.sd sd).bd.tb g).1
  have:=a.length_eq
  lia
theorem Hd.end_(h:Hd rs o s s0 i g f kk ds W ts)(e:W.length<=kk):∃n a l,Pz ns rs o n s0 a/\a.cps=[]/\a.ls[i]?=some l/\l.aD=ds/\ts.Perm (a.ts g):=by
 rcases h.or_ with ⟨rfl,rfl,rfl,_⟩|⟨n,a,l,rfl,j,d,k,_,b,c⟩
 ·exact eL e (by show ¬1<=0;decide)
 ·exact⟨n,a,l,j,iw.mp ∅,d,k,c⟩
end
section
variable{P:Program}{w:World}{K:af}{mg:Str->Option Value}{base:Heap}
noncomputable def wV(e:Nat×Option Nat):List V:=[.int e.1,iE (e.2.map λk:Nat=>(k:Int))]
structure DI(K:af)(H0 H2:Hp)(d ls lw:Addr)(ds:List dN)(W:List (Nat×Option Nat))(ts:List T3):Prop where
 sm:∀b o,H0 b=some o->b≠d->H2 b=some o
 n1:H0 ls=none
 n2:H0 lw=none
 ne:ls≠lw
 d0:∃kv,H0 d=some (.dT kv)
 dt:H2 d=some (.dT (ts.map fk))
 st:∃qS:List Addr,H2 ls=some (.lst (qS.map V.ref))/\dF K H2 qS (ds.map dN.vs)
 wt:∃qW:List Addr,H2 lw=some (.lst (qW.map V.ref))/\dF K H2 qW (W.map wV)
section
variable{H0 H2 H3:Hp}{d ls lw:Addr}{ds:List dN}{W:List (Nat×Option Nat)}{ts:List T3}
theorem DI.mono(e:DI K H0 H2 d ls lw ds W ts)(s:aG H2 H3):DI K H0 H3 d ls lw ds W ts:=by
 obtain⟨a,j,c⟩:=e.st;obtain⟨g,f,i⟩:=e.wt;exact⟨λb o h n=>s _ _ (e.sm b o h n),e.n1,e.n2,e.ne,e.d0,s _ _ e.dt,⟨a,s _ _ j,c.mono λb x=>s.dB⟩,⟨g,s _ _ f,i.mono λb x=>s.dB⟩⟩
theorem DI.nd(e:DI K H0 H2 d ls lw ds W ts):ls≠d/\lw≠d:=by
 obtain⟨a,h⟩:=e.d0;exact⟨(aE h e.n1).symm,(aE h e.n2).symm⟩
theorem DI.dB(e:DI K H0 H2 d ls lw ds W ts){b:Addr}{x:List V}(h:cQ K H0 b x):cQ K H2 b x:=by
 obtain⟨f,a⟩:=e.d0;exact cQ.past a Mq (λc o h n=>e.sm c o h n) h
theorem Rf{l z:Addr}{qs:List Addr}{xs:List (List V)}{t:List V}(hl:H2 l=some (.lst (qs.map V.ref)))(c:dF K H2 qs xs)(d:H2 z=none) :
 (upd (upd H2 z (.tup t)) l (.lst (qs.map V.ref++[.ref z]))) l=some (.lst ((qs++[z]).map V.ref))/\dF K (upd (upd H2 z (.tup t)) l (.lst (qs.map V.ref++[.ref z]))) (qs++[z]) (xs++[t])/\(∀b x,cQ K H2 b x->cQ K (upd (upd H2 z (.tup t)) l (.lst (qs.map V.ref++[.ref z]))) b x)/\∀b o,H2 b=some o->b≠l->(upd (upd H2 z (.tup t)) l (.lst (qs.map V.ref++[.ref z]))) b=some o:=by
 have u:=aG.new (o:=.tup t) d;have a:∀b x,cQ K (upd H2 z (.tup t)) b x->cQ K (upd (upd H2 z (.tup t)) l (.lst (qs.map V.ref++[.ref z]))) b x:=λb x=>cQ.past (u _ _ hl) sr cN;refine⟨by rw[au,aT];rfl,?_,λb x e=>a b x (u.dB e),λb o e n=>cN b o (u _ _ e) n⟩;exact dF.snoc (c.mono λb x e=>a b x (u.dB e)) (a _ _ (cQ.of au))
theorem DI.abq(e:DI K H0 H2 d ls lw ds W ts){z:Addr}{c:List Addr}{f:dN}(l:H2 ls=some (.lst (c.map V.ref)))(k:dF K H2 c (ds.map dN.vs))(i:H2 z=none):DI K H0 (upd (upd H2 z (.tup f.vs)) ls (.lst (c.map V.ref++[.ref z]))) d ls lw (ds++[f]) W ts:=by
 obtain⟨r,p,m,a⟩:=Rf (t:=f.vs) l k i;obtain⟨h,g,j⟩:=e.wt;exact⟨λb o q n=>a b o (e.sm _ _ q n) (aE q e.n1),e.n1,e.n2,e.ne,e.d0,a _ _ e.dt (bL e.nd.1),⟨_,r,by rw[aT];exact p⟩,⟨h,a _ _ g (bL e.ne),j.mono m⟩⟩
theorem DI.addW(e:DI K H0 H2 d ls lw ds W ts){z:Addr}{a:List Addr}{f:Nat×Option Nat}(l:H2 lw=some (.lst (a.map V.ref)))(k:dF K H2 a (W.map wV))(i:H2 z=none):DI K H0 (upd (upd H2 z (.tup (wV f))) lw (.lst (a.map V.ref++[.ref z]))) d ls lw ds (W++[f]) ts:=by
 obtain⟨r,p,m,c⟩:=Rf (t:=wV f) l k i;obtain⟨h,g,j⟩:=e.st;exact⟨λb o q n=>c b o (e.sm _ _ q n) (aE q e.n2),e.n1,e.n2,e.ne,e.d0,c _ _ e.dt (bL e.nd.2),⟨h,c _ _ g e.ne,j.mono m⟩,⟨_,r,by rw[aT];exact p⟩⟩
theorem DI.putD(e:DI K H0 H2 d ls lw ds W ts){ts':List T3}:DI K H0 (upd H2 d (.dT (ts'.map fk))) d ls lw ds W ts':=by
 obtain⟨c,j,f⟩:=e.st;obtain⟨g,h,i⟩:=e.wt;have a:∀b x,cQ K H2 b x->cQ K (upd H2 d (.dT (ts'.map fk))) b x:=λb x=>cQ.past e.dt Mq cN;exact⟨λb o q n=>cN b o (e.sm _ _ q n) n,e.n1,e.n2,e.ne,e.d0,au,⟨c,cN _ _ j e.nd.1,f.mono a⟩,⟨g,cN _ _ h e.nd.2,i.mono a⟩⟩
end
theorem VN{c:TT}{n:TS}{D:Ends}{d:L2.St}{H:Hp}(i:Nat->L2.St->Hp->Prop)(k:Nat)(o:i k d H)
 (q:∀m d H (N:L2.St->Hp->Prop),(∀h f j,h<m->i h f j->N f j)->i m d H->c d H λb g=>if b=true then n {D with nx:=N,ct:=N,bk:=D.nx} d g else D.nx d g)
 (e:∀d H Q l,(∀b g,Q b g->l b g)->c d H Q->c d H l):Km c n D d H :=
 WA i k o (λm d H p=>q m d H _ (λh _ _ a b=>⟨h,a,b⟩) p) e
inductive Rg(K:af)(vs:List V)(H:Hp)(Q:VK)(E:XK):Prop
 |mk (b lo d cb:Addr) (ns:List Int) (rs:List R5) (o:cX ns rs) (os:List Nat) (qs:List Addr) (bs:List (List Bool)) (cl:List (Nat×Nat)) (D:Nat) (s:NS) (x:Nat) (to:Option Nat) (ts:List T3):vs=[.ref b,.ref lo,.ref d,.ref cb,.int x,iE (to.map λk:Nat=>(k:Int))]->KO K H b rs->H lo=some (.lst (bR os))->H d=some (.dT (ts.map fk))->H cb=some (.lst (qs.map V.ref))->dF K H qs (cl.map λc=>[.int c.1,.int c.2])->eU (kJ ns rs o s.ws (s.groups.getD x 0)) (s.R (s.groups.getD x 0)) os->os.length<=12->rs.length<=14->x<cl.length->EK ns rs o bs cl D s->D<=90000->s.cps=[]->s.ws=(rs.map λr=>aA r.d.toNat)->(∀y,to=some y->y<s.aO.length/\s.groups[y]?=s.groups[x]?)->ts.Perm (s.ts (s.groups.getD x 0))->bX ts->(∀a (qS:List Addr) H' ts' n sk l,(∀b o,H b=some o->b≠d->H' b=some o)->H a=none->H' a=some (.lst (qS.map V.ref))->dF K H' qS (l.aD.map dN.vs)->H' d=some (.dT (ts'.map fk))->bX ts'->Pz ns rs o n (c5 rs s x to os) sk->sk.cps=[]->sk.ls[s.ls.length]?=some l->ts'.Perm (sk.ts (s.groups.getD x 0))->Q (.ref a) H')->Rg K vs H Q E
theorem VO{t:Ad}(T:Txt K mg t):cz P w K mg base iM 2 t.CV t.Gs ["_law_ropes_here","_law_opened","_law_notes","_law_callers_here","_law_sender","_law_to"]  (Rg K):=by
 refine T.Qy.F.kh gK λH Q E hr h=>?_
 ·obtain⟨b,lo,d,cb,ns,rs,o,os,qs,bs,cl,D,st,x,to,ts,rfl,hB,hO,hd,hC,vH,J,h12,l14,hx,sd,hD,hcp,hws,hto,hpt,hoe,k⟩:=h
  refine⟨_,(aq (NY (xL (pv 3) (pv 4)) (Kl (n:=2) rfl (i0 (gT 6 gK) (i0 (gT 7 gK) Ay)))) (aq (sS 8 gK (pv 4)) (aq (cE (qT AA (pv 5) iO) (bJ (sS 8 gK (bw fB (bw fB (pv 4) (pv 5)) aB))) bz) (aq (sS 9 gK (jq (gV (dU (nZ gF (pv 6)))))) (aq (sS 10 gK (jq (gV (dU (nZ (pv 6) iO))))) (aq (sS 11 gK aB) (aq (LY PassesOwn.never (PW.pt (Bs (qT pR (pv 11) (lS T.iN (pv 10))) (wN (qT pR (pv 11) aB)))) (aq (NY (xL (pv 10) (pv 11)) (Kl (n:=2) rfl (i0 (gT 12 gK) (i0 (gT 13 gK) Ay)))) (aq (ZQ (i:=11) gK.nd rfl (Or.inl rfl) aB ZR) (aq (cE (qT AA (pv 13) iO) (aq (fE (pS be bh bg eE (pv 9) (gV (dU (Ir gF (pv 12) (pv 13)))))) (bJ (KA (CG hr) (pv 2) (dU (nZ (pv 12) (pv 4))) (pv 13) rfl))) bz) (aq (Bw (i:=15) gK.nd rfl (Or.inl rfl) (kO gK ["_law_caller","_law_callers_here","_law_group","_law_house"] [none,some 3,some 7,some 12]) rfl (gA rfl T.jy (gV (lS T.iN (pv 3)))) (λ_ _ _ _=>by exact (gS 0 ME)) (λ_ _ _ _=>by exact (mP (qT (Qf K rfl hr.units) (yL K (pv 1) (pv 0)) (dU (nZ (pv 3) (pv 2)))))) (λ_ _ _ _=>by exact (pv 0))) (aq (fS (fV (pv 15)) (gT 14 gK) (bJ (cE (PW.pt (Jp (qT uc (pv 14) (pv 5)) (Kh (PW.pt (Bs (qT Oc (pv 5) iO) (wN (qT se (pv 14) (pv 4)))))))) (oE (pS be bh bg eE (pv 9) (gV (dU (Ir gF (pv 12) (pv 14)))))) bz))) (bJ (fS (fV (cG (SJ T) hr T.MK (aN7 (pv 0) (pv 1) (pv 2) (pv 15) (pv 12) (pv 13) (pv 5)))) (gT 16 gK) (aq (fE (pS be bh bg eE (pv 9) (gV (dU (YO gF (pv 12) (pv 16) (bw dZ (pv 8) (xT (xL (pv 0) (pv 16)) aB))))))) (oE (pS be bh bg eE (pv 10) (gV (dU (nZ (bw DF (bw fB (xT (xL (pv 0) (pv 16)) aB) (xT (xL (pv 0) (pv 16)) aB)) (pv 12)) (pv 16))))))))))))))) (oR (pv 9))))))))),?_⟩
  left
  have olt:=Mm J;have eq:qs.length=cl.length:=by rw[vH.len,ah]
  obtain⟨us,hL,WW⟩:=id hB;have eus:us.length=rs.length:=by rw[WW.len,ah]
  have hm:=sd.hm;have hgr:=sd.gr;have hxh:x<st.aO.length:=by rw[hm,ah];exact hx
  have hml:st.aO.length=cl.length:=by rw[hm,ah]
  have ehx:st.aO.getD x 0=cl[x].1:=by rw[hm,az,aj,aa hx];rfl
  have Wa:st.groups.getD x 0=cl[x].2:=by rw[hgr,az,aj,aa hx];rfl
  have c20:cl.length<=20:=by
   have:=sd.bd.AZ
   lia
  have cat:∀{y:Nat} (hy:y<cl.length),FG (qs.map V.ref) (y:Int)=some (.ref (qs[y]'∅))/\cQ K H (qs[y]'∅) [.int cl[y].1,.int cl[y].2]:=λ{y} hy=>⟨eY (by rw[aj,aa];rfl),vH.at' y _ _ (aa _) (by rw[aj,aa hy];rfl)⟩;obtain⟨a1,q1⟩:=cat hx;obtain⟨l0,LP,j0,_,ll0⟩:=J5.post (s:=st) (x:=x) (to:=to) (Fo.of J) sd.bd rfl hxh hcp;have sd0:=sd.post (to:=to) hxh J h12;refine bI λNx I=>?_;refine⟨_,rfl,_,rfl,cb,_,_,_,rfl,rfl,bP.of hC,a1,_,_,rfl,q1,rfl,_,_,rfl,_,_,rfl,rfl,I _ _ ?_⟩;rw[Wa] at hpt J j0 k;generalize hff:cl[x].1=f at *;generalize hg:cl[x].2=g at *;refine bI λNx I=>?_;refine⟨_,rfl,?_⟩;refine I _ _ ?_;refine oX (λC H5=>H5=H/\C=[some (.ref b),some (.ref lo),some (.ref d),some (.ref cb),some (.int (x:Nat)),some (iE (to.map λk:Nat=>(k:Int))),some (.int (f:Nat)),some (.int (g:Nat)),some (.int (gX (cF st x to):Nat)),none,none,none,none,none,none,none,none]) ?_ (λN' hN=>?_)
  rotate_left
  ·refine⟨_,rfl,rfl,_,rfl,?_⟩
   cases to with
   |none=>exact eZ (hN _ _ ⟨rfl,rfl⟩)
   |some y =>
    have N:(!decide (iE ((some y:Option Nat).map λy:Nat=>(y:Int))=V.fH))=true:=rfl;rw[N];refine gB ⟨_,rfl,_,rfl,_,_,rfl,rfl,_,_,rfl,rfl,hN _ _ ⟨rfl,?_⟩⟩;have e2:((x:Int)+(y:Int)+1)=(gX (cF st x (some y)):Nat):=rfl;rw[<- e2];rfl
  rintro C H0 ⟨e0,rfl⟩;rw[e0];have jl:J5 ns rs os st.ls.length g (gX (cF st x to)) [⟨st.aO.getD x 0,none⟩] (c5 rs st x to os):=j0;generalize hnum:gX (cF st x to)=num at *;have fr:=LK (rs:=rs) (h:=st.aO.getD x 0) (aU:=none) (os:=os) (s:=gj st x to) (i:=st.ls.length) (l:={cF st x to with aD:=[.post (st.aO.getD x 0)]}) iA;have eW:(c5 rs st x to os).ws=st.ws:=fr.ws;have eR:(c5 rs st x to os).R=st.R:=fr.R;have hO0:eU (kJ ns rs o (c5 rs st x to os).ws g) ((c5 rs st x to os).R g) os:=by rw[eW,eR];exact J
  refine bI λNx I=>?_;refine⟨_,rfl,g8,λz1 hz1=>⟨oH,λls hls=>I _ _ ?_⟩⟩;have u1:=(aG.new (o:=.tup [V.str "post",V.int f]) hz1);have u2:=aG.new (o:=.lst [V.ref z1]) hls;have g1:=u2 _ _ (au (H:=H) (a:=z1) (o:=.tup [V.str "post",V.int f]));have g2:=au (H:=upd H z1 (.tup [V.str "post",V.int f])) (a:=ls) (o:=.lst [V.ref z1]);have ael:=u1.free hls;have u12:=u1.trans u2;generalize upd (upd H z1 (.tup [V.str "post",V.int f])) ls (.lst [V.ref z1])=H1 at u12 g1 g2;refine bI λNx I=>?_;refine⟨_,rfl,g8,λz2 hz2=>⟨oH,λB hlw=>I _ _ ?_⟩⟩;have u3:=(aG.new (o:=.tup [V.int f,V.fH]) hz2);have u4:=aG.new (o:=.lst [V.ref z2]) hlw;have g3:=u4 _ _ (au (H:=H1) (a:=z2) (o:=.tup [V.int f,V.fH]));have g4:=au (H:=upd H1 z2 (.tup [V.int f,V.fH])) (a:=B) (o:=.lst [V.ref z2]);have aem:=u12.free (u3.free hlw);have nlw:ls≠B:=aE (u3 _ _ g2) hlw;have Ef:=u3.trans u4;have g1:=Ef _ _ g1;have g2:=Ef _ _ g2;generalize upd (upd H1 z2 (.tup [V.int f,V.fH])) B (.lst [V.ref z2])=H2 at Ef g1 g2 g3 g4;have V5:=u12.trans Ef;have d0:DI K H H2 d ls B [.post f] [(f,none)] ts:=by
   refine⟨λb o h _=>V5 b o h,ael,aem,nlw,⟨_,hd⟩,V5 _ _ hd,⟨[z1],g2,⟨rfl,λi q y N e2=>?_⟩⟩,⟨[z2],g4,⟨rfl,λi q y N e2=>?_⟩⟩⟩
   ·cases i with
    |zero=>cases N;cases e2;exact cQ.of g1
    |succ i=>cases N
   ·cases i with
    |zero=>cases N;cases e2;exact cQ.of g3
    |succ i=>cases N
  have hd0:Hd rs o st (c5 rs st x to os) st.ls.length g f 0 [.post f] [(f,none)] ts:=⟨hoe,.inl ⟨rfl,rfl,rfl,hpt⟩⟩;refine VN (λm C H3=>∃(A:Nat) (ds:List dN) (W:List (Nat×Option Nat)) (M:List T3) (ja Zp NR NT NU:Option V),C=[some (.ref b),some (.ref lo),some (.ref d),some (.ref cb),some (.int (x:Nat)),some (iE (to.map λk:Nat=>(k:Int))),some (.int (f:Nat)),some (.int (g:Nat)),some (.int (num:Nat)),some (.ref ls),some (.ref B),some (.int (A:Nat)),ja,Zp,NR,NT,NU]/\DI K H H3 d ls B ds W M/\Hd rs o st (c5 rs st x to os) st.ls.length g f A ds W M/\m=20-A) 20 ⟨0,_,_,_,_,_,_,_,_,rfl,d0,hd0,rfl⟩ ?_ ?_
  ·rintro m C H3 Nw hNw ⟨A,ds,W,M,ja,Zp,NR,NT,NU,rfl,dd,hd2,rfl⟩
   obtain⟨w15,wk,dl,tl⟩:=hd2.bd sd0 hO0 jl rfl l14 (by have:=(sd.bd.tb g).1;lia);obtain⟨qW,S,tS⟩:=dd.wt;have eqW:qW.length=W.length:=by rw[tS.len,ah]
   refine⟨_,rfl,_,rfl,B,_,rfl,.inl (bP.of S),_,_,rfl,rfl,_,rfl,?_⟩;rw[ah,eqW];by_cases hk:A<W.length
   case neg =>
    rw[gU (show ¬(A:Int)<(W.length:Int) by lia)];refine eZ (eZ ?_);obtain⟨qS,u,v⟩:=dd.st;obtain⟨n,sk,l,p1,p2,p3,p4,p5⟩:=hd2.end_ ∅;rw[<- p4] at v;exact⟨_,rfl,k ls qS H3 M n sk l dd.sm dd.n1 u v dd.dt hd2.oe p1 p2 p3 p5⟩
   rw[fy (show (A:Int)<(W.length:Int) by lia)];refine gB ⟨_,rfl,_,_,rfl,rfl,_,rfl,?_⟩;rw[fy (show (A:Int)<20 by lia)];refine gB ?_;obtain⟨⟨h,aU⟩,he⟩:∃e,W[A]?=some e:=⟨_,aa hk⟩;have hqe:=tS.at' A (qW[A]'∅) (wV (h,aU)) (aa _) (by rw[aj,he];rfl);have aeo:FG (qW.map V.ref) (A:Int)=some (.ref (qW[A]'∅)):=eY (by rw[aj,aa];rfl);refine bI λNx I=>?_;refine⟨_,rfl,_,rfl,B,_,_,_,rfl,rfl,bP.of S,aeo,_,_,rfl,hqe,rfl,_,_,rfl,_,_,rfl,rfl,I _ _ ?_⟩;refine bI λNx I=>?_;refine⟨_,rfl,_,_,rfl,rfl,I _ _ ?_⟩;have oes:bX (st.ts g):=(sd.bd.tb g).2;have mid:=hd2.mid sd0 oes hcp Wa ehx J h12 jl he
   try dsimp only
   refine oX (λC H4=>∃(Zq:List dN) (Wb:List T3) (s':NS) (l':LS),C=[some (.ref b),some (.ref lo),some (.ref d),some (.ref cb),some (.int (x:Nat)),some (iE (to.map λk:Nat=>(k:Int))),some (.int (f:Nat)),some (.int (g:Nat)),some (.int (num:Nat)),some (.ref ls),some (.ref B),some (.int ((A:Int)+1)),some (.int (h:Nat)),some (iE (aU.map λk:Nat=>(k:Int))),NR,NT,NU]/\DI K H H4 d ls B Zq W Wb/\Mid rs o os st (c5 rs st x to os) x to st.ls.length g A h aU Zq (W.drop (A+1)) Wb s' l'/\Zq.length<=D+1602) ?_ (λN' hN=>?_)
   rotate_left
   ·rcases mid with ⟨rfl,rfl,rfl,s',l',md⟩|⟨r,ts',rfl,ep,s',l',md⟩
    ·refine⟨_,rfl,rfl,_,rfl,eZ ?_⟩
     exact hN _ _ ⟨ds,M,s',l',rfl,dd,md,∅⟩
    ·obtain⟨qS,u,v⟩:=dd.st
     have x6:qS.length=ds.length:=by rw[v.len,ah]
     refine⟨_,rfl,rfl,_,rfl,gB ?_⟩;refine bI λNx I=>?_;refine⟨_,rfl,.inl ⟨rfl,_,bP.of u⟩,_,rfl,_,rfl,ia,λz3 Sa=>?_⟩;refine⟨ls,_,_,rfl,rfl,aG.new Sa _ _ u,mj (by rw[ah,x6];lia),I _ _ ?_⟩;have d2:=dd.abq (f:=.Iz h r) u v Sa;have ev:(dN.Iz h r).vs=[V.str "come",V.int h,iE ((some r:Option Nat).map λk:Nat=>(k:Int))]:=rfl;rw[ev] at d2;generalize upd (upd H3 z3 (.tup [V.str "come",V.int h,iE ((some r:Option Nat).map λk:Nat=>(k:Int))])) ls (.lst (qS.map V.ref++[.ref z3]))=H4 at d2;refine⟨_,rfl,_,rfl,_,rfl,_,rfl,g8,λb5 hb5=>?_⟩;have u5:=aG.new (o:=.tup [V.int h,.int x]) hb5;have Yg:=au (H:=H4) (a:=b5) (o:=.tup [V.int h,.int x]);have d3:=d2.mono u5;generalize upd H4 b5 (.tup [V.int h,.int x])=H5 at u5 Yg d3;refine⟨d,_,rfl,Kz.t (k:=keyOf h x) (kvs:=M.map fk) d3.dt Yg ?_,?_⟩
     ·exact mj (by rw[ah];lia)
     ·have d4:=d3.putD (ts':=ts')
      rw[<- ep] at d4;refine hN _ _ ⟨_,ts',s',l',rfl,d4,md,?_⟩;rw[av];show ds.length+1<=_;lia
   rintro C H4 ⟨Zq,Wb,s',l',rfl,d4,md,dl4⟩;have ncb:cb≠d:=λz=>by rw[z,hd] at hC;cases hC
   have nlo:lo≠d:=λz=>by rw[z,hd] at hO;cases hO
   have nb:b≠d:=λz=>by rw[z,hd] at hL;cases hL
   have hC4:=d4.sm _ _ hC ncb;refine bI λNx I=>?_;refine⟨_,rfl,cb,_,rfl,.inl (bP.of hC4),(((qs.map V.ref).length:Nat):Int),rfl,∅,by rw[ah];lia,λX XG=>?_⟩;rw[ah,eq];refine ir (n:=((cl.length:Int)).toNat) (λi ys _=>ys=bR ((aA i).filter λc=>decide (cl[c]?=some (h,g)))) XG Bx sj rfl ?_ ?_
   ·rintro i ys H5 hi s5 hy rfl z Z ⟨rfl,rfl⟩
    rw[gD];have hic:i<cl.length:=∅
    obtain⟨a2,q2⟩:=cat hic;refine⟨_,rfl,_,rfl,cb,_,_,_,rfl,rfl,bP.of (s5 _ _ hC4),a2,_,rfl,_,rfl,g8,λz3 Sa=>?_⟩;have u6:=aG.new (o:=.tup [V.int h,V.int g]) Sa;have hz6:=au (H:=Z) (a:=z3) (o:=.tup [V.int h,V.int g]);have hy6:=u6 _ _ hy;generalize upd Z z3 (.tup [V.int h,V.int g])=H7 at u6 hz6 hy6;have s6:=s5.trans u6;refine⟨.tuple (([(cl[i].1:Int),(cl[i].2:Int)]:List Int).map .int),.tuple (([(h:Int),(g:Int)]:List Int).map .int),Rep.JB (ns:=[(cl[i].1:Int),(cl[i].2:Int)]) (s6.dB (d4.dB q2)),Rep.JB (ns:=[(h:Int),(g:Int)]) (cQ.of hz6),pT _,pT _,(by show PyData.depthAll _+1<=64;rw[vN];decide),_,rfl,?_⟩;rw[Qs];have N:decide ((cl[i].1:Int)=(h:Int)/\(cl[i].2:Int)=(g:Int))=decide (cl[i]?=some (h,g)):=by
     rw[aa hic,decide_eq_decide];constructor
     ·rintro⟨y1,y2⟩
      exact g7 some (Prod.ext (by show cl[i].1=h;lia) (by show cl[i].2=g;lia))
     ·intro z
      have z:=aK z;rw[z];exact⟨rfl,rfl⟩
    rw[N];refine ko (λhc=>?_) (λhc=>?_)
    ·refine⟨_,rfl,?_⟩
     refine fQ XG hi s6 hy6 ?_ ?_
     ·rw[ah]
      refine cS (aN (aX _ _) ?_);rw[bB];lia
     ·rw[oW,ee hc,jI]
    ·refine jX hi s6 hy6 ?_
     rw[oW,er hc,bY]
   rintro ys H5 s5 wh rfl;rw[cy] at wh;refine I _ _ ?_;have wh:H5 X=some (.lst (bR (rz cl h g))):=wh;have d5:=d4.mono s5;obtain⟨_,aer,_⟩:=d4.st;obtain⟨_,aes,_⟩:=d4.wt;have nh1:X≠ls:=(aE aer XG).symm;have nh2:X≠B:=(aE aes XG).symm;have nh3:X≠d:=(aE d4.dt XG).symm;have aet:(rz cl h g).length<=20:=by
    unfold rz;refine aN (aX _ _) ?_;rw[bB];exact c20
   have eng:(cF st x to).grp=g:=Wa;have hnd:=md.hand hm hgr eng;have hgo:=md.go hm hgr eng;refine bI λNx I=>?_;refine⟨_,rfl,X,rfl,⟨_,bP.of wh⟩,vO (K:=K) (a:=X) (xs:=bR (rz cl h g)) (λj C Z=>∃NR:Option V,C=[some (.ref b),some (.ref lo),some (.ref d),some (.ref cb),some (.int (x:Nat)),some (iE (to.map λk:Nat=>(k:Int))),some (.int (f:Nat)),some (.int (g:Nat)),some (.int (num:Nat)),some (.ref ls),some (.ref B),some (.int ((A:Int)+1)),some (.int (h:Nat)),some (iE (aU.map λk:Nat=>(k:Int))),NR,some (.ref X),NU]/\DI K H Z d ls B (Zq++(((rz cl h g).take j).filter (jb x to)).map (dN.hand h)) W Wb/\Z X=some (.lst (bR (rz cl h g)))) ⟨_,rfl,by rw[List.take_zero];show DI K H H5 d ls B (Zq++[]) W Wb;rw[bY];exact d5,wh⟩ (λj C Z _ z=>by obtain⟨_,_,_,z⟩:=z;exact bP.of z) ?_ ?_⟩
   ·rintro j y C Z Nf Gd hj ⟨NR,rfl,d6,vo⟩
    have O:j<(rz cl h g).length:=by
     have:=(ai.mp hj).1
     rw[ah] at this;exact this
    rw[aj,aa O] at hj;cases hj;have efs:=Eu (p:=jb x to) O;rw[efs] at Gd;show iD 14 (V.int (((rz cl h g)[j]:Nat):Int)) _ _ _;have hjf:(((rz cl h g).take j).filter (jb x to)).length<=20:=by
     refine aN (aX _ _) ?_;rw[bQ];lia
    generalize (rz cl h g)[j]=c at Gd;obtain⟨qS,u,v⟩:=d6.st;have x6:qS.length<=D+1700:=by
     rw[v.len,ah,av,ah];lia
    have skip:jb x to c=false->∀(τ:L2.St),τ=[some (.ref b),some (.ref lo),some (.ref d),some (.ref cb),some (.int (x:Nat)),some (iE (to.map λk:Nat=>(k:Int))),some (.int (f:Nat)),some (.int (g:Nat)),some (.int (num:Nat)),some (.ref ls),some (.ref B),some (.int ((A:Int)+1)),some (.int (h:Nat)),some (iE (aU.map λk:Nat=>(k:Int))),some (.int (c:Nat)),some (.ref X),NU]->Nf τ Z:=λe τ eτ=>Gd _ _ ⟨_,eτ,by rw[er (by rw[e];decide),bY];exact d6,vo⟩;have add:jb x to c=true->∀(τ:L2.St) (L:Addr),Z L=none->τ=[some (.ref b),some (.ref lo),some (.ref d),some (.ref cb),some (.int (x:Nat)),some (iE (to.map λk:Nat=>(k:Int))),some (.int (f:Nat)),some (.int (g:Nat)),some (.int (num:Nat)),some (.ref ls),some (.ref B),some (.int ((A:Int)+1)),some (.int (h:Nat)),some (iE (aU.map λk:Nat=>(k:Int))),some (.int (c:Nat)),some (.ref X),NU]->Nf τ (upd (upd Z L (.tup [V.str "hand",V.int h,V.int c])) ls (.lst (qS.map V.ref++[.ref L]))):=λe τ L Y eτ=>by
     have d7:=d6.abq (f:=.hand h c) u v Y;refine Gd _ _ ⟨_,eτ,?_,?_⟩
     ·rw[ee e,aT,<- cH]
      exact d7
     ·rw[aH nh1,aH (aE vo Y)]
      exact vo
    cases to with
    |none =>
     refine⟨_,rfl,_,rfl,mT _ none,_,rfl,eZ ⟨_,rfl,rfl,_,rfl,gB ⟨_,rfl,_,rfl,rfl,_,rfl,?_⟩⟩⟩;by_cases e:c=x
     ·have:decide (V.int ((c:Nat):Int)=V.int ((x:Nat):Int))=true:=by rw[e];exact fy rfl
      rw[this];exact eZ (skip (by show (!decide (c=x))=false;rw[fy e];rfl) _ rfl)
     ·have:decide (V.int ((c:Nat):Int)=V.int ((x:Nat):Int))=false:=gU λz=>e (by have:=V.int.inj z;lia)
      rw[this];refine gB ⟨_,rfl,.inl ⟨rfl,_,bP.of u⟩,_,rfl,_,rfl,ia,λL Y=>?_⟩;refine⟨ls,_,_,rfl,rfl,aG.new Y _ _ u,mj (by rw[ah];lia),add (by show (!decide (c=x))=true;rw[gU e];rfl) _ L Y rfl⟩
    |some y =>
     by_cases e:c=y
     ·refine⟨_,rfl,_,rfl,mT _ (some (y:Int)),_,rfl,Uv (by rw[e];exact fy rfl) ?_⟩
      refine⟨_,rfl,.inl ⟨rfl,_,bP.of u⟩,_,rfl,_,rfl,ia,λL Y=>?_⟩;exact⟨ls,_,_,rfl,rfl,aG.new Y _ _ u,mj (by rw[ah];lia),add (fy e) _ L Y rfl⟩
     ·refine⟨_,rfl,_,rfl,mT _ (some (y:Int)),_,rfl,EX (gU λz=>e (by have z:V.int (c:Int)=V.int (y:Int):=z;have:=V.int.inj z;lia)) ⟨_,rfl,rfl,_,rfl,eZ ?_⟩⟩
      exact skip (gU e) _ rfl
   rintro C Z ⟨aev,rfl,d6,vo⟩;refine I _ _ ?_;rw[ah,iX,<- hnd] at d6;obtain⟨sk,l2,pz,hl2,Ze,aew,hts⟩:=md.fin;have sdk:=pz.sd sd0;obtain⟨kw,kR,kH,kG,kl⟩:=pz.same;have g3:g<3:=by
    have:=sd.bd.g3 (st.groups.getD x 0) (by rw[az,aa (show x<st.groups.length by rw[sd.bd.gl];exact hxh)];exact aQ _)
    rw[Wa] at this;exact this
   have nl:=aef sdk.ld g3 (os:=os) (by rw[kw,kR];exact hO0);have led:∀t∈Wb,∃h c r:Nat,t=((h:Int),(c:Int),(r:Int))/\r∈os/\isAt rs (h:Int) r=true:=λt ht=>by
    obtain⟨h1,c1,r1,N,e2,e3,_⟩:=nl t (by rw[hts];exact md.pt.mem_iff.mp ht);exact⟨h1,c1,r1,N,e2,e3⟩
   have gn:=VJ (rs:=rs) (os:=os) (s:=s') (l:=l') (h:=h) (aU:=aU);have gl:(Aw rs s' l' h aU os).length<=13:=by
    have:=g7 List.length hgo
    rw[ah] at this;rw[<- this];refine aN (WX _ _ _ _ _ _) ?_;rw[ah]
    have:=aX (isAt rs (h:Int)) os
    lia
   have hO6:=d6.sm _ _ hO nlo;have hL6:=d6.sm _ _ hL nb;refine⟨_,rfl,_,rfl,_,rfl,_,rfl,_,rfl,_,rfl,_,rfl,b,lo,d,X,ns,rs,os,Wb,rz cl h g,h,aU,to,rfl,⟨us,hL6,WW.mono λb x=>d6.dB⟩,bP.of hO6,d6.dt,bP.of vo,olt,md.oe,∅,h12,led,λlg H7 s7 aex hlg=>?_⟩;rw[hgo] at hlg;have d7:=d6.mono s7;obtain⟨_,aey,_⟩:=d6.st;obtain⟨_,aez,_⟩:=d6.wt;have nl1:lg≠ls:=(aE aey aex).symm;have nl2:lg≠B:=(aE aez aex).symm;have ld6:(iz s' l' h).length<=20:=by
    rw[hnd];exact aN (aX _ _) aet
   generalize Aw rs s' l' h aU os=G at *;generalize iz s' l' h=hns at *;refine⟨lg,rfl,⟨_,bP.of hlg⟩,vO (K:=K) (a:=lg) (xs:=(G.map λk:Nat=>(k:Int)).map V.int) (λj C H8=>∃NU:Option V,C=[some (.ref b),some (.ref lo),some (.ref d),some (.ref cb),some (.int (x:Nat)),some (iE (to.map λk:Nat=>(k:Int))),some (.int (f:Nat)),some (.int (g:Nat)),some (.int (num:Nat)),some (.ref ls),some (.ref B),some (.int ((A:Int)+1)),some (.int (h:Nat)),some (iE (aU.map λk:Nat=>(k:Int))),aev,some (.ref X),NU]/\DI K H H8 d ls B (Zq++hns.map (dN.hand h)++(G.take j).map (Ye rs st num h)) (W++(G.take j).map λr=>(eN rs r h,some r)) Wb/\H8 lg=some (.lst ((G.map λk:Nat=>(k:Int)).map V.int))) ⟨_,rfl,by rw[List.take_zero];show DI K H H7 d ls B (Zq++hns.map (dN.hand h)++[]) (W++[]) Wb;rw[bY,bY];exact d7,hlg⟩ (λj C Z _ z=>by obtain⟨_,_,_,z⟩:=z;exact bP.of z) ?_ ?_⟩
   ·rintro j y C H8 Nf Gd hj ⟨NU,rfl,d8,hg8⟩
    have O:j<G.length:=by
     have:=(ai.mp hj).1
     rw[ah,ah] at this;exact this
    rw[aj,aj,aa O] at hj;cases hj;obtain⟨O4,hat,_⟩:=gn _ (aQ O);have xP:G.take (j+1)=G.take j++[G[j]]:=by rw[uI,aa O];rfl
    rw[xP] at Gd;show iD 16 (V.int ((G[j]:Nat):Int)) _ _ _;have hjf:(G.take j).length<=13:=by rw[bQ];lia
    generalize G[j]=r at O4 hat Gd;have U:=olt r O4;have aeB:=d8.dB (WW.at' r (us[r]'∅) (rs[r]).vs (aa _) (by rw[aj,aa U];rfl));have aeC:=WW.at' r (us[r]'∅) (rs[r]).vs (aa _) (by rw[aj,aa U];rfl);have PK:FG (us.map V.ref) (r:Int)=some (.ref (us[r]'∅)):=eY (by rw[aj,aa];rfl);generalize us[r]'∅=pt at PK aeB aeC;have okr:=o.ok _ (aQ U);have d1:=okr.d1;have ew:((num:Int)%rs[r].d)=((gW st.ws r num:Nat):Int):=by
     unfold gW;rw[hws,aj,aa U];show (num:Int)%rs[r].d=(((aA rs[r].d.toNat).getD (num%(aA rs[r].d.toNat).length) 0:Nat):Int);obtain⟨dd,Ze⟩:∃dd:Nat,rs[r].d=(dd:Int):=⟨rs[r].d.toNat,∅⟩;rw[Ze,cy,bB,az,gp (Nat.mod_lt _ ∅)];rfl
    obtain⟨qS,u,v⟩:=d8.st;have x6:qS.length<=D+1800:=by
     rw[v.len,ah,av,av,ah,ah];lia
    refine bI λNx I=>?_;refine⟨_,rfl,.inl ⟨rfl,_,bP.of u⟩,_,rfl,_,rfl,_,rfl,_,rfl,_,rfl,b,_,_,_,rfl,rfl,bP.of (d8.sm _ _ hL nb),PK,pt,_,3,_,rfl,rfl,aeB,rfl,_,_,rfl,rfl,(by show (0:Int)<rs[r].d;lia),z4,λL Y=>?_⟩;refine⟨ls,_,_,rfl,rfl,aG.new Y _ _ u,mj (by rw[ah];lia),I _ _ ?_⟩;rw[ew];have d9:=d8.abq (f:=Ye rs st num h r) u v Y;have ev:(Ye rs st num h r).vs=[V.str "send",V.int h,V.int r,V.int (gW st.ws r num:Nat)]:=rfl;rw[ev] at d9;have hg9:upd (upd H8 L (.tup [V.str "send",V.int h,V.int r,V.int (gW st.ws r num:Nat)])) ls (.lst (qS.map V.ref++[.ref L])) lg=some (.lst ((G.map λk:Nat=>(k:Int)).map V.int)):=by
     rw[aH nl1,aH (aE hg8 Y)];exact hg8
    generalize upd (upd H8 L (.tup [V.str "send",V.int h,V.int r,V.int (gW st.ws r num:Nat)])) ls (.lst (qS.map V.ref++[.ref L]))=H9 at d9 hg9;have hL9:=bP.of (K:=K) (d9.sm _ _ hL nb);have aeD:=d9.dB aeC;obtain⟨qW,S,tS⟩:=d9.wt;have eqW:qW.length<=40:=by
     rw[tS.len,ah,av,ah];lia
    refine⟨_,rfl,.inl ⟨rfl,_,bP.of S⟩,_,rfl,_,rfl,b,_,_,_,rfl,rfl,hL9,PK,pt,_,0,_,rfl,rfl,aeD,rfl,_,rfl,_,rfl,b,_,_,_,rfl,rfl,hL9,PK,pt,_,1,_,rfl,rfl,aeD,rfl,_,_,rfl,rfl,_,rfl,_,_,rfl,rfl,_,rfl,g8,λz5 hz5=>?_⟩;have eia:isAt rs (h:Int) r=(decide ((h:Int)=rs[r].a) || decide ((h:Int)=rs[r].b)):=by unfold isAt;rw[aa U]
    have ef:rs[r].a+rs[r].b-(h:Int)=((eN rs r h:Nat):Int):=by
     have a0:=okr.a0;have b0:=okr.b0;unfold eN;rw[aa U];show _=((fR rs[r] h:Nat):Int);rw[eia,Bool.or_eq_true,decide_eq_true_iff,decide_eq_true_iff] at hat;unfold fR;by_cases z:(h:Int)=rs[r].a
     ·rw[ee z];lia
     ·rw[er z];lia
    have ev2:wV (eN rs r h,some r)=[V.int (eN rs r h:Nat),V.int r]:=rfl;refine⟨B,_,_,rfl,rfl,aG.new hz5 _ _ S,mj (by rw[ah];lia),?_⟩;have d10:=d9.addW (f:=(eN rs r h,some r)) S tS hz5;rw[ev2] at d10
    try dsimp only
    rw[ef];refine Gd _ _ ⟨_,rfl,?_,?_⟩
    ·rw[aT,aT,<- cH,<- cH]
     exact d10
    ·rw[aH nl2,aH (aE hg9 hz5)]
     exact hg9
   ·rintro C H8 ⟨amF,rfl,d8,hg8⟩
    rw[ah,ah,iX] at d8;have hle:=g7 List.length aew;rw[ah,av,wK,ah] at hle;rw[hnum] at Ze;refine hNw (20-(A+1)) _ _ ∅ ⟨A+1,_,_,Wb,_,_,_,_,_,rfl,d8,⟨md.oe,.inr ⟨A,sk,l2,rfl,pz,hl2,?_,?_,?_,?_⟩⟩,rfl⟩
    ·rw[Ze,cH]
    ·rw[List.drop_append_of_le_length ∅,aew]
    ·rw[av,ah]
     lia
    ·rw[hts]
     exact md.pt
  ·rintro C H3 Q1 Q2 hq ⟨v1,N,v2,e2,a4,ys4,f5,f6,f7,f8,f9,f10,b,g2,g3⟩
   refine⟨v1,N,v2,e2,a4,ys4,f5,f6,f7,f8,f9,f10,b,g2,?_⟩;cases b with
   |true =>
    rw[ee rfl] at g3 ⊢;obtain⟨h1,h2,h3,h4,h5,h6,h7,h8,h9⟩:=g3;exact⟨h1,h2,h3,h4,h5,h6,h7,h8,hq _ _ h9⟩
   |false =>
    rw[er aF] at g3 ⊢;exact hq _ _ g3
end
section
variable{ns:List Int}{rs:List R5}{o:cX ns rs}{os:List Nat}{bs:List (List Bool)}{cl:List (Nat×Nat)}{s s0 sk:NS}
noncomputable def EL:dN->Bool
 |.send _ _ _=>true
 |_=>false
theorem Zr{h num:Nat}{e a:List Nat}{b:Nat->Nat}:((e.map (dN.hand h)++a.map λr=>dN.send h r (b r)).filter EL).length=a.length:=by
 rw[fO,av];have f:(e.map (dN.hand h)).filter EL=[]:=List.filter_eq_nil_iff.mpr λd c=>by
  obtain⟨r,_,rfl⟩:=aL.mp c;exact Bool.noConfusion
 have g:(a.map λr=>dN.send h r (b r)).filter EL=a.map λr=>dN.send h r (b r):=List.filter_eq_self.mpr λd c=>by
  obtain⟨r,_,rfl⟩:=aL.mp c;rfl
 rw[f,g,ah];exact Nat.zero_add _
theorem Pz.cnt{n x num g:Nat}{to:Option Nat}{E0:List En}(z:Pz ns rs o n (c5 rs s x to os) sk)(O:eU (kJ ns rs o (c5 rs s x to os).ws g) ((c5 rs s x to os).R g) os)(j:J5 ns rs os s.ls.length g num E0 (c5 rs s x to os))(F:s.cps=[]):∃l,sk.ls[s.ls.length]?=some l/\(l.aD.filter EL).length=n+sk.cps.length:=by
 generalize v:c5 rs s x to os=s0 at z;induction z with
 |refl =>
  subst v;unfold c5;obtain⟨u,m⟩:=uF (rs:=rs) (os:=os) (h:=s.aO.getD x 0) (aU:=none) (s:=gj s x to) (i:=s.ls.length) (l:={cF s x to with aD:=[.post (s.aO.getD x 0)]}) iA;rw[m];refine⟨_,LO (ls:=(gj s x to).ls) (by show s.ls.length<(s.ls++[_]).length;rw[av];exact wI _) _,?_⟩;show (([dN.post _]++_).filter EL).length=0+(s.cps++_).length;rw[F,fO,av,Zr (num:=0),List.nil_append,ah];rfl
 |@step n U sk c l b ts z f k w B p T K =>
  subst v;obtain⟨V,L,I⟩:=K rfl;obtain⟨E,_,y⟩:=z.j5 O j;obtain⟨q,D,t,_⟩:=y.comes f k;obtain⟨S,A,P,H,Q⟩:=y.lt;obtain⟨M,G,_⟩:=z.same;rw[q] at k
  have:=k
  rw[L] at this;cases this
  have:=k
  rw[A] at this;cases this;have N:b=os:=by
   rw[H,M,G] at w;exact w.uniq O
  subst N;have e:sk.ls[c.l]?=some l:=by rw[q];exact k
  unfold gk;rw[ee D];obtain⟨u,m⟩:=uF (rs:=rs) (os:=b) (h:=c.h) (aU:=some c.r) (jf (a:=0) (os:=b) (ts:=ts) e);rw[m];have C:(bA sk 0 c l b ts).ls.length=sk.ls.length:=by unfold bA;split <;> exact bT
  have J:(bA sk 0 c l b ts).cps=sk.cps.eraseIdx 0:=by unfold bA;split <;> rfl
  refine⟨_,by rw[<- q];exact LO (by rw[C];exact (ai.mp e).1) _,?_⟩;show (((l.aD++[fU l c b])++_).filter EL).length=n+1+((bA sk 0 c l b ts).cps++_).length;rw[fO,fO,av,av,Zr (num:=0),I,t,J,av,ah];have d:0<sk.cps.length:=(ai.mp f).1;rw[List.length_eraseIdx,ee d];show n+sk.cps.length+0+_=_;lia
theorem Pz.pre{n m:Nat}(z:Pz ns rs o n s sk)(h:m<n):∃a,Pz ns rs o m s a/\a.cps≠[]:=by
 induction z with
 |refl=>exact eL h (rY _)
 |@step n s sk g l c i z b k q d p j f =>
  by_cases e:m=n
  ·subst e
   exact⟨sk,z,λe=>by rw[e] at b;cases b⟩
  ·exact f ∅
end
section
variable{ns:List Int}{rs:List R5}{o:cX ns rs}{os:List Nat}{s s':NS}{g:Nat}
theorem Yh{cp:Cp}{l:LS}{ts:List T3}(hl:s.ls[cp.l]?=some l)(d:g≠l.grp):(gk rs s 0 cp l os ts).ts g=s.ts g:=by
 unfold gk;split
 ·obtain⟨c,b⟩:=uF (rs:=rs) (os:=os) (h:=cp.h) (aU:=some cp.r) (jf (a:=0) (os:=os) (ts:=ts) hl)
  rw[b];show (bA s 0 cp l os ts).ts g=s.ts g;unfold bA;split
  ·rfl
  ·show fD s.ts l.grp ts g=s.ts g
   exact cZ d
 ·rfl
theorem Pz.aeE{n i a num:Nat}{E0:List En}(z:Pz ns rs o n s s')(O:eU (kJ ns rs o s.ws a) (s.R a) os)(j:J5 ns rs os i a num E0 s)(q:g≠a):s'.ts g=s.ts g:=by
 induction z with
 |refl=>rfl
 |@step n s s' u l f ts z b c w k p v r =>
  obtain⟨E,_,d⟩:=z.j5 O j;obtain⟨x,t,_,m,_⟩:=d.lt;have e:=d.all _ (aM b);have h:=c;rw[e,t] at h;cases h;rw[Yh c (by rw[m];exact q)];exact r O j
theorem Yi{x:Nat}{to:Option Nat}:(c5 rs s x to os).ts=s.ts:=by
 unfold c5;obtain⟨b,a⟩:=uF (rs:=rs) (os:=os) (h:=s.aO.getD x 0) (aU:=none) (s:=gj s x to) (i:=s.ls.length) (l:={cF s x to with aD:=[.post (s.aO.getD x 0)]}) iA;rw[a];rfl
end
section
variable{P:Program}{w:World}{K:af}{mg:Str->Option Value}{base:Heap}
theorem Rh(rs:List R5):(rs.map λr=>k7 r.d.toNat true).map stand=rs.map λr=>aA r.d.toNat:=by
 rw[dw];exact c6 λr _=>OH _
theorem VP{n:Nat}{rs:List R5}(ok:∀r∈rs,r.Ok n):Fit rs (rs.map λr=>k7 r.d.toNat true):=by
 refine⟨ah _,λi r b a c=>?_⟩;rw[aj,a] at c;cases c;rw[List.length_replicate]
 have:=(ok r (aM a)).d1
 lia
theorem aeF{ns:List Int}{rs:List R5}{cl:List (Nat×Nat)}(o:cX ns rs)(k:cl.length<=20)(b:∀c∈cl,c.1<ns.length/\c.2<3):SD ns rs (rs.map λr=>k7 r.d.toNat true) cl 0 (S0 ns rs cl):=by
 refine⟨⟨ah _,λw a=>?_,λg _ i e=>⟨?_,jn _,⟨jn _,by show (0:Int)<(ns.length:Int);lia⟩,.inl rfl⟩⟩,⟨?_,?_,λg m=>?_,λh j=>?_,?_,λw a=>?_,bN _,λl z=>(by cases z),bN _,λc z=>(by cases z),λg=>⟨bN _,k8⟩⟩,(Rh rs).symm,VP o.ok,rfl,rfl⟩
 ·obtain⟨r,f,rfl⟩:=aL.mp a
  rw[bB]
  have:=(o.ok r f).d4
  lia
 ·show 0<=ns.getD i 0
  rw[az,aa e];exact o.pos _ (aQ e)
 ·show (cl.map _).length=(cl.map _).length
  rw[ah,ah]
 ·show (cl.map _).length<=20
  rw[ah];exact k
 ·obtain⟨c,z,rfl⟩:=aL.mp m
  exact (b c z).2
 ·obtain⟨c,z,rfl⟩:=aL.mp j
  exact (b c z).1
 ·show (cl.map _).length=(cl.map _).length
  rw[ah,ah]
 ·obtain⟨c,z,rfl⟩:=aL.mp a
  exact bN _
theorem SK{a:Addr}{xs:List V}{g:TG}{k:TS}{D:Ends}{b:L2.St}{H:Hp}(f:Nat->L2.St->Hp->Prop)(q:f 0 b H)(hl:∀i b H,i<=xs.length->f i b H->bP K H a xs)
 (r:∀i x b H p (N:L2.St->Hp->Prop),(∀c d,f (i+1) c d->N c d)->xs[i]?=some x->f i b H->H p=none->g (.ref p) b (upd H p (.tup [.int (i:Nat),x])) λe h=>k {D with nx:=N,ct:=N,bk:=D.nx} e h) (n:∀b H,f xs.length b H->D.nx b H) :
 ∃W:Nat->Nat->L2.St->Hp->Prop,(∃m,W 0 m b H)/\∀i m b H,W i m b H ->
  ((VZ K a).stop i H/\D.nx b H)∨((VZ K a).go i H/\∃N:L2.St->Hp->Prop,(∀c d,N c d->∃j,j<m/\W (i+1) j c d)/\∀x d,(VZ K a).Kn i H x d->g x b d λe h=>k {D with nx:=N,ct:=N,bk:=D.nx} e h) :=
 Ui f q hl (λi x b H p o z l=>r i x b H p _ (λ_ _ x=>x) o z l) n
structure NX(K:af)(CT:Addr)(h:Hp)(tp ln lr b0 cb dl:Addr)(ds:List Addr)(ns:List Int)(rs:List R5)(cl:List (Nat×Nat))(tt:Nat->List T3):Prop where
 vP:c7 K CT h tp ln lr ns rs
 rps:KO K h b0 rs
 QN:∃qs:List Addr,h cb=some (.lst (qs.map V.ref))/\dF K h qs (aeg cl)
 RI:h dl=some (.lst (ds.map V.ref))
 d3:ds.length=3
 nd:ds.Nodup
 n6:∀(g:Nat) d,ds[g]?=some d->h d=some (.dT ((tt g).map fk))
 ap:∀d∈ds,d≠tp/\d≠ln/\d≠lr/\d≠b0/\d≠cb/\d≠dl
section
variable{CT:Addr}{h h':Hp}{tp ln lr b0 cb dl:Addr}{ds:List Addr}{ns:List Int}{rs:List R5}{cl:List (Nat×Nat)}{tt:Nat->List T3}
theorem NX.mono(x:NX K CT h tp ln lr b0 cb dl ds ns rs cl tt)(s:aG h h'):NX K CT h' tp ln lr b0 cb dl ds ns rs cl tt:=by
 obtain⟨a,f,c⟩:=x.QN;exact⟨x.vP.mono s,x.rps.keep (λo z=>s _ _ z) (λb x=>s.dB),⟨a,s _ _ f,c.mono λb x=>s.dB⟩,s _ _ x.RI,x.d3,x.nd,λg d e=>s _ _ (x.n6 g d e),x.ap⟩
theorem NX.put(x:NX K CT h tp ln lr b0 cb dl ds ns rs cl tt){g:Nat}{d:Addr}{ts:List T3}(hd:ds[g]?=some d)(a:∀b o,h b=some o->b≠d->h' b=some o)(t:h' d=some (.dT (ts.map fk))):NX K CT h' tp ln lr b0 cb dl ds ns rs cl (fD tt g ts):=by
 obtain⟨A,p,k,l,j,u⟩:=x.ap d (aM hd);have f:∀c y,cQ K h c y->cQ K h' c y:=λc y=>cQ.past (x.n6 g d hd) Mq (λb o e n=>a b o e n);obtain⟨v,s,m⟩:=x.QN;refine⟨x.vP.keep (λc o e q=>a c o e ?_) f,x.rps.keep (λo e=>a _ o e (bL l)) f,⟨v,a _ _ s (bL j),m.mono f⟩,a _ _ x.RI (bL u),x.d3,x.nd,λi r e=>?_,x.ap⟩
 ·rcases q with rfl|rfl|rfl
  ·exact bL A
  ·exact bL p
  ·exact bL k
 ·by_cases z:i=g
  ·subst z
   rw[hd] at e;cases e;rw[bS];exact t
  ·rw[cZ z]
   refine a _ _ (x.n6 i r e) λw=>z ?_;subst w;exact (List.getElem?_inj (ai.mp e).1 x.nd).mp (e.trans hd.symm)
end
theorem aeG(d:dN):decide (V.str (dW d)=V.str "send")=EL d:=by
 cases d
 ·exact (by decide +kernel:decide (V.str "post" = V.str "send")=false)
 ·exact (by decide +kernel:decide (V.str "come" = V.str "send")=false)
 ·exact (by decide +kernel:decide (V.str "hand" = V.str "send")=false)
 ·exact (by decide +kernel:decide (V.str "send" = V.str "send")=true)
 ·exact (by decide +kernel:decide (V.str "twice" = V.str "send")=false)
 ·exact (by decide +kernel:decide (V.str "lost" = V.str "send")=false)
inductive VQ(K:af)(vs:List V)(H:Hp)(Q:VK)(E:XK):Prop
 |mk (a:Addr) (ns:List Int):vs=[.ref a]->bP K H a (ns.map V.int)->ns.length<=63->(∀H',Q (.bl true) H')->VQ K vs H Q E
theorem abt{t:Ad}(T:Txt K mg t):cz P w K mg base iM 9 t.MH t.MJ ["_law_script"]  (VQ K):=by
 refine T.U4.F.kh iy λH Q E L h=>?_
 ·obtain⟨a,cs,rfl,hS,hlen,k⟩:=h
  refine⟨_,(aq (sS 1 iy (bw fB aB (bw dZ (cG (gw T) L T.gy (nZ (pv 0) aB)) aB))) (aq (sS 2 iy (bw dZ (cG (gw T) L T.gy (nZ (pv 0) aB)) aB)) (aq (sS 3 iy (cG (Pw T) L T.JQ (Ir (pv 0) (pv 1) (pv 2)))) (aq (sS 4 iy (cG (LF T) L T.E7 (Ir (pv 0) (pv 1) (pv 2)))) (aq (sS 5 iy (cI T.C4 (Jh T) L T.ado (nZ (cI T.A8 (HV T) L T.aaG (nZ (cG (Pu T) L T.JP (nZ (pv 0) (pv 1))) (fW ig (by rfl) T.sZ boot_list (gV (pv 3))))) (fW ig (by rfl) T.sZ boot_list (gV (pv 4)))))) (aq (fS (gA rfl T.jy (gV aB)) (gT 6 iy) (oE (cG (NI T) L T.Hi (Ir (pv 5) (pv 1) (pv 6))))) (aq (sS 7 iy (jq (Ir yW yW yW))) (aq (fS (Qd rfl T.E8 (gV (bw Z7 (jq (gV aB)) (yQ Ws (pv 0) (wQ aB) (wQ aB))))) (Kl (n:=2) rfl (i0 (gT 8 iy) (i0 (gT 9 iy) Ay))) (aq (sS 10 iy (bw dZ (pv 9) (lS T.iN (pv 4)))) (aq (sS 6 iy (xT (xL (pv 4) (pv 10)) aB)) (aq (Bw (i:=11) iy.nd rfl (Or.inl rfl) (kO iy ["_law_caller","_law_callers_here","_law_one"] [none,some 4,some 6]) rfl (gA rfl T.jy (gV (lS T.iN (pv 4)))) (λ_ _ _ _=>by exact (gS 0 Sd)) (λ_ _ _ _=>by exact (mP (qT uc (yT K (yL K (pv 1) (pv 0)) aB) (pv 2)))) (λ_ _ _ _=>by exact (pv 0))) (aq (sS 12 iy (xL (pv 11) (bw dZ (bw fK (pv 9) aB) (lS T.iN (pv 11))))) (aq (cE (qT uc (bw dZ (bw fK (pv 9) aB) aB) aB) (bJ (sS 12 iy iO)) bz) (aq (sS 13 iy (cG (VO T) L T.Qy (SE (pv 3) (cM (pv 5) T.bV T.zM (Dt T) L (gV (pv 6))) (xL (pv 7) (pv 6)) (pv 4) (pv 10) (pv 12)))) (aq (cE (qT se (Cy (pv 5) T.bV T.O9 (Nr T) (L.mono (!_)) T.O7 .nil mK (nZ (pv 10) (pv 12))) (pv 8)) oB bz) (aq (fS (fV (pv 13)) (gT 14 iy) (bJ (cE (PW.pt (Bs (qT uc (xT (pv 14) aB) gF) (wN (qT se (kD (pv 5) T.bV T.IK (Ik T) (L.mono (!_)) T.IJ (show bZ [V.int 0] [_] from .cons ⟨_,rfl⟩ .nil) mK) gF)))) oB bz))) (aq (sS 15 iy (cM (pv 5) T.bV T.E6 (LL T) L (gV (pv 8)))) (aq (cE (PW.pt (Jp (jo (wM (cG (Ge T) L T.zN (gV (pv 15))))) (Jp (qT KD (pv 15) (pv 13)) (Kh (qT KD (kD (pv 5) T.bV T.xJ.m (Jj T) (L.mono (!_)) T.xJ.B .nil mK) (jq iP)))))) oB bz) (aq (sS 16 iy (cM (pv 5) T.bV T.E5 (LG T) L (gV (pv 6)))) (aq (cE (qT KD (pv 16) (cB CP T.Hq boot_sorted (gV (gq (kO iy ["_law_house","_law_caller","_law_notes","_law_one"] [none,none,some 7,some 6]) rfl (fV (fW (OZ rfl) (by rfl) T.sZ boot_list (gV (xL (pv 7) (pv 6))))) (λ_ _ _ _=>by exact (KG K rfl (n:=2) rfl (i0 (gS 0 JL) (i0 (gS 1 JL) Ay)))) (λ_ _ _ _=>by exact mO) (λ_ _ _ _=>by exact (dU (Ir (pv 0) (pv 1) (P9 (CG L) (yL K (pv 2) (pv 3)) (dU (nZ (pv 0) (pv 1))) (λ_ _=>rfl))))))))) oB bz) (oE (pS be bh bg eE (pv 16) (gV (dU (Ir aB aB aB)))))))))))))))))) oB)))))))),?_⟩
  left
  refine bI λU C=>?_;refine⟨_,rfl,a,cs,0,rfl,hS,!_,_,_,rfl,rfl,(by show (0:Int)<10;decide),_,_,rfl,rfl,?_⟩;obtain⟨n,hn,hn1,VR⟩:∃n:Nat,1+cs.getD (0:Int).toNat 0%10=(n:Int)/\1<=n/\n<=10:=by
   have h1:=bU (cs.getD (0:Int).toNat 0) (show (10:Int)≠0 by decide);have h2:=ck (cs.getD (0:Int).toNat 0) (show (0:Int)<10 by decide);exact⟨(1+cs.getD (0:Int).toNat 0%10).toNat,∅,∅,∅⟩
  show iD 1 (V.int (1+cs.getD (0:Int).toNat 0%10)) _ _ _;rw[hn];refine C _ _ ?_;refine bI λU C=>?_;refine⟨_,rfl,a,cs,1,rfl,hS,!_,_,_,rfl,rfl,(by show (0:Int)<3;decide),?_⟩;obtain⟨g,hge,hg⟩:∃g:Nat,cs.getD (1:Int).toNat 0%3=(g:Int)/\g<3:=LN _ (!_);show iD 2 (V.int (cs.getD (1:Int).toNat 0%3)) _ _ _;rw[hge];refine C _ _ ?_;refine bI λU C=>?_;refine⟨_,rfl,_,rfl,_,rfl,a,cs,n,g,rfl,hS,hn1,VR,hg,λb0 H1 rs s1 hb0 hR1 l14 ok=>C _ _ ?_⟩;refine bI λU C=>?_;refine⟨_,rfl,_,rfl,_,rfl,a,cs,n,g,rfl,s1.seq hS,hn1,VR,hg,λcb qs H2 cl A aeH hcb Zg hc1 Xx abu=>C _ _ ?_⟩;refine bI λU C=>?_;have s12:=s1.trans A;refine⟨_,rfl,_,rfl,a,cs,n,rfl,s12.seq hS,hn1,VR,λa0 H3 ns s3 ha0 hA3 eln nd nn=>?_⟩;subst eln;have s13:=s12.trans s3;obtain⟨us,hB1,aeI⟩:=hR1;have hB3:=(A.trans s3) _ _ hB1;have abv:dF K H3 us (rs.map R5.vs):=aeI.mono λb x=>(A.trans s3).dB;have Jk:=s3 _ _ hcb;have abw:dF K H3 qs (aeg cl):=Zg.mono λb x=>s3.dB;have hS3:=s13.seq hS;have tok:cX ns rs:=⟨nd,ok,hn1,VR,∅,nn⟩;have hw4:∀r∈rs,1<=r.d/\r.d<=4:=λr hr'=>⟨(ok r hr').d1,(ok r hr').d4⟩;have he7:∀r∈rs,1<=r.e/\r.e<=7:=λr hr'=>⟨(ok r hr').e1,(ok r hr').e7⟩;have ah6:cb≠b0:=(aE hB1 aeH).symm;refine⟨_,rfl,b0,_,rfl,.inl (bP.of hB3),λl2 h2=>?_⟩;have t2:=aG.new (o:=.lst (us.map V.ref)) h2;have hl2:=au (H:=H3) (a:=l2) (o:=.lst (us.map V.ref));generalize upd H3 l2 (.lst (us.map V.ref))=H4 at t2 hl2;refine λJ dx np tw nep=>?_;have t7:aG H4 (upd (upd H4 dx (.own J)) J (.ins t.bD dx [])):=(aG.new tw).trans (aG.new (by rw[aH (bL nep)];exact np));refine⟨J,dx,a0,l2,ns,rs,rfl,au,bP.of (t7 _ _ (t2 _ _ hA3)),⟨l2,_,rfl,bP.of (t7 _ _ hl2),KO.Qo (l:=l2) (abv.mono λb x=>(t2.trans t7).dB)⟩,hn1,VR,nn,nd,∅,ok,λln lr H5 hln hlr hT kp=>⟨rfl,?_⟩⟩;have t5:aG H3 H5:=t2.trans λb o e=>kp b o (t7 b o e) (aE e np);have ncb:cb≠J/\cb≠ln/\cb≠lr:=⟨aE (t2 _ _ Jk) np,aE (t7 _ _ (t2 _ _ Jk)) hln,aE (t7 _ _ (t2 _ _ Jk)) hlr⟩;refine⟨_,rfl,cb,_,rfl,.inl (bP.of (t5 _ _ Jk)),λl3 h3=>?_⟩;have t6:=aG.new (o:=.lst (qs.map V.ref)) h3;have hl3:=au (H:=H5) (a:=l3) (o:=.lst (qs.map V.ref));have hT6:=hT.mono t6;have t36:=t5.trans t6;generalize upd H5 l3 (.lst (qs.map V.ref))=H6 at t6 hl3 hT6 t36;refine λp DC npp tw nep=>?_;have t7:aG H6 (upd (upd H6 DC (.own p)) p (.ins t.cO DC [])):=(aG.new tw).trans (aG.new (by rw[aH (bL nep)];exact npp));refine⟨p,DC,J,ln,lr,l3,ns,rs,qs,cl,rfl,au,hT6.mono t7,∅,∅,hw4,bP.of (t7 _ _ hl3),abw.mono λb x=>(t36.trans t7).dB,Xx,abu,λF H7 N kp fr=>⟨rfl,C _ _ ?_⟩⟩;have S7:aG H6 (Off H7 F):=UH t7 npp kp fr;have hT7:=hT6.mono S7;have S37:=t36.trans S7;have s37:=S37.trans dH;have mu:EK ns rs tok _ cl 0 _:=⟨aeF tok Xx abu,aee⟩;have W0:NW K (nc t) t.bD H7 F p J ln lr ns rs (S0 ns rs cl):=hT7.nw N (λb z=>z);refine bI λU C=>?_;refine⟨3,rfl,!_,!_,BC (n:=(3:Int).toNat) (λi W H2=>∃(A:NS) (D:Addr->Prop) (v6:Option V),NW K (nc t) t.bD H2 D p J ln lr ns rs A/\EK ns rs tok (rs.map λr=>k7 r.d.toNat true) cl 0 A/\Step H7 F H2 D/\W=[some (.ref a),some (.int (ns.length:Nat)),some (.int g),some (.ref b0),some (.ref cb),some (.ref p),v6,none,none,none,none,none,none,none,none,none,none]) ⟨_,F,_,W0,mu,Step.refl' (aG.refl _),rfl⟩ ?_ ?_⟩
  ·rintro i W H2 Ny Rc hi ⟨A,D,v6,W2,PJ,st2,rfl⟩
   refine⟨_,rfl,_,rfl,_,rfl,D,p,J,ln,lr,ns,rs,tok,_,cl,0,A,i,(by rw[gD];rfl),W2,PJ,hi,λs3 F3 H3 W3 sd3 st3=>Rc _ _ ⟨s3,F3,_,W3,sd3,st2.trans st3,rfl⟩⟩
  rintro W H8 ⟨s8,F8,v6,W8,lJ,Sx,rfl⟩;refine C _ _ ?_;have S38:=S37.trans (zj Sx);have hT8:=hT7.mono (zj Sx);have N8:=W8.fC;have cp8:s8.cps=[]:=iw.mp (by have:=lJ.bd.cb;lia);have ls8:s8.ls.length=0:=by have:=lJ.bd.ll;lia
  have ts8:∀g,s8.ts g=[]:=λg=>iw.mp (by have:=(lJ.bd.tb g).1;lia);have ws8:s8.ws=rs.map λr=>aA r.d.toNat:=lJ.ws.trans (Rh rs);refine bI λU C=>?_;refine λM h0 d1 h1 d2 h2=>⟨ia,λdl hdl=>C _ _ ?_⟩;have u0:=aG.new (o:=.dT []) h0;have u1:=aG.new (o:=.dT []) h1;have u2:=aG.new (o:=.dT []) h2;have u3:=aG.new (o:=.lst [V.ref M,V.ref d1,V.ref d2]) hdl;have e0:=u3 _ _ (u2 _ _ (u1 _ _ (au (H:=H8) (a:=M) (o:=.dT []))));have e1:=u3 _ _ (u2 _ _ (au (H:=upd H8 M (.dT [])) (a:=d1) (o:=.dT [])));have e2:=u3 _ _ (au (H:=upd (upd H8 M (.dT [])) d1 (.dT [])) (a:=d2) (o:=.dT []));have e3:=au (H:=upd (upd (upd H8 M (.dT [])) d1 (.dT [])) d2 (.dT [])) (a:=dl) (o:=.lst [V.ref M,V.ref d1,V.ref d2]);have n01:M≠d1:=aE (au (H:=H8) (a:=M) (o:=.dT [])) h1;have n02:M≠d2:=aE (u1 _ _ (au (H:=H8) (a:=M) (o:=.dT []))) h2;have n12:d1≠d2:=aE (au (H:=upd H8 M (.dT [])) (a:=d1) (o:=.dT [])) h2;have n0l:M≠dl:=aE (u2 _ _ (u1 _ _ (au (H:=H8) (a:=M) (o:=.dT [])))) hdl;have n1l:d1≠dl:=aE (u2 _ _ (au (H:=upd H8 M (.dT [])) (a:=d1) (o:=.dT []))) hdl;have n2l:d2≠dl:=aE (au (H:=upd (upd H8 M (.dT [])) d1 (.dT [])) (a:=d2) (o:=.dT [])) hdl;have zk:=u0.free h1;have h2':=u0.free (u1.free h2);have aeL:=u0.free (u1.free (u2.free hdl));have s89:=u0.trans (u1.trans (u2.trans u3));generalize upd (upd (upd (upd H8 M (.dT [])) d1 (.dT [])) d2 (.dT [])) dl (.lst [V.ref M,V.ref d1,V.ref d2])=H9 at *;have nF:∀b,H8 b=none->¬F8 b:=λb e z=>by
   obtain⟨o,h⟩:=N8.there z;rw[e] at h;cases h
  have S89:=iF (F:=F8) s89;have BS:=S38.trans S89;have N9:=N8.mono s89;have SM:∀{b o},Off H8 F8 b=some o->∀x,H8 x=none->x≠b:=λ{b o} e x hx z=>by
   have:=dH _ _ e
   rw[<- z,hx] at this;cases this
  obtain⟨⟨dt,htp⟩,hln,_,hlr,_⟩:=id hT8;have aeM:=S38 _ _ hB3;have aeN:=S38 _ _ Jk;have apart:∀x,H8 x=none->x≠dl->x≠J/\x≠ln/\x≠lr/\x≠b0/\x≠cb/\x≠dl:=λx hx nl=>⟨SM htp x hx,SM hln x hx,SM hlr x hx,SM aeM x hx,SM aeN x hx,nl⟩;have rV:NX K t.bD (Off H9 F8) J ln lr b0 cb dl [M,d1,d2] ns rs cl (λ_=>[]):=by
   refine⟨hT8.mono S89,⟨us,BS _ _ hB3,abv.mono λb x=>BS.dB⟩,⟨qs,BS _ _ Jk,abw.mono λb x=>BS.dB⟩,qp (nF dl aeL) e3,rfl,?_,λg d e=>?_,λd hd=>?_⟩
   ·simp[n01,n02,n12]
   ·match g,e with
    |0,e=>cases e;exact qp (nF _ h0) e0
    |1,e=>cases e;exact qp (nF _ zk) e1
    |2,e=>cases e;exact qp (nF _ h2') e2
    |g+3,e=>cases e
   ·rcases bf.mp hd with rfl|hd
    ·exact apart _ h0 n0l
    rcases bf.mp hd with rfl|hd
    ·exact apart _ zk n1l
    rcases bf.mp hd with rfl|hd
    ·exact apart _ h2' n2l
    ·cases hd
  have hS9:bP K (Off H9 F8) a (cs.map V.int):=BS.seq hS3;generalize [M,d1,d2]=zP at rV;generalize (rs.map λr=>k7 r.d.toNat true)=bs at lJ;obtain⟨I,eys,lys⟩:∃I:List Int,CA (cs.map V.int) (some 30) (some 48)=I.map V.int/\I.length<=18:=Us cs 30 48;refine⟨oH,λl0 LP=>?_⟩;have v1:=aG.new (o:=.lst [V.int 0]) LP;have w1:=au (H:=H9) (a:=l0) (o:=.lst [V.int 0]);generalize upd H9 l0 (.lst [V.int 0])=Ub at v1 w1;refine⟨_,rfl,_,rfl,_,rfl,a,_,rfl,(dH.trans v1).seq hS9,λlq hlq=>?_⟩;rw[eys];have v2:=aG.new (o:=.lst (I.map V.int)) hlq;have w2:=au (H:=Ub) (a:=lq) (o:=.lst (I.map V.int));generalize upd Ub lq (.lst (I.map V.int))=lC at v2 w2;refine⟨l0,lq,_,_,rfl,rfl,v2 _ _ w1,w2,kg (cS (by rw[ah];show 1+I.length<=1000;lia)),λlp hlp=>?_⟩;have e5:[V.int 0]++I.map V.int=((0:Int)::I).map V.int:=rfl;rw[e5];have v3:=aG.new (o:=.lst (((0:Int)::I).map V.int)) hlp;have w3:=au (H:=lC) (a:=lp) (o:=.lst (((0:Int)::I).map V.int));have nFp:¬F8 lp:=λz=>by
   obtain⟨o,h⟩:=(N9.mono (v1.trans v2)).there z;rw[hlp] at h;cases h
  have ndp:∀d∈zP,lp≠d:=λd hd z=>by
   obtain⟨i,hi⟩:=oi hd;exact aE ((v1.trans v2) _ _ (dH _ _ (rV.n6 i d hi))) hlp z.symm
  generalize upd lC lp (.lst (((0:Int)::I).map V.int))=V7 at v3 w3;have abz:=v1.trans (v2.trans v3);have N12:=N9.mono abz;have aic:=rV.mono (iF (F:=F8) abz);have aeP:Off V7 F8 lp=some (.lst (((0:Int)::I).map V.int)):=qp nFp w3;have lzs:((0:Int)::I).length<=19:=by show I.length+1<=19;lia
  generalize (0:Int)::I=zs at *;refine⟨lp,_,rfl,bP.of (dH _ _ aeP),SK (K:=K) (a:=lp) (xs:=zs.map V.int) (λj W H2=>∃(A:NS) (D:Addr->Prop) (tt:Nat->List T3) (v6 v8 v9 v10 v11 ja Zp NR NT NU:Option V),fG K (nc t) H2 D p J ns.length A/\NX K t.bD (Off H2 D) J ln lr b0 cb dl zP ns rs cl tt/\EK ns rs tok bs cl (2200*j) A/\A.cps=[]/\A.ls.length=j/\(A.ws=rs.map λr=>aA r.d.toNat)/\(∀g,(tt g).Perm (A.ts g)/\bX (tt g))/\Off H2 D lp=some (.lst (zs.map V.int))/\W=[some (.ref a),some (.int (ns.length:Nat)),some (.int g),some (.ref b0),some (.ref cb),some (.ref p),v6,some (.ref dl),v8,v9,v10,v11,ja,Zp,NR,NT,NU])
   ⟨s8,F8,_,_,_,_,_,_,_,_,_,_,_,N12,aic,lJ,cp8,ls8,ws8,λg=>⟨by rw[ts8],k8⟩,aeP,rfl⟩ (λj W H2 _ z=>?_) ?_ ?_⟩
  ·obtain⟨A,D,tt,v6,v8,v9,v10,v11,ja,Zp,NR,NT,NU,_,_,_,_,_,_,_,h5,_⟩:=z
   exact bP.of (dH _ _ h5)
  ·rintro j y W H2 p0 Nf Gd hj ⟨A,D,tt,v6,v8,v9,v10,v11,ja,Zp,NR,NT,NU,N2,nx2,PJ,cp2,ls2,ws2,htt,hq2,rfl⟩ hp0
   have hjl:j<zs.length:=by
    have:=(ai.mp hj).1
    rw[ah] at this;exact this
   rw[aj,aa hjl] at hj;cases hj;generalize zs[j]=cell;have w0:=aG.new (o:=.tup [V.int (j:Nat),V.int cell]) hp0;have hp1:=au (H:=H2) (a:=p0) (o:=.tup [V.int (j:Nat),V.int cell]);have N3:=N2.mono w0;have nx3:=nx2.mono (iF (F:=D) w0);have V2:=iF (F:=D) w0 _ _ hq2;generalize upd H2 p0 (.tup [V.int (j:Nat),V.int cell])=H3 at w0 hp1 N3 nx3 V2;refine⟨p0,_,rfl,cQ.of hp1,rfl,_,_,rfl,_,_,rfl,rfl,?_⟩;have hml:A.aO.length=cl.length:=by rw[PJ.hm,ah]
   obtain⟨x,ex,hx⟩:=LN cell (show 0<cl.length by lia);have Wa:A.groups.getD x 0=cl[x].2:=by rw[PJ.gr,az,aj,aa hx];rfl
   have g3:cl[x].2<3:=(abu _ (aQ hx)).2;obtain⟨nu,Jk,abA⟩:=id nx3.QN;have eqp:nu.length=cl.length:=by rw[abA.len,ah]
   have abB:(((nu.map V.ref).length:Nat):Int)=(cl.length:Int):=by rw[ah,eqp]
   have VS:=dH _ _ Jk;have at':∀{z:Nat} (hz:z<cl.length),FG (nu.map V.ref) (z:Int)=some (.ref (nu[z]'∅))/\cQ K H3 (nu[z]'∅) [.int cl[z].1,.int cl[z].2]:=λ{z} hz=>⟨eY (by rw[aj,aa];rfl),dH.dB (abA.at' z _ _ (aa _) (by rw[aj,aa hz];rfl))⟩;obtain⟨ax,qx⟩:=at' hx;refine bI λU C=>?_;refine⟨_,rfl,_,rfl,cb,_,rfl,.inl (bP.of VS),_,_,rfl,rfl,(by rw[abB];lia),?_⟩
   try dsimp only
   rw[abB,ex];refine C _ _ ?_;refine bI λU C=>?_;refine⟨_,rfl,_,rfl,cb,_,_,_,rfl,rfl,bP.of VS,ax,_,_,1,_,rfl,rfl,qx,rfl,C _ _ ?_⟩;refine bI λU C=>?_;refine⟨_,rfl,cb,_,rfl,.inl (bP.of VS),(((nu.map V.ref).length:Nat):Int),rfl,∅,by rw[ah];lia,λacc hacc=>?_⟩;rw[ah,eqp];refine ir (n:=((cl.length:Int)).toNat) (λi I _=>I=bR ((aA i).filter λz=>decide ((cl.getD z (0,0)).2=cl[x].2))) hacc Bx sj rfl ?_ ?_
   ·rintro i I H9 hi G hy rfl z Ub ⟨rfl,rfl⟩
    rw[gD];have hic:i<cl.length:=∅
    obtain⟨a1,q1⟩:=at' hic;refine⟨_,rfl,_,rfl,cb,_,_,_,rfl,rfl,bP.of (G _ _ VS),a1,_,_,1,_,rfl,rfl,G.dB q1,rfl,_,rfl,rfl,_,rfl,?_⟩;have ed:decide (V.int ((cl[i].2:Nat):Int)=V.int ((cl[x].2:Nat):Int))=decide ((cl.getD i (0,0)).2=cl[x].2):=by
     rw[az,aa hic,decide_eq_decide];exact⟨λz=>by have:=V.int.inj z;show cl[i].2=_;lia,λz=>by have z:cl[i].2=cl[x].2:=z;rw[z]⟩
    try dsimp only
    rw[ed];refine ko (λhcc=>?_) (λhcc=>?_)
    ·refine⟨_,rfl,?_⟩
     refine fQ hacc hi G hy ?_ ?_
     ·rw[ah]
      refine cS (aN (aX _ _) ?_);rw[bB];lia
     ·rw[oW,ee hcc,jI]
    ·refine jX hi G hy ?_
     rw[oW,er hcc,bY]
   rintro ys' H4 s4 hy rfl;rw[cy] at hy;refine C _ _ ?_;have hmem:∀z∈(aA cl.length).filter (λz=>decide ((cl.getD z (0,0)).2=cl[x].2)),∃hz:z<cl.length,cl[z].2=cl[x].2:=λz hz=>by
    obtain⟨z1,z2⟩:=bC.mp hz;have hz:=dm.mp z1;refine⟨hz,?_⟩
    have:=g9 z2
    rw[az,aa hz] at this;exact this
   have V9:x∈(aA cl.length).filter (λz=>decide ((cl.getD z (0,0)).2=cl[x].2)):=bC.mpr ⟨dm.mpr hx,fy (by rw[az,aa hx];rfl)⟩;generalize (aA cl.length).filter (λz=>decide ((cl.getD z (0,0)).2=cl[x].2))=ms at hy hmem V9;have aeQ:0<ms.length:=List.length_pos_of_mem V9;obtain⟨jj,ejj,hjj⟩:=LN (cell/6) aeQ;refine bI λU C=>?_;refine⟨_,rfl,_,rfl,_,_,rfl,rfl,⟨!_,!_⟩,_,rfl,acc,_,rfl,.inl (bP.of hy),_,_,rfl,rfl,(by show (0:Int)<(((bR ms).length:Nat):Int);rw[ah];lia),?_⟩
   try dsimp only
   rw[ah,ejj];refine⟨acc,_,_,_,rfl,rfl,bP.of hy,sA hjj,?_⟩;refine C _ _ ?_;obtain⟨hw,egw⟩:=hmem ms[jj] (aQ hjj);generalize ms[jj]=wr at hw egw;refine oX (λW H5=>H5=H4/\∃to:Option Nat,(∀y,to=some y->y<A.aO.length/\A.groups[y]?=A.groups[x]?)/\W=[some (.ref a),some (.int (ns.length:Nat)),some (.int g),some (.ref b0),some (.ref cb),some (.ref p),some (.int (cl[x].2:Nat)),some (.ref dl),some (.int (j:Nat)),some (.int cell),some (.int (x:Nat)),some (.ref acc),some (iE (to.map λk:Nat=>(k:Int))),Zp,NR,NT,NU]) ?_ (λN' hN=>?_)
   rotate_left
   ·refine⟨_,rfl,_,_,rfl,rfl,⟨!_,!_⟩,_,_,rfl,rfl,(by show (0:Int)<3;decide),rfl,_,rfl,ko (λe=>?_) (λe=>?_)⟩
    ·exact hN _ _ ⟨rfl,none,λy z=>(by cases z),rfl⟩
    ·refine hN _ _ ⟨rfl,some wr,λy z=>?_,rfl⟩
     cases z;refine⟨∅,?_⟩;rw[PJ.gr,aj,aj,aa hw,aa hx];exact g7 some egw
   rintro W H4' ⟨e4,to,hto,rfl⟩;rw[e4];have N4:=N3.mono s4;have nx4:=nx3.mono (iF (F:=D) s4);have V4:=iF (F:=D) s4 _ _ V2;have W4:NW K (nc t) t.bD H4 D p J ln lr ns rs A:=nx4.vP.nw N4 λb z=>z;obtain⟨loc,dxx,q,hp,O,hF,hT⟩:=id N4;have Y:=O.get .fC _ rfl;rw[hp] at Y;obtain⟨dg,hdg⟩:∃dg,zP[cl[x].2]?=some dg:=⟨_,aa (by rw[nx4.d3];exact g3)⟩;refine bI λU C=>?_;refine⟨_,rfl,_,rfl,p,_,_,rfl,Y,rfl,_,rfl,D,p,J,ln,lr,ns,rs,A,tok,cl[x].2,rfl,W4,PJ.ok,g3,λlo os H5 s5 Vt hlo hO h12=>?_⟩;have N5:=N4.mono s5;have su:=nx4.mono (iF (F:=D) s5);have XW:=iF (F:=D) s5 _ _ V4;obtain⟨IA,aeR,aeS⟩:=id su.QN;have Yj:FG (zP.map V.ref) ((cl[x].2:Nat):Int)=some (.ref dg):=eY (by rw[aj,hdg];rfl);have Yk:=su.n6 _ _ hdg;refine⟨_,rfl,_,rfl,dl,_,_,_,rfl,rfl,bP.of (dH _ _ su.RI),Yj,_,rfl,_,rfl,_,rfl,b0,lo,dg,cb,ns,rs,tok,os,IA,bs,cl,2200*j,A,x,to,tt cl[x].2,rfl,(su.mono dH).rps,hlo,dH _ _ Yk,dH _ _ aeR,aeS.mono (λb x z=>dH.dB z),(by rw[Wa];exact hO),h12,l14,hx,PJ,∅,cp2,ws2,hto,(by rw[Wa];exact (htt _).1),(htt _).2,λly qS H6 S n sk l sm aeT hly htS hd6 LH pz cpk hlk perm=>C _ _ ?_⟩;have ndg:=(pU Yk).1;have N6:=N5.keep (λb v e fb=>sm b v e λw=>ndg (w▸fb)) (λb x=>cQ.past (dH _ _ Yk) Mq λc o e n=>sm c o e n);have smO:∀b o,Off H5 D b=some o->b≠dg->Off H6 D b=some o:=λb o e n=>qp (pU e).1 (sm b o (pU e).2 n);have nx6:=su.put hdg smO (qp ndg hd6);have hq6:=smO _ _ XW (ndp dg (aM hdg));have nly:¬D ly:=λz=>by
    obtain⟨v,e⟩:=N5.there z;rw[aeT] at e;cases e
   have aeU:Off H6 D ly=some (.lst (qS.map V.ref)):=qp nly hly;have aeV:dF K (Off H6 D) qS (l.aD.map dN.vs):=htS.mono λb x=>N6.agO;have W6:NW K (nc t) t.bD H6 D p J ln lr ns rs A:=nx6.vP.nw N6 λb z=>z;obtain⟨loc,dxx,q,hp,O,hF,hT⟩:=id N6;have Y:=O.get .fC _ rfl;rw[hp] at Y;refine bI λU C=>?_;refine⟨_,rfl,p,_,_,rfl,Y,rfl,_,rfl,_,rfl,D,p,J,ln,lr,ns,rs,A,tok,x,to,2200*j,rfl,W6,PJ.ok,PJ.bd,∅,∅,hto,λo2 F7 H7 Qc aik W7 Ow=>?_⟩;have eo:o2=os:=by
    have h:=Qc;rw[Wa] at h;exact h.uniq hO
   subst eo;refine⟨_,rfl,rfl,_,rfl,?_⟩;rw[ls2,fy rfl];refine eZ (C _ _ ?_);obtain⟨l7,S1,j7,_,ll7⟩:=J5.post (s:=A) (x:=x) (to:=to) (Fo.of Qc) PJ.bd rfl ∅ cp2;have mu:=PJ.post (to:=to) ∅ Qc aik;have fr:=LK (rs:=rs) (h:=A.aO.getD x 0) (aU:=none) (os:=o2) (s:=gj A x to) (i:=A.ls.length) (l:={cF A x to with aD:=[.post (A.aO.getD x 0)]}) iA;have eW:(c5 rs A x to o2).ws=A.ws:=fr.ws;have eR:(c5 rs A x to o2).R=A.R:=fr.R;have V8:eU (kJ ns rs tok (c5 rs A x to o2).ws (A.groups.getD x 0)) ((c5 rs A x to o2).R (A.groups.getD x 0)) o2:=by rw[eW,eR];exact Qc
   obtain⟨lk,aeW,cnt⟩:=pz.cnt V8 j7 cp2;rw[hlk] at aeW;cases aeW;rw[cpk] at cnt;have cnt:(l.aD.filter EL).length=n:=cnt;rw[ls2] at S1 j7 ll7 hlk;have S7:=zj Ow;have nx7:=nx6.mono S7;have hq7:=S7 _ _ hq6;have Yl:=S7 _ _ aeU;have Ym:dF K (Off H7 F7) qS (l.aD.map dN.vs):=aeV.mono λb x=>S7.dB;have ail:(c5 rs A x to o2).ws=rs.map λr=>aA r.d.toNat:=eW.trans ws2;have x6:qS.length=l.aD.length:=by rw[Ym.len,ah]
   have aim:(c5 rs A x to o2).ts=A.ts:=Yi;generalize c5 rs A x to o2=s0 at *;refine bI λU C=>?_;refine⟨_,rfl,ly,rfl,⟨_,bP.of (dH _ _ Yl)⟩,vO (K:=K) (a:=ly) (xs:=qS.map V.ref) (λi W H9=>∃(m:Nat) (G:NS) (F9:Addr->Prop) (NR:Option V),Pz ns rs tok m s0 G/\m=((l.aD.take i).filter EL).length/\NW K (nc t) t.bD H9 F9 p J ln lr ns rs G/\aG (Off H7 F7) (Off H9 F9)/\W=[some (.ref a),some (.int (ns.length:Nat)),some (.int g),some (.ref b0),some (.ref cb),some (.ref p),some (.int (cl[x].2:Nat)),some (.ref dl),some (.int (j:Nat)),some (.int cell),some (.int (x:Nat)),some (.ref acc),some (iE (to.map λk:Nat=>(k:Int))),some (.ref ly),NR,NT,NU]) ⟨0,s0,F7,_,.refl,rfl,W7,aG.refl _,rfl⟩ (λi W H9 _ z=>by obtain⟨m,G,F9,NR,_,_,_,z,_⟩:=z;exact bP.of (dH _ _ (z _ _ Yl))) ?_ ?_⟩
   ·rintro i y W H9 Ny Rc hi ⟨m,G,F9,NR,SN,em,W9,S9,rfl⟩
    have hil:i<qS.length:=by
     have:=(ai.mp hi).1
     rw[ah] at this;exact this
    have hid:i<l.aD.length:=∅
    rw[aj,aa hil] at hi;cases hi;have hq:=(S9.trans dH).dB (Ym.at' i qS[i] (l.aD[i]).vs (aa hil) (by rw[aj,aa hid];rfl));have xP:=R7 (f:=EL) hid;have hle:((l.aD.take (i+1)).filter EL).length<=n:=by
     rw[<- cnt];exact ((List.take_sublist _ _).filter _).length_le
    generalize l.aD[i]=dd at hq xP;generalize qS[i]=qd at hq;refine⟨_,rfl,qd,_,0,_,rfl,rfl,hq,(by rw[LM];exact Dz dd),rfl,_,rfl,?_⟩;rw[aeG];cases e:EL dd with
    |false=>exact eZ (Rc _ _ ⟨m,G,F9,_,SN,by rw[xP,e,er (!_),bY];exact em,W9,S9,rfl⟩)
    |true =>
     have em1:((l.aD.take (i+1)).filter EL).length=m+1:=by rw[xP,e,ee rfl,av,em];rfl
     refine gB ?_;obtain⟨ak,pza,nea⟩:=pz.pre (show m<n by lia);have ek:=pza.eqv mu SN;have aeX:0<G.cps.length:=by
      rw[<- ek.cps];exact List.length_pos_iff.mpr nea
     obtain⟨E9,_,j9⟩:=SN.j5 V8 j7;have Z:=SN.sd mu;have ln9:=SN.len V8 j7;have hc0:G.cps[0]?=some G.cps[0]:=aa aeX;have hcl:=(Z.bd.cl _ (aQ aeX)).1;generalize G.cps[0]=cp at hc0 hcl;obtain⟨lx,hli⟩:∃lx,G.ls[cp.l]?=some lx:=⟨_,aa hcl⟩;obtain⟨ei,_,_,hfs⟩:=j9.comes hc0 hli;obtain⟨l9,k1,_,k3,_⟩:=j9.lt;obtain⟨f1,f2,_⟩:=SN.same;obtain⟨loc,dxx,q,hp,O,hF,hT⟩:=id W9.fC;have Y:=O.get .fC _ rfl;rw[hp] at Y;refine⟨_,rfl,p,_,_,rfl,Y,rfl,F9,p,J,ln,lr,ns,rs,G,tok,0,2200*j+100+100*m,cp,_,rfl,W9,Z.ok,Z.bd,(by have V0:=tok.V0;lia),hc0,hli,λo9 t9 F10 Ub hO9 ain pt9 oe9 W10 aio=>?_⟩;have eg9:lx.grp=A.groups.getD x 0:=by
      have h:=hli;rw[ei,k1] at h;rw[<- aK h];exact k3
     have eo9:o9=o2:=by
      have h:=hO9;rw[eg9,f1,f2] at h;exact h.uniq V8
     rw[eo9,hfs];refine⟨rfl,_,rfl,?_⟩;rw[fy rfl];exact eZ (Rc _ _ ⟨m+1,_,F10,_,.step SN hc0 hli hO9 ain pt9 oe9,em1.symm,W10,S9.trans (zj aio),rfl⟩)
   rintro W H9 ⟨m,G,F9,aev,SN,em,W9,S9,rfl⟩;rw[ah,x6,iX,cnt] at em;subst em;refine C _ _ ?_;have ek:=pz.eqv mu SN;have hl9:G.ls[j]?=some l:=by rw[<- ek.ls];exact hlk
   have cp9:G.cps=[]:=by rw[<- ek.cps];exact cpk
   have Z:=SN.sd mu;have ln9:=SN.len V8 j7;obtain⟨f1,f2,f3,f4,f5⟩:=SN.same;have rV:=nx7.mono S9;have hq9:=S9 _ _ hq7;have aeY:=S9 _ _ Yl;have aeZ:dF K (Off H9 F9) qS (l.aD.map dN.vs):=Ym.mono λb x=>S9.dB;have hdl:l.aD.length<=100000:=by
    have:=(Z.bd.lb l (aM hl9)).1
    have:=tok.V0
    lia
   obtain⟨loc,dxx,q,hp,O,hF,hT⟩:=id W9.fC;have Y:=O.get .fC _ rfl;rw[hp] at Y;refine bI λU C=>?_;refine⟨_,rfl,p,_,_,rfl,Y,rfl,_,rfl,F9,p,J,ns.length,j,G,l,rfl,W9.fC,hl9,λao qo Ub VY aip hao hqo=>C _ _ ?_⟩;refine bI λU C=>?_;refine⟨_,rfl,ao,qo,l.aD,rfl,bP.of hao,hqo,λlC HX=>⟨_,rfl,eZ ?_⟩⟩;have SO:=VY.trans HX;have rS:Rep K lC (.list (l.aD.map dD)) (.ref ao):=⟨ao,_,rfl,bP.of (HX _ _ hao),EJ (hqo.mono λb x=>HX.dB)⟩;have rO:Rep K lC (.list (l.aD.map dD)) (.ref ly):=⟨ly,_,rfl,bP.of (SO _ _ (dH _ _ aeY)),EJ (aeZ.mono λb x z=>(dH.trans SO).dB z)⟩;have dh:(PyData.list (l.aD.map dD)).depth<=64:=by
    show PyData.depthAll _+1<=64
    have:=Im l.aD
    lia
   refine⟨_,rfl,_,rfl,_,_,rS,rO,AU _,AU _,cK (fz (aN (mE _ _) dh) _) L.units,_,rfl,?_⟩;rw[SeqAt.eqv_refl (.list (l.aD.map dD)) (AU _)];refine eZ ?_;refine⟨_,rfl,p,_,_,rfl,SO _ _ Y,rfl,F9,p,J,ns.length,G,rfl,W9.fC.mono SO,λlf qf V7 s12 air hlf hqf=>?_⟩;refine⟨bN _,λb hb=>?_⟩;have ZD:=aG.new (o:=.lst []) hb;have abD:=au (H:=V7) (a:=b) (o:=.lst []);generalize upd V7 b (.lst [])=YC at ZD abD;have eqf:qf=[]:=iw.mp (by have:=hqf.len;rw[cp9] at this;exact this);rw[eqf] at hlf;refine⟨.list [],.list [],⟨lf,[],rfl,bP.of (ZD _ _ hlf),rfl⟩,⟨b,[],rfl,bP.of abD,rfl⟩,rfl,rfl,cK (fz (aN (mE _ _) (!_)) _) L.units,_,rfl,?_⟩;refine eZ (C _ _ ?_);have VT:=SO.trans (s12.trans ZD);have N13:=W9.fC.mono VT;have ae0:=rV.mono (iF (F:=F9) VT);have aiu:=iF (F:=F9) VT _ _ hq9
   replace Y:=VT _ _ Y
   have h2k:(G.ts cl[x].2).length<2000:=by
    have:=(Z.bd.tb cl[x].2).1
    have:=tok.V0
    lia
   refine bI λU C=>?_;refine⟨_,rfl,p,_,_,rfl,Y,rfl,_,rfl,F9,p,J,ns.length,cl[x].2,G,rfl,N13,g3,h2k,λl5 IA us5 k9 s14 aiv vc hT5 hP5 hS5=>C _ _ ?_⟩;have N14:=N13.mono s14;have ae1:=ae0.mono (iF (F:=F9) s14);have Zs:=dH _ _ ae1.RI;have VU:=dH _ _ (ae1.n6 _ _ hdg);rw[bS] at VU;have Yj:FG (zP.map V.ref) ((cl[x].2:Nat):Int)=some (.ref dg):=eY (by rw[aj,hdg];rfl);rw[Wa] at perm;have pk:S.Perm (G.ts cl[x].2):=perm.trans (ek.ts _);have tl:S.length<2000:=by rw[pk.length_eq];exact h2k
   refine bI λU C=>?_;refine⟨_,rfl,_,rfl,_,rfl,dl,_,_,_,rfl,rfl,bP.of Zs,Yj,dg,S.map fk,rfl,VU,λlk qk aiw eqk hkk=>?_⟩;have NT:=aG.new (o:=.lst (qk.map V.ref)) aiw;have Zt:=au (H:=k9) (a:=lk) (o:=.lst (qk.map V.ref));generalize upd k9 lk (.lst (qk.map V.ref))=X7 at NT Zt;rw[ah] at eqk;have Yn:bP K X7 lk (qk.map V.ref):=bP.of Zt;refine⟨lk,rfl,⟨_,Yn⟩,λaix Zu=>?_⟩;refine ir (n:=(qk.map V.ref).length) (λi I Zb=>∃qs:List Addr,I=qs.map V.ref/\fT K Zb qs (S.take i)) Zu (DL Yn) (vM Yn) ⟨[],rfl,fT.nil⟩ ?_ ?_
   ·rintro i I Zb hi X hy ⟨qs,rfl,vH⟩ z Zc ⟨rfl,hz⟩
    have hz:=hz _ (X.seq Yn);have hi':i<qk.length:=by rw[ah] at hi;exact hi
    have hit:i<S.length:=∅
    rw[aj,aa hi'] at hz;cases hz;obtain⟨⟨u1,u2,u3⟩,hu⟩:∃u,S[i]?=some u:=⟨_,aa hit⟩;have hkey:k9 qk[i]=some (.tup [V.int u1,V.int u2]):=hkk i qk[i] [.inl u1,.inl u2] (.int u3) (aa hi') (by rw[aj,hu];rfl);have abF:=X _ _ (NT _ _ hkey);have kn:jK S u1 u2=some u3:=(mz LH).mpr (aM hu);refine⟨qk[i],_,rfl,cQ.of abF,rfl,_,_,rfl,_,_,rfl,rfl,?_⟩;refine⟨_,rfl,_,rfl,_,rfl,_,rfl,dl,_,_,_,rfl,rfl,bP.of (X _ _ (NT _ _ Zs)),Yj,_,rfl,_,rfl,g8,λb5 hb5=>?_⟩;have w5:=aG.new (o:=.tup [V.int u1,V.int u2]) hb5;have Yg:=au (H:=Zc) (a:=b5) (o:=.tup [V.int u1,V.int u2]);have g5:=AW.t (k:=keyOf u1 u2) (w5 _ _ (X _ _ (NT _ _ VU))) Yg;rw[sq,kn] at g5;refine⟨dg,_,rfl,g5,ia,λb6 hb6=>?_⟩;have w6:=aG.new (o:=.tup [V.int u1,V.int u2,V.int u3]) hb6;have s7:=w5.trans w6;have hy7:=s7 _ _ hy;have hl:qs.length=i:=by rw[vH.1,bQ];lia
    refine fQ Zu hi (X.trans s7) hy7 (by rw[ah];exact KW ∅) ⟨qs++[b6],-_,?_⟩;rw[uI,hu];exact fT.past hy7 sr cN (fT.snoc (t:=(u1,u2,u3)) (vH.mono s7) (cQ.of au))
   rintro I Zb X hy ⟨qs,rfl,vH⟩;rw[ah,eqk,iX] at vH;refine⟨aix,qs,S,rfl,bP.of hy,vH,tl,λO3 A3 us aiy hpu hsu htu=>?_⟩;have YN:=aG.new (o:=.lst (A3.map V.ref)) aiy;have Zv:=au (H:=Zb) (a:=O3) (o:=.lst (A3.map V.ref));have htu:=htu.mono YN;generalize upd Zb O3 (.lst (A3.map V.ref))=Zc at YN Zv htu;have eu:us=us5:=KL (hpu.trans (pk.trans hP5.symm)) hsu hS5;subst eu;have Ri:=NT.trans (X.trans YN);have r5:Rep K Zc (.list (us.map Yc)) (.ref l5):=⟨l5,_,rfl,bP.of (Ri _ _ vc),Io (hT5.mono Ri)⟩;have r17:Rep K Zc (.list (us.map Yc)) (.ref O3):=⟨O3,_,rfl,bP.of Zv,Io htu⟩;have dh5:(PyData.list (us.map Yc)).depth<=64:=by
    show PyData.depthAll _+1<=64
    have:=Kc us
    lia
   refine⟨_,_,r5,r17,DA _,DA _,cK (fz (aN (mE _ _) dh5) _) L.units,_,rfl,?_⟩;rw[SeqAt.eqv_refl (.list (us.map Yc)) (DA _)];refine eZ (C _ _ ?_);have Zw:=Ri _ _ vc;have q5l:IA.length<=2000:=by rw[hT5.1,hP5.length_eq];lia
   refine⟨_,rfl,.inl ⟨rfl,_,bP.of Zw⟩,ia,λz9 hz9=>?_⟩;refine⟨l5,_,_,rfl,rfl,aG.new hz9 _ _ Zw,mj (by rw[ah];lia),Gd _ _ ?_⟩;have VV:aG YC (upd (upd Zc z9 (.tup [V.int 0,V.int 0,V.int 0])) l5 (.lst (IA.map V.ref++[.ref z9]))):=λb o e=>by
    rw[aH (aE e aiv)];exact aG.new hz9 _ _ (Ri _ _ (s14 _ _ e))
   refine⟨G,F9,fD tt cl[x].2 S,_,_,_,_,_,_,_,_,_,_,N13.mono VV,ae0.mono (iF VV),Z.mono (by have:=tok.V0;lia),cp9,∅,f1.trans ail,λg2=>?_,iF VV _ _ aiu,rfl⟩;by_cases e:g2=cl[x].2
   ·subst e
    rw[bS];exact⟨pk,LH⟩
   ·rw[cZ e,SN.aeE V8 j7 (by rw[Wa];exact e),aim]
    exact htt g2
  ·rintro W H2 ⟨A,D,tt,v6,v8,v9,v10,v11,ja,Zp,NR,NT,NU,_,_,_,_,_,_,_,_,rfl⟩
   exact k _
end
theorem walk{l:PySem.W.OpenLaw}{q:Program}{b:List Str}{XP:(Str->Option Value)->Heap->Prop}{o:World->Heap->Prop}{d:DefRec}{K:Params->af}(A:l.most=some 63)(m:d.params.defaults=[])(j:d.name = "law")
 (C:∀(w:World) (h:Heap),o w h->(K w.params).In h)
 (F:∀(w:World) (i:Str->Option Value) (h:Heap),(K w.params).In h->h.Ns mainGlobals i->∃t,Txt (K w.params) i t) :
 PySem.W.WalkO q b XP o l.row.toRowW d [] (λf vs=>PySem.call f vs) :=
 L2.Wv (n:=63) (k:=9) (x:="_law_script") (CX:=λ_=>iM) (sp:=λw=>VQ (K w.params)) A (!_) m ⟨rfl,!_,!_⟩ C
  (λw i D h r G c=>by
   obtain⟨t,T⟩:=F w i h r G;rw[j] at c;have e:=c.symm.trans T.U4.g;cases e;refine⟨t.MJ,λs v=>?_,λp _ _=>abt T⟩;obtain⟨_,_,_,_,_,_,_,_,_,e,_⟩:=T.U4.F.ex;rw[e];exact .of_eq rfl)
  (λ_ _ a y u _ B=>⟨a,y,rfl,B,u,λ_=>rfl⟩) λ_ _ _ _ _ z=>z
end fc
end
structure PySem.W.Fast:Prop where(tw17518586101745748679 tw16399748660581715672 tw7305193116296118019 tw7059934078789754841 tw8542996592945047470 tw4007050016831424831 tw176051982337130849 tw2801311183804458101 tw4991410789551307902 tw12626662771510615221 tw916844516324907175 tw8187414829849792197 tw11206280067498529722 tw2053273008310192430 tw13147963105587804439 tw7632246113021258769 tw6144756724099719166 tw7743088356302188642 tw17977655668989195454 tw470059115301218618 tw685956288728720929 tw7478112132433114022 tw4741485943592694168 tw9731264740111511221 tw17580923672832016043 tw8024571796940090961 tw9617972811960416679 tw14659631901662669807 tw17500610564364409832 tw2149429380273483465 tw2741389363641031568 tw11498967892477885187 tw9054318782878139259 tw8891707775518877777 tw14700457562929709464 tw12602410402891089187 tw7421977925844768264 tw18379237250557569939 tw8189427654513566256 tw4756989906888304913 tw3959010128171024254 tw7790307088632860463 tw3433569608892494129 tw7089313699604099358 tw11875184351720284825 tw2657965364053700908 tw5740965358701123824 tw9571153860468952220 tw6239240369417640600 tw14454803402865229850 tw10235258120565689612 tw16771900325302541710 tw12677926200211712494 tw8883258060677717218 tw17532814865021154514 tw12714267874531742855 tw12905097882531373377 tw1586442722794569938 tw9112900387944732076 tw579044769981819806 tw6721011183688942313 tw12257643471185870665 tw11730953326137682165 tw3781550463122460414 tw9782894649083529600 tw2885969540538117646 tw14752864976867228769 tw18214799314648785725 tw5700354506581298620 tw10305937437071099156 tw8871881255688903376 tw5663003299895230309 tw16849370031940153590 tw4329232678328550364 tw12788400086499959973 tw1298906432482915603 tw12586937460602038428 tw8421308050525758734 tw12448870048368988969 tw12940133635369027870 tw1329745783203502885 tw7095076150363448696 tw10995675549881889117 tw16814540425355960730 tw11765957250575972932 tw10421067657857831300 tw10640097372360204220 tw17385500303944660452 tw1860770917188838079 tw3318397554556487625 tw15820955929003338588 tw10838957383668296654 tw7270627581772875456 tw13789544760425776491 tw16717474596765839611 tw16852818341194501884 tw10806658940657553803 tw2837540774458481059 tw15320420273530205491 tw7948255130026385173 tw15401564991142396913 tw15580490829263096028 tw15156850093270142840 tw1355961604486848915 tw10355763456219820664 tw13265125350879649576 tw12379815681550915831 tw11967274970281795451 tw11336658698064565900 tw609136538428315087 tw5931661235493400206 tw5019435287832896471 tw4120432123373107128 tw15609707326076736324 tw7575514489879300952 tw5280246202220410907 tw4909106185184245792 tw10728023932297405831 tw12475059234823870446 tw16654277689135630472 tw2559849694062389051 tw1662449592613760894 tw7179389289218101023 tw10791907048663914764 tw3163574830920770260 tw18001263110971917770 tw14832271661138253612 tw3693940516676938158 tw17082694866540839173 tw9251055162934889943 tw7847014008687757649 tw4459574056067362603 tw12329299755584398930 tw9962803264442409600 tw11684420857182839519 tw2625953187186914041 tw6544548146303443344 tw5006288114208205248 tw16765888094716723632 tw17952469231635545498 tw14690309465379387594 tw13777556972214347632 tw4950117485940917949 tw12302496741816894224 tw17915040919788998375 tw4053768321000429914 tw17105122165615093004 tw1134433244672257129 tw9628531473874777380 tw5906758693827540846 tw5454183787069723824 tw9108695278529345297 tw269200290714391208 tw4246785921598129791 tw14515121472359747301 tw13594410871831143299 tw742971881895525322 tw16444107208038599722 tw970890534702168872 tw5804158590964094753 tw17325696308401533080 tw6082214005535978835 tw5082408952154960153 tw17262332457996467758 tw17257613323014281567 tw11787547120508147151 tw15233028025131129910 tw2791699231700626849 tw11514188446498380654 tw12793841624874441777 tw12769229787283661998 tw14126884667027573181 tw4730341317917744303 tw5467194026349758484 tw17083097016905214534 tw10166929324683073621 tw5400149820633191472 tw4015210242230570384 tw11907926952676119307 tw10056570104853063754 tw6273271925565636182 tw8422255813108571015 tw13614924505015403779 tw18345655443433494362 tw2858233925045133953 tw8049776460398813503 tw13621939188266201937 tw10702620828702505818 tw7607448543696391797 tw6062722584432634120 tw2998397156243636370 tw8110171725092871809 tw2845206672371265033 tw667601263634909036 tw4787591922147158889 tw12661790841950183174 tw13068859741679642831 tw9199475122831074620 tw10035059849550784319 tw7460403457777304261 tw224427827894441780 tw13333000103574489300 tw7015464094919750517 tw12243450637877718723 tw6704944538572728878 tw14229819999186528193 tw5399227287042734535 tw3155492179855759802 tw8968099557113940221 tw18294390048944164827 tw12978583586596666771 tw9543704866899159810 tw14381428375648446109 tw1804414866218371314 tw11252987599318199669 tw17927254974907560304 tw11517992362153735631 tw7635898613300985458 tw747131315357442141 tw11046245469990954399 tw4579928945235431520 tw9720783251122145297 tw2984393029853266733 tw12921317320186231457 tw15706052467513744763 tw5600377663395234875 tw8073490801125791726 tw1483641089570487918 tw3091325299044608719 tw5840176593017969596 tw18128021101042821126 tw15665067620616473259 tw5163938711530245341 tw1214046311230357129 tw10929163200810993816 tw14244138148313283311 tw16149216942338930596 tw15502830185131524460 tw2772837652079812121 tw15246483839790760345 tw9736176797643239404 tw11949130428591855392 tw11296560242959119849 tw7847965116814768698 tw6678759941005030481 tw3299321031476775576 tw3156143481245198530 tw16789628400674050271 tw15216617041771861518 tw943261836706218169 tw11377197310191747001 tw7640075511738916982 tw3376296306062305430 tw16604628211257977621 tw4773470620369586656 tw8271256740544475729 tw2584463281815525395 tw10584128038205928787 tw16192538912147373846 tw17886750601178640566 tw12846781770545821140 tw2218849660352670863 tw6744733963861752469 tw432948984820305535 tw18214258322755033489 tw12730291880983803534 tw2219891607623753531 tw14551002063739417188 tw11316809974205084320 tw10413052988875596431 tw13640288969759945320 tw8041884593938781981 tw13400227140632038213 tw4292150423974583862 tw4495856490036926305 tw17464312402075242387 tw15276719491688428133 tw3669525564664652880 tw7080101003091180723 tw13318565527147250565 tw7890925698768859200 tw2039442899879570420 tw11608127723642033829 tw1921738017804473312 tw2155400498035325242 tw8588372156038946342 tw3331814497220521253 tw4755214135934100426 tw9963694476520525977 tw5298767242369753975 tw16932515442487123877 tw14614635352431948998 tw12650477785855631984 tw15709962400912062833 tw5920552561878482531 tw17981578633000099256 tw3627530078142529254 tw9023532473224276266 tw14896130224359366371 tw8135711117634044474 tw16173532992334687369 tw15207651770934394919 tw3287027865576588747 tw2948512829582512262 tw17782391834927933475 tw17854967197306516705 tw4814037861307963494 tw3037807289985288654 tw12909990844491073668 tw4967972690447920931 tw18020935844448101144 tw6265261180502411393 tw15588333436432863520 tw11228884904412040071 tw5800406803687472539 tw18326551045379274433 tw10157834639759099901 tw7503382190899622856 tw11962191292697034682 tw16024117168860207629 tw8805690056996239816 tw8297421511687450244 tw14360548707425775418 tw12875954484358032804 tw12167980331554523774 tw9005451974204168581 tw7219825015136879917 tw4427294868804061231 tw18102653340566445472 tw16359987369055562335 tw520416157724518884 tw18142042428694404546 tw11410770672441006247 tw10415330376198570336 tw5761769911978395314 tw6636351530238189333 tw10384854321154887920 tw9139057716963877973 tw9127753235368263667 tw7666077069085775305 tw719229595665968598 tw6819466514344638099 tw6639030627484819458 tw5487870627413540312 tw5300800135991953994 tw5201533138808226645 tw4804214798476386691 tw4442268445247227069 tw18078338928449384221 tw17313871224737745048 tw17271779236451752043 tw16863719040176546370 tw16786428675375389997 tw1655336084503715137 tw15864603191749430328 tw1565312714606596523 tw15459049943825934446 tw15296301057560940352 tw14234577689689849713 tw13386759657751153459 tw13193613607155893476 tw12049891314294346807 tw11740590276473853911 tw10654931920907212398 tw10648804910413775908 tw7066009378102692220 tw5955928080433891148 tw10119123115547462905 tw978074640610755986 tw6548884625019967572 tw6435852228751240818 tw4601655930164497274 tw2859836781636824593 tw17654019629936612316 tw12551920769355314116 tw995182870864770075 tw5889164039933359766 tw4180274675436053653 tw16958371364329339585 tw14015018237708473272 tw3827983602984515602 tw17747479642481315669 tw7828693520352152795 tw7341916706936826995 tw5306480401123819471 tw4751923491736750638 tw18297819380908467014 tw1627296241687101872 tw15755813980678895379 tw14442964569892897100 tw12120215248060339236 tw5874852531777113135 tw13150216991293086201 tw9636429889950759891 tw8089060775066354321 tw7988467643491823813 tw5849743759614751847 tw2954694443048390012 tw2169916140012937840 tw1861047478779815654 tw1714633676122799318 tw16157465338053608535 tw13347140089403346540 tw12051430984591751645 tw1120011602341813857 tw10067397567837357163 tw8391009030228918857 tw8137869545396028627 tw15190549227706912235 tw10993481062354211181 tw10648250240542256289 tw9429217035250945385 tw8769718398024419413 tw8616249872414374610 tw7113732869934952851 tw4974883890310948683 tw4406796947539090850 tw392964912738594186 tw3605005959693061594 tw3018295512201679876 tw2746803035518306298 tw18156155798311607770 tw16656463041743526728 tw16468723554980500551 tw16241321681367412809 tw16173968725303523713 tw14330416214385364033 tw13245029575092299360 tw13215835185255605398 tw13112342601921544669 tw11589765996265143004 tw1158354666862538433 tw4820148270750538792 tw11326610933019401603 tw7926283831534865390 tw994149761990311565 tw6757562821520253 tw17358508973859442893 tw8830378890448895236 tw15077841720035491415 tw14060372270910515286 tw14952772384111761115 tw17711453212722037981 tw5847058751448722609 tw16297011808225322781 tw597374408867804193 tw1023005677129173996 tw13132554277515755433 tw1394958266268499004 tw1328929271362412384 tw12231973328833010340 tw14977676714925660111 tw13863986022053289295 tw4648199941364411116 tw375306699720586522 tw12633198425940161970 tw11618562557731104543 tw14689763580599299032 tw202456852185427312 tw14912414021094003248 tw426997412083920404 tw5431790117603102021 tw12439720511212654834 tw14482624185897629722 tw1778448976476006836 tw8997010899615515537 tw14034341235181497121 tw14731967563794333648 tw14492313806202564637 tw6657001067057380047 tw11138387958594100086 tw537175226957275294 tw6882822320918015500 tw13279695358160874780 tw18000566678285182694 tw9305743592767127441 tw6076461689609939166 tw12799519412537044116 tw16067934216766839747 tw8287467961080087458 tw746964854664125511 tw14446151525682217119 tw14989168530436427701 tw2959412451989162086 tw1951239704900146429 tw3272190074527919178 tw16865463060804769294 tw9525176200725630543 tw12722795283063604668 tw10049562767883213635 tw2526856854167236995 tw3623347006202556436 tw16868143213246737097 tw2035014314671800894 tw13251041912808544587 tw15675146100909684134 tw2616908151749015898 tw10218203736547108005 tw11093056987010839886 tw12759845182753986098 tw11694159308860990249 tw13730745917931800300 tw14573946153093967100 tw15957156513898762201 tw15518958998760044520 tw17401267858390447194 tw12923287196941482906 tw9841544101699847349 tw2397917759805773955 tw17500064821491011856 tw6097492449541535887 tw13172947500773579790 tw14671500987789567603 tw4869163168657347138 tw15505574755017327833 tw2124885247542042140 tw2507614528659784446 tw15603573569447543841 tw4043834972093855513 tw13891067196496424334 tw6915503667291832877 tw14820377012605972018 tw15912147679996092042 tw8562435442122161296 tw6801787678775217395 tw3714939264377833282 tw3663970459216959162 tw14508995222019835643 tw10792871082249403641 tw14243501294984915959 tw4360973588392331640 tw17183238452678346032 tw7659898126432938556 tw12428205786102474008 tw15753075289627019167 tw5199777816833158023 tw17202289636366487891 tw17242705700724006115 tw955036302296197725 tw17297121637923778106 tw11299081722005466403 tw14970438716653852880 tw13748018277354040498 tw187793883285520516 tw5905641821982148196 tw3031629200941596683 tw5370975454908041911 tw8044391677448386587 tw12705060040789392661 tw1475111856076250353 tw5641543968923640688 tw12974541446458222085 tw13227850750005979253 tw2779122876879666487 tw1740257904059142387 tw10331628310835812156 tw14582510079417616028 tw665242674119887949 tw10239858132283438540 tw12130965916582184214 tw18189610486409725495 tw13550980196735938095 tw16772779614900388686 tw812214975004644037 tw15708539581811923678 tw18368917188413803075 tw8972043854729544074 tw9061927453824031194 tw8228778392134653556 tw6591775095725555020 tw8774192125836828913 tw15018784943622754729 tw8854240268064607240 tw1420025754959385508 tw17225390895009955712 tw3186750130133555958 tw17524902947400300215 tw3367221950142590222 tw4859829864005918315 tw2276582595640501177 tw8205593177859729166 tw15653374412847659297 tw3943903935662358721 tw11444719824429625363 tw1065016210505349069 tw18037273691765706048 tw8821614995739422253 tw15148362175182888305 tw17315238279119508654 tw7367250308359627663 tw2967236753487895784 tw9221725599105379159 tw15102562907656789358 tw10372755185907254531 tw11839550120342783753 tw5907390763668523712 tw7735864966261872116 tw7876779270372868017 tw10039670557622514967 tw15116770400878864238 tw14500964625329212360 tw8060302045541532857 tw5713014480722159644 tw5020128116730870160 tw3892338879772140276 tw11898888457140120530 tw12848908078226381342 tw15222839375791028184:True)
open PySem PySem.W PyProof.Rows
set_option maxRecDepth 100000 in
set_option maxHeartbeats 0 in
theorem PySem.Challenge.cw_knotless_k31_letters_to_one_and_notes_holds : PySem.Challenge.rw_knotless_k31_letters_to_one_and_notes.Holds := by
 w_on;o_law;k_head;(case hw=>w_witness2)
 k_fill
 refine fc.walk (l:=PySem.Challenge.rw_knotless_k31_letters_to_one_and_notes) rfl rfl rfl (fun w h Y=>PySem.W.kIn_of Y) ?F
 case F =>
  intro w mg h KX G
  refine' fc.aaK KX G ?Eg ?Hw ?Hy ?Eh ?Lk ?BU ?Ll ?Pb ?vd ?xQ ?xR ?xS ?ve ?Ei ?BV ?qD ?tD ?tE ?qF ?tF ?vf ?vg ?tG ?vh ?Ej ?Lm ?Va ?Vb ?Ln ?Ek ?Lo ?vj ?zV ?zW ?qG ?tH ?zX ?vm ?vn ?xU ?zY ?oJ ?lY ?lZ ?tK ?BW ?vp ?qH ?xV ?BX ?BY ?zZ ?z6 ?xW ?BZ ?Ca ?Cb ?Cc ?Cd ?xX ?z7 ?xY ?vq ?vt ?vz ?vA ?pM ?tL ?z8 ?vB ?qI ?oK ?Ce ?qJ ?nS ?l6 ?oM ?xZ ?qK ?Aa ?El ?Em ?Eo ?Ab ?Cf ?tM ?Hz ?Lp ?Vc ?Ac ?oN ?x8 ?C8 ?qL ?Ae ?C9 ?qM ?Af ?Ag ?oO ?qN ?vC ?nU ?qO ?HA ?ku ?kB ?x9 ?ya ?wo ?qP ?mh ?HB ?yb ?MP ?Ah ?tN ?jU ?yc ?yd ?vD ?vE ?tO ?vF ?tP ?tQ ?qQ ?HC ?oQ ?oS ?oU ?Ep ?Er ?Cg ?Ci ?vG ?ye ?yf ?yg ?tR ?yh ?yi ?Vd ?yj ?Ve ?Pc ?Pd ?Lq ?Lr ?Ai ?Vf ?Vg ?Vh ?Vi ?HD
  case Eg|Hw|Hy|Eh|Lk|BU|Ll|Pb | Ca|Cb|Cc|Cd|xX|z7 | vq|vt|vz|vA|pM|tL | oN|x8 | qL|Ae | qM|Af | oO|qN|vC|nU|qO | ku|kB|x9|ya | qP|mh | yb | Ah|tN|jU|yc|yd|vD|vE|tO|vF|tP|tQ|qQ|HC|oQ|oS|oU|Ep | Cg | vG|ye|yf|yg|tR|yh|yi|Vd|yj|Ve|Pc|Pd|Lq|Lr|Ai|Vf|Vg|Vh|Vi|HD=>k_is
  case vd|xQ|xR|xS|ve | qD|tD|tE|qF|tF|vf|vg|tG|vh | vj|zV|zW|qG|tH|zX | oJ|lY|lZ|tK | qH|xV|BX|BY|zZ|z6|xW|BZ | xY | z8|vB|qI|oK|Ce|qJ|nS|l6|oM=>exact L2.je (by k_is) (by k_is) (by k_is) (by k_is) (by k_is)
  case Ei|BV | Ej|Lm|Va|Vb|Ln|Ek|Lo | vm|vn|xU|zY | BW|vp | xZ|qK|Aa|El|Em|Eo|Ab|Cf|tM|Hz|Lp|Vc=>exact L2.xy KX G (by k_is) (by k_is) (by k_is) (by k_is)
  case Ac | C8 | C9 | Ag | HA | wo | HB | MP=>exact L2.YR (by k_is) (by k_is) (by k_is) (by k_is) (by k_is) (by k_is)
  case Er | Ci=>exact⟨by k_exc,by k_is,by k_is,by k_is,by k_is,by k_is,by k_is,by k_is,by k_is⟩
#print axioms PySem.Challenge.cw_knotless_k31_letters_to_one_and_notes_holds
