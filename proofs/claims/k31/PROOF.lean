import PyProof.Rows.All
import Wide.All
import OpenK.AllK
import Wide.FinOn
import Lean
import PyProof.EqAt
import PyProof.EqKinds
import PyProof.TupleCall
import PySem.Challenge.RW_knotless_k31_letters_to_one_and_notes
set_option Elab.async false
noncomputable section
universe u v
section
local macro_rules|`(∅)=>`(by lia)
local macro_rules|`(!_)=>`(by decide)
local macro_rules|`(-_)=>`(by simp)
theorem nT:1<=PySem.sizeLine:=!_
theorem g7:2<=PySem.sizeLine:=!_
theorem g9:3<=PySem.sizeLine:=!_
theorem x6:4<=PySem.sizeLine:=!_
theorem aaN:5<=PySem.sizeLine:=!_
theorem aaO:6<=PySem.sizeLine:=!_
def ee:=@if_pos.{u}
def er:=@if_neg.{u}
def e8:=@decide_eq_true
def fy:=@decide_eq_false
def g8:=@of_decide_eq_true
def eL:=@absurd.{v}
def gU:=@congrArg.{u,v}
open List renaming getElem?_eq_getElem -> aa, length_map -> ah, getElem?_eq_some_iff -> ai, getElem?_map -> aj, length_append -> av, getD_eq_getElem?_getD -> az, range -> aA, mem_map -> aL, mem_of_getElem? -> aM, size_toArray -> aP, getElem_mem -> aQ, map_append -> aT, length_filter_le -> aX, mem_cons -> bf, mem_singleton -> bq, mem_append -> br, mem_cons_of_mem -> bu, length_cons -> bx, length_range -> bB, mem_filter -> bC, getElem?_append_left -> bL, map_cons -> bN, length_take -> bQ, length_set -> bT, append_nil -> bY, mem_cons_self -> b9, getElem?_append_right -> cu, append_assoc -> cF, mem_append_right -> cY, map_congr_left -> c6, mem_range -> dm, map_map -> dw, filterMap_cons -> dQ, lookup_cons -> fh, filter_cons -> fj, getElem?_eq_none -> fF, filter_append -> fO, take_of_length_le -> gi, getElem?_range -> gp, length_eq_zero_iff -> iw, drop_of_length_le -> iL, take_length -> iX, take_succ_eq_append_getElem -> ju, reverse_append -> ki, mem_map_of_mem -> kj, replicate -> k7, nodup_nil -> k8, range_succ -> mF, nodup_cons -> mG, getElem?_concat_length -> mH, getElem?_of_mem -> oi, pairwise_iff_getElem -> pN, extract_eq_drop_take -> pO, drop_eq_getElem_cons -> pP, lookup -> qj, pairwise_cons -> rZ, find?_cons -> r6, filter_cons_of_pos -> r8, filter_cons_of_neg -> r9, take_add_one -> uJ, nodup_append -> uK, getElem?_set -> uL, take_append_drop -> vJ, set_append_right -> vK, length_drop -> wK, any_eq_true -> wL
open PySem.W renaming Frag -> af, findIn -> aI, nsIn -> bG, mg_none_of -> cH, mg_of -> cU, kia_one -> dP, keepIn -> dX, fnOf -> eT, emptyDict -> gm, codeIn -> jm, instObj -> jA, hasDictIn -> uH, plainGet -> wH
open Nat renaming le_refl -> ay, le_trans -> aN, ne_of_lt -> bE, lt_of_lt_of_le -> bH, zero_le -> bM, lt_of_le_of_lt -> cJ, le_succ -> cV, add_le_add_left -> fz, sub_self -> iY, lt_irrefl -> iZ, le_of_lt -> kg, min_le_left -> mE, not_lt_zero -> rY, lt_succ_self -> wI, le_add_right -> wJ
open Bool renaming false_ne_true -> aF, and_eq_true -> c9, eq_iff_iff -> iC, false_eq_true -> mq
open Option.some renaming inj -> aK
open Array renaming length_toList -> aR, getElem_mem -> bJ, toList_append -> cO, getElem?_toList -> dR, getElem?_eq_some_iff -> gh, getElem_extract -> gF, mem_toList_iff -> gZ, size_extract -> mw, getElem?_eq_getElem -> pQ, toList_push -> uM
open Option renaming some_ne_none -> aS
open PySem.F renaming plainAttrs_list -> be, type_list_append -> bg, slot_list_append -> bh
open Ne renaming symm -> bK
open Int renaming emod_nonneg -> bU, emod_lt_of_pos -> ck, toNat_natCast -> cy, zero_add -> gE, le_refl -> jn, le_trans -> qV
open Sum renaming inl -> gD
open ForInStep renaming yield -> jB
open False renaming elim -> jC
open True renaming intro -> k6
open PySem renaming mem_of_lookup -> qi
open PyProof.Rows renaming slot_tuple_getitem -> uI
set_option linter.all false
set_option maxRecDepth 100000
namespace L2
open PySem PySem.Spec PyProof.Rows
abbrev Key:=Sum Int Str
noncomputable def Jl:Key->Value->Bool
 |.inl k,v=>Value.isInt k v
 |.inr x,v=>Value.isStrOf x v
noncomputable def afZ(w:World):Key->Int
 |.inl k=>hashInt k
 |.inr x=>hashStr w x
theorem ic:∀{k:Key} {v:Value},Jl k v=true->(∃i t,k=gD i/\v=Value.int i t)∨(∃x t,k=Sum.inr x/\v=Value.str x t)
 |.inl i,v,h=>by
  obtain⟨t,e⟩:=Value.isInt_shape (k:=i) (v:=v) h;exact .inl ⟨i,t,rfl,e⟩
 |.inr x,v,h=>by
  obtain⟨t,e⟩:=Value.isStrOf_shape (x:=x) (v:=v) h;exact .inr ⟨x,t,rfl,e⟩
theorem Ri(i:Int)(t:Tok):Jl (.inl i) (.int i t)=true:=by simp[Jl,Value.isInt]
theorem Rj(x:Str)(t:Tok):Jl (.inr x) (.str x t)=true:=by simp[Jl,Value.isStrOf]
theorem Zw(a b:Int):decide ((gD a:Key)=gD b)=(a==b):=by
 by_cases e:a=b
 ·subst e;simp
 ·have h:¬(gD a:Key)=gD b:=λq=>e (Sum.inl.inj q)
  rw[fy h];exact (beq_eq_false_iff_ne.mpr e).symm
theorem Zx(a b:Str):decide ((Sum.inr a:Key)=Sum.inr b)=decide (a=b):=by
 by_cases e:a=b
 ·subst e;simp
 ·have h:¬(Sum.inr a:Key)=Sum.inr b:=λq=>e (Sum.inr.inj q)
  rw[fy h,fy e]
theorem Zy(a:Int)(b:Str):decide ((gD a:Key)=Sum.inr b)=false:=fy (λq=>nomatch q)
theorem Zz(a:Str)(b:Int):decide ((Sum.inr a:Key)=gD b)=false:=fy (λq=>nomatch q)
noncomputable def ie(prog:Program)(w:World):PySem.KeyKind prog w Key where
 is:=Jl
 hash:=afZ w
 inj:=λv a b ha hb=>by
  rcases ic ha with ⟨i,t,rfl,rfl⟩|⟨x,t,rfl,rfl⟩
  ·rcases ic hb with ⟨j,u,rfl,e⟩|⟨y,u,rfl,e⟩
   ·injection e with e1 _;rw[e1]
   ·exact nomatch e
  ·rcases ic hb with ⟨j,u,rfl,e⟩|⟨y,u,rfl,e⟩
   ·exact nomatch e
   ·injection e with e1 _;rw[e1]
 byValue:=λk v h=>by
  rcases ic h with ⟨i,t,rfl,rfl⟩|⟨x,t,rfl,rfl⟩ <;> rfl
 pyHash:=λhv h=>by
  rcases ic hv with ⟨i,t,rfl,rfl⟩|⟨x,t,rfl,rfl⟩
  ·exact wpAny_pyHash_int h
  ·exact wpAny_pyHash_str h
 eqBool:=λhu hv h=>by
  rcases ic hu with ⟨i,t,rfl,rfl⟩|⟨x,t,rfl,rfl⟩
  ·rcases ic hv with ⟨j,u,rfl,rfl⟩|⟨y,u,rfl,rfl⟩
   ·rw[Zw] at h;exact wpAny_eqBool_int h
   ·rw[Zy] at h;exact SeqAt.EqAt.int_str i t y u _ _ _ _ h
  ·rcases ic hv with ⟨j,u,rfl,rfl⟩|⟨y,u,rfl,rfl⟩
   ·rw[Zz] at h;exact SeqAt.EqAt.str_int x t j u _ _ _ _ h
   ·rw[Zx] at h;exact wpAny_eqBool_str h
 «strs»:=λk x t v h=>by
  rcases ic h with ⟨i,u,rfl,e⟩|⟨y,u,rfl,e⟩
  ·exact nomatch e
  ·injection e with e1 _
   subst e1;cases v <;> rfl
theorem LR(prog:Program)(w:World)(i:Int)(t:Tok):(ie prog w).is (.inl i) (.int i t)=true:=Ri i t
theorem LU(prog:Program)(w:World)(x:Str)(t:Tok):(ie prog w).is (.inr x) (.str x t)=true:=Rj x t
inductive V where
 |fH|bl (b:Bool)|int (i:Int)|str (x:Str)|PK (b:Array UInt8)|ZA (b:UInt64)|ref (a:Addr)|ty (n:String)
 deriving DecidableEq
def RelV:V->Value->Prop
 |.fH,u=>u=Value.none
 |.bl b,u=>u=Value.bool b
 |.int i,u=>∃t,u=Value.int i t
 |.str x,u=>∃t,u=Value.str x t
 |.PK b,u=>∃t,u=Value.bytes b t
 |.ZA b,u=>∃t,u=Value.float b t
 |.ref a,u=>u=Value.ref a
 |.ty n,u=>u=Value.type n
abbrev bZ:List V->List Value->Prop:=Paired RelV
theorem bZ.length{xs:List V}{us:List Value}(r:bZ xs us):xs.length=us.length:=Paired.length r
theorem bZ.get:∀{xs:List V} {us:List Value} {i:Nat} {x:V},bZ xs us->xs[i]?=some x->∃u,us[i]?=some u/\RelV x u
 |_,_,_,_,.nil,e=>by simp at e
 |_,_,0,_,.cons r _,e=>by simp at e;subst e;exact⟨_,rfl,r⟩
 |_,_,i+1,x,.cons _ t,e=>by
  obtain⟨u,a,b⟩:=bZ.get (i:=i) (x:=x) t (by simpa using e);exact⟨u,by simpa using a,b⟩
theorem bZ.set{x:V}{u:Value}(r:RelV x u):∀{xs:List V} {us:List Value} (i:Nat),bZ xs us->bZ (xs.set i x) (us.set i u)
 |_,_,_,.nil=>.nil
 |_,_,0,.cons _ t=>.cons r t
 |_,_,i+1,.cons q t=>.cons q (bZ.set r i t)
theorem bZ.append:∀{xs a:List V} {us b:List Value},bZ xs us->bZ a b->bZ (xs++a) (us++b)
 |_,_,_,_,.nil,s=>s
 |_,_,_,_,.cons r t,s=>.cons r (bZ.append t s)
theorem bZ.take:∀{xs:List V} {us:List Value} (n:Nat),bZ xs us->bZ (xs.take n) (us.take n)
 |_,_,0,_=>.nil
 |_,_,_+1,.nil=>.nil
 |_,_,n+1,.cons r t=>.cons r (bZ.take n t)
theorem bZ.drop:∀{xs:List V} {us:List Value} (n:Nat),bZ xs us->bZ (xs.drop n) (us.drop n)
 |_,_,0,r=>r
 |_,_,_+1,.nil=>.nil
 |_,_,n+1,.cons _ t=>bZ.drop n t
def yG:Option V->Option Value->Prop
 |some v,some u=>RelV v u
 |none,none=>True
 |_,_=>False
def KV{κ:Type}:List (κ×V)->List (κ×Value)->Prop:=Paired λ(p:κ×V) (q:κ×Value)=>p.1=q.1/\RelV p.2 q.2
noncomputable def kV:Key->V
 |.inl i=>.int i
 |.inr x=>.str x
inductive HO where
 |lst (xs:List V)
 |tup (xs:List V)
 |dK (kvs:List (Key×V))|dT (kvs:List (List Key×V))
 |set (S:Int->Bool) (n:Nat)
 |ins (C dx:Addr) (fs:List (Str×V))
 |own (x:Addr)
 |xd (fs:List (Str×V))
 |met (f x:Addr)
 |S4 (lo hi:Int)
 |Ax (o:Obj) (u:HO)
 |Ym (ps:Array Value)
 |ext (φ:Heap->Prop)
abbrev Hp:=Addr->Option HO
noncomputable def upd(H:Hp)(a:Addr)(o:HO):Hp:=λb=>if b=a then some o else H b
theorem au{H:Hp}{a:Addr}{o:HO}:upd H a o a=some o:=by unfold upd;rw[ee rfl]
theorem aH{H:Hp}{a b:Addr}{o:HO}(h:b≠a):upd H a o b=H b:=by unfold upd;rw[er h]
theorem Kd{H:Hp}{a:Addr}{o u:HO}:upd (upd H a o) a u=upd H a u:=by
 funext b;unfold upd;split <;> rfl
theorem vL{H:Hp}{a b:Addr}{o u:HO}(h:H a=some o)(h':H b=some u)(d:o≠u):a≠b:=by
 intro e;subst e;rw[h] at h';exact d (aK h')
theorem aE{H:Hp}{a b:Addr}{o:HO}(h:H a=some o)(h':H b=none):a≠b:=by
 intro e;subst e;rw[h] at h';cases h'
section
variable(P:Program)(w:World)
def fP(H:Hp)(h:Heap)(a:Addr):HO->Prop
 |.lst xs=>xs.length<=sizeLine/\∃(its:List Value) (n:Nat),bZ xs its/\h.get? a=some {cls:=.type "list",data:=.seq its.toArray n}
 |.tup xs=>xs.length<=sizeLine/\∃its:List Value,bZ xs its/\IsTup h a its.toArray
 |.dK kvs=>kvs.length<=sizeLine/\(a==sysModules)=false/\∃vs,KV kvs vs/\h.DictOf (ie P w) a vs
 |.dT kvs=>kvs.length<=sizeLine/\(a==sysModules)=false/\∃xs:List (List Key×Addr×Value),
  Paired (λ(p:List Key×V) (q:List Key×Addr×Value)=>p.1=q.1/\H q.2.1=some (.tup (p.1.map kV))/\RelV p.2 q.2.2) kvs xs /\
  ∃o es ep,h.get? a=some o/\o.ExactDict/\o.data=.dict es ep/\es.toList=xs.map (entryOfKey (tupleKind (ie P w)))/\(xs.map (·.1)).Nodup
 |.set S n=>h.SetOf (intKind P w) a S n
 |.ins C dx fs=>H dx=some (.own a)/\fs.length<=1000/\dx≠a/\h.get? a=some (jA C dx) /\
  ∃mA,h.Ns1 dx mA/\(∀f,yG (fs.lookup f) (mA f))/\PySem.Within mA (fs.map (·.1))
 |.own _=>∃o,h.get? a=some o
 |.xd fs=>∃mA,h.Ns1 a mA/\∀f,yG (fs.lookup f) (mA f)
 |.S4 lo hi=>∃t u v,h.get? a=some {cls:=.type "range",data:=.fields #[.int lo t,.int hi u,.int 1 v]}
 |.Ax o u=>h.get? a=some o/\fP H h a u
 |.Ym ps=>h.get? a=some {cls:=.none,data:=.fields ps}
 |.met f x=>h.get? a=some (PySem.W.methodObj (.ref f) (.ref x))
 |.ext φ=>φ h/\(∃o,h.get? a=some o)/\∀h1 h2:Heap,φ h1->(∀o,h1.get? a=some o->h2.get? a=some o)->φ h2
def yM(H:Hp)(h:Heap):Prop:=∀a o,H a=some o->fP P w H h a o
end
section
variable{P:Program}{w:World}{H H':Hp}{h h':Heap}{a:Addr}{o:HO}
theorem fP.lt(x:fP P w H h a o):a<h.objs.size:=by
 cases o with
 |lst c=>obtain⟨_,_,_,_,e⟩:=x;exact Heap.lt_size e
 |tup c=>obtain⟨_,_,_,p⟩:=x;exact p.lt
 |dK b=>obtain⟨_,_,_,_,o,_,_,e,_⟩:=x;exact Heap.lt_size e
 |dT b=>obtain⟨_,_,_,_,o,_,_,e,_⟩:=x;exact Heap.lt_size e
 |set S n=>obtain⟨o,_,_,_,e,_⟩:=x;exact Heap.lt_size e
 |ins C k d=>obtain⟨_,_,_,e,_⟩:=x;exact Heap.lt_size e
 |own y=>obtain⟨_,e⟩:=x;exact Heap.lt_size e
 |xd d=>obtain⟨_,⟨_,_,_,e,_⟩,_⟩:=x;exact Heap.lt_size e
 |S4 lo i=>obtain⟨_,_,_,e⟩:=x;exact Heap.lt_size e
 |Ax g u=>obtain⟨e,_⟩:=x;exact Heap.lt_size e
 |Ym j=>exact Heap.lt_size (show h.get? a=some _ from x)
 |met f y=>exact Heap.lt_size (show h.get? a=some _ from x)
 |ext l=>obtain⟨_,⟨_,e⟩,_⟩:=x;exact Heap.lt_size e
theorem Paired.Wa{α β:Type}{F G:α->β->Prop}:∀{l₁:List α} {l₂:List β},Paired F l₁ l₂->(∀a b,F a b->G a b)->Paired G l₁ l₂
 |_,_,.nil,_=>.nil
 |_,_,.cons r t,f=>.cons (f _ _ r) (Paired.Wa t f)
theorem fP.stay(x:fP P w H h a o)(k:∀b u,(b=a∨H b=some (.own a))->h.get? b=some u->h'.get? b=some u)
 (I:∀b,H b=some (.own a)->H' b=some (.own a)) (K:∀b xs,H b=some (.tup xs)->H' b=some (.tup xs)):fP P w H' h' a o:=by
 induction o with
 |lst xs=>obtain⟨z,l,n,r,e⟩:=x;exact⟨z,l,n,r,k _ _ (.inl rfl) e⟩
 |tup xs=>obtain⟨z,l,r,g,e,c⟩:=x;exact⟨z,l,r,g,k _ _ (.inl rfl) e,c⟩
 |dK A=>obtain⟨z,y,F,r,g,i,j,e,c⟩:=x;exact⟨z,y,F,r,g,i,j,k _ _ (.inl rfl) e,c⟩
 |dT A =>
  obtain⟨z,y,xs,r,g,i,j,e,c⟩:=x;exact⟨z,y,xs,Paired.Wa r λp q z=>⟨z.1,K _ _ z.2.1,z.2.2⟩,g,i,j,k _ _ (.inl rfl) e,c⟩
 |set S n=>obtain⟨g,i,j,t,e,c⟩:=x;exact⟨g,i,j,t,k _ _ (.inl rfl) e,c⟩
 |ins C M G =>
  obtain⟨d,z,J,e,s,⟨m,i,j,D,c⟩,r⟩:=x;exact⟨I _ d,z,J,k _ _ (.inl rfl) e,s,⟨m,i,j,k _ _ (.inr d) D,c⟩,r⟩
 |own y=>obtain⟨g,e⟩:=x;exact⟨g,k _ _ (.inl rfl) e⟩
 |xd G=>obtain⟨s,⟨m,i,j,e,c⟩,r⟩:=x;exact⟨s,⟨m,i,j,k _ _ (.inl rfl) e,c⟩,r⟩
 |S4 lo L=>obtain⟨t,u,v,e⟩:=x;exact⟨t,u,v,k _ _ (.inl rfl) e⟩
 |Ax g u E=>obtain⟨e,q⟩:=x;exact⟨k _ _ (.inl rfl) e,E q⟩
 |Ym B =>
  have e:h.get? a=some {cls:=.none,data:=.fields B}:=x;show h'.get? a=some {cls:=.none,data:=.fields B};exact k a _ (.inl rfl) e
 |met f y =>
  have e:h.get? a=some (PySem.W.methodObj (.ref f) (.ref y)):=x;show h'.get? a=some (PySem.W.methodObj (.ref f) (.ref y));exact k a _ (.inl rfl) e
 |ext N=>obtain⟨p,⟨o,e⟩,st⟩:=x;exact⟨st _ _ p λo q=>k _ _ (.inl rfl) q,⟨o,k _ _ (.inl rfl) e⟩,st⟩
theorem yM.lt(x:yM P w H h)(e:H a=some o):a<h.objs.size:=(x a o e).lt
theorem yM.fresh(x:yM P w H h)(e:h.objs.size<=a):H a=none:=by
 cases q:H a with
 |none=>rfl
 |some u=>exact eL (bH (x.lt q) e) (iZ _)
theorem yM.kept(x:yM P w H h)(k:∀b u,h.get? b=some u->h'.get? b=some u):yM P w H h':=λa o e =>
 (x a o e).stay (λb u _ q=>k b u q) (λ_ q=>q) λ_ _ q=>q
theorem yM.laid(x:yM P w H h)(k:∀b u,h.get? b=some u->h'.get? b=some u)(i:h.objs.size<=a)(d:fP P w (upd H a o) h' a o):yM P w (upd H a o) h':=λb u e=>by
 have f:=x.fresh i;by_cases g:b=a
 ·subst g;rw[au] at e;cases e;exact d
 ·rw[aH g] at e
  exact (x b u e).stay (λc v _ q=>k c v q) (λc q=>by rw[aH (aE q f)];exact q) λc j q=>by rw[aH (aE q f)];exact q
end
def Rd(H:Hp)(a:Addr)(u:HO):Prop:=H a=some u∨∃o,H a=some (.Ax o u)
theorem Rd.ok{P:Program}{w:World}{H:Hp}{h:Heap}{a:Addr}{u:HO}(r:Rd H a u)(x:yM P w H h):fP P w H h a u:=by
 rcases r with r|⟨o,r⟩
 ·exact x a u r
 ·obtain⟨_,q⟩:=x a _ r
  exact q
def n7:Option HO->Prop
 |some (.lst _)=>True
 |some (.dK _)=>True
 |some (.dT _)=>True
 |some (.set _ _)=>True
 |some (.ins _ _ _)=>True
 |some (.ext _)=>True
 |_=>False
section
variable{P:Program}{w:World}{H:Hp}{h h':Heap}{x e:Addr}{o':HO}
theorem yM.write(ok:yM P w H h)(d:n7 (H x))(o:e=x∨H e=some (.own x))(k:∀b u,b≠e->h.get? b=some u->h'.get? b=some u)(j:∃u,h'.get? e=some u)
 (m:fP P w (upd H x o') h' x o'):yM P w (upd H x o') h':=λb u q=>by
 have a:∀c y,H c=some (.own y)->c≠x:=λc y r z=>by subst z;rw[r] at d;exact d
 have l:∀c f,H c=some (.tup f)->c≠x:=λc f r z=>by subst z;rw[r] at d;exact d
 by_cases g:b=x
 ·subst g;rw[au] at q;cases q;exact m
 ·rw[aH g] at q
  by_cases i:b=e
  ·have n:H b=some (.own x):=by
    rcases o with z|z
    ·exact eL (i.trans z) g
    ·rw[i];exact z
   rw[q] at n;cases n;obtain⟨v,p⟩:=j;exact⟨v,by rw[i];exact p⟩
  ·refine (ok b u q).stay (λc v hc r=>k c v ?_ r) (λc r=>by rw[aH (a c b r)];exact r) λc f r=>by rw[aH (l c f r)];exact r
   rcases hc with rfl|hc
   ·exact i
   ·rintro rfl
    rcases o with z|z
    ·exact a c b hc z
    ·rw[hc] at z;cases z;exact g rfl
end
structure Un(fs ex:List Addr)(H H':Hp)(h h':Heap):Prop where
 keep:∀b o,h.get? b=some o->H b=none->b∉fs->b∉ex->h'.get? b=some o
 slot:∀b o,h.get? b=some o->H b=none->b∈fs->b∉ex->∃sl,h'.get? b=some {o with slots:=sl}
 free:∀b o,h.get? b=some o->H b=none->b∉ex->H' b=none
 there:∀b o,h.get? b=some o->b∉ex->∃o',h'.get? b=some o'
 tups:∀b xs,H b=some (.tup xs)->H' b=some (.tup xs)
 AV:∀b o u,H b=some (.Ax o u)->H' b=some (.Ax o u)
 Cq:∀b ps,H b=some (.Ym ps)->∃more,H' b=some (.Ym (ps++more))
section
variable{fs fs' ex ex':List Addr}{H H1 H2:Hp}{h h1 h2 h':Heap}{a x e:Addr}{o:HO}
theorem Un.any(u:Un fs ex H H1 h h1){b:Addr}{ob:Obj}(q:h.get? b=some ob)(n:H b=none)(a:b∉ex):∃d,h1.get? b=some {ob with slots:=d}:=by
 by_cases c:b∈fs
 ·exact u.slot b ob q n c a
 ·exact⟨ob.slots,u.keep b ob q n c a⟩
theorem Un.trans(a:Un fs ex H H1 h h1)(b:Un fs ex H1 H2 h1 h2):Un fs ex H H2 h h2 where
 keep:=λc e q n i d=>b.keep c e (a.keep c e q n i d) (a.free c e q n d) i d
 slot:=λc e q n i d=>by
  obtain⟨r,f⟩:=a.slot c e q n i d;obtain⟨k,j⟩:=b.slot c _ f (a.free c e q n d) i d;exact⟨k,j⟩
 free:=λc e q n d=>by
  obtain⟨l,f⟩:=a.there c e q d;exact b.free c l f (a.free c e q n d) d
 there:=λc e q d=>by
  obtain⟨l,f⟩:=a.there c e q d;exact b.there c l f d
 tups:=λc g q=>b.tups c g (a.tups c g q)
 AV:=λc e g q=>b.AV c e g (a.AV c e g q)
 Cq:=λc o q=>by
  obtain⟨p,f⟩:=a.Cq c o q;obtain⟨m,j⟩:=b.Cq c _ f;exact⟨p++m,by rw[j,Array.append_assoc]⟩
theorem Un.kept(k:∀b u,h.get? b=some u->h'.get? b=some u):Un fs ex H H h h' :=
 ⟨λb a q _ _ _=>k b a q,λb a q _ _ _=>⟨a.slots,k b a q⟩,λ_ _ _ n _=>n,λb a q _=>⟨a,k b a q⟩,λ_ _ q=>q,λ_ _ _ q=>q,λ_ c q=>⟨#[],by rw[q];simp⟩⟩
theorem Un.refl:Un fs ex H H h h:=Un.kept λ_ _ q=>q
theorem Un.laid(k:∀b u,h.get? b=some u->h'.get? b=some u)(e:h.objs.size<=a)(c:H a=none):Un fs ex H (upd H a o) h h' where
 keep:=λb u q _ _ _=>k b u q
 slot:=λb u q _ _ _=>⟨u.slots,k b u q⟩
 free:=λb u q n _=>by rw[aH (bE (bH (Heap.lt_size q) e))];exact n
 there:=λb u q _=>⟨u,k b u q⟩
 tups:=λb d q=>by rw[aH (aE q c)];exact q
 AV:=λb u d q=>by rw[aH (aE q c)];exact q
 Cq:=λb f q=>⟨#[],by rw[aH (aE q c),q];simp⟩
theorem Un.write(a:n7 (H x))(l:e=x∨H e=some (.own x))(k:∀b u,b≠e->h.get? b=some u->h'.get? b=some u)(d:∃u,h'.get? e=some u):Un fs ex H (upd H x o) h h':=by
 have f:∀b,H b=none->b≠x:=λb n z=>by subst z;rw[n] at a;exact a
 have g:∀b,H b=none->b≠e:=λb n z=>by
  subst z;rcases l with r|r
  ·exact f b n r
  ·rw[n] at r;cases r
 have c:∀b u,H b=some u->¬n7 (some u)->b≠x:=λb u q j z=>by subst z;rw[q] at a;exact j a
 refine⟨λb u q n _ _=>k b u (g b n) q,λb u q n _ _=>⟨u.slots,k b u (g b n) q⟩,λb u q n _=>by rw[aH (f b n)];exact n,λb u q _=>?_,
  λb m q=>by rw[aH (c b _ q λz=>z)];exact q,λb u m q=>by rw[aH (c b _ q λz=>z)];exact q,λb p q=>⟨#[],by rw[aH (c b _ q λz=>z),q];simp⟩⟩
 by_cases i:b=e
 ·subst i;exact d
 ·exact⟨u,k b u i q⟩
end
noncomputable def zP(h:Heap)(H:Hp):List Addr:=(aA h.objs.size).filter λa=>(H a).isSome
noncomputable def Ke(h:Heap)(H:Hp):Heap:=PySem.W.hideAll h (zP h H)
theorem Rk(h:Heap)(H:Hp):(Ke h H).objs.size=h.objs.size:=PySem.W.hideAll_size _ _
theorem S5{h:Heap}{H:Hp}{b:Addr}{o:Obj}(e:h.get? b=some o)(n:H b=none):(Ke h H).get? b=some o :=
 PySem.W.hideAll_get _ e λa=>by
  have q:(H b).isSome=true:=(bC.mp a).2;rw[n] at q;simp at q
theorem Wb{h:Heap}{H:Hp}{b:Addr}{o:Obj}(e:(Ke h H).get? b=some o):h.get? b=some o/\H b=none:=by
 have a:h.get? b=some o:=PySem.W.of_hideAll (zP h H) e;refine⟨a,?_⟩;cases q:H b with
 |none=>rfl
 |some x =>
  have c:b∈zP h H:=bC.mpr ⟨dm.mpr (Heap.lt_size a),by simp[q]⟩;have z:(Ke h H).get? b=none:=PySem.W.hideAll_none (zP h H) c;rw[z] at e;cases e
noncomputable def Wc(g h:Heap)(L:Addr):List (Addr×Obj):=(aA h.objs.size).filterMap λa=>if a=L∨(g.get? a).isSome=true then none else (h.get? a).map λo=>(a,o)
noncomputable def rest(g h:Heap)(L d:Addr):List (Addr×Obj):=(Wc g h L).filter λp=>decide (p.1≠d)
structure Mod(K:af)(mg:Str->Option Value)(base:Heap):Prop where
 ZD:K.In base
 glob:base.Ns mainGlobals mg
 blt:∃mb,base.Ns builtinsNs mb/\∀x:Str,x≠"__name__" -> mb x=bootBuiltins x
 nolimit:base.NoLimit
structure Cx where
 prog:Program
 w:World
 K:af
 mg:Str->Option Value
 base:Heap
 A:Around
 N:List Str
 s₀:Shared
 H₀:Hp
 env:Env
 outer:List Env
 stack:List Env
 ex:List Addr
 fn:Str->Bool
 calm:Bool
 pn:List (Addr×Obj)
 xe:Value->Shared->Prop
noncomputable def frs(l:List Env):List Addr:=l.filterMap (·.frame)
noncomputable abbrev Cx.fs(X:Cx):List Addr:=frs X.outer
def Qa(sc:Scope)(x:Str):Prop:=sc.names.lookup x=some .local∨sc.names.lookup x=some .cell∨sc.names.lookup x=some .free
def Loc(sc:Scope)(x:Str):Prop:=sc.names.lookup x=some .local∨sc.names.lookup x=some .cell
def Look(env:Env)(h:Heap)(m:Str->Option Value)(x:Str)(u:Value):Prop :=
 (env.kindOf x=some .local/\m x=some u)∨((env.kindOf x=some .cell∨env.kindOf x=some .free)/\∃c,env.cells.lookup x=some c/\h.IsCell c (some u))
structure Cx.Ok(X:Cx):Prop where
 mod:Mod X.K X.mg X.base
 kind:X.env.scope.kind=.function
 glob:X.env.globals=mainGlobals
 blt:X.env.builtins=builtinsNs
 above:X.s₀.heap.objs.size<=X.env.locals
 inj:∀x y c,X.env.cells.lookup x=some c->X.env.cells.lookup y=some c->x=y
 has:∀x,(X.env.kindOf x=some .cell∨X.env.kindOf x=some .free)->∃c,X.env.cells.lookup x=some c
 nR:∀x c,X.fn x=true->X.env.cells.lookup x=some c->X.s₀.heap.objs.size<=c
 hd:X.calm=true->X.A.handled=none
 frames:X.A.frames=some X.stack
 stk:X.stack=X.outer∨(X.stack=X.env::X.outer/\X.env.frame=some X.env.locals)
 exf:∀b∈X.ex,b≠X.env.locals/\∀x c,X.env.cells.lookup x=some c->c≠b
 bs:∀b o,X.base.get? b=some o->X.s₀.heap.get? b=some o/\X.H₀ b=none
 VU:X.base.objs.size<=X.s₀.heap.objs.size
 Rl:∀b o,X.base.get? b=some o->b∉X.ex
 S6:∀b∈X.ex,b∉X.fs
 Cr:X.s₀.heap.FunFrames X.base X.outer
 Yn:∀b∈X.fs,X.H₀ b=none
structure Inv(X:Cx)(pins:List (Addr×Obj))(σ:List (Option V))(H:Hp)(s:Shared):Prop where
 ok:X.Ok
 os:s.os=X.s₀.os
 bare:AllBare s.gens
 base:Un X.fs X.ex X.H₀ H X.s₀.heap s.heap
 loc:∃m,s.heap.Ns X.env.locals m/\∀(i:Nat) (x:Str) (v:V),X.N[i]?=some x->σ[i]?=some (some v)->Qa X.env.scope x->∃u,RelV v u/\Look X.env s.heap m x u
 cell:∀x c,X.env.cells.lookup x=some c->∃v,s.heap.IsCell c v
 free:H X.env.locals=none
 uc:∀x c,X.env.cells.lookup x=some c->H c=none
 pin:∀p∈X.pn++pins,s.heap.get? p.1=some p.2/\H p.1=none/\p.1≠X.env.locals/\p.1∉X.fs/\∀v,p.2.data≠.cell v
 hok:yM X.prog X.w H s.heap
 len:σ.length=X.N.length
section
variable{X:Cx}{pins:List (Addr×Obj)}{σ:List (Option V)}{H H':Hp}{s:Shared}{h':Heap}
theorem Cx.Ok.af2(ok:X.Ok){b:Addr}{o:Obj}(e:X.base.get? b=some o):b∉X.fs:=λa=>by
 have:=(ok.Cr.mem a).1
 rw[e] at this;cases this
theorem Inv.bs(I:Inv X pins σ H s):∀b o,X.base.get? b=some o->s.heap.get? b=some o/\H b=none:=λb o e =>
 ⟨I.base.keep b o (I.ok.bs b o e).1 (I.ok.bs b o e).2 (I.ok.af2 e) (I.ok.Rl b o e),I.base.free b o (I.ok.bs b o e).1 (I.ok.bs b o e).2 (I.ok.Rl b o e)⟩
theorem Inv.bk(I:Inv X pins σ H s):∀b o,X.base.get? b=some o->s.heap.get? b=some o:=λb o e=>(I.bs b o e).1
theorem Inv.mod(I:Inv X pins σ H s):Mod X.K X.mg X.base:=I.ok.mod
theorem Inv.Br(I:Inv X pins σ H s):X.K.In s.heap:=I.ok.mod.ZD.keeps I.bk
theorem Inv.lt(I:Inv X pins σ H s):X.env.locals<s.heap.objs.size:=let ⟨_,a,_⟩:=I.loc;a.lt
theorem Inv.sz(I:Inv X pins σ H s):X.s₀.heap.objs.size<=s.heap.objs.size:=aN I.ok.above (kg I.lt)
theorem Inv.af3(I:Inv X pins σ H s){a:Addr}(h:s.heap.objs.size<=a):a∉X.fs:=λb=>by
 obtain⟨_,o,c,_⟩:=I.ok.Cr.mem b;exact eL (bH (Heap.lt_size c) (aN I.sz h)) (iZ _)
theorem Inv.ZE(I:Inv X pins σ H s):∀x c,X.env.cells.lookup x=some c->c≠X.env.locals:=λx c e z=>by
 obtain⟨v,o,f,d⟩:=I.cell x c e;obtain⟨m,⟨i,g,h,b,a,_⟩,_⟩:=I.loc;rw[z,b] at f;cases f;rw[a] at d;cases d
theorem Inv.Cr(I:Inv X pins σ H s):s.heap.FunFrames X.base X.outer:=by
 have a:∀(l:List Env),(∀b∈frs l,b∈X.fs)->X.s₀.heap.FunFrames X.base l->s.heap.FunFrames X.base l:=by
  intro l;induction l with
  |nil=>intro _ _;trivial
  |cons h r k =>
   intro g p;obtain⟨j,⟨L,o,d,i,q,n⟩,m⟩:=p;have c:L∈X.fs:=g L (by unfold frs;rw[dQ,d];exact b9);obtain⟨t,e⟩:=I.base.slot L o q (I.ok.Yn L c) c λz=>I.ok.S6 L z c;exact⟨j,⟨L,_,d,i,e,n⟩,k (λb f=>g b (by unfold frs;rw[dQ,d];exact bu _ f)) m⟩
 exact a X.outer (λ_ f=>f) I.ok.Cr
theorem Inv.stack(I:Inv X pins σ H s):s.heap.FunFrames X.base X.stack:=by
 rcases I.ok.stk with e|⟨e,b⟩
 ·rw[e];exact I.Cr
 ·rw[e]
  obtain⟨m,a,_⟩:=I.loc;refine .cons (by rw[I.ok.kind];decide) b a ?_ I.Cr;exact Heap.get?_none_of_le (aN I.ok.VU I.ok.above)
theorem Inv.DC(I:Inv X pins σ H s):∀b∈frs X.stack,b∈X.env.locals::X.fs:=λb a=>by
 rcases I.ok.stk with e|⟨e,c⟩
 ·rw[e] at a;exact bu _ a
 ·rw[e] at a
  unfold frs at a;rw[dQ,c] at a;exact a
theorem Inv.Kf(I:Inv X pins σ H s):∀b∈frs X.stack,H b=none:=λb hb=>by
 rcases bf.mp (I.DC b hb) with e|hb
 ·rw[e];exact I.free
 ·obtain⟨_,o,a,_⟩:=I.ok.Cr.mem hb
  exact I.base.free b o a (I.ok.Yn b hb) λz=>I.ok.S6 b z hb
theorem Inv.step{g':Array GenState}{t':Nat}{d':Drawn}{ch:List Addr}(I:Inv X pins σ H s)
 (f:∀b∈ch,(b∈X.ex∨X.s₀.heap.objs.size<=b)/\b≠X.env.locals/\(∀x c,X.env.cells.lookup x=some c->c≠b)/\∀p∈X.pn++pins,p.1≠b)
 (keep:∀b o,b≠X.env.locals->b∉X.fs->b∉ch->s.heap.get? b=some o->H b=none->h'.get? b=some o)
 (slot:∀b o,b≠X.env.locals->b∈X.fs->b∉ch->s.heap.get? b=some o->H b=none->∃K,h'.get? b=some {o with slots:=K}) (free:∀b o,b∉ch->s.heap.get? b=some o->H b=none->H' b=none)
 (there:∀b o,b∉ch->s.heap.get? b=some o->∃F,h'.get? b=some F)
 (tups:∀b y,H b=some (.tup y)->H' b=some (.tup y)) (AV:∀b o u,H b=some (.Ax o u)->H' b=some (.Ax o u)) (Cq:∀b G,H b=some (.Ym G)->∃E,H' b=some (.Ym (G++E)))
 (W:∀m,s.heap.Ns X.env.locals m->h'.Ns X.env.locals m) (J:yM X.prog X.w H' h') (R:AllBare g') :
 Inv X pins σ H' {s with heap:=h',gens:=g',drawn:=d',toks:=t'}:=by
 have D:∀b o,X.s₀.heap.get? b=some o->b≠X.env.locals:=λb o e=>bE (bH (Heap.lt_size e) I.ok.above);have t:∀b o,X.s₀.heap.get? b=some o->b∉X.ex->b∉ch:=λb o e a A=>by
  rcases (f b A).1 with z|z
  ·exact a z
  ·exact eL (bH (Heap.lt_size e) z) (iZ _)
 have g:∀x c,X.env.cells.lookup x=some c->∀v,s.heap.IsCell c v->h'.IsCell c v:=λx c e v ⟨o,B,M⟩=>by
  have h:c∉ch:=λz=>(f c z).2.2.1 x c e rfl;by_cases N:c∈X.fs
  ·obtain⟨K,q⟩:=slot c o (I.ZE x c e) N h B (I.uc x c e)
   exact⟨_,q,M⟩
  ·exact⟨o,keep c o (I.ZE x c e) N h B (I.uc x c e),M⟩
 refine⟨I.ok,I.os,R,⟨λb o e n A a=>?_,λb o e n A a=>?_,λb o e n a=>?_,λb o e a=>?_,λb y e=>tups b y (I.base.tups b y e),λb o y e=>AV b o y (I.base.AV b o y e),λb G e=>?_⟩,?_,λx c e=>?_,?_,λx c e=>?_,λp P=>?_,J,I.len⟩
 ·exact keep b o (D b o e) A (t b o e a) (I.base.keep b o e n A a) (I.base.free b o e n a)
 ·obtain⟨K,j⟩:=I.base.slot b o e n A a
  obtain⟨L,C⟩:=slot b _ (D b o e) A (t b o e a) j (I.base.free b o e n a);exact⟨L,C⟩
 ·obtain⟨F,j⟩:=I.base.there b o e a
  exact free b F (t b o e a) j (I.base.free b o e n a)
 ·obtain⟨F,j⟩:=I.base.there b o e a
  exact there b F (t b o e a) j
 ·obtain⟨S,j⟩:=I.base.Cq b G e
  obtain⟨T,C⟩:=Cq b _ j;exact⟨S++T,by rw[C,Array.append_assoc]⟩
 ·obtain⟨m,Q,V⟩:=I.loc
  refine⟨m,W m Q,λi x v j C U=>?_⟩;obtain⟨u,r,l⟩:=V i x v j C U;refine⟨u,r,?_⟩;rcases l with l|⟨k,c,e,z⟩
  ·exact .inl l
  ·exact .inr ⟨k,c,e,g x c e _ z⟩
 ·obtain⟨v,z⟩:=I.cell x c e
  exact⟨v,g x c e v z⟩
 ·obtain⟨m,⟨o,_,_,B,_⟩,_⟩:=I.loc
  exact free _ o (λz=>(f _ z).2.1 rfl) B I.free
 ·obtain⟨v,o,B,M⟩:=I.cell x c e
  exact free c o (λz=>(f c z).2.2.1 x c e rfl) B (I.uc x c e)
 ·obtain⟨e,n,O,nf,d⟩:=I.pin p P
  have h:p.1∉ch:=λz=>(f p.1 z).2.2.2 p P rfl;exact⟨keep p.1 p.2 O nf h e n,free p.1 p.2 h e n,O,nf,d⟩
theorem Inv.un{t':Nat}(I:Inv X pins σ H s)(u:Un X.fs [] H H' s.heap h')(c:yM X.prog X.w H' h'):Inv X pins σ H' {s with heap:=h',toks:=t'}:=by
 obtain⟨m,⟨o,l,p,h,r⟩,_⟩:=id I.loc;obtain⟨q,j⟩:=u.any h I.free (-_);exact I.step (g':=s.gens) (d':=s.drawn) (ch:=[]) (λ_ z=>nomatch z) (λb o _ f _ e n=>u.keep b o e n f (-_)) (λb o _ f _ e n=>u.slot b o e n f (-_)) (λb o _ e n=>u.free b o e n (-_)) (λb o _ e=>u.there b o e (-_)) u.tups u.AV u.Cq (λt i=>by
  obtain⟨v,d,g,a,k⟩:=i;rw[h] at a;cases a;exact⟨_,d,g,j,k⟩) c I.bare
theorem Inv.call{g':Array GenState}{t':Nat}{d':Drawn}{ch:List Addr}(I:Inv X pins σ H s)(u:Un (frs X.stack) ch H H' s.heap h')(g:yM X.prog X.w H' h')(q:AllBare g')
 (f:∀b∈ch,(b∈X.ex∨X.s₀.heap.objs.size<=b)/\b≠X.env.locals/\(∀x c,X.env.cells.lookup x=some c->c≠b)/\∀p∈X.pn++pins,p.1≠b) :
 Inv X pins σ H' {s with heap:=h',gens:=g',drawn:=d',toks:=t'}:=by
 obtain⟨m,⟨o,y,A,k,r⟩,_⟩:=id I.loc;obtain⟨B,i⟩:=u.any k I.free λz=>(f _ z).2.1 rfl;exact I.step (ch:=ch) f (λb o i v a e n=>u.keep b o e n (λz=>(bf.mp (I.DC b z)).elim i v) a) (λb o _ _ a e n=>u.any e n a) (λb o a e n=>u.free b o e n a) (λb o a e=>u.there b o e a) u.tups u.AV u.Cq (λC l=>by
  obtain⟨D,h,j,d,t⟩:=l;rw[k] at d;cases d;exact⟨_,h,j,i,t⟩) g q
theorem Inv.turned{t':Nat}{a:Addr}(I:Inv X pins σ H s)(k:∀b o,b≠a->s.heap.get? b=some o->h'.get? b=some o)(l:H a=none)(g:a≠X.env.locals)
 (i:a∈X.ex∨X.s₀.heap.objs.size<=a) (t:∀x c,X.env.cells.lookup x=some c->c≠a) (A:∀p∈X.pn++pins,p.1≠a):Inv X pins σ H {s with heap:=h',toks:=t'}:=by
 have f:∀b u,H b=some u->b≠a:=λb u e z=>by rw[z,l] at e;cases e
 refine I.step (g':=s.gens) (d':=s.drawn) (ch:=[a]) (λb B=>?_) (λb o _ _ d e _=>k b o (λz=>d (by simp[z])) e) (λb o _ _ d e _=>⟨o.slots,k b o (λz=>d (by simp[z])) e⟩) (λ_ _ _ _ n=>n)
  (λb o d e=>⟨o,k b o (λz=>d (by simp[z])) e⟩) (λ_ _ e=>e) (λ_ _ _ e=>e) (λb C e=>⟨#[],by rw[e];simp⟩) (λm h=>?_) (λb u e=>?_) I.bare
 ·have e:b=a:=by simpa using B
  subst e;exact⟨i,g,t,A⟩
 ·obtain⟨o,j,w,y,r⟩:=h
  exact⟨o,j,w,k _ o (bK g) y,r⟩
 ·refine (I.hok b u e).stay (λc v d q=>k c v ?_ q) (λ_ q=>q) λ_ _ q=>q
  rcases d with z|z
  ·rw[z];exact f b u e
  ·exact f c _ z
theorem Inv.tok(I:Inv X pins σ H s)(t:Nat):Inv X pins σ H {s with toks:=t}:=I.un (h':=s.heap) (t':=t) Un.refl I.hok
theorem Inv.kept{t':Nat}(I:Inv X pins σ H s)(k:∀b u,s.heap.get? b=some u->h'.get? b=some u):Inv X pins σ H {s with heap:=h',toks:=t'}:=I.un (Un.kept k) (I.hok.kept k)
theorem Inv.laid{a:Addr}{o:HO}{t':Nat}(I:Inv X pins σ H s)(k:∀b u,s.heap.get? b=some u->h'.get? b=some u)(c:s.heap.objs.size<=a)(d:fP X.prog X.w (upd H a o) h' a o) :
 Inv X pins σ (upd H a o) {s with heap:=h',toks:=t'}:=I.un (Un.laid k c (I.hok.fresh c)) (I.hok.laid k c d)
theorem Inv.write{x e:Addr}{o:HO}{t':Nat}(I:Inv X pins σ H s)(d:n7 (H x))(f:e=x∨H e=some (.own x))(k:∀b u,b≠e->s.heap.get? b=some u->h'.get? b=some u)(a:∃u,h'.get? e=some u)
 (c:fP X.prog X.w (upd H x o) h' x o):Inv X pins σ (upd H x o) {s with heap:=h',toks:=t'}:=I.un (Un.write d f k a) (I.hok.write d f k a c)
theorem Inv.PL{a:List (Addr×Obj)}(I:Inv X pins σ H s)(h:∀p∈a,s.heap.get? p.1=some p.2/\H p.1=none/\p.1≠X.env.locals/\p.1∉X.fs/\∀v,p.2.data≠.cell v):Inv X a σ H s :=
 ⟨I.ok,I.os,I.bare,I.base,I.loc,I.cell,I.free,I.uc,λp b=>(br.mp b).elim (λz=>I.pin p (List.mem_append_left _ z)) (h p),I.hok,I.len⟩
theorem LV{N:List Str}(e:N.Nodup){i j:Nat}{x:Str}(a:N[i]?=some x)(b:N[j]?=some x):i=j:=by
 obtain⟨f,d⟩:=ai.mp a;obtain⟨g,c⟩:=ai.mp b;exact (List.getElem_inj e).mp (d.trans c.symm)
theorem Jo{M:Model}{A:Around}{E:Value->Shared->Prop}{i:Nat}{x:Str}{v:V}{u:Value}{Q:Unit->Shared->Prop}(I:Inv X pins σ H s)(hN:X.N.Nodup)(L:X.N[i]?=some x)(t:Loc X.env.scope x)(r:RelV v u)
 (h:∀s',Inv X pins (σ.set i (some v)) H s'->(∃a,Heap.SameBut a s.heap s'.heap/\(a=X.env.locals∨X.env.cells.lookup x=some a))->Q () s') (hf:X.fn x=true∨X.env.scope.names.lookup x=some .local:=by first|exact .inl rfl|exact .inr rfl|assumption):wpAny M A (storeName X.env x u) Q E s:=by
 obtain⟨m,Y,hl⟩:=id I.loc;have O:(X.env.scope.kind==.class || (X.env.scope.kind==.module&&X.env.locals != X.env.globals))=false:=by rw[I.ok.kind];rfl
 have K:i<σ.length:=by rw[I.len];exact (ai.mp L).1
 have ZE:=I.ZE;have g:∀{a:Addr} {h':Heap},(∃o,s.heap.get? a=some o/\H a=none)->Heap.SameBut a s.heap h'->yM X.prog X.w H h':=λ{a h'} ha f b ob e=>by
  obtain⟨_,_,B⟩:=ha;refine (I.hok b ob e).stay (λc S hc q=>(f.2 c ?_).trans q) (λ_ q=>q) λ_ _ q=>q;rintro rfl;rcases hc with rfl|hc
  ·rw[B] at e;cases e
  ·rw[B] at hc;cases hc
 rcases t with hk|hk
 ·refine wpAny_storeName_local hk Y (λh' hn' f=>?_) O
  obtain⟨oL,_,_,hoL,_⟩:=id Y;refine h _ ⟨I.ok,I.os,I.bare,⟨λb o e n G t=>?_,λb o e n G t=>?_,I.base.free,λb o e t=>?_,I.base.tups,I.base.AV,I.base.Cq⟩,⟨_,hn',λj y W l C e3=>?_⟩,λy c e=>?_,I.free,I.uc,λp hp=>?_,g ⟨oL,hoL,I.free⟩ f,by simpa using I.len⟩ ⟨_,f,.inl rfl⟩
  ·exact (f.2 b (bE (bH (Heap.lt_size e) I.ok.above))).trans (I.base.keep b o e n G t)
  ·obtain⟨sl,l⟩:=I.base.slot b o e n G t
   exact⟨sl,(f.2 b (bE (bH (Heap.lt_size e) I.ok.above))).trans l⟩
  ·obtain⟨o',l⟩:=I.base.there b o e t
   exact⟨o',(f.2 b (bE (bH (Heap.lt_size e) I.ok.above))).trans l⟩
  ·by_cases D:j=i
   ·subst D
    rw[L] at l;cases l;rw[List.getElem?_set_self K] at C;cases C;exact⟨u,r,.inl ⟨hk,-_⟩⟩
   ·rw[List.getElem?_set_ne (bK D)] at C
    obtain⟨Z,r',q⟩:=hl j y W l C e3;refine⟨Z,r',?_⟩;rcases q with ⟨k,e⟩|⟨k,c,e,z⟩
    ·refine .inl ⟨k,?_⟩
     have:y≠x:=λe=>D (LV hN l (e▸L))
     simp[this,e]
    ·exact .inr ⟨k,c,e,z.sameBut f (ZE y c e)⟩
  ·obtain⟨S,z⟩:=I.cell y c e
   exact⟨S,z.sameBut f (ZE y c e)⟩
  ·obtain⟨e,n,U,nf,d⟩:=I.pin p hp
   exact⟨(f.2 p.1 U).trans e,n,U,nf,d⟩
 ·have F:X.fn x=true:=by
   rcases hf with z|z
   ·exact z
   ·rw[z] at hk;cases hk
  obtain⟨c,hc⟩:=I.ok.has x (.inl hk);obtain⟨S,z⟩:=I.cell x c hc;refine wpAny_storeName_cell I.ok.kind hk hc z (λh' R f=>?_);obtain⟨oc,P,af4⟩:=id z;refine h {s with heap:=h'} ⟨I.ok,I.os,I.bare,⟨λb o e n G t=>?_,λb o e n G t=>?_,I.base.free,λb o e t=>?_,I.base.tups,I.base.AV,I.base.Cq⟩,⟨m,Y.sameBut f (bK (ZE x c hc)),λj y W l C e3=>?_⟩,λy T e=>?_,I.free,I.uc,λp hp=>?_,g ⟨oc,P,I.uc x c hc⟩ f,by simpa using I.len⟩ ⟨c,f,.inr hc⟩
  ·exact (f.2 b (bE (bH (Heap.lt_size e) (I.ok.nR x c F hc)))).trans (I.base.keep b o e n G t)
  ·obtain⟨sl,l⟩:=I.base.slot b o e n G t
   exact⟨sl,(f.2 b (bE (bH (Heap.lt_size e) (I.ok.nR x c F hc)))).trans l⟩
  ·obtain⟨o',l⟩:=I.base.there b o e t
   exact⟨o',(f.2 b (bE (bH (Heap.lt_size e) (I.ok.nR x c F hc)))).trans l⟩
  ·by_cases D:j=i
   ·subst D
    rw[L] at l;cases l;rw[List.getElem?_set_self K] at C;cases C;exact⟨u,r,.inr ⟨.inl hk,c,hc,R⟩⟩
   ·rw[List.getElem?_set_ne (bK D)] at C
    obtain⟨Z,r',q⟩:=hl j y W l C e3;refine⟨Z,r',?_⟩;rcases q with q|⟨k,T,e,z'⟩
    ·exact .inl q
    ·refine .inr ⟨k,T,e,z'.sameBut f ?_⟩
     rintro rfl;exact D (LV hN l (I.ok.inj _ _ _ e hc▸L))
  ·by_cases J:T=c
   ·subst J;exact⟨_,R⟩
   ·obtain⟨w2,z2⟩:=I.cell y T e
    exact⟨w2,z2.sameBut f J⟩
  ·obtain⟨e,n,U,nf,d⟩:=I.pin p hp
   refine⟨(f.2 p.1 ?_).trans e,n,U,nf,d⟩;intro q;rw[q,P] at e;have q':oc=p.2:=aK e;exact d S (by rw[<- q'];exact af4)
theorem yN{M:Model}{A:Around}{E:Value->Shared->Prop}{i:Nat}{x:Str}{v:V}{u:Value}{Q:Unit->Shared->Prop}(I:Inv X pins σ H s)(e:X.N.Nodup)(a:X.N[i]?=some x)(c:Loc X.env.scope x)(r:RelV v u)
 (h:∀s',Inv X pins (σ.set i (some v)) H s'->Q () s') (d:X.fn x=true∨X.env.scope.names.lookup x=some .local:=by first|exact .inl rfl|exact .inr rfl|assumption):wpAny M A (storeName X.env x u) Q E s :=
 Jo I e a c r (λs' b _=>h s' b) d
theorem Inv.Yo{s':Shared}{ch:List Addr}(I:Inv X pins σ H s)(h:s'.os=s.os)(u:Un (frs X.stack) ch H H' s.heap s'.heap)(a:yM X.prog X.w H' s'.heap)(f:AllBare s'.gens)
 (d:∀b∈ch,(b∈X.ex∨X.s₀.heap.objs.size<=b)/\b≠X.env.locals/\(∀x c,X.env.cells.lookup x=some c->c≠b)/\∀p∈X.pn++pins,p.1≠b):Inv X pins σ H' s':=by
 obtain⟨h',g',d',t',g⟩:=s';have e:g=s.os:=h;subst e;exact I.call (g':=g') (t':=t') (d':=d') u a f d
end
abbrev XK:=Value->Option Addr->Hp->Prop
abbrev St:=List (Option V)
abbrev VK:=V->Hp->Prop
abbrev TE:=St->Hp->VK->Prop
abbrev TT:=St->Hp->(Bool->Hp->Prop)->Prop
abbrev TA:=St->Hp->(List V->Hp->Prop)->Prop
structure Ends where
 nx:St->Hp->Prop
 rt:VK
 bk:St->Hp->Prop:=λ_ _=>False
 ct:St->Hp->Prop:=λ_ _=>False
abbrev TS:=Ends->St->Hp->Prop
inductive EP(X:Cx)(pins:List (Addr×Obj))(σ:St)(Q:VK)(u:Value)(s':Shared):Prop
 |mk (v:V) (H':Hp) (a:Inv X pins σ H' s') (b:RelV v u) (c:Q v H'):EP X pins σ Q u s'
inductive TP(X:Cx)(pins:List (Addr×Obj))(σ:St)(Q:Bool->Hp->Prop)(b:Bool)(s':Shared):Prop
 |mk (H':Hp) (a:Inv X pins σ H' s') (c:Q b H'):TP X pins σ Q b s'
inductive AP(X:Cx)(pins:List (Addr×Obj))(σ:St)(Q:List V->Hp->Prop)(us:List Value)(s':Shared):Prop
 |mk (vs:List V) (H':Hp) (a:Inv X pins σ H' s') (b:bZ vs us) (c:Q vs H'):AP X pins σ Q us s'
def SP(X:Cx)(pins:List (Addr×Obj))(D:Ends)(f:Flow)(s':Shared):Prop :=
 match f with
 |.next=>∃σ' H',Inv X pins σ' H' s'/\D.nx σ' H'
 |.brk=>∃σ' H',Inv X pins σ' H' s'/\D.bk σ' H'
 |.cont=>∃σ' H',Inv X pins σ' H' s'/\D.ct σ' H'
 |.ret u=>∃v σ' H',Inv X pins σ' H' s'/\RelV v u/\D.rt v H'
def PE(X:Cx)(e:Expr)(t:TE):Prop :=
 ∀(pins:List (Addr×Obj)) (s:Shared) (σ:St) (H:Hp) (Q:VK),Inv X pins σ H s->t σ H Q->wpAny (model X.prog X.w) X.A (eval e X.env) (EP X pins σ Q) X.xe s
def PT(X:Cx)(e:Expr)(t:TT):Prop :=
 ∀(pins:List (Addr×Obj)) (s:Shared) (σ:St) (H:Hp) (Q:Bool->Hp->Prop),Inv X pins σ H s->t σ H Q->wpAny (model X.prog X.w) X.A (isTrue e X.env (eval e X.env)) (TP X pins σ Q) X.xe s
def PW(X:Cx)(e:Expr)(t:TT):Prop :=
 ∀(whole:Sem Value) (pins:List (Addr×Obj)) (s:Shared) (σ:St) (H:Hp) (Q:Bool->Hp->Prop),Inv X pins σ H s->t σ H Q->wpAny (model X.prog X.w) X.A (isTrue e X.env whole) (TP X pins σ Q) X.xe s
theorem PW.pt{X:Cx}{e:Expr}{t:TT}(h:PW X e t):PT X e t:=h _
def PA(X:Cx)(es:List Expr)(t:TA):Prop :=
 ∀(pos:Pos) (pins:List (Addr×Obj)) (s:Shared) (σ:St) (H:Hp) (Q:List V->Hp->Prop),Inv X pins σ H s->t σ H Q->wpAny (model X.prog X.w) X.A (spliced (backTo pos (starEach es X.env))) (AP X pins σ Q) X.xe s
def PS(X:Cx)(st:Stmt)(t:TS):Prop :=
 ∀(pins:List (Addr×Obj)) (s:Shared) (σ:St) (H:Hp) (D:Ends),Inv X pins σ H s->t D σ H->wpAny (model X.prog X.w) X.A (exec st X.env) (SP X pins D) X.xe s
def iD(X:Cx)(st:List Stmt)(t:TS):Prop :=
 ∀(pins:List (Addr×Obj)) (s:Shared) (σ:St) (H:Hp) (D:Ends),Inv X pins σ H s->t D σ H->wpAny (model X.prog X.w) X.A (execs st X.env) (SP X pins D) X.xe s
theorem gA{α:Type}{t:Sem α}{Q b:α->Shared->Prop}{M:Model}{A:Around}{E:Value->Shared->Prop}{s:Shared}(h:wpAny M A t Q E s)(c:∀a s,Q a s->b a s):wpAny M A t b E s:=wpAny_mono h c λ_ _ x=>x
section
variable{X:Cx}
inductive Kg(i:Nat)(σ:St)(H:Hp)(Q:VK):Prop
 |mk (v:V) (a:σ[i]?=some (some v)) (b:Q v H):Kg i σ H Q
def tC(v:V):TE:=λ_ H Q=>Q v H
theorem ZF{i:Nat}{x:Str}{f:Pos}(w:X.N[i]?=some x)(p:Qa X.env.scope x)(j:(x==("__debug__" : Str))=false:=by decide)(g:(x==("__classdict__" : Str))=false:=by decide):PE X (.Name x f) (Kg i):=by
 intro d s q H Q I h;obtain⟨v,e,h⟩:=h;obtain⟨m,o,t⟩:=I.loc;obtain⟨u,r,l⟩:=t i x v w e p;have b:EP X d q Q u s:=⟨v,H,I,r,h⟩;rcases l with ⟨hk,n⟩|⟨hk,c,k,a⟩
 ·exact wpAny_Name (wpAny_loadName_local I.ok.kind hk o n b) j
 ·rcases hk with hk|hk
  ·exact wpAny_Name (wpAny_loadName_cell I.ok.kind hk k a b) j
  ·exact wpAny_Name (wpAny_loadName_free I.ok.kind hk k a b g) j
theorem aB{i j pos}:PE X (.Constant (.int i) j pos) (tC (.int i)):=λ_ _ _ H _ I h=>wpAny_Constant_int ⟨.int i,H,I.tok _,⟨_,rfl⟩,h⟩
theorem PM{b j pos}:PE X (.Constant (.bool b) j pos) (tC (.bl b)):=λ_ _ _ H _ I h=>Constant_bool ⟨.bl b,H,I,rfl,h⟩
theorem iO{j pos}:PE X (.Constant .none j pos) (tC .fH):=λ_ _ _ H _ I h=>Constant_none ⟨.fH,H,I,rfl,h⟩
theorem gG{x j pos}:PE X (.Constant (.str x) j pos) (tC (.str x)):=λ_ _ _ H _ I h=>Calls.Constant_str ⟨.str x,H,I.tok _,⟨_,rfl⟩,h⟩
def Gl(X:Cx)(x:Str):Prop:=X.env.kindOf x=some .globalImplicit
theorem Cs{E:Value->Shared->Prop}{a:List (Addr×Obj)}{s:Shared}{e:St}{H:Hp}{x:Str}{u:Value}{b:Pos}{Q:Value->Shared->Prop}(I:Inv X a e H s)(d:Gl X x)(c:X.mg x=some u)(h:Q u s)
 (f:(x==("__debug__" : Str))=false:=by decide):wpAny (model X.prog X.w) X.A (eval (.Name x b) X.env) Q E s :=
 Calls.Name_function_global I.ok.kind d (Calls.loadGlobal_global (by rw[I.ok.glob];exact I.mod.glob.keeps I.bk) c h) f
theorem Gv{E:Value->Shared->Prop}{a:List (Addr×Obj)}{s:Shared}{k:St}{H:Hp}{x:Str}{u:Value}{b:Pos}{Q:Value->Shared->Prop}(I:Inv X a k H s)(i:Gl X x)(c:X.mg x=none)(g:bootBuiltins x=some u)(h:Q u s)
 (e:x≠"__name__" := by decide) (j:(x==("__debug__" : Str))=false:=by decide):wpAny (model X.prog X.w) X.A (eval (.Name x b) X.env) Q E s:=by
 obtain⟨l,d,f⟩:=I.mod.blt;exact Calls.Name_function_global I.ok.kind i (Calls.loadGlobal_builtin (by rw[I.ok.glob];exact I.mod.glob.keeps I.bk) c (by rw[I.ok.blt];exact d.keeps I.bk) ((f x e).trans g) h) j
theorem mJ{x:Str}{v:V}{u:Value}{a:Pos}(c:Gl X x)(b:X.mg x=some u)(r:RelV v u)(d:(x==("__debug__" : Str))=false:=by decide):PE X (.Name x a) (tC v) :=
 λ_ _ _ H _ I h=>Cs I c b ⟨v,H,I,r,h⟩ d
theorem Ct{x:Str}{v:V}{u:Value}{a:Pos}(e:Gl X x)(c:X.mg x=none)(d:bootBuiltins x=some u)(r:RelV v u)(b:x≠"__name__" := by decide)(f:(x==("__debug__" : Str))=false:=by decide):PE X (.Name x a) (tC v) :=
 λ_ _ _ H _ I h=>Gv I e c d ⟨v,H,I,r,h⟩ b f
variable{a b:Expr}{ta tb:TE}{pos:Pos}
def PC(X:Cx)(op:CmpOp)(a b:Expr)(t:TE):Prop :=
 ∀(pins:List (Addr×Obj)) (s:Shared) (σ:St) (H:Hp) (Q:VK),Inv X pins σ H s->t σ H Q ->
  wpAny (model X.prog X.w) X.A (eval a X.env) (λv s₁=>wpAny (model X.prog X.w) X.A (eval b X.env) (λu s₂=>wpAny (model X.prog X.w) X.A (compareOp op v u) (EP X pins σ Q) X.xe s₂) X.xe s₁) X.xe s
inductive BlR(Q:Bool->Hp->Prop)(x:V)(H1:Hp):Prop
 |mk (c:Bool) (a:x=.bl c) (b:Q c H1):BlR Q x H1
def tB(t:TE):TT:=λσ H Q=>t σ H (BlR Q)
theorem S8{op:CmpOp}{t:TE}(h:PC X op a b t)(f:behindInMarks op b=false:=by first|exact acn _ (!_) (!_)|rfl):PT X (.Compare a [op] [b] pos) (tB t):=by
 intro e s k H Q I g;refine wpAny_isTrue_Compare1 (gA (h e s k H _ I g) λv r f=>gA f λu p j=>gA j λc o ⟨x,m,i,l,n⟩=>?_) f;obtain⟨d,rfl,q⟩:=n;cases l;exact wpAny_truthy_bool ⟨m,i,q⟩
theorem wM{e:Expr}{t:TE}(h:PE X e t)(g:∀a,isTrue e X.env a=(do let v <- a;standAt e.pos;holding [v] (truthy v)):=by intro _;rfl):PT X e (tB t):=by
 intro b s i H Q I c;refine isTrue_plain (gA (h b s i H _ I c) λv m ⟨x,k,f,j,l⟩=>?_) (g _);obtain⟨d,rfl,q⟩:=l;cases j;exact wpAny_truthy_bool ⟨k,f,q⟩
variable{tA BS:TT}{rest:List Expr}
def af6(t u:TT):TT:=λσ H Q=>t σ H λc H1=>if c=true then u σ H1 Q else Q false H1
def tOr(t u:TT):TT:=λσ H Q=>t σ H λc H1=>if c=true then Q true H1 else u σ H1 Q
def af7(t:TT):TT:=λσ H Q=>t σ H λc H1=>Q (!c) H1
theorem wN(d:PT X a tA):PW X (.BoolOp .And [a] pos) tA:=by
 intro i b s f H Q I h;refine isTrue_and (gA (d b s f H Q I h) λc g e=>?_);cases c with
 |true=>exact isTrue_and_nil e
 |false=>exact e
theorem Kh(d:PT X a tA):PW X (.BoolOp .Or [a] pos) tA:=by
 intro i b s f H Q I h;refine isTrue_or (gA (d b s f H Q I h) λc g e=>?_);cases c with
 |false=>exact isTrue_or_nil e
 |true=>exact e
theorem Bs(k:PT X a tA)(m:PW X (.BoolOp .And (b::rest) pos) BS):PW X (.BoolOp .And (a::b::rest) pos) (af6 tA BS):=by
 intro j d s f H Q I h;refine isTrue_and (gA (k d s f H _ I h) λc l ⟨g,e,i⟩=>?_);cases c with
 |true=>exact m j d l f g Q e i
 |false=>exact⟨g,e,i⟩
theorem Jp(k:PT X a tA)(m:PW X (.BoolOp .Or (b::rest) pos) BS):PW X (.BoolOp .Or (a::b::rest) pos) (tOr tA BS):=by
 intro j d s f H Q I h;refine isTrue_or (gA (k d s f H _ I h) λc l ⟨g,e,i⟩=>?_);cases c with
 |true=>exact⟨g,e,i⟩
 |false=>exact m j d l f g Q e i
theorem jo(e:PT X a tA):PT X (.UnaryOp .Not a pos) (af7 tA):=by
 intro b s g H Q I h;exact isTrue_not (gA (e b s g H (λc d=>Q (!c) d) I h) λ_ _ ⟨d,i,f⟩=>⟨d,i,f⟩)
def acp(ta tb:TE):TE:=λσ H Q=>ta σ H λx H1=>∃c,x=.bl c/\if c=true then tb σ H1 Q else Q (.bl false) H1
def acq(ta:TE):TE:=λσ H Q=>ta σ H λx H1=>∃c,x=.bl c/\Q (.bl (!c)) H1
theorem Tc{op}{t:TE}(h:PE X a t):PE X (.BoolOp op [a] pos) t:=λb s d H Q I c=>BoolOp_one (h b s d H Q I c)
theorem NT(j:PE X a ta)(m:PE X (.BoolOp .And (b::rest) pos) tb):PE X (.BoolOp .And (a::b::rest) pos) (acp ta tb):=by
 intro d s g H Q I h;refine BoolOp_and (gA (j d s g H _ I h) λv l ⟨x,i,f,k,e⟩=>?_);obtain⟨c,rfl,e⟩:=e;cases k;refine wpAny_truthy_bool ?_;cases c with
 |true=>exact m d l g i Q f e
 |false=>exact⟨.bl false,i,f,rfl,e⟩
theorem ZG(f:PE X a ta):PE X (.UnaryOp .Not a pos) (acq ta):=by
 intro b s i H Q I h;refine UnaryOp_ (gA (f b s i H _ I h) λv k ⟨x,g,j,e,d⟩=>?_);obtain⟨c,rfl,d⟩:=d;cases e;exact not_of (wpAny_truthy_bool ⟨.bl (!c),g,j,rfl,d⟩)
def tIf(t:TT)(ta tb:TE):TE:=λσ H Q=>t σ H λc H1=>if c=true then ta σ H1 Q else tb σ H1 Q
theorem yO{c:Expr}(m:PT X c tA)(l:PE X a ta)(n:PE X b tb):PE X (.IfExp c a b pos) (tIf tA ta tb):=by
 intro e s f H Q I h;refine wpAny_IfExp (gA (m e s f H _ I h) λd g ⟨i,k,j⟩=>?_);cases d with
 |true=>exact l e g f i Q k j
 |false=>exact n e g f i Q k j
end
def bP(K:af)(H:Hp)(a:Addr)(xs:List V):Prop :=
 Rd H a (.lst xs) ∨
  ∃(o:Obj) (its:Array Value) (n:Nat),K.lookup a=some o/\o.cls=.type "list" /\ o.dict=none/\o.data=.seq its n/\its.size<=sizeLine/\bZ xs its.toList
def cP(K:af)(H:Hp)(a:Addr)(xs:List V):Prop :=
 Rd H a (.tup xs) ∨
  ∃(o:Obj) (its:Array Value) (n:Nat),K.lookup a=some o/\o.cls=.type "tuple" /\ o.data=.seq its n/\its.size<=sizeLine/\bZ xs its.toList
noncomputable def af8:Value->Option V
 |.none=>some .fH
 |.bool b=>some (.bl b)
 |.int i _=>some (.int i)
 |.str x _=>some (.str x)
 |.bytes b _=>some (.PK b)
 |.float b _=>some (.ZA b)
 |.ref a=>some (.ref a)
 |.type n=>some (.ty n)
 |_=>none
theorem RelV.abs{x:V}{u:Value}(r:RelV x u):af8 u=some x:=by
 cases x with
 |fH=>cases r;rfl
 |bl _=>cases r;rfl
 |int _=>obtain⟨t,rfl⟩:=r;rfl
 |str _=>obtain⟨t,rfl⟩:=r;rfl
 |PK _=>obtain⟨t,rfl⟩:=r;rfl
 |ZA _=>obtain⟨t,rfl⟩:=r;rfl
 |ref _=>cases r;rfl
 |ty _=>cases r;rfl
theorem RelV.inj{x y:V}{u:Value}(r:RelV x u)(q:RelV y u):x=y:=aK (r.abs.symm.trans q.abs)
theorem bZ.inj:∀{xs a:List V} {us:List Value},bZ xs us->bZ a us->xs=a
 |_,_,_,.nil,.nil=>rfl
 |_,_,_,.cons r t,.cons b t'=>by rw[r.inj b,bZ.inj t t']
section
variable{X:Cx}{pins:List (Addr×Obj)}{σ:St}{H:Hp}{s:Shared}{a:Addr}{xs ys:List V}
theorem bP.of{K:af}(h:H a=some (.lst xs)):bP K H a xs:=.inl (.inl h)
theorem cP.of{K:af}(h:H a=some (.tup xs)):cP K H a xs:=.inl (.inl h)
theorem Inv.list(I:Inv X pins σ H s)(h:bP X.K H a xs):∃b:List Value,bZ xs b/\PlainL s.heap a b.toArray/\xs.length<=sizeLine:=by
 rcases h with h|⟨o,b,n,c,g,f,d,i,r⟩
 ·obtain⟨z,b,n,r,e⟩:=h.ok I.hok
  exact⟨b,r,⟨_,n,e,rfl,rfl,rfl⟩,z⟩
 ·refine⟨b.toList,r,⟨o,n,I.Br a o c,g,f,by simpa using d⟩,?_⟩
  have e:=r.length;simp only[aR] at e;lia
theorem Inv.tuple(I:Inv X pins σ H s)(h:cP X.K H a xs):∃b:List Value,bZ xs b/\IsTup s.heap a b.toArray/\xs.length<=sizeLine:=by
 rcases h with h|⟨o,b,n,c,f,d,g,r⟩
 ·obtain⟨z,b,r,p⟩:=h.ok I.hok
  exact⟨b,r,p,z⟩
 ·refine⟨b.toList,r,⟨o,I.Br a o c,f,n,by simpa using d⟩,?_⟩
  have e:=r.length;simp only[aR] at e;lia
theorem Inv.LW(I:Inv X pins σ H s)(h:bP X.K H a xs)(h':bP X.K H a ys):xs=ys:=by
 obtain⟨c,r,⟨o,n,e,_,_,d⟩,_⟩:=I.list h;obtain⟨b,i,⟨k,j,g,_,_,f⟩,_⟩:=I.list h';rw[e] at g;cases g;rw[d] at f;injection f with d1 _
 have:c=b:=by simpa using gU Array.toList d1
 subst this;exact r.inj i
theorem Inv.Rm(I:Inv X pins σ H s)(h:cP X.K H a xs)(h':cP X.K H a ys):xs=ys:=by
 obtain⟨c,r,⟨o,e,_,n,d⟩,_⟩:=I.tuple h;obtain⟨b,i,⟨k,g,_,j,f⟩,_⟩:=I.tuple h';rw[e] at g;cases g;rw[d] at f;injection f with d1 _
 have:c=b:=by simpa using gU Array.toList d1
 subst this;exact r.inj i
end
noncomputable abbrev Cx.Iv(X:Cx)(E:Value->Shared->Prop):Cx:={X with xe:=E}
noncomputable abbrev Cx.Yp(X:Cx):Cx:=X.Iv λ_ _=>False
theorem Cx.Ok.Iv{X:Cx}(ok:X.Ok)(E:Value->Shared->Prop):(X.Iv E).Ok :=
 ⟨ok.mod,ok.kind,ok.glob,ok.blt,ok.above,ok.inj,ok.has,ok.nR,ok.hd,ok.frames,ok.stk,ok.exf,ok.bs,ok.VU,ok.Rl,ok.S6,ok.Cr,ok.Yn⟩
theorem Cx.Ok.yP{X:Cx}{E:Value->Shared->Prop}(ok:(X.Iv E).Ok):X.Ok :=
 ⟨ok.mod,ok.kind,ok.glob,ok.blt,ok.above,ok.inj,ok.has,ok.nR,ok.hd,ok.frames,ok.stk,ok.exf,ok.bs,ok.VU,ok.Rl,ok.S6,ok.Cr,ok.Yn⟩
section
variable{X:Cx}{pins:List (Addr×Obj)}{σ:St}{H:Hp}{s:Shared}{E:Value->Shared->Prop}
theorem Inv.Iv(I:Inv X pins σ H s)(E:Value->Shared->Prop):Inv (X.Iv E) pins σ H s:=⟨I.ok.Iv E,I.os,I.bare,I.base,I.loc,I.cell,I.free,I.uc,I.pin,I.hok,I.len⟩
theorem Inv.yP(I:Inv (X.Iv E) pins σ H s):Inv X pins σ H s:=⟨I.ok.yP,I.os,I.bare,I.base,I.loc,I.cell,I.free,I.uc,I.pin,I.hok,I.len⟩
theorem SP.yP{D:Ends}{f:Flow}{s':Shared}(h:SP (X.Iv E) pins D f s'):SP X pins D f s':=by
 cases f with
 |next=>obtain⟨a,b,I,q⟩:=h;exact⟨a,b,I.yP,q⟩
 |brk=>obtain⟨a,b,I,q⟩:=h;exact⟨a,b,I.yP,q⟩
 |cont=>obtain⟨a,b,I,q⟩:=h;exact⟨a,b,I.yP,q⟩
 |ret u=>obtain⟨v,a,b,I,r,q⟩:=h;exact⟨v,a,b,I.yP,r,q⟩
theorem iD.Yp{st:List Stmt}{t:TS}(h:iD X.Yp st t):iD X st t:=λpins s σ H D I a =>
 wpAny_mono (h pins s σ H D (I.Iv _) a) (λ_ _ q=>q.yP) λ_ _ z=>jC z
end
section
variable{X:Cx}{st:Stmt}{rest:List Stmt}{t u:TS}{e:Expr}{te:TE}{pos:Pos}
def acr:TS:=λD σ H=>D.nx σ H
def Rn(t u:TS):TS:=λD σ H=>t {D with nx:=u D} σ H
theorem bz:iD X [] acr:=λ_ _ a H _ I h=>wpAny_execs_nil ⟨a,H,I,h⟩
theorem aq(d:PS X st t)(e:iD X rest u):iD X (st::rest) (Rn t u):=by
 intro a s g H D I h;refine wpAny_execs_cons (gA (d a s g H {D with nx:=u D} I h) λf i q=>?_);cases f with
 |next =>
  obtain⟨b,c,j,q⟩:=q;exact e a i b c D j q
 |ret v=>exact q
 |brk=>exact q
 |cont=>exact q
theorem bI(b:PS X st t):iD X [st] t:=by
 intro a s c H D I h;refine wpAny_execs_cons (gA (b a s c H D I h) λf d q=>?_);cases f with
 |next=>exact wpAny_execs_nil q
 |ret v=>exact q
 |brk=>exact q
 |cont=>exact q
theorem Inv.quiet{a:List (Addr×Obj)}{b:St}{H:Hp}{s:Shared}(I:Inv X a b H s):interactive X.env=false:=by simp[interactive,I.ok.kind]
def Yq(te:TE):TS:=λD σ H=>te σ H λ_ H1=>D.nx σ H1
theorem fE(i:PE X e te)(f:swapsWith e none pos.line X.env=pure false:=by rfl):PS X (.Expr e pos) (Yq te):=by
 intro a s b H D I h;exact wpAny_Expr_any (gA (i a s b H _ I h) λv j ⟨x,c,g,k,d⟩=>⟨b,c,g,d⟩) I.quiet f
def ZH(te:TE):TS:=λD σ H=>te σ H D.rt
theorem Td(i:PE X e te):PS X (.Return (some e) pos) (ZH te):=by
 intro a s b H D I h;exact wpAny_Return_some (gA (i a s b H _ I h) λv j ⟨x,d,g,c,f⟩=>⟨x,b,d,g,c,f⟩)
def Te(c:TT)(t u:TS):TS:=λD σ H=>c σ H λb H1=>if b=true then t D σ H1 else u D σ H1
theorem cD{c:Expr}{a b:List Stmt}{i:TT}(m:PT X c i)(n:iD X a t)(o:iD X b u):PS X (.If c a b pos) (Te i t u):=by
 intro e s f H D I h;refine wpAny_If (gA (m e s f H _ I h) λd j ⟨k,g,l⟩=>?_);cases d with
 |true=>exact n e j f k D g l
 |false=>exact o e j f k D g l
def ZI:TS:=λ_ _ _=>False
theorem dO{a:List Stmt}:iD X a ZI:=λ_ _ _ _ _ _ h=>h.elim
end
abbrev TG:=V->St->Hp->(St->Hp->Prop)->Prop
abbrev ZJ:=List V->St->Hp->(St->Hp->Prop)->Prop
def PG(X:Cx)(target:Expr)(t:TG):Prop :=
 ∀(pins:List (Addr×Obj)) (s:Shared) (σ:St) (H:Hp) (v:V) (u:Value) (Q:St->Hp->Prop),Inv X pins σ H s->RelV v u->t v σ H Q ->
  wpAny (model X.prog X.w) X.A (assign target X.env u) (λ_ s'=>∃σ' H',Inv X pins σ' H' s'/\Q σ' H') X.xe s
def kC(X:Cx)(ts:List Expr)(t:ZJ):Prop :=
 ∀(pins:List (Addr×Obj)) (s:Shared) (σ:St) (H:Hp) (vs:List V) (us:List Value) (Q:St->Hp->Prop),Inv X pins σ H s->bZ vs us->t vs σ H Q ->
  wpAny (model X.prog X.w) X.A (assignInOrder ((assignEach ts X.env).map (·.2)) us) (λ_ s'=>∃σ' H',Inv X pins σ' H' s'/\Q σ' H') X.xe s
abbrev ZK:=V->V->V->Hp->(Hp->Prop)->Prop
def acs(X:Cx)(t:ZK):Prop :=
 ∀(pins:List (Addr×Obj)) (s:Shared) (σ:St) (H:Hp) (o i v:V) (ov iv u:Value) (Q:Hp->Prop),Inv X pins σ H s->RelV o ov->RelV i iv->RelV v u->t o i v H Q ->
  wpAny (model X.prog X.w) X.A (setItem ov iv u) (λ_ s'=>∃H',Inv X pins σ H' s'/\Q H') X.xe s
abbrev Qz:=V->V->Hp->VK->Prop
def PIp(X:Cx)(op:Operator)(t:Qz):Prop :=
 ∀(pins:List (Addr×Obj)) (s:Shared) (σ:St) (H:Hp) (x y:V) (v u:Value) (Q:VK),Inv X pins σ H s->RelV x v->RelV y u->t x y H Q ->
  wpAny (model X.prog X.w) X.A (inplaceOp op v u) (EP X pins σ Q) X.xe s
section
variable{X:Cx}{pos:Pos}
def iz(i:Nat):TG:=λv σ H Q=>Q (σ.set i (some v)) H
theorem PN{i:Nat}{x:Str}(f:X.N.Nodup)(b:X.N[i]?=some x)(d:Loc X.env.scope x)(e:X.fn x=true∨X.env.scope.names.lookup x=some .local:=by first|exact .inl rfl|exact .inr rfl|assumption):PG X (.Name x pos) (iz i):=by
 intro a s g H v u Q I r h;exact wpAny_assign_Name (yN I f b d r (λj c=>⟨_,H,c,h⟩) e)
def af9:ZJ:=λvs σ H Q=>vs=[]/\Q σ H
inductive Yr(t:TG)(u:ZJ)(vs:List V)(σ:St)(H:Hp)(Q:St->Hp->Prop):Prop
 |mk (v:V) (r:List V) (a:vs=v::r) (b:t v σ H λσ' H'=>u r σ' H' Q):Yr t u vs σ H Q
theorem Ay:kC X [] af9:=by
 intro a s b H c d Q I r h;obtain⟨e,h⟩:=h;subst e;cases r;exact assignInOrder_nil ⟨b,H,I,h⟩
theorem i0{e:Expr}{b:List Expr}{t:TG}{u:ZJ}(d:PG X e t)(i:kC X b u)
 (j:(assignEach (e::b) X.env).map (·.2)=assign e X.env::(assignEach b X.env).map (·.2):=by rfl):kC X (e::b) (Yr t u):=by
 intro a s k H q p Q I r h;obtain⟨v,w,f,h⟩:=h;subst f;cases r with
 |cons r l =>
  rw[j];refine assignInOrder_cons (gA (d a s k H _ _ _ I r h) λ_ m ⟨c,n,g,o⟩=>?_);exact i a m c n _ _ Q g l o
inductive ZL(K:af)(n:Nat)(t:ZJ)(v:V)(σ:St)(H:Hp)(Q:St->Hp->Prop):Prop
 |mk (a:Addr) (xs:List V) (h1:v=.ref a) (h2:cP K H a xs) (h3:xs.length=n) (h4:t xs σ H Q):ZL K n t v σ H Q
theorem Kl{d:List Expr}{k:Nat}{t:ZJ}{n:Nat}(w:X.calm=true)(h:kC X d t)
 (x:(assignEach d X.env).length=n:=by rfl) (g:(assignEach d X.env).findIdx? (·.1)=none:=by rfl):PG X (.Tuple d k pos) (ZL X.K n t):=by
 intro c s i H v u Q I r f;obtain⟨a,y,m,B,A,f⟩:=f;subst m;cases r;obtain⟨l,j,C,D⟩:=I.tuple B;refine assign_Tuple_tuple (I.ok.hd w) C (by simp[x,<- A,j.length]) g λz q=>?_;have p:Inv X c i H {s with heap:=z}:=I.kept (t':=s.toks) λb o e=>q b o (bE (Heap.lt_size e)) e;exact h c _ i H y _ Q p (by simpa using j) f
def aga(to ti:TE)(t:ZK):TG:=λv σ H Q=>to σ H λo H1=>ti σ H1 λi H2=>t o i v H2 λH3=>Q σ H3
theorem ZM{o i:Expr}{to e:TE}{t:ZK}(z:PE X o to)(k:PE X i e)(p:acs X t)
 (w:∀v,assign (.Subscript o i pos) X.env v=(do
  let b <- holding [v] (eval o X.env);let c <- holding [v,b] (eval i X.env)
  standAt pos
  holding [v,b,c] (setItem b c v)
  release [v,b,c] []):=by intro _;rfl):PG X (.Subscript o i pos) (aga to e t):=by
 intro a s d H v u Q I r h;rw[w];refine wpAny_bind (wpAny_holding (gA (z a s d H _ I h) λb C ⟨x,D,g,B,E⟩=>?_));refine wpAny_bind (wpAny_holding (gA (k a C d D _ g E) λc A ⟨y,f,q,F,j⟩=>?_));refine wpAny_bind (wpAny_standAt (wpAny_bind (wpAny_holding (gA (p a A d f x y v b c u _ q B F r j) λ_ G ⟨l,m,n⟩=>?_))));exact wpAny_release ⟨d,l,m,n⟩
def We(te:TE)(g:TG):TS:=λD σ H=>te σ H λx H1=>g x σ H1 D.nx
theorem NU{b e:Expr}{d:TE}{g:TG}(k:PE X e d)(l:PG X b g)(m:swapsWithSole [b] e pos.line X.env=pure false:=by rfl)(i:swappedStores [b] e X.env=pure none:=by rfl)
 (f:(assignEach [b] X.env).map (·.2)=[assign b X.env]:=by rfl):PS X (.Assign [b] e pos) (We d g):=by
 intro a s c H D I h;refine wpAny_Assign_stores (gA (k a s c H _ I h) λv o ⟨x,p,j,n,r⟩=>?_) m i;rw[f];exact gA (l a o c p x v _ j n r) λ_ t q=>q
theorem ZN{i:Nat}{x:Str}{e:Expr}{c:TE}{a:Pos}(r:X.N.Nodup)(j:X.N[i]?=some x)(f:Loc X.env.scope x)(g:PE X e c)(k:swapsWith e (some (.Name x a)) pos.line X.env=pure false:=by rfl)(m:X.fn x=true∨X.env.scope.names.lookup x=some .local:=by first|exact .inl rfl|exact .inr rfl|assumption) :
 PS X (.Assign [.Name x a] e pos) (We c (iz i)):=by
 intro b s n H D I h;refine wpAny_Assign_Name (gA (g b s n H _ I h) λv u ⟨y,p,d,o,q⟩=>?_) k;exact yN d r j f o (λt l=>⟨_,p,l,q⟩) m
def agb(i j:Nat)(ta:TA):TS:=λD σ H=>ta σ H λvs H1=>∃v w,vs=[v,w]/\D.nx ((σ.set i (some v)).set j (some w)) H1
theorem ZO{i j:Nat}{x y:Str}{a b:Expr}{F:TA}{t n k:Pos}{kt k2 pt2}(Q:X.calm=true)(J:X.N.Nodup)(S:X.N[i]?=some x)(K:X.N[j]?=some y)(l:i≠j)
 (z:X.env.scope.names.lookup x=some .local) (B:X.env.scope.names.lookup y=some .local) (Y:PA X [a,b] F)
 (L:swappedStores [.Tuple [.Name x t,.Name y n] kt k] (.Tuple [a,b] k2 pt2) X.env=pure (some [x,y]))
 (V:swapsWithSole [.Tuple [.Name x t,.Name y n] kt k] (.Tuple [a,b] k2 pt2) pos.line X.env=pure false:=by rfl) :
 PS X (.Assign [.Tuple [.Name x t,.Name y n] kt k] (.Tuple [a,b] k2 pt2) pos) (agb i j F):=by
 intro c s E H D I h;rw[exec_Assign_arm];refine wpAny_bind (wpAny_standAt ?_);rw[V];refine wpAny_bind (wpAny_pure ?_);rw[er (!_)];refine wpAny_bind (Tuple_ (gA (Y _ c s E H _ I h) λR g ⟨vs,G,P,r1,u⟩=>?_));obtain⟨v,w,O,u⟩:=u;subst O;obtain⟨f,d,rfl,rv,m⟩:∃f d,R=[f,d]/\RelV v f/\RelV w d:=by
  cases r1 with
  |cons p q =>
   cases q with
   |cons Z M =>
    cases M;exact⟨_,_,rfl,p,Z⟩
 refine wpAny_newObj_type ?_ g7;have W:Inv X c E G {g with heap:=g.heap.push {cls:=.type "tuple",data:=.seq [f,d].toArray}}:=P.kept (t':=g.toks) λb o e=>Heap.get?_push_of_some _ e;rw[L];refine wpAny_bind (wpAny_pure ?_);show wpAny (model X.prog X.w) X.A (do rule "assign.swapped-stores";let items <- unpackItems (.ref g.heap.objs.size) 2 none;assignInOrder [λv=>bindName X.env y v,λv=>bindName X.env x v] items.reverse;pure Flow.next) _ _ _;refine wpAny_bind (wpAny_rule (wpAny_bind (unpackItems_tuple (items:=#[f,d]) (I.ok.hd Q) (IsTup.new g.heap _) λh' r=>?_)));have U:=W.kept (h':=h') (t':=g.toks) λb o e=>r b o (bE (Heap.lt_size e)) e;show wpAny _ _ (assignInOrder [λv=>bindName X.env y v,λv=>bindName X.env x v] [d,f] >>= λ_=>pure Flow.next) _ _ _;refine wpAny_bind (assignInOrder_cons (wpAny_bindName (yN U J K (.inl B) m (λs2 T=>?_) (.inr B))));refine assignInOrder_cons (wpAny_bindName (yN T J S (.inl z) rv (λs3 C=>assignInOrder_nil (wpAny_pure ?_)) (.inr z)));rw[List.set_comm _ _ (bK l)] at C;exact⟨_,G,C,u⟩
def agd(i:Nat)(te:TE)(ti:Qz):TS:=λD σ H=>∃x,σ[i]?=some (some x)/\te σ H λy H1=>ti x y H1 λz H2=>D.nx (σ.set i (some z)) H2
theorem ZP{i:Nat}{x:Str}{e:Expr}{B:TE}{op:Operator}{p:Qz}{f:Pos}(Y:X.N.Nodup)(q:X.N[i]?=some x)(j:Loc X.env.scope x)(L:PE X e B)(S:PIp X op p)(Q:X.fn x=true∨X.env.scope.names.lookup x=some .local:=by first|exact .inl rfl|exact .inr rfl|assumption) :
 PS X (.AugAssign (.Name x f) op e pos) (agd i B p):=by
 intro a s t H D I h;obtain⟨v,F,h⟩:=h;obtain⟨m,M,R⟩:=I.loc;have n:Qa X.env.scope x:=by rcases j with k|k;exact .inl k;exact .inr (.inl k)
 obtain⟨u,r,l⟩:=R i x v q F n;refine wpAny_AugAssign_Name ?_;have o:wpAny (model X.prog X.w) X.A (eval e X.env) (λw d=>wpAny (model X.prog X.w) X.A (inplaceOp op u w) (λr g=>wpAny (model X.prog X.w) X.A (storeName X.env x r) (λ_=>SP X a D .next) X.xe g) X.xe d) X.xe s:=by
  refine gA (L a s t H _ I h) λw T ⟨y,V,J,U,W⟩=>?_;refine gA (S a T t V v y u w _ J r U W) λz s2 ⟨zv,E,P,Z,K⟩=>?_;exact yN P Y q j Z (λs3 O=>⟨_,E,O,K⟩) Q
 rcases l with ⟨hk,C⟩|⟨hk,c,G,b⟩
 ·exact wpAny_loadName_local I.ok.kind hk M C o
 ·rcases hk with hk|hk
  ·exact wpAny_loadName_cell I.ok.kind hk G b o
  ·rcases j with k|k
   ·have:X.env.scope.names.lookup x=some .free:=hk
    rw[k] at this;cases this
   ·have:X.env.scope.names.lookup x=some .free:=hk
    rw[k] at this;cases this
def ipI(f:Int->Int->Int):Qz:=λx y H Q=>∃i j,x=.int i/\y=.int j/\Q (.int (f i j)) H
theorem ZQ:PIp X .Add (ipI λi j=>i+j):=by
 intro a s g H x y v u Q I d e h;obtain⟨i,j,c,b,q⟩:=h;subst c;subst b;obtain⟨t,rfl⟩:=d;obtain⟨f,rfl⟩:=e;exact iadd_int ⟨.int _,H,I.tok _,⟨_,rfl⟩,q⟩
def NV(c:TT)(tb:TS):TS:=λD σ H=>∃W:Nat->St->Hp->Prop,(∃m,W m σ H)/\∀m σ H,W m σ H ->
 c σ H λb H1=>if b=true then ∃N:St->Hp->Prop,(∀σ' H',N σ' H'->∃m',m'<m/\W m' σ' H')/\tb {D with nx:=N,ct:=N,bk:=D.nx} σ H1 else D.nx σ H1
theorem LX{c:Expr}{g:List Stmt}{C:TT}{y:TS}(B:PassesOwn (model X.prog X.w) X.A X.env X.xe)(K:PT X c C)(P:iD X g y):PS X (.While c g [] pos) (NV C y):=by
 intro d s O H D I h;obtain⟨W,⟨M,G⟩,k⟩:=h;refine wpAny_While (codeAny_whileLoop (λn L=>∃j u,Inv X d j u L/\W n j u) ?_ M ⟨O,H,I,G⟩);rintro n R ⟨e,E,J,S⟩;refine wpAny_passesOwn B (gA (K d R e E _ J (k n e E S)) λb Q ⟨x,z,l⟩=>?_);cases b with
 |true =>
  obtain⟨N,F,l⟩:=l;rw[ee rfl];refine wpAny_passesOwn B (gA (P d Q e x _ z l) λf T m=>?_);cases f with
  |next =>
   obtain⟨a,i,q,r⟩:=m;obtain⟨t,o,p⟩:=F a i r;exact⟨t,o,a,i,q,p⟩
  |cont =>
   obtain⟨a,i,q,r⟩:=m;obtain⟨t,o,p⟩:=F a i r;exact⟨t,o,a,i,q,p⟩
  |brk=>exact m
  |ret v=>exact m
 |false =>
  rw[er aF];exact wpAny_execs_nil ⟨e,x,z,l⟩
end
structure It where
 go:Nat->Hp->Prop
 Km:Nat->Hp->V->Hp->Prop
 stop:Nat->Hp->Prop
def Cu(X:Cx)(pins:List (Addr×Obj))(H:Hp)(b:Addr):Prop :=
 H b=none/\b≠X.env.locals/\b∉X.fs/\(b∈X.ex∨X.s₀.heap.objs.size<=b)/\(∀x c,X.env.cells.lookup x=some c->c≠b)/\∀p∈X.pn++pins,p.1≠b
theorem Inv.Tf{X:Cx}{a:List (Addr×Obj)}{i:St}{H f:Hp}{s:Shared}{b:Addr}(I:Inv X a i H s)(d:s.heap.objs.size<=b)(h:f b=none):Cu X a f b:=by
 refine⟨h,Nat.ne_of_gt (bH I.lt d),I.af3 d,.inr (aN I.sz d),λx c e z=>?_,λp g z=>?_⟩
 ·obtain⟨v,q⟩:=I.cell x c e
  exact eL (bH q.lt (by rw[z];exact d)) (iZ _)
 ·exact eL (bH (Heap.lt_size (I.pin p g).1) (by rw[z];exact d)) (iZ _)
structure Turn(P:Program)(w:World)(K:af)(tg:Expr)(J:It)(fp:List Addr)(it:Addr)(tn:Nat->Heap->Prop):Prop where
 mem:it∈fp
 obj:∀i h,tn i h->∀b∈fp,∃o,h.get? b=some o/\∀v,o.data≠.cell v
 keep:∀i h h',tn i h->(∀b∈fp,∀o,h.get? b=some o->h'.get? b=some o)->tn i h'
 item:∀(X:Cx),X.prog=P->X.w=w->X.K=K->X.calm=true->∀(i:Nat) (pins:List (Addr×Obj)) (s:Shared) (σ:St) (H:Hp) (E:Value->Shared->Prop),Inv X pins σ H s->(∀b∈fp,Cu X pins H b)->tn i s.heap->J.go i H ->
  wpAny (model P w) X.A (pyNext (.ref it)) (λr s1=>∃u,r=some u /\
   wpAny (model P w) X.A (letOwnedTupleGo tg (.ref it) u) (λ_ s2=>∃x H',Inv X pins σ H' s2/\RelV x u/\J.Km i H x H'/\tn (i+1) s2.heap/\∀b∈fp,H' b=none) E s1) E s
 done:∀(X:Cx),X.prog=P->X.w=w->X.K=K->X.calm=true->∀(i:Nat) (pins:List (Addr×Obj)) (s:Shared) (σ:St) (H:Hp) (E:Value->Shared->Prop),Inv X pins σ H s->(∀b∈fp,Cu X pins H b)->tn i s.heap->J.stop i H ->
  wpAny (model P w) X.A (pyNext (.ref it)) (λr s1=>r=none/\Inv X pins σ H s1) E s
 self:∀(A:Around) (i:Nat) (s:Shared) (Q:Value->Shared->Prop) (E:Value->Shared->Prop),tn i s.heap->Q (.ref it) s->wpAny (model P w) A (pyIter (.ref it)) Q E s
abbrev TI:=St->Hp->(It->Hp->Prop)->Prop
def PIE(X:Cx)(pins:List (Addr×Obj))(σ:St)(tg:Expr)(R:It->Hp->Prop)(itv:Value)(s2:Shared):Prop :=
 ∃(it:Addr) (fp:List Addr) (tn:Nat->Heap->Prop) (J:It) (H':Hp),itv=.ref it/\Inv X pins σ H' s2/\Turn X.prog X.w X.K tg J fp it tn/\tn 0 s2.heap/\(∀b∈fp,Cu X pins H' b)/\R J H'
def PI(X:Cx)(tg iter:Expr)(wi:TI):Prop :=
 ∀(pins:List (Addr×Obj)) (s:Shared) (σ:St) (H:Hp) (R:It->Hp->Prop),Inv X pins σ H s->wi σ H R ->
  wpAny (model X.prog X.w) X.A (eval iter X.env) (λv s1=>wpAny (model X.prog X.w) X.A (pyIter v) (PIE X pins σ tg R) X.xe s1) X.xe s
theorem Tg{M:Model}{A:Around}{E:Value->Shared->Prop}{s:Shared}{c:Expr}{b:Addr}{u:Value}{o:Obj}{n:String}{vs:Array Value}{Q:Unit->Shared->Prop}(g:s.heap.get? b=some o)(d:o.cls=.type n)(f:o.data=.fields vs)
 (e:["enumerate","zip","dict_itemiterator","dict_reverseitemiterator","odict_iterator","itertools.zip_longest","itertools.pairwise"].contains n=false) (a:Q () s):wpAny M A (letOwnedTupleGo c (.ref b) u) Q E s:=by
 unfold letOwnedTupleGo;cases c <;> first
  |exact wpAny_pure a
  | (cases u <;> first
   |exact wpAny_pure a
   | (refine wpAny_bind (wpAny_load g ?_)
      rw[d,f];show wpAny M A (if (["enumerate","zip","dict_itemiterator","dict_reverseitemiterator","odict_iterator","itertools.zip_longest","itertools.pairwise"].contains n&&vs[0]?==some (rawInt _))=true then _ else _) Q E s;rw[er (by intro h;rw[e,Bool.false_and] at h;cases h)];exact wpAny_pure a))
noncomputable def Kn(K:af)(a:Addr):It :=
 ⟨λi H=>∃xs x,bP K H a xs/\xs[i]?=some x,λi H x H'=>H'=H/\∀xs,bP K H a xs->xs[i]?=some x,λi H=>∃xs,bP K H a xs/\xs.length<=i⟩
noncomputable def RI(K:af)(a:Addr):It :=
 ⟨λi H=>∃xs x,cP K H a xs/\xs[i]?=some x,λi H x H'=>H'=H/\∀xs,cP K H a xs->xs[i]?=some x,λi H=>∃xs,cP K H a xs/\xs.length<=i⟩
noncomputable def Th(lo:Int)(n:Nat):It:=⟨λi _=>i<n,λi H x H'=>H'=H/\x=.int (lo+i),λi _=>n<=i⟩
theorem Ro{P:Program}{w:World}{K:af}{tg:Expr}(a g:Addr):Turn P w K tg (Kn K a) [g] g (λi h=>h.IsListIter g a i) where
 mem:=-_
 obj:=λi h st b j=>by
  have e:b=g:=by simpa using j
  subst e;obtain⟨o,e,c,d⟩:=st;exact⟨o,e,λv z=>by rw[d] at z;cases z⟩
 keep:=λi h m st k=>st.at λo e=>k g (-_) o e
 item:=by
  intro X y A C N i f s O H E I n st F;subst y A C;obtain⟨U,x,q,B⟩:=F;obtain⟨t,L,p,R⟩:=I.list q;obtain⟨u,Z,Y⟩:=L.get B;obtain⟨D,J,W,G,r,M⟩:=n g (-_);refine wpAny_pyNext_list_item st p.isList (x:=u) (by simpa using Z) λm l S=>?_;have Q:Inv X f O H {s with heap:=m}:=I.turned (t':=s.toks) (λb o j e=>(S.2 b j).trans e) D J G r M;obtain⟨o,e,c,d⟩:=id l;exact⟨u,rfl,Tg (s:={s with heap:=m}) e c d (!_) ⟨x,H,Q,Y,⟨rfl,λys T=>by rw[I.LW T q];exact B⟩,l,λb j=>(n b j).1⟩⟩
 done:=by
  intro X y A C N i f s O H E I n st F;subst y A C;obtain⟨U,q,B⟩:=F;obtain⟨t,L,p,R⟩:=I.list q;obtain⟨D,J,W,G,r,M⟩:=n g (-_);have hl:=L.length;exact wpAny_pyNext_list_end (I.ok.hd N) st p.isList (by simp;lia) λm V=>⟨rfl,I.turned (t':=s.toks) (λb o j e=>V b o j e) D J G r M⟩
 self:=λ_ _ _ _ _ st h=>wpAny_pyIter_listiter st h
theorem NY{P:Program}{w:World}{K:af}{tg:Expr}(a j:Addr):Turn P w K tg (RI K a) [j] j (λi h=>h.IsTupleIter j a i) where
 mem:=-_
 obj:=λi h st b l=>by
  have e:b=j:=by simpa using l
  subst e;obtain⟨o,e,c,d⟩:=st;exact⟨o,e,λv z=>by rw[d] at z;cases z⟩
 keep:=λi h n st k=>st.at λo e=>k j (-_) o e
 item:=by
  intro X y A C N i f s O H E I q st F;subst y A C;obtain⟨U,x,r,B⟩:=F;obtain⟨g,L,p,R⟩:=I.tuple r;obtain⟨u,Z,Y⟩:=L.get B;obtain⟨D,J,W,G,t,M⟩:=q j (-_);refine wpAny_pyNext_tuple_item st (show s.heap.IsTuple a g.toArray from p) (x:=u) (by simpa using Z) λn m S=>?_;have Q:Inv X f O H {s with heap:=n}:=I.turned (t':=s.toks) (λb o l e=>(S.2 b l).trans e) D J G t M;obtain⟨o,e,c,d⟩:=id m;exact⟨u,rfl,Tg (s:={s with heap:=n}) e c d (!_) ⟨x,H,Q,Y,⟨rfl,λys T=>by rw[I.Rm T r];exact B⟩,m,λb l=>(q b l).1⟩⟩
 done:=by
  intro X y A C N i f s O H E I q st F;subst y A C;obtain⟨U,r,B⟩:=F;obtain⟨g,L,p,R⟩:=I.tuple r;obtain⟨D,J,W,G,t,M⟩:=q j (-_);have hl:=L.length;exact wpAny_pyNext_tuple_end (I.ok.hd N) st (show s.heap.IsTuple a g.toArray from p) (by simp;lia) λn V=>⟨rfl,I.turned (t':=s.toks) (λb o l e=>V b o l e) D J G t M⟩
 self:=λ_ _ _ _ _ st h=>wpAny_pyIter_tupleiter st h
theorem NZ{P:Program}{w:World}{K:af}{N:Expr}(a:Addr)(lo:Int)(n:Nat):Turn P w K N (Th lo n) [a] a (λi h=>IsRangeIter h a (lo+(i:Nat)*1) ((n:Int)-(i:Nat)) 1) where
 mem:=-_
 obj:=λi h st b d=>by
  have e:b=a:=by simpa using d
  subst e;exact⟨_,st,λv z=>by
   have F:Data.fields _=Data.cell v:=z;cases F⟩
 keep:=λi h g st k=>k a (-_) _ st
 item:=by
  intro X m p r q i c s D H E I j st x;subst m p r;obtain⟨u,A,M,y,l,B⟩:=j a (-_);have W:=Walks.range (prog:=X.prog) (w:=X.w) (I.ok.hd q) a lo 1 n;refine W.item i s _ _ x st λv g C J f O=>?_;obtain⟨t,rfl⟩:=J;have G:Inv X c D H {s with heap:=g,toks:=C}:=I.turned (λb o d e=>O b o (by simpa using d) e) u A y l B;refine⟨_,rfl,Tg (s:={s with heap:=g,toks:=C}) (n:="range_iterator") f rfl rfl (!_) ⟨.int (lo+i),H,G,⟨t,?_⟩,⟨rfl,rfl⟩,f,λb d=>(j b d).1⟩⟩;rw[Int.mul_one]
 done:=by
  intro X m p r q i c s D H E I j st x;subst m p r;obtain⟨u,A,M,y,l,B⟩:=j a (-_);exact wpAny_pyNext_range_end (I.ok.hd q) st (by have:n<=i:=x;lia) λg L=>⟨rfl,I.turned (t':=s.toks) (λb o d e=>L b o d e) u A y l B⟩
 self:=λ_ _ _ _ _ st h=>wpAny_pyIter_rangeiter st h
section
variable{X:Cx}{tg:Expr}
inductive Ys(K:af)(R:It->Hp->Prop)(x:V)(H1:Hp):Prop
 |mk (a:Addr) (h1:x=.ref a) (h2:∃xs,bP K H1 a xs) (h3:R (Kn K a) H1):Ys K R x H1
def acu(K:af)(tl:TE):TI:=λσ H R=>tl σ H (Ys K R)
def age(K:af)(tl:TE):TI:=λσ H R=>tl σ H λx H1=>∃a,x=.ref a/\(∃xs,cP K H1 a xs)/\R (RI K a) H1
theorem fV{l:Expr}{g:TE}(hl:PE X l g):PI X tg l (acu X.K g):=by
 intro c s j H R I h;refine gA (hl c s j H _ I h) λv f ⟨x,n,d,m,r⟩=>?_;obtain⟨a,e,⟨w,k⟩,q⟩:=r;subst e;cases m;obtain⟨i,y,p,u⟩:=d.list k;refine wpAny_pyIter_list p.isList ?_;refine⟨f.heap.objs.size,[f.heap.objs.size],_,_,n,rfl,d.kept (t':=f.toks) λb o e=>Heap.get?_push_of_some _ e,Ro a _,⟨_,Heap.get?_push_size _ rfl,rfl,rfl⟩,λb t=>?_,q⟩;have e:b=f.heap.objs.size:=by simpa using t
 subst e;exact d.Tf (ay _) (d.hok.fresh (ay _))
theorem Oa{l:Expr}{i:TE}(hl:PE X l i):PI X tg l (age X.K i):=by
 intro c s j H R I h;refine gA (hl c s j H _ I h) λv d ⟨x,n,f,m,r⟩=>?_;obtain⟨a,e,⟨w,k⟩,q⟩:=r;subst e;cases m;obtain⟨g,y,p,u⟩:=f.tuple k;refine wpAny_pyIter_tuple (show d.heap.IsTuple a g.toArray from p) ?_;refine⟨d.heap.objs.size,[d.heap.objs.size],_,_,n,rfl,f.kept (t':=d.toks) λb o e=>Heap.get?_push_of_some _ e,NY a _,⟨_,Heap.get?_push_size _ rfl,rfl,rfl⟩,λb t=>?_,q⟩;have e:b=d.heap.objs.size:=by simpa using t
 subst e;exact f.Tf (ay _) (f.hok.fresh (ay _))
theorem Ti{c:List (Addr×Obj)}{f:St}{H:Hp}{s:Shared}{R:It->Hp->Prop}{E:Value->Shared->Prop}{lo a:Int}{t u v:Tok}{tk:Nat}(I:Inv X c f H s)(g:-(2^62)<=lo)(k:lo<2^62)(l:-(2^62)<=a)(j:a<2^62)
 (q:R (Th lo (a-lo).toNat) H):wpAny (model X.prog X.w) X.A (pyIter (.ref s.heap.objs.size)) (PIE X c f tg R) E {s with heap:=s.heap.push {cls:=.type "range",data:=.fields #[.int lo t,.int a u,.int 1 v]},toks:=tk}:=by
 refine wpAny_pyIter_range (IsRange.new ..) (small_one g k l j) ?_;have d:Inv X c f H {s with heap:=s.heap.push {cls:=.type "range",data:=.fields #[.int lo t,.int a u,.int 1 v]},toks:=tk}:=I.kept λb o e=>Heap.get?_push_of_some _ e;refine⟨(s.heap.push {cls:=.type "range",data:=.fields #[.int lo t,.int a u,.int 1 v]}).objs.size,[(s.heap.push {cls:=.type "range",data:=.fields #[.int lo t,.int a u,.int 1 v]}).objs.size],_,_,H,rfl,
  d.kept (t':=tk) λb o e=>Heap.get?_push_of_some _ e,NZ _ lo (a-lo).toNat,?_,λb m=>?_,q⟩
 ·have i:lo+((0:Nat):Int)*1=lo:=-_
  have h:(((a-lo).toNat:Nat):Int)-((0:Nat):Int)=Builtin.Range.rangeSize lo a 1:=by rw[rangeSize_one];split <;> lia
  show IsRangeIter _ _ (lo+((0:Nat):Int)*1) ((((a-lo).toNat:Nat):Int)-((0:Nat):Int)) 1;rw[i,h];exact Heap.get?_push_size _ rfl
 ·have e:b=(s.heap.push {cls:=.type "range",data:=.fields #[.int lo t,.int a u,.int 1 v]}).objs.size:=by simpa using m
  subst e;exact d.Tf (ay _) (d.hok.fresh (ay _))
inductive Yt(R:It->Hp->Prop)(vs:List V)(H1:Hp):Prop
 |mk (j:Int) (h1:vs=[.int j]) (h2:-(2^62)<=j) (h3:j<2^62) (h4:R (Th 0 j.toNat) H1):Yt R vs H1
def Yu(ta:TA):TI:=λσ H R=>ta σ H (Yt R)
theorem gB{a:Expr}{f:TA}{p b:Pos}(l:Gl X "range")(g:X.mg "range" = none)(n:PA X [a] f)(m:starEach [a] X.env=[(false,eval a X.env)]:=by rfl):PI X tg (.Call (.Name "range" p) [a] [] b) (Yu f):=by
 intro c s o H R I h;refine Call_ (Gv I l g boot_range (PyProof.Rows.callWith_type1 (gA (n b c s o H _ I h) λw y ⟨x,z,i,v,d⟩=>?_) m rfl));obtain⟨j,e,d,k,q⟩:=d;subst e;cases v with
 |cons r u =>
  cases u;obtain⟨t,rfl⟩:=r;exact call_range_1 (Ti i ∅ ∅ d k (by simpa using q))
def ZR(wi:TI)(g:TG)(tb:TS):TS:=λD σ H=>wi σ H λJ H1=>∃W:Nat->Nat->St->Hp->Prop,(∃m,W 0 m σ H1)/\∀i m σ H,W i m σ H ->
 (J.stop i H/\D.nx σ H)∨(J.go i H/\∃N:St->Hp->Prop,(∀σ' H',N σ' H'->∃m',m'<m/\W (i+1) m' σ' H')/\∀x H',J.Km i H x H'->g x σ H' λσ2 H2=>tb {D with nx:=N,ct:=N,bk:=D.nx} σ2 H2)
noncomputable def Gw(fp:List Addr)(h:Heap):List (Addr×Obj):=fp.filterMap λb=>(h.get? b).map λo=>(b,o)
theorem Bt{fp:List Addr}{h:Heap}{b:Addr}{o:Obj}(a:b∈fp)(e:h.get? b=some o):(b,o)∈Gw fp h:=List.mem_filterMap.mpr ⟨b,a,by rw[e];rfl⟩
theorem Rp{fp:List Addr}{h:Heap}{p:Addr×Obj}(a:p∈Gw fp h):p.1∈fp/\h.get? p.1=some p.2:=by
 obtain⟨b,d,e⟩:=List.mem_filterMap.mp a;cases q:h.get? b with
 |none=>rw[q] at e;cases e
 |some o =>
  rw[q] at e;have c:(b,o)=p:=aK e;subst c;exact⟨d,q⟩
theorem Inv.pinned{a:List (Addr×Obj)}{c:St}{H:Hp}{s:Shared}{fp:List Addr}(I:Inv X a c H s)(j:∀b∈fp,Cu X a H b)(k:∀b∈fp,∃o,s.heap.get? b=some o/\∀v,o.data≠.cell v):Inv X (a++Gw fp s.heap) c H s :=
 I.PL λp m=>(br.mp m).elim (λz=>I.pin p (cY _ z)) λz=>by
  obtain⟨g,e⟩:=Rp z;obtain⟨h,l,i,_⟩:=j p.1 g;obtain⟨o,f,d⟩:=k p.1 g;rw[e] at f;cases f;exact⟨e,h,l,i,d⟩
theorem Inv.Cv{a pl:List (Addr×Obj)}{b:St}{H:Hp}{s:Shared}(I:Inv X (a++pl) b H s):Inv X a b H s:=I.PL λp c=>I.pin p (cY _ (List.mem_append_left _ c))
theorem ZS{q:Expr}{B:List Stmt}{wi:TI}{g:TG}{tb:TS}{Z:Pos}(F:PassesOwn (model X.prog X.w) X.A X.env X.xe)(hc:X.calm=true)(hi:PI X tg q wi)(hg:PG X tg g)(y:iD X B tb)
 (hs:∀x,foldedSetIterable q X.env x=pure x:=by intro _;rfl):PS X (.For tg q B [] Z) (ZR wi g tb):=by
 intro a s σ H D I h;refine wpAny_For (gA (hi a s σ H _ I h) λv s1 h1=>gA h1 λitv s2 h2=>?_) hs;obtain⟨it,L,tn,J,H2,e,I2,T,S,f2,W,⟨m0,w0⟩,M⟩:=h2;subst e;have p:∀{z:Hp},(∀b∈L,z b=none)->∀b∈L,Cu X a z b:=λhn b y=>⟨hn b y,(f2 b y).2⟩;refine codeAny_forLoop_any (λn s'=>∃i k z,Inv X a k z s'/\tn i s'.heap/\(∀b∈L,z b=none)/\W i n k z) ?_ m0 ⟨0,σ,H2,I2,S,λb y=>(f2 b y).1,w0⟩;rintro n s3 ⟨i,j,P,I3,G,K,w3⟩;rcases M i n j P w3 with ⟨O,qn⟩|⟨go,N,hN,step⟩
 ·refine wpAny_passesOwn F (gA (T.done X rfl rfl rfl hc i a s3 j P X.xe I3 (p K) G O) λr s4 ⟨Q,I4⟩=>?_)
  subst Q;exact wpAny_execs_nil ⟨j,P,I4,qn⟩
 ·refine wpAny_passesOwn F (gA (T.item X rfl rfl rfl hc i a s3 j P X.xe I3 (p K) G go) λr s4 ⟨u,Q,h4⟩=>?_)
  subst Q;refine wpAny_passesOwn F (gA h4 λ_ s5 ⟨x,H5,I5,r5,y5,V,O3⟩=>?_);have U:=I5.pinned (p O3) (T.obj _ _ V);refine wpAny_passesOwn F (gA (hg _ s5 j H5 x u _ U r5 (step x H5 y5)) λ_ s6 ⟨Y,H6,I6,q6⟩=>?_);refine wpAny_passesOwn F (gA (y _ s6 Y H6 _ I6 q6) λf R C=>?_);have again:∀{c:St} {l:Hp},Inv X (a++Gw L s5.heap) c l R->N c l->∃m,m<n/\∃i k z,Inv X a k z R/\tn i R.heap/\(∀b∈L,z b=none)/\W i m k z:=λ{c l} t E=>by
   obtain⟨m',hm,w7⟩:=hN c l E;refine⟨m',hm,i+1,c,l,t.Cv,T.keep _ _ _ V λb y o e=>(t.pin (b,o) (cY _ (cY _ (Bt y e)))).1,λb y=>?_,w7⟩;obtain⟨o,e,d⟩:=T.obj _ _ V b y;exact (t.pin (b,o) (cY _ (cY _ (Bt y e)))).2.1
  cases f with
  |next=>obtain⟨c,l,t,E⟩:=C;exact again t E
  |cont=>obtain⟨c,l,t,E⟩:=C;exact again t E
  |brk=>obtain⟨c,l,t,C⟩:=C;exact⟨c,l,t.Cv,C⟩
  |ret v=>obtain⟨x7,c,l,t,r7,C⟩:=C;exact⟨x7,c,l,t.Cv,r7,C⟩
end
theorem se{K:af}{a:Addr}{xs:List V}{g:TG}{l:TS}{D:Ends}{b:St}{H:Hp}(c:Nat->St->Hp->Prop)(s:c 0 b H)(hl:∀i b H,i<=xs.length->c i b H->bP K H a xs)
 (r:∀i x b H,xs[i]?=some x->c i b H->g x b H λf k=>l {D with nx:=c (i+1),ct:=c (i+1),bk:=D.nx} f k) (t:∀b H,c xs.length b H->D.nx b H) :
 ∃W:Nat->Nat->St->Hp->Prop,(∃m,W 0 m b H)/\∀i m b H,W i m b H ->
  ((Kn K a).stop i H/\D.nx b H)∨((Kn K a).go i H/\∃N:St->Hp->Prop,(∀h d,N h d->∃n,n<m/\W (i+1) n h d)/\∀x d,(Kn K a).Km i H x d->g x b d λf k=>l {D with nx:=N,ct:=N,bk:=D.nx} f k):=by
 refine⟨λi m b H=>m=xs.length-i/\i<=xs.length/\c i b H,⟨xs.length,-_,bM _,s⟩,?_⟩;rintro i m b H ⟨rfl,o,p⟩;have q:=hl i b H o p;by_cases j:i<xs.length
 ·refine .inr ⟨⟨xs,xs[i],q,by simp[j]⟩,c (i+1),λh d u=>⟨xs.length-(i+1),∅,rfl,j,u⟩,λx d y=>?_⟩
  obtain⟨e,y⟩:=y;subst e;exact r i x b _ (y xs q) p
 ·have e:i=xs.length:=∅
  subst e;exact .inl ⟨⟨xs,q,ay _⟩,t b H p⟩
theorem vM{lo:Int}{n:Nat}{g:TG}{k:TS}{D:Ends}{a:St}{H:Hp}(c:Nat->St->Hp->Prop)(q:c 0 a H)
 (o:∀i a H,i<n->c i a H->g (.int (lo+i)) a H λd j=>k {D with nx:=c (i+1),ct:=c (i+1),bk:=D.nx} d j) (r:∀a H,c n a H->D.nx a H) :
 ∃W:Nat->Nat->St->Hp->Prop,(∃m,W 0 m a H)/\∀i m a H,W i m a H ->
  ((Th lo n).stop i H/\D.nx a H)∨((Th lo n).go i H/\∃N:St->Hp->Prop,(∀f b,N f b->∃l,l<m/\W (i+1) l f b)/\∀x b,(Th lo n).Km i H x b->g x a b λd j=>k {D with nx:=N,ct:=N,bk:=D.nx} d j):=by
 refine⟨λi m a H=>m=n-i/\i<=n/\c i a H,⟨n,-_,bM _,q⟩,?_⟩;rintro i m a H ⟨rfl,t,p⟩;by_cases h:i<n
 ·refine .inr ⟨h,c (i+1),λf b s=>⟨n-(i+1),∅,rfl,h,s⟩,λx b y=>?_⟩
  obtain⟨e,y⟩:=y;subst e y;exact o i a _ h p
 ·have e:i=n:=∅
  subst e;exact .inl ⟨ay _,r a H p⟩
theorem Tn{c:TT}{j:TS}{D:Ends}{a:St}{H:Hp}(h:St->Hp->Prop)(g:St->Hp->Nat)(o:h a H)
 (n:∀a H,h a H->c a H λb f=>if b=true then j {D with nx:=λd e=>h d e/\g d e<g a H,ct:=λd e=>h d e/\g d e<g a H,bk:=D.nx} a f else D.nx a f)
 (i:∀a H Q k,(∀b f,Q b f->k b f)->c a H Q->c a H k):NV c j D a H:=by
 refine⟨λm a H=>m=g a H/\h a H,⟨_,rfl,o⟩,?_⟩;rintro m a H ⟨rfl,p⟩;refine i a H _ _ (λb f q=>?_) (n a H p);cases b with
 |true=>exact⟨_,λd e ⟨r,l⟩=>⟨_,l,rfl,r⟩,q⟩
 |false=>exact q
abbrev R2:=V->V->Hp->VK->Prop
def wO(X:Cx)(f:Value->Value->Sem Value)(r:R2):Prop :=
 ∀(pins:List (Addr×Obj)) (s:Shared) (σ:St) (H:Hp) (x y:V) (v u:Value) (Q:VK),Inv X pins σ H s->RelV x v->RelV y u->r x y H Q ->
  wpAny (model X.prog X.w) X.A (f v u) (EP X pins σ Q) X.xe s
def UnR(X:Cx)(f:Value->Sem Value)(r:V->Hp->VK->Prop):Prop :=
 ∀(pins:List (Addr×Obj)) (s:Shared) (σ:St) (H:Hp) (x:V) (v:Value) (Q:VK),Inv X pins σ H s->RelV x v->r x H Q ->
  wpAny (model X.prog X.w) X.A (f v) (EP X pins σ Q) X.xe s
def nX(X:Cx)(f:Value)(r:List V->Hp->VK->Prop):Prop :=
 ∀(pins:List (Addr×Obj)) (s:Shared) (σ:St) (H:Hp) (xs:List V) (us:List Value) (Q:VK),Inv X pins σ H s->bZ xs us->r xs H Q ->
  wpAny (model X.prog X.w) X.A (call f us) (EP X pins σ Q) X.xe s
def agg(X:Cx)(r:V->Hp->(Bool->Hp->Prop)->Prop):Prop :=
 ∀(pins:List (Addr×Obj)) (s:Shared) (σ:St) (H:Hp) (x:V) (v:Value) (Q:Bool->Hp->Prop),Inv X pins σ H s->RelV x v->r x H Q ->
  wpAny (model X.prog X.w) X.A (truthy v) (TP X pins σ Q) X.xe s
def VV(r:R2)(ta tb:TE):TE:=λσ H Q=>ta σ H λx H1=>tb σ H1 λy H2=>r x y H2 Q
def tUn(r:V->Hp->VK->Prop)(ta:TE):TE:=λσ H Q=>ta σ H λx H1=>r x H1 Q
inductive rI(C:Int->Int->Prop)(g:Int->Int->V)(x y:V)(H:Hp)(Q:VK):Prop
 |mk (i j:Int) (h1:x=.int i) (h2:y=.int j) (h3:C i j) (h4:Q (g i j) H):rI C g x y H Q
inductive To(g:Int->Int->V)(x y:V)(H:Hp)(Q:VK):Prop
 |mk (i j:Int) (h1:x=.int i) (h2:y=.int j) (h3:Q (g i j) H):To g x y H Q
def rU(g:Int->V):V->Hp->VK->Prop:=λx H Q=>∃i,x=.int i/\Q (g i) H
section
variable{X:Cx}{a b c:Expr}{ta tb tc:TE}{pos:Pos}
theorem ZT(o:PE X a ta)(z:PE X b tb){c:List (Addr×Obj)}{s:Shared}{e:St}{H:Hp}{R:V->V->Hp->Prop}(I:Inv X c e H s)
 (h:ta e H λx k=>tb e k λy d=>R x y d) {Q:Value->Shared->Prop} {f:Value->Value->Sem Value}
 (p:∀v u j x y d,Inv X c e d j->RelV x v->RelV y u->R x y d->wpAny (model X.prog X.w) X.A (f v u) Q X.xe j) :
 wpAny (model X.prog X.w) X.A (eval a X.env) (λv i=>wpAny (model X.prog X.w) X.A (eval b X.env) (λu g=>wpAny (model X.prog X.w) X.A (f v u) Q X.xe g) X.xe i) X.xe s:=by
 refine gA (o c s e H _ I h) λv r ⟨x,k,l,q,t⟩=>?_;refine gA (z c r e k _ l t) λu j ⟨y,d,n,B,m⟩=>?_;exact p v u j x y d n q B m
theorem bw{op:Operator}{r:R2}(k:wO X (binaryOp op) r)(i:PE X a ta)(m:PE X b tb):PE X (.BinOp a op b pos) (VV r ta tb):=by
 intro c s j H Q I h;exact wpAny_BinOp (ZT i m I h λv u l x y d g e f q=>k c l j d x y v u Q g e f q)
theorem acw{op:UnaryOp}{r:V->Hp->VK->Prop}(k:UnR X (unaryOp op) r)(f:PE X a ta):PE X (.UnaryOp op a pos) (tUn r ta):=by
 intro b s c H Q I h;exact UnaryOp_ (gA (f b s c H _ I h) λv d ⟨x,g,j,e,i⟩=>k b d c g x v Q j e i)
theorem qb{f:Value->Value->Sem Value}{C:Int->Int->Prop}{g:Int->Int->Int}
 (rule:∀(i j:Int) (t u:Tok) (s:Shared) (Q:Value->Shared->Prop) (E:Value->Shared->Prop),C i j->Q (.int (g i j) s.toks) {s with toks:=s.toks+1}->wpAny (model X.prog X.w) X.A (f (.int i t) (.int j u)) Q E s) :
 wO X f (rI C λi j=>.int (g i j)):=by
 intro a s k H x y v u Q I c d h;obtain⟨i,j,rfl,rfl,b,q⟩:=h;obtain⟨t,rfl⟩:=c;obtain⟨e,rfl⟩:=d;exact rule i j t e s _ _ b ⟨.int (g i j),H,I.tok _,⟨_,rfl⟩,q⟩
theorem Wf{f:Value->Value->Sem Value}{g:Int->Int->Int}
 (rule:∀(i j:Int) (t u:Tok) (s:Shared) (Q:Value->Shared->Prop) (E:Value->Shared->Prop),Q (.int (g i j) s.toks) {s with toks:=s.toks+1}->wpAny (model X.prog X.w) X.A (f (.int i t) (.int j u)) Q E s) :
 wO X f (To λi j=>.int (g i j)):=by
 intro a s e H x y v u Q I b c h;obtain⟨i,j,rfl,rfl,q⟩:=h;obtain⟨t,rfl⟩:=b;obtain⟨d,rfl⟩:=c;exact rule i j t d s _ _ ⟨.int (g i j),H,I.tok _,⟨_,rfl⟩,q⟩
theorem Wg{f:Value->Value->Sem Value}{g:Int->Int->Bool}
 (rule:∀(i j:Int) (t u:Tok) (s:Shared) (Q:Value->Shared->Prop) (E:Value->Shared->Prop),Q (.bool (g i j)) s->wpAny (model X.prog X.w) X.A (f (.int i t) (.int j u)) Q E s) :
 wO X f (To λi j=>.bl (g i j)):=by
 intro a s e H x y v u Q I b c h;obtain⟨i,j,rfl,rfl,q⟩:=h;obtain⟨t,rfl⟩:=b;obtain⟨d,rfl⟩:=c;exact rule i j t d s _ _ ⟨.bl (g i j),H,I,rfl,q⟩
def agh(i j:Int):Prop:=0<j/\j<1073741824
def acz(i j:Int):Prop:=0<=j/\j<=1000000/\i.natAbs<2^64
def ZU(i j:Int):Prop:=(-(2^64)<i/\i<2^64)∨(-(2^64)<j/\j<2^64)
theorem ZU.ok{i j:Int}(h:ZU i j):IntMulOk i j:=by
 rcases h with ⟨a,b⟩|⟨a,b⟩
 ·exact .of_left (intBits_le_64 a b)
 ·exact .of_right (intBits_le_64 a b)
theorem fB:wO X (binaryOp .Add) (To λi j=>.int (i+j)):=Wf λ_ _ _ _ _ _ _ q=>add_int q
theorem DE:wO X (binaryOp .Sub) (To λi j=>.int (i-j)):=Wf λ_ _ _ _ _ _ _ q=>sub_int q
theorem Tp:wO X (binaryOp .Mult) (rI ZU λi j=>.int (i*j)):=qb λ_ _ _ _ _ _ _ a q=>mul_int q a.ok
theorem fK:wO X (binaryOp .FloorDiv) (rI agh λi j=>.int (i/j)):=qb λi j _ _ _ _ _ a q=>by
 have b:(0:Int)<j:=a.1;have c:j<1073741824:=a.2;exact floordiv_int ∅ (by rw[Int.fdiv_eq_ediv_of_nonneg i ∅];exact q) (.inl (PyProof.noPylong_small ∅))
theorem dZ:wO X (binaryOp .Mod) (rI (λ_ j=>0<j) λi j=>.int (i%j)):=qb λi j _ _ _ _ _ a q=>by
 have b:(0:Int)<j:=a;exact mod_int' ∅ (by rw[Int.fmod_eq_emod_of_nonneg i ∅];exact q)
theorem Tq:wO X (binaryOp .Pow) (rI acz λi j=>.int (i^j.toNat)):=qb λ_ _ _ _ _ _ _ a q=>pow_int_small a.1 a.2.1 a.2.2 q
theorem ZV:wO X (binaryOp .LShift) (rI acz λi j=>.int (i*2^j.toNat)):=qb λ_ _ _ _ _ _ _ a q=>lshift_int_small a.1 a.2.1 a.2.2 q
theorem ZW:wO X (binaryOp .BitAnd) (To λi j=>.int (Builtin.bitAnd i j)):=Wf λ_ _ _ _ _ _ _ q=>and_int q
theorem acA:wO X (binaryOp .BitOr) (To λi j=>.int (Builtin.bitOr i j)):=Wf λ_ _ _ _ _ _ _ q=>or_int q
theorem unI{f:Value->Sem Value}{g:Int->Int}
 (rule:∀(i:Int) (t:Tok) (s:Shared) (Q:Value->Shared->Prop) (E:Value->Shared->Prop),Q (.int (g i) s.toks) {s with toks:=s.toks+1}->wpAny (model X.prog X.w) X.A (f (.int i t)) Q E s) :
 UnR X f (rU λi=>.int (g i)):=by
 intro a s c H x v Q I b h;obtain⟨i,rfl,q⟩:=h;obtain⟨t,rfl⟩:=b;exact rule i t s _ _ ⟨.int (g i),H,I.tok _,⟨_,rfl⟩,q⟩
theorem ZX:UnR X (unaryOp .USub) (rU λi=>.int (-i)):=unI λ_ _ _ _ _ q=>neg_int q
end
noncomputable def ZY:V->V->Bool
 |.fH,.fH=>true|.fH,.int _=>true|.int _,.fH=>true|.fH,.bl _=>true|.bl _,.fH=>true|.fH,.str _=>true|.str _,.fH=>true
 |.int _,.int _=>true|.bl _,.bl _=>true|.str _,.str _=>true|.PK _,.PK _=>true
 |.int _,.str _=>true|.str _,.int _=>true|.bl _,.str _=>true|.str _,.bl _=>true
 |_,_=>false
inductive rEq(x y:V)(H:Hp)(Q:VK):Prop
 |mk (a:ZY x y=true) (b:Q (.bl (decide (x=y))) H):rEq x y H Q
inductive rNe(x y:V)(H:Hp)(Q:VK):Prop
 |mk (a:ZY x y=true) (b:Q (.bl (!decide (x=y))) H):rNe x y H Q
theorem PR{i j:Int}:decide (V.int i=V.int j)=(i==j):=by
 rw[iC];simp
theorem Tr{i j:Bool}:decide (V.bl i=V.bl j)=(i==j):=by
 rw[iC];simp
theorem PU{i j:Str}:decide (V.str i=V.str j)=(i==j):=by
 rw[iC];simp
theorem PV{i j:Array UInt8}:decide (V.PK i=V.PK j)=(i.toList==j.toList):=by
 rw[iC];cases i;cases j;simp
section
variable{X:Cx}{a b c:Expr}{ta tb tc:TE}{pos:Pos}
theorem dS{a:List (Addr×Obj)}{b:St}{H:Hp}{s:Shared}{Q:VK}{k c:Bool}(I:Inv X a b H s)(q:Q (.bl k) H)(e:k=c):EP X a b Q (.bool c) s:=by
 subst e;exact⟨.bl k,H,I,rfl,q⟩
theorem ud:wO X (compareOp .Eq) rEq:=by
 intro e s f H x y v u Q I d a h;obtain⟨c,q⟩:=h;cases x with
 |fH =>
  cases d;cases y with
  |fH=>cases a;exact PySem.EqNone.eq_none_none (dS I q (-_))
  |bl j=>cases a;exact PySem.EqNone.eq_none_bool (dS I q (-_))
  |int j=>obtain⟨b,rfl⟩:=a;exact PySem.EqNone.eq_none_int (dS I q (-_))
  |str j=>obtain⟨b,rfl⟩:=a;exact PySem.EqNone.eq_none_str (dS I q (-_))
  |_=>exact eL (show false=true from c) aF
 |bl i =>
  cases d;cases y with
  |fH=>cases a;exact PySem.EqNone.eq_bool_none (dS I q (-_))
  |bl j=>cases a;exact eq_bool (dS I q Tr)
  |str j=>obtain⟨b,rfl⟩:=a;exact PySem.EqMixed.eq_bool_str (dS I q (-_))
  |_=>exact eL (show false=true from c) aF
 |int i =>
  obtain⟨t,rfl⟩:=d;cases y with
  |fH=>cases a;exact PySem.EqNone.eq_int_none (dS I q (-_))
  |int j=>obtain⟨b,rfl⟩:=a;exact eq_int (dS I q PR)
  |str j=>obtain⟨b,rfl⟩:=a;exact PySem.EqMixed.eq_int_str (dS I q (-_))
  |_=>exact eL (show false=true from c) aF
 |str i =>
  obtain⟨t,rfl⟩:=d;cases y with
  |fH=>cases a;exact PySem.EqNone.eq_str_none (dS I q (-_))
  |bl j=>cases a;exact PySem.EqMixed.eq_str_bool (dS I q (-_))
  |int j=>obtain⟨b,rfl⟩:=a;exact PySem.EqMixed.eq_str_int (dS I q (-_))
  |str j=>obtain⟨b,rfl⟩:=a;exact eq_str (dS I q PU)
  |_=>exact eL (show false=true from c) aF
 |PK i =>
  obtain⟨t,rfl⟩:=d;cases y with
  |PK j=>obtain⟨b,rfl⟩:=a;exact PySem.W.eq_bytes (dS I q PV)
  |_=>exact eL (show false=true from c) aF
 |_=>cases y <;> exact eL (show false=true from c) aF
theorem sf:wO X (compareOp .NotEq) rNe:=by
 intro e s f H x y v u Q I d a h;obtain⟨c,q⟩:=h;cases x with
 |fH =>
  cases d;cases y with
  |fH=>cases a;exact PySem.EqNone.ne_none_none (dS I q (-_))
  |bl j=>cases a;exact PySem.EqNone.ne_none_bool (dS I q (-_))
  |int j=>obtain⟨b,rfl⟩:=a;exact PySem.EqNone.ne_none_int (dS I q (-_))
  |str j=>obtain⟨b,rfl⟩:=a;exact PySem.EqNone.ne_none_str (dS I q (-_))
  |_=>exact eL (show false=true from c) aF
 |bl i =>
  cases d;cases y with
  |fH=>cases a;exact PySem.EqNone.ne_bool_none (dS I q (-_))
  |bl j=>cases a;exact ne_bool (dS I q (gU not Tr))
  |str j=>obtain⟨b,rfl⟩:=a;exact PySem.EqMixed.ne_bool_str (dS I q (-_))
  |_=>exact eL (show false=true from c) aF
 |int i =>
  obtain⟨t,rfl⟩:=d;cases y with
  |fH=>cases a;exact PySem.EqNone.ne_int_none (dS I q (-_))
  |int j=>obtain⟨b,rfl⟩:=a;exact ne_int (dS I q (gU not PR))
  |str j=>obtain⟨b,rfl⟩:=a;exact PySem.EqMixed.ne_int_str (dS I q (-_))
  |_=>exact eL (show false=true from c) aF
 |str i =>
  obtain⟨t,rfl⟩:=d;cases y with
  |fH=>cases a;exact PySem.EqNone.ne_str_none (dS I q (-_))
  |bl j=>cases a;exact PySem.EqMixed.ne_str_bool (dS I q (-_))
  |int j=>obtain⟨b,rfl⟩:=a;exact PySem.EqMixed.ne_str_int (dS I q (-_))
  |str j=>obtain⟨b,rfl⟩:=a;exact ne_str (dS I q (gU not PU))
  |_=>exact eL (show false=true from c) aF
 |PK i =>
  obtain⟨t,rfl⟩:=d;cases y with
  |PK j=>obtain⟨b,rfl⟩:=a;exact PySem.W.ne_bytes (dS I q (gU not PV))
  |_=>exact eL (show false=true from c) aF
 |_=>cases y <;> exact eL (show false=true from c) aF
theorem pR:wO X (compareOp .Lt) (To λi j=>.bl (decide (i<j))):=Wg λ_ _ _ _ _ _ _ q=>lt_int q
theorem qX:wO X (compareOp .LtE) (To λi j=>.bl (decide (i<=j))):=Wg λ_ _ _ _ _ _ _ q=>le_int q
theorem PX:wO X (compareOp .Gt) (To λi j=>.bl (decide (j<i))):=Wg λ_ _ _ _ _ _ _ q=>gt_int q
theorem acB:wO X (compareOp .GtE) (To λi j=>.bl (decide (j<=i))):=Wg λ_ _ _ _ _ _ _ q=>ge_int q
theorem Ob:wO X (compareOp .Is) (λx y H Q=>y=.fH/\Q (.bl (decide (x=.fH))) H):=by
 intro b s d H x y v u Q I a c h;obtain⟨rfl,q⟩:=h;cases c;refine is_none_gen (dS I q ?_);cases x <;> first
  | (cases a;rfl)
  | (obtain⟨t,rfl⟩:=a;rfl)
theorem Az:wO X (compareOp .IsNot) (λx y H Q=>y=.fH/\Q (.bl (!decide (x=.fH))) H):=by
 intro b s d H x y v u Q I a c h;obtain⟨rfl,q⟩:=h;cases c;refine isnot_none_gen (dS I q ?_);cases x <;> first
  | (cases a;rfl)
  | (obtain⟨t,rfl⟩:=a;rfl)
theorem Tt(b:Expr){op:CmpOp}(h:op≠.In:=by decide)(a:op≠.NotIn:=by decide):behindInMarks op b=false:=by
 have d:(op==CmpOp.In)=false:=by cases op <;> first|rfl|exact eL rfl h
 have c:(op==CmpOp.NotIn)=false:=by cases op <;> first|rfl|exact eL rfl a
 cases b <;> simp[behindInMarks,d,c]
theorem Wh{op:CmpOp}{r:R2}(l:wO X (compareOp op) r)(j:PE X a ta)(n:PE X b tb)(d:behindInMarks op b=false):PE X (.Compare a [op] [b] pos) (VV r ta tb):=by
 intro c s k H Q I h;exact wpAny_Compare1 (ZT j n I h λv u m x y e i f g q=>l c m k e x y v u Q i f g q) d
def Tu(t:TE):TT:=λσ H Q=>t σ H (BlR Q)
theorem jW{op:CmpOp}{r:R2}(w:wO X (compareOp op) r)(t:PE X a ta)(F:PE X b tb)(g:behindInMarks op b=false):PT X (.Compare a [op] [b] pos) (Tu (VV r ta tb)):=by
 intro d s f H Q I h;refine wpAny_isTrue_Compare1 (gA (t d s f H _ I h) λv C ⟨x,D,j,B,E⟩=>gA (F d C f D _ j E) λu A ⟨y,i,p,G,l⟩ =>
  gA (w d A f i x y v u _ p B G l) λc J ⟨z,m,n,q,k,e,o⟩=>?_) g
 subst e;cases q;exact wpAny_truthy_bool ⟨m,n,o⟩
def Tv(r r':R2)(ta tb tc:TE):TE:=λσ H Q=>ta σ H λx H1=>tb σ H1 λy H2=>r x y H2 λz H3=>∃k,z=.bl k /\
 (if k=true then tc σ H3 λw' H4=>r' y w' H4 Q else Q (.bl false) H3)
theorem LY{op g:CmpOp}{r o:R2}(N:wO X (compareOp op) r)(j:wO X (compareOp g) o)(M:PE X a ta)(W:PE X b tb)(C:PE X c tc)
 (q:lastMarks [op,g] [b,c]=false:=by with_unfolding_all rfl):PE X (.Compare a [op,g] [b,c] pos) (Tv r o ta tb tc):=by
 intro f s i H Q I h;refine Compare_chain (gA (M f s i H _ I h) λv T ⟨x,U,B,S,V⟩=>chain_link (gA (W f T i U _ B V) λu O ⟨y,w,K,p,E⟩ =>
  gA (N f O i w x y v u _ K S p E) λd J ⟨z,l,m,L,k,e,n⟩=>?_)) q
 subst e;cases L;refine wpAny_truthy_bool ?_;cases k with
 |false=>exact ite_ff ⟨.bl false,l,m,rfl,n⟩
 |true=>exact ite_tt (chain_last (gA (C f J i l _ m n) λD P ⟨A,t,F,R,G⟩=>j f P i t y A u D Q F p R G))
theorem jD{op g:CmpOp}{r o:R2}(U:wO X (compareOp op) r)(j:wO X (compareOp g) o)(T:PE X a ta)(hb:PE X b tb)(F:PE X c tc)
 (t:lastMarks [op,g] [b,c]=false:=by with_unfolding_all rfl):PT X (.Compare a [op,g] [b,c] pos) (Tu (Tv r o ta tb tc)):=by
 intro f s i H Q I h;refine isTrue_chain (gA (T f s i H _ I h) λv s1 ⟨x,H1,E,Z,q1⟩=>test_link (gA (hb f s1 i H1 _ E q1) λu V ⟨y,A,P,p,K⟩ =>
  gA (U f V i A x y v u _ P Z p K) λd N ⟨z,l,m,R,k,e,n⟩=>?_)) t
 subst e;cases R;refine wpAny_truthy_bool ?_;cases k with
 |false =>
  obtain⟨k',e',D⟩:=n;cases e';exact ite_ff ⟨l,m,D⟩
 |true =>
  refine ite_tt (test_last (gA (F f N i l _ m n) λG W ⟨B,w,L,Y,M⟩=>gA (j f W i w y B u G _ L p Y M) λd' s5 ⟨z2,q,S,J,k2,C,O⟩=>?_));subst C;cases J;exact wpAny_truthy_bool ⟨q,S,O⟩
def ZZ(K:af)(x:V)(H:Hp)(k:Bool):Prop :=
 match x with
 |.fH=>k=false
 |.bl b=>k=b
 |.int i=>k=(i != 0)
 |.str y=>y.length<=sizeLine/\k=((y.length:Int) != 0)
 |.PK y=>y.size<=sizeLine/\k=((y.size:Int) != 0)
 |.ref p=>(∃xs,bP K H p xs/\k=!xs.isEmpty)∨(∃xs,cP K H p xs/\k=!xs.isEmpty)∨∃kvs,H p=some (.dK kvs)/\k=!kvs.isEmpty
 |_=>False
theorem Oc{κ:Type}{kvs:List (κ×V)}{vs:List (κ×Value)}(r:KV kvs vs):(!vs.isEmpty)=!kvs.isEmpty:=by
 cases r <;> rfl
theorem Gx{xs:List V}{a:List Value}(r:bZ xs a):(!a.toArray.isEmpty)=!xs.isEmpty:=by
 cases r <;> simp
theorem Gy:(sizeLine:Nat)<2^63:=by rw[sizeLine_eq];decide
theorem Z0:agg X (λx H Q=>∃k,ZZ X.K x H k/\Q k H):=by
 intro z s E H x v Q I g h;obtain⟨k,e,q⟩:=h;have D:=Gy;have C:sizeLine=16777216:=sizeLine_eq;cases x with
 |fH =>
  cases g;have a:k=false:=e;subst a;exact truthy_none ⟨H,I,q⟩
 |bl b =>
  cases g;have a:k=b:=e;subst a;exact wpAny_truthy_bool ⟨H,I,q⟩
 |int i =>
  obtain⟨t,rfl⟩:=g;have a:k=(i != 0):=e;subst a;exact PySem.P.truthy_int ⟨H,I,q⟩
 |str y =>
  obtain⟨t,rfl⟩:=g;obtain⟨A,a⟩:y.length<=sizeLine/\k=((y.length:Int) != 0):=e;subst a;exact PySem.P.truthy_str ∅ ⟨H,I.tok _,q⟩
 |PK y =>
  obtain⟨t,rfl⟩:=g;obtain⟨A,a⟩:y.size<=sizeLine/\k=((y.size:Int) != 0):=e;subst a;exact PySem.W.truthy_bytes ∅ ⟨H,I.tok _,q⟩
 |ref p =>
  cases g;have a:(∃f,bP X.K H p f/\k=!f.isEmpty)∨(∃f,cP X.K H p f/\k=!f.isEmpty)∨∃c,H p=some (.dK c)/\k=!c.isEmpty:=e;rcases a with ⟨f,j,a⟩|⟨f,j,a⟩|⟨c,j,a⟩
  ·subst a
   obtain⟨n,r,o,u⟩:=I.list j;have d:=r.length;exact wpAny_truthy_list o.isList (by simp only[aP];lia) ⟨H,I.tok _,by rw[Gx r];exact q⟩
  ·subst a
   obtain⟨n,r,o,u⟩:=I.tuple j;have d:=r.length;exact truthy_tuple o (by simp only[aP];lia) ⟨H,I.tok _,by rw[Gx r];exact q⟩
  ·subst a
   obtain⟨u,B,l,r,m⟩:c.length<=sizeLine/\(p==sysModules)=false/\∃l,KV c l/\s.heap.DictOf (ie X.prog X.w) p l:=I.hok p _ j;have d:c.length=l.length:=Paired.length r;exact wpAny_truthy_dict B m ∅ ⟨H,I.tok _,by rw[Oc r];exact q⟩
 |_=>exact (show False from e).elim
theorem Tw(i:PE X a ta)(g:∀b,isTrue a X.env b=(do let v <- b;standAt a.pos;holding [v] (truthy v))) :
 PT X a (λd H Q=>ta d H λx e=>∃k,ZZ X.K x e k/\Q k e):=by
 intro c s d H Q I h;exact isTrue_plain (gA (i c s d H _ I h) λv l ⟨x,m,f,j,n⟩=>Z0 c l d m x v Q f j n) (g _)
theorem vals1{x:V}{us:List Value}(r:bZ [x] us):∃u,us=[u]/\RelV x u:=by
 cases r with
 |cons a b=>cases b;exact⟨_,rfl,a⟩
theorem Jq:nX X (.type "int") (λxs H Q=>(∃i,xs=[.int i]/\Q (.int i) H)∨∃k,xs=[.bl k]/\Q (.int (if k then 1 else 0)) H):=by
 intro a s c H xs d Q I r h;rcases h with ⟨i,rfl,q⟩|⟨k,rfl,q⟩
 ·obtain⟨u,rfl,t,rfl⟩:=vals1 r
  exact call_int_int ⟨.int i,H,I,⟨_,rfl⟩,q⟩
 ·obtain⟨u,rfl,b⟩:=vals1 r
  cases b;exact call_int_bool ⟨.int (if k then 1 else 0),H,I.tok _,⟨_,rfl⟩,q⟩
end
structure Od(h:Heap)(x dx C:Addr)(mA:Str->Option Value):Prop where
 obj:h.get? x=some (jA C dx)
 ns:h.Ns1 dx mA
 ne:dx≠x
theorem Jr{h:Heap}{g:Addr}{f:Str->Option Value}(n:h.Ns1 g f):∃d,h.get? g=some d/\∀name,PySem.W.lookIn name d=some (f name):=by
 obtain⟨o,c,r,p,m,k,_,i⟩:=n;refine⟨o,p,λname=>?_⟩;have e:=i name;unfold nsFind findBy at e;rw[<- Array.find?_toList] at e;unfold PySem.W.lookIn;rw[m];dsimp only;split
 ·rename_i y q
  rw[q] at e;exact gU some e
 ·rename_i q
  rw[q] at e;have a:c.toList.any (·.refKey)=false:=by
   rw[List.any_eq_false];intro y l;obtain⟨z,t,b⟩:=k y (gZ.mp l);simp[DictEntry.refKey,b]
  have j:¬c.toList.any (·.refKey)=true:=by rw[a];exact aF
  rw[er j];exact gU some e
theorem Od.look{h:Heap}{x b C:Addr}{c:Str->Option Value}(I:Od h x b C c):∃a,PySem.W.InstAt h x (jA C b) C (some a)/\∀name,PySem.W.lookIn name a=some (c name) :=
 let ⟨a,e,d⟩:=Jr I.ns
 ⟨a,⟨I.obj,rfl,rfl,e⟩,d⟩
section
variable{prog:Program}{w:World}{A:Around}{E:Value->Shared->Prop}{s:Shared}{K:af}{x dx C f:Addr}{mA:Str->Option Value}{name:Str}{v:Value}
theorem get_map{a:Bool}{Q:Value->Shared->Prop}(X:K.In s.heap)(I:Od s.heap x dx C mA)(f:wH K C name=true)(c:uH K C=true)
 (d:aI K (.ref C) name=some none) (e:mA name=some v) (b:PySem.W.handedIn v=true) (h:Q v {s with toks:=s.toks+1}) :
 wpAny (model prog w) A (getAttr (.ref x) name a) Q E s:=by
 obtain⟨i,J,g⟩:=I.look;exact PySem.W.get_value X J (PySem.W.plainGet_of f).1 (PySem.W.findObj_own c d rfl (by rw[g,e])) b h
theorem Tz{pl:Sem Bool}{Q:Value×List Value->Shared->Prop}(X:K.In s.heap)(I:Od s.heap x dx C mA)(a:wH K C name=true)
 (e:aI K (.ref C) name=some (some (.ref f))) (b:PySem.W.isFn K (.ref f)=true) (d:mA name=none) (h:Q (.ref f,[.ref x]) s) :
 wpAny (model prog w) A (getMethod (.ref x) name pl) Q E s:=by
 obtain⟨c,J,g⟩:=I.look;exact PySem.W.method_fn X J (PySem.W.plainGet_of a).1 (PySem.W.plainGet_of a).2 e (beq_iff_eq.mp b) (by show (PySem.W.lookIn name c).map (·.isSome)=some false;rw[g,d];rfl) h
theorem Wi{ns:List Str}{Q:Unit->Shared->Prop}(X:K.In s.heap)(I:Od s.heap x dx C mA)
 (p:aI K (.ref C) "__setattr__" = some (some (.builtin "object.__setattr__"))) (t:PySem.W.plainOver K C=true) (q:PySem.W.takerIn K C name=some none) (o:uH K C=true)
 (k:PySem.Within mA ns) (hsz:ns.length<=sizeLine)
 (h:∀h',Od h' x dx C (λy=>if y=name then some v else mA y)->Heap.SameBut dx s.heap h'->Q () {s with heap:=h',toks:=s.toks+2}) :
 wpAny (model prog w) A (setAttr (.ref x) name v) Q E s:=by
 obtain⟨z,J,D⟩:=I.look;refine PySem.W.set_plain X J p (PySem.W.osa_open (s:={s with toks:=s.toks+1}) (r:=none) X J t q λb=>?_);obtain⟨u,m,f⟩:=PySem.W.any_some o;have l:s.heap.get? x=some ⟨.ref C,some dx,.plain,#[]⟩:=I.obj;refine wpAny_bind (wpAny_pure (wpAny_bind (wpAny_bind (wpAny_loadPart l (wpAny_bind (PySem.W.Looks.here (s:={s with toks:=s.toks+1}) (PySem.W.looks_clsIn X m) ?_))))));rw[f];refine wpAny_pure (a:=some dx) (wpAny_bind (wpAny_pure (wpAny_bind ?_)));refine wpAny_nsSet1 (s:={s with toks:=s.toks+1}) I.ns λh' c d=>?_;obtain⟨B,j,n,e,g,i⟩:=c.count (PySem.Within.cons name v k);refine wpAny_bind (wpAny_lookBehind e (by rw[g];exact pastItsLine_dict (aN i (by rw[bx];lia))) ?_);exact wpAny_pure (h _ ⟨(d.2 _ (bK I.ne)).trans I.obj,c,I.ne⟩ d)
theorem TF{R:Result->Shared->Prop}{vs:List Value}{b:List (Str×Value)}(X:K.In s.heap)(c:PySem.W.makesIn K C=true)
 (e:aI K (.ref C) "__init__" = some (some (.ref f))) (i:PySem.W.typeIn K (.ref f)=some (.type "function"))
 (h:codeAny (model prog w) (A.under (.builtin "type.__call__" ⟨.ref C::vs,b⟩)) (.call (.ref f) ⟨.ref (s.heap.objs.size+1)::vs,b⟩) (PySem.W.InitBack (s.heap.objs.size+1) R)
  {s with heap:=(s.heap.push gm).push (jA C s.heap.objs.size)}) :
 codeAny (model prog w) A (.call (.ref C) ⟨vs,b⟩) R s:=by
 obtain⟨j,g,d,t,os⟩:=s;exact PySem.W.make_core (PySem.W.makes_of X c) (PySem.W.looks_findIn X e) (λa=>PySem.W.bind_fn X a i) (.inl rfl) h
end
noncomputable def yH(f:Str)(v:V):List (Str×V)->List (Str×V)
 |[]=>[(f,v)]
 | (g,x)::r=>if g=f then (g,v)::r else (g,x)::yH f v r
theorem EL(f g:Str)(v:V):∀c:List (Str×V),(yH f v c).lookup g=if g=f then some v else c.lookup g
 |[]=>by
  show qj g [(f,v)]=_;by_cases h:g=f
  ·have a:(g==f)=true:=beq_iff_eq.mpr h
   simp only[qj,a,ee h]
  ·have a:(g==f)=false:=beq_eq_false_iff_ne.mpr h
   simp only[qj,a,er h]
 | (k,x)::r=>by
  have d:=EL f g v r;rw[show yH f v ((k,x)::r)=(if k=f then (k,v)::r else (k,x)::yH f v r) from rfl];by_cases b:k=f
  ·rw[ee b]
   by_cases h:g=k
   ·have a:(g==k)=true:=beq_iff_eq.mpr h
    simp only[qj,a,ee (h.trans b)]
   ·have a:(g==k)=false:=beq_eq_false_iff_ne.mpr h
    simp only[qj,a,er (λe:g=f=>h (e.trans b.symm))]
  ·rw[er b]
   by_cases h:g=k
   ·have a:(g==k)=true:=beq_iff_eq.mpr h
    simp only[qj,a,er (λe:g=f=>b (h.symm.trans e))]
   ·have a:(g==k)=false:=beq_eq_false_iff_ne.mpr h
    simp only[qj,a];exact d
theorem DF(f:Str)(v:V):∀b:List (Str×V),f∈(yH f v b).map (·.1)/\∀g,g∈b.map (·.1)->g∈(yH f v b).map (·.1)
 |[]=>⟨by simp[yH],λg h=>by simp at h⟩
 | (k,x)::r=>by
  obtain⟨c,d⟩:=DF f v r;rw[show yH f v ((k,x)::r)=(if k=f then (k,v)::r else (k,x)::yH f v r) from rfl];by_cases a:k=f
  ·rw[ee a]
   subst a;exact⟨-_,λg h=>by simpa using h⟩
  ·rw[er a]
   refine⟨?_,λg h=>?_⟩
   ·rw[bN]
    exact bu _ c
   ·rw[bN] at h ⊢
    rcases bf.mp h with e|e
    ·exact bf.mpr (.inl e)
    ·exact bu _ (d g e)
theorem EN(f:Str)(v:V):∀b:List (Str×V),(yH f v b).length<=b.length+1
 |[]=>by simp[yH]
 | (k,x)::r=>by
  have c:=EN f v r;rw[show yH f v ((k,x)::r)=(if k=f then (k,v)::r else (k,x)::yH f v r) from rfl];by_cases a:k=f
  ·rw[ee a,bx,bx];lia
  ·rw[er a,bx,bx];lia
theorem yG.some_of{v:V}{o:Option Value}(r:yG (some v) o):∃u,o=some u/\RelV v u:=by
 cases o with
 |none=>exact (show False from r).elim
 |some u=>exact⟨u,rfl,r⟩
theorem yG.none_of{o:Option Value}(r:yG none o):o=none:=by
 cases o with
 |none=>rfl
 |some u=>exact (show False from r).elim
theorem Rq{v:V}{u:Value}(r:RelV v u):PySem.W.handedIn u=true:=by
 cases v with
 |fH=>cases (show u=Value.none from r);rfl
 |bl b=>cases (show u=Value.bool b from r);rfl
 |int i=>obtain⟨t,e⟩:=(show ∃t,u=Value.int i t from r);cases e;rfl
 |str x=>obtain⟨t,e⟩:=(show ∃t,u=Value.str x t from r);cases e;rfl
 |PK b=>obtain⟨t,e⟩:=(show ∃t,u=Value.bytes b t from r);cases e;rfl
 |ZA b=>obtain⟨t,e⟩:=(show ∃t,u=Value.float b t from r);cases e;rfl
 |ref a=>cases (show u=Value.ref a from r);rfl
 |ty n=>cases (show u=Value.type n from r);rfl
section
variable{P:Program}{w:World}{H H':Hp}{h h':Heap}{a C dx:Addr}{fs fs':List (Str×V)}
theorem Ge(c:yM P w H h)(e:H a=some (.ins C dx fs)):∃b,Od h a dx C b/\(∀f,yG (fs.lookup f) (b f))/\PySem.Within b (fs.map (·.1))/\fs.length<=1000/\H dx=some (.own a):=by
 obtain⟨d,z,i,g,b,n,r,q⟩:=(show fP P w H h a (.ins C dx fs) from c a _ e);exact⟨b,⟨g,n,i⟩,r,q,z,d⟩
end
structure Iq(K:af)(C:Addr):Prop where
 pg:wH K C Str.empty=true
 hd:uH K C=true
 po:PySem.W.plainOver K C=true
 sa:aI K (.ref C) "__setattr__" = some (some (.builtin "object.__setattr__"))
theorem Iq.get{K:af}{C:Addr}(c:Iq K C)(f:Str):wH K C f=true:=c.pg
def dc(K:af)(C:Addr)(f:Str):Prop:=aI K (.ref C) f=some none
theorem dc.acC{K:af}{C:Addr}{f:Str}(n:dc K C f):PySem.W.takerIn K C f=some none:=by
 unfold PySem.W.takerIn;rw[show aI K (.ref C) f=some none from n];rfl
structure Ko(K:af)(C:Addr)(m:Str)(f:Addr):Prop where
 at_:aI K (.ref C) m=some (some (.ref f))
 fn:PySem.W.isFn K (.ref f)=true
 kp:dX K (.ref f)=true
section
variable{X:Cx}{pins:List (Addr×Obj)}{σ:St}{H:Hp}{s:Shared}{a C dx:Addr}{fs:List (Str×V)}{f:Str}{v:V}{A:Around}{E:Value->Shared->Prop}
theorem Oe{b:Bool}{Q:Value->Shared->Prop}(I:Inv X pins σ H s)(e:H a=some (.ins C dx fs))(c:Iq X.K C)(n:dc X.K C f)(l:fs.lookup f=some v)
 (h:∀u s',Inv X pins σ H s'->RelV v u->Q u s'):wpAny (model X.prog X.w) A (getAttr (.ref a) f b) Q E s:=by
 obtain⟨i,O,r,_,_,_⟩:=Ge I.hok e;obtain⟨u,g,d⟩:=yG.some_of (v:=v) (o:=i f) (by rw[<- l];exact r f);exact get_map I.Br O (c.get f) c.hd n g (Rq d) (h u _ (I.tok _) d)
theorem Gz{m:Str}{g:Addr}{pl:Sem Bool}{Q:Value×List Value->Shared->Prop}(I:Inv X pins σ H s)(e:H a=some (.ins C dx fs))(c:Iq X.K C)(k:Ko X.K C m g)(l:fs.lookup m=none)
 (h:Q (.ref g,[.ref a]) s):wpAny (model X.prog X.w) A (getMethod (.ref a) m pl) Q E s:=by
 obtain⟨d,O,r,_,_,_⟩:=Ge I.hok e;have b:d m=none:=yG.none_of (by rw[<- l];exact r m);exact Tz I.Br O (c.get m) k.at_ k.fn b h
theorem Of{y:V}{u:Value}{Q:Unit->Shared->Prop}(I:Inv X pins σ H s)(e:H a=some (.ins C dx fs))(c:Iq X.K C)(n:dc X.K C f)(hl:fs.length<1000)(m:RelV y u)
 (h:∀s',Inv X pins σ (upd H a (.ins C dx (yH f y fs))) s'->Q () s'):wpAny (model X.prog X.w) A (setAttr (.ref a) f u) Q E s:=by
 obtain⟨j,O,r,i,_,k⟩:=Ge I.hok e;have l:(fs.map (·.1)).length<=sizeLine:=by rw[ah,sizeLine_eq];lia
 refine Wi I.Br O c.sa c.po n.acC c.hd i l λv d t=>h _ ?_;have hd:∃o,v.get? dx=some o:=let ⟨o,_,_,B,_⟩:=d.ns;⟨o,B⟩;refine I.write (x:=a) (e:=dx) (by rw[e];exact k6) (.inr k) (λb q D z=>(t.2 b D).trans z) hd ?_;refine⟨by rw[aH O.ne];exact k,?_,O.ne,d.obj,_,d.ns,λg=>?_,λg p=>?_⟩
 ·have:=EN f y fs;lia
 ·show yG ((yH f y fs).lookup g) (if g=f then some u else j g)
  rw[EL];by_cases q:g=f
  ·rw[ee q,ee q];exact m
  ·rw[er q,er q];exact r g
 ·by_cases q:g=f
  ·rw[q];exact (DF f y fs).1
  ·refine (DF f y fs).2 g (i g λz=>p ?_)
   show (if g=f then some u else j g)=none;rw[er q];exact z
theorem Inv.made(I:Inv X pins σ H s):Inv X pins σ (upd (upd H s.heap.objs.size (.own (s.heap.objs.size+1))) (s.heap.objs.size+1) (.ins C s.heap.objs.size []))
 {s with heap:=(s.heap.push gm).push (jA C s.heap.objs.size)}:=by
 have c:(s.heap.push gm).get? s.heap.objs.size=some gm:=Heap.get?_push_size s.heap rfl;have f:((s.heap.push gm).push (jA C s.heap.objs.size)).get? (s.heap.objs.size+1)=some (jA C s.heap.objs.size):=by
  have:=Heap.get?_push_size (s.heap.push gm) (o:=jA C s.heap.objs.size) rfl
  rwa [Heap.size_push] at this
 have j:(s.heap.push gm).Ns s.heap.objs.size (λ_=>none):=⟨gm,#[],_,c,rfl,(λe h=>eL h (-_)),λ_=>rfl⟩;have g:=I.laid (a:=s.heap.objs.size) (o:=.own (s.heap.objs.size+1)) (h':=s.heap.push gm) (t':=s.toks) (λb u q=>Heap.get?_push_of_some _ q) (ay _) ⟨_,c⟩;refine g.laid (a:=s.heap.objs.size+1) (o:=.ins C s.heap.objs.size []) (t':=s.toks) (λb u q=>Heap.get?_push_of_some _ q) (Nat.le_of_eq (Heap.size_push _ _)) ?_;have d:s.heap.objs.size≠s.heap.objs.size+1:=bE (wI _);refine⟨by rw[aH d,au],bM _,d,f,λ_=>none,(Heap.Ns1.of_empty j).at λo q=>Heap.get?_push_of_some _ q,λ_=>k6,λy i=>eL rfl i⟩
theorem Wj{prog:Program}{w:World}{env:Env}{e:Expr}{f:Str}{b:Pos}{s:Shared}{Q:Value->Shared->Prop}(c:attributeBase e f env (eval e env)=eval e env)
 (h:wpAny (model prog w) A (eval e env) (λo a=>wpAny (model prog w) A (getAttr o f true) Q E a) E s):wpAny (model prog w) A (eval (.Attribute e f b) env) Q E s :=
 Attribute_any_ h (by rw[arm_eval_Attribute,c])
end
inductive acD(K:af)(f:Str)(Q:VK)(x:V)(H1:Hp):Prop
 |mk (a C dx:Addr) (fs:List (Str×V)) (v:V) (h1:x=.ref a) (h2:H1 a=some (.ins C dx fs)) (h3:Iq K C) (h4:dc K C f) (h5:fs.lookup f=some v) (h6:Q v H1):acD K f Q x H1
def GA(K:af)(ta:TE)(f:Str):TE:=λσ H Q=>ta σ H (acD K f Q)
def agi(K:af)(ta tv:TE)(f:Str):TS:=λD σ H=>tv σ H λy H1=>ta σ H1 λx H2=>∃a C dx fs,x=.ref a/\H2 a=some (.ins C dx fs)/\Iq K C/\dc K C f/\fs.length<1000 /\
 D.nx σ (upd H2 a (.ins C dx (yH f y fs)))
section
variable{X:Cx}{o e value:Expr}{f:Str}{pos pos' tpos:Pos}{ta tv:TE}
theorem aY(i:PE X e ta)(t:attributeBase e f X.env (eval e X.env)=eval e X.env):PE X (.Attribute e f pos) (GA X.K ta f):=by
 intro b s o H Q I h;refine Wj t (gA (i b s o H _ I h) λu B ⟨x,r,g,j,a,C,y,z,v,d,k,c,n,l,q⟩=>?_);subst d;obtain rfl:u=Value.ref a:=j;exact Oe g k c n l λw A m p=>⟨v,r,m,p,q⟩
theorem fZ(z:PE X o ta)(r:PE X value tv)(v:swapsWith value (some (.Attribute o f pos')) pos.line X.env=pure false):PS X (.Assign [.Attribute o f pos'] value pos) (agi X.K ta tv f):=by
 intro b s d H D I h;refine plainObj_wpAny_Assign_Attribute (gA (r b s d H _ I h) λu A ⟨y,B,i,p,q⟩=>gA (z b A d B _ i q) λg L ⟨x,E,w,k,a,C,G,J,e,t,c,n,l,j⟩=>?_) v;subst e;obtain rfl:g=Value.ref a:=k;exact Of w t c n l p λF m=>⟨d,_,m,j⟩
end
section
variable{X:Cx}{pins:List (Addr×Obj)}{σ:St}{H:Hp}{s:Shared}{A:Around}{E:Value->Shared->Prop}{Q:Value->Shared->Prop}{c:Value}{b:Bool}
inductive DG(K:af)(H:Hp):V->Value->Prop where
 |fH:DG K H .fH (.type "NoneType")
 |bl (x:Bool):DG K H (.bl x) (.type "bool")
 |int (i:Int):DG K H (.int i) (.type "int")
 |str (x:Str):DG K H (.str x) (.type "str")
 |ZA (x:UInt64):DG K H (.ZA x) (.type "float")
 |lst {a:Addr} {xs:List V} (e:H a=some (.lst xs)):DG K H (.ref a) (.type "list")
 |Ax {a:Addr} {o:Obj} {xs:List V} (e:H a=some (.Ax o (.lst xs))):DG K H (.ref a) (.type "list")
 |tup {a:Addr} {xs:List V} (e:H a=some (.tup xs)):DG K H (.ref a) (.type "tuple")
 |dK {a:Addr} {kvs:List (Key×V)} (e:H a=some (.dK kvs)):DG K H (.ref a) (.type "dict")
 |dT {a:Addr} {kvs:List (List Key×V)} (e:H a=some (.dT kvs)):DG K H (.ref a) (.type "dict")
 |ins {a C dx:Addr} {fs:List (Str×V)} (e:H a=some (.ins C dx fs)) (cl:Iq K C) (ha:aI K (.ref C) "__class__" = some (some (.builtin "object.__class__")))
  (hn:PySem.W.specialIn K (.builtin "object.__class__") "__get__" = some (some (.builtin "getset_descriptor.__get__"))) (htk:PySem.W.takesIn K (.builtin "object.__class__")=some true)
  (hm:PySem.W.mroIn K C (.type "object")=some true):DG K H (.ref a) (.ref C)
theorem Rr{x:V}{u t:Value}(I:Inv X pins σ H s)(d:RelV x u)(L:DG X.K H x t)(e:PySem.W.kitOne X.K t c=some b)(h:∀tk,Q (.bool b) {s with toks:=tk}) :
 wpAny (model X.prog X.w) A (call (.builtin "isinstance") [u,c]) Q E s:=by
 cases L with
 |fH=>cases (show u=Value.none from d);exact dP PySem.W.kitx_none I.Br k6 e (λz=>nomatch z) h
 |bl y=>cases (show u=Value.bool y from d);exact dP PySem.W.kitx_bool I.Br k6 e (λz=>nomatch z) h
 |int i=>obtain⟨t,q⟩:=(show ∃t,u=Value.int i t from d);cases q;exact dP PySem.W.kitx_int I.Br k6 e (λz=>nomatch z) h
 |str y=>obtain⟨t,q⟩:=(show ∃t,u=Value.str y t from d);cases q;exact dP PySem.W.kitx_str I.Br k6 e (λz=>nomatch z) h
 |ZA y=>obtain⟨t,q⟩:=(show ∃t,u=Value.float y t from d);cases q;exact dP PySem.W.kitx_float I.Br k6 e (λz=>nomatch z) h
 |@lst a k f =>
  cases (show u=Value.ref a from d);obtain⟨_,_,n,_,g⟩:=(show fP X.prog X.w H s.heap a (.lst k) from I.hok a _ f);exact dP PySem.W.kitx_list I.Br ⟨_,g,rfl⟩ e (λz=>nomatch z) h
 |@Ax a B k f =>
  cases (show u=Value.ref a from d);obtain⟨_,_,_,n,_,g⟩:=(show fP X.prog X.w H s.heap a (.Ax B (.lst k)) from I.hok a _ f);exact dP PySem.W.kitx_list I.Br ⟨_,g,rfl⟩ e (λz=>nomatch z) h
 |@tup a k f =>
  cases (show u=Value.ref a from d);obtain⟨_,_,_,p⟩:=(show fP X.prog X.w H s.heap a (.tup k) from I.hok a _ f);obtain⟨o,g,l,_⟩:=p;exact dP PySem.W.kitx_tuple I.Br ⟨o,g,l⟩ e (λz=>nomatch z) h
 |@dK a j f =>
  cases (show u=Value.ref a from d);obtain⟨_,_,N,_,p⟩:=(show fP X.prog X.w H s.heap a (.dK j) from I.hok a _ f);obtain⟨o,v,F,g,l,_⟩:=p;exact dP PySem.W.kitx_dict I.Br ⟨o,g,l.1⟩ e (λz=>nomatch z) h
 |@dT a j f =>
  cases (show u=Value.ref a from d);obtain⟨_,_,k,_,o,v,F,g,l,_⟩:=(show fP X.prog X.w H s.heap a (.dT j) from I.hok a _ f);exact dP PySem.W.kitx_dict I.Br ⟨o,g,l.1⟩ e (λz=>nomatch z) h
 |@ins a C R S f cl G D m r =>
  cases (show u=Value.ref a from d);obtain⟨P,O,_⟩:=Ge I.hok f;obtain⟨M,J,_⟩:=O.look;exact dP (PySem.W.kitx_own (cl.get _) cl.hd G D m r) I.Br J e (λz=>nomatch z) h
end
structure jE(k:Nat)(A:Around):Prop where
 hd:A.handled=none
 dp:A.depth+3*k+5<recursionLimit
 un:A.units+16*k+200<cLine
theorem jE.mono{j k:Nat}{A:Around}(r:jE k A)(h:j<=k):jE j A:=⟨r.hd,by have:=r.dp;lia,by have:=r.un;lia⟩
theorem jE.deeper{k:Nat}{A:Around}(r:jE (k+1) A)(env:Env):jE k (A.deeper env) :=
 ⟨r.hd,by have:=r.dp;show A.depth+1+3*k+5<_;lia,by have:=r.un;show A.units+3+16*k+200<_;lia⟩
theorem Og{A:Around}{C:Addr}{us:List Value}{a:List (Str×Value)}:(A.under (.builtin "type.__call__" ⟨.ref C::us,a⟩)).depth=A.depth+1:=by
 first|rfl|simp[Around.under,Code.weight,Code.isCreation,Code.isGuard,Code.isCaller,Code.frames,Code.isFrame,guardIds]
theorem Oh{A:Around}{C:Addr}{us:List Value}{a:List (Str×Value)}:(A.under (.builtin "type.__call__" ⟨.ref C::us,a⟩)).units=A.units+1:=by
 first|rfl|simp[Around.under,Code.cUnits,Code.frames,Code.isFrame]
theorem jE.make{k:Nat}{A:Around}(r:jE (k+1) A)(C:Addr)(us:List Value)(a:List (Str×Value)):jE k (A.under (.builtin "type.__call__" ⟨.ref C::us,a⟩)) :=
 ⟨r.hd,by have:=r.dp;rw[Og];lia,by have:=r.un;rw[Oh];lia⟩
theorem jE.depth{k:Nat}{A:Around}(r:jE k A):A.depth<recursionLimit:=by have:=r.dp;lia
theorem jE.units{k:Nat}{A:Around}(r:jE k A):A.units+64<cLine:=by have:=r.un;lia
def Bu:TA:=λ_ H Q=>Q [] H
def gx(ta:TE)(tr:TA):TA:=λσ H Q=>ta σ H λx H1=>tr σ H1 λxs H2=>Q (x::xs) H2
section
variable{X:Cx}{e:Expr}{es:List Expr}{te:TE}{t:TA}{pos:Pos}
theorem iP:PA X [] Bu:=λ_ _ _ _ H Q I h=>Calls.spliced_nil ⟨[],H,I,.nil,h⟩
theorem Wk(l:PE X e te)(j:PA X es t)(g:starEach (e::es) X.env=(false,eval e X.env)::starEach es X.env:=by rfl):PA X (e::es) (gx te t):=by
 intro pos a s b H Q I h;rw[g];show wpAny _ _ (spliced ((false,eval e X.env)::backTo pos (starEach es X.env))) _ _ s;refine Calls.spliced_cons (gA (l a s b H _ I h) λu n ⟨x,o,d,m,p⟩=>?_);exact gA (j pos a n b o _ d p) λr v ⟨k,c,i,q,f⟩=>⟨x::k,c,i,.cons m q,f⟩
def agj(t:TA):TE:=λσ H Q=>t σ H λxs H1=>xs.length<=sizeLine/\∀p,H1 p=none->Q (.ref p) (upd H1 p (.tup xs))
def agk(t:TA):TE:=λσ H Q=>t σ H λxs H1=>xs.length<=sizeLine/\∀p,H1 p=none->Q (.ref p) (upd H1 p (.lst xs))
theorem dU{x1}(h:PA X es t):PE X (.Tuple es x1 pos) (agj t):=by
 intro a s k H Q I l;refine wpAny_Tuple_spliced (gA (h pos a s k H _ I l) λg c ⟨i,f,d,r,z,q⟩=>⟨by rw[<- r.length];exact z,?_⟩);have j:f c.heap.objs.size=none:=d.hok.fresh (ay _);refine⟨.ref c.heap.objs.size,upd f c.heap.objs.size (.tup i),d.laid (t':=c.toks) (λb u e=>Heap.get?_push_of_some _ e) (ay _) ?_,rfl,q _ j⟩;exact⟨z,g,r,⟨_,Heap.get?_push_size _ rfl,rfl,_,rfl⟩⟩
theorem jq(h:PA X es t):PE X (.List es pos) (agk t):=by
 intro a s k H Q I l;refine wpAny_List_spliced (gA (h pos a s k H _ I l) λg c ⟨i,f,d,r,z,q⟩=>⟨by rw[<- r.length];exact z,?_⟩);have j:f c.heap.objs.size=none:=d.hok.fresh (ay _);refine⟨.ref c.heap.objs.size,upd f c.heap.objs.size (.lst i),d.laid (t':=c.toks) (λb u e=>Heap.get?_push_of_some _ e) (ay _) ?_,rfl,q _ j⟩;exact⟨z,g,0,r,Heap.get?_push_size _ rfl⟩
end
abbrev Sp:=List V->Hp->VK->XK->Prop
abbrev Rt:=List Env->Hp->Shared->XK->Value->Shared->Prop
structure Oi(P:Program)(w:World)(K:af)(mg:Str->Option Value)(base:Heap)(A:Around)(outer:List Env)(s:Shared)(H:Hp):Prop where
 frames:A.frames=some outer
 mod:Mod K mg base
 bs:∀b o,base.get? b=some o->s.heap.get? b=some o/\H b=none
 VU:base.objs.size<=s.heap.objs.size
 Cr:s.heap.FunFrames base outer
 Yn:∀b∈frs outer,H b=none
 hok:yM P w H s.heap
 bare:AllBare s.gens
def CE(outer:List Env)(P:Program)(w:World)(H:Hp)(s:Shared)(Q:VK)(u:Value)(s':Shared):Prop :=
 ∃v H',s'.os=s.os/\AllBare s'.gens/\Un (frs outer) [] H H' s.heap s'.heap/\yM P w H' s'.heap/\RelV v u/\Q v H'
def CR(CX:Rt)(outer:List Env)(P:Program)(w:World)(H:Hp)(s:Shared)(Q:VK)(E:XK)(r:Result)(s':Shared):Prop :=
 match r with
 |.ok (.ret u)=>CE outer P w H s Q u s'
 |.ok _=>False
 |.error e=>CX outer H s E e s'
structure cz(P:Program)(w:World)(K:af)(mg:Str->Option Value)(base:Heap)(CX:Rt)(k:Nat)(f:Addr)(fd:FuncData)(ps:List Str)(sp:Sp):Prop where
 len:∀vs H Q E,sp vs H Q E->vs.length=ps.length
 run:∀(A:Around) (outer:List Env) (s:Shared) (H:Hp) (args:Args) (us:List Value) (vs:List V) (Q:VK) (E:XK),jE k A->Oi P w K mg base A outer s H->BindsTo s fd args (ps.zip us)->bZ vs us->sp vs H Q E ->
  codeAny (model P w) A (.call (.ref f) args) (CR CX outer P w H s Q E) s
theorem Oi.make{P:Program}{w:World}{K:af}{b:Str->Option Value}{base:Heap}{A:Around}{a:List Env}{s:Shared}{H:Hp}(e:Oi P w K b base A a s H)(C:Addr)(us:List Value)(c:List (Str×Value)) :
 Oi P w K b base (A.under (.builtin "type.__call__" ⟨.ref C::us,c⟩)) a s H:=⟨by first|exact e.frames|(simpa [Around.under,Code.envs,Code.isFrame,pushEnvs] using e.frames),e.mod,e.bs,e.VU,e.Cr,e.Yn,e.hok,e.bare⟩
section
variable{X:Cx}{pins:List (Addr×Obj)}{σ:St}{H:Hp}{s s':Shared}
theorem Inv.acE(I:Inv X pins σ H s):Oi X.prog X.w X.K X.mg X.base X.A X.stack s H :=
 ⟨I.ok.frames,I.ok.mod,I.bs,aN I.ok.VU I.sz,I.stack,I.Kf,I.hok,I.bare⟩
theorem Inv.after{Q:VK}{u:Value}(I:Inv X pins σ H s)(h:CE X.stack X.prog X.w H s Q u s'):EP X pins σ Q u s':=by
 obtain⟨v,f,os,a,j,c,r,q⟩:=h;obtain⟨i,g,d,t,e⟩:=s';obtain rfl:e=s.os:=os;exact⟨v,f,I.call (h':=i) (g':=g) (d':=d) (t':=t) (ch:=[]) j c a (λb z=>eL z (-_)),r,q⟩
end
def Yv(sp:Sp)(Bv:List V)(E:XK)(t:TA):TE:=λσ H Q=>t σ H λvs H1=>sp (vs++Bv) H1 Q E
inductive Yw(C:Addr)(m:Str)(sp:Sp)(Bv:List V)(E:XK)(t:TA)(σ:St)(Q:VK)(x:V)(H1:Hp):Prop
 |mk (a dx:Addr) (fs:List (Str×V)) (h1:x=.ref a) (h2:H1 a=some (.ins C dx fs)) (h3:fs.lookup m=none) (h4:t σ H1 λvs H2=>sp (x::(vs++Bv)) H2 Q E):Yw C m sp Bv E t σ Q x H1
def EO(C:Addr)(m:Str)(sp:Sp)(Bv:List V)(E:XK)(ta:TE)(t:TA):TE:=λσ H Q=>ta σ H (Yw C m sp Bv E t σ Q)
def TH(C:Addr)(sp:Sp)(Bv:List V)(E:XK)(t:TA):TE:=λσ H Q=>t σ H λvs H1=>∀x dx,H1 x=none->H1 dx=none->dx≠x ->
 sp (.ref x::(vs++Bv)) (upd (upd H1 dx (.own x)) x (.ins C dx [])) (λv H2=>v=.fH/\Q (.ref x) H2) E
def Binds(K:af)(fd:FuncData)(ps:List Str)(ds:List Value):Prop :=
 ∀(s:Shared) (us:List Value),K.In s.heap->(us++ds).length=ps.length->BindsTo s fd ⟨us,[]⟩ (ps.zip (us++ds))
theorem Binds.all{K:af}{a:FuncData}{ps:List Str}(h:∀us:List Value,us.length=ps.length->bindArgs a ⟨us,[]⟩=pure (ps.zip us)):Binds K a ps []:=λs us _ b=>by
 rw[bY] at b ⊢;exact .of_eq (h us b)
def sj(CX:Rt)(X:Cx)(E:XK):Prop:=∀(pins:List (Addr×Obj)) (σ:St) (H:Hp) (s:Shared) (e:Value) (s':Shared),Inv X pins σ H s->CX X.stack H s E e s'->X.xe e s'
section
variable{X:Cx}{CX:Rt}{k:Nat}{f C:Addr}{fd:FuncData}{ps:List Str}{sp:Sp}{Bv:List V}{ds:List Value}{E:XK}{x m:Str}{p pos apos:Pos}{e o:Expr}{es:List Expr}{ta:TE}{t:TA}
theorem Kq{a:List (Addr×Obj)}{c:St}{H:Hp}{s:Shared}{Q:VK}{us:List Value}{vs:List V}(F:cz X.prog X.w X.K X.mg X.base CX k f fd ps sp)(i:jE k X.A)(n:Binds X.K fd ps ds)(l:bZ Bv ds)(g:sj CX X E)
 (I:Inv X a c H s) (r:bZ vs us) (h:sp (vs++Bv) H Q E):wpAny (model X.prog X.w) X.A (call (.ref f) us) (EP X a c Q) X.xe s:=by
 have d:bZ (vs++Bv) (us++ds):=r.append l;have m:(us++ds).length=ps.length:=by rw[<- d.length];exact F.len _ _ _ _ h
 refine wpAny_call (codeAny_mono (F.run X.A X.stack s H ⟨us,[]⟩ (us++ds) (vs++Bv) Q E i I.acE (n s us I.Br m) d h) λr o b=>?_);cases r with
 |error e=>exact g a c H s e o I b
 |ok j =>
  cases j with
  |ret u=>exact I.after b
  |next=>exact jC b
  |brk=>exact jC b
  |cont=>exact jC b
theorem AA(F:cz X.prog X.w X.K X.mg X.base CX k f fd ps sp)(n:jE k X.A)(m:Gl X x)(g:X.mg x=some (.ref f))(l:dX X.K (.ref f)=true)(y:Binds X.K fd ps ds)(u:bZ Bv ds)(i:sj CX X E)
 (o:PA X (e::es) t) (c:(x==("__debug__" : Str))=false:=by decide) (j:starEach (e::es) X.env=(false,eval e X.env)::starEach es X.env:=by rfl) (b:(backTo pos (starEach es X.env)).any (·.1)=false:=by rfl) :
 PE X (.Call (.Name x p) (e::es) [] pos) (Yv sp Bv E t):=by
 intro a s v H Q I h;refine wpAny_Call_Name_kw (Cs I m g ?_ c);refine PySem.W.callWith_K (h₀:=X.base) I.ok.mod.ZD l (gA (o pos a s v H _ I h) λz C ⟨B,D,d,r,q⟩=>⟨d.Br,?_⟩) j b;exact Kq F n y u i d r q
theorem Cw{pl:Sem Bool}(B:PE X o ta)(c:Iq X.K C)(hm:Ko X.K C m f)(F:cz X.prog X.w X.K X.mg X.base CX k f fd ps sp)(J:jE k X.A)(R:Binds X.K fd ps ds)(M:bZ Bv ds)(y:sj CX X E)(L:PA X (e::es) t)
 (g:starEach (e::es) X.env=(false,eval e X.env)::starEach es X.env:=by rfl) (d:(backTo pos (starEach es X.env)).any (·.1)=false:=by rfl)
 (N:eval (.Call (.Attribute o m apos) (e::es) [] pos) X.env=(do
  let i <- eval o X.env
  standAt apos.atName
  let (f,first) <- holding [i] (getMethod i m pl)
  callWith pos f first (backTo pos (starEach (e::es) X.env)) (backToKw pos (keywordEach [] X.env))):=by rfl) :
 PE X (.Call (.Attribute o m apos) (e::es) [] pos) (EO C m sp Bv E ta t):=by
 intro b s p H Q I h;refine PySem.W.methodCall_KW (pl:=pl) (gA (B b s p H _ I h) λu O ⟨x,P,j,D,a,T,U,v,G,l,q⟩=>?_) N;subst v;obtain rfl:u=Value.ref a:=D;refine Gz j G c hm l ?_;refine PySem.W.callWith_K (first:=[.ref a]) (h₀:=X.base) I.ok.mod.ZD hm.kp (gA (L pos b O p P _ j q) λus V ⟨vs,S,n,r,z⟩=>⟨n.Br,?_⟩) g d;exact Kq (us:=.ref a::us) (vs:=.ref a::vs) F J R M y n (.cons rfl r) z
theorem kD{pl:Sem Bool}(j:PE X o ta)(c:Iq X.K C)(hm:Ko X.K C m f)(F:cz X.prog X.w X.K X.mg X.base CX k f fd ps sp)(r:jE k X.A)(z:Binds X.K fd ps ds)(t:bZ Bv ds)(i:sj CX X E)
 (y:eval (.Call (.Attribute o m apos) [] [] pos) X.env=(do
  let e <- eval o X.env
  standAt apos.atName
  let (f,first) <- holding [e] (getMethod e m pl)
  callWith pos f first (backTo pos (starEach [] X.env)) (backToKw pos (keywordEach [] X.env))):=by rfl) :
 PE X (.Call (.Attribute o m apos) [] [] pos) (EO C m sp Bv E ta Bu):=by
 intro b s v H Q I h;refine PySem.W.methodCall_KW (pl:=pl) (gA (j b s v H _ I h) λu G ⟨x,J,d,n,a,B,D,g,p,l,q⟩=>?_) y;subst g;obtain rfl:u=Value.ref a:=n;refine Gz d p c hm l ?_;exact PySem.W.callWith_K0 (first:=[.ref a]) d.Br hm.kp (Kq (us:=[.ref a]) (vs:=[.ref a]) F r z t i d (.cons rfl .nil) q)
structure Mk(K:af)(C f:Addr):Prop where
 makes:PySem.W.makesIn K C=true
 init:aI K (.ref C) "__init__" = some (some (.ref f))
 fn:PySem.W.isFn K (.ref f)=true
 kp:dX K (.ref C)=true
theorem LZ{a:List (Addr×Obj)}{g:St}{H:Hp}{s:Shared}{Q:VK}{us:List Value}{vs:List V}(M:Mk X.K C f)(F:cz X.prog X.w X.K X.mg X.base CX k f fd ps sp)(q:jE (k+1) X.A)(G:Binds X.K fd ps ds)(y:bZ Bv ds)
 (n:sj CX X E) (I:Inv X a g H s) (r:bZ vs us)
 (h:∀x d,H x=none->H d=none->d≠x->sp (.ref x::(vs++Bv)) (upd (upd H d (.own x)) x (.ins C d [])) (λv m=>v=.fH/\Q (.ref x) m) E) :
 wpAny (model X.prog X.w) X.A (call (.ref C) us) (EP X a g Q) X.xe s:=by
 have i:=h (s.heap.objs.size+1) s.heap.objs.size (I.hok.fresh (cV _)) (I.hok.fresh (ay _)) (bE (wI _));have c:=Inv.made (C:=C) I;have j:bZ (V.ref (s.heap.objs.size+1)::(vs++Bv)) (Value.ref (s.heap.objs.size+1)::(us++ds)):=.cons rfl (r.append y);have z:(Value.ref (s.heap.objs.size+1)::us++ds).length=ps.length:=by
  have e:=j.length;rw[F.len _ _ _ _ i] at e;exact e.symm
 refine wpAny_call (TF (f:=f) I.Br M.makes M.init (beq_iff_eq.mp M.fn) (codeAny_mono (F.run _ X.stack _ _ ⟨Value.ref (s.heap.objs.size+1)::us,[]⟩ (Value.ref (s.heap.objs.size+1)::(us++ds)) _ _ E (q.make C us [])
  (c.acE.make C us []) (G _ (Value.ref (s.heap.objs.size+1)::us) c.Br z) j i) λr J b=>?_))
 cases r with
 |error e=>exact n a g _ _ e J c b
 |ok t =>
  cases t with
  |ret u =>
   obtain⟨v,l,o,B,D,p⟩:=c.after b;subst D;exact⟨B,⟨V.ref (s.heap.objs.size+1),l,o,rfl,p⟩⟩
  |next=>exact jC b
  |brk=>exact jC b
  |cont=>exact jC b
theorem PY(M:Mk X.K C f)(F:cz X.prog X.w X.K X.mg X.base CX k f fd ps sp)(m:jE (k+1) X.A)(l:Gl X x)(g:X.mg x=some (.ref C))(v:Binds X.K fd ps ds)(o:bZ Bv ds)(i:sj CX X E)
 (n:PA X (e::es) t) (c:(x==("__debug__" : Str))=false:=by decide) (j:starEach (e::es) X.env=(false,eval e X.env)::starEach es X.env:=by rfl) (b:(backTo pos (starEach es X.env)).any (·.1)=false:=by rfl) :
 PE X (.Call (.Name x p) (e::es) [] pos) (TH C sp Bv E t):=by
 intro a s u H Q I h;refine wpAny_Call_Name_kw (Cs I l g ?_ c);refine PySem.W.callWith_K (h₀:=X.base) I.ok.mod.ZD M.kp (gA (n pos a s u H _ I h) λy B ⟨z,D,d,r,q⟩=>⟨d.Br,?_⟩) j b;exact LZ M F m v o i d r q
theorem TJ(M:Mk X.K C f)(F:cz X.prog X.w X.K X.mg X.base CX k f fd ps sp)(e:jE (k+1) X.A)(d:Gl X x)(c:X.mg x=some (.ref C))(g:Binds X.K fd ps ds)(i:bZ Bv ds)(j:sj CX X E)
 (a:(x==("__debug__" : Str))=false:=by decide):PE X (.Call (.Name x p) [] [] pos) (TH C sp Bv E Bu):=by
 intro b s l H Q I h;refine wpAny_Call_Name_kw (Cs I d c ?_ a);exact PySem.W.callWith_K0 I.Br M.kp (LZ (us:=[]) M F e g i j I .nil h)
end
structure aJ(N P:List Str)(sc:Scope):Prop where
 kind:sc.kind=.function
 co:sc.isCoroutine=false
 gen:sc.isGenerator=false
 nd:N.Nodup
 pre:N.take P.length=P
 par:∀x∈P,sc.names.lookup x=some .local∨sc.names.lookup x=some .cell
 Z1:∀y∈sc.names,y.2≠.free
theorem Js{kindOf:Str->Option NameKind}{x:Str}:∀{a:List (Str×Value)} {m:Str->Option Value},(∀v,(x,v)∉a)->bindL kindOf a m x=m x
 |[],_,_=>rfl
 | (n,v)::r,m,h=>by
  unfold bindL;rw[Js λw b=>h w (bu _ b)];split
  ·have:x≠n:=by rintro rfl;exact h v b9
   simp[this]
  ·rfl
theorem Jt{kindOf:Str->Option NameKind}{x:Str}:∀{a:List (Str×Value)} {m:Str->Option Value},(∀v,(x,v)∉a)->bindC kindOf a m x=m x
 |[],_,_=>rfl
 | (n,v)::r,m,h=>by
  unfold bindC;rw[Jt λw b=>h w (bu _ b)];split
  ·rfl
  ·have:x≠n:=by rintro rfl;exact h v b9
   simp[this]
theorem Ju{kindOf:Str->Option NameKind}{x:Str}{v:Value}:∀{P:List Str} {vs:List Value} {i:Nat} {m:Str->Option Value},P.Nodup->P[i]?=some x->vs[i]?=some v->kindOf x=some .local ->
 bindL kindOf (P.zip vs) m x=some v
 |[],_,_,_,_,h,_,_=>by simp at h
 |_::_,[],_,_,_,_,h,_=>by simp at h
 |p::P,w::vs,0,m,nd,a,b,c=>by
  simp at a b;subst a;subst b;show bindL kindOf ((p,w)::P.zip vs) m p=_;unfold bindL;rw[Js λv d=>(mG.mp nd).1 (List.of_mem_zip d).1,ee c];simp
 |p::P,w::vs,i+1,m,nd,a,b,c=>by
  show bindL kindOf ((p,w)::P.zip vs) m x=_;unfold bindL;exact Ju (i:=i) (mG.mp nd).2 (by simpa using a) (by simpa using b) c
theorem Jv{kindOf:Str->Option NameKind}{x:Str}{v:Value}:∀{P:List Str} {vs:List Value} {i:Nat} {m:Str->Option Value},P.Nodup->P[i]?=some x->vs[i]?=some v->kindOf x≠some .local ->
 bindC kindOf (P.zip vs) m x=some v
 |[],_,_,_,_,h,_,_=>by simp at h
 |_::_,[],_,_,_,_,h,_=>by simp at h
 |p::P,w::vs,0,m,nd,a,b,c=>by
  simp at a b;subst a;subst b;show bindC kindOf ((p,w)::P.zip vs) m p=_;unfold bindC;rw[Jt λv d=>(mG.mp nd).1 (List.of_mem_zip d).1,er c];simp
 |p::P,w::vs,i+1,m,nd,a,b,c=>by
  show bindC kindOf ((p,w)::P.zip vs) m x=_;unfold bindC;exact Jv (i:=i) (mG.mp nd).2 (by simpa using a) (by simpa using b) c
noncomputable def start(N:List Str)(vs:List V):St:=vs.map some++k7 (N.length-vs.length) none
noncomputable def oj(CX:Rt)(P:Program)(w:World)(K:af)(mg:Str->Option Value)(base:Heap)(N:List Str)(qual:Str)(scope:Scope)(f:Addr)(cd:Value)(A:Around)(outer:List Env)(s:Shared)(H:Hp)(E:XK):Cx where
 prog:=P
 w:=w
 K:=K
 mg:=mg
 base:=base
 A:=A.deeper (envOfC qual scope s.heap.objs.size f cd)
 N:=N
 s₀:=s
 H₀:=H
 env:=envOfC qual scope s.heap.objs.size f cd
 outer:=outer
 stack:=envOfC qual scope s.heap.objs.size f cd::outer
 ex:=[]
 calm:=true
 fn:=λ_=>true
 pn:=[]
 xe:=λe s'=>wpAny (model P w) (A.deeper (envOfC qual scope s.heap.objs.size f cd)) (leaving (envOfC qual scope s.heap.objs.size f cd) e) (λ_ s''=>CX outer H s E e s'') (λe' s''=>CX outer H s E e' s'') s'
theorem L0{a:Scope}{n:Nat}{x:Str}(h:a.names.lookup x=some .cell):∃c,(cellsFrom n a.names []).lookup x=some c:=by
 have q:=PySem.W.cellsFrom_some a.names n [] (.inl h);exact Option.isSome_iff_exists.mp q
theorem Ru{CX:Rt}{P:Program}{w:World}{K:af}{F:Str->Option Value}{base:Heap}{N ps:List Str}{g:Str}{scope:Scope}{f:Addr}{C:Value}{A:Around}{d:List Env}{s J:Shared}{H:Hp}{E:XK}{us:List Value}{vs:List V}
 (S:aJ N ps scope) (O:A.handled=none) (l:Oi P w K F base A d s H) (hl:vs.length=ps.length) (r:bZ vs us)
 (x:InCallC s s.heap.objs.size (bindL (envOfC g scope s.heap.objs.size f C).kindOf (ps.zip us) λ_=>none) (cellsFrom (s.heap.objs.size+1) scope.names []) (bindC (envOfC g scope s.heap.objs.size f C).kindOf (ps.zip us) λ_=>none) J) :
 Inv (oj CX P w K F base N g scope f C A d s H E) [] (start N vs) H J:=by
 have L:ps.length<=N.length:=by have:=gU List.length S.pre;rw[bQ] at this;lia
 obtain⟨B,R,rfl,G⟩:=x.done;have m:∀b:Addr,b∉(oj CX P w K F base N g scope f C A d s H E).ex:=λb z=>eL (show b∈([]:List Addr) from z) (-_);refine⟨⟨l.mod,S.kind,rfl,rfl,ay _,λy z c B j=>?_,λy hy=>?_,λy c _ h=>?_,λ_=>O,Around.frames_deeper l.frames,.inr ⟨rfl,rfl⟩,λb z=>eL z (m b),l.bs,l.VU,λb _ _=>m b,λb z=>eL z (m b),l.Cr,l.Yn⟩,
  rfl,l.bare,Un.kept G,⟨_,x.toInCall.ns,λi y v B j T=>?_⟩,λy c h=>⟨_,x.cell y c h⟩,l.hok.fresh (ay _),λy c h=>?_,λp t=>eL (show p∈([]:List (Addr×Obj)) from t) (-_),l.hok.kept G,?_⟩
 ·exact name_of_addr x.apart (qi B) (qi j)
 ·have hy:scope.names.lookup y=some .cell∨scope.names.lookup y=some .free:=hy
  rcases hy with hy|hy
  ·exact L0 hy
  ·exact eL rfl (S.Z1 _ (qi hy))
 ·exact kg (x.above y c (qi h))
 ·have D:i<vs.length:=by
   unfold start at j;by_cases D:i<vs.length
   ·exact D
   ·rw[cu (by simpa using D)] at j
    rw[List.getElem?_replicate] at j;split at j <;> cases j
  have M:vs[i]?=some v:=by
   unfold start at j;rw[bL (by simpa using D),aj] at j;cases e:vs[i]? with
   |none=>rw[e] at j;cases j
   |some a=>rw[e] at j;cases j;rfl
  obtain⟨u,I,Q⟩:=r.get M;have t:ps[i]?=some y:=by
   rw[<- S.pre,List.getElem?_take_of_lt ∅];exact B
  have o:ps.Nodup:=by rw[<- S.pre];exact S.nd.sublist (List.take_sublist _ _)
  refine⟨u,Q,?_⟩;rcases S.par y (aM t) with k|k
  ·exact .inl ⟨k,Ju o t I k⟩
  ·obtain⟨c,e⟩:=L0 (n:=s.heap.objs.size+1) k
   refine .inr ⟨.inl k,c,e,?_⟩;have q:=x.cell y c e;rw[Jv o t I (by show scope.names.lookup y≠_;rw[k];decide)] at q;exact q
 ·exact l.hok.fresh (kg (x.above y c (qi h)))
 ·unfold start
  show _=N.length;rw[av,ah,List.length_replicate];lia
theorem TL{CX:Rt}{P:Program}{w:World}{K:af}{F:Str->Option Value}{base:Heap}{k:Nat}{f:Addr}{name c:Str}{g:Arguments}{h:List Stmt}{scope:Scope}{X kV C pm d ct oc:Value}{an od:Option Addr}
 {T:Array (Option Value)} {N ps:List Str} {sp:Sp} (lk:K.lookup f=some ⟨oc,od,.func (eT name c g h scope X kV C pm an d ct),T⟩) (R:jm K d c=true) (S:aJ N ps scope)
 (B:∀vs H Q E,sp vs H Q E->vs.length=ps.length)
 (l:∀(A:Around) (a:List Env) (s:Shared) (H:Hp) (vs:List V) (Q:VK) (E:XK),jE k (A.deeper (envOfC c scope s.heap.objs.size f d))->sp vs H Q E ->
  ∃t,iD (oj CX P w K F base N c scope f d A a s H E) h t/\t {nx:=λ_ j=>Q .fH j,rt:=Q} (start N vs) H) :
 cz P w K F base CX (k+1) f (eT name c g h scope X kV C pm an d ct) ps sp:=by
 refine⟨B,λA a s H args us vs Q E G z hb r Z=>?_⟩;have hl:=B _ _ _ _ Z;have U:K.In s.heap:=z.mod.ZD.keeps λb o e=>(z.bs b o e).1;have M:s.heap.NoLimit:=z.mod.nolimit.keeps λb o e=>(z.bs b o e).1;have m:∀y∈ps.zip us,scope.names.lookup y.1=some .local∨(scope.names.lookup y.1=some .cell/\((cellsFrom (s.heap.objs.size+1) scope.names []).lookup y.1).isSome=true):=λ⟨n,v⟩ hy=>by
  rcases S.par n (List.of_mem_zip hy).1 with q|q
  ·exact .inl q
  ·exact .inr ⟨q,PySem.W.cellsFrom_some _ _ _ (.inl q)⟩
 refine codeAny_call_function G.depth (U _ _ lk) rfl S.co S.gen rfl (PySem.W.codeRec_of U R) (hb _ _ _ _ ?_);refine wpAny_newFunctionEnv_cells S.kind m λenv he Y x=>?_;subst he;refine⟨M.keeps x.toInCall.keep,codeAny_func ?_⟩;obtain⟨t,ht,hq⟩:=l A a s H vs Q E (G.deeper _) Z;have I:Inv (oj CX P w K F base N c scope f d A a s H E) [] (start N vs) H Y:=Ru S G.hd z hl r x;refine wpAny_mono (ht [] Y (start N vs) H _ I hq) (λfl O p=>?_) λe O p=>p;have D:∀{i:St} {j:Hp} {v:V} {u:Value},Inv (oj CX P w K F base N c scope f d A a s H E) [] i j O->RelV v u->Q v j->CE a P w H s Q u O :=
  λ{i j v u} J L q=>⟨v,j,J.os,J.bare,J.base,J.hok,L,q⟩
 cases fl with
 |ret u =>
  obtain⟨v,i,j,J,L,q⟩:=p;exact D J L q
 |next =>
  obtain⟨i,j,J,q⟩:=p;exact D (v:=V.fH) (u:=Value.none) J rfl q
 |brk =>
  obtain⟨_,_,_,q⟩:=p;exact jC q
 |cont =>
  obtain⟨_,_,_,q⟩:=p;exact jC q
section
variable{X:Cx}{x:Str}{p pos:Pos}{e:Expr}{es:List Expr}{t:TA}{id T:String}{r:List V->Hp->VK->Prop}
def z4(r:List V->Hp->VK->Prop)(t:TA):TE:=λσ H Q=>t σ H λvs H1=>r vs H1 Q
theorem L1(i:nX X (.builtin id) r)(n:Gl X x)(f:X.mg x=none)(m:bootBuiltins x=some (.builtin id))(q:PA X (e::es) t)(l:x≠"__name__" := by decide)(c:(x==("__debug__" : Str))=false:=by decide)
 (j:starEach (e::es) X.env=(false,eval e X.env)::starEach es X.env:=by rfl) (b:(backTo pos (starEach es X.env)).any (·.1)=false:=by rfl):PE X (.Call (.Name x p) (e::es) [] pos) (z4 r t):=by
 intro a s d H Q I h;refine wpAny_Call_Name_kw (Gv I n f m ?_ l c);exact PyProof.Rows.callWith_builtin1 (gA (q pos a s d H _ I h) λk v ⟨o,w,g,u,y⟩=>i a v d w o k Q g u y) j b
theorem fW(i:nX X (.type T) r)(n:Gl X x)(f:X.mg x=none)(m:bootBuiltins x=some (.type T))(q:PA X (e::es) t)(l:x≠"__name__" := by decide)(c:(x==("__debug__" : Str))=false:=by decide)
 (j:starEach (e::es) X.env=(false,eval e X.env)::starEach es X.env:=by rfl) (b:(backTo pos (starEach es X.env)).any (·.1)=false:=by rfl):PE X (.Call (.Name x p) (e::es) [] pos) (z4 r t):=by
 intro a s d H Q I h;refine wpAny_Call_Name_kw (Gv I n f m ?_ l c);exact PyProof.Rows.callWith_type1 (gA (q pos a s d H _ I h) λk v ⟨o,w,g,u,y⟩=>i a v d w o k Q g u y) j b
end
end L2
namespace HT
open PySem PyProof.Rows
theorem L3(A:Around)(s:Shared)(a:Int)(t:Tok)(c:Int)(u:Tok):∃e,SeqAt.EqAt A s (.int a t) (.int c u) e/\(e=true↔a=c) :=
 ⟨(a==c),SeqAt.EqAt.int_int a t c u,-_⟩
theorem TM(A:Around)(s:Shared)(a:Int)(t:Tok)(c:Int)(u:Tok)(prog:Program)(w:World)(E:Value->Shared->Prop)(Q:Value->Shared->Prop)(h:Q (.bool (decide (a<c))) s) :
 wpAny (model prog w) A (richCompare .Lt (.int a t) (.int c u)) Q E s :=
 (PyProof.Rows.lt_int h:wpAny (model prog w) A (compareOp .Lt (.int a t) (.int c u)) Q E s)
section
open PySem.SeqAt
open PySem.AutoSeq1 (wpAny_loadPart')
open PySem.MeetsSeq PySem.MeetsSeq2 PySem.MeetsSeq3
end
section
variable{prog:Program}{w:World}{A:Around}{E:Value->Shared->Prop}{s:Shared}
theorem Wl{t b:Addr}{vs a:List Value}{Q:Value->Shared->Prop}(y:IsTup s.heap t vs.toArray)(z:IsTup s.heap b a.toArray)(m:vs≠[])
 (u:a=[]->Q (.ref t) s) (x:a≠[]->Q (.ref s.heap.objs.size) {s with heap:=s.heap.push {cls:=.type "tuple",data:=.seq (vs++a).toArray}})
 (k:vs.length+a.length<=sizeLine):wpAny (model prog w) A (binaryOp .Add (.ref t) (.ref b)) Q E s:=by
 obtain⟨⟨cls,r,data,o⟩,j,l,n,q⟩:=id y;obtain⟨⟨v,d,data2,f⟩,c,h,p,g⟩:=id z;simp only at l q h g;subst l q h g;have e:vs.toArray++a.toArray=(vs++a).toArray:=-_
 by_cases i:a=[]
 ·exact concat_meets ⟨_,j,rfl⟩ ⟨_,c,rfl⟩ noFill_tuple_add seq_tuple_add PySem.F.slot_tuple_add PySem.F.entry_tuple_add (PySem.F.args_tuple_add_2 _ _)
   (tuple_addW1 t b vs.toArray a.toArray n p r d o f (by simpa using m) (by simp[i])) ⟨j,c,u i⟩
 ·refine concat_meets ⟨_,j,rfl⟩ ⟨_,c,rfl⟩ noFill_tuple_add seq_tuple_add PySem.F.slot_tuple_add PySem.F.entry_tuple_add (PySem.F.args_tuple_add_2 _ _)
   (tuple_addW2 t b vs.toArray a.toArray n p r d o f (by simpa using m) (by simpa using i) (by rw[aP,aP];exact k)) ⟨j,c,?_⟩
  rw[e];exact x i
noncomputable def lK(n d:Nat):Option Int->Nat
 |none=>d
 |some v=>if v<0 then (v+(n:Int)).toNat else min v.toNat n
theorem Gf(n d k:Nat):lK n d (some (k:Int))=min k n:=by
 show (if (k:Int)<0 then ((k:Int)+(n:Int)).toNat else min (k:Int).toNat n)=min k n;rw[er ∅,cy]
theorem Z2(n d:Nat)(b:d<=n)(o:Option Int):lK n d o<=n:=by
 cases o with
 |none=>exact b
 |some v =>
  show (if v<0 then (v+(n:Int)).toNat else min v.toNat n)<=n;by_cases a:v<0
  ·rw[ee a];lia
  ·rw[er a];exact Nat.min_le_right _ _
theorem PZ(v:Int)(n d:Nat):(if v<0 then max (v+(n:Int)) 0 else min v (n:Int))=((lK n d (some v):Nat):Int):=by
 show (if v<0 then max (v+(n:Int)) 0 else min v (n:Int))=(((if v<0 then (v+(n:Int)).toNat else min v.toNat n):Nat):Int);by_cases a:v<0
 ·simp only[ee a];lia
 ·simp only[er a];lia
theorem Oj(lo a:Option Int)(n:Nat):Builtin.Slice.sliceAdjust lo a 1 (n:Int)=(((lK n 0 lo:Nat):Int),((lK n n a:Nat):Int)):=by
 have b:¬((1:Int)<0):=∅
 unfold Builtin.Slice.sliceAdjust;simp only[b,if_false];refine Prod.ext ?_ ?_
 ·cases lo with
  |none=>rfl
  |some v=>exact PZ v n 0
 ·cases a with
  |none=>rfl
  |some v=>exact PZ v n n
theorem Ol(i j:Nat):Builtin.Slice.slicePlaces (i:Int) (j:Int) 1=j-i:=by
 unfold Builtin.Slice.slicePlaces;have a:(1:Int) > 0:=∅
 simp only[a,if_true,Int.ediv_one];split <;> lia
theorem GB{v:Value}{o:Option Int}{Q:Option Int->Shared->Prop}(p:IsPart v o)(h:Q o s):wpAny (model prog w) A (Builtin.Slice.slicePartIndex v) Q E s:=by
 cases p with
 |none=>exact slicePart_none h
 |int i t=>exact slicePart_int h
theorem DH{f:Addr}{d e:Value}{lo b:Option Int}{n:Nat}{Q:Int×Int×Nat->Shared->Prop}(g:s.heap.IsSliceOf f d e .none)(pl:IsPart d lo)(j:IsPart e b)
 (h:Q (((lK n 0 lo:Nat):Int),1,lK n n b-lK n 0 lo) s):wpAny (model prog w) A (Builtin.Slice.sliceApplied (.ref f) (pure (n:Int))) Q E s:=by
 obtain⟨os,c,i,a⟩:=id g;unfold Builtin.Slice.sliceApplied Builtin.Slice.sliceFields;refine wpAny_bind (wpAny_bind (wpAny_field c a (x:=d) rfl (wpAny_bind (wpAny_field c a (x:=e) rfl (wpAny_bind (wpAny_field c a (x:=.none) rfl (wpAny_pure ?_)))))));refine wpAny_bind (slicePart_none ?_);show wpAny _ _ (if ((1:Int)==0)=true then _ else _) _ _ s;rw[er (!_)];refine wpAny_bind (GB pl (wpAny_bind (GB j (wpAny_bind (wpAny_pure ?_)))));show wpAny _ _ (match Builtin.Slice.sliceAdjust lo b 1 (n:Int) with|(lo,b)=>pure (lo,(1:Int),Builtin.Slice.slicePlaces lo b 1)) _ _ s;rw[Oj lo b n];show wpAny _ _ (pure (((lK n 0 lo:Nat):Int),(1:Int),Builtin.Slice.slicePlaces ((lK n 0 lo:Nat):Int) ((lK n n b:Nat):Int) 1)) _ _ s;rw[Ol];exact wpAny_pure h
theorem TN(xs:Array Value)(i k:Nat):((aA k).filterMap λ(m:Nat)=>xs[((i:Int)+(m:Int)*1).toNat]?).toArray=((xs.toList.drop i).take k).toArray:=by
 have e:(λ(m:Nat)=>xs[((i:Int)+(m:Int)*1).toNat]?)=λm=>xs[i+m]?:=by
  funext m
  have:((i:Int)+(m:Int)*1).toNat=i+m:=∅
  rw[this]
 rw[e]
 have:=pick_run xs i k
 rw[List.filterMap_map] at this;have a:((λx=>xs[x]?)∘λx=>i+x)=λm=>xs[i+m]?:=rfl;rw[a] at this;rw[this]
theorem Cy{t e:Addr}{items:Array Value}{j l:Value}{lo a:Option Int}{Q:Value->Shared->Prop}(c:IsTup s.heap t items)(k:s.heap.IsSliceOf e j l .none)(pl:IsPart j lo)(r:IsPart l a)
 (n:¬(lK items.size 0 lo=0/\lK items.size items.size a=items.size))
 (h:Q (.ref s.heap.objs.size) {s with heap:=s.heap.push {cls:=.type "tuple",data:=.seq ((items.toList.drop (lK items.size 0 lo)).take (lK items.size items.size a-lK items.size 0 lo)).toArray}})
 (p:items.size<=sizeLine):wpAny (model prog w) A (getItem (.ref t) (.ref e)) Q E s:=by
 have b:sizeOk (.seq ((items.toList.drop (lK items.size 0 lo)).take (lK items.size items.size a-lK items.size 0 lo)).toArray):=by
  show ((items.toList.drop (lK items.size 0 lo)).take (lK items.size items.size a-lK items.size 0 lo)).toArray.size<=sizeLine;rw[aP,bQ,wK,aR];lia
 have u:lK items.size items.size a<=items.size:=Z2 _ _ (ay _) a;obtain⟨os,g,i,o⟩:=id k;have f:s.TypeIs (.ref e) "slice" := ⟨os,g,i⟩;unfold getItem
 try with_reducible refine wpAny_holding ?_
 first|refine wpAny_bind (wpAny_pure ?_)|skip
 refine wpAny_bind (wpAny_sequenceKey c.typeIs (!_) ?_);refine wpAny_bind (wpAny_callSpecial?_slot (name:=Str.ofString "__getitem__") c.typeIs uI
  (wpAny_call_entry uI c.typeIs entry_tuple_getitem ?_ (args_tuple_getitem _ _)))
 show wpAny _ _ (Builtin.Tuple.tupleItemsOf (.ref t) >>= _) _ _ s;refine wpAny_bind (tupleItemsOf_ c ?_);refine wpAny_bind (wpAny_typeOf f ?_);rw[ee (!_)];refine wpAny_bind (DH k pl r ?_);have d:¬((((lK items.size 0 lo:Nat):Int)==0&&(1:Int)==1&&(lK items.size items.size a-lK items.size 0 lo)==items.size)=true):=by
  intro q;rw[c9,c9] at q;have x:((lK items.size 0 lo:Nat):Int)=0:=eq_of_beq q.1.1;have v:lK items.size items.size a-lK items.size 0 lo=items.size:=eq_of_beq q.2;exact n ⟨∅,∅⟩
 show wpAny _ _ (if (((lK items.size 0 lo:Nat):Int)==0&&(1:Int)==1&&(lK items.size items.size a-lK items.size 0 lo)==items.size)=true then _ else _) _ _ s;rw[er d,TN]
 first
  |exact wpAny_bind (m:=Builtin.Tuple.tupleExact _) (wpAny_newObj_type (wpAny_pure ⟨_,rfl,wpAny_pure h⟩) b)
  |exact wpAny_bind (m:=Builtin.Tuple.tupleExact _) (wpAny_newObj_type (wpAny_bind (wpAny_pure (wpAny_pure ⟨_,rfl,wpAny_pure h⟩))) b)
  |exact wpAny_bind (wpAny_bind (m:=Builtin.Tuple.tupleExact _) (wpAny_newObj_type (wpAny_pure (wpAny_pure ⟨_,rfl,wpAny_pure h⟩)) b))
  |exact wpAny_bind (wpAny_bind (m:=Builtin.Tuple.tupleExact _) (wpAny_newObj_type (wpAny_pure ⟨_,rfl,wpAny_pure h⟩) b))
end
end HT
namespace L2
open PySem PySem.Spec PyProof.Rows
abbrev TO:=St->Hp->(Option Int->Hp->Prop)->Prop
def PO(X:Cx)(e:Option Expr)(t:TO):Prop :=
 ∀(pins:List (Addr×Obj)) (s:Shared) (σ:St) (H:Hp) (Q:Option Int->Hp->Prop),Inv X pins σ H s->t σ H Q ->
  wpAny (model X.prog X.w) X.A (evalPart e X.env) (λu s'=>∃o H',Inv X pins σ H' s'/\IsPart u o/\Q o H') X.xe s
def Wm:TO:=λ_ H Q=>Q none H
inductive Yx(Q:Option Int->Hp->Prop)(x:V)(H1:Hp):Prop
 |mk (i:Int) (a:x=.int i) (b:Q (some i) H1):Yx Q x H1
def acG(t:TE):TO:=λσ H Q=>t σ H (Yx Q)
theorem intsAre_of{ns:List Int}:∀{us:List Value},bZ (ns.map V.int) us->IntsAre us ns:=by
 induction ns with
 |nil=>intro us r;rw[List.map_nil] at r;cases r;exact .nil
 |cons n ns b =>
  intro us r;rw[bN] at r;cases r with
  |cons a c =>
   obtain⟨t,e⟩:=a;subst e;exact .cons n t (b c)
section
variable{X:Cx}{e:Expr}{te:TE}{lo hi:Option Expr}{tl th:TO}{pos p2:Pos}
theorem Gg:PO X none Wm:=by
 intro a s b H Q I h;rw[evalPart_none];exact wpAny_pure ⟨none,H,I,.none,h⟩
theorem wQ(h:PE X e te):PO X (some e) (acG te):=by
 intro a s d H Q I b;rw[evalPart_some];refine gA (h a s d H _ I b) λu k ⟨x,g,c,f,j⟩=>?_;obtain⟨i,rfl,q⟩:=j;obtain⟨t,rfl⟩:=f;exact⟨some i,g,c,.int i t,q⟩
def Rb(X:Cx)(r:V->Option Int->Option Int->Hp->VK->Prop):Prop :=
 ∀(pins:List (Addr×Obj)) (s:Shared) (σ:St) (H:Hp) (x:V) (v vl vu:Value) (lo hi:Option Int) (sl:Addr) (Q:VK),Inv X pins σ H s->RelV x v->s.heap.IsSliceOf sl vl vu .none->IsPart vl lo->IsPart vu hi->r x lo hi H Q ->
  ∃T id,typeLookup (.type T) "__getitem__" = pure (some (.builtin id))/\s.TypeIs v T/\wpAny (model X.prog X.w) X.A (getItem v (.ref sl)) (EP X pins σ Q) X.xe s
def tSl(r:V->Option Int->Option Int->Hp->VK->Prop)(te:TE)(tl th:TO):TE:=λσ H Q=>te σ H λx H1=>tl σ H1 λl H2=>th σ H2 λu H3=>r x l u H3 Q
theorem yQ{r:V->Option Int->Option Int->Hp->VK->Prop}(B:Rb X r)(n:PE X e te)(hl:PO X lo tl)(F:PO X hi th):PE X (.Subscript e (.Slice lo hi none p2) pos) (tSl r te tl th):=by
 intro a s d H Q I h;refine Subscript_ (gA (n a s d H _ I h) λv L ⟨x,M,k,K,N⟩=>?_);refine wpAny_Slice (gA (hl a L d M _ k N) λf D ⟨l,j,z,J,m⟩=>gA (F a D d j _ z m) λg c ⟨u,i,p,C,t⟩=>?_);rw[evalPart_none];refine wpAny_pure ?_;have o:Inv X a d i {c with heap:=c.heap.push {cls:=.type "slice",data:=.fields #[f,g,.none]}}:=p.kept (t':=c.toks) λb O q=>Heap.get?_push_of_some _ q;obtain⟨T,id,E,G,y⟩:=B a {c with heap:=c.heap.push {cls:=.type "slice",data:=.fields #[f,g,.none]}} d i x v f g l u c.heap.objs.size Q o K (Heap.IsSliceOf.new ..) J C t;show wpAny (model X.prog X.w) X.A (subscriptTail e (.Slice lo hi none p2) v (.ref c.heap.objs.size)) (EP X a d Q) X.xe {c with heap:=c.heap.push {cls:=.type "slice",data:=.fields #[f,g,.none]}};exact tail_any (ops:=[.ref c.heap.objs.size,v]) G E y (by with_unfolding_all rfl)
noncomputable def Cz(xs:List V)(lo hi:Option Int):List V:=(xs.drop (HT.lK xs.length 0 lo)).take (HT.lK xs.length xs.length hi-HT.lK xs.length 0 lo)
theorem ER(xs:List V)(lo hi:Option Int):(Cz xs lo hi).length<=xs.length:=by
 unfold Cz;rw[bQ,wK];lia
def acH(K:af):V->Option Int->Option Int->Hp->VK->Prop:=λx lo hi H Q=>∃a xs,x=.ref a/\cP K H a xs /\
 ¬(HT.lK xs.length 0 lo=0/\HT.lK xs.length xs.length hi=xs.length)/\∀p,H p=none->Q (.ref p) (upd H p (.tup (Cz xs lo hi)))
theorem Kr:Rb X (acH X.K):=by
 intro g s y H x v u z lo hi w Q I l m p n h;obtain⟨a,d,rfl,k,j,q⟩:=h;cases l;obtain⟨e,r,i,f⟩:=I.tuple k;have c:e.toArray.size=d.length:=by rw[aP];exact r.length.symm
 refine⟨"tuple",_,uI.lookup,i.typeIs,?_⟩;refine HT.Cy i m p n (by rw[c];exact j) ?_ (by rw[c];exact f);rw[c];refine⟨.ref s.heap.objs.size,_,I.laid (t':=s.toks) (o:=.tup (Cz d lo hi)) (λb t q=>Heap.get?_push_of_some _ q) (ay _) ?_,rfl,q _ (I.hok.fresh (ay _))⟩;exact⟨aN (ER d lo hi) f,_,(r.drop (HT.lK d.length 0 lo)).take (HT.lK d.length d.length hi-HT.lK d.length 0 lo),IsTup.new _ _⟩
def Yy(K:af):R2:=λx y H Q=>∃a b xs ys,x=.ref a/\y=.ref b/\cP K H a xs/\cP K H b ys/\xs≠[]/\xs.length+ys.length<=sizeLine /\
 (ys=[]->Q (.ref a) H)/\(ys≠[]->∀p,H p=none->Q (.ref p) (upd H p (.tup (xs++ys))))
theorem bZ.Ks{xs:List V}{us:List Value}(r:bZ xs us):us=[]↔xs=[]:=by
 cases r with
 |nil=>simp
 |cons _ _=>simp
theorem Wn:wO X (binaryOp .Add) (Yy X.K):=by
 intro g s D H x y v u Q I l m h;obtain⟨a,b,n,r,rfl,rfl,p,B,j,e,A,k⟩:=h;cases l;cases m;obtain⟨i,d,t,_⟩:=I.tuple p;obtain⟨f,c,p2,_⟩:=I.tuple B;refine HT.Wl t p2 (λz=>j (d.Ks.mp z)) (λz=>⟨.ref a,H,I,rfl,A (c.Ks.mp z)⟩) (λz=>?_) (by rw[<- d.length,<- c.length];exact e);refine⟨.ref s.heap.objs.size,_,I.laid (t':=s.toks) (o:=.tup (n++r)) (λb C q=>Heap.get?_push_of_some _ q) (ay _) ?_,rfl,k (λw=>z (c.Ks.mpr w)) _ (I.hok.fresh (ay _))⟩;exact⟨by rw[av];exact e,_,d.append c,IsTup.new _ _⟩
end
noncomputable def Wo(n:Nat)(i:Int):Option Nat:=if 0<=i then (if i<n then some i.toNat else none) else if -(n:Int)<=i then some (i+n).toNat else none
noncomputable def FF{α:Type}(xs:List α)(i:Int):Option α:=(Wo xs.length i).bind λj=>xs[j]?
theorem Ku{n:Nat}{i:Int}{j:Nat}(h:Wo n i=some j):seqIndex? i n=some j/\j<n/\-(n:Int)<=i/\i<n:=by
 unfold Wo at h;by_cases b:0<=i
 ·rw[ee b] at h
  by_cases a:i<n
  ·rw[ee a] at h
   have e:i.toNat=j:=aK h;exact⟨by rw[seqIndex_of b a,e],∅,∅,a⟩
  ·rw[er a] at h;cases h
 ·rw[er b] at h
  by_cases a:-(n:Int)<=i
  ·rw[ee a] at h
   have e:(i+n).toNat=j:=aK h;exact⟨by rw[seqIndex_neg ∅ a,e],∅,a,∅⟩
  ·rw[er a] at h;cases h
theorem P1{α:Type}{xs:List α}{i:Int}{v:α}(h:FF xs i=some v):∃j,seqIndex? i xs.length=some j/\xs[j]?=some v/\j<xs.length/\-(xs.length:Int)<=i/\i<xs.length:=by
 unfold FF at h;cases e:Wo xs.length i with
 |none=>rw[e] at h;cases h
 |some j =>
  rw[e] at h;obtain⟨a,b,c,d⟩:=Ku e;exact⟨j,a,h,b,c,d⟩
theorem eY{α:Type}{xs:List α}{j:Nat}{v:α}(h:xs[j]?=some v):FF xs (j:Int)=some v:=by
 have a:j<xs.length:=(ai.mp h).1;have e:Wo xs.length (j:Int)=some j:=by
  unfold Wo;rw[ee ∅,ee ∅];simp
 unfold FF;rw[e];exact h
def CA(b:Expr):Prop:=∀o i,subscripted b false o i=operate [o,i] (getItem o i)
def za(X:Cx)(r:R2):Prop :=
 ∀(value slice:Expr) (pins:List (Addr×Obj)) (s:Shared) (σ:St) (H:Hp) (x y:V) (v u:Value) (Q:VK),Inv X pins σ H s->RelV x v->RelV y u->r x y H Q ->
  subscripted slice false v u=operate [v,u] (getItem v u)->wpAny (model X.prog X.w) X.A (subscriptTail value slice v u) (EP X pins σ Q) X.xe s
def MtR(X:Cx)(id:String)(r:V->List V->Hp->VK->Prop):Prop :=
 ∀(pins:List (Addr×Obj)) (s:Shared) (σ:St) (H:Hp) (x:V) (xs:List V) (v:Value) (us:List Value) (Q:VK),Inv X pins σ H s->RelV x v->bZ xs us->r x xs H Q ->
  wpAny (model X.prog X.w) X.A (call (.builtin id) (v::us)) (EP X pins σ Q) X.xe s
section
variable{X:Cx}{a b:Expr}{ta tb:TE}{pos:Pos}
theorem P4{r:R2}(j:za X r)(k:PE X a ta)(n:PE X b tb)(g:CA b):PE X (.Subscript a b pos) (VV r ta tb):=by
 intro c s l H Q I h;exact Subscript_ (ZT k n I h λv u m x y d i e f q=>j a b c m l d x y v u Q i e f q (g _ _))
inductive Rv(K:af)(x y:V)(H:Hp)(Q:VK):Prop
 |mk (p:Addr) (xs:List V) (i:Int) (v:V) (h1:x=.ref p) (h2:y=.int i) (h3:bP K H p xs) (h4:FF xs i=some v) (h5:Q v H):Rv K x y H Q
inductive Rx(K:af)(x y:V)(H:Hp)(Q:VK):Prop
 |mk (p:Addr) (xs:List V) (i:Int) (v:V) (h1:x=.ref p) (h2:y=.int i) (h3:cP K H p xs) (h4:FF xs i=some v) (h5:Q v H):Rx K x y H Q
theorem P5:za X (Rv X.K):=by
 intro d g a s o H x y v u Q I D E h m;obtain⟨p,P,i,z,rfl,rfl,J,C,q⟩:=h;cases D;obtain⟨t,rfl⟩:=E;obtain⟨e,r,l,O⟩:=I.list J;obtain⟨j,c,F,R,B,L⟩:=P1 C;obtain⟨w,A,k⟩:=r.get F;have G:=r.length;have N:=Gy;have b:EP X a o Q w s:=⟨z,H,I,k,q⟩;by_cases n:0<=i
 ·have f:i.toNat=j:=by
   rw[seqIndex_of n L] at c;exact aK c
  exact item_listR l.isList n ∅ (by rw[f];simpa using A) b m
 ·have f:(i+(e.toArray.size:Int)).toNat=j:=by
   rw[seqIndex_neg ∅ B] at c;rw[aP,<- G];exact aK c
  exact subscriptTail_builtinR (x:=w) l.isList.typeIs slot_list_getitem.lookup
   (wpAny_getItem_list_neg (Q:=λr M=>r=w/\EP X a o Q r M) l.isList ∅ (by rw[aP] <;> lia) ∅ (by rw[f];simpa using A) ⟨rfl,b⟩) m
theorem TR:za X (Rx X.K):=by
 intro b c a s f H x y v u Q I n o h B;obtain⟨p,M,i,z,rfl,rfl,D,m,q⟩:=h;cases n;obtain⟨t,rfl⟩:=o;obtain⟨k,r,g,L⟩:=I.tuple D;obtain⟨j,l,A,N,G,O⟩:=P1 m;obtain⟨w,E,e⟩:=r.get A;have C:=r.length;have J:=Gy;have d:EP X a f Q w s:=⟨z,H,I,e,q⟩;exact subscriptTail_builtinR (x:=w) g.typeIs slot_tuple_getitem.lookup
  (getItem_tuple (j:=j) (Q:=λr F=>r=w/\EP X a f Q r F) g ∅ ∅ (by rw[aP,<- C];exact l) (by simpa using E) ⟨rfl,d⟩) B
theorem Om(a:List Value)(n j:Nat)(u:Value):Obj.mapSeq (·.setIfInBounds j u) {cls:=.type "list",data:=.seq a.toArray n}={cls:=.type "list",data:=.seq (a.set j u).toArray n}:=by
 simp[Obj.mapSeq]
theorem Inv.lst{b:List (Addr×Obj)}{c:St}{H:Hp}{s:Shared}{p:Addr}{xs:List V}(I:Inv X b c H s)(h:H p=some (.lst xs)) :
 ∃(a:List Value) (n:Nat),bZ xs a/\s.heap.get? p=some {cls:=.type "list",data:=.seq a.toArray n}/\xs.length<=sizeLine:=by
 obtain⟨z,a,n,r,e⟩:=I.hok p _ h;exact⟨a,n,r,e,z⟩
theorem Inv.Z3{a:List (Addr×Obj)}{j:St}{H:Hp}{s:Shared}{p:Addr}{xs g:List V}{c its':List Value}{n d:Nat}{f:Obj->Obj}(I:Inv X a j H s)(h:H p=some (.lst xs))
 (l:s.heap.get? p=some {cls:=.type "list",data:=.seq c.toArray n}) (i:f {cls:=.type "list",data:=.seq c.toArray n}={cls:=.type "list",data:=.seq its'.toArray d}) (r:bZ g its') (k:g.length<=sizeLine) (t:Nat) :
 Inv X a j (upd H p (.lst g)) {s with heap:=s.heap.update p f,toks:=t}:=by
 have e:(s.heap.update p f).get? p=some {cls:=.type "list",data:=.seq its'.toArray d}:=by
  rw[Heap.get?_update_self f l (by rw[i] <;> rfl),i]
 refine I.write (x:=p) (e:=p) (by rw[h];trivial) (.inl rfl) (λb u m q=>(Heap.get?_update_other _ _ (bK m)).trans q) ⟨_,e⟩ ?_;exact⟨k,its',d,r,e⟩
def acJ:V->V->V->Hp->(Hp->Prop)->Prop:=λo i v H Q=>∃p xs k j,o=.ref p/\i=.int k/\H p=some (.lst xs)/\Wo xs.length k=some j/\Q (upd H p (.lst (xs.set j v)))
theorem set_list:acs X acJ:=by
 intro b s B H o i v G F u Q I E D C h;obtain⟨p,A,k,j,rfl,rfl,m,y,q⟩:=h;cases E;obtain⟨t,rfl⟩:=D;obtain⟨a,n,r,f,z⟩:=I.lst m;obtain⟨c,K,x,g⟩:=Ku y;have e:=r.length;have J:=Gy;have w:Inv X b B (upd H p (.lst (A.set j v))) {s with heap:=s.heap.update p (Obj.mapSeq (·.setIfInBounds j u))} :=
  I.Z3 m f (Om a n j u) (r.set C j) (by rw[bT];exact z) s.toks
 by_cases l:0<=k
 ·have d:k.toNat=j:=by
   rw[seqIndex_of l g] at c;exact aK c
  exact PySem.W.ki_setAt f l ∅ (by rw[aP,<- e];exact g) (by rw[d];exact⟨_,w,q⟩)
 ·have d:(k+(a.toArray.size:Int)).toNat=j:=by
   rw[seqIndex_neg ∅ x] at c;rw[aP,<- e];exact aK c
  exact PySem.W.ki_setBack f ∅ (by rw[aP,<- e];exact x) ∅ (by rw[d];exact⟨_,w,q⟩)
theorem Kv(lo a:Option Int)(n:Nat):(sliceBounds lo a none n).1=((HT.lK n 0 lo:Nat):Int)/\(sliceBounds lo a none n).2.1=((HT.lK n n a:Nat):Int)/\(sliceBounds lo a none n).2.2=1:=by
 refine⟨?_,?_,rfl⟩
 ·cases lo with
  |none=>simp[sliceBounds,HT.lK]
  |some i =>
   simp only[sliceBounds,HT.lK,Option.getD_none,show (1:Int) > 0 by decide,if_true];by_cases h:i<0
   ·simp only[h,if_true] <;> lia
   ·simp only[h,if_false] <;> lia
 ·cases a with
  |none=>simp[sliceBounds,HT.lK]
  |some i =>
   simp only[sliceBounds,HT.lK,Option.getD_none,show (1:Int) > 0 by decide,if_true];by_cases h:i<0
   ·simp only[h,if_true] <;> lia
   ·simp only[h,if_false] <;> lia
theorem Iw(a:List Value)(lo b:Option Int):slicePick a.toArray lo b none=((a.drop (HT.lK a.length 0 lo)).take (HT.lK a.length a.length b-HT.lK a.length 0 lo)).toArray:=by
 obtain⟨c,d,e⟩:=Kv lo b a.toArray.size;unfold slicePick;rw[c,d,e];simp only[sliceRange_one,pick_run,aP] <;> rfl
def agn(K:af):V->Option Int->Option Int->Hp->VK->Prop:=λx lo hi H Q=>∃a xs,x=.ref a/\bP K H a xs/\∀p,H p=none->Q (.ref p) (upd H p (.lst (Cz xs lo hi)))
theorem Wp:Rb X (agn X.K):=by
 intro f s y H x v u z lo e w Q I k m p n h;obtain⟨a,c,rfl,j,q⟩:=h;cases k;obtain⟨i,r,g,l⟩:=I.list j;have d:=r.length;refine⟨"list",_,slot_list_getitem.lookup,g.isList.typeIs,?_⟩;refine wpAny_getItem_list_slice g.isList m p n .none (-_) ?_ (by rw[aP] <;> lia);rw[Iw,<- d];refine⟨.ref s.heap.objs.size,_,I.laid (t':=s.toks) (o:=.lst (Cz c lo e)) (λb t q=>Heap.get?_push_of_some _ q) (ay _) ?_,rfl,q _ (I.hok.fresh (ay _))⟩;exact⟨aN (ER c lo e) l,_,0,(r.drop (HT.lK c.length 0 lo)).take (HT.lK c.length c.length e-HT.lK c.length 0 lo),Heap.get?_push_size _ rfl⟩
noncomputable def yR:V->Bool
 |.fH=>true
 |.bl _=>true
 |.int _=>true
 |.str _=>true
 |_=>false
noncomputable def Ry:V->V->Bool
 |.fH,.fH=>true
 |.bl a,.bl b=>a==b
 |.bl a,.int b=>(if a then 1 else 0)==b
 |.int a,.bl b=>a==(if b then 1 else 0)
 |.int a,.int b=>a==b
 |.str a,.str b=>a==b
 |_,_=>false
theorem Z4{A:Around}{s:Shared}{y x:V}{u v:Value}(e:RelV y u)(c:RelV x v)(g:yR y=true)(f:yR x=true):SeqAt.EqAt A s u v (Ry y x):=by
 cases y with
 |fH =>
  cases e;cases x with
  |fH=>cases c;exact SeqAt.EqAt.same _
  |bl b=>cases c;exact SeqAt.EqAt.none_bool b
  |int b=>obtain⟨t,rfl⟩:=c;exact SeqAt.EqAt.none_int b t
  |str b=>obtain⟨t,rfl⟩:=c;exact SeqAt.EqAt.none_str b t
  |_=>exact eL (show false=true from f) aF
 |bl a =>
  cases e;cases x with
  |fH=>cases c;exact SeqAt.EqAt.bool_none a
  |bl b=>cases c;exact SeqAt.EqAt.bool_bool a b
  |int b=>obtain⟨t,rfl⟩:=c;exact SeqAt.EqAt.bool_int a b t
  |str b=>obtain⟨t,rfl⟩:=c;exact SeqAt.EqAt.bool_str a b t
  |_=>exact eL (show false=true from f) aF
 |int a =>
  obtain⟨d,rfl⟩:=e;cases x with
  |fH=>cases c;exact SeqAt.EqAt.int_none a d
  |bl b=>cases c;exact SeqAt.EqAt.int_bool a d b
  |int b=>obtain⟨t,rfl⟩:=c;exact SeqAt.EqAt.int_int a d b t
  |str b=>obtain⟨t,rfl⟩:=c;exact SeqAt.EqAt.int_str a d b t
  |_=>exact eL (show false=true from f) aF
 |str a =>
  obtain⟨d,rfl⟩:=e;cases x with
  |fH=>cases c;exact SeqAt.EqAt.str_none a d
  |bl b=>cases c;exact SeqAt.EqAt.str_bool a d b
  |int b=>obtain⟨t,rfl⟩:=c;exact SeqAt.EqAt.str_int a d b t
  |str b=>obtain⟨t,rfl⟩:=c;exact SeqAt.EqAt.str_str a d b t
  |_=>exact eL (show false=true from f) aF
 |_=>exact eL (show false=true from g) aF
noncomputable def Oo(x:V)(u:Value):Bool:=match u with
 |.none=>Ry .fH x
 |.bool b=>Ry (.bl b) x
 |.int i _=>Ry (.int i) x
 |.str z _=>Ry (.str z) x
 |_=>false
theorem TU{x y:V}{u:Value}(r:RelV y u)(f:yR y=true):Oo x u=Ry y x:=by
 cases y with
 |fH=>cases r;rfl
 |bl b=>cases r;rfl
 |int i=>obtain⟨t,rfl⟩:=r;rfl
 |str z=>obtain⟨t,rfl⟩:=r;rfl
 |_=>exact eL (show false=true from f) aF
theorem CB{x:V}:∀{xs:List V} {us:List Value},bZ xs us->xs.all yR=true->us.any (Oo x)=xs.any λy=>Ry y x
 |_,_,.nil,_=>rfl
 |y::xs,u::us,.cons r t,f=>by
  rw[List.all_cons,c9] at f;rw[List.any_cons,List.any_cons,TU r f.1,CB t f.2]
theorem yS{A:Around}{s:Shared}{x:V}{v:Value}(a:RelV x v)(b:yR x=true):∀{xs:List V} {us:List Value},bZ xs us->xs.all yR=true->∀u∈us,SeqAt.EqAt A s u v (Oo x u)
 |_,_,.nil,_=>λu hu=>by cases hu
 |y::xs,u::us,.cons r t,f=>λc hu=>by
  rw[List.all_cons,c9] at f;rcases bf.mp hu with rfl|hu
  ·rw[TU r f.1];exact Z4 r a f.1 b
  ·exact yS a b t f.2 c hu
noncomputable def CC(x:V)(xs:List V):Bool:=xs.any λy=>Ry y x
inductive Hv(K:af)(neg:Bool)(x y:V)(H:Hp)(Q:VK):Prop
 |mk (p:Addr) (xs:List V) (h1:y=.ref p) (h2:bP K H p xs∨cP K H p xs) (h3:yR x=true) (h4:xs.all yR=true) (h5:Q (.bl (if neg then !CC x xs else CC x xs)) H):Hv K neg x y H Q
theorem rW:wO X (compareOp .In) (Hv X.K false):=by
 intro f s l H x y v u Q I e j h;obtain⟨p,k,rfl,hq,g,b,q⟩:=h;cases j;rcases hq with hq|hq
 ·obtain⟨a,r,d,i⟩:=I.list hq
  refine SeqAt.in_listAt (Oo x) d.isList (λw c=>yS e g r b w (by simpa using c)) ⟨.bl _,H,I,rfl,?_⟩;rw[show a.toArray.any (Oo x)=a.any (Oo x) by simp,CB r b];exact q
 ·obtain⟨a,r,d,i⟩:=I.tuple hq
  refine SeqAt.in_tupleAt (Oo x) d (λw c=>yS e g r b w (by simpa using c)) ⟨.bl _,H,I,rfl,?_⟩;rw[show a.toArray.any (Oo x)=a.any (Oo x) by simp,CB r b];exact q
theorem rA:wO X (compareOp .NotIn) (Hv X.K true):=by
 intro f s l H x y v u Q I e j h;obtain⟨p,k,rfl,hq,g,b,q⟩:=h;cases j;rcases hq with hq|hq
 ·obtain⟨a,r,d,i⟩:=I.list hq
  refine SeqAt.notIn_listAt (Oo x) d.isList (λw c=>yS e g r b w (by simpa using c)) ⟨.bl _,H,I,rfl,?_⟩;rw[show a.toArray.any (Oo x)=a.any (Oo x) by simp,CB r b];exact q
 ·obtain⟨a,r,d,i⟩:=I.tuple hq
  refine SeqAt.notIn_tupleAt (Oo x) d (λw c=>yS e g r b w (by simpa using c)) ⟨.bl _,H,I,rfl,?_⟩;rw[show a.toArray.any (Oo x)=a.any (Oo x) by simp,CB r b];exact q
theorem Kw:nX X (.builtin "len") (λxs H Q=>∃p b,xs=[.ref p]/\(bP X.K H p b∨cP X.K H p b)/\Q (.int b.length) H):=by
 intro f s l H xs j Q I r h;obtain⟨p,b,rfl,hq,q⟩:=h;obtain⟨u,rfl,g⟩:=vals1 r;cases g;have k:=Gy;rcases hq with hq|hq
 ·obtain⟨c,d,e,i⟩:=I.list hq
  have a:=d.length;exact Calls.call_len_list e.isList (by simp only[aP] <;> lia) ⟨.int b.length,H,I.tok _,⟨s.toks+1,by rw[aP,a]⟩,q⟩
 ·obtain⟨c,d,e,i⟩:=I.tuple hq
  have a:=d.length;exact len_tuple e (by simp only[aP] <;> lia) ⟨.int b.length,H,I.tok _,⟨s.toks+1,by rw[aP,a]⟩,q⟩
theorem ig:nX X (.type "list") (λxs H Q=>∃p g,xs=[.ref p]/\(bP X.K H p g∨cP X.K H p g)/\∀l,H l=none->Q (.ref l) (upd H l (.lst g))):=by
 intro m s C H xs D Q I r h;obtain⟨p,g,rfl,hq,q⟩:=h;obtain⟨u,rfl,B⟩:=vals1 r;cases B;have i:∀(a:List Value),bZ g a->g.length<=sizeLine->∀(c:Heap) (f:Nat),(∀b A,s.heap.get? b=some A->c.get? b=some A) ->
  c.get? s.heap.objs.size=some {cls:=.type "list",dict:=none,data:=.seq a.toArray f,slots:=#[]}->EP X m C Q (.ref s.heap.objs.size) {s with heap:=c}:=λa d j c f t e =>
  ⟨.ref s.heap.objs.size,_,I.laid (t':=s.toks) t (ay _) (show fP X.prog X.w _ c _ (.lst g) from ⟨j,a,f,d,e⟩),rfl,q _ (I.hok.fresh (ay _))⟩
 rcases hq with hq|hq
 ·obtain⟨a,d,z,j⟩:=I.list hq
  have k:=d.length;obtain⟨o,y,v,n,x⟩:=z.isList;exact call_list_seq p (.inl rfl) y v x (λc f t e=>i a d j c f t e) (by simp only[aP] <;> lia)
 ·obtain⟨a,d,z,j⟩:=I.tuple hq
  have k:=d.length;obtain⟨o,y,v,n,x⟩:=z;exact call_list_seq p (.inr rfl) y v x (λc f t e=>i a d j c f t e) (by simp only[aP] <;> lia)
def X7(K:af)(T:String)(x:V)(H:Hp):Prop:=match x with
 |.str _=>T = "str"
 |.int _=>T = "int"
 |.ref p=>(T = "list" /\ ∃xs,bP K H p xs)∨(T = "tuple" /\ ∃o,K.lookup p=some o/\o.cls=.type "tuple" /\ o.dict=none) ∨
  (T = "dict" /\ ((∃kvs,H p=some (.dK kvs))∨∃kvs,H p=some (.dT kvs)))∨(T = "set" /\ ∃S n,H p=some (.set S n))
 |_=>False
theorem TV{f:List (Addr×Obj)}{u:St}{H:Hp}{s:Shared}{T:String}{x:V}{v:Value}(I:Inv X f u H s)(r:RelV x v)(g:X7 X.K T x H) :
 s.TypeIs v T/\∀a,v=.ref a->∃ob,s.heap.get? a=some ob/\ob.dict=none:=by
 cases x with
 |str z =>
  obtain⟨t,rfl⟩:=r;cases (show T = "str" from g);exact⟨typeIs_str s z t,λ_ e=>nomatch e⟩
 |int i =>
  obtain⟨t,rfl⟩:=r;cases (show T = "int" from g);exact⟨typeIs_int s i t,λ_ e=>nomatch e⟩
 |ref p =>
  cases r;rcases g with ⟨rfl,y,w⟩|⟨rfl,o,b,q,j⟩|⟨rfl,b⟩|⟨rfl,S,n,b⟩
  ·obtain⟨m,_,l,_⟩:=I.list w
   refine⟨l.isList.typeIs,λa e=>?_⟩;cases e;obtain⟨o,n,e,c,j,_⟩:=l;exact⟨o,e,j⟩
  ·refine⟨⟨o,I.Br p o b,q⟩,λa e=>?_⟩
   cases e;exact⟨o,I.Br _ o b,j⟩
  ·have z:∃o,s.heap.get? p=some o/\o.ExactDict:=by
    rcases b with ⟨k,b⟩|⟨k,b⟩
    ·obtain⟨_,_,_,_,o,_,_,e,d,_⟩:=I.hok p _ b
     exact⟨o,e,d⟩
    ·obtain⟨_,_,_,_,o,_,_,e,d,_⟩:=I.hok p _ b
     exact⟨o,e,d⟩
   obtain⟨o,e,d⟩:=z;refine⟨⟨o,e,d.1⟩,λa h=>?_⟩;cases h;exact⟨o,e,d.2.1⟩
  ·obtain⟨o,_,_,_,e,d,_⟩:=I.hok p _ b
   refine⟨⟨o,e,d.1⟩,λa h=>?_⟩;cases h;exact⟨o,e,d.2.1⟩
 |_=>exact jC g
def agp(K:af)(T:String)(r:V->List V->Hp->VK->Prop)(to:TE):TE:=λσ H Q=>to σ H λx H1=>X7 K T x H1/\r x [] H1 Q
def tBM(K:af)(T:String)(r:V->List V->Hp->VK->Prop)(to:TE)(t:TA):TE:=λσ H Q=>to σ H λx H1=>X7 K T x H1/\t σ H1 λxs H2=>r x xs H2 Q
variable{o e:Expr}{es:List Expr}{to:TE}{t:TA}{name:Str}{apos cpos:Pos}{T id:String}{r:V->List V->Hp->VK->Prop}
theorem Z5(pa:PlainAttrs T)(d:Slot T name id)(e:typeOf (.builtin id)=pure (.type "method_descriptor"))(k:MtR X id r)(m:PE X o to)
 (c:attributeBase o name X.env (eval o X.env)=eval o X.env:=by rfl) (b:(apos.endLine==cpos.line)=true:=by rfl):PE X (.Call (.Attribute o name apos) [] [] cpos) (agp X.K T r to):=by
 intro a s g H Q I h;refine wpAny_Call_method0_late c b (gA (m a s g H _ I h) λv p ⟨x,q,f,i,n,t⟩=>?_);obtain⟨j,l⟩:=TV f i n;exact⟨T,id,pa,d,e,j,l,Calls.callWith_builtin rfl (PySem.evalArgs_none (k a p g q x [] v [] Q f i .nil t))⟩
theorem pS(pa:PlainAttrs T)(g:Slot T name id)(i:typeOf (.builtin id)=pure (.type "method_descriptor"))(p:MtR X id r)(D:PE X o to)(C:PA X (e::es) t)
 (d:attributeBase o name X.env (eval o X.env)=eval o X.env:=by rfl)
 (f:((backTo cpos (starEach (e::es) X.env)).all (λx=>!x.1)&&(backToKw cpos (keywordEach [] X.env)).all (λx=>x.1.isSome)
  && decide ((e::es).length+([]:List Keyword).length+(if ([]:List Keyword).isEmpty then 0 else 1)<30))=true:=by rfl)
 (c:(apos.endLine==cpos.line)=true:=by rfl) (B:starEach (e::es) X.env=(false,eval e X.env)::starEach es X.env:=by rfl) (b:(backTo cpos (starEach es X.env)).any (·.1)=false:=by rfl) :
 PE X (.Call (.Attribute o name apos) (e::es) [] cpos) (tBM X.K T r to t):=by
 intro a s j H Q I h;refine wpAny_Call_method_late d f c rfl (gA (D a s j H _ I h) λv G ⟨x,J,k,m,F,L⟩=>?_);obtain⟨n,y⟩:=TV k m F;refine⟨T,id,pa,g,i,n,y,?_⟩;have l:=C cpos a G j J _ k L;rw[B] at l ⊢;refine Calls.callWith_builtin (by show (false || (backTo cpos (starEach es X.env)).any (·.1))=false;rw[b] <;> rfl) (Calls.evalArgs_plain ?_);exact gA l λw E ⟨z,q,A,M,u⟩=>p a E j q x z v w Q A m M u
end
def MtM(X:Cx)(id:String)(r:V->List V->Hp->VK->Prop):Prop :=
 ∀(pins:List (Addr×Obj)) (s:Shared) (σ:St) (H:Hp) (x:V) (xs:List V) (v:Value) (us:List Value) (Q:VK),Inv X pins σ H s->RelV x v->bZ xs us->r x xs H Q ->
  wpAny (model X.prog X.w) X.A (call (.builtin id) (v::us)) (EP X pins σ Q) X.xe s
theorem bZ.one:∀{x:V} {us:List Value},bZ [x] us->∃u,us=[u]/\RelV x u
 |_,_,.cons r .nil=>⟨_,rfl,r⟩
theorem bZ.two:∀{x y:V} {us:List Value},bZ [x,y] us->∃u v,us=[u,v]/\RelV x u/\RelV y v
 |_,_,_,.cons r (.cons q .nil)=>⟨_,_,rfl,r,q⟩
theorem bZ.zero:∀{us:List Value},bZ [] us->us=[]
 |_,.nil=>rfl
theorem bZ.eraseIdx:∀{xs:List V} {us:List Value} (i:Nat),bZ xs us->bZ (xs.eraseIdx i) (us.eraseIdx i)
 |_,_,_,.nil=>.nil
 |_,_,0,.cons _ t=>t
 |_,_,i+1,.cons r t=>.cons r (bZ.eraseIdx i t)
theorem Jw{α:Type}:∀(l:List α) (i:Nat),(l.eraseIdx i).length<=l.length
 |[],_=>ay _
 |_::_,0=>cV _
 |_::r,i+1=>Nat.succ_le_succ (Jw r i)
section
variable{X:Cx}{pins:List (Addr×Obj)}{σ:St}{H:Hp}{s:Shared}{l b:Addr}{xs ys zs:List V}
theorem Inv.acK{a its':List Value}{n:Nat}{f:Array Value->Array Value}{t':Nat}(I:Inv X pins σ H s)(g:H l=some (.lst xs))
 (e:s.heap.get? l=some {cls:=.type "list",data:=.seq a.toArray n}) (d:f a.toArray=its'.toArray) (c:bZ ys its') (b:ys.length<=sizeLine) :
 Inv X pins σ (upd H l (.lst ys)) {s with heap:=s.heap.update l (Obj.mapSeq f),toks:=t'}:=by
 have q:=PySem.IsL.update e f;rw[d] at q;refine I.write (x:=l) (e:=l) (by rw[g];exact trivial) (.inl rfl) (λj u i h=>(Heap.get?_update_other s.heap (Obj.mapSeq f) (bK i)).trans h) ⟨_,q⟩ ?_;exact⟨b,its',_,c,q⟩
theorem Inv.agq{a:List Value}{t':Nat}(I:Inv X pins σ H s)(c:bZ ys a)(b:ys.length<=sizeLine) :
 Inv X pins σ (upd H s.heap.objs.size (.lst ys)) {s with heap:=s.heap.push {cls:=.type "list",data:=.seq a.toArray},toks:=t'} :=
 I.laid (λ_ _ q=>Heap.get?_push_of_some _ q) (ay _) ⟨b,a,0,c,Heap.get?_push_size _ rfl⟩
theorem Inv.fresh(I:Inv X pins σ H s):H s.heap.objs.size=none:=I.hok.fresh (ay _)
theorem Inv.Wq(I:Inv X pins σ H s)(b:H l=some (.lst xs)):xs.length<=sizeLine/\∃(a:List Value) (n:Nat),bZ xs a/\xs.length=a.length/\s.heap.get? l=some {cls:=.type "list",data:=.seq a.toArray n}:=by
 obtain⟨z,a,n,r,e⟩:=I.hok l _ b;exact⟨z,a,n,r,r.length,e⟩
end
section
variable{X:Cx}
inductive P6(x:V)(vs:List V)(H:Hp)(Q:VK):Prop
 |mk (l:Addr) (xs:List V) (y:V) (h1:x=.ref l) (h2:vs=[y]) (h3:H l=some (.lst xs)) (h4:xs.length<sizeLine) (h5:Q .fH (upd H l (.lst (xs++[y])))):P6 x vs H Q
theorem eE:MtM X "list.append" P6:=by
 intro b s o H x k v i Q I d g h;obtain⟨l,m,y,rfl,rfl,c,j,q⟩:=h;cases d;obtain⟨u,rfl,f⟩:=g.one;obtain⟨z,a,n,r,p,e⟩:=I.Wq c;refine call_meets F.slot_list_append ⟨_,e,rfl⟩ F.entry_list_append (F.args_list_append_2 _ _) (PySem.list_append l a.toArray n u (by rw[aP];lia)) ⟨e,?_⟩;refine⟨.fH,_,I.acK (its':=a++[u]) c e (-_) (r.append (.cons f .nil)) ?_,rfl,q⟩;rw[av,List.length_singleton];lia
def Z6:V->List V->Hp->VK->Prop:=λx vs H Q=>∃l xs i k y,x=.ref l/\vs=[.int i]/\H l=some (.lst xs)/\-(2^63)<=i/\i<2^63/\seqIndex? i xs.length=some k/\xs[k]?=some y/\Q y (upd H l (.lst (xs.eraseIdx k)))
theorem TY:MtM X "list.pop" Z6:=by
 intro c s J H x G v E Q I j D h;obtain⟨l,A,i,k,y,rfl,rfl,d,f,m,o,p,q⟩:=h;cases j;obtain⟨u,rfl,C⟩:=D.one;obtain⟨t,rfl⟩:=C;obtain⟨z,a,n,r,B,e⟩:=I.Wq d;obtain⟨w,g,b⟩:=r.get p;refine call_meets F.slot_list_pop ⟨_,e,rfl⟩ F.entry_list_pop (F.args_list_pop_2 _ _)
  (MeetsSeq.list_pop_at l a.toArray n i t k w (fitsIndex_both f m) (by rw[aP,<- B];exact o) (by rw[<- dR];exact g) (by rw[aP];lia)) ⟨e,?_⟩
 refine⟨y,_,I.acK (its':=a.eraseIdx k) d e ?_ (r.eraseIdx k) ?_,b,q⟩
 ·show a.toArray.eraseIdxIfInBounds k=(a.eraseIdx k).toArray
  rw[List.eraseIdxIfInBounds_toArray]
 ·have:=Jw A k
  lia
def agr:R2:=λx y H Q=>∃l b xs zs,x=.ref l/\y=.ref b/\H l=some (.lst xs)/\H b=some (.lst zs)/\xs.length+zs.length<=sizeLine/\∀p,H p=none->Q (.ref p) (upd H p (.lst (xs++zs)))
theorem Z7:wO X (binaryOp .Add) agr:=by
 intro d s C H x y v u Q I i j h;obtain⟨l,b,A,w,rfl,rfl,m,g,t,q⟩:=h;cases i;cases j;obtain⟨z,c,n,r,D,e⟩:=I.Wq m;obtain⟨E,a,B,p,o,f⟩:=I.Wq g;refine PySem.P.add_list e f ?_ (by rw[aP,aP];lia);have k:c.toArray++a.toArray=(c++a).toArray:=-_
 rw[k];exact⟨.ref _,_,I.agq (t':=s.toks) (r.append p) (by rw[av];lia),rfl,q _ I.fresh⟩
end
section
variable{κ:Type}[DecidableEq κ]
noncomputable def CD(kvs:List (κ×V))(k:κ):Option V:=(kvs.find? λkv=>decide (kv.1=k)).map (·.2)
noncomputable def putK(kvs:List (κ×V))(k:κ)(v:V):List (κ×V) :=
 if (kvs.any λkv=>decide (kv.1=k))=true then kvs.map (λkv=>if kv.1=k then (kv.1,v) else kv) else kvs++[(k,v)]
theorem yU{p:κ×V}{r:List (κ×V)}{k:κ}(e:p.1=k):CD (p::r) k=some p.2:=by simp[CD,r6,e]
theorem yV{p:κ×V}{r:List (κ×V)}{k:κ}(e:¬p.1=k):CD (p::r) k=CD r k:=by simp[CD,r6,e]
theorem L4(k:κ):∀kvs:List (κ×V),(kvs.any λa=>decide (a.1=k))=(CD kvs k).isSome
 |[]=>rfl
 |p::r=>by
  rw[List.any_cons];by_cases e:p.1=k
  ·simp only[yU e,e8 e,Bool.true_or,Option.isSome_some]
  ·rw[yV e,fy e,Bool.false_or];exact L4 k r
theorem ES(kvs:List (κ×V))(k:κ)(v:V):(putK kvs k v).length<=kvs.length+1:=by
 unfold putK;split
 ·rw[ah];lia
 ·rw[av,bx,List.length_nil];lia
theorem yG.DJ{o:Option V}{u:Option Value}(r:yG o u):o.isSome=u.isSome:=by
 cases o with
 |none=>cases u with
  |none=>rfl
  |some _=>exact (show False from r).elim
 |some _=>cases u with
  |none=>exact (show False from r).elim
  |some _=>rfl
theorem yG.getD{o:Option V}{u:Option Value}{d:V}{d':Value}(r:yG o u)(a:RelV d d'):RelV (o.getD d) (u.getD d'):=by
 cases o with
 |none=>cases u with
  |none=>exact a
  |some _=>exact (show False from r).elim
 |some _=>cases u with
  |none=>exact (show False from r).elim
  |some _=>exact r
theorem KV.val{kvs:List (κ×V)}{vs:List (κ×Value)}(r:KV kvs vs)(k:κ):yG (CD kvs k) (valueAt vs k):=by
 unfold KV at r;induction r with
 |nil=>exact k6
 |@cons p q i a h t g =>
  obtain⟨d,f⟩:=h;by_cases e:p.1=k
  ·have c:q.1=k:=d.symm.trans e
   have b:valueAt (q::a) k=some q.2:=by simp[valueAt,r6,c]
   rw[yU e,b];exact f
  ·have c:¬q.1=k:=λz=>e (d.trans z)
   have b:valueAt (q::a) k=valueAt a k:=by simp[valueAt,r6,c]
   rw[yV e,b];exact g
theorem KV.any{kvs:List (κ×V)}{vs:List (κ×Value)}(r:KV kvs vs)(k:κ):(kvs.any λa=>decide (a.1=k))=vs.any λa=>decide (a.1=k):=by
 unfold KV at r;induction r with
 |nil=>rfl
 |cons h t b=>rw[List.any_cons,List.any_cons,b,h.1]
theorem KV.repl{kvs:List (κ×V)}{vs:List (κ×Value)}(r:KV kvs vs)(k:κ){y:V}{u:Value}(d:RelV y u) :
 KV (kvs.map λa=>if a.1=k then (a.1,y) else a) (vs.map λa=>if a.1=k then (a.1,u) else a):=by
 unfold KV at r ⊢;induction r with
 |nil=>exact .nil
 |@cons p q i g h t f =>
  rw[bN,bN];refine .cons ?_ f;obtain⟨b,c⟩:=h;by_cases e:p.1=k
  ·rw[ee e,ee (b.symm.trans e)];exact⟨b,d⟩
  ·rw[er e,er (λz=>e (b.trans z))];exact⟨b,c⟩
theorem KV.put{kvs:List (κ×V)}{vs:List (κ×Value)}(r:KV kvs vs)(k:κ){y:V}{u:Value}(a:RelV y u):KV (putK kvs k y) (stored vs k u):=by
 unfold putK stored;rw[r.any k];by_cases e:(vs.any λb=>decide (b.1=k))=true
 ·rw[ee e,ee e];exact r.repl k a
 ·rw[er e,er e];exact Paired.snoc r ⟨rfl,a⟩
theorem KV.length{kvs:List (κ×V)}{vs:List (κ×Value)}(r:KV kvs vs):kvs.length=vs.length:=Paired.length r
end
theorem L5{P:Program}{w:World}{k:Key}{u:Value}(r:RelV (kV k) u):(ie P w).is k u=true:=by
 cases k with
 |inl i=>obtain⟨t,e⟩:=(show ∃t,u=Value.int i t from r);subst e;exact LR P w i t
 |inr x=>obtain⟨t,e⟩:=(show ∃t,u=Value.str x t from r);subst e;exact LU P w x t
theorem Jx{P:Program}{w:World}:∀{a:List Key} {us:List Value},bZ (a.map kV) us->ItemsAre (ie P w) a us
 |[],_,r=>by rw[List.map_nil] at r;cases r;exact .nil
 |k::a,_,r=>by
  rw[bN] at r;cases r with
  |cons h t=>exact .cons (L5 h) (Jx t)
abbrev KT(H:Hp):List (List Key×V)->List (List Key×Addr×Value)->Prop:=Paired λp q=>p.1=q.1/\H q.2.1=some (.tup (p.1.map kV))/\RelV p.2 q.2.2
theorem KT.val{H:Hp}{kvs:List (List Key×V)}{xs:List (List Key×Addr×Value)}(r:KT H kvs xs)(k:List Key):yG (CD kvs k) ((atKey xs k).map (·.2)):=by
 induction r with
 |nil=>exact k6
 |@cons p q i a h t g =>
  obtain⟨d,_,f⟩:=h;by_cases e:p.1=k
  ·have c:q.1=k:=d.symm.trans e
   have b:atKey (q::a) k=some q.2:=by simp[atKey,r6,c]
   rw[yU e,b];exact f
  ·have c:¬q.1=k:=λz=>e (d.trans z)
   have b:atKey (q::a) k=atKey a k:=by simp[atKey,r6,c]
   rw[yV e,b];exact g
theorem KT.repl{H:Hp}{kvs:List (List Key×V)}{xs:List (List Key×Addr×Value)}(r:KT H kvs xs)(k:List Key){y:V}{u:Value}(d:RelV y u) :
 KT H (kvs.map λb=>if b.1=k then (b.1,y) else b) (xs.map (putAt k u)):=by
 induction r with
 |nil=>exact .nil
 |@cons p q j i h t f =>
  rw[bN,bN];refine .cons ?_ f;obtain⟨a,c,g⟩:=h;unfold putAt;by_cases e:p.1=k
  ·rw[ee e,ee (a.symm.trans e)];exact⟨a,c,d⟩
  ·rw[er e,er (λz=>e (a.trans z))];exact⟨a,c,g⟩
theorem KT.put{H:Hp}{kvs:List (List Key×V)}{xs:List (List Key×Addr×Value)}(r:KT H kvs xs)(k:List Key){b:Addr}{y:V}{u:Value}(c:H b=some (.tup (k.map kV)))(a:RelV y u) :
 KT H (putK kvs k y) (storedH xs k b u):=by
 have e:(kvs.any λd=>decide (d.1=k))=(atKey xs k).isSome:=by
  rw[L4,(r.val k).DJ,Option.isSome_map]
 unfold putK storedH;rw[e];by_cases q:(atKey xs k).isSome=true
 ·rw[ee q,ee q];exact r.repl k a
 ·rw[er q,er q];exact Paired.snoc r ⟨rfl,c,a⟩
theorem KT.keeps{H a:Hp}{kvs:List (List Key×V)}{xs:List (List Key×Addr×Value)}(r:KT H kvs xs)(d:∀b c,H b=some (.tup c)->a b=some (.tup c)):KT a kvs xs :=
 Paired.Wa r λ_ _ z=>⟨z.1,d _ _ z.2.1,z.2.2⟩
section
variable{P:Program}{w:World}{H:Hp}{h:Heap}{a:Addr}
theorem Yz{u:HO}(ok:yM P w H h)(e:Rd H a u):fP P w H h a u:=e.ok ok
theorem Jy{kvs:List (Key×V)}(ok:yM P w H h)(e:Rd H a (.dK kvs)):kvs.length<=sizeLine/\(a==sysModules)=false/\∃vs,KV kvs vs/\h.DictOf (ie P w) a vs :=
 show fP P w H h a (.dK kvs) from Yz ok e
theorem acL{kvs:List (Key×V)}(ok:yM P w H h)(e:H a=some (.dK kvs)):kvs.length<=sizeLine/\(a==sysModules)=false/\∃vs,KV kvs vs/\h.DictOf (ie P w) a vs:=Jy ok (.inl e)
theorem GC{c:List Key}(ok:yM P w H h)(e:H a=some (.tup (c.map kV))):(tupleKind (ie P w)).is h c a:=by
 obtain⟨_,b,r,o,d,f,n,g⟩:=(show fP P w H h a (.tup (c.map kV)) from ok a _ e);exact⟨o,b.toArray,n,d,f,g,by simpa using Jx r⟩
theorem Jz{kvs:List (List Key×V)}(ok:yM P w H h)(e:Rd H a (.dT kvs)):kvs.length<=sizeLine/\(a==sysModules)=false /\
 ∃xs,KT H kvs xs/\h.DictOfH (tupleKind (ie P w)) a xs:=by
 obtain⟨z,y,xs,r,o,f,k,d,i,n,g,s⟩:=(show fP P w H h a (.dT kvs) from Yz ok e);refine⟨z,y,xs,r,o,f,k,d,i,n,g,λx hx=>?_,s⟩;have b:∀{l:List (List Key×V)} {m:List (List Key×Addr×Value)},KT H l m->∀x∈m,(tupleKind (ie P w)).is h x.1 x.2.1:=by
  intro l m q;induction q with
  |nil=>intro x hx;exact nomatch hx
  |@cons p q v u c t j =>
   intro x hx;rcases bf.mp hx with e|hx
   ·subst e
    exact GC ok (by rw[<- c.1];exact c.2.1)
   ·exact j x hx
 exact b r x hx
theorem YA{kvs:List (List Key×V)}(ok:yM P w H h)(e:H a=some (.dT kvs)):kvs.length<=sizeLine/\(a==sysModules)=false /\
 ∃xs,KT H kvs xs/\h.DictOfH (tupleKind (ie P w)) a xs:=Jz ok (.inl e)
end
def AW(H:Hp)(a:Addr)(y:V)(r:Option V):Prop :=
 (∃kvs k,Rd H a (.dK kvs)/\y=kV k/\r=CD kvs k)∨∃kvs k b,Rd H a (.dT kvs)/\y=.ref b/\H b=some (.tup (k.map kV))/\r=CD kvs k
def Ky(H:Hp)(a:Addr)(y v:V)(H':Hp):Prop :=
 (∃kvs k,H a=some (.dK kvs)/\y=kV k/\kvs.length<sizeLine/\H'=upd H a (.dK (putK kvs k v))) ∨
 ∃kvs k b,H a=some (.dT kvs)/\y=.ref b/\H b=some (.tup (k.map kV))/\kvs.length<sizeLine/\H'=upd H a (.dT (putK kvs k v))
theorem AW.k{H:Hp}{a:Addr}{kvs:List (Key×V)}{k:Key}(e:H a=some (.dK kvs)):AW H a (kV k) (CD kvs k):=.inl ⟨kvs,k,.inl e,rfl,rfl⟩
theorem AW.t{H:Hp}{a b:Addr}{kvs:List (List Key×V)}{k:List Key}(e:H a=some (.dT kvs))(c:H b=some (.tup (k.map kV))):AW H a (.ref b) (CD kvs k):=.inr ⟨kvs,k,b,.inl e,rfl,c,rfl⟩
theorem Ky.k{H:Hp}{a:Addr}{kvs:List (Key×V)}{k:Key}{v:V}(e:H a=some (.dK kvs))(hl:kvs.length<sizeLine):Ky H a (kV k) v (upd H a (.dK (putK kvs k v))):=.inl ⟨kvs,k,e,rfl,hl,rfl⟩
theorem Ky.t{H:Hp}{a b:Addr}{kvs:List (List Key×V)}{k:List Key}{v:V}(e:H a=some (.dT kvs))(c:H b=some (.tup (k.map kV)))(hl:kvs.length<sizeLine) :
 Ky H a (.ref b) v (upd H a (.dT (putK kvs k v))):=.inr ⟨kvs,k,b,e,rfl,c,hl,rfl⟩
section
variable{X:Cx}{pins:List (Addr×Obj)}{σ:St}{H:Hp}{s:Shared}{a:Addr}{y v:V}{u r:Value}{o:Option V}{A:Around}{E:Value->Shared->Prop}
theorem Inv.big(I:Inv X pins σ H s):sysModules<s.heap.objs.size:=by
 have h:mainGlobals<s.heap.objs.size:=(I.mod.glob.keeps I.bk).lt;exact Nat.lt_trans (!_) h
theorem Rz{Q:Value->Shared->Prop}(C:A.units+1<cLine)(I:Inv X pins σ H s)(g:AW H a y (some v))(q:RelV y u)(h:∀d s',Inv X pins σ H s'->RelV v d->Q d s') :
 wpAny (model X.prog X.w) A (getItem (.ref a) u) Q E s:=by
 rcases g with ⟨n,k,e,i,l⟩|⟨n,k,b,e,i,x,l⟩
 ·subst i
  obtain⟨z,B,r,rel,j⟩:=Jy I.hok e;obtain⟨d,f,c⟩:=yG.some_of (v:=v) (o:=valueAt r k) (by rw[l];exact rel.val k);exact wpAny_getItem_of (L5 q) j.mapOf f (h d _ (I.tok _) c)
 ·subst i
  cases (show u=Value.ref b from q);obtain⟨z,B,t,rel,j⟩:=Jz I.hok e;obtain⟨d,f,c⟩:=yG.some_of (v:=v) (o:=(atKey t k).map (·.2)) (by rw[l];exact rel.val k);obtain⟨p,D,m⟩:=Option.map_eq_some_iff.mp f;refine wpAny_getItem_heap (tupleKind_room_in1 C) (GC I.hok x) j D ?_;rw[m];exact h d _ (I.tok _) c
theorem ags{Q:Value->Shared->Prop}(n:A.units+1<cLine)(I:Inv X pins σ H s)(g:AW H a y o)(j:RelV y u)(h:∀s',Inv X pins σ H s'->Q (.bool o.isSome) s') :
 wpAny (model X.prog X.w) A (compareOp .In u (.ref a)) Q E s:=by
 rcases g with ⟨i,k,e,c,l⟩|⟨i,k,b,e,c,m,l⟩
 ·subst c
  obtain⟨z,d,p,rel,f⟩:=Jy I.hok e;refine wpAny_in_of (L5 j) d f.mapOf ?_;rw[<- (rel.val k).DJ,<- l];exact h _ (I.tok _)
 ·subst c
  cases (show u=Value.ref b from j);obtain⟨z,d,r,rel,f⟩:=Jz I.hok e;refine wpAny_in_heap (tupleKind_room_in1 n) (GC I.hok m) d f ?_;have q:=(rel.val k).DJ;rw[Option.isSome_map] at q;rw[<- q,<- l];exact h _ (I.tok _)
theorem P7{h':Heap}{t':Nat}{ob:HO}(I:Inv X pins σ H s)(d:n7 (H a))(f:Heap.SameBut a s.heap h')(h:∃q,h'.get? a=some q)(c:fP X.prog X.w (upd H a ob) h' a ob) :
 Inv X pins σ (upd H a ob) {s with heap:=h',toks:=t'} :=
 I.write (x:=a) (e:=a) d (.inl rfl) (λb q g z=>(f.2 b g).trans z) h c
theorem Z8{P:Program}{w:World}{c:Hp}{h':Heap}{kvs:List (Key×V)}{vs:List (Key×Value)}(z:kvs.length<=sizeLine)(d:(a==sysModules)=false)(b:KV kvs vs)(dd:h'.DictOf (ie P w) a vs) :
 fP P w c h' a (.dK kvs):=⟨z,d,vs,b,dd⟩
theorem RA{B:Hp}{Q:Unit->Shared->Prop}(S:A.units+1<cLine)(I:Inv X pins σ H s)(g:Ky H a y v B)(C:RelV y u)(J:RelV v r)(h:∀s',Inv X pins σ B s'->Q () s') :
 wpAny (model X.prog X.w) A (setItem (.ref a) u r) Q E s:=by
 rcases g with ⟨d,k,e,o,l,m⟩|⟨d,k,b,e,o,D,l,m⟩
 ·subst o m
  obtain⟨z,p,O,rel,x⟩:=acL I.hok e;have j:O.length<=sizeLine:=by rw[<- rel.length];exact z
  have t:(putK d k v).length<=sizeLine:=by have:=ES d k v;lia
  refine wpAny_setItem_pairs (hsz:=j) (L5 C) x λF f n=>h _ ?_;have M:∃q,F.get? a=some q:=let ⟨q,_,_,i,_⟩:=f;⟨q,i⟩;exact P7 I (by rw[e];exact k6) n M (Z8 t p (rel.put k J) f)
 ·subst o m
  cases (show u=Value.ref b from C);obtain⟨z,p,R,rel,x⟩:=YA I.hok e;have j:R.length<=sizeLine:=by rw[<- Paired.length rel];exact z
  have t:(putK d k v).length<=sizeLine:=by have:=ES d k v;lia
  refine wpAny_setItem_heap (hsz:=j) (tupleKind_room_in1 S) (GC I.hok D) x λF f n=>h _ ?_;obtain⟨q,K,P,i,N,T,L,_,U⟩:=f;refine P7 I (by rw[e];exact k6) n ⟨q,i⟩ ⟨t,p,_,(rel.put k D J).keeps λc V G=>?_,q,K,P,i,N,T,L,U⟩;rw[aH (vL G e (λz=>nomatch z))];exact G
end
def acM(i:Expr):Prop:=∀ov iv,subscripted i false ov iv=operate [ov,iv] (getItem ov iv)
theorem Ws{prog:Program}{w:World}{A:Around}{E:Value->Shared->Prop}{s:Shared}{env:Env}{b a:Expr}{l:Pos}{T id:String}{Q:Value->Shared->Prop}
 (hl:typeLookup (.type T) "__getitem__" = pure (some (.builtin id))) (n:acM a)
 (h:wpAny (model prog w) A (eval b env) (λo e=>wpAny (model prog w) A (eval a env) (λi c=>c.TypeIs o T/\wpAny (model prog w) A (getItem o i) Q E c) E e) E s) :
 wpAny (model prog w) A (eval (.Subscript b a l) env) Q E s:=by
 refine Subscript_ (wpAny_mono h (λo e j=>wpAny_mono j (λi c d=>?_) λ_ _ x=>x) λ_ _ x=>x);obtain⟨m,d⟩:=d;unfold subscriptTail;refine wpAny_bind ?_;rw[getitemInPython_of_ne m.not_modules];refine wpAny_bind (wpAny_specialOf m hl ?_);have g:wpAny (model prog w) A (subscripted a false o i) (λr f=>wpAny (model prog w) A (letTemporaryGo b o r >>= λ_=>pure r) Q E f) E c:=by
  rw[n o i];exact wpAny_operating (wpAny_mono d (λr f k=>wpAny_bind (wpAny_letTemporaryGo (wpAny_pure k))) λ_ _ x=>x)
 first
  |exact wpAny_pure (wpAny_bind g)
  |exact wpAny_bind (wpAny_pure (wpAny_bind g))
  |exact wpAny_bind g
theorem L6{X:Cx}{c:List (Addr×Obj)}{h:St}{H:Hp}{s:Shared}{a:Addr}{y:V}{o:Option V}(I:Inv X c h H s)(g:AW H a y o):s.TypeIs (.ref a) "dict" := by
 rcases g with ⟨f,k,e,_,_⟩|⟨f,k,b,e,_,_,_⟩
 ·obtain⟨_,_,i,_,d⟩:=Jy I.hok e
  exact d.typeIs
 ·obtain⟨_,_,j,_,d⟩:=Jz I.hok e
  exact d.typeIs
def acN(td ty:TE):TE:=λσ H Q=>td σ H λx H1=>ty σ H1 λy H2=>∃a v,x=.ref a/\AW H2 a y (some v)/\Q v H2
def agt(ty td:TE):TE:=λσ H Q=>ty σ H λy H1=>td σ H1 λx H2=>∃a o,x=.ref a/\AW H2 a y o/\Q (.bl o.isSome) H2
def acO(td ty tv:TE):TS:=λD σ H=>tv σ H λv H1=>td σ H1 λx H2=>ty σ H2 λy H3=>∃a H4,x=.ref a/\Ky H3 a y v H4/\D.nx σ H4
section
variable{X:Cx}{o i e value:Expr}{pos pos' tpos:Pos}{td ty tv:TE}
theorem P8(w:X.A.units+1<cLine)(t:PE X o td)(n:PE X i ty)(r:acM i):PE X (.Subscript o i pos) (acN td ty):=by
 intro b s e H Q I h;refine Ws PySem.F.slot_dict_getitem.lookup r (gA (t b s e H _ I h) λu z ⟨x,B,k,m,C⟩=>gA (n b z e B _ k C) λD J ⟨y,j,d,q,a,v,f,g,l⟩=>?_);subst f;obtain rfl:u=Value.ref a:=m;exact⟨L6 d g,Rz w d g q λE G p c=>⟨v,j,p,c,l⟩⟩
theorem TZ(t:X.A.units+1<cLine)(m:PE X i ty)(r:PE X o td):PC X .In i o (agt ty td):=by
 intro b s c H Q I h;refine gA (m b s c H _ I h) λB v ⟨y,w,j,p,z⟩=>gA (r b v c w _ j z) λu D ⟨x,e,q,l,a,f,d,g,k⟩=>?_;subst d;obtain rfl:u=Value.ref a:=l;exact ags t q g p λC n=>⟨.bl f.isSome,e,n,rfl,k⟩
theorem Kz(G:X.A.units+1<cLine)(C:PE X o td)(t:PE X i ty)(w:PE X value tv)(z:swapsWith value (some (.Subscript o i pos')) pos.line X.env=pure false) :
 PS X (.Assign [.Subscript o i pos'] value pos) (acO td ty tv):=by
 intro b s c H D I h;refine wpAny_Assign_Subscript (gA (w b s c H _ I h) λr J ⟨v,K,j,F,L⟩=>gA (C b J c K _ j L) λu E ⟨x,f,B,l,k⟩=>gA (t b E c f _ B k) λM O ⟨y,N,m,q,a,e,d,g,n⟩=>?_) z;subst d;obtain rfl:u=Value.ref a:=l;exact RA G m g q F λP p=>⟨c,e,p,n⟩
end
theorem T4{P:Program}{w:World}{H:Hp}(h:Heap)(a:sysModules<h.objs.size):fP P w H (h.push {cls:=.type "dict",data:=.dict #[]}) h.objs.size (.dK []) :=
 ⟨bM _,beq_eq_false_iff_ne.mpr (bK (bE a)),[],.nil,Heap.DictOf.new h⟩
theorem T5{P:Program}{w:World}{H:Hp}(h:Heap)(a:sysModules<h.objs.size):fP P w H (h.push {cls:=.type "dict",data:=.dict #[]}) h.objs.size (.dT []) :=
 ⟨bM _,beq_eq_false_iff_ne.mpr (bK (bE a)),[],.nil,_,#[],0,Heap.get?_push_size _ rfl,⟨rfl,rfl,rfl⟩,rfl,rfl,k8⟩
def Z9:TE:=λ_ H Q=>∀p,H p=none->Q (.ref p) (upd H p (.dK []))
def aaa:TE:=λ_ H Q=>∀p,H p=none->Q (.ref p) (upd H p (.dT []))
section
variable{X:Cx}{pos:Pos}
theorem T6:PE X (.Dict [] [] pos) Z9:=λb s c H Q I h =>
 wpAny_Dict_empty ⟨.ref s.heap.objs.size,_,I.laid (a:=s.heap.objs.size) (o:=.dK []) (t':=s.toks) (λ_ _ q=>Heap.get?_push_of_some _ q) (ay _) (T4 s.heap I.big),rfl,h _ (I.hok.fresh (ay _))⟩
theorem yW:PE X (.Dict [] [] pos) aaa:=λb s c H Q I h =>
 wpAny_Dict_empty ⟨.ref s.heap.objs.size,_,I.laid (a:=s.heap.objs.size) (o:=.dT []) (t':=s.toks) (λ_ _ q=>Heap.get?_push_of_some _ q) (ay _) (T5 s.heap I.big),rfl,h _ (I.hok.fresh (ay _))⟩
end
structure M1(X:Cx)(o:Expr)(m:Str)(apos:Pos)(e:Expr)(cpos:Pos):Prop where
 base:attributeBase o m X.env (eval o X.env)=eval o X.env
 few:((backTo cpos (starEach [e] X.env)).all (λx=>!x.1)&&(backToKw cpos (keywordEach [] X.env)).all (λx=>x.1.isSome)
  && decide (([e]:List Expr).length+([]:List Keyword).length+(if ([]:List Keyword).isEmpty then 0 else 1)<30))=true
 line:(apos.endLine==cpos.line)=true
 trees:backTo cpos (starEach [e] X.env)=[(false,eval e X.env)]
def IsD(H:Hp)(a:Addr):Prop:=(∃kvs,Rd H a (.dK kvs))∨∃kvs,Rd H a (.dT kvs)
theorem aab{X:Cx}{c:List (Addr×Obj)}{k:St}{H:Hp}{s:Shared}{a:Addr}(I:Inv X c k H s)(d:IsD H a) :
 s.TypeIs (.ref a) "dict" /\ (∀b,Value.ref a=.ref b->∃ob,s.heap.get? b=some ob/\ob.dict=none)/\(a==sysModules)=false:=by
 rcases d with ⟨j,e⟩|⟨j,e⟩
 ·obtain⟨_,i,l,_,f⟩:=Jy I.hok e
  refine⟨f.typeIs,λb q=>?_,i⟩;cases q;obtain⟨ob,_,_,g,h,_⟩:=f;exact⟨ob,g,h.2.1⟩
 ·obtain⟨_,i,m,_,f⟩:=Jz I.hok e
  refine⟨f.typeIs,λb q=>?_,i⟩;cases q;obtain⟨ob,_,_,g,h,_⟩:=f;exact⟨ob,g,h.2.1⟩
section
variable{X:Cx}{pins:List (Addr×Obj)}{σ:St}{H:Hp}{s:Shared}{a:Addr}{y d:V}{u r:Value}{o:Option V}{A:Around}{E:Value->Shared->Prop}
theorem aac{Q:Value->Shared->Prop}(q:A.units+1<cLine)(I:Inv X pins σ H s)(g:AW H a y o)(m:RelV y u)(h:∀j s',Inv X pins σ H s'->RelV (o.getD .fH) j->Q j s') :
 wpAny (model X.prog X.w) A (call (.builtin "dict.get") [.ref a,u]) Q E s:=by
 rcases g with ⟨i,k,e,d,l⟩|⟨i,k,b,e,d,p,l⟩
 ·subst d
  obtain⟨z,f,r,rel,c⟩:=Jy I.hok e;refine call_meetsIn PySem.F.slot_dict_get c.typeIs PySem.F.entry_dict_get (PySem.F.args_dict_get_2 _ _) (meets_dict_get (ie X.prog X.w) a (L5 m) f) ⟨_,c.mapOf,h _ _ (I.tok _) ?_⟩;rw[l];exact (rel.val k).getD rfl
 ·subst d
  cases (show u=Value.ref b from m);obtain⟨z,f,n,rel,c⟩:=Jz I.hok e;refine call_meetsIn PySem.F.slot_dict_get c.typeIs PySem.F.entry_dict_get (PySem.F.args_dict_get_2 _ _) (meetsH_dict_get (tupleKind (ie X.prog X.w)) a b f) ⟨tupleKind_room_in1 q,k,n,GC I.hok p,c,h _ _ (I.tok _) ?_⟩;rw[l];exact (rel.val k).getD rfl
end
def aad(td ty:TE):TE:=λσ H Q=>td σ H λx H1=>∃a,x=.ref a/\IsD H1 a/\ty σ H1 λy H2=>∃o,AW H2 a y o/\Q (o.getD .fH) H2
section
variable{X:Cx}{o e f:Expr}{apos cpos:Pos}{td ty tx:TE}
theorem T7(B:X.A.units+1<cLine)(z:PE X o td)(p:PE X e ty)(m:M1 X o "get" apos e cpos):PE X (.Call (.Attribute o "get" apos) [e] [] cpos) (aad td ty):=by
 intro b s i H Q I h;refine wpAny_Call_method m.base m.few m.line PySem.F.plainAttrs_dict PySem.F.slot_dict_get PySem.F.type_dict_get (gA (z b s i H _ I h) λu C ⟨x,D,f,q,a,j,d,E⟩=>?_);subst j;obtain rfl:u=Value.ref a:=q;obtain⟨l,w,_⟩:=aab f d;refine⟨l,w,?_⟩;rw[m.trees];refine Calls.callWith_builtin rfl (Calls.evalArgs_plain (Calls.spliced_cons (gA (p b C i D _ f E) λG M ⟨y,k,v,t,J,g,n⟩=>Calls.spliced_nil ?_)));exact aac B v g t λK L r c=>⟨_,k,r,c,n⟩
end
end L2
namespace Att
open PySem PySem.W PySem.Calls PyProof.Rows
theorem FG{P:Params}{h:Heap}:∀(ns:List Int) (vs:List Value),WellAll P h vs (ns.map WData.int)->IntsAre vs ns:=by
 intro ns;induction ns with
 |nil =>
  intro vs w;rw[List.map_nil] at w;cases w;exact .nil
 |cons n ns c =>
  intro vs w;rw[bN] at w;cases w with
  |cons a b =>
   cases a;exact .cons _ _ (c _ b)
theorem RB{l:OpenLaw}{n:Nat}(s:l.most=some n){P:Params}{h:Heap}{args:List WData}{b:List Value}
 (c:l.row.toRowW.claim.pre args=true) (k:WellAll P h b args) :
 ∃a vs ns,b=[Value.ref a]/\args=[WData.list (ns.map WData.int)]/\h.get? a=some {cls:=.type "list",data:=.seq vs.toArray}/\IntsAre vs ns/\ns.length<=n:=by
 have j:WShape.hasAll [] args [.list .int]=true:=(pre_splitW c).1;have m:l.pre.holds [] {args:=args}=true:=(pre_splitW c).2;obtain⟨d,r,rfl,o,t⟩:=hasAllW_cons j;obtain rfl:=hasAllW_nil t;obtain⟨y,rfl,w⟩:=hasW_list o;obtain⟨ns,rfl⟩:=items_int w;have f:ns.length<=n:=by
  unfold OpenLaw.pre at m;have g:(WTm.not (.lt (.lit (.int (n:Int))) (.len (.arg 0)))).holds [] {args:=[.list (ns.map .int)]}=true:=by
   have g:=(holds_andW m).1;rw[s] at g;exact g
  have i:=condW_of g (w_not (w_lt w_lit (w_len_list (w_arg rfl))));rw[ah] at i;refine Nat.le_of_not_lt λq=>?_;have p:(n:Int)<((ns.length:Nat):Int):=∅
  first
   | (rw[e8 p] at i;exact eL i (!_))
   | (simp at i;lia)
 cases k with
 |cons x u =>
  cases u;cases x with
  |list v e=>exact⟨_,_,ns,rfl,rfl,v,FG ns _ e,f⟩
theorem RC(l:OpenLaw)(args:List WData):l.row.toRowW.claim.post args (.bool true) args=true :=
 postW_of (r:=l.row.toRowW) (X:=(true==true))
  (show WShape.has [] (.bool true) .bool=true by first|rfl|decide|simp[WShape.has,WShape.arms,WShape.armsAll])
  (show (WTm.eq .res (.lit (.bool true))).value [] {args:=args,res:=some (.bool true),after:=args}=some (.bool (true==true)) from w_eq_bool (w_res rfl) w_lit) rfl
theorem L7{l:OpenLaw}{n:Nat}{q:Program}{e:List Str}{XP:(Str->Option Value)->Heap->Prop}{F:World->Heap->Prop}{d:DefRec}
 (J:l.most=some n) (x:d.params.defaults=[])
 (call:∀(w:World) (c b:Shared) (s y:Str->Option Value) (i:Addr) (o:Obj) (A p g:Value) (a:Addr) (vs:List Value) (ns:List Int),
  Ground q e [] XP w c s y b.heap->F w b.heap ->
  b.heap.get? i=some o->o.data=.func (docDef d.name d.params d.body d.scope A p g)->b.heap.CodeRec p d.name->s d.name=some (.ref i) ->
  b.heap.get? a=some {cls:=.type "list",data:=.seq vs.toArray}->IntsAre vs ns->ns.length<=n->b.gens=#[] ->
  codeAny (model l.prog w) callerA (.call (.ref i) ⟨[.ref a],[]⟩) (λr t=>r=.ok (.ret (.bool true))/\OldK b.heap t.heap/\t.os=b.os/\AllBare t.gens) b) :
 WalkO q e XP F l.row.toRowW d [] (λf vs=>PySem.call f vs):=by
 intro w c b s y G Y i o A p g N kV P O v C u L D B T m E S z M;obtain rfl:N=.none:=Dflts.none C x;obtain rfl:kV=.none:=Dflts.noKw C;obtain⟨a,vs,ns,rfl,rfl,j,h,k⟩:=RB J m z;refine enter_call (codeAny_mono (call w c b s y i o A p g a vs ns G Y P (fd_plain O) v u j h k L) λr t Q=>?_);obtain⟨rfl,K,R,I⟩:=Q;exact⟨.inl ⟨.bool true,.bool true,[],rfl,λ_=>rfl,.bool true,RC l _,λ_=>⟨List.Pairwise.nil,λ_ H=>(nomatch H)⟩⟩,K,R,I⟩
end Att
namespace L2
open PySem PySem.Spec PyProof.Rows
theorem JA:∀{vs:List Value} {ns:List Int},IntsAre vs ns->bZ (ns.map V.int) vs
 |_,_,.nil=>.nil
 |_,_,.cons n t h=>.cons ⟨t,rfl⟩ (JA h)
def aae(H:Hp):Prop:=∀b,H b=none∨∃o xs,H b=some (.Ax o (.lst xs))
theorem T8{P:Program}{w:World}{K:af}{B T:Str->Option Value}{CX:Rt}{k:Nat}{S a:Addr}{fd:FuncData}{x:Str}{sp:Sp}{c:Shared}{vs:List Value}{ns:List Int}
 (U:K.In c.heap) (G:c.heap.Ns mainGlobals B) (f:c.heap.Ns builtinsNs T) (J:∀x:Str,x≠"__name__" -> T x=bootBuiltins x) (y:c.heap.NoLimit) (hg:c.gens=#[])
 (I:c.heap.get? a=some {cls:=.type "list",data:=.seq vs.toArray}) (hi:IntsAre vs ns) (X:ns.length<=sizeLine) (hr:jE k callerA)
 (F:∀base:Heap,K.In base->base.Ns mainGlobals B->cz P w K B base CX k S fd [x] sp) (l:∀(s:Shared) (u:Value),BindsTo s fd ⟨[u],[]⟩ [(x,u)])
 (SQ:∀H:Hp,aae H->bP K H a (ns.map V.int)->sp [.ref a] H (λv _=>v=.bl true) λ_ _ _=>False)
 (Q:∀H e g,CX [] H c (λ_ _ _=>False) e g->False) :
 codeAny (model P w) callerA (.call (.ref S) ⟨[.ref a],[]⟩) (λr g=>r=.ok (.ret (.bool true))/\OldK c.heap g.heap/\g.os=c.os/\AllBare g.gens) c:=by
 have Y:=JA hi;have M:=hi.length;have j:∀H:Hp,aae H->bP K H a (ns.map V.int)->yM P w H c.heap->(∀b,H b≠none->b=a)->(H a≠none->K.lookup a=none) ->
  codeAny (model P w) callerA (.call (.ref S) ⟨[.ref a],[]⟩) (λr g=>r=.ok (.ret (.bool true))/\OldK c.heap g.heap/\g.os=c.os/\AllBare g.gens) c:=by
  intro H Z hS D hA hK;have P9:∀{b:Addr} {o:Obj},c.heap.get? b=some o->H b=none->(Ke c.heap H).get? b=some o:=λe n=>S5 e n;have O:∀{b:Addr} {o:Obj} {p:Array DictEntry} {A:Nat},c.heap.get? b=some o->o.data=.dict p A->H b=none:=λ{b o p A} e d=>by
   cases q:H b with
   |none=>rfl
   |some u =>
    have L:b=a:=hA b (by rw[q];simp);subst L;rw[I] at e;cases e;have d':Data.seq vs.toArray _=Data.dict p A:=d;cases d'
  have i:∀{b:Addr} {m:Str->Option Value},c.heap.Ns b m->(Ke c.heap H).Ns b m:=λ{b m} ⟨o,p,A,e,d,r⟩=>⟨o,p,A,P9 e (O e d),d,r⟩;have t:K.In (Ke c.heap H):=λb o e=>P9 (U b o e) (by
   cases q:H b with
   |none=>rfl
   |some u =>
    have L:b=a:=hA b (by rw[q];simp);subst L;rw[hK (by rw[q];simp)] at e;cases e)
  have hM:Mod K B (Ke c.heap H):=⟨t,i G,⟨T,i f,J⟩,let ⟨mc,h1,h2⟩:=y;⟨mc,i h1,h2⟩⟩;have e0:Oi P w K B (Ke c.heap H) callerA [] c H:=⟨rfl,hM,λb o e=>Wb e,Nat.le_of_eq (Rk _ _),trivial,λb f=>eL (show b∈([]:List Addr) from f) (-_),D,.of_eq hg⟩;refine codeAny_mono ((F _ t (i G)).run callerA [] c H ⟨[.ref a],[]⟩ [.ref a] [.ref a] _ _ hr e0 (l c (.ref a)) (.cons rfl .nil) (SQ H Z hS)) λr g h=>?_;cases r with
  |error e=>exact (Q H e g h).elim
  |ok fl =>
   cases fl with
   |next=>exact jC h
   |brk=>exact jC h
   |cont=>exact jC h
   |ret u =>
    obtain⟨v,H',os,E,un,R,r',q⟩:=h;have q':v=.bl true:=q;subst q';obtain rfl:u=Value.bool true:=r';refine⟨rfl,OldK.of_keep λb o e=>?_,os,E⟩;cases q:H b with
    |none=>exact un.keep b o e q (by intro z;exact eL (show b∈([]:List Addr) from z) (-_)) (-_)
    |some u =>
     rcases Z b with z|⟨ob,xs,z⟩
     ·rw[q] at z;cases z
     ·have z2:=un.AV b ob _ z
      obtain⟨W,_⟩:=D b _ z;obtain⟨e2,_⟩:=R b _ z2;rw[e] at W;cases W;exact e2
 cases N:K.lookup a with
 |some o =>
  have e:=U a o N;rw[I] at e;cases e;refine j (λ_=>none) (λ_=>.inl rfl) (.inr ⟨_,vs.toArray,_,N,rfl,rfl,rfl,by rw[aP,M];exact X,by simpa using Y⟩) (λb u z=>by have C:(none:Option HO)=some u:=z;cases C) (λb z=>eL rfl z) λz=>eL rfl z
 |none =>
  refine j (λb=>if b=a then some (.Ax {cls:=.type "list",data:=.seq vs.toArray} (.lst (ns.map V.int))) else none) (λb=>?_) (.inl (.inr ⟨{cls:=.type "list",data:=.seq vs.toArray},ee rfl⟩)) (λb u z=>?_) (λb z=>?_) λ_=>N
  ·by_cases f:b=a
   ·exact .inr ⟨_,_,ee f⟩
   ·exact .inl (er f)
  ·by_cases f:b=a
   ·have C:=(ee f).symm.trans z
    cases C;subst f;exact⟨I,by rw[ah];exact X,vs,_,Y,I⟩
   ·have C:=(er f).symm.trans z
    cases C
  ·by_cases f:b=a
   ·exact f
   ·exact eL (er f) z
theorem Wt{l:PySem.W.OpenLaw}{n k:Nat}{q:Program}{i:List Str}{XP:(Str->Option Value)->Heap->Prop}{I:World->Heap->Prop}{d:DefRec}{K:Params->af}{CX:World->Rt}{sp:World->Sp}{x:Str}
 (L:l.most=some n) (A:n<=sizeLine) (B:d.params.defaults=[]) (P:jE k callerA)
 (R:∀(w:World) (h:Heap),I w h->(K w.params).In h)
 (F:∀(w:World) (m:Str->Option Value) (t:Addr) (h:Heap),(K w.params).In h->h.Ns mainGlobals m->m d.name=some (.ref t) ->
  ∃C:FuncData,(∀(s:Shared) (u:Value),BindsTo s C ⟨[u],[]⟩ [(x,u)]) /\
   ∀base:Heap,(K w.params).In base->base.Ns mainGlobals m->cz l.prog w (K w.params) m base (CX w) k t C [x] (sp w))
 (O:∀(w:World) (H:Hp) (a:Addr) (ns:List Int),ns.length<=n->aae H->bP (K w.params) H a (ns.map V.int)->sp w [.ref a] H (λv _=>v=.bl true) λ_ _ _=>False)
 (y:∀(w:World) (H:Hp) (s:Shared) (e:Value) (s':Shared),CX w [] H s (λ_ _ _=>False) e s'->False) :
 PySem.W.WalkO q i XP I l.row.toRowW d [] (λf vs=>PySem.call f vs):=by
 refine Att.L7 L B λw E r m mb t o pm Z J a vs ns G Y ho hd M z p j c N=>?_;have D:=R w _ Y;obtain⟨C,X,S⟩:=F w m t _ D G.T.g z;exact T8 D G.T.g G.T.b G.T.builtins G.T.nolimit N p j (aN c A) P S X (λH U Q=>O w H a ns c U Q) λH e s'=>y w H r e s'
noncomputable def inClass(s:Stmt)(j:Nat):Stmt:=match s with
 |.ClassDef _ _ _ body _ _ _ _ _ _ _=>body.getD j (.Pass ⟨0,0,0,0⟩)
 |_=>.Pass ⟨0,0,0,0⟩
noncomputable def jv(s:Stmt):Arguments:=match s with
 |.FunctionDef _ a _ _ _ _ _ _ _ _=>a
 |_=>{posonlyargs:=[],args:=[],vararg:=none,kwonlyargs:=[],kw_defaults:=[],kwarg:=none,defaults:=[]}
noncomputable def fX(s:Stmt):List Stmt:=match s with
 |.FunctionDef _ _ b _ _ _ _ _ _ _=>b
 |_=>[]
noncomputable def aC(s:Stmt):Scope:=match s with
 |.FunctionDef _ _ _ _ _ _ sc _ _ _=>sc
 |_=>{kind:=.function,names:=[],isGenerator:=false,isCoroutine:=false}
abbrev iM:Rt:=λ_ _ _ _ _ _=>False
abbrev E0:XK:=λ_ _ _=>False
theorem mK{X:Cx}:sj iM X E0:=λ_ _ _ _ _ _ _ h=>h.elim
structure NN(K:af)(x qual:Str)(st:Stmt)(f:Addr)(fd:FuncData):Prop where
 ex:∃(oc:Value) (od:Option Addr) (kV doc pm:Value) (an:Option Addr) (cdv ct:Value) (osl:Array (Option Value)),
  fd=eT x qual (jv st) (fX st) (aC st) .none kV doc pm an cdv ct/\K.lookup f=some ⟨oc,od,.func fd,osl⟩/\jm K cdv qual=true
 kp:dX K (.ref f)=true
section
variable{P:Program}{w:World}{K:af}{mg:Str->Option Value}{base:Heap}
theorem NN.ok{x b:Str}{st:Stmt}{f:Addr}{i:FuncData}{N ps:List Str}{k:Nat}{sp:Sp}(F:NN K x b st f i)(S:aJ N ps (aC st))(g:∀vs H Q E,sp vs H Q E->vs.length=ps.length)
 (d:∀(c:Value) (A:Around) (a:List Env) (s:Shared) (H:Hp) (vs:List V) (Q:VK) (E:XK),jE k (A.deeper (envOfC b (aC st) s.heap.objs.size f c))->sp vs H Q E ->
  ∃t,iD (oj iM P w K mg base N b (aC st) f c A a s H E).Yp (fX st) t/\t {nx:=λ_ j=>Q .fH j,rt:=Q} (start N vs) H):cz P w K mg base iM (k+1) f i ps sp:=by
 obtain⟨v,p,kV,l,y,u,c,r,o,rfl,lk,e⟩:=F.ex;refine TL lk e S g λA a s H vs Q E n m=>?_;obtain⟨t,h,q⟩:=d c A a s H vs Q E n m;exact⟨t,h.Yp,q⟩
theorem NN.binds{x a:Str}{st:Stmt}{f:Addr}{g:FuncData}{ps:List Str}(F:NN K x a st f g)
 (h:∀(kV b e:Value) (d:Option Addr) (c ct:Value) (us:List Value),us.length=ps.length->bindArgs (eT x a (jv st) (fX st) (aC st) .none kV b e d c ct) ⟨us,[]⟩=pure (ps.zip us)):Binds K g ps []:=by
 obtain⟨l,k,kV,b,e,d,c,ct,j,rfl,lk,i⟩:=F.ex;exact .all (h kV b e d c ct)
theorem T9{x a:Str}{st:Stmt}{f:Addr}{j:Value}{i h:Option Addr}{e:Array (Option Value)}{kV d g b ct:Value}(l:K.lookup f=some ⟨j,i,.func (eT x a (jv st) (fX st) (aC st) .none kV d g h b ct),e⟩)
 (c:jm K b a=true) (k:dX K (.ref f)=true):NN K x a st f (eT x a (jv st) (fX st) (aC st) .none kV d g h b ct):=⟨⟨j,i,kV,d,g,h,b,ct,e,rfl,l,c⟩,k⟩
end
theorem CF{A:Around}{k:Nat}(a:jE k A):A.units+1<cLine:=cJ (fz (by decide:1<=64) _) a.units
theorem cS{n:Nat}(h:n<=1000):n<sizeLine:=cJ h (!_)
section
variable{X:Cx}
theorem pv(i:Nat){x:Str}{b:Pos}(e:X.N[i]?=some x:=by rfl)(c:Qa X.env.scope x:=by first|exact Or.inl rfl|exact Or.inr (Or.inl rfl)|exact Or.inr (Or.inr rfl))(d:(x==("__debug__" : Str))=false:=by decide)
 (a:(x==("__classdict__" : Str))=false:=by decide):PE X (.Name x b) (Kg i):=ZF e c d a
end
theorem eZ{A B:Prop}(h:B):if false=true then A else B:=by
 rw[er aF];exact h
theorem gC{A B:Prop}(h:A):if true=true then A else B:=by
 rw[ee rfl];exact h
theorem ko{c A B:Prop}[Decidable c](a:c->A)(b:¬c->B):if c then A else B:=by
 by_cases h:c
 ·rw[ee h]
  exact a h
 ·rw[er h]
  exact b h
def aG(H H':Hp):Prop:=∀b o,H b=some o->H' b=some o
theorem aG.refl(H:Hp):aG H H:=λ_ _ h=>h
theorem aG.trans{H e d:Hp}(a:aG H e)(b:aG e d):aG H d:=λc o h=>b c o (a c o h)
theorem aG.free{H a:Hp}(e:aG H a){l:Addr}(h:a l=Option.none):H l=Option.none:=by
 cases q:H l with
 |none=>rfl
 |some o =>
  rw[e l o q] at h;cases h
theorem aG.seq{K:af}{H b:Hp}{a:Addr}{xs:List V}(e:aG H b)(h:bP K H a xs):bP K b a xs:=by
 rcases h with (h|⟨o,h⟩)|h
 ·exact .inl (.inl (e _ _ h))
 ·exact .inl (.inr ⟨o,e _ _ h⟩)
 ·exact .inr h
theorem RD{env:Env}{x:Str}{c:Addr}(h:env.cells.lookup x=some c):cellOf env x=pure c:=by
 unfold cellOf;rw[h]
noncomputable def mL(env:Env):List (Str×NameKind)->List (Str×Addr)->List (Str×Addr)
 |[],cs=>cs
 | (n,k)::r,cs=>mL env r (if k==.free then (n,(env.cells.lookup n).getD 0)::cs else cs)
theorem KA{env:Env}:∀(ns:List (Str×NameKind)) (cs:List (Str×Addr)),(∀n,(n,NameKind.free)∈ns->∃c,env.cells.lookup n=some c) ->
 (forIn (m:=Sem) ns cs λx r=>match x with
  | (a,d)=>if (d==NameKind.free)=true then do let c <- cellOf env a;pure (jB ((a,c)::r)) else pure (jB r))=pure (mL env ns cs)
 |[],cs,_=>rfl
 | (n,k)::r,cs,h=>by
  rw[List.forIn_cons];by_cases b:(k==NameKind.free)=true
  ·have g:k=.free:=by simpa using b
   obtain⟨c,e⟩:=h n (by rw[g];exact b9);simp only[b,if_true,RD e];have q:=KA r ((n,c)::cs) λm f=>h m (bu _ f);show (forIn (m:=Sem) r ((n,c)::cs) _)=pure (mL env r (if (k==.free)=true then (n,(env.cells.lookup n).getD 0)::cs else cs));rw[ee b,e];exact q
  ·simp only[b]
   have q:=KA r cs λm f=>h m (bu _ f);show (forIn (m:=Sem) r cs _)=pure (mL env r (if (k==.free)=true then (n,(env.cells.lookup n).getD 0)::cs else cs));rw[er b];exact q
theorem A2{scope:Scope}{env:Env}(h:∀n,(n,NameKind.free)∈scope.names->∃c,env.cells.lookup n=some c):closureFor scope env=pure (mL env scope.names []):=by
 have e:=KA scope.names [] h;unfold closureFor;show (forIn (m:=Sem) scope.names [] (λx r=>match x with
  | (a,b)=>if (b==NameKind.free)=true then do let c <- cellOf env a;pure (jB ((a,c)::r)) else pure (jB r)) >>= λs=>pure s)=_
 rw[e];rfl
theorem lM{env:Env}{x:Str}{c:Addr}:∀(ns:List (Str×NameKind)) (cs:List (Str×Addr)),(∀n,(n,NameKind.free)∈ns->∃c,env.cells.lookup n=some c)->(cs.lookup x=some c->env.cells.lookup x=some c) ->
 (mL env ns cs).lookup x=some c->env.cells.lookup x=some c
 |[],_,_,a,h=>a h
 | (n,k)::r,cs,g,a,h=>by
  unfold mL at h;refine lM r _ (λm j=>g m (bu _ j)) (λq=>?_) h;by_cases f:(k==NameKind.free)=true
  ·have l:k=.free:=by simpa using f
   subst l;obtain⟨d,e⟩:=g n b9;rw[ee f,e,fh] at q;by_cases b:(x==n)=true
   ·have i:x=n:=by simpa using b
    rw[b] at q;subst i;rw[e];exact q
   ·simp only[b] at q
    exact a q
  ·rw[er f] at q
   exact a q
theorem Bw{env:Env}{x:Str}:∀(ns:List (Str×NameKind)) (cs:List (Str×Addr)),((cs.lookup x).isSome=true∨(x,NameKind.free)∈ns)->((mL env ns cs).lookup x).isSome=true
 |[],_,h=>h.elim id λz=>eL z (-_)
 | (n,k)::r,cs,h=>by
  unfold mL;refine Bw r _ ?_;rcases h with h|h
  ·refine .inl ?_
   split
   ·rw[fh]
    split
    ·rfl
    ·exact h
   ·exact h
  ·rcases bf.mp h with e|h
   ·cases e
    refine .inl ?_;rw[ee (show (NameKind.free==NameKind.free)=true from rfl),fh];simp
   ·exact .inr h
noncomputable def jF(cap:List (Option Nat))(σ:St):St:=cap.map λo=>o.bind λj=>(σ[j]?).join
noncomputable def lN(X:Cx)(scope:Scope)(N':List Str)(fp:List Addr)(pins:List (Addr×Obj))(s₃:Shared)(agx:Hp):Cx where
 prog:=X.prog
 w:=X.w
 K:=X.K
 mg:=X.mg
 base:=X.base
 A:=X.A
 N:=N'
 s₀:=s₃
 H₀:=agx
 env:=compEnvC scope (mL X.env scope.names []) s₃.heap.objs.size X.env
 outer:=X.stack
 stack:=X.stack
 ex:=fp
 fn:=λ_=>false
 calm:=X.calm
 pn:=X.pn++pins
 xe:=λ_ _=>False
structure jG(X:Cx)(scope:Scope)(N':List Str)(cap:List (Option Nat)):Prop where
 kind:scope.kind=.function
 Oq:∀y∈scope.names,y.2≠.cell
 loc:∀y∈scope.names,y.2=.local->scope.names.lookup y.1=some .local
 fr:∀y∈scope.names,y.2=.free->X.env.kindOf y.1=some .cell
 frl:∀y∈scope.names,y.2=.free->scope.names.lookup y.1=some .free
 nd:N'.Nodup
 len:cap.length=N'.length
 cap:∀(i j:Nat) (x:Str),cap[i]?=some (some j)->N'[i]?=some x->X.N[j]?=some x/\(x,NameKind.free)∈scope.names
section
variable{X:Cx}{scope:Scope}{N':List Str}{cap:List (Option Nat)}{fp:List Addr}{pins:List (Addr×Obj)}{s:Shared}{σ:St}{H:Hp}
theorem jG.clos(S:jG X scope N' cap)(ok:X.Ok):∀n,(n,NameKind.free)∈scope.names->∃c,X.env.cells.lookup n=some c:=λn a=>ok.has n (.inl (S.fr _ a rfl))
theorem wR{env:Env}{x:Str}:∀{names:List (Str×NameKind)} {k:NameKind},
 (names.map λ(n,k)=>if (k==NameKind.free&&env.scope.kind==.function&&env.kindOf n==some .cell) then (n,NameKind.cell) else (n,k)).lookup x=some k->k=.cell∨k=.free->(∀y∈names,y.2≠.cell)->(x,NameKind.free)∈names
 |[],_,h,_,_=>by simp at h
 | (n,q)::r,k,h,hk,d=>by
  have h':qj x ((if (q==NameKind.free&&env.scope.kind==.function&&env.kindOf n==some .cell)=true then (n,NameKind.cell) else (n,q))::(r.map λ(n,k)=>if (k==NameKind.free&&env.scope.kind==.function&&env.kindOf n==some .cell) then (n,NameKind.cell) else (n,k)))=some k:=h;by_cases b:(x==n)=true
  ·have f:x=n:=by simpa using b
   subst f;by_cases c:(q==NameKind.free&&env.scope.kind==.function&&env.kindOf x==some .cell)=true
   ·have:q=.free:=by
     rw[c9,c9] at c
     simpa using c.1.1
    subst this;exact b9
   ·rw[er c,fh,b] at h'
    have e:q=k:=aK h';subst e;rcases hk with hk|hk
    ·exact eL hk (d _ b9)
    ·rw[hk];exact b9
  ·have a:(x==n)=false:=by simpa using b
   refine bu _ (wR (env:=env) (k:=k) ?_ hk λy g=>d y (bu _ g));split at h'
   ·rw[fh,a] at h';exact h'
   ·rw[fh,a] at h';exact h'
theorem CG{env:Env}{x:Str}(c:env.scope.kind=.function)(d:env.kindOf x=some .cell):∀{names:List (Str×NameKind)},names.lookup x=some .free ->
 (names.map λ(n,k)=>if (k==NameKind.free&&env.scope.kind==.function&&env.kindOf n==some .cell) then (n,NameKind.cell) else (n,k)).lookup x=some .cell
 |[],h=>by simp at h
 | (n,k)::r,h=>by
  show qj x ((if (k==NameKind.free&&env.scope.kind==.function&&env.kindOf n==some .cell)=true then (n,NameKind.cell) else (n,k))::_)=_;cases a:x==n with
  |true =>
   have e:x=n:=by simpa using a
   subst e;simp only[fh,a] at h;have f:k=.free:=aK h;subst f;rw[ee (by rw[c,d];rfl),fh,a]
  |false =>
   simp only[fh,a] at h;have b:=CG c d h;split
   ·rw[fh,a];exact b
   ·rw[fh,a];exact b
theorem jG.ok(S:jG X scope N' cap)(I:Inv X pins σ H s)(d:∀b∈fp,Cu X pins H b)(f:∀b∈fp,∃o,s.heap.get? b=some o):(lN X scope N' fp pins s H).Ok where
 mod:=I.ok.mod
 kind:=S.kind
 glob:=I.ok.glob
 blt:=I.ok.blt
 above:=ay _
 inj:=λx y c i j=>I.ok.inj x y c (lM _ _ (S.clos I.ok) (λz=>by simp at z) i) (lM _ _ (S.clos I.ok) (λz=>by simp at z) j)
 has:=λx hx=>by
  have g:(x,NameKind.free)∈scope.names:=by
   rcases hx with hx|hx
   ·exact wR (env:=X.env) hx (.inl rfl) S.Oq
   ·exact wR (env:=X.env) hx (.inr rfl) S.Oq
  exact Option.isSome_iff_exists.mp (Bw scope.names [] (.inr g))
 nR:=λx c h=>by cases h
 hd:=I.ok.hd
 frames:=I.ok.frames
 stk:=.inl rfl
 exf:=λb a=>by
  obtain⟨o,e⟩:=f b a;refine⟨bE (Heap.lt_size e),λx c h=>(d b a).2.2.2.2.1 x c (lM _ _ (S.clos I.ok) (λz=>by simp at z) h)⟩
 bs:=I.bs
 VU:=aN I.ok.VU I.sz
 Rl:=λb o e a=>by
  rcases (d b a).2.2.2.1 with z|z
  ·exact I.ok.Rl b o e z
  ·exact eL (bH (Heap.lt_size e) (aN I.ok.VU z)) (iZ _)
 S6:=λb a k=>by
  rcases bf.mp (I.DC b k) with z|z
  ·exact (d b a).2.1 z
  ·exact (d b a).2.2.1 z
 Cr:=I.stack
 Yn:=I.Kf
theorem jG.look(S:jG X scope N' cap)(I:Inv X pins σ H s){f:Heap}{m:Str->Option Value}(k:∀x c v,X.env.cells.lookup x=some c->s.heap.IsCell c v->f.IsCell c v)(i:Nat)(x:Str)(v:V)(D:N'[i]?=some x)(E:(jF cap σ)[i]?=some (some v)) :
 ∃u,RelV v u/\Look (compEnvC scope (mL X.env scope.names []) s.heap.objs.size X.env) f m x u:=by
 have J:∀x c,(mL X.env scope.names []).lookup x=some c->X.env.cells.lookup x=some c:=λx c h=>lM _ _ (S.clos I.ok) (λz=>by simp at z) h;have d:((cap[i]?).map λo=>o.bind λj=>(σ[j]?).join)=some (some v):=by
  have:=E
  unfold jF at this;rw[aj] at this;exact this
 cases t:cap[i]? with
 |none=>rw[t] at d;cases d
 |some o =>
  cases o with
  |none=>rw[t] at d;cases d
  |some j =>
   rw[t] at d;obtain⟨L,b⟩:=S.cap i j x t D;have n:(σ[j]?).join=some v:=aK d;have F:σ[j]?=some (some v):=by
    cases A:σ[j]? with
    |none=>rw[A] at n;cases n
    |some y =>
     cases y with
     |none=>rw[A] at n;cases n
     |some z =>
      rw[A] at n;have e:z=v:=aK n;rw[e]
   have a:=S.fr _ b rfl;obtain⟨M,K,G⟩:=I.loc;obtain⟨u,r,l⟩:=G j x v L F (.inr (.inl a));refine⟨u,r,?_⟩;rcases l with ⟨C,_⟩|⟨C,c,B,g⟩
   ·have z:X.env.kindOf x=some .cell:=a
    rw[C] at z;cases z
   ·obtain⟨q,p⟩:=Option.isSome_iff_exists.mp (Bw (env:=X.env) (x:=x) scope.names [] (.inr b))
    have w:q=c:=by
     have:=J x q p
     rw[B] at this;exact (aK this).symm
    subst w;exact .inr ⟨.inl (CG I.ok.kind a (S.frl _ b rfl)),q,p,k x q _ B g⟩
theorem jG.start(S:jG X scope N' cap)(I:Inv X pins σ H s)(y:∀b∈fp,Cu X pins H b)(k:∀b∈fp,∃o,s.heap.get? b=some o){a:Heap}{tk:Nat}{m:Str->Option Value}(l:a.Ns s.heap.objs.size m)
 (j:∀b o,s.heap.get? b=some o->a.get? b=some o):Inv (lN X scope N' fp pins s H) [] (jF cap σ) H {s with heap:=a,toks:=tk}:=by
 have r:∀x c,(mL X.env scope.names []).lookup x=some c->X.env.cells.lookup x=some c:=λx c h=>lM _ _ (S.clos I.ok) (λz=>by simp at z) h;have f:∀{c:Addr} {v:Option Value},s.heap.IsCell c v->a.IsCell c v:=λ{c v} ⟨o,e,d⟩=>⟨o,j c o e,d⟩;refine⟨S.ok I y k,rfl,I.bare,Un.kept j,⟨m,l,λi x v t u C=>S.look I (λ_ _ _ _ z=>f z) i x v t u⟩,λx c h=>?_,I.hok.fresh (ay _),λx c h=>I.uc x c (r x c h),λp B=>?_,I.hok.kept j,?_⟩
 ·obtain⟨v,z⟩:=I.cell x c (r x c h)
  exact⟨v,f z⟩
 ·have g:p∈(X.pn++pins)++[]:=B
  have w:p∈X.pn++pins:=by rw[bY] at g;exact g
  obtain⟨e,n,A,nf,d⟩:=I.pin p w;refine⟨j _ _ e,n,bE (Heap.lt_size e),λz=>?_,d⟩;rcases bf.mp (I.DC p.1 z) with q|q
  ·exact A q
  ·exact nf q
 ·unfold jF
  rw[ah];exact S.len
theorem jG.again(S:jG X scope N' cap)(I:Inv X pins σ H s)(p:∀b∈fp,Cu X pins H b){k:St}{g:Hp}{h:Shared}(a:Inv (lN X scope N' fp pins s H) [] k g h):Inv (lN X scope N' fp pins s H) [] (jF cap σ) g h:=by
 obtain⟨m,l,_⟩:=a.loc;refine⟨a.ok,a.os,a.bare,a.base,⟨m,l,λi x v j n z=>S.look I (λy c u f r=>?_) i x v j n⟩,a.cell,a.free,a.uc,a.pin,a.hok,?_⟩
 ·obtain⟨o,e,d⟩:=r
  obtain⟨w,q⟩:=a.base.any e (I.uc y c f) λt=>(p c t).2.2.2.2.1 y c f rfl;exact⟨_,q,d⟩
 ·unfold jF
  rw[ah];exact S.len
theorem jG.back{g k:Hp}{f s3 s':Shared}{s:St}{j:Addr}{d:Heap}(S:jG X scope N' cap)(t:Inv X pins σ g f)(G:∀b∈fp,Cu X pins g b){o:HO}
 (E:s3.heap.objs.size=f.heap.objs.size+1) (k3:∀b u,f.heap.get? b=some u->s3.heap.get? b=some u) (y:j=f.heap.objs.size) (F:s3.os=f.os)
 (m:Inv (lN X scope N' fp pins s3 (upd g j o)) [] s k s') (r:Heap.SameBut s3.heap.objs.size s'.heap d):Inv X pins σ k {s' with heap:=d}:=by
 have H:Un (frs X.stack) fp g (upd g j o) f.heap s3.heap:=Un.laid k3 (by rw[y];exact ay _) (t.hok.fresh (by rw[y];exact ay _));have i:Un (frs X.stack) fp g k f.heap s'.heap:=H.trans m.base;have h:∀b a,f.heap.get? b=some a->b≠s3.heap.objs.size:=λb a e=>by
  have:=Heap.lt_size e
  rw[E];exact bE (Nat.lt_succ_of_lt this)
 have x:k s3.heap.objs.size=none:=m.free;have C:Un (frs X.stack) fp g k f.heap d :=
  ⟨λb a e n p l=>(r.2 b (h b a e)).trans (i.keep b a e n p l),λb a e n p l=>by
   obtain⟨D,q⟩:=i.slot b a e n p l;exact⟨D,(r.2 b (h b a e)).trans q⟩,i.free,λb a e l=>by
   obtain⟨L,q⟩:=i.there b a e l;exact⟨L,(r.2 b (h b a e)).trans q⟩,i.tups,i.AV,i.Cq⟩
 have hok:yM X.prog X.w k d:=λb a e=>(m.hok b a e).stay (λc v B q=>(r.2 c (by
  rintro rfl;rcases B with z|z
  ·rw[<- z,x] at e;cases e
  ·rw[x] at z;cases z)).trans q) (λ_ q=>q) λ_ _ q=>q
 refine t.Yo (s':={s' with heap:=d}) (ch:=fp) (m.os.trans F) C hok m.bare λb p=>?_;obtain⟨_,J,_,I,A,K⟩:=G b p;exact⟨I,J,A,K⟩
def kE(X:Cx)(ifs:List Expr)(t:TT):Prop :=
 ∀(pins:List (Addr×Obj)) (s:Shared) (σ:St) (H:Hp) (Q:Bool->Hp->Prop),Inv X pins σ H s->t σ H Q ->
  wpAny (model X.prog X.w) X.A (forIn ifs true λc r=>if r=true then do let ok <- isTrue c X.env (eval c X.env);pure (jB ok) else pure (jB r)) (TP X pins σ Q) X.xe s
def acP:TT:=λ_ H Q=>Q true H
theorem mO:kE X [] acP:=λ_ _ _ H _ I h=>wpAny_tests_nil ⟨H,I,h⟩
theorem mP{c:Expr}{t:TT}(h:PT X c t):kE X [c] t:=λpins s σ H Q I a=>wpAny_tests_one (h pins s σ H Q I a)
def YC(wi:TI)(cap:List (Option Nat))(g:TG)(tc:TT)(te:TE):TE:=λσ H Q=>wi σ H λJ H1=>∀acc,H1 acc=none->∃W:Nat->Nat->Hp->Prop,(∃m,W 0 m (upd H1 acc (.lst [])))/\∀i m H,W i m H ->
 (J.stop i H/\Q (.ref acc) H)∨(J.go i H/\∀x H',J.Km i H x H'->g x (jF cap σ) H' λσ2 H2=>tc σ2 H2 λb H3=>if b=true then te σ2 H3 λy H4=>∃xs,H4 acc=some (.lst xs)/\xs.length<sizeLine /\
  ∃m',m'<m/\W (i+1) m' (upd H4 acc (.lst (xs++[y]))) else ∃m',m'<m/\W (i+1) m' H3)
theorem RG{o a l:PySem.Expr}{t:List PySem.Expr}{scope:Scope}{y:Pos}{E q:Value}{env:Env}{prog:Program}{w:World}{A:Around}{s:Shared}{R:Result->Shared->Prop}(I:Nat->Shared->Prop)
 (D:∀n s,I n s->wpAny (model prog w) A (pyNext E) (λr b=>match r with
  |none=>R (.ok .next) b
  |some v=>wpAny (model prog w) A (letOwnedTupleGo a E v) (λ_ g=>wpAny (model prog w) A (assign a env v) (λ_ i =>
   wpAny (model prog w) A (forIn t true λc r=>if r=true then do let ok <- isTrue c env (eval c env);pure (jB ok) else pure (jB r)) (λok d=>if ok=true then wpAny (model prog w) A (eval o env) (λx e =>
    wpAny (model prog w) A (call (.builtin "list.append") [q,x]) (λ_ k=>∃m,m<n/\I m k) (λ_ _=>False) e) (λ_ _=>False) d
    else ∃m,m<n/\I m d) (λ_ _=>False) i)
   (λ_ _=>False) g) (λ_ _=>False) b) (λ_ _=>False) s)
 (n:Nat) (h:I n s):codeAny (model prog w) A (.compLoop (.ListComp o [⟨a,l,t,0⟩] scope y) 0 E q env) R s:=by
 refine codeAny_loop rfl I (λn s G=>?_) n h;show wpAny _ A ((compTurn (.ListComp o [⟨a,l,t,0⟩] scope y) 0 E q env).onRaise (λx=>do noteFrame x env;theTreesLotGoes x)) _ _ s;refine wpAny_noted ?_;rw[compTurn_list];refine wpAny_bind (wpAny_standAt (wpAny_bind (wpAny_mono (D n s G) (λr b f=>?_) λ_ _ z=>z.elim)));cases r with
 |none=>exact wpAny_pure f
 |some v =>
  refine wpAny_bind (wpAny_mono f (λ_ g p=>?_) λ_ _ z=>z.elim);refine wpAny_bind (wpAny_mono p (λ_ i C=>?_) λ_ _ z=>z.elim);refine wpAny_bind (wpAny_mono C (λF d j=>?_) λ_ _ z=>z.elim);cases F with
  |false=>exact wpAny_pure ⟨rfl,j⟩
  |true=>exact wpAny_bind (wpAny_bind (wpAny_mono j (λx e B=>wpAny_bind (wpAny_mono B (λ_ k u=>wpAny_pure (wpAny_pure ⟨rfl,u⟩)) λ_ _ z=>z.elim)) λ_ _ z=>z.elim))
theorem GD{L tg F:Expr}{N:List Expr}{pos:Pos}{g:TG}{tc:TT}{te:TE}{Q:VK}{a:Shared}{B:Hp}{it:Addr}{tn:Nat->Heap->Prop}{J:It}{E:Value->Shared->Prop}{RR:Value->Addr->Result->Shared->Prop}
 (S:jG X scope N' cap) (hc:X.calm=true) (hg:∀fp pins s H,PG (lN X scope N' fp pins s H) tg g) (hts:∀fp pins s H,kE (lN X scope N' fp pins s H) N tc) (he:∀fp pins s H,PE (lN X scope N' fp pins s H) L te)
 (I2:Inv X pins σ B a) (T:Turn X.prog X.w X.K tg J fp it tn) (O:tn 0 a.heap) (Y:∀b∈fp,Cu X pins B b)
 (h:∀k,B k=none->∃W:Nat->Nat->Hp->Prop,(∃m,W 0 m (upd B k (.lst [])))/\∀i m H,W i m H ->
  (J.stop i H/\Q (.ref k) H)∨(J.go i H/\∀x j,J.Km i H x j->g x (jF cap σ) j λZ B=>tc Z B λb H3=>if b=true then te Z H3 λy H4=>∃xs,H4 k=some (.lst xs)/\xs.length<sizeLine /\
   ∃l,l<m/\W (i+1) l (upd H4 k (.lst (xs++[y]))) else ∃l,l<m/\W (i+1) l H3))
 (hRR:∀C s' j,(∃m,s'.heap.Ns C m)->(∀M,Heap.SameBut C s'.heap M->Inv X pins σ j {s' with heap:=M})->Q (.ref a.heap.objs.size) j->j C=none->a.heap.objs.size<C ->
  RR (.ref a.heap.objs.size) C (.ok .next) s') :
 wpAny (model X.prog X.w) X.A (newList []) (λk s₃=>wpAny (model X.prog X.w) X.A (newFunctionEnv scope X.env.globals (mL X.env scope.names []) [] X.env.qual none .none (some X.env)) (λD s₄ =>
  codeAny (model X.prog X.w) X.A (.compStart (.ListComp L [⟨tg,F,N,0⟩] scope pos) 0 (.ref it) k {D with scope:=relabel scope X.env}) (RR k D.locals) s₄) E s₃) E a:=by
 refine wpAny_newObj_type (wpAny_newFunctionEnv S.Oq (by intro y hy;simp at hy) (λv Ot Ou=>?_) S.kind);dsimp only at Ot Ou ⊢;have hfr:B a.heap.objs.size=none:=I2.hok.fresh (ay _);generalize R:a.heap.push {cls:=.type "list",dict:=none,data:=.seq ([]:List Value).toArray}=h3 at Ot Ou ⊢;have e3:h3.objs.size=a.heap.objs.size+1:=by rw[<- R,Heap.size_push]
 have k3:∀b u,a.heap.get? b=some u->h3.get? b=some u:=λb u e=>by rw[<- R];exact Heap.get?_push_of_some _ e
 have I3:Inv X pins σ (upd B a.heap.objs.size (.lst [])) {a with heap:=h3,toks:=a.toks}:=by
  refine I2.laid (t':=a.toks) k3 (ay _) ?_;exact⟨bM _,[],0,.nil,by rw[<- R];exact Heap.get?_push_size _ rfl⟩
 have f3:∀b∈fp,Cu X pins (upd B a.heap.objs.size (.lst [])) b:=λb f=>by
  obtain⟨o,e,_⟩:=T.obj _ _ O b f;exact⟨by rw[aH (bE (Heap.lt_size e))];exact (Y b f).1,(Y b f).2⟩
 have ex3:∀b∈fp,∃o,h3.get? b=some o:=λb f=>by
  obtain⟨o,e,_⟩:=T.obj _ _ O b f;exact⟨o,k3 b o e⟩
 have kp:∀b o,h3.get? b=some o->v.get? b=some o:=λb o e=>Ou.extBut b o (bE (Heap.lt_size e)) (Heap.get?_push_of_some _ e);have I4:=S.start (fp:=fp) (tk:=a.toks+([]:List (Str×Value)).length) I3 f3 ex3 Ot kp;have L8:tn 0 v:=T.keep _ _ _ O λb _ o e=>kp b o (k3 b o e);obtain⟨W,⟨m0,w0⟩,turn⟩:=h a.heap.objs.size hfr;let G:=lN X scope N' fp pins {a with heap:=h3,toks:=a.toks} (upd B a.heap.objs.size (.lst []));have t:∀{Jm:List (Addr×Obj)} {j:Hp},(∀p∈Jm,p.1∉fp)->(∀b∈fp,j b=none)->∀b∈fp,Cu G Jm j b:=λ{Jm j} hpn hn b f=>by
  obtain⟨o,e⟩:=ex3 b f;refine⟨hn b f,bE (Heap.lt_size e),λz=>?_,.inl f,λx c hx=>(f3 b f).2.2.2.2.1 x c (lM _ _ (S.clos I2.ok) (λz=>by simp at z) hx),λp hp=>?_⟩
  ·rcases bf.mp (I2.DC b z) with q|q
   ·exact (Y b f).2.1 q
   ·exact (Y b f).2.2.1 q
  ·rcases br.mp hp with q|q
   ·exact (Y b f).2.2.2.2.2 p q
   ·exact λz=>hpn p q (z▸f)
 have I:codeAny (model X.prog X.w) X.A (.compLoop (.ListComp L [⟨tg,F,N,0⟩] scope pos) 0 (.ref it) (.ref a.heap.objs.size) G.env) (RR (.ref a.heap.objs.size) h3.objs.size) {a with heap:=v,toks:=a.toks+([]:List (Str×Value)).length}:=by
  refine RG (λn s'=>∃i j,Inv G [] (jF cap σ) j s'/\tn i s'.heap/\(∀b∈fp,j b=none)/\W i n j) ?_ m0 ⟨0,_,I4,L8,λb f=>(f3 b f).1,w0⟩;rintro n s5 ⟨i,H5,I5,NK,O3,w5⟩;rcases turn i n H5 w5 with ⟨stop,qn⟩|⟨go,step⟩
  ·refine wpAny_mono (T.done G rfl rfl rfl hc i [] s5 (jF cap σ) H5 (λ_ _=>False) I5 (t (λ_ z=>eL z (-_)) O3) NK stop) (λr s6 ⟨hr,I6⟩=>?_) λ_ _ z=>z
   subst hr;refine hRR _ s6 H5 ?_ (λM sb=>S.back I2 Y (s3:={a with heap:=h3,toks:=a.toks}) e3 k3 rfl rfl I6 sb) qn I6.free (by rw[e3];exact wI _);obtain⟨m,hn,_⟩:=I6.loc;exact⟨m,hn⟩
  ·refine wpAny_mono (T.item G rfl rfl rfl hc i [] s5 (jF cap σ) H5 (λ_ _=>False) I5 (t (λ_ z=>eL z (-_)) O3) NK go) (λr s6 ⟨u,hr,h6⟩=>?_) λ_ _ z=>z
   subst hr;refine wpAny_mono h6 (λ_ s7 ⟨x,H7,I7,r7,y7,Ov,fr7⟩=>?_) λ_ _ z=>z;have I7':=I7.pinned (t (λ_ z=>eL z (-_)) fr7) (T.obj _ _ Ov);have again:∀{V:St} {P:Hp} {U:Shared},Inv G ([]++Gw fp s7.heap) V P U->(∃l,l<n/\W (i+1) l P)->∃m,m<n/\∃i j,Inv G [] (jF cap σ) j U/\tn i U.heap/\(∀b∈fp,j b=none)/\W i m j:=λ{V P U} I8 n8=>by
    obtain⟨l,hm,w8⟩:=n8;have pn:∀b∈fp,∃o,s7.heap.get? b=some o/\U.heap.get? b=some o/\P b=none:=λb f=>by
     obtain⟨o,e,d⟩:=T.obj _ _ Ov b f;have q:=I8.pin (b,o) (cY _ (cY _ (Bt f e)));exact⟨o,e,q.1,q.2.1⟩
    refine⟨l,hm,i+1,P,S.again I3 f3 I8.Cv,T.keep _ _ _ Ov λb f o e=>?_,λb f=>?_,w8⟩
    ·obtain⟨o',e',q,_⟩:=pn b f
     rw[e] at e';cases e';exact q
    ·obtain⟨_,_,_,q⟩:=pn b f
     exact q
   refine wpAny_mono (hg fp pins _ _ _ s7 (jF cap σ) H7 x u _ I7' r7 (step x H7 y7)) (λ_ U ⟨V,P,I8,q8⟩=>?_) λ_ _ z=>z;refine wpAny_mono (hts fp pins _ _ _ U V P _ I8 q8) (λb s9 ⟨H9,I9,q9⟩=>?_) λ_ _ z=>z;cases b with
   |false=>exact again I9 q9
   |true =>
    refine wpAny_mono (he fp pins _ _ _ s9 V H9 _ I9 q9) (λu VW ⟨y,Ua,I10,r10,xs,hx,hl,q10⟩=>?_) λ_ _ z=>z;refine wpAny_mono (eE (X:=G) _ VW V Ua (.ref a.heap.objs.size) [y] (.ref a.heap.objs.size) [u] (λ_ j=>∃l,l<n/\W (i+1) l j) I10 rfl (.cons r10 .nil) ⟨_,xs,y,rfl,rfl,hx,hl,q10⟩) (λ_ Ed ⟨_,k9,I11,_,q11⟩=>again I11 q11) λ_ _ z=>z
 exact codeAny_compStart_list I (T.self _ 0 _ _ _ L8 I)
theorem gq{b k a:Expr}{c:List Expr}{d:Pos}{n:TI}{g:TG}{o:TT}{p:TE}(S:jG X scope N' cap)(t:X.calm=true)(z:PI X k a n)(D:∀fp pins s H,PG (lN X scope N' fp pins s H) k g)
 (i:∀fp pins s H,kE (lN X scope N' fp pins s H) c o) (u:∀fp pins s H,PE (lN X scope N' fp pins s H) b p) (F:∀x,foldedSetIterable a X.env x=pure x:=by intro _;rfl) :
 PE X (.ListComp b [⟨k,a,c,0⟩] scope d) (YC n cap g o p):=by
 intro pins s σ H Q I h;rw[eval_ListComp];refine wpAny_comprehension_free (use:=none) rfl F (A2 (S.clos I.ok)) S.kind S.loc (gA (z pins s σ H _ I h) λv W r=>gA r λP L B=>?_);obtain⟨V,fp,R,J,U,e,G,T,f,K,N⟩:=B;subst e;refine GD (RR:=λj C=>compPost (model X.prog X.w) X.A X.xe none (EP X pins σ Q) j C) S t D i u G T f K N ?_;intro C Y q ⟨m,y⟩ O M _ _;exact⟨m,y,λl E=>⟨.ref L.heap.objs.size,q,O l E,rfl,M⟩⟩
theorem Bx{j u f:Expr}{k:List Expr}{t:Pos}{wi:TI}{g:TG}{Y:TT}{Z:TE}{i:Nat}{x:Str}{d n:Pos}(hN:X.N.Nodup)(F:X.N[i]?=some x)(hx:Loc X.env.scope x)(S:jG X scope N' cap)(hc:X.calm=true)
 (hi:PI X u f wi) (hg:∀fp pins s H,PG (lN X scope N' fp pins s H) u g)
 (M:∀fp pins s H,kE (lN X scope N' fp pins s H) k Y) (he:∀fp pins s H,PE (lN X scope N' fp pins s H) j Z) (hs:∀x,foldedSetIterable f X.env x=pure x:=by intro _;rfl)
 (G:swapsWith (.ListComp j [⟨u,f,k,0⟩] scope t) (some (.Name x d)) n.line X.env=pure true:=by rfl) (hf:X.fn x=true∨X.env.scope.names.lookup x=some .local:=by first|exact .inl rfl|exact .inr rfl|assumption) :
 PS X (.Assign [.Name x d] (.ListComp j [⟨u,f,k,0⟩] scope t) n) (We (YC wi cap g Y Z) (iz i)):=by
 intro pins s σ H D I h;rw[exec_Assign_Name_used _ _ _ _ G];refine wpAny_bind (wpAny_standAt (wpAny_bind ?_));show wpAny _ X.A (do let _ <- comprehension (.ListComp j [⟨u,f,k,0⟩] scope t) scope X.env _ (newList []) false (eval f X.env) (some (assign (.Name x d) X.env))) _ _ s;refine wpAny_bind (wpAny_mono (wpAny_comprehension_free (use:=some (assign (.Name x d) X.env)) (Q:=λ_ l=>SP X pins D .next l) rfl hs (A2 (S.clos I.ok)) S.kind S.loc
  (gA (hi pins s σ H _ I h) λv s1 h1=>gA h1 λitv W h2=>?_)) (λ_ l O=>wpAny_pure (wpAny_pure O)) λ_ _ e=>e)
 obtain⟨it,fp,tn,J,H2,e,r,T,L,f2,hW⟩:=h2;subst e;refine GD (RR:=λK C=>compPost (model X.prog X.w) X.A X.xe (some (assign (.Name x d) X.env)) (λ_ l=>SP X pins D .next l) K C) (Q:=λx H1=>iz i x σ H1 D.nx) S hc hg M he r T L f2 hW ?_;intro C l H' ⟨m,hn⟩ hI O hC E;have I':Inv X pins σ H' l:=hI l.heap (.refl ..);show wpAny _ _ (assign (.Name x d) X.env (.ref W.heap.objs.size)) _ _ l;refine wpAny_assign_Name (Jo (v:=.ref W.heap.objs.size) I' hN F hx rfl (λs6 I6 ⟨a,sb,ha⟩=>?_) hf);have B:∀b,b<W.heap.objs.size->b≠C:=λb V=>bE (Nat.lt_trans V E);have P:a≠C:=by
  rcases ha with z|z
  ·rw[z];exact B _ r.lt
  ·obtain⟨_,q⟩:=r.cell x a z
   exact B _ q.lt
 refine⟨m,hn.sameBut sb (bK P),λh' R=>⟨_,H',I6.turned (t':=s6.toks) (λb o V e=>(R.2 b V).trans e) hC (bK (B _ r.lt)) (.inr (aN r.sz (kg E))) (λy c U=>?_) (λp hp=>?_),O⟩⟩
 ·obtain⟨_,q⟩:=r.cell y c U
  exact B _ q.lt
 ·exact B _ (Heap.lt_size (r.pin p hp).1)
end
section
variable{X:Cx}
noncomputable def VX(K:af)(a:Addr):It :=
 ⟨λi H=>∃xs x,bP K H a xs/\xs[i]?=some x,λi H x H'=>∃p v,H p=none/\x=.ref p/\H'=upd H p (.tup [.int (i:Nat),v])/\∀xs,bP K H a xs->xs[i]?=some v,λi H=>∃xs,bP K H a xs/\xs.length<=i⟩
theorem RH{P:Program}{w:World}{K:af}{D:List Expr}{x1}{pos:Pos}(a e f:Addr)(G:e≠f) :
 Turn P w K (.Tuple D x1 pos) (VX K a) [e,f] e (λi h=>∃old,IsEnum h e f (i:Nat) old/\h.IsListIter f a i) where
 mem:=-_
 obj:=λi h ⟨old,st,t⟩ b hb=>by
  rcases bf.mp hb with z|hb
  ·subst z
   exact⟨_,st,λv z=>by
    have z':Data.fields _=Data.cell v:=z;cases z'⟩
  ·have z:b=f:=by simpa using hb
   subst z;obtain⟨o,e,c,d⟩:=t;exact⟨o,e,λv z=>by rw[d] at z;cases z⟩
 keep:=λi h h' ⟨old,st,t⟩ k=>⟨old,k e (-_) _ st,t.at λo q=>k f (-_) o q⟩
 item:=by
  intro X M hw U g i l s σ H E I y ⟨old,st,t⟩ hg;subst M hw U;obtain⟨W,x,J,N⟩:=hg;obtain⟨L,R,p,hz⟩:=I.list J;obtain⟨u,hu,ru⟩:=R.get N;refine wpAny_pyNext_enum_item st t p.isList (x:=u) (by simpa using hu) G λh' eo li' tu sz kp=>?_;refine⟨_,rfl,wpAny_letOwnedTupleGo_enum eo λC e2 A=>?_⟩;have j:H s.heap.objs.size=none:=I.hok.fresh (ay _);have nE:∀b o,H b=some o->b≠e:=λb o q z=>by rw[z,(y e (-_)).1] at q;cases q
  have nI:∀b o,H b=some o->b≠f:=λb o q z=>by rw[z,(y f (-_)).1] at q;cases q
  have F:∀b o,b≠e->b≠f->s.heap.get? b=some o->C.get? b=some o:=λb o h1 h3 q=>(A.2 b h1).trans (kp b o h1 h3 q);have Y:e<s.heap.objs.size:=Heap.lt_size st;have Q:C.get? s.heap.objs.size=some {cls:=.type "tuple",data:=.seq #[.int (i:Nat) s.toks,u]}:=(A.2 _ (Nat.ne_of_gt Y)).trans tu;have O:C.IsListIter f a (i+1):=li'.at λo q=>(A.2 f (bK G)).trans q;have B:∀b,b∉[e,f]->b≠e/\b≠f:=λb hb=>⟨λz=>hb (by simp[z]),λz=>hb (by simp[z])⟩;have V:∀b∈[e,f],upd H s.heap.objs.size (.tup [.int (i:Nat),x]) b=none:=λb hb=>by
   obtain⟨o,q,_⟩:∃o,s.heap.get? b=some o/\True:=by
    rcases bf.mp hb with z|hb
    ·subst z;exact⟨_,st,trivial⟩
    ·have z:b=f:=by simpa using hb
     subst z;obtain⟨o,q,_⟩:=t;exact⟨o,q,trivial⟩
   rw[aH (bE (Heap.lt_size q))];exact (y b hb).1
  have I1:Inv X l σ (upd H s.heap.objs.size (.tup [.int (i:Nat),x])) {s with heap:=C,toks:=s.toks+1}:=by
   refine I.step (g':=s.gens) (d':=s.drawn) (ch:=[e,f]) (λb hb=>?_) (λb o _ _ g q _=>F b o (B b g).1 (B b g).2 q) (λb o _ _ g q _=>⟨o.slots,F b o (B b g).1 (B b g).2 q⟩)
    (λb o _ q n=>by rw[aH (bE (Heap.lt_size q))];exact n) (λb o g q=>⟨o,F b o (B b g).1 (B b g).2 q⟩) (λb W q=>by rw[aH (aE q j)];exact q) (λb o u q=>by rw[aH (aE q j)];exact q)
    (λb ps q=>⟨#[],by rw[aH (aE q j),q];simp⟩) (λm hm=>?_) (λb o q=>?_) I.bare
   ·obtain⟨_,f1,_,f3,S,Z⟩:=y b hb
    exact⟨f3,f1,S,Z⟩
   ·obtain⟨o,es,ep,ho,r⟩:=hm
    exact⟨o,es,ep,F _ o (bK (y e (-_)).2.1) (bK (y f (-_)).2.1) ho,r⟩
   ·by_cases hb:b=s.heap.objs.size
    ·subst hb
     rw[au] at q;cases q;exact⟨by show 2<=sizeLine;decide,[.int (i:Nat) s.toks,u],.cons ⟨_,rfl⟩ (.cons ru .nil),⟨_,Q,rfl,_,rfl⟩⟩
    ·rw[aH hb] at q
     refine (I.hok b o q).stay (λc v g r=>F c v ?_ ?_ r) (λc r=>by rw[aH (aE r j)];exact r) λc W r=>by rw[aH (aE r j)];exact r
     ·rcases g with z|z
      ·rw[z];exact nE b o q
      ·exact nE c _ z
     ·rcases g with z|z
      ·rw[z];exact nI b o q
      ·exact nI c _ z
  refine⟨.ref s.heap.objs.size,_,I1,rfl,⟨_,x,j,rfl,rfl,λys hy=>by rw[I.LW hy J];exact N⟩,⟨u,?_,O⟩,V⟩;have T:IsEnum C e f ((i:Int)+1) u:=e2;show IsEnum C e f (((i+1:Nat):Int)) u;rw[Int.natCast_add];exact T
 done:=by
  intro X M hw U g i l s σ H E I y ⟨old,st,t⟩ hg;subst M hw U;obtain⟨W,J,N⟩:=hg;obtain⟨L,R,p,hz⟩:=I.list J;obtain⟨f0,f1,f2,f3,S,Z⟩:=y f (-_);have hl:=R.length;exact wpAny_pyNext_enum_end (I.ok.hd g) st t p.isList (by simp;lia) λh' eb=>⟨rfl,I.turned (t':=s.toks) (λb o hb q=>eb b o hb q) f0 f1 f3 S Z⟩
 self:=λ_ _ _ _ _ ⟨_,st,_⟩ h=>wpAny_pyIter_enum st h
def acS(K:af)(ta:TA):TI:=λσ H R=>ta σ H λvs H1=>∃a xs,vs=[.ref a]/\bP K H1 a xs/\R (VX K a) H1
theorem Qc{l:Expr}{o:TA}{p f:Pos}{g:List Expr}{x1}{i:Pos}(w:Gl X "enumerate")(u:X.mg "enumerate" = none)(B:PA X [l] o)(y:starEach [l] X.env=[(false,eval l X.env)]:=by rfl) :
 PI X (.Tuple g x1 i) (.Call (.Name "enumerate" p) [l] [] f) (acS X.K o):=by
 intro c s n H R I h;refine Call_ (Gv I w u boot_enumerate (PyProof.Rows.callWith_type1 (gA (B f c s n H _ I h) λN d ⟨P,k,j,G,L⟩=>?_) y rfl));obtain⟨a,Q,e,D,q⟩:=L;subst e;cases G with
 |cons r E =>
  cases E;cases r;obtain⟨v,S,F,O⟩:=j.list D;refine call_enumerate_list F.isList λC t A M J=>wpAny_pyIter_enum t ?_;have x:Inv X c n k {d with heap:=C,toks:=d.toks}:=j.kept J;have m:∀b,d.heap.objs.size<=b->Cu X c k b:=λb hb=>j.Tf hb (j.hok.fresh hb);refine⟨d.heap.objs.size+1,[d.heap.objs.size+1,d.heap.objs.size],_,_,k,rfl,x,RH a _ _ (Nat.succ_ne_self _),⟨.none,t,A⟩,λb hb=>?_,q⟩;rcases bf.mp hb with z|hb
  ·subst z;exact m _ ∅
  ·have z:b=d.heap.objs.size:=by simpa using hb
   subst z;exact m _ ∅
end
theorem aG.dB{K:af}{H b:Hp}{a:Addr}{xs:List V}(e:aG H b)(h:cP K H a xs):cP K b a xs:=by
 rcases h with (h|⟨o,h⟩)|h
 ·exact .inl (.inl (e _ _ h))
 ·exact .inl (.inr ⟨o,e _ _ h⟩)
 ·exact .inr h
theorem aG.new{H:Hp}{p:Addr}{o:HO}(h:H p=none):aG H (upd H p o):=λb u e=>by rw[aH (aE e h)];exact e
theorem aG.out{a H:Hp}{p:Addr}{o:HO}(s:aG a H)(h:a p=none):aG a (upd H p o):=λb u e=>by rw[aH (aE e h)];exact s b u e
mutual
def Rep(K:af)(H:Hp):PyData->V->Prop
 |.none,v=>v=.fH
 |.bool b,v=>v=.bl b
 |.int i,v=>v=.int i
 |.str x,v=>v=.str x
 |.list ds,v=>∃a vs,v=.ref a/\bP K H a vs/\cW K H ds vs
 |.tuple ds,v=>∃a vs,v=.ref a/\cP K H a vs/\cW K H ds vs
 |.dict _,_=>False
def cW(K:af)(H:Hp):List PyData->List V->Prop
 |[],vs=>vs=[]
 |d::ds,vs=>∃v r,vs=v::r/\Rep K H d v/\cW K H ds r
end
section
variable{K:af}{H H':Hp}
mutual
theorem Rep.mono(s:aG H H'):∀{d:PyData} {v:V},Rep K H d v->Rep K H' d v
 |.none,_,h=>h
 |.bool _,_,h=>h
 |.int _,_,h=>h
 |.str _,_,h=>h
 |.list ds,_,⟨a,vs,e,q,r⟩=>⟨a,vs,e,s.seq q,cW.mono s r⟩
 |.tuple ds,_,⟨a,vs,e,q,r⟩=>⟨a,vs,e,s.dB q,cW.mono s r⟩
 |.dict _,_,h=>h
theorem cW.mono(s:aG H H'):∀{ds:List PyData} {vs:List V},cW K H ds vs->cW K H' ds vs
 |[],_,h=>h
 |_::_,_,⟨v,r,e,q,t⟩=>⟨v,r,e,q.mono s,cW.mono s t⟩
end
theorem cW.length:∀{ds:List PyData} {vs:List V},cW K H ds vs->vs.length=ds.length
 |[],_,h=>by rw[h];rfl
 |_::_,_,⟨v,r,e,_,t⟩=>by rw[e,bx,bx,cW.length t]
theorem cW.get:∀{ds:List PyData} {vs:List V} {i:Nat} {d:PyData},cW K H ds vs->ds[i]?=some d->∃v,vs[i]?=some v/\Rep K H d v
 |[],_,_,_,_,e=>by simp at e
 |x::ds,_,0,d,⟨v,r,e,q,t⟩,h=>by
  subst e;have z:x=d:=by simpa using h
  subst z;exact⟨v,rfl,q⟩
 |_::ds,_,i+1,d,⟨v,r,e,q,t⟩,h=>by
  subst e;obtain⟨y,a,b⟩:=cW.get (i:=i) (d:=d) t (by simpa using h);exact⟨y,by simpa using a,b⟩
theorem ue:∀ns:List Int,cW K H (ns.map PyData.int) (ns.map V.int)
 |[]=>rfl
 |n::ns=>⟨.int n,_,rfl,rfl,ue ns⟩
theorem yX:∀{ns:List Int} {vs:List V},cW K H (ns.map PyData.int) vs->vs=ns.map V.int
 |[],_,h=>h
 |n::ns,_,⟨v,r,e,q,t⟩=>by
  have q':v=.int n:=q;rw[e,q',yX t];rfl
theorem Rep.JB{ns:List Int}{a:Addr}(h:cP K H a (ns.map V.int)):Rep K H (.tuple (ns.map .int)) (.ref a):=⟨a,_,rfl,h,ue ns⟩
theorem Rep.yY{ns:List Int}{v:V}(h:Rep K H (.tuple (ns.map .int)) v):∃a,v=.ref a/\cP K H a (ns.map V.int):=by
 obtain⟨a,b,e,q,r⟩:=h;rw[yX r] at q;exact⟨a,e,q⟩
end
section
variable{X:Cx}{pins:List (Addr×Obj)}{σ:St}{H:Hp}{s:Shared}
mutual
theorem Rep.reads(I:Inv X pins σ H s):∀{d:PyData} {v:V} {u:Value},Rep X.K H d v->RelV v u->∃k,Reads s.heap u d k
 |.none,_,_,h,r=>by cases h;cases r;exact⟨_,.none⟩
 |.bool b,_,_,h,r=>by cases h;cases r;exact⟨_,.bool b⟩
 |.int i,_,_,h,r=>by cases h;obtain⟨t,rfl⟩:=r;exact⟨_,.int i t⟩
 |.str x,_,_,h,r=>by cases h;obtain⟨t,rfl⟩:=r;exact⟨_,.str x t⟩
 |.list w,_,_,⟨a,p,e,q,t⟩,r=>by
  subst e;cases r;obtain⟨c,l,⟨o,n,g,f,y,m⟩,_⟩:=I.list q;obtain⟨k,j⟩:=cW.reads I t l;exact⟨_,.list g f m (by simpa using j)⟩
 |.tuple w,_,_,⟨a,p,e,q,t⟩,r=>by
  subst e;cases r;obtain⟨c,l,⟨o,g,f,n,m⟩,_⟩:=I.tuple q;obtain⟨k,j⟩:=cW.reads I t l;exact⟨_,.tuple g f m (by simpa using j)⟩
 |.dict _,_,_,h,_=>h.elim
theorem cW.reads(I:Inv X pins σ H s):∀{ds:List PyData} {vs:List V} {us:List Value},cW X.K H ds vs->bZ vs us->∃a,ReadsAll s.heap us ds a
 |[],_,_,h,r=>by cases h;cases r;exact⟨_,.nil⟩
 |_::_,_,_,⟨v,g,e,q,t⟩,r=>by
  subst e;cases r with
  |cons d f =>
   obtain⟨a,b⟩:=q.reads I d;obtain⟨i,c⟩:=cW.reads I t f;exact⟨_,.cons b c⟩
end
end
section
variable{X:Cx}
def agA(K:af)(u:Nat):R2:=λx y H Q=>∃da db,Rep K H da x/\Rep K H db y/\da.canLay0=true/\db.canLay0=true/\u+min da.depth db.depth<cLine/\Q (.bl (PyData.eqv da db)) H
def agB(K:af)(u:Nat):R2:=λx y H Q=>∃da db,Rep K H da x/\Rep K H db y/\da.canLay0=true/\db.canLay0=true/\u+min da.depth db.depth<cLine/\Q (.bl (!PyData.eqv da db)) H
theorem Ow:wO X (compareOp .Eq) (agA X.K X.A.units):=by
 intro a s o H x y v u Q I d e ⟨l,k,f,j,g,i,h,q⟩;obtain⟨n,b⟩:=f.reads I d;obtain⟨m,c⟩:=j.reads I e;exact SeqAt.compareEq_reads b c g i h ⟨.bl _,H,I,rfl,q⟩
theorem KC:wO X (compareOp .NotEq) (agB X.K X.A.units):=by
 intro a s o H x y v u Q I d e ⟨l,k,f,j,g,i,h,q⟩;obtain⟨n,b⟩:=f.reads I d;obtain⟨m,c⟩:=j.reads I e;exact SeqAt.compareNe_reads b c g i h ⟨.bl _,H,I,rfl,q⟩
theorem GF:nX X (.builtin "isinstance") (λxs H Q=>∃x n t b,xs=[x,.ty n]/\DG X.K H x t/\PySem.W.kitOne X.K t (.type n)=some b/\Q (.bl b) H):=by
 intro c s i H xs h Q I r ⟨x,n,t,b,e,ty,k,q⟩;subst e;obtain⟨u,g,e,f,a⟩:=bZ.two r;subst e;cases a;exact Rr I f ty k λd=>⟨.bl _,H,I.tok d,rfl,q⟩
theorem RJ(l:X.calm=true):nX X (.type "set") (λxs H Q=>∃(a:Addr) (ns:List Int),xs=[.ref a]/\bP X.K H a (ns.map V.int)/\ns.length+1<scanBound /\
 ∀p,H p=none->Q (.ref p) (upd H p (.set (λf=>(firstMet (λi=>ns.getD i 0) ns.length).any (·==f)) (firstMet (λi=>ns.getD i 0) ns.length).length))):=by
 intro h s A H xs w Q I r ⟨a,ns,e,n,v,q⟩;subst e;obtain⟨u,e,m⟩:=bZ.one r;subst e;cases m;obtain⟨d,k,p,x⟩:=I.list n;have j:=k.length;rw[ah] at j;have c:d.toArray.size=ns.length:=by simp[j]
 refine call_set_list (I.ok.hd l) p.isList (ns:=ns) (by simpa using intsAre_of k) (by rw[c];exact v) λy z g t=>?_;rw[c] at g;exact⟨.ref s.heap.objs.size,_,I.laid (o:=.set (λf=>(firstMet (λi=>ns.getD i 0) ns.length).any (·==f)) (firstMet (λi=>ns.getD i 0) ns.length).length) (λb o e=>t b o (Heap.lt_size e) e) (ay _) g,rfl,q _ (I.hok.fresh (ay _))⟩
theorem RK:nX X (.builtin "len") (λxs H Q=>∃(a:Addr) (S:Int->Bool) (n:Nat),xs=[.ref a]/\H a=some (.set S n)/\Q (.int n) H):=by
 intro b s v H xs m Q I r ⟨a,S,n,e,l,q⟩;subst e;obtain⟨u,e,k⟩:=bZ.one r;subst e;cases k;obtain⟨o,g,p,t,f,d,j,x,y,c,h,i⟩:=(show s.heap.SetOf (intKind X.prog X.w) a S n from I.hok a _ l);subst i;refine call_len_set f d j h ?_ ⟨.int _,H,I.tok _,⟨_,rfl⟩,q⟩
 have:g.size<2^62:=bH c (!_)
 lia
theorem RL(w:X.calm=true):nX X (.builtin "min") (λxs H Q=>∃(a:Addr) (ns:List Int),xs=[.ref a]/\bP X.K H a (ns.map V.int)/\0<ns.length/\∀m,m∈ns->(∀n∈ns,m<=n)->Q (.int m) H):=by
 intro h s L H xs E Q I r ⟨a,ns,e,B,d,q⟩;subst e;obtain⟨u,e,A⟩:=bZ.one r;subst e;cases A;obtain⟨c,C,p,F⟩:=I.list B;have g:IntsAre c ns:=intsAre_of C;have k:=p.isList;obtain⟨xs,e⟩:=g.allInts.items;have b:ns=xs.toList.map (·.1):=by
  rw[<- g.numsOf,<- nums_intItems,<- e]
 have f:0<xs.size:=by
  have l:=d;rw[b,ah,aR] at l;exact l
 rw[e] at k;refine min_intList (I.ok.hd w) k f λv G J y z=>?_;obtain⟨t,rfl⟩:=intItems_at y;obtain⟨D,x⟩:=argBest_lt (numAt xs) (xs.size-1);refine⟨.int _,H,I.kept z,⟨t,rfl⟩,q _ ?_ λa i=>?_⟩
 ·rw[b,numAt_eq];exact getD_mem (by rw[ah,aR];lia)
 ·rw[b] at i
  obtain⟨j,o,rfl⟩:=mem_getD i;rw[ah,aR] at o;rw[<- numAt_eq];exact x j ∅
end
noncomputable def KD(scope YD:Scope)(N0 N2:List Str)(cap:List (Option Nat)):Bool :=
 (scope.kind==.function)&&(scope.names.all λy=>y.2 != .cell)&&(scope.names.all λy=>y.2 != .local || scope.names.lookup y.1==some .local) &&
 (scope.names.all λy=>y.2 != .free || YD.names.lookup y.1==some .cell)&&(scope.names.all λy=>y.2 != .free || scope.names.lookup y.1==some .free)&&decide N2.Nodup&&(cap.length==N2.length) &&
 ((aA cap.length).all λi=>match cap[i]?,N2[i]? with
   |some (some j),some x=>N0[j]?==some x&&scope.names.any (λy=>y.1==x&&y.2==.free)
   |_,_=>true)
theorem RN{X:Cx}{scope k:Scope}{l c:List Str}{b:List (Option Nat)}(v:X.env.scope=k)(B:X.N=l)(h:KD scope k l c b=true):jG X scope c b:=by
 unfold KD at h;simp only[c9] at h;obtain⟨⟨⟨⟨⟨⟨⟨p,g⟩,m⟩,f⟩,o⟩,s⟩,A⟩,n⟩:=h;rw[List.all_eq_true] at g m f o n;refine⟨by simpa using p,λy a e=>?_,λy a e=>?_,λy a e=>?_,λy a e=>?_,g8 s,by simpa using A,λi j x d r=>?_⟩
 ·have:=g y a;rw[e] at this;exact eL this (!_)
 ·have:=m y a;rw[e] at this;simpa using this
 ·have:=f y a
  rw[e] at this;show X.env.scope.names.lookup y.1=some .cell;rw[v]
  simpa using this
 ·have:=o y a;rw[e] at this;simpa using this
 ·have t:i<b.length:=(ai.mp d).1
  have q:=n i (dm.mpr t);rw[d,r] at q;simp only[c9] at q;refine⟨by rw[B];simpa using q.1,?_⟩;obtain⟨y,a,z⟩:=wL.mp q.2;simp only[c9] at z;have u:y.1=x:=by simpa using z.1
  have w:y.2=.free:=by simpa using z.2
  rw[<- u,<- w];exact a
def CW(H1:Hp)(acc:Addr)(n:Nat)(P:Nat->List V->Hp->Prop):Nat->Nat->Hp->Prop :=
 λi m H=>m=n-i/\i<=n/\aG H1 H/\∃ys,H acc=some (.lst ys)/\P i ys H
theorem ir{J:It}{n:Nat}{l:List (Option Nat)}{g:TG}{A:TT}{B:TE}{z:St}{w:Hp->Prop}{f:Hp}{a:Addr}(P:Nat->List V->Hp->Prop)(r:f a=none)
 (go:∀i H,i<n->aG f H->J.go i H) (stop:∀H,aG f H->J.stop n H) (C:P 0 [] (upd f a (.lst [])))
 (step:∀i h H,i<n->aG f H->H a=some (.lst h)->P i h H->∀x j,J.Km i H x j->g x (jF l z) j λc t=>A c t λb o=>if b=true then B c o λy k=>∃xs,k a=some (.lst xs)/\xs.length<sizeLine /\
  ∃d,d<n-i/\CW f a n P (i+1) d (upd k a (.lst (xs++[y]))) else ∃d,d<n-i/\CW f a n P (i+1) d o)
 (u:∀h H,aG f H->H a=some (.lst h)->P n h H->w H) :
 ∃W:Nat->Nat->Hp->Prop,(∃m,W 0 m (upd f a (.lst [])))/\∀i m H,W i m H ->
  (J.stop i H/\w H)∨(J.go i H/\∀x j,J.Km i H x j->g x (jF l z) j λc t=>A c t λb o=>if b=true then B c o λy k=>∃xs,k a=some (.lst xs)/\xs.length<sizeLine /\
   ∃d,d<m/\W (i+1) d (upd k a (.lst (xs++[y]))) else ∃d,d<m/\W (i+1) d o):=by
 refine⟨CW f a n P,⟨n,rfl,bM _,aG.new r,[],au,C⟩,?_⟩;rintro i m H ⟨rfl,D,s,h,v,p⟩;by_cases q:i<n
 ·exact .inr ⟨go i H q s,step i h H q s v p⟩
 ·have e:i=n:=∅
  subst e;exact .inl ⟨stop H s,u h H s v p⟩
theorem fQ{e b:Hp}{a:Addr}{n i:Nat}{P:Nat->List V->Hp->Prop}{c:List V}{y:V}(d:e a=none)(g:i<n)(s:aG e b)(h:b a=some (.lst c))(hl:c.length<sizeLine)(p:P (i+1) (c++[y]) (upd b a (.lst (c++[y])))) :
 ∃xs,b a=some (.lst xs)/\xs.length<sizeLine/\∃f,f<n-i/\CW e a n P (i+1) f (upd b a (.lst (xs++[y]))) :=
 ⟨c,h,hl,n-(i+1),∅,rfl,g,s.out d,_,au,p⟩
theorem jX{e b:Hp}{a:Addr}{n i:Nat}{P:Nat->List V->Hp->Prop}{d:List V}(f:i<n)(s:aG e b)(g:b a=some (.lst d))(p:P (i+1) d b):∃c,c<n-i/\CW e a n P (i+1) c b :=
 ⟨n-(i+1),∅,rfl,f,s,_,g,p⟩
theorem DK{K:af}{a:Addr}{xs:List V}{b:Hp}(h:bP K b a xs):∀i H,i<xs.length->aG b H->(Kn K a).go i H:=λi H c s=>⟨xs,xs[i],s.seq h,by simp[c]⟩
theorem vN{K:af}{a:Addr}{xs:List V}{b:Hp}(h:bP K b a xs):∀H,aG b H->(Kn K a).stop xs.length H:=λH s=>⟨xs,s.seq h,ay _⟩
theorem aag{K:af}{a:Addr}{xs:List V}{b:Hp}(h:bP K b a xs):∀i H,i<xs.length->aG b H->(VX K a).go i H:=λi H c s=>⟨xs,xs[i],s.seq h,by simp[c]⟩
theorem Ub{K:af}{a:Addr}{xs:List V}{b:Hp}(h:bP K b a xs):∀H,aG b H->(VX K a).stop xs.length H:=λH s=>⟨xs,s.seq h,ay _⟩
theorem By{lo:Int}{n:Nat}{b:Hp}:∀i H,i<n->aG b H->(Th lo n).go i H:=λi H a s=>a
theorem sq{lo:Int}{n:Nat}{a:Hp}:∀H,aG a H->(Th lo n).stop n H:=λH s=>ay n
noncomputable def hide(H:Hp)(l:Addr):Hp:=λb=>if b=l then none else H b
theorem aah{α:Type}{xs:List α}{i:Int}{v:α}(a:0<=i)(h:xs[i.toNat]?=some v):FF xs i=some v:=by
 obtain⟨k,rfl⟩:=Int.eq_ofNat_of_zero_le a;exact eY (by simpa using h)
theorem Uc{ns:List Int}{i:Int}(b:0<=i)(h:i<ns.length):FF (ns.map V.int) i=some (.int (ns.getD i.toNat 0)):=by
 have a:i.toNat<ns.length:=∅
 refine aah b ?_;rw[aj,az,aa a];rfl
section
variable{X:Cx}
theorem Ud(K:af)(h:X.K=K):za X (Rv K):=by subst h;exact P5
theorem Wv(K:af)(h:X.K=K):za X (Rx K):=by subst h;exact TR
theorem Ww(K:af)(h:X.K=K):Rb X (acH K):=by subst h;exact Kr
theorem BA(K:af)(h:X.K=K):wO X (compareOp .In) (Hv K false):=by subst h;exact rW
theorem Gh(K:af)(h:X.K=K){e:Expr}{f:Str}{a:Pos}{b:TE}(d:PE X e b)(c:attributeBase e f X.env (eval e X.env)=eval e X.env):PE X (.Attribute e f a) (GA K b f):=by subst h;exact aY d c
theorem KE(K:af)(h:X.K=K){a:List Expr}{k:Nat}{c:Pos}{t:ZJ}{n:Nat}(e:X.calm=true)(h':kC X a t)(d:(assignEach a X.env).length=n:=by rfl)
 (b:(assignEach a X.env).findIdx? (·.1)=none:=by rfl):PG X (.Tuple a k c) (ZL K n t):=by subst h;exact Kl e h' d b
theorem RO:nX X (.builtin "isinstance") (λxs H Q=>∃(a:Addr) (f:List V) (n:String) (b:Bool),xs=[.ref a,.ty n]/\cP X.K H a f/\PySem.W.kitOne X.K (.type "tuple") (.type n)=some b/\Q (.bl b) H):=by
 intro d s v H xs t Q I r ⟨a,f,n,b,e,m,k,q⟩;subst e;obtain⟨u,p,e,l,c⟩:=bZ.two r;subst e;cases c;cases l;obtain⟨g,w,⟨o,h,i,_⟩,_⟩:=I.tuple m;exact dP PySem.W.kitx_tuple I.Br ⟨o,h,i⟩ k (λz=>nomatch z) λj=>⟨.bl _,H,I.tok j,rfl,q⟩
theorem RP:nX X (.builtin "isinstance") (λxs H Q=>∃(a:Addr) (f:List V) (n:String) (b:Bool),xs=[.ref a,.ty n]/\bP X.K H a f/\PySem.W.kitOne X.K (.type "list") (.type n)=some b/\Q (.bl b) H):=by
 intro d s w H xs v Q I r ⟨a,f,n,b,e,m,k,q⟩;subst e;obtain⟨u,t,e,l,c⟩:=bZ.two r;subst e;cases c;cases l;obtain⟨g,x,⟨o,p,h,i,_⟩,_⟩:=I.list m;exact dP PySem.W.kitx_list I.Br ⟨o,h,i⟩ k (λz=>nomatch z) λj=>⟨.bl _,H,I.tok j,rfl,q⟩
noncomputable def eB:Expr->Bool
 |.Starred _ _=>false
 |_=>true
theorem Ma{e:Expr}{a:List Expr}{env:Env}(h:eB e=true):starEach (e::a) env=(false,eval e env)::starEach a env:=by
 cases e <;> first|rfl|(exact Bool.noConfusion h)|simp[starEach]
theorem mQ{e:Expr}{b:List Expr}{a:TE}{t:TA}(c:PE X e a)(f:PA X b t)(d:eB e=true:=by rfl):PA X (e::b) (gx a t):=Wk c f (Ma d)
theorem Wx{bs:List Bool}{us:List Value}(r:bZ (bs.map V.bl) us){i:Nat}{v:Value}(h:us[i]?=some v):v=.bool (bs.getD i true):=by
 have b:=r.length;rw[ah] at b;have d:i<us.length:=(ai.mp h).1;have e:(bs.map V.bl)[i]?=some (.bl (bs.getD i true)):=by
  rw[aj,aa ∅,az,aa ∅];rfl
 obtain⟨u,a,c⟩:=r.get e;rw[h] at a;cases a;exact c
theorem range_all(bs:List Bool):((aA bs.length).all λi=>bs.getD i true)=bs.all id:=by
 rw[iC,List.all_eq_true,List.all_eq_true];constructor
 ·intro h x b
  obtain⟨i,a,e⟩:=List.getElem_of_mem b
  have:=h i (dm.mpr a)
  rw[az,aa a,e] at this;exact this
 ·intro h i a
  have a:=dm.mp a
  have:=h bs[i] (aQ a)
  rw[az,aa a];exact this
theorem Ue(k:X.calm=true):nX X (.builtin "all") (λxs H Q=>∃(a:Addr) (bs:List Bool),xs=[.ref a]/\bP X.K H a (bs.map V.bl)/\Q (.bl (bs.all id)) H):=by
 intro f s D H xs y Q I r ⟨a,bs,e,w,q⟩;subst e;obtain⟨u,e,t⟩:=bZ.one r;subst e;cases t;obtain⟨c,h,p,B⟩:=I.list w;have g:=h.length;rw[ah] at g;refine call_all_walk (wpAny_pyIter_list p.isList ?_);have d:a<s.heap.objs.size:=by obtain⟨o,n,e,_⟩:=p;exact Heap.lt_size e
 refine⟨s.heap.objs.size,_,_,_,_,_,λi=>bs.getD i true,rfl,Walks.list (A:=X.A.in1) (show X.A.in1.handled=none from I.ok.hd k) _ a (bE d) c.toArray,⟨⟨_,Heap.get?_push_size _ rfl,rfl,rfl⟩,p.isList.at λo e=>Heap.get?_push_of_some _ e⟩,?_,λC m l=>?_⟩
 ·intro i v s Q E j x
  have e:=Wx h (show c[i]?=some v by simpa using j);subst e;exact wpAny_truthy_bool x
 ·have e:(aA c.toArray.size).all (λi=>bs.getD i true)=bs.all id:=by
   rw[show c.toArray.size=bs.length by simp[g]];exact range_all bs
  rw[e];exact⟨.bl _,H,I.kept (t':=m) λb o e=>l b o (by
   intro z
   have:b=s.heap.objs.size:=by simpa using z
   exact eL (Heap.lt_size e) (by rw[this];exact iZ _)) (Heap.get?_push_of_some _ e),rfl,q⟩
end
end L2
namespace Gr
abbrev Ps:=List (Int×Int)
def AB(ps:Ps)(k:Nat)(x y:Int):Prop:=ps[k]?=some (x,y)∨ps[k]?=some (y,x)
theorem BB{α:Type}{xs:List α}{x:α}(h:xs.Nodup)(d:x∉xs):(xs++[x]).Nodup:=by
 rw[uK];refine⟨h,-_,λa c b f=>?_⟩
 have:b=x:=by simpa using f
 rw[this];exact λe=>d (e▸c)
noncomputable def ends(ps:Ps):List Int:=ps.flatMap λp=>[p.1,p.2]
end Gr
namespace L2
open PySem Gr
noncomputable abbrev two(a b:Int):List V:=[.int a,.int b]
def Ug(K:af)(ta:TE):TT:=λσ H Q=>ta σ H λx H'=>∃k,ZZ K x H' k/\Q k H'
theorem RQ{X:Cx}{a:Expr}{c:TE}(d:PE X a c)(e:∀b,isTrue a X.env b=(do let v <- b;standAt a.pos;holding [v] (truthy v))):PT X a (Ug X.K c):=Tw d e
theorem Wy{c:TT}{j:TS}{D:Ends}{a:St}{H:Hp}(f:Nat->St->Hp->Prop)(l:Nat)(o:f l a H)
 (n:∀m a H,f m a H->c a H λb e=>if b=true then j {D with nx:=λd i=>∃h,h<m/\f h d i,ct:=λd i=>∃h,h<m/\f h d i,bk:=D.nx} a e else D.nx a e)
 (g:∀a H Q k,(∀b e,Q b e->k b e)->c a H Q->c a H k):NV c j D a H:=by
 refine⟨f,⟨l,o⟩,λm a H p=>g a H _ _ (λb e q=>?_) (n m a H p)⟩;cases b with
 |true=>exact⟨_,λd i z=>z,q⟩
 |false=>exact q
theorem Uh{K:af}{a:Addr}{xs:List V}{g:TG}{n:TS}{D:Ends}{c:St}{H:Hp}(d:Nat->St->Hp->Prop)(u:d 0 c H)(hl:∀i c H,i<=xs.length->d i c H->bP K H a xs)
 (t:∀i x c H p,xs[i]?=some x->d i c H->H p=none->g (.ref p) c (upd H p (.tup [.int (i:Nat),x])) λh l=>n {D with nx:=d (i+1),ct:=d (i+1),bk:=D.nx} h l) (w:∀c H,d xs.length c H->D.nx c H) :
 ∃W:Nat->Nat->St->Hp->Prop,(∃m,W 0 m c H)/\∀i m c H,W i m c H ->
  ((VX K a).stop i H/\D.nx c H)∨((VX K a).go i H/\∃N:St->Hp->Prop,(∀j f,N j f->∃o,o<m/\W (i+1) o j f)/\∀x f,(VX K a).Km i H x f->g x c f λh l=>n {D with nx:=N,ct:=N,bk:=D.nx} h l):=by
 refine⟨λi m c H=>m=xs.length-i/\i<=xs.length/\d i c H,⟨xs.length,-_,bM _,u⟩,?_⟩;rintro i m c H ⟨rfl,r,p⟩;have q:=hl i c H r p;by_cases k:i<xs.length
 ·refine .inr ⟨⟨xs,xs[i],q,by simp[k]⟩,d (i+1),λj f z=>⟨xs.length-(i+1),∅,rfl,k,z⟩,λx f y=>?_⟩
  obtain⟨b,v,A,rfl,rfl,s⟩:=y;exact t i v c H b (s xs q) p A
 ·have e:i=xs.length:=∅
  subst e;exact .inl ⟨⟨xs,q,ay _⟩,w c H p⟩
end L2
namespace L2
open PySem PySem.Spec PyProof.Rows
section
variable{X:Cx}
theorem Mb:nX X (.type "range") (λxs H Q=>∃j:Int,xs=[.int j]/\∀p,H p=none->Q (.ref p) (upd H p (.S4 0 j))):=by
 intro c s g H xs f Q I r ⟨j,e,q⟩;subst e;obtain⟨u,e,d⟩:=bZ.one r;subst e;obtain⟨t,rfl⟩:=d;refine call_range_1 ⟨.ref s.heap.objs.size,_,I.laid (a:=s.heap.objs.size) (o:=.S4 0 j) (λb o e=>Heap.get?_push_of_some _ e) (ay _) ?_,rfl,q _ (I.hok.fresh (ay _))⟩;exact⟨_,_,_,Heap.get?_push_size _ rfl⟩
theorem Ox{a:Array Value}{n:Nat}(hl:a.size=n)(h:∀(i:Nat) (v:Value),a[i]?=some v->∃t,v=Value.int (0+(i:Int)*1) t):bZ ((aA n).map λk=>V.int (k:Nat)) a.toList:=by
 have c:∀(b:List Value) (m:Nat),(∀(i:Nat) (v:Value),b[i]?=some v->∃t,v=Value.int ((m+i:Nat):Int) t)->bZ ((List.range' m b.length).map λk=>V.int (k:Nat)) b:=by
  intro b;induction b with
  |nil=>intro m _;exact .nil
  |cons u b f =>
   intro m d;rw[bx,List.range'_succ,bN];refine .cons (d 0 u rfl) (f (m+1) λi v e=>?_);obtain⟨t,q⟩:=d (i+1) v (by simpa using e);exact⟨t,by rw[q];congr 1;lia⟩
 have:=c a.toList 0 λi v e=>by
  obtain⟨t,q⟩:=h i v (by simpa using e);exact⟨t,by rw[q];congr 1;lia⟩
 rw[aR,hl,<- List.range_eq_range'] at this;exact this
theorem Oz(h:X.calm=true):nX X (.type "list") (λxs H Q=>∃(p:Addr) (j:Nat),xs=[.ref p]/\H p=some (.S4 0 j)/\j<=1000/\∀l,H l=none->Q (.ref l) (upd H l (.lst ((aA j).map λk=>.int (k:Nat))))):=by
 intro f s G H xs D Q I r ⟨p,j,e,C,g,q⟩;subst e;obtain⟨u,e,B⟩:=bZ.one r;subst e;cases B;obtain⟨t,u,v,y⟩:=(show fP X.prog X.w H s.heap p (.S4 0 j) from I.hok p _ C);refine call_list_range (I.ok.hd h) (n:=j) y (small_one ∅ ∅ ∅ ∅) (by rw[rangeSize_one];split <;> lia) ∅ λE F b A m z i=>?_;obtain⟨c,d⟩:=i;have x:=Ox c d;refine⟨.ref s.heap.objs.size,_,I.laid (a:=s.heap.objs.size) (o:=.lst ((aA j).map λk=>.int (k:Nat))) m (ay _) ⟨?_,b.toList,A,x,by simpa using z⟩,rfl,q _ (I.hok.fresh (ay _))⟩;rw[ah,bB];exact kg (cS g)
end
end L2
namespace Gr
end Gr
namespace L2
open PySem PySem.Spec PyProof.Rows
def Wz(h:Heap)(e T:Addr)(cls fl:Value):Prop :=
 ∃oe vs oT ts,h.get? e=some oe/\oe.cls=cls/\oe.dict=none/\oe.data=.fields vs/\vs[1]?=some (.ref T)/\T≠e/\h.get? T=some oT/\oT.data=.fields ts/\ts[3]?=some fl
structure JC(F R:List Addr)(h h':Heap):Prop where
 keep:∀b o,b∉F->b∉R->h.get? b=some o->h'.get? b=some o
 slot:∀b o,b∈F->b∉R->h.get? b=some o->∃sl,h'.get? b=some {o with slots:=sl}
theorem JC.mono{F R f:List Addr}{h h':Heap}(t:JC F R h h')(d:∀b∈R,b∈f):JC F f h h' :=
 ⟨λb o a c e=>t.keep b o a (λz=>c (d b z)) e,λb o a c e=>t.slot b o a (λz=>c (d b z)) e⟩
theorem JC.trans{F R:List Addr}{h i j:Heap}(a:JC F R h i)(b:JC F R i j):JC F R h j :=
 ⟨λc o d f e=>b.keep c o d f (a.keep c o d f e),λc o d f e=>by
  obtain⟨m,l⟩:=a.slot c o d f e;obtain⟨g,k⟩:=b.slot c _ d f l;exact⟨g,k⟩⟩
theorem JC.acT{F:List Addr}{h:Heap}{a:Addr}{g:Obj->Obj}:JC F [a] h (h.update a g) :=
 ⟨λb o _ c e=>(Heap.get?_update_other _ _ (λz=>c (by simp[z]))).trans e,λb o _ c e=>⟨o.slots,(Heap.get?_update_other _ _ (λz=>c (by simp[z]))).trans e⟩⟩
theorem RS{f:Array Value->Array Value}{o:Obj}:(Obj.mapFields f o).dict=o.dict:=by
 obtain⟨c,d,a,b⟩:=o;cases a <;> rfl
section
variable{M:Model}{A:Around}{E:Value->Shared->Prop}{s:Shared}{base:Heap}{env:Env}{outer:List Env}{L e:Addr}
theorem GG(hl:s.heap.FunFrames base (env::outer)){b:Obj}{vs:Array Value}(g:s.heap.get? e=some b)(f:b.data=.fields vs):e∉frs (env::outer):=λd=>by
 obtain⟨_,o,c,a⟩:=hl.mem d;rw[g] at c;cases c;exact a vs f
theorem JD{d:Obj}{vs:Array Value}{a:Value}{D:Bool}{Q:Unit->Shared->Prop}(n:A.frames=some (env::outer))(hl:s.heap.FunFrames base (env::outer))(F:env.frame=some L)
 (x:s.heap.get? e=some d) (v:d.dict=none) (p:d.data=.fields vs) (hsz:1<vs.size)
 (h:∀h',Wz h' e s.heap.objs.size d.cls (rawInt L)->JC (frs (env::outer)) [e] s.heap h'->Q () {s with heap:=h'}) :
 wpAny M A (do let fv <- frameOf env;let j <- entryPlaceOf L D;let y <- EntryCells.newEntry a fv .none (rawInt L) .none j;setField (.ref e) 1 y) Q E s:=by
 have k:=GG hl x p;refine wpAny_bind (wpAny_frameOf_fun n hl F λg1 C=>?_);obtain⟨r,c,t⟩:=C;refine wpAny_bind (wpAny_entryPlaceOf λj g=>?_);unfold EntryCells.newEntry newFields;refine wpAny_bind (wpAny_newObj_type ?_ (g.sizeOk5 _ _ _ _ _));have u:g1.get? e=some d:=(c e k).trans x;have i:g1.objs.size≠e:=Nat.ne_of_gt (Heap.lt_size u);refine wpAny_setField (Heap.get?_push_of_some _ u) p hsz (h _ ?_ ?_)
 ·have f:=Obj.data_mapFields p (·.setIfInBounds 1 (Value.ref g1.objs.size))
  have qT:=(Heap.get?_update_other _ (Obj.mapFields (·.setIfInBounds 1 (Value.ref g1.objs.size))) (bK i)).trans (Heap.get?_push_size g1 (o:={cls:=.type "traceback",dict:=none,data:=.fields ([a,.ref L,.none,rawInt L,.none]++(if j.isEmpty then k7 6 Value.none else j)).toArray}) rfl);rw[<- r];refine⟨_,_,_,_,Heap.get?_update_self _ (Heap.get?_push_of_some _ u) (Obj.isFreed_of_fields f),Obj.cls_mapFields _ _,?_,f,?_,i,qT,rfl,?_⟩
  ·rw[RS]
   exact v
  ·simp[hsz]
  ·rcases g with rfl|⟨_,_,_,_,_,_,_,rfl⟩ <;> simp
 ·refine⟨λb o w l m=>?_,λb o w l m=>?_⟩
  ·rw[Heap.get?_update_other _ _ (λz=>l (by simp[z]))]
   exact Heap.get?_push_of_some _ ((c b w).trans m)
  ·obtain⟨B,q⟩:=t b o m
   refine⟨B,?_⟩;rw[Heap.get?_update_other _ _ (λz=>l (by simp[z]))];exact Heap.get?_push_of_some _ q
theorem OA{a:Obj}{vs:Array Value}{Q:Unit->Shared->Prop}(b:A.frames=some (env::outer))(hl:s.heap.FunFrames base (env::outer))(f:env.frame=some L)
 (i:s.heap.get? e=some a) (c:a.dict=none) (g:a.data=.fields vs) (d:vs[1]?=some .none)
 (h:∀h',Wz h' e s.heap.objs.size a.cls (rawInt L)->JC (frs (env::outer)) [e] s.heap h'->Q () {s with heap:=h'}):wpAny M A (noteFrame (.ref e) env) Q E s:=by
 unfold noteFrame;simp only[f];refine wpAny_bind (wpAny_field i g d ?_);rw[er (!_)];exact JD b hl f i c g (gh.mp d).1 h
theorem RT{T:Addr}{cls:Value}{Q:Unit->Shared->Prop}(i:A.frames=some (env::outer))(hl:s.heap.FunFrames base (env::outer))(n:env.frame=some L)(y:Wz s.heap e T cls .none)
 (h:∀h',Wz h' e s.heap.objs.size cls (rawInt L)->JC (frs (env::outer)) [e,T] s.heap h'->Q () {s with heap:=h'}):wpAny M A (noteFrame (.ref e) env) Q E s:=by
 obtain⟨u,D,F,C,m,t,j,p,l,r,f,c,q⟩:=y;subst t;unfold noteFrame;simp only[n];refine wpAny_bind (wpAny_field m p l ?_);rw[ee (-_)];refine wpAny_bind (wpAny_field f c q ?_);rw[er (by simp[rawInt])];refine wpAny_bind (wpAny_setField f c (gh.mp q).1 ?_);have v:=GG (e:=T) hl f c;have g:(s.heap.update T (Obj.mapFields (·.setIfInBounds 3 Value.none))).objs.size=s.heap.objs.size:=Heap.size_after_update ..;have a:∀b,b≠T->(s.heap.update T (Obj.mapFields (·.setIfInBounds 3 Value.none))).get? b=s.heap.get? b:=λb d=>Heap.get?_update_other _ _ (bK d);refine JD (s:={s with heap:=s.heap.update T (Obj.mapFields (·.setIfInBounds 3 Value.none))}) (base:=base) i (hl.of_keeps λb o d k=>⟨o,(a b λz=>?_).trans d,rfl⟩) n ((a e (bK r)).trans m) j p (gh.mp l).1 λh' B w=>?_
 ·rw[z,f] at d
  cases d;exact k C c
 ·have x:Wz h' e s.heap.objs.size u.cls (rawInt L):=g▸B
  exact h h' x ((JC.acT.mono (-_)).trans (w.mono (-_)))
theorem ET{T:Addr}{cls p:Value}{Q:Unit->Shared->Prop}(f:Wz s.heap e T cls p)(h:∀h',Wz h' e T cls .none->(∀F,JC F [T] s.heap h')->h'.objs.size=s.heap.objs.size->Q () {s with heap:=h'}) :
 wpAny M A (setFlight (.ref e) none) Q E s:=by
 obtain⟨n,o,t,q,j,m,d,k,g,i,l,a,r⟩:=f;have b:3<q.size:=(gh.mp r).1;unfold setFlight;refine wpAny_bind (wpAny_field j k g ?_);rw[ee (-_)];refine wpAny_setField l a b (h _ ?_ (λF=>JC.acT) (Heap.size_after_update ..));have c:=Obj.data_mapFields a (·.setIfInBounds 3 ((none:Option Addr).elim Value.none λf=>rawInt f));exact⟨n,o,_,_,(Heap.get?_update_other _ _ i).trans j,m,d,k,g,i,Heap.get?_update_self _ l (Obj.isFreed_of_fields c),c,by simp[b]⟩
end
theorem fP.there{P:Program}{w:World}{H:Hp}{h:Heap}{a:Addr}:∀{o:HO},fP P w H h a o->∃ob,h.get? a=some ob
 |.lst _,⟨_,_,_,_,e⟩=>⟨_,e⟩
 |.tup _,⟨_,_,_,o,e,_⟩=>⟨o,e⟩
 |.dK _,⟨_,_,_,_,o,_,_,e,_⟩=>⟨o,e⟩
 |.dT _,⟨_,_,_,_,o,_,_,e,_⟩=>⟨o,e⟩
 |.set _ _,⟨o,_,_,_,e,_⟩=>⟨o,e⟩
 |.ins _ _ _,⟨_,_,_,e,_⟩=>⟨_,e⟩
 |.own _,e=>e
 |.xd _,⟨_,n,_⟩=>let ⟨o,e,_⟩:=Jr n;⟨o,e⟩
 |.met _ _,e=>⟨_,e⟩
 |.S4 _ _,⟨_,_,_,e⟩=>⟨_,e⟩
 |.Ax o _,⟨e,_⟩=>⟨o,e⟩
 |.Ym _,e=>⟨_,e⟩
 |.ext _,⟨_,e,_⟩=>e
theorem yM.pe{P:Program}{w:World}{H:Hp}{h h':Heap}{F R:List Addr}(ok:yM P w H h)(t:JC F R h h')(d:∀b∈F,H b=none)(c:∀b∈R,H b=none):yM P w H h':=λa o e =>
 (ok a o e).stay (λb u hb q=>t.keep b u (λz=>by
  have:=d b z
  rcases hb with rfl|hb
  ·rw[e] at this;cases this
  ·rw[hb] at this;cases this) (λz=>by
  have:=c b z
  rcases hb with rfl|hb
  ·rw[e] at this;cases this
  ·rw[hb] at this;cases this) q) (λ_ q=>q) λ_ _ q=>q
def Rec(X:Cx)(pins:List (Addr×Obj))(H:Hp)(b:Addr):Prop :=
 H b=none/\b≠X.env.locals/\b∉X.fs/\X.s₀.heap.get? b=none/\(∀x c,X.env.cells.lookup x=some c->c≠b)/\∀p∈X.pn++pins,p.1≠b
section
variable{X:Cx}{pins:List (Addr×Obj)}{σ:St}{H H':Hp}{s:Shared}{h':Heap}
theorem Inv.WA(I:Inv X pins σ H s)(f:X.ex=[]){b:Addr}(g:H' b=none)(d:s.heap.get? b=none):Rec X pins H' b:=by
 refine⟨g,λz=>?_,λz=>?_,?_,λx c e z=>?_,λp h z=>?_⟩
 ·obtain⟨m,⟨o,_,_,a,_⟩,_⟩:=I.loc
  rw[<- z,d] at a;cases a
 ·obtain⟨_,o,a,_⟩:=I.Cr.mem z
  rw[d] at a;cases a
 ·cases q:X.s₀.heap.get? b with
  |none=>rfl
  |some o =>
   obtain⟨i,e⟩:=I.base.there b o q (by rw[f];simp);rw[d] at e;cases e
 ·obtain⟨v,o,a,_⟩:=I.cell x c e
  rw[z,d] at a;cases a
 ·have:=(I.pin p h).1
  rw[z,d] at this;cases this
theorem Inv.Mc(I:Inv X pins σ H s)(a:X.ex=[]):Rec X pins H s.heap.objs.size:=by
 refine I.WA a (I.hok.fresh (ay _)) ?_;cases q:s.heap.get? s.heap.objs.size with
 |none=>rfl
 |some o=>exact eL (Heap.lt_size q) (iZ _)
theorem Inv.pe{R:List Addr}{t':Nat}(I:Inv X pins σ H s)(A:∀b∈R,Rec X pins H b)(t:JC (frs X.stack) R s.heap h'):Inv X pins σ H {s with heap:=h',toks:=t'}:=by
 have F:∀b∈frs X.stack,H b=none:=λb a=>I.Kf b a;have g:∀b o,b∉R->s.heap.get? b=some o->∃B,h'.get? b=some {o with slots:=B}:=λb o C e=>by
  by_cases a:b∈frs X.stack
  ·exact t.slot b o a C e
  ·exact⟨o.slots,t.keep b o a C e⟩
 have J:∀b o,b≠X.env.locals->b∉X.fs->b∉R->s.heap.get? b=some o->h'.get? b=some o:=λb o O a C e =>
  t.keep b o (λz=>(bf.mp (I.DC b z)).elim O a) C e
 have D:∀b o,X.s₀.heap.get? b=some o->b≠X.env.locals:=λb o e=>bE (bH (Heap.lt_size e) I.ok.above);have h:∀b o,X.s₀.heap.get? b=some o->b∉R:=λb o e z=>by rw[(A b z).2.2.2.1] at e;cases e
 have f:∀x c,X.env.cells.lookup x=some c->∀v,s.heap.IsCell c v->h'.IsCell c v:=λx c e v ⟨o,G,S⟩=>by
  obtain⟨B,q⟩:=g c o (λz=>(A c z).2.2.2.2.1 x c e rfl) G;exact⟨_,q,S⟩
 refine⟨I.ok,I.os,I.bare,⟨λb o e n a y=>?_,λb o e n a y=>?_,I.base.free,λb o e y=>?_,I.base.tups,I.base.AV,I.base.Cq⟩,?_,λx c e=>?_,I.free,I.uc,λp L=>?_,I.hok.pe t F (λb a=>(A b a).1),I.len⟩
 ·exact J b o (D b o e) a (h b o e) (I.base.keep b o e n a y)
 ·obtain⟨B,w⟩:=I.base.slot b o e n a y
  obtain⟨E,j⟩:=g b _ (h b o e) w;exact⟨E,j⟩
 ·obtain⟨U,w⟩:=I.base.there b o e y
  obtain⟨B,j⟩:=g b _ (h b o e) w;exact⟨_,j⟩
 ·obtain⟨m,⟨o,M,N,G,r⟩,Q⟩:=I.loc
  obtain⟨B,q⟩:=g _ o (λz=>(A _ z).2.1 rfl) G;refine⟨m,⟨_,M,N,q,r⟩,λi x v w j P=>?_⟩;obtain⟨u,T,l⟩:=Q i x v w j P;refine⟨u,T,?_⟩;rcases l with l|⟨k,c,e,z⟩
  ·exact .inl l
  ·exact .inr ⟨k,c,e,f x c e _ z⟩
 ·obtain⟨v,z⟩:=I.cell x c e
  exact⟨v,f x c e v z⟩
 ·obtain⟨e,n,K,nf,d⟩:=I.pin p L
  exact⟨J p.1 p.2 K nf (λz=>(A p.1 z).2.2.2.2.2 p L rfl) e,n,K,nf,d⟩
end
def XP(X:Cx)(pins:List (Addr×Obj))(σ:St)(E:XK)(e:Value)(s':Shared):Prop :=
 ∃ea T cls H',e=.ref ea/\Inv X pins σ H' s'/\Wz s'.heap ea T cls .none/\Rec X pins H' ea/\Rec X pins H' T/\E cls none H'
def EU(P:Program)(w:World):Rt:=λouter H s E e s' =>
 ∃ea T cls H',e=.ref ea/\s'.os=s.os/\AllBare s'.gens/\Un (frs outer) [] H H' s.heap s'.heap/\yM P w H' s'.heap/\Wz s'.heap ea T cls .none/\s.heap.get? ea=none/\s.heap.get? T=none/\H' ea=none/\H' T=none/\E cls none H'
theorem acW{X:Cx}{a:List (Addr×Obj)}{i:St}{H:Hp}{s s':Shared}{E:XK}{e:Value}(I:Inv X a i H s)(c:X.ex=[])(h:EU X.prog X.w X.stack H s E e s'):XP X a i E e s':=by
 obtain⟨p,T,g,j,m,os,d,n,f,r,l,t,k,o,q⟩:=h;exact⟨p,T,g,j,m,I.Yo (ch:=[]) os n f d (λb z=>eL z (-_)),r,I.WA c k l,I.WA c o t,q⟩
theorem Ui{X:Cx}{a:List (Addr×Obj)}{d:St}{H:Hp}{s:Shared}{R:List Addr}{h':Heap}(I:Inv X a d H s)(c:X.ex=[])(e:∀b∈R,Rec X a H b)(t:JC (frs X.stack) R s.heap h'):Un X.fs [] X.H₀ H X.s₀.heap h':=by
 have:=(I.pe (t':=s.toks) e t).base
 rw[c] at this;exact this
section
variable{P:Program}{w:World}{K:af}{mg:Str->Option Value}{base:Heap}{N:List Str}{qual:Str}{scope:Scope}{f:Addr}{cd:Value}{A:Around}{outer:List Env}{s0:Shared}{H0:Hp}{E:XK}
theorem acX{a:List (Addr×Obj)}{t:St}{e:Value}{s:Shared}(h:XP (oj (EU P w) P w K mg base N qual scope f cd A outer s0 H0 E) a t E e s):(oj (EU P w) P w K mg base N qual scope f cd A outer s0 H0 E).xe e s:=by
 obtain⟨d,T,g,k,rfl,I,r,i,x,q⟩:=h;show wpAny _ _ (leaving _ (.ref d)) _ _ s;unfold leaving;refine wpAny_bind (RT (base:=base) I.ok.frames I.stack rfl r λy v n=>?_);refine ET v λo p u B=>?_;have j:=I.Mc rfl;have l:∀b∈[d,T,s.heap.objs.size],Rec (oj (EU P w) P w K mg base N qual scope f cd A outer s0 H0 E) a k b:=by
  intro b m;simp only[bf,List.not_mem_nil,or_false] at m;rcases m with z|z|z
  ·rw[z];exact i
  ·rw[z];exact x
  ·rw[z];exact j
 have c:JC (frs (oj (EU P w) P w K mg base N qual scope f cd A outer s0 H0 E).stack) [d,T,s.heap.objs.size] s.heap o:=(n.mono (-_)).trans ((u _).mono (-_));have J:=I.pe (t':=s.toks) l c;exact⟨d,_,g,k,rfl,I.os,I.bare,Ui I rfl l c,J.hok,p,i.2.2.2.1,j.2.2.2.1,i.1,j.1,q⟩
theorem YF:sj (EU P w) (oj (EU P w) P w K mg base N qual scope f cd A outer s0 H0 E) E:=λa b H s e c I h=>acX (acW I rfl h)
theorem NN.okX{x qual:Str}{st:Stmt}{f:Addr}{e:FuncData}{N ps:List Str}{k:Nat}{sp:Sp}(F:NN K x qual st f e)(S:aJ N ps (aC st))(d:∀vs H Q E,sp vs H Q E->vs.length=ps.length)
 (b:∀(a:Value) (A:Around) (outer:List Env) (s:Shared) (H:Hp) (vs:List V) (Q:VK) (E:XK),jE k (A.deeper (envOfC qual (aC st) s.heap.objs.size f a))->sp vs H Q E ->
  ∃t,iD (oj (EU P w) P w K mg base N qual (aC st) f a A outer s H E) (fX st) t/\t {nx:=λ_ g=>Q .fH g,rt:=Q} (start N vs) H):cz P w K mg base (EU P w) (k+1) f e ps sp:=by
 obtain⟨p,m,kV,h,q,o,a,n,l,rfl,lk,c⟩:=F.ex;exact TL lk c S d λA outer s H vs Q E j i=>b a A outer s H vs Q E j i
end
theorem Qd{P:Program}{w:World}{X:Cx}:sj (EU P w) X E0:=λ_ _ _ _ _ _ _ h=>by
 obtain⟨_,_,_,_,_,_,_,_,_,_,_,_,_,_,q⟩:=h;exact q.elim
abbrev acZ:List Value:=[.type "ValueError",.type "Exception",.type "BaseException",.type "object"]
structure Uj(K:af)(C:Addr):Prop where
 ex:PySem.W.excIn K C acZ "ValueError.__new__" = true
 ga:aI K (.ref C) "__getattribute__" = some (some (.builtin "BaseException.__getattribute__"))
 gb:aI K (.ref C) "__getattr__" = some none
 hd:uH K C=true
 ca:aI K (.ref C) "__class__" = some (some (.builtin "object.__class__"))
 cg:PySem.W.specialIn K (.builtin "object.__class__") "__get__" = some (some (.builtin "getset_descriptor.__get__"))
 ct:PySem.W.takesIn K (.builtin "object.__class__")=some true
 mo:PySem.W.mroIn K C (.type "object")=some true
 mb:PySem.W.mroIn K C (.type "BaseException")=some true
theorem WB{K:af}{h:Heap}{C:Addr}{a:List Value}{i:String}(X:K.In h)(q:PySem.W.excIn K C a i=true) :
 ∃bm N nm e bs b sn c ab col dd k0 k1 k2 k3 k5 j,h.get? C=some (excClassObj nm e C N bs bm b sn c ab col dd k0 k1 k2 k3 k5 i)/\h.Ns N j/\j "__init__" = none/\OwnTail h a bm/\bm.contains (.type "BaseException")=a.contains (.type "BaseException"):=by
 unfold PySem.W.excIn at q;split at q
 ·rename_i dd p l u
  obtain⟨nm,bs,v,o,e,b,sn,c,ab,col,t⟩:=p;obtain⟨l⟩:=l;split at q
  ·rename_i D bm k0 k1 k2 k3 n k5 f k
   simp only[c9,beq_iff_eq,Bool.not_eq_true'] at q;obtain⟨⟨⟨⟨⟨s,r⟩,m⟩,w⟩,d⟩,g⟩:=q;dsimp only at f k m d g;subst s r f k m;have T:=PySem.W.tail_of_in X w;exact⟨bm,o,nm,e,bs,b,sn,c,ab,col,dd,k0,k1,k2,k3,k5,h.nsMap o,X _ _ u,.of_isNs (PySem.W.isNs_of_in X d),PySem.W.nsMap_none_of_in X d g,T,T.hasType rfl⟩
  ·cases q
 ·cases q
section
variable{P:Program}{w:World}{K:af}{mg:Str->Option Value}{base:Heap}{N:List Str}{qual:Str}{scope:Scope}{f:Addr}{cd:Value}{A:Around}{outer:List Env}{s0:Shared}{H0:Hp}{E:XK}
theorem raised{a:List (Addr×Obj)}{l:St}{H:Hp}{s:Shared}{h':Heap}{e C:Addr}{vs:List Value}(I:Inv (oj (EU P w) P w K mg base N qual scope f cd A outer s0 H0 E) a l H s)(hm:Heap.MadeExcOf s.heap h' e (.ref C) vs)
 (q:E (.ref C) none H):(oj (EU P w) P w K mg base N qual scope f cd A outer s0 H0 E).xe (.ref e) {s with heap:=h'}:=by
 have g:H e=none:=by
  cases z:H e with
  |none=>rfl
  |some o =>
   obtain⟨D,k⟩:=(I.hok e o z).there;rw[hm.new] at k;cases k
 have h:=I.WA rfl g hm.new;have c:Inv (oj (EU P w) P w K mg base N qual scope f cd A outer s0 H0 E) a l H {s with heap:=h'}:=I.kept (t':=s.toks) hm.keeps;obtain⟨t,p,_,_⟩:=hm.there;show wpAny _ _ (leaving _ (.ref e)) _ _ _;unfold leaving;refine wpAny_bind (OA (base:=base) c.ok.frames c.stack rfl p rfl rfl rfl λy x n=>?_);refine ET x λr u v B=>?_;have i:=c.Mc rfl;have j:∀b∈[e,h'.objs.size],Rec (oj (EU P w) P w K mg base N qual scope f cd A outer s0 H0 E) a H b:=by
  intro b m;simp only[bf,List.not_mem_nil,or_false] at m;rcases m with z|z
  ·rw[z];exact h
  ·rw[z];exact i
 have d:JC (frs (oj (EU P w) P w K mg base N qual scope f cd A outer s0 H0 E).stack) [e,h'.objs.size] h' r:=(n.mono (-_)).trans ((v _).mono (-_));have J:=c.pe (t':=s.toks) j d;exact⟨e,_,.ref C,H,rfl,I.os,I.bare,Ui c rfl j d,J.hok,u,h.2.2.2.1,i.2.2.2.1,h.1,i.1,q⟩
theorem Me{x:Str}{C:Addr}{a:Expr}{J b g:Pos}{m:TE}(z:Gl (oj (EU P w) P w K mg base N qual scope f cd A outer s0 H0 E) x)(p:mg x=some (.ref C))(t:Uj K C)(u:A.handled=none)
 (G:PE (oj (EU P w) P w K mg base N qual scope f cd A outer s0 H0 E) a m) (k:(x==("__debug__" : Str))=false:=by decide)
 (o:backTo b (starEach [a] (oj (EU P w) P w K mg base N qual scope f cd A outer s0 H0 E).env)=[(false,eval a (oj (EU P w) P w K mg base N qual scope f cd A outer s0 H0 E).env)]:=by rfl) :
 PS (oj (EU P w) P w K mg base N qual scope f cd A outer s0 H0 E) (.Raise (some (.Call (.Name x J) [a] [] b)) none g) (λ_ l H=>m l H λ_ n=>E (.ref C) none n):=by
 intro c s l H D I h;obtain⟨bm,M,nm,Q,bs,r,sn,L,ab,col,dd,k0,k1,k2,k3,k5,U,B,S,i,T,R⟩:=WB I.ok.mod.ZD t.ex;refine wpAny_Raise_call_subT (C:=C) (nm:=nm) (q:=Q) (N:=M) (bs:=bs) (bm:=bm) (hdct:=r) (sn:=sn) (sub:=L) (ab:=ab) (col:=col) (dd:=dd) (k0:=k0) (k1:=k1) (k2:=k2) (k3:=k3) (k5:=k5) PySem.F.excBase_ValueError (by rw[R];decide) u (by rw[o];rfl) i (Cs I z p ⟨rfl,?_⟩ k);rw[o];refine Calls.evalArgs_plain (Calls.spliced_cons (gA (G c s l H _ I h) λv X ⟨y,n,d,V,O⟩=>Calls.spliced_nil ?_));exact⟨rfl,by show 1<=sizeLine;decide,d.bk _ _ B,S.keeps d.bk,T.keeps d.bk,λW e j=>raised d j O⟩
end
end L2
namespace RM
structure Row where
 hd:Int
 co:Int
 ho:Int
 by_:Int
deriving DecidableEq
theorem Row.ext'{r s:Row}(a:r.hd=s.hd)(b:r.co=s.co)(c:r.ho=s.ho)(d:r.by_=s.by_):r=s:=by
 cases r;cases s;simp_all
def lt(r s:Row):Prop:=r.hd<s.hd∨(r.hd=s.hd/\(r.co<s.co∨(r.co=s.co/\(r.ho<s.ho∨(r.ho=s.ho/\r.by_<s.by_)))))
instance (r s:Row):Decidable (lt r s):=by unfold lt;infer_instance
def le(r s:Row):Prop:=¬lt s r
instance (r s:Row):Decidable (le r s):=by unfold le;infer_instance
theorem le_refl(r:Row):le r r:=by unfold le lt;lia
theorem aaj{a b c:Int}{i g k:Prop}(h:¬i->¬g->¬k)(d:¬(b<a∨(b=a/\i)))(f:¬(c<b∨(c=b/\g))):¬(c<a∨(c=a/\k)):=by
 have l:a<=b:=Int.not_lt.mp λy=>d (.inl y);have j:b<=c:=Int.not_lt.mp λy=>f (.inl y);intro z;rcases z with z|⟨z,n⟩
 ·exact Int.not_lt.mpr (qV l j) z
 ·subst z
  have e:=Int.le_antisymm l j;subst e;exact h (λy=>d (.inr ⟨rfl,y⟩)) (λy=>f (.inr ⟨rfl,y⟩)) n
theorem le_trans{r s t:Row}(c:le r s)(d:le s t):le r t :=
 aaj (aaj (aaj λa b=>Int.not_lt.mpr (qV (Int.not_lt.mp a) (Int.not_lt.mp b)))) c d
theorem YG{r s:Row}(h:lt r s):le r s:=by unfold le lt at *;lia
structure Net where
 n:Nat
 nm:Nat->Int
 a:Nat->Nat
 b:Nat->Nat
 c:Nat->Int
 live:List Nat
 inj:∀i j,i<n->j<n->nm i=nm j->i=j
 ab:∀k∈live,a k<n/\b k<n/\a k≠b k
 c1:∀k∈live,1<=c k
section
variable(N:Net)
def Gi(k h g:Nat):Prop:=k∈N.live/\((N.a k=h/\N.b k=g)∨(N.b k=h/\N.a k=g))
noncomputable def own(h:Nat):Row:=⟨N.nm h,0,0,-1⟩
noncomputable def over(k:Nat)(r:Row):Row:=⟨r.hd,r.co+N.c k,r.ho+1,k⟩
end
variable{N:Net}
theorem Gi.symm{k h g:Nat}(e:Gi N k h g):Gi N k g h:=⟨e.1,e.2.elim (λz=>.inr ⟨z.2,z.1⟩) λz=>.inl ⟨z.2,z.1⟩⟩
theorem Gi.lt{k h g:Nat}(e:Gi N k h g):h<N.n/\g<N.n/\h≠g:=by
 obtain⟨d,e⟩:=e;obtain⟨a,b,c⟩:=N.ab k d;rcases e with ⟨rfl,rfl⟩|⟨rfl,rfl⟩
 ·exact⟨a,b,c⟩
 ·exact⟨b,a,bK c⟩
theorem Gi.cost{k h g:Nat}(e:Gi N k h g):1<=N.c k:=N.c1 k e.1
structure Uk(cut:Int)(R:Nat->Row)(h:Nat)(d:Row):Prop where
 one:d=own N h∨∃k g,Gi N k h g/\(R g).ho+1<cut/\d=over N k (R g)
 own:le d (RM.own N h)
 all:∀k g,Gi N k h g->(R g).ho+1<cut->le d (over N k (R g))
def Sane(N:Net)(R:Nat->Row):Prop:=∀h,h<N.n->0<=(R h).ho/\(R h).ho<N.n
noncomputable def upd(R:Nat->Row)(h:Nat)(d:Row):Nat->Row:=λx=>if x=h then d else R x
structure om(N:Net)(R:Nat->Row)(k h g:Nat):Prop where
 AB:Gi N k h g
 cut:(R g).ho+1<N.n
 eq:R h=over N k (R g)
theorem Gi.far{k h g g':Nat}(a:Gi N k h g)(c:Gi N k h g'):g=g':=by
 obtain⟨b,e⟩:=a;obtain⟨_,d⟩:=c
 have:=(N.ab k b).2.2
 lia
section
variable{R:Nat->Row}{k h g:Nat}
theorem om.ho(t:om N R k h g):(R h).ho=(R g).ho+1:=by rw[t.eq];rfl
theorem om.by(t:om N R k h g):(R h).by_=k:=by rw[t.eq];rfl
theorem om.uniq{a g':Nat}(t:om N R k h g)(u:om N R a h g'):k=a/\g=g':=by
 have b:=t.by;have c:=u.by;have e:k=a:=∅
 subst e;exact⟨rfl,t.AB.far u.AB⟩
theorem om.one{h' g':Nat}(t:om N R k h g)(u:om N R k h' g'):h=h'/\g=g':=by
 obtain⟨i,e⟩:=t.AB;obtain⟨_,c⟩:=u.AB;have d:=t.ho;have f:=u.ho;have a:h=h'∨(h=g'/\g=h'):=by
  rcases e with ⟨rfl,rfl⟩|⟨rfl,rfl⟩ <;> rcases c with ⟨rfl,rfl⟩|⟨rfl,rfl⟩ <;> simp
 rcases a with a|⟨a,b⟩
 ·subst a
  exact⟨rfl,t.AB.far u.AB⟩
 ·subst a b
  lia
end
end RM
namespace RM
variable{N:Net}
end RM
namespace L2
open PySem PySem.Spec PyProof.Rows
inductive Mf:List Value->List Value->Bool->Prop
 |nil:Mf [] [] false
 |ne {a c:Int} {t u:Tok} {vs ws:List Value} (h:a≠c):Mf (.int a t::vs) (.int c u::ws) (decide (a<c))
 |eq {a:Int} {t u:Tok} {vs ws:List Value} {r:Bool} (h:Mf vs ws r):Mf (.int a t::vs) (.int a u::ws) r
section
open PySem.SeqAt
open PySem.AutoSeq1 (wpAny_loadPart')
open PySem.MeetsSeq PySem.MeetsSeq2 PySem.MeetsSeq3
theorem OB(l b:Addr)(items f:Array Value)(n L:Nat)(dd B:Option Addr)(K E:Array (Option Value))(r:Bool)(I:Mf items.toList f.toList r)(hsz:items.size=f.size) :
 Meets (Builtin.«tuple.__lt__» ⟨[.ref l,.ref b],[]⟩)
  (λ_ R s=>s.heap.get? l=some {cls:=.type "tuple",dict:=dd,data:=.seq items n,slots:=K}/\s.heap.get? b=some {cls:=.type "tuple",dict:=B,data:=.seq f L,slots:=E} /\
   R (.ok (.ret (.bool r))) s) :=
 .of_wp λj w A R s h=>by
  obtain⟨z,g,d,v,os⟩:=s;obtain⟨M,N,h⟩:=h;have Q:=AutoSeq1.sub_tuple_tuple
  wp_walk using wpAny_loadPart' M,wpAny_loadPart' N,wpAny_forIn_list _ (λrest b H=>b.1=none/\H=⟨z,g,d,v,os⟩/\∃(q p:List Value),rest=q.zip p/\Mf q p r) _
  case turn =>
   rintro⟨y,x⟩ rest b H ⟨o,rfl,q,p,i,m⟩;cases m with
   |nil=>rw[List.zip_nil_left] at i;cases i
   |@ne a c t u q p C =>
    rw[List.zip_cons_cons] at i;injection i with hyx hrest
    injection hyx with hy m
    subst hy m;obtain⟨e,D,k⟩:=HT.L3 A.in1 ⟨z,g,d,v,os⟩ a t c u;refine wpAny_bind (D j w _ _ ?_);cases e with
    |true=>exact eL (k.mp rfl) C
    |false =>
     have G:=HT.TM A.in1 ⟨z,g,d,v,os⟩ a t c u j w
     wp_walk using G
     exact⟨_,rfl,by simpa using h⟩
   |@eq a t u q p S F =>
    rw[List.zip_cons_cons] at i;injection i with hyx hrest
    injection hyx with hy m
    subst hy m;obtain⟨e,D,k⟩:=HT.L3 A.in1 ⟨z,g,d,v,os⟩ a t a u;refine wpAny_bind (D j w _ _ ?_);cases e with
    |true =>
     wp_walk
     exact⟨rfl,rfl,_,_,hrest,F⟩
    |false=>exact eL (k.mpr rfl) aF
  case fin =>
   rintro⟨P,O⟩ H ⟨o,rfl,q,p,i,m⟩;simp only at o;subst o;cases m with
   |nil =>
    have J:decide (items.size<f.size)=false:=fy ∅;rw[<- J] at h
    wp_walk
    exact⟨_,rfl,by simpa [Builtin.Tuple.tupleCompareSizes] using h⟩
   |ne=>rw[List.zip_cons_cons] at i;cases i
   |eq=>rw[List.zip_cons_cons] at i;cases i
  case h =>
   exact⟨rfl,rfl,items.toList,f.toList,rfl,I⟩
end
theorem WC{prog:Program}{w:World}{A:Around}{E:Value->Shared->Prop}{s:Shared}{l b:Addr}{items a:Array Value}{r:Bool}{Q:Value->Shared->Prop}(hl:IsTup s.heap l items)(z:IsTup s.heap b a)(p:Mf items.toList a.toList r)(hsz:items.size=a.size)
 (u:A.units<cLine) (h:Q (.bool r) s):wpAny (model prog w) A (compareOp .Lt (.ref l) (.ref b)) Q E s:=by
 obtain⟨⟨v,y,k,q⟩,m,i,n,j⟩:=id hl;obtain⟨⟨o,f,data2,g⟩,c,e,t,d⟩:=id z;simp only at i j e d;subst i j e d;exact richCompare_meets_room (op:=.Lt) ⟨_,m,rfl⟩ ⟨_,c,rfl⟩ PySem.F.slot_tuple_lt PySem.F.entry_tuple_lt (PySem.F.args_tuple_lt_2 _ _) (OB l b items a n t y f q g r p hsz)
  ⟨m,c,show Value.bool r≠Value.notImplemented/\Q (.bool r) s from ⟨(λx=>nomatch x),h⟩⟩ u
inductive GH:List V->List V->Bool->Prop
 |nil:GH [] [] false
 |ne {a c:Int} {vs ws:List V} (h:a≠c):GH (.int a::vs) (.int c::ws) (decide (a<c))
 |eq {a:Int} {vs ws:List V} {r:Bool} (h:GH vs ws r):GH (.int a::vs) (.int a::ws) r
theorem GH.vals{vs f:List V}{r:Bool}(h:GH vs f r):∀{us a:List Value},bZ vs us->bZ f a->Mf us a r:=by
 induction h with
 |nil=>intro us a b c;cases b;cases c;exact .nil
 |ne h =>
  intro us a b c;cases b with
  |cons e _ =>
   cases c with
   |cons d _ =>
    obtain⟨t,rfl⟩:=e;obtain⟨u,rfl⟩:=d;exact .ne h
 |eq _ i =>
  intro us a b c;cases b with
  |cons e g =>
   cases c with
   |cons d j =>
    obtain⟨t,rfl⟩:=e;obtain⟨u,rfl⟩:=d;exact .eq (i g j)
section
variable{X:Cx}
def agD(K:af):R2:=λx y H Q=>∃a b xs ys r,x=.ref a/\y=.ref b/\cP K H a xs/\cP K H b ys/\xs.length=ys.length/\GH xs ys r/\Q (.bl r) H
theorem aak(o:X.A.units<cLine):wO X (compareOp .Lt) (agD X.K):=by
 intro d s z H x y v u Q I j k h;obtain⟨a,b,w,B,r,rfl,rfl,m,t,n,i,q⟩:=h;cases j;cases k;obtain⟨g,e,p,_⟩:=I.tuple m;obtain⟨c,f,l,_⟩:=I.tuple t;exact WC p l (i.vals e f) (by rw[aP,aP,<- e.length,<- f.length];exact n) o ⟨.bl r,H,I,rfl,q⟩
end
end L2
namespace RM
open PySem L2
noncomputable def jV(b:Int):V:=if b<0 then .fH else .int b
noncomputable abbrev cR(r:Row):List V:=[.int r.hd,.int r.co,.int r.ho,jV r.by_]
theorem aZ{b:Int}(h:b<0):jV b=.fH:=ee h
theorem aW{b:Int}(h:0<=b):jV b=.int b:=er ∅
end RM
namespace L2
open PySem PySem.Spec PyProof.Rows
end L2
namespace L2
open PySem PySem.Spec PyProof.Rows RM
end L2
namespace L2
open PySem PySem.Spec PyProof.Rows
section
variable{X:Cx}
def agE(K:af):R2:=λx y H Q=>∃da db,Rep K H da x/\Rep K H db y/\da.canLay0=true/\db.canLay0=true/\da.depth<=64/\Q (.bl (PyData.eqv da db)) H
theorem Qe(K:af)(d:X.K=K)(k:X.A.units+64<cLine):wO X (compareOp .Eq) (agE K):=by
 subst d;intro a s j H x y v u Q I e f ⟨c,b,g,m,h,l,i,q⟩;exact Ow a s j H x y v u Q I e f ⟨c,b,g,m,h,l,cJ (fz (aN (mE _ _) i) _) k,q⟩
end
end L2
namespace RM
open PySem L2
noncomputable def SR(b:Int):PyData:=if b<0 then .none else .int b
noncomputable def DL(r:Row):PyData:=.tuple [.int r.hd,.int r.co,.int r.ho,SR r.by_]
theorem WD{K:af}{H:Hp}(b:Int):Rep K H (SR b) (jV b):=by
 unfold SR jV;by_cases h:b<0
 ·rw[ee h,ee h];rfl
 ·rw[er h,er h];rfl
theorem yZ{K:af}{H:Hp}{p:Addr}{r:Row}(h:cP K H p (cR r)):Rep K H (DL r) (.ref p) :=
 ⟨p,_,rfl,h,_,_,rfl,rfl,_,_,rfl,rfl,_,_,rfl,rfl,_,_,rfl,WD _,rfl⟩
theorem y9(r:Row):(DL r).canLay0=true:=by
 show (true&&(true&&(true&&((SR r.by_).canLay0&&true))))=true;unfold SR;split <;> rfl
theorem JE(r:Row):(DL r).depth=1:=by
 show max 0 (max 0 (max 0 (max (SR r.by_).depth 0)))+1=1;unfold SR;split <;> rfl
theorem Mg{r s:Row}(i:-1<=r.by_)(g:-1<=s.by_):PyData.eqv (DL r) (DL s)=decide (r=s):=by
 have e:PyData.eqv (DL r) (DL s)=((r.hd==s.hd)&&((r.co==s.co)&&((r.ho==s.ho)&&(PyData.eqv (SR r.by_) (SR s.by_)&&true)))):=rfl;rw[e];have d:PyData.eqv (SR r.by_) (SR s.by_)=decide (r.by_=s.by_):=by
  unfold SR;by_cases a:r.by_<0 <;> by_cases b:s.by_<0
  ·rw[ee a,ee b]
   exact (e8 ∅).symm
  ·rw[ee a,er b]
   exact (fy ∅).symm
  ·rw[er a,ee b]
   exact (fy ∅).symm
  ·rw[er a,er b]
   show (r.by_==s.by_)=_;by_cases c:r.by_=s.by_
   ·rw[e8 c,c];exact beq_self_eq_true _
   ·rw[fy c];exact beq_eq_false_iff_ne.mpr c
 rw[d];by_cases h:r=s
 ·subst h
  simp
 ·rw[fy h]
  have:¬(r.hd=s.hd/\r.co=s.co/\r.ho=s.ho/\r.by_=s.by_):=λz=>h (Row.ext' z.1 z.2.1 z.2.2.1 z.2.2.2)
  simp only[Bool.and_true];by_cases a:r.hd=s.hd
  ·by_cases b:r.co=s.co
   ·by_cases c:r.ho=s.ho
    ·have f:¬r.by_=s.by_:=λz=>this ⟨a,b,c,z⟩
     simp[f]
    ·simp[c]
   ·simp[b]
  ·simp[a]
end RM
namespace L2
open PySem PySem.Spec PyProof.Rows
end L2
namespace RM
open PySem L2
theorem WE{r s:Row}(h:r.hd=s.hd->r.co=s.co->r.ho=s.ho->¬lt r s):GH [.int r.hd,.int r.co,.int r.ho] [.int s.hd,.int s.co,.int s.ho] (decide (lt r s)):=by
 obtain⟨j,m,n,o⟩:=r;obtain⟨k,i,l,p⟩:=s;dsimp only at h;have a:∀{b g:Bool} {vs ws},GH vs ws b->b=g->GH vs ws g:=λh e=>e▸h;by_cases c:j=k
 ·subst c
  by_cases d:m=i
  ·subst d
   by_cases f:n=l
   ·subst f
    exact a (.eq (.eq (.eq .nil))) (fy (h rfl rfl rfl)).symm
   ·exact a (.eq (.eq (.ne f))) (by unfold lt;simp[f])
  ·exact a (.eq (.ne d)) (by unfold lt;simp[d])
 ·exact a (.ne c) (by unfold lt;simp[c])
end RM
namespace L2
open PySem PySem.Spec PyProof.Rows
end L2
set_option maxHeartbeats 4000000
namespace TW
open PySem L2 PyProof.Rows
open RM (cR jV aZ aW)
seal L2.PE L2.PA L2.PT L2.PW L2.PS L2.iD L2.PG L2.kC L2.PI L2.kE
structure Ul(n:Int)(a b c d e:Int):Prop where
 a0:0<=a
 a1:a<n
 b0:0<=b
 b1:b<n
 ab:a≠b
 c1:1<=c
 d1:1<=d
 d4:d<=4
 e1:1<=e
 e7:e<=7
noncomputable abbrev ac1(a b c d e:Int):List V:=[.int a,.int b,.int c,.int d,.int e]
structure R5 where
 a:Int
 b:Int
 c:Int
 d:Int
 e:Int
noncomputable abbrev R5.vs(r:R5):List V:=ac1 r.a r.b r.c r.d r.e
noncomputable abbrev R5.ns(r:R5):List Int:=[r.a,r.b,r.c,r.d,r.e]
noncomputable def R5.D(r:R5):PyData:=.tuple (r.ns.map .int)
abbrev R5.Ok(n:Int)(r:R5):Prop:=Ul n r.a r.b r.c r.d r.e
def GI(K:af)(H:Hp)(l:Addr)(rs:List R5):Prop:=Rep K H (.list (rs.map R5.D)) (.ref l)
section
variable{K:af}{H H':Hp}{l:Addr}{rs:List R5}
theorem GI.mono(s:aG H H')(h:GI K H l rs):GI K H' l rs:=Rep.mono s h
theorem GI.at(h:GI K H l rs):∃vs,bP K H l vs/\vs.length=rs.length/\∀(i:Nat) r,rs[i]?=some r->∃p,vs[i]?=some (.ref p)/\cP K H p r.vs:=by
 obtain⟨a,vs,e,q,r⟩:=h;cases e;refine⟨vs,q,by rw[r.length,ah],λi x g=>?_⟩;obtain⟨v,b,c⟩:=r.get (i:=i) (d:=x.D) (by rw[aj,g];rfl);obtain⟨p,e,f⟩:=Rep.yY (ns:=x.ns) c;subst e;exact⟨p,b,f⟩
end
theorem GJ:∀(ns:List Int),ns.Nodup->(firstMet (λi=>ns.getD i 0) ns.length).length=ns.length:=by
 intro ns f;have e:(aA ns.length).map (λi=>ns.getD i 0)=ns:=by
  apply List.ext_getElem
  ·simp
  ·intro i d m
   simp at d;simp[az,d]
 have c:∀(b a:List Int),(a++b).Nodup->b.foldl step_dedup a=a++b:=by
  intro b;induction b with
  |nil=>intro a _;simp
  |cons x b j =>
   intro a h;have l:x∉a:=λg=>by
    rw[uK] at h;exact h.2.2 x g x (-_) rfl
   have k:step_dedup a x=a++[x]:=by
    unfold step_dedup;simp[l]
   rw[List.foldl_cons,k,j _ (by simpa using h)];simp
 unfold firstMet;rw[e,c ns [] (by simpa using f)];simp
theorem dG{f:Str}{v:V}:∀{a:List (Str×V)} {names:List Str},a.map (·.1)=names->names.contains f=false->yH f v a=a++[(f,v)]
 |[],_,_,_=>rfl
 | (g,u)::r,_,e,h=>by
  subst e;rw[bN,List.contains_cons,Bool.or_eq_false_iff] at h;have b:¬g=f:=λz=>by
   have:=h.1
   rw[z] at this;simp at this
  show (if g=f then (g,v)::r else (g,u)::yH f v r)=_;rw[er b,dG rfl h.2];rfl
theorem AD{K:af}{H c:Hp}{p C e:Addr}{f:List (Str×V)}{a:Addr}{xs:List V}(k:∀b o,H b=some o->b≠p->c b=some o)(d:H p=some (.ins C e f))(h:bP K H a xs):bP K c a xs:=by
 rcases h with (h|⟨o,h⟩)|h
 ·exact .inl (.inl (k _ _ h (vL h d (by intro z;cases z))))
 ·exact .inl (.inr ⟨o,k _ _ h (vL h d (by intro z;cases z))⟩)
 ·exact .inr h
theorem WG{K:af}{H c:Hp}{p C e:Addr}{f:List (Str×V)}{a:Addr}{xs:List V}(k:∀b o,H b=some o->b≠p->c b=some o)(d:H p=some (.ins C e f))(h:cP K H a xs):cP K c a xs:=by
 rcases h with (h|⟨o,h⟩)|h
 ·exact .inl (.inl (k _ _ h (vL h d (by intro z;cases z))))
 ·exact .inl (.inr ⟨o,k _ _ h (vL h d (by intro z;cases z))⟩)
 ·exact .inr h
mutual
theorem WH{K:af}{H f:Hp}{p C g:Addr}{i:List (Str×V)}(k:∀b o,H b=some o->b≠p->f b=some o)(c:H p=some (.ins C g i)):∀{d:PyData} {v:V},Rep K H d v->Rep K f d v
 |.none,_,h=>h
 |.bool _,_,h=>h
 |.int _,_,h=>h
 |.str _,_,h=>h
 |.list ds,_,⟨a,vs,e,q,r⟩=>⟨a,vs,e,AD k c q,jH k c r⟩
 |.tuple ds,_,⟨a,vs,e,q,r⟩=>⟨a,vs,e,WG k c q,jH k c r⟩
 |.dict _,_,h=>h
theorem jH{K:af}{H a:Hp}{p C d:Addr}{f:List (Str×V)}(k:∀b o,H b=some o->b≠p->a b=some o)(c:H p=some (.ins C d f)):∀{ds:List PyData} {vs:List V},cW K H ds vs->cW K a ds vs
 |[],_,h=>h
 |_::_,_,⟨v,r,e,q,t⟩=>⟨v,r,e,WH k c q,jH k c t⟩
end
noncomputable abbrev agF(ln lr:Addr)(n m:Nat):List (Str×V):=[("house_names",.ref ln),("rope_tuples",.ref lr),("size",.int n),("many",.int m)]
structure c7(K:af)(C:Addr)(H:Hp)(p ln lr:Addr)(ns:List Int)(rs:List R5):Prop where
 ob:∃dx,H p=some (.ins C dx (agF ln lr ns.length rs.length))
 nl:H ln=some (.lst (ns.map V.int))
 rl:∃vs,H lr=some (.lst vs)/\cW K H (rs.map R5.D) vs
section
variable{K:af}{C:Addr}{H H':Hp}{p ln lr:Addr}{ns:List Int}{rs:List R5}
theorem c7.mono(s:aG H H')(h:c7 K C H p ln lr ns rs):c7 K C H' p ln lr ns rs:=by
 obtain⟨⟨c,a⟩,b,e,d,f⟩:=h;exact⟨⟨c,s _ _ a⟩,s _ _ b,e,s _ _ d,f.mono s⟩
end
theorem KG(a x:Int):Ry (.int a) (.int x)=decide (x=a):=by
 show (a==x)=decide (x=a);by_cases e:x=a
 ·rw[e8 e,e];exact beq_self_eq_true a
 ·rw[fy e];exact beq_eq_false_iff_ne.mpr (bK e)
theorem mR(x:Int)(xs:List Int):CC (.int x) (xs.map V.int)=decide (x∈xs):=by
 unfold CC;induction xs with
 |nil=>simp
 |cons y c d =>
  rw[bN,List.any_cons,d,KG];by_cases a:x=y
  ·subst a;simp
  ·by_cases b:x∈c
   ·simp[a,b]
   ·simp[a,b]
theorem oq(xs:List Int):(xs.map V.int).all yR=true:=by
 rw[List.all_eq_true];intro v a;obtain⟨x,_,rfl⟩:=aL.mp a;rfl
noncomputable def above(xs:List Int)(x:Int):Nat:=(xs.filter λy=>decide (x<=y)).length
theorem Um{xs:List Int}{x:Int}(h:x∈xs):above xs (x+1)<above xs x:=by
 unfold above;induction xs with
 |nil=>cases h
 |cons y c d =>
  have g:(c.filter λy=>decide (x+1<=y)).length<=(c.filter λy=>decide (x<=y)).length:=by
   clear d h;induction c with
   |nil=>simp
   |cons z j b =>
    simp only[fj];by_cases a:x+1<=z
    ·rw[ee (by simpa using a),ee (by simp;lia)];simp;exact b
    ·rw[er (by simpa using a)]
     split
     ·simp;lia
     ·exact b
  simp only[fj];by_cases f:x=y
  ·subst f
   rw[er (by simp;lia),ee (-_)];simp;lia
  ·have i:x∈c:=by
    rcases bf.mp h with e|e
    ·exact eL e f
    ·exact e
   have:=d i
   by_cases a:x+1<=y
   ·rw[ee (by simpa using a),ee (by simp;lia)];simp;exact this
   ·rw[er (by simpa using a),er (by simp;lia)];exact this
theorem WI{n x y:Int}(h:2<=n):0<=x%n/\x%n<n/\0<=(x%n+1+y%(n-1))%n/\(x%n+1+y%(n-1))%n<n/\x%n≠(x%n+1+y%(n-1))%n:=by
 have d:=bU x (show n≠0 by lia);have e:=ck x (show 0<n by lia);have i:=bU y (show n-1≠0 by lia);have j:=ck y (show 0<n-1 by lia);have g:=bU (x%n+1+y%(n-1)) (show n≠0 by lia);have f:=ck (x%n+1+y%(n-1)) (show 0<n by lia);refine⟨d,e,g,f,?_⟩;generalize x%n=a at *;generalize y%(n-1)=b at *;by_cases c:a+1+b<n
 ·rw[Int.emod_eq_of_lt ∅ c];lia
 ·rw[<- Int.sub_emod_right,Int.emod_eq_of_lt ∅ ∅];lia
theorem aal{c:TT}{t u r:TS}{D:Ends}{a:L2.St}{H:Hp}(J:L2.St->Hp->Prop)(b:∀a H,J a H->r D a H)(h:(∀a H,J a H->r D a H)->Te c t u {D with nx:=r D} a H):Rn (Te c t u) r D a H:=h b
theorem OC{K:af}{a:Addr}{xs:List V}{b:Hp}(h:cP K b a xs):∀i H,i<xs.length->aG b H->(RI K a).go i H:=λi H c s=>⟨xs,xs[i],s.dB h,by simp[c]⟩
theorem GK{K:af}{a:Addr}{xs:List V}{b:Hp}(h:cP K b a xs):∀H,aG b H->(RI K a).stop xs.length H:=λH s=>⟨xs,s.dB h,ay _⟩
structure BC(n m:Nat)(r:RM.Row):Prop where
 hd:0<=r.hd
 co:0<=r.co
 ho:0<=r.ho/\r.ho<n
 by_:r.by_=-1∨(0<=r.by_/\r.by_<m)
noncomputable abbrev bR(ks:List Nat):List V:=ks.map λk=>V.int (k:Nat)
theorem jI(a:List Nat)(k:Nat):bR (a++[k])=bR a++[V.int (k:Nat)]:=by
 unfold bR;rw[aT];rfl
theorem WK{K:af}{H:Hp}{q a:Addr}{xs b:List V}{o:HO}(c:H q=some (.lst xs))(h:cP K H a b):cP K (upd H q o) a b:=by
 rcases h with (h|⟨d,h⟩)|h
 ·exact .inl (.inl (by rw[aH (vL h c (by intro z;cases z))];exact h))
 ·exact .inl (.inr ⟨d,by rw[aH (vL h c (by intro z;cases z))];exact h⟩)
 ·exact .inr h
noncomputable def aV(ns:List Int)(rs:List R5)(live:List Nat)(nd:ns.Nodup)(ok:∀r∈rs,r.Ok ns.length)(hl:∀k∈live,k<rs.length):RM.Net where
 n:=ns.length
 nm i:=ns.getD i 0
 a k:=((rs[k]?).map λr=>r.a.toNat).getD 0
 b k:=((rs[k]?).map λr=>r.b.toNat).getD 0
 c k:=((rs[k]?).map λr=>r.c).getD 0
 live:=live
 inj i j hi hj e:=by
  have e1:ns.getD i 0=ns[i]:=by simp[az,hi]
  have e2:ns.getD j 0=ns[j]:=by simp[az,hj]
  have e:ns[i]=ns[j]:=by rw[<- e1,<- e2];exact e
  exact (List.getElem?_inj hi nd).mp (by rw[aa hi,aa hj,e])
 ab k hk:=by
  have h:=hl k hk;have o:=ok _ (aQ h);simp only[aa h,Option.map_some,Option.getD_some];have h1:=o.a0;have h2:=o.a1;have h3:=o.b0;have h4:=o.b1;have h5:=o.ab;exact⟨∅,∅,∅⟩
 c1 k hk:=by
  have h:=hl k hk;have o:=ok _ (aQ h);simp only[aa h,Option.map_some,Option.getD_some];exact o.c1
def wU(K:af)(H:Hp)(l:Addr)(n:Nat)(R:Nat->RM.Row):Prop:=∃ps:List Addr,bP K H l (ps.map V.ref)/\ps.length=n/\∀(i:Nat) p,ps[i]?=some p->cP K H p (cR (R i))
theorem wU.mono{K:af}{H a:Hp}{l:Addr}{n:Nat}{R:Nat->RM.Row}(s:aG H a)(h:wU K H l n R):wU K a l n R:=by
 obtain⟨b,c,d,f⟩:=h;exact⟨b,s.seq c,d,λi p e=>s.dB (f i p e)⟩
theorem pT:∀ns:List Int,PyData.canLayAll0 (ns.map .int)=true
 |[]=>rfl
 |n::ns=>by
  show (PyData.canLay0 (.int n)&&PyData.canLayAll0 (ns.map .int))=true;rw[pT ns];rfl
theorem vO:∀ns:List Int,PyData.depthAll (ns.map .int)=0
 |[]=>rfl
 |n::ns=>by
  show max (PyData.depth (.int n)) (PyData.depthAll (ns.map .int))=0;rw[vO ns];rfl
theorem Uo(xs:List V)(i:Nat):Cz xs (some (i:Int)) none=xs.drop i:=by
 unfold Cz;rw[HT.Gf];show (xs.drop (min i xs.length)).take (xs.length-min i xs.length)=_;by_cases h:i<=xs.length
 ·rw[Nat.min_eq_left h,gi (by rw[wK];exact ay _)]
 ·rw[Nat.min_eq_right ∅,iL (ay _),iL ∅]
  simp
section
variable{ns:List Int}{rs:List R5}{live:List Nat}{nd:ns.Nodup}{ok:∀r∈rs,r.Ok ns.length}{hl:∀k∈live,k<rs.length}
def wW(n m:Nat)(R:Nat->RM.Row):Prop:=∀i,i<n->BC n m (R i)
theorem wW.aam{m:Nat}{R:Nat->RM.Row}(h:wW ns.length m R):RM.Sane (aV ns rs live nd ok hl) R:=λi a=>(h i a).ho
theorem WL{R:Nat->RM.Row}{h:Nat}{d:RM.Row}(j:wW ns.length rs.length R)(b:h<ns.length)(l:∀x∈ns,0<=x)(i:RM.Uk (N:=aV ns rs live nd ok hl) ns.length R h d):BC ns.length rs.length d:=by
 rcases i.one with e|⟨k,g,a,c,e⟩
 ·rw[e]
  have m:(aV ns rs live nd ok hl).nm h=ns[h]:=by show ns.getD h 0=_;simp[az,b]
  refine⟨?_,jn _,⟨jn _,?_⟩,.inl rfl⟩
  ·show 0<=(aV ns rs live nd ok hl).nm h
   rw[m];exact l _ (aQ b)
  ·show (0:Int)<ns.length
   lia
 ·have f:=j g a.lt.2.1
  have n:=a.cost;have o:k<rs.length:=hl k a.1;rw[e];refine⟨f.hd,?_,⟨?_,c⟩,.inr ⟨?_,?_⟩⟩
  ·show 0<=(R g).co+(aV ns rs live nd ok hl).c k
   have:=f.co
   lia
  ·show 0<=(R g).ho+1
   have:=f.ho.1
   lia
  ·show (0:Int)<=(k:Nat);lia
  ·show ((k:Nat):Int)<(rs.length:Nat);lia
end
theorem BC.by1{n m:Nat}{r:RM.Row}(h:BC n m r):-1<=r.by_:=by have:=h.by_;lia
noncomputable def isAt(rs:List R5)(h:Int)(i:Nat):Bool:=match rs[i]? with|some r=>decide (h=r.a) || decide (h=r.b)|none=>false
noncomputable def SS(rs:List R5)(h:Int)(n:Nat):List Nat:=(aA n).filter (isAt rs h)
theorem Mh(rs:List R5)(h:Int)(n:Nat):SS rs h (n+1)=SS rs h n++(if isAt rs h n then [n] else []):=by
 unfold SS;rw[mF,fO];congr 1;by_cases a:isAt rs h n=true
 ·rw[ee a];simp[a]
 ·rw[er a];simp[a]
theorem WM(rs:List R5)(h:Int)(n:Nat):(SS rs h n).length<=n:=by
 have:=aX (isAt rs h) (aA n)
 rw[bB] at this;exact this
theorem OD(x a b:Int):CC (V.int x) [V.int a,V.int b]=(decide (x=a) || decide (x=b)):=by
 show (Ry (.int a) (.int x) || (Ry (.int b) (.int x) || false))=_;rw[KG,KG,Bool.or_false]
theorem jJ(a:List Nat):bR a=(a.map λk:Nat=>(k:Int)).map V.int:=by
 unfold bR;rw[dw];rfl
theorem zc(x:Nat)(xs:List Nat):CC (.int (x:Nat)) (bR xs)=decide (x∈xs):=by
 rw[jJ,mR];by_cases h:x∈xs
 ·rw[e8 h]
  exact e8 (aL.mpr ⟨x,h,rfl⟩)
 ·rw[fy h]
  refine fy λz=>h ?_;obtain⟨y,a,e⟩:=aL.mp z
  have:y=x:=∅
  exact this▸a
theorem rX(xs:List Nat):(bR xs).all yR=true:=by rw[jJ];exact oq _
theorem Uq(rs:List R5)(h:Int)(n:Nat):(SS rs h n).Pairwise (·<·):=List.Pairwise.filter _ List.pairwise_lt_range
theorem WN{a:List Nat}(h:a.Pairwise (·<·)){j:Nat}(c:j<a.length){k:Nat}(d:k∈a.take j):k<a[j]:=by
 obtain⟨i,b,e⟩:=List.getElem_of_mem d;rw[bQ] at b;rw[List.getElem_take] at e;rw[<- e];exact pN.mp h i j ∅ c ∅
theorem AE{rs:List R5}{h:Int}{n k:Nat}:k∈SS rs h n↔k<n/\isAt rs h k=true:=by
 unfold SS;rw[bC,dm]
section
variable{ns:List Int}{rs:List R5}{live:List Nat}{nd:ns.Nodup}{ok:∀r∈rs,r.Ok ns.length}{hl:∀k∈live,k<rs.length}
noncomputable def fR(r:R5)(h:Nat):Nat:=(if (h:Int)=r.a then r.b else r.a).toNat
theorem uf{k h g:Nat}(f:k∈live):RM.Gi (aV ns rs live nd ok hl) k h g↔isAt rs (h:Int) k=true/\g=fR (rs[k]'(hl k f)) h:=by
 have d:=hl k f;have o:=ok _ (aQ d);have i:rs[k]?=some rs[k]:=aa d;have l:(aV ns rs live nd ok hl).a k=rs[k].a.toNat:=by show ((rs[k]?).map λr=>r.a.toNat).getD 0=_;rw[i];rfl
 have j:(aV ns rs live nd ok hl).b k=rs[k].b.toNat:=by show ((rs[k]?).map λr=>r.b.toNat).getD 0=_;rw[i];rfl
 unfold RM.Gi isAt fR;rw[l,j,i];dsimp only;generalize rs[k]=r at o;have m:=o.a0;have n:=o.b0;have p:=o.ab;constructor
 ·rintro⟨_,⟨e,c⟩|⟨e,c⟩⟩
  ·have z:(h:Int)=r.a:=∅
   rw[ee z];exact⟨by simp[z],c.symm⟩
  ·have z:(h:Int)=r.b:=∅
   rw[er ∅];exact⟨by simp[z],c.symm⟩
 ·rintro⟨e,c⟩
  refine⟨f,?_⟩;have e:(h:Int)=r.a∨(h:Int)=r.b:=by simpa using e
  by_cases z:(h:Int)=r.a
  ·rw[ee z] at c
   exact .inl ⟨∅,c.symm⟩
  ·rw[er z] at c
   exact .inr ⟨∅,c.symm⟩
end
theorem Ur(ns:List Int)(a b:Nat):∃cs:List Int,Cz (ns.map V.int) (some (a:Int)) (some (b:Int))=cs.map V.int/\cs.length<=b-a:=by
 refine⟨(ns.drop (HT.lK ns.length 0 (some (a:Int)))).take (HT.lK ns.length ns.length (some (b:Int))-HT.lK ns.length 0 (some (a:Int))),?_,?_⟩
 ·unfold Cz
  rw[ah,List.map_take,List.map_drop]
 ·rw[HT.Gf,HT.Gf,bQ,wK]
  lia
theorem Gj{α:Type}{xs:List α}{x y:α}{j:Nat}(h:(xs++[x])[j]?=some y):xs[j]?=some y∨(j=xs.length/\y=x):=by
 by_cases a:j<xs.length
 ·rw[bL a] at h
  exact .inl h
 ·have:=(ai.mp h).1
  rw[av] at this;have e:j=xs.length:=by have:j<xs.length+1:=this;lia
  subst e;rw[cu (ay _),iY] at h;cases h;exact .inr ⟨rfl,rfl⟩
theorem Qf{n i:Nat}(h:i<n):Wo n (i:Int)=some i:=by
 unfold Wo;rw[ee ∅,ee ∅];simp
section
variable{ns:List Int}{rs:List R5}{live:List Nat}{nd:ns.Nodup}{ok:∀r∈rs,r.Ok ns.length}{hl:∀k∈live,k<rs.length}
theorem ac2{k:Nat}(h:k<rs.length):(aV ns rs live nd ok hl).c k=rs[k].c:=by
 show ((rs[k]?).map λr=>r.c).getD 0=_;rw[aa h];rfl
end
end TW
namespace TW
open PySem L2 PyProof.Rows
theorem bO{a b:TS}{D:Ends}{e:L2.St}{H:Hp}(h:∀N:L2.St->Hp->Prop,(∀c d,b D c d->N c d)->a {D with nx:=N} e H):Rn a b D e H:=h _ λ_ _ x=>x
theorem KH{K:af}{H:Hp}{Q:VK}{p:Addr}{xs:List V}{i:Int}{v:V}(h:bP K H p xs)(e:FF xs i=some v)(k:Q v H):Rv K (.ref p) (.int i) H Q:=⟨p,xs,i,v,rfl,rfl,h,e,k⟩
theorem WO{K:af}{b:L2.St}{H:Hp}{Q:VK}{p:Addr}{xs:List V}{i:Int}{v:V}(h:cP K H p xs)(e:FF xs i=some v)(k:Q v H):tC (.int i) b H λy a=>Rx K (.ref p) y a Q:=⟨p,xs,i,v,rfl,rfl,h,e,k⟩
theorem oX{c:TT}{t u r:TS}{D:Ends}{a:L2.St}{H:Hp}(J:L2.St->Hp->Prop)(b:∀a H,J a H->r D a H)(h:∀N:L2.St->Hp->Prop,(∀a H,J a H->N a H)->Te c t u {D with nx:=N} a H):Rn (Te c t u) r D a H:=h _ b
theorem GL{lo:Int}{n:Nat}{g:TG}{h:TS}{D:Ends}{a:L2.St}{H:Hp}(e:Nat->L2.St->Hp->Prop)(o:e 0 a H)
 (l:∀i a H (N:L2.St->Hp->Prop),(∀b c,e (i+1) b c->N b c)->i<n->e i a H->g (.int (lo+i)) a H λd f=>h {D with nx:=N,ct:=N,bk:=D.nx} d f) (q:∀a H,e n a H->D.nx a H) :
 ∃W:Nat->Nat->L2.St->Hp->Prop,(∃m,W 0 m a H)/\∀i m a H,W i m a H ->
  ((Th lo n).stop i H/\D.nx a H)∨((Th lo n).go i H/\∃N:L2.St->Hp->Prop,(∀b c,N b c->∃j,j<m/\W (i+1) j b c)/\∀x c,(Th lo n).Km i H x c->g x a c λd f=>h {D with nx:=N,ct:=N,bk:=D.nx} d f) :=
 vM e o (λi a H k p=>l i a H _ (λ_ _ x=>x) k p) q
theorem AF{K:af}{a:Addr}{xs:List V}{g:TG}{j:TS}{D:Ends}{b:L2.St}{H:Hp}(f:Nat->L2.St->Hp->Prop)(o:f 0 b H)(hl:∀i b H,i<=xs.length->f i b H->bP K H a xs)
 (n:∀i x b H (N:L2.St->Hp->Prop),(∀c d,f (i+1) c d->N c d)->xs[i]?=some x->f i b H->g x b H λe h=>j {D with nx:=N,ct:=N,bk:=D.nx} e h) (q:∀b H,f xs.length b H->D.nx b H) :
 ∃W:Nat->Nat->L2.St->Hp->Prop,(∃m,W 0 m b H)/\∀i m b H,W i m b H ->
  ((Kn K a).stop i H/\D.nx b H)∨((Kn K a).go i H/\∃N:L2.St->Hp->Prop,(∀c d,N c d->∃k,k<m/\W (i+1) k c d)/\∀x d,(Kn K a).Km i H x d->g x b d λe h=>j {D with nx:=N,ct:=N,bk:=D.nx} e h) :=
 se f o hl (λi x b H l p=>n i x b H _ (λ_ _ x=>x) l p) q
end TW
namespace TW
open PySem L2 PyProof.Rows
open RM (cR jV aZ aW)
seal L2.PE L2.PA L2.PT L2.PW L2.PS L2.iD L2.PG L2.kC L2.PI L2.kE
section
open Classical
noncomputable def zd(N:RM.Net)(R:Nat->RM.Row)(h:Nat):Option (Nat×Nat) :=
 if e:∃p:Nat×Nat,RM.om N R p.1 h p.2 then some (choose e) else none
end
theorem ug{N:RM.Net}{R:Nat->RM.Row}{h k g:Nat}:zd N R h=some (k,g)↔RM.om N R k h g:=by
 unfold zd;constructor
 ·intro e
  split at e
  ·rename_i q
   have:=Classical.choose_spec q
   rw[aK e] at this;exact this
  ·cases e
 ·intro t
  have q:∃p:Nat×Nat,RM.om N R p.1 h p.2:=⟨(k,g),t⟩;rw[dif_pos q];have u:=Classical.choose_spec q;obtain⟨b,a⟩:=u.uniq t;exact gU some (Prod.ext b a)
theorem Mi{N:RM.Net}{R:Nat->RM.Row}{h:Nat}(q:∀k g,¬RM.om N R k h g):zd N R h=none:=by
 cases e:zd N R h with
 |none=>rfl
 |some p=>exact eL (ug.mp e) (q p.1 p.2)
def uN(K:af)(H:Hp)(v:V):Option (Nat×Nat)->Prop
 |none=>v=.fH
 |some p=>∃t,v=.ref t/\cP K H t [.int (p.1:Nat),.int (p.2:Nat)]
theorem uN.mono{K:af}{H a:Hp}{v:V}{o:Option (Nat×Nat)}(s:aG H a)(h:uN K H v o):uN K a v o:=by
 cases o with
 |none=>exact h
 |some p =>
  obtain⟨t,e,q⟩:=h;exact⟨t,e,s.dB q⟩
theorem uN.lst{K:af}{H:Hp}{v:V}{o:Option (Nat×Nat)}{l:Addr}{xs:List V}{ob:HO}(hl:H l=some (.lst xs))(h:uN K H v o):uN K (upd H l ob) v o:=by
 cases o with
 |none=>exact h
 |some p =>
  obtain⟨t,e,q⟩:=h;exact⟨t,e,WK hl q⟩
def aan(K:af)(H:Hp)(l:Addr)(n:Nat)(u:Nat->Option (Nat×Nat)):Prop:=∃vs:List V,H l=some (.lst vs)/\vs.length=n/\∀(i:Nat) v,vs[i]?=some v->uN K H v (u i)
section
variable{ns:List Int}{rs:List R5}{live:List Nat}{nd:ns.Nodup}{ok:∀r∈rs,r.Ok ns.length}{hl:∀k∈live,k<rs.length}
theorem Us{R:Nat->RM.Row}{k h:Nat}(a:k∈live):(∃g,RM.om (aV ns rs live nd ok hl) R k h g)↔isAt rs (h:Int) k=true/\(R (fR (rs[k]'(hl k a)) h)).ho+1<ns.length/\R h=RM.over (aV ns rs live nd ok hl) k (R (fR (rs[k]'(hl k a)) h)):=by
 constructor
 ·rintro⟨g,t⟩
  obtain⟨b,c⟩:=(uf a).mp t.AB;subst c;exact⟨b,t.cut,t.eq⟩
 ·rintro⟨b,c,d⟩
  exact⟨_,(uf a).mpr ⟨b,rfl⟩,c,d⟩
theorem aao{R:Nat->RM.Row}{k h g:Nat}(t:RM.om (aV ns rs live nd ok hl) R k h g):g=fR (rs[k]'(hl k t.AB.1)) h:=((uf t.AB.1).mp t.AB).2
theorem OE{k h:Nat}(a:k<rs.length)(ok:∀r∈rs,r.Ok ns.length):fR rs[k] h<ns.length:=by
 have o:=ok _ (aQ a);have b:=o.a0;have c:=o.a1;have d:=o.b0;have e:=o.b1;unfold fR;split <;> lia
theorem Qg{k h:Nat}(c:k<rs.length)(ok:∀r∈rs,r.Ok ns.length):(if (h:Int)=rs[k].a then rs[k].b else rs[k].a)=((fR rs[k] h:Nat):Int):=by
 have o:=ok _ (aQ c);have d:=o.a0;have e:=o.b0;unfold fR;split <;> lia
end
theorem agH{x y z i:Int}(lo a:Int)(c:lo<=x/\x<=a)(d:lo<=y/\y<=a)(b:lo<=z/\z<=a)(f:0<=i)(e:i<3):∃w,(lo<=w/\w<=a)/\FF [V.int x,V.int y,V.int z] i=some (.int w):=by
 have:i=0∨i=1∨i=2:=∅
 rcases this with rfl|rfl|rfl
 ·exact⟨x,c,rfl⟩
 ·exact⟨y,d,rfl⟩
 ·exact⟨z,b,rfl⟩
theorem WQ(xs:List Nat):CC .fH (bR xs)=false:=by
 unfold CC;rw[Bool.eq_false_iff];intro h;obtain⟨x,a,e⟩:=wL.mp h;obtain⟨y,_,rfl⟩:=aL.mp a;cases e
end TW
namespace L2
open PySem PySem.Spec PyProof.Rows
theorem KI{us:List Value}{ns:List Int}(h:IntsAre us ns):bZ (ns.map V.int) us:=by
 induction h with
 |nil=>exact .nil
 |cons n t _ a=>exact .cons ⟨t,rfl⟩ a
section
variable{X:Cx}
def WR(K:af):List V->Hp->VK->Prop:=λxs H Q=>∃(a:Addr) (ns:List Int),xs=[.ref a]/\bP K H a (ns.map V.int)/\ns.length<64/\∀l (ns':List Int),H l=none->ns'.Perm ns->ns'.Pairwise (·<=·)->Q (.ref l) (upd H l (.lst (ns'.map V.int)))
theorem EV:nX X (.builtin "sorted") (WR X.K):=by
 intro h s z H y w Q I r ⟨a,t,e,m,i,q⟩;subst e;obtain⟨u,e,l⟩:=bZ.one r;subst e;cases l;obtain⟨c,n,p,x⟩:=I.list m;have f:IntsAre c t:=intsAre_of n;have g:=IntsAre.length f;refine sorted_ints (vs:=c) p.isList f ∅ λout d k a2 v=>?_;obtain⟨e,j⟩:=sortedAll_at s.heap c out;refine⟨.ref (s.heap.objs.size+1),_,I.laid (a:=s.heap.objs.size+1) (o:=.lst (d.map V.int)) (t':=s.toks) (λb o e=>sortedAll_old e) (cV _) ⟨?_,out.toList,e,KI k,?_⟩,rfl,q _ d (I.hok.fresh (cV _)) a2 v⟩
 ·rw[ah,a2.length_eq]
  exact kg (cS ∅)
 ·rw[j]
end
end L2
namespace TW
open PySem L2 PyProof.Rows
open RM (cR jV aZ aW)
seal L2.PE L2.PA L2.PT L2.PW L2.PS L2.iD L2.PG L2.kC L2.PI L2.kE
theorem JF:∀{xs b:List Nat},xs.Pairwise (·<·)->b.Pairwise (·<·)->(∀k,k∈xs↔k∈b)->xs=b
 |[],[],_,_,_=>rfl
 |[],y::b,_,_,h=>eL ((h y).mpr b9) (-_)
 |x::xs,[],_,_,h=>eL ((h x).mp b9) (-_)
 |x::xs,y::b,d,f,h=>by
  have c:=rZ.mp d;have a:=rZ.mp f;have e:x=y:=by
   rcases bf.mp ((h x).mp b9) with z|z
   ·exact z
   ·rcases bf.mp ((h y).mpr b9) with w|w
    ·exact w.symm
    ·have:=a.1 x z
     have:=c.1 y w
     lia
  subst e;rw[JF c.2 a.2 λk=>?_];constructor
  ·intro z
   rcases bf.mp ((h k).mp (bu _ z)) with w|w
   ·have:=c.1 k z;lia
   ·exact w
  ·intro z
   rcases bf.mp ((h k).mpr (bu _ z)) with w|w
   ·have:=a.1 k z;lia
   ·exact w
theorem om.lt{N:RM.Net}{R:Nat->RM.Row}{k h g:Nat}(t:RM.om N R k h g):h<N.n/\g<N.n:=⟨t.AB.lt.1,t.AB.lt.2.1⟩
def eU(N:RM.Net)(R:Nat->RM.Row)(os:List Nat):Prop:=os.Pairwise (·<·)/\∀k,k∈os↔∃h g,RM.om N R k h g
theorem eU.uniq{N:RM.Net}{R:Nat->RM.Row}{xs c:List Nat}(a:eU N R xs)(b:eU N R c):xs=c:=JF a.1 b.1 λk=>(a.2 k).trans (b.2 k).symm
theorem Mj{i:List Nat}{c:List Int}(p:c.Perm (i.map λk:Nat=>(k:Int)))(t:c.Pairwise (·<=·))(nd:i.Nodup):∃os:List Nat,c.map V.int=bR os/\os.Pairwise (·<·)/\(∀k,k∈os↔k∈i)/\os.length=i.length:=by
 have j:∀m∈c,∃k:Nat,m=(k:Int)/\k∈i:=λm d=>by
  obtain⟨k,g,e⟩:=aL.mp (p.mem_iff.mp d);exact⟨k,e.symm,g⟩
 have o:(c.map Int.toNat).map (λk:Nat=>(k:Int))=c:=by
  rw[dw]
  conv=>rhs;rw[<- List.map_id c]
  apply c6;intro m d;obtain⟨k,e,_⟩:=j m d;rw[e];rfl
 have l:c.Nodup:=by
  refine p.nodup_iff.mpr ?_;unfold List.Nodup;rw[List.pairwise_map];exact nd.imp λh e=>h ∅
 refine⟨c.map Int.toNat,?_,?_,λk=>?_,by rw[ah,p.length_eq,ah]⟩
 ·rw[jJ,o]
 ·rw[List.pairwise_map]
  have f:=List.pairwise_and_iff.mpr ⟨t,l⟩;refine List.Pairwise.imp_of_mem (λ{a b} r s h=>?_) f;obtain⟨x,v,_⟩:=j a r;obtain⟨y,n,_⟩:=j b s;have u:=h.1;have w:=h.2;lia
 ·constructor
  ·intro g
   obtain⟨m,d,e⟩:=aL.mp g;obtain⟨y,n,q⟩:=j m d;rw[n] at e
   have:y=k:=by rw[<- e];rfl
   exact this▸q
  ·intro g
   have:((k:Nat):Int)∈c:=p.mem_iff.mpr (aL.mpr ⟨k,g,rfl⟩)
   exact aL.mpr ⟨_,this,rfl⟩
end TW
namespace TW
open PySem L2 PyProof.Rows Gr
open RM (cR jV aZ aW)
section
variable{ns:List Int}{rs:List R5}{live:List Nat}{nd:ns.Nodup}{ok:∀r∈rs,r.Ok ns.length}{hl:∀k∈live,k<rs.length}
theorem Ml{R:Nat->RM.Row}{os:List Nat}(O:eU (aV ns rs live nd ok hl) R os):∀k∈os,k<rs.length:=λk a=>by
 obtain⟨h,g,t⟩:=(O.2 k).mp a;exact hl k t.AB.1
end
end TW
namespace L2
open PySem PySem.Calls PySem.Spec PyProof.Rows PyProof.V PySem.W
end L2
namespace Gr
end Gr
namespace TW
open PySem L2 PyProof.Rows Gr
end TW
namespace L2
open PySem PySem.Calls PySem.Spec PyProof.Rows PyProof.V PySem.W
end L2
namespace TW
open PySem L2 PyProof.Rows Gr
end TW
namespace TW
open PySem L2 PyProof.Rows
noncomputable def stand(b:List Bool):List Nat:=(aA b.length).filter λk=>b.getD k false
theorem RU{b:List Bool}{k:Nat}:k∈stand b↔b[k]?=some true:=by
 unfold stand;rw[bC,dm,az];constructor
 ·rintro⟨a,c⟩
  rw[aa a] at c ⊢
  simpa using c
 ·intro h
  have a:=(ai.mp h).1;exact⟨a,by rw[h];rfl⟩
theorem OF(b:List Bool):(stand b).Pairwise (·<·):=List.Pairwise.filter _ List.pairwise_lt_range
theorem Mm:∀{xs b:List Nat},xs.Pairwise (·<·)->b.Pairwise (·<·)->(∀k,k∈xs↔k∈b)->xs=b
 |[],[],_,_,_=>rfl
 |[],y::b,_,_,h=>eL ((h y).mpr (-_)) (-_)
 |x::xs,[],_,_,h=>eL ((h x).mp (-_)) (-_)
 |x::xs,y::b,c,d,h=>by
  rw[rZ] at c d;have e:x=y:=by
   have h1:=(h x).mp (-_);have h2:=(h y).mpr (-_);rw[bf] at h1 h2;rcases h1 with h1|h1
   ·exact h1
   ·rcases h2 with h2|h2
    ·exact h2.symm
    ·have:=c.1 _ h2
     have:=d.1 _ h1
     lia
  subst e;rw[Mm c.2 d.2 λk=>?_];constructor
  ·intro a
   rcases bf.mp ((h k).mp (bu _ a)) with rfl|z
   ·exact eL (c.1 _ a) (iZ _)
   ·exact z
  ·intro a
   rcases bf.mp ((h k).mpr (bu _ a)) with rfl|z
   ·exact eL (d.1 _ a) (iZ _)
   ·exact z
theorem OG(n:Nat):stand (k7 n true)=aA n:=by
 refine Mm (OF _) List.pairwise_lt_range λj=>?_;rw[RU,List.getElem?_replicate,dm];by_cases h:j<n
 ·simp[h]
 ·simp[h]
def Fit(rs:List R5)(bs:List (List Bool)):Prop:=bs.length=rs.length/\∀(i:Nat) r b,rs[i]?=some r->bs[i]?=some b->(b.length:Int)=r.d
structure Qh(C:Addr)(H:Hp)(p tp lu:Addr)(ws:List (List Nat)):Prop where
 ob:∃dx,H p=some (.ins C dx [("town",.ref tp),("upright",.ref lu)])
 up:∃ls:List Addr,H lu=some (.lst (ls.map V.ref))/\ls.length=ws.length/\∀(i:Nat) l w,ls[i]?=some l->ws[i]?=some w->H l=some (.lst (bR w))
section
variable{C:Addr}{H H':Hp}{p tp lu:Addr}{ws:List (List Nat)}
theorem c7.but{K:af}{C m n:Addr}{q:List (Str×V)}{tp e f:Addr}{ns:List Int}{rs:List R5}(h:c7 K C H tp e f ns rs)(k:∀b o,H b=some o->b≠p->H' b=some o)(a:H p=some (.ins m n q))(r:tp≠p):c7 K C H' tp e f ns rs:=by
 obtain⟨⟨d,i⟩,c,l,g,j⟩:=h;exact⟨⟨d,k _ _ i r⟩,k _ _ c (vL c a (by intro z;cases z)),l,k _ _ g (vL g a (by intro z;cases z)),jH k a j⟩
end
end TW
namespace L2
open PySem PySem.Spec PyProof.Rows
section
variable{X:Cx}
theorem RV(K:af)(e:X.K=K){a:Expr}{c:TE}(d:PE X a c)(f:∀b,isTrue a X.env b=(do let v <- b;standAt a.pos;holding [v] (truthy v))):PT X a (Ug K c):=by
 subst e;exact RQ d f
end
end L2
namespace TW
open PySem L2 PyProof.Rows
noncomputable def Qi(e:Int)(g:Nat):Bool:=decide (e/2^g%2=1)
theorem Ut{e z:Int}{g:Nat}(d:1<=e)(f:e<=7)(a:([1,2,4]:List Int)[g]?=some z):(!decide (Builtin.bitAnd e z=0))=Qi e g:=by
 have b:g=0∨g=1∨g=2:=by
  have:=(ai.mp a).1
  simp at this;lia
 have c:e=1∨e=2∨e=3∨e=4∨e=5∨e=6∨e=7:=∅
 rcases b with rfl|rfl|rfl <;> cases a <;> rcases c with rfl|rfl|rfl|rfl|rfl|rfl|rfl <;> decide +kernel
theorem agI{g:Nat}(h:g<3):∃z,([1,2,4]:List Int)[g]?=some z:=⟨_,aa (by simpa using h)⟩
noncomputable def isLive(rs:List R5)(ws:List (List Nat))(g i:Nat):Bool:=match rs[i]?,ws[i]? with|some r,some w=>(!w.isEmpty)&&Qi r.e g|_,_=>false
noncomputable def ze(rs:List R5)(ws:List (List Nat))(g n:Nat):List Nat:=(aA n).filter (isLive rs ws g)
theorem zf(rs:List R5)(a:List (List Nat))(g n:Nat):ze rs a g (n+1)=ze rs a g n++(if isLive rs a g n=true then [n] else []):=by
 unfold ze;rw[mF,fO];congr 1;by_cases h:isLive rs a g n=true
 ·rw[ee h,fj,ee h];rfl
 ·rw[er h,fj,er h];rfl
theorem OH(rs:List R5)(a:List (List Nat))(g n:Nat):(ze rs a g n).length<=n:=by
 have:=aX (isLive rs a g) (aA n)
 rw[bB] at this;exact this
end TW
namespace L2
open PySem PySem.Spec PyProof.Rows
structure YI(K:af)(C:Addr)(m:Str)(f:Addr):Prop where
 hg:PySem.W.specialIn K (.ref C) "__getattribute__" = some (some (.builtin "type.__getattribute__"))
 hr:PySem.W.readsIn K C (.type "type")=true
 md:PySem.W.findCls K (.ref C) (.type "type") m=some (.val (.ref f))
 kp:dX K (.ref f)=true
section
variable{X:Cx}
theorem DM{e:Expr}{t u:TE}(c:PE X e t)(d:PE X e u):PE X e (λb H Q=>t b H Q∨u b H Q):=λa s b H Q I h=>h.elim (c a s b H Q I) (d a s b H Q I)
end
def ac3(C:Addr)(sp:Sp)(Bv:List V)(E:XK)(ta:TE)(t:TA):TE:=λσ H Q=>ta σ H λx H1=>x=.ref C/\t σ H1 λvs H2=>sp (vs++Bv) H2 Q E
section
variable{X:Cx}{CX:Rt}{k:Nat}{f C:Addr}{fd:FuncData}{ps:List Str}{sp:Sp}{Bv:List V}{ds:List Value}{E:XK}{x m:Str}{p pos apos:Pos}{e o:Expr}{es:List Expr}{ta:TE}{t:TA}
theorem OI{pl:Sem Bool}(y:PE X o ta)(c:YI X.K C m f)
 (F:cz X.prog X.w X.K X.mg X.base CX k f fd ps sp) (hr:jE k X.A) (N:Binds X.K fd ps ds) (G:bZ Bv ds) (p:sj CX X E) (D:PA X (e::es) t)
 (g:starEach (e::es) X.env=(false,eval e X.env)::starEach es X.env:=by rfl) (d:(backTo pos (starEach es X.env)).any (·.1)=false:=by rfl)
 (J:eval (.Call (.Attribute o m apos) (e::es) [] pos) X.env=(do
  let i <- eval o X.env
  standAt apos.atName
  let (f,first) <- holding [i] (getMethod i m pl)
  callWith pos f first (backTo pos (starEach (e::es) X.env)) (backToKw pos (keywordEach [] X.env))):=by rfl) :
 PE X (.Call (.Attribute o m apos) (e::es) [] pos) (ac3 C sp Bv E ta t):=by
 intro a s l H Q I h;refine PySem.W.methodCall_KW (pl:=pl) (gA (y a s l H _ I h) λu L ⟨x,M,b,z,n,q⟩=>?_) J;subst n;obtain rfl:u=Value.ref C:=z;refine PySem.W.method_cls b.Br c.hg (PySem.W.cls_value b.Br c.hr c.md rfl ?_);have B:=b.tok (L.toks+1);refine PySem.W.callWith_K (first:=[]) (h₀:=X.base) I.ok.mod.ZD c.kp (gA (D pos a _ l M _ B q) λus P ⟨vs,O,j,r,v⟩=>⟨j.Br,?_⟩) g d;exact Kq (us:=us) (vs:=vs) F hr N G p j r v
end
end L2
namespace TW
open PySem L2 PyProof.Rows
theorem EW{b:Bool}{A B:Prop}(e:b=false)(h:B):if b=true then A else B:=by subst e;exact eZ h
theorem Uu{b:Bool}{A B:Prop}(e:b=true)(h:A):if b=true then A else B:=by subst e;exact gC h
inductive EX(cL c1 cA:Addr)(H:Hp)(a:Addr)(s to:Int):Int->Prop
 |bare (dx:Addr) (h:H a=some (.ins cL dx [("sender",.int s)])):EX cL c1 cA H a s to 0
 |one (dx:Addr) (h:H a=some (.ins c1 dx [("sender",.int s),("to",.int to)])):EX cL c1 cA H a s to 1
 |all (dx:Addr) (h:H a=some (.ins cA dx [("sender",.int s)])):EX cL c1 cA H a s to 2
section
variable{cL c1 cA:Addr}{H H':Hp}{a lh q:Addr}{s to k:Int}{xs:List V}
theorem EX.mono(h:EX cL c1 cA H a s to k)(e:aG H H'):EX cL c1 cA H' a s to k:=by
 cases h with
 |bare b h=>exact .bare b (e _ _ h)
 |one b h=>exact .one b (e _ _ h)
 |all b h=>exact .all b (e _ _ h)
end
end TW
namespace L2
open PySem PySem.W PyProof.Rows
section
variable{n:Nat}{r:Nat->Int}{cmp:Nat->Nat->(Bool->Shared->Prop)->Shared->Prop}{s:Shared}
variable(hc:∀i j C,i<n->j<n->C (decide (r i<r j)) s->cmp i j C s)
include hc
end
end L2
namespace L2
open PySem PySem.W PySem.Spec PyProof.Rows
abbrev T3:=Int×Int×Int
noncomputable def CH(x y:T3):Bool:=decide (x.1<y.1) || (decide (x.1=y.1)&&(decide (x.2.1<y.2.1) || (decide (x.2.1=y.2.1)&&decide (x.2.2<y.2.2))))
theorem wX{x y:T3}:CH x y=true↔x.1<y.1∨(x.1=y.1/\(x.2.1<y.2.1∨(x.2.1=y.2.1/\x.2.2<y.2.2))):=by
 unfold CH;simp[Bool.or_eq_true,c9]
theorem RW{x y z:T3}(a:CH x y=true)(b:CH y z=true):CH x z=true:=by
 rw[wX] at *;lia
theorem WS(x:T3):CH x x=false:=by
 rw[Bool.eq_false_iff];intro z;rw[wX] at z;lia
theorem le3{x y z:T3}(a:CH x y=false)(b:CH z y=true):CH z x=true:=by
 have c:¬CH x y=true:=by rw[a];exact aF
 rw[wX] at *;lia
noncomputable def EY(ts:List T3)(x:T3):Int:=((ts.filter λz=>CH z x).length:Nat)
theorem filter_le{α:Type}{p q:α->Bool}:∀{l:List α},(∀z,p z=true->q z=true)->(l.filter p).length<=(l.filter q).length
 |[],_=>ay _
 |a::l,h=>by
  have c:=filter_le (l:=l) h;rw[fj,fj];by_cases b:p a=true
  ·rw[ee b,ee (h a b),bx,bx];lia
  ·rw[er b]
   split
   ·rw[bx];lia
   ·exact c
theorem filter_lt{α:Type}{p q:α->Bool}{x:α}:∀{l:List α},(∀z,p z=true->q z=true)->x∈l->p x=false->q x=true->(l.filter p).length<(l.filter q).length
 |a::l,h,hx,c,d=>by
  rw[fj,fj];rcases bf.mp hx with rfl|hx
  ·rw[er (by rw[c];exact aF),ee d,bx]
   have:=filter_le (l:=l) h
   lia
  ·have e:=filter_lt h hx c d
   by_cases b:p a=true
   ·rw[ee b,ee (h a b),bx,bx];lia
   ·rw[er b]
    split
    ·rw[bx];lia
    ·exact e
theorem Mn{ts:List T3}{x y:T3}(b:x∈ts):decide (EY ts x<EY ts y)=CH x y:=by
 unfold EY;cases e:CH x y with
 |true =>
  refine e8 ?_
  have:=filter_lt (l:=ts) (p:=λz=>CH z x) (q:=λz=>CH z y) (x:=x) (λz a=>RW a e) b (WS x) e
  lia
 |false =>
  refine fy ?_
  have:=filter_le (l:=ts) (p:=λz=>CH z y) (q:=λz=>CH z x) (λz a=>le3 e a)
  lia
noncomputable abbrev D0(x:T3):List V:=[.int x.1,.int x.2.1,.int x.2.2]
def NO(h:Heap)(v:Value)(x:T3):Prop:=∃(q:Addr) (o:Obj) (n:Nat) (t1 t2 t3:Tok),v=.ref q/\h.get? q=some o/\o.cls=.type "tuple" /\ o.data=.seq #[.int x.1 t1,.int x.2.1 t2,.int x.2.2 t3] n
section
variable{prog:Program}{w:World}{A:Around}{s:Shared}
theorem aap{E:Value->Shared->Prop}{u v:Value}{x y:T3}{C:Bool->Shared->Prop}(l:NO s.heap u x)(i:NO s.heap v y)(k:C (CH x y) s):wpAny (model prog w) A (keyLt' (tuples' true) u v) C E s:=by
 obtain⟨p,o,n,r,H,t,rfl,f,B,j⟩:=l;obtain⟨q,J,m,I,F,D,rfl,h,G,g⟩:=i;refine kat_lt f j h g ?_;refine kat_cons (wpAny_eqBool_int (kat_go (λa=>kat_yes ?_) λa=>kat_no (oneLt_int ?_)))
 case refine_2 =>
  have d:¬x.1=y.1:=by simpa using a
  have e:CH x y=decide (x.1<y.1):=by unfold CH;rw[fy d];simp
  rw[<- e];exact k
 have a:x.1=y.1:=by simpa using a
 refine kat_cons (wpAny_eqBool_int (kat_go (λb=>kat_yes ?_) λb=>kat_no (kat_one _ _ (lt_int ?_))))
 case refine_2 =>
  have d:¬x.2.1=y.2.1:=by simpa using b
  have e:CH x y=decide (x.2.1<y.2.1):=by rw[iC,wX,decide_eq_true_eq];lia
  rw[<- e];exact k
 have b:x.2.1=y.2.1:=by simpa using b
 refine kat_cons (wpAny_eqBool_int (kat_go (λc=>kat_yes (kat_nil ?_)) λc=>kat_no (kat_one _ _ (lt_int ?_))))
 ·have c:x.2.2=y.2.2:=by simpa using c
  have e:CH x y=false:=by
   rw[Bool.eq_false_iff];intro z;rw[wX] at z;lia
  rw[e] at k;exact k
 ·have e:CH x y=decide (x.2.2<y.2.2):=by rw[iC,wX,decide_eq_true_eq];lia
  rw[<- e];exact k
theorem GN{h:Heap}:∀{vs:List Value} {ts:List T3},vs.length=ts.length->(∀(i:Nat) v x,vs[i]?=some v->ts[i]?=some x->NO h v x)->∃d,KatTups h vs d/\d.length=vs.length/\∀f∈d,∃i t,f=Value.int i t
 |[],[],_,_=>⟨[],trivial,rfl,λ_ hf=>eL hf (-_)⟩
 |v::vs,x::ts,hl,h=>by
  obtain⟨d,a,b,c⟩:=GN (vs:=vs) (ts:=ts) (by simpa using hl) λi v x j g=>h (i+1) v x (by simpa using j) (by simpa using g);obtain⟨q,o,n,k,r,p,rfl,e,l,m⟩:=h 0 v x rfl rfl;refine⟨.int x.1 k::d,KatTups.cons e l m rfl a,by simp[b],λf hf=>?_⟩;rcases bf.mp hf with rfl|hf
  ·exact⟨_,_,rfl⟩
  ·exact c f hf
end
section
variable{prog:Program}{w:World}{A:Around}{s:Shared}{E:Value->Shared->Prop}
theorem Uv{d:Addr}{v:Value}{c:Nat}{P:PySem.Fin->Shared->Prop}(b:s.heap.get? d=some (seqObj "list" [v].toArray c))(k:P (.done (.ret .none)) {s with heap:=sortedHeap s.heap d [v] #[v]}) :
 wpAny (model prog w) A (Builtin.«list.sort» ⟨[.ref d],[]⟩) P E s:=by
 have i:d<s.heap.objs.size:=Heap.lt_size b;rw[list_sort_plain];refine wpAny_bind (listItems_at b rfl (wpAny_bind (listUpdate_at b rfl ?_)));have a:∃e,(s.heap.update d (Obj.mapSeq λ_=>#[])).get? d=some (seqObj "list" #[] e):=⟨_,get?_update_seq b (λ_=>#[])⟩;obtain⟨e,a⟩:=a;refine wpAny_bind (seqEpoch_at a rfl (wpAny_bind (wpAny_newTuple (wpAny_bind (wpAny_newList (wpAny_holding ?_))))));have j:(s.heap.update d (Obj.mapSeq λ_=>#[])).objs.size=s.heap.objs.size:=Heap.size_update _ _ _;have h:(((s.heap.update d (Obj.mapSeq λ_=>#[])).push (seqObj "tuple" [v].toArray 0)).push (seqObj "list" #[] 0)).get? d=some (seqObj "list" #[] e) :=
  Heap.get?_push_of_some _ (Heap.get?_push_of_some _ a)
 show wpAny (model prog w) A _ P E {s with heap:=((s.heap.update d (Obj.mapSeq λ_=>#[])).push (seqObj "tuple" [v].toArray 0)).push (seqObj "list" #[] 0)};have f:[v].toArray.size<2:=-_
 have g:(arrOf (SortSt.mk' general' (#[v].zip #[v]) #[] 7 none)).map (·.2)=#[v]:=by
  show (#[v].zip #[v]).map (·.2)=#[v];simp
 dsimp only;rw[ee f,ee f];refine wpAny_bind (wpAny_pure ?_);rw[StateT.run_pure];refine wpAny_bind (wpAny_pure (wpAny_bind (seqEpoch_at h rfl (wpAny_bind (listUpdate_at h rfl ?_ (hsz2:=?_))))))
 ·simp only[bne_self_eq_false,mq,if_false]
  refine wpAny_pure ?_;rw[g];exact k
 ·show ((arrOf (SortSt.mk' general' (#[v].zip #[v]) #[] 7 none)).map (·.2)).size<=sizeLine+1
  rw[g];show 1<=sizeLine+1;exact Nat.le_add_left _ _
theorem OJ{l:Addr}{v:Value}{Q:Value->Shared->Prop}(hl:s.heap.IsList l [v].toArray)(k:Q (.ref (s.heap.objs.size+1)) {s with heap:=sortedAll s.heap [v] #[v]}):wpAny (model prog w) A (call (.builtin "sorted") [.ref l]) Q E s:=by
 refine Calls.call_function_entry kind_sorted plain_sorted entry_sorted (args_sorted1 _) ?_;unfold Builtin.«sorted»;refine wpAny_bind (m:=checkCount "sorted" 1 1 _) (wpAny_pure (wpAny_bind (collect_list hl (wpAny_bind (wpAny_newList ?_)))));have a:((s.heap.push (seqObj "list" #[] 0)).update s.heap.objs.size (Obj.mapSeq (·++[v].toArray))).objs.size=s.heap.objs.size+1:=(Heap.size_update _ _ _).trans (size_push' _ _);have b:(((s.heap.push (seqObj "list" #[] 0)).update s.heap.objs.size (Obj.mapSeq (·++[v].toArray))).push (seqObj "list" [v].toArray 0)).get? (s.heap.objs.size+1)=some (seqObj "list" [v].toArray 0):=a▸Heap.get?_push_size _ rfl;show wpAny _ _ _ _ _ {s with heap:=((s.heap.push (seqObj "list" #[] 0)).update s.heap.objs.size (Obj.mapSeq (·++[v].toArray))).push (seqObj "list" [v].toArray 0)};rw[a];exact wpAny_bind (wpAny_holding (wpAny_call_entry slot_list_sort ⟨_,b,rfl⟩ entry_list_sort (Uv b ⟨_,rfl,wpAny_pure ⟨_,rfl,k⟩⟩) (args_list_sort _)))
end
def fT(K:af)(H:Hp)(qs:List Addr)(ts:List T3):Prop:=qs.length=ts.length/\∀(i:Nat) q t,qs[i]?=some q->ts[i]?=some t->cP K H q (D0 t)
theorem fT.mono{K:af}{H c:Hp}{qs:List Addr}{ts:List T3}(s:aG H c)(h:fT K H qs ts):fT K c qs ts:=⟨h.1,λi q t a b=>s.dB (h.2 i q t a b)⟩
def AG(ts:List T3):Prop:=∀(i j:Nat) (x y:T3),i<j->ts[i]?=some x->ts[j]?=some y->CH y x=false
section
variable{X:Cx}
theorem Qj:∀{qs:List Addr} {a:List Value},bZ (qs.map V.ref) a->a=qs.map Value.ref
 |[],_,r=>by cases r;rfl
 |q::qs,_,r=>by
  cases r with
  |cons h t =>
   have h:_=Value.ref q:=h;rw[h,Qj t];rfl
theorem DN:∀qs:List Addr,bZ (qs.map V.ref) (qs.map Value.ref)
 |[]=>.nil
 |q::qs=>.cons rfl (DN qs)
end
section
variable{X:Cx}{pins:List (Addr×Obj)}{σ:St}{H:Hp}{s:Shared}
theorem Inv.agJ{d:Addr}{o:Obj}{u:HO}(I:Inv X pins σ H s)(l:H d=some (.Ax o u))(D:∀f g,X.H₀ d≠some (.Ax f g)):Inv X pins σ (upd H d u) s:=by
 have m:∀b v,H b=some v->(∀f g,v≠.Ax f g)->b≠d:=λb v e C z=>by
  rw[z,l] at e;cases e;exact C _ _ rfl
 have k:∀b,H b=none->(upd H d u) b=none:=λb e=>by
  rw[aH (λz=>by rw[z,l] at e;cases e)];exact e
 have w:∀b y,H b=some (.own y)->(upd H d u) b=some (.own y):=λb y e=>by rw[aH (m b _ e (by intro _ _ z;cases z))];exact e
 have t:∀b h,H b=some (.tup h)->(upd H d u) b=some (.tup h):=λb h e=>by rw[aH (m b _ e (by intro _ _ z;cases z))];exact e
 refine⟨I.ok,I.os,I.bare,⟨I.base.keep,I.base.slot,λb f e n B=>k b (I.base.free b f e n B),I.base.there,λb h e=>t b h (I.base.tups b h e),λb f g e=>?_,λb E e=>?_⟩,I.loc,I.cell,k _ I.free,λx c e=>k c (I.uc x c e),λp F=>?_,λb v e=>?_,I.len⟩
 ·have j:=I.base.AV b f g e
  rw[aH (λz=>D f g (by rw[<- z];exact e))];exact j
 ·obtain⟨i,j⟩:=I.base.Cq b E e
  exact⟨i,by rw[aH (m b _ j (by intro _ _ z;cases z))];exact j⟩
 ·obtain⟨a,b,c⟩:=I.pin p F
  exact⟨a,k _ b,c⟩
 ·by_cases A:b=d
  ·subst A
   rw[au] at e;cases e;obtain⟨_,q⟩:=I.hok b _ l;exact q.stay (λc v _ r=>r) (λc r=>w c _ r) t
  ·rw[aH A] at e
   exact (I.hok b v e).stay (λc v _ r=>r) (λc r=>w c _ r) t
def ac4(t:TE):TE:=λσ H Q=>∃d kvs,H d=some (.dT kvs)/\t σ H λv H1=>∃o,H1 d=some (.Ax o (.dT kvs))/\Q v (upd H1 d (.dT kvs))
theorem WT{e:Expr}{t:TE}(h:PE X e t):PE X e (ac4 t):=by
 intro pins s σ H Q I ⟨d,k,f,q⟩;refine gA (h pins s σ H _ I q) λv l ⟨x,m,b,g,o,a,i⟩=>⟨x,_,b.agJ a (λj c z=>?_),g,i⟩
 have:=I.base.AV d j c z
 rw[f] at this;cases this
end
section
variable{prog:Program}{w:World}{A:Around}{E:Value->Shared->Prop}{s:Shared}{d v it:Addr}{od:Obj}{es:Array DictEntry}{ep:Nat}
theorem OL{Q:Value->Shared->Prop}(lo:(d==sysModules)=false)(b:s.heap.get? d=some od)(c:od.ExactDict)(e:od.data=.dict es ep)
 (k:Q (.ref s.heap.objs.size) {s with heap:=s.heap.push {cls:=.type "dict_items",data:=.fields #[.ref d]}}):wpAny (model prog w) A (call (.builtin "dict.items") [.ref d]) Q E s:=by
 have a:s.TypeIs (.ref d) "dict" := ⟨od,b,c.1⟩;refine wpAny_call_entry F.slot_dict_items a F.entry_dict_items ?_ (F.args_dict_items_1 _);unfold Builtin.«dict.items» Builtin.Dict.noArgs Builtin.Dict.showsAll;refine wpAny_bind (wpAny_bind (wpAny_notOrdered_dict a (wpAny_pure ?_)));rw[er (by rw[lo];exact aF)];exact wpAny_bind (wpAny_pure (wpAny_bind (wpAny_newObj_type (wpAny_pure ⟨_,rfl,k⟩))))
theorem OM{Q:Value->Shared->Prop}(a:s.heap.IsItemsView v d)(b:s.heap.get? d=some od)(c:od.data=.dict es ep)
 (k:Q (.ref s.heap.objs.size) {s with heap:=s.heap.push {cls:=.type "dict_itemiterator",data:=.fields #[.none,.bool false,.ref d,.int 0 0,.int es.size 0,.int ep 0,.none,.none]}}):wpAny (model prog w) A (pyIter (.ref v)) Q E s:=by
 obtain⟨h,f,g,e⟩:=id a;have own:Builtin.Dict_items.ownsTuple "dict_itemiterator" = true:=!_
 refine wpAny_pyIter_slot a.typeIs F.slot_dict_items_iter (wpAny_call_entry F.slot_dict_items_iter a.typeIs F.entry_dict_items_iter ?_ (F.args_dict_items_iter_1 _));unfold Builtin.«dict_items.__iter__» Builtin.Dict_items.dictOf Builtin.Dict_items.newIterator;refine wpAny_bind (wpAny_pure (wpAny_bind (wpAny_bind (wpAny_field f e (x:=.ref d) rfl (wpAny_pure (wpAny_bind (wpAny_bind (wpAny_dictEntries b c (wpAny_bind (wpAny_dictEpoch b c ?_))))))))));simp only[own,if_true];refine wpAny_newObj_type (wpAny_pure ⟨_,rfl,"dict_itemiterator",_,⟨_,Heap.get?_push_size _ rfl,rfl⟩,F.slot_dict_itemiterator_next.lookup,?_⟩) ?_
 ·simpa [rawInt,Builtin.Dict_items.ownedTupleFields] using k
 ·simp[sizeOk,Builtin.Dict_items.ownedTupleFields,sizeLine_eq]
theorem ON{i:Nat}{a:DictEntry}{ok m:Value}{Q:Option Value->Shared->Prop}(y:IsItemIter s.heap it d i es.size ep ok m)(T:s.heap.get? d=some od)(h3:od.data=.dict es ep)(V:es[i]?=some a)
 (k:∀h',IsItemIterOut h' it d (i+1) es.size ep a.key a.val s.heap.objs.size->h'.get? s.heap.objs.size=some {cls:=.type "tuple",data:=.seq #[a.key,a.val]}->h'.objs.size=s.heap.objs.size+1 ->
  (∀b o,b≠it->s.heap.get? b=some o->h'.get? b=some o)->Q (some (.ref s.heap.objs.size)) {s with heap:=h'}):wpAny (model prog w) A (pyNext (.ref it)) Q E s:=by
 obtain⟨h,g,l,p,os⟩:=s;have r:Shared.TypeIs ⟨h,g,l,p,os⟩ (.ref it) "dict_itemiterator" := ⟨_,y,rfl⟩;have own:Builtin.Dict_items.ownsTuple "dict_itemiterator" = true:=!_
 obtain⟨hlt,hen⟩:=gh.mp V;unfold pyNext;refine wpAny_bind (wpAny_attempt (wpAny_callSpecial?_slot (name:=Str.ofString "__next__") r F.slot_dict_itemiterator_next (wpAny_call_entry F.slot_dict_itemiterator_next r F.entry_dict_itemiterator_next ?_ (F.args_dict_itemiterator_next_1 _))));refine wpAny_bind (wpAny_pure (wpAny_bind (wpAny_bind (wpAny_bind (wpAny_typeNameOfWhole_itemiter r (wpAny_pure (wpAny_bind (wpAny_fieldsOf y rfl ?_))))))));simp only[own,if_true];have nn:¬(Value.ref d==Value.none)=true:=aF;have J:¬(i:Int)<0:=∅
 show wpAny (model prog w) A.in1 (if (Value.ref d==Value.none)=true then _ else _) _ _ _;rw[er nn];refine wpAny_bind (wpAny_pure (wpAny_bind (wpAny_dictEntries T h3 ?_)));rw[er (-_)];refine wpAny_bind (wpAny_pure (wpAny_bind (wpAny_dictEpoch T h3 ?_)));rw[er (-_)];refine wpAny_pure ?_;simp only[J,if_false,cy,V];refine wpAny_bind (wpAny_bind (wpAny_typeNameOfWhole_itemiter r (wpAny_pure (wpAny_bind (wpAny_isOneOf_itemiter r ?_)))));have t0:(rawInt ((i:Int)+1))=Value.int ((i+1:Nat):Int) 0:=by
  show Value.int ((i:Int)+1) 0=_;rw[show ((i+1:Nat):Int)=(i:Int)+1 by lia]
 show wpAny _ _ (setField (.ref it) 3 (rawInt ((i:Int)+1)) >>= _) _ _ ⟨h,g,l,p,os⟩;rw[t0];refine wpAny_bind (wpAny_setField_rec y (-_) λj z c=>wpAny_bind (wpAny_holding ?_));have z:IsItemIter j it d (i+1) es.size ep ok m:=z;have c:Heap.SameBut it h j:=c;have u:Shared.TypeIs ⟨j,g,l,p,os⟩ (.ref it) "dict_itemiterator" := ⟨_,z,rfl⟩;have M:j.objs.size=h.objs.size:=c.1;have K:it<h.objs.size:=Heap.lt_size y;refine wpAny_bind (wpAny_isOneOf_itemiter u (wpAny_bind (wpAny_isOneOf_itemiter u ?_)));show wpAny _ _ (Builtin.Dict_items.pairFromOwner (.ref it) 6 a.key a.val) _ _ ⟨j,g,l,p,os⟩;unfold Builtin.Dict_items.pairFromOwner;refine wpAny_bind (wpAny_newTuple ?_);obtain⟨f,t⟩:∃f,j.push {cls:=.type "tuple",data:=.seq #[a.key,a.val]}=f:=⟨_,rfl⟩;have v:IsItemIter f it d (i+1) es.size ep ok m:=t▸Heap.get?_push_of_some _ z;have S:f.get? h.objs.size=some {cls:=.type "tuple",data:=.seq #[a.key,a.val]}:=by
  rw[<- t,<- M];exact Heap.get?_push_size _ rfl
 have z5:f.objs.size=h.objs.size+1:=by rw[<- t,Heap.size_push,M]
 have k5:∀b o,b≠it->h.get? b=some o->f.get? b=some o:=λb o e q=>t▸Heap.get?_push_of_some _ (c.extBut b o e q);show wpAny _ _ (Builtin.Dict_items.ownedTupleIsFree (.ref it) >>= _) _ _ ⟨j.push {cls:=.type "tuple",data:=.seq #[a.key,a.val]},g,l,p,os⟩;rw[t,M];unfold Builtin.Dict_items.ownedTupleIsFree;refine wpAny_bind (wpAny_bind (wpAny_field v rfl (x:=.none) rfl (wpAny_pure ?_)));simp only[if_true];refine wpAny_bind (wpAny_field v rfl (x:=ok) rfl (wpAny_bind (wpAny_field v rfl (x:=m) rfl ?_)));refine wpAny_bind (wpAny_setField_rec v (-_) λC L I=>?_);have L:IsItemIter C it d (i+1) es.size ep a.key m:=L;refine wpAny_bind (wpAny_setField_rec L (-_) λN D P=>?_);have D:IsItemIter N it d (i+1) es.size ep a.key a.val:=D;refine wpAny_bind (wpAny_setField_rec D (-_) λR O H=>?_);have O:IsItemIterOut R it d (i+1) es.size ep a.key a.val h.objs.size:=O;refine wpAny_bind (wpAny_setField_rec O (-_) λn G B=>?_);have G:IsItemIterOut n it d (i+1) es.size ep a.key a.val h.objs.size:=G;have X:Heap.SameBut it f C:=I;have W:Heap.SameBut it C N:=P;have Z:Heap.SameBut it N R:=H;have U:Heap.SameBut it R n:=B;have Y:∀b o,b≠it->f.get? b=some o->n.get? b=some o:=λb o e q=>U.extBut b o e (Z.extBut b o e (W.extBut b o e (X.extBut b o e q)));refine wpAny_bind (wpAny_letGo (wpAny_pure (wpAny_pure ⟨_,rfl,wpAny_pure (k n G (Y _ _ (Nat.ne_of_gt K) S) ?_ λb o e q=>Y b o e (k5 b o e q))⟩)));show n.objs.size=h.objs.size+1;rw[U.1,Z.1,W.1,X.1,z5]
theorem RX{i:Nat}{ok j:Value}{Q:Option Value->Shared->Prop}(o:A.handled=none)(e:IsItemIter s.heap it d i es.size ep ok j)(g:s.heap.get? d=some od)(h:od.data=.dict es ep)(n:es.size<=i)
 (k:∀h',Heap.ExtBut it s.heap h'->Q none {s with heap:=h'}):wpAny (model prog w) A (pyNext (.ref it)) Q E s:=by
 have c:s.TypeIs (.ref it) "dict_itemiterator" := ⟨_,e,rfl⟩;have own:Builtin.Dict_items.ownsTuple "dict_itemiterator" = true:=!_
 have l:¬(Value.ref d==Value.none)=true:=aF;have f:¬(i:Int)<0:=∅
 unfold pyNext;refine wpAny_bind (wpAny_attempt (wpAny_callSpecial?_slot (name:=Str.ofString "__next__") c F.slot_dict_itemiterator_next (wpAny_call_entry F.slot_dict_itemiterator_next c F.entry_dict_itemiterator_next ?_ (F.args_dict_itemiterator_next_1 _))));refine wpAny_bind (wpAny_pure (wpAny_bind (wpAny_bind (wpAny_bind (wpAny_typeNameOfWhole_itemiter c (wpAny_pure (wpAny_bind (wpAny_fieldsOf e rfl ?_))))))));simp only[own,if_true];show wpAny (model prog w) A.in1 (if (Value.ref d==Value.none)=true then _ else _) _ _ _;rw[er l];refine wpAny_bind (wpAny_pure (wpAny_bind (wpAny_dictEntries g h ?_)));rw[er (-_)];refine wpAny_bind (wpAny_pure (wpAny_bind (wpAny_dictEpoch g h ?_)));rw[er (-_)];refine wpAny_pure ?_;simp only[f,if_false,cy,Array.getElem?_eq_none n];refine wpAny_bind (wpAny_bind (wpAny_typeNameOfWhole_itemiter c (wpAny_pure ?_)));show wpAny _ _ (setField (.ref it) 2 .none >>= _) _ _ s;refine wpAny_bind (wpAny_setField e rfl (-_) ?_);unfold newExc newTuple raiseNew;refine wpAny_bind (wpAny_bind (wpAny_newObj_type (wpAny_bind (m:=firstArgMember _ _) (wpAny_of_eq (a:=Value.none) rfl (wpAny_newObj_type (wpAny_bind (wpAny_handled ?_)) (by size_fits)))) (by size_fits)));rw[show A.in1.handled=none from o];refine wpAny_bind (wpAny_pure (wpAny_throw ?_));refine wpAny_bind ?_;refine wpAny_isInstance (T:="StopIteration") (b:=true) ⟨_,Heap.get?_push_size _ rfl,rfl⟩ isSubtype_stop ?_;have up:=(Heap.SameBut.update s.heap it (Obj.mapFields λx=>x.setIfInBounds 2 Value.none)).extBut;exact wpAny_pure (k _ ((up.push _).push _))
end
noncomputable def GO(v d:Addr):HO:=.ext λh=>h.IsItemsView v d
section
variable{X:Cx}
def aaq:V->List V->Hp->VK->Prop:=λx vs H Q=>∃d kvs,x=.ref d/\vs=[]/\H d=some (.dT kvs)/\∀v,H v=none->Q (.ref v) (upd H v (GO v d))
theorem Uw:MtR X "dict.items" aaq:=by
 intro f s G H x D v C Q I j t h;obtain⟨d,c,rfl,rfl,r,q⟩:=h;cases j;have i:=t.zero;subst i;obtain⟨z,lo,F,p,o,B,E,g,m,u,_⟩:=(show fP X.prog X.w H s.heap d (.dT c) from I.hok d _ r);refine OL lo g m u ⟨.ref s.heap.objs.size,_,I.laid (a:=s.heap.objs.size) (o:=GO s.heap.objs.size d) (t':=s.toks) (λb o e=>Heap.get?_push_of_some _ e) (ay _) ⟨⟨_,Heap.get?_push_size _ rfl,rfl,rfl⟩,⟨_,Heap.get?_push_size _ rfl⟩,λK J ⟨y,n,l,A⟩ k=>⟨y,k _ n,l,A⟩⟩,rfl,q _ (I.hok.fresh (ay _))⟩
noncomputable def RE(d:Addr)(o:Obj)(kvs:List (List Key×V)):It :=
 ⟨λi H=>H d=some (.Ax o (.dT kvs))/\i<kvs.length,
  λi H x H'=>∃p kb k v,H p=none/\x=.ref p/\H'=upd H p (.tup [.ref kb,v])/\kvs[i]?=some (k,v)/\H kb=some (.tup (k.map kV)),
  λi H=>H d=some (.Ax o (.dT kvs))/\kvs.length<=i⟩
theorem BD{α β:Type}{F:α->β->Prop}:∀{l₁:List α} {l₂:List β},Paired F l₁ l₂->∀{i:Nat} {a:α},l₁[i]?=some a->∃b,l₂[i]?=some b/\F a b
 |_,_,.cons h t,0,a,e=>by cases e;exact⟨_,rfl,h⟩
 |_,_,.cons h t,i+1,a,e=>BD t (by simpa using e)
theorem OO{P:Program}{w:World}{K:af}{G:List Expr}{x1}{pos:Pos}(d a:Addr){o:Obj}{N:Array DictEntry}{ep:Nat}{kvs:List (List Key×V)}(Q:o.data=.dict N ep) :
 Turn P w K (.Tuple G x1 pos) (RE d o kvs) [a] a (λi h=>∃ok A,IsItemIter h a d i N.size ep ok A) where
 mem:=-_
 obj:=λi h ⟨ok,A,st⟩ b g=>by
  have e:b=a:=by simpa using g
  subst e;exact⟨_,st,λv z=>by
   have z':Data.fields _=Data.cell v:=z;cases z'⟩
 keep:=λi h h' ⟨ok,A,st⟩ k=>⟨ok,A,k a (-_) _ st⟩
 item:=by
  intro X S hw Y j i l s σ H E I hf ⟨ok,A,st⟩ hg;subst S hw Y;obtain⟨e,M⟩:=hg;obtain⟨C,z,lo,xs,p,o',es',ep',L,g3,J,g5,g6⟩:=(show fP X.prog X.w H s.heap d (.Ax o (.dT kvs)) from I.hok d _ e);rw[C] at L;cases L;rw[Q] at J;cases J;obtain⟨O,R,f2,f3,W,Z⟩:=hf a (-_);obtain⟨⟨k2,F,u⟩,hx,hk1,U,YJ⟩:=BD p (aa M);have he:N[i]?=some (entryOfKey (tupleKind (ie X.prog X.w)) (k2,F,u)):=by
   rw[<- dR,g5,aj,hx];rfl
  refine ON st C Q he λh' io tu sz kp=>⟨_,rfl,wpAny_letOwnedTupleGo_items io λhh e2 B=>?_⟩;have f:H s.heap.objs.size=none:=I.hok.fresh (ay _);have lt:a<s.heap.objs.size:=Heap.lt_size st;have x:∀b q,b≠a->s.heap.get? b=some q->hh.get? b=some q:=λb q g r=>(B.2 b g).trans (kp b q g r);have D:∀b q,H b=some q->b≠a:=λb q r z=>by rw[z,O] at r;cases r
  have T:hh.get? s.heap.objs.size=some {cls:=.type "tuple",data:=.seq #[.ref F,u]}:=(B.2 _ (Nat.ne_of_gt lt)).trans tu;have I1:Inv X l σ (upd H s.heap.objs.size (.tup [.ref F,kvs[i].2])) {s with heap:=hh,toks:=s.toks}:=by
   refine I.step (g':=s.gens) (d':=s.drawn) (ch:=[a]) (λb g=>?_) (λb q _ _ j r _=>x b q (λz=>j (by simp[z])) r) (λb q _ _ j r _=>⟨q.slots,x b q (λz=>j (by simp[z])) r⟩)
    (λb q _ r n=>by rw[aH (bE (Heap.lt_size r))];exact n) (λb q j r=>⟨q,x b q (λz=>j (by simp[z])) r⟩) (λb ys r=>by rw[aH (aE r f)];exact r) (λb q y r=>by rw[aH (aE r f)];exact r)
    (λb ps r=>⟨#[],by rw[aH (aE r f),r];simp⟩) (λm hm=>?_) (λb q r=>?_) I.bare
   ·have e:b=a:=by simpa using g
    subst e;exact⟨f3,R,W,Z⟩
   ·obtain⟨q,es2,ep2,hq,r⟩:=hm
    exact⟨q,es2,ep2,x _ q (bK R) hq,r⟩
   ·by_cases g:b=s.heap.objs.size
    ·subst g
     rw[au] at r;cases r;exact⟨by show 2<=sizeLine;decide,[.ref F,u],.cons rfl (.cons YJ .nil),⟨_,T,rfl,_,rfl⟩⟩
    ·rw[aH g] at r
     refine (I.hok b q r).stay (λc y j t=>?_) (λc t=>by rw[aH (aE t f)];exact t) λc ys t=>by rw[aH (aE t f)];exact t
     rcases j with e|e
     ·rw[e] at t ⊢;exact x b y (D b q r) t
     ·exact x c y (D c _ e) t
  refine⟨.ref s.heap.objs.size,_,I1,rfl,⟨_,F,kvs[i].1,kvs[i].2,f,rfl,rfl,aa M,U⟩,⟨_,_,e2⟩,λb g=>?_⟩;have e:b=a:=by simpa using g
  subst e;rw[aH (bE lt)];exact O
 done:=by
  intro X S hw Y j i l s σ H E I hf ⟨ok,A,st⟩ hg;subst S hw Y;obtain⟨e,hle⟩:=hg;obtain⟨C,z,lo,xs,p,o',es',ep',L,g3,J,g5,g6⟩:=(show fP X.prog X.w H s.heap d (.Ax o (.dT kvs)) from I.hok d _ e);rw[C] at L;cases L;rw[Q] at J;cases J;obtain⟨O,R,f2,f3,W,Z⟩:=hf a (-_);have hl:N.size=kvs.length:=by
   have:=gU List.length g5
   rw[ah,<- Paired.length p] at this
   simpa using this
  exact RX (I.ok.hd j) st C Q ∅ λh' eb=>⟨rfl,I.turned (t':=s.toks) (λb o g e=>eb b o g e) O R f3 W Z⟩
 self:=λ_ _ _ _ _ ⟨_,_,st⟩ h=>kcp_self st h
def aar(td:TE):TI:=λσ H R=>td σ H λx H1=>∃v d kvs,x=.ref v/\H1 v=some (GO v d)/\H1 d=some (.dT kvs)/\∀o,R (RE d o kvs) (upd H1 d (.Ax o (.dT kvs)))
theorem Ux{l:Expr}{B:TE}{g:List Expr}{x1}{j:Pos}(hl:PE X l B):PI X (.Tuple g x1 j) l (aar B):=by
 intro c s D H R I h;refine gA (hl c s D H _ I h) λv a ⟨x,m,k,O,P⟩=>?_;obtain⟨n,d,f,e,K,t,q⟩:=P;subst e;cases O;obtain⟨z,lo,N,r,o,F,L,i,M,A,G⟩:=(show fP X.prog X.w m a.heap d (.dT f) from k.hok d _ t);obtain⟨E,_,_⟩:=(show fP X.prog X.w m a.heap n (GO n d) from k.hok n _ K);have C:Inv X c D (upd m d (.Ax o (.dT f))) a:=k.write (t':=a.toks) (h':=a.heap) (x:=d) (e:=d) (by rw[t];exact k6) (.inl rfl) (λb u _ q=>q) ⟨o,i⟩ ⟨i,z,lo,N,Paired.Wa r λp q y=>⟨y.1,by rw[aH (vL y.2.1 t (by intro z;cases z))];exact y.2.1,y.2.2⟩,o,F,L,i,M,A,G⟩;have J:(upd m d (.Ax o (.dT f))) a.heap.objs.size=none:=by
  rw[aH (bK (bE (Heap.lt_size i)))];exact k.hok.fresh (ay _)
 refine OM E i A ?_;refine⟨a.heap.objs.size,[a.heap.objs.size],_,_,_,rfl,C.kept (t':=a.toks) λb o e=>Heap.get?_push_of_some _ e,OO d _ A,⟨_,_,Heap.get?_push_size _ rfl⟩,λb Q=>?_,q o⟩;have e:b=a.heap.objs.size:=by simpa using Q
 subst e;exact C.Tf (ay _) J
theorem aas{d:Addr}{o:Obj}{kvs:List (List Key×V)}{a:Hp}(h:a d=some (.Ax o (.dT kvs))):∀i H,i<kvs.length->aG a H->(RE d o kvs).go i H:=λi H b s=>⟨s _ _ h,b⟩
theorem Uy{d:Addr}{o:Obj}{kvs:List (List Key×V)}{a:Hp}(h:a d=some (.Ax o (.dT kvs))):∀H,aG a H->(RE d o kvs).stop kvs.length H:=λH s=>⟨s _ _ h,ay _⟩
end
end L2
namespace L2
theorem Uz{X:Cx}(K:af)(a:X.K=K):wO X (PySem.binaryOp .Add) (Yy K):=by
 subst a;exact Wn
end L2
namespace TW
open PySem L2 PyProof.Rows
theorem KJ{xs m:List T3}(h:xs.Perm m)(s:AG xs)(v:AG m):xs=m:=by
 have c:∀a b:T3,CH a b=false->CH b a=false->a=b:=λa b f k=>by
  have d:¬CH a b=true:=by rw[f];exact aF
  have e:¬CH b a=true:=by rw[k];exact aF
  rw[wX] at d e;obtain⟨x,u,B⟩:=a;obtain⟨y,o,w⟩:=b;have r:x=y:=by simp at d e;lia
  subst r;have q:u=o:=by simp at d e;lia
  subst q;have z:B=w:=by simp at d e;lia
  rw[z]
 have n:∀{l:List T3},AG l->l.Pairwise λa b=>CH b a=false:=λ{l} A=>by
  rw[pN];intro i j t p g;exact A i j _ _ g (aa t) (aa p)
 exact List.Perm.eq_of_pairwise (λa b _ _ f k=>c a b k f) (n s) (n v) h
noncomputable def fk(t:T3):List Key×V:=([.inl t.1,.inl t.2.1],.int t.2.2)
noncomputable abbrev keyOf(h c:Int):List Key:=[.inl h,.inl c]
def bX(ts:List T3):Prop:=(ts.map λt=>(t.1,t.2.1)).Nodup
noncomputable def jK(ts:List T3)(h c:Int):Option Int:=(ts.find? λt=>decide (t.1=h/\t.2.1=c)).map λt=>t.2.2
noncomputable def put3(ts:List T3)(h c r:Int):List T3:=(ts.filter λt=>!decide (t.1=h/\t.2.1=c))++[(h,c,r)]
theorem mz{ts:List T3}(n:bX ts){h c r:Int}:jK ts h c=some r↔(h,c,r)∈ts:=by
 unfold jK;constructor
 ·intro e
  cases f:ts.find? λt=>decide (t.1=h/\t.2.1=c) with
  |none=>rw[f] at e;cases e
  |some t =>
   rw[f] at e;cases e;have a:=List.find?_some f;have d:=List.mem_of_find?_eq_some f;have a:t.1=h/\t.2.1=c:=by simpa using a
   obtain⟨m,p,o⟩:=t;obtain⟨rfl,rfl⟩:=a;exact d
 ·intro e
  cases f:ts.find? λt=>decide (t.1=h/\t.2.1=c) with
  |none =>
   have:=List.find?_eq_none.mp f _ e
   simp at this
  |some t =>
   have a:=List.find?_some f;have d:=List.mem_of_find?_eq_some f;have a:t.1=h/\t.2.1=c:=by simpa using a
   obtain⟨i,g⟩:=oi e;obtain⟨j,b⟩:=oi d;have k:(ts.map λt=>(t.1,t.2.1))[i]?=some (h,c):=by rw[aj,g];rfl
   have l:(ts.map λt=>(t.1,t.2.1))[j]?=some (h,c):=by rw[aj,b,<- a.1,<- a.2];rfl
   have:i=j:=(List.getElem?_inj (ai.mp k).1 n).mp (k.trans l.symm)
   subst this;rw[g] at b;cases b;rfl
theorem BE{xs a:List T3}(b:xs.Perm a)(nx:bX xs){h c:Int}:jK xs h c=jK a h c:=by
 have d:bX a:=(b.map _).nodup_iff.mp nx;cases e:jK a h c with
 |some r=>exact (mz nx).mpr (b.mem_iff.mpr ((mz d).mp e))
 |none =>
  cases f:jK xs h c with
  |none=>rfl
  |some r =>
   have:=(mz d).mpr (b.mem_iff.mp ((mz nx).mp f))
   rw[e] at this;cases this
theorem UA{ts:List T3}(n:bX ts){h c r:Int}:bX (put3 ts h c r):=by
 unfold bX put3;rw[aT,uK];refine⟨?_,-_,λx f y g=>?_⟩
 ·exact List.Nodup.sublist ((List.filter_sublist).map _) n
 ·obtain⟨t,a,rfl⟩:=aL.mp f
  have b:=(bC.mp a).2;have e:y=(h,c):=by simpa using g
  rw[e];intro z;have d:t.1=h/\t.2.1=c:=⟨(Prod.mk.inj z).1,(Prod.mk.inj z).2⟩;simp[d] at b
theorem ou(t:T3)(h c:Int):(fk t).1=keyOf h c↔t.1=h/\t.2.1=c:=by
 unfold fk keyOf;constructor
 ·intro e
  have b:=(List.cons.inj e).1;have a:=(List.cons.inj (List.cons.inj e).2).1;exact⟨Sum.inl.inj b,Sum.inl.inj a⟩
 ·rintro⟨rfl,rfl⟩
  rfl
theorem sr:∀(ts:List T3) (h c:Int),CD (ts.map fk) (keyOf h c)=(jK ts h c).map V.int
 |[],h,c=>rfl
 |t::ts,h,c=>by
  rw[bN];by_cases e:t.1=h/\t.2.1=c
  ·rw[yU ((ou t h c).mpr e)]
   unfold jK;rw[List.find?_cons_of_pos (by simp[e])];rfl
  ·rw[yV (λz=>e ((ou t h c).mp z)),sr ts h c]
   unfold jK;rw[List.find?_cons_of_neg (by rw[fy e];exact aF)]
noncomputable def CI(h c r:Int)(t:T3):T3:=if t.1=h/\t.2.1=c then (h,c,r) else t
theorem UB(h c r:Int)(t:T3):((CI h c r t).1,(CI h c r t).2.1)=(t.1,t.2.1):=by
 unfold CI;split
 ·rename_i e
  show (h,c)=(t.1,t.2.1);rw[e.1,e.2]
 ·rfl
theorem JG{h c r:Int}:∀{ts:List T3},bX ts->(∃t∈ts,t.1=h/\t.2.1=c)->(ts.map (CI h c r)).Perm (put3 ts h c r)
 |[],_,⟨_,h,_⟩=>by cases h
 |t::ts,n,i=>by
  have d:bX ts:=(mG.mp n).2;have j:=(mG.mp n).1;unfold put3;by_cases e:t.1=h/\t.2.1=c
  ·have b:∀u∈ts,¬(u.1=h/\u.2.1=c):=λu hu z=>j (aL.mpr ⟨u,hu,Prod.ext (z.1.trans e.1.symm) (z.2.trans e.2.symm)⟩)
   have g:ts.map (CI h c r)=ts:=by
    refine (c6 λu hu=>?_).trans (List.map_id ts);unfold CI;rw[er (b u hu)];rfl
   have f:ts.filter (λu=>!decide (u.1=h/\u.2.1=c))=ts:=List.filter_eq_self.mpr λu hu=>by rw[fy (b u hu)];rfl
   rw[bN,g,fj,er (by simp[e]),f];have a:CI h c r t=(h,c,r):=by unfold CI;rw[ee e]
   rw[a];exact (List.perm_append_comm (l₁:=[(h,c,r)]) (l₂:=ts))
  ·have a:CI h c r t=t:=by unfold CI;rw[er e]
   rw[bN,a,fj,ee (by rw[fy e];rfl)];refine List.Perm.cons t (JG d ?_);obtain⟨u,hu,z⟩:=i;rcases bf.mp hu with rfl|hu
   ·exact eL z e
   ·exact⟨u,hu,z⟩
theorem JH{xs a:List T3}(b:xs.Perm a)(h c r:Int):(put3 xs h c r).Perm (put3 a h c r):=(b.filter _).append_right _
theorem GP{ts f:List T3}{h c r:Int}(g:ts.Perm f)(n:bX ts):∃ts',putK (ts.map fk) (keyOf h c) (V.int r)=ts'.map fk/\ts'.Perm (put3 f h c r)/\bX ts':=by
 unfold putK;by_cases a:((ts.map fk).any λd=>decide (d.1=keyOf h c))=true
 ·rw[ee a]
  refine⟨ts.map (CI h c r),?_,?_,?_⟩
  ·rw[dw,dw]
   refine c6 λt _=>?_;show (if (fk t).1=keyOf h c then ((fk t).1,V.int r) else fk t)=fk (CI h c r t);unfold CI;by_cases e:t.1=h/\t.2.1=c
   ·rw[ee ((ou t h c).mpr e),ee e,(ou t h c).mpr e]
    rfl
   ·rw[er (λz=>e ((ou t h c).mp z)),er e]
  ·refine (JG n ?_).trans (JH g h c r)
   obtain⟨d,i,k⟩:=wL.mp a;obtain⟨t,b,rfl⟩:=aL.mp i;exact⟨t,b,(ou t h c).mp (g8 k)⟩
  ·unfold bX
   rw[dw]
   have:((λt:T3=>(t.1,t.2.1))∘CI h c r)=λt:T3=>(t.1,t.2.1):=funext λt=>UB h c r t
   rw[this];exact n
 ·rw[er a]
  have j:∀t∈ts,¬(t.1=h/\t.2.1=c):=λt b z=>a (wL.mpr ⟨fk t,aL.mpr ⟨t,b,rfl⟩,e8 ((ou t h c).mpr z)⟩);have e:put3 ts h c r=ts++[(h,c,r)]:=by
   unfold put3;rw[List.filter_eq_self.mpr λu l=>by rw[fy (j u l)];rfl]
  refine⟨ts++[(h,c,r)],by rw[aT];rfl,e▸JH g h c r,e▸UA n⟩
structure ql(C:Addr)(H:Hp)(p d:Addr)(ts:List T3):Prop where
 ob:∃dx,H p=some (.ins C dx [("kept",.ref d)])
 di:H d=some (.dT (ts.map fk))
theorem ql.mono{C:Addr}{H a:Hp}{p d:Addr}{ts:List T3}(s:aG H a)(h:ql C H p d ts):ql C a p d ts:=by
 obtain⟨⟨e,b⟩,c⟩:=h;exact⟨⟨e,s _ _ b⟩,s _ _ c⟩
def aat(K:af)(H:Hp)(l:Addr)(ts:List T3):Prop:=∃qs:List Addr,H l=some (.lst (qs.map V.ref))/\fT K H qs ts
def yo(u:HO):Prop:=∀xs,u≠.tup xs/\∀o,u≠.Ax o (.tup xs)
theorem sA{a:List V}:yo (.lst a):=λb=>⟨λe=>(by cases e),λo e=>(by cases e)⟩
theorem Mp{kvs:List (List Key×V)}:yo (.dT kvs):=λa=>⟨λe=>(by cases e),λo e=>(by cases e)⟩
theorem aau{o:Obj}{kvs:List (List Key×V)}:yo (.Ax o (.dT kvs)):=λa=>⟨λe=>(by cases e),λo e=>(by cases e)⟩
theorem mS{C a:Addr}{b:List (Str×V)}:yo (.ins C a b):=λc=>⟨λe=>(by cases e),λo e=>(by cases e)⟩
theorem cP.past{K:af}{H d:Hp}{z a:Addr}{u:HO}{xs:List V}(f:H z=some u)(g:yo u)(c:∀b v,H b=some v->b≠z->d b=some v)(h:cP K H a xs):cP K d a xs:=by
 rcases h with (h|⟨o,h⟩)|h
 ·exact .inl (.inl (c _ _ h λe=>by subst e;rw[f] at h;exact (g xs).1 (aK h)))
 ·exact .inl (.inr ⟨o,c _ _ h λe=>by subst e;rw[f] at h;exact (g xs).2 o (aK h)⟩)
 ·exact .inr h
theorem fT.past{K:af}{H d:Hp}{z:Addr}{u:HO}{qs:List Addr}{ts:List T3}(f:H z=some u)(e:yo u)(c:∀b v,H b=some v->b≠z->d b=some v)(h:fT K H qs ts):fT K d qs ts :=
 ⟨h.1,λi q t a b=>cP.past f e c (h.2 i q t a b)⟩
theorem cK{H:Hp}{z:Addr}{o:HO}:∀b v,H b=some v->b≠z->(upd H z o) b=some v:=λb v e a=>by rw[aH a];exact e
theorem fT.snoc{K:af}{H:Hp}{qs:List Addr}{ts:List T3}{q:Addr}{t:T3}(h:fT K H qs ts)(d:cP K H q (D0 t)):fT K H (qs++[q]) (ts++[t]):=by
 refine⟨by rw[av,av,h.1];rfl,λi a u b c=>?_⟩;by_cases z:i<qs.length
 ·rw[bL z] at b
  rw[bL (h.1▸z)] at c;exact h.2 i a u b c
 ·have e:i=qs.length:=by
   have:=(ai.mp b).1
   rw[av] at this
   have:i<qs.length+1:=this
   lia
  subst e;rw[mH] at b;rw[h.1,mH] at c;cases b;cases c;exact d
theorem fT.nil{K:af}{H:Hp}:fT K H [] []:=⟨rfl,λi q t a=>by cases a⟩
noncomputable def two(f:Bool->Addr):List V:=[.ref (f false),.ref (f true)]
theorem OP{H:Hp}{a b:Addr}{u v:HO}(d:H a=some u)(c:H b=some v)(n:u≠v):a≠b:=λe=>by
 subst e;rw[d] at c;exact n (aK c)
structure Keeps(K:af)(H:Hp)(lk:Addr)(kk:Bool->Addr)(ks:Bool->List T3):Prop where
 hk:H lk=some (.lst (two kk))
 Kp:∀b,aat K H (kk b) (ks b)
 nk:∀b,kk b≠lk
end TW
namespace L2
open PySem PySem.W PySem.Spec PyProof.Rows
section
variable{prog:Program}{w:World}{A:Around}{E:Value->Shared->Prop}{s:Shared}{d v it:Addr}{od:Obj}{es:Array DictEntry}{ep:Nat}
theorem RY{Q:Value->Shared->Prop}(lo:(d==sysModules)=false)(b:s.heap.get? d=some od)(e:od.ExactDict)(c:od.data=.dict es ep)
 (k:Q (.ref s.heap.objs.size) {s with heap:=s.heap.push {cls:=.type "dict_keyiterator",data:=.fields #[.ref d,.int 0 0,.int es.size 0,.int ep 0]}}):wpAny (model prog w) A (pyIter (.ref d)) Q E s:=by
 have a:s.TypeIs (.ref d) "dict" := ⟨od,b,e.1⟩;refine wpAny_pyIter_slot a F.slot_dict_iter (wpAny_call_entry F.slot_dict_iter a F.entry_dict_iter ?_ (F.args_dict_iter_1 _));unfold Builtin.«dict.__iter__» Builtin.Dict.dictSlotNone;refine wpAny_bind (wpAny_bind (wpAny_notOrdered_dict a ?_));show wpAny _ _ (pure (Value.ref d)) _ _ s;refine wpAny_pure ?_;show wpAny _ _ (Builtin.Dict.showsAll d >>= _) _ _ s;unfold Builtin.Dict.showsAll;rw[er (by rw[lo];exact aF)];refine wpAny_bind (wpAny_pure (wpAny_bind (wpAny_dictEntries b c (wpAny_bind (wpAny_dictEpoch b c ?_)))));refine wpAny_bind (wpAny_newObj_type (wpAny_pure ⟨_,rfl,"dict_keyiterator",_,⟨_,Heap.get?_push_size _ rfl,rfl⟩,F.slot_dict_keyiterator_next.lookup,?_⟩))
 simpa [rawInt] using k
theorem RZ{i:Nat}{g:DictEntry}{Q:Option Value->Shared->Prop}(l:s.heap.IsKeyIter it d i es.size ep)(h:s.heap.get? d=some od)(m:od.data=.dict es ep)(j:es[i]?=some g)
 (k:∀h',h'.IsKeyIter it d (i+1) es.size ep->Heap.SameBut it s.heap h'->Q (some g.key) {s with heap:=h'}):wpAny (model prog w) A (pyNext (.ref it)) Q E s:=by
 obtain⟨o,f,p,c⟩:=id l;have b:=l.typeIs;have own:Builtin.Dict_items.ownsTuple "dict_keyiterator" = false:=!_
 have n:¬(Value.ref d==Value.none)=true:=aF;have e:¬(i:Int)<0:=∅
 obtain⟨r,q⟩:=gh.mp j;unfold pyNext;refine wpAny_bind (wpAny_attempt (wpAny_callSpecial?_slot (name:=Str.ofString "__next__") b F.slot_dict_keyiterator_next (wpAny_call_entry F.slot_dict_keyiterator_next b F.entry_dict_keyiterator_next ?_ (F.args_dict_keyiterator_next_1 _))));refine wpAny_bind (wpAny_pure (wpAny_bind (wpAny_bind (wpAny_bind (wpAny_typeNameOfWhole_keyiter b (wpAny_pure (wpAny_bind (wpAny_fieldsOf f c ?_))))))));simp only[own,mq,if_false];show wpAny (model prog w) A.in1 (if (Value.ref d==Value.none)=true then _ else _) _ _ s;rw[er n];refine wpAny_bind (wpAny_pure (wpAny_bind (wpAny_dictEntries h m ?_)));rw[er (-_)];refine wpAny_bind (wpAny_pure (wpAny_bind (wpAny_dictEpoch h m ?_)));rw[er (-_)];refine wpAny_pure ?_;simp only[e,if_false,cy,j];refine wpAny_bind (wpAny_bind (wpAny_typeNameOfWhole_keyiter b (wpAny_pure (wpAny_bind (wpAny_isOneOf_keyiter b ?_)))));show wpAny _ _ (setField (.ref it) 1 (rawInt ((i:Int)+1)) >>= _) _ _ s;refine wpAny_bind (wpAny_setField f c (-_) ?_);have a:(s.heap.update it (Obj.mapFields (·.setIfInBounds 1 (rawInt ((i:Int)+1))))).IsKeyIter it d (i+1) es.size ep :=
  ⟨_,Heap.get?_update_self _ f (Obj.isFreed_of_fields (Obj.data_mapFields c _)),(Obj.cls_mapFields ..).trans p,by rw[Obj.data_mapFields c];simp[rawInt]⟩
 refine wpAny_bind (wpAny_holding ?_);refine wpAny_bind (wpAny_isOneOf_keyiter (s:={s with heap:=s.heap.update it (Obj.mapFields (·.setIfInBounds 1 (rawInt ((i:Int)+1))))}) a.typeIs ?_);show wpAny _ _ (pure g.key) _ _ _;exact wpAny_pure (wpAny_pure ⟨_,rfl,wpAny_pure (k _ a (Heap.SameBut.update ..))⟩)
theorem UC{i:Nat}{Q:Option Value->Shared->Prop}(q:A.handled=none)(g:s.heap.IsKeyIter it d i es.size ep)(f:s.heap.get? d=some od)(l:od.data=.dict es ep)(p:es.size<=i)
 (k:∀h',Heap.ExtBut it s.heap h'->Q none {s with heap:=h'}):wpAny (model prog w) A (pyNext (.ref it)) Q E s:=by
 obtain⟨o,j,r,h⟩:=id g;have c:=g.typeIs;have own:Builtin.Dict_items.ownsTuple "dict_keyiterator" = false:=!_
 have n:¬(Value.ref d==Value.none)=true:=aF;have e:¬(i:Int)<0:=∅
 unfold pyNext;refine wpAny_bind (wpAny_attempt (wpAny_callSpecial?_slot (name:=Str.ofString "__next__") c F.slot_dict_keyiterator_next (wpAny_call_entry F.slot_dict_keyiterator_next c F.entry_dict_keyiterator_next ?_ (F.args_dict_keyiterator_next_1 _))));refine wpAny_bind (wpAny_pure (wpAny_bind (wpAny_bind (wpAny_bind (wpAny_typeNameOfWhole_keyiter c (wpAny_pure (wpAny_bind (wpAny_fieldsOf j h ?_))))))));simp only[own,mq,if_false];show wpAny (model prog w) A.in1 (if (Value.ref d==Value.none)=true then _ else _) _ _ s;rw[er n];refine wpAny_bind (wpAny_pure (wpAny_bind (wpAny_dictEntries f l ?_)));rw[er (-_)];refine wpAny_bind (wpAny_pure (wpAny_bind (wpAny_dictEpoch f l ?_)));rw[er (-_)];refine wpAny_pure ?_;simp only[e,if_false,cy,Array.getElem?_eq_none p];refine wpAny_bind (wpAny_bind (wpAny_typeNameOfWhole_keyiter c (wpAny_pure ?_)));show wpAny _ _ (setField (.ref it) 0 .none >>= _) _ _ s;refine wpAny_bind (wpAny_setField j h (-_) ?_);unfold newExc newTuple raiseNew;refine wpAny_bind (wpAny_bind (wpAny_newObj_type (wpAny_bind (m:=firstArgMember _ _) (wpAny_of_eq (a:=Value.none) rfl (wpAny_newObj_type (wpAny_bind (wpAny_handled ?_)) (by size_fits)))) (by size_fits)));rw[show A.in1.handled=none from q];refine wpAny_bind (wpAny_pure (wpAny_throw ?_));refine wpAny_bind ?_;refine wpAny_isInstance (T:="StopIteration") (b:=true) ⟨_,Heap.get?_push_size _ rfl,rfl⟩ isSubtype_stop ?_;have up:=(Heap.SameBut.update s.heap it (Obj.mapFields λx=>x.setIfInBounds 0 Value.none)).extBut;exact wpAny_pure (k _ ((up.push _).push _))
end
end L2
namespace TW
open PySem L2 PyProof.Rows
theorem Mq{J:It}{n:Nat}{o:List (Option Nat)}{g:TG}{G:TT}{I:TE}{E:L2.St}{D:Hp->Prop}{k:Hp}{d:Addr}(B:Nat->V)(f:Nat->Option V)(j:k d=none)
 (go:∀i H,i<n->aG k H->J.go i H) (stop:∀H,aG k H->J.stop n H) (Km:∀i H x a,i<n->aG k H->J.Km i H x a->a=H/\x=B i) (L:n<=1000)
 (step:∀(i:Nat) (H:Hp) (R:V->Hp->Prop) (S:Hp->Prop),i<n->aG k H->(∀y a,aG H a->f i=some y->R y a)->(∀a,aG H a->f i=none->S a) ->
  g (B i) (jF o E) H λc v=>G c v λb l=>if b=true then I c l R else S l)
 (w:∀H,aG k H->H d=some (.lst ((aA n).filterMap f))->D H) :
 ∃W:Nat->Nat->Hp->Prop,(∃m,W 0 m (upd k d (.lst [])))/\∀i m H,W i m H ->
  (J.stop i H/\D H)∨(J.go i H/\∀x a,J.Km i H x a->g x (jF o E) a λc v=>G c v λb l=>if b=true then I c l λy u=>∃xs,u d=some (.lst xs)/\xs.length<sizeLine /\
   ∃r,r<m/\W (i+1) r (upd u d (.lst (xs++[y]))) else ∃r,r<m/\W (i+1) r l):=by
 have q:∀i,((aA i).filterMap f).length<=i:=λi=>by
  have:=List.length_filterMap_le f (aA i)
  rwa [bB] at this
 refine ir (n:=n) (λi A _=>A=(aA i).filterMap f) j go stop rfl ?_ ?_
 ·rintro i A H p s t rfl x a K
  obtain⟨rfl,rfl⟩:=Km i H x a p s K;have e:(aA (i+1)).filterMap f=(aA i).filterMap f++(f i).toList:=by
   rw[mF,List.filterMap_append];cases h:f i <;> simp[h]
  refine step i a _ _ p s (λy u F z=>?_) (λl C z=>?_)
  ·refine fQ j p (s.trans F) (F _ _ t) (cS (aN (q i) (aN (kg p) L))) ?_
   show _=(aA (i+1)).filterMap f;rw[e,z];rfl
  ·refine jX p (s.trans C) (C _ _ t) ?_
   show _=(aA (i+1)).filterMap f;rw[e,z];simp
 ·rintro A H s t rfl
  exact w H s t
theorem rB{α β:Type}:∀(xs:List α) (F:α->Option β),(aA xs.length).filterMap (λi=>xs[i]?.bind F)=xs.filterMap F
 |[],F=>rfl
 |x::xs,F=>by
  have e:((λi:Nat=>(x::xs)[i]?.bind F)∘Nat.succ)=λi=>xs[i]?.bind F:=funext λi=>-_
  rw[bx,List.range_succ_eq_map,dQ,List.filterMap_map,e,rB xs F,dQ];rfl
theorem R0{K:af}{l d:Addr}{xs:List Int}{h:List (Option Nat)}{g:TG}{D:TT}{E:TE}{C:L2.St}{A:Hp->Prop}{p:Hp}(F:Int->Option V)(q:p d=none)(hl:bP K p l (xs.map V.int))(I:xs.length<=1000)
 (step:∀(x:Int) (H:Hp) (R:V->Hp->Prop) (S:Hp->Prop),x∈xs->aG p H->(∀y a,aG H a->F x=some y->R y a)->(∀a,aG H a->F x=none->S a) ->
  g (.int x) (jF h C) H λc r=>D c r λb k=>if b=true then E c k R else S k)
 (t:∀H,aG p H->H d=some (.lst (xs.filterMap F))->A H) :
 ∃W:Nat->Nat->Hp->Prop,(∃m,W 0 m (upd p d (.lst [])))/\∀i m H,W i m H ->
  ((Kn K l).stop i H/\A H)∨((Kn K l).go i H/\∀x a,(Kn K l).Km i H x a->g x (jF h C) a λc r=>D c r λb k=>if b=true then E c k λy w=>∃xs,w d=some (.lst xs)/\xs.length<sizeLine /\
    ∃o,o<m/\W (i+1) o (upd w d (.lst (xs++[y]))) else ∃o,o<m/\W (i+1) o k):=by
 have B:(xs.map V.int).length=xs.length:=ah _;refine Mq (n:=xs.length) (λi=>(xs.map V.int).getD i .fH) (λi=>xs[i]?.bind F) q (λi H f s=>DK hl i H (by rw[B];exact f) s) (λH s=>by have:=vN hl H s;rwa [B] at this) (λi H x a f s j=>?_) I (λi H R S f s G J=>?_) (λH s L=>t H s (by rw[<- rB];exact L))
 ·obtain⟨rfl,j⟩:=j
  have j:=j _ (s.seq hl);exact⟨rfl,by rw[az,j];rfl⟩
 ·have e:(xs.map V.int).getD i .fH=V.int xs[i]:=by rw[az,aj,aa f];rfl
  have z:xs[i]?=some xs[i]:=aa f;rw[e];refine step _ H R S (aQ f) s (λy a v u=>G y a v ?_) (λa v u=>J a v ?_)
  ·show xs[i]?.bind F=_
   rw[z];exact u
  ·show xs[i]?.bind F=_
   rw[z];exact u
theorem R1(xs:List Int)(f:Int->Bool):xs.filterMap (λx=>if f x=true then some (V.int x) else none)=(xs.filter f).map V.int:=by
 induction xs with
 |nil=>rfl
 |cons x xs a =>
  by_cases h:f x=true
  ·rw[r8 h,bN,<- a,dQ];simp only[h,if_true]
  ·rw[r9 h,<- a,dQ];simp only[h];rfl
theorem lO{K:af}{l d:Addr}{xs:List Int}{e:List (Option Nat)}{g:TG}{w:TT}{z:TE}{v:L2.St}{u:Hp->Prop}{k:Hp}(f:Int->Bool)(n:k d=none)(hl:bP K k l (xs.map V.int))(C:xs.length<=1000)
 (step:∀(x:Int) (H:Hp) (R:V->Hp->Prop) (S:Hp->Prop),x∈xs->aG k H->(∀a,aG H a->f x=true->R (.int x) a)->(∀a,aG H a->f x=false->S a) ->
  g (.int x) (jF e v) H λc o=>w c o λb h=>if b=true then z c h R else S h)
 (p:∀H,aG k H->H d=some (.lst ((xs.filter f).map V.int))->u H) :
 ∃W:Nat->Nat->Hp->Prop,(∃m,W 0 m (upd k d (.lst [])))/\∀i m H,W i m H ->
  ((Kn K l).stop i H/\u H)∨((Kn K l).go i H/\∀x a,(Kn K l).Km i H x a->g x (jF e v) a λc o=>w c o λb h=>if b=true then z c h λy t=>∃xs,t d=some (.lst xs)/\xs.length<sizeLine /\
    ∃j,j<m/\W (i+1) j (upd t d (.lst (xs++[y]))) else ∃j,j<m/\W (i+1) j h):=by
 refine R0 (λx=>if f x=true then some (V.int x) else none) n hl C (λx H R S B s A D=>step x H R S B s (λa r q=>A _ a r (ee q)) (λa r q=>D a r (er (by rw[q];exact aF)))) (λH s E=>p H s (by rw[<- R1];exact E))
def YK(u:HO):Prop:=∀xs,u≠.lst xs/\∀o,u≠.Ax o (.lst xs)
theorem UD{C a:Addr}{b:List (Str×V)}:YK (.ins C a b):=λc=>⟨λe=>(by cases e),λo e=>(by cases e)⟩
theorem bP.past{K:af}{H d:Hp}{z a:Addr}{u:HO}{xs:List V}(f:H z=some u)(g:YK u)(c:∀b v,H b=some v->b≠z->d b=some v)(h:bP K H a xs):bP K d a xs:=by
 rcases h with (h|⟨o,h⟩)|h
 ·exact .inl (.inl (c _ _ h λe=>by subst e;rw[f] at h;exact (g xs).1 (aK h)))
 ·exact .inl (.inr ⟨o,c _ _ h λe=>by subst e;rw[f] at h;exact (g xs).2 o (aK h)⟩)
 ·exact .inr h
noncomputable def iE(c:Option Int):V:=(c.map V.int).getD .fH
theorem mT(i:Int)(c:Option Int):ZY (.int i) (iE c)=true:=by cases c <;> rfl
theorem Mr(c:Option Int):yR (iE c)=true:=by cases c <;> rfl
theorem CJ(xs:List Int):CC .fH (xs.map V.int)=false:=by
 unfold CC;rw[List.any_map,List.any_eq_false];intro x _;show ¬(Ry (.int x) .fH)=true;simp[Ry]
noncomputable def gy(c:Option Int)(r:Int):Bool:=!decide (V.int r=iE c)
noncomputable def DA(ts:List T3)(so:Option Int)(kI:Int)(aU:Option Int)(os hs:List Int):List Int :=
 match so with
 |none=>os.filter (gy aU)
 |some to=>if to∈hs then [] else match jK ts kI to with
  |some r=>if r∈os then [r].filter (gy aU) else os.filter (gy aU)
  |none=>os.filter (gy aU)
theorem WV(ts:List T3)(a:Option Int)(b:Int)(aU:Option Int)(os c:List Int):(DA ts a b aU os c).length<=os.length+1:=by
 have h:∀l:List Int,l.length<=os.length+1->(l.filter (gy aU)).length<=os.length+1:=λl d=>aN (aX _ _) d;unfold DA;split
 ·exact h _ (cV _)
 ·split
  ·exact bM _
  ·split
   ·split
    ·exact h _ (by show 1<=_;lia)
    ·exact h _ (cV _)
   ·exact h _ (cV _)
noncomputable def DO(s to k c:Int):Bool:=if k=1 then decide (V.int c=V.int to) else if k=2 then !decide (V.int c=V.int s) else false
noncomputable def rC(to k:Int):Option Int:=if k=1 then some to else none
theorem made{H:Hp}{x a C:Addr}{d:List (Str×V)}(e:H x=none)(b:H a=none)(c:a≠x):aG H (upd (upd (upd H a (.own x)) x (.ins C a [])) x (.ins C a d)):=by
 rw[Kd];exact (aG.new b).trans (aG.new (by rw[aH (bK c)];exact e))
theorem neT{b:Bool}(h:¬b=true):b=false:=by
 cases b
 ·rfl
 ·exact eL rfl h
end TW
namespace TX
open PySem PySem.StrLaws PySem.Builtin PySem.Builtin.Str
noncomputable abbrev cs(x:Str):List Nat:=x.cps.toList
end TX
namespace TX
open PySem PySem.StrLaws PySem.Builtin PySem.Builtin.Str PySem.NumText
noncomputable abbrev num(n:Int):Str:=Str.ofString (toString n)
abbrev Wr(n:Int):Prop:=0<=n/\n<10^60
end TX
namespace TX
open PySem PySem.StrLaws PySem.Builtin PySem.Builtin.Str
end TX
namespace L2
open PySem PySem.W PySem.Spec PyProof.Rows
theorem GQ{α β:Type}{f g:α->Option β}:∀{l:List α},(∀x∈l,f x=g x)->l.filterMap f=l.filterMap g
 |[],_=>rfl
 |x::l,h=>by
  rw[dQ,dQ,h x (b9 ..),GQ λy a=>h y (bu _ a)]
theorem R3{α:Type}(xs:List α):((aA xs.length).map (λk=>xs.length-1-k)).filterMap (λi=>xs.toArray[i]?)=xs.reverse:=by
 have a:(aA xs.length).map (λk=>xs.length-1-k)=(aA xs.length).reverse:=by
  refine List.ext_getElem (-_) λi a b=>?_;simp at a b;simp[List.getElem_reverse]
 rw[a,List.filterMap_reverse];congr 1;refine List.ext_getElem? λi=>?_;have b:(aA xs.length).filterMap (λi=>xs.toArray[i]?)=xs:=by
  have:=TW.rB xs (λx=>some x)
  rw[List.filterMap_some] at this;refine Eq.trans (GQ λi c=>?_) this;rw[List.getElem?_toArray];cases xs[i]? <;> rfl
 rw[b]
theorem GR(a:List Value):slicePick a.toArray none none (some (-1))=a.reverse.toArray:=by
 unfold slicePick;congr 1;have e:sliceBounds none none (some (-1)) a.toArray.size=((a.length:Int)-1,-1,-1):=by
  simp[sliceBounds]
 rw[e,<- R3 a];congr 1;unfold sliceRange;by_cases h:a.length=0
 ·simp[h]
 ·have b:((a.length:Int)-1) > -1:=∅
  have d:((a.length:Int)-1 - -1 - -1-1)/(- -1)=(a.length:Int):=by
   have:((a.length:Int)-1 - -1 - -1-1)=(a.length:Int):=∅
   rw[this];show (a.length:Int)/1=_;exact Int.ediv_one _
  simp only[show ¬((-1:Int) > 0) by decide,if_false,b,if_true,d,cy];refine c6 λk c=>?_
  have:=dm.mp c
  lia
section
variable{X:Cx}
def aav(K:af)(te:TE)(ts:TO):TE:=λσ H Q=>te σ H λx H1=>ts σ H1 λo H2=>∃a xs,x=.ref a/\o=some (-1)/\bP K H2 a xs/\∀p,H2 p=none->Q (.ref p) (upd H2 p (.lst xs.reverse))
theorem R4{xs:List V}{us:List Value}(h:bZ xs us):bZ xs.reverse us.reverse:=by
 induction h with
 |nil=>exact .nil
 |cons r t a =>
  rw[List.reverse_cons,List.reverse_cons];exact a.append (.cons r .nil)
theorem Ms{e st:Expr}{p:TE}{ts:TO}{m i:Pos}(D:PE X e p)(G:PO X (some st) ts):PE X (.Subscript e (.Slice none none (some st) m) i) (aav X.K p ts):=by
 intro c s f H Q I h;refine Subscript_ (gA (D c s f H _ I h) λv N ⟨x,O,B,M,P⟩=>?_);refine wpAny_Slice ?_;rw[evalPart_none];refine wpAny_pure ?_;refine wpAny_pure ?_;refine gA (G c N f O _ B P) λl d ⟨o,u,F,t,a,J,z,y,L,q⟩=>?_;subst z y;cases M;have j:Inv X c f u {d with heap:=d.heap.push {cls:=.type "slice",data:=.fields #[.none,.none,l]}}:=F.kept (t':=d.toks) λb C q=>Heap.get?_push_of_some _ q;obtain⟨g,r,n,E⟩:=j.list L;have k:=r.length;show wpAny (model X.prog X.w) X.A (subscriptTail e (.Slice none none (some st) m) (.ref a) (.ref d.heap.objs.size)) (EP X c f Q) X.xe {d with heap:=d.heap.push {cls:=.type "slice",data:=.fields #[.none,.none,l]}};refine tail_any (ops:=[.ref a,.ref d.heap.objs.size]) n.isList.typeIs slot_list_getitem.lookup ?_ (by with_unfolding_all rfl);refine wpAny_getItem_list_slice n.isList (Heap.IsSliceOf.new ..) .none .none t (-_) ?_ (by rw[aP] <;> lia);rw[GR];refine⟨.ref _,_,j.laid (t':=d.toks) (o:=.lst J.reverse) (λb C q=>Heap.get?_push_of_some _ q) (ay _) ?_,rfl,q _ (j.hok.fresh (ay _))⟩;exact⟨by rw[List.length_reverse];exact E,g.reverse,0,R4 r,Heap.get?_push_size _ rfl⟩
end
end L2
namespace TW
open PySem L2 PyProof.Rows
theorem Qk{K:af}{l c:Addr}{xs:List V}{h:List (Option Nat)}{g:TG}{A:TT}{B:TE}{z:L2.St}{w:Hp->Prop}{p:Hp}(f:Nat->Option V)(q:p c=none)(hl:bP K p l xs)(E:xs.length<=1000)
 (step:∀(i:Nat) (x:V) (H:Hp) (R:V->Hp->Prop) (S:Hp->Prop),xs[i]?=some x->aG p H->(∀y d,aG H d->f i=some y->R y d)->(∀d,aG H d->f i=none->S d) ->
  g x (jF h z) H λa r=>A a r λb k=>if b=true then B a k R else S k)
 (t:∀H,aG p H->H c=some (.lst ((aA xs.length).filterMap f))->w H) :
 ∃W:Nat->Nat->Hp->Prop,(∃m,W 0 m (upd p c (.lst [])))/\∀i m H,W i m H ->
  ((Kn K l).stop i H/\w H)∨((Kn K l).go i H/\∀x d,(Kn K l).Km i H x d->g x (jF h z) d λa r=>A a r λb k=>if b=true then B a k λy v=>∃xs,v c=some (.lst xs)/\xs.length<sizeLine /\
    ∃o,o<m/\W (i+1) o (upd v c (.lst (xs++[y]))) else ∃o,o<m/\W (i+1) o k):=by
 refine Mq (n:=xs.length) (λi=>xs.getD i .fH) f q (DK hl) (vN hl) (λi H x d u s j=>?_) E (λi H R S u s C D=>?_) t
 ·obtain⟨rfl,j⟩:=j
  have j:=j _ (s.seq hl);exact⟨rfl,by rw[az,j];rfl⟩
 ·have e:xs.getD i .fH=xs[i]:=by rw[az,aa u];rfl
  rw[e];exact step i _ H R S (aa u) s C D
theorem GS{α β:Type}(xs:List α)(h:α->β):(aA xs.length).filterMap (λi=>xs[i]?.map h)=xs.map h:=by
 have e:∀l:List α,l.filterMap (λx=>some (h x))=l.map h:=λl=>by
  induction l with
  |nil=>rfl
  |cons a l b=>rw[dQ,b];rfl
 rw[<- e,<- rB xs (λx=>some (h x))];refine GQ λi _=>?_;cases xs[i]? <;> rfl
inductive Role where
 |fC|e9|iQ|nY (i:Nat)|zg|rows (g:Nat)|kq|book (g:Nat)|fq (g:Nat)
 |aO|groups|mU|handed (c:Nat)|cT|bW (i:Nat)|letter (i:Nat)|done (i:Nat)|aD (i:Nat)|lP
 deriving DecidableEq
structure wY(H:Hp)(loc:Role->Addr)(ob:Role->Option HO):Prop where
 get:∀r o,ob r=some o->H (loc r)=some o
 inj:∀r q,ob r≠none->ob q≠none->loc r=loc q->r=q
noncomputable def jr(ob:Role->Option HO)(r:Role)(o:HO):Role->Option HO:=λq=>if q=r then some o else ob q
noncomputable def yI(loc:Role->Addr)(r:Role)(a:Addr):Role->Addr:=λq=>if q=r then a else loc q
theorem eF{ob:Role->Option HO}{r:Role}{o:HO}:jr ob r o r=some o:=ee rfl
theorem dM{ob:Role->Option HO}{r q:Role}{o:HO}(h:q≠r):jr ob r o q=ob q:=er h
theorem jg{b:Role->Addr}{r:Role}{a:Addr}:yI b r a r=a:=ee rfl
theorem jw{b:Role->Addr}{r q:Role}{a:Addr}(h:q≠r):yI b r a q=b q:=er h
def Fp(loc:Role->Addr)(ob:Role->Option HO)(b:Addr):Prop:=∃r,ob r≠none/\loc r=b
section
variable{H H':Hp}{loc:Role->Addr}{ob:Role->Option HO}
theorem wY.mono(h:wY H loc ob)(s:aG H H'):wY H' loc ob:=⟨λr o e=>s _ _ (h.get r o e),h.inj⟩
theorem wY.keep(h:wY H loc ob)(k:∀b o,H b=some o->Fp loc ob b->H' b=some o):wY H' loc ob :=
 ⟨λr o e=>k _ _ (h.get r o e) ⟨r,by rw[e];exact aS o,rfl⟩,h.inj⟩
theorem wY.set(h:wY H loc ob){r:Role}(b:ob r≠none)(o:HO):wY (upd H (loc r) o) loc (jr ob r o):=by
 have c:∀q,jr ob r o q≠none->ob q≠none:=λq d=>by
  by_cases e:q=r
  ·rw[e];exact b
  ·rw[dM e] at d;exact d
 refine⟨λq u e=>?_,λq a f g e=>h.inj q a (c q f) (c a g) e⟩;by_cases z:q=r
 ·subst z
  rw[eF] at e;cases e;exact au
 ·rw[dM z] at e
  rw[aH (λw=>z (h.inj q r (by rw[e];exact aS u) b w))];exact h.get q u e
theorem wY.new(h:wY H loc ob){p:Addr}(j:H p=none)(r:Role)(o:HO):wY (upd H p o) (yI loc r p) (jr ob r o):=by
 have g:∀q,q≠r->ob q≠none->loc q≠p:=λq k f e=>by
  cases i:ob q with
  |none=>exact f i
  |some u =>
   have:=h.get q u i
   rw[e,j] at this;cases this
 refine⟨λq u e=>?_,λq c b d e=>?_⟩
 ·by_cases z:q=r
  ·subst z
   rw[eF] at e;cases e;rw[jg];exact au
  ·rw[dM z] at e
   rw[jw z,aH (g q z (by rw[e];exact aS u))];exact h.get q u e
 ·by_cases z:q=r
  ·by_cases a:c=r
   ·rw[z,a]
   ·rw[z,jg,jw a] at e
    rw[dM a] at d;exact eL e.symm (g c a d)
  ·by_cases a:c=r
   ·rw[a,jg,jw z] at e
    rw[dM z] at b;exact eL e (g q z b)
   ·rw[jw z,jw a] at e
    rw[dM z] at b;rw[dM a] at d;exact h.inj q c b d e
theorem wY.YL(h:wY H loc ob){p:Addr}{r:Role}{o:HO}{b:Addr}(d:Fp (yI loc r p) (jr ob r o) b):Fp loc ob b∨b=p:=by
 obtain⟨q,c,a⟩:=d;by_cases z:q=r
 ·rw[z,jg] at a
  exact .inr a.symm
 ·rw[dM z] at c
  rw[jw z] at a;exact .inl ⟨q,c,a⟩
theorem JI{r:Role}(d:ob r≠none){o:HO}{b:Addr}:Fp loc (jr ob r o) b↔Fp loc ob b:=by
 constructor
 ·rintro⟨q,a,c⟩
  refine⟨q,?_,c⟩;by_cases z:q=r
  ·rw[z];exact d
  ·rw[dM z] at a;exact a
 ·rintro⟨q,a,c⟩
  refine⟨q,?_,c⟩;by_cases z:q=r
  ·rw[z,eF];exact aS o
  ·rw[dM z];exact a
end
inductive dN where
 |post (h:Nat)|Iz (h r:Nat)|hand (h c:Nat)|send (h r w:Nat)|twice (h r:Nat)|WW (h r:Nat)
noncomputable def dN.vs:dN->List V
 |.post h=>[.str "post",.int h]
 |.Iz h r=>[.str "come",.int h,.int r]
 |.hand h c=>[.str "hand",.int h,.int c]
 |.send h r w=>[.str "send",.int h,.int r,.int w]
 |.twice h r=>[.str "twice",.int h,.int r]
 |.WW h r=>[.str "lost",.int h,.int r]
structure LS where
 s:Nat
 to:Nat
 kd:Int
 grp:Nat
 old:Bool
 done:List Nat
 aD:List dN
structure Cp where
 l:Nat
 r:Nat
 w:Nat
 h:Nat
noncomputable def Cp.vs(c:Cp):List V:=[.int c.l,.int c.r,.int c.w,.int c.h]
structure NS where
 ws:List (List Nat)
 R:Nat->Nat->RM.Row
 ts:Nat->List T3
 aO:List Nat
 groups:List Nat
 had:List (List Nat)
 ls:List LS
 cps:List Cp
structure TQ where
 rq:Nat->List Addr
 dq:Nat->List Addr
 cq:List Addr
structure NC where
 fC:Addr
 str:Addr
 book:Addr
 post:Addr
 ali:Addr
 let1:Addr
 ac5:Addr
noncomputable def rD(c:NC)(dx:Addr)(l:LS):HO:=if l.kd=1 then .ins c.let1 dx [("sender",.int l.s),("to",.int l.to)] else .ins c.ac5 dx [("sender",.int l.s)]
noncomputable def desc(c:NC)(dx:Role->Addr)(tp:Addr)(loc:Role->Addr)(q:TQ)(s:NS):Role->Option HO
 |.fC=>some (.ins c.fC (dx .fC) [("town",.ref tp),("strands",.ref (loc .e9)),("rows_by_group",.ref (loc .zg)),("books",.ref (loc .kq)),("homes",.ref (loc .aO)),("groups",.ref (loc .groups)),("handed",.ref (loc .mU)),("letters",.ref (loc .cT)),("copies",.ref (loc .lP))])
 |.e9=>some (.ins c.str (dx .e9) [("town",.ref tp),("upright",.ref (loc .iQ))])
 |.iQ=>some (.lst ((aA s.ws.length).map λi=>.ref (loc (.nY i))))
 |.nY i=>s.ws[i]?.map λw=>.lst (bR w)
 |.zg=>some (.lst ((aA 3).map λg=>.ref (loc (.rows g))))
 |.rows g=>if g<3 then some (.lst ((q.rq g).map V.ref)) else none
 |.kq=>some (.lst ((aA 3).map λg=>.ref (loc (.book g))))
 |.book g=>if g<3 then some (.ins c.book (dx (.book g)) [("kept",.ref (loc (.fq g)))]) else none
 |.fq g=>if g<3 then some (.dT ((s.ts g).map fk)) else none
 |.aO=>some (.lst (bR s.aO))
 |.groups=>some (.lst (bR s.groups))
 |.mU=>some (.lst ((aA s.had.length).map λi=>.ref (loc (.handed i))))
 |.handed i=>s.had[i]?.map λw=>.lst (bR w)
 |.cT=>some (.lst ((aA s.ls.length).map λi=>.ref (loc (.bW i))))
 |.bW i=>s.ls[i]?.map λl=>.ins c.post (dx (.bW i)) [("letter",.ref (loc (.letter i))),("group",.int l.grp),("old",.bl l.old),("done_at",.ref (loc (.done i))),("deeds",.ref (loc (.aD i)))]
 |.letter i=>s.ls[i]?.map λl=>rD c (dx (.letter i)) l
 |.done i=>s.ls[i]?.map λl=>.dK (l.done.map λh:Nat=>(gD (h:Int),.bl true))
 |.aD i=>s.ls[i]?.map λl=>.lst ((q.dq i).map V.ref)
 |.lP=>some (.lst (q.cq.map V.ref))
mutual
noncomputable def Mt:PyData->Bool
 |.none=>true
 |.bool _=>true
 |.int _=>true
 |.str _=>true
 |.list _=>false
 |.tuple ds=>DP ds
 |.dict _=>true
noncomputable def DP:List PyData->Bool
 |[]=>true
 |d::ds=>Mt d&&DP ds
end
structure dF(K:af)(H:Hp)(qs:List Addr)(xs:List (List V)):Prop where
 len:qs.length=xs.length
 at':∀(i:Nat) q x,qs[i]?=some q->xs[i]?=some x->cP K H q x
theorem dF.mono{K:af}{H c:Hp}{qs:List Addr}{xs:List (List V)}(h:dF K H qs xs)(k:∀b x,cP K H b x->cP K c b x):dF K c qs xs:=⟨h.len,λi q x a b=>k _ _ (h.at' i q x a b)⟩
noncomputable def gH(n:Nat)(R:Nat->RM.Row):List (List V):=(aA n).map λi=>RM.cR (R i)
structure rE(K:af)(H:Hp)(n:Nat)(q:TQ)(s:NS):Prop where
 rows:∀g,g<3->dF K H (q.rq g) (gH n (s.R g))
 aD:∀i l,s.ls[i]?=some l->dF K H (q.dq i) (l.aD.map dN.vs)
 cps:dF K H q.cq (s.cps.map Cp.vs)
theorem rE.mono{K:af}{H a:Hp}{n:Nat}{q:TQ}{s:NS}(h:rE K H n q s)(k:∀b x,cP K H b x->cP K a b x):rE K a n q s :=
 ⟨λg c=>(h.rows g c).mono k,λi l e=>(h.aD i l e).mono k,h.cps.mono k⟩
def fG(K:af)(c:NC)(H:Hp)(F:Addr->Prop)(p tp:Addr)(n:Nat)(s:NS):Prop :=
 ∃loc dx q,loc .fC=p/\wY H loc (desc c dx tp loc q s)/\(∀b,F b↔Fp loc (desc c dx tp loc q s) b)/\rE K H n q s
structure Step(H:Hp)(F:Addr->Prop)(H':Hp)(F':Addr->Prop):Prop where
 kp:∀b o,H b=some o->¬F b->H' b=some o
 fr:∀b,F' b->F b∨H b=none
theorem OQ{c:NC}{k:Role->Addr}{j:Addr}{i:Role->Addr}{q:TQ}{s:NS}{r:Role}{o:HO}(h:desc c k j i q s r=some o):yo o:=by
 have b:∀{g:Type} {f:g->HO} {x:Option g},(∀a,yo (f a))->x.map f=some o->yo o:=λ{g f x} n e=>by
  cases x with
  |none=>cases e
  |some a=>cases e;exact n a
 have ins:∀{C d:Addr} {m:List (Str×V)},yo (.ins C d m):=mS;cases r <;> simp only[desc] at h
 all_goals first
  | (cases h;exact mS)
  | (cases h;exact sA)
  |exact b (λ_=>sA) h
  |exact b (λ_=>mS) h
  | (split at h
     ·cases h;first|exact sA|exact mS|exact Mp
     ·cases h)
  | (refine b (λl=>?_) h;unfold rD;split <;> exact mS)
  | (refine b (λl=>?_) h;exact λp=>⟨λe=>(by cases e),λo e=>(by cases e)⟩)
section
variable{K:af}{c:NC}{CT:Addr}{H H':Hp}{F F':Addr->Prop}{p tp ln lr:Addr}{n:Nat}{s s':NS}{ns:List Int}{rs:List R5}
theorem fG.mono(h:fG K c H F p tp n s)(e:aG H H'):fG K c H' F p tp n s:=by
 obtain⟨a,i,q,d,f,j,g⟩:=h;exact⟨a,i,q,d,f.mono e,j,g.mono λb x=>e.dB⟩
theorem fG.Ql(h:fG K c H F p tp n s){b:Addr}{o:HO}(k:F b)(e:H b=some o):yo o:=by
 obtain⟨d,i,q,l,f,j,m⟩:=h;obtain⟨r,g,rfl⟩:=(j b).mp k;cases a:desc c i tp d q s r with
 |none=>exact eL a g
 |some u =>
  have:=f.get r u a
  rw[e] at this;cases this;exact OQ a
theorem fG.there(h:fG K c H F p tp n s){b:Addr}(i:F b):∃o,H b=some o:=by
 obtain⟨a,f,q,k,e,g,l⟩:=h;obtain⟨r,j,rfl⟩:=(g b).mp i;cases d:desc c f tp a q s r with
 |none=>exact eL d j
 |some u=>exact⟨u,e.get r u d⟩
theorem fG.tup(h:fG K c H F p tp n s)(a:∀b o,H b=some o->¬F b->H' b=some o){b:Addr}{x:List V}(e:cP K H b x):cP K H' b x:=by
 rcases e with (e|⟨o,e⟩)|e
 ·exact .inl (.inl (a _ _ e λz=>(h.Ql z e x).1 rfl))
 ·exact .inl (.inr ⟨o,a _ _ e λz=>(h.Ql z e x).2 o rfl⟩)
 ·exact .inr e
theorem fG.keep(h:fG K c H F p tp n s)(l:∀b o,H b=some o->F b->H' b=some o)(f:∀b x,cP K H b x->cP K H' b x):fG K c H' F p tp n s:=by
 obtain⟨a,k,q,g,i,d,j⟩:=h;exact⟨a,k,q,g,i.keep λb o e z=>l b o e ((d b).mpr z),d,j.mono f⟩
end
mutual
theorem Rep.tups{K:af}{H c:Hp}(g:∀b x,cP K H b x->cP K c b x):∀{d:PyData} {v:V},Mt d=true->Rep K H d v->Rep K c d v
 |.none,_,_,h=>h
 |.bool _,_,_,h=>h
 |.int _,_,_,h=>h
 |.str _,_,_,h=>h
 |.list _,_,f,_=>by simp[Mt] at f
 |.tuple ds,_,f,⟨a,vs,e,q,r⟩=>⟨a,vs,e,g _ _ q,cW.tups g f r⟩
 |.dict _,_,_,h=>h
theorem cW.tups{K:af}{H a:Hp}(c:∀b x,cP K H b x->cP K a b x):∀{ds:List PyData} {vs:List V},DP ds=true->cW K H ds vs->cW K a ds vs
 |[],_,_,h=>h
 |d::ds,_,f,⟨v,r,e,q,t⟩=>by
  have f:(Mt d&&DP ds)=true:=f;rw[c9] at f;exact⟨v,r,e,Rep.tups c f.1 q,cW.tups c f.2 t⟩
end
theorem GU:∀rs:List R5,DP (rs.map R5.D)=true
 |[]=>rfl
 |r::rs=>by
  show (Mt r.D&&DP (rs.map R5.D))=true;rw[GU rs];rfl
section
variable{K:af}{c:NC}{CT:Addr}{H H':Hp}{F F':Addr->Prop}{p tp ln lr:Addr}{n:Nat}{s s':NS}{ns:List Int}{rs:List R5}
theorem c7.keep(h:c7 K CT H tp ln lr ns rs)(k1:∀b o,H b=some o->b=tp∨b=ln∨b=lr->H' b=some o)(a:∀b x,cP K H b x->cP K H' b x):c7 K CT H' tp ln lr ns rs:=by
 obtain⟨⟨e,c⟩,d,g,f,i⟩:=h;exact⟨⟨e,k1 _ _ c (.inl rfl)⟩,k1 _ _ d (.inr (.inl rfl)),g,k1 _ _ f (.inr (.inr rfl)),cW.tups a (GU rs) i⟩
structure NW(K:af)(c:NC)(CT:Addr)(H:Hp)(F:Addr->Prop)(p tp ln lr:Addr)(ns:List Int)(rs:List R5)(s:NS):Prop where
 fC:fG K c H F p tp ns.length s
 vP:c7 K CT H tp ln lr ns rs
 o1:¬F tp
 o2:¬F ln
 o3:¬F lr
theorem NW.mono(h:NW K c CT H F p tp ln lr ns rs s)(e:aG H H'):NW K c CT H' F p tp ln lr ns rs s:=⟨h.fC.mono e,h.vP.mono e,h.o1,h.o2,h.o3⟩
theorem NW.done(h:NW K c CT H F p tp ln lr ns rs s)(st:Step H F H' F')(d:fG K c H' F' p tp ns.length s'):NW K c CT H' F' p tp ln lr ns rs s':=by
 have g:∀b x,cP K H b x->cP K H' b x:=λb x=>h.fC.tup st.kp;obtain⟨⟨m,a⟩,f,l,i,k⟩:=id h.vP;have nf:∀b o,H b=some o->¬F b->¬F' b:=λb o e j z=>by
  rcases st.fr b z with w|w
  ·exact j w
  ·rw[e] at w;cases w
 refine⟨d,h.vP.keep (λb o e q=>st.kp b o e ?_) g,nf _ _ a h.o1,nf _ _ f h.o2,nf _ _ i h.o3⟩;rcases q with rfl|rfl|rfl
 ·exact h.o1
 ·exact h.o2
 ·exact h.o3
theorem Step.refl'(e:aG H H'):Step H F H' F:=⟨λb o q _=>e _ _ q,λb z=>.inl z⟩
theorem Step.trans{d:Hp}{c:Addr->Prop}(a:Step H F H' F')(b:Step H' F' d c):Step H F d c:=by
 refine⟨λx o e nf=>b.kp x o (a.kp x o e nf) λz=>?_,λx z=>?_⟩
 ·rcases a.fr x z with w|w
  ·exact nf w
  ·rw[e] at w;cases w
 ·rcases b.fr x z with w|w
  ·exact a.fr x w
  ·by_cases q:F x
   ·exact .inl q
   ·refine .inr ?_
    cases f:H x with
    |none=>rfl
    |some o =>
     have:=a.kp x o f q
     rw[this] at w;cases w
end
theorem wY.join{H:Hp}{i k:Role->Addr}{j c:Role->Option HO}(a:wY H i j)(b:wY H k c)(l:∀r q,j r≠none->c q≠none->i r≠k q) :
 wY H (λr=>if (c r).isSome=true then k r else i r) (λr=>if (c r).isSome=true then c r else j r):=by
 have m:∀{r},(c r).isSome=true->c r≠none:=λ{r} h e=>by rw[e] at h;cases h
 refine⟨λr o e=>?_,λr q d f e=>?_⟩
 ·by_cases z:(c r).isSome=true
  ·rw[ee z] at e ⊢
   exact b.get r o e
  ·rw[er z] at e ⊢
   exact a.get r o e
 ·by_cases z:(c r).isSome=true
  ·by_cases g:(c q).isSome=true
   ·simp only[z,g,if_true] at d f e
    exact b.inj r q d f e
   ·simp only[z,g,if_true,if_false] at d f e
    exact eL e.symm (l q r (by simpa using f) (m z))
  ·by_cases g:(c q).isSome=true
   ·simp only[z,g,if_true,if_false] at d f e
    exact eL e (l r q (by simpa using d) (m g))
   ·simp only[z,g,if_false] at d f e
    exact a.inj r q (by simpa using d) (by simpa using f) e
structure FH(H0 H:Hp)(p:Addr)(loc:Role->Addr)(ob:Role->Option HO):Prop where
 own:wY H loc ob
 np:loc .fC=p
 hn:ob .fC≠none
 kp:∀b o,H0 b=some o->b≠p->H b=some o
 fr:∀b,Fp loc ob b->b=p∨H0 b=none
section
variable{H0 H H':Hp}{p:Addr}{loc:Role->Addr}{ob:Role->Option HO}
theorem FH.free(h:FH H0 H p loc ob){a:Addr}(b:H a=none):H0 a=none:=by
 cases e:H0 a with
 |none=>rfl
 |some o =>
  by_cases z:a=p
  ·exfalso
   cases c:ob .fC with
   |none=>exact h.hn c
   |some u =>
    have:=h.own.get .fC u c
    rw[h.np,<- z,b] at this;cases this
  ·have:=h.kp a o e z
   rw[b] at this;cases this
theorem FH.new(h:FH H0 H p loc ob){a:Addr}(c:H a=none){r:Role}(d:r≠.fC)(o:HO):FH H0 (upd H a o) p (yI loc r a) (jr ob r o):=by
 refine⟨h.own.new c r o,by rw[jw (bK d)];exact h.np,by rw[dM (bK d)];exact h.hn,λb u e n=>?_,λb f=>?_⟩
 ·have:=h.kp b u e n
  rw[aH (aE this c)];exact this
 ·rcases h.own.YL f with z|rfl
  ·exact h.fr b z
  ·exact .inr (h.free c)
theorem FH.put(h:FH H0 H p loc ob)(o:HO):FH H0 (upd H p o) p loc (jr ob .fC o):=by
 have e:=h.own.set (r:=.fC) h.hn o;rw[h.np] at e;refine⟨e,h.np,by rw[eF];exact aS o,λb u q n=>?_,λb a=>h.fr b ((JI h.hn).mp a)⟩;rw[aH n];exact h.kp b u q n
theorem wY.add{H H':Hp}{loc:Role->Addr}{ob:Role->Option HO}(h:wY H loc ob)(s:aG H H'){a:Addr}(d:H a=none){o:HO}(e:H' a=some o)(r:Role):wY H' (yI loc r a) (jr ob r o):=by
 have c:=h.new d r o;refine⟨λq u b=>?_,c.inj⟩;by_cases z:q=r
 ·subst z
  rw[eF] at b;cases b;rw[jg];exact e
 ·rw[dM z] at b
  rw[jw z];exact s _ _ (h.get q u b)
theorem FH.add(h:FH H0 H p loc ob)(s:aG H H'){a:Addr}(d:H a=none){o:HO}(e:H' a=some o){r:Role}(f:r≠.fC):FH H0 H' p (yI loc r a) (jr ob r o):=by
 have c:=h.new d f o;exact⟨h.own.add s d e r,c.np,c.hn,λb u q n=>s _ _ (h.kp b u q n),c.fr⟩
theorem FH.aaw(h:FH H0 H p loc ob){r:Role}(a:ob r≠none)(c:r≠.fC)(o:HO):FH H0 (upd H (loc r) o) p loc (jr ob r o):=by
 refine⟨h.own.set a o,h.np,by rw[dM (bK c)];exact h.hn,λb u e n=>?_,λb d=>h.fr b ((JI a).mp d)⟩;have f:b≠loc r:=λz=>by
  rcases h.fr (loc r) ⟨r,a,rfl⟩ with w|w
  ·exact n (z.trans w)
  ·rw[z,w] at e;cases e
 rw[aH f];exact h.kp b u e n
theorem FH.ext{loc':Role->Addr}{SV:Role->Option HO}(h:FH H0 H p loc ob)(d:∀r,ob r=SV r)(c:∀r,ob r≠none->loc r=loc' r):FH H0 H p loc' SV:=by
 have e:ob=SV:=funext d;subst e;refine⟨⟨λr o e=>?_,λr q a b e=>h.own.inj r q a b ?_⟩,?_,h.hn,h.kp,λb f=>?_⟩
 ·rw[<- c r (by rw[e];exact aS o)]
  exact h.own.get r o e
 ·rw[c r a,c q b]
  exact e
 ·rw[<- c .fC h.hn]
  exact h.np
 ·obtain⟨r,a,e⟩:=f
  exact h.fr b ⟨r,a,(c r a).trans e⟩
theorem FH.join{f:Role->Addr}{a:Role->Option HO}(h:FH H0 H p loc ob)(b:wY H' f a)(g:a .fC=none)(fresh:∀r,a r≠none->H (f r)=none)(s:aG H H') :
 FH H0 H' p (λr=>if (a r).isSome=true then f r else loc r) (λr=>if (a r).isSome=true then a r else ob r):=by
 refine⟨(h.own.mono s).join b λr q c d e=>?_,?_,?_,λb o e n=>s _ _ (h.kp b o e n),λx j=>?_⟩
 ·cases i:ob r with
  |none=>exact c i
  |some u =>
   have:=h.own.get r u i
   rw[e,fresh q d] at this;cases this
 ·show (if (a .fC).isSome=true then _ else _)=p
  rw[g];exact h.np
 ·show (if (a .fC).isSome=true then _ else _)≠none
  rw[g];exact h.hn
 ·obtain⟨r,c,d⟩:=j
  by_cases z:(a r).isSome=true
  ·simp only[z,if_true] at c d
   rw[<- d];exact .inr (h.free (fresh r c))
  ·simp only[z,if_false] at c d
   exact h.fr x ⟨r,by simpa using c,by simpa using d⟩
end
noncomputable def yJ(ns:List Int)(i:Nat):RM.Row:=⟨ns.getD i 0,0,0,-1⟩
noncomputable def S0(ns:List Int)(rs:List R5)(cl:List (Nat×Nat)):NS where
 ws:=rs.map λr=>aA r.d.toNat
 R:=λ_=>yJ ns
 ts:=λ_=>[]
 aO:=cl.map (·.1)
 groups:=cl.map (·.2)
 had:=cl.map λ_=>[]
 ls:=[]
 cps:=[]
noncomputable def R6(C dx tp lu:Addr)(ls:List Addr)(ws:List (List Nat)):Role->Option HO
 |.e9=>some (.ins C dx [("town",.ref tp),("upright",.ref lu)])
 |.iQ=>some (.lst (ls.map V.ref))
 |.nY i=>ws[i]?.map λw=>.lst (bR w)
 |_=>none
noncomputable def WX(sp lu:Addr)(ls:List Addr):Role->Addr
 |.e9=>sp
 |.iQ=>lu
 |.nY i=>ls.getD i 0
 |_=>0
theorem aax{H:Hp}{C sp t n f:Addr}{ls:List Addr}{d:List (List Nat)}(p:H sp=some (.ins C t [("town",.ref n),("upright",.ref f)]))(v:H f=some (.lst (ls.map V.ref)))(hl:ls.length=d.length)
 (y:∀(i:Nat) l w,ls[i]?=some l->d[i]?=some w->H l=some (.lst (bR w))) (nd:ls.Nodup) (D:f∉ls):wY H (WX sp f ls) (R6 C t n f ls d):=by
 have b:∀{i:Nat},R6 C t n f ls d (.nY i)≠none->∃(a:i<ls.length),WX sp f ls (.nY i)=ls[i]:=λ{i} h=>by
  have a:i<ls.length:=by
   rw[hl];by_cases z:i<d.length
   ·exact z
   ·exact eL (show (d[i]?.map λw=>HO.lst (bR w))=none by rw[fF ∅];rfl) h
  refine⟨a,?_⟩;show ls.getD i 0=ls[i];rw[az,aa a];rfl
 have E:∀{i:Nat} (a:i<ls.length),∃w,H ls[i]=some (.lst (bR w)):=λ{i} a=>⟨d[i]'(hl▸a),y i _ _ (aa a) (aa (hl▸a))⟩;have x:sp≠f:=OP p v (λe=>by cases e);have u:∀{i:Nat} (a:i<ls.length),sp≠ls[i]:=λ{i} a=>by
  obtain⟨w,g⟩:=E a;exact OP p g (λe=>by cases e)
 have A:∀{i:Nat} (a:i<ls.length),f≠ls[i]:=λ{i} a e=>D (e▸aQ a);refine⟨λr o e=>?_,λr q m k e=>?_⟩
 ·cases r <;> first|(cases e;done)|skip
  case e9=>cases e;exact p
  case iQ=>cases e;exact v
  case nY i =>
   obtain⟨a,c⟩:=b (i:=i) (by rw[e];exact aS o);have g:=aa (hl▸a:i<d.length);have e:(d[i]?.map λw=>HO.lst (bR w))=some o:=e;rw[g] at e;cases e;rw[c];exact y i _ _ (aa a) g
 ·cases r <;> first|exact eL rfl m|skip
  all_goals cases q <;> first|exact eL rfl k|rfl|skip
  case e9.iQ=>exact eL e x
  case e9.nY i =>
   obtain⟨a,c⟩:=b k;exact eL (e.trans c) (u a)
  case iQ.e9=>exact eL e.symm x
  case iQ.nY i =>
   obtain⟨a,c⟩:=b k;exact eL (e.trans c) (A a)
  case nY.e9 i =>
   obtain⟨a,c⟩:=b m;exact eL (e.symm.trans c) (u a)
  case nY.iQ i =>
   obtain⟨a,c⟩:=b m;exact eL (e.symm.trans c) (A a)
  case nY.nY i j =>
   obtain⟨a,c⟩:=b m;obtain⟨B,s⟩:=b k;rw[c,s] at e;have q:ls[i]?=ls[j]?:=by rw[aa a,aa B,e]
   have:=(List.getElem?_inj a nd).mp q
   rw[this]
structure cX(ns:List Int)(rs:List R5):Prop where
 nd:ns.Nodup
 ok:∀r∈rs,r.Ok ns.length
 n1:1<=ns.length
 LQ:ns.length<=10
 VY:rs.length<=20
 pos:∀x∈ns,0<=x
structure CK(ns:List Int)(rs:List R5)(s:NS):Prop where
 wl:s.ws.length=rs.length
 w4:∀w∈s.ws,w.length<=4
 fit:∀g,g<3->wW ns.length rs.length (s.R g)
noncomputable abbrev Qm(rs:List R5)(ws:List (List Nat))(g:Nat):List Nat:=ze rs ws g rs.length
theorem zh{rs:List R5}{b:List (List Nat)}{g:Nat}:∀k∈Qm rs b g,k<rs.length:=λk a=>dm.mp (bC.mp a).1
noncomputable def kJ(ns:List Int)(rs:List R5)(o:cX ns rs)(ws:List (List Nat))(g:Nat):RM.Net:=aV ns rs (Qm rs ws g) o.nd o.ok zh
section
variable{K:af}{c:NC}{CT:Addr}{H H':Hp}{loc dx:Role->Addr}{q:TQ}{p tp ln lr:Addr}{n:Nat}{s:NS}{ns:List Int}{rs:List R5}
theorem wY.strAt(O:wY H loc (desc c dx tp loc q s)):Qh c.str H (loc .e9) tp (loc .iQ) s.ws:=by
 refine⟨⟨dx .e9,O.get .e9 _ rfl⟩,(aA s.ws.length).map λi=>loc (.nY i),?_,by rw[ah,bB],λi l w b a=>?_⟩
 ·have:=O.get .iQ _ rfl
  rw[this,dw];rfl
 ·have d:=(ai.mp a).1
  rw[aj,gp d] at b;cases b;exact O.get (.nY i) _ (by show (s.ws[i]?.map _)=_;rw[a];rfl)
theorem wY.KL(O:wY H loc (desc c dx tp loc q s)){g:Nat}(a:g<3):ql c.book H (loc (.book g)) (loc (.fq g)) (s.ts g) :=
 ⟨⟨dx (.book g),O.get (.book g) _ (ee a)⟩,O.get (.fq g) _ (ee a)⟩
theorem qm{f:Nat->V}{m g:Nat}(h:g<m):FF ((aA m).map f) (g:Int)=some (f g):=eY (by rw[aj,gp h];rfl)
theorem dF.OR{l:Addr}{qs:List Addr}{R:Nat->RM.Row}(h:dF K H qs (gH n R))(hl:bP K H l (qs.map V.ref)):wU K H l n R:=by
 have e:qs.length=n:=by rw[h.len];simp[gH]
 refine⟨qs,hl,e,λi p a=>h.at' i p _ a ?_⟩;have b:=(ai.mp a).1;unfold gH;rw[aj,gp ∅];rfl
theorem sC{xs:List Nat}{i:Nat}(h:i<xs.length):FF (bR xs) (i:Int)=some (.int (xs[i]:Nat)):=eY (by rw[aj,aa h];rfl)
end
noncomputable def fD{α:Type}(f:Nat->α)(i:Nat)(v:α):Nat->α:=λg=>if g=i then v else f g
theorem bS{α:Type}{f:Nat->α}{i:Nat}{v:α}:fD f i v i=v:=ee rfl
theorem cZ{α:Type}{f:Nat->α}{i g:Nat}{v:α}(h:g≠i):fD f i v g=f g:=er h
theorem wY.ext{H:Hp}{c loc':Role->Addr}{ob SV:Role->Option HO}(h:wY H c ob)(f:∀r,ob r=SV r)(d:∀r,ob r≠none->c r=loc' r):wY H loc' SV/\∀b,Fp c ob b↔Fp loc' SV b:=by
 have e:ob=SV:=funext f;subst e;refine⟨⟨λr o e=>?_,λr q a b e=>h.inj r q a b ?_⟩,λb=>⟨λ⟨r,a,e⟩=>⟨r,a,(d r a).symm.trans e⟩,λ⟨r,a,e⟩=>⟨r,a,(d r a).trans e⟩⟩⟩
 ·rw[<- d r (by rw[e];exact aS o)]
  exact h.get r o e
 ·rw[d r a,d q b]
  exact e
section
variable{K:af}{c:NC}{H H':Hp}{F:Addr->Prop}{loc dx:Role->Addr}{q:TQ}{p tp:Addr}{n g:Nat}{s:NS}
theorem OT(G:loc .fC=p)(O:wY H loc (desc c dx tp loc q s))(v:∀b,F b↔Fp loc (desc c dx tp loc q s) b)(j:rE K H n q s)(u:g<3){d' d:Addr}(h:H d'=none)
 (L:H' (loc (.book g))=some (.ins c.book d [("kept",.ref d')])) (N:H' d'=some (.dT [])) (I:∀b o,H b=some o->b≠loc (.book g)->H' b=some o) :
 ∃D,fG K c H' D p tp n {s with ts:=fD s.ts g []}/\Step H F H' D:=by
 have B:desc c dx tp loc q s (.book g)≠none:=by
  show (if g<3 then some _ else none)≠none;rw[ee u];exact aS _
 have E:F (loc (.book g)):=(v _).mpr ⟨.book g,B,rfl⟩;have f:∀b o,H b=some o->¬F b->H' b=some o:=λb o e z=>I b o e λw=>z (w▸E);have m:fG K c H F p tp n s:=⟨loc,dx,q,G,O,v,j⟩;have J:=O.set B (.ins c.book d [("kept",.ref d')]);have A:d'≠loc (.book g):=λz=>by
  have:=m.there E
  obtain⟨o,e⟩:=this;rw[z,e] at h;cases h
 have y:(upd H (loc (.book g)) (.ins c.book d [("kept",.ref d')])) d'=none:=by rw[aH A];exact h
 have Q:=J.new y (.fq g) (.dT []);have R:wY H' (yI loc (.fq g) d') (jr (jr (desc c dx tp loc q s) (.book g) (.ins c.book d [("kept",.ref d')])) (.fq g) (.dT [])):=by
  refine Q.keep λb o e _=>?_;by_cases z:b=d'
  ·rw[z,au] at e
   cases e;rw[z];exact N
  ·rw[aH z] at e
   by_cases t:b=loc (.book g)
   ·rw[t,au] at e
    cases e;rw[t];exact L
   ·rw[aH t] at e
    exact I b o e t
 obtain⟨M,S⟩:=R.ext (SV:=desc c (λr=>if r=.book g then d else dx r) tp (yI loc (.fq g) d') q {s with ts:=fD s.ts g []}) (loc':=yI loc (.fq g) d') (λr=>by
  cases r <;> first|rfl|skip
  ·rename_i k
   show jr (desc c dx tp loc q s) (.book g) _ (.book k)=(if k<3 then some (HO.ins c.book (if Role.book k=.book g then d else dx (.book k)) [("kept",.ref (yI loc (.fq g) d' (.fq k)))]) else none);by_cases z:k=g
   ·subst z
    rw[eF,ee u,ee rfl,jg]
   ·have C:Role.book k≠.book g:=λe=>z (by cases e;rfl)
    have a:Role.fq k≠.fq g:=λe=>z (by cases e;rfl);rw[dM C,er C,jw a];rfl
  ·rename_i k
   show jr (jr (desc c dx tp loc q s) (.book g) _) (.fq g) _ (.fq k)=(if k<3 then some (HO.dT ((fD s.ts g [] k).map fk)) else none);by_cases z:k=g
   ·subst z
    rw[eF,ee u,bS];rfl
   ·have a:Role.fq k≠.fq g:=λe=>z (by cases e;rfl)
    rw[dM a,cZ z];rfl) (λr _=>rfl)
 refine⟨Fp _ _,⟨_,_,q,?_,M,λb=>Iff.rfl,⟨λk P=>(j.rows k P).mono λb x=>m.tup f,λi l e=>(j.aD i l e).mono λb x=>m.tup f,j.cps.mono λb x=>m.tup f⟩⟩,f,λb T=>?_⟩
 ·rw[jw (λz=>by cases z)]
  exact G
 ·rcases J.YL ((S b).mpr T) with z|rfl
  ·exact .inl ((v b).mpr ((JI B).mp z))
  ·exact .inr h
theorem WY(I:loc .fC=p)(O:wY H loc (desc c dx tp loc q s))(u:∀b,F b↔Fp loc (desc c dx tp loc q s) b)(h:rE K H n q s)(D:g<3){x:Nat}(U:x<n){a:Addr}{d:RM.Row}(N:cP K H a (RM.cR d)) :
 ∃B,fG K c (upd H (loc (.rows g)) (.lst (((q.rq g).map V.ref).set x (.ref a)))) B p tp n {s with R:=fD s.R g (RM.upd (s.R g) x d)}/\Step H F (upd H (loc (.rows g)) (.lst (((q.rq g).map V.ref).set x (.ref a)))) B:=by
 have A:desc c dx tp loc q s (.rows g)≠none:=by
  show (if g<3 then some _ else none)≠none;rw[ee D];exact aS _
 have M:F (loc (.rows g)):=(u _).mpr ⟨.rows g,A,rfl⟩;have G:∀b o,H b=some o->¬F b->(upd H (loc (.rows g)) (.lst (((q.rq g).map V.ref).set x (.ref a)))) b=some o:=λb o e z=>by
  have L:b≠loc (.rows g):=λw=>z (w▸M);rw[aH L];exact e
 have Q:fG K c H F p tp n s:=⟨loc,dx,q,I,O,u,h⟩;have j:∀{b x},cP K H b x->_:=λ{b x} e=>Q.tup G (b:=b) (x:=x) e;have S:=O.set A (.lst (((q.rq g).map V.ref).set x (.ref a)));obtain⟨J,P⟩:=S.ext (SV:=desc c dx tp loc {q with rq:=fD q.rq g ((q.rq g).set x a)} {s with R:=fD s.R g (RM.upd (s.R g) x d)}) (loc':=loc) (λr=>by
  cases r <;> first|rfl|skip
  rename_i k;show jr (desc c dx tp loc q s) (.rows g) _ (.rows k)=(if k<3 then some (HO.lst ((fD q.rq g ((q.rq g).set x a) k).map V.ref)) else none);by_cases z:k=g
  ·subst z
   rw[eF,ee D,bS,List.map_set]
  ·rw[dM (λe=>z (by cases e;rfl)),cZ z]
   rfl) (λr _=>rfl)
 refine⟨Fp _ _,⟨loc,dx,_,I,J,λb=>Iff.rfl,⟨λk C=>?_,λi l e=>(h.aD i l e).mono λb x=>j,h.cps.mono λb x=>j⟩⟩,G,λb T=>.inl ((u b).mpr ((JI A).mp ((P b).mpr T)))⟩;show dF K _ (fD q.rq g ((q.rq g).set x a) k) (gH n (fD s.R g (RM.upd (s.R g) x d) k));by_cases z:k=g
 ·subst z
  rw[bS,bS];have E:=h.rows k C;have y:(q.rq k).length=n:=by rw[E.len];simp[gH]
  refine⟨by rw[bT,y];simp[gH],λi b v f t=>?_⟩;have m:=(ai.mp f).1;rw[bT,y] at m;unfold gH at t;rw[aj,gp m] at t;cases t;rw[uL] at f;by_cases w:x=i
  ·subst w
   rw[ee rfl,ee (by rw[y];exact m)] at f;cases f
   have:RM.upd (s.R k) x d x=d:=by unfold RM.upd;rw[ee rfl]
   show cP K _ a (RM.cR (RM.upd (s.R k) x d x));rw[this];exact j N
  ·rw[er w] at f
   have:RM.upd (s.R k) x d i=s.R k i:=by unfold RM.upd;rw[er (bK w)]
   show cP K _ b (RM.cR (RM.upd (s.R k) x d i));rw[this];exact j (E.at' i b _ f (by unfold gH;rw[aj,gp m];rfl))
 ·rw[cZ z,cZ z]
  exact (h.rows k C).mono λb x=>j
end
end TW
namespace TW
open PySem L2 PyProof.Rows
open Classical in
noncomputable def Off(H:Hp)(F:Addr->Prop):Hp:=λb=>if F b then none else H b
section
variable{K:af}{c:NC}{CT:Addr}{H H':Hp}{F F' F1 F2 G:Addr->Prop}{p tp ln lr:Addr}{n:Nat}{s:NS}{ns:List Int}{rs:List R5}
theorem pU{b:Addr}{o:HO}(h:Off H F b=some o):¬F b/\H b=some o:=by
 unfold Off at h;by_cases z:F b
 ·rw[ee z] at h;cases h
 ·rw[er z] at h;exact⟨z,h⟩
theorem qp{b:Addr}{o:HO}(z:¬F b)(h:H b=some o):Off H F b=some o:=by
 unfold Off;rw[er z];exact h
theorem dH:aG (Off H F) H:=λb o e=>(pU e).2
theorem zj(st:Step H F H' F'):aG (Off H F) (Off H' F'):=λb o e=>by
 obtain⟨a,c⟩:=pU e;refine qp (λz=>?_) (st.kp b o c a);rcases st.fr b z with w|w
 ·exact a w
 ·rw[c] at w;cases w
theorem iF(e:aG H H'):aG (Off H F) (Off H' F):=zj (Step.refl' e)
theorem fG.agL(h:fG K c H F p tp n s){b:Addr}{x:List V}(e:cP K H b x):cP K (Off H F) b x:=by
 rcases e with (e|⟨o,e⟩)|e
 ·exact .inl (.inl (qp (λz=>(h.Ql z e x).1 rfl) e))
 ·exact .inl (.inr ⟨o,qp (λz=>(h.Ql z e x).2 o rfl) e⟩)
 ·exact .inr e
theorem c7.nw(a:c7 K CT (Off H G) tp ln lr ns rs)(N:fG K c H F p tp ns.length s)(sub:∀b,F b->G b):NW K c CT H F p tp ln lr ns rs s:=by
 obtain⟨⟨g,d⟩,e,h,f,i⟩:=id a;exact⟨N,a.mono dH,λz=>(pU d).1 (sub _ z),λz=>(pU e).1 (sub _ z),λz=>(pU f).1 (sub _ z)⟩
end
def KN(K:af)(H:Hp)(l:Addr)(rs:List R5):Prop:=∃qs:List Addr,H l=some (.lst (qs.map V.ref))/\dF K H qs (rs.map R5.vs)
theorem KN.keep{K:af}{H a:Hp}{l:Addr}{rs:List R5}(h:KN K H l rs)(k:∀o,H l=some o->a l=some o)(e:∀b x,cP K H b x->cP K a b x):KN K a l rs:=by
 obtain⟨f,c,d⟩:=h;exact⟨f,k _ c,d.mono e⟩
theorem KN.Qn{K:af}{H:Hp}{l:Addr}:∀{rs:List R5} {qs:List Addr},dF K H qs (rs.map R5.vs)->cW K H (rs.map R5.D) (qs.map V.ref)
 |[],[],_=>rfl
 |[],_::_,h=>by cases h.len
 |_::_,[],h=>by cases h.len
 |r::rs,q::qs,h=>⟨.ref q,qs.map V.ref,rfl,Rep.JB (ns:=r.ns) (h.at' 0 q _ rfl rfl),KN.Qn (l:=l) ⟨Nat.succ.inj h.len,λi p x a b=>h.at' (i+1) p x a b⟩⟩
theorem UG{H a d:Hp}{F:Addr->Prop}{p:Addr}(t:aG H a)(c:H p=none)(f:∀b o,a b=some o->b≠p->d b=some o)(g:∀b,F b->b=p∨a b=none):aG H (Off d F):=λb o e=>qp (λz=>by
 rcases g b z with rfl|w
 ·rw[e] at c;cases c
 ·rw[t _ _ e] at w;cases w) (f b o (t b o e) (aE e c))
end TW
namespace L2
open PySem PySem.Spec PyProof.Rows
structure KO(K:af)(x qual:Str)(st:Stmt)(f:Addr)(fd:FuncData)(dv:Value):Prop where
 ex:∃(oc:Value) (od:Option Addr) (T:Addr) (o:Obj) (n:Nat) (kV doc pm:Value) (an:Option Addr) (cdv ct:Value) (osl:Array (Option Value)),
  fd=eT x qual (jv st) (fX st) (aC st) (.ref T) kV doc pm an cdv ct/\K.lookup f=some ⟨oc,od,.func fd,osl⟩/\jm K cdv qual=true/\K.lookup T=some o/\o.data=.seq #[dv] n
 kp:dX K (.ref f)=true
section
variable{P:Program}{w:World}{K:af}{mg:Str->Option Value}{base:Heap}
theorem KO.ok{x b:Str}{st:Stmt}{f:Addr}{i:FuncData}{u:Value}{N ps:List Str}{k:Nat}{sp:Sp}(F:KO K x b st f i u)(S:aJ N ps (aC st))(g:∀vs H Q E,sp vs H Q E->vs.length=ps.length)
 (d:∀(c:Value) (A:Around) (a:List Env) (s:Shared) (H:Hp) (vs:List V) (Q:VK) (E:XK),jE k (A.deeper (envOfC b (aC st) s.heap.objs.size f c))->sp vs H Q E ->
  ∃t,iD (oj iM P w K mg base N b (aC st) f c A a s H E).Yp (fX st) t/\t {nx:=λ_ j=>Q .fH j,rt:=Q} (start N vs) H):cz P w K mg base iM (k+1) f i ps sp:=by
 obtain⟨B,v,T,o,n,kV,l,C,z,c,y,r,rfl,lk,e,_⟩:=F.ex;refine TL lk e S g λA a s H vs Q E p m=>?_;obtain⟨t,h,q⟩:=d c A a s H vs Q E p m;exact⟨t,h.Yp,q⟩
theorem KO.binds{x a:Str}{st:Stmt}{f:Addr}{g:FuncData}{i:Value}{ps:List Str}{ds:List Value}{m:Nat}(F:KO K x a st f g i)(v:m+ds.length=ps.length)
 (h:∀(T:Addr) (kV b e:Value) (d:Option Addr) (c ct:Value) (us:List Value),us.length=m ->
  ∃k,bindArgs (eT x a (jv st) (fX st) (aC st) (.ref T) kV b e d c ct) ⟨us,[]⟩=seqItems? (.ref T) >>= k/\k (some #[i])=pure (ps.zip (us++ds))):Binds K g ps ds:=by
 obtain⟨y,w,T,o,n,kV,b,e,d,c,ct,r,rfl,lk,p,lt,u⟩:=F.ex;intro s us l t;obtain⟨k,j,q⟩:=h T kV b e d c ct us (by rw[av] at t;lia);exact PySem.W.binds_K l rfl lt u j q
theorem Qo{x a:Str}{st:Stmt}{f T:Addr}{o:Obj}{n:Nat}{m:Value}{j:Value}{i g:Option Addr}{e:Array (Option Value)}{kV d h b ct:Value}(l:K.lookup f=some ⟨j,i,.func (eT x a (jv st) (fX st) (aC st) (.ref T) kV d h g b ct),e⟩)
 (c:jm K b a=true) (k:dX K (.ref f)=true) (lt:K.lookup T=some o) (p:o.data=.seq #[m] n):KO K x a st f (eT x a (jv st) (fX st) (aC st) (.ref T) kV d h g b ct) m:=⟨⟨j,i,T,o,n,kV,d,h,g,b,ct,e,rfl,l,c,lt,p⟩,k⟩
end
end L2
namespace TW
open PySem L2 PyProof.Rows
structure mV(K:af)(c:NC)(H:Hp)(F:Addr->Prop)(loc dx:Role->Addr)(q:TQ)(p tp:Addr)(n:Nat)(s:NS):Prop where
 hp:loc .fC=p
 own:wY H loc (desc c dx tp loc q s)
 fp:∀b,F b↔Fp loc (desc c dx tp loc q s) b
 tup:rE K H n q s
section
variable{K:af}{c:NC}{H H':Hp}{F:Addr->Prop}{loc dx:Role->Addr}{q:TQ}{p tp:Addr}{n:Nat}{s:NS}
theorem mV.fC(h:mV K c H F loc dx q p tp n s):fG K c H F p tp n s:=⟨loc,dx,q,h.hp,h.own,h.fp,h.tup⟩
theorem mV.mono(h:mV K c H F loc dx q p tp n s)(e:aG H H'):mV K c H' F loc dx q p tp n s:=⟨h.hp,h.own.mono e,h.fp,h.tup.mono λb x=>e.dB⟩
theorem AH(X:mV K c H F loc dx q p tp n s){r:Role}(a:desc c dx tp loc q s r≠none){o:HO}{q':TQ}{s':NS}
 (j:∀x,jr (desc c dx tp loc q s) r o x=desc c dx tp loc q' s' x) (f:(∀b x,cP K H b x->cP K (upd H (loc r) o) b x)->rE K (upd H (loc r) o) n q' s') :
 mV K c (upd H (loc r) o) F loc dx q' p tp n s'/\Step H F (upd H (loc r) o) F:=by
 obtain⟨h,O,d,m⟩:=X;have k:F (loc r):=(d _).mpr ⟨r,a,rfl⟩;have t:fG K c H F p tp n s:=⟨loc,dx,q,h,O,d,m⟩;have g:∀b u,H b=some u->¬F b->(upd H (loc r) o) b=some u:=λb u e z=>cK b u e λw=>z (w▸k);obtain⟨i,l⟩:=(O.set a o).ext (SV:=desc c dx tp loc q' s') (loc':=loc) j (λx _=>rfl);exact⟨⟨h,i,λb=>(d b).trans ((JI a).symm.trans (l b)),f λb x=>t.tup g⟩,g,λb z=>.inl z⟩
theorem gu{ls:List LS}{i k:Nat}{a:LS}(b:i<ls.length):(ls.set i a)[k]?=if k=i then some a else ls[k]?:=by
 rw[uL];by_cases z:i=k
 ·subst z
  rw[ee rfl,ee b,ee rfl]
 ·rw[er z,er (bK z)]
noncomputable def mW(c:NC)(dx:Role->Addr)(loc:Role->Addr)(i:Nat)(l:LS):HO:=.ins c.post (dx (.bW i)) [("letter",.ref (loc (.letter i))),("group",.int l.grp),("old",.bl l.old),("done_at",.ref (loc (.done i))),("deeds",.ref (loc (.aD i)))]
theorem WZ(X:mV K c H F loc dx q p tp n s){i:Nat}{l:LS}(hl:s.ls[i]?=some l) :
 mV K c (upd H (loc (.bW i)) (mW c dx loc i {l with old:=true})) F loc dx q p tp n {s with ls:=s.ls.set i {l with old:=true}}/\Step H F (upd H (loc (.bW i)) (mW c dx loc i {l with old:=true})) F:=by
 have a:=(ai.mp hl).1;refine AH X (r:=.bW i) (q':=q) (by show (s.ls[i]?.map _)≠none;rw[hl];exact aS _) (λx=>?_) (λb=>⟨λg f=>(X.tup.rows g f).mono b,λk d e=>?_,X.tup.cps.mono b⟩)
 ·cases x <;> first|rfl|skip
  ·show some _=some (HO.lst ((aA (s.ls.set i _).length).map _))
   rw[bT]
  all_goals rename_i k
  ·show jr (desc c dx tp loc q s) (.bW i) _ (.bW k)=((s.ls.set i _)[k]?.map λl=>mW c dx loc k l)
   rw[gu a];by_cases z:k=i
   ·subst z
    rw[eF,ee rfl];rfl
   ·rw[dM (λe=>z (by cases e;rfl)),er z]
    rfl
  ·show (s.ls[k]?.map λl=>rD c (dx (.letter k)) l)=((s.ls.set i _)[k]?.map λl=>rD c (dx (.letter k)) l)
   rw[gu a];by_cases z:k=i
   ·subst z
    rw[ee rfl,hl];rfl
   ·rw[er z]
  ·show (s.ls[k]?.map λl=>HO.dK (l.done.map λh:Nat=>(gD (h:Int),.bl true)))=((s.ls.set i _)[k]?.map λl=>HO.dK (l.done.map λh:Nat=>(gD (h:Int),.bl true)))
   rw[gu a];by_cases z:k=i
   ·subst z
    rw[ee rfl,hl];rfl
   ·rw[er z]
  ·show (s.ls[k]?.map λ_=>HO.lst ((q.dq k).map V.ref))=((s.ls.set i _)[k]?.map λ_=>HO.lst ((q.dq k).map V.ref))
   rw[gu a];by_cases z:k=i
   ·subst z
    rw[ee rfl,hl];rfl
   ·rw[er z]
 ·have e:(s.ls.set i _)[k]?=some d:=e
  rw[gu a] at e;by_cases z:k=i
  ·subst z
   rw[ee rfl] at e;cases e;exact (X.tup.aD k l hl).mono b
  ·rw[er z] at e
   exact (X.tup.aD k d e).mono b
theorem UH(X:mV K c H F loc dx q p tp n s){i:Nat}{l:LS}(hl:s.ls[i]?=some l)(ds:List Nat) :
 mV K c (upd H (loc (.done i)) (.dK (ds.map λh:Nat=>(gD (h:Int),.bl true)))) F loc dx q p tp n {s with ls:=s.ls.set i {l with done:=ds}}/\Step H F (upd H (loc (.done i)) (.dK (ds.map λh:Nat=>(gD (h:Int),.bl true)))) F:=by
 have a:=(ai.mp hl).1;refine AH X (r:=.done i) (q':=q) (by show (s.ls[i]?.map _)≠none;rw[hl];exact aS _) (λx=>?_) (λb=>⟨λg f=>(X.tup.rows g f).mono b,λk d e=>?_,X.tup.cps.mono b⟩)
 ·cases x <;> first|rfl|skip
  ·show some _=some (HO.lst ((aA (s.ls.set i _).length).map _))
   rw[bT]
  all_goals rename_i k
  ·show (s.ls[k]?.map λl=>mW c dx loc k l)=((s.ls.set i _)[k]?.map λl=>mW c dx loc k l)
   rw[gu a];by_cases z:k=i
   ·subst z
    rw[ee rfl,hl];rfl
   ·rw[er z]
  ·show (s.ls[k]?.map λl=>rD c (dx (.letter k)) l)=((s.ls.set i _)[k]?.map λl=>rD c (dx (.letter k)) l)
   rw[gu a];by_cases z:k=i
   ·subst z
    rw[ee rfl,hl];rfl
   ·rw[er z]
  ·show jr (desc c dx tp loc q s) (.done i) _ (.done k)=((s.ls.set i _)[k]?.map λl=>HO.dK (l.done.map λh:Nat=>(gD (h:Int),.bl true)))
   rw[gu a];by_cases z:k=i
   ·subst z
    rw[eF,ee rfl];rfl
   ·rw[dM (λe=>z (by cases e;rfl)),er z]
    rfl
  ·show (s.ls[k]?.map λ_=>HO.lst ((q.dq k).map V.ref))=((s.ls.set i _)[k]?.map λ_=>HO.lst ((q.dq k).map V.ref))
   rw[gu a];by_cases z:k=i
   ·subst z
    rw[ee rfl,hl];rfl
   ·rw[er z]
 ·have e:(s.ls.set i _)[k]?=some d:=e
  rw[gu a] at e;by_cases z:k=i
  ·subst z
   rw[ee rfl] at e;cases e;exact (X.tup.aD k l hl).mono b
  ·rw[er z] at e
   exact (X.tup.aD k d e).mono b
theorem CL(X:mV K c H F loc dx q p tp n s){i:Nat}{l:LS}(hl:s.ls[i]?=some l){a:Addr}{d:dN}(A:cP K H a d.vs) :
 mV K c (upd H (loc (.aD i)) (.lst ((q.dq i).map V.ref++[.ref a]))) F loc dx {q with dq:=fD q.dq i (q.dq i++[a])} p tp n {s with ls:=s.ls.set i {l with aD:=l.aD++[d]}}/\Step H F (upd H (loc (.aD i)) (.lst ((q.dq i).map V.ref++[.ref a]))) F:=by
 have m:=(ai.mp hl).1;refine AH X (r:=.aD i) (q':={q with dq:=fD q.dq i (q.dq i++[a])}) (by show (s.ls[i]?.map _)≠none;rw[hl];exact aS _) (λx=>?_) (λo=>⟨λg y=>(X.tup.rows g y).mono o,λk v e=>?_,X.tup.cps.mono o⟩)
 ·cases x <;> first|rfl|skip
  ·show some _=some (HO.lst ((aA (s.ls.set i _).length).map _))
   rw[bT]
  all_goals rename_i k
  ·show (s.ls[k]?.map λl=>mW c dx loc k l)=((s.ls.set i _)[k]?.map λl=>mW c dx loc k l)
   rw[gu m];by_cases z:k=i
   ·subst z
    rw[ee rfl,hl];rfl
   ·rw[er z]
  ·show (s.ls[k]?.map λl=>rD c (dx (.letter k)) l)=((s.ls.set i _)[k]?.map λl=>rD c (dx (.letter k)) l)
   rw[gu m];by_cases z:k=i
   ·subst z
    rw[ee rfl,hl];rfl
   ·rw[er z]
  ·show (s.ls[k]?.map λl=>HO.dK (l.done.map λh:Nat=>(gD (h:Int),.bl true)))=((s.ls.set i _)[k]?.map λl=>HO.dK (l.done.map λh:Nat=>(gD (h:Int),.bl true)))
   rw[gu m];by_cases z:k=i
   ·subst z
    rw[ee rfl,hl];rfl
   ·rw[er z]
  ·show jr (desc c dx tp loc q s) (.aD i) _ (.aD k)=((s.ls.set i _)[k]?.map λ_=>HO.lst ((fD q.dq i (q.dq i++[a]) k).map V.ref))
   rw[gu m];by_cases z:k=i
   ·subst z
    rw[eF,ee rfl,bS,aT];rfl
   ·rw[dM (λe=>z (by cases e;rfl)),er z,cZ z]
    rfl
 ·show dF K _ (fD q.dq i (q.dq i++[a]) k) _
  have e:(s.ls.set i _)[k]?=some v:=e;rw[gu m] at e;by_cases z:k=i
  ·subst z
   rw[ee rfl] at e;cases e;rw[bS];show dF K _ _ ((l.aD++[d]).map dN.vs);rw[aT];have u:=(X.tup.aD k l hl).mono o;refine⟨by rw[av,av,u.len];rfl,λj b x t f=>?_⟩;rcases Gj t with t|⟨rfl,rfl⟩
   ·have w:=(ai.mp t).1
    rw[bL (by rw[<- u.len];exact w)] at f;exact u.at' j b x t f
   ·rw[u.len,cu (ay _)] at f
    rw[iY] at f;cases f;exact o _ _ A
  ·rw[er z] at e
   rw[cZ z];exact (X.tup.aD k v e).mono o
theorem Qp(X:mV K c H F loc dx q p tp n s){qs:List Addr}{cps:List Cp}(d:dF K H qs (cps.map Cp.vs)) :
 mV K c (upd H (loc .lP) (.lst (qs.map V.ref))) F loc dx {q with cq:=qs} p tp n {s with cps:=cps}/\Step H F (upd H (loc .lP) (.lst (qs.map V.ref))) F :=
 AH X (r:=.lP) (q':={q with cq:=qs}) (aS _) (λx=>by cases x <;> rfl) (λa=>⟨λg b=>(X.tup.rows g b).mono a,λk l e=>(X.tup.aD k l e).mono a,d.mono a⟩)
theorem UI(X:mV K c H F loc dx q p tp n s){i:Nat}(d:i<s.had.length)(a:List Nat) :
 mV K c (upd H (loc (.handed i)) (.lst (bR a))) F loc dx q p tp n {s with had:=s.had.set i a}/\Step H F (upd H (loc (.handed i)) (.lst (bR a))) F:=by
 refine AH X (r:=.handed i) (q':=q) (by show (s.had[i]?.map _)≠none;rw[aa d];exact aS _) (λx=>?_) (λb=>⟨λg f=>(X.tup.rows g f).mono b,λk l e=>(X.tup.aD k l e).mono b,X.tup.cps.mono b⟩);cases x <;> first|rfl|skip
 ·show some _=some (HO.lst ((aA (s.had.set i _).length).map _))
  rw[bT]
 ·rename_i k
  show jr (desc c dx tp loc q s) (.handed i) _ (.handed k)=((s.had.set i a)[k]?.map λw=>HO.lst (bR w));rw[uL];by_cases z:k=i
  ·subst z
   rw[eF,ee rfl,ee d];rfl
  ·rw[dM (λe=>z (by cases e;rfl)),er (bK z)]
   rfl
end
theorem GV{α:Type}{xs:List α}{i:Nat}{x:α}(h:xs[i]?=some x):xs.set i x=xs:=by
 obtain⟨a,rfl⟩:=ai.mp h;exact List.set_getElem_self a
noncomputable def yK(c:NC)(DB KP la da ea:Addr)(n:Nat)(l:LS):Role->Option HO
 |.bW i=>if i=n then some (.ins c.post DB [("letter",.ref la),("group",.int l.grp),("old",.bl l.old),("done_at",.ref da),("deeds",.ref ea)]) else none
 |.letter i=>if i=n then some (rD c KP l) else none
 |.done i=>if i=n then some (.dK (l.done.map λh:Nat=>(gD (h:Int),.bl true))) else none
 |.aD i=>if i=n then some (.lst []) else none
 |_=>none
noncomputable def newL(pa la da ea:Addr):Role->Addr
 |.bW _=>pa
 |.letter _=>la
 |.done _=>da
 |.aD _=>ea
 |_=>0
section
variable{K:af}{c:NC}{H H':Hp}{F:Addr->Prop}{loc dx:Role->Addr}{q:TQ}{p tp:Addr}{n:Nat}{s:NS}
theorem aay{DB KP pa la da ea:Addr}{l:LS}(t:H pa=some (.ins c.post DB [("letter",.ref la),("group",.int l.grp),("old",.bl l.old),("done_at",.ref da),("deeds",.ref ea)]))(w:H la=some (rD c KP l))(x:H da=some (.dK (l.done.map λh:Nat=>(gD (h:Int),.bl true))))(v:H ea=some (.lst []))
 (p:pa≠la) (j:pa≠da) (s:pa≠ea) (m:la≠da) (k:la≠ea) (q:da≠ea):wY H (newL pa la da ea) (yK c DB KP la da ea n l):=by
 have d:∀{i:Nat} {o:HO} {g:HO},(if i=n then some o else none)=some g->o=g/\i=n:=λ{i o g} e=>by
  by_cases z:i=n
  ·rw[ee z] at e;cases e;exact⟨rfl,z⟩
  ·rw[er z] at e;cases e
 have f:∀{i:Nat} {o:HO},(if i=n then some o else none)≠none->i=n:=λ{i o} e=>by
  by_cases z:i=n
  ·exact z
  ·rw[er z] at e;exact eL rfl e
 refine⟨λr o e=>?_,λr u a b e=>?_⟩
 ·cases r <;> first|(cases e;done)|skip
  ·rw[<- (d e).1];exact t
  ·rw[<- (d e).1];exact w
  ·rw[<- (d e).1];exact x
  ·rw[<- (d e).1];exact v
 ·cases r <;> first|exact eL rfl a|skip
  all_goals cases u <;> first|exact eL rfl b|skip
  all_goals first
   | (rw[f a,f b];done)
   |exact eL e p
   |exact eL e.symm p
   |exact eL e j
   |exact eL e.symm j
   |exact eL e s
   |exact eL e.symm s
   |exact eL e m
   |exact eL e.symm m
   |exact eL e k
   |exact eL e.symm k
   |exact eL e q
   |exact eL e.symm q
theorem UJ(E:loc .fC=p)(O:wY H loc (desc c dx tp loc q s))(j:∀b,F b↔Fp loc (desc c dx tp loc q s) b)(m:rE K H n q s){DB KP pa la da ea:Addr}{l:LS}(Y:l.aD=[])
 (G:H pa=some (.ins c.post DB [("letter",.ref la),("group",.int l.grp),("old",.bl l.old),("done_at",.ref da),("deeds",.ref ea)])) (Q:H la=some (rD c KP l)) (h3:H da=some (.dK (l.done.map λh:Nat=>(gD (h:Int),.bl true)))) (M:H ea=some (.lst []))
 (d1:pa≠la) (N:pa≠da) (Z:pa≠ea) (W:la≠da) (U:la≠ea) (d6:da≠ea) (n1:¬F pa) (n2:¬F la) (n3:¬F da) (n4:¬F ea) :
 ∃B,fG K c (upd H (loc .cT) (.lst (((aA s.ls.length).map λi=>.ref (loc (.bW i)))++[.ref pa]))) B p tp n {s with ls:=s.ls++[l]} /\
  (∀b o,H b=some o->¬F b->(upd H (loc .cT) (.lst (((aA s.ls.length).map λi=>.ref (loc (.bW i)))++[.ref pa]))) b=some o)/\∀b,B b->F b∨b=pa∨b=la∨b=da∨b=ea:=by
 have y:=aay (n:=s.ls.length) (c:=c) G Q h3 M d1 N Z W U d6;have N0:fG K c H F p tp n s:=⟨loc,dx,q,E,O,j,m⟩;have A:desc c dx tp loc q s .cT≠none:=aS _;have T:F (loc .cT):=(j _).mpr ⟨.cT,A,rfl⟩;have t:∀r,yK c DB KP la da ea s.ls.length l r≠none->¬F (newL pa la da ea r):=λr h=>by
  cases r <;> first|exact eL rfl h|assumption
 have D:∀b o,H b=some o->¬F b->(upd H (loc .cT) (.lst (((aA s.ls.length).map λi=>.ref (loc (.bW i)))++[.ref pa]))) b=some o:=λb u e z=>cK b u e λw=>z (w▸T);have v:∀b x,cP K H b x->cP K _ b x:=λb x=>N0.tup D;have J:=O.join y λr L a b e=>t L b (e▸(j _).mpr ⟨r,a,rfl⟩);have S:=J.set (r:=.cT) A (.lst (((aA s.ls.length).map λi=>V.ref (loc (.bW i)))++[.ref pa]));have f:∀{k:Nat},k≠s.ls.length->(s.ls++[l])[k]?=s.ls[k]?:=λ{k} z=>by
  by_cases w:k<s.ls.length
  ·exact bL w
  ·rw[fF (by rw[av];show s.ls.length+1<=k;lia),fF ∅]
 have d:(s.ls++[l])[s.ls.length]?=some l:=by rw[cu (ay _),iY];rfl
 obtain⟨I,X⟩:=S.ext (SV:=desc c (λr=>if r=.bW s.ls.length then DB else if r=.letter s.ls.length then KP else dx r) tp (λr=>if (yK c DB KP la da ea s.ls.length l r).isSome=true then newL pa la da ea r else loc r) {q with dq:=fD q.dq s.ls.length []} {s with ls:=s.ls++[l]})
  (loc':=λr=>if (yK c DB KP la da ea s.ls.length l r).isSome=true then newL pa la da ea r else loc r) (λr=>by
   cases r <;> first|rfl|skip
   ·
    show some _=some (HO.lst ((aA (s.ls++[l]).length).map _));rw[av];show _=some (HO.lst ((aA (s.ls.length+1)).map _));rw[mF,aT];congr 2;congr 1
    ·refine c6 λi P=>?_
     have z:i≠s.ls.length:=by have:=dm.mp P;lia
     simp[yK,z]
    ·simp[yK,newL]
   all_goals rename_i k
   all_goals by_cases z:k=s.ls.length
   all_goals first|subst z|skip
   all_goals rw[dM (λe=>by cases e)]
   ·simp[yK,newL,desc,d]
   ·have:=f z
    simp[yK,newL,desc,z,this]
   ·simp[yK,newL,desc,d]
   ·have:=f z
    simp[yK,newL,desc,z,this]
   ·simp[yK,newL,desc,d]
   ·have:=f z
    simp[yK,newL,desc,z,this]
   ·simp[yK,newL,desc,d,bS]
   ·have:=f z
    simp[yK,newL,desc,z,this,cZ z]) (λr _=>rfl)
 refine⟨Fp _ _,⟨λr=>if (yK c DB KP la da ea s.ls.length l r).isSome=true then newL pa la da ea r else loc r,_,_,E,I,λb=>Iff.rfl,⟨λg R=>(m.rows g R).mono v,λk C e=>?_,m.cps.mono v⟩⟩,D,λb hb=>?_⟩
 ·have e:(s.ls++[l])[k]?=some C:=e
  show dF K _ (fD q.dq s.ls.length [] k) _;by_cases z:k=s.ls.length
  ·subst z
   rw[d] at e;cases e;rw[bS,Y];exact⟨rfl,λi b x e=>by cases e⟩
  ·rw[f z] at e
   rw[cZ z];exact (m.aD k C e).mono v
 ·obtain⟨r,a,e⟩:=(JI (ob:=λr=>if (yK c DB KP la da ea s.ls.length l r).isSome=true then yK c DB KP la da ea s.ls.length l r else desc c dx tp loc q s r) (r:=.cT) A).mp ((X b).mpr hb)
  by_cases z:(yK c DB KP la da ea s.ls.length l r).isSome=true
  ·simp only[z,if_true] at e
   subst e;right;cases r <;> first|(cases z;done)|skip
   ·exact .inl rfl
   ·exact .inr (.inl rfl)
   ·exact .inr (.inr (.inl rfl))
   ·exact .inr (.inr (.inr rfl))
  ·simp only[z,if_false] at a e
   exact .inl ((j b).mpr ⟨r,by simpa using a,by simpa using e⟩)
end
theorem Qq(a b x y:Int):PyData.eqv (.tuple (([a,b]:List Int).map .int)) (.tuple (([x,y]:List Int).map .int))=decide (a=x/\b=y):=by
 show (PyData.eqv (.int a) (.int x)&&(PyData.eqv (.int b) (.int y)&&true))=_;show ((a==x)&&((b==y)&&true))=_;rw[Bool.and_true,iC];simp
noncomputable def oY(s:NS)(i:Nat)(d:dN):NS:=match s.ls[i]? with|some l=>{s with ls:=s.ls.set i {l with aD:=l.aD++[d]}}|none=>s
theorem fL{s:NS}{i:Nat}{d:dN}{l:LS}(h:s.ls[i]?=some l):oY s i d={s with ls:=s.ls.set i {l with aD:=l.aD++[d]}}:=by
 unfold oY;rw[h]
theorem R7{α:Type}{f:α->Bool}{xs:List α}{i:Nat}(a:i<xs.length):(xs.take (i+1)).filter f=(xs.take i).filter f++if f xs[i]=true then [xs[i]] else []:=by
 rw[ju a,fO];congr 1;cases e:f xs[i]
 ·rw[er (!_),r9 (by rw[e];decide)];rfl
 ·rw[ee rfl,r8 e];rfl
theorem dF.snoc{K:af}{H:Hp}{qs:List Addr}{xs:List (List V)}{a:Addr}{x:List V}(h:dF K H qs xs)(f:cP K H a x):dF K H (qs++[a]) (xs++[x]):=by
 refine⟨by rw[av,av,h.len];rfl,λj b y d c=>?_⟩;rcases Gj d with d|⟨rfl,rfl⟩
 ·have e:=(ai.mp d).1
  rw[bL (by rw[<- h.len];exact e)] at c;exact h.at' j b y d c
 ·rw[h.len,cu (ay _),iY] at c
  cases c;exact f
end TW
namespace RM
variable{N:Net}{S:Nat->Row}
end RM
namespace Gr
end Gr
namespace L2
open PySem PySem.Spec PyProof.Rows
section
variable{X:Cx}{pos:Pos}
theorem sS(i:Nat){x:Str}{e:Expr}{b:TE}{a:Pos}{ps:List Str}{d:Scope}(S:aJ X.N ps d)(j:PE X e b)(c:X.N[i]?=some x:=by rfl)(g:Loc X.env.scope x:=by first|exact Or.inl rfl|exact Or.inr rfl)(f:swapsWith e (some (.Name x a)) pos.line X.env=pure false:=by rfl)(h:X.fn x=true∨X.env.scope.names.lookup x=some .local:=by first|exact .inl rfl|exact .inr rfl|assumption) :
 PS X (.Assign [.Name x a] e pos) (We b (iz i)):=ZN S.nd c g j f h
theorem gS(i:Nat){x:Str}(d:X.N.Nodup)(a:X.N[i]?=some x:=by rfl)(b:Loc X.env.scope x:=by first|exact Or.inl rfl|exact Or.inr rfl)(c:X.fn x=true∨X.env.scope.names.lookup x=some .local:=by first|exact .inl rfl|exact .inr rfl|assumption):PG X (.Name x pos) (iz i):=PN d a b c
theorem gT(i:Nat){x:Str}{ps:List Str}{b:Scope}(S:aJ X.N ps b)(a:X.N[i]?=some x:=by rfl)(c:Loc X.env.scope x:=by first|exact Or.inl rfl|exact Or.inr rfl)(d:X.fn x=true∨X.env.scope.names.lookup x=some .local:=by first|exact .inl rfl|exact .inr rfl|assumption):PG X (.Name x pos) (iz i):=PN S.nd a c d
theorem oR{e:Expr}{a:TE}(b:PE X e a):iD X [.Return (some e) pos] (ZH a):=bI (Td b)
theorem oB{b j pos'}:iD X [.Return (some (.Constant (.bool b) j pos')) pos] (ZH (tC (.bl b))):=bI (Td PM)
theorem oE{e:Expr}{a:TE}(c:PE X e a)(b:swapsWith e none pos.line X.env=pure false:=by rfl):iD X [.Expr e pos] (Yq a):=bI (fE c b)
theorem gV{a:Expr}{b:TE}(d:PE X a b)(c:eB a=true:=by rfl):PA X [a] (gx b Bu):=(mQ d iP c)
theorem nZ{b a:Expr}{c d:TE}(e:PE X b c)(f:PE X a d)(g:eB b=true:=by rfl)(h:eB a=true:=by rfl):PA X [b,a] (gx c (gx d Bu)):=(mQ e (mQ f iP h) g)
theorem Ir{c a b:Expr}{d e f:TE}(g:PE X c d)(h:PE X a e)(k:PE X b f)(i:eB c=true:=by rfl)(l:eB a=true:=by rfl)(j:eB b=true:=by rfl):PA X [c,a,b] (gx d (gx e (gx f Bu))):=(mQ g (mQ h (mQ k iP j) l) i)
theorem YN{d b c a:Expr}{f g h e:TE}(i:PE X d f)(j:PE X b g)(n:PE X c h)(k:PE X a e)(l:eB d=true:=by rfl)(o:eB b=true:=by rfl)(m:eB c=true:=by rfl)(p:eB a=true:=by rfl):PA X [d,b,c,a] (gx f (gx g (gx h (gx e Bu)))):=(mQ i (mQ j (mQ n (mQ k iP p) m) o) l)
theorem aN5{b a c d e:Expr}{g j h f i:TE}(k:PE X b g)(n:PE X a j)(s:PE X c h)(l:PE X d f)(t:PE X e i)(r:eB b=true:=by rfl)(p:eB a=true:=by rfl)(o:eB c=true:=by rfl)(q:eB d=true:=by rfl)(m:eB e=true:=by rfl):PA X [b,a,c,d,e] (gx g (gx j (gx h (gx f (gx i Bu))))):=(mQ k (mQ n (mQ s (mQ l (mQ t iP m) q) o) p) r)
theorem P0{c b d e f a:Expr}{h l j g k i:TE}(m:PE X c h)(q:PE X b l)(w:PE X d j)(o:PE X e g)(x:PE X f k)(n:PE X a i)(v:eB c=true:=by rfl)(t:eB b=true:=by rfl)(r:eB d=true:=by rfl)(u:eB e=true:=by rfl)(p:eB f=true:=by rfl)(s:eB a=true:=by rfl):PA X [c,b,d,e,f,a] (gx h (gx l (gx j (gx g (gx k (gx i Bu)))))):=(mQ m (mQ q (mQ w (mQ o (mQ x (mQ n iP s) p) u) r) t) v)
theorem aN7{c b e f g a d:Expr}{i m k h l j n:TE}(o:PE X c i)(t:PE X b m)(A:PE X e k)(q:PE X f h)(B:PE X g l)(p:PE X a j)(y:PE X d n)(z:eB c=true:=by rfl)(w:eB b=true:=by rfl)(u:eB e=true:=by rfl)(x:eB f=true:=by rfl)(r:eB g=true:=by rfl)(v:eB a=true:=by rfl)(s:eB d=true:=by rfl):PA X [c,b,e,f,g,a,d] (gx i (gx m (gx k (gx h (gx l (gx j (gx n Bu))))))):=(mQ o (mQ t (mQ A (mQ q (mQ B (mQ p (mQ y iP s) v) r) x) u) w) z)
theorem kO{N ps:List Str}{b scope:Scope}(S:aJ N ps b)(c:List Str)(a:List (Option Nat))(d:X.env.scope=b:=by rfl)(e:X.N=N:=by rfl)(h:KD scope b N c a=true:=by decide +kernel):jG X scope c a:=RN d e h
end
section
variable{X:Cx}{a b tg iter:Expr}{ta tb:TE}{pos:Pos}{op:CmpOp}{r:R2}{body:List Stmt}{wi:TI}{g:TG}{ts:TS}
theorem xL(e:PE X a ta)(c:PE X b tb)(d:CA b:=by exact λ_ _=>rfl):PE X (.Subscript a b pos) (VV (Rv X.K) ta tb):=P4 P5 e c d
theorem xT(e:PE X a ta)(c:PE X b tb)(d:CA b:=by exact λ_ _=>rfl):PE X (.Subscript a b pos) (VV (Rx X.K) ta tb):=P4 TR e c d
theorem yL(K:af)(c:PE X a ta)(f:PE X b tb)(e:X.K=K:=by rfl)(d:CA b:=by exact λ_ _=>rfl):PE X (.Subscript a b pos) (VV (Rv K) ta tb):=P4 (Ud K e) c f d
theorem yT(K:af)(c:PE X a ta)(f:PE X b tb)(e:X.K=K:=by rfl)(d:CA b:=by exact λ_ _=>rfl):PE X (.Subscript a b pos) (VV (Rx K) ta tb):=P4 (Wv K e) c f d
theorem qE(g:wO X (compareOp op) r)(e:PE X a ta)(f:PE X b tb)(c:op≠.In:=by decide)(d:op≠.NotIn:=by decide):PE X (.Compare a [op] [b] pos) (VV r ta tb):=Wh g e f (Tt b c d)
theorem qT(g:wO X (compareOp op) r)(e:PE X a ta)(f:PE X b tb)(c:op≠.In:=by decide)(d:op≠.NotIn:=by decide):PT X (.Compare a [op] [b] pos) (Tu (VV r ta tb)):=jW g e f (Tt b c d)
theorem fS(a:PI X tg iter wi)(c:PG X tg g)(f:iD X body ts)(b:PassesOwn (model X.prog X.w) X.A X.env X.xe:=by exact PassesOwn.never)(e:X.calm=true:=by rfl)(d:∀x,foldedSetIterable iter X.env x=pure x:=by intro _;rfl):PS X (.For tg iter body [] pos) (ZR wi g ts):=ZS b e a c f d
end
section
variable{X:Cx}{x:Str}{p pos:Pos}{e:Expr}{es:List Expr}{te:TE}{t:TA}{id:String}{r:List V->Hp->VK->Prop}
theorem cB(i:nX X (.builtin id) r)(d:X.mg x=none)(g:bootBuiltins x=some (.builtin id))(f:PA X (e::es) t)(h:Gl X x:=by rfl)(c:x≠"__name__" := by decide)(b:(x==("__debug__" : Str))=false:=by decide)
 (j:starEach (e::es) X.env=(false,eval e X.env)::starEach es X.env:=by rfl) (a:(backTo pos (starEach es X.env)).any (·.1)=false:=by rfl):PE X (.Call (.Name x p) (e::es) [] pos) (z4 r t):=L1 i h d g f c b j a
theorem lS(f:X.mg "len" = none)(g:PE X e te)(h:Gl X "len" := by rfl)(c:eB e=true:=by rfl)(i:starEach [e] X.env=(false,eval e X.env)::starEach [] X.env:=by rfl)(a:(backTo pos (starEach [] X.env)).any (·.1)=false:=by rfl) :
 PE X (.Call (.Name "len" p) [e] [] pos) (z4 (λd H Q=>∃p b,d=[.ref p]/\(bP X.K H p b∨cP X.K H p b)/\Q (.int b.length) H) (gx te Bu)):=L1 Kw h f PySem.boot_len (mQ g iP c) (!_) (!_) i a
end
theorem jL{N P:List Str}{a:Scope}(b:a.kind=.function:=by rfl)(d:a.isCoroutine=false:=by rfl)(f:a.isGenerator=false:=by rfl)(g:N.Nodup:=by decide +kernel)(h:N.take P.length=P:=by rfl)(e:∀x∈P,a.names.lookup x=some .local∨a.names.lookup x=some .cell:=by decide +kernel)(c:∀y∈a.names,y.2≠.free:=by decide +kernel):aJ N P a:=⟨b,d,f,g,h,e,c⟩
structure nW(K:af)(mg:Str->Option Value)(x key:Str)(st:Stmt)(f:Addr)(d:FuncData)(ps:List Str):Prop where
 F:NN K x key st f d
 B:Binds K d ps []
 g:mg x=some (.ref f)
structure jz(K:af)(C:Addr)(x key:Str)(st:Stmt)(f:Addr)(d:FuncData)(ps:List Str):Prop where
 F:NN K x key st f d
 B:Binds K d ps []
 m:Ko K C x f
structure Mu(K:af)(C:Addr)(key:Str)(st:Stmt)(f:Addr)(d:FuncData)(ps:List Str):Prop where
 F:NN K "__init__" key st f d
 B:Binds K d ps []
 M:Mk K C f
def EG(K:af)(mg:Str->Option Value)(x key:Str)(st:Stmt)(f:Addr):Prop:=∃d,NN K x key st f d/\mg x=some (.ref f)
def EM(K:af)(C:Addr)(x key:Str)(st:Stmt)(f:Addr):Prop:=∃d,NN K x key st f d/\Ko K C x f
structure EC(K:af)(C:Addr):Prop where
 c:Iq K C
 YO:PySem.W.makesIn K C=true
 kc:dX K (.ref C)=true
section
variable{K:af}{h:Heap}{mg:Str->Option Value}{x key:Str}{st:Stmt}{C f:Addr}{oc:Value}{od an:Option Addr}{osl:Array (Option Value)}{kV doc pm cdv ct:Value}
theorem ua(X:K.In h)(G:h.Ns mainGlobals mg)(a:bG K mainGlobals x=some (some (.ref f)))(l:K.lookup f=some ⟨oc,od,.func (eT x key (jv st) (fX st) (aC st) .none kV doc pm an cdv ct),osl⟩)(c:jm K cdv key=true)(k:dX K (.ref f)=true):EG K mg x key st f:=⟨_,T9 l c k,cU X G a⟩
theorem jb(a:aI K (.ref C) x=some (some (.ref f)))(i:PySem.W.isFn K (.ref f)=true)(l:K.lookup f=some ⟨oc,od,.func (eT x key (jv st) (fX st) (aC st) .none kV doc pm an cdv ct),osl⟩)(c:jm K cdv key=true)(k:dX K (.ref f)=true):EM K C x key st f:=⟨_,T9 l c k,⟨a,i,k⟩⟩
theorem YQ(a:wH K C Str.empty=true)(b:uH K C=true)(d:PySem.W.plainOver K C=true)(e:aI K (.ref C) "__setattr__" = some (some (.builtin "object.__setattr__")))(f:PySem.W.makesIn K C=true)(c:dX K (.ref C)=true):EC K C:=⟨⟨a,b,d,e⟩,f,c⟩
end
section
variable{X:Cx}{k k':Nat}{f C:Addr}{fd:FuncData}{ps:List Str}{sp:Sp}{x m key:Str}{st:Stmt}{p pos apos:Pos}{e o:Expr}{es:List Expr}{ta:TE}{t:TA}
theorem cG(F:cz X.prog X.w X.K X.mg X.base iM k f fd ps sp)(j:jE k' X.A)(c:nW X.K X.mg x key st f fd ps)(h:PA X (e::es) t)(a:k<=k':=by decide)(i:Gl X x:=by rfl)
 (d:(x==("__debug__" : Str))=false:=by decide) (l:starEach (e::es) X.env=(false,eval e X.env)::starEach es X.env:=by rfl) (b:(backTo pos (starEach es X.env)).any (·.1)=false:=by rfl) :
 PE X (.Call (.Name x p) (e::es) [] pos) (Yv sp [] E0 t):=AA F (j.mono a) i c.g c.F.kp c.B .nil mK h d l b
theorem cM{pl:Sem Bool}(j:PE X o ta)(c:Iq X.K C)(u:jz X.K C m key st f fd ps)(F:cz X.prog X.w X.K X.mg X.base iM k f fd ps sp)(h:jE k' X.A)(i:PA X (e::es) t)(a:k<=k':=by decide)
 (d:starEach (e::es) X.env=(false,eval e X.env)::starEach es X.env:=by rfl) (b:(backTo pos (starEach es X.env)).any (·.1)=false:=by rfl)
 (l:eval (.Call (.Attribute o m apos) (e::es) [] pos) X.env=(do
  let g <- eval o X.env
  standAt apos.atName
  let (f,first) <- holding [g] (getMethod g m pl)
  callWith pos f first (backTo pos (starEach (e::es) X.env)) (backToKw pos (keywordEach [] X.env))):=by rfl) :
 PE X (.Call (.Attribute o m apos) (e::es) [] pos) (EO C m sp [] E0 ta t):=Cw j c u.m F (h.mono a) u.B .nil mK i d b l
theorem cI(u:Mu X.K C key st f fd ps)(F:cz X.prog X.w X.K X.mg X.base iM k f fd ps sp)(i:jE k' X.A)(d:X.mg x=some (.ref C))(g:PA X (e::es) t)(a:k+1<=k':=by decide)(h:Gl X x:=by rfl)
 (c:(x==("__debug__" : Str))=false:=by decide) (j:starEach (e::es) X.env=(false,eval e X.env)::starEach es X.env:=by rfl) (b:(backTo pos (starEach es X.env)).any (·.1)=false:=by rfl) :
 PE X (.Call (.Name x p) (e::es) [] pos) (TH C sp [] E0 t):=PY u.M F (i.mono a) h d u.B .nil mK g c j b
end
section
variable{P:Program}{w:World}{K:af}{mg:Str->Option Value}{base:Heap}
theorem NN.kh{x a:Str}{st:Stmt}{f:Addr}{e:FuncData}{N ps:List Str}{k:Nat}{sp:Sp}(F:NN K x a st f e)(S:aJ N ps (aC st))
 (j:∀{c:Value} {A:Around} {b:List Env} {s:Shared} {vs:List V} (H:Hp) (Q:VK) (E:XK),jE k (A.deeper (envOfC a (aC st) s.heap.objs.size f c))->sp vs H Q E ->
  ∃t,iD (oj iM P w K mg base N a (aC st) f c A b s H E).Yp (fX st) t/\t {nx:=λ_ g=>Q .fH g,rt:=Q} (start N vs) H) (d:∀vs H Q E,sp vs H Q E->vs.length=ps.length:=by intro _ _ _ _ h;cases h;subst_vars;rfl):cz P w K mg base iM (k+1) f e ps sp:=F.ok S d λ_ _ _ _ H _ Q E i h=>j H Q E i h
theorem NN.W1{x a:Str}{st:Stmt}{f:Addr}{e:FuncData}{N ps:List Str}{k:Nat}{sp:Sp}(F:NN K x a st f e)(S:aJ N ps (aC st))
 (j:∀{c:Value} {A:Around} {b:List Env} {s:Shared} {vs:List V} (H:Hp) (Q:VK) (E:XK),jE k (A.deeper (envOfC a (aC st) s.heap.objs.size f c))->sp vs H Q E ->
  ∃t,iD (oj (EU P w) P w K mg base N a (aC st) f c A b s H E) (fX st) t/\t {nx:=λ_ g=>Q .fH g,rt:=Q} (start N vs) H) (d:∀vs H Q E,sp vs H Q E->vs.length=ps.length:=by intro _ _ _ _ h;cases h;subst_vars;rfl):cz P w K mg base (EU P w) (k+1) f e ps sp:=F.okX S d λ_ _ _ _ H _ Q E i h=>j H Q E i h
theorem KO.kh{x a:Str}{st:Stmt}{f:Addr}{e:FuncData}{l:Value}{N ps:List Str}{k:Nat}{sp:Sp}(F:KO K x a st f e l)(S:aJ N ps (aC st))
 (j:∀{c:Value} {A:Around} {b:List Env} {s:Shared} {vs:List V} (H:Hp) (Q:VK) (E:XK),jE k (A.deeper (envOfC a (aC st) s.heap.objs.size f c))->sp vs H Q E ->
  ∃t,iD (oj iM P w K mg base N a (aC st) f c A b s H E).Yp (fX st) t/\t {nx:=λ_ g=>Q .fH g,rt:=Q} (start N vs) H) (d:∀vs H Q E,sp vs H Q E->vs.length=ps.length:=by intro _ _ _ _ h;cases h;subst_vars;rfl):cz P w K mg base iM (k+1) f e ps sp:=F.ok S d λ_ _ _ _ H _ Q E i h=>j H Q E i h
end
end L2
namespace L2
open PySem PySem.W PySem.Spec PyProof.Rows
noncomputable def Xa:Bool->Keyed->Array Keyed->Nat->Nat->Nat->StateT SortSt Sem (Option Nat):=sortPriv% PySem.Builtin.gallop
noncomputable def UK:Array Keyed->Array Keyed->StateT SortSt Sem (Array Keyed):=sortPriv% PySem.Builtin.mergeLo
noncomputable def UL:Array Keyed->Array Keyed->StateT SortSt Sem (Array Keyed):=sortPriv% PySem.Builtin.mergeHi
section
variable{prog:Program}{w:World}{A:Around}{E:Value->Shared->Prop}{s:Shared}{κ:SortKind}{a₀:Array Keyed}{r:Keyed->Int}
def R8(prog:Program)(w:World)(A:Around)(s:Shared)(κ:SortKind)(a₀:Array Keyed)(r:Keyed->Int):Prop :=
 ∀x y,x∈a₀->y∈a₀->∀(E:Value->Shared->Prop) (C:Bool->Shared->Prop),C (decide (r x<r y)) s->wpAny (model prog w) A (keyLt' κ x.1 y.1) C E s
theorem oH{st:SortSt}{x y:Keyed}{Q:Option Bool->SortSt->Prop}(c:R8 prog w A s κ a₀ r)(a:kindOf st=κ)(b:x∈a₀)(d:y∈a₀)(h:Q (some (decide (r x<r y))) st):wpS (model prog w) A E s (lt' x y) Q st:=by
 rw[lt'_eq];refine wpS_bind (wpS_get ?_);rw[a];refine wpS_bind (wpS_lift (wpAny_attempt (c _ _ b d _ _ ⟨rfl,?_⟩)));exact wpS_pure h
theorem jM{st:SortSt}{a:Array Keyed}{i:Nat}{x:Keyed}{Q:Keyed->SortSt->Prop}(e:a[i]?=some x)(h:Q x st):wpS (model prog w) A E s (elem' a i) Q st:=by
 rw[elem'_eq,e];exact wpS_pure h
noncomputable def AI(l:Bool)(u v:Int):Bool:=if l then decide (u<v) else !decide (v<u)
theorem UM{st:SortSt}{l:Bool}{c x:Keyed}{a:Array Keyed}{i:Nat}{Q:Option Bool->SortSt->Prop}(g:R8 prog w A s κ a₀ r)(d:kindOf st=κ)(f:x∈a₀)(j:c∈a₀)(e:a[i]?=some x)
 (h:Q (some (AI l (r x) (r c))) st):wpS (model prog w) A E s (do let x <- elem' a i;if l=true then lt' x c else do let b <- lt' c x;pure (b.map (!·))) Q st:=by
 refine wpS_bind (jM e ?_);cases l
 ·exact wpS_bind (oH g d j f (wpS_pure h))
 ·exact oH g d f j h
def Sl(a₀ a:Array Keyed)(r:Keyed->Int)(b n:Nat)(f:Nat->Int):Prop:=∀i,i<n->∃x,a[b+i]?=some x/\x∈a₀/\r x=f i
def Up(f:Nat->Int)(n:Nat):Prop:=∀i j,i<=j->j<n->f i<=f j
theorem UN{l:Bool}{f:Nat->Int}{v:Int}{n:Nat}(h:Up f n):∀i j,i<=j->j<n->AI l (f j) v=true->AI l (f i) v=true:=λi j a b c=>by
 have:=h i j a b
 unfold AI at *;cases l <;> simp at*<;> lia
theorem YR{st:SortSt}{B:Nat->Bool}{n lo f:Nat}{g:Nat->Option (Option Nat)×Nat×Nat->StateT SortSt Sem (ForInStep (Option (Option Nat)×Nat×Nat))}{Q:Option (Option Nat)×Nat×Nat->SortSt->Prop}
 (D:∀x p q R,q<=p->R (.done (none,p,q)) st->wpS (model prog w) A E s (g x (none,p,q)) R st)
 (F:∀x p q R,p<q->q<=n->R (.yield (if B (p+(q-p)/2)=true then (none,p+(q-p)/2+1,q) else (none,p,p+(q-p)/2))) st->wpS (model prog w) A E s (g x (none,p,q)) R st)
 (v:∀i j,i<=j->j<n->B j=true->B i=true) (r:lo<=f) (C:f<=n) (t:∀i,i<lo->B i=true) (u:∀i,f<=i->i<n->B i=false)
 (h:∀k,k<=n->(∀i,i<k->B i=true)->(∀i,k<=i->i<n->B i=false)->Q (none,k,k) st):wpS (model prog w) A E s (forIn [0:n] (none,lo,f) g) Q st:=by
 refine wpS_forRange (I:=λx c d=>d=st/\∃p q,c=(none,p,q)/\p<=q/\q<=n/\q-p<=n-x/\(∀i,i<p->B i=true)/\∀i,q<=i->i<n->B i=false) ?_ ?_ ⟨rfl,lo,f,rfl,r,C,∅,t,u⟩
 ·rintro x c d _ H ⟨rfl,p,q,rfl,y,m,G,l,o⟩
  by_cases e:q<=p
  ·refine D _ _ _ _ e ?_
   have:q=p:=∅
   subst this;exact h q m l o
  ·refine F _ _ _ _ ∅ m ?_
   cases b:B (p+(q-p)/2)
   ·exact⟨rfl,p,_,rfl,∅,∅,∅,l,λi a c=>by
     cases z:B i with
     |false=>rfl
     |true=>rw[v _ i a c z] at b;cases b⟩
   ·exact⟨rfl,_,q,rfl,∅,∅,∅,λi a=>v i _ ∅ ∅ b,o⟩
 ·rintro c d ⟨rfl,p,q,rfl,y,m,G,l,o⟩
  have:q=p:=∅
  subst this;exact h q m l o
theorem R9{st:SortSt}{l:Bool}{g:Keyed}{a:Array Keyed}{base n d:Nat}{f:Nat->Int}{Q:Option Nat->SortSt->Prop}(J:R8 prog w A s κ a₀ r)(K:kindOf st=κ)(o:g∈a₀)(L:Sl a₀ a r base n f)(hu:Up f n)(X:d<n)
 (h:∀k,k<=n->(∀i,i<k->AI l (f i) (r g)=true)->(∀i,k<=i->i<n->AI l (f i) (r g)=false)->Q (some k) st):wpS (model prog w) A E s (Xa l g a base n d) Q st:=by
 have O:=UN (l:=l) (v:=r g) hu;have M:∀i j,i<=j->j<n->AI l (f i) (r g)=false->AI l (f j) (r g)=false:=λi j a b c=>by
  cases e:AI l (f j) (r g) with
  |false=>rfl
  |true=>rw[O i j a b e] at c;cases c
 obtain⟨x0,U,Z,Y⟩:=L d X;refine wpS_bind (UM J K Z o U ?_);rw[Y];dsimp only;cases T:AI l (f d) (r g)
 all_goals (simp only[if_true,mq,if_false])
 ·refine wpS_bind (wpS_mono (wpS_forRange (I:=λx c m=>m=st/\∃p q,c=(none,p,q)/\p<q/\x<q/\p<=d/\AI l (f (d-p)) (r g)=false)
   (Q:=λc m=>m=st/\∃p q,c=(none,p,q)/\p<q/\p<=d/\AI l (f (d-p)) (r g)=false/\(d+1<=q∨AI l (f (d-q)) (r g)=true)) ?_ ?_ ?_) ?k1)
  ·rintro x c m _ V ⟨rfl,p,q,rfl,C,S,y,u⟩
   dsimp only;by_cases t:q≥d+1
   ·rw[ee t]
    exact wpS_pure ⟨rfl,p,q,rfl,C,y,u,.inl t⟩
   ·rw[er t]
    obtain⟨P,F,G,H⟩:=L (d-q) ∅;refine wpS_bind (UM J K G o F ?_);rw[H];dsimp only;cases N:AI l (f (d-q)) (r g)
    ·simp only[mq,if_false]
     exact wpS_pure ⟨rfl,q,_,rfl,∅,∅,∅,N⟩
    ·simp only[if_true]
     exact wpS_pure ⟨rfl,p,q,rfl,C,y,u,.inr N⟩
  ·rintro c m ⟨rfl,p,q,rfl,C,S,y,u⟩
   exact⟨rfl,p,q,rfl,C,y,u,.inl ∅⟩
  ·exact⟨rfl,0,1,rfl,∅,∅,∅,T⟩
  case k1 =>
  rintro c m ⟨rfl,p,q,rfl,C,y,u,h5⟩;dsimp only;refine wpS_bind (YR (B:=λi=>AI l (f i) (r g)) (λx p q R D k=>?_) (λx p q R D hq k=>?_) O ∅ ∅ (λi W=>?_) (λi a b=>M _ i a b u) λk a b c=>wpS_pure (h k a b c))
  case refine_1=>dsimp only;rw[ee D];exact wpS_pure k
  case refine_2 =>
   dsimp only;rw[er ∅];obtain⟨P,F,G,H⟩:=L (p+(q-p)/2) ∅;refine wpS_bind (UM J K G o F ?_);rw[H];dsimp only at k ⊢;cases z:AI l (f (p+(q-p)/2)) (r g) <;> rw[z] at k <;> exact wpS_pure k
  rcases h5 with h5|h5
  ·lia
  ·exact O i _ ∅ ∅ h5
 ·refine wpS_bind (wpS_mono (wpS_forRange (I:=λx c m=>m=st/\∃p q,c=(none,p,q)/\p<q/\x<q/\d+p<n/\AI l (f (d+p)) (r g)=true)
   (Q:=λc m=>m=st/\∃p q,c=(none,p,q)/\p<q/\d+p<n/\AI l (f (d+p)) (r g)=true/\(n-d<=q∨AI l (f (d+q)) (r g)=false)) ?_ ?_ ?_) ?k1)
  ·rintro x c m _ V ⟨rfl,p,q,rfl,C,S,y,u⟩
   dsimp only;by_cases t:q≥n-d
   ·rw[ee t]
    exact wpS_pure ⟨rfl,p,q,rfl,C,y,u,.inl t⟩
   ·rw[er t]
    obtain⟨P,F,G,H⟩:=L (d+q) ∅;refine wpS_bind (UM J K G o F ?_);rw[H];dsimp only;cases N:AI l (f (d+q)) (r g)
    ·exact wpS_pure ⟨rfl,p,q,rfl,C,y,u,.inr N⟩
    ·exact wpS_pure ⟨rfl,q,_,rfl,∅,∅,∅,N⟩
  ·rintro c m ⟨rfl,p,q,rfl,C,S,y,u⟩
   exact⟨rfl,p,q,rfl,C,y,u,.inl ∅⟩
  ·exact⟨rfl,0,1,rfl,∅,∅,∅,T⟩
  case k1 =>
  rintro c m ⟨rfl,p,q,rfl,C,y,u,h5⟩;dsimp only;refine wpS_bind (YR (B:=λi=>AI l (f i) (r g)) (λx p q R D k=>?_) (λx p q R D hq k=>?_) O ∅ ∅ (λi W=>O i _ ∅ y u) (λi a b=>?_) λk a b c=>wpS_pure (h k a b c))
  case refine_1=>dsimp only;rw[ee D];exact wpS_pure k
  case refine_2 =>
   dsimp only;rw[er ∅];obtain⟨P,F,G,H⟩:=L (p+(q-p)/2) ∅;refine wpS_bind (UM J K G o F ?_);rw[H];dsimp only at k ⊢;cases z:AI l (f (p+(q-p)/2)) (r g) <;> rw[z] at k <;> exact wpS_pure k
  rcases h5 with h5|h5
  ·lia
  ·exact M _ i ∅ b h5
structure MI(r:Keyed->Int)(T out X Y:List Keyed):Prop where
 p:(out++(X++Y)).Perm T
 so:out.Pairwise λx y=>r x<=r y
 sx:X.Pairwise λx y=>r x<=r y
 sy:Y.Pairwise λx y=>r x<=r y
 le:∀x∈out,∀y∈X++Y,r x<=r y
theorem MI.swap{T a X Y:List Keyed}(h:MI r T a X Y):MI r T a Y X:=⟨((List.perm_append_comm).append_left a).trans h.p,h.so,h.sy,h.sx,λx c y b=>h.le x c y (by simp only[br] at *;exact b.symm)⟩
theorem MI.a{T c X Y:List Keyed}{x y:Keyed}(h:MI r T c (x::X) (y::Y))(b:r x<=r y):MI r T (c++[x]) X (y::Y):=by
 have d:=rZ.mp h.sx;have e:=rZ.mp h.sy;refine⟨by simpa using h.p,List.pairwise_append.mpr ⟨h.so,-_,λu hu v hv=>?_⟩,d.2,h.sy,λu hu v hv=>?_⟩
 ·rw[bq] at hv;subst hv
  exact h.le u hu v (-_)
 ·rcases br.mp hu with hu|hu
  ·exact h.le u hu v (by simp at hv ⊢;exact .inr hv)
  ·rw[bq] at hu;subst hu
   rcases br.mp hv with hv|hv
   ·exact d.1 v hv
   ·rcases bf.mp hv with rfl|hv
    ·exact b
    ·exact qV b (e.1 v hv)
theorem MI.as{T Y:List Keyed}{y:Keyed}:∀{out X Z:List Keyed},MI r T out (Z++X) (y::Y)->(∀x∈Z,r x<=r y)->MI r T (out++Z) X (y::Y)
 |out,X,[],h,_=>by simpa using h
 |out,X,z::Z,h,b=>by
  have:=MI.as (Z:=Z) (MI.a h (b z (-_))) λx c=>b x (by simp[c])
  simpa using this
theorem MI.fin{T a X:List Keyed}(h:MI r T a X []):(a++X).Perm T/\(a++X).Pairwise λx y=>r x<=r y :=
 ⟨by simpa using h.p,List.pairwise_append.mpr ⟨h.so,h.sx,λu b v c=>h.le u b v (by simp[c])⟩⟩
theorem MI.last{T a Y:List Keyed}{x:Keyed}(h:MI r T a [x] Y)(hl:∀y∈Y,r y<=r x):(a++Y++[x]).Perm T/\(a++Y++[x]).Pairwise λx y=>r x<=r y:=by
 refine⟨((List.perm_append_comm (l₁:=Y) (l₂:=[x])).append_left a).trans h.p |> (by simpa using ·),List.pairwise_append.mpr ⟨List.pairwise_append.mpr ⟨h.so,h.sy,λu hu v b=>h.le u hu v (by simp[b])⟩,-_,λu hu v b=>?_⟩⟩;rw[bq] at b;subst b;rcases br.mp hu with hu|hu
 ·exact h.le u hu v (-_)
 ·exact hl u hu
theorem drop_cons{a:Array Keyed}{i:Nat}(h:i<a.size):a.toList.drop i=a[i]::a.toList.drop (i+1):=by
 rw[pP (by simpa using h)];simp
theorem drop_take{a:Array Keyed}{i k:Nat}:a.toList.drop i=(a.extract i (i+k)).toList++a.toList.drop (i+k):=by
 rw[Array.toList_extract,pO];rw[show i+k-i=k by lia,<- List.drop_drop,vJ]
theorem Gk{a:Array Keyed}{i:Nat}:(a.extract i a.size).toList=a.toList.drop i:=by
 rw[Array.toList_extract,pO,gi (-_)]
theorem UO{α β:Type}{G:Prop}{C P:α->β->Prop}(h:(∀x y,C x y->P x y)->G)(k:∀x y,C x y->P x y):G:=h k
theorem ada{α:Type}{G:Prop}{P:α->Prop}(h:(∀x,P x)->G)(k:∀x,P x):G:=h k
noncomputable def fv(r:Keyed->Int)(a:Array Keyed)(b i:Nat):Int:=((a[b+i]?).map r).getD 0
theorem n9{a:Array Keyed}{b i:Nat}(h:b+i<a.size):fv r a b i=r (a[b+i]):=by unfold fv;rw[getElem?_pos a (b+i) h];rfl
theorem Mv{a:Array Keyed}{b n:Nat}(m:∀x∈a,x∈a₀)(h:b+n<=a.size):Sl a₀ a r b n (fv r a b):=λi c=>⟨a[b+i],getElem?_pos a _ ∅,m _ (bJ _),(n9 ∅).symm⟩
abbrev FI(r:Keyed->Int)(l:List Keyed):Prop:=l.Pairwise λx y=>r x<=r y
theorem FI.le{a:Array Keyed}{i j:Nat}(h:FI r a.toList)(c:i<=j)(b:j<a.size):r a[i]<=r a[j]:=by
 by_cases e:i=j
 ·subst e;exact jn _
 ·have:=pN.mp h i j (by simpa using (by lia:i<a.size)) (by simpa using b) ∅
  simpa using this
theorem Qs{a:Array Keyed}{b n:Nat}(c:FI r a.toList)(h:b+n<=a.size):Up (fv r a b) n:=λi j d e=>by
 rw[n9 ∅,n9 ∅];exact c.le ∅ ∅
theorem Qt{a:Array Keyed}{i k:Nat}{x:Keyed}(h:x∈(a.extract i (i+k)).toList)(c:i+k<=a.size):∃j,∃h:j<k,x=a[i+j]:=by
 obtain⟨j,b,e⟩:=Array.mem_iff_getElem.mp (gZ.mp h);rw[mw] at b;exact⟨j,∅,by rw[<- e,gF]⟩
noncomputable abbrev setG(st:SortSt)(g:Nat):SortSt:=SortSt.mk' (kindOf st) (arrOf st) (pendingOf st) g (failedOf st)
theorem agN{st:SortSt}{a b:Array Keyed}{Q:Array Keyed->SortSt->Prop}(hc:R8 prog w A s κ a₀ r)(hk:kindOf st=κ)(ma:∀x∈a,x∈a₀)(mb:∀x∈b,x∈a₀)(sa:FI r a.toList)(sb:FI r b.toList)
 (ha:0<a.size) (hb:0<b.size) (h0:r b[0]<=r a[0]) (hl:∀y∈b,r y<=r a[a.size-1])
 (h:∀out g,out.toList.Perm (a.toList++b.toList)->FI r out.toList->Q out (setG st g)):wpS (model prog w) A E s (UK a b) Q st:=by
 have U:∀{out:Array Keyed} {d f:Nat},MI r (a.toList++b.toList) out.toList (a.toList.drop d) (b.toList.drop f)->(f=b.size∨d=a.size)->(out++a.extract d a.size++b.extract f b.size).toList.Perm (a.toList++b.toList)/\FI r (out++a.extract d a.size++b.extract f b.size).toList:=λ{out d f} m e=>by
  rw[cO,cO,Gk,Gk];rcases e with e|e
  ·subst e
   rw[iL (l:=b.toList) (-_)] at m ⊢;rw[bY];exact m.fin
  ·subst e
   rw[iL (l:=a.toList) (-_)] at m ⊢;rw[bY];exact m.swap.fin
 have fin2:∀{out:Array Keyed} {d f:Nat},MI r (a.toList++b.toList) out.toList (a.toList.drop d) (b.toList.drop f)->d+1=a.size->(out++b.extract f b.size++a.extract d a.size).toList.Perm (a.toList++b.toList)/\FI r (out++b.extract f b.size++a.extract d a.size).toList:=λ{out d f} m e=>by
  rw[cO,cO,Gk,Gk];have S:a.toList.drop d=[a[a.size-1]]:=by
   rw[drop_cons ∅,iL (by simp;lia)];congr 2;lia
  rw[S] at m ⊢;exact m.last λy hy=>hl y (by simpa using List.mem_of_mem_drop hy)
 have pB:∀{out:Array Keyed} {d f:Nat} (u:d<a.size) (p:f<b.size),MI r (a.toList++b.toList) out.toList (a.toList.drop d) (b.toList.drop f)->r b[f]<=r a[d]->MI r (a.toList++b.toList) (out.push b[f]).toList (a.toList.drop d) (b.toList.drop (f+1)):=λ{out d f} u p m e=>by
  rw[drop_cons u,drop_cons p] at m;rw[uM,drop_cons u];exact (m.swap.a e).swap
 have pA:∀{out:Array Keyed} {d f:Nat} (u:d<a.size) (p:f<b.size),MI r (a.toList++b.toList) out.toList (a.toList.drop d) (b.toList.drop f)->r a[d]<=r b[f]->MI r (a.toList++b.toList) (out.push a[d]).toList (a.toList.drop (d+1)) (b.toList.drop f):=λ{out d f} u p m e=>by
  rw[drop_cons u,drop_cons p] at m;rw[uM,drop_cons p];exact m.a e
 have tA:∀{out:Array Keyed} {d f k:Nat} (u:d+k<=a.size) (p:f<b.size),MI r (a.toList++b.toList) out.toList (a.toList.drop d) (b.toList.drop f)->(∀j,(h:j<k)->r a[d+j]<=r b[f])->MI r (a.toList++b.toList) (out++a.extract d (d+k)).toList (a.toList.drop (d+k)) (b.toList.drop f):=λ{out d f k} u p m e=>by
  rw[drop_take (k:=k),drop_cons p] at m;rw[cO,drop_cons p];refine m.as λx T=>?_;obtain⟨j,O,rfl⟩:=Qt T u;exact e j O
 have tB:∀{out:Array Keyed} {d f k:Nat} (u:d<a.size) (p:f+k<=b.size),MI r (a.toList++b.toList) out.toList (a.toList.drop d) (b.toList.drop f)->(∀j,(h:j<k)->r b[f+j]<=r a[d])->MI r (a.toList++b.toList) (out++b.extract f (f+k)).toList (a.toList.drop d) (b.toList.drop (f+k)):=λ{out d f k} u p m e=>by
  rw[drop_take (a:=b) (k:=k),drop_cons u] at m;rw[cO,drop_cons u];refine (m.swap.as λx T=>?_).swap;obtain⟨j,O,rfl⟩:=Qt T p;exact e j O
 have m0:MI r (a.toList++b.toList) (#[]:Array Keyed).toList (a.toList.drop 0) (b.toList.drop 0):=⟨-_,-_,by simpa using sa,by simpa using sb,λx T=>by simp at T⟩;have Z:=pB ha hb m0 h0;refine wpS_bind (wpS_lift (wpAny_rule ⟨rfl,?_⟩));refine wpS_bind (jM (getElem?_pos b 0 hb) ?_);dsimp only;by_cases S:1=b.size
 ·rw[ee (by simp[<- S])]
  exact wpS_pure (h _ (gallopOf st) (U Z (.inl S)).1 (U Z (.inl S)).2)
 rw[er (by simpa using S)];by_cases e2:0+1=a.size
 ·rw[ee (by simp[<- e2])]
  exact wpS_pure (h _ (gallopOf st) (fin2 Z e2).1 (fin2 Z e2).2)
 rw[er (by simpa using e2)];refine wpS_bind (wpS_get ?_);refine wpS_bind (wpS_mono (wpS_forRange (I:=λx c J=>∃out d f D g,c=(none,out,d,f,D)/\J=setG st g/\MI r (a.toList++b.toList) out.toList (a.toList.drop d) (b.toList.drop f)/\d+1<a.size/\f<b.size/\x<d+f)
  (Q:=λc J=>∃res g t,c=(some res,t)/\J=setG st g/\res.toList.Perm (a.toList++b.toList)/\FI r res.toList) ?_ ?_ ⟨_,_,_,_,gallopOf st,rfl,rfl,Z,∅,∅,∅⟩) ?_)
 ·rintro x c J _ T ⟨out,d,f,D,g,rfl,rfl,m,u,p,V⟩
  dsimp only;refine wpS_bind (wpS_mono (wpS_forRange (I:=λy c n=>∃out F B H G,c=(none,out,F,B,H,G)/\n=setG st g/\MI r (a.toList++b.toList) out.toList (a.toList.drop F) (b.toList.drop B)/\F+1<a.size/\B<b.size/\d+f+y<=F+B)
   (Q:=λc n=>n=setG st g/\((∃res t,c=(some res,t)/\res.toList.Perm (a.toList++b.toList)/\FI r res.toList)∨∃out F B H G,c=(none,out,F,B,H,G)/\MI r (a.toList++b.toList) out.toList (a.toList.drop F) (b.toList.drop B)/\F+1<a.size/\B<b.size/\d+f<F+B)) ?_ ?_ ⟨_,_,_,_,_,rfl,rfl,m,u,p,∅⟩) ?_)
  ·rintro y c n _ hy ⟨out,F,B,H,G,rfl,rfl,m,u,p,V⟩
   dsimp only;refine wpS_bind (jM (getElem?_pos b B p) (wpS_bind (jM (getElem?_pos a F ∅) (wpS_bind (oH hc hk (mb _ (bJ _)) (ma _ (bJ _)) ?_)))));dsimp only;by_cases hlt:r b[B]<r a[F]
   ·rw[ee (e8 hlt)]
    have z:=pB ∅ p m ∅;refine wpS_bind (jM (getElem?_pos b B p) ?_);by_cases e:B+1=b.size
    ·rw[ee (by simp[e])]
     exact wpS_pure ⟨rfl,.inl ⟨_,_,rfl,U z (.inl e)⟩⟩
    rw[er (by simpa using e)];by_cases e3:G+1≥D
    ·rw[ee e3]
     exact wpS_pure ⟨rfl,.inr ⟨_,_,_,_,_,rfl,z,u,∅,∅⟩⟩
    ·rw[er e3]
     exact wpS_pure ⟨_,_,_,_,_,rfl,rfl,z,u,∅,∅⟩
   ·rw[er (by simpa using hlt)]
    have z:=pA ∅ p m ∅;refine wpS_bind (jM (getElem?_pos a F ∅) ?_);by_cases e:F+1+1=a.size
    ·rw[ee (by simp[e])]
     exact wpS_pure ⟨rfl,.inl ⟨_,_,rfl,fin2 z e⟩⟩
    rw[er (by simpa using e)];by_cases e3:H+1≥D
    ·rw[ee e3]
     exact wpS_pure ⟨rfl,.inr ⟨_,_,_,_,_,rfl,z,∅,∅,∅⟩⟩
    ·rw[er e3]
     exact wpS_pure ⟨_,_,_,_,_,rfl,rfl,z,∅,∅,∅⟩
  ·rintro c n ⟨out,F,B,H,G,rfl,rfl,m,u,p,V⟩
   lia
  rintro c n ⟨rfl,⟨res,t,rfl,X,W⟩|⟨out,F,B,H,G,rfl,m,u,p,h3'⟩⟩
  ·exact wpS_pure ⟨_,_,_,rfl,rfl,X,W⟩
  dsimp only;refine wpS_bind (wpS_lift (wpAny_rule ⟨rfl,?_⟩));refine wpS_bind (wpS_mono (wpS_forRange (I:=λy c n=>∃out v q D H G g,c=(none,out,v,q,D,H,G)/\n=setG st g/\MI r (a.toList++b.toList) out.toList (a.toList.drop v) (b.toList.drop q)/\v+1<a.size/\q<b.size/\F+B<=v+q)
   (Q:=λc n=>∃g,n=setG st g/\((∃res t,c=(some res,t)/\res.toList.Perm (a.toList++b.toList)/\FI r res.toList)∨∃out v q D H G,c=(none,out,v,q,D,H,G)/\MI r (a.toList++b.toList) out.toList (a.toList.drop v) (b.toList.drop q)/\v+1<a.size/\q<b.size/\F+B<=v+q)) ?_ ?_ ⟨_,_,_,_,_,_,_,rfl,rfl,m,u,p,∅⟩) ?_)
  ·rintro y c n _ hy ⟨out,v,q,D,H,G,g,rfl,rfl,m,u,p,V⟩
   dsimp only;refine ada (α:=Nat) (λK=>by
    by_cases hm:D > 1
    ·rw[ee hm]
     generalize D-1=mg';exact K mg'
    ·rw[er hm]
     exact K D) ?_
   intro D;refine wpS_bind (wpS_modify (wpS_bind (jM (getElem?_pos b q p) (wpS_bind (R9 (st:=setG st D) hc hk (mb _ (bJ _)) (Mv ma ∅) (Qs sa ∅) ∅ λk hk1 hk2 YJ=>?_)))));dsimp only;refine UO (α:=Array Keyed) (β:=Nat) (C:=λo i=>MI r (a.toList++b.toList) o.toList (a.toList.drop i) (b.toList.drop q)/\i+1<a.size/\v<=i/\∀h:i<a.size,r b[q]<=r a[i]) (λK=>by
    have lo:∀j,(h:j<k)->r a[v+j]<=r b[q]:=λj O=>by
     have:=hk2 j O
     rw[n9 ∅] at this
     simpa [AI] using this
    have P:∀h:v+k<a.size,r b[q]<=r a[v+k]:=λhh=>by
     have:=YJ k (ay _) ∅
     rw[n9 hh] at this;simp[AI] at this;lia
    have z:=tA ∅ p m lo;by_cases M:k > 0
    ·rw[ee M]
     by_cases e:v+k+1=a.size
     ·rw[ee (by simp[e])]
      exact wpS_pure ⟨_,rfl,.inl ⟨_,_,rfl,fin2 z e⟩⟩
     rw[er (by simpa using e)];by_cases e:v+k=a.size
     ·rw[ee (by simp[e])]
      exact wpS_pure ⟨_,rfl,.inl ⟨_,_,rfl,U z (.inr e)⟩⟩
     rw[er (by simpa using e)];have N:v<=v+k:=∅
     have UP:v+k+1<a.size:=∅
     generalize out++a.extract v (v+k)=out' at z ⊢;generalize v+k=ka' at z P N UP ⊢;exact K out' ka' ⟨z,UP,N,P⟩
    ·rw[er M]
     obtain rfl:k=0:=∅
     exact K out v ⟨m,u,ay _,P⟩) ?_
   rintro out d ⟨m,u,agO,R⟩;have z:=pB ∅ p m (R ∅);refine wpS_bind (jM (getElem?_pos b q p) ?_);by_cases e:q+1=b.size
   ·rw[ee (by simp[e])]
    exact wpS_pure ⟨_,rfl,.inl ⟨_,_,rfl,U z (.inl e)⟩⟩
   rw[er (by simpa using e)];refine wpS_bind (jM (getElem?_pos a d ∅) (wpS_bind (R9 (st:=setG st D) hc hk (ma _ (bJ _)) (Mv mb ∅) (Qs sb ∅) ∅ λL hj1 hj2 hj3=>?_)));dsimp only;generalize out.push b[q]=out at z ⊢;refine UO (α:=Array Keyed) (β:=Nat) (C:=λo i=>MI r (a.toList++b.toList) o.toList (a.toList.drop d) (b.toList.drop i)/\q+1<=i/\i<b.size/\∀h:i<b.size,r a[d]<=r b[i]) (λK=>by
    have lo:∀j,(h:j<L)->r b[q+1+j]<=r a[d]:=λj O=>by
     have:=hj2 j O
     rw[n9 ∅] at this;simp[AI] at this;lia
    have P:∀h:q+1+L<b.size,r a[d]<=r b[q+1+L]:=λhh=>by
     have:=hj3 L (ay _) ∅
     rw[n9 hh] at this
     simpa [AI] using this
    have Xb:=tB ∅ ∅ z lo;by_cases M:L > 0
    ·rw[ee M]
     by_cases e:q+1+L=b.size
     ·rw[ee (by simp[e])]
      exact wpS_pure ⟨_,rfl,.inl ⟨_,_,rfl,U Xb (.inl e)⟩⟩
     rw[er (by simpa using e)];have N:q+1<=q+1+L:=∅
     have UP:q+1+L<b.size:=∅
     generalize out++b.extract (q+1) (q+1+L)=out' at Xb ⊢;generalize q+1+L=kb' at Xb P N UP ⊢;exact K out' kb' ⟨Xb,N,UP,P⟩
    ·rw[er M]
     obtain rfl:L=0:=∅
     exact K out (q+1) ⟨z,ay _,∅,P⟩) ?_
   rintro out f ⟨m,hb1,Y,R⟩;have z:=pA ∅ Y m (R Y);refine wpS_bind (jM (getElem?_pos a d ∅) ?_);by_cases e:d+1+1=a.size
   ·rw[ee (by simp[e])]
    exact wpS_pure ⟨_,rfl,.inl ⟨_,_,rfl,fin2 z e⟩⟩
   rw[er (by simpa using e)];by_cases e7:(decide (k<7)&&decide (L<7))=true
   ·rw[ee e7]
    exact wpS_pure ⟨_,rfl,.inr ⟨_,_,_,_,_,_,rfl,z,∅,∅,∅⟩⟩
   ·rw[er e7]
    exact wpS_pure ⟨_,_,_,_,_,_,_,rfl,rfl,z,∅,∅,∅⟩
  ·rintro c n ⟨out,v,q,D,H,G,g,rfl,rfl,m,u,p,V⟩
   exact⟨_,rfl,.inr ⟨_,_,_,_,_,_,rfl,m,u,p,V⟩⟩
  rintro c n ⟨g,rfl,⟨res,t,rfl,X,W⟩|⟨out,v,q,D,H,G,rfl,m,u,p,h3'⟩⟩
  ·exact wpS_pure ⟨_,_,_,rfl,rfl,X,W⟩
  dsimp only;exact wpS_bind (wpS_modify (wpS_pure ⟨_,_,_,_,_,rfl,rfl,m,u,p,∅⟩))
 ·rintro c J ⟨out,d,f,D,g,rfl,rfl,m,u,p,V⟩
  lia
 ·rintro c J ⟨res,g,t,rfl,rfl,X,W⟩
  exact wpS_pure (h _ _ X W)
theorem gI{a:Array Keyed}{i:Nat}(b:0<i)(h:i<=a.size):(a.toList.take i).reverse=a[i-1]::(a.toList.take (i-1)).reverse:=by
 obtain⟨j,rfl⟩:∃j,i=j+1:=⟨i-1,∅⟩;rw[ju (by rw[aR];lia),ki];simp
theorem EZ{a:Array Keyed}{i j:Nat}(h:i<=j):(a.toList.take j).reverse=((a.extract i j).reverse).toList++(a.toList.take i).reverse:=by
 rw[Array.toList_reverse,<- ki,Array.toList_extract,pO];congr 1;rw[show j=i+(j-i) by lia,List.take_add,show i+(j-i)-i=j-i by lia]
theorem CM{a:Array Keyed}{i:Nat}:(a.extract 0 i).toList=a.toList.take i:=by
 rw[Array.toList_extract,pO];simp
theorem Mw{a:Array Keyed}{i k:Nat}{x:Keyed}(h:x∈((a.extract i k).reverse).toList)(c:k<=a.size):∃j,∃h:j<k,i<=j/\x=a[j]:=by
 have h:x∈a.extract i k:=Array.mem_reverse.mp (gZ.mp h);obtain⟨j,b,e⟩:=Array.mem_iff_getElem.mp h;rw[mw] at b;exact⟨i+j,∅,∅,by rw[<- e,gF]⟩
theorem KQ{T l:List Keyed}(h:l.Perm T/\l.Pairwise λx y=>-r x<=-r y):l.reverse.Perm T/\FI r l.reverse :=
 ⟨(List.reverse_perm l).trans h.1,List.pairwise_reverse.mpr (h.2.imp λz=>∅)⟩
theorem agP{st:SortSt}{a b:Array Keyed}{Q:Array Keyed->SortSt->Prop}(hc:R8 prog w A s κ a₀ r)(hk:kindOf st=κ)(ma:∀x∈a,x∈a₀)(mb:∀x∈b,x∈a₀)(sa:FI r a.toList)(sb:FI r b.toList)
 (ha:0<a.size) (hb:0<b.size) (h0:∀x∈a,r b[0]<=r x) (hl:r b[b.size-1]<=r a[a.size-1])
 (h:∀out g,out.toList.Perm (a.toList++b.toList)->FI r out.toList->Q out (setG st g)):wpS (model prog w) A E s (UL a b) Q st:=by
 have DQ:∀{out:Array Keyed} {l f:Nat},MI (λx=>-r x) (a.toList++b.toList) out.toList (a.toList.take l).reverse (b.toList.take f).reverse->(f=0∨l=0)->(a.extract 0 l++b.extract 0 f++out.reverse).toList.Perm (a.toList++b.toList)/\FI r (a.extract 0 l++b.extract 0 f++out.reverse).toList:=λ{out l f} m e=>by
  rw[cO,cO,CM,CM,Array.toList_reverse];rcases e with e|e
  ·subst e
   have:=KQ m.fin
   rw[ki,List.reverse_reverse] at this
   simpa using this
  ·subst e
   have:=KQ m.swap.fin
   rw[ki,List.reverse_reverse] at this
   simpa using this
 have fin2:∀{out:Array Keyed} {l f:Nat},MI (λx=>-r x) (a.toList++b.toList) out.toList (a.toList.take l).reverse (b.toList.take f).reverse->f=1->(b.extract 0 f++a.extract 0 l++out.reverse).toList.Perm (a.toList++b.toList)/\FI r (b.extract 0 f++a.extract 0 l++out.reverse).toList:=λ{out l f} m e=>by
  rw[cO,cO,CM,CM,Array.toList_reverse];subst e;have T:(b.toList.take 1).reverse=[b[0]]:=by rw[gI ∅ hb];simp
  have e2:b.toList.take 1=[b[0]]:=by rw[<- List.reverse_reverse (b.toList.take 1),T];rfl
  rw[T] at m;rw[e2]
  have:=KQ (m.swap.last λy hy=>Int.neg_le_neg (h0 y (by simpa using List.mem_of_mem_take (List.mem_reverse.mp hy))))
  rw[ki,ki,List.reverse_reverse] at this
  simpa using this
 have pB:∀{out:Array Keyed} {l f:Nat} (p:0<l) (q:l<=a.size) (v:0<f) (d:f<=b.size),MI (λx=>-r x) (a.toList++b.toList) out.toList (a.toList.take l).reverse (b.toList.take f).reverse->r a[l-1]<=r b[f-1]->MI (λx=>-r x) (a.toList++b.toList) (out.push b[f-1]).toList (a.toList.take l).reverse (b.toList.take (f-1)).reverse:=λ{out l f} p q v d m e=>by
  rw[gI p q,gI v d] at m;rw[uM,gI p q];exact (m.swap.a (Int.neg_le_neg e)).swap
 have pA:∀{out:Array Keyed} {l f:Nat} (p:0<l) (q:l<=a.size) (v:0<f) (d:f<=b.size),MI (λx=>-r x) (a.toList++b.toList) out.toList (a.toList.take l).reverse (b.toList.take f).reverse->r b[f-1]<=r a[l-1]->MI (λx=>-r x) (a.toList++b.toList) (out.push a[l-1]).toList (a.toList.take (l-1)).reverse (b.toList.take f).reverse:=λ{out l f} p q v d m e=>by
  rw[gI p q,gI v d] at m;rw[uM,gI v d];exact m.a (Int.neg_le_neg e)
 have tA:∀{out:Array Keyed} {l f k:Nat} (p:k<=l) (q:l<=a.size) (v:0<f) (d:f<=b.size),MI (λx=>-r x) (a.toList++b.toList) out.toList (a.toList.take l).reverse (b.toList.take f).reverse->(∀j,k<=j->(h:j<l)->r b[f-1]<=r a[j])->MI (λx=>-r x) (a.toList++b.toList) (out++(a.extract k l).reverse).toList (a.toList.take k).reverse (b.toList.take f).reverse:=λ{out l f k} p q v d m e=>by
  rw[EZ p,gI v d] at m;rw[cO,gI v d];refine m.as λx Z=>?_;obtain⟨j,V,R,rfl⟩:=Mw Z q;exact Int.neg_le_neg (e j R V)
 have tB:∀{out:Array Keyed} {l f k:Nat} (p:0<l) (q:l<=a.size) (v:k<=f) (d:f<=b.size),MI (λx=>-r x) (a.toList++b.toList) out.toList (a.toList.take l).reverse (b.toList.take f).reverse->(∀j,k<=j->(h:j<f)->r a[l-1]<=r b[j])->MI (λx=>-r x) (a.toList++b.toList) (out++(b.extract k f).reverse).toList (a.toList.take l).reverse (b.toList.take k).reverse:=λ{out l f k} p q v d m e=>by
  rw[EZ (a:=b) v,gI p q] at m;rw[cO,gI p q];refine (m.swap.as λx Z=>?_).swap;obtain⟨j,V,R,rfl⟩:=Mw Z d;exact Int.neg_le_neg (e j R V)
 have m0:MI (λx=>-r x) (a.toList++b.toList) (#[]:Array Keyed).toList (a.toList.take a.size).reverse (b.toList.take b.size).reverse:=by
  rw[gi (-_),gi (-_)];exact⟨by simpa using (List.reverse_perm _).append (List.reverse_perm _),-_,List.pairwise_reverse.mpr (sa.imp λz=>∅),List.pairwise_reverse.mpr (sb.imp λz=>∅),λx Z=>by simp at Z⟩
 have m1:=pA ha (ay _) hb (ay _) m0 hl;refine wpS_bind (wpS_lift (wpAny_rule ⟨rfl,?_⟩));refine wpS_bind (jM (getElem?_pos a (a.size-1) ∅) ?_);dsimp only;by_cases T:a.size-1=0
 ·rw[ee (by simp[T])]
  exact wpS_pure (h _ (gallopOf st) (DQ m1 (.inr T)).1 (DQ m1 (.inr T)).2)
 rw[er (by simpa using T)];by_cases e2:b.size=1
 ·rw[ee (by simp[e2])]
  exact wpS_pure (h _ (gallopOf st) (fin2 m1 e2).1 (fin2 m1 e2).2)
 rw[er (by simpa using e2)];refine wpS_bind (wpS_get ?_);refine wpS_bind (wpS_mono (wpS_forRange (I:=λx c N=>∃l f out J g,c=(none,l,f,out,J)/\N=setG st g/\MI (λx=>-r x) (a.toList++b.toList) out.toList (a.toList.take l).reverse (b.toList.take f).reverse/\0<l/\l<=a.size/\1<f/\f<=b.size/\l+f+x<a.size+b.size)
  (Q:=λc N=>∃res g t,c=(some res,t)/\N=setG st g/\res.toList.Perm (a.toList++b.toList)/\FI r res.toList) ?_ ?_ ⟨_,_,_,_,gallopOf st,rfl,rfl,m1,∅,∅,∅,∅,∅⟩) ?_)
 ·rintro x c N _ Z ⟨l,f,out,J,g,rfl,rfl,m,p,q,v,d,h3⟩
  dsimp only;refine wpS_bind (wpS_mono (wpS_forRange (I:=λy c n=>∃G D out M L,c=(none,G,D,out,M,L)/\n=setG st g/\MI (λx=>-r x) (a.toList++b.toList) out.toList (a.toList.take G).reverse (b.toList.take D).reverse/\0<G/\G<=a.size/\1<D/\D<=b.size/\G+D+y<=l+f)
   (Q:=λc n=>n=setG st g/\((∃res t,c=(some res,t)/\res.toList.Perm (a.toList++b.toList)/\FI r res.toList)∨∃G D out M L,c=(none,G,D,out,M,L)/\MI (λx=>-r x) (a.toList++b.toList) out.toList (a.toList.take G).reverse (b.toList.take D).reverse/\0<G/\G<=a.size/\1<D/\D<=b.size/\G+D<l+f)) ?_ ?_ ⟨_,_,_,_,_,rfl,rfl,m,p,q,v,d,∅⟩) ?_)
  ·rintro y c n _ hy ⟨G,D,out,M,L,rfl,rfl,m,p,q,v,d,h3⟩
   dsimp only;refine wpS_bind (jM (getElem?_pos b (D-1) ∅) (wpS_bind (jM (getElem?_pos a (G-1) ∅) (wpS_bind (oH hc hk (mb _ (bJ _)) (ma _ (bJ _)) ?_)))));dsimp only;by_cases hlt:r b[D-1]<r a[G-1]
   ·rw[ee (e8 hlt)]
    have H:=pA p q ∅ d m ∅;refine wpS_bind (jM (getElem?_pos a (G-1) ∅) ?_);by_cases e:G-1=0
    ·rw[ee (by simp[e])]
     exact wpS_pure ⟨rfl,.inl ⟨_,_,rfl,DQ H (.inr e)⟩⟩
    rw[er (by simpa using e)];by_cases e3:M+1≥J
    ·rw[ee e3]
     exact wpS_pure ⟨rfl,.inr ⟨_,_,_,_,_,rfl,H,∅,∅,v,d,∅⟩⟩
    ·rw[er e3]
     exact wpS_pure ⟨_,_,_,_,_,rfl,rfl,H,∅,∅,v,d,∅⟩
   ·rw[er (by simpa using hlt)]
    have H:=pB p q ∅ d m ∅;refine wpS_bind (jM (getElem?_pos b (D-1) ∅) ?_);by_cases e:D-1=1
    ·rw[ee (by simp[e])]
     exact wpS_pure ⟨rfl,.inl ⟨_,_,rfl,fin2 H e⟩⟩
    rw[er (by simpa using e)];by_cases e3:L+1≥J
    ·rw[ee e3]
     exact wpS_pure ⟨rfl,.inr ⟨_,_,_,_,_,rfl,H,p,q,∅,∅,∅⟩⟩
    ·rw[er e3]
     exact wpS_pure ⟨_,_,_,_,_,rfl,rfl,H,p,q,∅,∅,∅⟩
  ·rintro c n ⟨G,D,out,M,L,rfl,rfl,m,p,q,v,d,h3⟩
   lia
  rintro c n ⟨rfl,⟨res,t,rfl,p1,p2⟩|⟨G,D,out,M,L,rfl,m,p,q,v,d,h3'⟩⟩
  ·exact wpS_pure ⟨_,_,_,rfl,rfl,p1,p2⟩
  dsimp only;refine wpS_bind (wpS_lift (wpAny_rule ⟨rfl,?_⟩));refine wpS_bind (wpS_mono (wpS_forRange (I:=λy c n=>∃F u out J M L g,c=(none,F,u,out,J,M,L)/\n=setG st g/\MI (λx=>-r x) (a.toList++b.toList) out.toList (a.toList.take F).reverse (b.toList.take u).reverse/\0<F/\F<=a.size/\1<u/\u<=b.size/\F+u<=G+D)
   (Q:=λc n=>∃g,n=setG st g/\((∃res t,c=(some res,t)/\res.toList.Perm (a.toList++b.toList)/\FI r res.toList)∨∃F u out J M L,c=(none,F,u,out,J,M,L)/\MI (λx=>-r x) (a.toList++b.toList) out.toList (a.toList.take F).reverse (b.toList.take u).reverse/\0<F/\F<=a.size/\1<u/\u<=b.size/\F+u<=G+D)) ?_ ?_ ⟨_,_,_,_,_,_,_,rfl,rfl,m,p,q,v,d,∅⟩) ?_)
  ·rintro y c n _ hy ⟨F,u,out,J,M,L,g,rfl,rfl,m,p,q,v,d,h3⟩
   dsimp only;refine ada (α:=Nat) (λK=>by
    by_cases hm:J > 1
    ·rw[ee hm]
     generalize J-1=mg';exact K mg'
    ·rw[er hm]
     exact K J) ?_
   intro J;refine wpS_bind (wpS_modify (wpS_bind (jM (getElem?_pos b (u-1) ∅) (wpS_bind (R9 (st:=setG st J) hc hk (mb _ (bJ _)) (Mv ma ∅) (Qs sa ∅) ∅ λk hk1 hk2 YJ=>?_)))));dsimp only;refine UO (α:=Array Keyed) (β:=Nat) (C:=λo i=>MI (λx=>-r x) (a.toList++b.toList) o.toList (a.toList.take i).reverse (b.toList.take u).reverse/\0<i/\i<=F/\∀(h:0<i) (h':i<=a.size),r a[i-1]<=r b[u-1]) (λK=>by
    have lo:∀j,k<=j->(h:j<F)->r b[u-1]<=r a[j]:=λj V U=>by
     have:=YJ j V U
     rw[n9 ∅] at this;simp[AI] at this;lia
    have hi:∀(h:0<k) (h':k<=a.size),r a[k-1]<=r b[u-1]:=λhh hh'=>by
     have:=hk2 (k-1) ∅
     rw[n9 ∅] at this
     simpa [AI] using this
    have H:=tA hk1 q ∅ d m lo;by_cases P:F-k > 0
    ·rw[ee P]
     by_cases e:k=0
     ·rw[ee (by simp[e])]
      exact wpS_pure ⟨_,rfl,.inl ⟨_,_,rfl,DQ H (.inr e)⟩⟩
     rw[er (by simpa using e)];generalize out++(a.extract k F).reverse=out' at H ⊢;have X:0<k:=∅
     obtain⟨Y,B⟩:∃Y,Y=k:=⟨_,rfl⟩;rw[<- B];exact K out' Y ⟨B▸H,B▸X,B▸hk1,B▸hi⟩
    ·rw[er P]
     have e:k=F:=∅
     subst e;exact K out k ⟨m,p,ay _,hi⟩) ?_
   rintro out S ⟨m,p,agO,W⟩;have H:=pB p ∅ ∅ d m (W p ∅);refine wpS_bind (jM (getElem?_pos b (u-1) ∅) ?_);by_cases e:u-1=1
   ·rw[ee (by simp[e])]
    exact wpS_pure ⟨_,rfl,.inl ⟨_,_,rfl,fin2 H e⟩⟩
   rw[er (by simpa using e)];refine wpS_bind (jM (getElem?_pos a (S-1) ∅) (wpS_bind (R9 (st:=setG st J) hc hk (ma _ (bJ _)) (Mv mb ∅) (Qs sb ∅) ∅ λO hj1 R hj3=>?_)));dsimp only;generalize out.push b[u-1]=out at H ⊢;refine UO (α:=Array Keyed) (β:=Nat) (C:=λo i=>MI (λx=>-r x) (a.toList++b.toList) o.toList (a.toList.take S).reverse (b.toList.take i).reverse/\1<i/\i<=u-1/\∀(h:0<i) (h':i<=b.size),r b[i-1]<=r a[S-1]) (λK=>by
    have lo:∀j,O<=j->(h:j<u-1)->r a[S-1]<=r b[j]:=λj V U=>by
     have:=hj3 j V U
     rw[n9 ∅] at this
     simpa [AI] using this
    have hi:∀(h:0<O) (h':O<=b.size),r b[O-1]<=r a[S-1]:=λhh hh'=>by
     have:=R (O-1) ∅
     rw[n9 ∅] at this;simp[AI] at this;lia
    have Xb:=tB p ∅ hj1 ∅ H lo;by_cases P:u-1-O > 0
    ·rw[ee P]
     by_cases e:O=1
     ·rw[ee (by simp[e])]
      exact wpS_pure ⟨_,rfl,.inl ⟨_,_,rfl,fin2 Xb e⟩⟩
     rw[er (by simpa using e)];by_cases e:O=0
     ·rw[ee (by simp[e])]
      exact wpS_pure ⟨_,rfl,.inl ⟨_,_,rfl,DQ Xb (.inl e)⟩⟩
     rw[er (by simpa using e)];generalize out++(b.extract O (u-1)).reverse=out' at Xb ⊢;have X:1<O:=∅
     obtain⟨Y,B⟩:∃Y,Y=O:=⟨_,rfl⟩;rw[<- B];exact K out' Y ⟨B▸Xb,B▸X,B▸hj1,B▸hi⟩
    ·rw[er P]
     have e4:O=u-1:=∅
     subst e4;exact K out (u-1) ⟨H,∅,∅,hi⟩) ?_
   rintro out ib ⟨m,hb1,hb2,W⟩;have H:=pA p ∅ ∅ ∅ m (W ∅ ∅);refine wpS_bind (jM (getElem?_pos a (S-1) ∅) ?_);by_cases e:S-1=0
   ·rw[ee (by simp[e])]
    exact wpS_pure ⟨_,rfl,.inl ⟨_,_,rfl,DQ H (.inr e)⟩⟩
   rw[er (by simpa using e)];by_cases e7:(decide (F-S<7)&&decide (u-1-ib<7))=true
   ·rw[ee e7]
    exact wpS_pure ⟨_,rfl,.inr ⟨_,_,_,_,_,_,rfl,H,∅,∅,∅,∅,∅⟩⟩
   ·rw[er e7]
    exact wpS_pure ⟨_,_,_,_,_,_,_,rfl,rfl,H,∅,∅,∅,∅,∅⟩
  ·rintro c n ⟨F,u,out,J,M,L,g,rfl,rfl,m,p,q,v,d,h3⟩
   exact⟨_,rfl,.inr ⟨_,_,_,_,_,_,rfl,m,p,q,v,d,h3⟩⟩
  rintro c n ⟨g,rfl,⟨res,t,rfl,p1,p2⟩|⟨F,u,out,J,M,L,rfl,m,p,q,v,d,h3'⟩⟩
  ·exact wpS_pure ⟨_,_,_,rfl,rfl,p1,p2⟩
  dsimp only;exact wpS_bind (wpS_modify (wpS_pure ⟨_,_,_,_,_,rfl,rfl,m,p,q,v,d,∅⟩))
 ·rintro c N ⟨l,f,out,J,g,rfl,rfl,m,p,q,v,d,h3⟩
  lia
 ·rintro c N ⟨res,g,t,rfl,rfl,p1,p2⟩
  exact wpS_pure (h _ _ p1 p2)
theorem adb{α:Type}{G:Prop}{C P:α->Prop}(h:(∀x,C x->P x)->G)(k:∀x,C x->P x):G:=h k
def Kp(a a':Array Keyed)(lo hi:Nat):Prop:=a'.Perm a/\∀k,k<lo∨hi<=k->a'[k]?=a[k]?
theorem Kp.refl{a:Array Keyed}{lo b:Nat}:Kp a a lo b:=⟨Array.Perm.refl _,λ_ _=>rfl⟩
theorem Kp.trans{a b c:Array Keyed}{lo d:Nat}(h:Kp a b lo d)(h':Kp b c lo d):Kp a c lo d:=⟨h'.1.trans h.1,λk z=>(h'.2 k z).trans (h.2 k z)⟩
theorem Kp.size{a b:Array Keyed}{lo c:Nat}(h:Kp a b lo c):b.size=a.size:=h.1.size_eq
theorem Kp.mem{a b:Array Keyed}{lo c:Nat}(h:Kp a b lo c)(m:∀x∈a,x∈a₀):∀x∈b,x∈a₀:=λx d=>m x ((h.1.mem_iff).mp d)
theorem KR{a:Array Keyed}{i j lo b:Nat}(c:j<=a.size)(d:lo<=i)(e:j<=b):Kp a (mirror a i j ((j-i)/2)) lo b:=⟨mirror_perm _ _ _ _,λk z=>by rw[getElem?_mirror_all c,er ∅]⟩
theorem KS{a:Array Keyed}{i j lo k:Nat}(b:lo+j<=a.size):fv r (mirror a (lo+i) (lo+j) ((lo+j-(lo+i))/2)) lo k=if i<=k/\k<j then fv r a lo (i+j-1-k) else fv r a lo k:=by
 unfold fv;rw[getElem?_mirror_all b];by_cases h:i<=k/\k<j
 ·rw[ee h,ee ∅,show lo+i+(lo+j)-1-(lo+k)=lo+(i+j-1-k) by lia]
 ·rw[er h,er ∅]
theorem JJ{st:SortSt}{lo i j:Nat}{Q:Option Bool->SortSt->Prop}(d:R8 prog w A s κ a₀ r)(c:kindOf st=κ)(m:∀x∈arrOf st,x∈a₀)(a:lo+i<(arrOf st).size)(b:lo+j<(arrOf st).size)
 (h:Q (some (decide (fv r (arrOf st) lo i<fv r (arrOf st) lo j))) st):wpS (model prog w) A E s (ltAt' (lo+i) (lo+j)) Q st:=by
 rw[n9 a,n9 b] at h;refine wpS_bind (wpS_get (wpS_bind (jM (getElem?_pos (arrOf st) (lo+i) a) (wpS_bind (jM (getElem?_pos (arrOf st) (lo+j) b) (oH d c (m _ (bJ _)) (m _ (bJ _)) h))))))
def Dn(f:Nat->Int)(n:Nat):Prop:=∀i j,i<=j->j<n->f j<=f i
theorem Up.next{f:Nat->Int}{n:Nat}(h:Up f n)(d:1<=n)(e:f (n-1)<=f n):Up f (n+1):=λi j a b=>by
 by_cases z:j=n
 ·subst z
  by_cases c:i=j
  ·subst c;exact jn _
  ·exact qV (h i (j-1) ∅ ∅) e
 ·exact h i j a ∅
theorem Dn.next{f:Nat->Int}{n:Nat}(h:Dn f n)(d:1<=n)(e:f n<=f (n-1)):Dn f (n+1):=λi j a b=>by
 by_cases z:j=n
 ·subst z
  by_cases c:i=j
  ·subst c;exact jn _
  ·exact qV e (h i (j-1) ∅ ∅)
 ·exact h i j a ∅
theorem Up.eq{f g:Nat->Int}{n:Nat}(h:Up f n)(e:∀i,i<n->g i=f i):Up g n:=λi j a b=>by rw[e i ∅,e j b];exact h i j a b
theorem Dn.eq{f g:Nat->Int}{n:Nat}(h:Dn f n)(e:∀i,i<n->g i=f i):Dn g n:=λi j a b=>by rw[e i ∅,e j b];exact h i j a b
theorem ade{st:SortSt}{lo d a:Nat}{g:Nat->Option (Option Nat)×Nat->StateT SortSt Sem (ForInStep (Option (Option Nat)×Nat))}{R:Option (Option Nat)×Nat->SortSt->Prop}
 (m:1<=d) (j:d<=a) (f:Up (fv r (arrOf st) lo) d)
 (l:∀x n R,1<=n->n<a->R (if fv r (arrOf st) lo n<fv r (arrOf st) lo (n-1) then .done (none,n) else .yield (none,n+1)) st->wpS (model prog w) A E s (g x (none,n)) R st)
 (h:∀n,d<=n->n<=a->Up (fv r (arrOf st) lo) n->(n<a->fv r (arrOf st) lo n<fv r (arrOf st) lo (n-1))->R (none,n) st):wpS (model prog w) A E s (forIn [d:a] (none,d) g) R st:=by
 refine wpS_forRange (I:=λx c b=>b=st/\c=(none,x)/\Up (fv r (arrOf st) lo) x) ?_ ?_ ⟨rfl,rfl,f⟩
 ·rintro x c b k i ⟨rfl,rfl,f⟩
  refine l _ _ _ ∅ i ?_;by_cases e:fv r (arrOf b) lo x<fv r (arrOf b) lo (x-1)
  ·rw[ee e]
   exact h x k ∅ f λ_=>e
  ·rw[er e]
   exact⟨rfl,rfl,f.next ∅ ∅⟩
 ·rintro c b ⟨rfl,rfl,f⟩
  rw[show max d a=a by lia] at f ⊢;exact h a j (ay _) f λz=>∅
theorem aaB{st:SortSt}{lo g:Nat}{Q:Option Nat->SortSt->Prop}(J:R8 prog w A s κ a₀ r)(L:kindOf st=κ)(m:∀x∈arrOf st,x∈a₀)(h1:1<=g)(hz:lo+g<=(arrOf st).size)
 (h:∀n a,1<=n->n<=g->Kp (arrOf st) a lo (lo+g)->Up (fv r a lo) n->Q (some n) (setArr st a)):wpS (model prog w) A E s (countRun' lo g) Q st:=by
 refine wpS_bind (ade (r:=r) (lo:=lo) (ay _) h1 (λi j a b=>by rw[show i=j by lia];exact jn _) (λx n R a b k=>?_) λn a b B T=>?_)
 ·dsimp only
  rw[show lo+n-1=lo+(n-1) by lia];refine wpS_bind (JJ J L m ∅ ∅ ?_);dsimp only;split at k <;> rename_i z
  ·rw[ee (e8 z)];exact wpS_pure k
  ·rw[er (by simpa using z)];exact wpS_pure k
 dsimp only;by_cases e:n=g
 ·rw[ee (by simp[e])]
  exact wpS_pure (h n _ a b Kp.refl B)
 rw[er (by simpa using e)];have T:=T ∅;refine adb (α:=Array Keyed) (C:=λo=>Kp (arrOf st) o lo (lo+g)/\Dn (fv r o lo) (n+1)) (λK=>by
  by_cases X:n > 1
  ·rw[ee X,show lo+n-1=lo+(n-1) by lia]
   refine wpS_bind (JJ (i:=0) J L m ∅ ∅ ?_);dsimp only;by_cases z:fv r (arrOf st) lo 0<fv r (arrOf st) lo (n-1)
   ·rw[ee (e8 z)]
    exact wpS_pure (h n _ a b Kp.refl B)
   rw[er (by simpa using z)];refine wpS_bind (wpS_modify ?_);have l:Kp (arrOf st) (mirror (arrOf st) lo (lo+n) ((lo+n-lo)/2)) lo (lo+g):=KR ∅ (ay _) ∅;have v:∀k,fv r (mirror (arrOf st) lo (lo+n) ((lo+n-lo)/2)) lo k=fv r (arrOf st) lo k:=λk=>by
    have:=KS (r:=r) (a:=arrOf st) (i:=0) (j:=n) (lo:=lo) (k:=k) ∅
    rw[Nat.add_zero] at this;rw[this];split
    ·rename_i y
     have a1:=B 0 (0+n-1-k) ∅ ∅;have a2:=B (0+n-1-k) (n-1) ∅ ∅;have a3:=B 0 k ∅ ∅;have a4:=B k (n-1) ∅ ∅;lia
    ·rfl
   have p:Dn (fv r (mirror (arrOf st) lo (lo+n) ((lo+n-lo)/2)) lo) (n+1):=by
    refine Dn.eq (f:=fv r (arrOf st) lo) (Dn.next (λi j c d=>?_) ∅ ∅) λi _=>v i;have a1:=B 0 i ∅ ∅;have a2:=B j (n-1) ∅ ∅;have a3:=B i (n-1) ∅ ∅;have a4:=B 0 j ∅ ∅;lia
   show wpS _ _ _ _ _ _ (setArr st (mirror (arrOf st) lo (lo+n) ((lo+n-lo)/2)));generalize mirror (arrOf st) lo (lo+n) ((lo+n-lo)/2)=o at l p ⊢;exact K o ⟨l,p⟩
  ·rw[er X]
   have P:n=1:=∅
   have:Dn (fv r (arrOf st) lo) (n+1):=Dn.next (λi j c d=>by rw[show i=j by lia];exact jn _) ∅ ∅
   have W:=K (arrOf st) ⟨Kp.refl,this⟩;exact W) ?_
 rintro o ⟨l,p⟩;refine wpS_bind (wpS_lift (wpAny_rule ⟨rfl,?_⟩));have D:∀{o:Array Keyed},Kp (arrOf st) o lo (lo+g)->o.size=(arrOf st).size:=λz=>z.size;refine wpS_bind (wpS_mono (wpS_forRange (I:=λx c u=>∃o q,u=setArr st o/\c=(none,x,q)/\x<=g/\q+1<=x/\Kp (arrOf st) o lo (lo+g)/\Dn (fv r o lo) x/\∀i,x-(q+1)<=i->i<x->fv r o lo i=fv r o lo (x-1))
  (Q:=λc u=>∃o q x,u=setArr st o/\c=(none,x,q)/\1<=x/\x<=g/\q+1<=x/\Kp (arrOf st) o lo (lo+g)/\Dn (fv r o lo) x/\∀i,x-(q+1)<=i->i<x->fv r o lo i=fv r o lo (x-1)) ?_ ?_ ⟨o,0,rfl,rfl,∅,∅,l,p,λi c d=>by rw[show i=n+1-1 by lia]⟩) ?_)
 ·rintro x c u Y T ⟨o,q,rfl,rfl,F,S,l,p,t⟩
  have V:=D l;have O:∀x∈arrOf (setArr st o),x∈a₀:=l.mem m;dsimp only;rw[show lo+x-1=lo+(x-1) by lia];refine wpS_bind (JJ J L O (by show _<o.size;lia) (by show _<o.size;lia) ?_);dsimp only;by_cases z:fv r o lo x<fv r o lo (x-1)
  ·rw[ee (e8 z)]
   by_cases N:q > 0
   ·rw[ee N]
    refine wpS_bind (wpS_modify (wpS_pure ?_));have P:lo+x-(q+1)=lo+(x-(q+1)):=∅
    have v:∀k,fv r (mirror o (lo+(x-(q+1))) (lo+x) ((lo+x-(lo+(x-(q+1))))/2)) lo k=fv r o lo k:=λk=>by
     rw[KS ∅];split
     ·rw[t _ ∅ ∅,t k ∅ ∅]
     ·rfl
    refine⟨mirror o (lo+x-(q+1)) (lo+x) ((lo+x-(lo+x-(q+1)))/2),0,rfl,rfl,∅,∅,l.trans (KR ∅ ∅ ∅),?_,λi c d=>by rw[show i=x+1-1 by lia]⟩;rw[P];exact (p.next ∅ ∅).eq λi _=>v i
   ·rw[er N]
    exact wpS_pure ⟨o,0,rfl,rfl,∅,∅,l,p.next ∅ ∅,λi c d=>by rw[show i=x+1-1 by lia]⟩
  ·rw[er (by simpa using z)]
   refine wpS_bind (JJ J L O (by show _<o.size;lia) (by show _<o.size;lia) ?_);dsimp only;by_cases Z:fv r o lo (x-1)<fv r o lo x
   ·rw[ee (e8 Z)]
    exact wpS_pure ⟨o,q,x,rfl,rfl,∅,∅,S,l,p,t⟩
   ·rw[er (by simpa using Z)]
    refine wpS_pure ⟨o,q+1,rfl,rfl,∅,∅,l,p.next ∅ ∅,λi c d=>?_⟩;rw[show x+1-1=x by lia];by_cases e5:i=x
    ·rw[e5]
    ·rw[t i ∅ ∅];lia
 ·rintro c u ⟨o,q,rfl,rfl,F,S,l,p,t⟩
  exact⟨o,q,_,rfl,rfl,∅,F,S,l,p,t⟩
 rintro c u ⟨o,q,x,rfl,rfl,Y,F,S,l,p,t⟩;dsimp only;refine adb (α:=Array Keyed) (C:=λo=>Kp (arrOf st) o lo (lo+g)/\Dn (fv r o lo) x) (λK=>by
  have V:=D l;by_cases N:q > 0
  ·rw[ee N]
   refine wpS_bind (wpS_modify ?_);have P:lo+x-(q+1)=lo+(x-(q+1)):=∅
   have v:∀k,fv r (mirror o (lo+(x-(q+1))) (lo+x) ((lo+x-(lo+(x-(q+1))))/2)) lo k=fv r o lo k:=λk=>by
    rw[KS ∅];split
    ·rw[t _ ∅ ∅,t k ∅ ∅]
    ·rfl
   have G:Kp (arrOf st) (mirror o (lo+(x-(q+1))) (lo+x) ((lo+x-(lo+(x-(q+1))))/2)) lo (lo+g):=l.trans (KR ∅ ∅ ∅);have M:=p.eq λi (_:i<x)=>v i;show wpS _ _ _ _ _ _ (setArr st (mirror o (lo+x-(q+1)) (lo+x) ((lo+x-(lo+x-(q+1)))/2)));rw[P];generalize mirror o (lo+(x-(q+1))) (lo+x) ((lo+x-(lo+(x-(q+1))))/2)=o' at G M ⊢;exact K o' ⟨G,M⟩
  ·rw[er N]
   exact K o ⟨l,p⟩) ?_
 rintro o ⟨l,p⟩;have V:=D l;refine wpS_bind (wpS_modify ?_);have G:Kp (arrOf st) (mirror o lo (lo+x) ((lo+x-lo)/2)) lo (lo+g):=l.trans (KR ∅ ∅ ∅);have H:Up (fv r (mirror o lo (lo+x) ((lo+x-lo)/2)) lo) x:=λi j c d=>by
  have:=λk=>KS (r:=r) (a:=o) (i:=0) (j:=x) (lo:=lo) (k:=k) ∅
  simp only[Nat.add_zero] at this;rw[this i,this j,ee ∅,ee ∅];exact p _ _ ∅ ∅
 show wpS _ _ _ _ _ _ (setArr st (mirror o lo (lo+x) ((lo+x-lo)/2)));generalize mirror o lo (lo+x) ((lo+x-lo)/2)=o at G H ⊢;have V:=D G;have O:∀x∈arrOf (setArr st o),x∈a₀:=G.mem m;refine wpS_bind (ade (st:=setArr st o) (r:=r) (lo:=lo) Y F H (λy n R a b k=>?_) λn' a' b' U _=>wpS_pure (h n' o ∅ b' G U));dsimp only;rw[show lo+n-1=lo+(n-1) by lia];refine wpS_bind (JJ J L O (by show _<o.size;lia) (by show _<o.size;lia) ?_);dsimp only;split at k <;> rename_i z
 ·rw[ee (e8 z)];exact wpS_pure k
 ·rw[er (by simpa using z)];exact wpS_pure k
theorem aaC{a:Array Keyed}{k l lo b:Nat}(c:k<a.size)(d:lo<=l)(hl:l<=k)(e:k<b):Kp a (bubble a k (k-l)) lo b:=⟨bubble_perm _ _ _,λi z=>by rw[getElem?_bubble c _ ∅,er ∅,er ∅]⟩
theorem UQ{a:Array Keyed}{k l lo i:Nat}(c:lo+k<a.size)(hl:l<=k):fv r (bubble a (lo+k) (lo+k-(lo+l))) lo i=if i=l then fv r a lo k else if l<i/\i<=k then fv r a lo (i-1) else fv r a lo i:=by
 unfold fv;rw[getElem?_bubble c _ ∅];by_cases e:i=l
 ·rw[ee e,ee ∅]
 ·rw[er e,er ∅]
  by_cases b:l<i/\i<=k
  ·rw[ee b,ee ∅,show lo+i-1=lo+(i-1) by lia]
  ·rw[er b,er ∅]
theorem adh{st:SortSt}{lo n ok:Nat}{Q:Bool->SortSt->Prop}(C:R8 prog w A s κ a₀ r)(F:kindOf st=κ)(m:∀x∈arrOf st,x∈a₀)(L:lo+n<=(arrOf st).size)(B:ok<=n)(f:Up (fv r (arrOf st) lo) ok)
 (h:∀a,Kp (arrOf st) a lo (lo+n)->Up (fv r a lo) n->Q true (setArr st a)):wpS (model prog w) A E s (binarySort' lo n ok) Q st:=by
 refine wpS_bind (wpS_mono (wpS_forRange (I:=λk c b=>∃a,b=setArr st a/\c=(none,())/\Kp (arrOf st) a lo (lo+n)/\Up (fv r a lo) (min k n))
  (Q:=λc b=>∃a,b=setArr st a/\c=(none,())/\Kp (arrOf st) a lo (lo+n)/\Up (fv r a lo) n) ?_ ?_ ⟨arrOf st,rfl,rfl,Kp.refl,λi j c d=>?_⟩) ?_)
 ·rintro k c b H y ⟨a,rfl,rfl,e,f⟩
  rw[show min k n=k by lia] at f;have M:=e.size;have v:∀x∈arrOf (setArr st a),x∈a₀:=e.mem m;refine wpS_bind (wpS_mono (wpS_forRange (I:=λx c b=>b=setArr st a/\∃p q,c=(none,p,q)/\p<=q/\q<=k/\q-p<=k-x/\(∀i,i<p->fv r a lo i<=fv r a lo k)/\∀i,q<=i->i<k->fv r a lo k<fv r a lo i)
   (Q:=λc b=>b=setArr st a/\∃p,c=(none,p,p)/\p<=k/\(∀i,i<p->fv r a lo i<=fv r a lo k)/\∀i,p<=i->i<k->fv r a lo k<fv r a lo i) ?_ ?_ ⟨rfl,0,k,rfl,∅,∅,∅,λi c=>∅,λi c d=>∅⟩) ?_)
  ·rintro x c b _ K ⟨rfl,p,q,rfl,u,l,G,g,o⟩
   dsimp only;by_cases t:p≥q
   ·rw[ee t]
    have:q=p:=∅
    subst this;exact wpS_pure ⟨rfl,q,rfl,l,g,o⟩
   ·rw[er t]
    refine wpS_bind (JJ C F v (by show _<a.size;lia) (by show _<a.size;lia) ?_);dsimp only;by_cases z:fv r a lo k<fv r a lo ((p+q)/2)
    ·rw[ee (e8 z)]
     refine wpS_pure ⟨rfl,p,_,rfl,∅,∅,∅,g,λi c d=>?_⟩
     have:=f ((p+q)/2) i c d
     lia
    ·rw[er (by simpa using z)]
     refine wpS_pure ⟨rfl,_,q,rfl,∅,∅,∅,λi c=>?_,o⟩
     have:=f i ((p+q)/2) ∅ ∅
     lia
  ·rintro c b ⟨rfl,p,q,rfl,u,l,G,g,o⟩
   have:q=p:=∅
   subst this;exact⟨rfl,q,rfl,l,g,o⟩
  ·rintro c b ⟨rfl,p,rfl,l,g,o⟩
   dsimp only;refine wpS_bind (wpS_modify (wpS_pure ⟨bubble a (lo+k) (lo+k-(lo+p)),rfl,rfl,e.trans (aaC ∅ ∅ ∅ ∅),?_⟩));rw[show min (k+1) n=k+1 by lia];intro i j D J;rw[UQ ∅ l,UQ ∅ l]
   repeat' split
   all_goals first
    | (exfalso;lia)
    |exact jn _
    |exact g _ ∅
    |exact Int.le_of_lt (o _ ∅ ∅)
    |exact f _ _ ∅ ∅
 ·rintro c b ⟨a,rfl,rfl,e,f⟩
  rw[show min (max (max ok 1) n) n=n by lia] at f;exact⟨a,rfl,rfl,e,f⟩
 ·by_cases u:ok=0
  ·rw[show i=j by lia];exact jn _
  ·exact f i j c ∅
 ·rintro c b ⟨a,rfl,rfl,e,f⟩
  exact wpS_pure (h a e f)
theorem UR{sa:Nat}:∀(l:List Keyed) (o:Nat) (a:Array Keyed),sa+o+l.length<=a.size->((l.zipIdx o).foldl (λa (x:Keyed×Nat)=>match x with|(p,j)=>a.setIfInBounds (sa+j) p) a).toList=a.toList.take (sa+o)++l++a.toList.drop (sa+o+l.length)
 |[],o,a,h=>-_
 |x::l,o,a,h=>by
  simp only[bx] at h;rw[List.zipIdx_cons,List.foldl_cons];dsimp only;rw[UR l (o+1) _ (by rw[Array.size_setIfInBounds];lia),Array.toList_setIfInBounds];have hl:sa+o<a.toList.length:=by rw[aR];lia
  rw[List.set_eq_take_append_cons_drop,ee hl];have b:(a.toList.take (sa+o)).length=sa+o:=by rw[bQ];lia
  rw[List.take_append,List.drop_append,b,show sa+(o+1)-(sa+o)=1 by lia,show sa+(o+1)+l.length-(sa+o)=l.length+1 by lia,gi (by rw[b];lia),iL (l:=a.toList.take (sa+o)) (by rw[b];lia)];simp[List.drop_drop];congr 1;lia
theorem Xd{a e g:Array Keyed}{t:Nat}(h:e.toList=a.toList.take t++g.toList++a.toList.drop (t+g.size))(f:t+g.size<=a.size)(p:Nat):e[p]?=if p<t then a[p]? else if p<t+g.size then g[p-t]? else a[p]?:=by
 have c:(a.toList.take t).length=t:=by rw[bQ,aR];lia
 rw[<- dR,h,cF];by_cases b:p<t
 ·rw[ee b,bL (by rw[c];exact b),List.getElem?_take_of_lt b,dR]
 ·rw[er b,cu (by rw[c];lia),c]
  by_cases d:p<t+g.size
  ·rw[ee d,bL (by rw[aR];lia),dR]
  ·rw[er d,cu (by rw[aR];lia),aR,List.getElem?_drop,show t+g.size+(p-t-g.size)=p by lia,dR]
theorem US{a:Array Keyed}{b n:Nat}(h:Up (fv r a b) n)(f:b+n<=a.size):FI r (a.extract b (b+n)).toList:=by
 refine pN.mpr λi j c d e=>?_;rw[aR,mw] at c d;rw[Array.getElem_toList,Array.getElem_toList,gF,gF]
 have:=h i j ∅ ∅
 rwa [n9 ∅,n9 ∅] at this
theorem wZ{a:Array Keyed}{i j:Nat}{x:Keyed}(h:x∈a.extract i j):∃p,∃c:p<a.size,i<=p/\p<j/\x=a[p]:=by
 obtain⟨q,b,e⟩:=Array.mem_iff_getElem.mp h;rw[mw] at b;exact⟨i+q,∅,∅,∅,by rw[<- e,gF]⟩
theorem agQ{st:SortSt}{i sa l pa f t pb:Nat}{Q:Bool->SortSt->Prop}(hc:R8 prog w A s κ a₀ r)(L:kindOf st=κ)(m:∀x∈arrOf st,x∈a₀)(hf:failedOf st=none)(e1:(pendingOf st)[i]?=some (sa,l,pa))(e2:(pendingOf st)[i+1]?=some (f,t,pb))
 (hsb:f=sa+l) (h1:0<l) (h2:0<t) (hz:f+t<=(arrOf st).size) (G:Up (fv r (arrOf st) sa) l) (D:Up (fv r (arrOf st) f) t)
 (h:∀a g,Kp (arrOf st) a sa (f+t)->Up (fv r a sa) (l+t)->Q true (SortSt.mk' (kindOf st) a (((pendingOf st).setIfInBounds i (sa,l+t,pa)).eraseIdxIfInBounds (i+1)) g none)):wpS (model prog w) A E s (mergeAt' i) Q st:=by
 rcases st with ⟨I,a,S,P,fl⟩;have hf:fl=none:=hf;subst hf;have L:I=κ:=L;have e1:S[i]?=some (sa,l,pa):=e1;have e2:S[i+1]?=some (f,t,pb):=e2;have m:∀x∈a,x∈a₀:=m;have hz:f+t<=a.size:=hz;have G:Up (fv r a sa) l:=G;have D:Up (fv r a f) t:=D;have h:∀H g,Kp a H sa (f+t)->Up (fv r H sa) (l+t)->Q true (SortSt.mk' I H ((S.setIfInBounds i (sa,l+t,pa)).eraseIdxIfInBounds (i+1)) g none):=h;refine wpS_bind (wpS_get ?_);dsimp only;rw[e1,e2];dsimp only;refine wpS_bind (m:=modify λ_=>SortSt.mk' I a ((S.setIfInBounds i (sa,l+t,pa)).eraseIdxIfInBounds (i+1)) P none) (wpS_modify ?_);generalize (S.setIfInBounds i (sa,l+t,pa)).eraseIdxIfInBounds (i+1)=pn at h ⊢;have sl:∀b n,b+n<=a.size->Sl a₀ a r b n (fv r a b):=λb n hb=>Mv m hb;refine wpS_bind (jM (getElem?_pos a f ∅) (wpS_bind (R9 (st:=SortSt.mk' I a pn P none) hc L (m _ (bJ _)) (sl sa l ∅) G h1 λk hk1 hk2 YJ=>?_)));dsimp only;have lo:∀j,j<k->fv r a sa j<=r a[f]:=λj u=>by
  have:=hk2 j u
  simpa [AI] using this
 have hi:∀j,k<=j->j<l->r a[f]<fv r a sa j:=λj u B=>by
  have:=YJ j u B
  simpa [AI] using this
 have b0:fv r a f 0=r a[f]:=n9 ∅;have N:(∀i,i<l->fv r a sa i<=fv r a f 0)->Up (fv r a sa) (l+t):=λz i j J u=>by
  have sh:∀j,l<=j->fv r a sa j=fv r a f (j-l):=λj u=>by unfold fv;rw[show f+(j-l)=sa+j by lia]
  by_cases hi1:i<l
  ·by_cases W:j<l
   ·exact G i j J W
   ·rw[sh j ∅]
    exact qV (z i hi1) (D 0 _ ∅ ∅)
  ·rw[sh i ∅,sh j ∅]
   exact D _ _ ∅ ∅
 by_cases ek:l-k=0
 ·rw[ee (by simp[ek])]
  exact wpS_pure (h a _ Kp.refl (N λi hi'=>by rw[b0];exact lo i ∅))
 rw[er (by simpa using ek)];have el:sa+k+(l-k)-1=sa+(l-1):=∅
 rw[el];refine wpS_bind (jM (getElem?_pos a (sa+(l-1)) ∅) (wpS_bind (R9 (st:=SortSt.mk' I a pn P none) hc L (m _ (bJ _)) (sl f t ∅) D ∅ λo W U M=>?_)));dsimp only;have la:r a[sa+(l-1)]=fv r a sa (l-1):=(n9 ∅).symm;rw[la] at U M;have lo2:∀j,j<o->fv r a f j<fv r a sa (l-1):=λj u=>by
  have:=U j u
  simpa [AI] using this
 have O:∀j,o<=j->j<t->fv r a sa (l-1)<=fv r a f j:=λj u B=>by
  have:=M j u B
  simpa [AI] using this
 by_cases T:o=0
 ·rw[ee (by simp[T])]
  exact wpS_pure (h a _ Kp.refl (N λi hi'=>qV (G i (l-1) ∅ ∅) (O 0 ∅ ∅)))
 rw[er (by simpa using T)];have zx:(a.extract (sa+k) f).size=l-k:=by rw[mw];lia
 have zy:(a.extract f (f+o)).size=o:=by rw[mw];lia
 have mx:∀x∈a.extract (sa+k) f,∃p,k<=p/\p<l/\r x=fv r a sa p:=λx q=>by
  obtain⟨p,C,c,d,rfl⟩:=wZ q;refine⟨p-sa,∅,∅,?_⟩;unfold fv;rw[show sa+(p-sa)=p by lia,getElem?_pos a p C];rfl
 have my:∀x∈a.extract f (f+o),∃p,p<o/\r x=fv r a f p:=λx q=>by
  obtain⟨p,C,c,d,rfl⟩:=wZ q;refine⟨p-f,∅,?_⟩;unfold fv;rw[show f+(p-f)=p by lia,getElem?_pos a p C];rfl
 have m1:∀x∈a.extract (sa+k) f,x∈a₀:=λx q=>by obtain⟨p,C,_,_,rfl⟩:=wZ q;exact m _ (bJ _)
 have m2:∀x∈a.extract f (f+o),x∈a₀:=λx q=>by obtain⟨p,C,_,_,rfl⟩:=wZ q;exact m _ (bJ _)
 have u1:Up (fv r a (sa+k)) (l-k):=λi j c d=>by
  have:=G (k+i) (k+j) ∅ ∅
  unfold fv at *
  rwa [<- Nat.add_assoc,<- Nat.add_assoc] at this
 have t1:FI r (a.extract (sa+k) f).toList:=by
  have:=US u1 ∅
  rwa [show sa+k+(l-k)=f by lia] at this
 have t2:FI r (a.extract f (f+o)).toList:=US (λi j c d=>D i j c ∅) ∅;have xl:∀hh,r ((a.extract (sa+k) f)[(a.extract (sa+k) f).size-1]'(hh))=fv r a sa (l-1):=λhh=>by
  rw[gF,<- la];congr 2;lia
 have y0:∀hh,r ((a.extract f (f+o))[0]'(hh))=r a[f]:=λhh=>by rw[gF];rfl
 have X:∀(v:Array Keyed) (g:Nat),v.toList.Perm ((a.extract (sa+k) f).toList++(a.extract f (f+o)).toList)->FI r v.toList ->
  Q true (SortSt.mk' I (v.toList.zipIdx.foldl (λa (x:Keyed×Nat)=>match x with|(p,j)=>a.setIfInBounds (sa+k+j) p) a) pn g none):=λv g C hs=>by
  have hmz:v.size=l-k+o:=by
   have:=C.length_eq
   rw[av,aR,aR,aR,zx,zy] at this;exact this
  have Y:∀x∈v,x∈a.extract (sa+k) f∨x∈a.extract f (f+o):=λx q=>by
   have:=(C.mem_iff).mp (gZ.mpr q)
   rw[br,gZ,gZ] at this;exact this
  have hl:=UR (sa:=sa+k) v.toList 0 a (by rw[aR];lia);generalize (v.toList.zipIdx.foldl (λa (x:Keyed×Nat)=>match x with|(p,j)=>a.setIfInBounds (sa+k+j) p) a)=H at hl ⊢;rw[Nat.add_zero,aR] at hl;have hg:=Xd hl ∅;have fl:∀j,j<k->fv r H sa j=fv r a sa j:=λj u=>by unfold fv;rw[hg,ee ∅]
  have fr:∀j,k+(l-k+o)<=j->fv r H sa j=fv r a f (j-l):=λj u=>by unfold fv;rw[hg,er ∅,er ∅,show f+(j-l)=sa+j by lia]
  have fm:∀j,k<=j->(u:j-k<v.size)->fv r H sa j=r v[j-k]:=λj u B=>by
   unfold fv;rw[hg,er ∅,ee ∅,show sa+j-(sa+k)=j-k by lia,getElem?_pos v (j-k) B];rfl
  have mlo:∀x∈v,∀j,j<k->fv r a sa j<=r x:=λx q j u=>by
   rcases Y x q with z|z
   ·obtain⟨p,c,d,e⟩:=mx x z
    rw[e];exact G j p ∅ d
   ·obtain⟨p,c,e⟩:=my x z
    rw[e]
    have:=D 0 p ∅ ∅
    have:=lo j u
    lia
  have mhi:∀x∈v,∀j,o<=j->j<t->r x<=fv r a f j:=λx q j u B=>by
   rcases Y x q with z|z
   ·obtain⟨p,c,d,e⟩:=mx x z
    rw[e];exact qV (G p (l-1) ∅ ∅) (O j u B)
   ·obtain⟨p,c,e⟩:=my x z
    rw[e];exact D p j ∅ B
  refine h H g ⟨Array.perm_iff_toList_perm.mpr ?_,λp z=>?_⟩ λi j J u=>?_
  ·have ea:a.toList=a.toList.take (sa+k)++((a.extract (sa+k) f).toList++(a.extract f (f+o)).toList)++a.toList.drop (sa+k+v.size):=by
    have d1:=drop_take (a:=a) (i:=sa+k) (k:=l-k);have d2:=drop_take (a:=a) (i:=f) (k:=o);rw[show sa+k+(l-k)=f by lia] at d1;rw[show sa+k+v.size=f+o by lia,cF,cF,<- d2,<- d1,vJ]
   rw[hl];refine List.Perm.trans ?_ (List.Perm.of_eq ea.symm);exact (C.append_left _).append_right _
  ·rw[hg]
   by_cases c1:p<sa+k
   ·rw[ee c1]
   ·rw[er c1,er ∅]
  ·by_cases ci:i<k
   ·rw[fl i ci]
    by_cases cj:j<k
    ·rw[fl j cj];exact G i j J ∅
    ·by_cases F:j-k<v.size
     ·rw[fm j ∅ F];exact mlo _ (bJ _) i ci
     ·rw[fr j ∅]
      have:=D 0 (j-l) ∅ ∅
      have:=lo i ci
      lia
   ·by_cases ci2:i-k<v.size
    ·rw[fm i ∅ ci2]
     by_cases F:j-k<v.size
     ·rw[fm j ∅ F];exact FI.le hs ∅ F
     ·rw[fr j ∅];exact mhi _ (bJ _) _ ∅ ∅
    ·rw[fr i ∅,fr j ∅]
     exact D _ _ ∅ ∅
 have R:∀x∈a.extract (sa+k) f,r a[f]<=r x:=λx q=>by
  obtain⟨p,c,d,e⟩:=mx x q;rw[e];exact Int.le_of_lt (hi p c d)
 have V:∀x∈a.extract f (f+o),r x<=fv r a sa (l-1):=λx q=>by
  obtain⟨p,c,e⟩:=my x q;rw[e];exact Int.le_of_lt (lo2 p c)
 by_cases Z:l-k<=o
 ·rw[ee Z]
  refine wpS_bind (agN (st:=SortSt.mk' I a pn P none) hc L m1 m2 t1 t2 ∅ ∅ (by rw[y0];exact R _ (bJ _)) (λy hy=>by rw[xl];exact V y hy) λK g C hs=>?_);exact wpS_bind (wpS_modify (wpS_bind (wpS_get (wpS_pure (X K g C hs)))))
 ·rw[er Z]
  refine wpS_bind (agP (st:=SortSt.mk' I a pn P none) hc L m1 m2 t1 t2 ∅ ∅ (λx q=>by rw[y0];exact R x q) (by rw[xl];exact V _ (bJ _)) λK g C hs=>?_);exact wpS_bind (wpS_modify (wpS_bind (wpS_get (wpS_pure (X K g C hs)))))
def Ch(r:Keyed->Int)(a:Array Keyed):Nat->List (Nat×Nat×Nat)->Nat->Prop
 |lo,[],hi=>lo=hi
 |lo,(s,n,_)::t,hi=>s=lo/\0<n/\Up (fv r a s) n/\Ch r a (s+n) t hi
theorem Ch.len{a:Array Keyed}{b:Nat}:∀{L:List (Nat×Nat×Nat)} {lo:Nat},Ch r a lo L b->lo+L.length<=b
 |[],lo,h=>by have h:lo=b:=h;simp;lia
 | (s,n,p)::t,lo,h=>by
  have:=Ch.len h.2.2.2
  have c:s=lo:=h.1;have d:0<n:=h.2.1;rw[bx];lia
theorem Ch.app{a:Array Keyed}{b:Nat}{M:List (Nat×Nat×Nat)}:∀{L:List (Nat×Nat×Nat)} {lo:Nat},Ch r a lo (L++M) b->∃mid,Ch r a lo L mid/\Ch r a mid M b
 |[],lo,h=>⟨lo,rfl,h⟩
 | (s,n,p)::t,lo,h=>by
  obtain⟨mid,x,y⟩:=Ch.app h.2.2.2;exact⟨mid,⟨h.1,h.2.1,h.2.2.1,x⟩,y⟩
theorem Ch.join{a:Array Keyed}{mid b:Nat}{M:List (Nat×Nat×Nat)}:∀{L:List (Nat×Nat×Nat)} {lo:Nat},Ch r a lo L mid->Ch r a mid M b->Ch r a lo (L++M) b
 |[],lo,h,k=>by have h:lo=mid:=h;subst h;exact k
 | (s,n,p)::t,lo,h,k=>⟨h.1,h.2.1,h.2.2.1,Ch.join h.2.2.2 k⟩
theorem Ch.congr{a f:Array Keyed}{b:Nat}:∀{L:List (Nat×Nat×Nat)} {lo:Nat},Ch r a lo L b->(∀k,lo<=k->k<b->f[k]?=a[k]?)->Ch r f lo L b
 |[],lo,h,_=>h
 | (s,n,p)::t,lo,h,e=>by
  have j:s=lo:=h.1
  have:=Ch.len h.2.2.2
  exact⟨h.1,h.2.1,h.2.2.1.eq λi g=>by unfold fv;rw[e _ ∅ ∅],Ch.congr h.2.2.2 λk c d=>e k ∅ d⟩
theorem Ch.pw{a:Array Keyed}{b:Nat}:∀{L M:List (Nat×Nat×Nat)} {lo:Nat},Ch r a lo L b->L.map (λt=>(t.1,t.2.1))=M.map (λt=>(t.1,t.2.1))->Ch r a lo M b
 |[],[],lo,h,_=>h
 | (s,n,p)::t,(s',c,d)::t',lo,h,e=>by
  simp only[bN,List.cons.injEq,Prod.mk.injEq] at e;obtain⟨⟨rfl,rfl⟩,e⟩:=e;exact⟨h.1,h.2.1,h.2.2.1,Ch.pw h.2.2.2 e⟩
 |[],_::_,_,_,e=>by simp at e
 |_::_,[],_,_,e=>by simp at e
theorem JK{α:Type}{x y v:α}{M:List α}:∀{L:List α},((L++x::y::M).set L.length v).eraseIdx (L.length+1)=L++v::M
 |[]=>rfl
 |z::L=>by
  have:=JK (x:=x) (y:=y) (v:=v) (M:=M) (L:=L)
  simpa using this
def SI(κ:SortKind)(a₀:Array Keyed)(r:Keyed->Int)(st:SortSt)(lo:Nat):Prop:=kindOf st=κ/\(arrOf st).Perm a₀/\failedOf st=none/\Ch r (arrOf st) 0 (pendingOf st).toList lo
theorem SI.mem{st:SortSt}{lo:Nat}(h:SI κ a₀ r st lo):∀x∈arrOf st,x∈a₀:=λx a=>(h.2.1.mem_iff).mp a
theorem UT{st:SortSt}{lo i:Nat}{Q:Bool->SortSt->Prop}(J:R8 prog w A s κ a₀ r)(W:SI κ a₀ r st lo)(S:lo<=a₀.size)(N:i+1<(pendingOf st).size)
 (h:∀f,SI κ a₀ r f lo->(pendingOf f).size+1=(pendingOf st).size->(∀k,lo<=k->(arrOf f)[k]?=(arrOf st)[k]?)->Q true f):wpS (model prog w) A E s (mergeAt' i) Q st:=by
 obtain⟨D,t,Z,m⟩:=W;obtain⟨⟨c,e,j⟩,p⟩:∃x,(pendingOf st)[i]?=some x:=⟨_,getElem?_pos (pendingOf st) i ∅⟩;obtain⟨⟨q,b,F⟩,o⟩:∃x,(pendingOf st)[i+1]?=some x:=⟨_,getElem?_pos (pendingOf st) (i+1) N⟩;have C:(pendingOf st).toList=(pendingOf st).toList.take i++(c,e,j)::(q,b,F)::(pendingOf st).toList.drop (i+2):=by
  rw[<- dR] at p o;obtain⟨g1,u⟩:=ai.mp p;obtain⟨g2,z⟩:=ai.mp o;rw[<- u,<- z,<- pP,<- pP,vJ]
 have l:((pendingOf st).toList.take i).length=i:=by rw[bQ,aR];lia
 rw[C] at m;obtain⟨mid,B,Y⟩:=m.app;obtain⟨q1,K,O,P,R,T,G⟩:=Y;have z1:=Ch.len G;have V:=t.size_eq;have z0:=Ch.len B;refine agQ J D (λx I=>(t.mem_iff).mp I) Z p o P K R ∅ O T λa g n U=>?_;have H:(((pendingOf st).setIfInBounds i (c,e+b,j)).eraseIdxIfInBounds (i+1)).toList=(pendingOf st).toList.take i++(c,e+b,j)::(pendingOf st).toList.drop (i+2):=by
  rw[Array.toList_eraseIdxIfInBounds,Array.toList_setIfInBounds]
  have:=JK (x:=(c,e,j)) (y:=(q,b,F)) (v:=(c,e+b,j)) (M:=(pendingOf st).toList.drop (i+2)) (L:=(pendingOf st).toList.take i)
  rw[l,<- C] at this;exact this
 refine h _ ⟨D,n.1.trans t,rfl,?_⟩ ?_ λk X=>n.2 k ∅
 ·show Ch r a 0 _ lo
  rw[show pendingOf (SortSt.mk' (kindOf st) a (((pendingOf st).setIfInBounds i (c,e+b,j)).eraseIdxIfInBounds (i+1)) g none)=(((pendingOf st).setIfInBounds i (c,e+b,j)).eraseIdxIfInBounds (i+1)) from rfl,H];refine Ch.join (mid:=mid) (B.congr λk _ d=>n.2 k ∅) ⟨q1,∅,U,?_⟩;rw[show c+(e+b)=q+b by lia];exact G.congr λk d _=>n.2 k ∅
 ·show (((pendingOf st).setIfInBounds i (c,e+b,j)).eraseIdxIfInBounds (i+1)).size+1=_
  rw[<- aR,H];simp[l];lia
theorem adi{st:SortSt}{Q:Unit->SortSt->Prop}(R:R8 prog w A s κ a₀ r)(hS:SI κ a₀ r st 0)(h1:0<a₀.size)(h:∀b,(arrOf b).Perm a₀->failedOf b=none->Up (fv r (arrOf b) 0) a₀.size->Q () b):wpS (model prog w) A E s sortRuns' Q st:=by
 have hz:(arrOf st).size=a₀.size:=hS.2.1.size_eq;refine wpS_bind (wpS_get ?_);dsimp only;rw[show (arrOf st).size=_ from hz];generalize (sortPriv% PySem.Builtin.minRun) a₀.size a₀.size 0=mr;refine wpS_bind (wpS_mono (wpS_forRange (I:=λx c b=>∃lo,c=(none,lo)/\SI κ a₀ r b lo/\lo<=a₀.size/\x<=lo) (Q:=λc b=>c=(none,a₀.size)/\SI κ a₀ r b a₀.size) ?_ ?_ ⟨0,rfl,hS,∅,∅⟩) ?_)
 ·rintro x c b _ S ⟨lo,rfl,l,V,M⟩
  dsimp only;by_cases H:lo≥a₀.size
  ·rw[ee H]
   have:lo=a₀.size:=∅
   subst this;exact wpS_pure ⟨rfl,l⟩
  rw[er H];have hz':(arrOf b).size=a₀.size:=l.2.1.size_eq;refine wpS_bind (aaB R l.1 l.mem ∅ ∅ λn a F q kp up=>?_);dsimp only;have g:SI κ a₀ r (setArr b a) lo:=⟨l.1,kp.1.trans l.2.1,l.2.2.1,l.2.2.2.congr λk _ d=>kp.2 k ∅⟩;have m:Up (fv r (arrOf (setArr b a)) lo) n:=up;generalize setArr b a=f at g m ⊢;refine UO (α:=SortSt) (β:=Nat) (C:=λst n=>SI κ a₀ r st lo/\0<n/\lo+n<=a₀.size/\Up (fv r (arrOf st) lo) n) (λK=>by
   by_cases D:n<mr
   ·rw[ee D]
    refine wpS_bind (wpS_lift (wpAny_rule ⟨rfl,?_⟩));have hz2:(arrOf f).size=a₀.size:=g.2.1.size_eq;obtain⟨O,X⟩:∃O,O=min (a₀.size-lo) mr:=⟨_,rfl⟩;rw[<- X];refine wpS_bind (adh R g.1 g.mem ∅ ∅ m λa LP p=>?_);rw[er (-_)];have j:SI κ a₀ r (setArr f a) lo:=⟨g.1,LP.1.trans g.2.1,g.2.2.1,g.2.2.2.congr λk _ d=>LP.2 k ∅⟩;have G:Up (fv r (arrOf (setArr f a)) lo) O:=p;generalize setArr f a=e at j G ⊢;exact K e O ⟨j,∅,∅,G⟩
   ·rw[er D]
    obtain⟨Y,hn⟩:∃Y,Y=n:=⟨_,rfl⟩;rw[<- hn];exact K f Y ⟨g,∅,∅,hn▸m⟩) ?_
  rintro f n ⟨g,F,q,m⟩;refine wpS_bind (wpS_get ?_);have J:∀e,SI κ a₀ r e lo->Up (fv r (arrOf e) lo) n->SI κ a₀ r (setPending e ((pendingOf e).push (lo,n,0))) (lo+n):=λe j p=>⟨j.1,j.2.1,j.2.2.1,by
   show Ch r (arrOf e) 0 ((pendingOf e).push (lo,n,0)).toList (lo+n);rw[uM];exact j.2.2.2.join ⟨rfl,F,p,rfl⟩⟩
  cases hb:(pendingOf f).back? with
  |none =>
   exact wpS_bind (wpS_modify (wpS_pure ⟨_,rfl,J f g m,q,∅⟩))
  |some t =>
   obtain⟨P,B,p1⟩:=t;dsimp only;generalize (sortPriv% PySem.Builtin.power) a₀.size (2*P+B) (2*P+B+B+n) a₀.size=pw;refine wpS_bind (wpS_mono (wpS_forRange (I:=λ_ c b=>c=(none,())/\SI κ a₀ r b lo/\Up (fv r (arrOf b) lo) n) (Q:=λc b=>c=(none,())/\SI κ a₀ r b lo/\Up (fv r (arrOf b) lo) n) ?_ (λc b z=>z) ⟨rfl,g,m⟩) ?_)
   ·rintro y c e _ _ ⟨rfl,j,p⟩
    refine wpS_bind (wpS_get ?_);by_cases v:(pendingOf e).size > 1
    ·rw[ee v]
     obtain⟨⟨f1,f2,u⟩,S⟩:∃x,(pendingOf e)[(pendingOf e).size-2]?=some x:=⟨_,getElem?_pos (pendingOf e) _ ∅⟩;rw[show (pendingOf e)[(pendingOf e).size-2]?=_ from S];dsimp only;by_cases ho:u<=pw
     ·rw[ee ho]
      exact wpS_pure ⟨rfl,j,p⟩
     rw[er ho];refine wpS_bind (UT R j ∅ (by show (pendingOf e).size-2+1<(pendingOf e).size;lia) λL8 hI4 _ ke=>?_);rw[er (-_)];exact wpS_pure ⟨rfl,hI4,p.eq λi _=>by unfold fv;rw[ke _ ∅]⟩
    ·rw[er v]
     exact wpS_pure ⟨rfl,j,p⟩
   ·rintro c e ⟨rfl,j,p⟩
    dsimp only;refine wpS_bind (wpS_modify (wpS_bind (wpS_modify (wpS_pure ⟨_,rfl,J (setPending e ((pendingOf e).modify ((pendingOf e).size-1) λx=>(x.fst,x.2.fst,pw))) ⟨j.1,j.2.1,j.2.2.1,j.2.2.2.pw ?_⟩ p,q,∅⟩))));show _=((pendingOf e).modify ((pendingOf e).size-1) λx=>(x.fst,x.2.fst,pw)).toList.map _;rw[<- Array.toList_map,<- Array.toList_map];congr 1;apply Array.ext
    ·simp
    ·intro i h1 h2
     simp[Array.getElem_modify];split <;> simp
 ·rintro c b ⟨lo,rfl,l,V,M⟩
  rw[show max 0 a₀.size=a₀.size by lia] at M
  have:lo=a₀.size:=∅
  subst this;exact⟨rfl,l⟩
 rintro c b ⟨rfl,l⟩;dsimp only;have l0:=Ch.len l.2.2.2;rw[aR] at l0;refine wpS_bind (wpS_mono (wpS_forRange (I:=λx c b=>c=(none,())/\SI κ a₀ r b a₀.size/\(pendingOf b).size+x<=a₀.size) (Q:=λc b=>c=(none,())/\SI κ a₀ r b a₀.size/\(pendingOf b).size<=1) ?_ ?_ ⟨rfl,l,∅⟩) ?_)
 ·rintro x c f _ S ⟨rfl,g,W⟩
  refine wpS_bind (wpS_get ?_);by_cases v:(pendingOf f).size<=1
  ·rw[ee v]
   exact wpS_pure ⟨rfl,g,v⟩
  rw[er v];refine wpS_bind (UT R g (ay _) ?_ λe j Sa _=>?_)
  ·have Z:∀(c:Prop) [Decidable c],(if c then (pendingOf f).size-2-1 else (pendingOf f).size-2)+1<(pendingOf f).size:=λc _=>by split <;> lia
   exact Z _
  ·rw[er (-_)]
   exact wpS_pure ⟨rfl,j,∅⟩
 ·rintro c f ⟨rfl,g,W⟩
  exact⟨rfl,g,∅⟩
 rintro c f ⟨rfl,g,T⟩;refine wpS_pure (h f g.2.1 g.2.2.1 ?_);have o:=g.2.2.2;have N:(pendingOf f).toList.length<=1:=by rw[aR];exact T
 generalize (pendingOf f).toList=L at o N
 match L,o,N with
 |[],o,_=>have:0=a₀.size:=o;lia
 |[(P,B,p1)],⟨q1,q2,q3,U⟩,_ =>
  have U:P+B=a₀.size:=U;subst q1;rw[<- U,Nat.zero_add];exact q3
 |_::_::_,_,N=>simp at N
end
theorem KU{n:Nat}(h:n<=100000):n<sizeLine:=cJ h (!_)
section
variable{prog:Program}{w:World}{A:Around}{E:Value->Shared->Prop}{s:Shared}{κ:SortKind}{r:Keyed->Int}
def Keeps(h h':Heap)(d:Addr):Prop:=∀b o,b≠d->h.get? b=some o->h'.get? b=some o
theorem UU{d:Addr}{vs:List Value}{c:Nat}{P:PySem.Fin->Shared->Prop}(f:s.heap.get? d=some (seqObj "list" vs.toArray c))(B:2<=vs.length)(C:vs.length<=sizeLine)
 (q:∀h',Keeps s.heap h' d->∀Q:SortKind->Shared->Prop,Q κ {s with heap:=h'}->wpAny (model prog w) A (keyKind' vs.toArray) Q E {s with heap:=h'})
 (v:∀h',Keeps s.heap h' d->R8 prog w A {s with heap:=h'} κ (pairsOf vs) r)
 (k:∀out:Array Keyed,out.Perm (pairsOf vs)->Up (fv r out 0) vs.length->P (.done (.ret .none)) {s with heap:=sortedHeap s.heap d vs (out.map (·.2))}) :
 wpAny (model prog w) A (Builtin.«list.sort» ⟨[.ref d],[]⟩) P E s:=by
 have y:d<s.heap.objs.size:=Heap.lt_size f;rw[list_sort_plain];refine wpAny_bind (listItems_at f rfl (wpAny_bind (listUpdate_at f rfl ?_)));obtain⟨g,h⟩:∃g,(s.heap.update d (Obj.mapSeq λ_=>#[])).get? d=some (seqObj "list" #[] g):=⟨_,get?_update_seq f (λ_=>#[])⟩;refine wpAny_bind (seqEpoch_at h rfl (wpAny_bind (wpAny_newTuple (wpAny_bind (wpAny_newList (wpAny_holding ?_))))));have i:(((s.heap.update d (Obj.mapSeq λ_=>#[])).push (seqObj "tuple" vs.toArray 0)).push (seqObj "list" #[] 0)).get? d=some (seqObj "list" #[] g) :=
  Heap.get?_push_of_some _ (Heap.get?_push_of_some _ h)
 have n:Keeps s.heap (((s.heap.update d (Obj.mapSeq λ_=>#[])).push (seqObj "tuple" vs.toArray 0)).push (seqObj "list" #[] 0)) d:=λb o z e =>
  Heap.get?_push_of_some _ (Heap.get?_push_of_some _ (Heap.get?_update_of_ne _ (bK z) e))
 show wpAny (model prog w) A _ P E {s with heap:=((s.heap.update d (Obj.mapSeq λ_=>#[])).push (seqObj "tuple" vs.toArray 0)).push (seqObj "list" #[] 0)};dsimp only;have l:¬vs.toArray.size<2:=by simp;lia
 rw[er l,er l];refine wpAny_bind (q _ n _ ?_);refine wpAny_bind (wpAny_mono (adi (a₀:=pairsOf vs) (κ:=κ) (r:=r) (st:=SortSt.mk' κ (vs.toArray.zip vs.toArray) #[] 7 none) (Q:=λ_ a=>(arrOf a).Perm (pairsOf vs)/\failedOf a=none/\Up (fv r (arrOf a) 0) (pairsOf vs).size) (v _ n) ⟨rfl,Array.Perm.refl _,rfl,rfl⟩ (by rw[pairsOf_size];lia) λa u t p=>⟨u,t,p⟩) ?_ λ_ _ e=>e);rintro⟨⟨⟩,a⟩ D ⟨rfl,m,x,j⟩;dsimp only;refine wpAny_bind (seqEpoch_at i rfl ?_);refine wpAny_bind (listUpdate_at i rfl ?_ (hsz2:=by refine aN (Nat.le_of_eq ((Array.size_map ..).trans (m.size_eq.trans (pairsOf_size _)))) ?_;lia));rw[x];simp only[bne_self_eq_false,mq,if_false];rw[pairsOf_size] at j;exact wpAny_pure (k _ m j)
theorem OV{l:Addr}{vs:List Value}{Q:Value->Shared->Prop}(hl:s.heap.IsList l vs.toArray)(j:2<=vs.length)(d:vs.length<=sizeLine)
 (i:∀(A:Around) (E:Value->Shared->Prop) h',(∀b o,s.heap.get? b=some o->h'.get? b=some o)->∀Q:SortKind->Shared->Prop,Q κ {s with heap:=h'}->wpAny (model prog w) A (keyKind' vs.toArray) Q E {s with heap:=h'})
 (n:∀(A:Around) h',(∀b o,s.heap.get? b=some o->h'.get? b=some o)->R8 prog w A {s with heap:=h'} κ (pairsOf vs) r)
 (k:∀out:Array Keyed,out.Perm (pairsOf vs)->Up (fv r out 0) vs.length->Q (.ref (s.heap.objs.size+1)) {s with heap:=sortedAll s.heap vs (out.map (·.2))}):wpAny (model prog w) A (call (.builtin "sorted") [.ref l]) Q E s:=by
 refine Calls.call_function_entry kind_sorted plain_sorted entry_sorted (args_sorted1 _) ?_;unfold Builtin.«sorted»;refine wpAny_bind (m:=checkCount "sorted" 1 1 _) (wpAny_pure (wpAny_bind (collect_list hl (hsz:=d) (wpAny_bind (wpAny_newList ?_)))));have c:((s.heap.push (seqObj "list" #[] 0)).update s.heap.objs.size (Obj.mapSeq (·++vs.toArray))).objs.size=s.heap.objs.size+1:=(Heap.size_update _ _ _).trans (size_push' _ _);have f:(((s.heap.push (seqObj "list" #[] 0)).update s.heap.objs.size (Obj.mapSeq (·++vs.toArray))).push (seqObj "list" vs.toArray 0)).get? (s.heap.objs.size+1)=some (seqObj "list" vs.toArray 0):=c▸Heap.get?_push_size _ rfl;have g:∀{h'},Keeps (((s.heap.push (seqObj "list" #[] 0)).update s.heap.objs.size (Obj.mapSeq (·++vs.toArray))).push (seqObj "list" vs.toArray 0)) h' (s.heap.objs.size+1)->∀b o,s.heap.get? b=some o->h'.get? b=some o:=λ{h'} K b o e=>by
  have h:b<s.heap.objs.size:=Heap.lt_size e;exact K b o (bE (Nat.lt_succ_of_lt h)) (Heap.get?_push_of_some _ (Heap.get?_update_of_ne _ (Nat.ne_of_gt h) (Heap.get?_push_of_some _ e)))
 show wpAny _ _ _ _ _ {s with heap:=((s.heap.push (seqObj "list" #[] 0)).update s.heap.objs.size (Obj.mapSeq (·++vs.toArray))).push (seqObj "list" vs.toArray 0)};rw[c];exact wpAny_bind (wpAny_holding (wpAny_call_entry slot_list_sort ⟨_,f,rfl⟩ entry_list_sort (UU (κ:=κ) (r:=r) f j d (λh' K=>i _ _ h' (g K)) (λh' K=>n _ h' (g K)) λout a b=>⟨_,rfl,wpAny_pure ⟨_,rfl,k out a b⟩⟩) (args_list_sort _)))
end
section
variable{X:Cx}
def UW(K:af):List V->Hp->VK->Prop:=λxs H Q=>∃(a:Addr) (qs:List Addr) (ts:List T3),xs=[.ref a]/\bP K H a (qs.map V.ref)/\fT K H qs ts/\ts.length<2000 /\
 ∀l (A3:List Addr) (ts':List T3),H l=none->ts'.Perm ts->AG ts'->fT K H A3 ts'->Q (.ref l) (upd H l (.lst (A3.map V.ref)))
noncomputable def zl(h:Heap)(v:Value):T3:=by
 classical exact if e:∃x,NO h v x then e.choose else (0,0,0)
theorem NO.uniq{h:Heap}{v:Value}{x y:T3}(a:NO h v x)(b:NO h v y):x=y:=by
 obtain⟨q,o,n,k,t,l,rfl,d,m,g⟩:=a;obtain⟨j,w,i,u,r,p,e,c,s,f⟩:=b;cases e;rw[d] at c;cases c
 have:=g.symm.trans f
 simp only[Data.seq.injEq,Array.mk.injEq,List.cons.injEq,Value.int.injEq] at this;exact Prod.ext this.1.1.1 (Prod.ext this.1.2.1.1 this.1.2.2.1.1)
theorem CN{h:Heap}{v:Value}{x:T3}(a:NO h v x):zl h v=x:=by
 have e:∃x,NO h v x:=⟨x,a⟩;unfold zl;rw[dif_pos e];exact e.choose_spec.uniq a
theorem NO.keep{h h':Heap}{v:Value}{x:T3}(k:∀b o,h.get? b=some o->h'.get? b=some o)(a:NO h v x):NO h' v x:=by
 obtain⟨q,o,n,d,e,f,rfl,c,i,g⟩:=a;exact⟨q,o,n,d,e,f,rfl,k _ _ c,i,g⟩
theorem CO:nX X (.builtin "sorted") (UW X.K):=by
 intro J s σ H xs us Q I r ⟨a,g,ts,e,hq,W,hB,q⟩;subst e;obtain⟨u,e,ru⟩:=bZ.one r;subst e;cases ru;obtain⟨its,rv,p,hz⟩:=I.list hq;have agR:=Qj rv;subst agR;have B:=W.1;by_cases h0:ts.length=0
 ·have m:g=[]:=iw.mp ∅
  subst m;have A:ts=[]:=iw.mp h0;subst A;refine EV J s σ H [V.ref a] [Value.ref a] Q I (.cons rfl .nil) ⟨a,[],rfl,hq,!_,λl ns' hl O _=>?_⟩
  have:ns'=[]:=List.Perm.eq_nil O
  subst this;exact q l [] [] hl (List.Perm.refl _) (λi j x y _ h=>by simp at h) ⟨rfl,λi q t h=>by simp at h⟩
 by_cases U:ts.length=1
 ·obtain⟨c,m⟩:∃c,g=[c]:=List.length_eq_one_iff.mp ∅
  subst m;refine OJ (v:=.ref c) p.isList ?_;obtain⟨e,he⟩:=sortedAll_at s.heap [.ref c] #[.ref c];refine⟨.ref (s.heap.objs.size+1),_,I.laid (a:=s.heap.objs.size+1) (o:=.lst [.ref c]) (t':=s.toks) (λb o e=>sortedAll_old e) (cV _) ⟨?_,[.ref c],e,.cons rfl .nil,he⟩,rfl,q _ [c] ts (I.hok.fresh (cV _)) (List.Perm.refl _) (λi j x y Z zk h2'=>?_) W⟩
  ·show 1<=sizeLine
   decide
  ·have:=(ai.mp h2').1
   lia
 have mk:∀{c:Addr} {x:T3},cP X.K H c (D0 x)->NO s.heap (.ref c) x:=λ{c x} Y=>by
  obtain⟨jt,rj,tp,_⟩:=I.tuple Y;obtain⟨o,ho,hc,n,hd⟩:=tp;cases rj with
  |cons x1 r1=>cases r1 with
   |cons x2 r2=>cases r2 with
    |cons x3 r3 =>
     cases r3;obtain⟨t1,rfl⟩:=x1;obtain⟨t2,rfl⟩:=x2;obtain⟨t3,rfl⟩:=x3;exact⟨c,o,n,t1,t2,t3,rfl,ho,hc,hd⟩
 have M:∀c∈g,∃x∈ts,NO s.heap (.ref c) x/\cP X.K H c (D0 x):=λc Xc=>by
  obtain⟨i,hi,e⟩:=List.mem_iff_getElem.mp Xc;have Y:=W.2 i c (ts[i]'∅) (by rw[aa hi,e]) (aa _);exact⟨ts[i],aQ _,mk Y,Y⟩
 have R:∀{h':Heap},(∀b o,s.heap.get? b=some o->h'.get? b=some o)->∀(i:Nat) v x,(g.map Value.ref)[i]?=some v->ts[i]?=some x->NO h' v x:=λ{h'} F i v x m A=>by
  rw[aj] at m;cases N:g[i]? with
  |none=>rw[N] at m;cases m
  |some c =>
   rw[N] at m;cases m;exact (mk (W.2 i c x N A)).keep F
 refine OV (κ:=tuples' true) (r:=λx=>EY ts (zl s.heap x.1)) (vs:=g.map Value.ref) p.isList (by rw[ah];lia) (by rw[ah];exact kg (KU ∅)) (λA' E' h' F Q' k=>?_) (λA' h' F x y G hy E' C k=>?_) λout O hu=>?_
 ·obtain⟨fs,kt,fl,fi⟩:=GN (h:=h') (vs:=g.map Value.ref) (ts:=ts) (by rw[ah];exact B) (R F)
  refine kat_kind (s:={s with heap:=h'}) (T:=.type "int") kt (by rw[fl,ah];lia) (λf hf=>?_) rfl ?_
  ·obtain⟨i,t,rfl⟩:=fi f hf
   exact Looks.of_pure rfl
  have agS:(Value.type "int" != Value.type "tuple")=true:=!_
  rw[agS];exact k
 ·have S:∀x∈pairsOf (g.map Value.ref),∃z∈ts,NO s.heap x.1 z:=λx G=>by
   have:=gZ.mpr G
   rw[pairsOf_toList] at this;obtain⟨c,Xc,e⟩:=aL.mp (mem_zip_self this).2;obtain⟨z,hz,tz,_⟩:=M c Xc;exact⟨z,hz,e▸tz⟩
  obtain⟨zx,mx,tx⟩:=S x G;obtain⟨zy,my,ty⟩:=S y hy;refine aap (tx.keep F) (ty.keep F) ?_;have k:C (decide (EY ts (zl s.heap x.1)<EY ts (zl s.heap y.1))) {s with heap:=h'}:=k;rw[CN tx,CN ty,Mn mx] at k;exact k
 ·obtain⟨e,he⟩:=sortedAll_at s.heap (g.map Value.ref) (out.map (·.2))
  have E:(out.toList.map (·.2)).Perm (g.map Value.ref):=by
   have:=(Array.perm_iff_toList_perm.mp O).map (·.2)
   rw[pairsOf_toList] at this;refine this.trans (List.Perm.of_eq ?_);exact List.map_snd_zip (ay _)
  have hfs:∀x∈out.toList,x.1=x.2/\x.1∈g.map Value.ref:=λx G=>by
   have:=(Array.perm_iff_toList_perm.mp O).mem_iff.mp G
   rw[pairsOf_toList] at this;exact mem_zip_self this
  obtain⟨d,D⟩:∃d:List Addr,out.toList.map (·.2)=d.map Value.ref:=by
   have:∀l:List Value,(∀v∈l,∃q,v=Value.ref q)->∃d:List Addr,l=d.map Value.ref:=λl=>by
    induction l with
    |nil=>exact λ_=>⟨[],rfl⟩
    |cons v l ih =>
     intro h;obtain⟨d,e⟩:=ih λv hv=>h v (.tail _ hv);obtain⟨q,rfl⟩:=h v (.head _);exact⟨q::d,by rw[e];rfl⟩
   refine this _ λv hv=>?_;obtain⟨q,_,e⟩:=aL.mp (E.mem_iff.mp hv);exact⟨q,e.symm⟩
  have eo:(out.map (·.2)).toList=d.map Value.ref:=by rw[Array.toList_map];exact D
  have w:d.Perm g:=by
   rw[D] at E
   have:=E.map λv=>match v with|Value.ref q=>q|_=>0
   rw[dw,dw] at this;exact List.map_id g▸List.map_id d▸this
  have P:ts=g.map λq=>zl s.heap (.ref q):=by
   apply List.ext_getElem
   ·rw[ah];exact B.symm
   ·intro i U h2
    rw[List.getElem_map];exact (CN (R (h':=s.heap) (λ_ _ e=>e) i _ _ (by rw[aj,aa ∅];rfl) (aa U))).symm
  refine⟨.ref (s.heap.objs.size+1),_,I.laid (a:=s.heap.objs.size+1) (o:=.lst (d.map V.ref)) (t':=s.toks) (λb o e=>sortedAll_old e) (cV _) ⟨?_,(out.map (·.2)).toList,e,eo▸DN d,he⟩,rfl,q _ d (d.map λq=>zl s.heap (.ref q)) (I.hok.fresh (cV _)) ?_ (λi j x y Z m A=>?_) ⟨by rw[ah],λi c t0 m A=>?_⟩⟩
  ·rw[ah,w.length_eq]
   exact kg (KU ∅)
  ·rw[P]
   exact w.map _
  ·have hlo:out.size=g.length:=by
    have:=O.size_eq
    rw[pairsOf_size,ah] at this;exact this
   have hql:d.length=g.length:=w.length_eq;have hj:j<d.length:=by
    have:=(ai.mp A).1
    rwa [ah] at this
   have L:∀(p:Nat) (z:T3),p<d.length->(d.map λq=>zl s.heap (.ref q))[p]?=some z->z∈ts/\fv (λx=>EY ts (zl s.heap x.1)) out 0 p=EY ts z:=λp z Wu e=>by
    rw[aj,aa Wu] at e;have ez:zl s.heap (.ref d[p])=z:=aK e;have Iu:0+p<out.size:=∅
    rw[n9 Iu];have U:(out[0+p]).1=.ref d[p]:=by
     have hm:out[0+p]∈out.toList:=-_
     rw[(hfs _ hm).1]
     have:(out.toList.map (·.2))[p]'(by rw[ah,aR];lia)=(d.map Value.ref)[p]'(by rw[ah];exact Wu):=by simp only[D]
     rw[List.getElem_map,List.getElem_map,Array.getElem_toList] at this
     simpa using this
    refine⟨?_,by rw[U,ez]⟩;rw[<- ez,P];exact aL.mpr ⟨_,w.mem_iff.mp (aQ Wu),rfl⟩
   obtain⟨m1,v1⟩:=L i x ∅ m;obtain⟨m2,v2⟩:=L j y hj A
   have:=hu i j ∅ (by rw[ah];lia)
   rw[v1,v2] at this;rw[<- Mn (ts:=ts) m2];exact fy ∅
  ·have hi:=(ai.mp m).1
   rw[aj,m] at A;have N:zl s.heap (.ref c)=t0:=aK A;obtain⟨z,_,tz,sz⟩:=M c (w.mem_iff.mp (aM m));rw[<- N,CN tz];exact sz
end
end L2
namespace L2
open PySem PySem.W PySem.Spec PySem.Calls PyProof.Rows
section
variable{prog:Program}{w:World}{A:Around}{d:Addr}{es:Array DictEntry}{ep:Nat}
def OW(h:Heap)(d:Addr)(es:Array DictEntry)(ep:Nat):Prop:=∃o,h.get? d=some o/\o.ExactDict/\o.data=.dict es ep
theorem OW.at'{h h':Heap}(x:OW h d es ep)(e:∀o,h.get? d=some o->h'.get? d=some o):OW h' d es ep:=by
 obtain⟨o,a,r⟩:=x;exact⟨o,e o a,r⟩
theorem OW.lt{h:Heap}(x:OW h d es ep):d<h.objs.size:=by
 obtain⟨o,a,_⟩:=x;exact Heap.lt_size a
theorem OX(t:A.handled=none)(I:Addr)(j:d≠I):Walks prog w A I [I,d] [I] es.size (λi v=>∃r,es[i]?=some r/\r.key=v) (λi h=>h.IsKeyIter I d i es.size ep/\OW h d es ep) where
 sub:=λb a=>by simp at a;simp[a]
 frame:=λ_ _ _ st q=>⟨st.1.at λo e=>q I (-_) o e,st.2.at' λo e=>q d (-_) o e⟩
 item:=λi s Q E p st c=>by
  obtain⟨o,g,_,m⟩:=id st.2;refine RZ st.1 g m (pQ p) λk l f=>?_;exact c _ k s.toks ⟨_,pQ p,rfl⟩ ⟨l,st.2.at' λo e=>f.extBut d o j e⟩ λb o a e=>f.extBut b o (λh=>a (by simp[h])) e
 done:=λs Q E st c=>by
  obtain⟨o,g,_,m⟩:=id st.2;exact UC t st.1 g m (ay _) λk n=>c k s.toks λb o a e=>n b o (λh=>a (by simp[h])) e
 self:=λ_ _ _ _ st c=>wpAny_pyIter_keyiter st.1 c
theorem UX(lo:(d==sysModules)=false):KdlSrc prog w "dict" d d es.size (λi v=>∃f,es[i]?=some f/\f.key=v) (λh=>OW h d es ep) where
 type:=λ_ hm=>by
  obtain⟨o,a,b,_⟩:=hm;exact⟨o,a,b.1⟩
 there:=λ_ hm=>⟨hm.lt,hm.lt⟩
 keep:=λ_ _ hm j=>hm.at' λo e=>j d (.inl rfl) o e
 notList:=!_
 notTuple:=!_
 hint:=λ_ _ _ _ hm c=>kdl_hint_dict (by obtain⟨o,a,b,_⟩:=hm;exact⟨o,a,b.1⟩) c
 iter:=λ_ s g hm=>⟨{cls:=.type "dict_keyiterator",data:=.fields #[.ref d,.int 0 0,.int es.size 0,.int ep 0]},_,(λ_ _ c=>by
  obtain⟨o,a,b,k⟩:=hm;exact RY lo a b k c),OX g _ (bE hm.lt),⟨⟨_,Heap.get?_push_size _ rfl,rfl,rfl⟩,hm.at' λo e=>Heap.get?_push_of_some _ e⟩⟩
end
section
variable{X:Cx}
def aaD:List V->Hp->VK->Prop:=λxs H Q=>∃(a:Addr) (kvs:List (List Key×V)),xs=[.ref a]/\H a=some (.dT kvs)/\∀l (qs:List Addr),H l=none->qs.length=kvs.length->(∀(i:Nat) q k v,qs[i]?=some q->kvs[i]?=some (k,v)->H q=some (.tup (k.map kV)))->Q (.ref l) (upd H l (.lst (qs.map V.ref)))
theorem OY(E:X.calm=true):nX X (.type "list") aaD:=by
 intro A s σ H Y T Q I r ⟨a,m,e,O,q⟩;subst e;obtain⟨u,e,N⟩:=bZ.one r;subst e;cases N;obtain⟨z,lo,j,d,o,D,U,P,L,F,B,_⟩:=YA I.hok O;have M:D.size=m.length:=by
  have:=gU List.length B
  rw[ah,<- Paired.length d] at this
  simpa using this
 refine kdl_call (UX lo) (I.ok.hd E) ⟨o,P,L,F⟩ (by rw[M];exact z) λZ K b c R J n=>?_;obtain⟨G,x⟩:=n;have h:j.length=m.length:=(Paired.length d).symm;have l:b.toList=(j.map λy=>y.2.1).map Value.ref:=by
  refine List.ext_getElem? λi=>?_;by_cases n:i<b.size
  ·obtain⟨en,g,t⟩:=x i b[i] (pQ n)
   have f:i<j.length:=∅
   rw[<- dR,B,aj,aa f] at g;cases g;rw[dR,pQ n,aj,aj,aa f,<- t];rfl
  ·rw[fF (by rw[aR];lia),fF (by rw[ah,ah];lia)]
 refine⟨.ref s.heap.objs.size,_,I.laid (a:=s.heap.objs.size) (o:=.lst ((j.map λy=>y.2.1).map V.ref)) (t':=K) R (ay _) ⟨?_,b.toList,c,(by rw[l];exact DN _),by simpa using J⟩,rfl,q _ (j.map λy=>y.2.1) (I.hok.fresh (ay _)) (by rw[ah];exact h) λi p k v g t=>?_⟩
 ·rw[ah,ah,h]
  exact z
 ·obtain⟨⟨W,kb,u⟩,C,S,w,YJ⟩:=BD d t
  rw[aj,C] at g;cases g;exact w
end
end L2
namespace fc
open PySem L2
noncomputable def top (i:Nat):Stmt:=PySem.Challenge.pw_knotless_k31_letters_to_one_and_notes.main.body.getD i (.Pass ⟨0,0,0,0⟩)
noncomputable abbrev uO:Stmt:=(inClass (top 2) 0)
noncomputable abbrev w9:Stmt:=(inClass (top 2) 1)
noncomputable abbrev xg:Stmt:=(inClass (top 2) 2)
noncomputable abbrev xh:Stmt:=(inClass (top 2) 3)
noncomputable abbrev uP:Stmt:=(inClass (top 2) 4)
noncomputable abbrev DR:Stmt:=(top 4)
noncomputable abbrev BF:Stmt:=(top 5)
noncomputable abbrev qq:Stmt:=(inClass (top 17) 0)
noncomputable abbrev sD:Stmt:=(inClass (top 17) 1)
noncomputable abbrev sE:Stmt:=(inClass (top 17) 2)
noncomputable abbrev qt:Stmt:=(inClass (top 17) 3)
noncomputable abbrev sF:Stmt:=(inClass (top 18) 0)
noncomputable abbrev uQ:Stmt:=(inClass (top 18) 1)
noncomputable abbrev uR:Stmt:=(inClass (top 18) 2)
noncomputable abbrev sG:Stmt:=(inClass (top 18) 3)
noncomputable abbrev uS:Stmt:=(inClass (top 19) 0)
noncomputable abbrev DS:Stmt:=(top 21)
noncomputable abbrev KW:Stmt:=(top 22)
noncomputable abbrev UY:Stmt:=(top 23)
noncomputable abbrev UZ:Stmt:=(top 25)
noncomputable abbrev KY:Stmt:=(top 26)
noncomputable abbrev DT:Stmt:=(top 28)
noncomputable abbrev KZ:Stmt:=(top 29)
noncomputable abbrev uT:Stmt:=(inClass (top 36) 0)
noncomputable abbrev zm:Stmt:=(inClass (top 36) 1)
noncomputable abbrev zo:Stmt:=(inClass (top 36) 2)
noncomputable abbrev qu:Stmt:=(inClass (top 36) 3)
noncomputable abbrev sH:Stmt:=(inClass (top 36) 4)
noncomputable abbrev zp:Stmt:=(inClass (top 36) 5)
noncomputable abbrev uU:Stmt:=(top 37)
noncomputable abbrev uV:Stmt:=(top 38)
noncomputable abbrev xj:Stmt:=(top 39)
noncomputable abbrev zq:Stmt:=(top 40)
noncomputable abbrev ow:Stmt:=(inClass (top 42) 0)
noncomputable abbrev lQ:Stmt:=(inClass (top 42) 3)
noncomputable abbrev lR:Stmt:=(inClass (top 42) 4)
noncomputable abbrev sI:Stmt:=(inClass (top 42) 5)
noncomputable abbrev BG:Stmt:=(top 43)
noncomputable abbrev uW:Stmt:=(top 44)
noncomputable abbrev qv:Stmt:=(inClass (top 47) 0)
noncomputable abbrev xm:Stmt:=(inClass (top 48) 0)
noncomputable abbrev BH:Stmt:=(inClass (top 48) 1)
noncomputable abbrev BI:Stmt:=(inClass (top 48) 2)
noncomputable abbrev zu:Stmt:=(inClass (top 48) 3)
noncomputable abbrev zw:Stmt:=(inClass (top 48) 4)
noncomputable abbrev xo:Stmt:=(inClass (top 48) 6)
noncomputable abbrev BJ:Stmt:=(inClass (top 48) 7)
noncomputable abbrev iR:Stmt:=(inClass (top 48) 13)
noncomputable abbrev xq:Stmt:=(inClass (top 48) 14)
noncomputable abbrev fM:Stmt:=(inClass (top 48) 15)
noncomputable abbrev zz:Stmt:=(inClass (top 48) 16)
noncomputable abbrev uX:Stmt:=(inClass (top 48) 17)
noncomputable abbrev qw:Stmt:=(inClass (top 48) 18)
noncomputable abbrev oz:Stmt:=(inClass (top 48) 19)
noncomputable abbrev BK:Stmt:=(inClass (top 48) 20)
noncomputable abbrev qy:Stmt:=(inClass (top 48) 22)
noncomputable abbrev mX:Stmt:=(inClass (top 48) 24)
noncomputable abbrev lT:Stmt:=(inClass (top 48) 25)
noncomputable abbrev oA:Stmt:=(inClass (top 48) 26)
noncomputable abbrev xr:Stmt:=(top 49)
noncomputable abbrev qz:Stmt:=(top 50)
noncomputable abbrev zA:Stmt:=(top 52)
noncomputable abbrev DU:Stmt:=(top 53)
noncomputable abbrev DV:Stmt:=(top 54)
noncomputable abbrev DW:Stmt:=(top 55)
noncomputable abbrev zB:Stmt:=(top 56)
noncomputable abbrev BL:Stmt:=(top 57)
noncomputable abbrev sJ:Stmt:=(top 58)
noncomputable abbrev GW:Stmt:=(top 59)
noncomputable abbrev K0:Stmt:=(top 60)
noncomputable abbrev U0:Stmt:=(top 61)
theorem GX:aJ ["self"] ["self"] (aC uO):=jL
theorem IB:aJ ["self","house","caller","rope"] ["self","house","caller","rope"] (aC w9):=jL
theorem IC:aJ ["self","house","caller"] ["self","house","caller"] (aC xg):=jL
theorem A4:aJ ["self"] ["self"] (aC xh):=jL
theorem vQ:(["noted","rope"]:List Str).Nodup:=by decide +kernel
theorem GY:aJ ["self"] ["self"] (aC uP):=jL
theorem BN:aJ ["book","letter","house","came","open_here","here","handed"] ["book","letter","house","came","open_here","here"] (aC DR):=jL
theorem ID:(["caller","letter"]:List Str).Nodup:=by decide +kernel
theorem uh:aJ ["book","sought","house","came","open_here","here","noted","leading"] ["book","sought","house","came","open_here","here"] (aC BF):=jL
theorem GZ:(["rope","came"]:List Str).Nodup:=by decide +kernel
theorem DX:aJ ["self","sender"] ["self","sender"] (aC qq):=jL
theorem FJ:aJ ["self","caller"] ["self","caller"] (aC sD):=jL
theorem FL:aJ ["self"] ["self"] (aC sE):=jL
theorem DY:aJ ["self"] ["self"] (aC qt):=jL
theorem FN:aJ ["self","sender","to"] ["self","sender","to"] (aC sF):=jL
theorem G0:aJ ["self","caller"] ["self","caller"] (aC uQ):=jL
theorem G1:aJ ["self"] ["self"] (aC uR):=jL
theorem FO:aJ ["self"] ["self"] (aC sG):=jL
theorem G2:aJ ["self","caller"] ["self","caller"] (aC uS):=jL
theorem OZ:aJ ["town","house"] ["town","house"] (aC DS):=jL
theorem Mx:aJ ["town","row","rope","hops"] ["town","row","rope"] (aC KW):=jL
theorem G3:aJ ["town","live","rows","house","least","rope","made"] ["town","live","rows","house"] (aC UY):=jL
theorem U1:aJ ["town","live","rows"] ["town","live","rows"] (aC UZ):=jL
theorem Sb:(["house","live","rows","town"]:List Str).Nodup:=by decide +kernel
theorem My:aJ ["town","live","rows"] ["town","live","rows"] (aC KY):=jL
theorem Mz:(["up"]:List Str).Nodup:=by decide +kernel
theorem BO:aJ ["town","live","rows","house","joined"] ["town","live","rows","house"] (aC DT):=jL
theorem IE:(["rope","joined"]:List Str).Nodup:=by decide +kernel
theorem G4:aJ ["town","live","rows","house","rope","other"] ["town","live","rows","house"] (aC KZ):=jL
theorem G5:aJ ["self","names","ropes"] ["self","names","ropes"] (aC uT):=jL
theorem K1:aJ ["self","house"] ["self","house"] (aC zm):=jL
theorem K2:aJ ["self","number"] ["self","number"] (aC zo):=jL
theorem vR:aJ ["self","house"] ["self","house"] (aC qu):=jL
theorem qY:(["number","rope","house"]:List Str).Nodup:=by decide +kernel
theorem yp:aJ ["self","rope","house","ends"] ["self","rope","house"] (aC sH):=jL
theorem K3:aJ ["self","rope","group"] ["self","rope","group"] (aC zp):=jL
theorem G6:aJ ["names"] ["names"] (aC uU):=jL
theorem zC:aJ ["size","ropes","rope"] ["size","ropes"] (aC uV):=jL
theorem IF:aJ ["size","rope"] ["size","rope"] (aC xj):=jL
theorem K4:aJ ["size","one","other"] ["size","one","other"] (aC zq):=jL
theorem um:aJ ["self","town"] ["self","town"] (aC ow):=jL
theorem zD:(["rope","town"]:List Str).Nodup:=by decide +kernel
theorem AX:aJ ["self","rope"] ["self","rope"] (aC lQ):=jL
theorem qZ:aJ ["self","rope","number","stand"] ["self","rope","number"] (aC lR):=jL
theorem yq:aJ ["self","group"] ["self","group"] (aC sI):=jL
theorem BP:(["rope","group","self"]:List Str).Nodup:=by decide +kernel
theorem MA:aJ ["town","rope"] ["town","rope"] (aC BG):=jL
theorem G7:aJ ["group"] ["group"] (aC uW):=jL
theorem DZ:aJ ["self","letter","group"] ["self","letter","group"] (aC qv):=jL
theorem jh:aJ ["self","town","callers"] ["self","town","callers"] (aC xm):=jL
theorem D3:(["bit","town"]:List Str).Nodup:=by decide +kernel
theorem D4:(["bit"]:List Str).Nodup:=by decide +kernel
theorem D5:(["caller"]:List Str).Nodup:=by decide +kernel
theorem D6:(["caller"]:List Str).Nodup:=by decide +kernel
theorem D7:(["caller"]:List Str).Nodup:=by decide +kernel
theorem MB:aJ ["self","group"] ["self","group"] (aC BH):=jL
theorem MC:aJ ["self","group"] ["self","group"] (aC BI):=jL
theorem K5:aJ ["self","group"] ["self","group"] (aC zu):=jL
theorem K6:aJ ["self","group"] ["self","group"] (aC zw):=jL
theorem IG:aJ ["self","house","group"] ["self","house","group"] (aC xo):=jL
theorem zE:aJ ["self","house","group","ahead","row"] ["self","house","group"] (aC BJ):=jL
theorem uo:aJ ["self","sender","to","letter","number","house"] ["self","sender","to"] (aC iR):=jL
theorem II:aJ ["self"] ["self"] (aC xq):=jL
theorem gJ:aJ ["self","at","landed","number","rope","house","posted","fate"] ["self","at"] (aC fM):=jL
theorem K7:aJ ["self","letter"] ["self","letter"] (aC zz):=jL
theorem G8:aJ ["self","posted","rope","house"] ["self","posted","rope","house"] (aC uX):=jL
theorem eK:aJ ["self","number","house","came","posted","group","open_here","here","found","caller","rope"] ["self","number","house","came"] (aC qw):=jL
theorem mY:aJ ["self","house","group","there"] ["self","house","group"] (aC oz):=jL
theorem zF:(["caller","self","there"]:List Str).Nodup:=by decide +kernel
theorem zG:aJ ["self","number","house","rope","posted","wire"] ["self","number","house","rope"] (aC BK):=jL
theorem vS:aJ ["self","group","posted"] ["self","group"] (aC qy):=jL
theorem BQ:aJ ["self","house"] ["self","house"] (aC mX):=jL
theorem AY:aJ ["self","caller"] ["self","caller"] (aC lT):=jL
theorem CP:aJ ["self","sender","to"] ["self","sender","to"] (aC oA):=jL
theorem A5:aJ ["town"] ["town"] (aC xr):=jL
theorem D8:(["house","town"]:List Str).Nodup:=by decide +kernel
theorem vU:aJ ["town","callers","caller"] ["town","callers"] (aC qz):=jL
theorem K8:aJ ["_law_script","_law_k"] ["_law_script","_law_k"] (aC zA):=jL
theorem O0:aJ ["_law_found"] ["_law_found"] (aC DU):=jL
theorem lU:aJ ["_law_script","_law_size","_law_names_here","_law_k","_law_cell","_law_name"] ["_law_script","_law_size"] (aC DV):=jL
theorem dJ:aJ ["_law_script","_law_size","_law_group","_law_ropes_here","_law_many","_law_k","_law_cell","_law_one","_law_other","_law_rest","_law_cost","_law_lets"] ["_law_script","_law_size","_law_group"] (aC DW):=jL
theorem jY:aJ ["_law_script","_law_size","_law_group","_law_callers_here","_law_most","_law_k","_law_cell","_law_place"] ["_law_script","_law_size","_law_group"] (aC zB):=jL
theorem zH:aJ ["_law_net","_law_size","_law_group","_law_turn","_law_house"] ["_law_net","_law_size","_law_group"] (aC BL):=jL
theorem qA:aJ ["_law_story","_law_row"] ["_law_story"] (aC sJ):=jL
theorem BR:(["_law_one"]:List Str).Nodup:=by decide +kernel
theorem D9:aJ ["_law_ropes_here","_law_opened","_law_notes","_law_here","_law_house","_law_came","_law_to"] ["_law_ropes_here","_law_opened","_law_notes","_law_here","_law_house","_law_came","_law_to"] (aC GW):=jL
theorem K9:(["_law_rope","_law_came"]:List Str).Nodup:=by decide +kernel
theorem La:(["_law_rope","_law_came","_law_house","_law_ropes_here"]:List Str).Nodup:=by decide +kernel
theorem gK:aJ ["_law_ropes_here","_law_opened","_law_notes","_law_callers_here","_law_sender","_law_to","_law_first","_law_group","_law_number","_law_story","_law_waiting","_law_at","_law_house","_law_came","_law_caller","_law_here","_law_rope"] ["_law_ropes_here","_law_opened","_law_notes","_law_callers_here","_law_sender","_law_to"] (aC K0):=jL
theorem MD:(["_law_caller","_law_callers_here","_law_group","_law_house"]:List Str).Nodup:=by decide +kernel
theorem iy:aJ ["_law_script","_law_size","_law_group","_law_ropes_here","_law_callers_here","_law_net","_law_one","_law_notes","_law_number","_law_cell","_law_sender","_law_mates","_law_to","_law_ought","_law_row","_law_story","_law_told"] ["_law_script"] (aC U0):=jL
theorem Sd:(["_law_caller","_law_callers_here","_law_one"]:List Str).Nodup:=by decide +kernel
theorem JL:(["_law_house","_law_caller","_law_notes","_law_one"]:List Str).Nodup:=by decide +kernel
set_option genInjectivity false in
structure Ad where
 (kK mZ m5 m6 kL vV sL dY jN gM gf jO kM kN jP kP vW CQ ME MF xu vX CS kQ pV pW i6 jQ pX kT kU m7 pY iG gO gP jR sM kW i7 m8 sN sO pZ p6 m9 sP ng p7 kX i8 iH sQ i9 iu gQ iI nh jc p8 vY vZ wc p9 sR jS zI CU MG:Addr)
 (oZ rF rG rH o6 AJ xw lz ni nj lA nv o8 pq nA pC AK Gm Qu Qv Gn AL Gp pD uq ur lB nB uu pF pG rJ uv jZ iS iT nC xx pH lD rK xA xB uw ux rL xC rM uy pI lE j3 xD lF jx iU j4 rN lG uz AM AN AO uA xE nD CV Gq MH:FuncData)
 iV:Addr
 xF:FuncData
 fN:Addr
 pJ:FuncData
 ji:Tok
 iJ:Addr
 fY:Addr
 iW:Addr
 jd:Addr
 bD:Addr
 c8:Addr
 eS:Addr
 cN:Addr
 CY:Addr
 AQ:Addr
 pK:Tok
 rP:Tok
 rQ:Tok
 rR:Tok
 nG:Tok
 ff:Addr
structure Txt(K:af)(mg:Str->Option Value)(t:Ad):Prop where
 uY:Mu K t.eS "Book.__init__" uO t.kK t.oZ ["self"]
 CZ:jz K t.eS "learn" "Book.learn" w9 t.mZ t.rF ["self","house","caller","rope"]
 C0:jz K t.eS "known" "Book.known" xg t.m5 t.rG ["self","house","caller"]
 xG:jz K t.eS "notes" "Book.notes" xh t.m6 t.rH ["self"]
 uZ:jz K t.eS "forget" "Book.forget" uP t.kL t.o6 ["self"]
 JM:nW K mg "targets" "targets" DR t.vV t.AJ ["book","letter","house","came","open_here","here"]
 G9:nW K mg "ropes_on" "ropes_on" BF t.sL t.xw ["book","sought","house","came","open_here","here"]
 qB:Mu K t.iJ "Letter.__init__" qq t.dY t.lz ["self","sender"]
 zJ:jz K t.iJ "meant" "Letter.meant" sD t.jN t.ni ["self","caller"]
 nH:jz K t.iJ "seeks" "Letter.seeks" sE t.gM t.nj ["self"]
 lH:jz K t.iJ "number" "Letter.number" qt t.gf t.lA ["self"]
 zK:Mu K t.fY "ToOne.__init__" sF t.jO t.nv ["self","sender","to"]
 A6:jz K t.fY "meant" "ToOne.meant" uQ t.kM t.o8 ["self","caller"]
 u9:jz K t.fY "seeks" "ToOne.seeks" uR t.kN t.pq ["self"]
 sU:jz K t.fY "number" "ToOne.number" sG t.jP t.nA ["self"]
 A7:jz K t.iW "meant" "ToAll.meant" uS t.kP t.pC ["self","caller"]
 Ea:nW K mg "own_row" "own_row" DS t.vW t.AK ["town","house"]
 Lb:nW K mg "offer" "offer" KW t.CQ t.Gm ["town","row","rope"]
 YS:nW K mg "due" "due" UY t.ME t.Qu ["town","live","rows","house"]
 YT:nW K mg "ups" "ups" UZ t.MF t.Qv ["town","live","rows"]
 C1:nW K mg "opens" "opens" KY t.xu t.Gn ["town","live","rows"]
 JN:nW K mg "open_at" "open_at" DT t.vX t.AL ["town","live","rows","house"]
 Qw:nW K mg "up_of" "up_of" KZ t.CS t.Gp ["town","live","rows","house"]
 A8:Mu K t.bD "Town.__init__" uT t.kQ t.pD ["self","names","ropes"]
 E1:jz K t.bD "name" "Town.name" zm t.pV t.uq ["self","house"]
 zL:jz K t.bD "rope" "Town.rope" zo t.pW t.ur ["self","number"]
 lI:jz K t.bD "ropes_at" "Town.ropes_at" qu t.i6 t.lB ["self","house"]
 nJ:jz K t.bD "far_end" "Town.far_end" sH t.jQ t.nB ["self","rope","house"]
 E2:jz K t.bD "lets" "Town.lets" zp t.pX t.uu ["self","rope","group"]
 A9:nW K mg "check_names" "check_names" uU t.kT t.pF ["names"]
 Ba:nW K mg "check_ropes" "check_ropes" uV t.kU t.pG ["size","ropes"]
 C2:nW K mg "check_rope" "check_rope" xj t.m7 t.rJ ["size","rope"]
 E3:nW K mg "joins_two" "joins_two" zq t.pY t.uv ["size","one","other"]
 we:Mu K t.c8 "Strands.__init__" ow t.iG t.jZ ["self","town"]
 lV:jz K t.c8 "standing" "Strands.standing" lQ t.gO t.iS ["self","rope"]
 lW:jz K t.c8 "wire_for" "Strands.wire_for" lR t.gP t.iT ["self","rope","number"]
 sV:jz K t.c8 "live" "Strands.live" sI t.jR t.nC ["self","group"]
 Hf:nW K mg "wires_of" "wires_of" BG t.sM t.xx ["town","rope"]
 eV:nW K mg "check_group" "check_group" uW t.kW t.pH ["group"]
 yr:Mu K t.jd "Posted.__init__" qv t.i7 t.lD ["self","letter","group"]
 C3:Mu K t.cN "Net.__init__" xm t.m8 t.rK ["self","town","callers"]
 sW:jz K t.cN "rows" "Net.rows" BH t.sN t.xA ["self","group"]
 xH:jz K t.cN "live" "Net.live" BI t.sO t.xB ["self","group"]
 zM:jz K t.cN "opens" "Net.opens" zu t.pZ t.uw ["self","group"]
 E4:jz K t.cN "notes" "Net.notes" zw t.p6 t.ux ["self","group"]
 C4:jz K t.cN "row_at" "Net.row_at" xo t.m9 t.rL ["self","house","group"]
 Hg:jz K t.cN "call" "Net.call" BJ t.sP t.xC ["self","house","group"]
 sX:KO K "post" "Net.post" iR t.iV t.xF (.none)
 aaE:Binds K t.xF ["self","sender","to"] [.none]
 O6:Binds K t.xF ["self","sender","to"] []
 O7:Ko K t.cN "post" t.iV
 xJ:jz K t.cN "flying" "Net.flying" xq t.ng t.rM ["self"]
 kY:KO K "pass_on" "Net.pass_on" fM t.fN t.pJ (.int 0 t.ji)
 IJ:Binds K t.pJ ["self","at"] [.int 0 t.ji]
 VZ:Binds K t.pJ ["self","at"] []
 IK:Ko K t.cN "pass_on" t.fN
 E5:jz K t.cN "story" "Net.story" zz t.p7 t.uy ["self","letter"]
 Bb:jz K t.cN "fate_of" "Net.fate_of" uX t.kX t.pI ["self","posted","rope","house"]
 qC:jz K t.cN "do_letter" "Net.do_letter" qw t.i8 t.lE ["self","number","house","came"]
 wg:jz K t.cN "callers_at" "Net.callers_at" oz t.iH t.j3 ["self","house","group"]
 Hh:jz K t.cN "send" "Net.send" BK t.sQ t.xD ["self","number","house","rope"]
 yt:jz K t.cN "take_news" "Net.take_news" qy t.i9 t.lF ["self","group"]
 uB:jz K t.cN "check_house" "Net.check_house" mX t.iu t.jx ["self","house"]
 lX:jz K t.cN "check_caller" "Net.check_caller" lT t.gQ t.iU ["self","caller"]
 wm:jz K t.cN "check_pair" "Net.check_pair" oA t.iI t.j4 ["self","sender","to"]
 C5:nW K mg "first_rows" "first_rows" xr t.nh t.rN ["town"]
 yu:nW K mg "check_callers" "check_callers" qz t.jc t.lG ["town","callers"]
 gz:nW K mg "_law_cell_at" "_law_cell_at" zA t.p8 t.uz ["_law_script","_law_k"]
 JO:nW K mg "_law_whole" "_law_whole" DU t.vY t.AM ["_law_found"]
 JP:nW K mg "_law_names" "_law_names" DV t.vZ t.AN ["_law_script","_law_size"]
 JQ:nW K mg "_law_ropes" "_law_ropes" DW t.wc t.AO ["_law_script","_law_size","_law_group"]
 E6:nW K mg "_law_callers" "_law_callers" zB t.p9 t.uA ["_law_script","_law_size","_law_group"]
 Hi:nW K mg "_law_rounds" "_law_rounds" BL t.sR t.xE ["_law_net","_law_size","_law_group"]
 zN:nW K mg "_law_story_kind" "_law_story_kind" sJ t.jS t.nD ["_law_story"]
 MJ:nW K mg "_law_over" "_law_over" GW t.zI t.CV ["_law_ropes_here","_law_opened","_law_notes","_law_here","_law_house","_law_came","_law_to"]
 Qx:nW K mg "_law_due" "_law_due" K0 t.CU t.Gq ["_law_ropes_here","_law_opened","_law_notes","_law_callers_here","_law_sender","_law_to"]
 U3:nW K mg "law" "law" U0 t.MG t.MH ["_law_script"]
 Hj:Iq K t.iJ
 U4:mg "Letter" = some (.ref t.iJ)
 SW:dc K t.iJ "sender"
 YU:dc K t.iJ "to"
 pL:Iq K t.fY
 Xf:mg "ToOne" = some (.ref t.fY)
 sY:dc K t.fY "sender"
 xK:dc K t.fY "to"
 xM:Iq K t.iW
 Xg:mg "ToAll" = some (.ref t.iW)
 nK:dc K t.iW "sender"
 aaF:dc K t.iW "to"
 dj:Iq K t.jd
 U5:mg "Posted" = some (.ref t.jd)
 gY:dc K t.jd "letter"
 jT:dc K t.jd "group"
 xN:dc K t.jd "old"
 oF:dc K t.jd "done_at"
 iK:dc K t.jd "deeds"
 fJ:Iq K t.bD
 aaG:mg "Town" = some (.ref t.bD)
 sZ:dc K t.bD "house_names"
 gR:dc K t.bD "rope_tuples"
 mC:dc K t.bD "size"
 uC:dc K t.bD "many"
 jk:Iq K t.c8
 Se:mg "Strands" = some (.ref t.c8)
 nL:dc K t.c8 "town"
 nM:dc K t.c8 "upright"
 xO:Iq K t.eS
 aaH:mg "Book" = some (.ref t.eS)
 qc:dc K t.eS "kept"
 bV:Iq K t.cN
 adm:mg "Net" = some (.ref t.cN)
 oG:dc K t.cN "town"
 vc:dc K t.cN "strands"
 kr:dc K t.cN "rows_by_group"
 qe:dc K t.cN "books"
 qg:dc K t.cN "homes"
 nN:dc K t.cN "groups"
 C6:dc K t.cN "handed"
 eX:dc K t.cN "letters"
 nO:dc K t.cN "copies"
 zO:mg "opens_opens" = some (.ref t.xu)
 IL:Ko K t.iW "seeks" t.gM
 Hl:Ko K t.iW "number" t.gf
 Xh:Mk K t.iW t.dY
 Eb:YI K t.iJ "__init__" t.dY
 U6:mg "NoWire" = some (.ref t.CY)
 U7:Uj K t.CY
 Sf:mg "NoGroup" = some (.ref t.AQ)
 Sg:Uj K t.AQ
 IM:mg "MOST_HOUSES" = some (.int 10 t.pK)
 Lc:mg "MOST_ROPES" = some (.int 20 t.rP)
 Le:mg "MOST_WIRES" = some (.int 4 t.rQ)
 Lf:mg "ALL_GROUPS" = some (.int 7 t.rR)
 Ho:mg "MOST_CALLERS" = some (.int 20 t.nG)
 nP:mg "GROUP_BITS" = some (.ref t.ff)
 gv:∀H,cP K H t.ff [.int 1,.int 2,.int 4]
 iN:mg "len" = none
 nQ:mg "isinstance" = none
 U8:mg "int" = none
 aaI:mg "bool" = none
 tw:mg "list" = none
 Xi:mg "tuple" = none
 jy:mg "range" = none
 E7:mg "enumerate" = none
 adn:mg "min" = none
 ado:mg "set" = none
 adp:mg "str" = none
 adq:mg "all" = none
 Hq:mg "sorted" = none
theorem O9{α:Type}{M:List α->Prop}(h:∀a,M [a]):∀us:List α,us.length=1->M us
 |[_],_=>h _
theorem Ec{α:Type}{M:List α->Prop}(h:∀a b,M [a,b]):∀us:List α,us.length=2->M us
 |[_,_],_=>h _ _
theorem JR{α:Type}{M:List α->Prop}(h:∀a b c,M [a,b,c]):∀us:List α,us.length=3->M us
 |[_,_,_],_=>h _ _ _
theorem je{α:Type}{M:List α->Prop}(h:∀a c d b,M [a,c,d,b]):∀us:List α,us.length=4->M us
 |[_,_,_,_],_=>h _ _ _ _
theorem el6{α:Type}{M:List α->Prop}(h:∀b d f c a e,M [b,d,f,c,a,e]):∀us:List α,us.length=6->M us
 |[_,_,_,_,_,_],_=>h _ _ _ _ _ _
theorem el7{α:Type}{M:List α->Prop}(h:∀b d f c a e g,M [b,d,f,c,a,e,g]):∀us:List α,us.length=7->M us
 |[_,_,_,_,_,_,_],_=>h _ _ _ _ _ _ _
theorem aaK{K:af}{h:Heap}{b:Str->Option Value}(X:K.In h)(G:h.Ns mainGlobals b){kK mZ m5 U kL vV sL p jN O D jO kM kN jP kP vW CQ ME MF J vX CS kQ pV pW i6 jQ pX kT kU m7 pY iG gO gP jR sM kW i7 m8 sN sO pZ p6 m9 sP ng p7 kX i8 iH sQ i9 iu gQ iI nh jc p8 vY vZ wc p9 sR jS zI CU MG:Addr}
 {MK E8 Fb Fc x Fd:Value} {ML Fe:Option Addr} {MM:Array (Option Value)} {n:Addr}
 {r:Addr} {Lg:Option Addr} {MN:Nat} {Lh:Array (Option Value)}
 {Hr zQ zR zS y zT:Value} {Hs zU:Option Addr} {Ht:Array (Option Value)} {l:Addr}
 {q:Addr} {FP:Option Addr} {Hu:Nat} {FQ:Array (Option Value)}
 {w:Tok}
 {e:Addr}
 {f:Addr}
 {j:Addr}
 {i:Addr}
 {d:Addr}
 {k:Addr}
 {g:Addr}
 {a:Addr}
 {z:Addr}
 {P:Addr}
 {pK:Tok}
 {rP:Tok}
 {rQ:Tok}
 {rR:Tok}
 {nG:Tok}
 {B:Addr} {IP:Option Addr} {Li:Nat} {IQ IS IT:Tok} {IU:Array (Option Value)}
 (Ef:bG K mainGlobals "Letter" = some (some (.ref e)))
 (Hw:bG K mainGlobals "ToOne" = some (some (.ref f)))
 (Hy:bG K mainGlobals "ToAll" = some (some (.ref j)))
 (Eg:bG K mainGlobals "Posted" = some (some (.ref i)))
 (Lj:bG K mainGlobals "Town" = some (some (.ref d)))
 (BU:bG K mainGlobals "Strands" = some (some (.ref k)))
 (Lk:bG K mainGlobals "Book" = some (some (.ref g)))
 (Pa:bG K mainGlobals "Net" = some (some (.ref a)))
 (ve:EM K g "__init__" "Book.__init__" uO kK)
 (xQ:EM K g "learn" "Book.learn" w9 mZ)
 (xR:EM K g "known" "Book.known" xg m5)
 (xS:EM K g "notes" "Book.notes" xh U)
 (vf:EM K g "forget" "Book.forget" uP kL)
 (Eh:EG K b "targets" "targets" DR vV)
 (BV:EG K b "ropes_on" "ropes_on" BF sL)
 (qD:EM K e "__init__" "Letter.__init__" qq p)
 (tE:EM K e "meant" "Letter.meant" sD jN)
 (tF:EM K e "seeks" "Letter.seeks" sE O)
 (qF:EM K e "number" "Letter.number" qt D)
 (tG:EM K f "__init__" "ToOne.__init__" sF jO)
 (vg:EM K f "meant" "ToOne.meant" uQ kM)
 (vh:EM K f "seeks" "ToOne.seeks" uR kN)
 (tH:EM K f "number" "ToOne.number" sG jP)
 (vj:EM K j "meant" "ToAll.meant" uS kP)
 (Ei:EG K b "own_row" "own_row" DS vW)
 (Ll:EG K b "offer" "offer" KW CQ)
 (U9:EG K b "due" "due" UY ME)
 (Va:EG K b "ups" "ups" UZ MF)
 (Lm:EG K b "opens" "opens" KY J)
 (Ej:EG K b "open_at" "open_at" DT vX)
 (Ln:EG K b "up_of" "up_of" KZ CS)
 (vm:EM K d "__init__" "Town.__init__" uT kQ)
 (zV:EM K d "name" "Town.name" zm pV)
 (zW:EM K d "rope" "Town.rope" zo pW)
 (qG:EM K d "ropes_at" "Town.ropes_at" qu i6)
 (tK:EM K d "far_end" "Town.far_end" sH jQ)
 (zX:EM K d "lets" "Town.lets" zp pX)
 (vn:EG K b "check_names" "check_names" uU kT)
 (vp:EG K b "check_ropes" "check_ropes" uV kU)
 (xU:EG K b "check_rope" "check_rope" xj m7)
 (zY:EG K b "joins_two" "joins_two" zq pY)
 (oJ:EM K k "__init__" "Strands.__init__" ow iG)
 (lY:EM K k "standing" "Strands.standing" lQ gO)
 (lZ:EM K k "wire_for" "Strands.wire_for" lR gP)
 (tL:EM K k "live" "Strands.live" sI jR)
 (BW:EG K b "wires_of" "wires_of" BG sM)
 (vq:EG K b "check_group" "check_group" uW kW)
 (qH:EM K i "__init__" "Posted.__init__" qv i7)
 (xV:EM K a "__init__" "Net.__init__" xm m8)
 (BX:EM K a "rows" "Net.rows" BH sN)
 (BY:EM K a "live" "Net.live" BI sO)
 (zZ:EM K a "opens" "Net.opens" zu pZ)
 (z6:EM K a "notes" "Net.notes" zw p6)
 (xW:EM K a "row_at" "Net.row_at" xo m9)
 (BZ:EM K a "call" "Net.call" BJ sP)
 (Ca:aI K (.ref a) "post" = some (some (.ref n)))
 (Cb:PySem.W.isFn K (.ref n)=true)
 (Cc:K.lookup n=some ⟨MK,ML,.func (eT "post" "Net.post" (jv iR) (fX iR) (aC iR) (.ref r) E8 Fb Fc Fe x Fd),MM⟩)
 (Cd:jm K x "Net.post" = true)
 (xX:dX K (.ref n)=true)
 (z7:K.lookup r=some ⟨.type "tuple",Lg,.seq #[.none] MN,Lh⟩)
 (xY:EM K a "flying" "Net.flying" xq ng)
 (vt:aI K (.ref a) "pass_on" = some (some (.ref l)))
 (vz:PySem.W.isFn K (.ref l)=true)
 (vA:K.lookup l=some ⟨Hr,Hs,.func (eT "pass_on" "Net.pass_on" (jv fM) (fX fM) (aC fM) (.ref q) zQ zR zS zU y zT),Ht⟩)
 (vB:jm K y "Net.pass_on" = true)
 (pM:dX K (.ref l)=true)
 (tM:K.lookup q=some ⟨.type "tuple",FP,.seq #[.int 0 w] Hu,FQ⟩)
 (z8:EM K a "story" "Net.story" zz p7)
 (vC:EM K a "fate_of" "Net.fate_of" uX kX)
 (qI:EM K a "do_letter" "Net.do_letter" qw i8)
 (oK:EM K a "callers_at" "Net.callers_at" oz iH)
 (Ce:EM K a "send" "Net.send" BK sQ)
 (qJ:EM K a "take_news" "Net.take_news" qy i9)
 (nS:EM K a "check_house" "Net.check_house" mX iu)
 (l6:EM K a "check_caller" "Net.check_caller" lT gQ)
 (oM:EM K a "check_pair" "Net.check_pair" oA iI)
 (xZ:EG K b "first_rows" "first_rows" xr nh)
 (qK:EG K b "check_callers" "check_callers" qz jc)
 (Aa:EG K b "_law_cell_at" "_law_cell_at" zA p8)
 (Ek:EG K b "_law_whole" "_law_whole" DU vY)
 (El:EG K b "_law_names" "_law_names" DV vZ)
 (Em:EG K b "_law_ropes" "_law_ropes" DW wc)
 (Ab:EG K b "_law_callers" "_law_callers" zB p9)
 (Cf:EG K b "_law_rounds" "_law_rounds" BL sR)
 (tN:EG K b "_law_story_kind" "_law_story_kind" sJ jS)
 (Hz:EG K b "_law_over" "_law_over" GW zI)
 (Lo:EG K b "_law_due" "_law_due" K0 CU)
 (Vb:EG K b "law" "law" U0 MG)
 (C:EC K e)
 (oN:aI K (.ref e) "sender" = some none)
 (x8:aI K (.ref e) "to" = some none)
 (L:EC K f)
 (qL:aI K (.ref f) "sender" = some none)
 (Ae:aI K (.ref f) "to" = some none)
 (T:EC K j)
 (qM:aI K (.ref j) "sender" = some none)
 (Af:aI K (.ref j) "to" = some none)
 (S:EC K i)
 (oO:aI K (.ref i) "letter" = some none)
 (qN:aI K (.ref i) "group" = some none)
 (vD:aI K (.ref i) "old" = some none)
 (nU:aI K (.ref i) "done_at" = some none)
 (qO:aI K (.ref i) "deeds" = some none)
 (u:EC K d)
 (ku:aI K (.ref d) "house_names" = some none)
 (kB:aI K (.ref d) "rope_tuples" = some none)
 (x9:aI K (.ref d) "size" = some none)
 (ya:aI K (.ref d) "many" = some none)
 (v:EC K k)
 (qP:aI K (.ref k) "town" = some none)
 (mh:aI K (.ref k) "upright" = some none)
 (Q:EC K g)
 (yb:aI K (.ref g) "kept" = some none)
 (N:EC K a)
 (Ah:aI K (.ref a) "town" = some none)
 (tO:aI K (.ref a) "strands" = some none)
 (jU:aI K (.ref a) "rows_by_group" = some none)
 (yc:aI K (.ref a) "books" = some none)
 (yd:aI K (.ref a) "homes" = some none)
 (vE:aI K (.ref a) "groups" = some none)
 (vF:aI K (.ref a) "handed" = some none)
 (tP:aI K (.ref a) "letters" = some none)
 (vG:aI K (.ref a) "copies" = some none)
 (tQ:bG K mainGlobals "opens_opens" = some (some (.ref J)))
 (tR:aI K (.ref j) "seeks" = some (some (.ref O)))
 (qQ:aI K (.ref j) "number" = some (some (.ref D)))
 (HC:aI K (.ref j) "__init__" = some (some (.ref p)))
 (oQ:PySem.W.specialIn K (.ref e) "__getattribute__" = some (some (.builtin "type.__getattribute__")))
 (oS:PySem.W.readsIn K e (.type "type")=true)
 (oU:PySem.W.findCls K (.ref e) (.type "type") "__init__" = some (.val (.ref p)))
 (Eo:bG K mainGlobals "NoWire" = some (some (.ref z)))
 (Ep:Uj K z)
 (Cg:bG K mainGlobals "NoGroup" = some (some (.ref P)))
 (Ci:Uj K P)
 (vH:bG K mainGlobals "MOST_HOUSES" = some (some (.int 10 pK)))
 (ye:bG K mainGlobals "MOST_ROPES" = some (some (.int 20 rP)))
 (yf:bG K mainGlobals "MOST_WIRES" = some (some (.int 4 rQ)))
 (yg:bG K mainGlobals "ALL_GROUPS" = some (some (.int 7 rR)))
 (tS:bG K mainGlobals "MOST_CALLERS" = some (some (.int 20 nG)))
 (yh:bG K mainGlobals "GROUP_BITS" = some (some (.ref B)))
 (yi:K.lookup B=some ⟨.type "tuple",IP,.seq #[.int 1 IQ,.int 2 IS,.int 4 IT] Li,IU⟩)
 (Vc:bG K mainGlobals "len" = some none)
 (yj:bG K mainGlobals "isinstance" = some none)
 (Vd:bG K mainGlobals "int" = some none)
 (Pb:bG K mainGlobals "bool" = some none)
 (Pc:bG K mainGlobals "list" = some none)
 (Lp:bG K mainGlobals "tuple" = some none)
 (Lq:bG K mainGlobals "range" = some none)
 (Ai:bG K mainGlobals "enumerate" = some none)
 (Ve:bG K mainGlobals "min" = some none)
 (Vf:bG K mainGlobals "set" = some none)
 (Vg:bG K mainGlobals "str" = some none)
 (Vh:bG K mainGlobals "all" = some none)
 (HD:bG K mainGlobals "sorted" = some none):∃t,Txt K b t:=by
 obtain⟨oZ,Bc,Be⟩:=ve;obtain⟨rF,C9,Lr⟩:=xQ;obtain⟨rG,Dc,Lu⟩:=xR;obtain⟨rH,Dd,Lv⟩:=xS;obtain⟨o6,Bf,IV⟩:=vf;obtain⟨AJ,JS,Sh⟩:=Eh;obtain⟨xw,HE,Pd⟩:=BV;obtain⟨lz,yv,o⟩:=qD;obtain⟨ni,Aj,HF⟩:=tE;obtain⟨nj,Ak,A⟩:=tF;obtain⟨lA,yw,R⟩:=qF;obtain⟨nv,Al,Am⟩:=tG;obtain⟨o8,Bg,IW⟩:=vg;obtain⟨pq,Bh,IX⟩:=vh;obtain⟨nA,An,HG⟩:=tH;obtain⟨pC,Bj,IY⟩:=vj;obtain⟨AK,JT,Si⟩:=Ei;obtain⟨Gm,Qy,Xj⟩:=Ll;obtain⟨Qu,Y,I⟩:=U9;obtain⟨Qv,YW,s⟩:=Va;obtain⟨Gn,Z,Xk⟩:=Lm;obtain⟨AL,JU,Sj⟩:=Ej;obtain⟨Gp,QA,Xl⟩:=Ln;obtain⟨pD,Bk,Bl⟩:=vm;obtain⟨uq,Ff,MP⟩:=zV;obtain⟨ur,Fg,MQ⟩:=zW;obtain⟨lB,yx,FT⟩:=qG;obtain⟨nB,Ao,HH⟩:=tK;obtain⟨uu,Fi,MR⟩:=zX;obtain⟨pF,Bm,IZ⟩:=vn;obtain⟨pG,Bo,I0⟩:=vp;obtain⟨rJ,De,Lw⟩:=xU;obtain⟨uv,Fj,MS⟩:=zY;obtain⟨jZ,wu,wz⟩:=oJ;obtain⟨iS,tU,Cj⟩:=lY;obtain⟨iT,tV,Ck⟩:=lZ;obtain⟨nC,Aq,HJ⟩:=tL;obtain⟨xx,HK,Pe⟩:=BW;obtain⟨pH,Bp,Ja⟩:=vq;obtain⟨lD,yy,V⟩:=qH;obtain⟨rK,Df,Dg⟩:=xV;obtain⟨xA,HL,Pf⟩:=BX;obtain⟨xB,HM,Pg⟩:=BY;obtain⟨uw,Fk,MT⟩:=zZ;obtain⟨ux,Fl,MU⟩:=z6;obtain⟨rL,Dh,Lx⟩:=xW;obtain⟨xC,HN,Ph⟩:=BZ;have E:=Qo (st:=iR) Cc Cd xX z7 rfl;obtain⟨rM,Di,Ly⟩:=xY;have F:=Qo (st:=fM) vA vB pM tM rfl;obtain⟨uy,Fq,MV⟩:=z8;obtain⟨pI,Bq,Jb⟩:=vC;obtain⟨lE,yC,FU⟩:=qI;obtain⟨j3,wA,Er⟩:=oK;obtain⟨xD,HP,Pj⟩:=Ce;obtain⟨lF,yD,FW⟩:=qJ;obtain⟨jx,uD,Dj⟩:=nS;obtain⟨iU,tW,Cm⟩:=l6;obtain⟨j4,wB,Es⟩:=oM;obtain⟨rN,Dk,Lz⟩:=xZ;obtain⟨lG,yE,FY⟩:=qK;obtain⟨uz,Ft,MW⟩:=Aa;obtain⟨AM,JV,Sk⟩:=Ek;obtain⟨AN,JW,Sm⟩:=El;obtain⟨AO,JX,Sn⟩:=Em;obtain⟨uA,Fv,MX⟩:=Ab;obtain⟨xE,HQ,Pk⟩:=Cf;obtain⟨nD,Ar,HR⟩:=tN;obtain⟨CV,MY,Vi⟩:=Hz;obtain⟨Gq,QB,Xm⟩:=Lo;obtain⟨MH,YX,M⟩:=Vb;exact⟨⟨kK,mZ,m5,U,kL,vV,sL,p,jN,O,D,jO,kM,kN,jP,kP,vW,CQ,ME,MF,J,vX,CS,kQ,pV,pW,i6,jQ,pX,kT,kU,m7,pY,iG,gO,gP,jR,sM,kW,i7,m8,sN,sO,pZ,p6,m9,sP,ng,p7,kX,i8,iH,sQ,i9,iu,gQ,iI,nh,jc,p8,vY,vZ,wc,p9,sR,jS,zI,CU,MG,oZ,rF,rG,rH,o6,AJ,xw,lz,ni,nj,lA,nv,o8,pq,nA,pC,AK,Gm,Qu,Qv,Gn,AL,Gp,pD,uq,ur,lB,nB,uu,pF,pG,rJ,uv,jZ,iS,iT,nC,xx,pH,lD,rK,xA,xB,uw,ux,rL,xC,rM,uy,pI,lE,j3,xD,lF,jx,iU,j4,rN,lG,uz,AM,AN,AO,uA,xE,nD,CV,Gq,MH,n,(eT "post" "Net.post" (jv iR) (fX iR) (aC iR) (.ref r) E8 Fb Fc Fe x Fd),l,(eT "pass_on" "Net.pass_on" (jv fM) (fX fM) (aC fM) (.ref q) zQ zR zS zU y zT),w,e,f,j,i,d,k,g,a,z,P,pK,rP,rQ,rR,nG,B⟩,⟨⟨Bc,Bc.binds λ_ _ _ _ _ _=>O9 λ_=>rfl,⟨Q.YO,Be.at_,Be.fn,Q.kc⟩⟩,
  ⟨C9,C9.binds λ_ _ _ _ _ _=>je λ_ _ _ _=>rfl,Lr⟩,
  ⟨Dc,Dc.binds λ_ _ _ _ _ _=>JR λ_ _ _=>rfl,Lu⟩,
  ⟨Dd,Dd.binds λ_ _ _ _ _ _=>O9 λ_=>rfl,Lv⟩,
  ⟨Bf,Bf.binds λ_ _ _ _ _ _=>O9 λ_=>rfl,IV⟩,
  ⟨JS,JS.binds λ_ _ _ _ _ _=>el6 λ_ _ _ _ _ _=>rfl,Sh⟩,
  ⟨HE,HE.binds λ_ _ _ _ _ _=>el6 λ_ _ _ _ _ _=>rfl,Pd⟩,
  ⟨yv,yv.binds λ_ _ _ _ _ _=>Ec λ_ _=>rfl,⟨C.YO,o.at_,o.fn,C.kc⟩⟩,
  ⟨Aj,Aj.binds λ_ _ _ _ _ _=>Ec λ_ _=>rfl,HF⟩,
  ⟨Ak,Ak.binds λ_ _ _ _ _ _=>O9 λ_=>rfl,A⟩,
  ⟨yw,yw.binds λ_ _ _ _ _ _=>O9 λ_=>rfl,R⟩,
  ⟨Al,Al.binds λ_ _ _ _ _ _=>JR λ_ _ _=>rfl,⟨L.YO,Am.at_,Am.fn,L.kc⟩⟩,
  ⟨Bg,Bg.binds λ_ _ _ _ _ _=>Ec λ_ _=>rfl,IW⟩,
  ⟨Bh,Bh.binds λ_ _ _ _ _ _=>O9 λ_=>rfl,IX⟩,
  ⟨An,An.binds λ_ _ _ _ _ _=>O9 λ_=>rfl,HG⟩,
  ⟨Bj,Bj.binds λ_ _ _ _ _ _=>Ec λ_ _=>rfl,IY⟩,
  ⟨JT,JT.binds λ_ _ _ _ _ _=>Ec λ_ _=>rfl,Si⟩,
  ⟨Qy,Qy.binds λ_ _ _ _ _ _=>JR λ_ _ _=>rfl,Xj⟩,
  ⟨Y,Y.binds λ_ _ _ _ _ _=>je λ_ _ _ _=>rfl,I⟩,
  ⟨YW,YW.binds λ_ _ _ _ _ _=>JR λ_ _ _=>rfl,s⟩,
  ⟨Z,Z.binds λ_ _ _ _ _ _=>JR λ_ _ _=>rfl,Xk⟩,
  ⟨JU,JU.binds λ_ _ _ _ _ _=>je λ_ _ _ _=>rfl,Sj⟩,
  ⟨QA,QA.binds λ_ _ _ _ _ _=>je λ_ _ _ _=>rfl,Xl⟩,
  ⟨Bk,Bk.binds λ_ _ _ _ _ _=>JR λ_ _ _=>rfl,⟨u.YO,Bl.at_,Bl.fn,u.kc⟩⟩,
  ⟨Ff,Ff.binds λ_ _ _ _ _ _=>Ec λ_ _=>rfl,MP⟩,
  ⟨Fg,Fg.binds λ_ _ _ _ _ _=>Ec λ_ _=>rfl,MQ⟩,
  ⟨yx,yx.binds λ_ _ _ _ _ _=>Ec λ_ _=>rfl,FT⟩,
  ⟨Ao,Ao.binds λ_ _ _ _ _ _=>JR λ_ _ _=>rfl,HH⟩,
  ⟨Fi,Fi.binds λ_ _ _ _ _ _=>JR λ_ _ _=>rfl,MR⟩,
  ⟨Bm,Bm.binds λ_ _ _ _ _ _=>O9 λ_=>rfl,IZ⟩,
  ⟨Bo,Bo.binds λ_ _ _ _ _ _=>Ec λ_ _=>rfl,I0⟩,
  ⟨De,De.binds λ_ _ _ _ _ _=>Ec λ_ _=>rfl,Lw⟩,
  ⟨Fj,Fj.binds λ_ _ _ _ _ _=>JR λ_ _ _=>rfl,MS⟩,
  ⟨wu,wu.binds λ_ _ _ _ _ _=>Ec λ_ _=>rfl,⟨v.YO,wz.at_,wz.fn,v.kc⟩⟩,
  ⟨tU,tU.binds λ_ _ _ _ _ _=>Ec λ_ _=>rfl,Cj⟩,
  ⟨tV,tV.binds λ_ _ _ _ _ _=>JR λ_ _ _=>rfl,Ck⟩,
  ⟨Aq,Aq.binds λ_ _ _ _ _ _=>Ec λ_ _=>rfl,HJ⟩,
  ⟨HK,HK.binds λ_ _ _ _ _ _=>Ec λ_ _=>rfl,Pe⟩,
  ⟨Bp,Bp.binds λ_ _ _ _ _ _=>O9 λ_=>rfl,Ja⟩,
  ⟨yy,yy.binds λ_ _ _ _ _ _=>JR λ_ _ _=>rfl,⟨S.YO,V.at_,V.fn,S.kc⟩⟩,
  ⟨Df,Df.binds λ_ _ _ _ _ _=>JR λ_ _ _=>rfl,⟨N.YO,Dg.at_,Dg.fn,N.kc⟩⟩,
  ⟨HL,HL.binds λ_ _ _ _ _ _=>Ec λ_ _=>rfl,Pf⟩,
  ⟨HM,HM.binds λ_ _ _ _ _ _=>Ec λ_ _=>rfl,Pg⟩,
  ⟨Fk,Fk.binds λ_ _ _ _ _ _=>Ec λ_ _=>rfl,MT⟩,
  ⟨Fl,Fl.binds λ_ _ _ _ _ _=>Ec λ_ _=>rfl,MU⟩,
  ⟨Dh,Dh.binds λ_ _ _ _ _ _=>JR λ_ _ _=>rfl,Lx⟩,
  ⟨HN,HN.binds λ_ _ _ _ _ _=>JR λ_ _ _=>rfl,Ph⟩,
  E,
  (E.binds (ps:=["self","sender","to"]) (ds:=[.none]) (m:=2) rfl λ_ _ _ _ _ _ _=>Ec λ_ _=>⟨_,rfl,rfl⟩),
  (E.binds (ps:=["self","sender","to"]) (ds:=[]) (m:=3) rfl λ_ _ _ _ _ _ _=>JR λ_ _ _=>⟨_,rfl,rfl⟩),
  ⟨Ca,Cb,xX⟩,
  ⟨Di,Di.binds λ_ _ _ _ _ _=>O9 λ_=>rfl,Ly⟩,
  F,
  (F.binds (ps:=["self","at"]) (ds:=[.int 0 w]) (m:=1) rfl λ_ _ _ _ _ _ _=>O9 λ_=>⟨_,rfl,rfl⟩),
  (F.binds (ps:=["self","at"]) (ds:=[]) (m:=2) rfl λ_ _ _ _ _ _ _=>Ec λ_ _=>⟨_,rfl,rfl⟩),
  ⟨vt,vz,pM⟩,
  ⟨Fq,Fq.binds λ_ _ _ _ _ _=>Ec λ_ _=>rfl,MV⟩,
  ⟨Bq,Bq.binds λ_ _ _ _ _ _=>je λ_ _ _ _=>rfl,Jb⟩,
  ⟨yC,yC.binds λ_ _ _ _ _ _=>je λ_ _ _ _=>rfl,FU⟩,
  ⟨wA,wA.binds λ_ _ _ _ _ _=>JR λ_ _ _=>rfl,Er⟩,
  ⟨HP,HP.binds λ_ _ _ _ _ _=>je λ_ _ _ _=>rfl,Pj⟩,
  ⟨yD,yD.binds λ_ _ _ _ _ _=>Ec λ_ _=>rfl,FW⟩,
  ⟨uD,uD.binds λ_ _ _ _ _ _=>Ec λ_ _=>rfl,Dj⟩,
  ⟨tW,tW.binds λ_ _ _ _ _ _=>Ec λ_ _=>rfl,Cm⟩,
  ⟨wB,wB.binds λ_ _ _ _ _ _=>JR λ_ _ _=>rfl,Es⟩,
  ⟨Dk,Dk.binds λ_ _ _ _ _ _=>O9 λ_=>rfl,Lz⟩,
  ⟨yE,yE.binds λ_ _ _ _ _ _=>Ec λ_ _=>rfl,FY⟩,
  ⟨Ft,Ft.binds λ_ _ _ _ _ _=>Ec λ_ _=>rfl,MW⟩,
  ⟨JV,JV.binds λ_ _ _ _ _ _=>O9 λ_=>rfl,Sk⟩,
  ⟨JW,JW.binds λ_ _ _ _ _ _=>Ec λ_ _=>rfl,Sm⟩,
  ⟨JX,JX.binds λ_ _ _ _ _ _=>JR λ_ _ _=>rfl,Sn⟩,
  ⟨Fv,Fv.binds λ_ _ _ _ _ _=>JR λ_ _ _=>rfl,MX⟩,
  ⟨HQ,HQ.binds λ_ _ _ _ _ _=>JR λ_ _ _=>rfl,Pk⟩,
  ⟨Ar,Ar.binds λ_ _ _ _ _ _=>O9 λ_=>rfl,HR⟩,
  ⟨MY,MY.binds λ_ _ _ _ _ _=>el7 λ_ _ _ _ _ _ _=>rfl,Vi⟩,
  ⟨QB,QB.binds λ_ _ _ _ _ _=>el6 λ_ _ _ _ _ _=>rfl,Xm⟩,
  ⟨YX,YX.binds λ_ _ _ _ _ _=>O9 λ_=>rfl,M⟩,
  C.c,
  (cU X G Ef),
  oN,
  x8,
  L.c,
  (cU X G Hw),
  qL,
  Ae,
  T.c,
  (cU X G Hy),
  qM,
  Af,
  S.c,
  (cU X G Eg),
  oO,
  qN,
  vD,
  nU,
  qO,
  u.c,
  (cU X G Lj),
  ku,
  kB,
  x9,
  ya,
  v.c,
  (cU X G BU),
  qP,
  mh,
  Q.c,
  (cU X G Lk),
  yb,
  N.c,
  (cU X G Pa),
  Ah,
  tO,
  jU,
  yc,
  yd,
  vE,
  vF,
  tP,
  vG,
  (cU X G tQ),
  ⟨tR,A.fn,A.kp⟩,
  ⟨qQ,R.fn,R.kp⟩,
  ⟨T.YO,HC,o.fn,T.kc⟩,
  ⟨oQ,oS,oU,o.kp⟩,
  (cU X G Eo),
  Ep,
  (cU X G Cg),
  Ci,
  (cU X G vH),
  (cU X G ye),
  (cU X G yf),
  (cU X G yg),
  (cU X G tS),
  (cU X G yh),
  (λH=>.inr ⟨_,_,_,yi,rfl,rfl,g9,(.cons ⟨_,rfl⟩ (.cons ⟨_,rfl⟩ (.cons ⟨_,rfl⟩ .nil)))⟩),
  (cH X G Vc),
  (cH X G yj),
  (cH X G Vd),
  (cH X G Pb),
  (cH X G Pc),
  (cH X G Lp),
  (cH X G Lq),
  (cH X G Ai),
  (cH X G Ve),
  (cH X G Vf),
  (cH X G Vg),
  (cH X G Vh),
  (cH X G HD)⟩⟩
end fc
namespace fc
open PySem L2 TW PyProof.Rows
open RM (cR jV aZ aW)
seal L2.PE L2.PA L2.PT L2.PW L2.PS L2.iD L2.PG L2.kC L2.PI L2.kE
theorem bF{CX:Rt}{P:Program}{w:World}{K:af}{d:Str->Option Value}{base:Heap}{N:List Str}{b:Str}{scope:Scope}{f:Addr}{c:Value}{A:Around}{a:List Env}{s:Shared}{H:Hp}{E:XK}:(oj CX P w K d base N b scope f c A a s H E).K=K:=rfl
local macro_rules|`(tactic|left)=>`(tactic|try dsimp only[bF])
section
variable{P:Program}{w:World}{K:af}{mg:Str->Option Value}{base:Heap}
inductive QC(vs:List V)(H:Hp)(Q:VK)(E:XK):Prop
 |mk (i:Int):vs=[.int i]->Q (.bl true) H->QC  vs H Q E
theorem Po{t:Ad}(T:Txt K mg t):cz P w K mg base iM 1 t.vY t.AM ["_law_found"]  QC:=by
 refine T.JO.F.kh O0 λH Q E a h=>?_
 ·obtain⟨i,rfl,k⟩:=h
  refine⟨_,(oR (NT (cB GF T.nQ boot_isinstance (nZ (pv 0) (Ct rfl T.U8 boot_int (v:=.ty "int") rfl))) (Tc (ZG (cB GF T.nQ boot_isinstance (nZ (pv 0) (Ct rfl T.aaI boot_bool (v:=.ty "bool") rfl))))))),?_⟩
  left
  refine⟨_,rfl,_,_,_,_,rfl,.int _,rfl,_,rfl,gC ?_⟩;refine⟨_,rfl,_,_,_,_,rfl,.int _,rfl,_,rfl,?_⟩;exact k
inductive Vj(K:af)(vs:List V)(H:Hp)(Q:VK)(E:XK):Prop
 |mk (a:Addr) (ns:List Int) (k:Int):vs=[.ref a,.int k]->bP K H a (ns.map V.int)->0<=k->Q (.int (ns.getD k.toNat 0)) H->Vj K vs H Q E
theorem gw{t:Ad}(T:Txt K mg t):cz P w K mg base iM 1 t.p8 t.uz ["_law_script","_law_k"]  (Vj K):=by
 refine T.gz.F.kh K8 λH Q E g h=>?_
 ·obtain⟨a,ns,i,rfl,b,f,k⟩:=h
  refine⟨_,(aq (cD (qT pR (pv 1) (lS T.iN (pv 0))) (oR (xL (pv 0) (pv 1))) bz) (oR aB)),?_⟩
  left
  refine⟨_,rfl,_,rfl,a,_,rfl,.inl b,_,_,rfl,rfl,_,rfl,?_⟩;refine ko (λc=>?_) (λc=>?_)
  ·have d:i<ns.length:=by simpa using c
   refine⟨_,rfl,_,rfl,a,_,_,_,rfl,rfl,b,Uc f d,k⟩
  ·have d:¬i<ns.length:=by simpa using c
   have e:ns.getD i.toNat 0=0:=by
    rw[az,fF ∅];rfl
   rw[e] at k;exact k
inductive QD(vs:List V)(H:Hp)(Q:VK)(E:XK):Prop
 |mk (n a b:Int):vs=[.int n,.int a,.int b]->0<=a->a<n->0<=b->b<n->a≠b->Q (.bl true) H->QD  vs H Q E
theorem LA{t:Ad}(T:Txt K mg t):cz P w K mg base iM 1 t.pY t.uv ["size","one","other"]  QD:=by
 refine T.E3.F.kh K4 λH Q E i h=>?_
 ·obtain⟨n,a,b,rfl,c,d,e,f,g,k⟩:=h
  refine⟨_,(oR (NT (LY qX pR aB (pv 1) (pv 0)) (NT (LY qX pR aB (pv 2) (pv 0)) (Tc (qE sf (pv 1) (pv 2)))))),?_⟩
  left
  refine⟨_,rfl,_,_,rfl,rfl,_,rfl,?_⟩;rw[e8 c];refine gC ⟨_,rfl,_,_,rfl,rfl,_,rfl,?_⟩;rw[e8 d];refine gC ⟨_,rfl,_,_,rfl,rfl,_,rfl,?_⟩;rw[e8 e];refine gC ⟨_,rfl,_,_,rfl,rfl,_,rfl,?_⟩;rw[e8 f];refine gC ⟨_,rfl,_,rfl,rfl,?_⟩;rw[fy (λz=>g (V.int.inj z))];exact k
inductive Fw(K:af)(vs:List V)(H:Hp)(Q:VK)(E:XK):Prop
 |mk (n:Int) (p:Addr) (a b c d e:Int):vs=[.int n,.ref p]->cP K H p (ac1 a b c d e)->Ul n a b c d e->Q .fH H->Fw K vs H Q E
theorem Jc{t:Ad}(T:Txt K mg t):cz P w K mg base iM 2 t.m7 t.rJ ["size","rope"]  (Fw K):=by
 refine T.C2.F.kh IF λH Q E o h=>?_
 ·obtain⟨n,p,a,b,c,d,e,rfl,f,q,k⟩:=h
  obtain⟨i,m,s,j,x,y,r,u,l,g⟩:=q;refine⟨_,(aq (cD (qT sf (lS T.iN (pv 1)) aB) dO bz) (aq (cD (jo (wM (cG (LA T) o T.E3 (Ir (pv 0) (xT (pv 1) aB) (xT (pv 1) aB))))) dO bz) (aq (cD (qT pR (xT (pv 1) aB) aB) dO bz) (aq (cD (jo (jD qX qX aB (xT (pv 1) aB) (mJ rfl T.Le (v:=.int 4) ⟨_,rfl⟩))) dO bz) (bI (cD (jo (jD qX qX aB (xT (pv 1) aB) (mJ rfl T.Lf (v:=.int 7) ⟨_,rfl⟩))) dO bz)))))),?_⟩
  left
  refine⟨_,rfl,p,_,rfl,.inr f,rfl,_,rfl,eZ ?_⟩;refine⟨_,rfl,_,rfl,p,_,_,_,rfl,rfl,f,rfl,_,rfl,p,_,_,_,rfl,rfl,f,rfl,?_⟩;refine⟨_,_,_,rfl,i,m,s,j,x,_,rfl,eZ ?_⟩;refine⟨_,rfl,p,_,_,_,rfl,rfl,f,rfl,_,_,rfl,rfl,_,rfl,?_⟩;rw[fy (show ¬c<1 by lia)];refine eZ ?_;refine⟨_,rfl,p,_,_,_,rfl,rfl,f,rfl,_,_,rfl,rfl,_,rfl,?_⟩;rw[e8 r];refine gC ?_;refine⟨_,_,rfl,rfl,_,rfl,?_⟩;rw[e8 u];refine eZ ?_;refine⟨_,rfl,p,_,_,_,rfl,rfl,f,rfl,_,_,rfl,rfl,_,rfl,?_⟩;rw[e8 l];refine gC ?_;refine⟨_,_,rfl,rfl,_,rfl,?_⟩;rw[e8 g];refine eZ ?_;exact k
inductive Dl(K:af)(vs:List V)(H:Hp)(Q:VK)(E:XK):Prop
 |mk (n:Int) (l:Addr) (rs:List R5):vs=[.int n,.ref l]->GI K H l rs->rs.length<=20->(∀r∈rs,r.Ok n)->Q .fH H->Dl K vs H Q E
theorem HS{t:Ad}(T:Txt K mg t):cz P w K mg base iM 3 t.kU t.pG ["size","ropes"]  (Dl K):=by
 refine T.Ba.F.kh zC λH Q E x h=>?_
 ·obtain⟨n,l,o,rfl,r,B,z,k⟩:=h
  obtain⟨d,f,A,u⟩:=r.at;refine⟨_,(aq (cD (qT PX (lS T.iN (pv 1)) (mJ rfl T.Lc (v:=.int 20) ⟨_,rfl⟩)) dO bz) (bI (fS (fV (pv 1)) (gT 2 zC) (oE (cG (Jc T) x T.C2 (nZ (pv 0) (pv 2))))))),?_⟩
  left
  refine⟨_,rfl,l,_,rfl,.inl f,_,_,rfl,rfl,_,rfl,?_⟩;rw[fy (show ¬(20:Int)<d.length by lia)];refine eZ ?_;refine⟨_,rfl,l,rfl,⟨_,f⟩,se (K:=K) (a:=l) (xs:=d) (λi c b=>b=H/\∃v,c=[some (.int n),some (.ref l),v]) ⟨rfl,_,rfl⟩ (λi c b _ ⟨e,_⟩=>by rw[e];exact f) ?_ ?_⟩
  ·rintro i y c b m ⟨rfl,v,rfl⟩
   have q:i<d.length:=(ai.mp m).1;have j:o[i]?=some o[i]:=-_
   obtain⟨p,g,s⟩:=u i _ j;rw[m] at g;cases g;refine⟨_,rfl,_,rfl,n,p,_,_,_,_,_,rfl,s,z _ (aM j),rfl,_,rfl⟩
  ·rintro c b ⟨rfl,v,rfl⟩
   exact k
inductive Dm(K:af)(vs:List V)(H:Hp)(Q:VK)(E:XK):Prop
 |mk (l:Addr) (ns:List Int):vs=[.ref l]->bP K H l (ns.map V.int)->1<=ns.length->ns.length<=10->(∀n∈ns,0<=n)->ns.Nodup->(∀H',aG H H'->Q .fH H')->Dm K vs H Q E
theorem HU{t:Ad}(T:Txt K mg t):cz P w K mg base iM 1 t.kT t.pF ["names"]  (Dm K):=by
 refine T.A9.F.kh G6 λH Q E r h=>?_
 ·obtain⟨l,ns,rfl,a,n,q,j,e,k⟩:=h
  refine⟨_,(aq (cD (jo (jD qX qX aB (lS T.iN (pv 0)) (mJ rfl T.IM (v:=.int 10) ⟨_,rfl⟩))) dO bz) (aq (cD (qT pR (cB (RL rfl) T.adn boot_min (gV (pv 0))) aB) dO bz) (bI (cD (qT sf (cB RK T.iN PySem.boot_len (gV (fW (RJ rfl) (by rfl) T.ado boot_set (gV (pv 0))))) (lS T.iN (pv 0))) dO bz)))),?_⟩
  left
  refine⟨_,rfl,l,_,rfl,.inl a,_,_,rfl,rfl,_,rfl,?_⟩;rw[e8 (show (1:Int)<=(ns.map V.int).length by rw[ah];lia)];refine gC ?_;refine⟨_,_,rfl,rfl,_,rfl,?_⟩;rw[e8 (show ((ns.map V.int).length:Int)<=10 by rw[ah];lia)];refine eZ ?_;refine⟨_,rfl,l,ns,rfl,a,∅,λm c f=>?_⟩;refine⟨_,_,rfl,rfl,_,rfl,?_⟩;rw[fy (show ¬m<0 by have:=j m c;lia)];refine eZ ?_;refine⟨_,rfl,l,ns,rfl,a,bH (show ns.length+1<100 by lia) (!_),λp b=>?_⟩;have g:=aG.new (o:=.set (λd=>(firstMet (λi=>ns.getD i 0) ns.length).any (·==d)) (firstMet (λi=>ns.getD i 0) ns.length).length) b;refine⟨p,_,_,rfl,au,_,rfl,l,_,rfl,.inl (g.seq a),rfl,_,rfl,?_⟩;rw[GJ ns e,ah];simp only[decide_true,Bool.not_true];refine eZ ?_;exact k _ (aG.new b)
inductive Vk(K:af)(C:Addr)(vs:List V)(H:Hp)(Q:VK)(E:XK):Prop
 |mk (p dx l1 l2:Addr) (ns:List Int) (rs:List R5):vs=[.ref p,.ref l1,.ref l2]->H p=some (.ins C dx [])->bP K H l1 (ns.map V.int)->GI K H l2 rs->1<=ns.length->ns.length<=10->(∀n∈ns,0<=n)->ns.Nodup->rs.length<=20->(∀r∈rs,r.Ok ns.length)->(∀ln lr H',H ln=none->H lr=none->c7 K C H' p ln lr ns rs->(∀b o,H b=some o->b≠p->H' b=some o)->Q .fH H')->Vk K C vs H Q E
theorem HV{t:Ad}(T:Txt K mg t):cz P w K mg base iM 4 t.kQ t.pD ["self","names","ropes"]  (Vk K t.bD):=by
 refine T.A8.F.kh G5 λH Q E hr h=>?_
 ·obtain⟨p,i,z,y,ns,rs,rfl,hp,Y,hR,h1,h2,h3,h4,h5,h6,k⟩:=h
  refine⟨_,(aq (fE (cG (HU T) hr T.A9 (gV (pv 1)))) (aq (fE (cG (HS T) hr T.Ba (nZ (lS T.iN (pv 1)) (pv 2)))) (aq (fZ (pv 0) (fW ig (by rfl) T.tw boot_list (gV (pv 1))) rfl) (aq (fZ (pv 0) (fW ig (by rfl) T.tw boot_list (gV (pv 2))) rfl) (aq (fZ (pv 0) (lS T.iN (pv 1)) rfl) (bI (fZ (pv 0) (lS T.iN (pv 2)) rfl))))))),?_⟩
  left
  refine⟨_,rfl,z,ns,rfl,Y,h1,h2,h3,h4,λH1 r=>?_⟩;refine⟨_,rfl,z,_,rfl,.inl (r.seq Y),?_⟩;refine⟨_,rfl,(ns.length:Int),y,rs,-_,hR.mono r,h5,h6,?_⟩;have f:=r _ _ hp;have M:=hR.mono r;have A:=r.seq Y;obtain⟨_,c,e,hq,SX⟩:=id M;cases e;refine⟨_,rfl,z,_,rfl,.inl A,λd W=>?_⟩;have m:p≠d:=aE f W;have s2:=aG.new (o:=.lst (ns.map V.int)) W;refine⟨_,rfl,p,_,i,[],rfl,s2 _ _ f,T.fJ,T.sZ,!_,?_⟩;rw[dG (names:=[]) rfl rfl];generalize n:upd (upd H1 d (.lst (ns.map V.int))) p (.ins t.bD i ([]++[(Str.ofString "house_names",V.ref d)]))=H2;have G:∀b o,H1 b=some o->b≠p->H2 b=some o:=λb o e a=>by rw[<- n,aH a];exact s2 _ _ e
  have g:H2 p=some (.ins t.bD i [(Str.ofString "house_names",V.ref d)]):=by rw[<- n];exact au
  have O:H2 d=some (.lst (ns.map V.int)):=by rw[<- n,aH (bK m),au]
  have fr2:∀{b:Addr},H1 b=none->b≠p->b≠d->H2 b=none:=λ{b} e n1 n2=>by rw[<- n,aH n1,aH n2];exact e
  have S:bP K H2 z (ns.map V.int):=AD (λb o e a=>G b o e a) f A;have J:bP K H2 y c:=AD (λb o e a=>G b o e a) f hq;have N:cW K H2 (rs.map R5.D) c:=jH (λb o e a=>G b o e a) f SX;refine⟨_,rfl,y,_,rfl,.inl J,λj x=>?_⟩;have l:p≠j:=aE g x;have s3:=aG.new (o:=.lst c) x;refine⟨_,rfl,p,_,i,_,rfl,s3 _ _ g,T.fJ,T.gR,(by show 1<1000;decide),?_⟩;rw[dG (names:=["house_names"]) rfl (by decide +kernel)];generalize v:upd (upd H2 j (.lst c)) p (.ins t.bD i ([(Str.ofString "house_names",V.ref d)]++[(Str.ofString "rope_tuples",V.ref j)]))=H3;have I:∀b o,H2 b=some o->b≠p->H3 b=some o:=λb o e a=>by rw[<- v,aH a];exact s3 _ _ e
  have s:H3 p=some (.ins t.bD i [(Str.ofString "house_names",V.ref d),(Str.ofString "rope_tuples",V.ref j)]):=by rw[<- v];exact au
  have hr3:H3 j=some (.lst c):=by rw[<- v,aH (bK l),au]
  have U:=I _ _ O (bK m);have Z:bP K H3 z (ns.map V.int):=AD I g S;have V0:bP K H3 y c:=AD I g J;have R:cW K H3 (rs.map R5.D) c:=jH I g N;refine⟨_,rfl,z,_,rfl,.inl Z,_,rfl,p,_,i,_,rfl,s,T.fJ,T.mC,(by show 2<1000;decide),?_⟩;rw[dG (names:=["house_names","rope_tuples"]) rfl (by decide +kernel)];generalize B:upd H3 p (.ins t.bD i ([(Str.ofString "house_names",V.ref d),(Str.ofString "rope_tuples",V.ref j)]++[(Str.ofString "size",V.int ((ns.map V.int).length:Nat))]))=H4;have C:∀b o,H3 b=some o->b≠p->H4 b=some o:=λb o e a=>by rw[<- B,aH a];exact e
  have V1:H4 p=some (.ins t.bD i [(Str.ofString "house_names",V.ref d),(Str.ofString "rope_tuples",V.ref j),(Str.ofString "size",V.int ((ns.map V.int).length:Nat))]):=by rw[<- B];exact au
  have V2:bP K H4 y c:=AD C s V0;have X:cW K H4 (rs.map R5.D) c:=jH C s R;refine⟨_,rfl,y,_,rfl,.inl V2,_,rfl,p,_,i,_,rfl,V1,T.fJ,T.uC,(by show 3<1000;decide),?_⟩;rw[dG (names:=["house_names","rope_tuples","size"]) rfl (by decide +kernel)];have L:∀b o,H4 b=some o->b≠p->∀u,(upd H4 p u) b=some o:=λb o e a u=>by rw[aH a];exact e
  have eus:c.length=rs.length:=by rw[SX.length,ah]
  refine k d j _ (r.free W) ?_ ⟨⟨i,?_⟩,?_,c,?_,jH (λb o e a=>L b o e a _) V1 X⟩ ?_
  ·cases q:H j with
   |none=>rfl
   |some o =>
    have:=G j o (r _ _ q) (λe=>l e.symm)
    rw[x] at this;cases this
  ·rw[au,eus,ah]
   rfl
  ·exact L _ _ (C _ _ U (bK m)) (bK m) _
  ·exact L _ _ (C _ _ hr3 (bK l)) (bK l) _
  ·exact λb o e a=>L _ _ (C _ _ (I _ _ (G _ _ (r _ _ e) a) a) a) a _
inductive Vl(K:af)(C:Addr)(vs:List V)(H:Hp)(Q:VK)(E:XK):Prop
 |mk (p ln lr:Addr) (ns:List Int) (rs:List R5) (i:Nat) (n:Int):vs=[.ref p,.int i]->c7 K C H p ln lr ns rs->ns[i]?=some n->Q (.int n) H->Vl K C vs H Q E
theorem LB{t:Ad}(T:Txt K mg t):cz P w K mg base iM 1 t.pV t.uq ["self","house"]  (Vl K t.bD):=by
 refine T.E1.F.kh K1 λH Q E m h=>?_
 ·obtain⟨p,c,q,r,o,i,n,rfl,e,b,k⟩:=h
  obtain⟨⟨d,f⟩,a,j,g,l⟩:=id e;refine⟨_,(oR (xL (aY (pv 0) rfl) (pv 1))),?_⟩
  left
  refine⟨_,rfl,p,_,d,_,_,rfl,f,T.fJ,T.sZ,rfl,_,rfl,c,_,_,_,rfl,rfl,bP.of a,eY (v:=V.int n) (by rw[aj,b];rfl),k⟩
inductive Vm(K:af)(C:Addr)(vs:List V)(H:Hp)(Q:VK)(E:XK):Prop
 |mk (p ln lr:Addr) (ns:List Int) (rs:List R5) (i:Nat) (r:R5):vs=[.ref p,.int i]->c7 K C H p ln lr ns rs->rs[i]?=some r->(∀q,H q=some (.tup r.vs)∨cP K H q r.vs->Q (.ref q) H)->Vm K C vs H Q E
theorem Dp{t:Ad}(T:Txt K mg t):cz P w K mg base iM 1 t.pW t.ur ["self","number"]  (Vm K t.bD):=by
 refine T.zL.F.kh K2 λH Q E y h=>?_
 ·obtain⟨p,x,o,ns,z,i,r,rfl,m,b,k⟩:=h
  obtain⟨⟨j,n⟩,u,s,a,f⟩:=id m;obtain⟨v,c,g⟩:=f.get (i:=i) (d:=r.D) (by rw[aj,b];rfl);obtain⟨q,e,l⟩:=Rep.yY (ns:=r.ns) g;subst e;refine⟨_,(oR (xL (aY (pv 0) rfl) (pv 1))),?_⟩
  left
  exact⟨_,rfl,p,_,j,_,_,rfl,n,T.fJ,T.gR,rfl,_,rfl,o,_,_,_,rfl,rfl,bP.of a,eY c,k q (.inr l)⟩
inductive YY(K:af)(C:Addr)(vs:List V)(H:Hp)(Q:VK)(E:XK):Prop
 |mk (p ln lr:Addr) (ns:List Int) (rs:List R5) (i:Nat) (r:R5) (h:Int):vs=[.ref p,.int i,.int h]->c7 K C H p ln lr ns rs->rs[i]?=some r->Q (.int (if h=r.a then r.b else r.a)) H->YY K C vs H Q E
theorem qU{t:Ad}(T:Txt K mg t):cz P w K mg base iM 1 t.jQ t.nB ["self","rope","house"]  (YY K t.bD):=by
 refine T.nJ.F.kh yp λH Q E C h=>?_
 ·obtain⟨p,B,y,ns,G,i,r,x,rfl,s,j,k⟩:=h
  obtain⟨⟨o,u⟩,A,z,g,m⟩:=id s;obtain⟨v,l,n⟩:=m.get (i:=i) (d:=r.D) (by rw[aj,j];rfl);obtain⟨q,e,f⟩:=Rep.yY (ns:=r.ns) n;subst e;refine⟨_,(aq (sS 3 yp (xL (aY (pv 0) rfl) (pv 1))) (oR (yO (qT ud (pv 2) (xT (pv 3) aB)) (xT (pv 3) aB) (xT (pv 3) aB)))),?_⟩
  left
  refine⟨_,rfl,p,_,o,_,_,rfl,u,T.fJ,T.gR,rfl,_,rfl,y,_,_,_,rfl,rfl,bP.of g,eY l,?_⟩;refine⟨_,rfl,_,rfl,q,_,_,_,rfl,rfl,f,rfl,rfl,_,rfl,?_⟩;refine ko (λc=>?_) (λc=>?_)
  ·have b:x=r.a:=by simpa using c
   rw[ee b] at k;exact⟨_,rfl,q,_,_,_,rfl,rfl,f,rfl,k⟩
  ·have b:¬x=r.a:=by simpa using c
   rw[er b] at k;exact⟨_,rfl,q,_,_,_,rfl,rfl,f,rfl,k⟩
inductive adx(K:af)(C:Addr)(vs:List V)(H:Hp)(Q:VK)(E:XK):Prop
 |mk (p ln lr:Addr) (ns:List Int) (rs:List R5) (h:Int):vs=[.ref p,.int h]->c7 K C H p ln lr ns rs->rs.length<=20->(∀l H',aG H H'->H l=none->H' l=some (.lst (bR (SS rs h rs.length)))->Q (.ref l) H')->adx K C vs H Q E
theorem oV{t:Ad}(T:Txt K mg t):cz P w K mg base iM 1 t.i6 t.lB ["self","house"]  (adx K t.bD):=by
 refine T.lI.F.kh vR λH Q E hr h=>?_
 ·obtain⟨p,ln,lr,ns,rs,x,rfl,hT,AZ,k⟩:=h
  obtain⟨⟨dx,hp⟩,hn,A,j,R⟩:=id hT;have J:A.length=rs.length:=by rw[R.length,ah]
  refine⟨_,(oR (gq (kO vR ["number","rope","house"] [none,none,some 1]) rfl (Qc rfl T.E7 (gV (aY (pv 0) rfl))) (λ_ _ _ _=>by exact (KE K rfl (n:=2) rfl (i0 (gS 0 qY) (i0 (gS 1 qY) Ay)))) (λ_ _ _ _=>by exact (mP (jW (BA K rfl) (pv 2) (dU (nZ (yT K (pv 1) aB) (yT K (pv 1) aB))) (by with_unfolding_all rfl)))) (λ_ _ _ _=>by exact (pv 0)))),?_⟩
  left
  refine⟨_,rfl,p,_,dx,_,_,rfl,hp,T.fJ,T.gR,rfl,lr,A,rfl,bP.of j,λg f=>?_⟩;refine ir (n:=A.length) (λi r _=>r=bR (SS rs x i)) f (aag (bP.of j)) (Ub (bP.of j)) rfl ?_ ?_
  ·rintro i r z O l B m y H3 ⟨q,v,I,rfl,rfl,Y⟩
   have C:=Y A (l.seq (bP.of j));have N:rs[i]?=some rs[i]:=-_
   obtain⟨v',u,Z⟩:=R.get (i:=i) (d:=(rs[i]).D) (by rw[aj,N];rfl);rw[C] at u;cases u;obtain⟨b,e,hb⟩:=Rep.yY (ns:=(rs[i]).ns) Z;subst e;have s:=(l.out (o:=.tup [.int (i:Nat),.ref b]) (l.free I)).dB hb;have X:g≠q:=aE B I;refine⟨q,_,rfl,cP.of au,rfl,_,_,rfl,_,_,rfl,rfl,?_⟩;refine⟨_,rfl,_,rfl,b,_,_,_,rfl,rfl,s,rfl,_,rfl,b,_,_,_,rfl,rfl,s,rfl,g7,λc M=>?_⟩;refine⟨c,_,rfl,.inr (cP.of au),rfl,rfl,_,rfl,?_⟩;have eb:CC (V.int x) [V.int rs[i].a,V.int rs[i].b]=isAt rs x i:=by
    unfold isAt;rw[N];exact OD _ _ _
   have S:=l.out (o:=.tup [.int (i:Nat),.ref b]) (l.free I);have U:=S.out (o:=.tup [V.int rs[i].a,V.int rs[i].b]) (S.free M);have W:(upd (upd z q (HO.tup [V.int (i:Nat),V.ref b])) c (HO.tup [V.int rs[i].a,V.int rs[i].b])) g=some (.lst r):=by
    have L:(upd z q (HO.tup [V.int (i:Nat),V.ref b])) g=some (.lst r):=by rw[aH X];exact B
    rw[aH (aE L M)];exact L
   try dsimp only
   rw[er aF,eb];have hl:r.length<sizeLine:=by rw[m,ah];exact cJ (aN (WM rs x i) ∅) (cS (ay _))
   refine ko (λG=>?_) (λG=>?_)
   ·exact⟨_,rfl,fQ f O U W hl (by rw[m,Mh,ee G,jI])⟩
   ·exact jX O U W (by rw[m,Mh,er G,bY])
  ·intro r z l B m
   rw[J] at m;exact k g z l f (by rw[B,m])
inductive MZ(K:af)(C:Addr)(vs:List V)(H:Hp)(Q:VK)(E:XK):Prop
 |mk (p ln lr:Addr) (ns:List Int) (rs:List R5) (i:Nat) (n:Int):vs=[.ref p,.int i]->c7 K C H p ln lr ns rs->ns[i]?=some n->(∀q H',aG H H'->cP K H' q (cR ⟨n,0,0,-1⟩)->Q (.ref q) H')->MZ K C vs H Q E
theorem HW{t:Ad}(T:Txt K mg t):cz P w K mg base iM 2 t.vW t.AK ["town","house"]  (MZ K t.bD):=by
 refine T.Ea.F.kh OZ λH Q E d h=>?_
 ·obtain⟨p,c,l,m,g,i,n,rfl,a,b,k⟩:=h
  obtain⟨⟨e,j⟩,_,_,_⟩:=id a;refine⟨_,(oR (dU (YN (cM (pv 0) T.fJ T.E1 (LB T) d (gV (pv 1))) aB aB iO))),?_⟩
  left
  refine⟨_,rfl,p,e,_,rfl,j,rfl,_,rfl,p,c,l,m,g,i,n,rfl,a,b,x6,λq f=>?_⟩;exact k q _ (aG.new f) (cP.of au)
inductive QE(K:af)(C:Addr)(vs:List V)(H:Hp)(Q:VK)(E:XK):Prop
 |mk (p ln lr:Addr) (ns:List Int) (rs:List R5) (i:Nat) (x:R5) (a:Addr) (r:RM.Row):vs=[.ref p,.ref a,.int i]->c7 K C H p ln lr ns rs->rs[i]?=some x->cP K H a (cR r)->(¬r.ho+1<ns.length->∀H',aG H H'->Q .fH H')->(r.ho+1<ns.length->∀q H',aG H H'->cP K H' q (cR ⟨r.hd,r.co+x.c,r.ho+1,i⟩)->Q (.ref q) H')->QE K C vs H Q E
theorem M0{t:Ad}(T:Txt K mg t):cz P w K mg base iM 2 t.CQ t.Gm ["town","row","rope"]  (QE K t.bD):=by
 refine T.Lb.F.kh Mx λH Q E o h=>?_
 ·obtain⟨p,l,A,ns,y,i,x,a,r,rfl,g,k,b,m,n⟩:=h
  obtain⟨⟨f,j⟩,_,_,_⟩:=id g;refine⟨_,(aq (sS 3 Mx (bw fB (xT (pv 1) aB) aB)) (aq (cD (qT acB (pv 3) (aY (pv 0) rfl)) (oR iO) bz) (oR (dU (YN (xT (pv 1) aB) (bw fB (xT (pv 1) aB) (xT (cM (pv 0) T.fJ T.zL (Dp T) o (gV (pv 2))) aB)) (pv 3) (pv 2)))))),?_⟩
  left
  refine⟨_,rfl,a,_,_,_,rfl,rfl,b,rfl,_,_,rfl,rfl,?_⟩;refine⟨_,rfl,_,rfl,p,_,f,_,_,rfl,j,T.fJ,T.mC,rfl,_,_,rfl,rfl,_,rfl,?_⟩;refine ko (λe=>?_) (λe=>?_)
  ·have B:(ns.length:Int)<=r.ho+1:=g8 e
   exact m ∅ _ (aG.refl _)
  ·have B:¬(ns.length:Int)<=r.ho+1:=of_decide_eq_false (eq_false_of_ne_true e)
   refine⟨_,rfl,a,_,_,_,rfl,rfl,b,rfl,_,rfl,a,_,_,_,rfl,rfl,b,rfl,_,rfl,p,f,_,rfl,j,rfl,_,rfl,p,l,A,ns,y,i,x,rfl,g,k,λq s=>?_⟩;have d:cP K H q x.vs:=s.elim (λz=>cP.of z) id;refine⟨q,_,_,_,rfl,rfl,d,rfl,_,_,rfl,rfl,_,rfl,_,rfl,x6,λu v=>?_⟩;refine n ∅ u _ (aG.new v) (cP.of ?_);rw[au];show some (HO.tup [.int r.hd,.int (r.co+x.c),.int (r.ho+1),.int (i:Int)])=some (HO.tup [.int r.hd,.int (r.co+x.c),.int (r.ho+1),jV (i:Int)]);rw[aW ∅]
inductive YZ(K:af)(C:Addr)(vs:List V)(H:Hp)(Q:VK)(E:XK):Prop
 |mk (p ln lr c b:Addr) (ns:List Int) (rs:List R5) (live:List Nat) (nd:ns.Nodup) (ok:∀r∈rs,r.Ok ns.length) (hl:∀k∈live,k<rs.length) (R:Nat->RM.Row) (h:Nat):vs=[.ref p,.ref c,.ref b,.int h]->c7 K C H p ln lr ns rs->bP K H c (bR live)->wU K H b ns.length R->h<ns.length->rs.length<=20->RM.Sane (aV ns rs live nd ok hl) R->(∀q d H',aG H H'->cP K H' q (cR d)->RM.Uk (N:=aV ns rs live nd ok hl) ns.length R h d->Q (.ref q) H')->YZ K C vs H Q E
theorem aaL{t:Ad}(T:Txt K mg t):cz P w K mg base iM 3 t.ME t.Qu ["town","live","rows","house"]  (YZ K t.bD):=by
 refine T.YS.F.kh G3 λH Q E hr h=>?_
 ·obtain⟨p,ln,lr,c,b,ns,rs,e,n,m,i,R,x,rfl,hT,hC,hR,hx,AZ,aam,k⟩:=h
  obtain⟨⟨dx,hp⟩,_,_,_⟩:=id hT;obtain⟨ps,hP,ePs,Xn⟩:=hR;have enm:(aV ns rs e n m i).nm x=ns[x]:=by show ns.getD x 0=_;simp[az,hx]
  refine⟨_,(aq (sS 4 G3 (cG (HW T) hr T.Ea (nZ (pv 0) (pv 3)))) (aq (fS (fV (cM (pv 0) T.fJ T.lI (oV T) hr (gV (pv 3)))) (gT 5 G3) (bI (cD (jW rW (pv 5) (pv 1) (by with_unfolding_all rfl)) (aq (sS 6 G3 (cG (M0 T) hr T.Lb (Ir (pv 0) (xL (pv 2) (cM (pv 0) T.fJ T.nJ (qU T) hr (nZ (pv 5) (pv 3)))) (pv 5)))) (bI (cD (PW.pt (Bs (qT Az (pv 6) iO) (wN (qT (aak (Nat.lt_of_succ_lt (CF hr))) (yQ Kr (pv 6) Gg (wQ aB)) (yQ Kr (pv 4) Gg (wQ aB)))))) (bI (sS 4 G3 (pv 6))) bz))) bz))) (oR (pv 4)))),?_⟩
  left
  refine⟨_,rfl,_,rfl,p,ln,lr,ns,rs,x,ns[x],rfl,hT,aa hx,λp0 H0 s0 hp0=>?_⟩;have hown:cP K H0 p0 (cR (RM.own (aV ns rs e n m i) x)):=by unfold RM.own;rw[enm];exact hp0
  refine⟨_,rfl,p,dx,_,rfl,s0 _ _ hp,rfl,_,rfl,p,ln,lr,ns,rs,x,rfl,hT.mono s0,AZ,λl H1 s1 LO M=>?_⟩;have s01:=s0.trans s1;refine⟨l,rfl,⟨_,bP.of M⟩,?_⟩;generalize N:SS rs (x:Int) rs.length=v at M;refine se (K:=K) (a:=l) (xs:=bR v) (λj σ Z=>aG H1 Z/\∃(q:Addr) (d:RM.Row) (v5 v6:Option V),σ=[some (.ref p),some (.ref c),some (.ref b),some (.int x),some (.ref q),v5,v6]/\cP K Z q (cR d) /\
   (d=RM.own (aV ns rs e n m i) x∨∃f g,f∈v.take j/\RM.Gi (aV ns rs e n m i) f x g/\(R g).ho+1<ns.length/\d=RM.over (aV ns rs e n m i) f (R g))/\RM.le d (RM.own (aV ns rs e n m i) x) /\
   ∀f g,f∈v.take j->RM.Gi (aV ns rs e n m i) f x g->(R g).ho+1<ns.length->RM.le d (RM.over (aV ns rs e n m i) f (R g)))
   ⟨aG.refl _,p0,RM.own (aV ns rs e n m i) x,_,_,rfl,s1.dB hown,.inl rfl,RM.le_refl _,λf g he=>by simp at he⟩ (λj σ Z _ z=>bP.of (z.1 _ _ M)) ?_ ?_
  ·rintro j y σ Z hj ⟨s2,q,d,v5,v6,rfl,hq,d1,Y,O⟩
   have J:j<v.length:=by
    have:=(ai.mp hj).1
    rw[ah] at this;exact this
   rw[aj,aa J] at hj;cases hj;have et:v.take (j+1)=v.take j++[v[j]]:=by rw[uJ,aa J];rfl
   have X:v[j]∈v:=aQ J;have Y0:∀A∈v.take j,A<v[j]:=λA s=>WN (N▸Uq rs (x:Int) rs.length) J s;have D:(d=RM.own (aV ns rs e n m i) x∨∃f g,f∈v.take j++[v[j]]/\RM.Gi (aV ns rs e n m i) f x g/\(R g).ho+1<ns.length/\d=RM.over (aV ns rs e n m i) f (R g)):=d1.imp id λ⟨a1,a2,a3,a4⟩=>⟨a1,a2,List.mem_append_left _ a3,a4⟩;rw[et];show iz 5 (V.int ((v[j]:Nat):Int)) _ _ _;generalize v[j]=f at X Y0 D;rw[<- N,AE] at X;obtain⟨Xo,hat⟩:=X;have V3:=s01.trans s2;refine⟨_,rfl,_,rfl,c,_,rfl,.inl (V3.seq hC),rfl,rX e,_,rfl,?_⟩
   try dsimp only
   rw[er aF,zc];refine ko (λL=>?_) (λL=>?_)
   case refine_2 =>
    have L:f∉e:=λz=>L (e8 z);refine⟨s2,q,d,_,_,rfl,hq,D,Y,λA g s AB W=>?_⟩;rcases br.mp s with z|z
    ·exact O A g z AB W
    ·rw[bq.mp z] at AB
     exact eL AB.1 L
   have L:f∈e:=g8 L;have U:rs[f]?=some rs[f]:=aa Xo;have AB:RM.Gi (aV ns rs e n m i) f x (fR rs[f] x):=(uf L).mpr ⟨hat,rfl⟩;have hgn:fR rs[f] x<ns.length:=AB.lt.2.1;have hgs:=aam _ hgn;have Vo:(if (x:Int)=rs[f].a then rs[f].b else rs[f].a)=((fR rs[f] x:Nat):Int):=by
    have o:=m _ (aQ Xo);have h1:=o.a0;have h2:=o.b0;unfold fR;split <;> lia
   have Vp:(aV ns rs e n m i).c f=rs[f].c:=by show ((rs[f]?).map λr=>r.c).getD 0=_;rw[U];rfl
   have fu:∀g,RM.Gi (aV ns rs e n m i) f x g->g=fR rs[f] x:=λg a=>((uf L).mp a).2;generalize fR rs[f] x=g at AB hgn hgs Vo fu;have hpg:ps[g]?=some ps[g]:=aa ∅;have aaM:FF (ps.map V.ref) (if (x:Int)=rs[f].a then rs[f].b else rs[f].a)=some (.ref ps[g]):=by rw[Vo];exact eY (by rw[aj,hpg];rfl)
   have hrg:=V3.dB (Xn g _ hpg);refine⟨_,rfl,_,rfl,_,rfl,p,dx,_,rfl,V3 _ _ hp,rfl,_,rfl,_,rfl,p,ln,lr,ns,rs,f,rs[f],x,rfl,hT.mono V3,U,b,_,_,_,rfl,rfl,V3.seq hP,aaM,_,rfl,?_⟩;refine⟨p,ln,lr,ns,rs,f,rs[f],ps[g],R g,rfl,hT.mono V3,U,hrg,λW H3 s3=>?_,λW u H3 s3 hu=>?_⟩
   ·refine⟨_,rfl,rfl,_,rfl,eZ (eZ ?_)⟩
    refine⟨s2.trans s3,q,d,_,_,rfl,s3.dB hq,D,Y,λA I s B S=>?_⟩;rcases br.mp s with z|z
    ·exact O A I z B S
    ·rw[bq.mp z] at B
     rw[fu I B] at S;exact eL S W
   have eov:(⟨(R g).hd,(R g).co+rs[f].c,(R g).ho+1,f⟩:RM.Row)=RM.over (aV ns rs e n m i) f (R g):=by unfold RM.over;rw[Vp]
   rw[eov] at hu;have V0:=s3.dB hq;have G:=s2.trans s3;refine⟨_,rfl,rfl,_,rfl,gC ?_⟩;have lex:GH [V.int (RM.over (aV ns rs e n m i) f (R g)).hd,V.int (RM.over (aV ns rs e n m i) f (R g)).co,V.int (RM.over (aV ns rs e n m i) f (R g)).ho] [V.int d.hd,V.int d.co,V.int d.ho] (decide (RM.lt (RM.over (aV ns rs e n m i) f (R g)) d)):=RM.WE (by
    rcases d1 with z|⟨A,I,s,_,_,z⟩
    ·rw[z]
     intro _ _ e3
     have:(R g).ho+1=0:=e3
     lia
    ·have hlt':=Y0 A s
     rw[z];intro e1 e2 e3 e4;rcases e4 with e4|⟨_,e4|⟨_,e4|⟨_,e4⟩⟩⟩
     ·lia
     ·lia
     ·lia
     ·have:((f:Nat):Int)<((A:Nat):Int):=e4
      lia)
   have nw:∀r:RM.Row,¬(HT.lK (cR r).length 0 none=0/\HT.lK (cR r).length (cR r).length (some 3)=(cR r).length):=λr z=>eL z.2 (by show HT.lK 4 4 (some 3)≠4;decide);have ct:∀r:RM.Row,Cz (cR r) none (some 3)=[V.int r.hd,V.int r.co,V.int r.ho]:=λr=>rfl;refine⟨_,rfl,_,rfl,u,_,rfl,hu,nw _,λz1 hz1=>?_⟩;rw[ct];have t1:=aG.new (o:=.tup [V.int (RM.over (aV ns rs e n m i) f (R g)).hd,V.int (RM.over (aV ns rs e n m i) f (R g)).co,V.int (RM.over (aV ns rs e n m i) f (R g)).ho]) hz1;refine⟨_,rfl,_,rfl,q,_,rfl,t1.dB V0,nw _,λz2 hz2=>?_⟩;rw[ct];have t2:=aG.new (o:=.tup [V.int d.hd,V.int d.co,V.int d.ho]) hz2;have G:=G.trans (t1.trans t2);have hu:=(t1.trans t2).dB hu;have V0:=(t1.trans t2).dB V0;refine⟨z1,z2,_,_,_,rfl,rfl,cP.of (t2 _ _ au),cP.of au,rfl,lex,_,rfl,?_⟩;by_cases C:RM.lt (RM.over (aV ns rs e n m i) f (R g)) d
   ·rw[e8 C]
    refine gC ?_;refine⟨_,rfl,G,u,_,_,_,rfl,hu,.inr ⟨f,g,cY _ (bq.mpr rfl),AB,W,rfl⟩,RM.le_trans (RM.YG C) Y,λA I s B S=>?_⟩;rcases br.mp s with z|z
    ·exact RM.le_trans (RM.YG C) (O A I z B S)
    ·rw[bq.mp z] at B ⊢
     rw[fu I B];exact RM.le_refl _
   ·rw[fy C]
    refine eZ ⟨G,q,d,_,_,rfl,V0,D,Y,λA I s B S=>?_⟩;rcases br.mp s with z|z
    ·exact O A I z B S
    ·rw[bq.mp z] at B ⊢
     rw[fu I B];exact C
  ·rintro σ Z ⟨s2,q,d,v5,v6,rfl,hq,d1,Y,O⟩
   rw[ah,gi (ay _)] at O;refine⟨_,rfl,k q d Z (s01.trans s2) hq ⟨d1.imp id λ⟨a1,a2,_,a4⟩=>⟨a1,a2,a4⟩,Y,λf g AB W=>O f g ?_ AB W⟩⟩;rw[<- N,AE];exact⟨i f AB.1,((uf AB.1).mp AB).1⟩
inductive Vq(K:af)(C:Addr)(vs:List V)(H:Hp)(Q:VK)(E:XK):Prop
 |mk (p ln lr c b:Addr) (ns:List Int) (rs:List R5) (live:List Nat) (nd:ns.Nodup) (ok:∀r∈rs,r.Ok ns.length) (hl:∀k∈live,k<rs.length) (R:Nat->RM.Row) (h:Nat):vs=[.ref p,.ref c,.ref b,.int h]->c7 K C H p ln lr ns rs->bP K H c (bR live)->wU K H b ns.length R->h<ns.length->rs.length<=20->wW ns.length rs.length R->(∀v H',aG H H'->uN K H' v (zd (aV ns rs live nd ok hl) R h)->Q v H')->Vq K C vs H Q E
theorem Vr{t:Ad}(T:Txt K mg t):cz P w K mg base iM 3 t.CS t.Gp ["town","live","rows","house"]  (Vq K t.bD):=by
 refine T.Qw.F.kh G4 λH Q E z h=>?_
 ·obtain⟨p,U,lr,c,b,ns,rs,live,nd,ok,o,R,i,rfl,M,hC,hRw,Y,AZ,fit,k⟩:=h
  obtain⟨⟨dx,hp⟩,_,_,_⟩:=id M;obtain⟨q,L,ePs,Xn⟩:=id hRw;have I:q[i]?=some q[i]:=aa ∅;have x:FF (q.map V.ref) (i:Int)=some (.ref q[i]):=eY (by rw[aj,I];rfl);have y:=Xn i _ I;have fi:=fit i Y;refine⟨_,(aq (sS 4 G4 (xT (xL (pv 2) (pv 3)) aB)) (aq (cD (PW.pt (Jp (jW rA (pv 4) (pv 1) (by with_unfolding_all rfl)) (Kh (jW rA (pv 4) (cM (pv 0) T.fJ T.lI (oV T) z (gV (pv 3))) (by with_unfolding_all rfl))))) (oR iO) bz) (aq (sS 5 G4 (cM (pv 0) T.fJ T.nJ (qU T) z (nZ (pv 4) (pv 3)))) (aq (cD (qT KC (cG (M0 T) z T.Lb (Ir (pv 0) (xL (pv 2) (pv 5)) (pv 4))) (xL (pv 2) (pv 3))) (oR iO) bz) (oR (dU (nZ (pv 4) (pv 5)))))))),?_⟩
  left
  refine⟨_,rfl,_,rfl,KH L x (WO y rfl ?_)⟩;have f:∀{H3:Hp},aG H H3->(∀k g,¬RM.om (aV ns rs live nd ok o) R k i g)->Q .fH H3:=λs3 no=>k .fH _ s3 (by rw[Mi no];rfl);show iz 4 (jV (R i).by_) _ _ _;rcases fi.by_ with eby|⟨b0,b1⟩
  ·rw[show jV (R i).by_=V.fH by rw[eby];rfl]
   refine⟨_,rfl,_,rfl,c,_,rfl,.inl hC,rfl,rX live,_,rfl,?_⟩
   try dsimp only
   rw[ee rfl,WQ];refine gC (gC (f (aG.refl _) λn g t=>?_))
   have:=t.by
   lia
  obtain⟨d,ekk⟩:∃d:Nat,(R i).by_=(d:Int):=⟨(R i).by_.toNat,∅⟩;have A:d<rs.length:=∅
  rw[show jV (R i).by_=V.int (d:Nat) by rw[ekk,aW ∅]];have r:∀n g,RM.om (aV ns rs live nd ok o) R n i g->n=d:=λn g t=>by have:=t.by;lia
  refine⟨_,rfl,_,rfl,c,_,rfl,.inl hC,rfl,rX live,_,rfl,?_⟩
  try dsimp only
  rw[ee rfl,zc];by_cases D:d∈live
  case neg =>
   rw[fy D];refine gC (gC (f (aG.refl _) λn g t=>?_))
   have:=r n g t
   subst this;exact D t.AB.1
  rw[e8 D];refine eZ ?_;refine⟨_,rfl,_,rfl,p,dx,_,rfl,hp,rfl,_,rfl,p,U,lr,ns,rs,i,rfl,M,AZ,λl H1 v LO N=>?_⟩;refine⟨l,_,rfl,.inl (bP.of N),rfl,rX _,_,rfl,?_⟩
  try dsimp only
  rw[ee rfl,zc];by_cases m:d∈SS rs (i:Int) rs.length
  case neg =>
   rw[fy m];refine gC (f v λn g t=>?_)
   have:=r n g t
   subst this;exact m (AE.mpr ⟨A,((uf D).mp t.AB).1⟩)
  rw[e8 m];refine eZ ?_;have m:=(AE.mp m).2;have G:rs[d]?=some rs[d]:=aa A;have Vo:=Qg (h:=i) A ok;have W:fR rs[d] i<ns.length:=OE A ok;have B:=Us (ns:=ns) (rs:=rs) (live:=live) (nd:=nd) (ok:=ok) (hl:=o) (R:=R) (h:=i) D;have Vp:=ac2 (ns:=ns) (live:=live) (nd:=nd) (ok:=ok) (hl:=o) A;have s:∀g,RM.om (aV ns rs live nd ok o) R d i g->g=fR rs[d] i:=λg t=>aao t;refine⟨_,rfl,p,dx,_,rfl,v _ _ hp,rfl,_,rfl,_,rfl,p,U,lr,ns,rs,d,rs[d],i,rfl,M.mono v,G,?_⟩;show iz 5 (V.int (if (i:Int)=rs[d].a then rs[d].b else rs[d].a)) _ _ _;rw[Vo];generalize fR rs[d] i=g at Vo W B s;have C:q[g]?=some q[g]:=aa ∅;have X:FF (q.map V.ref) (g:Int)=some (.ref q[g]):=eY (by rw[aj,C];rfl);refine⟨_,rfl,_,rfl,_,rfl,KH (v.seq L) X ⟨_,rfl,p,U,lr,ns,rs,d,rs[d],q[g],R g,rfl,M.mono v,G,v.dB (Xn g _ C),λZ H2 s2=>?_,λZ u H2 s2 hu=>?_⟩⟩
  ·have j:=v.trans s2
   refine⟨_,rfl,_,rfl,KH (j.seq L) x ⟨.none,RM.DL (R i),rfl,RM.yZ (j.dB y),rfl,RM.y9 _,cJ (fz (aN (mE _ _) (!_)) _) z.units,_,rfl,?_⟩⟩;refine gC (f j λn J t=>?_);have S:=r n J t;subst S;have e2:=s J t;subst e2;exact Z t.cut
  ·have j:=v.trans s2
   have eov:(⟨(R g).hd,(R g).co+rs[d].c,(R g).ho+1,d⟩:RM.Row)=RM.over (aV ns rs live nd ok o) d (R g):=by unfold RM.over;rw[Vp]
   rw[eov] at hu;refine⟨_,rfl,_,rfl,KH (j.seq L) x ⟨RM.DL (RM.over (aV ns rs live nd ok o) d (R g)),RM.DL (R i),RM.yZ hu,RM.yZ (j.dB y),RM.y9 _,RM.y9 _,cJ (fz (aN (mE _ _) (by rw[RM.JE];decide)) _) z.units,_,rfl,?_⟩⟩;rw[RM.Mg (show (-1:Int)<=(d:Nat) by lia) fi.by1];by_cases e:RM.over (aV ns rs live nd ok o) d (R g)=R i
   case neg =>
    rw[fy e];refine gC (f j λn J t=>?_);have S:=r n J t;subst S;have e2:=s J t;subst e2;exact e t.eq.symm
   rw[e8 e];refine eZ ?_;have hh:RM.om (aV ns rs live nd ok o) R d i g:=by
    obtain⟨g2,t⟩:=B.mpr ⟨m,Z,e.symm⟩
    have:=s g2 t
    subst this;exact t
   refine⟨_,rfl,_,rfl,g7,λo2 O=>?_⟩;exact k (.ref o2) _ (j.trans (aG.new O)) (by rw[ug.mpr hh];exact⟨o2,rfl,cP.of au⟩)
inductive Y3(K:af)(C:Addr)(vs:List V)(H:Hp)(Q:VK)(E:XK):Prop
 |mk (p ln lr c b:Addr) (ns:List Int) (rs:List R5) (live:List Nat) (nd:ns.Nodup) (ok:∀r∈rs,r.Ok ns.length) (hl:∀k∈live,k<rs.length) (R:Nat->RM.Row):vs=[.ref p,.ref c,.ref b]->c7 K C H p ln lr ns rs->bP K H c (bR live)->wU K H b ns.length R->ns.length<=12->rs.length<=20->wW ns.length rs.length R->(∀l H',aG H H'->H l=none->aan K H' l ns.length (zd (aV ns rs live nd ok hl) R)->Q (.ref l) H')->Y3 K C vs H Q E
theorem aaQ{t:Ad}(T:Txt K mg t):cz P w K mg base iM 4 t.MF t.Qv ["town","live","rows"]  (Y3 K t.bD):=by
 refine T.YT.F.kh U1 λH Q E O h=>?_
 ·obtain⟨p,L,W,c,b,ns,D,d,G,B,A,R,rfl,C,S,u,Xp,I,s,k⟩:=h
  obtain⟨⟨U,V⟩,_,_,_⟩:=id C;refine⟨_,(oR (gq (kO U1 ["house","live","rows","town"] [none,some 1,some 2,some 0]) rfl (gB rfl T.jy (gV (aY (pv 0) rfl))) (λ_ _ _ _=>by exact (gS 0 Sb)) (λ_ _ _ _=>by exact mO) (λ_ _ _ _=>by exact (cG (Vr T) O T.Qw (YN (pv 3) (pv 1) (pv 2) (pv 0)))))),?_⟩
  left
  refine⟨_,rfl,p,_,U,_,_,rfl,V,T.fJ,T.mC,rfl,(ns.length:Int),rfl,∅,∅,λy a=>?_⟩;refine ir (n:=((ns.length:Int)).toNat) (λi l m=>l.length=i/\∀(j:Nat) v,l[j]?=some v->uN K m v (zd (aV ns D d G B A) R j)) a By sq ⟨rfl,λj v e=>by simp at e⟩ ?_ ?_
  ·rintro i l m J g q ⟨o,f⟩ x Z ⟨rfl,rfl⟩
   refine⟨_,rfl,_,rfl,_,rfl,_,rfl,p,L,W,c,b,ns,D,d,G,B,A,R,i,by rw[gE];rfl,C.mono g,g.seq S,u.mono g,∅,I,s,λv Y r N=>?_⟩;refine fQ a J (g.trans r) (r _ _ q) (by rw[o];exact cS ∅) ⟨by rw[av,o];rfl,λj w e=>?_⟩;refine uN.lst (r _ _ q) ?_;rcases Gj e with z|⟨M,X⟩
   ·exact (f j w z).mono r
   ·rw[M,X,o];exact N
  rintro l m g q ⟨o,f⟩;exact k y m g a ⟨l,q,∅,f⟩
inductive QF(K:af)(C:Addr)(vs:List V)(H:Hp)(Q:VK)(E:XK):Prop
 |mk (p ln lr c b:Addr) (ns:List Int) (rs:List R5) (live:List Nat) (nd:ns.Nodup) (ok:∀r∈rs,r.Ok ns.length) (hl:∀k∈live,k<rs.length) (R:Nat->RM.Row):vs=[.ref p,.ref c,.ref b]->c7 K C H p ln lr ns rs->bP K H c (bR live)->wU K H b ns.length R->ns.length<=12->rs.length<=20->wW ns.length rs.length R->(∀l os H',aG H H'->H l=none->H' l=some (.lst (bR os))->eU (aV ns rs live nd ok hl) R os->os.length<=12->Q (.ref l) H')->QF K C vs H Q E
theorem M2{t:Ad}(T:Txt K mg t):cz P w K mg base iM 5 t.xu t.Gn ["town","live","rows"]  (QF K t.bD):=by
 refine T.C1.F.kh My λH Q E hr h=>?_
 ·obtain⟨p,ln,lr,c,b,ns,U,a,L,S,N,R,rfl,hT,hC,O,Xp,AZ,V,k⟩:=h
  refine⟨_,(oR (cB EV T.Hq boot_sorted (gV (gq (kO My ["up"] [none]) rfl (fV (cG (aaQ T) hr T.YT (Ir (pv 0) (pv 1) (pv 2)))) (λ_ _ _ _=>by exact (gS 0 Mz)) (λ_ _ _ _=>by exact (mP (qT Az (pv 0) iO))) (λ_ _ _ _=>by exact (yT K (pv 0) aB)))))),?_⟩
  left
  refine⟨_,rfl,_,rfl,_,rfl,p,ln,lr,c,b,ns,U,a,L,S,N,R,rfl,hT,hC,O,Xp,AZ,V,λlu H2 s2 alH hO=>?_⟩;obtain⟨Z,d,evs,I⟩:=hO;refine⟨lu,rfl,⟨_,bP.of d⟩,λJ j=>?_⟩;refine ir (n:=Z.length) (λi W _=>∃f:List Nat,W=bR f/\f.length<=i/\f.Nodup/\∀k,k∈f↔∃h g,h<i/\RM.om (aV ns U a L S N) R k h g) j (DK (bP.of d)) (vN (bP.of d)) ⟨[],rfl,bM _,k8,λk=>⟨λz=>eL z (-_),λ⟨_,_,z,_⟩=>eL z (rY _)⟩⟩ ?_ ?_
  ·rintro i W H3 C r D ⟨f,rfl,X,G,x⟩ y H4 ⟨rfl,hv⟩
   have u:=hv _ (r.seq (bP.of d));rw[aa C] at u;cases u;have o:=(I i _ (aa C)).mono r;generalize Z[i]=v at o;cases A:zd (aV ns U a L S N) R i with
   |none =>
    rw[A] at o;have o:v=.fH:=o;subst o;refine⟨_,rfl,rfl,_,rfl,eZ ?_⟩;refine jX C r D ⟨f,rfl,∅,G,λk=>(x k).trans ⟨λ⟨h,g,z,t⟩=>⟨h,g,∅,t⟩,λ⟨h,g,z,t⟩=>⟨h,g,?_,t⟩⟩⟩;by_cases e:h=i
    ·subst e
     rw[ug.mpr t] at A;cases A
    ·lia
   |some q =>
    rw[A] at o;obtain⟨t1,rfl,ht⟩:=o;have m:=(ug (k:=q.1) (g:=q.2)).mp A;refine⟨_,rfl,rfl,_,rfl,gC ?_⟩;refine⟨_,rfl,t1,_,0,_,rfl,rfl,ht,rfl,?_⟩;refine fQ j C r D (by rw[ah];exact cS ∅) ⟨f++[q.1],by rw[jI],by rw[av];exact Nat.add_le_add_right X 1,Gr.BB G λz=>?_,λk=>?_⟩
    ·obtain⟨h,g,z1,t⟩:=(x _).mp z
     have:=(t.one m).1
     lia
    ·rw[br,bq,x]
     constructor
     ·rintro (⟨h,g,z,t⟩|rfl)
      ·exact⟨h,g,∅,t⟩
      ·exact⟨i,q.2,∅,m⟩
     ·rintro⟨h,g,z,t⟩
      by_cases e:h=i
      ·subst e
       exact .inr (t.uniq m).1
      ·exact .inl ⟨h,g,∅,t⟩
  rintro W H3 r D ⟨f,rfl,X,G,x⟩;refine⟨J,f.map λk:Nat=>(k:Int),rfl,bP.of (by rw[D,jJ]),by rw[ah];lia,λl ms Y s pw=>?_⟩;obtain⟨os,M,o1,o2,o3⟩:=Mj s pw G;rw[M];have B:=s2.trans r;refine k l os _ (B.trans (aG.new Y)) (B.free Y) au ⟨o1,λk=>?_⟩ ∅;rw[o2,x];constructor
  ·rintro⟨h,g,_,t⟩;exact⟨h,g,t⟩
  ·rintro⟨h,g,t⟩
   have:h<ns.length:=(om.lt t).1
   exact⟨h,g,∅,t⟩
theorem Et{p:Nat->Bool}{xs:List Nat}{i:Nat}(a:i<xs.length):(xs.take (i+1)).filter p=(xs.take i).filter p++if p xs[i] then [xs[i]] else []:=by
 rw[ju a,fO];congr 1;cases e:p xs[i]
 ·rw[er (!_),r9 (by rw[e];decide)];rfl
 ·rw[ee rfl,r8 e];rfl
inductive M3(K:af)(C:Addr)(vs:List V)(H:Hp)(Q:VK)(E:XK):Prop
 |mk (p ln lr c b:Addr) (ns:List Int) (rs:List R5) (live:List Nat) (nd:ns.Nodup) (ok:∀r∈rs,r.Ok ns.length) (hl:∀k∈live,k<rs.length) (R:Nat->RM.Row) (h:Int):vs=[.ref p,.ref c,.ref b,.int h]->c7 K C H p ln lr ns rs->bP K H c (bR live)->wU K H b ns.length R->ns.length<=12->rs.length<=20->wW ns.length rs.length R->(∀l os H',aG H H'->H l=none->H' l=some (.lst (bR (os.filter (isAt rs h))))->eU (aV ns rs live nd ok hl) R os->os.length<=12->Q (.ref l) H')->M3 K C vs H Q E
theorem Pp{t:Ad}(T:Txt K mg t):cz P w K mg base iM 6 t.vX t.AL ["town","live","rows","house"]  (M3 K t.bD):=by
 refine T.JN.F.kh BO λH Q E W h=>?_
 ·obtain⟨p,V,X,c,b,Y,rs,m,nd,ok,S,R,x,rfl,L,hC,C,Xp,U,u,k⟩:=h
  refine⟨_,(aq (sS 4 BO (cM (pv 0) T.fJ T.lI (oV T) W (gV (pv 3)))) (oR (gq (kO BO ["rope","joined"] [none,some 4]) rfl (fV (AA (M2 T) (W.mono (!_)) rfl T.zO T.C1.F.kp T.C1.B .nil mK (Ir (pv 0) (pv 1) (pv 2)))) (λ_ _ _ _=>by exact (gS 0 IE)) (λ_ _ _ _=>by exact (mP (jW (BA K rfl) (pv 0) (pv 1) (by with_unfolding_all rfl)))) (λ_ _ _ _=>by exact (pv 0))))),?_⟩
  left
  obtain⟨⟨dx,hp⟩,_⟩:=id L;refine⟨_,rfl,p,dx,_,rfl,hp,rfl,_,rfl,p,V,X,Y,rs,x,rfl,L,U,λlj H1 o Z D=>?_⟩;refine⟨_,rfl,_,rfl,_,rfl,p,V,X,c,b,Y,rs,m,nd,ok,S,R,rfl,L.mono o,o.seq hC,C.mono o,Xp,U,u,λlo os H2 I Vs e j N=>?_⟩;have G:=I _ _ D;have v:∀k∈os,decide (k∈SS rs x rs.length)=isAt rs x k:=λk hk=>by
   obtain⟨h,g,t⟩:=(j.2 k).mp hk;have A:k<rs.length:=S k t.AB.1;by_cases z:isAt rs x k=true
   ·rw[z];exact e8 (AE.mpr ⟨A,z⟩)
   ·rw[Bool.not_eq_true] at z
    rw[z];refine fy λy=>?_;rw[(AE.mp y).2] at z;cases z
  refine⟨lo,rfl,⟨_,bP.of e⟩,λJ a=>?_⟩;refine ir (n:=(bR os).length) (λi M _=>M=bR ((os.take i).filter (isAt rs x))) a (DK (bP.of e)) (vN (bP.of e)) rfl ?_ ?_
  ·rintro i M H3 q f l rfl y H4 ⟨rfl,r⟩
   have r:=r _ (f.seq (bP.of e));have d:i<os.length:=by rw[ah] at q;exact q
   rw[aj,aa d] at r;cases r;refine⟨_,rfl,_,rfl,lj,_,rfl,.inl (bP.of (f _ _ G)),rfl,rX _,_,rfl,?_⟩
   try dsimp only
   rw[er aF,zc,v _ (aQ d)];refine ko (λs=>?_) (λs=>?_)
   ·refine⟨_,rfl,?_⟩
    refine fQ a q f l ?_ ?_
    ·rw[ah]
     refine cS (aN (aX _ _) ?_);rw[bQ];lia
    ·rw[Et d,ee s,jI]
   ·refine jX q f l ?_
    rw[Et d,er s,bY]
  ·rintro M H3 f l rfl
   rw[ah,iX] at l;have O:=(o.trans I).trans f;exact k J os _ O ((o.trans I).free a) l j N
inductive Vt(K:af)(C:Addr)(vs:List V)(H:Hp)(Q:VK)(E:XK):Prop
 |mk (p ln lr:Addr) (ns:List Int) (rs:List R5) (i:Nat) (r:R5) (g:Nat) (z:Int):vs=[.ref p,.int i,.int g]->c7 K C H p ln lr ns rs->rs[i]?=some r->([1,2,4]:List Int)[g]?=some z->Q (.bl (!decide (Builtin.bitAnd r.e z=0))) H->Vt K C vs H Q E
theorem LC{t:Ad}(T:Txt K mg t):cz P w K mg base iM 1 t.pX t.uu ["self","rope","group"]  (Vt K t.bD):=by
 refine T.E2.F.kh K3 λH Q E C h=>?_
 ·obtain⟨p,B,u,ns,G,i,r,g,z,rfl,o,b,c,k⟩:=h
  obtain⟨⟨m,s⟩,A,y,a,j⟩:=id o;obtain⟨v,f,l⟩:=j.get (i:=i) (d:=r.D) (by rw[aj,b];rfl);obtain⟨q,e,n⟩:=Rep.yY (ns:=r.ns) l;subst e;refine⟨_,(oR (qE sf (bw ZW (xT (xL (aY (pv 0) rfl) (pv 1)) aB) (xT (mJ rfl T.nP (v:=.ref t.ff) rfl) (pv 2))) aB)),?_⟩
  left
  refine⟨_,rfl,p,_,m,_,_,rfl,s,T.fJ,T.gR,rfl,_,rfl,u,_,_,_,rfl,rfl,bP.of a,eY f,?_⟩;refine⟨q,_,_,_,rfl,rfl,n,rfl,?_⟩;have x:([.int 1,.int 2,.int 4]:List V)[g]?=some (.int z):=by
   have e:([.int 1,.int 2,.int 4]:List V)=([1,2,4]:List Int).map V.int:=rfl;rw[e,aj,c];rfl
  refine⟨_,rfl,_,_,_,_,rfl,rfl,T.gv H,eY x,_,_,rfl,rfl,rfl,?_⟩;have e:decide (V.int (Builtin.bitAnd r.e z)=V.int 0)=decide (Builtin.bitAnd r.e z=0):=-_
  rw[e];exact k
inductive JY(K:af)(C:Addr)(vs:List V)(H:Hp)(Q:VK)(E:XK):Prop
 |mk (p ln lr:Addr) (ns:List Int) (rs:List R5) (i:Nat) (r:R5):vs=[.ref p,.int i]->c7 K C H p ln lr ns rs->rs[i]?=some r->Q (.int r.d) H->JY K C vs H Q E
theorem M4{t:Ad}(T:Txt K mg t):cz P w K mg base iM 2 t.sM t.xx ["town","rope"]  (JY K t.bD):=by
 refine T.Hf.F.kh MA λH Q E e h=>?_
 ·obtain⟨p,d,l,m,g,i,r,rfl,b,c,k⟩:=h
  obtain⟨⟨f,j⟩,_⟩:=id b;refine⟨_,(oR (xT (cM (pv 0) T.fJ T.zL (Dp T) e (gV (pv 1))) aB)),?_⟩
  left
  refine⟨_,rfl,p,f,_,rfl,j,rfl,_,rfl,p,d,l,m,g,i,r,rfl,b,c,λq a=>?_⟩;have a:cP K H q r.vs:=a.elim cP.of id;exact⟨q,_,_,_,rfl,rfl,a,rfl,k⟩
inductive HZ(K:af)(CT C NW:Addr)(vs:List V)(H:Hp)(Q:VK)(E:XK):Prop
 |mk (p tp lu ln lr:Addr) (ns:List Int) (rs:List R5) (ws:List (List Nat)) (i:Int):vs=[.ref p,.int i]->c7 K CT H tp ln lr ns rs->Qh C H p tp lu ws->ws.length=rs.length->(∀(j:Nat) w l H',i=(j:Int)->ws[j]?=some w->aG H H'->H l=none->H' l=some (.lst (bR w))->Q (.ref l) H')->(¬(0<=i/\i<rs.length)->E (.ref NW) none H)->HZ K CT C NW vs H Q E
theorem A0{t:Ad}(T:Txt K mg t):cz P w K mg base (EU P w) 1 t.gO t.iS ["self","rope"]  (HZ K t.bD t.c8 t.CY):=by
 refine T.lV.F.W1 AX λH Q E A h=>?_
 ·obtain⟨p,v,G,I,L,M,rs,g,i,rfl,B,C,J,k,u⟩:=h
  obtain⟨⟨q,s⟩,c,n,D,f⟩:=id C;obtain⟨⟨y,d⟩,_⟩:=id B;refine⟨_,(aq (cD (jo (jD qX pR aB (pv 1) (aY (aY (pv 0) rfl) rfl))) (bI (Me rfl T.U6 T.U7 A.hd gG)) bz) (oR (fW ig (by rfl) T.tw boot_list (gV (xL (aY (pv 0) rfl) (pv 1)))))),?_⟩
  left
  refine⟨_,rfl,_,_,rfl,rfl,_,rfl,?_⟩;by_cases o:0<=i
  case neg =>
   rw[fy o];exact eZ ⟨_,rfl,gC (u λz=>o z.1)⟩
  rw[e8 o];refine gC ?_;refine⟨_,rfl,p,_,q,_,_,rfl,s,T.jk,T.nL,rfl,v,_,y,_,_,rfl,d,T.fJ,T.uC,rfl,_,_,rfl,rfl,_,rfl,?_⟩;by_cases e:i<(rs.length:Int)
  case neg =>
   rw[fy e];exact gC (u λz=>e z.2)
  rw[e8 e];refine eZ ?_;obtain⟨j,rfl⟩:∃j:Nat,i=(j:Int):=⟨i.toNat,∅⟩;have x:j<g.length:=∅
  have a:g[j]?=some g[j]:=aa x;have b:c[j]?=some c[j]:=aa ∅;have m:FF (c.map V.ref) (j:Int)=some (.ref c[j]):=eY (by rw[aj,b];rfl);refine⟨_,rfl,p,_,q,_,_,rfl,s,T.jk,T.nM,rfl,_,rfl,G,_,_,_,rfl,rfl,bP.of n,m,c[j],_,rfl,.inl (bP.of (f j _ _ b a)),λl r=>?_⟩;exact k j _ l _ rfl a (aG.new r) r au
inductive QG(NG:Addr)(vs:List V)(H:Hp)(Q:VK)(E:XK):Prop
 |mk (g:Int):vs=[.int g]->(0<=g/\g<3->Q .fH H)->(¬(0<=g/\g<3)->E (.ref NG) none H)->QG NG vs H Q E
theorem tX{t:Ad}(T:Txt K mg t):cz P w K mg base (EU P w) 1 t.kW t.pH ["group"]  (QG t.AQ):=by
 refine T.eV.F.W1 G7 λH Q E d h=>?_
 ·obtain⟨g,rfl,k,c⟩:=h
  refine⟨_,(bI (cD (jo (jD qX pR aB (pv 0) (lS T.iN (mJ rfl T.nP (v:=.ref t.ff) rfl)))) (bI (Me rfl T.Sf T.Sg d.hd gG)) bz)),?_⟩
  left
  refine⟨_,rfl,_,_,rfl,rfl,_,rfl,?_⟩;by_cases b:0<=g
  case neg =>
   rw[fy b];exact eZ ⟨_,rfl,gC (c λz=>b z.1)⟩
  rw[e8 b];refine gC ?_;refine⟨_,_,rfl,.inr (T.gv H),_,_,rfl,rfl,_,rfl,?_⟩;by_cases a:g<3
  case neg =>
   have e:decide (g<((([.int 1,.int 2,.int 4]:List V).length:Nat):Int))=false:=fy a;rw[e];exact gC (c λz=>a z.2)
  have e:decide (g<((([.int 1,.int 2,.int 4]:List V).length:Nat):Int))=true:=e8 a;rw[e];exact eZ (k ⟨b,a⟩)
inductive Vu(K:af)(CT C NG:Addr)(vs:List V)(H:Hp)(Q:VK)(E:XK):Prop
 |mk (p tp lu ln lr:Addr) (ns:List Int) (rs:List R5) (ws:List (List Nat)) (g:Int):vs=[.ref p,.int g]->c7 K CT H tp ln lr ns rs->Qh C H p tp lu ws->ws.length=rs.length->rs.length<=20->(∀r∈rs,1<=r.e/\r.e<=7)->(∀(gg:Nat) l H',g=(gg:Int)->gg<3->aG H H'->H l=none->H' l=some (.lst (bR (ze rs ws gg rs.length)))->Q (.ref l) H')->(¬(0<=g/\g<3)->E (.ref NG) none H)->Vu K CT C NG vs H Q E
theorem FZ{t:Ad}(T:Txt K mg t):cz P w K mg base (EU P w) 2 t.jR t.nC ["self","group"]  (Vu K t.bD t.c8 t.AQ):=by
 refine T.sV.F.W1 yq λH Q E S h=>?_
 ·obtain⟨p,s,lu,Z,lr,ns,rs,d,g,rfl,W,hW,ew,AZ,X,k,kx⟩:=h
  obtain⟨⟨G,J⟩,L,D,els,v⟩:=id hW;obtain⟨⟨O,j⟩,_⟩:=id W;refine⟨_,(aq (fE (AA (tX T) (S.mono (!_)) rfl T.eV.g T.eV.F.kp T.eV.B .nil YF (gV (pv 1)))) (oR (gq (kO yq ["rope","group","self"] [none,some 1,some 0]) rfl (gB rfl T.jy (gV (aY (aY (pv 0) rfl) rfl))) (λ_ _ _ _=>by exact (gS 0 BP)) (λ_ _ _ _=>by exact (mP (PW.pt (Bs (RV K rfl (yL K (Gh K rfl (pv 2) rfl) (pv 0)) (λ_=>rfl)) (wN (wM (cM (Gh K rfl (pv 2) rfl) T.fJ T.E2 (LC T) S (nZ (pv 0) (pv 1))))))))) (λ_ _ _ _=>by exact (pv 0))))),?_⟩
  left
  refine⟨_,rfl,g,rfl,λhg=>?_,kx⟩;obtain⟨a,rfl⟩:∃a:Nat,g=(a:Int):=⟨g.toNat,∅⟩;have q:a<3:=∅
  obtain⟨z,R⟩:=agI q;refine⟨_,rfl,p,_,G,_,_,rfl,J,T.jk,T.nL,rfl,s,_,O,_,_,rfl,j,T.fJ,T.uC,rfl,_,rfl,(by show -(2^62)<=((rs.length:Nat):Int);lia),(by show ((rs.length:Nat):Int)<2^62;lia),λI c=>?_⟩;refine ir (n:=(((rs.length:Nat):Int)).toNat) (λi M _=>M=bR (ze rs d a i)) c By sq rfl ?_ ?_
  ·rintro i M N u b m rfl x H3 ⟨rfl,rfl⟩
   have C:i<rs.length:=by simpa using u
   have A:rs[i]?=some rs[i]:=aa C;have o:d[i]?=some d[i]:=aa ∅;have l:L[i]?=some L[i]:=aa ∅;have Y:(bR (ze rs d a i)).length<sizeLine:=by rw[ah];exact cS (by have:=OH rs d a i;lia)
   have y:isLive rs d a i=((!(d[i]).isEmpty)&&Qi (rs[i]).e a):=by unfold isLive;rw[A,o]
   refine⟨_,rfl,p,_,G,_,_,rfl,b _ _ J,T.jk,T.nM,rfl,_,rfl,lu,_,_,V.ref L[i],rfl,rfl,bP.of (b _ _ D),(by rw[gE];exact eY (by rw[aj,l];rfl)),?_⟩;refine⟨!(bR d[i]).isEmpty,?_,?_⟩
   ·exact .inl ⟨_,bP.of (b _ _ (v i _ _ l o)),rfl⟩
   cases f:d[i] with
   |nil =>
    refine eZ (jX u b m ?_);rw[zf,y,f];simp
   |cons y0 r0 =>
    refine gC ?_;refine⟨_,rfl,p,_,G,_,_,rfl,b _ _ J,T.jk,T.nL,rfl,s,O,_,rfl,b _ _ j,rfl,_,rfl,_,rfl,s,Z,lr,ns,rs,i,rs[i],a,z,(by show [V.ref s,V.int (0+(i:Int)),V.int (a:Nat)]=_;rw[gE]),W.mono b,A,R,_,rfl,?_⟩;have r:=X _ (aM A);rw[Ut r.1 r.2 R];cases U:Qi rs[i].e a with
    |true =>
     refine gC ⟨_,rfl,fQ c u b m Y ?_⟩;rw[zf,y,f,U,gE];exact (jI _ _).symm
    |false =>
     refine eZ (jX u b m ?_);rw[zf,y,f,U];simp
  ·rintro M N b m rfl
   exact k a I N rfl q b c (by rw[m,cy])
inductive QH(K:af)(vs:List V)(H:Hp)(Q:VK)(E:XK):Prop
 |mk (p C dx:Addr) (s:Int):vs=[.ref p,.int s]->H p=some (.ins C dx [])->Iq K C->dc K C "sender" -> Q .fH (upd H p (.ins C dx [("sender",.int s)]))->QH K vs H Q E
theorem wC{t:Ad}(T:Txt K mg t):cz P w K mg base iM 1 t.dY t.lz ["self","sender"]  (QH K):=by
 refine T.qB.F.kh DX λH Q E e h=>?_
 ·obtain⟨p,C,c,f,rfl,b,d,a,k⟩:=h
  refine⟨_,(bI (fZ (pv 0) (pv 1) rfl)),?_⟩
  left
  exact⟨_,rfl,_,rfl,p,C,c,[],rfl,b,d,a,!_,k⟩
inductive M5(vs:List V)(H:Hp)(Q:VK)(E:XK):Prop
 |mk (p:Addr) (c:Int):vs=[.ref p,.int c]->Q (.bl false) H->M5  vs H Q E
theorem F0{t:Ad}(T:Txt K mg t):cz P w K mg base iM 1 t.jN t.ni ["self","caller"]  M5:=by
 refine T.zJ.F.kh FJ λH Q E a h=>?_
 ·obtain⟨p,c,rfl,k⟩:=h
  exact⟨_,oB,k⟩
inductive M6(vs:List V)(H:Hp)(Q:VK)(E:XK):Prop
 |mk (p:Addr):vs=[.ref p]->Q .fH H->M6  vs H Q E
theorem yF{t:Ad}(T:Txt K mg t):cz P w K mg base iM 1 t.gM t.nj ["self"]  M6:=by
 refine T.nH.F.kh FL λH Q E a h=>?_
 ·obtain⟨p,rfl,k⟩:=h
  exact⟨_,(oR iO),k⟩
inductive AR(K:af)(vs:List V)(H:Hp)(Q:VK)(E:XK):Prop
 |mk (p C dx:Addr) (s:Int):vs=[.ref p]->H p=some (.ins C dx [("sender",.int s)])->Iq K C->dc K C "sender" -> Q (.int s) H->AR K vs H Q E
theorem wD{t:Ad}(T:Txt K mg t):cz P w K mg base iM 1 t.gf t.lA ["self"]  (AR K):=by
 refine T.lH.F.kh DY λH Q E e h=>?_
 ·obtain⟨p,C,c,f,rfl,b,d,a,k⟩:=h
  exact⟨_,(oR (aY (pv 0) rfl)),_,rfl,p,C,c,_,_,rfl,b,d,a,rfl,k⟩
inductive JZ(C:Addr)(vs:List V)(H:Hp)(Q:VK)(E:XK):Prop
 |mk (p dx:Addr) (s to:Int):vs=[.ref p,.int s,.int to]->H p=some (.ins C dx [])->(∀H',H' p=some (.ins C dx [("sender",.int s),("to",.int to)])->(∀b o,H b=some o->b≠p->H' b=some o)->Q .fH H')->JZ C vs H Q E
theorem Ga{t:Ad}(T:Txt K mg t):cz P w K mg base iM 2 t.jO t.nv ["self","sender","to"]  (JZ t.fY):=by
 refine T.zK.F.kh FN λH Q E d h=>?_
 ·obtain⟨p,a,f,i,rfl,g,k⟩:=h
  refine⟨_,(aq (fE (OI (mJ rfl T.U4 (v:=.ref t.iJ) rfl) T.Eb (wC T) (d.mono (!_)) T.qB.B .nil mK (nZ (pv 0) (pv 1)))) (bI (fZ (pv 0) (pv 2) rfl))),?_⟩
  left
  refine⟨rfl,_,rfl,_,rfl,p,t.fY,a,f,rfl,g,T.pL,T.sY,?_⟩;refine⟨_,rfl,_,rfl,p,t.fY,a,_,rfl,au,T.pL,T.xK,(by show 1<1000;decide),?_⟩;rw[dG (names:=["sender"]) rfl (by decide +kernel)];exact k _ au λb o e c=>by rw[aH c,aH c];exact e
inductive M7(C:Addr)(vs:List V)(H:Hp)(Q:VK)(E:XK):Prop
 |mk (p dx:Addr) (s to c:Int):vs=[.ref p,.int c]->H p=some (.ins C dx [("sender",.int s),("to",.int to)])->Q (.bl (decide (V.int c=V.int to))) H->M7 C vs H Q E
theorem Ia{t:Ad}(T:Txt K mg t):cz P w K mg base iM 1 t.kM t.o8 ["self","caller"]  (M7 t.fY):=by
 refine T.A6.F.kh G0 λH Q E e h=>?_
 ·obtain⟨p,b,f,d,c,rfl,a,k⟩:=h
  exact⟨_,(oR (qE ud (pv 1) (aY (pv 0) rfl))),_,rfl,_,rfl,p,_,b,_,_,rfl,a,T.pL,T.xK,rfl,rfl,k⟩
inductive M8(C:Addr)(vs:List V)(H:Hp)(Q:VK)(E:XK):Prop
 |mk (p dx:Addr) (s to:Int):vs=[.ref p]->H p=some (.ins C dx [("sender",.int s),("to",.int to)])->Q (.int to) H->M8 C vs H Q E
theorem Ib{t:Ad}(T:Txt K mg t):cz P w K mg base iM 1 t.kN t.pq ["self"]  (M8 t.fY):=by
 refine T.u9.F.kh G1 λH Q E d h=>?_
 ·obtain⟨p,b,e,c,rfl,a,k⟩:=h
  exact⟨_,(oR (aY (pv 0) rfl)),_,rfl,p,_,b,_,_,rfl,a,T.pL,T.xK,rfl,k⟩
inductive Eu(C:Addr)(vs:List V)(H:Hp)(Q:VK)(E:XK):Prop
 |mk (p dx:Addr) (s to:Int):vs=[.ref p]->H p=some (.ins C dx [("sender",.int s),("to",.int to)])->Q (.int (s+to+1)) H->Eu C vs H Q E
theorem Gb{t:Ad}(T:Txt K mg t):cz P w K mg base iM 1 t.jP t.nA ["self"]  (Eu t.fY):=by
 refine T.sU.F.kh FO λH Q E d h=>?_
 ·obtain⟨p,b,e,c,rfl,a,k⟩:=h
  exact⟨_,(oR (bw fB (bw fB (aY (pv 0) rfl) (aY (pv 0) rfl)) aB)),_,rfl,p,_,b,_,_,rfl,a,T.pL,T.sY,rfl,_,rfl,p,_,b,_,_,rfl,a,T.pL,T.xK,rfl,_,_,rfl,rfl,_,_,rfl,rfl,k⟩
inductive M9(C:Addr)(vs:List V)(H:Hp)(Q:VK)(E:XK):Prop
 |mk (p dx:Addr) (s c:Int):vs=[.ref p,.int c]->H p=some (.ins C dx [("sender",.int s)])->Q (.bl (!decide (V.int c=V.int s))) H->M9 C vs H Q E
theorem Ic{t:Ad}(T:Txt K mg t):cz P w K mg base iM 1 t.kP t.pC ["self","caller"]  (M9 t.iW):=by
 refine T.A7.F.kh G2 λH Q E d h=>?_
 ·obtain⟨p,b,e,c,rfl,a,k⟩:=h
  exact⟨_,(oR (qE sf (pv 1) (aY (pv 0) rfl))),_,rfl,_,rfl,p,_,b,_,_,rfl,a,T.xM,T.nK,rfl,rfl,k⟩
inductive QI(C:Addr)(vs:List V)(H:Hp)(Q:VK)(E:XK):Prop
 |mk (p dx:Addr):vs=[.ref p]->H p=some (.ins C dx [])->(∀d H',H d=none->ql C H' p d []->(∀b o,H b=some o->b≠p->H' b=some o)->Q .fH H')->QI C vs H Q E
theorem Ie{t:Ad}(T:Txt K mg t):cz P w K mg base iM 1 t.kK t.oZ ["self"]  (QI t.eS):=by
 refine T.uY.F.kh GX λH Q E i h=>?_
 ·obtain⟨p,f,rfl,c,k⟩:=h
  refine⟨_,(bI (fZ (pv 0) yW rfl)),?_⟩
  left
  refine λd a=>⟨_,rfl,p,t.eS,f,[],rfl,?_,T.xO,T.qc,!_,?_⟩
  ·rw[aH (aE c a)];exact c
  ·refine k d _ a ⟨⟨f,au⟩,?_⟩ λb o e g=>?_
   ·rw[aH (aE c a).symm];exact au
   ·rw[aH g,aH (aE e a)];exact e
inductive QJ(C:Addr)(vs:List V)(H:Hp)(Q:VK)(E:XK):Prop
 |mk (p d:Addr) (ts:List T3) (h c r:Int):vs=[.ref p,.int h,.int c,.int r]->ql C H p d ts->ts.length<10000->(∀H',H' d=some (.dT (putK (ts.map fk) (keyOf h c) (.int r)))->(∀b o,H b=some o->b≠d->H' b=some o)->Q .fH H')->QJ C vs H Q E
theorem Jd{t:Ad}(T:Txt K mg t):cz P w K mg base iM 1 t.mZ t.rF ["self","house","caller","rope"]  (QJ t.eS):=by
 refine T.CZ.F.kh IB λH Q E g h=>?_
 ·obtain⟨p,d,m,f,l,r,rfl,⟨⟨i,n⟩,a⟩,j,k⟩:=h
  refine⟨_,(bI (Kz (CF g) (aY (pv 0) rfl) (dU (nZ (pv 1) (pv 2))) (pv 3) rfl)),?_⟩
  left
  refine⟨_,rfl,_,rfl,p,t.eS,i,_,_,rfl,n,T.xO,T.qc,rfl,_,rfl,_,rfl,g7,λb c=>?_⟩;have q:d≠b:=aE a c;refine⟨d,_,rfl,Ky.t (k:=keyOf f l) (kvs:=m.map fk) (by rw[aH q];exact a) au (by rw[ah];exact Nat.lt_trans j (by show 10000<2^24;decide)),?_⟩;exact k _ au λx o e nx=>by rw[aH nx,aH (aE e c)];exact e
inductive QK(C:Addr)(vs:List V)(H:Hp)(Q:VK)(E:XK):Prop
 |mk (p d:Addr) (ts:List T3) (h c:Int):vs=[.ref p,.int h,.int c]->ql C H p d ts->(∀H',aG H H'->Q (((jK ts h c).map V.int).getD .fH) H')->QK C vs H Q E
theorem Je{t:Ad}(T:Txt K mg t):cz P w K mg base iM 1 t.m5 t.rG ["self","house","caller"]  (QK t.eS):=by
 refine T.C0.F.kh IC λH Q E g h=>?_
 ·obtain⟨p,d,m,a,e,rfl,⟨⟨i,j⟩,c⟩,k⟩:=h
  refine⟨_,(oR (T7 (CF g) (aY (pv 0) rfl) (dU (nZ (pv 1) (pv 2))) ⟨rfl,rfl,rfl,rfl⟩)),?_⟩
  left
  refine⟨_,rfl,p,t.eS,i,_,_,rfl,j,T.xO,T.qc,rfl,d,rfl,.inr ⟨_,.inl c⟩,_,rfl,_,rfl,g7,λb l=>?_⟩;have f:=aG.new (o:=.tup [.int a,.int e]) l;refine⟨_,AW.t (k:=keyOf a e) (f _ _ c) au,?_⟩;rw[sr];exact k _ f
inductive QL(K:af)(C:Addr)(vs:List V)(H:Hp)(Q:VK)(E:XK):Prop
 |mk (p d:Addr) (ts:List T3):vs=[.ref p]->ql C H p d ts->ts.length<2000->(∀l (qs:List Addr) (us:List T3) H',aG H H'->H l=none->H' l=some (.lst (qs.map V.ref))->fT K H' qs us->us.Perm ts->AG us->Q (.ref l) H')->QL K C vs H Q E
theorem Jf{t:Ad}(T:Txt K mg t):cz P w K mg base iM 1 t.m6 t.rH ["self"]  (QL K t.eS):=by
 refine T.xG.F.kh A4 λH Q E hr h=>?_
 ·obtain⟨p,d,j,rfl,⟨⟨dx,hp⟩,G⟩,R,k⟩:=h
  refine⟨_,(oR (cB CO T.Hq boot_sorted (gV (WT (gq (kO A4 ["noted","rope"] [none,none]) rfl (Ux (Z5 PySem.F.plainAttrs_dict PySem.F.slot_dict_items PySem.F.type_dict_items Uw (aY (pv 0) rfl))) (λ_ _ _ _=>by exact (KE K rfl (n:=2) rfl (i0 (gS 0 vQ) (i0 (gS 1 vQ) Ay)))) (λ_ _ _ _=>by exact mO) (λ_ _ _ _=>by exact (bw (Uz K rfl) (pv 0) (dU (gV (pv 1)))))))))),?_⟩
  left
  refine⟨d,j.map fk,G,?_⟩;refine⟨_,rfl,p,t.eS,dx,_,_,rfl,hp,T.xO,T.qc,rfl,?_⟩;refine⟨.inr (.inr (.inl ⟨rfl,.inr ⟨_,G⟩⟩)),d,_,rfl,rfl,G,λv hv=>?_⟩;have s1:=aG.new (o:=GO v d) hv;have y:=au (H:=H) (a:=v) (o:=GO v d);have I:=s1 _ _ G;generalize upd H v (GO v d)=H1 at s1 y I;refine⟨v,d,_,rfl,y,I,λo=>?_⟩;intro J f;have g:=au (H:=H1) (a:=d) (o:=.Ax o (.dT (j.map fk)));have Y:∀{s:Hp},aG (upd H1 d (.Ax o (.dT (j.map fk)))) s->aG H (upd s d (.dT (j.map fk))):=λ{s} m b u e=>by
   by_cases z:b=d
   ·subst z
    rw[G] at e;cases e;exact au
   ·rw[aH z]
    exact m _ _ (by rw[aH z];exact s1 _ _ e)
  generalize upd H1 d (.Ax o (.dT (j.map fk)))=H2 at g Y f;refine ir (n:=(j.map fk).length) (λi ys s=>∃r:List Addr,ys=r.map V.ref/\fT K s r (j.take i)) f (aas g) (Uy g) ⟨[],rfl,fT.nil⟩ ?_ ?_
  ·rintro i ys s U m W ⟨r,rfl,C⟩ x H4 ⟨q,kb,ky,vv,hq,rfl,rfl,A,L⟩
   have B:i<j.length:=by rw[ah] at U;exact U
   rw[aj,aa B] at A;cases A;generalize O:j[i]=u;have hu:j[i]?=some u:=by rw[aa B,O]
   obtain⟨Z,X,M⟩:=u;rw[O] at L;have u4:=aG.new (o:=.tup [.ref kb,.int M]) hq;refine⟨q,_,rfl,cP.of au,rfl,_,_,rfl,_,_,rfl,rfl,?_⟩;refine⟨_,rfl,_,rfl,nT,λb hb=>?_⟩;have u5:=aG.new (o:=.tup [V.int M]) hb;refine⟨kb,b,[.int Z,.int X],_,rfl,rfl,cP.of (u5 _ _ (u4 _ _ L)),cP.of au,(-_),g9,λz=>(by cases z),λ_ c hc=>?_⟩;have u6:=aG.new (o:=.tup ([V.int Z,.int X]++[.int M])) hc;have S:=u4.trans (u5.trans u6);have D:=S _ _ W;have N:r.length=i:=by rw[C.1,bQ];lia
   refine fQ f U (m.trans S) D (by rw[ah];exact KU ∅) ⟨r++[c],-_,?_⟩;rw[uJ,hu];exact fT.past D sA cK (fT.snoc (t:=(Z,X,M)) (C.mono S) (cP.of au))
  ·rintro ys s m W ⟨r,rfl,C⟩
   have Sq:J≠d:=(aE g f).symm;rw[ah,iX] at C;refine⟨o,m _ _ g,?_⟩;refine⟨J,r,j,rfl,bP.of (by rw[aH Sq];exact W),fT.past (m _ _ g) aau cK C,R,λl A3 us N hp hs O=>?_⟩;exact k l A3 us _ ((Y m).trans (aG.new N)) ((Y m).free N) au (O.mono (aG.new N)) hp hs
inductive Na(C:Addr)(vs:List V)(H:Hp)(Q:VK)(E:XK):Prop
 |mk (p d:Addr) (ts:List T3):vs=[.ref p]->ql C H p d ts->(∀d' H',H d'=none->ql C H' p d' []->(∀b o,H b=some o->b≠p->H' b=some o)->Q .fH H')->Na C vs H Q E
theorem Ig{t:Ad}(T:Txt K mg t):cz P w K mg base iM 1 t.kL t.o6 ["self"]  (Na t.eS):=by
 refine T.uZ.F.kh GY λH Q E j h=>?_
 ·obtain⟨p,d,m,rfl,⟨⟨f,c⟩,l⟩,k⟩:=h
  refine⟨_,(bI (fZ (pv 0) yW rfl)),?_⟩
  left
  refine λg a=>⟨_,rfl,p,t.eS,f,[("kept",.ref d)],rfl,?_,T.xO,T.qc,(by show 1<1000;decide),?_⟩
  ·rw[aH (aE c a)];exact c
  ·refine k g _ a ⟨⟨f,au⟩,?_⟩ λb o e i=>?_
   ·rw[aH (aE c a).symm];exact au
   ·rw[aH i,aH (aE e a)];exact e
inductive adB(K:af)(C:Addr)(vs:List V)(H:Hp)(Q:VK)(E:XK):Prop
 |mk (bk d lo lh:Addr) (ts:List T3) (so aU:Option Int) (kI:Int) (os hs:List Int):vs=[.ref bk,iE so,.int kI,iE aU,.ref lo,.ref lh]->ql C H bk d ts->bP K H lo (os.map V.int)->bP K H lh (hs.map V.int)->os.length<=1000->(∀l H',aG H H'->H l=none->H' l=some (.lst ((DA ts so kI aU os hs).map V.int))->Q (.ref l) H')->adB K C vs H Q E
theorem Nb{t:Ad}(T:Txt K mg t):cz P w K mg base iM 2 t.sL t.xw ["book","sought","house","came","open_here","here"]  (adB K t.eS):=by
 refine T.G9.F.kh uh λH Q E hr h=>?_
 ·obtain⟨X,d,lo,lh,O,so,g,N,os,q,rfl,W,G,hH,J,k⟩:=h
  refine⟨_,(aq (cD (jW rW (pv 1) (pv 5) (by with_unfolding_all rfl)) (oR (jq iP)) bz) (aq (sS 6 uh (yO (qT Ob (pv 1) iO) iO (cM (pv 0) T.xO T.C0 (Je T) hr (nZ (pv 2) (pv 1))))) (aq (sS 7 uh (yO (jW rW (pv 6) (pv 4) (by with_unfolding_all rfl)) (jq (gV (pv 6))) (pv 4))) (oR (gq (kO uh ["rope","came"] [none,some 3]) rfl (fV (pv 7)) (λ_ _ _ _=>by exact (gS 0 GZ)) (λ_ _ _ _=>by exact (mP (qT sf (pv 0) (pv 1)))) (λ_ _ _ _=>by exact (pv 0))))))),?_⟩
  left
  obtain⟨dx,L⟩:=W.ob;refine⟨_,rfl,_,rfl,lh,_,rfl,.inl hH,Mr so,oq q,_,rfl,?_⟩;cases so with
  |none =>
   refine EW (by show CC .fH _=false;exact CJ q) ?_;refine⟨_,rfl,rfl,_,rfl,Uu (e8 rfl) ?_⟩;refine⟨_,rfl,_,rfl,lo,_,rfl,.inl G,rfl,oq os,_,rfl,EW (by show CC .fH _=false;exact CJ os) ?_⟩;refine⟨_,rfl,_,rfl,lo,rfl,⟨_,G⟩,λc a=>?_⟩;refine lO (gy g) a G J (λx m R S _ v A j=>?_) (λm v f=>k c m v a f);refine⟨_,rfl,_,rfl,mT x g,_,rfl,?_⟩;exact ko (λe=>⟨_,rfl,A _ (aG.refl _) e⟩) (λe=>j _ (aG.refl _) (neT e))
  |some n =>
   refine ko (λe=>?_) (λe=>?_)
   ·refine⟨bM _,λl u=>k l _ (aG.new u) u ?_⟩
    have U:n∈q:=by
     have e:CC (.int n) (q.map V.int)=true:=e;rw[mR] at e;exact g8 e
    show _=some (HO.lst (List.map V.int (if n∈q then [] else _)));rw[ee U];exact au
   ·have U:¬n∈q:=λz=>e (by show CC (.int n) (q.map V.int)=true;rw[mR];exact e8 z)
    refine⟨_,rfl,rfl,_,rfl,EW (fy λz=>by cases z) ?_⟩;refine⟨_,rfl,X,dx,_,rfl,L,rfl,_,rfl,_,rfl,X,d,O,N,n,rfl,W,λH1 B=>?_⟩;have p:∀l b,aG H b->H l=none->b l=some (.lst ((match jK O N n with
     |some r=>if r∈os then [r].filter (gy g) else os.filter (gy g)
     |none=>os.filter (gy g)).map V.int))->Q (.ref l) b:=λl b s u f=>k l b s u (by
     show _=some (HO.lst (List.map V.int (if n∈q then [] else _)));rw[er U];exact f)
    have i:=B.seq G;cases Z:jK O N n with
    |none =>
     rw[Z] at p;refine⟨_,rfl,_,rfl,lo,_,rfl,.inl i,rfl,oq os,_,rfl,EW (by show CC .fH _=false;exact CJ os) ?_⟩;refine⟨_,rfl,_,rfl,lo,rfl,⟨_,i⟩,λc a=>?_⟩;refine lO (gy g) a i J (λx m R S _ v A j=>?_) (λm v f=>p c m (B.trans v) (B.free a) f);refine⟨_,rfl,_,rfl,mT x g,_,rfl,?_⟩;exact ko (λe=>⟨_,rfl,A _ (aG.refl _) e⟩) (λe=>j _ (aG.refl _) (neT e))
    |some r =>
     rw[Z] at p;dsimp only[Option.map_some,Option.getD_some];refine⟨_,rfl,_,rfl,lo,_,rfl,.inl i,rfl,oq os,_,rfl,ko (λC=>?_) (λC=>?_)⟩
     ·have y:r∈os:=by
       have C:CC (.int r) (os.map V.int)=true:=C;rw[mR] at C;exact g8 C
      have p:∀l b,aG H b->H l=none->b l=some (.lst (([r].filter (gy g)).map V.int))->Q (.ref l) b:=λl b s u f=>p l b s u (by
       show _=some (HO.lst (List.map V.int (if r∈os then _ else _)));rw[ee y];exact f)
      refine⟨_,rfl,nT,λD I=>?_⟩;have M:=aG.new (o:=.lst [V.int r]) I;have j:bP K (upd H1 D (.lst [V.int r])) D ([r].map V.int):=bP.of au;generalize upd H1 D (.lst [V.int r])=m at M j;refine⟨_,rfl,D,rfl,⟨_,j⟩,λc a=>?_⟩;refine lO (gy g) a j (by show 1<=1000;decide) (λx Y R S _ s3 A j=>?_) (λY s3 f=>p c Y (B.trans (M.trans s3)) (B.free (M.free a)) f);refine⟨_,rfl,_,rfl,mT x g,_,rfl,?_⟩;exact ko (λe=>⟨_,rfl,A _ (aG.refl _) e⟩) (λe=>j _ (aG.refl _) (neT e))
     ·have y:¬r∈os:=λz=>C (by show CC (.int r) (os.map V.int)=true;rw[mR];exact e8 z)
      have p:∀l b,aG H b->H l=none->b l=some (.lst ((os.filter (gy g)).map V.int))->Q (.ref l) b:=λl b s u f=>p l b s u (by
       show _=some (HO.lst (List.map V.int (if r∈os then _ else _)));rw[er y];exact f)
      refine⟨_,rfl,_,rfl,lo,rfl,⟨_,i⟩,λc a=>?_⟩;refine lO (gy g) a i J (λx m R S _ v A j=>?_) (λm v f=>p c m (B.trans v) (B.free a) f);refine⟨_,rfl,_,rfl,mT x g,_,rfl,?_⟩;exact ko (λe=>⟨_,rfl,A _ (aG.refl _) e⟩) (λe=>j _ (aG.refl _) (neT e))
inductive J0(K:af)(C cL c1 cA:Addr)(vs:List V)(H:Hp)(Q:VK)(E:XK):Prop
 |mk (bk d la lo lh:Addr) (ts:List T3) (s to kd kI:Int) (aU:Option Int) (os hs:List Int):vs=[.ref bk,.ref la,.int kI,iE aU,.ref lo,.ref lh]->ql C H bk d ts->EX cL c1 cA H la s to kd->bP K H lo (os.map V.int)->bP K H lh (hs.map V.int)->os.length<=1000->hs.length<=1000->(∀p l1 l2 H',aG H H'->H p=none->H l1=none->H l2=none->l1≠l2->H' p=some (.tup [.ref l1,.ref l2])->H' l1=some (.lst ((hs.filter (DO s to kd)).map V.int))->H' l2=some (.lst ((DA ts (rC to kd) kI aU os hs).map V.int))->Q (.ref p) H')->J0 K C cL c1 cA vs H Q E
theorem Pq{t:Ad}(T:Txt K mg t):cz P w K mg base iM 3 t.vV t.AJ ["book","letter","house","came","open_here","here"]  (J0 K t.eS t.iJ t.fY t.iW):=by
 refine T.JM.F.kh BN λH Q E r h=>?_
 ·obtain⟨U,d,j,lo,C,J,L,z,kd,I,G,os,D,rfl,O,hL,Y,A,W,N,k⟩:=h
  refine⟨_,(aq (Bx (i:=6) BN.nd rfl (Or.inl rfl) (kO BN ["caller","letter"] [none,some 1]) rfl (fV (pv 5)) (λ_ _ _ _=>by exact (gS 0 ID)) (λ_ _ _ _=>by exact (mP (wM (DM (cM (pv 1) T.Hj T.zJ (F0 T) r (gV (pv 0))) (DM (cM (pv 1) T.pL T.A6 (Ia T) r (gV (pv 0))) (cM (pv 1) T.xM T.A7 (Ic T) r (gV (pv 0)))))))) (λ_ _ _ _=>by exact (pv 0))) (oR (dU (nZ (pv 6) (cG (Nb T) r T.G9 (P0 (pv 0) (DM (kD (pv 1) T.Hj T.nH.m (yF T) (r.mono (!_)) T.nH.B .nil mK) (DM (kD (pv 1) T.pL T.u9.m (Ib T) (r.mono (!_)) T.u9.B .nil mK) (kD (pv 1) T.xM T.IL (yF T) (r.mono (!_)) T.nH.B .nil mK))) (pv 2) (pv 3) (pv 4) (pv 5))))))),?_⟩
  left
  refine⟨_,rfl,C,rfl,⟨_,A⟩,λs q=>?_⟩;refine lO (DO L z kd) q A N (λx M R S _ b Z X=>?_) (λM b hy=>?_)
  ·have v:=hL.mono b
   cases v with
   |bare f c =>
    exact .inl ⟨_,rfl,j,f,_,rfl,c,rfl,_,rfl,j,x,rfl,_,rfl,X _ (aG.refl _) rfl⟩
   |one f c =>
    refine .inr (.inl ⟨_,rfl,j,f,_,rfl,c,rfl,_,rfl,j,f,L,z,x,rfl,c,_,rfl,?_⟩);exact ko (λe=>⟨_,rfl,Z _ (aG.refl _) e⟩) (λe=>X _ (aG.refl _) (neT e))
   |all f c =>
    refine .inr (.inr ⟨_,rfl,j,f,_,rfl,c,rfl,_,rfl,j,f,L,x,rfl,c,_,rfl,?_⟩);exact ko (λe=>⟨_,rfl,Z _ (aG.refl _) e⟩) (λe=>X _ (aG.refl _) (neT e))
  ·have v:=hL.mono b
   have rest:∀g l,aG M l->M g=none->l g=some (.lst ((DA J (rC z kd) I G os D).map V.int))->2<=sizeLine/\∀p,l p=none->Q (.ref p) (upd l p (.tup [.ref s,.ref g])):=λg l n a y=>by
    refine⟨!_,λp hp=>?_⟩;have u:=aG.new (o:=.tup [V.ref s,.ref g]) hp;exact k p s g _ ((b.trans n).trans u) (b.free (n.free hp)) q (b.free a) (aE hy a) au (u _ _ (n _ _ hy)) (u _ _ y)
   refine⟨_,rfl,_,rfl,?_⟩;cases v with
   |bare f c =>
    exact .inl ⟨_,rfl,j,f,_,rfl,c,rfl,j,rfl,_,rfl,_,rfl,_,rfl,_,rfl,U,d,lo,C,J,none,G,I,os,D,rfl,O.mono b,b.seq Y,b.seq A,W,λg l n a y=>rest g l n a y⟩
   |one f c =>
    exact .inr (.inl ⟨_,rfl,j,f,_,rfl,c,rfl,j,f,L,z,rfl,c,_,rfl,_,rfl,_,rfl,_,rfl,U,d,lo,C,J,some z,G,I,os,D,rfl,O.mono b,b.seq Y,b.seq A,W,λg l n a y=>rest g l n a y⟩)
   |all f c =>
    exact .inr (.inr ⟨_,rfl,j,f,_,rfl,c,rfl,j,rfl,_,rfl,_,rfl,_,rfl,_,rfl,U,d,lo,C,J,none,G,I,os,D,rfl,O.mono b,b.seq Y,b.seq A,W,λg l n a y=>rest g l n a y⟩)
inductive J1(K:af)(vs:List V)(H:Hp)(Q:VK)(E:XK):Prop
 |mk (a:Addr) (cs:List Int) (n:Nat):vs=[.ref a,.int n]->bP K H a (cs.map V.int)->1<=n->n<=10->(∀l H' (xs:List Int),aG H H'->H l=none->H' l=some (.lst (xs.map V.int))->xs.length=n->xs.Nodup->(∀x∈xs,0<=x)->Q (.ref l) H')->J1 K vs H Q E
theorem Pr{t:Ad}(T:Txt K mg t):cz P w K mg base iM 2 t.vZ t.AN ["_law_script","_law_size"]  (J1 K):=by
 refine T.JP.F.kh lU λH Q E M h=>?_
 ·obtain⟨a,cs,n,rfl,N,hn1,hn,k⟩:=h
  refine⟨_,(aq (sS 2 lU (jq iP)) (aq (fS (gB rfl T.jy (gV (pv 1))) (gT 3 lU) (aq (sS 4 lU (cG (gw T) M T.gz (nZ (pv 0) (bw fB aB (pv 3))))) (aq (sS 5 lU (bw dZ (bw fK (pv 4) aB) aB)) (aq (cD (qT ud (bw dZ (pv 4) aB) aB) (bI (sS 5 lU (bw dZ (bw fK (pv 4) aB) (bw DE (bw Tq aB aB) aB)))) bz) (aq (LX PassesOwn.never (jW rW (pv 5) (pv 2) (by with_unfolding_all rfl)) (bI (sS 5 lU (bw fB (pv 5) aB)))) (oE (pS be bh bg eE (pv 2) (gV (pv 5))))))))) (aq (cD (qT ud (bw dZ (bw fK (cG (gw T) M T.gz (nZ (pv 0) aB)) aB) aB) aB) (oR (Ms (pv 2) (wQ (acw ZX aB)))) bz) (oR (pv 2))))),?_⟩
  left
  refine⟨bM _,λl J=>?_⟩;refine⟨_,rfl,(n:Int),rfl,∅,∅,?_⟩;refine vM (n:=((n:Int)).toNat) (λi f m=>aG H m/\∃(d:List Int) (G B C:Option V),f=[some (.ref a),some (.int n),some (.ref l),G,B,C]/\m l=some (.lst (d.map V.int))/\d.length=i/\d.Nodup/\∀x∈d,0<=x)
   ⟨aG.new J,[],none,none,none,rfl,au,rfl,k8,λx g=>eL g (-_)⟩ ?_ ?_
  ·rintro i f m hi ⟨j,d,G,B,C,rfl,g,O,r,p⟩
   rw[gE];refine⟨_,rfl,_,rfl,_,_,rfl,rfl,a,cs,_,rfl,j.seq N,∅,?_⟩;dsimp only[iz];generalize cs.getD _ 0=c;refine⟨_,rfl,_,_,rfl,rfl,⟨!_,!_⟩,_,_,rfl,rfl,(by show (0:Int)<40;decide),?_⟩;dsimp only[iz];refine aal (λf D=>D=m/\∃z:Int,0<=z/\f=[some (.ref a),some (.int n),some (.ref l),some (.int (i:Nat)),some (.int c),some (.int z)]) ?_ λnx=>?_
   case refine_2 =>
    refine⟨_,rfl,_,_,rfl,rfl,(by show (0:Int)<3;decide),rfl,_,rfl,ko (λe=>?_) (λe=>?_)⟩
    ·exact⟨_,rfl,_,_,rfl,rfl,⟨!_,!_⟩,_,_,rfl,rfl,⟨!_,!_,!_⟩,_,_,rfl,rfl,_,_,rfl,rfl,(by show (0:Int)<10^(60:Int).toNat-20;decide),nx _ _ ⟨rfl,_,bU _ (!_),rfl⟩⟩
    ·exact nx _ _ ⟨rfl,_,bU _ (!_),rfl⟩
   rintro f D ⟨rfl,z,I,rfl⟩;refine Tn (λf A=>A=D/\∃x:Int,0<=x/\f=[some (.ref a),some (.int n),some (.ref l),some (.int (i:Nat)),some (.int c),some (.int x)])
    (λ(f:L2.St) (_:Hp)=>match f[5]? with|some (some (V.int x))=>above d x|_=>0) ⟨rfl,_,I,rfl⟩ ?_ ?_
   ·rintro f A ⟨rfl,x,L,rfl⟩
    refine⟨_,rfl,_,rfl,l,_,rfl,.inl (bP.of g),rfl,oq d,_,rfl,?_⟩
    try dsimp only
    rw[er aF,mR];refine ko (λc=>?_) (λc=>?_)
    ·have s:x∈d:=g8 c
     exact⟨_,rfl,_,_,rfl,rfl,⟨rfl,x+1,∅,rfl⟩,Um s⟩
    ·have s:x∉d:=λz=>c (e8 z)
     refine⟨_,rfl,.inl ⟨rfl,_,bP.of g⟩,_,rfl,l,_,_,rfl,rfl,g,?_,?_⟩
     ·rw[ah];exact cS ∅
     ·refine⟨j.out J,d++[x],_,_,_,rfl,?_,?_,Gr.BB r s,?_⟩
      ·rw[au,aT];rfl
      ·simp[O]
      ·intro y Y
       rcases br.mp Y with z|z
       ·exact p y z
       ·have:y=x:=by simpa using z
        rw[this];exact L
   ·rintro f A Q1 Q2 hq ⟨v,U,u,S,q,ys,Z,e4,e5,R,b,W,X⟩
    exact⟨v,U,u,S,q,ys,Z,e4,e5,R,b,W,hq _ _ X⟩
  ·rintro f m ⟨j,d,G,B,C,rfl,g,O,r,p⟩
   refine⟨_,rfl,a,cs,1,rfl,j.seq N,!_,_,_,rfl,rfl,⟨!_,!_⟩,_,_,rfl,rfl,(by show (0:Int)<2;decide),rfl,_,rfl,ko (λe=>?_) (λe=>?_)⟩
   ·refine⟨_,rfl,_,rfl,_,rfl,l,_,rfl,rfl,bP.of g,λl2 o=>?_⟩
    rw[<- List.map_reverse];exact k l2 _ d.reverse (j.trans (aG.new o)) (j.free o) au (by rw[List.length_reverse];lia) ((List.reverse_perm d).nodup_iff.mpr r) λx g=>p x (List.mem_reverse.mp g)
   ·exact⟨_,rfl,k l m d j J g ∅ r p⟩
theorem Xq{x:Int}{g:Nat}(c:1<=x)(d:x<=7)(e:g<3):1<=Builtin.bitOr x (1*2^((g:Int)).toNat)/\Builtin.bitOr x (1*2^((g:Int)).toNat)<=7:=by
 have b:x=1∨x=2∨x=3∨x=4∨x=5∨x=6∨x=7:=∅
 have a:g=0∨g=1∨g=2:=∅
 rcases a with rfl|rfl|rfl <;> rcases b with rfl|rfl|rfl|rfl|rfl|rfl|rfl <;> decide +kernel
def Y4(K:af)(H:Hp)(l:Addr)(rs:List R5):Prop:=∃qs:List Addr,H l=some (.lst (qs.map V.ref))/\dF K H qs (rs.map R5.vs)
theorem dF.snoc{K:af}{H:Hp}{qs:List Addr}{xs:List (List V)}{q:Addr}{x:List V}(h:dF K H qs xs)(d:cP K H q x):dF K H (qs++[q]) (xs++[x]):=by
 refine⟨by rw[av,av,h.len];rfl,λi a u b c=>?_⟩;by_cases z:i<qs.length
 ·rw[bL z] at b
  rw[bL (h.len▸z)] at c;exact h.at' i a u b c
 ·have e:i=qs.length:=by
   have:=(ai.mp b).1
   rw[av] at this
   have:i<qs.length+1:=this
   lia
  subst e;rw[mH] at b;rw[h.len,mH] at c;cases b;cases c;exact d
inductive J2(K:af)(vs:List V)(H:Hp)(Q:VK)(E:XK):Prop
 |mk (a:Addr) (cs:List Int) (n g:Nat):vs=[.ref a,.int n,.int g]->bP K H a (cs.map V.int)->1<=n->n<=10->g<3->(∀l H' (rs:List R5),aG H H'->H l=none->Y4 K H' l rs->rs.length<=14->(∀r∈rs,r.Ok n)->Q (.ref l) H')->J2 K vs H Q E
theorem Pu{t:Ad}(T:Txt K mg t):cz P w K mg base iM 2 t.wc t.AO ["_law_script","_law_size","_law_group"]  (J2 K):=by
 refine T.JQ.F.kh dJ λH Q E hr h=>?_
 ·obtain⟨a,cs,n,g,rfl,hS,hn1,hn,hg,k⟩:=h
  refine⟨_,(aq (sS 3 dJ (jq iP)) (aq (sS 4 dJ aB) (aq (cD (qT PX (pv 1) aB) (bI (sS 4 dJ (bw fB (bw DE (pv 1) aB) (bw dZ (bw fK (cG (gw T) hr T.gz (nZ (pv 0) aB)) aB) aB)))) bz) (aq (fS (gB rfl T.jy (gV (pv 4))) (gT 5 dJ) (aq (sS 6 dJ (cG (gw T) hr T.gz (nZ (pv 0) (bw fB aB (pv 5))))) (aq (sS 7 dJ (bw dZ (bw fK (pv 6) aB) (pv 1))) (aq (sS 8 dJ (bw dZ (bw fB (bw fB (pv 7) aB) (bw dZ (bw fK (pv 6) aB) (bw DE (pv 1) aB))) (pv 1))) (aq (cD (qT pR (pv 5) (bw DE (pv 1) aB)) (aq (sS 7 dJ (bw fB (pv 5) aB)) (bI (sS 8 dJ (bw dZ (bw fK (pv 6) aB) (bw fB (pv 5) aB))))) bz) (aq (sS 9 dJ (bw fK (pv 6) aB)) (aq (sS 10 dJ (bw fB aB (bw dZ (pv 9) aB))) (aq (cD (qT ud (bw dZ (bw fK (pv 9) aB) aB) aB) (bI (sS 10 dJ (bw fB aB (bw dZ (bw fK (pv 9) aB) (bw DE (bw Tq aB aB) aB))))) bz) (aq (sS 11 dJ (bw fB aB (bw dZ (bw fK (pv 9) aB) aB))) (aq (cD (qT PX (bw dZ (bw fK (pv 9) aB) aB) aB) (bI (sS 11 dJ (bw acA (pv 11) (bw ZV aB (pv 2))))) bz) (aq (cD (qT ud (bw dZ (pv 6) aB) aB) (bI (ZO (i:=7) (j:=8) rfl dJ.nd rfl rfl (!_) rfl rfl (nZ (pv 8) (pv 7)) rfl)) bz) (oE (pS be bh bg eE (pv 3) (gV (dU (aN5 (pv 7) (pv 8) (pv 10) (bw fB aB (bw dZ (bw fK (pv 9) aB) aB)) (pv 11))))))))))))))))) (oR (pv 3)))))),?_⟩
  left
  refine⟨bM _,λl Y=>?_⟩;have S:=aG.new (o:=.lst []) Y;have LO:=au (H:=H) (a:=l) (o:=.lst []);generalize upd H l (.lst [])=H0 at S LO;dsimp only[iz];refine bO λN hN=>?_;refine hN [some (.ref a),some (.int n),some (.int g),some (.ref l),some (.int 0),none,none,none,none,none,none,none] H0 ?_;refine oX (λd H1=>H1=H0/\∃m:Nat,m<=14/\(0<m->2<=n)/\d=[some (.ref a),some (.int n),some (.int g),some (.ref l),some (.int (m:Nat)),none,none,none,none,none,none,none]) ?_ λI nx=>?_
  case refine_2 =>
   refine⟨_,rfl,_,_,rfl,rfl,_,rfl,ko (λe=>?_) (λe=>?_)⟩
   ·have h2:(1:Int)<n:=g8 e
    refine⟨_,rfl,_,_,rfl,rfl,_,rfl,a,cs,1,rfl,S.seq hS,!_,_,_,rfl,rfl,⟨!_,!_⟩,_,_,rfl,rfl,(by show (0:Int)<6;decide),_,_,rfl,rfl,nx _ _ ?_⟩;generalize cs.getD _ 0/3=y;have Z:=bU y (show (6:Int)≠0 by decide);have U:=ck y (show (0:Int)<6 by decide);refine⟨rfl,((n:Int)-1+y%6).toNat,∅,λ_=>∅,?_⟩;rw[Int.toNat_of_nonneg ∅];rfl
   ·exact nx _ _ ⟨rfl,0,∅,λz=>eL z (!_),rfl⟩
  rintro d H1 ⟨rfl,m,hm,h2,rfl⟩;refine⟨_,rfl,(m:Int),rfl,∅,∅,?_⟩;refine GL (n:=((m:Int)).toNat) (λi d v=>aG H v/\∃(rs:List R5) (v5 X v7 v8 D p f:Option V),d=[some (.ref a),some (.int n),some (.int g),some (.ref l),some (.int (m:Nat)),v5,X,v7,v8,D,p,f]/\Y4 K v l rs/\rs.length=i/\∀r∈rs,r.Ok n)
   ⟨S,[],_,_,_,_,_,_,_,rfl,⟨[],LO,⟨rfl,λi q x e=>by cases e⟩⟩,rfl,λr u=>eL u (-_)⟩ ?_ ?_
  ·rintro i d v Nf Gc hi ⟨O,rs,v5,X,v7,v8,D,p,f,rfl,⟨qs,A,vI⟩,ei,ok⟩
   rw[gE];have hi':i<m:=by simpa using hi
   have h2:2<=n:=h2 ∅;refine bO λNx cQ=>?_;refine⟨_,rfl,_,rfl,_,_,rfl,rfl,a,cs,_,rfl,O.seq hS,∅,?_⟩;dsimp only[iz];generalize cs.getD _ 0=c;refine cQ _ _ ?_;obtain⟨o1,o2,o3,o4,o5⟩:=WI (n:=n) (x:=c/2) (y:=c/13) ∅;refine⟨_,rfl,_,_,rfl,rfl,⟨!_,!_⟩,_,rfl,_,_,rfl,rfl,(by show (0:Int)<n;lia),?_⟩;refine⟨_,rfl,_,_,rfl,rfl,_,rfl,_,_,rfl,rfl,⟨!_,!_⟩,_,rfl,_,_,rfl,rfl,_,_,rfl,rfl,(by show 0<(n:Int)-1;lia),_,_,rfl,rfl,_,rfl,_,_,rfl,rfl,(by show (0:Int)<n;lia),?_⟩;dsimp only[iz];refine oX (λd W=>W=v/\∃x y:Int,(0<=x/\x<n/\0<=y/\y<n/\x≠y)/\d=[some (.ref a),some (.int n),some (.int g),some (.ref l),some (.int (m:Nat)),some (.int (i:Nat)),some (.int c),some (.int x),some (.int y),D,p,f]) ?_ λI nx=>?_
   case refine_2 =>
    refine⟨_,rfl,_,rfl,_,_,rfl,rfl,_,_,rfl,rfl,_,rfl,ko (λe=>?_) (λe=>?_)⟩
    ·have e:(i:Int)<(n:Int)-1:=g8 e
     refine⟨_,rfl,_,_,rfl,rfl,?_⟩;refine⟨_,rfl,_,_,rfl,rfl,⟨!_,!_⟩,_,rfl,_,_,rfl,rfl,_,_,rfl,rfl,(by show (0:Int)<(i:Int)+1;lia),nx _ _ ⟨rfl,(i:Int)+1,c/2%((i:Int)+1),?_,rfl⟩⟩;have Z:=bU (c/2) (show (i:Int)+1≠0 by lia);have U:=ck (c/2) (show (0:Int)<(i:Int)+1 by lia);lia
    ·exact nx _ _ ⟨rfl,_,_,⟨o1,o2,o3,o4,o5⟩,rfl⟩
   rintro d W ⟨rfl,x,y,⟨G,M,C,R,J⟩,rfl⟩;refine⟨_,rfl,_,_,rfl,rfl,⟨!_,!_⟩,?_⟩;dsimp only[iz];generalize c/97=rt;refine⟨_,rfl,_,_,rfl,rfl,(by show (0:Int)<3;decide),_,_,rfl,rfl,?_⟩;dsimp only[iz];refine oX (λd H4=>H4=W/\∃z:Int,1<=z/\d=[some (.ref a),some (.int n),some (.int g),some (.ref l),some (.int (m:Nat)),some (.int (i:Nat)),some (.int c),some (.int x),some (.int y),some (.int rt),some (.int z),f]) ?_ λI nx=>?_
   case refine_2 =>
    refine⟨_,rfl,_,_,rfl,rfl,⟨!_,!_⟩,_,_,rfl,rfl,(by show (0:Int)<3;decide),rfl,_,rfl,ko (λe=>?_) (λe=>?_)⟩
    ·refine⟨_,rfl,_,_,rfl,rfl,⟨!_,!_⟩,_,_,rfl,rfl,⟨!_,!_,!_⟩,_,_,rfl,rfl,_,_,rfl,rfl,(by show (0:Int)<10^(60:Int).toNat-1;decide),_,_,rfl,rfl,nx _ _ ⟨rfl,_,?_,rfl⟩⟩
     have:=bU (rt/9) (show (10:Int)^(60:Int).toNat-1≠0 by decide)
     lia
    ·refine nx _ _ ⟨rfl,_,?_,rfl⟩
     have:=bU rt (show (3:Int)≠0 by decide)
     lia
   rintro d H4 ⟨rfl,z,hz,rfl⟩;refine⟨_,rfl,_,_,rfl,rfl,⟨!_,!_⟩,_,_,rfl,rfl,(by show (0:Int)<7;decide),_,_,rfl,rfl,?_⟩;dsimp only[iz];refine oX (λd H5=>H5=H4/\∃e:Int,1<=e/\e<=7/\d=[some (.ref a),some (.int n),some (.int g),some (.ref l),some (.int (m:Nat)),some (.int (i:Nat)),some (.int c),some (.int x),some (.int y),some (.int rt),some (.int z),some (.int e)]) ?_ λI nx=>?_
   case refine_2 =>
    have Z:=bU (rt/11) (show (7:Int)≠0 by decide);have U:=ck (rt/11) (show (0:Int)<7 by decide);refine⟨_,rfl,_,_,rfl,rfl,⟨!_,!_⟩,_,_,rfl,rfl,(by show (0:Int)<4;decide),_,_,rfl,rfl,_,rfl,ko (λe=>?_) (λe=>?_)⟩
    ·have b:=Xq (x:=1+rt/11%7) ∅ ∅ hg
     exact⟨_,rfl,_,rfl,_,_,rfl,rfl,⟨∅,∅,!_⟩,_,_,rfl,rfl,nx _ _ ⟨rfl,_,b.1,b.2,rfl⟩⟩
    ·exact nx _ _ ⟨rfl,_,∅,∅,rfl⟩
   rintro d H5 ⟨rfl,le,le1,le7,rfl⟩;refine oX (λd L=>aG H5 L/\∃x y:Int,(0<=x/\x<n/\0<=y/\y<n/\x≠y)/\d=[some (.ref a),some (.int n),some (.int g),some (.ref l),some (.int (m:Nat)),some (.int (i:Nat)),some (.int c),some (.int x),some (.int y),some (.int rt),some (.int z),some (.int le)]) ?_ λI nx=>?_
   case refine_2 =>
    refine⟨_,rfl,_,_,rfl,rfl,(by show (0:Int)<2;decide),rfl,_,rfl,ko (λe=>?_) (λe=>?_)⟩
    ·exact⟨_,rfl,_,rfl,_,_,rfl,nx _ _ ⟨aG.refl _,y,x,⟨C,R,G,M,bK J⟩,rfl⟩⟩
    ·exact nx _ _ ⟨aG.refl _,x,y,⟨G,M,C,R,J⟩,rfl⟩
   rintro d L ⟨s6,x,y,⟨G,M,C,R,J⟩,rfl⟩;have hl6:=s6 _ _ A;refine⟨_,rfl,.inl ⟨rfl,_,bP.of hl6⟩,_,rfl,_,rfl,_,rfl,_,rfl,_,_,rfl,rfl,⟨!_,!_⟩,_,_,rfl,rfl,(by show (0:Int)<4;decide),_,_,rfl,rfl,_,rfl,aaN,λq hq=>?_⟩;have u7:=aG.new (o:=.tup [V.int x,.int y,.int z,.int (1+rt/5%4),.int le]) hq;have B:=au (H:=L) (a:=q) (o:=.tup [V.int x,.int y,.int z,.int (1+rt/5%4),.int le]);generalize upd L q (.tup [V.int x,.int y,.int z,.int (1+rt/5%4),.int le])=H7 at u7 B;have s:=s6.trans u7;have S1:=s _ _ A;have ag4:=vI.mono λb x=>s.dB;have Z:=bU (rt/5) (show (4:Int)≠0 by decide);have U:=ck (rt/5) (show (0:Int)<4 by decide);refine⟨l,_,_,rfl,rfl,S1,(by rw[ah,vI.len,ah];exact cS ∅),?_⟩;refine Gc _ _ ⟨(O.trans s).out Y,rs++[⟨x,y,z,1+rt/5%4,le⟩],_,_,_,_,_,_,_,rfl,⟨qs++[q],?_,?_⟩,by rw[av,ei];rfl,λr u=>?_⟩
   ·rw[au,aT];rfl
   ·rw[aT]
    exact (dF.snoc ag4 (cP.of B)).mono λb x=>cP.past S1 sA cK
   ·rcases br.mp u with w'|w'
    ·exact ok r w'
    ·rw[bq.mp w']
     exact⟨G,M,C,R,J,hz,by show 1<=1+rt/5%4;lia,by show 1+rt/5%4<=4;lia,le1,le7⟩
  ·rintro d v ⟨O,rs,v5,X,v7,v8,D,p,f,rfl,hR,ei,ok⟩
   exact⟨_,rfl,k l v rs O Y hR (by rw[ei];simpa using hm) ok⟩
theorem J3{K:af}{H:Hp}{l q:Addr}{qs:List Addr}{cl:List (Nat×Nat)}{pl a:Nat}(hl:H l=some (.lst (qs.map V.ref)))(d:dF K H qs (cl.map λc=>[.int c.1,.int c.2]))(e:H q=some (.tup [V.int pl,.int a])) :
 (upd H l (.lst (qs.map V.ref++[.ref q]))) l=some (.lst ((qs++[q]).map V.ref))/\dF K (upd H l (.lst (qs.map V.ref++[.ref q]))) (qs++[q]) ((cl++[(pl,a)]).map λc=>[.int c.1,.int c.2]):=by
 refine⟨by rw[au,aT];rfl,?_⟩;rw[aT];exact (dF.snoc d (cP.of e)).mono λb x=>cP.past hl sA cK
inductive Fx(K:af)(vs:List V)(H:Hp)(Q:VK)(E:XK):Prop
 |mk (a:Addr) (cs:List Int) (n g:Nat):vs=[.ref a,.int n,.int g]->bP K H a (cs.map V.int)->1<=n->n<=10->g<3->(∀l (qs:List Addr) H' (cl:List (Nat×Nat)),aG H H'->H l=none->H' l=some (.lst (qs.map V.ref))->dF K H' qs (cl.map λc=>[.int c.1,.int c.2])->1<=cl.length->cl.length<=20->(∀c∈cl,c.1<n/\c.2<3)->Q (.ref l) H')->Fx K vs H Q E
theorem LD{t:Ad}(T:Txt K mg t):cz P w K mg base iM 2 t.p9 t.uA ["_law_script","_law_size","_law_group"]  (Fx K):=by
 refine T.E6.F.kh jY λH Q E O h=>?_
 ·obtain⟨a,cs,n,g,rfl,W,hn1,hn,hg,k⟩:=h
  refine⟨_,(aq (sS 3 jY (jq iP)) (aq (sS 4 jY (xL (jq (Ir aB aB aB)) (bw dZ (bw fK (cG (gw T) O T.gz (nZ (pv 0) aB)) aB) aB))) (aq (fS (gB rfl T.jy (gV (bw fB aB (bw dZ (bw fK (cG (gw T) O T.gz (nZ (pv 0) aB)) aB) (pv 4))))) (gT 5 jY) (aq (sS 6 jY (bw fK (cG (gw T) O T.gz (nZ (pv 0) (bw fB aB (bw dZ (pv 5) aB)))) (bw fB aB (bw Tp aB (bw fK (pv 5) aB))))) (aq (sS 7 jY (bw dZ (pv 6) (pv 1))) (bI (cD (qT ud (bw dZ (bw fK (pv 6) aB) aB) aB) (oE (pS be bh bg eE (pv 3) (gV (dU (nZ (pv 7) (bw dZ (bw fB (bw fB (pv 2) aB) (bw dZ (bw fK (pv 6) aB) aB)) aB)))))) (oE (pS be bh bg eE (pv 3) (gV (dU (nZ (pv 7) (pv 2))))))))))) (oR (pv 3))))),?_⟩
  left
  refine⟨bM _,λl J=>?_⟩;have s0:=aG.new (o:=.lst []) J;have LO:=au (H:=H) (a:=l) (o:=.lst []);generalize upd H l (.lst [])=H0 at s0 LO;refine⟨g9,λl1 h1=>?_⟩;have u1:=aG.new (o:=.lst [V.int 6,V.int 6,V.int 20]) h1;have D:=au (H:=H0) (a:=l1) (o:=.lst [V.int 6,V.int 6,V.int 20]);have A:=u1 _ _ LO;have M:=s0.trans u1;generalize upd H0 l1 (.lst [V.int 6,V.int 6,V.int 20])=H1 at u1 D A M;refine⟨_,rfl,a,cs,1,rfl,M.seq W,!_,_,_,rfl,rfl,⟨!_,!_⟩,_,_,rfl,rfl,(by show (0:Int)<3;decide),?_⟩;obtain⟨u,hmo,X⟩:=agH (x:=6) (y:=6) (z:=20) (i:=cs.getD (1:Int).toNat 0/7%3) 1 20 (!_) (!_) (!_) (bU _ (!_)) (ck _ (!_));refine⟨l1,_,_,_,rfl,rfl,bP.of D,X,?_⟩;dsimp only[iz];refine⟨_,rfl,a,cs,1,rfl,M.seq W,!_,_,_,rfl,rfl,⟨!_,!_⟩,_,rfl,_,_,rfl,rfl,(by show 0<u;lia),_,_,rfl,rfl,?_⟩;have q1:=bU (cs.getD (1:Int).toNat 0/36) (show u≠0 by lia);have q2:=ck (cs.getD (1:Int).toNat 0/36) (show 0<u by lia);obtain⟨m,em⟩:∃m:Nat,1+cs.getD (1:Int).toNat 0/36%u=(m:Int):=⟨(1+cs.getD (1:Int).toNat 0/36%u).toNat,∅⟩;have hm1:1<=m:=∅
  have alQ:m<=20:=∅
  refine⟨(m:Int),(by rw[<- em]),∅,∅,?_⟩;refine GL (n:=m) (λi Z p=>aG H p/\∃(C:List Addr) (cl:List (Nat×Nat)) (v5 R v7:Option V),Z=[some (.ref a),some (.int n),some (.int g),some (.ref l),some (.int u),v5,R,v7]/\p l=some (.lst (C.map V.ref))/\dF K p C (cl.map λc=>[.int c.1,.int c.2])/\cl.length=i/\∀c∈cl,c.1<n/\c.2<3)
   ⟨M,[],[],_,_,_,rfl,A,⟨rfl,λi q x e=>by cases e⟩,rfl,λc hc=>eL hc (-_)⟩ ?_ ?_
  ·rintro i Z p Nf Gc hi ⟨G,C,cl,v5,R,v7,rfl,d,v,ei,N⟩
   rw[gE];have e6:=bU (i:Int) (show (6:Int)≠0 by decide);have d6:0<=(i:Int)/6:=Int.ediv_nonneg ∅ (!_);have d6':(i:Int)/6<=20:=∅
   refine⟨_,rfl,_,rfl,_,_,rfl,rfl,(by show (0:Int)<6;decide),_,_,rfl,rfl,a,cs,_,rfl,G.seq W,∅,_,rfl,_,_,rfl,rfl,⟨!_,!_⟩,_,_,rfl,rfl,.inl ⟨!_,!_⟩,_,_,rfl,rfl,_,_,rfl,rfl,⟨∅,∅⟩,?_⟩;dsimp only[iz];generalize cs.getD _ 0/(1+7*((i:Int)/6))=c;refine⟨_,rfl,_,rfl,_,_,rfl,rfl,(by show (0:Int)<n;lia),?_⟩;dsimp only[iz];have L:=bU c (show (n:Int)≠0 by lia);have I:=ck c (show (0:Int)<n by lia);obtain⟨r,U⟩:∃r:Nat,c%(n:Int)=(r:Int):=⟨(c%(n:Int)).toNat,∅⟩;rw[U];have B:r<n:=∅
   refine⟨_,rfl,_,_,rfl,rfl,⟨!_,!_⟩,_,_,rfl,rfl,(by show (0:Int)<4;decide),rfl,_,rfl,ko (λe=>?_) (λe=>?_)⟩
   ·have g1:=bU ((g:Int)+1+c/44%2) (show (3:Int)≠0 by decide)
    have g2:=ck ((g:Int)+1+c/44%2) (show (0:Int)<3 by decide);obtain⟨S,egr⟩:∃S:Nat,((g:Int)+1+c/44%2)%3=(S:Int):=⟨(((g:Int)+1+c/44%2)%3).toNat,∅⟩;refine⟨_,rfl,.inl ⟨rfl,_,bP.of d⟩,_,rfl,_,rfl,_,_,rfl,rfl,_,rfl,_,_,rfl,rfl,⟨!_,!_⟩,_,_,rfl,rfl,(by show (0:Int)<2;decide),_,_,rfl,rfl,_,_,rfl,rfl,(by show (0:Int)<3;decide),g7,λq Y=>?_⟩;have s:=aG.new (o:=.tup [V.int r,.int (((g:Int)+1+c/44%2)%3)]) Y;have f:=au (H:=p) (a:=q) (o:=.tup [V.int r,.int (((g:Int)+1+c/44%2)%3)]);generalize upd p q (.tup [V.int r,.int (((g:Int)+1+c/44%2)%3)])=H3 at s f;rw[egr] at f;have j:=s _ _ d;obtain⟨L,I⟩:=J3 (cl:=cl) j (v.mono λb x=>s.dB) f;refine⟨l,_,_,rfl,rfl,j,(by rw[ah,v.len,ah];exact cS ∅),Gc _ _ ⟨(G.trans s).out J,_,_,_,_,_,rfl,L,I,by rw[av,ei];rfl,λz hz=>?_⟩⟩;rcases br.mp hz with w'|w'
    ·exact N z w'
    ·rw[bq.mp w']
     exact⟨B,by show S<3;lia⟩
   ·refine⟨_,rfl,.inl ⟨rfl,_,bP.of d⟩,_,rfl,_,rfl,g7,λq Y=>?_⟩
    have s:=aG.new (o:=.tup [V.int r,.int g]) Y;have f:=au (H:=p) (a:=q) (o:=.tup [V.int r,.int g]);generalize upd p q (.tup [V.int r,.int g])=H3 at s f;have j:=s _ _ d;obtain⟨L,I⟩:=J3 (cl:=cl) j (v.mono λb x=>s.dB) f;refine⟨l,_,_,rfl,rfl,j,(by rw[ah,v.len,ah];exact cS ∅),Gc _ _ ⟨(G.trans s).out J,_,_,_,_,_,rfl,L,I,by rw[av,ei];rfl,λz hz=>?_⟩⟩;rcases br.mp hz with w'|w'
    ·exact N z w'
    ·rw[bq.mp w']
     exact⟨B,hg⟩
  ·rintro Z p ⟨G,C,cl,v5,R,v7,rfl,d,v,ei,N⟩
   exact⟨_,rfl,k l C p cl G J d v ∅ ∅ N⟩
inductive Ih(K:af)(CT C:Addr)(vs:List V)(H:Hp)(Q:VK)(E:XK):Prop
 |mk (p dx tp ln lr:Addr) (ns:List Int) (rs:List R5):vs=[.ref p,.ref tp]->H p=some (.ins C dx [])->c7 K CT H tp ln lr ns rs->rs.length<=20->(∀r∈rs,1<=r.d/\r.d<=4)->(∀lu (ls:List Addr) H',H lu=none->(∀l∈ls,H l=none)->lu∉ls->ls.Nodup->ls.length=rs.length->H' p=some (.ins C dx [("town",.ref tp),("upright",.ref lu)])->H' lu=some (.lst (ls.map V.ref))->(∀(j:Nat) l r,ls[j]?=some l->rs[j]?=some r->H' l=some (.lst (bR (aA r.d.toNat))))->(∀b o,H b=some o->b≠p->H' b=some o)->Q .fH H')->Ih K CT C vs H Q E
theorem Dq{t:Ad}(T:Txt K mg t):cz P w K mg base iM 3 t.iG t.jZ ["self","town"]  (Ih K t.bD t.c8):=by
 refine T.we.F.kh um λH Q E hr h=>?_
 ·obtain⟨p,X,A,ln,lr,ns,rs,rfl,hp,hT,AZ,hw,k⟩:=h
  refine⟨_,(aq (fZ (pv 0) (pv 1) rfl) (bI (fZ (pv 0) (gq (kO um ["rope","town"] [none,some 1]) rfl (gB rfl T.jy (gV (aY (pv 1) rfl))) (λ_ _ _ _=>by exact (gS 0 zD)) (λ_ _ _ _=>by exact mO) (λ_ _ _ _=>by exact (fW (Oz rfl) (by rfl) T.tw boot_list (gV (fW Mb (by rfl) T.jy boot_range (gV (cG (M4 T) hr T.Hf (nZ (pv 1) (pv 0))))))))) rfl))),?_⟩
  left
  obtain⟨⟨dt,Y⟩,_⟩:=id hT;have Y5:A≠p:=vL Y hp λz=>by have:=(HO.ins.inj z).2.2;cases this
  refine⟨_,rfl,_,rfl,p,_,X,[],rfl,hp,T.jk,T.nL,!_,?_⟩;rw[dG (names:=[]) rfl rfl];generalize J:upd H p (.ins t.c8 X ([]++[(Str.ofString "town",V.ref A)]))=H1;have k1:∀b o,H b=some o->b≠p->H1 b=some o:=λb o e N=>by rw[<- J,aH N];exact e
  have v:H1 p=some (.ins t.c8 X [(Str.ofString "town",V.ref A)]):=by rw[<- J];exact au
  have M:=hT.but k1 hp Y5;have f1:∀{l:Addr},H1 l=none->H l=none:=λ{l} e=>by
   cases q:H l with
   |none=>rfl
   |some o =>
    by_cases z:l=p
    ·rw[z,v] at e;cases e
    ·have:=k1 _ _ q z
     rw[e] at this;cases this
  obtain⟨⟨dt,ag5⟩,_⟩:=id M;refine⟨_,rfl,A,_,dt,_,_,rfl,ag5,T.fJ,T.uC,rfl,_,rfl,(by show -(2^62)<=((rs.length:Nat):Int);lia),(by show ((rs.length:Nat):Int)<2^62;lia),λc a=>?_⟩;refine ir (n:=(((rs.length:Nat):Int)).toNat) (λi ys O=>∃f:List Addr,ys=f.map V.ref/\f.length=i/\f.Nodup/\(∀l∈f,H l=none/\O l≠none)/\∀(j:Nat) l r,f[j]?=some l->rs[j]?=some r->O l=some (.lst (bR (aA r.d.toNat)))/\l≠c) a By sq ⟨[],rfl,rfl,k8,λl s=>(by cases s),λj l r e=>by simp at e⟩ ?_ ?_
  ·rintro i ys O R B U ⟨f,rfl,u,nd,m,g⟩ x Z ⟨rfl,rfl⟩
   have R:i<rs.length:=by simpa using R
   have So:rs[i]?=some rs[i]:=aa R;have wi:=hw _ (aM So);obtain⟨d,ed⟩:∃d:Nat,rs[i].d=(d:Int):=⟨rs[i].d.toNat,∅⟩;refine⟨_,rfl,_,rfl,A,ln,lr,ns,rs,i,rs[i],(by show [V.ref A,V.int (0+(i:Int))]=_;rw[gE]),M.mono B,So,?_⟩;refine⟨rs[i].d,rfl,λq hq=>?_⟩;have S:=aG.new (o:=.S4 0 rs[i].d) hq;refine⟨q,d,rfl,(by rw[au,ed]),∅,λl s=>?_⟩;have LO:H l=none:=f1 ((B.trans S).free s);have nl:l∉f:=λz=>(m l z).2 (S.free s);have G:=S.trans (aG.new (o:=.lst ((aA d).map λk=>V.int (k:Nat))) s);have Vn:=G _ _ U;have y:(upd (upd Z q (.S4 0 rs[i].d)) l (.lst ((aA d).map λk=>V.int (k:Nat)))) l=some (.lst (bR (aA d))):=au;have Y6:l≠c:=(aE (S _ _ U) s).symm;generalize upd (upd Z q (.S4 0 rs[i].d)) l (.lst ((aA d).map λk=>V.int (k:Nat)))=H4 at G Vn y;refine fQ a (by simpa using R) (B.trans G) Vn (by rw[ah,u];exact cS ∅) ⟨f++[l],by rw[aT];rfl,by rw[av,u];rfl,Gr.BB nd nl,λD hl'=>?_,λj D r C L=>?_⟩
   ·rcases br.mp hl' with z|z
    ·obtain⟨z1,W⟩:=m D z
     refine⟨z1,?_⟩;by_cases q:D=c
     ·rw[q,au];exact aS _
     ·rw[aH q]
      cases e:Z D with
      |none=>exact eL e W
      |some o=>rw[G _ _ e];exact aS _
    ·rw[bq.mp z]
     exact⟨LO,by rw[aH Y6,y];exact aS _⟩
   ·rcases Gj C with C|⟨rfl,rfl⟩
    ·obtain⟨z1,W⟩:=g j D r C L
     exact⟨by rw[aH W];exact G _ _ z1,W⟩
    ·rw[u,So] at L
     cases L;rw[ed,cy];exact⟨by rw[aH Y6];exact y,Y6⟩
  ·rintro ys O B U ⟨f,rfl,u,nd,m,g⟩
   have u:f.length=rs.length:=by simpa using u
   have npa:p≠c:=aE v a;have I:=B _ _ v;refine⟨_,rfl,p,_,X,_,rfl,I,T.jk,T.nM,(by show 1<1000;decide),?_⟩;rw[dG (names:=["town"]) rfl (by decide +kernel)];refine k c f _ (f1 a) (λl s=>(m l s).1) (λz=>?_) nd u au (by rw[aH (bK npa)];exact U) (λj l r C L=>?_) λb o e N=>by rw[aH N];exact B _ _ (k1 _ _ e N)
   ·obtain⟨j,hj⟩:=oi z
    have hjl:=(ai.mp hj).1;exact (g j c _ hj (aa (u▸hjl))).2 rfl
   ·have z:=(g j l r C L).1
    rw[aH (vL z I (by intro z;cases z))];exact z
inductive Fy(K:af)(C:Addr)(vs:List V)(H:Hp)(Q:VK)(E:XK):Prop
 |mk (tp ln lr:Addr) (ns:List Int) (rs:List R5):vs=[.ref tp]->c7 K C H tp ln lr ns rs->ns.length<=12->(∀l (qs:List Addr) H',aG H H'->H l=none->H' l=some (.lst (qs.map V.ref))->dF K H' qs (gH ns.length (yJ ns))->Q (.ref l) H')->Fy K C vs H Q E
theorem Jg{t:Ad}(T:Txt K mg t):cz P w K mg base iM 3 t.nh t.rN ["town"]  (Fy K t.bD):=by
 refine T.C5.F.kh A5 λH Q E A h=>?_
 ·obtain⟨s,z,D,ns,C,rfl,u,G,k⟩:=h
  refine⟨_,(oR (gq (kO A5 ["house","town"] [none,some 0]) rfl (gB rfl T.jy (gV (aY (pv 0) rfl))) (λ_ _ _ _=>by exact (gS 0 D8)) (λ_ _ _ _=>by exact mO) (λ_ _ _ _=>by exact (cG (HW T) A T.Ea (nZ (pv 1) (pv 0)))))),?_⟩
  left
  obtain⟨⟨y,l⟩,_⟩:=id u;refine⟨_,rfl,s,_,y,_,_,rfl,l,T.fJ,T.mC,rfl,(ns.length:Int),rfl,∅,∅,λo a=>?_⟩;refine ir (n:=((ns.length:Int)).toNat) (λi r g=>∃c:List Addr,r=c.map V.ref/\dF K g c (gH i (yJ ns))) a By sq ⟨[],rfl,⟨rfl,λi q x e=>by cases e⟩⟩ ?_ ?_
  ·rintro i r g d j m ⟨c,rfl,f⟩ x J ⟨rfl,rfl⟩
   have d:i<ns.length:=by simpa using d
   rw[gE];refine⟨_,rfl,_,rfl,s,z,D,ns,C,i,ns[i],rfl,u.mono j,aa d,λq I p B=>?_⟩;have v:=p _ _ m;have L:c.length=i:=by rw[f.len];simp[gH]
   refine fQ a (by simpa using d) (j.trans p) v (by rw[ah];exact cS ∅) ⟨c++[q],by rw[aT];rfl,?_⟩;have e:gH (i+1) (yJ ns)=gH i (yJ ns)++[cR ⟨ns[i],0,0,-1⟩]:=by
    unfold gH;rw[mF,aT,bN,List.map_nil];congr 3;unfold yJ;rw[az,aa d];rfl
   rw[e];exact (dF.snoc (f.mono λb x=>p.dB) B).mono λb x=>cP.past v sA cK
  ·rintro r g j m ⟨c,rfl,f⟩
   rw[show ((ns.length:Int)).toNat=ns.length from rfl] at f;exact k o c g j a m f
inductive As(K:af)(C:Addr)(vs:List V)(H:Hp)(Q:VK)(E:XK):Prop
 |mk (tp ln lr lc:Addr) (ns:List Int) (rs:List R5) (qs:List Addr) (cl:List (Nat×Nat)):vs=[.ref tp,.ref lc]->c7 K C H tp ln lr ns rs->bP K H lc (qs.map V.ref)->dF K H qs (cl.map λc=>[.int c.1,.int c.2])->cl.length<=20->(∀c∈cl,c.1<ns.length/\c.2<3)->Q .fH H->As K C vs H Q E
theorem Ew{t:Ad}(T:Txt K mg t):cz P w K mg base iM 1 t.jc t.lG ["town","callers"]  (As K t.bD):=by
 refine T.yu.F.kh vU λH Q E N h=>?_
 ·obtain⟨u,M,R,g,ns,O,d,cl,rfl,J,s,A,L,n,k⟩:=h
  refine⟨_,(aq (cD (qT PX (lS T.iN (pv 1)) (mJ rfl T.Ho (v:=.int 20) ⟨_,rfl⟩)) dO bz) (bI (fS (fV (pv 1)) (gT 2 vU) (aq (cD (qT sf (lS T.iN (pv 2)) aB) dO bz) (aq (cD (jo (jD qX pR aB (xT (pv 2) aB) (aY (pv 0) rfl))) dO bz) (bI (cD (jo (jD qX pR aB (xT (pv 2) aB) (lS T.iN (mJ rfl T.nP (v:=.ref t.ff) rfl)))) dO bz))))))),?_⟩
  left
  obtain⟨⟨C,m⟩,_⟩:=id J;have I:d.length=cl.length:=by rw[A.len,ah]
  refine⟨_,rfl,g,_,rfl,.inl s,_,_,rfl,rfl,_,rfl,EW (fy (by rw[ah];lia)) ?_⟩;refine⟨_,rfl,g,rfl,⟨_,s⟩,se (K:=K) (a:=g) (xs:=d.map V.ref) (λi l c=>c=H/\∃o:Option V,l=[some (.ref u),some (.ref g),o]) ⟨rfl,_,rfl⟩ (λi l c _ z=>by rw[z.1];exact s) ?_ ?_⟩
  ·rintro i y l c r ⟨rfl,o,rfl⟩
   have b:=(ai.mp r).1;rw[ah] at b;have e:i<cl.length:=I▸b;have D:y=.ref d[i]:=by
    rw[aj,aa b] at r;exact (aK r).symm
   subst D;have f:cP K c d[i] [.int cl[i].1,.int cl[i].2]:=A.at' i _ _ (aa b) (by rw[aj,aa e];rfl);obtain⟨x,B⟩:=n _ (aQ e);generalize d[i]=q at f;generalize cl[i]=cc at f x B;obtain⟨p,j⟩:=cc;refine⟨_,rfl,q,_,rfl,.inr f,rfl,_,rfl,EW (by show (!decide (V.int 2=V.int 2))=false;rw[e8 rfl];rfl) ?_⟩;refine⟨_,rfl,q,_,_,_,rfl,rfl,f,rfl,_,_,rfl,rfl,_,rfl,?_⟩;rw[e8 (show (0:Int)<=(p:Int) by lia)];refine gC ⟨_,rfl,u,_,C,_,_,rfl,m,T.fJ,T.mC,rfl,_,_,rfl,rfl,_,rfl,?_⟩;rw[e8 (show (p:Int)<(ns.length:Int) by have:p<ns.length:=x;lia)];refine eZ ?_;refine⟨_,rfl,q,_,_,_,rfl,rfl,f,rfl,_,_,rfl,rfl,_,rfl,?_⟩;rw[e8 (show (0:Int)<=(j:Int) by lia)];refine gC ⟨_,_,rfl,.inr (T.gv _),_,_,rfl,rfl,_,rfl,?_⟩;have G:decide ((j:Int)<((([.int 1,.int 2,.int 4]:List V).length:Nat):Int))=true:=e8 (by show (j:Int)<3;have:j<3:=B;lia);rw[G];exact eZ ⟨rfl,_,rfl⟩
  ·rintro l c ⟨rfl,o,rfl⟩
   exact k
end
noncomputable abbrev nc(t:Ad):NC:=⟨t.cN,t.c8,t.eS,t.jd,t.iJ,t.fY,t.iW⟩
section
variable{P:Program}{w:World}{K:af}{mg:Str->Option Value}{base:Heap}
inductive J4(K:af)(CT:Addr)(c:NC)(vs:List V)(H:Hp)(Q:VK)(E:XK):Prop
 |mk (p dx tp ln lr lc:Addr) (ns:List Int) (rs:List R5) (qs:List Addr) (cl:List (Nat×Nat)):vs=[.ref p,.ref tp,.ref lc]->H p=some (.ins c.fC dx [])->c7 K CT H tp ln lr ns rs->ns.length<=12->rs.length<=20->(∀r∈rs,1<=r.d/\r.d<=4)->bP K H lc (qs.map V.ref)->dF K H qs (cl.map λc=>[.int c.1,.int c.2])->cl.length<=20->(∀c∈cl,c.1<ns.length/\c.2<3)->(∀F H',fG K c H' F p tp ns.length (S0 ns rs cl)->(∀b o,H b=some o->b≠p->H' b=some o)->(∀b,F b->b=p∨H b=none)->Q .fH H')->J4 K CT c vs H Q E
noncomputable abbrev nf(fs:List (Str×V))(k:Str)(v:V):List (Str×V):=fs++[(k,v)]
structure Fz(K:af)(CT:Addr)(H:Hp)(tp ln lr lc:Addr)(ns:List Int)(rs:List R5)(qs:List Addr)(cl:List (Nat×Nat)):Prop where
 vP:c7 K CT H tp ln lr ns rs
 QM:bP K H lc (qs.map V.ref)
 tup:dF K H qs (cl.map λc=>[.int c.1,.int c.2])
theorem Fz.mono{f c d e g:Addr}{H a:Hp}{ns:List Int}{rs:List R5}{qs:List Addr}{cl:List (Nat×Nat)}(h:Fz K f H c d e g ns rs qs cl)(s:aG H a):Fz K f a c d e g ns rs qs cl:=⟨h.vP.mono s,s.seq h.QM,h.tup.mono λb x=>s.dB⟩
theorem Fz.put{g a f i d p C j:Addr}{H:Hp}{ns:List Int}{rs:List R5}{qs:List Addr}{cl:List (Nat×Nat)}{k:List (Str×V)}{o:HO}(h:Fz K g H a f i d ns rs qs cl)(c:H p=some (.ins C j k))(n:a≠p):Fz K g (upd H p o) a f i d ns rs qs cl :=
 ⟨h.vP.but (λb u e l=>by rw[aH l];exact e) c n,bP.past c UD cK h.QM,h.tup.mono λb x=>cP.past c mS cK⟩
theorem wF(la:Nat->Addr)(i:Nat)(l:Addr):(aA (i+1)).map (λg=>V.ref (fD la i l g))=(aA i).map (λg=>V.ref (la g))++[.ref l]:=by
 rw[mF,aT,bN,List.map_nil,bS];congr 1;refine c6 λg a=>?_;rw[cZ (bE (dm.mp a))]
noncomputable def aaS(loc:Role->Addr)(acc:Addr)(la:Nat->Addr):Role->Addr
 |.zg=>acc
 |.rows g=>la g
 |r=>loc r
noncomputable def obR(ob:Role->Option HO)(la:Nat->Addr)(rq:Nat->List Addr)(i:Nat):Role->Option HO
 |.zg=>some (.lst ((aA i).map λg=>.ref (la g)))
 |.rows g=>if g<i then some (.lst ((rq g).map V.ref)) else none
 |r=>ob r
noncomputable def Xr(loc:Role->Addr)(acc:Addr)(lb ld:Nat->Addr):Role->Addr
 |.kq=>acc
 |.book g=>lb g
 |.fq g=>ld g
 |r=>loc r
noncomputable def HY(C:Addr)(ob:Role->Option HO)(Pw lb ld:Nat->Addr)(i:Nat):Role->Option HO
 |.kq=>some (.lst ((aA i).map λg=>.ref (lb g)))
 |.book g=>if g<i then some (.ins C (Pw g) [("kept",.ref (ld g))]) else none
 |.fq g=>if g<i then some (.dT []) else none
 |r=>ob r
noncomputable def adC(loc:Role->Addr)(acc:Addr)(lh:Nat->Addr):Role->Addr
 |.mU=>acc
 |.handed g=>lh g
 |r=>loc r
noncomputable def obH(ob:Role->Option HO)(lh:Nat->Addr)(i:Nat):Role->Option HO
 |.mU=>some (.lst ((aA i).map λg=>.ref (lh g)))
 |.handed g=>if g<i then some (.lst []) else none
 |r=>ob r
noncomputable def dxF(dx Vv:Addr)(Pw:Nat->Addr):Role->Addr
 |.fC=>dx
 |.e9=>Vv
 |.book g=>Pw g
 |_=>0
noncomputable def adD(p sp lu:Addr)(ls:List Addr)(acc:Addr)(la:Nat->Addr)(acb:Addr)(lb ld:Nat->Addr)(V4 Xs Xu:Addr)(lh:Nat->Addr)(acl j6:Addr):Role->Addr
 |.fC=>p
 |.e9=>sp
 |.iQ=>lu
 |.nY i=>ls.getD i 0
 |.zg=>acc
 |.rows g=>la g
 |.kq=>acb
 |.book g=>lb g
 |.fq g=>ld g
 |.aO=>V4
 |.groups=>Xs
 |.mU=>Xu
 |.handed i=>lh i
 |.cT=>acl
 |.lP=>j6
 |_=>0
theorem Jh{t:Ad}(T:Txt K mg t):cz P w K mg base iM 5 t.m8 t.rK ["self","town","callers"]  (J4 K t.bD (nc t)):=by
 refine T.C3.F.kh jh λH Q E hr h=>?_
 ·obtain⟨p,s,y,ln,lr,lc,ns,rs,qs,cl,rfl,hp,hT,h12,AZ,hw,hL,vI,Xv,hok,k⟩:=h
  refine⟨_,(aq (fE (cG (Ew T) hr T.yu (nZ (pv 1) (pv 2)))) (aq (fZ (pv 0) (pv 1) rfl) (aq (fZ (pv 0) (cI T.we (Dq T) hr T.Se (gV (pv 1))) rfl) (aq (fZ (pv 0) (gq (kO jh ["bit","town"] [none,some 1]) rfl (Oa (mJ rfl T.nP (v:=.ref t.ff) rfl)) (λ_ _ _ _=>by exact (gS 0 D3)) (λ_ _ _ _=>by exact mO) (λ_ _ _ _=>by exact (cG (Jg T) hr T.C5 (gV (pv 1))))) rfl) (aq (fZ (pv 0) (gq (kO jh ["bit"] [none]) rfl (Oa (mJ rfl T.nP (v:=.ref t.ff) rfl)) (λ_ _ _ _=>by exact (gS 0 D4)) (λ_ _ _ _=>by exact mO) (λ_ _ _ _=>by exact (TJ T.uY.M (Ie T) (hr.mono (!_)) rfl T.aaH T.uY.B .nil mK))) rfl) (aq (fZ (pv 0) (gq (kO jh ["caller"] [none]) rfl (fV (pv 2)) (λ_ _ _ _=>by exact (gS 0 D5)) (λ_ _ _ _=>by exact mO) (λ_ _ _ _=>by exact (yT K (pv 0) aB))) rfl) (aq (fZ (pv 0) (gq (kO jh ["caller"] [none]) rfl (fV (pv 2)) (λ_ _ _ _=>by exact (gS 0 D6)) (λ_ _ _ _=>by exact mO) (λ_ _ _ _=>by exact (yT K (pv 0) aB))) rfl) (aq (fZ (pv 0) (gq (kO jh ["caller"] [none]) rfl (fV (pv 2)) (λ_ _ _ _=>by exact (gS 0 D7)) (λ_ _ _ _=>by exact mO) (λ_ _ _ _=>by exact (jq iP))) rfl) (aq (fZ (pv 0) (jq iP) rfl) (bI (fZ (pv 0) (jq iP) rfl))))))))))),?_⟩
  left
  obtain⟨⟨dt,htp⟩,htn,vs,htr,_⟩:=id hT;have Y5:y≠p:=vL htp hp λz=>by have:=(HO.ins.inj z).2.2;cases this
  refine bO λNx N=>?_;refine⟨_,rfl,_,rfl,y,ln,lr,lc,ns,rs,qs,cl,rfl,hT,hL,vI,Xv,hok,N _ _ ?_⟩;have B0:FH H H p (λ_=>p) (λr=>if r=.fC then some (.ins t.cN s []) else none):=by
   refine⟨⟨λr o e=>?_,λr q h1 h2 _=>?_⟩,rfl,-_,λb o e _=>e,λb hb=>.inl ?_⟩
   ·by_cases z:r=.fC
    ·rw[ee z] at e;cases e;exact hp
    ·rw[er z] at e;cases e
   ·have g:∀{r:Role},(if r=Role.fC then some (HO.ins t.cN s []) else none)≠none->r=.fC:=λ{r} h=>by
     by_cases z:r=.fC
     ·exact z
     ·rw[er z] at h;exact eL rfl h
    rw[g h1,g h2]
   ·obtain⟨_,_,e⟩:=hb
    exact e.symm
  refine bO λNx N=>?_;refine⟨_,rfl,_,rfl,p,_,s,[],rfl,hp,T.bV,T.oG,!_,?_⟩;rw[dG (names:=[]) rfl rfl];refine N _ _ ?_;have B1:=B0.put (.ins t.cN s ([]++[(Str.ofString "town",V.ref y)]));have hT1:c7 K t.bD (upd H p (.ins t.cN s ([]++[(Str.ofString "town",V.ref y)]))) y ln lr ns rs:=hT.but (λb o e n=>by rw[aH n];exact e) hp Y5;have hp1:=au (H:=H) (a:=p) (o:=.ins t.cN s ([]++[(Str.ofString "town",V.ref y)]));have kq1:∀b x,cP K H b x->cP K (upd H p (.ins t.cN s ([]++[(Str.ofString "town",V.ref y)]))) b x:=λb x=>cP.past hp mS cK;have hL1:=bP.past hp UD (cK (o:=.ins t.cN s ([]++[(Str.ofString "town",V.ref y)]))) hL;have aaU:=vI.mono kq1;generalize upd H p (.ins t.cN s ([]++[(Str.ofString "town",V.ref y)]))=H1 at B1 hT1 hp1 hL1 aaU;refine bO λNx N=>?_;refine⟨_,rfl,λI Vv nsp rT hne=>?_⟩;have t2:aG H1 (upd (upd H1 Vv (.own I)) I (.ins t.c8 Vv [])):=(aG.new rT).trans (aG.new (by rw[aH (bK hne)];exact nsp));refine⟨I,Vv,y,ln,lr,ns,rs,rfl,au,hT1.mono t2,AZ,hw,λlu J H2 hlu hls nlu nd el h2p h2u h2w kp=>⟨rfl,?_⟩⟩;have s2:aG H1 H2:=λb o e=>kp b o (t2 b o e) (aE e nsp);have adF:H1 lu=none:=t2.free hlu;have adG:∀l∈J,H1 l=none:=λl hl=>t2.free (hls l hl);have OS:wY H2 (WX I lu J) (R6 t.c8 Vv y lu J (rs.map λr=>aA r.d.toNat)):=by
   refine aax h2p h2u (by rw[ah];exact el) (λi l w' e1 e2=>?_) nd nlu;rw[aj] at e2;cases e3:rs[i]? with
   |none=>rw[e3] at e2;cases e2
   |some r=>rw[e3] at e2;cases e2;exact h2w i l r e1 e3
  have B2:=B1.join OS rfl (λr m=>by
   cases r <;> first|exact eL rfl m|skip
   ·exact nsp
   ·exact adF
   ·rename_i i
    show H1 (J.getD i 0)=none;by_cases z:i<J.length
    ·rw[az,aa z]
     exact adG _ (aQ z)
    ·exact eL (show ((rs.map λr:R5=>aA r.d.toNat)[i]?.map λw=>HO.lst (bR w))=none by rw[fF (by rw[ah];lia)];rfl) m) s2
  have adH:Fz K t.bD H2 y ln lr lc ns rs qs cl:=⟨hT1.mono s2,s2.seq hL1,aaU.mono λb x=>s2.dB⟩;have hp2:=s2 _ _ hp1;refine⟨_,rfl,p,_,s,_,rfl,hp2,T.bV,T.vc,(by show 1<1000;decide),?_⟩;rw[dG (names:=["town"]) rfl (by decide +kernel)];refine N _ _ ?_;have B3:=B2.put (.ins t.cN s (([]++[(Str.ofString "town",V.ref y)])++[(Str.ofString "strands",V.ref I)]));have aaW:=adH.put hp2 Y5 (o:=.ins t.cN s (([]++[(Str.ofString "town",V.ref y)])++[(Str.ofString "strands",V.ref I)]));have hp3:=au (H:=H2) (a:=p) (o:=.ins t.cN s (([]++[(Str.ofString "town",V.ref y)])++[(Str.ofString "strands",V.ref I)]));generalize upd H2 p (.ins t.cN s (([]++[(Str.ofString "town",V.ref y)])++[(Str.ofString "strands",V.ref I)]))=H3 at B3 aaW hp3;generalize ag9:(λr=>if (R6 t.c8 Vv y lu J (rs.map λr:R5=>aA r.d.toNat) r).isSome=true then WX I lu J r else p)=Ii at B3;generalize wh:(jr (λr=>if (R6 t.c8 Vv y lu J (rs.map λr:R5=>aA r.d.toNat) r).isSome=true then R6 t.c8 Vv y lu J (rs.map λr:R5=>aA r.d.toNat) r else jr (λr=>if r=.fC then some (.ins t.cN s []) else none) .fC (.ins t.cN s ([]++[(Str.ofString "town",V.ref y)])) r) .fC (.ins t.cN s (([]++[(Str.ofString "town",V.ref y)])++[(Str.ofString "strands",V.ref I)])))=mu at B3;refine bO λNx N=>?_;refine⟨_,rfl,⟨_,T.gv _⟩,λA hacc=>?_⟩;refine ir (n:=3) (λi ys Y=>∃(W:Nat->Addr) (G:Nat->List Addr),ys=(aA i).map (λg=>.ref (W g))/\FH H Y p (aaS Ii A W) (obR mu W G i)/\(∀g,g<i->dF K Y (G g) (gH ns.length (yJ ns)))) hacc (OC (T.gv _)) (GK (T.gv _)) ?_ ?_ ?_
  ·refine⟨λ_=>0,λ_=>[],rfl,(B3.new hacc (r:=.zg) (!_) (.lst [])).ext (λr=>?_) (λr m=>?_),λg D=>eL D ∅⟩
   ·cases r <;> first|rfl|skip
    rename_i g;show mu (.rows g)=_;rw[show mu (.rows g)=none by rw[<- wh];rfl];show none=(if g<0 then some (HO.lst (([]:List Addr).map V.ref)) else none);rw[er (rY g)]
   ·cases r <;> first|rfl|skip
    rename_i g;exact eL (show mu (.rows g)=none by rw[<- wh];rfl) m
  ·rintro i ys Y O sx U ⟨W,G,rfl,B,hR⟩ x H4 ⟨rfl,hx⟩
   refine⟨_,rfl,y,ln,lr,ns,rs,rfl,(aaW.mono sx).vP,h12,λl A3 H5 s5 hl h5 ht=>?_⟩;have hy5:=s5 _ _ U;have B5:=((B.add s5 hl h5 (r:=.rows i) (λz=>by cases z)).aaw (r:=.zg) (aS _) (λz=>by cases z) (.lst ((aA i).map (λg=>V.ref (W g))++[.ref l])));have su:l≠A:=(aE U hl).symm;refine fQ hacc O (sx.trans s5) hy5 (by rw[ah,bB];exact cS ∅) ⟨fD W i l,fD G i A3,(wF W i l).symm,B5.ext (λr=>?_) (λr m=>?_),λg D=>?_⟩
   ·cases r <;> first|rfl|skip
    ·show some (HO.lst _)=some (HO.lst _)
     rw[wF]
    ·rename_i g
     show jr (obR mu W G i) (.rows i) _ (.rows g)=if g<i+1 then some (HO.lst ((fD G i A3 g).map V.ref)) else none
     by_cases z:g=i
     ·subst z
      rw[eF,ee ∅,bS]
     ·rw[dM (λe=>z (by cases e;rfl)),cZ z]
      show (if g<i then some (HO.lst ((G g).map V.ref)) else none)=_;by_cases z2:g<i
      ·rw[ee z2,ee ∅]
      ·rw[er z2,er ∅]
   ·cases r <;> first|rfl|skip
    rename_i g;show yI (aaS Ii A W) (.rows i) l (.rows g)=fD W i l g;by_cases z:g=i
    ·subst z
     rw[jg,bS]
    ·rw[jw (λe=>z (by cases e;rfl)),cZ z]
     rfl
   ·by_cases z:g=i
    ·subst z
     rw[bS];exact ht.mono λb x=>cP.past hy5 sA cK
    ·rw[cZ z]
     exact ((hR g ∅).mono λb x=>s5.dB).mono λb x=>cP.past hy5 sA cK
  rintro ys H4 s4 U ⟨W,G,rfl,B4,hR4⟩;have adK:=aaW.mono s4;have V1:=s4 _ _ hp3;refine⟨_,rfl,p,_,s,_,rfl,V1,T.bV,T.kr,(by show 2<1000;decide),?_⟩;rw[dG (names:=["town","strands"]) rfl (by decide +kernel)];refine N _ _ ?_;generalize eo5:HO.ins t.cN s ((([]++[(Str.ofString "town",V.ref y)])++[(Str.ofString "strands",V.ref I)])++[(Str.ofString "rows_by_group",V.ref A)])=o5;have B5:=B4.put o5;have aaX:=adK.put V1 Y5 (o:=o5);have hp5:=au (H:=H4) (a:=p) (o:=o5);have hR5:∀g,g<3->dF K (upd H4 p o5) (G g) (gH ns.length (yJ ns)):=λg D=>(hR4 g D).mono λb x=>cP.past V1 mS cK;generalize upd H4 p o5=H5 at B5 aaX hp5 hR5;generalize adM:aaS Ii A W=Vw at B5;generalize aaY:jr (obR mu W G 3) .fC o5=Xw at B5;have n5:∀g,Xw .kq=none/\Xw (.book g)=none/\Xw (.fq g)=none:=λg=>by rw[<- aaY,<- wh];exact⟨rfl,rfl,rfl⟩
  refine bO λNx N=>?_;refine⟨_,rfl,⟨_,T.gv _⟩,λC Xx=>?_⟩;refine ir (n:=3) (λi ys Y=>∃(L ld Pw:Nat->Addr),ys=(aA i).map (λg=>.ref (L g))/\FH H Y p (Xr Vw C L ld) (HY t.eS Xw Pw L ld i)) Xx (OC (T.gv _)) (GK (T.gv _)) ?_ ?_ ?_
  ·refine⟨λ_=>0,λ_=>0,λ_=>0,rfl,(B5.new Xx (r:=.kq) (λz=>by cases z) (.lst [])).ext (λr=>?_) (λr m=>?_)⟩
   ·cases r <;> first|rfl|skip
    ·rename_i g
     show Xw (.book g)=(if g<0 then some (HO.ins t.eS 0 [("kept",.ref 0)]) else none);rw[er (rY g)];exact (n5 g).2.1
    ·rename_i g
     show Xw (.fq g)=(if g<0 then some (HO.dT []) else none);rw[er (rY g)];exact (n5 g).2.2
   ·cases r <;> first|rfl|skip
    ·rename_i g
     exact eL (n5 g).2.1 m
    ·rename_i g
     exact eL (n5 g).2.2 m
  ·rintro i ys Y O sx U ⟨L,ld,Pw,rfl,B⟩ x H6 ⟨rfl,hx⟩
   refine λbp DB nbp ahd hne=>?_;have t6:aG H6 (upd (upd H6 DB (.own bp)) bp (.ins t.eS DB [])):=(aG.new ahd).trans (aG.new (by rw[aH (bK hne)];exact nbp));refine⟨bp,DB,rfl,au,λd H7 hd hB kp=>⟨rfl,?_⟩⟩;have s7:aG H6 H7:=λb o e=>kp b o (t6 b o e) (aE e nbp);have hd6:H6 d=none:=t6.free hd;obtain⟨⟨UE,h7b⟩,h7d⟩:=hB;have nbd:bp≠d:=OP h7b h7d (λe=>by cases e);have sm:aG H6 (hide H7 d):=λb o e=>by
    have nb:b≠d:=aE e hd6;show (if b=d then none else H7 b)=some o;rw[er nb];exact s7 _ _ e
   have sm2:aG (hide H7 d) H7:=λb o e=>by
    have e:(if b=d then none else H7 b)=some o:=e;by_cases z:b=d
    ·rw[ee z] at e;cases e
    ·rw[er z] at e;exact e
   have hmb:(hide H7 d) bp=some (.ins t.eS UE [("kept",.ref d)]):=by
    show (if bp=d then none else H7 bp)=_;rw[er nbd];exact h7b
   have hmd:(hide H7 d) d=none:=ee rfl;have B1:=B.add sm nbp hmb (r:=.book i) (λz=>by cases z);have B2:=B1.add sm2 hmd h7d (r:=.fq i) (λz=>by cases z);have B3:=B2.aaw (r:=.kq) (aS _) (λz=>by cases z) (.lst ((aA i).map (λg=>V.ref (L g))++[.ref bp]));refine fQ Xx O (sx.trans s7) (s7 _ _ U) (by rw[ah,bB];exact cS ∅) ⟨fD L i bp,fD ld i d,fD Pw i UE,(wF L i bp).symm,B3.ext (λr=>?_) (λr m=>?_)⟩
   ·cases r <;> first|rfl|skip
    ·show some (HO.lst _)=some (HO.lst _)
     rw[wF]
    ·rename_i g
     show jr (HY t.eS Xw Pw L ld i) (.book i) _ (.book g)=if g<i+1 then some (HO.ins t.eS (fD Pw i UE g) [("kept",.ref (fD ld i d g))]) else none
     by_cases z:g=i
     ·subst z
      rw[eF,ee ∅,bS,bS]
     ·rw[dM (λe=>z (by cases e;rfl)),cZ z,cZ z]
      show (if g<i then some (HO.ins t.eS (Pw g) [("kept",.ref (ld g))]) else none)=_;by_cases z2:g<i
      ·rw[ee z2,ee ∅]
      ·rw[er z2,er ∅]
    ·rename_i g
     show jr (jr (HY t.eS Xw Pw L ld i) (.book i) _) (.fq i) _ (.fq g)=if g<i+1 then some (HO.dT []) else none
     by_cases z:g=i
     ·subst z
      rw[eF,ee ∅];rfl
     ·rw[dM (λe=>z (by cases e;rfl))]
      show (if g<i then some (HO.dT []) else none)=_;by_cases z2:g<i
      ·rw[ee z2,ee ∅]
      ·rw[er z2,er ∅]
   ·cases r <;> first|rfl|skip
    ·rename_i g
     show yI (Xr Vw C L ld) (.book i) bp (.book g)=fD L i bp g;by_cases z:g=i
     ·subst z
      rw[jg,bS]
     ·rw[jw (λe=>z (by cases e;rfl)),cZ z]
      rfl
    ·rename_i g
     show yI (yI (Xr Vw C L ld) (.book i) bp) (.fq i) d (.fq g)=fD ld i d g;by_cases z:g=i
     ·subst z
      rw[jg,bS]
     ·rw[jw (λe=>z (by cases e;rfl)),cZ z]
      rfl
  rintro ys H6 s6 U ⟨L,ld,Pw,rfl,B6⟩;have adN:=aaX.mono s6;have hR6:∀g,g<3->dF K H6 (G g) (gH ns.length (yJ ns)):=λg D=>(hR5 g D).mono λb x=>s6.dB;have hp6:=s6 _ _ hp5;subst eo5;refine⟨_,rfl,p,_,s,_,rfl,hp6,T.bV,T.qe,(by show 3<1000;decide),?_⟩;rw[dG (names:=["town","strands","rows_by_group"]) rfl (by decide +kernel)];refine N _ _ ?_;generalize eo7:HO.ins t.cN s (((([]++[(Str.ofString "town",V.ref y)])++[(Str.ofString "strands",V.ref I)])++[(Str.ofString "rows_by_group",V.ref A)])++[(Str.ofString "books",V.ref C)])=o7;have B7:=B6.put o7;have Px:=adN.put hp6 Y5 (o:=o7);have hp7:=au (H:=H6) (a:=p) (o:=o7);have hR7:∀g,g<3->dF K (upd H6 p o7) (G g) (gH ns.length (yJ ns)):=λg D=>(hR6 g D).mono λb x=>cP.past hp6 mS cK;generalize upd H6 p o7=H7 at B7 Px hp7 hR7;have xy:(qs.map V.ref).length=cl.length:=by rw[ah,Px.tup.len,ah]
  have adP:∀{i:Nat} {x:V} {Y:Hp},(qs.map V.ref)[i]?=some x->Fz K t.bD Y y ln lr lc ns rs qs cl->∃(O:i<cl.length) (q:Addr),x=.ref q/\cP K Y q [.int cl[i].1,.int cl[i].2]:=λ{i x Y} hx ev=>by
   have O:=(ai.mp hx).1;rw[xy] at O;have hq:i<qs.length:=by rw[<- ah (f:=V.ref),xy];exact O
   refine⟨O,qs[i],?_,ev.tup.at' i _ _ (aa hq) (by rw[aj,aa O];rfl)⟩;rw[aj,aa hq] at hx;exact (aK hx).symm
  refine bO λNx N=>?_;refine⟨_,rfl,lc,rfl,⟨_,Px.QM⟩,λV4 aaZ=>?_⟩;refine Qk (λi=>cl[i]?.map λc=>V.int (c.1:Nat)) aaZ Px.QM ∅ (λi x Y R S hx sx h1 h2=>?_) (λH8 s8 U=>?_)
  ·obtain⟨O,q,rfl,hq⟩:=adP hx (Px.mono sx)
   exact⟨_,rfl,q,_,_,_,rfl,rfl,hq,rfl,h1 _ _ (aG.refl _) (by rw[aa O];rfl)⟩
  rw[xy,GS] at U;have B8:=B7.add s8 aaZ U (r:=.aO) (λz=>by cases z);have adQ:=Px.mono s8;have r4:=s8 _ _ hp7;subst eo7;refine⟨_,rfl,p,_,s,_,rfl,r4,T.bV,T.qg,(by show 4<1000;decide),?_⟩;rw[dG (names:=["town","strands","rows_by_group","books"]) rfl (by decide +kernel)];refine N _ _ ?_;generalize eo9:HO.ins t.cN s ((((([]++[(Str.ofString "town",V.ref y)])++[(Str.ofString "strands",V.ref I)])++[(Str.ofString "rows_by_group",V.ref A)])++[(Str.ofString "books",V.ref C)])++[(Str.ofString "homes",V.ref V4)])=o9;have B9:=B8.put o9;have Ss:=adQ.put r4 Y5 (o:=o9);have hp9:=au (H:=H8) (a:=p) (o:=o9);have hR9:∀g,g<3->dF K (upd H8 p o9) (G g) (gH ns.length (yJ ns)):=λg D=>((hR7 g D).mono λb x=>s8.dB).mono λb x=>cP.past r4 mS cK;generalize upd H8 p o9=H9 at B9 Ss hp9 hR9;refine bO λNx N=>?_;refine⟨_,rfl,lc,rfl,⟨_,Ss.QM⟩,λXs aa0=>?_⟩;refine Qk (λi=>cl[i]?.map λc=>V.int (c.2:Nat)) aa0 Ss.QM ∅ (λi x Y R S hx sx h1 h2=>?_) (λUa VW U=>?_)
  ·obtain⟨O,q,rfl,hq⟩:=adP hx (Ss.mono sx)
   exact⟨_,rfl,q,_,_,_,rfl,rfl,hq,rfl,h1 _ _ (aG.refl _) (by rw[aa O];rfl)⟩
  rw[xy,GS] at U;have B10:=B9.add VW aa0 U (r:=.groups) (λz=>by cases z);have Y7:=Ss.mono VW;have Xy:=VW _ _ hp9;subst eo9;refine⟨_,rfl,p,_,s,_,rfl,Xy,T.bV,T.nN,(by show 5<1000;decide),?_⟩;rw[dG (names:=["town","strands","rows_by_group","books","homes"]) rfl (by decide +kernel)];refine N _ _ ?_;generalize ahj:HO.ins t.cN s (((((([]++[(Str.ofString "town",V.ref y)])++[(Str.ofString "strands",V.ref I)])++[(Str.ofString "rows_by_group",V.ref A)])++[(Str.ofString "books",V.ref C)])++[(Str.ofString "homes",V.ref V4)])++[(Str.ofString "groups",V.ref Xs)])=nu;have Vy:=B10.put nu;have QN:=Y7.put Xy Y5 (o:=nu);have aa1:=au (H:=Ua) (a:=p) (o:=nu);have aa2:∀g,g<3->dF K (upd Ua p nu) (G g) (gH ns.length (yJ ns)):=λg D=>((hR9 g D).mono λb x=>VW.dB).mono λb x=>cP.past Xy mS cK;generalize upd Ua p nu=k9 at Vy QN aa1 aa2;generalize aa3:yI (yI (Xr Vw C L ld) .aO V4) .groups Xs=Y8 at Vy;generalize Y9:jr (jr (jr (jr (jr (HY t.eS Xw Pw L ld 3) .fC _) .aO _) .fC _) .groups _) .fC nu=Vx at Vy;have n11:∀g,Vx .mU=none/\Vx (.handed g)=none:=λg=>by rw[<- Y9,<- aaY,<- wh];exact⟨rfl,rfl⟩
  refine bO λNx N=>?_;refine⟨_,rfl,lc,rfl,⟨_,QN.QM⟩,λXu Sq=>?_⟩;refine ir (n:=(qs.map V.ref).length) (λi ys Y=>∃X:Nat->Addr,ys=(aA i).map (λg=>.ref (X g))/\FH H Y p (adC Y8 Xu X) (obH Vx X i)) Sq (DK QN.QM) (vN QN.QM) ?_ ?_ ?_
  ·refine⟨λ_=>0,rfl,(Vy.new Sq (r:=.mU) (λz=>by cases z) (.lst [])).ext (λr=>?_) (λr m=>?_)⟩
   ·cases r <;> first|rfl|skip
    rename_i g;show Vx (.handed g)=(if g<0 then some (HO.lst []) else none);rw[er (rY g)];exact (n11 g).2
   ·cases r <;> first|rfl|skip
    rename_i g;exact eL (n11 g).2 m
  ·rintro i ys Y O sx U ⟨X,rfl,B⟩ x V5 ⟨rfl,hx⟩
   refine⟨bM _,λl hl=>?_⟩;have u:=aG.new (o:=.lst []) hl;have B3:=(B.new hl (r:=.handed i) (λz=>by cases z) (.lst [])).aaw (r:=.mU) (aS _) (λz=>by cases z) (.lst ((aA i).map (λg=>V.ref (X g))++[.ref l]));refine fQ Sq O (sx.trans u) (u _ _ U) (by rw[ah,bB];exact cS ∅) ⟨fD X i l,(wF X i l).symm,B3.ext (λr=>?_) (λr m=>?_)⟩
   ·cases r <;> first|rfl|skip
    ·show some (HO.lst _)=some (HO.lst _)
     rw[wF]
    ·rename_i g
     show jr (obH Vx X i) (.handed i) _ (.handed g)=if g<i+1 then some (HO.lst []) else none
     by_cases z:g=i
     ·subst z
      rw[eF,ee ∅]
     ·rw[dM (λe=>z (by cases e;rfl))]
      show (if g<i then some (HO.lst []) else none)=_;by_cases z2:g<i
      ·rw[ee z2,ee ∅]
      ·rw[er z2,er ∅]
   ·cases r <;> first|rfl|skip
    rename_i g;show yI (adC Y8 Xu X) (.handed i) l (.handed g)=fD X i l g;by_cases z:g=i
    ·subst z
     rw[jg,bS]
    ·rw[jw (λe=>z (by cases e;rfl)),cZ z]
     rfl
  rintro ys V5 s12 U ⟨X,rfl,B12⟩;rw[xy] at B12;have adS:∀g,g<3->dF K V5 (G g) (gH ns.length (yJ ns)):=λg D=>(aa2 g D).mono λb x=>s12.dB;have aa4:=s12 _ _ aa1;subst ahj;refine⟨_,rfl,p,_,s,_,rfl,aa4,T.bV,T.C6,(by show 6<1000;decide),?_⟩;rw[dG (names:=["town","strands","rows_by_group","books","homes","groups"]) rfl (by decide +kernel)];refine N _ _ ?_;generalize ahl:HO.ins t.cN s ((((((([]++[(Str.ofString "town",V.ref y)])++[(Str.ofString "strands",V.ref I)])++[(Str.ofString "rows_by_group",V.ref A)])++[(Str.ofString "books",V.ref C)])++[(Str.ofString "homes",V.ref V4)])++[(Str.ofString "groups",V.ref Xs)])++[(Str.ofString "handed",V.ref Xu)])=LG;have B13:=B12.put LG;have aa5:=au (H:=V5) (a:=p) (o:=LG);have aa6:∀g,g<3->dF K (upd V5 p LG) (G g) (gH ns.length (yJ ns)):=λg D=>(adS g D).mono λb x=>cP.past aa4 mS cK;generalize upd V5 p LG=S3 at B13 aa5 aa6;refine bO λNx N=>?_;refine⟨bM _,λZ aa7=>?_⟩;have B14:=B13.new aa7 (r:=.cT) (λz=>by cases z) (.lst []);have u14:=aG.new (o:=.lst []) aa7;have Xz:=u14 _ _ aa5;have aa8:∀g,g<3->dF K (upd S3 Z (.lst [])) (G g) (gH ns.length (yJ ns)):=λg D=>(aa6 g D).mono λb x=>u14.dB;generalize upd S3 Z (.lst [])=kF at B14 Xz aa8;subst ahl;refine⟨_,rfl,p,_,s,_,rfl,Xz,T.bV,T.eX,(by show 7<1000;decide),?_⟩;rw[dG (names:=["town","strands","rows_by_group","books","homes","groups","handed"]) rfl (by decide +kernel)];refine N _ _ ?_;generalize ahp:HO.ins t.cN s (((((((([]++[(Str.ofString "town",V.ref y)])++[(Str.ofString "strands",V.ref I)])++[(Str.ofString "rows_by_group",V.ref A)])++[(Str.ofString "books",V.ref C)])++[(Str.ofString "homes",V.ref V4)])++[(Str.ofString "groups",V.ref Xs)])++[(Str.ofString "handed",V.ref Xu)])++[(Str.ofString "letters",V.ref Z)])=IA;have B15:=B14.put IA;have adT:=au (H:=kF) (a:=p) (o:=IA);have adU:∀g,g<3->dF K (upd kF p IA) (G g) (gH ns.length (yJ ns)):=λg D=>(aa8 g D).mono λb x=>cP.past Xz mS cK;generalize upd kF p IA=SY at B15 adT adU;refine⟨bM _,λj6 adV=>?_⟩;have B16:=B15.new adV (r:=.lP) (λz=>by cases z) (.lst []);have u16:=aG.new (o:=.lst []) adV;have aba:=u16 _ _ adT;have adW:∀g,g<3->dF K (upd SY j6 (.lst [])) (G g) (gH ns.length (yJ ns)):=λg D=>(adU g D).mono λb x=>u16.dB;generalize upd SY j6 (.lst [])=Za at B16 aba adW;subst ahp;refine⟨_,rfl,p,_,s,_,rfl,aba,T.bV,T.nO,(by show 8<1000;decide),?_⟩;rw[dG (names:=["town","strands","rows_by_group","books","homes","groups","handed","letters"]) rfl (by decide +kernel)];generalize ahq:HO.ins t.cN s ((((((((([]++[(Str.ofString "town",V.ref y)])++[(Str.ofString "strands",V.ref I)])++[(Str.ofString "rows_by_group",V.ref A)])++[(Str.ofString "books",V.ref C)])++[(Str.ofString "homes",V.ref V4)])++[(Str.ofString "groups",V.ref Xs)])++[(Str.ofString "handed",V.ref Xu)])++[(Str.ofString "letters",V.ref Z)])++[(Str.ofString "copies",V.ref j6)])=o17;have B17:=B16.put o17;have adX:∀g,g<3->dF K (upd Za p o17) (G g) (gH ns.length (yJ ns)):=λg D=>(adW g D).mono λb x=>cP.past aba mS cK;generalize upd Za p o17=Zb at B17 adX;subst ahq Y9 aa3 aaY adM wh ag9;have hws:(rs.map λr:R5=>aA r.d.toNat).length=J.length:=by rw[ah];exact el.symm
  have ahs:J.map V.ref=(aA (rs.map λr:R5=>aA r.d.toNat).length).map λi=>V.ref (J.getD i 0):=by
   rw[hws];refine List.ext_getElem (-_) λi h1 h2=>?_;simp at h1;simp[h1]
  have Tj:FH H Zb p (adD p I lu J A W C L ld V4 Xs Xu X Z j6) (desc (nc t) (dxF s Vv Pw) y (adD p I lu J A W C L ld V4 Xs Xu X Z j6) ⟨G,λ_=>[],[]⟩ (S0 ns rs cl)):=by
   refine B17.ext (λr=>?_) (λr m=>?_)
   ·cases r <;> first|rfl|skip
    case iQ =>
     show some (HO.lst (J.map V.ref))=some (HO.lst ((aA (rs.map λr:R5=>aA r.d.toNat).length).map λi=>V.ref (J.getD i 0)));rw[<- ahs]
    case nY j =>
     show (if ((rs.map λr:R5=>aA r.d.toNat)[j]?.map λw=>HO.lst (bR w)).isSome=true then ((rs.map λr:R5=>aA r.d.toNat)[j]?.map λw=>HO.lst (bR w)) else none)=((rs.map λr:R5=>aA r.d.toNat)[j]?.map λw=>HO.lst (bR w));cases (rs.map λr:R5=>aA r.d.toNat)[j]? <;> rfl
    case aO =>
     show some (HO.lst _)=some (HO.lst ((cl.map (·.1)).map _));rw[dw];rfl
    case groups =>
     show some (HO.lst _)=some (HO.lst ((cl.map (·.2)).map _));rw[dw];rfl
    case mU =>
     show some (HO.lst ((aA cl.length).map λg=>V.ref (X g)))=some (HO.lst ((aA (cl.map λ_=>([]:List Nat)).length).map λg=>V.ref (X g)));rw[ah]
    case handed j =>
     show (if j<cl.length then some (HO.lst []) else none)=((cl.map λ_=>([]:List Nat))[j]?.map λw=>HO.lst (bR w));rw[aj];by_cases z:j<cl.length
     ·rw[ee z,aa z]
      rfl
     ·rw[er z,fF ∅]
      rfl
   ·cases r <;> first|rfl|exact eL rfl m|skip
    case nY j =>
     show (if ((rs.map λr:R5=>aA r.d.toNat)[j]?.map λw=>HO.lst (bR w)).isSome=true then J.getD j 0 else p)=J.getD j 0;have m:(if ((rs.map λr:R5=>aA r.d.toNat)[j]?.map λw=>HO.lst (bR w)).isSome=true then ((rs.map λr:R5=>aA r.d.toNat)[j]?.map λw=>HO.lst (bR w)) else none)≠none:=m;cases e:(rs.map λr:R5=>aA r.d.toNat)[j]? with
     |none=>rw[e] at m;exact eL rfl m
     |some w'=>rfl
  refine k _ Zb ⟨_,dxF s Vv Pw,⟨G,λ_=>[],[]⟩,Tj.np,Tj.own,λb=>Iff.rfl,⟨adX,λi l e=>?_,⟨rfl,λi q x e=>by cases e⟩⟩⟩ Tj.kp Tj.fr;cases e
inductive QO(K:af)(c:NC)(vs:List V)(H:Hp)(Q:VK)(E:XK):Prop
 |mk (F:Addr->Prop) (p tp:Addr) (n g:Nat) (s:NS):vs=[.ref p,.int g]->fG K c H F p tp n s->g<3->(∀l (qs:List Addr) H',aG H H'->H l=none->H' l=some (.lst (qs.map V.ref))->dF K H' qs (gH n (s.R g))->Q (.ref l) H')->QO K c vs H Q E
theorem uE{t:Ad}(T:Txt K mg t):cz P w K mg base iM 2 t.sN t.xA ["self","group"]  (QO K (nc t)):=by
 refine T.sW.F.kh MB λH Q E f h=>?_
 ·obtain⟨F,p,m,n,g,st,rfl,⟨a,r,q,j,O,s,i⟩,c,k⟩:=h
  refine⟨_,(aq (fE (AA (tX T) (f.mono (!_)) rfl T.eV.g T.eV.F.kp T.eV.B .nil Qd (gV (pv 1)))) (oR (fW ig (by rfl) T.tw boot_list (gV (xL (aY (pv 0) rfl) (pv 1)))))),?_⟩
  left
  have d:=O.get .fC _ rfl;rw[j] at d;refine⟨_,rfl,g,rfl,λ_=>?_,λz=>eL ⟨∅,∅⟩ z⟩;refine⟨_,rfl,p,_,_,_,_,rfl,d,T.bV,T.kr,rfl,_,rfl,a .zg,_,_,_,rfl,rfl,bP.of (O.get .zg _ rfl),qm c,a (.rows g),_,rfl,.inl (bP.of (O.get (.rows g) _ (ee c))),λl e=>?_⟩;have u:=aG.new (o:=.lst ((q.rq g).map V.ref)) e;exact k l (q.rq g) _ u e au ((i.rows g c).mono λb x=>u.dB)
inductive QS(K:af)(CT:Addr)(c:NC)(vs:List V)(H:Hp)(Q:VK)(E:XK):Prop
 |mk (F:Addr->Prop) (p tp ln lr:Addr) (ns:List Int) (rs:List R5) (s:NS) (g:Nat):vs=[.ref p,.int g]->NW K c CT H F p tp ln lr ns rs s->cX ns rs->CK ns rs s->g<3->(∀l H',aG H H'->H l=none->H' l=some (.lst (bR (Qm rs s.ws g)))->Q (.ref l) H')->QS K CT c vs H Q E
theorem Au{t:Ad}(T:Txt K mg t):cz P w K mg base iM 3 t.sO t.xB ["self","group"]  (QS K t.bD (nc t)):=by
 refine T.xH.F.kh MC λH Q E j h=>?_
 ·obtain⟨F,p,e,i,y,A,u,st,g,rfl,N,ok,d,G,k⟩:=h
  refine⟨_,(oR (Cw (aY (pv 0) rfl) T.jk T.sV.m (FZ T) (j.mono (!_)) T.sV.B .nil Qd (gV (pv 1)))),?_⟩
  left
  obtain⟨a,n,q,v,O,I,J⟩:=N.fC;have c:=O.get .fC _ rfl;rw[v] at c;refine⟨_,rfl,p,_,_,_,_,rfl,c,T.bV,T.vc,rfl,a .e9,n .e9,_,rfl,O.get .e9 _ rfl,rfl,_,rfl,a .e9,e,a .iQ,i,y,A,u,st.ws,g,rfl,N.vP,O.strAt,d.wl,ok.VY,(λr b=>⟨(ok.ok r b).e1,(ok.ok r b).e7⟩),λx l f D _ C s o=>?_,λz=>eL ⟨∅,∅⟩ z⟩
  have:x=g:=∅
  subst this;exact k l f C s o
inductive Nc(K:af)(CT:Addr)(c:NC)(vs:List V)(H:Hp)(Q:VK)(E:XK):Prop
 |mk (F:Addr->Prop) (p tp ln lr:Addr) (ns:List Int) (rs:List R5) (s:NS) (o:cX ns rs) (g:Nat):vs=[.ref p,.int g]->NW K c CT H F p tp ln lr ns rs s->CK ns rs s->g<3->(∀l os H',aG H H'->H l=none->H' l=some (.lst (bR os))->eU (kJ ns rs o s.ws g) (s.R g) os->os.length<=12->Q (.ref l) H')->Nc K CT c vs H Q E
theorem Dr{t:Ad}(T:Txt K mg t):cz P w K mg base iM 6 t.pZ t.uw ["self","group"]  (Nc K t.bD (nc t)):=by
 refine T.zM.F.kh K5 λH Q E f h=>?_
 ·obtain⟨F,p,d,m,r,ns,o,st,ok,g,rfl,N,j,e,k⟩:=h
  refine⟨_,(oR (AA (M2 T) (f.mono (!_)) rfl T.zO T.C1.F.kp T.C1.B .nil mK (Ir (aY (pv 0) rfl) (cM (pv 0) T.bV T.xH (Au T) f (gV (pv 1))) (cM (pv 0) T.bV T.sW (uE T) f (gV (pv 1)))))),?_⟩
  left
  obtain⟨A,V,q,G,O,W,X⟩:=id N.fC;have a:=O.get .fC _ rfl;rw[G] at a;refine⟨_,rfl,p,_,_,_,_,rfl,a,T.bV,T.oG,rfl,?_⟩;refine⟨_,rfl,p,_,_,rfl,a,rfl,_,rfl,F,p,d,m,r,ns,o,st,g,rfl,N,ok,j,e,λI Y c s u=>?_⟩;have n:=N.mono c;refine⟨_,rfl,p,_,_,rfl,c _ _ a,rfl,_,rfl,F,p,d,ns.length,g,st,rfl,n.fC,e,λC U S b M x D=>?_⟩;refine⟨d,m,r,I,C,ns,o,_,ok.nd,ok.ok,zh,st.R g,rfl,n.vP.mono b,bP.of (b _ _ u),D.OR (bP.of x),by have:=ok.LQ;lia,ok.VY,j.fit g e,λl os v y z L J i=>?_⟩;exact k l os v (c.trans (b.trans y)) ((c.trans b).free z) L J i
inductive Nd(K:af)(c:NC)(vs:List V)(H:Hp)(Q:VK)(E:XK):Prop
 |mk (F:Addr->Prop) (p tp:Addr) (n g:Nat) (s:NS):vs=[.ref p,.int g]->fG K c H F p tp n s->g<3->(s.ts g).length<2000->(∀l (qs:List Addr) (us:List T3) H',aG H H'->H l=none->H' l=some (.lst (qs.map V.ref))->fT K H' qs us->us.Perm (s.ts g)->AG us->Q (.ref l) H')->Nd K c vs H Q E
theorem LF{t:Ad}(T:Txt K mg t):cz P w K mg base iM 2 t.p6 t.ux ["self","group"]  (Nd K (nc t)):=by
 refine T.E4.F.kh K6 λH Q E e h=>?_
 ·obtain⟨F,p,j,n,g,st,rfl,⟨a,f,q,i,O,l,o⟩,c,b,k⟩:=h
  refine⟨_,(aq (fE (AA (tX T) (e.mono (!_)) rfl T.eV.g T.eV.F.kp T.eV.B .nil Qd (gV (pv 1)))) (oR (kD (xL (aY (pv 0) rfl) (pv 1)) T.xO T.xG.m (Jf T) (e.mono (!_)) T.xG.B .nil mK))),?_⟩
  left
  have d:=O.get .fC _ rfl;rw[i] at d;refine⟨_,rfl,g,rfl,λ_=>?_,λz=>eL ⟨∅,∅⟩ z⟩;exact⟨_,rfl,p,_,_,_,_,rfl,d,T.bV,T.qe,rfl,_,rfl,a .kq,_,_,_,rfl,rfl,bP.of (O.get .kq _ rfl),qm c,a (.book g),f (.book g),_,rfl,O.get (.book g) _ (ee c),rfl,a (.book g),a (.fq g),st.ts g,rfl,O.KL c,b,k⟩
inductive Ng(K:af)(CT:Addr)(c:NC)(vs:List V)(H:Hp)(Q:VK)(E:XK):Prop
 |mk (F:Addr->Prop) (p tp ln lr:Addr) (ns:List Int) (rs:List R5) (s:NS) (h:Nat):vs=[.ref p,.int h]->NW K c CT H F p tp ln lr ns rs s->h<ns.length->Q .fH H->Ng K CT c vs H Q E
theorem Cn{t:Ad}(T:Txt K mg t):cz P w K mg base iM 1 t.iu t.jx ["self","house"]  (Ng K t.bD (nc t)):=by
 refine T.uB.F.kh BQ λH Q E j h=>?_
 ·obtain⟨F,p,c,i,r,ns,o,st,x,rfl,N,g,k⟩:=h
  refine⟨_,(bI (cD (jo (jD qX pR aB (pv 1) (aY (aY (pv 0) rfl) rfl))) dO bz)),?_⟩
  left
  obtain⟨e,l,q,f,O,m,n⟩:=id N.fC;obtain⟨⟨d,a⟩,_⟩:=id N.vP;have b:=O.get .fC _ rfl;rw[f] at b;refine⟨_,rfl,_,_,rfl,rfl,_,rfl,?_⟩;rw[e8 (show (0:Int)<=(x:Int) by lia)];refine gC ⟨_,rfl,p,_,_,_,_,rfl,b,T.bV,T.oG,rfl,c,_,d,_,_,rfl,a,T.fJ,T.mC,rfl,_,_,rfl,rfl,_,rfl,?_⟩;rw[e8 (show (x:Int)<(ns.length:Int) by lia)];exact eZ k
inductive J6(K:af)(c:NC)(vs:List V)(H:Hp)(Q:VK)(E:XK):Prop
 |mk (F:Addr->Prop) (p tp:Addr) (n x:Nat) (s:NS):vs=[.ref p,.int x]->fG K c H F p tp n s->x<s.aO.length->Q .fH H->J6 K c vs H Q E
theorem rm{t:Ad}(T:Txt K mg t):cz P w K mg base iM 1 t.gQ t.iU ["self","caller"]  (J6 K (nc t)):=by
 refine T.lX.F.kh AY λH Q E f h=>?_
 ·obtain⟨F,p,d,n,x,st,rfl,⟨a,g,q,c,O,i,j⟩,e,k⟩:=h
  refine⟨_,(bI (cD (jo (jD qX pR aB (pv 1) (lS T.iN (aY (pv 0) rfl)))) dO bz)),?_⟩
  left
  have b:=O.get .fC _ rfl;rw[c] at b;refine⟨_,rfl,_,_,rfl,rfl,_,rfl,?_⟩;rw[e8 (show (0:Int)<=(x:Int) by lia)];refine gC ⟨_,rfl,p,_,_,_,_,rfl,b,T.bV,T.qg,rfl,a .aO,_,rfl,.inl (bP.of (O.get .aO _ rfl)),_,_,rfl,rfl,_,rfl,?_⟩;rw[ah,e8 (show (x:Int)<(st.aO.length:Int) by lia)];exact eZ k
inductive Nh(K:af)(CT:Addr)(c:NC)(vs:List V)(H:Hp)(Q:VK)(E:XK):Prop
 |mk (F:Addr->Prop) (p tp ln lr:Addr) (ns:List Int) (rs:List R5) (s:NS) (h g:Nat):vs=[.ref p,.int h,.int g]->NW K c CT H F p tp ln lr ns rs s->h<ns.length->g<3->(∀q H',aG H H'->cP K H' q (cR (s.R g h))->Q (.ref q) H')->Nh K CT c vs H Q E
theorem Ji{t:Ad}(T:Txt K mg t):cz P w K mg base iM 3 t.m9 t.rL ["self","house","group"]  (Nh K t.bD (nc t)):=by
 refine T.C4.F.kh IG λH Q E f h=>?_
 ·obtain⟨F,p,d,n,z,ns,u,st,x,g,rfl,N,e,o,k⟩:=h
  refine⟨_,(aq (fE (cM (pv 0) T.bV T.uB (Cn T) f (gV (pv 1)))) (oR (xL (cM (pv 0) T.bV T.sW (uE T) f (gV (pv 2))) (pv 1)))),?_⟩
  left
  obtain⟨r,B,q,y,O,C,G⟩:=id N.fC;have b:=O.get .fC _ rfl;rw[y] at b;refine⟨_,rfl,p,_,_,rfl,b,rfl,_,rfl,F,p,d,n,z,ns,u,st,x,rfl,N,e,?_⟩;refine⟨_,rfl,p,_,_,rfl,b,rfl,_,rfl,F,p,d,ns.length,g,st,rfl,N.fC,o,λl c j s D m i=>?_⟩;have A:c.length=ns.length:=by rw[i.len];simp[gH]
  have a:x<c.length:=∅
  refine⟨_,rfl,l,_,_,_,rfl,rfl,bP.of m,eY (v:=.ref c[x]) (by rw[aj,aa a];rfl),k _ j s (i.at' x _ _ (aa a) ?_)⟩;unfold gH;rw[aj,gp e];rfl
inductive J7(K:af)(c:NC)(vs:List V)(H:Hp)(Q:VK)(E:XK):Prop
 |mk (F:Addr->Prop) (p tp:Addr) (n:Nat) (s:NS):vs=[.ref p]->fG K c H F p tp n s->(∀l (qs:List Addr) H',aG H H'->H l=none->H' l=some (.lst (qs.map V.ref))->dF K H' qs (s.cps.map Cp.vs)->Q (.ref l) H')->J7 K c vs H Q E
theorem Jj{t:Ad}(T:Txt K mg t):cz P w K mg base iM 1 t.ng t.rM ["self"]  (J7 K (nc t)):=by
 refine T.xJ.F.kh II λH Q E i h=>?_
 ·obtain⟨F,p,g,n,st,rfl,N,k⟩:=h
  refine⟨_,(oR (fW ig (by rfl) T.tw boot_list (gV (aY (pv 0) rfl)))),?_⟩
  left
  obtain⟨a,j,q,f,O,m,e⟩:=id N;have c:=O.get .fC _ rfl;rw[f] at c;refine⟨_,rfl,p,_,_,_,_,rfl,c,T.bV,T.nO,rfl,a .lP,_,rfl,.inl (bP.of (O.get .lP _ rfl)),λl d=>?_⟩;have u:=aG.new (o:=.lst (q.cq.map V.ref)) d;exact k l q.cq _ u d au (e.cps.mono λb x=>u.dB)
noncomputable def yk(g:Nat)(l:LS):LS:=if l.grp=g then {l with old:=true} else l
noncomputable def FA(s:NS)(g:Nat):NS:={s with ts:=fD s.ts g [],ls:=s.ls.map (yk g)}
inductive QT(K:af)(c:NC)(vs:List V)(H:Hp)(Q:VK)(E:XK):Prop
 |mk (F:Addr->Prop) (p tp:Addr) (n g:Nat) (s:NS):vs=[.ref p,.int g]->fG K c H F p tp n s->g<3->(∀F' H',fG K c H' F' p tp n (FA s g)->Step H F H' F'->Q .fH H')->QT K c vs H Q E
theorem Ey{t:Ad}(T:Txt K mg t):cz P w K mg base iM 2 t.i9 t.lF ["self","group"]  (QT K (nc t)):=by
 refine T.yt.F.kh vS λH Q E hr h=>?_
 ·obtain⟨F,p,R,n,g,st,rfl,⟨f,dx,q,Z,O,hF,hT⟩,u,k⟩:=h
  refine⟨_,(aq (fE (kD (xL (aY (pv 0) rfl) (pv 1)) T.xO T.uZ.m (Ig T) (hr.mono (!_)) T.uZ.B .nil mK)) (bI (fS (fV (aY (pv 0) rfl)) (gT 2 vS) (bI (cD (qT ud (aY (pv 2) rfl) (pv 1)) (bI (fZ (pv 2) PM rfl)) bz))))),?_⟩
  left
  have S:=O.get .fC _ rfl;rw[Z] at S;refine⟨_,rfl,p,_,_,_,_,rfl,S,T.bV,T.qe,rfl,_,rfl,f .kq,_,_,_,rfl,rfl,bP.of (O.get .kq _ rfl),qm u,f (.book g),dx (.book g),_,rfl,O.get (.book g) _ (ee u),rfl,f (.book g),f (.fq g),st.ts g,rfl,O.KL u,λd' H1 D hB kp=>?_⟩;obtain⟨⟨UE,J⟩,I⟩:=hB;obtain⟨s,N',L⟩:=OT Z O hF hT u D J I kp;obtain⟨b,l,U,Y,x,G,M⟩:=N';have X:mV K (nc t) H1 s b l U p R n {st with ts:=fD st.ts g []}:=⟨Y,x,G,M⟩;have Zc:=x.get .fC _ rfl;rw[Y] at Zc;have XA:=x.get .cT _ rfl;refine⟨_,rfl,p,_,_,_,_,rfl,Zc,T.bV,T.eX,rfl,b .cT,rfl,⟨_,bP.of XA⟩,se (K:=K) (a:=b .cT) (xs:=(aA st.ls.length).map λi=>.ref (b (.bW i))) (λi v o=>mV K (nc t) o s b l U p R n {st with ts:=fD st.ts g [],ls:=(st.ls.take i).map (yk g)++st.ls.drop i}/\Step H1 s o s/\∃A:Option V,v=[some (.ref p),some (.int g),A]) ⟨by rw[List.take_zero,List.drop_zero];exact X,Step.refl' (aG.refl _),_,rfl⟩ (λi v o _ z=>?_) ?_ ?_⟩
  ·have e:=z.1.own.get .cT _ rfl
   have el:((st.ls.take i).map (yk g)++st.ls.drop i).length=st.ls.length:=by
    rw[av,ah,<- av,vJ]
   refine bP.of (e.trans ?_);show some (HO.lst ((aA ((st.ls.take i).map (yk g)++st.ls.drop i).length).map _))=_;rw[el]
  ·rintro i y v o C ⟨r,d,A,rfl⟩
   have c:i<st.ls.length:=by
    have:=(ai.mp C).1
    rw[ah,bB] at this;exact this
   rw[aj,gp c] at C;cases C;have j:((st.ls.take i).map (yk g)++st.ls.drop i)[i]?=some st.ls[i]:=by
    rw[cu (by rw[ah,bQ];lia),ah,bQ,Nat.min_eq_left ∅,iY,List.getElem?_drop,Nat.add_zero];exact aa c
   have W:=r.own.get (.bW i) (mW (nc t) l b i st.ls[i]) (by show (((st.ls.take i).map (yk g)++st.ls.drop i)[i]?.map _)=_;rw[j];rfl);have next:(st.ls.take (i+1)).map (yk g)++st.ls.drop (i+1)=((st.ls.take i).map (yk g)++st.ls.drop i).set i (yk g st.ls[i]):=by
    rw[uJ,aa c,aT,cF,vK _ _ (by rw[ah,bQ];lia),ah,bQ,Nat.min_eq_left ∅,iY,pP c];rfl
   rw[next];refine⟨_,rfl,_,_,_,_,_,rfl,W,T.dj,T.jT,rfl,_,rfl,rfl,_,rfl,ko (λe=>?_) (λe=>?_)⟩
   ·have e:(st.ls[i]).grp=g:=by
     have:=V.int.inj (g8 e)
     lia
    refine⟨_,rfl,_,_,_,_,rfl,W,T.dj,T.xN,(by show 5<1000;decide),?_⟩;obtain⟨X3,N⟩:=WZ r j;refine⟨?_,d.trans N,_,rfl⟩;unfold yk;rw[ee e];exact X3
   ·have e:¬(st.ls[i]).grp=g:=λz=>e (e8 (by rw[z]))
    refine⟨?_,d,_,rfl⟩
    have:yk g st.ls[i]=st.ls[i]:=er e
    rw[this,GV j];exact r
  ·rintro v o ⟨r,d,A,rfl⟩
   rw[ah,bB,gi (ay _),List.drop_eq_nil_of_le (ay _),bY] at r;exact k s o r.fC (L.trans d)
noncomputable def FD(s:NS)(g x:Nat)(d:RM.Row):NS:=if d=s.R g x then s else FA {s with R:=fD s.R g (RM.upd (s.R g) x d)} g
inductive Ni(K:af)(CT:Addr)(c:NC)(vs:List V)(H:Hp)(Q:VK)(E:XK):Prop
 |mk (F:Addr->Prop) (p tp ln lr:Addr) (ns:List Int) (rs:List R5) (s:NS) (o:cX ns rs) (x g:Nat):vs=[.ref p,.int x,.int g]->NW K c CT H F p tp ln lr ns rs s->CK ns rs s->x<ns.length->g<3->(∀d F' H',RM.Uk (N:=kJ ns rs o s.ws g) ns.length (s.R g) x d->BC ns.length rs.length d->fG K c H' F' p tp ns.length (FD s g x d)->Step H F H' F'->Q (.bl (!decide (d=s.R g x))) H')->Ni K CT c vs H Q E
theorem Nj{t:Ad}(T:Txt K mg t):cz P w K mg base iM 4 t.sP t.xC ["self","house","group"]  (Ni K t.bD (nc t)):=by
 refine T.Hg.F.kh zE λH Q E f h=>?_
 ·obtain⟨F,p,n,u,J,ns,I,st,ok,x,g,rfl,N,r,c,a,k⟩:=h
  refine⟨_,(aq (sS 3 zE (cM (pv 0) T.bV T.C4 (Ji T) f (nZ (pv 1) (pv 2)))) (aq (sS 4 zE (cG (aaL T) f T.YS (YN (aY (pv 0) rfl) (cM (pv 0) T.bV T.xH (Au T) f (gV (pv 2))) (cM (pv 0) T.bV T.sW (uE T) f (gV (pv 2))) (pv 1)))) (aq (cD (qT Ow (pv 4) (pv 3)) oB bz) (aq (NU (pv 4) (ZM (xL (aY (pv 0) rfl) (pv 2)) (pv 1) set_list)) (aq (fE (cM (pv 0) T.bV T.yt (Ey T) f (gV (pv 2)))) oB))))),?_⟩
  left
  obtain⟨loc,dx,q,hp,O,hF,hT⟩:=id N.fC;have C:=O.get .fC _ rfl;rw[hp] at C;refine⟨_,rfl,p,_,_,rfl,C,rfl,_,rfl,_,rfl,F,p,n,u,J,ns,I,st,x,g,rfl,N,c,a,λq1 H1 G W=>?_⟩;have N1:=N.mono G;have X:=G _ _ C;refine⟨_,rfl,p,_,_,_,_,rfl,X,T.bV,T.oG,rfl,?_⟩;refine⟨_,rfl,p,_,_,rfl,X,rfl,_,rfl,F,p,n,u,J,ns,I,st,g,rfl,N1,ok,r,a,λl2 H2 S hl2 h2=>?_⟩;have Y:=N1.mono S;refine⟨_,rfl,p,_,_,rfl,S _ _ X,rfl,_,rfl,F,p,n,ns.length,g,st,rfl,Y.fC,a,λl3 qs H3 D hl3 h3 ht=>?_⟩;have N3:=Y.mono D;refine⟨_,rfl,n,u,J,l2,l3,ns,I,_,ok.nd,ok.ok,zh,st.R g,x,rfl,N3.vP,bP.of (D _ _ h2),ht.OR (bP.of h3),c,ok.VY,(r.fit g a).aam,λq4 d H4 s4 V2 A=>?_⟩;have U:=WL (r.fit g a) c ok.pos A;have N4:=N3.mono s4;have o:=S.trans (D.trans s4);have l:=G.trans o;refine⟨_,rfl,_,rfl,RM.DL d,RM.DL (st.R g x),RM.yZ V2,RM.yZ (o.dB W),RM.y9 _,RM.y9 _,cJ (fz (aN (mE _ _) (by rw[RM.JE];decide:(RM.DL d).depth<=64)) _) f.units,?_⟩;rw[RM.Mg U.by1 (r.fit g a x c).by1];refine⟨_,rfl,ko (λe=>?_) (λe=>?_)⟩
  ·have i:d=st.R g x:=g8 e
   have:=k d F H4 A U (by unfold FD;rw[ee i];exact N4.fC) (Step.refl' l)
   rw[e8 i] at this;exact this
  ·have i:¬d=st.R g x:=λz=>e (e8 z)
   obtain⟨b,dx4,m,Z,s,v,j⟩:=id N4.fC;have FE:=s.get .fC _ rfl;rw[Z] at FE;have B:(m.rq g).length=ns.length:=by rw[(j.rows g a).len];simp[gH]
   obtain⟨F5,L,NK⟩:=WY Z s v j a c V2;refine⟨_,rfl,_,rfl,p,_,_,_,_,rfl,FE,T.bV,T.kr,rfl,_,rfl,b .zg,_,_,_,rfl,rfl,bP.of (s.get .zg _ rfl),qm a,_,rfl,b (.rows g),_,_,_,rfl,rfl,s.get (.rows g) _ (ee a),Qf (by rw[ah,B];exact c),?_⟩;generalize upd H4 (b (.rows g)) (.lst (((m.rq g).map V.ref).set x (.ref q4)))=H5 at L NK;obtain⟨Vw,dx5,q5,M,O5,hF5,hT5⟩:=id L;have Ze:=O5.get .fC _ rfl;rw[M] at Ze;refine⟨_,rfl,p,_,_,rfl,Ze,rfl,_,rfl,F5,p,n,ns.length,g,_,rfl,L,a,λF6 H6 N6 y=>?_⟩
   have:=k d F6 H6 A U (by unfold FD;rw[er i];exact N6) ((Step.refl' l).trans (NK.trans y))
   rw[fy i] at this;exact this
theorem mj{n:Nat}(h:n<=1000000):n<sizeLine:=cJ h (by show 1000000<2^24;decide)
inductive QU(K:af)(c:NC)(vs:List V)(H:Hp)(Q:VK)(E:XK):Prop
 |mk (F:Addr->Prop) (p tp:Addr) (n x:Nat) (to:Option Nat) (s:NS):vs=[.ref p,.int x,iE (to.map λy:Nat=>(y:Int))]->fG K c H F p tp n s->x<s.aO.length->s.groups.length=s.aO.length->(∀y,to=some y->y<s.aO.length/\s.groups[y]?=s.groups[x]?)->Q .fH H->QU K c vs H Q E
theorem Dt{t:Ad}(T:Txt K mg t):cz P w K mg base iM 2 t.iI t.j4 ["self","sender","to"]  (QU K (nc t)):=by
 refine T.wm.F.kh CP λH Q E l h=>?_
 ·obtain⟨F,p,j,n,x,m,st,rfl,N,o,r,g,k⟩:=h
  refine⟨_,(aq (fE (cM (pv 0) T.bV T.lX (rm T) l (gV (pv 1)))) (bI (cD (qT Az (pv 2) iO) (aq (fE (cM (pv 0) T.bV T.lX (rm T) l (gV (pv 2)))) (bI (cD (qT sf (xL (aY (pv 0) rfl) (pv 1)) (xL (aY (pv 0) rfl) (pv 2))) dO bz))) bz))),?_⟩
  left
  obtain⟨d,v,q,u,O,z,A⟩:=id N;have a:=O.get .fC _ rfl;rw[u] at a;refine⟨_,rfl,p,_,_,rfl,a,rfl,_,rfl,F,p,j,n,x,st,rfl,N,o,?_⟩;cases m with
  |none=>exact⟨_,rfl,rfl,_,rfl,eZ k⟩
  |some y =>
   obtain⟨s,i⟩:=g y rfl;refine⟨_,rfl,rfl,_,rfl,gC ?_⟩;refine⟨_,rfl,p,_,_,rfl,a,rfl,_,rfl,F,p,j,n,y,st,rfl,N,s,?_⟩;have b:=bP.of (K:=K) (O.get .groups _ rfl);have c:x<st.groups.length:=∅
   have f:y<st.groups.length:=∅
   have e:st.groups[y]=st.groups[x]:=by
    rw[aa f,aa c] at i;exact aK i
   refine⟨_,rfl,p,_,_,_,_,rfl,a,T.bV,T.nN,rfl,_,rfl,d .groups,_,_,_,rfl,rfl,b,sC c,_,rfl,p,_,_,_,_,rfl,a,T.bV,T.nN,rfl,_,rfl,d .groups,_,_,_,rfl,rfl,b,sC f,rfl,_,rfl,?_⟩;rw[e,e8 rfl];exact eZ k
noncomputable def Co(s:NS)(h g x:Nat):Bool:=decide (s.aO[x]?=some h/\s.groups[x]?=some g)
noncomputable def oh(s:NS)(h g:Nat):List Nat:=(aA s.aO.length).filter (Co s h g)
theorem oW{f:Nat->Bool}{i:Nat}:(aA (i+1)).filter f=(aA i).filter f++if f i=true then [i] else []:=by
 rw[mF,fO];congr 1;cases e:f i
 ·rw[er (!_),r9 (by rw[e];decide)];rfl
 ·rw[ee rfl,r8 e];rfl
inductive QV(K:af)(c:NC)(vs:List V)(H:Hp)(Q:VK)(E:XK):Prop
 |mk (F:Addr->Prop) (p tp:Addr) (n h g:Nat) (s:NS):vs=[.ref p,.int h,.int g]->fG K c H F p tp n s->s.groups.length=s.aO.length->s.aO.length<=20->(∀l H',aG H H'->H l=none->H' l=some (.lst (bR (oh s h g)))->Q (.ref l) H')->QV K c vs H Q E
theorem Du{t:Ad}(T:Txt K mg t):cz P w K mg base iM 1 t.iH t.j3 ["self","house","group"]  (QV K (nc t)):=by
 refine T.wg.F.kh mY λH Q E Y h=>?_
 ·obtain⟨F,p,tp,n,c,g,st,rfl,N,X,AZ,k⟩:=h
  refine⟨_,(aq (sS 3 mY (dU (nZ (pv 1) (pv 2)))) (oR (gq (kO mY ["caller","self","there"] [none,some 0,some 3]) rfl (gB rfl T.jy (gV (lS T.iN (aY (pv 0) rfl)))) (λ_ _ _ _=>by exact (gS 0 zF)) (λ_ _ _ _=>by exact (mP (qT (Qe K rfl Y.units) (dU (nZ (yL K (Gh K rfl (pv 1) rfl) (pv 0)) (yL K (Gh K rfl (pv 1) rfl) (pv 0)))) (pv 2)))) (λ_ _ _ _=>by exact (pv 0))))),?_⟩
  left
  refine⟨_,rfl,_,rfl,g7,λS x=>?_⟩;have m:=aG.new (o:=.tup [V.int c,V.int g]) x;have M:=au (H:=H) (a:=S) (o:=.tup [V.int c,V.int g]);generalize upd H S (.tup [V.int c,V.int g])=H1 at m M;obtain⟨d,dx,q,hp,O,hF,hT⟩:=N.mono m;have r:=O.get .fC _ rfl;rw[hp] at r;have l:=bP.of (K:=K) (O.get .aO _ rfl);have u:=bP.of (K:=K) (O.get .groups _ rfl);refine⟨_,rfl,p,_,_,_,_,rfl,r,T.bV,T.qg,rfl,d .aO,_,rfl,.inl l,(((bR st.aO).length:Nat):Int),rfl,∅,by rw[ah];lia,λB b=>?_⟩;rw[ah];refine ir (n:=((st.aO.length:Int)).toNat) (λi C _=>C=bR ((aA i).filter (Co st c g))) b By sq rfl ?_ ?_
  ·rintro i C L R e v rfl y H4 ⟨rfl,rfl⟩
   rw[gE];have f:i<st.aO.length:=∅
   have j:i<st.groups.length:=∅
   have G:=e _ _ r;refine⟨_,rfl,p,_,_,_,_,rfl,G,T.bV,T.qg,rfl,_,rfl,d .aO,_,_,_,rfl,rfl,e.seq l,sC f,_,rfl,p,_,_,_,_,rfl,G,T.bV,T.nN,rfl,_,rfl,d .groups,_,_,_,rfl,rfl,e.seq u,sC j,g7,λz1 z=>?_⟩;have U:=aG.new (o:=.tup [V.int (st.aO[i]:Nat),V.int (st.groups[i]:Nat)]) z;have A:=e.trans U;have W:=U _ _ v;refine⟨_,rfl,.tuple (([(st.aO[i]:Int),(st.groups[i]:Int)]:List Int).map .int),.tuple (([(c:Int),(g:Int)]:List Int).map .int),Rep.JB (ns:=[(st.aO[i]:Int),(st.groups[i]:Int)]) (cP.of au),Rep.JB (ns:=[(c:Int),(g:Int)]) (cP.of (A _ _ M)),pT _,pT _,(by show PyData.depthAll _+1<=64;rw[vO];decide),_,rfl,?_⟩
   try dsimp only
   have Z:Co st c g i=decide ((st.aO[i]:Int)=(c:Int)/\(st.groups[i]:Int)=(g:Int)):=by
    unfold Co;rw[aa f,aa j,decide_eq_decide];constructor
    ·rintro⟨J,I⟩
     exact⟨by rw[aK J],by rw[aK I]⟩
    ·rintro⟨J,I⟩
     exact⟨gU some ∅,gU some ∅⟩
   rw[Qq,<- Z];refine ko (λs=>?_) (λs=>?_)
   ·refine⟨_,rfl,?_⟩
    refine fQ b R A W ?_ ?_
    ·rw[ah]
     refine cS (aN (aX _ _) ?_);rw[bB];lia
    ·rw[oW,ee s,jI]
   ·refine jX R A W ?_
    rw[oW,er s,bY]
  ·rintro C L e v rfl
   have D:=m.trans e;exact k B L D (m.free b) v
inductive J8(K:af)(CT C NW:Addr)(vs:List V)(H:Hp)(Q:VK)(E:XK):Prop
 |mk (p tp lu ln lr:Addr) (ns:List Int) (rs:List R5) (ws:List (List Nat)) (i x:Int):vs=[.ref p,.int i,.int x]->c7 K CT H tp ln lr ns rs->Qh C H p tp lu ws->ws.length=rs.length->(∀(j:Nat) w H',i=(j:Int)->ws[j]?=some w->aG H H'->(w=[]->Q .fH H')/\(∀k:Nat,w[(x%(w.length:Int)).toNat]?=some k->w≠[]->Q (.int (k:Nat)) H'))->(¬(0<=i/\i<rs.length)->E (.ref NW) none H)->J8 K CT C NW vs H Q E
theorem A1{t:Ad}(T:Txt K mg t):cz P w K mg base (EU P w) 2 t.gP t.iT ["self","rope","number"]  (J8 K t.bD t.c8 t.CY):=by
 refine T.lW.F.W1 qZ λH Q E g h=>?_
 ·obtain⟨p,s,lu,C,Y,Z,R,v,i,x,rfl,O,r,S,k,W⟩:=h
  obtain⟨⟨J,U⟩,_⟩:=id r;refine⟨_,(aq (sS 3 qZ (Cw (pv 0) T.jk T.lV.m (A0 T) (g.mono (!_)) T.lV.B .nil YF (gV (pv 1)))) (aq (cD (qT Ow (pv 3) (jq iP)) (oR iO) bz) (oR (xL (pv 3) (bw dZ (pv 2) (lS T.iN (pv 3))))))),?_⟩
  left
  refine⟨_,rfl,p,J,_,rfl,U,rfl,_,rfl,p,s,lu,C,Y,Z,R,v,i,rfl,O,r,S,λj d l H1 A u X LO M=>?_,W⟩;refine⟨_,rfl,bM _,λq N=>?_⟩;have n:=aG.new (o:=.lst []) N;have c:=n _ _ M;refine⟨.list ((d.map λk:Nat=>(k:Int)).map .int),.list [],⟨l,_,rfl,bP.of c,(by rw[jJ];exact ue _)⟩,⟨q,_,rfl,bP.of au,rfl⟩,pT _,rfl,cJ (fz (aN (Nat.min_le_right _ _) (!_)) _) g.units,_,rfl,?_⟩;obtain⟨D,G⟩:=k j d _ A u (X.trans n);cases d with
  |nil=>exact gC (D rfl)
  |cons y a =>
   refine eZ ?_;have b:(0:Int)<(((y::a).length:Nat):Int):=by rw[bx];lia
   have L:=bU x (show (((y::a).length:Nat):Int)≠0 by lia);have I:=ck x b;have e:(x%(((y::a).length:Nat):Int)).toNat<(y::a).length:=∅
   refine⟨_,rfl,_,rfl,_,rfl,l,_,rfl,.inl (bP.of c),_,_,rfl,(by rw[ah]),b,?_⟩;obtain⟨z,f⟩:∃z,(y::a)[(x%(((y::a).length:Nat):Int)).toNat]?=some z:=⟨_,aa e⟩;refine⟨l,_,_,V.int (z:Nat),rfl,rfl,bP.of c,?_,G z f (by intro z;cases z)⟩;rw[show x%(((y::a).length:Nat):Int)=(((x%(((y::a).length:Nat):Int)).toNat:Nat):Int) by lia];exact eY (by rw[aj,f];rfl)
noncomputable def Av(l:LS)(h:Nat):Bool:=(CD (l.done.map λh:Nat=>((gD (h:Int):Key),V.bl true)) (gD (h:Int))).isSome
inductive QW(K:af)(CT:Addr)(c:NC)(vs:List V)(H:Hp)(Q:VK)(E:XK):Prop
 |mk (F:Addr->Prop) (loc dx:Role->Addr) (q:TQ) (p tp ln lr:Addr) (ns:List Int) (rs:List R5) (s:NS) (o:cX ns rs) (i r h:Nat) (l:LS):vs=[.ref p,.ref (loc (.bW i)),.int r,.int h]->mV K c H F loc dx q p tp ns.length s->NW K c CT H F p tp ln lr ns rs s->CK ns rs s->s.ls[i]?=some l->l.grp<3->(∀os H',aG H H'->eU (kJ ns rs o s.ws l.grp) (s.R l.grp) os->os.length<=12->Q (.str (if r∈os then (if Av l h=true then "twice" else "come") else "lost")) H')->QW K CT c vs H Q E
theorem Ij{t:Ad}(T:Txt K mg t):cz P w K mg base iM 7 t.kX t.pI ["self","posted","rope","house"]  (QW K t.bD (nc t)):=by
 refine T.Bb.F.kh G8 λH Q E u h=>?_
 ·obtain⟨F,a,B,q,p,v,z,D,I,C,st,o,i,r,y,l,rfl,X,N,x,b,A,k⟩:=h
  refine⟨_,(aq (cD (jW rA (pv 2) (cM (pv 0) T.bV T.zM (Dr T) u (gV (aY (pv 1) rfl))) (by with_unfolding_all rfl)) (oR gG) bz) (oR (yO (S8 (TZ (CF u) (pv 3) (aY (pv 1) rfl)) (by with_unfolding_all rfl)) gG gG))),?_⟩
  left
  have n:=X.own.get .fC _ rfl;rw[X.hp] at n;have s:=X.own.get (.bW i) (mW (nc t) B a i l) (by show (st.ls[i]?.map _)=_;rw[b];rfl);have f:=X.own.get (.done i) (.dK (l.done.map λh:Nat=>(gD (h:Int),.bl true))) (by show (st.ls[i]?.map _)=_;rw[b];rfl);refine⟨_,rfl,_,rfl,p,_,_,rfl,n,rfl,_,rfl,a (.bW i),_,_,_,_,rfl,s,T.dj,T.jT,rfl,F,p,v,z,D,I,C,st,o,l.grp,rfl,N,x,A,λlo os G j J g c m=>⟨lo,_,rfl,.inl (bP.of g),rfl,rX _,_,rfl,?_⟩⟩
  try dsimp only
  rw[ee rfl,zc];have k:=k os G j c m;by_cases e:r∈os
  ·rw[ee e] at k
   rw[e8 e];refine eZ ?_;refine⟨_,rfl,_,rfl,a (.bW i),_,_,_,_,rfl,j _ _ s,T.dj,T.oF,rfl,a (.done i),_,rfl,AW.k (k:=.inl (y:Int)) (j _ _ f),_,rfl,?_⟩;unfold Av at k;refine ko (λd=>?_) (λd=>?_)
   ·rw[ee d] at k
    exact k
   ·rw[er d] at k
    exact k
  ·rw[er e] at k
   rw[fy e];exact gC k
noncomputable def gX(l:LS):Nat:=if l.kd=1 then l.s+l.to+1 else l.s
theorem XC{t:Ad}(T:Txt K mg t){b a:Role->Addr}{f:L2.St}{H:Hp}{Q:VK}{i:Nat}{l:LS}(j:∀Q:VK,Q (.ref (a (.bW i))) H->Kg 4 f H Q)(h:H (a (.bW i))=some (mW (nc t) b a i l))(c:H (a (.letter i))=some (rD (nc t) (b (.letter i)) l))(q:Q (.int (gX l:Nat)) H) :
 EO t.iJ (Str.ofString "number") (AR K) [] E0 (GA K (Kg 4) (Str.ofString "letter")) Bu f H Q∨EO t.fY (Str.ofString "number") (Eu t.fY) [] E0 (GA K (Kg 4) (Str.ofString "letter")) Bu f H Q∨EO t.iW (Str.ofString "number") (AR K) [] E0 (GA K (Kg 4) (Str.ofString "letter")) Bu f H Q:=by
 by_cases e:l.kd=1
 ·have d:H (a (.letter i))=some (.ins t.fY (b (.letter i)) [("sender",.int l.s),("to",.int l.to)]):=by rw[c];unfold rD;rw[ee e]
  have g:V.int ((l.s:Int)+(l.to:Int)+1)=.int (gX l:Nat):=by unfold gX;rw[ee e];rfl
  refine .inr (.inl ?_);unfold EO GA;exact (j _ ⟨a (.bW i),_,_,_,_,rfl,h,T.dj,T.gY,rfl,a (.letter i),b (.letter i),_,rfl,d,rfl,a (.letter i),b (.letter i),l.s,l.to,rfl,d,(by rw[g];exact q)⟩)
 ·have d:H (a (.letter i))=some (.ins t.iW (b (.letter i)) [("sender",.int l.s)]):=by rw[c];unfold rD;rw[er e]
  have g:V.int (l.s:Int)=.int (gX l:Nat):=by unfold gX;rw[er e]
  refine .inr (.inr ?_);unfold EO GA;exact (j _ ⟨a (.bW i),_,_,_,_,rfl,h,T.dj,T.gY,rfl,a (.letter i),b (.letter i),_,rfl,d,rfl,a (.letter i),t.iW,b (.letter i),l.s,rfl,d,T.xM,T.nK,(by rw[g];exact q)⟩)
noncomputable def Nk(s:NS)(i h r x f:Nat):NS:={oY s i (.send h r x) with cps:=s.cps++[⟨i,r,x,f⟩]}
inductive QX(K:af)(CT:Addr)(c:NC)(vs:List V)(H:Hp)(Q:VK)(E:XK):Prop
 |mk (F:Addr->Prop) (p tp ln lr:Addr) (ns:List Int) (rs:List R5) (s:NS) (i h r:Nat) (l:LS) (re:R5) (w:List Nat) (x:Nat):vs=[.ref p,.int i,.int h,.int r]->NW K c CT H F p tp ln lr ns rs s->cX ns rs->CK ns rs s->s.ls[i]?=some l->l.aD.length<1000000->s.cps.length<1000000->rs[r]?=some re->s.ws[r]?=some w->w[(((gX l:Nat):Int)%(w.length:Int)).toNat]?=some x->w≠[]->(∀F' H',NW K c CT H' F' p tp ln lr ns rs (Nk s i h r x (fR re h))->Step H F H' F'->Q .fH H')->QX K CT c vs H Q E
theorem Nl{t:Ad}(T:Txt K mg t):cz P w K mg base iM 3 t.sQ t.xD ["self","number","house","rope"]  (QX K t.bD (nc t)):=by
 refine T.Hh.F.kh zG λH Q E n h=>?_
 ·obtain⟨F,p,C,ln,lr,ns,A,st,i,g,r,l,re,w',x,rfl,N,tok,Ex,b,hld,hcl,f,hw,X,Y,k⟩:=h
  refine⟨_,(aq (sS 4 zG (xL (aY (pv 0) rfl) (pv 1))) (aq (sS 5 zG (Cw (aY (pv 0) rfl) T.jk T.lW.m (A1 T) (n.mono (!_)) T.lW.B .nil Qd (nZ (pv 3) (DM (kD (aY (pv 4) rfl) T.Hj T.lH.m (wD T) (n.mono (!_)) T.lH.B .nil mK) (DM (kD (aY (pv 4) rfl) T.pL T.sU.m (Gb T) (n.mono (!_)) T.sU.B .nil mK) (kD (aY (pv 4) rfl) T.xM T.Hl (wD T) (n.mono (!_)) T.lH.B .nil mK)))))) (aq (fE (pS be bh bg eE (aY (pv 4) rfl) (gV (dU (YN gG (pv 2) (pv 3) (pv 5)))))) (oE (pS be bh bg eE (aY (pv 0) rfl) (gV (dU (YN (pv 1) (pv 3) (pv 5) (cM (aY (pv 0) rfl) T.fJ T.nJ (qU T) n (nZ (pv 3) (pv 2))))))))))),?_⟩
  left
  obtain⟨a,D,q,hp,O,hF,hT⟩:=id N.fC;have L:=O.get .fC _ rfl;rw[hp] at L;have M:=(ai.mp b).1;have J:=(ai.mp f).1;have XA:=O.get .cT _ rfl;have Iu:=O.get (.bW i) (mW (nc t) D a i l) (by show (st.ls[i]?.map _)=_;rw[b];rfl);have Z:=O.get (.letter i) (rD (nc t) (D (.letter i)) l) (by show (st.ls[i]?.map _)=_;rw[b];rfl);refine⟨_,rfl,p,_,_,_,_,rfl,L,T.bV,T.eX,rfl,_,rfl,a .cT,_,_,_,rfl,rfl,bP.of XA,qm M,?_⟩;refine⟨_,rfl,p,_,_,_,_,rfl,L,T.bV,T.vc,rfl,a .e9,D .e9,_,rfl,O.get .e9 _ rfl,rfl,_,rfl,?_⟩;have s:=O.get (.aD i) (.lst ((q.dq i).map V.ref)) (by show (st.ls[i]?.map _)=_;rw[b];rfl);refine XC T (l:=l) (λQ q=>⟨_,rfl,q⟩) Iu Z ?_;refine⟨a .e9,C,a .iQ,ln,lr,ns,A,st.ws,r,(gX l:Nat),rfl,N.vP,O.strAt,Ex.wl,λj w2 H1 ej y v=>⟨λz=>?_,λkk hk _=>?_⟩,λz=>eL ⟨∅,∅⟩ z⟩
  ·have:j=r:=∅
   subst this;rw[hw] at y;cases y;exact eL z Y
  have:j=r:=∅
  subst this;rw[hw] at y;cases y;rw[X] at hk;cases hk;have X1:mV K (nc t) H1 F a D q p C ns.length st:=mV.mono ⟨hp,O,hF,hT⟩ v;have Py:=(X1.tup.aD i _ b).len;rw[ah] at Py;refine⟨_,rfl,a (.bW i),_,_,_,_,rfl,v _ _ Iu,T.dj,T.iK,rfl,.inl ⟨rfl,_,bP.of (v _ _ s)⟩,_,rfl,_,rfl,_,rfl,x6,λz1 U=>?_⟩;have u1:=aG.new (o:=.tup [V.str "send",V.int g,V.int j,V.int x]) U;refine⟨a (.aD i),_,_,rfl,rfl,u1 _ _ (v _ _ s),mj (by rw[ah,Py];lia),?_⟩;obtain⟨e,R⟩:=CL (X1.mono u1) b (d:=.send g j x) (cP.of au);have c:=(Step.refl' (F:=F) (v.trans u1)).trans R;have G:=N.done c e.fC;generalize upd (upd H1 z1 (.tup [V.str "send",V.int g,V.int j,V.int x])) (a (.aD i)) (.lst ((q.dq i).map V.ref++[.ref z1]))=H2 at e c G;have I:=e.own.get .fC _ rfl;rw[e.hp] at I;have u:=e.own.get .lP _ rfl;obtain⟨⟨dt,W⟩,_⟩:=id G.vP;have Zf:q.cq.length=st.cps.length:=by
   have z:=e.tup.cps.len;rw[ah] at z;exact z
  obtain⟨_,rfl⟩:=ai.mp f;refine⟨_,rfl,p,_,_,_,_,rfl,I,T.bV,T.nO,rfl,.inl ⟨rfl,_,bP.of u⟩,_,rfl,_,rfl,_,rfl,_,rfl,p,_,_,_,_,rfl,I,T.bV,T.oG,rfl,C,dt,_,rfl,W,rfl,_,rfl,_,rfl,C,ln,lr,ns,A,j,_,g,rfl,G.vP,f,?_⟩;rw[Qg (h:=g) J tok.ok];refine⟨x6,λz2 hz2=>?_⟩;have S:=aG.new (o:=.tup [V.int i,V.int j,V.int x,V.int (fR A[j] g:Nat)]) hz2;refine⟨a .lP,_,_,rfl,rfl,S _ _ u,mj (by rw[ah,Zf];lia),?_⟩;have X3:=e.mono S;obtain⟨X4,L8⟩:=Qp X3 (qs:=q.cq++[z2]) (cps:=st.cps++[⟨i,j,x,fR A[j] g⟩]) (by rw[aT];exact X3.tup.cps.snoc (cP.of au));rw[aT] at X4 L8;have NK:=(c.trans (Step.refl' (F:=F) S)).trans L8;refine k F _ ?_ NK;unfold Nk;rw[fL b];exact N.done NK X4.fC
end
section
noncomputable def nV(ds:List Nat)(h:Nat):List Nat:=if h∈ds then ds else ds++[h]
theorem Su{ds:List Nat}{h:Nat}:putK (ds.map λh:Nat=>((gD (h:Int):Key),V.bl true)) (gD (h:Int)) (V.bl true)=(nV ds h).map λh:Nat=>((gD (h:Int):Key),V.bl true):=by
 have e:((ds.map λh:Nat=>((gD (h:Int):Key),V.bl true)).any λb=>decide (b.1=(gD (h:Int):Key)))=decide (h∈ds):=by
  rw[iC,List.any_map,wL,decide_eq_true_iff];constructor
  ·rintro⟨x,a,e⟩
   have e:=Sum.inl.inj (g8 e)
   have:x=h:=∅
   exact this▸a
  ·exact λa=>⟨h,a,e8 rfl⟩
 unfold putK nV;rw[e];by_cases z:h∈ds
 ·rw[ee (e8 z),ee z,dw]
  refine c6 λx _=>?_;show (if _ then _ else _)=_;split <;> rfl
 ·rw[er (by rw[decide_eq_true_iff];exact z),er z,aT]
  rfl
structure Fr(s s':NS):Prop where
 ws:s'.ws=s.ws
 R:s'.R=s.R
 ts:s'.ts=s.ts
 aO:s'.aO=s.aO
 groups:s'.groups=s.groups
 lt:∀(i:Nat) (l:LS),s.ls[i]?=some l->∃l':LS,s'.ls[i]?=some l'/\l'.s=l.s/\l'.to=l.to/\l'.kd=l.kd/\l'.grp=l.grp/\l'.old=l.old
theorem Fr.refl(s:NS):Fr s s:=⟨rfl,rfl,rfl,rfl,rfl,λ_ l h=>⟨l,h,rfl,rfl,rfl,rfl,rfl⟩⟩
theorem Fr.trans{a b c:NS}(f:Fr a b)(g:Fr b c):Fr a c:=by
 refine⟨g.ws.trans f.ws,g.R.trans f.R,g.ts.trans f.ts,g.aO.trans f.aO,g.groups.trans f.groups,λi l h=>?_⟩;obtain⟨n,e,k,j,o,r,s⟩:=f.lt i l h;obtain⟨q,m,f1,f2,p,d,t⟩:=g.lt i n e;exact⟨q,m,f1.trans k,f2.trans j,p.trans o,d.trans r,t.trans s⟩
theorem Fr.ok{ns:List Int}{rs:List R5}{s s':NS}(f:Fr s s')(h:CK ns rs s):CK ns rs s' :=
 ⟨by rw[f.ws];exact h.wl,by rw[f.ws];exact h.w4,by rw[f.R];exact h.fit⟩
theorem Zg{s:NS}{i:Nat}{l a:LS}{had:List (List Nat)}{cps:List Cp}(hl:s.ls[i]?=some l)(g:a.s=l.s)(e:a.to=l.to)(f:a.kd=l.kd)(c:a.grp=l.grp)(d:a.old=l.old):Fr s {s with ls:=s.ls.set i a,had:=had,cps:=cps}:=by
 refine⟨rfl,rfl,rfl,rfl,rfl,λk b h=>?_⟩;show ∃b,(s.ls.set i a)[k]?=some b/\_;rw[gu (ai.mp hl).1];by_cases z:k=i
 ·subst z
  rw[hl] at h;cases h;exact⟨a,ee rfl,g,e,f,c,d⟩
 ·exact⟨b,by rw[er z];exact h,rfl,rfl,rfl,rfl,rfl⟩
theorem QY{s:NS}{i:Nat}{d:dN}:Fr s (oY s i d):=by
 cases h:s.ls[i]? with
 |none=>unfold oY;rw[h];exact Fr.refl s
 |some l=>rw[fL h];exact Zg h rfl rfl rfl rfl rfl
structure Bd(n m D:Nat)(s:NS):Prop where
 gl:s.groups.length=s.aO.length
 AZ:s.aO.length<=20
 g3:∀g∈s.groups,g<3
 hm:∀h∈s.aO,h<n
 hl:s.had.length=s.aO.length
 hb:∀w∈s.had,w.length<=D
 ll:s.ls.length<=D
 lb:∀l∈s.ls,l.aD.length+s.cps.length<=D/\l.done.length<=D/\l.grp<3/\(l.kd=1∨l.kd=2)
 cb:s.cps.length<=D
 cl:∀c∈s.cps,c.l<s.ls.length/\c.r<m/\c.h<n
 tb:∀g,50*(s.ts g).length<=D/\bX (s.ts g)
theorem Bd.mono{n m D a:Nat}{s:NS}(b:Bd n m D s)(h:D<=a):Bd n m a s :=
 ⟨b.gl,b.AZ,b.g3,b.hm,b.hl,λw z=>aN (b.hb w z) h,aN b.ll h,λl z=>⟨aN (b.lb l z).1 h,aN (b.lb l z).2.1 h,(b.lb l z).2.2⟩,aN b.cb h,b.cl,λg=>⟨aN (b.tb g).1 h,(b.tb g).2⟩⟩
theorem Bd.set{n m D:Nat}{s:NS}{i:Nat}{l a:LS}(b:Bd n m D s)(k:Nat)(hl:s.ls[i]?=some l){cps:List Cp}{had:List (List Nat)}(u:cps.length<=s.cps.length+1)(k2:cps.length<=s.cps.length∨2<=k)(k1:1<=k)(t:a.aD.length+cps.length<=l.aD.length+s.cps.length+k)(v:a.done.length<=l.done.length+k)(p:a.grp=l.grp)(q:a.kd=l.kd)
 (j:∀c∈cps,c∈s.cps∨(c.l<s.ls.length/\c.r<m/\c.h<n)) (o:had.length=s.had.length) (f:∀w∈had,w.length<=D+k):Bd n m (D+k) {s with ls:=s.ls.set i a,had:=had,cps:=cps}:=by
 have d:=b.lb l (aM hl);refine⟨b.gl,b.AZ,b.g3,b.hm,o.trans b.hl,f,?_,λe z=>?_,?_,λc z=>?_,λg=>⟨aN (b.tb g).1 (wJ _ _),(b.tb g).2⟩⟩
 ·show (s.ls.set i a).length<=_
  rw[bT]
  have:=b.ll
  lia
 ·rcases List.mem_or_eq_of_mem_set z with z|rfl
  ·have h:=b.lb e z
   refine⟨?_,?_,h.2.2⟩
   ·show e.aD.length+cps.length<=_
    have:=h.1
    lia
   ·have:=h.2.1
    lia
  ·refine⟨?_,?_,p▸d.2.2.1,q▸d.2.2.2⟩
   ·show e.aD.length+cps.length<=_
    have:=d.1
    lia
   ·have:=d.2.1
    lia
 ·show cps.length<=_
  have:=b.cb
  lia
 ·show c.l<(s.ls.set i a).length/\_
  rw[bT];rcases j c z with y|y
  ·exact b.cl c y
  ·exact y
theorem Bd.al1{n m D:Nat}{s:NS}(b:Bd n m D s)(i:Nat)(d:dN):Bd n m (D+1) (oY s i d):=by
 cases h:s.ls[i]? with
 |none=>unfold oY;rw[h];exact b.mono (cV D)
 |some l =>
  rw[fL h];refine b.set 1 h (cV _) (.inl (ay _)) (ay _) ?_ (cV _) rfl rfl (λc z=>.inl z) rfl (λw z=>Nat.le_succ_of_le (b.hb w z));show (l.aD++[d]).length+_<=_;rw[av];show l.aD.length+1+_<=_;lia
noncomputable def eO(s:NS)(i h:Nat)(l:LS):NS:={s with ls:=s.ls.set i {l with done:=nV l.done h}}
theorem LH{s:NS}{i h:Nat}{l:LS}(hl:s.ls[i]?=some l):Fr s (eO s i h l):=Zg hl rfl rfl rfl rfl rfl
theorem QZ{n m D:Nat}{s:NS}{i h:Nat}{l:LS}(b:Bd n m D s)(hl:s.ls[i]?=some l):Bd n m (D+1) (eO s i h l):=by
 refine b.set 1 hl (cV _) (.inl (ay _)) (ay _) (cV _) ?_ rfl rfl (λc z=>.inl z) rfl (λw z=>Nat.le_succ_of_le (b.hb w z));show (nV l.done h).length<=_;unfold nV;split
 ·exact cV _
 ·rw[av];exact ay _
noncomputable def tY(s:NS)(i c:Nat):NS:={s with had:=s.had.set c (s.had.getD c []++[i])}
noncomputable def kZ(i h:Nat)(s:NS)(c:Nat):NS:=oY (tY s i c) i (.hand h c)
theorem Gs{s:NS}{i h c:Nat}:Fr s (kZ i h s c):=Fr.trans (b:=tY s i c) ⟨rfl,rfl,rfl,rfl,rfl,λ_ l h=>⟨l,h,rfl,rfl,rfl,rfl,rfl⟩⟩ QY
theorem LI{n m D:Nat}{s:NS}{i h c:Nat}(b:Bd n m D s):Bd n m (D+1) (kZ i h s c):=by
 have q:∀w∈(tY s i c).had,w.length<=D+1:=λw z=>by
  rcases List.mem_or_eq_of_mem_set z with y|rfl
  ·exact Nat.le_succ_of_le (b.hb w y)
  ·rw[av]
   refine Nat.add_le_add_right ?_ 1;rw[az];cases e:s.had[c]? with
   |none=>exact bM _
   |some w=>exact b.hb w (aM e)
 unfold kZ;cases d:s.ls[i]? with
 |none =>
  unfold oY;rw[show (tY s i c).ls[i]?=none from d];have a:=b.mono (cV D);exact⟨a.gl,a.AZ,a.g3,a.hm,by show (s.had.set _ _).length=_;rw[bT];exact a.hl,q,a.ll,a.lb,a.cb,a.cl,a.tb⟩
 |some l =>
  rw[fL (show (tY s i c).ls[i]?=some l from d)];refine b.set 1 d (cV _) (.inl (ay _)) (ay _) ?_ (cV _) rfl rfl (λc z=>.inl z) (by show (s.had.set _ _).length=_;rw[bT]) q;show (l.aD++[_]).length+s.cps.length<=_;rw[av];show l.aD.length+1+s.cps.length<=_;lia
noncomputable def gW(ws:List (List Nat))(r k:Nat):Nat:=match ws[r]? with|some w=>w.getD (k%w.length) 0|none=>0
noncomputable def eN(rs:List R5)(r h:Nat):Nat:=match rs[r]? with|some re=>fR re h|none=>0
noncomputable def Sv(s:NS)(i:Nat):Nat:=match s.ls[i]? with|some l=>gX l|none=>0
noncomputable def tZ(rs:List R5)(i h:Nat)(s:NS)(r:Nat):NS:=Nk s i h r (gW s.ws r (Sv s i)) (eN rs r h)
theorem Gu{rs:List R5}{s:NS}{i h r:Nat}:Fr s (tZ rs i h s r):=Fr.trans (QY (i:=i) (d:=.send h r (gW s.ws r (Sv s i)))) ⟨rfl,rfl,rfl,rfl,rfl,λ_ l h=>⟨l,h,rfl,rfl,rfl,rfl,rfl⟩⟩
theorem OE{ns:List Int}{rs:List R5}(o:cX ns rs){r h:Nat}(a:r<rs.length):eN rs r h<ns.length:=by
 unfold eN;rw[aa a];have k:=o.ok _ (aQ a);have b:=k.a0;have c:=k.b0;have d:=k.a1;have e:=k.b1;show fR _ _<_;unfold fR;split <;> lia
theorem Q0{ns:List Int}{rs:List R5}(o:cX ns rs){D:Nat}{s:NS}{i h r:Nat}(b:Bd ns.length rs.length D s)(a:i<s.ls.length)(d:r<rs.length):Bd ns.length rs.length (D+2) (tZ rs i h s r):=by
 have e:=aa a;unfold tZ Nk;rw[fL e];refine b.set 2 e (by rw[av];exact ay _) (.inr (ay _)) (!_) ?_ (wJ _ _) rfl rfl (λc z=>?_) rfl (λw z=>aN (b.hb w z) (wJ _ _))
 ·show (s.ls[i].aD++[_]).length+(s.cps++[_]).length<=_
  rw[av,av];show s.ls[i].aD.length+1+(s.cps.length+1)<=_;lia
 ·rcases br.mp z with y|y
  ·exact .inl y
  ·rw[bq] at y
   subst y;exact .inr ⟨a,d,OE o d⟩
theorem yl{f:NS->Nat->NS}(h:∀s x,Fr s (f s x)):∀(xs:List Nat) (s:NS),Fr s (xs.foldl f s)
 |[],s=>Fr.refl s
 |x::xs,s=>(h s x).trans (yl h xs (f s x))
theorem AS{n m k:Nat}{f:NS->Nat->NS}(I:NS->Prop):∀(xs:List Nat) (s:NS) (D:Nat),(∀s x D,x∈xs->I s->Bd n m D s->I (f s x)/\Bd n m (D+k) (f s x))->I s->Bd n m D s->Bd n m (D+k*xs.length) (xs.foldl f s)
 |[],s,D,_,_,b=>b
 |x::xs,s,D,h,i,b=>by
  obtain⟨a,c⟩:=h s x D b9 i b
  have:=AS I xs (f s x) (D+k) (λs y D z=>h s y D (bu _ z)) a c
  refine this.mono (Nat.le_of_eq ?_);rw[bx,Nat.mul_succ];lia
theorem J9{f:NS->Nat->NS}{xs:List Nat}{s:NS}{j:Nat}(h:j<xs.length):(xs.take (j+1)).foldl f s=f ((xs.take j).foldl f s) xs[j]:=by
 rw[ju h,List.foldl_append];rfl
noncomputable def iA(s:NS)(l:LS)(h:Nat):List Nat:=(oh s h l.grp).filter λc=>DO l.s l.to l.kd c
noncomputable def Aw(rs:List R5)(s:NS)(l:LS)(h:Nat)(aU:Option Nat)(os:List Nat):List Nat:=(DA (s.ts l.grp) (rC l.to l.kd) h (aU.map λk:Nat=>(k:Int)) ((os.filter (isAt rs h)).map λk:Nat=>(k:Int)) ((oh s h l.grp).map λk:Nat=>(k:Int))).map Int.toNat
noncomputable def Nm(rs:List R5)(s:NS)(i h:Nat)(l:LS)(aU:Option Nat)(os:List Nat):NS:=(Aw rs s l h aU os).foldl (tZ rs i h) ((iA s l h).foldl (kZ i h) (eO s i h l))
theorem Dw{ts:List T3}{a:Option Int}{b:Int}{aU:Option Int}{os c:List Int}:(∀x∈DA ts a b aU os c,x∈os)/\(DA ts a b aU os c).length<=os.length:=by
 have f:(∀x∈os.filter (gy aU),x∈os)/\(os.filter (gy aU)).length<=os.length:=⟨λx z=>(bC.mp z).1,aX _ _⟩;unfold DA;split
 ·exact f
 ·split
  ·exact⟨λx z=>eL z (-_),bM _⟩
  ·split
   ·split
    ·rename_i r _ d
     refine⟨λx z=>?_,?_⟩
     ·have:=(bC.mp z).1
      rw[bq] at this;exact this▸d
     ·refine aN (aX _ _) ?_
      show 1<=os.length;cases os with
      |nil=>cases d
      |cons=>simp
    ·exact f
   ·exact f
theorem XD{rs:List R5}{s:NS}{l:LS}{h:Nat}{aU:Option Nat}{os:List Nat}:(DA (s.ts l.grp) (rC l.to l.kd) h (aU.map λk:Nat=>(k:Int)) ((os.filter (isAt rs h)).map λk:Nat=>(k:Int)) ((oh s h l.grp).map λk:Nat=>(k:Int))).map V.int=bR (Aw rs s l h aU os):=by
 unfold Aw;rw[bR,dw];refine c6 λx a=>?_;obtain⟨k,_,rfl⟩:=aL.mp (Dw.1 x a);rfl
theorem Q3{rs:List R5}{s:NS}{l:LS}{h:Nat}{aU:Option Nat}{os:List Nat}:(∀r∈Aw rs s l h aU os,r∈os)/\(Aw rs s l h aU os).length<=os.length:=by
 unfold Aw;refine⟨λr c=>?_,?_⟩
 ·obtain⟨x,b,rfl⟩:=aL.mp c
  obtain⟨k,a,rfl⟩:=aL.mp (Dw.1 x b);exact (bC.mp a).1
 ·rw[ah]
  refine aN Dw.2 ?_;rw[ah];exact aX _ _
theorem Np{s:NS}{l:LS}{h:Nat}:(∀c∈iA s l h,c<s.aO.length)/\(iA s l h).length<=s.aO.length:=by
 unfold iA oh;refine⟨λc z=>dm.mp (bC.mp (bC.mp z).1).1,?_⟩;refine aN (aX _ _) (aN (aX _ _) ?_);rw[bB];exact ay _
theorem Ez{ns:List Int}{rs:List R5}{o:cX ns rs}{s:NS}{g:Nat}{os:List Nat}(O:eU (kJ ns rs o s.ws g) (s.R g) os){r:Nat}(d:r∈os):r<rs.length/\∃w,s.ws[r]?=some w/\w≠[]:=by
 obtain⟨a,b,t⟩:=(O.2 r).mp d;have m:r∈Qm rs s.ws g:=t.AB.1;refine⟨zh r m,?_⟩;have e:=(bC.mp m).2;unfold isLive at e;split at e
 ·rename_i h w f c
  refine⟨w,c,λz=>?_⟩;subst z;cases e
 ·cases e
theorem LJ{rs:List R5}{s:NS}{i h:Nat}{l:LS}{aU:Option Nat}{os:List Nat}(hl:s.ls[i]?=some l):Fr s (Nm rs s i h l aU os):=((LH hl).trans (yl (λ_ _=>Gs) _ _)).trans (yl (λ_ _=>Gu) _ _)
end
section
variable{P:Program}{w:World}{K:af}{mg:Str->Option Value}{base:Heap}
theorem abe{c:NC}{H:Hp}{a b:Addr}{l:LS}{d:Addr}(h:H a=some (rD c b l))(k:l.kd=1∨l.kd=2):EX d c.let1 c.ac5 H a l.s l.to l.kd:=by
 rcases k with e|e
 ·rw[e]
  refine .one b ?_;rw[h];unfold rD;rw[ee e]
 ·rw[e]
  refine .all b ?_;rw[h];unfold rD;rw[er (by rw[e];decide)]
inductive Zh(K:af)(CT:Addr)(c:NC)(vs:List V)(H:Hp)(Q:VK)(E:XK):Prop
 |mk (F:Addr->Prop) (p tp ln lr:Addr) (ns:List Int) (rs:List R5) (s:NS) (o:cX ns rs) (i h:Nat) (aU:Option Nat) (l:LS) (D:Nat):vs=[.ref p,.int i,.int h,iE (aU.map λk:Nat=>(k:Int))]->NW K c CT H F p tp ln lr ns rs s->CK ns rs s->Bd ns.length rs.length D s->D<=900000->s.ls[i]?=some l->(∀os F' H',eU (kJ ns rs o s.ws l.grp) (s.R l.grp) os->os.length<=12->NW K c CT H' F' p tp ln lr ns rs (Nm rs s i h l aU os)->Step H F H' F'->Q .fH H')->Zh K CT c vs H Q E
theorem wG{t:Ad}(T:Txt K mg t):cz P w K mg base iM 7 t.i8 t.lE ["self","number","house","came"]  (Zh K t.bD (nc t)):=by
 refine T.qC.F.kh eK λH Q E Y h=>?_
 ·obtain⟨F,p,tp,ln,lr,ns,rs,st,o,i,f,U,l,D,rfl,N,Ex,bd,hD,B,k⟩:=h
  refine⟨_,(aq (sS 4 eK (xL (aY (pv 0) rfl) (pv 1))) (aq (sS 5 eK (aY (pv 4) rfl)) (aq (Kz (CF Y) (aY (pv 4) rfl) (pv 2) PM rfl) (aq (sS 6 eK (cG (Pp T) Y T.JN (YN (aY (pv 0) rfl) (cM (pv 0) T.bV T.xH (Au T) Y (gV (pv 5))) (cM (pv 0) T.bV T.sW (uE T) Y (gV (pv 5))) (pv 2)))) (aq (sS 7 eK (cM (pv 0) T.bV T.wg (Du T) Y (nZ (pv 2) (pv 5)))) (aq (sS 8 eK (cG (Pq T) Y T.JM (P0 (xL (aY (pv 0) rfl) (pv 5)) (aY (pv 4) rfl) (pv 2) (pv 3) (pv 6) (pv 7)))) (aq (fS (fV (xT (pv 8) aB)) (gT 9 eK) (aq (fE (pS be bh bg eE (xL (aY (pv 0) rfl) (pv 9)) (gV (pv 1)))) (oE (pS be bh bg eE (aY (pv 4) rfl) (gV (dU (Ir gG (pv 2) (pv 9)))))))) (bI (fS (fV (xT (pv 8) aB)) (gT 10 eK) (oE (cM (pv 0) T.bV T.Hh (Nl T) Y (Ir (pv 1) (pv 2) (pv 10))))))))))))),?_⟩
  left
  obtain⟨g,dx,q,hp,O,hF,hT⟩:=id N.fC;have X:mV K (nc t) H F g dx q p tp ns.length st:=⟨hp,O,hF,hT⟩;have cC:=O.get .fC _ rfl;rw[hp] at cC;have hil:=(ai.mp B).1;obtain⟨lb1,lb2,hg,lkd⟩:=bd.lb l (aM B);have XA:=O.get .cT _ rfl;have Iu:=O.get (.bW i) (mW (nc t) dx g i l) (by show (st.ls[i]?.map _)=_;rw[B];rfl);have hdo:=O.get (.done i) (.dK (l.done.map λh:Nat=>(gD (h:Int),.bl true))) (by show (st.ls[i]?.map _)=_;rw[B];rfl);refine bO λNx L=>?_;refine⟨_,rfl,p,_,_,_,_,rfl,cC,T.bV,T.eX,rfl,_,rfl,g .cT,_,_,_,rfl,rfl,bP.of XA,qm hil,L _ _ ?_⟩;refine bO λNx L=>?_;refine⟨_,rfl,g (.bW i),_,_,_,_,rfl,Iu,T.dj,T.jT,rfl,L _ _ ?_⟩;refine bO λNx L=>?_;refine⟨_,rfl,g (.bW i),_,_,_,_,rfl,Iu,T.dj,T.oF,rfl,_,rfl,g (.done i),_,rfl,Ky.k (k:=.inl (f:Int)) hdo (mj (by rw[ah];lia)),?_⟩;rw[Su];refine L _ _ ?_;obtain⟨X1,st1⟩:=UH X B (nV l.done f);have N1:=N.done st1 X1.fC;generalize upd H (g (.done i)) (.dK ((nV l.done f).map λh:Nat=>((gD (h:Int):Key),V.bl true)))=H1 at X1 st1 N1;have fr1:=LH (h:=f) B;have Zi:=QZ (h:=f) bd B;have es1:eO st i f l={st with ls:=st.ls.set i {l with done:=nV l.done f}}:=rfl;rw[<- es1] at X1 N1;have EA:(eO st i f l).ls[i]?=some {l with done:=nV l.done f}:=by
   show (st.ls.set i _)[i]?=_;rw[gu hil,ee rfl]
  have ets:(eO st i f l).ts=st.ts:=rfl;have ehe:oh (eO st i f l) f l.grp=oh st f l.grp:=rfl;have k1:∀os F' H',eU (kJ ns rs o (eO st i f l).ws l.grp) ((eO st i f l).R l.grp) os->os.length<=12->NW K (nc t) t.bD H' F' p tp ln lr ns rs ((Aw rs st l f U os).foldl (tZ rs i f) ((iA st l f).foldl (kZ i f) (eO st i f l)))->Step H1 F H' F'->Q .fH H':=λos F' H' a b c d=>k os F' H' a b c (st1.trans d);have Sw:=fr1.ok Ex;have ehd:iA st l f=(oh (eO st i f l) f l.grp).filter λc:Nat=>DO l.s l.to l.kd c:=rfl;have ego:∀os,Aw rs st l f U os=(DA ((eO st i f l).ts l.grp) (rC l.to l.kd) f (U.map λk:Nat=>(k:Int)) ((os.filter (isAt rs f)).map λk:Nat=>(k:Int)) ((oh (eO st i f l) f l.grp).map λk:Nat=>(k:Int))).map Int.toNat:=λos=>rfl;have hgi:∀os,(DA ((eO st i f l).ts l.grp) (rC l.to l.kd) f (U.map λk:Nat=>(k:Int)) ((os.filter (isAt rs f)).map λk:Nat=>(k:Int)) ((oh (eO st i f l) f l.grp).map λk:Nat=>(k:Int))).map V.int=bR (Aw rs st l f U os):=λos=>XD;have G:∀os,(∀r∈Aw rs st l f U os,r∈os)/\(Aw rs st l f U os).length<=os.length:=λos=>Q3;have M:(∀c∈iA st l f,c<(eO st i f l).aO.length)/\(iA st l f).length<=(eO st i f l).aO.length:=Np;have hhi:((oh (eO st i f l) f l.grp).map λk:Nat=>(k:Int)).filter (DO l.s l.to l.kd)=(iA st l f).map λk:Nat=>(k:Int):=by
   rw[ehd,List.filter_map];rfl
  generalize Aw rs st l f U=J at k1 hgi G;generalize iA st l f=n at k1 M hhi;generalize eO st i f l=m at X1 N1 Zi k1 EA Sw hgi M hhi;have al6:=(ai.mp EA).1;have mD:=X1.own.get .fC _ rfl;rw[X1.hp] at mD;refine bO λNx L=>?_;refine⟨_,rfl,p,_,_,_,_,rfl,mD,T.bV,T.oG,rfl,?_⟩;refine⟨_,rfl,p,_,_,rfl,mD,rfl,_,rfl,F,p,tp,ln,lr,ns,rs,m,l.grp,rfl,N1,o,Sw,hg,λa1 H2 t2 ha1 h1=>?_⟩;refine⟨_,rfl,p,_,_,rfl,t2 _ _ mD,rfl,_,rfl,F,p,tp,ns.length,l.grp,m,rfl,(N1.mono t2).fC,hg,λa2 qs H3 t3 ha2 h2 ht=>?_⟩;refine⟨_,rfl,tp,ln,lr,a1,a2,ns,rs,_,o.nd,o.ok,zh,m.R l.grp,f,rfl,(N1.mono (t2.trans t3)).vP,bP.of (t3 _ _ h1),ht.OR (bP.of h2),by have:=o.LQ;lia,o.VY,Sw.fit l.grp hg,λlo os H4 t4 Vs hlo hO h12=>L _ _ ?_⟩;have YH:=t2.trans (t3.trans t4);refine bO λNx L=>?_;refine⟨_,rfl,p,_,_,rfl,YH _ _ mD,rfl,_,rfl,_,rfl,F,p,tp,ns.length,f,l.grp,m,rfl,(N1.mono YH).fC,Zi.gl,Zi.AZ,λlh H5 t5 ahA XE=>L _ _ ?_⟩;have YE:=YH.trans t5;have X5:=X1.mono YE;have abf:=t5 _ _ hlo;have ad1:=X5.own.get (.bW i) (mW (nc t) dx g i {l with done:=nV l.done f}) (by show (m.ls[i]?.map _)=_;rw[EA];rfl);have ad2:=X5.own.get (.letter i) (rD (nc t) (dx (.letter i)) {l with done:=nV l.done f}) (by show (m.ls[i]?.map _)=_;rw[EA];rfl);rw[jJ] at abf XE;refine bO λNx L=>?_;refine⟨_,rfl,p,_,_,_,_,rfl,YE _ _ mD,T.bV,T.qe,rfl,_,rfl,g .kq,_,_,_,rfl,rfl,bP.of (X5.own.get .kq _ rfl),qm hg,_,rfl,g (.bW i),_,_,_,_,rfl,ad1,T.dj,T.gY,rfl,_,rfl,_,rfl,_,rfl,_,rfl,g (.book l.grp),g (.fq l.grp),g (.letter i),lo,lh,m.ts l.grp,l.s,l.to,l.kd,f,U.map λk:Nat=>(k:Int),_,_,rfl,X5.own.KL hg,abe ad2 lkd,bP.of abf,bP.of XE,?_,?_,λtq b1 b2 H6 t6 ahC ahD ahE al7 htq hb1 hb2=>L _ _ ?_⟩
  ·rw[ah]
   have:=aX (isAt rs f) os
   lia
  ·rw[ah]
   unfold oh
   have:=aX (Co m f l.grp) (aA m.aO.length)
   rw[bB] at this
   have:=Zi.AZ
   lia
  rw[hhi,<- jJ] at hb1;rw[hgi os] at hb2;have G:=G os;have k1:=k1 os;generalize J os=J at hb2 G k1;have t16:=YE.trans t6;have X6:=X1.mono t16;have nF:∀{b},H5 b=none->¬F b:=λ{b} e z=>by
   obtain⟨u,e'⟩:=X5.fC.there z;rw[e] at e';cases e'
  have nq:=nF ahC;have n1:=nF ahD;have n2:=nF ahE;have ad3:Step H1 F H6 F:=Step.refl' t16;refine bO λNx L=>?_;refine⟨_,rfl,tq,_,0,_,rfl,rfl,cP.of htq,rfl,b1,rfl,⟨_,bP.of hb1⟩,AF (K:=K) (a:=b1) (xs:=bR n) (λj σ H7=>∃(q7:TQ) (v9:Option V),mV K (nc t) H7 F g dx q7 p tp ns.length ((n.take j).foldl (kZ i f) m)/\Step H6 F H7 F/\σ=[some (.ref p),some (.int i),some (.int f),some (iE (U.map λk:Nat=>(k:Int))),some (.ref (g (.bW i))),some (.int l.grp),some (.ref lo),some (.ref lh),some (.ref tq),v9,none]) ⟨q,none,X6,Step.refl' (aG.refl _),rfl⟩ (λj σ H7 _ z=>?_) ?_ ?_⟩
  ·obtain⟨q7,v9,S,Ov,rfl⟩:=z
   exact bP.of (Ov.kp _ _ hb1 n1)
  ·rintro j y σ H7 Nf Gc hj ⟨q7,v9,S,Ov,rfl⟩
   have C:j<n.length:=by
    have:=(ai.mp hj).1
    rw[ah] at this;exact this
   rw[aj,aa C] at hj;cases hj;rw[J9 C] at Gc;have b7:Bd ns.length rs.length (D+1+1*(n.take j).length) ((n.take j).foldl (kZ i f) m):=AS (λ_=>True) _ _ _ (λs x D _ _ b=>⟨trivial,LI b⟩) trivial Zi;have f7:Fr m ((n.take j).foldl (kZ i f) m):=yl (λ_ _=>Gs) _ _;have hjt:(n.take j).length<=20:=by
    rw[bQ]
    have:=M.2
    have:=Zi.AZ
    lia
   obtain⟨l7,S1,_⟩:=f7.lt i _ EA;have v:n[j]<((n.take j).foldl (kZ i f) m).had.length:=by
    rw[b7.hl,f7.aO];exact M.1 _ (aQ C)
   generalize (n.take j).foldl (kZ i f) m=A at S b7 S1 v Gc;show iz 9 (V.int ((n[j]:Nat):Int)) _ _ _;generalize n[j]=c at v Gc;have Zj:=S.own.get .fC _ rfl;rw[S.hp] at Zj;have hhc:=S.own.get (.handed c) (.lst (bR A.had[c])) (by show (A.had[c]?.map _)=_;rw[aa v];rfl);have hwl:=b7.hb _ (aQ v);have hdl:=(b7.lb l7 (aM S1)).1;refine⟨_,rfl,p,_,_,_,_,rfl,Zj,T.bV,T.C6,rfl,_,rfl,g .mU,_,_,_,rfl,rfl,bP.of (S.own.get .mU _ rfl),qm v,.inl ⟨rfl,_,bP.of hhc⟩,_,rfl,g (.handed c),_,_,rfl,rfl,hhc,mj (by rw[ah];lia),?_⟩;obtain⟨X8,Sx⟩:=UI S v (A.had[c]++[i]);rw[jI] at X8 Sx;generalize upd H7 (g (.handed c)) (.lst (bR A.had[c]++[V.int i]))=H8 at X8 Sx;have es:{A with had:=A.had.set c (A.had[c]++[i])}=tY A i c:=by
    unfold tY;rw[az,aa v];rfl
   rw[es] at X8;have W:(tY A i c).ls[i]?=some l7:=S1;have ahF:=X8.own.get (.bW i) (mW (nc t) dx g i l7) (by show ((tY A i c).ls[i]?.map _)=_;rw[W];rfl);have ad4:=X8.own.get (.aD i) (.lst ((q7.dq i).map V.ref)) (by show ((tY A i c).ls[i]?.map _)=_;rw[W];rfl);have Py:=(X8.tup.aD i _ W).len;rw[ah] at Py;refine⟨_,rfl,g (.bW i),_,_,_,_,rfl,ahF,T.dj,T.iK,rfl,.inl ⟨rfl,_,bP.of ad4⟩,_,rfl,_,rfl,g9,λz1 hz1=>?_⟩;have u1:=aG.new (o:=.tup [V.str "hand",V.int f,V.int c]) hz1;refine⟨g (.aD i),_,_,rfl,rfl,u1 _ _ ad4,mj (by rw[ah,Py];lia),?_⟩;obtain⟨X9,YM⟩:=CL (X8.mono u1) W (d:=.hand f c) (cP.of au);rw[<- fL W] at X9;exact Gc _ _ ⟨_,_,X9,(Ov.trans Sx).trans ((Step.refl' (F:=F) u1).trans YM),rfl⟩
  ·rintro σ H7 ⟨q7,v9,S,Ov,rfl⟩
   refine L _ _ ?_;rw[ah,iX] at S;have b7:Bd ns.length rs.length (D+1+1*n.length) (n.foldl (kZ i f) m):=AS (λ_=>True) _ _ _ (λs x D _ _ b=>⟨trivial,LI b⟩) trivial Zi;have f7:Fr m (n.foldl (kZ i f) m):=yl (λ_ _=>Gs) _ _;have hjt:n.length<=20:=by
    have:=M.2
    have:=Zi.AZ
    lia
   have N7:=N1.done (ad3.trans Ov) S.fC;obtain⟨l7,S1,_⟩:=f7.lt i _ EA;have ad5:=f7.ok Sw;have V6:eU (kJ ns rs o (n.foldl (kZ i f) m).ws l.grp) ((n.foldl (kZ i f) m).R l.grp) os:=by rw[f7.ws,f7.R];exact hO
   generalize n.foldl (kZ i f) m=A at S b7 S1 N7 k1 ad5 V6;refine⟨_,rfl,tq,_,1,_,rfl,rfl,cP.of (Ov.kp _ _ htq nq),rfl,b2,rfl,⟨_,bP.of (Ov.kp _ _ hb2 n2)⟩,AF (K:=K) (a:=b2) (xs:=bR J) (λj σ H8=>∃(F8:Addr->Prop) (v10:Option V),NW K (nc t) t.bD H8 F8 p tp ln lr ns rs ((J.take j).foldl (tZ rs i f) A)/\Step H6 F H8 F8/\σ=[some (.ref p),some (.int i),some (.int f),some (iE (U.map λk:Nat=>(k:Int))),some (.ref (g (.bW i))),some (.int l.grp),some (.ref lo),some (.ref lh),some (.ref tq),v9,v10]) ⟨F,none,N7,Ov,rfl⟩ (λj σ H8 _ z=>?_) ?_ ?_⟩
   ·obtain⟨F8,v10,N8,Sx,rfl⟩:=z
    exact bP.of (Sx.kp _ _ hb2 n2)
   ·rintro j y σ H8 Nf Gc hj ⟨F8,v10,N8,Sx,rfl⟩
    have C:j<J.length:=by
     have:=(ai.mp hj).1
     rw[ah] at this;exact this
    rw[aj,aa C] at hj;cases hj;rw[J9 C] at Gc;have hgl:∀r∈J,r<rs.length:=λr Y=>(Ez V6 (G.1 r Y)).1;have f8:Fr A ((J.take j).foldl (tZ rs i f) A):=yl (λ_ _=>Gu) _ _;have b8:Bd ns.length rs.length (D+1+1*n.length+2*(J.take j).length) ((J.take j).foldl (tZ rs i f) A):=AS (λs=>i<s.ls.length) _ _ _ (λs x D hx hi b=>⟨by
     obtain⟨l',e,_⟩:=(Gu (rs:=rs) (h:=f) (i:=i) (r:=x) (s:=s)).lt i _ (aa hi);exact (ai.mp e).1,Q0 o b hi (hgl x (List.mem_of_mem_take hx))⟩) (ai.mp S1).1 b7
    have al9:(J.take j).length<=12:=by
     rw[bQ]
     have:=G.2
     lia
    obtain⟨hrl,I,hw,hwn⟩:=Ez V6 (G.1 _ (aQ C));rw[<- f8.ws] at hw;obtain⟨Z,W,_⟩:=f8.lt i _ S1;have ad6:=f8.ok ad5;generalize (J.take j).foldl (tZ rs i f) A=s8 at N8 b8 W hw ad6 Gc;show iz 10 (V.int ((J[j]:Nat):Int)) _ _ _;generalize J[j]=r at hrl hw Gc;obtain⟨ama,dx8,q8,r4,O8,hF8,hT8⟩:=id N8.fC;have Zk:=O8.get .fC _ rfl;rw[r4] at Zk;have hdl:=(b8.lb Z (aM W)).1;have v:=b8.cb;have hwl:gX Z%I.length<I.length:=Nat.mod_lt _ (List.length_pos_iff.mpr hwn);have hwx:I[(((gX Z:Nat):Int)%(I.length:Int)).toNat]?=some I[gX Z%I.length]:=by
     rw[show (((gX Z:Nat):Int)%(I.length:Int))=((gX Z%I.length:Nat):Int) from rfl,cy];exact aa hwl
    have hre:=aa hrl;refine⟨_,rfl,p,_,_,rfl,Zk,rfl,_,rfl,_,rfl,_,rfl,F8,p,tp,ln,lr,ns,rs,s8,i,f,r,Z,rs[r],I,_,rfl,N8,o,ad6,W,∅,∅,hre,hw,hwx,hwn,λF9 H9 N9 YM=>?_⟩;refine Gc _ _ ⟨F9,_,?_,Sx.trans YM,rfl⟩;have e1:gW s8.ws r (Sv s8 i)=I[gX Z%I.length]:=by
     unfold gW Sv;rw[hw,W];show I.getD (gX Z%I.length) 0=_;rw[az,aa hwl];rfl
    have e2:eN rs r f=fR rs[r] f:=by
     unfold eN;rw[hre]
    unfold tZ;rw[e1,e2];exact N9
   ·rintro σ H8 ⟨F8,v10,N8,Sx,rfl⟩
    rw[ah,iX] at N8;exact k1 F8 H8 hO h12 N8 (ad3.trans Sx)
theorem abg{a b:TS}{D:Ends}{c:L2.St}{H:Hp}(J:L2.St->Hp->Prop)(d:∀c H,J c H->b D c H)(h:∀N:L2.St->Hp->Prop,(∀c H,J c H->N c H)->a {D with nx:=N} c H):Rn a b D c H:=h _ d
inductive Q4(C:Addr)(vs:List V)(H:Hp)(Q:VK)(E:XK):Prop
 |mk (p dx la:Addr) (g:Int):vs=[.ref p,.ref la,.int g]->H p=some (.ins C dx [])->(∀da ea H',H da=none->H ea=none->da≠ea->H' p=some (.ins C dx [("letter",.ref la),("group",.int g),("old",.bl false),("done_at",.ref da),("deeds",.ref ea)])->H' da=some (.dK [])->H' ea=some (.lst [])->(∀b o,H b=some o->b≠p->H' b=some o)->Q .fH H')->Q4 C vs H Q E
theorem EB{t:Ad}(T:Txt K mg t):cz P w K mg base iM 1 t.i7 t.lD ["self","letter","group"]  (Q4 t.jd):=by
 refine T.yr.F.kh DZ λH Q E s h=>?_
 ·obtain⟨p,j,u,g,rfl,r,k⟩:=h
  refine⟨_,(aq (fZ (pv 0) (pv 1) rfl) (aq (fZ (pv 0) (pv 2) rfl) (aq (fZ (pv 0) PM rfl) (aq (fZ (pv 0) T6 rfl) (bI (fZ (pv 0) (jq iP) rfl)))))),?_⟩
  left
  refine⟨_,rfl,_,rfl,p,_,j,_,rfl,r,T.dj,T.gY,(!_),?_⟩;rw[dG (names:=[]) rfl rfl];refine⟨_,rfl,_,rfl,p,_,j,_,rfl,au,T.dj,T.jT,(by show 1<1000;decide),?_⟩;rw[dG (names:=["letter"]) rfl (by decide +kernel),Kd];refine⟨_,rfl,p,_,j,_,rfl,au,T.dj,T.xN,(by show 2<1000;decide),?_⟩;rw[dG (names:=["letter","group"]) rfl (by decide +kernel),Kd];intro i a;have f:H i=none:=by
   by_cases z:i=p
   ·subst z;rw[au] at a;cases a
   ·rw[aH z] at a;exact a
  have n:p≠i:=aE r f;refine⟨_,rfl,p,_,j,_,rfl,(by rw[aH n];exact au),T.dj,T.oF,(by show 3<1000;decide),?_⟩;rw[dG (names:=["letter","group","old"]) rfl (by decide +kernel)];refine⟨bM _,λm c=>?_⟩;have l:m≠p:=λz=>by subst z;rw[au] at c;cases c
  rw[aH l] at c;have d:i≠m:=λz=>by subst z;rw[au] at c;cases c
  rw[aH (bK d),aH l] at c;refine⟨_,rfl,p,_,j,_,rfl,(by rw[aH (bK l)];exact au),T.dj,T.iK,(by show 4<1000;decide),?_⟩;rw[dG (names:=["letter","group","old","done_at"]) rfl (by decide +kernel)];refine k i m _ f c d au ?_ ?_ λb o e q=>?_
  ·rw[aH (bK n),aH d,aH (bK n)];exact au
  ·rw[aH l];exact au
  ·rw[aH q,aH (aE e c),aH q,aH (aE e f),aH q];exact e
noncomputable def cE(s:NS)(x:Nat)(to:Option Nat):LS:={s:=x,to:=to.getD 0,kd:=if to.isSome=true then 1 else 2,grp:=s.groups.getD x 0,old:=false,done:=[],aD:=[]}
noncomputable def Ka(s:NS)(l:LS):NS:={s with ls:=s.ls++[l]}
noncomputable def gj(s:NS)(x:Nat)(to:Option Nat):NS:={s with ls:=s.ls++[{cE s x to with aD:=[.post (s.aO.getD x 0)]}]}
noncomputable def c5(rs:List R5)(s:NS)(x:Nat)(to:Option Nat)(os:List Nat):NS:=Nm rs (gj s x to) s.ls.length (s.aO.getD x 0) {cE s x to with aD:=[.post (s.aO.getD x 0)]} none os
theorem Sz{s:NS}{x:Nat}{to:Option Nat}:oY (Ka s (cE s x to)) s.ls.length (.post (s.aO.getD x 0))=gj s x to:=by
 rw[fL (l:=cE s x to) (by show (s.ls++[_])[s.ls.length]?=_;rw[cu (ay _),iY];rfl)];show {s with ls:=(s.ls++[_]).set s.ls.length _}={s with ls:=_};congr 1;rw[vK _ _ (ay _),iY];rfl
theorem iB{s:NS}{l:LS}:(s.ls++[l])[s.ls.length]?=some l:=by rw[cu (ay _),iY];rfl
theorem Q5{n m D:Nat}{s:NS}{x:Nat}{to:Option Nat}(b:Bd n m D s)(f:x<s.aO.length):Bd n m (D+1) (gj s x to):=by
 have a:=b.mono (cV D);refine⟨a.gl,a.AZ,a.g3,a.hm,a.hl,a.hb,?_,λl z=>?_,a.cb,λc z=>?_,a.tb⟩
 ·show (s.ls++[_]).length<=_
  rw[av];exact Nat.add_le_add_right b.ll 1
 ·rcases br.mp z with y|y
  ·exact a.lb l y
  ·rw[bq] at y
   subst y;refine⟨?_,bM _,?_,?_⟩
   ·show 1+s.cps.length<=D+1
    have:=b.cb
    lia
   ·show s.groups.getD x 0<3
    have d:x<s.groups.length:=by rw[b.gl];exact f
    rw[az,aa d];exact b.g3 _ (aQ d)
   ·show (if _ then (1:Int) else 2)=1∨(if _ then (1:Int) else 2)=2
    split
    ·exact .inl rfl
    ·exact .inr rfl
 ·obtain⟨e,g⟩:=b.cl c z
  refine⟨?_,g⟩;show c.l<(s.ls++[_]).length;rw[av];exact bH e (wJ _ _)
inductive Q6(K:af)(CT:Addr)(c:NC)(vs:List V)(H:Hp)(Q:VK)(E:XK):Prop
 |mk (F:Addr->Prop) (p tp ln lr:Addr) (ns:List Int) (rs:List R5) (s:NS) (o:cX ns rs) (x:Nat) (to:Option Nat) (D:Nat):vs=[.ref p,.int x,iE (to.map λy:Nat=>(y:Int))]->NW K c CT H F p tp ln lr ns rs s->CK ns rs s->Bd ns.length rs.length D s->D<=800000->x<s.aO.length->(∀y,to=some y->y<s.aO.length/\s.groups[y]?=s.groups[x]?)->(∀os F' H',eU (kJ ns rs o s.ws (s.groups.getD x 0)) (s.R (s.groups.getD x 0)) os->os.length<=12->NW K c CT H' F' p tp ln lr ns rs (c5 rs s x to os)->Step H F H' F'->Q (.int s.ls.length) H')->Q6 K CT c vs H Q E
theorem Nq{t:Ad}(T:Txt K mg t):cz P w K mg base iM 8 t.iV t.xF ["self","sender","to"]  (Q6 K t.bD (nc t)):=by
 refine T.sX.kh uo λH Q E Y h=>?_
 ·obtain⟨F,p,tp,ln,lr,ns,rs,st,o,x,f,D,rfl,N,Ex,bd,hD,U,hto,k⟩:=h
  refine⟨_,(aq (fE (cM (pv 0) T.bV T.wm (Dt T) Y (nZ (pv 1) (pv 2)))) (aq (sS 3 uo (yO (qT Ob (pv 2) iO) (PY T.Xh (wC T) (Y.mono (!_)) rfl T.Xg T.qB.B .nil mK (gV (pv 1))) (cI T.zK (Ga T) Y T.Xf (nZ (pv 1) (pv 2))))) (aq (sS 4 uo (lS T.iN (aY (pv 0) rfl))) (aq (fE (pS be bh bg eE (aY (pv 0) rfl) (gV (cI T.yr (EB T) Y T.U5 (nZ (pv 3) (xL (aY (pv 0) rfl) (pv 1))))))) (aq (sS 5 uo (xL (aY (pv 0) rfl) (pv 1))) (aq (fE (pS be bh bg eE (aY (xL (aY (pv 0) rfl) (pv 4)) rfl) (gV (dU (nZ gG (pv 5)))))) (aq (fE (cM (pv 0) T.bV T.qC (wG T) Y (Ir (pv 4) (pv 5) iO))) (oR (pv 4))))))))),?_⟩
  left
  obtain⟨m,dx,q,hp,O,hF,hT⟩:=id N.fC;have cC:=O.get .fC _ rfl;rw[hp] at cC;have W:x<st.groups.length:=by rw[bd.gl];exact U
  refine bO λZ n=>?_;refine⟨_,rfl,p,_,_,rfl,cC,rfl,_,rfl,_,rfl,F,p,tp,ns.length,x,f,st,rfl,N.fC,U,bd.gl,hto,n _ _ ?_⟩;refine abg (λσ r=>∃la KP,aG H r/\H la=none/\r la=some (rD (nc t) KP (cE st x f))/\σ=[some (.ref p),some (.int x),some (iE (f.map λy:Nat=>(y:Int))),some (.ref la),none,none]) ?_ (λN hN=>?_)
  rotate_left
  ·cases f with
   |none =>
    refine⟨_,rfl,rfl,_,rfl,gC ?_⟩;refine⟨_,rfl,λz dz R J G=>⟨z,_,dz,x,rfl,au,T.xM,T.nK,rfl,?_⟩⟩;exact hN _ _ ⟨z,dz,made R J G,R,au,rfl⟩
   |some y =>
    refine⟨_,rfl,rfl,_,rfl,eZ ?_⟩;refine⟨_,rfl,_,rfl,λz dz R J G=>⟨z,dz,x,y,rfl,au,λH3 hy3 kp=>⟨rfl,?_⟩⟩⟩;exact hN _ _ ⟨z,dz,λb u e=>kp b u (((aG.new J).trans (aG.new (by rw[aH (bK G)];exact R))) b u e) (aE e R),R,hy3,rfl⟩
  rintro σ r ⟨la,KP,s,abi,hla,rfl⟩;have mD:=s _ _ cC;have N1:=N.mono s;obtain⟨O1,T1⟩:=And.intro (O.mono s) (hT.mono λb x=>s.dB (a:=b) (xs:=x));have XF:=O1.get .cT _ rfl;refine bO λZ n=>?_;refine⟨_,rfl,p,_,_,_,_,rfl,mD,T.bV,T.eX,rfl,m .cT,_,rfl,.inl (bP.of XF),?_⟩;rw[ah,bB];refine n _ _ ?_;refine bO λZ n=>?_;refine⟨_,rfl,p,_,_,_,_,rfl,mD,T.bV,T.eX,rfl,.inl ⟨rfl,_,bP.of XF⟩,_,rfl,_,rfl,p,_,_,_,_,rfl,mD,T.bV,T.nN,rfl,_,rfl,m .groups,_,_,_,rfl,rfl,bP.of (O1.get .groups _ rfl),sC W,λpa DB c XG XH=>⟨pa,DB,la,_,rfl,au,λda ea H2 M Sy nde h2p h2d h2e LP=>⟨rfl,?_⟩⟩⟩;have j:aG r H2:=λb u e=>LP b u (((aG.new XG).trans (aG.new (by rw[aH (bK XH)];exact c))) b u e) (aE e c);have A:r da=none:=by
   cases e:r da with
   |none=>rfl
   |some u =>
    have:=((aG.new (o:=.own pa) XG).trans (aG.new (o:=.ins t.jd DB []) (by rw[aH (bK XH)];exact c))) _ _ e
    rw[M] at this;cases this
  have C:r ea=none:=by
   cases e:r ea with
   |none=>rfl
   |some u =>
    have:=((aG.new (o:=.own pa) XG).trans (aG.new (o:=.ins t.jd DB []) (by rw[aH (bK XH)];exact c))) _ _ e
    rw[Sy] at this;cases this
  have nF:∀{b},r b=none->¬F b:=λ{b} e z=>by
   obtain⟨u,e'⟩:=N1.fC.there z;rw[e] at e';cases e'
  have nFl:¬F la:=λz=>by
   obtain⟨u,e'⟩:=N.fC.there z;rw[abi] at e';cases e'
  have npd:pa≠da:=λz=>by rw[<- z,au] at M;cases M
  have npe:pa≠ea:=λz=>by rw[<- z,au] at Sy;cases Sy
  have Y6:∀{b},r b=none->la≠b:=λ{b} e=>aE hla e;have eg:st.groups.getD x 0=st.groups[x]:=by rw[az,aa W];rfl
  have ad7:=j _ _ XF;refine⟨m .cT,_,_,rfl,rfl,ad7,mj (by rw[ah,bB];have:=bd.ll;lia),?_⟩;obtain⟨F3,N3,kp3,fr3⟩:=UJ (l:=cE st x f) (DB:=DB) (KP:=KP) (pa:=pa) (la:=la) (da:=da) (ea:=ea) hp (O1.mono j) hF (T1.mono λb x=>j.dB (a:=b) (xs:=x)) rfl (by show _=some (HO.ins _ _ [_,(_,V.int ((st.groups.getD x 0:Nat):Int)),_,_,_]);rw[eg];exact h2p) (j _ _ hla) h2d h2e (bK (Y6 c)) npd npe (Y6 A) (Y6 C) nde (nF c) nFl (nF A) (nF C);have L:Step H F _ F3:=⟨λb u e z=>kp3 b u (j _ _ (s _ _ e)) z,λb z=>by
   rcases fr3 b z with y|rfl|rfl|rfl|rfl
   ·exact .inl y
   ·exact .inr (s.free c)
   ·exact .inr abi
   ·exact .inr (s.free A)
   ·exact .inr (s.free C)⟩
  have W3:=N.done L N3;generalize upd H2 (m .cT) (.lst (((aA st.ls.length).map λi=>V.ref (m (.bW i)))++[.ref pa]))=H3 at L W3 N3;refine n _ _ ?_;obtain⟨I,dx3,q3,hp3,S,hF3,hT3⟩:=id W3.fC;have X3:mV K (nc t) H3 F3 I dx3 q3 p tp ns.length (Ka st (cE st x f)):=⟨hp3,S,hF3,hT3⟩;have Dv:=S.get .fC _ rfl;rw[hp3] at Dv;have g:(Ka st (cE st x f)).ls[st.ls.length]?=some (cE st x f):=iB;have XI:st.ls.length<(Ka st (cE st x f)).ls.length:=(ai.mp g).1;have eh:st.aO.getD x 0=st.aO[x]:=by rw[az,aa U];rfl
  refine bO λZ n=>?_;refine⟨_,rfl,p,_,_,_,_,rfl,Dv,T.bV,T.qg,rfl,_,rfl,I .aO,_,_,_,rfl,rfl,bP.of (S.get .aO _ rfl),sC U,n _ _ ?_⟩;have Vz:=S.get (.bW st.ls.length) (mW (nc t) dx3 I st.ls.length (cE st x f)) (by show ((Ka st (cE st x f)).ls[st.ls.length]?.map _)=_;rw[g];rfl);have X:=S.get (.aD st.ls.length) (.lst ((q3.dq st.ls.length).map V.ref)) (by show ((Ka st (cE st x f)).ls[st.ls.length]?.map _)=_;rw[g];rfl);have Py:=(X3.tup.aD _ _ g).len;rw[ah] at Py;refine bO λZ n=>?_;refine⟨_,rfl,p,_,_,_,_,rfl,Dv,T.bV,T.eX,rfl,_,rfl,I .cT,_,_,_,rfl,rfl,bP.of (S.get .cT _ rfl),qm XI,I (.bW st.ls.length),_,_,_,_,rfl,Vz,T.dj,T.iK,rfl,.inl ⟨rfl,_,bP.of X⟩,_,rfl,g7,λz1 hz1=>?_⟩;have u1:=aG.new (o:=.tup [V.str "post",V.int (st.aO[x]:Nat)]) hz1;refine⟨I (.aD st.ls.length),_,_,rfl,rfl,u1 _ _ X,mj (by rw[ah,Py];exact bM _),?_⟩;obtain⟨X4,L8⟩:=CL (X3.mono u1) g (d:=.post st.aO[x]) (cP.of au);rw[<- fL g,<- eh,Sz] at X4;rw[<- eh] at L8 u1;rw[<- eh];have v:=L.trans ((Step.refl' (F:=F3) u1).trans L8);have W4:=N.done v X4.fC;generalize upd (upd H3 z1 (.tup [V.str "post",V.int (st.aO.getD x 0:Nat)])) (I (.aD st.ls.length)) (.lst ((q3.dq st.ls.length).map V.ref++[.ref z1]))=H4 at X4 v W4;refine n _ _ ?_;have FE:=X4.own.get .fC _ rfl;rw[X4.hp] at FE;have abk:CK ns rs (gj st x f):=⟨Ex.wl,Ex.w4,Ex.fit⟩;refine bO λZ n=>?_;refine⟨_,rfl,p,_,_,rfl,FE,rfl,_,rfl,_,rfl,F3,p,tp,ln,lr,ns,rs,gj st x f,o,st.ls.length,st.aO.getD x 0,none,{cE st x f with aD:=[.post (st.aO.getD x 0)]},D+1,rfl,W4,abk,Q5 bd U,∅,iB,λos F5 H5 hO h12 W5 NK=>?_⟩;exact n _ _ ⟨_,rfl,k os F5 H5 hO h12 W5 (v.trans NK)⟩
theorem Zl{ns:List Int}{rs:List R5}(o:cX ns rs){D:Nat}{s:NS}{i h:Nat}{l:LS}{aU:Option Nat}{os:List Nat}(b:Bd ns.length rs.length D s)(hl:s.ls[i]?=some l)(O:eU (kJ ns rs o s.ws l.grp) (s.R l.grp) os)(q:os.length<=12):Bd ns.length rs.length (D+45) (Nm rs s i h l aU os):=by
 have n:=QZ (h:=h) b hl;have f1:=LH (h:=h) hl;have g:Bd ns.length rs.length (D+1+1*(iA s l h).length) ((iA s l h).foldl (kZ i h) (eO s i h l)):=AS (λ_=>True) _ _ _ (λs x D _ _ b=>⟨trivial,LI b⟩) trivial n;have p:Fr (eO s i h l) ((iA s l h).foldl (kZ i h) (eO s i h l)):=yl (λ_ _=>Gs) _ _;obtain⟨w,a,_⟩:=(f1.trans p).lt i l hl;have t:=(Np (s:=s) (l:=l) (h:=h)).2;have u:=b.AZ;have d:=Q3 (rs:=rs) (s:=s) (l:=l) (h:=h) (aU:=aU) (os:=os);have y:=d.2;have m:=AS (k:=2) (f:=tZ rs i h) (λs=>i<s.ls.length) (Aw rs s l h aU os) _ _ (λs x D j c b=>⟨by
  obtain⟨v,e,_⟩:=(Gu (rs:=rs) (h:=h) (i:=i) (r:=x) (s:=s)).lt i _ (aa c);exact (ai.mp e).1,Q0 o b c (Ez O (d.1 x j)).1⟩) (ai.mp a).1 g
 exact m.mono ∅
noncomputable def uF(l:LS)(cp:Cp)(os:List Nat):Str:=if cp.r∈os then (if Av l cp.h=true then "twice" else "come") else "lost"
noncomputable def fU(l:LS)(cp:Cp)(os:List Nat):dN:=if cp.r∈os then (if Av l cp.h=true then .twice cp.h cp.r else .Iz cp.h cp.r) else .WW cp.h cp.r
theorem XJ{l:LS}{cp:Cp}{os:List Nat}:(fU l cp os).vs=[.str (uF l cp os),.int cp.h,.int cp.r]:=by
 unfold fU uF;split
 ·split <;> rfl
 ·rfl
noncomputable def comes(l:LS)(cp:Cp)(os:List Nat):Bool:=decide (cp.r∈os)&&!Av l cp.h
theorem SA{l:LS}{cp:Cp}{os:List Nat}:decide (V.str (uF l cp os)=V.str "come")=comes l cp os:=by
 unfold uF comes;by_cases e:cp.r∈os
 ·rw[ee e,e8 e]
  cases Av l cp.h
  ·rw[er (!_)];decide +kernel
  ·rw[ee rfl];decide +kernel
 ·rw[er e,fy e,Bool.false_and];decide +kernel
noncomputable def Nr(s:NS)(a:Nat):NS:={s with cps:=s.cps.eraseIdx a}
noncomputable def Q7(s:NS)(g:Nat)(ts:List T3):NS:={s with ts:=fD s.ts g ts}
noncomputable def j8(s:NS)(a:Nat)(cp:Cp)(l:LS)(os:List Nat):NS:={s with cps:=s.cps.eraseIdx a,ls:=s.ls.set cp.l {l with aD:=l.aD++[fU l cp os]}}
noncomputable def bA(s:NS)(a:Nat)(cp:Cp)(l:LS)(os:List Nat)(ts:List T3):NS:=if l.old=true then j8 s a cp l os else Q7 (j8 s a cp l os) l.grp ts
noncomputable def gk(rs:List R5)(s:NS)(a:Nat)(cp:Cp)(l:LS)(os:List Nat)(ts:List T3):NS :=
 if comes l cp os=true then Nm rs (bA s a cp l os ts) cp.l cp.h {l with aD:=l.aD++[fU l cp os]} (some cp.r) os else j8 s a cp l os
theorem ED{n m D:Nat}{s:NS}{a:Nat}{cp:Cp}{l:LS}{os:List Nat}(b:Bd n m D s)(hl:s.ls[cp.l]?=some l)(d:a<s.cps.length):Bd n m (D+1) (j8 s a cp l os):=by
 have e:(s.cps.eraseIdx a).length+1=s.cps.length:=by
  rw[List.length_eraseIdx,ee d];lia
 refine b.set 1 hl ∅ (.inl ∅) (ay _) ?_ (cV _) rfl rfl (λc z=>.inl (List.mem_of_mem_eraseIdx z)) rfl (λw z=>Nat.le_succ_of_le (b.hb w z));show (l.aD++[_]).length+_<=_;rw[av];show l.aD.length+1+_<=_;lia
theorem VA{ts ts':List T3}{h c r:Int}(p:ts'.Perm (put3 ts h c r)):ts'.length<=ts.length+1:=by
 rw[p.length_eq];unfold put3;rw[av];exact Nat.add_le_add_right (aX _ _) 1
theorem XM{n m D:Nat}{s:NS}{g:Nat}{ts:List T3}{h c r:Int}(b:Bd n m D s)(p:ts.Perm (put3 (s.ts g) h c r))(e:bX ts):Bd n m (D+50) (Q7 s g ts):=by
 have a:=b.mono (wJ D 50);refine⟨a.gl,a.AZ,a.g3,a.hm,a.hl,a.hb,a.ll,a.lb,a.cb,a.cl,λd=>?_⟩;show 50*(fD s.ts g ts d).length<=_/\bX (fD s.ts g ts d);by_cases z:d=g
 ·subst z
  rw[bS];refine⟨?_,e⟩
  have:=VA p
  have:=(b.tb d).1
  lia
 ·rw[cZ z]
  exact a.tb d
theorem EE{s:NS}{a:Nat}{cp:Cp}{l:LS}{os:List Nat}(hl:s.ls[cp.l]?=some l):(j8 s a cp l os).ls[cp.l]?=some {l with aD:=l.aD++[fU l cp os]}:=by
 show (s.ls.set cp.l _)[cp.l]?=_;rw[gu (ai.mp hl).1,ee rfl]
theorem jf{s:NS}{a:Nat}{cp:Cp}{l:LS}{os:List Nat}{ts:List T3}(hl:s.ls[cp.l]?=some l):(bA s a cp l os ts).ls[cp.l]?=some {l with aD:=l.aD++[fU l cp os]}:=by
 unfold bA;split
 ·exact EE hl
 ·exact EE (a:=a) hl
theorem t8{s:NS}{a:Nat}{cp:Cp}{l:LS}{os:List Nat}{ts:List T3}:(bA s a cp l os ts).ws=s.ws/\(bA s a cp l os ts).R=s.R/\(bA s a cp l os ts).aO=s.aO/\(bA s a cp l os ts).groups=s.groups:=by
 unfold bA;split <;> exact⟨rfl,rfl,rfl,rfl⟩
theorem Nt{n m D:Nat}{s:NS}{a:Nat}{cp:Cp}{l:LS}{os:List Nat}{ts:List T3}{h c r:Int}(b:Bd n m D s)(hl:s.ls[cp.l]?=some l)(d:a<s.cps.length)(p:ts.Perm (put3 (s.ts l.grp) h c r))(e:bX ts):Bd n m (D+51) (bA s a cp l os ts):=by
 unfold bA;split
 ·exact (ED b hl d).mono ∅
 ·exact (XM (h:=h) (c:=c) (r:=r) (ED b hl d) p e).mono ∅
theorem XN{ns:List Int}{rs:List R5}(o:cX ns rs){D:Nat}{s:NS}{a:Nat}{cp:Cp}{l:LS}{os:List Nat}{ts:List T3}{h c r:Int}(b:Bd ns.length rs.length D s)(hl:s.ls[cp.l]?=some l)(f:a<s.cps.length)(O:eU (kJ ns rs o s.ws l.grp) (s.R l.grp) os)(d:os.length<=12)(p:ts.Perm (put3 (s.ts l.grp) h c r))(g:bX ts):Bd ns.length rs.length (D+100) (gk rs s a cp l os ts):=by
 unfold gk;split
 ·have e:=t8 (s:=s) (a:=a) (cp:=cp) (l:=l) (os:=os) (ts:=ts)
  exact (Zl o (Nt (h:=h) (c:=c) (r:=r) b hl f p g) (jf hl) (by rw[e.1,e.2.1];exact O) d).mono ∅
 ·exact (ED b hl f).mono ∅
theorem _root_.TW.dF.erase{H:Hp}{qs:List Addr}{xs:List (List V)}(h:dF K H qs xs)(a:Nat):dF K H (qs.eraseIdx a) (xs.eraseIdx a):=by
 refine⟨by rw[List.length_eraseIdx,List.length_eraseIdx,h.len],λi q x c b=>?_⟩;rw[List.getElem?_eraseIdx] at c b;by_cases z:i<a
 ·rw[ee z] at c b
  exact h.at' i q x c b
 ·rw[er z] at c b
  exact h.at' (i+1) q x c b
theorem EF{α β:Type}(f:α->β):∀(xs:List α) (a:Nat),(xs.map f).eraseIdx a=(xs.eraseIdx a).map f
 |[],_=>rfl
 |_::_,0=>rfl
 |x::xs,a+1=>gU (f x::·) (EF f xs a)
theorem VB{c:NC}{H d:Hp}{F:Addr->Prop}{a j:Role->Addr}{q:TQ}{p h:Addr}{n g:Nat}{s:NS}(X:mV K c H F a j q p h n s)(f:g<3)(ts:List T3)(w:d (a (.fq g))=some (.dT (ts.map fk)))(y:∀b o,H b=some o->b≠a (.fq g)->d b=some o) :
 mV K c d F a j q p h n (Q7 s g ts)/\Step H F d F:=by
 obtain⟨v,i⟩:=AH X (r:=.fq g) (o:=.dT (ts.map fk)) (q':=q) (s':=Q7 s g ts) (by show (if g<3 then some _ else none)≠none;rw[ee f];exact aS _) (λx=>by
  cases x <;> first|rfl|skip
  rename_i k;show jr (desc c j h a q s) (.fq g) _ (.fq k)=(if k<3 then some (HO.dT ((fD s.ts g ts k).map fk)) else none);by_cases z:k=g
  ·subst z
   rw[eF,ee f,bS]
  ·rw[dM (λe=>z (by cases e;rfl)),cZ z]
   rfl) (λm=>⟨λg f=>(X.tup.rows g f).mono m,λk l e=>(X.tup.aD k l e).mono m,X.tup.cps.mono m⟩)
 have t:aG (upd H (a (.fq g)) (.dT (ts.map fk))) d:=λb u e=>by
  by_cases z:b=a (.fq g)
  ·rw[z,au] at e
   cases e;rw[z];exact w
  ·rw[aH z] at e
   exact y b u e z
 exact⟨v.mono t,i.trans (Step.refl' t)⟩
theorem XO{t:Ad}(T:Txt K mg t){b a:Role->Addr}{h:L2.St}{H:Hp}{Q:VK}{i:Nat}{l:LS}(f:∀Q:VK,Q (.ref (a (.bW i))) H->Kg 6 h H Q)(g:H (a (.bW i))=some (mW (nc t) b a i l))(c:H (a (.letter i))=some (rD (nc t) (b (.letter i)) l))(q:Q (.int l.s) H) :
 GA K (GA K (Kg 6) (Str.ofString "letter")) (Str.ofString "sender") h H Q:=by
 by_cases e:l.kd=1
 ·have d:H (a (.letter i))=some (.ins t.fY (b (.letter i)) [("sender",.int l.s),("to",.int l.to)]):=by rw[c];unfold rD;rw[ee e]
  unfold GA;exact (f _ ⟨a (.bW i),_,_,_,_,rfl,g,T.dj,T.gY,rfl,a (.letter i),_,b (.letter i),_,_,rfl,d,T.pL,T.sY,rfl,q⟩)
 ·have d:H (a (.letter i))=some (.ins t.iW (b (.letter i)) [("sender",.int l.s)]):=by rw[c];unfold rD;rw[er e]
  unfold GA;exact (f _ ⟨a (.bW i),_,_,_,_,rfl,g,T.dj,T.gY,rfl,a (.letter i),_,b (.letter i),_,_,rfl,d,T.xM,T.nK,rfl,q⟩)
inductive Q8(K:af)(CT:Addr)(c:NC)(vs:List V)(H:Hp)(Q:VK)(E:XK):Prop
 |mk (F:Addr->Prop) (p tp ln lr:Addr) (ns:List Int) (rs:List R5) (s:NS) (o:cX ns rs) (a D:Nat) (cp:Cp) (l:LS):vs=[.ref p,.int a]->NW K c CT H F p tp ln lr ns rs s->CK ns rs s->Bd ns.length rs.length D s->D<=400000->s.cps[a]?=some cp->s.ls[cp.l]?=some l->(∀os ts F' H',eU (kJ ns rs o s.ws l.grp) (s.R l.grp) os->os.length<=12->ts.Perm (put3 (s.ts l.grp) cp.h l.s cp.r)->bX ts->NW K c CT H' F' p tp ln lr ns rs (gk rs s a cp l os ts)->Step H F H' F'->Q (.str (uF l cp os)) H')->Q8 K CT c vs H Q E
theorem Ik{t:Ad}(T:Txt K mg t):cz P w K mg base iM 8 t.fN t.pJ ["self","at"]  (Q8 K t.bD (nc t)):=by
 refine T.kY.kh gJ λH Q E hr h=>?_
 ·obtain⟨F,p,tp,ln,lr,ns,y,st,o,a,D,cp,l,rfl,N,C,L,hD,J,g,k⟩:=h
  refine⟨_,(aq (cD (jo (jD qX pR aB (pv 1) (lS T.iN (aY (pv 0) rfl)))) dO bz) (aq (sS 2 gJ (pS be PySem.F.slot_list_pop PySem.F.type_list_pop TY (aY (pv 0) rfl) (gV (pv 1)))) (aq (sS 3 gJ (xT (pv 2) aB)) (aq (sS 4 gJ (xT (pv 2) aB)) (aq (sS 5 gJ (xT (pv 2) aB)) (aq (sS 6 gJ (xL (aY (pv 0) rfl) (pv 3))) (aq (sS 7 gJ (cM (pv 0) T.bV T.Bb (Ij T) hr (Ir (pv 6) (pv 4) (pv 5)))) (aq (fE (pS be bh bg eE (aY (pv 6) rfl) (gV (dU (Ir (pv 7) (pv 5) (pv 4)))))) (aq (cD (qT ud (pv 7) gG) (aq (cD (jo (wM (aY (pv 6) rfl))) (oE (cM (xL (aY (pv 0) rfl) (aY (pv 6) rfl)) T.xO T.CZ (Jd T) hr (Ir (pv 5) (aY (aY (pv 6) rfl) rfl) (pv 4)))) bz) (oE (cM (pv 0) T.bV T.qC (wG T) hr (Ir (pv 3) (pv 5) (pv 4))))) bz) (oR (pv 7))))))))))),?_⟩
  left
  obtain⟨b,B,q,hp,O,hF,hT⟩:=id N.fC;have X:mV K (nc t) H F b B q p tp ns.length st:=⟨hp,O,hF,hT⟩;have cC:=O.get .fC _ rfl;rw[hp] at cC;have I:=(ai.mp J).1;have hil:=(ai.mp g).1;have hcb:=L.cb;obtain⟨lb1,lb2,hg,lkd⟩:=L.lb l (aM g);obtain⟨ts,ets,A,x⟩:=GP (h:=(cp.h:Int)) (c:=(l.s:Int)) (r:=(cp.r:Int)) (List.Perm.refl (st.ts l.grp)) (L.tb l.grp).2;have v:=O.get .lP _ rfl;have Zf:q.cq.length=st.cps.length:=by
   have z:=hT.cps.len;rw[ah] at z;exact z
  have haq:a<q.cq.length:=∅
  refine bO λu f=>?_;refine⟨_,rfl,_,_,rfl,rfl,_,rfl,?_⟩;rw[e8 (show (0:Int)<=(a:Int) by lia)];refine gC ⟨_,rfl,p,_,_,_,_,rfl,cC,T.bV,T.nO,rfl,b .lP,_,rfl,.inl (bP.of v),_,_,rfl,rfl,_,rfl,?_⟩;rw[ah,Zf,e8 (show (a:Int)<(st.cps.length:Int) by lia)];refine eZ (f _ _ ?_);refine bO λu f=>?_;refine⟨_,rfl,p,_,_,_,_,rfl,cC,T.bV,T.nO,rfl,.inl ⟨rfl,_,bP.of v⟩,_,rfl,b .lP,_,a,a,_,rfl,rfl,v,∅,∅,(Ku (by rw[ah,Zf];exact Qf I)).1,(by rw[aj,aa haq];rfl),?_⟩;have htu:cP K H q.cq[a] cp.vs:=hT.cps.at' a _ _ (aa haq) (by rw[aj,J];rfl);obtain⟨j,m⟩:=Qp X (qs:=q.cq.eraseIdx a) (cps:=st.cps.eraseIdx a) (by rw[<- EF];exact hT.cps.erase a);rw[EF];have SE:cP K _ q.cq[a] cp.vs:=N.fC.tup m.kp htu;generalize upd H (b .lP) (.lst ((q.cq.eraseIdx a).map V.ref))=H1 at j m SE;generalize q.cq[a]=qa at SE;refine f _ _ ?_;have es:{st with cps:=st.cps.eraseIdx a}=Nr st a:=rfl;rw[es] at j;have S:(Nr st a).ls[cp.l]?=some l:=g;have N1:=N.done m j.fC;have mD:=j.own.get .fC _ rfl;rw[j.hp] at mD;have ad9:=j.own.get (.bW cp.l) (mW (nc t) B b cp.l l) (by show ((Nr st a).ls[cp.l]?.map _)=_;rw[S];rfl);refine bO λu f=>?_;refine⟨_,rfl,qa,_,0,_,rfl,rfl,SE,rfl,f _ _ ?_⟩;refine bO λu f=>?_;refine⟨_,rfl,qa,_,1,_,rfl,rfl,SE,rfl,f _ _ ?_⟩;refine bO λu f=>?_;refine⟨_,rfl,qa,_,3,_,rfl,rfl,SE,rfl,f _ _ ?_⟩;refine bO λu f=>?_;refine⟨_,rfl,p,_,_,_,_,rfl,mD,T.bV,T.eX,rfl,_,rfl,b .cT,_,_,_,rfl,rfl,bP.of (j.own.get .cT _ rfl),qm hil,f _ _ ?_⟩;have Sw:CK ns y (Nr st a):=⟨C.wl,C.w4,C.fit⟩;refine bO λu f=>?_;refine⟨_,rfl,p,_,_,rfl,mD,rfl,_,rfl,_,rfl,_,rfl,F,b,B,_,p,tp,ln,lr,ns,y,Nr st a,o,cp.l,cp.r,cp.h,l,rfl,j,N1,Sw,S,hg,λos H2 s2 hO U=>?_⟩;have ef:(if cp.r∈os then (if Av l cp.h=true then "twice" else "come") else "lost" : Str)=uF l cp os:=rfl;rw[ef];refine f _ _ ?_;have k:=k os ts;have X2:=j.mono s2;have aea:=s2 _ _ ad9;have abm:=X2.own.get (.aD cp.l) (.lst ((q.dq cp.l).map V.ref)) (by show ((Nr st a).ls[cp.l]?.map _)=_;rw[S];rfl);have Py:=(X2.tup.aD cp.l _ S).len;rw[ah] at Py;have Py:(q.dq cp.l).length=l.aD.length:=Py;refine bO λu f=>?_;refine⟨_,rfl,b (.bW cp.l),_,_,_,_,rfl,aea,T.dj,T.iK,rfl,.inl ⟨rfl,_,bP.of abm⟩,_,rfl,_,rfl,_,rfl,g9,λz1 hz1=>?_⟩;have u1:=aG.new (o:=.tup [V.str (uF l cp os),V.int cp.h,V.int cp.r]) hz1;refine⟨b (.aD cp.l),_,_,rfl,rfl,u1 _ _ abm,mj (by rw[ah,Py];lia),?_⟩;obtain⟨i,st3⟩:=CL (X2.mono u1) S (d:=fU l cp os) (by rw[XJ];exact cP.of au);have G:=(m.trans (Step.refl' (F:=F) (s2.trans u1))).trans st3;generalize upd (upd H2 z1 (.tup [V.str (uF l cp os),V.int cp.h,V.int cp.r])) (b (.aD cp.l)) (.lst ((q.dq cp.l).map V.ref++[.ref z1]))=H3 at i G;refine f _ _ ?_;have es:{Nr st a with ls:=(Nr st a).ls.set cp.l {l with aD:=l.aD++[fU l cp os]}}=j8 st a cp l os:=rfl;rw[es] at i;have Dv:=i.own.get .fC _ rfl;rw[i.hp] at Dv;have XI:=EE (a:=a) (os:=os) g;have Vz:=i.own.get (.bW cp.l) (mW (nc t) B b cp.l {l with aD:=l.aD++[fU l cp os]}) (by show ((j8 st a cp l os).ls[cp.l]?.map _)=_;rw[XI];rfl);have ahK:=i.own.get (.letter cp.l) (rD (nc t) (B (.letter cp.l)) {l with aD:=l.aD++[fU l cp os]}) (by show ((j8 st a cp l os).ls[cp.l]?.map _)=_;rw[XI];rfl);have N3:=N.done G i.fC;refine⟨_,rfl,rfl,_,rfl,?_⟩;rw[SA];by_cases e:comes l cp os=true
  ·have k:∀F' Z,NW K (nc t) t.bD Z F' p tp ln lr ns y (Nm y (bA st a cp l os ts) cp.l cp.h {l with aD:=l.aD++[fU l cp os]} (some cp.r) os)->Step H F Z F'->Q (.str (uF l cp os)) Z:=λF' Z W z=>k F' Z hO U A x (by unfold gk;rw[ee e];exact W) z
   rw[e];refine gC ?_;refine oX (λσ H4=>mV K (nc t) H4 F b B {q with cq:=q.cq.eraseIdx a,dq:=fD q.dq cp.l (q.dq cp.l++[z1])} p tp ns.length (bA st a cp l os ts)/\Step H F H4 F/\σ=[some (.ref p),some (.int a),some (.ref qa),some (.int cp.l),some (.int cp.r),some (.int cp.h),some (.ref (b (.bW cp.l))),some (.str (uF l cp os))]) ?_ (λN' hN=>?_)
   ·rintro σ H4 ⟨Y,L8,rfl⟩
    have FE:=Y.own.get .fC _ rfl;rw[Y.hp] at FE;have M:=t8 (s:=st) (a:=a) (cp:=cp) (l:=l) (os:=os) (ts:=ts);have abk:CK ns y (bA st a cp l os ts):=⟨by rw[M.1];exact C.wl,by rw[M.1];exact C.w4,by rw[M.2.1];exact C.fit⟩;refine⟨_,rfl,p,_,_,rfl,FE,rfl,_,rfl,_,rfl,_,rfl,F,p,tp,ln,lr,ns,y,bA st a cp l os ts,o,cp.l,cp.h,some cp.r,{l with aD:=l.aD++[fU l cp os]},D+51,rfl,N.done L8 Y.fC,abk,Nt L g I A x,∅,jf g,λos' F5 H5 n _ W5 NK=>?_⟩;have n:eU (kJ ns y o (bA st a cp l os ts).ws l.grp) ((bA st a cp l os ts).R l.grp) os':=n;rw[M.1,M.2.1] at n;rw[n.uniq hO] at W5;exact⟨_,rfl,k F5 H5 W5 (L8.trans NK)⟩
   ·refine⟨_,rfl,b (.bW cp.l),_,_,_,_,rfl,Vz,T.dj,T.xN,rfl,_,rfl,?_⟩
    cases eo:l.old with
    |true =>
     refine eZ ?_;refine hN _ _ ⟨?_,G,rfl⟩;unfold bA;rw[ee eo];exact i
    |false =>
     refine gC ?_;refine⟨_,rfl,p,_,_,_,_,rfl,Dv,T.bV,T.qe,rfl,_,rfl,b (.bW cp.l),_,_,_,_,rfl,Vz,T.dj,T.jT,rfl,b .kq,_,_,_,rfl,rfl,bP.of (i.own.get .kq _ rfl),qm hg,b (.book l.grp),B (.book l.grp),_,rfl,i.own.get (.book l.grp) _ (ee hg),rfl,_,rfl,?_⟩;refine XO T (λQ q=>⟨_,rfl,q⟩) Vz ahK ?_;refine⟨_,rfl,b (.book l.grp),b (.fq l.grp),st.ts l.grp,cp.h,l.s,cp.r,rfl,i.own.KL hg,?_,λH4 h4 kp4=>?_⟩
     ·have:=(L.tb l.grp).1
      lia
     ·rw[ets] at h4
      obtain⟨Y,L8⟩:=VB i hg ts h4 kp4;refine hN _ _ ⟨?_,G.trans L8,rfl⟩;unfold bA;rw[er (by rw[eo];decide)];exact Y
  ·have e':comes l cp os=false:=by simpa using e
   rw[e'];refine eZ ?_;refine⟨_,rfl,k F H3 hO U A x ?_ G⟩;unfold gk;rw[e',er (!_)];exact N3
end
section
inductive Rw(rs:List R5)(os:List Nat)(r0:Nat)(x:Nat):Nat->Prop
 |refl:Rw rs os r0 x x
 |step {y r:Nat} (t:Rw rs os r0 x y) (hr:r∈os) (ne:r≠r0) (ha:isAt rs (y:Int) r=true):Rw rs os r0 x (eN rs r y)
inductive Ds(N:RM.Net)(R:Nat->RM.Row)(c:Nat):Nat->Prop
 |self:Ds N R c c
 |on {r x y:Nat} (t:RM.om N R r x y) (d:Ds N R c y):Ds N R c x
theorem Ds.rank{N:RM.Net}{R:Nat->RM.Row}{c x:Nat}(d:Ds N R c x):(R c).ho<=(R x).ho:=by
 induction d with
 |self=>exact jn _
 |on t _ a=>have:=t.ho;lia
variable{ns:List Int}{rs:List R5}{os:List Nat}{live:List Nat}{nd:ns.Nodup}{ok:∀r∈rs,r.Ok ns.length}{hl:∀k∈live,k<rs.length}{R:Nat->RM.Row}
theorem PB{r x:Nat}(a:r∈live)(b:isAt rs (x:Int) r=true):RM.Gi (aV ns rs live nd ok hl) r x (eN rs r x):=by
 refine (uf a).mpr ⟨b,?_⟩;unfold eN;rw[aa (hl r a)]
theorem Q9{N:RM.Net}{r a b x y:Nat}(d:RM.Gi N r a b)(e:RM.Gi N r x y):(a=x/\b=y)∨(a=y/\b=x):=by
 rcases d.2 with ⟨h,f⟩|⟨h,f⟩ <;> rcases e.2 with ⟨g,c⟩|⟨g,c⟩ <;> lia
theorem Nu{r x:Nat}(f:r<rs.length)(ok:∀r∈rs,r.Ok ns.length)(c:isAt rs (x:Int) r=true):isAt rs ((eN rs r x:Nat):Int) r=true/\eN rs r (eN rs r x)=x/\eN rs r x≠x/\eN rs r x<ns.length:=by
 have o:=ok _ (aQ f);have k:=o.a0;have m:=o.b0;have j:=o.ab;have l:=o.a1;have n:=o.b1;have g:∀y,eN rs r y=fR rs[r] y:=λy=>by unfold eN;rw[aa f]
 have h:∀y:Int,isAt rs y r=(decide (y=rs[r].a) || decide (y=rs[r].b)):=λy=>by unfold isAt;rw[aa f]
 rw[g,g,h];rw[h] at c;have c:(decide ((x:Int)=rs[r].a) || decide ((x:Int)=rs[r].b))=true:=c;rw[Bool.or_eq_true,decide_eq_true_iff,decide_eq_true_iff] at c;show (decide _ || decide _)=true/\fR rs[r] (fR rs[r] x)=x/\fR rs[r] x≠x/\fR rs[r] x<_;rw[Bool.or_eq_true,decide_eq_true_iff,decide_eq_true_iff];unfold fR;rcases c with e|e
 ·rw[ee e]
  have d:((rs[r].b.toNat:Nat):Int)=rs[r].b:=∅
  rw[d,er (bK j)];lia
 ·have i:¬(x:Int)=rs[r].a:=∅
  rw[er i];have d:((rs[r].a.toNat:Nat):Int)=rs[r].a:=∅
  rw[d,ee rfl];lia
theorem Ra(O:eU (aV ns rs live nd ok hl) R os){r0 c p:Nat}(h:RM.om (aV ns rs live nd ok hl) R r0 c p){r y z:Nat}(g:r∈os)(j:r≠r0)(i:RM.Gi (aV ns rs live nd ok hl) r y z)(d:Ds (aV ns rs live nd ok hl) R c y):Ds (aV ns rs live nd ok hl) R c z:=by
 obtain⟨a,b,t⟩:=(O.2 r).mp g;rcases Q9 t.AB i with ⟨rfl,rfl⟩|⟨rfl,rfl⟩
 ·cases d with
  |self=>exact eL (t.uniq h).1 j
  |on f e =>
   obtain⟨_,rfl⟩:=t.uniq f;exact e
 ·exact .on t d
theorem XQ(O:eU (aV ns rs live nd ok hl) R os){r x:Nat}(f:r∈os)(g:isAt rs (x:Int) r=true):¬Rw rs os r x (eN rs r x):=by
 intro t;obtain⟨c,p,i⟩:=(O.2 r).mp f;have m:∀k∈os,k∈live:=λk s=>by
  obtain⟨a,b,t⟩:=(O.2 k).mp s;exact t.AB.1
 have q:∀{y z:Nat},Rw rs os r y z->Ds (aV ns rs live nd ok hl) R c y->Ds (aV ns rs live nd ok hl) R c z:=λ{y z} t=>by
  induction t with
  |refl=>exact id
  |step t f l g j=>exact λd=>Ra O i f l (PB (m _ f) g) (j d)
 have h:∀{y z:Nat},Rw rs os r y z->Ds (aV ns rs live nd ok hl) R c z->Ds (aV ns rs live nd ok hl) R c y:=λ{y z} t=>by
  induction t with
  |refl=>exact id
  |step t f l g j=>exact λd=>j (Ra O i f l (PB (m _ f) g).symm d)
 have e:=i.ho;rcases Q9 i.AB (PB (m r f) g) with ⟨rfl,n⟩|⟨o,rfl⟩
 ·have:=(q t .self).rank
  rw[<- n] at this;lia
 ·have:=(h t (o▸.self)).rank
  lia
theorem Rw.trans{r0 x y z:Nat}(a:Rw rs os r0 x y)(b:Rw rs os r0 y z):Rw rs os r0 x z:=by
 induction b with
 |refl=>exact a
 |step t f e c d=>exact .step d f e c
theorem Rw.symm{r0 x y:Nat}(ok:∀r∈rs,r.Ok ns.length)(lt:∀k∈os,k<rs.length)(a:Rw rs os r0 x y):Rw rs os r0 y x:=by
 induction a with
 |refl=>exact .refl
 |@step y r t b g f e =>
  obtain⟨c,d,_⟩:=Nu (lt r b) ok f
  have:Rw rs os r0 (eN rs r y) y:=by
   have:=Rw.step (rs:=rs) (os:=os) (r0:=r0) (x:=eN rs r y) .refl b g c
   rw[d] at this;exact this
  exact this.trans e
structure En where
 h:Nat
 fr:Option (Nat×Nat)
noncomputable def En.by?(e:En):Option Nat:=e.fr.map (·.1)
noncomputable def goes(rs:List R5)(os:List Nat)(e:En):List Nat:=os.filter λr=>isAt rs (e.h:Int) r&&!decide (some r=e.by?)
theorem qh{e:En}{r:Nat}:r∈goes rs os e↔r∈os/\isAt rs (e.h:Int) r=true/\some r≠e.by?:=by
 unfold goes;rw[bC,c9,Bool.not_eq_true',decide_eq_false_iff_not]
end
section
variable{P:Program}{w:World}{K:af}{mg:Str->Option Value}{base:Heap}
inductive Nv(K:af)(c:NC)(vs:List V)(H:Hp)(Q:VK)(E:XK):Prop
 |mk (F:Addr->Prop) (p tp:Addr) (n i:Nat) (s:NS) (l:LS):vs=[.ref p,.int i]->fG K c H F p tp n s->s.ls[i]?=some l->(∀a (qs:List Addr) H',aG H H'->H a=none->H' a=some (.lst (qs.map V.ref))->dF K H' qs (l.aD.map dN.vs)->Q (.ref a) H')->Nv K c vs H Q E
theorem LK{t:Ad}(T:Txt K mg t):cz P w K mg base iM 1 t.p7 t.uy ["self","letter"]  (Nv K (nc t)):=by
 refine T.E5.F.kh K7 λH Q E A h=>?_
 ·obtain⟨F,p,z,n,i,st,l,rfl,N,d,k⟩:=h
  refine⟨_,(aq (cD (jo (jD qX pR aB (pv 1) (lS T.iN (aY (pv 0) rfl)))) dO bz) (oR (fW ig (by rfl) T.tw boot_list (gV (aY (xL (aY (pv 0) rfl) (pv 1)) rfl))))),?_⟩
  left
  obtain⟨c,s,q,y,O,B,v⟩:=id N;have e:=O.get .fC _ rfl;rw[y] at e;have f:=(ai.mp d).1;have j:=O.get .cT _ rfl;have r:=O.get (.bW i) (mW (nc t) s c i l) (by show (st.ls[i]?.map _)=_;rw[d];rfl);have g:=O.get (.aD i) (.lst ((q.dq i).map V.ref)) (by show (st.ls[i]?.map _)=_;rw[d];rfl);refine⟨_,rfl,_,_,rfl,rfl,_,rfl,?_⟩;rw[e8 (show (0:Int)<=(i:Int) by lia)];refine gC ⟨_,rfl,p,_,_,_,_,rfl,e,T.bV,T.eX,rfl,c .cT,_,rfl,.inl (bP.of j),_,_,rfl,rfl,_,rfl,?_⟩;rw[ah,bB,e8 (show (i:Int)<(st.ls.length:Int) by lia)];refine eZ ?_;refine⟨_,rfl,p,_,_,_,_,rfl,e,T.bV,T.eX,rfl,_,rfl,c .cT,_,_,_,rfl,rfl,bP.of j,qm f,c (.bW i),_,_,_,_,rfl,r,T.dj,T.iK,rfl,c (.aD i),_,rfl,.inl (bP.of g),λa m=>?_⟩;have u:=aG.new (o:=.lst ((q.dq i).map V.ref)) m;exact k a (q.dq i) _ u m au ((v.aD i l d).mono λb x=>u.dB)
noncomputable def dW:dN->Str
 |.post _=>"post"
 |.Iz _ _=>"come"
 |.hand _ _=>"hand"
 |.send _ _ _=>"send"
 |.twice _ _=>"twice"
 |.WW _ _=>"lost"
noncomputable def dI:dN->List Int
 |.post h=>[h]
 |.Iz h r=>[h,r]
 |.hand h c=>[h,c]
 |.send h r w=>[h,r,w]
 |.twice h r=>[h,r]
 |.WW h r=>[h,r]
theorem LL(d:dN):d.vs=.str (dW d)::(dI d).map V.int:=by cases d <;> rfl
theorem XR(d:dN):1<=(dI d).length:=by cases d <;> simp[dI]
noncomputable def ym:List V:=[.str "post",.str "come",.str "hand",.str "send",.str "twice",.str "lost"]
theorem XS(d:dN):CC (.str (dW d)) ym=true:=by
 cases d
 ·exact (by decide +kernel:CC (.str "post") ym=true)
 ·exact (by decide +kernel:CC (.str "come") ym=true)
 ·exact (by decide +kernel:CC (.str "hand") ym=true)
 ·exact (by decide +kernel:CC (.str "send") ym=true)
 ·exact (by decide +kernel:CC (.str "twice") ym=true)
 ·exact (by decide +kernel:CC (.str "lost") ym=true)
theorem Dy(d:dN):FF (V.str (dW d)::(dI d).map V.int) 0=some (V.str (dW d)):=eY (j:=0) rfl
theorem VD(d:dN):V.int ((((.str (dW d)::(dI d).map V.int:List V).length:Nat):Int))=V.int (2+(if (!decide (V.str (dW d)=V.str "post"))=true then 1 else 0)+(if decide (V.str (dW d)=V.str "send")=true then 1 else 0)):=by
 have a:∀h,(decide (V.str (dW (.post h))=V.str "post"))=true:=λh=>by show decide (V.str "post" = V.str "post")=true;decide +kernel
 cases d
 ·show V.int 2=V.int (2+(if (!decide (V.str "post" = V.str "post"))=true then 1 else 0)+(if decide (V.str "post" = V.str "send")=true then 1 else 0));decide +kernel
 ·show V.int 3=V.int (2+(if (!decide (V.str "come" = V.str "post"))=true then 1 else 0)+(if decide (V.str "come" = V.str "send")=true then 1 else 0));decide +kernel
 ·show V.int 3=V.int (2+(if (!decide (V.str "hand" = V.str "post"))=true then 1 else 0)+(if decide (V.str "hand" = V.str "send")=true then 1 else 0));decide +kernel
 ·show V.int 4=V.int (2+(if (!decide (V.str "send" = V.str "post"))=true then 1 else 0)+(if decide (V.str "send" = V.str "send")=true then 1 else 0));decide +kernel
 ·show V.int 3=V.int (2+(if (!decide (V.str "twice" = V.str "post"))=true then 1 else 0)+(if decide (V.str "twice" = V.str "send")=true then 1 else 0));decide +kernel
 ·show V.int 3=V.int (2+(if (!decide (V.str "lost" = V.str "post"))=true then 1 else 0)+(if decide (V.str "lost" = V.str "send")=true then 1 else 0));decide +kernel
inductive VE(K:af)(vs:List V)(H:Hp)(Q:VK)(E:XK):Prop
 |mk (a:Addr) (qs:List Addr) (ds:List dN):vs=[.ref a]->bP K H a (qs.map V.ref)->dF K H qs (ds.map dN.vs)->(∀H',aG H H'->Q (.bl true) H')->VE K vs H Q E
theorem Gd{t:Ad}(T:Txt K mg t):cz P w K mg base iM 2 t.jS t.nD ["_law_story"]  (VE K):=by
 refine T.zN.F.kh qA λH Q E hr h=>?_
 ·obtain⟨a,s,R,rfl,L,Y,k⟩:=h
  refine⟨_,(aq (cD (jo (wM (cB RP T.nQ boot_isinstance (nZ (pv 0) (Ct rfl T.tw boot_list (v:=.ty "list") rfl))))) oB bz) (aq (fS (fV (pv 0)) (gT 1 qA) (aq (cD (PW.pt (Jp (jo (wM (cB RO T.nQ boot_isinstance (nZ (pv 1) (Ct rfl T.Xi boot_tuple (v:=.ty "tuple") rfl))))) (Jp (qT pR (lS T.iN (pv 1)) aB) (Kh (jo (wM (cB GF T.nQ boot_isinstance (nZ (xT (pv 1) aB) (Ct rfl T.adp boot_str (v:=.ty "str") rfl))))))))) oB bz) (aq (cD (jo (wM (cB (Ue rfl) T.adq boot_all (gV (gq (kO qA ["_law_one"] [none]) rfl (Oa (yQ Kr (pv 1) (wQ aB) Gg)) (λ_ _ _ _=>by exact (gS 0 BR)) (λ_ _ _ _=>by exact mO) (λ_ _ _ _=>by exact (cG (Po T) hr T.JO (gV (pv 0))))))))) oB bz) (aq (cD (jW rA (xT (pv 1) aB) (dU (P0 gG gG gG gG gG gG)) (by with_unfolding_all rfl)) oB bz) (bI (cD (qT sf (lS T.iN (pv 1)) (bw fB (bw fB aB (fW Jq (by rfl) T.U8 boot_int (gV (qE sf (xT (pv 1) aB) gG)))) (fW Jq (by rfl) T.U8 boot_int (gV (qE ud (xT (pv 1) aB) gG))))) oB bz)))))) oB)),?_⟩
  left
  have eq:s.length=R.length:=by rw[Y.len,ah]
  refine⟨_,rfl,a,_,_,_,rfl,L,rfl,_,rfl,eZ ?_⟩;refine⟨_,rfl,a,rfl,⟨_,L⟩,se (K:=K) (a:=a) (xs:=s.map V.ref) (λi B f=>aG H f/\∃O:Option V,B=[some (.ref a),O]) ⟨aG.refl _,_,rfl⟩ (λi B f _ z=>z.1.seq L) ?_ ?_⟩
  ·rintro i y B f I ⟨C,O,rfl⟩
   have r:i<s.length:=by
    have:=(ai.mp I).1
    rw[ah] at this;exact this
   rw[aj,aa r] at I;cases I;have c:=C.dB (Y.at' i s[i] (R[i]'∅).vs (aa r) (by rw[aj,aa ∅];rfl));generalize s[i]=q at c;generalize R[i]'∅=d at c;rw[LL] at c;have h1:=XR d;refine⟨_,rfl,q,_,_,_,rfl,c,rfl,_,rfl,eZ ?_⟩;refine⟨_,rfl,q,_,rfl,.inr c,_,_,rfl,rfl,_,rfl,?_⟩;rw[fy (show ¬(((V.str (dW d)::(dI d).map V.int).length:Nat):Int)<2 by rw[bx,ah];lia)];refine eZ ⟨_,rfl,q,_,0,_,rfl,rfl,c,Dy d,_,_,_,_,rfl,.str _,rfl,_,rfl,eZ ?_⟩;have nw:¬(HT.lK (V.str (dW d)::(dI d).map V.int).length 0 (some 1)=0/\HT.lK (V.str (dW d)::(dI d).map V.int).length (V.str (dW d)::(dI d).map V.int).length none=(V.str (dW d)::(dI d).map V.int).length):=λz=>by
    have z1:=z.1;rw[show (1:Int)=((1:Nat):Int) from rfl,HT.Gf,bx] at z1;lia
   refine⟨_,rfl,_,rfl,q,_,rfl,c,nw,λz hz=>?_⟩;have ct:Cz (V.str (dW d)::(dI d).map V.int) (some 1) none=(dI d).map V.int:=Uo _ 1;rw[ct];have X:=aG.new (o:=.tup ((dI d).map V.int)) hz;have p:cP K _ z ((dI d).map V.int):=cP.of (au (H:=f) (a:=z) (o:=.tup ((dI d).map V.int)));generalize upd f z (.tup ((dI d).map V.int))=H3 at X p;refine⟨z,rfl,⟨_,p⟩,λS e=>?_⟩;refine ir (n:=((dI d).map V.int).length) (λi U _=>∃g:List Bool,U=g.map V.bl/\g.length=i/\g.all id=true) e (OC p) (GK p) ⟨[],rfl,rfl,rfl⟩ ?_ ?_
   ·rintro j U H4 G D J ⟨g,rfl,m,l⟩ x H5 ⟨rfl,A⟩
    have A:=A _ (D.dB p);have M:j<(dI d).length:=by rw[ah] at G;exact G
    rw[aj,aa M] at A;cases A;have h3:(dI d).length<=3:=by cases d <;> simp[dI]
    refine⟨_,rfl,_,rfl,?_⟩;exact fQ e G D J (by rw[ah];exact cS ∅) ⟨g++[true],-_,by simp[m],by simp[l]⟩
   rintro U H4 D J ⟨g,rfl,m,l⟩;refine⟨S,g,rfl,bP.of J,_,rfl,?_⟩;rw[l];refine eZ ?_;have u:=X.trans D;have W:=u.dB c;refine⟨_,rfl,q,_,0,_,rfl,rfl,W,Dy d,aaO,λb hb=>?_⟩;have Z:=aG.new (o:=.tup ym) hb;refine⟨b,ym,rfl,.inr (cP.of au),rfl,!_,_,rfl,?_⟩
   try dsimp only
   rw[ee rfl,XS];refine eZ ?_;have N:=Z.dB W;refine⟨_,rfl,q,_,rfl,.inr N,_,rfl,q,_,0,_,rfl,rfl,N,Dy d,rfl,.inr ⟨_,rfl,_,_,rfl,rfl,_,rfl,q,_,0,_,rfl,rfl,N,Dy d,rfl,.inr ⟨_,rfl,_,_,rfl,rfl,rfl,_,rfl,?_⟩⟩⟩;rw[e8 (VD d)];exact eZ ⟨(C.trans u).trans Z,_,rfl⟩
  ·rintro B f ⟨C,O,rfl⟩
   exact k f C
end
section
structure Fo(ns:List Int)(rs:List R5)(os:List Nat):Prop where
 lt:∀r∈os,r<rs.length
 ok:∀r∈rs,r.Ok ns.length
 cut:∀r∈os,∀x:Nat,isAt rs (x:Int) r=true->¬Rw rs os r x (eN rs r x)
 ri:os.Pairwise (·<·)
variable{ns:List Int}{rs:List R5}{os:List Nat}
theorem Fo.of{live:List Nat}{nd:ns.Nodup}{ok:∀r∈rs,r.Ok ns.length}{hl:∀k∈live,k<rs.length}{R:Nat->RM.Row}(O:eU (aV ns rs live nd ok hl) R os):Fo ns rs os:=⟨Ml O,ok,λ_ b _ a=>XQ O b a,O.1⟩
theorem Fo.back(F:Fo ns rs os){r x:Nat}(b:r∈os)(a:isAt rs (x:Int) r=true):isAt rs ((eN rs r x:Nat):Int) r=true/\eN rs r (eN rs r x)=x/\eN rs r x≠x/\eN rs r x<ns.length:=Nu (F.lt r b) F.ok a
theorem Fo.two(F:Fo ns rs os){r x y:Nat}(d:r∈os)(e:isAt rs (x:Int) r=true)(f:isAt rs (y:Int) r=true):y=x∨y=eN rs r x:=by
 have c:=F.lt r d;have o:=F.ok _ (aQ c);have h:=o.a0;have i:=o.b0;have g:∀y:Int,isAt rs y r=(decide (y=rs[r].a) || decide (y=rs[r].b)):=λy=>by unfold isAt;rw[aa c]
 rw[g,Bool.or_eq_true,decide_eq_true_iff,decide_eq_true_iff] at e f;unfold eN;rw[aa c];show y=x∨y=fR rs[r] x;unfold fR;split <;> lia
theorem Fo.symm(F:Fo ns rs os){r0 x y:Nat}(a:Rw rs os r0 x y):Rw rs os r0 y x:=a.symm F.ok F.lt
theorem Fo.avoid(F:Fo ns rs os){q x z f:Nat}(h:q∈os)(d:isAt rs (x:Int) q=true)(a:isAt rs (x:Int) f=true)(t:Rw rs os q (eN rs q x) z):Rw rs os f (eN rs q x) z:=by
 induction t with
 |refl=>exact .refl
 |@step y r t b j c i =>
  refine .step i b (λe=>?_) c;subst e;rcases F.two b a c with e|e
  ·subst e
   exact F.cut q h y d (F.symm t)
  ·have g:=Rw.step t b j c
   rw[e,(F.back b a).2.1] at g;exact F.cut q h x d (F.symm g)
noncomputable def nx(rs:List R5)(e:En)(r:Nat):En:=⟨eN rs r e.h,some (r,e.h)⟩
structure WJ(ns:List Int)(rs:List R5)(os:List Nat)(f:Nat)(D Pn:List En):Prop where
 nd:((D++Pn).map (·.h)).Nodup
 fr:∀e∈D++Pn,∀r p,e.fr=some (r,p)->r∈os/\isAt rs (p:Int) r=true/\eN rs r p=e.h/\(∃e'∈D,e'.h=p)/\Rw rs os r f p
 f0:∀e∈D++Pn,e.fr=none->e.h=f
 lt:∀e∈D++Pn,e.h<ns.length
theorem WJ.zero{f:Nat}(b:f<ns.length):WJ ns rs os f [] [⟨f,none⟩] :=
 ⟨-_,λe a r p h=>(by rw[bq.mp a] at h;cases h),λe a _=>(by rw[bq.mp a]),λe a=>(by rw[bq.mp a];exact b)⟩
variable{f:Nat}{D Pn A B:List En}{e:En}
theorem WJ.side(F:Fo ns rs os)(w:WJ ns rs os f D Pn)(d:e∈D++Pn){r0:Nat}(n:r0∈os)(k:isAt rs (e.h:Int) r0=true)(l:some r0≠e.by?):Rw rs os r0 f e.h:=by
 cases z:e.fr with
 |none=>rw[w.f0 e d z];exact .refl
 |some q =>
  obtain⟨r,p⟩:=q;obtain⟨b,g,j,_,m⟩:=w.fr e d r p z;have c:r≠r0:=λq=>l (by unfold En.by?;rw[z,<- q];rfl);obtain⟨i,a,_⟩:=F.back b g;rw[j] at i a;have t:=F.avoid b i k (by rw[a];exact F.symm m);rw[a] at t
  have:=Rw.step (F.symm t) b c g
  rw[j] at this;exact this
theorem Il(nd:((D++Pn).map (·.h)).Nodup)(c:e∈Pn):∀a∈D,a.h≠e.h:=λa b z=>by
 rw[aT,uK] at nd;exact nd.2.2 _ (kj b) _ (kj c) z
theorem WJ.next(F:Fo ns rs os)(w:WJ ns rs os f D (A++e::B)){j:List Nat}(Q:j.Nodup)(u:∀r∈j,r∈goes rs os e):WJ ns rs os f (D++[e]) (A++B++j.map (nx rs e)):=by
 have o:e∈A++e::B:=-_
 have n:e∈D++(A++e::B):=cY _ o;have L:=Il w.nd o;have pm:((D++[e])++(A++B++j.map (nx rs e))).Perm ((D++(A++e::B))++j.map (nx rs e)):=by
  have c:([e]++(A++B)).Perm (A++e::B):=by
   show (e::(A++B)).Perm _;exact List.perm_middle.symm
  have g:=(c.append_left D).append_right (j.map (nx rs e))
  simpa [cF] using g
 have K:∀r∈j,∀b∈D++(A++e::B),b.h≠eN rs r e.h:=λr k b i z=>by
  obtain⟨c,g,I⟩:=qh.mp (u r k);have V:=w.side F n c g I;obtain⟨R,N,X,_⟩:=F.back c g;by_cases q:some r=b.by?
  ·unfold En.by? at q
   cases y:b.fr with
   |none=>rw[y] at q;cases q
   |some v =>
    obtain⟨W,p⟩:=v;rw[y] at q;have q:r=W:=aK q;subst q;obtain⟨_,t,E,⟨J,G,C⟩,_⟩:=w.fr b i r p y
    have:p=e.h:=by
     have:=(F.back c t).2.1
     rw[E,z,N] at this;exact this.symm
    exact L J G (C.trans this)
  ·have M:=w.side F i c (by rw[z];exact R) q
   rw[z] at M;exact F.cut r c e.h g ((F.symm V).trans M)
 have l:∀b,b∈(D++[e])++(A++B++j.map (nx rs e))->b∈D++(A++e::B)∨∃r∈j,b=nx rs e r:=λb i=>by
  rcases br.mp (pm.mem_iff.mp i) with h|h
  ·exact .inl h
  ·obtain⟨r,k,z⟩:=aL.mp h
   exact .inr ⟨r,k,z.symm⟩
 refine⟨?_,λb i r p h=>?_,λb i h=>?_,λb i=>?_⟩
 ·rw[(pm.map (·.h)).nodup_iff,aT,uK]
  refine⟨w.nd,?_,λx O y P=>?_⟩
  ·rw[dw]
   refine List.pairwise_map.mpr (List.Pairwise.imp_of_mem ?_ Q);intro r m k d U z;obtain⟨c,g,_⟩:=qh.mp (u r k);obtain⟨H,t,_⟩:=qh.mp (u m d);have z:eN rs r e.h=eN rs m e.h:=z
   have:=Rw.step (rs:=rs) (os:=os) (r0:=r) (x:=e.h) .refl H (bK U) t
   rw[<- z] at this;exact F.cut r c e.h g this
  ·obtain⟨a,S,rfl⟩:=aL.mp O
   obtain⟨b,i,rfl⟩:=aL.mp P;obtain⟨r,k,rfl⟩:=aL.mp i;exact K r k a S
 ·rcases l b i with s|⟨m,d,rfl⟩
  ·obtain⟨H,t,E,⟨J,G,C⟩,T⟩:=w.fr b s r p h
   exact⟨H,t,E,⟨J,List.mem_append_left _ G,C⟩,T⟩
  ·obtain⟨c,g,I⟩:=qh.mp (u m d)
   cases h;exact⟨c,g,rfl,⟨e,-_,rfl⟩,w.side F n c g I⟩
 ·rcases l b i with s|⟨m,d,rfl⟩
  ·exact w.f0 b s h
  ·cases h
 ·rcases l b i with s|⟨m,d,rfl⟩
  ·exact w.lt b s
  ·obtain⟨c,g,_⟩:=qh.mp (u m d)
   exact (F.back c g).2.2.2
end
section
variable{ns:List Int}{rs:List R5}{os:List Nat}{s:NS}{l:LS}{i h:Nat}
theorem Ny:∀(cs:List Nat) (s:NS) (l:LS),s.ls[i]?=some l->∃had,cs.foldl (kZ i h) s={s with had:=had,ls:=s.ls.set i {l with aD:=l.aD++cs.map (dN.hand h)}}
 |[],s,l,e=>⟨s.had,by
  show s={s with had:=s.had,ls:=s.ls.set i {l with aD:=l.aD++[]}};rw[bY,GV e]⟩
 |c::cs,s,l,e=>by
  have b:=(ai.mp e).1;have f:(tY s i c).ls[i]?=some l:=e;have a:kZ i h s c={s with had:=s.had.set c (s.had.getD c []++[i]),ls:=s.ls.set i {l with aD:=l.aD++[.hand h c]}}:=by
   unfold kZ;rw[fL f];rfl
  obtain⟨had,d⟩:=Ny cs (kZ i h s c) {l with aD:=l.aD++[.hand h c]} (by rw[a];show (s.ls.set i _)[i]?=_;rw[gu b,ee rfl]);refine⟨had,?_⟩;rw[List.foldl_cons,d,a];show {s with had:=had,ls:=(s.ls.set i _).set i _}=_;rw[List.set_set];simp only[cF,bN];rfl
theorem Nz:∀(a:List Nat) (s:NS) (l:LS),s.ls[i]?=some l->a.foldl (tZ rs i h) s={s with cps:=s.cps++a.map λr=>⟨i,r,gW s.ws r (gX l),eN rs r h⟩,ls:=s.ls.set i {l with aD:=l.aD++a.map λr=>.send h r (gW s.ws r (gX l))}}
 |[],s,l,e=>by
  show s={s with cps:=s.cps++[],ls:=s.ls.set i {l with aD:=l.aD++[]}};rw[bY,bY,GV e]
 |r::a,s,l,e=>by
  have c:=(ai.mp e).1;have d:Sv s i=gX l:=by unfold Sv;rw[e]
  have b:tZ rs i h s r={s with cps:=s.cps++[⟨i,r,gW s.ws r (gX l),eN rs r h⟩],ls:=s.ls.set i {l with aD:=l.aD++[.send h r (gW s.ws r (gX l))]}}:=by
   unfold tZ Nk;rw[fL e,d]
  rw[List.foldl_cons,Nz a (tZ rs i h s r) {l with aD:=l.aD++[.send h r (gW s.ws r (gX l))]} (by rw[b];show (s.ls.set i _)[i]?=_;rw[gu c,ee rfl]),b];show {s with cps:=_,ls:=(s.ls.set i _).set i _}=_;rw[List.set_set];simp only[cF,bN];rfl
theorem uG{aU:Option Nat}(e:s.ls[i]?=some l):∃had,Nm rs s i h l aU os={s with had:=had,cps:=s.cps++(Aw rs s l h aU os).map λr=>⟨i,r,gW s.ws r (gX l),eN rs r h⟩,ls:=s.ls.set i {l with done:=nV l.done h,aD:=l.aD++((iA s l h).map (dN.hand h)++(Aw rs s l h aU os).map λr=>.send h r (gW s.ws r (gX l)))}}:=by
 have a:=(ai.mp e).1;unfold Nm;have c:(eO s i h l).ls[i]?=some {l with done:=nV l.done h}:=by
  show (s.ls.set i _)[i]?=_;rw[gu a,ee rfl]
 obtain⟨had,b⟩:=Ny (h:=h) (iA s l h) (eO s i h l) _ c;refine⟨had,?_⟩;rw[b,Nz _ _ {l with done:=nV l.done h,aD:=l.aD++(iA s l h).map (dN.hand h)} (by show ((s.ls.set i _).set i _)[i]?=_;rw[gu (by rw[bT];exact a),ee rfl])];show {s with had:=had,cps:=_,ls:=((s.ls.set i _).set i _).set i _}=_;rw[List.set_set,List.set_set];simp only[cF];rfl
theorem NB{ds:List Nat}{h:Nat}{l:LS}(e:l.done=ds):Av l h=decide (h∈ds):=by
 unfold Av;rw[e];clear e;induction ds with
 |nil=>rfl
 |cons d ds a =>
  rw[bN];by_cases z:d=h
  ·subst z
   rw[yU rfl];simp
  ·rw[yV (λe=>z (by have:=Sum.inl.inj e;lia)),a]
   have:¬h=d:=λe=>z e.symm
   simp[this]
def NL(rs:List R5)(os:List Nat)(aO:List Nat)(ts:List T3):Prop:=∀t∈ts,∃h c r:Nat,t=((h:Int),(c:Int),(r:Int))/\r∈os/\isAt rs (h:Int) r=true/\Rw rs os r (eN rs r h) (aO.getD c 0)
theorem XU{e:En}:((((os.filter (isAt rs e.h)).map λk:Nat=>(k:Int)).filter (gy (e.by?.map λk:Nat=>(k:Int)))).map Int.toNat)=goes rs os e:=by
 unfold goes;rw[List.filter_map,dw,List.filter_filter]
 have:(Int.toNat∘λk:Nat=>(k:Int))=id:=by funext k;exact cy k
 rw[this,List.map_id];refine List.filter_congr λr _=>?_;rw[Bool.and_comm];congr 1;show gy (e.by?.map λk:Nat=>(k:Int)) (r:Int)=_;unfold gy;congr 1;rw[decide_eq_decide];cases e.by? with
 |none=>exact⟨λz=>(by cases z),λz=>(by cases z)⟩
 |some q=>exact⟨λz=>(by have z:V.int (r:Int)=V.int (q:Int):=z;have:=V.int.inj z;rw[show r=q by lia]),λz=>(by rw[aK z];rfl)⟩
theorem XW(F:Fo ns rs os){e:En}:(goes rs os e).Nodup:=List.Nodup.sublist List.filter_sublist (F.ri.imp λh=>bE h)
noncomputable def EH(rs:List R5)(c:Cp):En:=⟨c.h,some (c.r,eN rs c.r c.h)⟩
end
section
structure SD(ns:List Int)(rs:List R5)(bs:List (List Bool))(cl:List (Nat×Nat))(D:Nat)(s:NS):Prop where
 ok:CK ns rs s
 bd:Bd ns.length rs.length D s
 ws:s.ws=bs.map stand
 fit:Fit rs bs
 hm:s.aO=cl.map (·.1)
 gr:s.groups=cl.map (·.2)
variable{ns:List Int}{rs:List R5}{bs:List (List Bool)}{cl:List (Nat×Nat)}{D:Nat}{s:NS}
theorem SD.mono{a:Nat}(h:SD ns rs bs cl D s)(e:D<=a):SD ns rs bs cl a s:=⟨h.ok,h.bd.mono e,h.ws,h.fit,h.hm,h.gr⟩
theorem XX{n m:Nat}{g:Nat}(b:Bd n m D s):Bd n m D (FA s g):=by
 refine⟨b.gl,b.AZ,b.g3,b.hm,b.hl,b.hb,by show (s.ls.map _).length<=D;rw[ah];exact b.ll,λl z=>?_,b.cb,λc z=>by show c.l<(s.ls.map _).length/\_;rw[ah];exact b.cl c z,λa=>?_⟩
 ·obtain⟨d,e,rfl⟩:=aL.mp z
  unfold yk;split
  ·exact b.lb d e
  ·exact b.lb d e
 ·show 50*(fD s.ts g [] a).length<=D/\bX (fD s.ts g [] a)
  by_cases z:a=g
  ·subst z
   rw[bS];exact⟨bM _,k8⟩
  ·rw[cZ z]
   exact b.tb a
theorem SD.news(h:SD ns rs bs cl D s)(g:Nat):SD ns rs bs cl D (FA s g):=⟨⟨h.ok.wl,h.ok.w4,h.ok.fit⟩,XX h.bd,h.ws,h.fit,h.hm,h.gr⟩
theorem SD.call{g x:Nat}{d:RM.Row}(h:SD ns rs bs cl D s)(c:BC ns.length rs.length d):SD ns rs bs cl D (FD s g x d):=by
 unfold FD;split
 ·exact h
 ·refine SD.news (s:={s with R:=fD s.R g (RM.upd (s.R g) x d)}) ⟨⟨h.ok.wl,h.ok.w4,λk a=>?_⟩,⟨h.bd.gl,h.bd.AZ,h.bd.g3,h.bd.hm,h.bd.hl,h.bd.hb,h.bd.ll,h.bd.lb,h.bd.cb,h.bd.cl,h.bd.tb⟩,h.ws,h.fit,h.hm,h.gr⟩ g
  show wW _ _ (fD s.R g (RM.upd (s.R g) x d) k);by_cases z:k=g
  ·subst z
   rw[bS];intro i b;unfold RM.upd;split
   ·exact c
   ·exact h.ok.fit k a i b
  ·rw[cZ z]
   exact h.ok.fit k a
theorem PD{i h:Nat}{l:LS}{aU:Option Nat}{os:List Nat}(hl:s.ls[i]?=some l):(Nm rs s i h l aU os).ws=s.ws/\(Nm rs s i h l aU os).R=s.R/\(Nm rs s i h l aU os).aO=s.aO/\(Nm rs s i h l aU os).groups=s.groups:=by
 have f:=LJ (rs:=rs) (h:=h) (aU:=aU) (os:=os) hl;exact⟨f.ws,f.R,f.aO,f.groups⟩
theorem SD.post{x:Nat}{to:Option Nat}{os:List Nat}(o:cX ns rs)(h:SD ns rs bs cl D s)(e:x<s.aO.length)(O:eU (kJ ns rs o s.ws (s.groups.getD x 0)) (s.R (s.groups.getD x 0)) os)(b:os.length<=12):SD ns rs bs cl (D+100) (c5 rs s x to os):=by
 obtain⟨a,d,g,j⟩:=PD (rs:=rs) (h:=s.aO.getD x 0) (aU:=none) (os:=os) (s:=gj s x to) (i:=s.ls.length) (l:={cE s x to with aD:=[.post (s.aO.getD x 0)]}) iB;have f:=Zl o (h:=s.aO.getD x 0) (aU:=none) (Q5 (to:=to) h.bd e) iB O b;exact⟨⟨(gU List.length a).trans h.ok.wl,λw c=>h.ok.w4 w (by rw[show (c5 rs s x to os).ws=s.ws from a] at c;exact c),by rw[show (c5 rs s x to os).R=s.R from d];exact h.ok.fit⟩,f.mono ∅,a.trans h.ws,h.fit,g.trans h.hm,j.trans h.gr⟩
theorem SD.pass{a:Nat}{cp:Cp}{l:LS}{os:List Nat}{ts:List T3}{h' c r:Int}(o:cX ns rs)(h:SD ns rs bs cl D s)(hl:s.ls[cp.l]?=some l)(q:a<s.cps.length)(O:eU (kJ ns rs o s.ws l.grp) (s.R l.grp) os)(i:os.length<=12)(p:ts.Perm (put3 (s.ts l.grp) h' c r))(m:bX ts):SD ns rs bs cl (D+100) (gk rs s a cp l os ts):=by
 have n:=XN o (a:=a) (cp:=cp) h.bd hl q O i p m;have e:(gk rs s a cp l os ts).ws=s.ws/\(gk rs s a cp l os ts).R=s.R/\(gk rs s a cp l os ts).aO=s.aO/\(gk rs s a cp l os ts).groups=s.groups:=by
  unfold gk;split
  ·obtain⟨v,t,u,k⟩:=t8 (s:=s) (a:=a) (cp:=cp) (l:=l) (os:=os) (ts:=ts)
   obtain⟨b,d,f,g⟩:=PD (rs:=rs) (h:=cp.h) (aU:=some cp.r) (os:=os) (jf (a:=a) (os:=os) (ts:=ts) hl);exact⟨b.trans v,d.trans t,f.trans u,g.trans k⟩
  ·exact⟨rfl,rfl,rfl,rfl⟩
 obtain⟨b,d,f,g⟩:=e;exact⟨⟨(gU List.length b).trans h.ok.wl,λw j=>h.ok.w4 w (by rw[b] at j;exact j),by rw[d];exact h.ok.fit⟩,n,b.trans h.ws,h.fit,f.trans h.hm,g.trans h.gr⟩
end
section
variable{ns:List Int}{rs:List R5}{os:List Nat}{s s':NS}{g:Nat}
def Led(rs:List R5)(os:List Nat)(s:NS)(g h c r:Nat):Prop:=r∈os/\isAt rs (h:Int) r=true/\s.groups[c]?=some g/\Rw rs os r (eN rs r h) (s.aO.getD c 0)
structure S2(rs:List R5)(os:List Nat)(g:Nat)(s:NS):Prop where
 nt:∀t∈s.ts g,∃h c r:Nat,t=((h:Int),(c:Int),(r:Int))/\Led rs os s g h c r
 cp:∀c∈s.cps,∀l,s.ls[c.l]?=some l->l.grp=g->l.old=false->Led rs os s g c.h l.s c.r
def n6(s:NS):Prop:=∀l∈s.ls,s.groups[l.s]?=some l.grp
structure Ld(o:cX ns rs)(s:NS):Prop where
 sd:n6 s
 ld:∀g,g<3->∀os,eU (kJ ns rs o s.ws g) (s.R g) os->S2 rs os g s
theorem Led.of{h c r:Nat}(a:Led rs os s g h c r)(b:s'.groups=s.groups)(d:∀c,s.groups[c]?=some g->s'.aO.getD c 0=s.aO.getD c 0):Led rs os s' g h c r:=⟨a.1,a.2.1,by rw[b];exact a.2.2.1,by rw[d c a.2.2.1];exact a.2.2.2⟩
theorem S2.of(a:S2 rs os g s)(v:∀t∈s'.ts g,t∈s.ts g)(d:s'.groups=s.groups)(f:∀c,s.groups[c]?=some g->s'.aO.getD c 0=s.aO.getD c 0)(j:∀c∈s'.cps,∀b,s'.ls[c.l]?=some b->b.grp=g->b.old=false->c∈s.cps/\∃l,s.ls[c.l]?=some l/\l.s=b.s/\l.grp=g/\l.old=false):S2 rs os g s':=by
 refine⟨λt h=>?_,λc h b i m w=>?_⟩
 ·obtain⟨h,c,r,e,q⟩:=a.nt t (v t h)
  exact⟨h,c,r,e,q.of d f⟩
 ·obtain⟨n,l,o,k,u,p⟩:=j c h b i m w
  have:=(a.cp c n l o u p).of d f
  rw[k] at this;exact this
theorem VF(h:n6 s)(b:s'.groups=s.groups)(hl:∀a∈s'.ls,∃l∈s.ls,a.s=l.s/\a.grp=l.grp):n6 s':=λa e=>by
 obtain⟨l,c,f,d⟩:=hl a e;rw[b,f,d];exact h l c
theorem VG{l:LS}{k:Nat}:(yk k l).s=l.s/\(yk k l).grp=l.grp:=by unfold yk;split <;> exact⟨rfl,rfl⟩
theorem news_at{k i:Nat}{a:LS}(h:(FA s k).ls[i]?=some a):∃l,s.ls[i]?=some l/\a=yk k l:=by
 have h:(s.ls.map (yk k))[i]?=some a:=h;rw[aj] at h;cases e:s.ls[i]? with
 |none=>rw[e] at h;cases h
 |some l=>rw[e] at h;exact⟨l,rfl,(aK h).symm⟩
theorem VH(h:n6 s)(k:Nat):n6 (FA s k):=VF h rfl λc b=>by
 obtain⟨l,a,rfl⟩:=aL.mp b;exact⟨l,a,VG⟩
theorem S2.Zm:S2 rs os g (FA s g):=by
 refine⟨λt h=>?_,λc _ e d a b=>?_⟩
 ·have h:t∈fD s.ts g [] g:=h
  rw[bS] at h;cases h
 ·exfalso
  obtain⟨l,f,rfl⟩:=news_at d;unfold yk at a b;split at b
  ·cases b
  ·rename_i z
   rw[er z] at a;exact z a
theorem S2.news(a:S2 rs os g s)(k:Nat):S2 rs os g (FA s k):=by
 by_cases z:g=k
 ·subst z
  exact S2.Zm
 ·refine a.of (λt h=>?_) rfl (λ_ _=>rfl) λc h m f d b=>?_
  ·have h:t∈fD s.ts k [] g:=h
   rw[cZ z] at h;exact h
  ·obtain⟨l,i,rfl⟩:=news_at f
   have e:=VG (l:=l) (k:=k);have j:¬l.grp=k:=λq=>z (by rw[<- d,e.2,q]);unfold yk at b;rw[er j] at b;exact⟨h,l,i,e.1.symm,e.2▸d,b⟩
theorem Ld.call{o:cX ns rs}{x:Nat}{d:RM.Row}(h:Ld o s):Ld o (FD s g x d):=by
 unfold FD;split
 ·exact h
 ·refine⟨VH (s:={s with R:=fD s.R g (RM.upd (s.R g) x d)}) h.sd g,λk e os O=>?_⟩
  by_cases z:k=g
  ·subst z
   exact S2.Zm
  ·have O:eU (kJ ns rs o s.ws k) (fD s.R g (RM.upd (s.R g) x d) k) os:=O
   rw[cZ z] at O;exact S2.news (s:={s with R:=fD s.R g (RM.upd (s.R g) x d)}) ((h.ld k e os O).of (λt h=>h) rfl (λ_ _=>rfl) λc h f a b i=>⟨h,f,a,rfl,b,i⟩) g
end
section
variable{ns:List Int}{rs:List R5}{os:List Nat}{s:NS}{g:Nat}
theorem VI{l:LS}{h:Nat}{aU:Option Nat}:∀r∈Aw rs s l h aU os,r∈os/\isAt rs (h:Int) r=true/\some r≠aU:=λr d=>by
 unfold Aw at d;obtain⟨x,a,rfl⟩:=aL.mp d;have b:gy (aU.map λk:Nat=>(k:Int)) x=true:=by
  unfold DA at a;split at a
  ·exact (bC.mp a).2
  ·split at a
   ·cases a
   ·split at a
    ·split at a
     ·exact (bC.mp a).2
     ·exact (bC.mp a).2
    ·exact (bC.mp a).2
 obtain⟨k,c,rfl⟩:=aL.mp (Dw.1 x a);rw[cy];refine⟨(bC.mp c).1,(bC.mp c).2,λz=>?_⟩;rw[<- z] at b;unfold gy at b;rw[Bool.not_eq_true',decide_eq_false_iff_not] at b;exact b rfl
theorem Ld.post{o:cX ns rs}{x:Nat}{to:Option Nat}(h:Ld o s)(M:x<s.aO.length)(j:x<s.groups.length)(g:∀c∈s.cps,c.l<s.ls.length)(y:eU (kJ ns rs o s.ws (s.groups.getD x 0)) (s.R (s.groups.getD x 0)) os):Ld o (c5 rs s x to os):=by
 have n:s.groups[x]?=some (s.groups.getD x 0):=by rw[az,aa j];rfl
 unfold c5;generalize p:s.aO.getD x 0=f;obtain⟨I,L⟩:=uG (rs:=rs) (os:=os) (h:=f) (aU:=none) (s:=gj s x to) (i:=s.ls.length) (l:={cE s x to with aD:=[.post f]}) (by show (s.ls++[_])[s.ls.length]?=_;rw[p];exact iB);rw[L];have q:=VI (rs:=rs) (os:=os) (s:=gj s x to) (l:={cE s x to with aD:=[.post f]}) (h:=f) (aU:=none);generalize Aw rs (gj s x to) {cE s x to with aD:=[.post f]} f none os=gs at q;have C:∀b,(gj s x to).ls.set s.ls.length b=s.ls++[b]:=λb=>by
  show (s.ls++[_]).set s.ls.length b=_;rw[vK _ _ (ay _),iY];rfl
 rw[C];refine⟨λb G=>?_,λk A m O=>?_⟩
 ·rcases br.mp G with z|z
  ·exact h.sd b z
  ·rw[bq.mp z]
   exact n
 ·have a:=h.ld k A m O
  refine⟨λt J=>a.nt t J,λc w b d e K=>?_⟩;have d:(s.ls++[_])[c.l]?=some b:=d;rcases br.mp w with z|z
  ·rw[bL (g c z)] at d
   exact a.cp c z b d e K
  ·obtain⟨r,B,rfl⟩:=aL.mp z
   rw[iB] at d;cases d;have e:s.groups.getD x 0=k:=e;subst e;have D:=y.uniq O;subst D;have F:=Fo.of O;obtain⟨u,H,_⟩:=q r B;obtain⟨E,v,_⟩:=F.back u H;refine⟨u,E,n,?_⟩;show Rw rs os r (eN rs r (eN rs r f)) (s.aO.getD x 0);rw[v,p];exact .refl
theorem Ld.pass{o:cX ns rs}{a:Nat}{cp:Cp}{l:LS}{ts:List T3}(h:Ld o s)(hcl:∀c∈s.cps,c.l<s.ls.length)(G:s.cps[a]?=some cp)(hl:s.ls[cp.l]?=some l)(hg:l.grp<3)(Q:eU (kJ ns rs o s.ws l.grp) (s.R l.grp) os)(pt:ts.Perm (put3 (s.ts l.grp) cp.h l.s cp.r)):Ld o (gk rs s a cp l os ts):=by
 have I:=(ai.mp hl).1;have M:=aM G;have F:=Fo.of Q;have m:∀(n:NS) (y:LS),y.s=l.s->y.grp=l.grp->y.old=l.old->n.ls=s.ls.set cp.l y->∀(i:Nat) d,n.ls[i]?=some d->∃e,s.ls[i]?=some e/\e.s=d.s/\e.grp=d.grp/\e.old=d.old:=λn y T e2 e3 E i d p=>by
  rw[E,gu I] at p;by_cases z:i=cp.l
  ·rw[ee z] at p
   cases p;exact⟨l,by rw[z];exact hl,T.symm,e2.symm,e3.symm⟩
  ·rw[er z] at p
   exact⟨d,p,rfl,rfl,rfl⟩
 have x:∀n:NS,n.groups=s.groups->(∀(i:Nat) d,n.ls[i]?=some d->∃e,s.ls[i]?=some e/\e.s=d.s/\e.grp=d.grp/\e.old=d.old)->n6 n:=λn eg st=>VF h.sd eg λd K=>by
  obtain⟨i,p⟩:=oi K;obtain⟨e,j,v,w,_⟩:=st i d p;exact⟨e,aM j,v.symm,w.symm⟩
 unfold gk;split
 ·have le:=t8 (s:=s) (a:=a) (cp:=cp) (l:=l) (os:=os) (ts:=ts)
  have ec:(bA s a cp l os ts).cps=s.cps.eraseIdx a:=by unfold bA;split <;> rfl
  have E:(bA s a cp l os ts).ls=s.ls.set cp.l {l with aD:=l.aD++[fU l cp os]}:=by unfold bA;split <;> rfl
  obtain⟨had,ed⟩:=uG (rs:=rs) (os:=os) (h:=cp.h) (aU:=some cp.r) (jf (a:=a) (os:=os) (ts:=ts) hl);rw[ed];have N:=VI (rs:=rs) (os:=os) (s:=bA s a cp l os ts) (l:={l with aD:=l.aD++[fU l cp os]}) (h:=cp.h) (aU:=some cp.r);generalize Aw rs (bA s a cp l os ts) {l with aD:=l.aD++[fU l cp os]} cp.h (some cp.r) os=gs at N;have st:=m {bA s a cp l os ts with had:=had,cps:=(bA s a cp l os ts).cps++gs.map λr=>(⟨cp.l,r,gW (bA s a cp l os ts).ws r (gX {l with aD:=l.aD++[fU l cp os]}),eN rs r cp.h⟩:Cp),ls:=(bA s a cp l os ts).ls.set cp.l {l with done:=nV l.done cp.h,aD:=l.aD++[fU l cp os]++((iA (bA s a cp l os ts) {l with aD:=l.aD++[fU l cp os]} cp.h).map (dN.hand cp.h)++gs.map λr=>.send cp.h r (gW (bA s a cp l os ts).ws r (gX {l with aD:=l.aD++[fU l cp os]})))}} {l with done:=nV l.done cp.h,aD:=l.aD++[fU l cp os]++((iA (bA s a cp l os ts) {l with aD:=l.aD++[fU l cp os]} cp.h).map (dN.hand cp.h)++gs.map λr=>.send cp.h r (gW (bA s a cp l os ts).ws r (gX {l with aD:=l.aD++[fU l cp os]})))} rfl rfl rfl (by rw[E,List.set_set]);refine⟨x _ le.2.2.2 st,λk J g O=>?_⟩;have O:eU (kJ ns rs o (bA s a cp l os ts).ws k) ((bA s a cp l os ts).R k) g:=O;rw[le.1,le.2.1] at O;have b:=h.ld k J g O;have A:∀c,s.groups[c]?=some k->(bA s a cp l os ts).aO.getD c 0=s.aO.getD c 0:=λc _=>by rw[le.2.2.1]
  refine⟨λt f=>?_,λc u d H C D=>?_⟩
  ·have old:t∈s.ts k->∃h c r:Nat,t=((h:Int),(c:Int),(r:Int))/\Led rs g _ k h c r:=λz=>by
    obtain⟨K,c',r',e',q⟩:=b.nt t z;exact⟨K,c',r',e',q.of le.2.2.2 A⟩
   have f:t∈(bA s a cp l os ts).ts k:=f;unfold bA at f;split at f
   ·exact old f
   ·rename_i no
    have f:t∈fD s.ts l.grp ts k:=f;by_cases z:k=l.grp
    ·subst z
     rw[bS] at f;have f:=pt.mem_iff.mp f;unfold put3 at f;rcases br.mp f with w'|w'
     ·exact old (bC.mp w').1
     ·refine⟨cp.h,l.s,cp.r,bq.mp w',?_⟩
      exact (b.cp cp M l hl rfl (by simpa using no)).of le.2.2.2 A
    ·rw[cZ z] at f
     exact old f
  ·obtain⟨e,j,v,w,B⟩:=st c.l d H
   have u:c∈(bA s a cp l os ts).cps++_:=u;rw[ec] at u;rcases br.mp u with z|z
   ·have:=(b.cp c (List.mem_of_mem_eraseIdx z) e j (w.trans C) (B.trans D)).of le.2.2.2 A
    rw[v] at this;exact this
   ·obtain⟨r,V,rfl⟩:=aL.mp z
    have j:s.ls[cp.l]?=some e:=j;rw[hl] at j;cases j;have ek:l.grp=k:=w.trans C;subst ek;have W:=Q.uniq O;subst W;have q:=b.cp cp M l hl rfl (B.trans D);obtain⟨L,P,g3⟩:=N r V;obtain⟨X,b2,_⟩:=F.back L P;have Z:cp.r≠r:=λz=>g3 (by rw[z]);have U:=F.avoid q.1 q.2.1 P q.2.2.2;have Y:Rw rs os r cp.h (eN rs cp.r cp.h):=.step .refl q.1 Z q.2.1;have S:Led rs os s l.grp (eN rs r cp.h) l.s r:=⟨L,X,q.2.2.1,by rw[b2];exact Y.trans U⟩
    have:=S.of le.2.2.2 A
    rw[v] at this;exact this
 ·have st:=m (j8 s a cp l os) {l with aD:=l.aD++[fU l cp os]} rfl rfl rfl rfl
  refine⟨x _ rfl st,λk J g O=>?_⟩;refine (h.ld k J g O).of (λt h=>h) rfl (λ_ _=>rfl) λc u d H C D=>?_;obtain⟨e,j,v,w,B⟩:=st c.l d H;exact⟨List.mem_of_mem_eraseIdx u,e,j,v,w.trans C,B.trans D⟩
theorem aec{o:cX ns rs}{cl:List (Nat×Nat)}:Ld o (S0 ns rs cl):=⟨λl h=>(by cases h),λg _ os _=>⟨λt h=>(by cases h),λc h=>(by cases h)⟩⟩
end
section
variable{P:Program}{w:World}{K:af}{mg:Str->Option Value}{base:Heap}
noncomputable def dD(d:dN):PyData:=.tuple (.str (dW d)::(dI d).map .int)
theorem EI{H:Hp}:∀{qs:List Addr} {ds:List dN},dF K H qs (ds.map dN.vs)->cW K H (ds.map dD) (qs.map V.ref)
 |[],[],_=>rfl
 |[],_::_,h=>by cases h.len
 |_::_,[],h=>by cases h.len
 |q::qs,d::ds,h=>⟨.ref q,qs.map V.ref,rfl,⟨q,V.str (dW d)::(dI d).map V.int,rfl,by rw[<- LL];exact h.at' 0 q _ rfl rfl,⟨_,_,rfl,rfl,ue _⟩⟩,EI ⟨Nat.succ.inj h.len,λi p x a b=>h.at' (i+1) p x a b⟩⟩
theorem XZ(d:dN):PyData.strOk (dW d)=true:=by
 cases d
 ·exact (by decide +kernel:PyData.strOk "post" = true)
 ·exact (by decide +kernel:PyData.strOk "come" = true)
 ·exact (by decide +kernel:PyData.strOk "hand" = true)
 ·exact (by decide +kernel:PyData.strOk "send" = true)
 ·exact (by decide +kernel:PyData.strOk "twice" = true)
 ·exact (by decide +kernel:PyData.strOk "lost" = true)
theorem AU:∀ds:List dN,PyData.canLayAll0 (ds.map dD)=true
 |[]=>rfl
 |d::ds=>by
  show ((PyData.strOk (dW d)&&PyData.canLayAll0 ((dI d).map .int))&&PyData.canLayAll0 (ds.map dD))=true;rw[AU ds,pT,XZ];rfl
theorem Im:∀ds:List dN,PyData.depthAll (ds.map dD)<=1
 |[]=>!_
 |d::ds=>by
  show max (max 0 (PyData.depthAll ((dI d).map .int))+1) (PyData.depthAll (ds.map dD))<=1
  have:=Im ds
  have:=vO (dI d)
  lia
noncomputable def X0(t:T3):PyData:=.tuple (([t.1,t.2.1,t.2.2]:List Int).map .int)
theorem Io{H:Hp}:∀{qs:List Addr} {us:List T3},fT K H qs us->cW K H (us.map X0) (qs.map V.ref)
 |[],[],_=>rfl
 |[],_::_,h=>by cases h.1
 |_::_,[],h=>by cases h.1
 |q::qs,u::us,h=>⟨.ref q,qs.map V.ref,rfl,Rep.JB (ns:=[u.1,u.2.1,u.2.2]) (h.2 0 q u rfl rfl),Io ⟨Nat.succ.inj h.1,λi p x a b=>h.2 (i+1) p x a b⟩⟩
theorem Dz:∀us:List T3,PyData.canLayAll0 (us.map X0)=true
 |[]=>rfl
 |u::us=>by
  show (PyData.canLayAll0 (([u.1,u.2.1,u.2.2]:List Int).map .int)&&PyData.canLayAll0 (us.map X0))=true;rw[Dz us,pT];rfl
theorem Kc:∀us:List T3,PyData.depthAll (us.map X0)<=1
 |[]=>!_
 |u::us=>by
  show max (PyData.depthAll (([u.1,u.2.1,u.2.2]:List Int).map .int)+1) (PyData.depthAll (us.map X0))<=1
  have:=Kc us
  have:=vO [u.1,u.2.1,u.2.2]
  lia
end
section
variable{K:af}{H H' H2:Hp}{G:Addr->Prop}
def n7(H:Hp)(G:Addr->Prop):Prop:=∀b,G b->∃o,H b=some o/\yo o
end
section
theorem LM(y:Int){n:Nat}(h:0<n):∃x:Nat,y%(n:Int)=(x:Int)/\x<n:=by
 have a:=bU y (show (n:Int)≠0 by lia);have b:=ck y (show (0:Int)<(n:Int) by lia);exact⟨(y%(n:Int)).toNat,∅,∅⟩
end
section
variable{ns:List Int}{rs:List R5}{os:List Nat}{s:NS}
theorem VJ(F:Fo ns rs os){l:LS}{e:En}:(Aw rs s l e.h e.by? os).Nodup/\∀r∈Aw rs s l e.h e.by? os,r∈goes rs os e:=by
 have a:((((os.filter (isAt rs e.h)).map λk:Nat=>(k:Int)).filter (gy (e.by?.map λk:Nat=>(k:Int)))).map Int.toNat).Nodup/\∀r∈(((os.filter (isAt rs e.h)).map λk:Nat=>(k:Int)).filter (gy (e.by?.map λk:Nat=>(k:Int)))).map Int.toNat,r∈goes rs os e:=by
  rw[XU];exact⟨XW F,λ_ h=>h⟩
 unfold Aw DA;split
 ·exact a
 ·split
  ·exact⟨k8,λr b=>by cases b⟩
  ·split
   ·rename_i q _
    split
    ·rename_i i
     have sub:∀r∈([q].filter (gy (e.by?.map λk:Nat=>(k:Int)))).map Int.toNat,r∈goes rs os e:=λr b=>by
      refine a.2 r ?_;obtain⟨y,g,d⟩:=aL.mp b;obtain⟨f,c⟩:=bC.mp g;rw[bq.mp f] at d c;exact aL.mpr ⟨q,bC.mpr ⟨i,c⟩,d⟩
     refine⟨?_,sub⟩;rw[fj];split <;> simp
    ·exact a
   ·exact a
theorem WJ.Qn(F:Fo ns rs os){f:Nat}{D i:List En}(w:WJ ns rs os f D i):(D++i).length<=rs.length+1:=by
 have l:∀L:List En,(L.map (·.h)).Nodup->(∀e∈L,e∈D++i)->(∀e∈L,e.fr≠none)->L.length<=rs.length:=λL nd sub fr=>by
  have p:(L.map λe=>e.by?.getD rs.length).Nodup:=by
   rw[List.Nodup,List.pairwise_map] at nd ⊢;refine List.Pairwise.imp_of_mem ?_ nd;intro a b E H R u;cases t:a.fr with
   |none=>exact fr a E t
   |some J =>
    cases s:b.fr with
    |none=>exact fr b H s
    |some M =>
     obtain⟨v,K⟩:=J;obtain⟨N,U⟩:=M;have Q:v=N:=by
      unfold En.by? at u;rw[t,s] at u;exact u
     subst Q;obtain⟨C,x,T,_,S⟩:=w.fr a (sub a E) _ _ t;obtain⟨V,I,y,_,G⟩:=w.fr b (sub b H) _ _ s;rcases F.two C x I with z|z
     ·rw[z] at y
      exact R (T.symm.trans y)
     ·rw[z] at G
      exact F.cut v C K x ((F.symm S).trans G)
  have O:∀r∈L.map (λe=>e.by?.getD rs.length),r∈aA rs.length:=λr n=>by
   obtain⟨e,c,g⟩:=aL.mp n;cases z:e.fr with
   |none=>exact eL z (fr e c)
   |some q =>
    obtain⟨P,W⟩:=q;unfold En.by? at g;rw[z] at g;have g:P=r:=g;subst g;exact dm.mpr (F.lt _ (w.fr e (sub e c) _ _ z).1)
  have:=p.length_le_of_subset O
  rwa [ah,bB] at this
 by_cases n:∃e∈D++i,e.fr=none
 ·obtain⟨e,c,g⟩:=n
  obtain⟨A,B,j⟩:=List.append_of_mem c;have nd:=w.nd;rw[j] at nd ⊢;have pm:(A++e::B).Perm (e::(A++B)):=List.perm_middle;have d:((e::(A++B)).map (·.h)).Nodup:=(pm.map _).nodup_iff.mp nd;rw[bN,mG] at d;have k:∀m∈A++B,m∈D++i:=λm o=>by
   rw[j];exact pm.mem_iff.mpr (bu _ o)
  have:=l (A++B) d.2 k λm o z=>d.1 (by
   rw[w.f0 e c g,<- w.f0 m (k m o) z];exact kj o)
  rw[pm.length_eq];simp only[bx];lia
 ·have:=l (D++i) w.nd (λe c=>c) λe c z=>n ⟨e,c,z⟩
  lia
structure J5(ns:List Int)(rs:List R5)(os:List Nat)(i g num:Nat)(D:List En)(s:NS):Prop where
 all:∀c∈s.cps,c.l=i
 wj:∃f,WJ ns rs os f D (s.cps.map (EH rs))
 lt:∃l,s.ls[i]?=some l/\l.done=D.map (·.h)/\l.grp=g/\gX l=num
def Wd(os:List Nat)(ws:List (List Nat))(num:Nat)(ds:List dN):Prop:=∀d∈ds,∀h r x,d=.send h r x->r∈os/\x=gW ws r num
theorem Zn{h num:Nat}{g f:List Nat}{b:List (List Nat)}(l:∀r∈f,r∈os):Wd os b num (g.map (dN.hand h)++f.map λr=>.send h r (gW b r num)):=λd i n r x e=>by
 rcases br.mp i with z|z
 ·obtain⟨c,_,k⟩:=aL.mp z
  rw[<- k] at e;cases e
 ·obtain⟨m,a,j⟩:=aL.mp z
  rw[<- j] at e;cases e;exact⟨l _ a,rfl⟩
theorem ND(F:Fo ns rs os){i h num:Nat}{e:En}(d:e.h=h){a:List Nat}{j:List (List Nat)}(f:∀r∈a,r∈goes rs os e):(a.map λr=>(⟨i,r,gW j r num,eN rs r h⟩:Cp)).map (EH rs)=a.map (nx rs e):=by
 rw[dw];refine c6 λr g=>?_;obtain⟨b,c,_⟩:=qh.mp (f r g);subst d;show (⟨eN rs r e.h,some (r,eN rs r (eN rs r e.h))⟩:En)=⟨eN rs r e.h,some (r,e.h)⟩;rw[(F.back b c).2.1]
theorem J5.post{n m t x:Nat}{to:Option Nat}(F:Fo ns rs os)(D:Bd n m t s)(y:n=ns.length)(k:x<s.aO.length)(u:s.cps=[]) :
 ∃l,(c5 rs s x to os).ls[s.ls.length]?=some l/\J5 ns rs os s.ls.length (s.groups.getD x 0) (gX (cE s x to)) [⟨s.aO.getD x 0,none⟩] (c5 rs s x to os)/\Wd os s.ws (gX (cE s x to)) l.aD/\(c5 rs s x to os).ls.length=s.ls.length+1:=by
 have p:s.aO.getD x 0<ns.length:=by
  rw[<- y];refine D.hm _ ?_;rw[az,aa k];exact aQ k
 generalize j:s.aO.getD x 0=f at p;have z:c5 rs s x to os=Nm rs (gj s x to) s.ls.length f {cE s x to with aD:=[.post f]} none os:=by unfold c5;rw[j]
 obtain⟨E,I⟩:=uG (rs:=rs) (os:=os) (h:=f) (aU:=none) (s:=gj s x to) (i:=s.ls.length) (l:={cE s x to with aD:=[.post f]}) (by show (s.ls++[_])[s.ls.length]?=_;rw[j];exact iB);have go:(Aw rs (gj s x to) {cE s x to with aD:=[.post f]} f none os).Nodup/\∀r∈Aw rs (gj s x to) {cE s x to with aD:=[.post f]} f none os,r∈goes rs os ⟨f,none⟩:=VJ (e:=⟨f,none⟩) F;rw[z,I];generalize Aw rs (gj s x to) {cE s x to with aD:=[.post f]} f none os=gs at go;generalize iA (gj s x to) {cE s x to with aD:=[.post f]} f=hs;have o:∀g,(gj s x to).ls.set s.ls.length g=s.ls++[g]:=λg=>by
  show (s.ls++[_]).set s.ls.length g=_;rw[vK _ _ (ay _),iY];rfl
 have J:∀G H,gX {cE s x to with aD:=G,done:=H}=gX (cE s x to):=λ_ _=>rfl;have w:=(WJ.zero (rs:=rs) (os:=os) p).next (A:=[]) (B:=[]) F go.1 go.2;have q:(gj s x to).cps++gs.map (λr=>(⟨s.ls.length,r,gW s.ws r (gX (cE s x to)),eN rs r f⟩:Cp))=gs.map λr=>⟨s.ls.length,r,gW s.ws r (gX (cE s x to)),eN rs r f⟩:=by
  show s.cps++_=_;rw[u];rfl
 obtain⟨L,b⟩:∃L:LS,L={cE s x to with done:=nV [] f,aD:=[.post f]++(hs.map (dN.hand f)++gs.map λr=>.send f r (gW s.ws r (gX (cE s x to))))}:=⟨_,rfl⟩;refine⟨L,?_,⟨λc a=>?_,⟨f,?_⟩,L,?_,by rw[b];rfl,by rw[b];rfl,by rw[b];rfl⟩,?_,?_⟩
 ·show ((gj s x to).ls.set s.ls.length _)[s.ls.length]?=_
  rw[o,b];exact iB
 ·have a:c∈(gj s x to).cps++gs.map λr=>(⟨s.ls.length,r,gW s.ws r (gX (cE s x to)),eN rs r f⟩:Cp):=a
  rw[q] at a;obtain⟨r,_,rfl⟩:=aL.mp a;rfl
 ·show WJ ns rs os f _ (((gj s x to).cps++gs.map λr=>(⟨s.ls.length,r,gW s.ws r (gX (cE s x to)),eN rs r f⟩:Cp)).map (EH rs))
  rw[q,ND F (e:=⟨f,none⟩) rfl go.2];exact w
 ·show ((gj s x to).ls.set s.ls.length _)[s.ls.length]?=_
  rw[o,b];exact iB
 ·rw[b]
  intro d hd h r v e;rcases bf.mp hd with rfl|hd
  ·cases e
  ·exact Zn (λr C=>(qh.mp (go.2 r C)).1) d hd h r v e
 ·show ((gj s x to).ls.set s.ls.length _).length=_
  rw[bT];exact av
theorem J5.pass{i g num:Nat}{D:List En}{cp:Cp}{l:LS}{ts:List T3}(F:Fo ns rs os)(j:J5 ns rs os i g num D s)(b:s.cps[0]?=some cp)(hl:s.ls[cp.l]?=some l) :
 uF l cp os = "come" /\ ∃e m o,J5 ns rs os i g num (D++[e]) (gk rs s 0 cp l os ts)/\(gk rs s 0 cp l os ts).ls[i]?=some m/\m.aD=l.aD++o/\Wd os s.ws num o/\(gk rs s 0 cp l os ts).ls.length=s.ls.length:=by
 obtain⟨f,wj⟩:=j.wj;obtain⟨l0,I,N,Z,J⟩:=j.lt;have t:=j.all cp (aM b);rw[t,I] at hl;cases hl;obtain⟨rest,u⟩:∃rest,s.cps=cp::rest:=by
  cases e:s.cps with
  |nil=>rw[e] at b;cases b
  |cons c r=>rw[e] at b;cases b;exact⟨r,rfl⟩
 rw[u,bN] at wj;generalize K:EH rs cp=e at wj;have n:e.h=cp.h:=by rw[<- K];rfl
 have L:e.fr=some (cp.r,eN rs cp.r cp.h):=by rw[<- K];rfl
 have V:e.by?=some cp.r:=by unfold En.by?;rw[L];rfl
 have H:e∈D++e::rest.map (EH rs):=-_
 obtain⟨E,q2,q3,q4,q5⟩:=wj.fr e H _ _ L;have nd:e.h∉l.done:=λz=>by
  rw[N] at z;obtain⟨y,R,X⟩:=aL.mp z;exact Il wj.nd (-_) y R X
 have k:Av l cp.h=false:=by rw[NB rfl,<- n];exact fy nd
 have v:comes l cp os=true:=by
  unfold comes;rw[k,e8 E];rfl
 refine⟨by unfold uF;rw[ee E,k,er (!_)],e,?_⟩;have G:fU l cp os=.Iz cp.h cp.r:=by
  unfold fU;rw[k,ee E,er (!_)]
 have p:s.ls[cp.l]?=some l:=by rw[t];exact I
 have C:=(ai.mp p).1;have x:=jf (a:=0) (os:=os) (ts:=ts) p;obtain⟨P,Q⟩:=uG (rs:=rs) (os:=os) (h:=cp.h) (aU:=some cp.r) x;have go:=VJ (s:=bA s 0 cp l os ts) (l:={l with aD:=l.aD++[fU l cp os]}) (e:=e) F;rw[V,n] at go;unfold gk;rw[ee v,Q];generalize Aw rs (bA s 0 cp l os ts) {l with aD:=l.aD++[fU l cp os]} cp.h (some cp.r) os=gs at go;generalize iA (bA s 0 cp l os ts) {l with aD:=l.aD++[fU l cp os]} cp.h=hs;have W:(bA s 0 cp l os ts).ws=s.ws:=t8.1;have S:(bA s 0 cp l os ts).cps=rest:=by
  unfold bA;split
  ·show s.cps.eraseIdx 0=rest
   rw[u];rfl
  ·show s.cps.eraseIdx 0=rest
   rw[u];rfl
 have M:(bA s 0 cp l os ts).ls.length=s.ls.length:=by
  unfold bA;split
  ·exact bT
  ·exact bT
 have Y:gX {l with aD:=l.aD++[fU l cp os]}=num:=J;rw[W,S,Y];have w:=wj.next (A:=[]) (B:=rest.map (EH rs)) F go.1 go.2;have q:∀m,((bA s 0 cp l os ts).ls.set cp.l m)[i]?=some m:=λm=>by
  rw[<- t,uL,ee rfl,ee (by rw[M];exact C)]
 refine⟨_,[.Iz cp.h cp.r]++(hs.map (dN.hand cp.h)++gs.map λr=>.send cp.h r (gW s.ws r num)),⟨λc T=>?_,⟨f,?_⟩,_,q _,?_,Z,J⟩,q _,?_,?_,?_⟩
 ·rcases br.mp T with z|z
  ·exact j.all c (by rw[u];exact bu _ z)
  ·obtain⟨r,_,rfl⟩:=aL.mp z
   exact t
 ·show WJ ns rs os f _ ((rest++gs.map λr=>(⟨cp.l,r,gW s.ws r num,eN rs r cp.h⟩:Cp)).map (EH rs))
  rw[aT,ND F n go.2];exact w
 ·show nV l.done cp.h=_
  unfold nV;rw[er (by rw[<- n];exact nd),N,aT,<- n];rfl
 ·show (l.aD++[fU l cp os])++_=_
  rw[G,cF]
 ·intro d hd h r U e
  rcases bf.mp hd with rfl|hd
  ·cases e
  ·exact Zn (λr O=>(qh.mp (go.2 r O)).1) d hd h r U e
 ·show ((bA s 0 cp l os ts).ls.set cp.l _).length=_
  rw[bT];exact M
theorem J5.len(F:Fo ns rs os){i g num:Nat}{D:List En}(j:J5 ns rs os i g num D s):D.length+s.cps.length<=rs.length+1:=by
 obtain⟨f,wj⟩:=j.wj
 have:=wj.Qn F
 rwa [av,ah] at this
end
section
variable{ns:List Int}{rs:List R5}{bs:List (List Bool)}{cl:List (Nat×Nat)}{os:Nat->List Nat}{Ls:List (Nat×Option Nat)}{b D:Nat}{s:NS}
theorem VL{a:Nat}{cp:Cp}{l:LS}{os:List Nat}{ts:List T3}(hl:s.ls[cp.l]?=some l):(gk rs s a cp l os ts).ls.length=s.ls.length:=by
 unfold gk;split
 ·obtain⟨c,b⟩:=uG (rs:=rs) (os:=os) (h:=cp.h) (aU:=some cp.r) (jf (a:=a) (os:=os) (ts:=ts) hl)
  rw[b];show ((bA s a cp l os ts).ls.set _ _).length=_;rw[bT];unfold bA;split <;> exact bT
 ·exact bT
theorem aed{o:cX ns rs}{g:Nat}{os:List Nat}(h:Ld o s)(d:g<3)(O:eU (kJ ns rs o s.ws g) (s.R g) os):NL rs os s.aO (s.ts g):=λt a=>by
 obtain⟨b,c,r,e,q⟩:=(h.ld g d os O).nt t a;exact⟨b,c,r,e,q.1,q.2.1,q.2.2.2⟩
theorem SG{a:Nat}{cp:Cp}{l:LS}{os:List Nat}{ts:List T3}(hl:s.ls[cp.l]?=some l):(gk rs s a cp l os ts).ws=s.ws/\(gk rs s a cp l os ts).R=s.R/\(gk rs s a cp l os ts).aO=s.aO/\(gk rs s a cp l os ts).groups=s.groups:=by
 unfold gk;by_cases c:comes l cp os=true
 ·rw[ee c]
  obtain⟨j,f,i,b⟩:=t8 (s:=s) (a:=a) (cp:=cp) (l:=l) (os:=os) (ts:=ts);obtain⟨e,d,g,k⟩:=PD (rs:=rs) (h:=cp.h) (aU:=some cp.r) (os:=os) (jf (a:=a) (os:=os) (ts:=ts) hl);exact⟨e.trans j,d.trans f,g.trans i,k.trans b⟩
 ·rw[er c]
  exact⟨rfl,rfl,rfl,rfl⟩
end
section
structure EJ(ns:List Int)(rs:List R5)(o:cX ns rs)(bs:List (List Bool))(cl:List (Nat×Nat))(D:Nat)(s:NS):Prop extends SD ns rs bs cl D s where
 ld:Ld o s
variable{ns:List Int}{rs:List R5}{o:cX ns rs}{bs:List (List Bool)}{cl:List (Nat×Nat)}{D:Nat}{s s':NS}
theorem EJ.b0(h:EJ ns rs o bs cl D s):SD ns rs bs cl D s:=⟨h.ok,h.bd,h.ws,h.fit,h.hm,h.gr⟩
theorem EJ.mono{a:Nat}(h:EJ ns rs o bs cl D s)(e:D<=a):EJ ns rs o bs cl a s:=⟨h.b0.mono e,h.ld⟩
theorem EJ.call{g x:Nat}{d:RM.Row}(h:EJ ns rs o bs cl D s)(a:BC ns.length rs.length d):EJ ns rs o bs cl D (FD s g x d):=⟨h.b0.call a,h.ld.call⟩
theorem EJ.post{x:Nat}{to:Option Nat}{os:List Nat}(h:EJ ns rs o bs cl D s)(b:x<s.aO.length)(O:eU (kJ ns rs o s.ws (s.groups.getD x 0)) (s.R (s.groups.getD x 0)) os)(a:os.length<=12):EJ ns rs o bs cl (D+100) (c5 rs s x to os):=⟨h.b0.post o b O a,h.ld.post b (by rw[h.bd.gl];exact b) (λc d=>(h.bd.cl c d).1) O⟩
theorem EJ.pass{a:Nat}{cp:Cp}{l:LS}{os:List Nat}{ts:List T3}(h:EJ ns rs o bs cl D s)(hl:s.ls[cp.l]?=some l)(b:s.cps[a]?=some cp)(O:eU (kJ ns rs o s.ws l.grp) (s.R l.grp) os)(d:os.length<=12)(p:ts.Perm (put3 (s.ts l.grp) cp.h l.s cp.r))(e:bX ts):EJ ns rs o bs cl (D+100) (gk rs s a cp l os ts):=⟨h.b0.pass o hl (ai.mp b).1 O d p e,h.ld.pass (λc f=>(h.bd.cl c f).1) b hl (h.bd.lb l (aM hl)).2.2.1 O p⟩
inductive Pz(ns:List Int)(rs:List R5)(o:cX ns rs):Nat->NS->NS->Prop
 |refl {s:NS}:Pz ns rs o 0 s s
 |step {n:Nat} {s s':NS} {cp:Cp} {l:LS} {os:List Nat} {ts:List T3}:Pz ns rs o n s s'->s'.cps[0]?=some cp->s'.ls[cp.l]?=some l->eU (kJ ns rs o s'.ws l.grp) (s'.R l.grp) os->os.length<=12->ts.Perm (put3 (s'.ts l.grp) cp.h l.s cp.r)->bX ts->Pz ns rs o (n+1) s (gk rs s' 0 cp l os ts)
theorem Pz.sd{n:Nat}(z:Pz ns rs o n s s')(h:EJ ns rs o bs cl D s):EJ ns rs o bs cl (D+100*n) s':=by
 induction z with
 |refl=>exact h
 |step z b e O a p c d=>exact (d h).pass e b O a p c
theorem Pz.same{n:Nat}(z:Pz ns rs o n s s'):s'.ws=s.ws/\s'.R=s.R/\s'.aO=s.aO/\s'.groups=s.groups/\s'.ls.length=s.ls.length:=by
 induction z with
 |refl=>exact⟨rfl,rfl,rfl,rfl,rfl⟩
 |step z g b O q p r f =>
  obtain⟨e,d,i,l⟩:=SG (rs:=rs) (a:=0) (os:=_) (ts:=_) b;obtain⟨k,h,j,c,m⟩:=f;exact⟨e.trans k,d.trans h,i.trans j,l.trans c,(VL b).trans m⟩
theorem Pz.j5{n i g num:Nat}{os:List Nat}{E0:List En}(z:Pz ns rs o n s s')(O:eU (kJ ns rs o s.ws g) (s.R g) os)(j:J5 ns rs os i g num E0 s):∃E:List En,E.length=n/\J5 ns rs os i g num (E0++E) s':=by
 induction z with
 |refl=>exact⟨[],rfl,by rw[bY];exact j⟩
 |step z a f c v p x m =>
  obtain⟨E,k,b⟩:=m O j;obtain⟨u,r,_⟩:=z.same;obtain⟨C,d,y,l,B⟩:=b.lt;have h:=b.all _ (aM a);rw[h,d] at f;cases f;rw[l,u,r] at c;have q:=c.uniq O;subst q;obtain⟨_,e,A,w,t,_⟩:=J5.pass (Fo.of O) b a (by rw[h];exact d);exact⟨E++[e],by rw[av,k];rfl,by rw[<- cF];exact t⟩
theorem Pz.len{n i g num:Nat}{os:List Nat}{E0:List En}(z:Pz ns rs o n s s')(O:eU (kJ ns rs o s.ws g) (s.R g) os)(j:J5 ns rs os i g num E0 s):E0.length+n+s'.cps.length<=rs.length+1:=by
 obtain⟨E,b,a⟩:=z.j5 O j
 have:=a.len (Fo.of O)
 rw[av,b] at this;exact this
theorem LN{ls:List LS}{i:Nat}(h:i<ls.length)(l:LS):(ls.set i l)[i]?=some l:=by rw[uL,ee rfl,ee h]
end
section
variable{P:Program}{w:World}{K:af}{mg:Str->Option Value}{base:Heap}
noncomputable abbrev aee(cl:List (Nat×Nat)):List (List V):=cl.map λc=>[.int c.1,.int c.2]
inductive Ip(K:af)(CT:Addr)(c:NC)(vs:List V)(H:Hp)(Q:VK)(E:XK):Prop
 |mk (F:Addr->Prop) (p tp ln lr:Addr) (ns:List Int) (rs:List R5) (o:cX ns rs) (bs:List (List Bool)) (cl:List (Nat×Nat)) (D:Nat) (s:NS) (g:Nat):vs=[.ref p,.int (ns.length:Nat),.int g]->NW K c CT H F p tp ln lr ns rs s->EJ ns rs o bs cl D s->g<3->(∀s' F' H',NW K c CT H' F' p tp ln lr ns rs s'->EJ ns rs o bs cl D s'->Step H F H' F'->Q .fH H')->Ip K CT c vs H Q E
theorem NF{t:Ad}(T:Txt K mg t):cz P w K mg base iM 5 t.sR t.xE ["_law_net","_law_size","_law_group"]  (Ip K t.bD (nc t)):=by
 refine T.Hi.F.kh zH λH Q E Z h=>?_
 ·obtain⟨F,p,A,C,L,ns,y,o,S,U,D,st,g,rfl,N,sd,Y,k⟩:=h
  refine⟨_,(bI (fS (gB rfl T.jy (gV (bw Tp aB (pv 1)))) (gT 3 zH) (bI (fS (gB rfl T.jy (gV (pv 1))) (gT 4 zH) (oE (cM (pv 0) T.bV T.Hg (Nj T) Z (nZ (bw dZ (bw fB (pv 4) (pv 3)) (pv 1)) (pv 2)))))))),?_⟩
  left
  have LQ:=o.LQ;have n1:=o.n1;refine⟨_,rfl,_,_,rfl,rfl,.inl ⟨!_,!_⟩,2*(ns.length:Int),rfl,∅,∅,vM (n:=(2*(ns.length:Int)).toNat) (λi e u=>∃(s:NS) (l:Addr->Prop) (I b:Option V),NW K (nc t) t.bD u l p A C L ns y s/\EJ ns y o S U D s/\Step H F u l/\e=[some (.ref p),some (.int (ns.length:Nat)),some (.int g),I,b]) ⟨st,F,_,_,N,sd,Step.refl' (aG.refl _),rfl⟩ ?_ ?_⟩
  ·rintro i e u hi ⟨s,l,I,b,B,G,c,rfl⟩
   refine⟨_,rfl,(ns.length:Int),rfl,∅,∅,vM (n:=(ns.length:Int).toNat) (λj e z=>∃(m:NS) (r:Addr->Prop) (b:Option V),NW K (nc t) t.bD z r p A C L ns y m/\EJ ns y o S U D m/\Step H F z r/\e=[some (.ref p),some (.int (ns.length:Nat)),some (.int g),some (.int (0+(i:Int))),b]) ⟨s,l,_,B,G,c,rfl⟩ ?_ ?_⟩
   ·rintro j e z hj ⟨m,r,b,v,a,f,rfl⟩
    obtain⟨loc,dx,q,hp,O,hF,hT⟩:=id v.fC;have M:=O.get .fC _ rfl;rw[hp] at M;have J:(0:Int)<=(0+(j:Int)+(0+(i:Int)))%(ns.length:Int):=bU _ ∅;have hm1:(0+(j:Int)+(0+(i:Int)))%(ns.length:Int)<(ns.length:Int):=ck _ ∅;obtain⟨x,W⟩:∃x:Nat,(0+(j:Int)+(0+(i:Int)))%(ns.length:Int)=(x:Int):=⟨_,(Int.toNat_of_nonneg J).symm⟩;have X:x<ns.length:=∅
    refine⟨_,rfl,p,_,_,rfl,M,rfl,_,rfl,_,rfl,_,_,rfl,rfl,_,rfl,_,_,rfl,rfl,∅,?_⟩
    try dsimp only
    rw[W];refine⟨_,rfl,r,p,A,C,L,ns,y,m,o,x,g,rfl,v,a.ok,X,Y,λd F4 H4 hd hf N4 R=>?_⟩;exact⟨_,F4,_,v.done R N4,a.call hf,f.trans R,rfl⟩
   ·rintro e z ⟨m,r,b,v,a,f,rfl⟩
    exact⟨m,r,_,_,v,a,f,rfl⟩
  ·rintro e u ⟨s,l,I,b,B,G,c,rfl⟩
   exact k s l u B G c
end
section
structure Eqv(a b:NS):Prop where
 ws:a.ws=b.ws
 R:a.R=b.R
 hm:a.aO=b.aO
 gr:a.groups=b.groups
 ls:a.ls=b.ls
 cps:a.cps=b.cps
 ts:∀g,(a.ts g).Perm (b.ts g)
variable{ns:List Int}{rs:List R5}{o:cX ns rs}{bs:List (List Bool)}{cl:List (Nat×Nat)}{D:Nat}{s a b:NS}
theorem Eqv.refl:Eqv a a:=⟨rfl,rfl,rfl,rfl,rfl,rfl,λ_=>.refl _⟩
theorem BE{xs a:List T3}(p:xs.Perm a)(d:bX xs)(b:bX a){h c:Int}:jK xs h c=jK a h c:=by
 refine Option.ext λr=>?_;rw[mz d,mz b];exact p.mem_iff
theorem Eqv.here(e:Eqv a b){h g:Nat}:oh a h g=oh b h g:=by
 unfold oh Co;rw[e.hm,e.gr]
theorem Eqv.go(e:Eqv a b){l:LS}{h:Nat}{aU:Option Nat}{os:List Nat}(d:bX (a.ts l.grp))(c:bX (b.ts l.grp)):Aw rs a l h aU os=Aw rs b l h aU os:=by
 unfold Aw;rw[e.here];unfold DA;simp only[BE (e.ts l.grp) d c]
theorem Eqv.do_(e:Eqv a b){i h:Nat}{l:LS}{aU:Option Nat}{os:List Nat}(hl:a.ls[i]?=some l)(k:bX (a.ts l.grp))(j:bX (b.ts l.grp)):Eqv (Nm rs a i h l aU os) (Nm rs b i h l aU os):=by
 obtain⟨m,g⟩:=uG (rs:=rs) (os:=os) (h:=h) (aU:=aU) hl;obtain⟨n,f⟩:=uG (rs:=rs) (os:=os) (h:=h) (aU:=aU) (s:=b) (i:=i) (l:=l) (by rw[<- e.ls];exact hl);have c:=e.go (rs:=rs) (l:=l) (h:=h) (aU:=aU) (os:=os) k j;have d:iA a l h=iA b l h:=by unfold iA;rw[e.here]
 rw[g,f];refine⟨e.ws,e.R,e.hm,e.gr,?_,?_,e.ts⟩
 ·show a.ls.set i _=b.ls.set i _
  rw[e.ls,c,d,e.ws]
 ·show a.cps++_=b.cps++_
  rw[e.cps,c,e.ws]
theorem SH(e:Eqv a b){cp:Cp}{l:LS}{os:List Nat}{ts ts':List T3}(p:ts.Perm ts'):Eqv (bA a 0 cp l os ts) (bA b 0 cp l os ts'):=by
 have c:Eqv (j8 a 0 cp l os) (j8 b 0 cp l os):=by
  refine⟨e.ws,e.R,e.hm,e.gr,?_,?_,e.ts⟩
  ·show a.ls.set cp.l _=b.ls.set cp.l _
   rw[e.ls]
  ·show a.cps.eraseIdx 0=b.cps.eraseIdx 0
   rw[e.cps]
 unfold bA;split
 ·exact c
 ·refine⟨c.ws,c.R,c.hm,c.gr,c.ls,c.cps,λg=>?_⟩
  show (fD (j8 a 0 cp l os).ts l.grp ts g).Perm (fD (j8 b 0 cp l os).ts l.grp ts' g);by_cases z:g=l.grp
  ·subst z
   rw[bS,bS];exact p
  ·rw[cZ z,cZ z]
   exact c.ts g
theorem NH{cp:Cp}{l:LS}{os:List Nat}{ts:List T3}(h:bX (s.ts l.grp))(a:bX ts):bX ((bA s 0 cp l os ts).ts l.grp):=by
 unfold bA;split
 ·exact h
 ·show bX (fD _ l.grp ts l.grp)
  rw[bS];exact a
theorem Pz.eqv{n:Nat}(f:Pz ns rs o n s a)(h:EJ ns rs o bs cl D s):∀{b:NS},Pz ns rs o n s b->Eqv a b:=by
 induction f with
 |refl =>
  intro b c;cases c;exact Eqv.refl
 |@step n s a q l os ts f d k O F p w x =>
  intro b c;cases c with
  |@step _ _ b v G u g c j i r y A m =>
   have e:=x h c;have C:=f.sd h;have B:=c.sd h;rw[e.cps,j] at d;cases d;have E:=k;rw[e.ls,i] at k;cases k;rw[e.ws,e.R] at O;have z:=O.uniq r;subst z;have t:ts.Perm g:=by
    refine p.trans (List.Perm.trans ?_ A.symm);unfold put3;exact List.Perm.append_right _ ((e.ts l.grp).filter _)
   unfold gk;split
   ·exact (SH e t).do_ (jf (a:=0) (os:=os) (ts:=ts) E) (NH (C.bd.tb l.grp).2 w) (NH (B.bd.tb l.grp).2 m)
   ·refine⟨e.ws,e.R,e.hm,e.gr,?_,?_,e.ts⟩
    ·show a.ls.set q.l _=b.ls.set q.l _
     rw[e.ls]
    ·show a.cps.eraseIdx 0=b.cps.eraseIdx 0
     rw[e.cps]
end
section
variable{P:Program}{w:World}{K:af}{mg:Str->Option Value}{base:Heap}
theorem OD(h a b:Int):CC (.int h) [.int a,.int b]=(decide (h=a) || decide (h=b)):=by
 have:=mR h [a,b]
 rw[show ([a,b]:List Int).map V.int=[.int a,.int b] from rfl] at this;rw[this];by_cases c:h=a <;> by_cases d:h=b <;> simp[c,d]
inductive NI(K:af)(vs:List V)(H:Hp)(Q:VK)(E:XK):Prop
 |mk (b lo d lh:Addr) (ns:List Int) (rs:List R5) (os:List Nat) (ts:List T3) (hs:List Nat) (h:Nat) (aU to:Option Nat):vs=[.ref b,.ref lo,.ref d,.ref lh,.int h,iE (aU.map λk:Nat=>(k:Int)),iE (to.map λk:Nat=>(k:Int))]->KN K H b rs->bP K H lo (bR os)->H d=some (.dT (ts.map fk))->bP K H lh (bR hs)->(∀k∈os,k<rs.length)->bX ts->rs.length<=20->os.length<=12->(∀t∈ts,∃h c r:Nat,t=((h:Int),(c:Int),(r:Int))/\r∈os/\isAt rs (h:Int) r=true)->(∀l H',aG H H'->H l=none->H' l=some (.lst ((DA ts (to.map λk:Nat=>(k:Int)) (h:Int) (aU.map λk:Nat=>(k:Int)) ((os.filter (isAt rs (h:Int))).map λk:Nat=>(k:Int)) (hs.map λk:Nat=>(k:Int))).map V.int))->Q (.ref l) H')->NI K vs H Q E
theorem SJ{t:Ad}(T:Txt K mg t):cz P w K mg base iM 1 t.zI t.CV ["_law_ropes_here","_law_opened","_law_notes","_law_here","_law_house","_law_came","_law_to"]  (NI K):=by
 refine T.MJ.F.kh D9 λH Q E hr h=>?_
 ·obtain⟨b,lo,d,lh,ns,rs,os,i,g,h,f,N,rfl,hB,hO,hd,hh,hlt,oe,VY,o12,led,k⟩:=h
  refine⟨_,(aq (cD (jW rW (pv 6) (pv 3) (by with_unfolding_all rfl)) (oR (jq iP)) bz) (aq (cD (PW.pt (Bs (qT Az (pv 6) iO) (wN (S8 (TZ (CF hr) (dU (nZ (pv 4) (pv 6))) (pv 2)) (by with_unfolding_all rfl))))) (oR (gq (kO D9 ["_law_rope","_law_came"] [none,some 5]) rfl (fV (jq (gV (P8 (CF hr) (pv 2) (dU (nZ (pv 4) (pv 6))) (λ_ _=>rfl))))) (λ_ _ _ _=>by exact (gS 0 K9)) (λ_ _ _ _=>by exact (mP (qT sf (pv 0) (pv 1)))) (λ_ _ _ _=>by exact (pv 0)))) bz) (oR (gq (kO D9 ["_law_rope","_law_came","_law_house","_law_ropes_here"] [none,some 5,some 4,some 0]) rfl (fV (pv 1)) (λ_ _ _ _=>by exact (gS 0 La)) (λ_ _ _ _=>by exact (mP (PW.pt (Bs (qT sf (pv 0) (pv 1)) (wN (jW (BA K rfl) (pv 2) (yQ (Ww K rfl) (yL K (pv 3) (pv 0)) Gg (wQ aB)) (by with_unfolding_all rfl))))))) (λ_ _ _ _=>by exact (pv 0)))))),?_⟩
  left
  obtain⟨u,hL,WU⟩:=id hB;have eus:u.length=rs.length:=by rw[WU.len,ah]
  rw[jJ] at hO hh;have fin:∀ot:Option Int,(DA i ot (h:Int) (f.map λk:Nat=>(k:Int)) ((os.filter (isAt rs (h:Int))).map λk:Nat=>(k:Int)) (g.map λk:Nat=>(k:Int))=((os.filter (isAt rs (h:Int))).map λk:Nat=>(k:Int)).filter (gy (f.map λk:Nat=>(k:Int))))->(os.map λk:Nat=>(k:Int)).filter (λx=>gy (f.map λk:Nat=>(k:Int)) x&&isAt rs (h:Int) x.toNat)=DA i ot (h:Int) (f.map λk:Nat=>(k:Int)) ((os.filter (isAt rs (h:Int))).map λk:Nat=>(k:Int)) (g.map λk:Nat=>(k:Int)):=λot e=>by
   rw[e,List.filter_map,List.filter_map,List.filter_filter];congr 1
  refine bO λNx cQ=>?_;refine⟨_,rfl,_,rfl,lh,_,rfl,.inl hh,Mr _,oq _,_,rfl,?_⟩;by_cases p:∃t,N=some t/\t∈g
  ·obtain⟨t,rfl,ht⟩:=p
   have e1:CC (.int (t:Int)) ((g.map λk:Nat=>(k:Int)).map V.int)=true:=by rw[mR];exact e8 (kj ht)
   refine Uu (by show CC (.int (t:Int)) _=true;exact e1) ?_;refine⟨bM _,λl hl=>k l _ (aG.new hl) hl ?_⟩
   have:DA i (some (t:Int)) (h:Int) (f.map λk:Nat=>(k:Int)) ((os.filter (isAt rs (h:Int))).map λk:Nat=>(k:Int)) (g.map λk:Nat=>(k:Int))=[]:=ee (kj ht)
   show _=some (HO.lst (List.map V.int (DA i (some (t:Int)) _ _ _ _)));rw[this];exact au
  refine EW ?_ (cQ _ _ ?_)
  ·cases N with
   |none=>exact CJ _
   |some t =>
    show CC (.int (t:Int)) _=false;rw[mR];refine fy λz=>p ⟨t,rfl,?_⟩;obtain⟨y,n,ey⟩:=aL.mp z;rw[show t=y by lia];exact n
  refine oX (λσ G=>aG H G/\(DA i (N.map λk:Nat=>(k:Int)) (h:Int) (f.map λk:Nat=>(k:Int)) ((os.filter (isAt rs (h:Int))).map λk:Nat=>(k:Int)) (g.map λk:Nat=>(k:Int))=((os.filter (isAt rs (h:Int))).map λk:Nat=>(k:Int)).filter (gy (f.map λk:Nat=>(k:Int))))/\σ=[some (.ref b),some (.ref lo),some (.ref d),some (.ref lh),some (.int (h:Nat)),some (iE (f.map λk:Nat=>(k:Int))),some (iE (N.map λk:Nat=>(k:Int)))]) ?_ (λN' hN=>?_)
  rotate_left
  ·cases N with
   |none=>exact⟨_,rfl,rfl,_,rfl,eZ (hN _ _ ⟨aG.refl _,rfl,rfl⟩)⟩
   |some t =>
    have v:¬(t:Int)∈g.map λk:Nat=>(k:Int):=λz=>by
     obtain⟨y,n,ey⟩:=aL.mp z;exact p ⟨t,rfl,by rw[show t=y by lia];exact n⟩
    refine⟨_,rfl,rfl,_,rfl,gC ⟨_,rfl,_,rfl,g7,λb3 hb3=>?_⟩⟩;have X:=aG.new (o:=.tup [V.int h,iE ((some t:Option Nat).map λk:Nat=>(k:Int))]) hb3;have L:upd H b3 (.tup [V.int h,iE ((some t:Option Nat).map λk:Nat=>(k:Int))]) b3=some (.tup [V.int h,.int t]):=au;generalize upd H b3 (.tup [V.int h,iE ((some t:Option Nat).map λk:Nat=>(k:Int))])=j at X L;refine⟨_,rfl,d,_,rfl,AW.t (k:=keyOf h t) (X _ _ hd) L,_,rfl,?_⟩;rw[sr];cases U:jK i (h:Int) (t:Int) with
    |none =>
     refine eZ (hN _ _ ⟨X,?_,rfl⟩);show (if (t:Int)∈_ then _ else _)=_;rw[er v,U]
    |some r =>
     refine gC ?_;refine⟨_,rfl,_,rfl,_,rfl,g7,λb4 hb4=>?_⟩;have u4:=aG.new (o:=.tup [V.int h,iE ((some t:Option Nat).map λk:Nat=>(k:Int))]) hb4;have O:upd j b4 (.tup [V.int h,iE ((some t:Option Nat).map λk:Nat=>(k:Int))]) b4=some (.tup [V.int h,.int t]):=au;generalize upd j b4 (.tup [V.int h,iE ((some t:Option Nat).map λk:Nat=>(k:Int))])=H4 at u4 O;have s4:=X.trans u4;have g4:=AW.t (k:=keyOf h t) (s4 _ _ hd) O;rw[sr,U] at g4;refine⟨d,_,rfl,g4,nT,λW su=>?_⟩;have u5:=aG.new (o:=.lst [V.int r]) su;have A:=au (H:=H4) (a:=W) (o:=.lst [V.int r]);generalize upd H4 W (.lst [V.int r])=H5 at u5 A;have s5:=s4.trans u5;have XT:bP K H5 W (([r]:List Int).map V.int):=bP.of A;refine⟨W,rfl,⟨_,XT⟩,λm c=>?_⟩;refine lO (gy (f.map λk:Nat=>(k:Int))) c XT (by show 1<=1000;decide) (λx G R S _ q D s=>?_) (λG q n=>k m G (s5.trans q) (s5.free c) ?_)
     ·refine⟨_,rfl,_,rfl,mT x _,_,rfl,?_⟩
      exact ko (λe=>⟨_,rfl,D _ (aG.refl _) e⟩) (λe=>s _ (aG.refl _) (neT e))
     ·rw[n]
      obtain⟨h',c',Y,et,OU,hat⟩:=led _ ((mz oe).mp U);have et1:h=h':=by have:=gU (·.1) et;simp at this;lia
      have et3:r=(Y:Int):=gU (·.2.2) et;subst et1 et3;have hrm:(Y:Int)∈(os.filter (isAt rs (h:Int))).map λk:Nat=>(k:Int):=kj (bC.mpr ⟨OU,hat⟩)
      have:DA i (some (t:Int)) (h:Int) (f.map λk:Nat=>(k:Int)) ((os.filter (isAt rs (h:Int))).map λk:Nat=>(k:Int)) (g.map λk:Nat=>(k:Int))=[(Y:Int)].filter (gy (f.map λk:Nat=>(k:Int))):=by
       show (if (t:Int)∈_ then _ else _)=_;rw[er v,U];show (if (Y:Int)∈_ then _ else _)=_;rw[ee hrm]
      show _=some (HO.lst (List.map V.int (DA i (some (t:Int)) _ _ _ _)));rw[this]
  rintro σ G ⟨q,eon,rfl⟩;have J:=q.seq hO;refine⟨_,rfl,lo,rfl,⟨_,J⟩,λm c=>?_⟩;refine lO (λx=>gy (f.map λk:Nat=>(k:Int)) x&&isAt rs (h:Int) x.toNat) c J (by rw[ah];lia) (λx j R S hx s3 D s=>?_) (λj s3 n=>k m j (q.trans s3) (q.free c) ?_)
  ·obtain⟨r,hr',rfl⟩:=aL.mp hx
   have C:=hlt r hr';rw[cy] at D s;refine⟨_,rfl,_,rfl,mT _ _,_,rfl,?_⟩;refine ko (λe=>?_) (λe=>s _ (aG.refl _) (by
    have e:¬gy (f.map λk:Nat=>(k:Int)) (r:Int)=true:=e;rw[neT e];rfl))
   have e:gy (f.map λk:Nat=>(k:Int)) (r:Int)=true:=e;rw[e,Bool.true_and] at D s;have I:=q.trans s3;have B:=I.dB (WU.at' r (u[r]'∅) (rs[r]).vs (aa _) (by rw[aj,aa C];rfl));have PJ:FF (u.map V.ref) (r:Int)=some (.ref (u[r]'∅)):=eY (by rw[aj,aa];rfl);generalize u[r]'∅=pt at PJ B;have nw:¬(HT.lK (rs[r]).vs.length 0 none=0/\HT.lK (rs[r]).vs.length (rs[r]).vs.length (some 2)=(rs[r]).vs.length):=λz=>eL z.2 (by show HT.lK 5 5 (some 2)≠5;decide);have ct:Cz (rs[r]).vs none (some 2)=[V.int rs[r].a,V.int rs[r].b]:=rfl;refine⟨_,rfl,_,rfl,_,rfl,b,_,_,_,rfl,rfl,bP.of (I _ _ hL),PJ,_,rfl,pt,_,rfl,B,nw,λz3 Sa=>?_⟩;rw[ct];have Z:=aG.new (o:=.tup [V.int rs[r].a,V.int rs[r].b]) Sa;have M:=au (H:=j) (a:=z3) (o:=.tup [V.int rs[r].a,V.int rs[r].b]);generalize upd j z3 (.tup [V.int rs[r].a,V.int rs[r].b])=H7 at Z M;refine⟨z3,_,rfl,.inr (cP.of M),rfl,rfl,_,rfl,?_⟩
   try dsimp only
   rw[er aF,OD];have eia:isAt rs (h:Int) r=(decide ((h:Int)=rs[r].a) || decide ((h:Int)=rs[r].b)):=by unfold isAt;rw[aa C]
   rw[<- eia];exact ko (λe=>⟨_,rfl,D _ Z e⟩) (λe=>s _ Z (neT e))
  ·rw[n,<- fin _ eon]
end
section
variable{ns:List Int}{rs:List R5}{o:cX ns rs}{bs:List (List Bool)}{cl:List (Nat×Nat)}{D:Nat}{s s0 s' a b:NS}{os:List Nat}
theorem J5.comes{i g num:Nat}{D:List En}{cp:Cp}{l:LS}(j:J5 ns rs os i g num D s)(b:s.cps[0]?=some cp)(hl:s.ls[cp.l]?=some l):cp.l=i/\fc.comes l cp os=true/\fU l cp os=.Iz cp.h cp.r/\uF l cp os = "come" := by
 obtain⟨f,wj⟩:=j.wj;obtain⟨w,o,p,x,v⟩:=j.lt;have n:=j.all cp (aM b);rw[n,o] at hl;cases hl;obtain⟨rest,u⟩:∃rest,s.cps=cp::rest:=by
  cases e:s.cps with
  |nil=>rw[e] at b;cases b
  |cons c r=>rw[e] at b;cases b;exact⟨r,rfl⟩
 rw[u,bN] at wj;have k:EH rs cp∈D++EH rs cp::rest.map (EH rs):=-_
 obtain⟨m,_⟩:=wj.fr (EH rs cp) k _ _ rfl;have nd:cp.h∉l.done:=λz=>by
  rw[p] at z;obtain⟨y,q,t⟩:=aL.mp z;exact Il wj.nd (b9 (a:=EH rs cp)) y q (show y.h=(EH rs cp).h from t)
 have d:Av l cp.h=false:=by rw[NB rfl];exact fy nd
 refine⟨n,?_,?_,?_⟩
 ·unfold fc.comes
  rw[d,e8 m];rfl
 ·unfold fU
  rw[d,ee m,er (!_)]
 ·unfold uF
  rw[ee m,d,er (!_)]
structure SL(l l':LS):Prop where
 s:l'.s=l.s
 to:l'.to=l.to
 kd:l'.kd=l.kd
 grp:l'.grp=l.grp
 old:l'.old=l.old
theorem Yb{cp:Cp}{l:LS}{ts:List T3}(hl:s.ls[cp.l]?=some l):∃c,(gk rs s 0 cp l os ts).ls=s.ls.set cp.l c/\SL l c:=by
 unfold gk;split
 ·obtain⟨f,d⟩:=uG (rs:=rs) (os:=os) (h:=cp.h) (aU:=some cp.r) (jf (a:=0) (os:=os) (ts:=ts) hl)
  rw[d];have e:(bA s 0 cp l os ts).ls=s.ls.set cp.l {l with aD:=l.aD++[fU l cp os]}:=by unfold bA;split <;> rfl
  have b:∀L,(bA s 0 cp l os ts).ls.set cp.l L=s.ls.set cp.l L:=λL=>by rw[e,List.set_set]
  exact⟨_,b _,⟨rfl,rfl,rfl,rfl,rfl⟩⟩
 ·exact⟨_,rfl,⟨rfl,rfl,rfl,rfl,rfl⟩⟩
theorem Pz.lt{n i:Nat}{f:LS}(z:Pz ns rs o n s s')(h:s.ls[i]?=some f):∃l,s'.ls[i]?=some l/\SL f l:=by
 induction z with
 |refl=>exact⟨f,h,⟨rfl,rfl,rfl,rfl,rfl⟩⟩
 |step z m c O r p t k =>
  obtain⟨l,g,a⟩:=k h;obtain⟨q,j,b⟩:=Yb (rs:=rs) (os:=_) (ts:=_) c;have d:=(ai.mp c).1;rw[j,gu d];split
  ·rename_i e
   rw[e] at g;rw[g] at c;cases c;exact⟨q,rfl,⟨b.s.trans a.s,b.to.trans a.to,b.kd.trans a.kd,b.grp.trans a.grp,b.old.trans a.old⟩⟩
  ·exact⟨l,g,a⟩
structure Mid(rs:List R5)(o:cX ns rs)(os:List Nat)(s s0:NS)(x:Nat)(to:Option Nat)(i g kk h:Nat)(aU:Option Nat)(ds:List dN)(Wr:List (Nat×Option Nat))(ts:List T3)(s':NS)(l':LS):Prop where
 hl:s'.ls[i]?=some l'
 dd:l'.aD=ds
 cp:s'.cps.map (λc=>(c.h,some c.r))=Wr
 pt:ts.Perm (s'.ts g)
 oe:bX ts
 HX:bX (s'.ts g)
 hm:s'.aO=s.aO
 gr:s'.groups=s.groups
 ws:s'.ws=s.ws
 sl:SL (cE s x to) l'
 pz:Pz ns rs o kk s0 (Nm rs s' i h l' aU os)
structure Hd(rs:List R5)(o:cX ns rs)(s s0:NS)(i g f kk:Nat)(ds:List dN)(W:List (Nat×Option Nat))(ts:List T3):Prop where
 oe:bX ts
 or_:(kk=0/\ds=[.post f]/\W=[(f,none)]/\ts.Perm (s.ts g))∨∃n sk l,kk=n+1/\Pz ns rs o n s0 sk/\sk.ls[i]?=some l/\l.aD=ds/\W.drop kk=sk.cps.map (λc=>(c.h,some c.r))/\W.length=kk+sk.cps.length/\ts.Perm (sk.ts g)
theorem Hd.mid{x f g m num:Nat}{to:Option Nat}{ds:List dN}{W:List (Nat×Option Nat)}{ts:List T3}{E0:List En}(hd:Hd rs o s (c5 rs s x to os) s.ls.length g f m ds W ts)(sd:EJ ns rs o bs cl D (c5 rs s x to os))(Q:bX (s.ts g))(J:s.cps=[])(eg:s.groups.getD x 0=g)(U:s.aO.getD x 0=f)(O:eU (kJ ns rs o s.ws g) (s.R g) os)(F:os.length<=12)(j:J5 ns rs os s.ls.length g num E0 (c5 rs s x to os)){h:Nat}{aU:Option Nat}(H:W[m]?=some (h,aU)) :
 (aU=none/\m=0/\h=f/\∃s' I,Mid rs o os s (c5 rs s x to os) x to s.ls.length g m h none ds (W.drop (m+1)) ts s' I)∨∃r ts',aU=some r/\putK (ts.map fk) (keyOf h x) (V.int r)=ts'.map fk/\∃s' I,Mid rs o os s (c5 rs s x to os) x to s.ls.length g m h (some r) (ds++[.Iz h r]) (W.drop (m+1)) ts' s' I:=by
 have y:=LJ (rs:=rs) (h:=s.aO.getD x 0) (aU:=none) (os:=os) (s:=gj s x to) (i:=s.ls.length) (l:={cE s x to with aD:=[.post (s.aO.getD x 0)]}) iB;have L:(c5 rs s x to os).ws=s.ws:=y.ws;have X:(c5 rs s x to os).R=s.R:=y.R;have eH:(c5 rs s x to os).aO=s.aO:=y.aO;have eG:(c5 rs s x to os).groups=s.groups:=y.groups;rcases hd.or_ with ⟨rfl,rfl,rfl,M⟩|⟨n,d,l,rfl,z,T,P,q,hlen,M⟩
 ·cases H
  refine .inl ⟨rfl,rfl,rfl,gj s x to,{cE s x to with aD:=[.post f]},?_⟩;refine⟨by rw[<- U];exact iB,rfl,?_,M,hd.oe,Q,rfl,rfl,rfl,⟨rfl,rfl,rfl,rfl,rfl⟩,?_⟩
  ·show s.cps.map _=_
   rw[J];rfl
  ·have:Nm rs (gj s x to) s.ls.length f {cE s x to with aD:=[.post f]} none os=c5 rs s x to os:=by unfold c5;rw[U]
   rw[this];exact .refl
 ·have Xo:=(ai.mp H).1
  have w:(W.drop (n+1))[0]?=some (h,aU):=by rw[List.getElem?_drop];exact H
  rw[q,aj] at w;cases u:d.cps[0]? with
  |none=>rw[u] at w;cases w
  |some cp =>
   rw[u] at w;obtain⟨A,N⟩:=Prod.mk.inj (aK w);have A:cp.h=h:=A;have N:some cp.r=aU:=N;subst A N;obtain⟨f1,f2,f3,f4,f5⟩:=z.same;obtain⟨E,_,Y⟩:=z.j5 (by rw[L,X];exact O) j;have k:cp.l=s.ls.length:=Y.all _ (aM u);have p:d.ls[cp.l]?=some l:=by rw[k];exact T
   obtain⟨_,V7,K,_⟩:=Y.comes u p;obtain⟨S,k1,v⟩:∃S,(c5 rs s x to os).ls[s.ls.length]?=some S/\SL (cE s x to) S:=by
    unfold c5;obtain⟨had,ed⟩:=uG (rs:=rs) (os:=os) (h:=s.aO.getD x 0) (aU:=none) (s:=gj s x to) (i:=s.ls.length) (l:={cE s x to with aD:=[.post (s.aO.getD x 0)]}) iB;rw[ed];refine⟨_,LN (ls:=(gj s x to).ls) (by show s.ls.length<(s.ls++[_]).length;rw[av];exact wI _) _,⟨rfl,rfl,rfl,rfl,rfl⟩⟩
   obtain⟨l2,k3,t⟩:=z.lt k1;rw[T] at k3;cases k3;have e:SL (cE s x to) l:=⟨t.s.trans v.s,t.to.trans v.to,t.kd.trans v.kd,t.grp.trans v.grp,t.old.trans v.old⟩;have b:l.grp=g:=e.grp.trans eg;have C:l.s=x:=e.s;have B:l.old=false:=e.old;obtain⟨ts',p1,p2,G⟩:=GP (h:=(cp.h:Int)) (c:=(x:Int)) (r:=(cp.r:Int)) M hd.oe;refine .inr ⟨cp.r,ts',rfl,p1,bA d 0 cp l os ts',{l with aD:=l.aD++[fU l cp os]},?_⟩;have Z:(bA d 0 cp l os ts').ts l.grp=ts':=by
    unfold bA;rw[er (by rw[B];decide)];show fD _ l.grp ts' l.grp=ts';exact bS
   obtain⟨g1,g2,g3,g4⟩:=t8 (s:=d) (a:=0) (cp:=cp) (l:=l) (os:=os) (ts:=ts');have st:=Pz.step (ts:=ts') z u p (os:=os) (by rw[b,f1,f2,L,X];exact O) F (by rw[b,C];exact p2) G;unfold gk at st;rw[ee V7,k] at st;refine⟨?_,by rw[K,P],?_,?_,G,?_,g3.trans (f3.trans eH),g4.trans (f4.trans eG),g1.trans (f1.trans L),⟨e.s,e.to,e.kd,e.grp,e.old⟩,st⟩
   ·rw[<- k]
    exact jf (a:=0) (os:=os) (ts:=ts') p
   ·have ec:(bA d 0 cp l os ts').cps=d.cps.eraseIdx 0:=by unfold bA;split <;> rfl
    rw[ec]
    have:W.drop (n+1+1)=(W.drop (n+1)).drop 1:=by rw[List.drop_drop]
    rw[this,q];cases d.cps with
    |nil=>rfl
    |cons c cs=>rfl
   ·rw[<- b,Z]
   ·rw[<- b,Z]
    exact G
end
section
variable{ns:List Int}{rs:List R5}{o:cX ns rs}{os:List Nat}{s s0 s':NS}{x i g kk h:Nat}{to aU:Option Nat}{ds:List dN}{Wr:List (Nat×Option Nat)}{ts:List T3}{l':LS}{cl:List (Nat×Nat)}
noncomputable def Yc(rs:List R5)(s:NS)(num h r:Nat):dN:=.send h r (gW s.ws r num)
theorem Mid.fin(m:Mid rs o os s s0 x to i g kk h aU ds Wr ts s' l'):∃a d,Pz ns rs o kk s0 a/\a.ls[i]?=some d/\d.aD=ds++((iA s' l' h).map (dN.hand h)++(Aw rs s' l' h aU os).map (Yc rs s (gX (cE s x to)) h))/\a.cps.map (λc=>(c.h,some c.r))=Wr++(Aw rs s' l' h aU os).map (λr=>(eN rs r h,some r))/\a.ts g=s'.ts g:=by
 obtain⟨j,f⟩:=uG (rs:=rs) (os:=os) (h:=h) (aU:=aU) m.hl;have b:=(ai.mp m.hl).1;have e:gX l'=gX (cE s x to):=by unfold gX;rw[m.sl.kd,m.sl.s,m.sl.to]
 have pz:=m.pz;rw[f] at pz;refine⟨_,_,pz,LN b _,?_,?_,rfl⟩
 ·show l'.aD++_=_
  rw[m.dd,e,m.ws];rfl
 ·show (s'.cps++_).map _=_
  rw[aT,m.cp,dw];rfl
noncomputable def rz(cl:List (Nat×Nat))(h g:Nat):List Nat:=(aA cl.length).filter λc=>decide (cl[c]?=some (h,g))
theorem NJ(a:s.aO=cl.map (·.1))(b:s.groups=cl.map (·.2)):oh s h g=rz cl h g:=by
 unfold oh rz Co;rw[a,b,ah];refine List.filter_congr λc d=>?_;rw[decide_eq_decide,aj,aj];cases cl[c]? with
 |none=>exact⟨λz=>(by cases z.1),λz=>(by cases z)⟩
 |some p=>exact⟨λz=>gU some (Prod.ext (aK z.1) (aK z.2)),λz=>by cases z;exact⟨rfl,rfl⟩⟩
noncomputable def ja(x:Nat)(to:Option Nat)(c:Nat):Bool:=match to with|none=>!decide (c=x)|some y=>decide (c=y)
theorem Mid.hand(m:Mid rs o os s s0 x to i g kk h aU ds Wr ts s' l')(hm:s.aO=cl.map (·.1))(b:s.groups=cl.map (·.2))(a:(cE s x to).grp=g):iA s' l' h=(rz cl h g).filter (ja x to):=by
 unfold iA;rw[m.sl.grp,a,NJ (m.hm.trans hm) (m.gr.trans b)];refine List.filter_congr λc d=>?_;rw[m.sl.s,m.sl.to,m.sl.kd];unfold DO ja cE;cases to with
 |none =>
  show (if (2:Int)=1 then _ else if (2:Int)=2 then !decide (V.int c=V.int x) else false)=_;rw[er (!_),ee rfl];congr 1;rw[decide_eq_decide];exact⟨λz=>by have:=V.int.inj z;lia,λz=>by rw[z]⟩
 |some y =>
  show (if (1:Int)=1 then decide (V.int c=V.int (y:Int)) else _)=_;rw[ee rfl,decide_eq_decide];exact⟨λz=>by have:=V.int.inj z;lia,λz=>by rw[z]⟩
theorem Mid.go(m:Mid rs o os s s0 x to i g kk h aU ds Wr ts s' l')(hm:s.aO=cl.map (·.1))(c:s.groups=cl.map (·.2))(a:(cE s x to).grp=g):DA ts (to.map λk:Nat=>(k:Int)) (h:Int) (aU.map λk:Nat=>(k:Int)) ((os.filter (isAt rs (h:Int))).map λk:Nat=>(k:Int)) ((rz cl h g).map λk:Nat=>(k:Int))=(Aw rs s' l' h aU os).map λk:Nat=>(k:Int):=by
 have d:rC l'.to l'.kd=to.map λk:Nat=>(k:Int):=by
  rw[m.sl.to,m.sl.kd];unfold rC cE;cases to with
  |none=>rfl
  |some y=>rfl
 have b:DA ts (to.map λk:Nat=>(k:Int)) (h:Int) (aU.map λk:Nat=>(k:Int)) ((os.filter (isAt rs (h:Int))).map λk:Nat=>(k:Int)) ((rz cl h g).map λk:Nat=>(k:Int))=DA (s'.ts l'.grp) (rC l'.to l'.kd) (h:Int) (aU.map λk:Nat=>(k:Int)) ((os.filter (isAt rs (h:Int))).map λk:Nat=>(k:Int)) ((oh s' h l'.grp).map λk:Nat=>(k:Int)):=by
  rw[d,m.sl.grp,a,NJ (m.hm.trans hm) (m.gr.trans c)];unfold DA;simp only[BE m.pt m.oe m.HX]
 rw[b];unfold Aw;rw[dw]
 conv=>lhs;rw[<- List.map_id (DA _ _ _ _ _ _)]
 refine c6 λy e=>?_;obtain⟨k,_,rfl⟩:=aL.mp (Dw.1 y e);rfl
end
section
variable{ns:List Int}{rs:List R5}{o:cX ns rs}{os:List Nat}{bs:List (List Bool)}{cl:List (Nat×Nat)}{s s0:NS}{i g f kk num D:Nat}{ds:List dN}{W:List (Nat×Option Nat)}{ts:List T3}{E0:List En}
theorem Hd.bd(h:Hd rs o s s0 i g f kk ds W ts)(sd:EJ ns rs o bs cl D s0)(O:eU (kJ ns rs o s0.ws g) (s0.R g) os)(j:J5 ns rs os i g num E0 s0)(q:E0.length=1)(k:rs.length<=14)(m:50*(s.ts g).length<=D):W.length<=15/\kk<=W.length/\ds.length<=D+1500+1/\50*ts.length<=D+1500:=by
 rcases h.or_ with ⟨rfl,rfl,rfl,a⟩|⟨n,r,l,rfl,d,p,rfl,_,e,a⟩
 ·have:=a.length_eq
  exact⟨by show 1<=15;decide,bM _,by show 1<=_;lia,∅⟩
 ·have:=d.len O j
  have b:=((d.sd sd).bd.lb l (aM p)).1;have c:=((d.sd sd).bd.tb g).1
  have:=a.length_eq
  lia
theorem Hd.end_(h:Hd rs o s s0 i g f kk ds W ts)(e:W.length<=kk):∃n a l,Pz ns rs o n s0 a/\a.cps=[]/\a.ls[i]?=some l/\l.aD=ds/\ts.Perm (a.ts g):=by
 rcases h.or_ with ⟨rfl,rfl,rfl,_⟩|⟨n,a,l,rfl,d,k,j,_,b,c⟩
 ·exact eL e (by show ¬1<=0;decide)
 ·exact⟨n,a,l,d,iw.mp ∅,k,j,c⟩
end
section
variable{P:Program}{w:World}{K:af}{mg:Str->Option Value}{base:Heap}
noncomputable def wV(e:Nat×Option Nat):List V:=[.int e.1,iE (e.2.map λk:Nat=>(k:Int))]
structure DI(K:af)(H0 H2:Hp)(d ls lw:Addr)(ds:List dN)(W:List (Nat×Option Nat))(ts:List T3):Prop where
 sm:∀b o,H0 b=some o->b≠d->H2 b=some o
 n1:H0 ls=none
 n2:H0 lw=none
 ne:ls≠lw
 d0:∃kv,H0 d=some (.dT kv)
 dt:H2 d=some (.dT (ts.map fk))
 st:∃qS:List Addr,H2 ls=some (.lst (qS.map V.ref))/\dF K H2 qS (ds.map dN.vs)
 wt:∃qW:List Addr,H2 lw=some (.lst (qW.map V.ref))/\dF K H2 qW (W.map wV)
section
variable{H0 H2 H3:Hp}{d ls lw:Addr}{ds:List dN}{W:List (Nat×Option Nat)}{ts:List T3}
theorem DI.mono(e:DI K H0 H2 d ls lw ds W ts)(s:aG H2 H3):DI K H0 H3 d ls lw ds W ts:=by
 obtain⟨g,i,c⟩:=e.st;obtain⟨j,f,a⟩:=e.wt;exact⟨λb o h n=>s _ _ (e.sm b o h n),e.n1,e.n2,e.ne,e.d0,s _ _ e.dt,⟨g,s _ _ i,c.mono λb x=>s.dB⟩,⟨j,s _ _ f,a.mono λb x=>s.dB⟩⟩
theorem DI.nd(e:DI K H0 H2 d ls lw ds W ts):ls≠d/\lw≠d:=by
 obtain⟨a,h⟩:=e.d0;exact⟨(aE h e.n1).symm,(aE h e.n2).symm⟩
theorem DI.dB(e:DI K H0 H2 d ls lw ds W ts){b:Addr}{x:List V}(h:cP K H0 b x):cP K H2 b x:=by
 obtain⟨f,a⟩:=e.d0;exact cP.past a Mp (λc o h n=>e.sm c o h n) h
theorem Rc{l z:Addr}{qs:List Addr}{xs:List (List V)}{t:List V}(hl:H2 l=some (.lst (qs.map V.ref)))(d:dF K H2 qs xs)(c:H2 z=none) :
 (upd (upd H2 z (.tup t)) l (.lst (qs.map V.ref++[.ref z]))) l=some (.lst ((qs++[z]).map V.ref))/\dF K (upd (upd H2 z (.tup t)) l (.lst (qs.map V.ref++[.ref z]))) (qs++[z]) (xs++[t])/\(∀b x,cP K H2 b x->cP K (upd (upd H2 z (.tup t)) l (.lst (qs.map V.ref++[.ref z]))) b x)/\∀b o,H2 b=some o->b≠l->(upd (upd H2 z (.tup t)) l (.lst (qs.map V.ref++[.ref z]))) b=some o:=by
 have u:=aG.new (o:=.tup t) c;have a:∀b x,cP K (upd H2 z (.tup t)) b x->cP K (upd (upd H2 z (.tup t)) l (.lst (qs.map V.ref++[.ref z]))) b x:=λb x=>cP.past (u _ _ hl) sA cK;refine⟨by rw[au,aT];rfl,?_,λb x e=>a b x (u.dB e),λb o e n=>cK b o (u _ _ e) n⟩;exact dF.snoc (d.mono λb x e=>a b x (u.dB e)) (a _ _ (cP.of au))
theorem DI.abq(e:DI K H0 H2 d ls lw ds W ts){z:Addr}{c:List Addr}{f:dN}(h:H2 ls=some (.lst (c.map V.ref)))(k:dF K H2 c (ds.map dN.vs))(l:H2 z=none):DI K H0 (upd (upd H2 z (.tup f.vs)) ls (.lst (c.map V.ref++[.ref z]))) d ls lw (ds++[f]) W ts:=by
 obtain⟨m,j,r,a⟩:=Rc (t:=f.vs) h k l;obtain⟨i,p,g⟩:=e.wt;exact⟨λb o q n=>a b o (e.sm _ _ q n) (aE q e.n1),e.n1,e.n2,e.ne,e.d0,a _ _ e.dt (bK e.nd.1),⟨_,m,by rw[aT];exact j⟩,⟨i,a _ _ p (bK e.ne),g.mono r⟩⟩
theorem DI.addW(e:DI K H0 H2 d ls lw ds W ts){z:Addr}{a:List Addr}{f:Nat×Option Nat}(h:H2 lw=some (.lst (a.map V.ref)))(k:dF K H2 a (W.map wV))(l:H2 z=none):DI K H0 (upd (upd H2 z (.tup (wV f))) lw (.lst (a.map V.ref++[.ref z]))) d ls lw ds (W++[f]) ts:=by
 obtain⟨m,j,r,c⟩:=Rc (t:=wV f) h k l;obtain⟨i,p,g⟩:=e.st;exact⟨λb o q n=>c b o (e.sm _ _ q n) (aE q e.n2),e.n1,e.n2,e.ne,e.d0,c _ _ e.dt (bK e.nd.2),⟨i,c _ _ p e.ne,g.mono r⟩,⟨_,m,by rw[aT];exact j⟩⟩
theorem DI.putD(e:DI K H0 H2 d ls lw ds W ts){ts':List T3}:DI K H0 (upd H2 d (.dT (ts'.map fk))) d ls lw ds W ts':=by
 obtain⟨h,i,f⟩:=e.st;obtain⟨j,g,c⟩:=e.wt;have a:∀b x,cP K H2 b x->cP K (upd H2 d (.dT (ts'.map fk))) b x:=λb x=>cP.past e.dt Mp cK;exact⟨λb o q n=>cK b o (e.sm _ _ q n) n,e.n1,e.n2,e.ne,e.d0,au,⟨h,cK _ _ i e.nd.1,f.mono a⟩,⟨j,cK _ _ g e.nd.2,c.mono a⟩⟩
end
inductive Rf(K:af)(vs:List V)(H:Hp)(Q:VK)(E:XK):Prop
 |mk (b lo d cb:Addr) (ns:List Int) (rs:List R5) (o:cX ns rs) (os:List Nat) (qs:List Addr) (bs:List (List Bool)) (cl:List (Nat×Nat)) (D:Nat) (s:NS) (x:Nat) (to:Option Nat) (ts:List T3):vs=[.ref b,.ref lo,.ref d,.ref cb,.int x,iE (to.map λk:Nat=>(k:Int))]->KN K H b rs->H lo=some (.lst (bR os))->H d=some (.dT (ts.map fk))->H cb=some (.lst (qs.map V.ref))->dF K H qs (cl.map λc=>[.int c.1,.int c.2])->eU (kJ ns rs o s.ws (s.groups.getD x 0)) (s.R (s.groups.getD x 0)) os->os.length<=12->rs.length<=14->x<cl.length->EJ ns rs o bs cl D s->D<=90000->s.cps=[]->s.ws=(rs.map λr=>aA r.d.toNat)->(∀y,to=some y->y<s.aO.length/\s.groups[y]?=s.groups[x]?)->ts.Perm (s.ts (s.groups.getD x 0))->bX ts->(∀a (qS:List Addr) H' ts' n sk l,(∀b o,H b=some o->b≠d->H' b=some o)->H a=none->H' a=some (.lst (qS.map V.ref))->dF K H' qS (l.aD.map dN.vs)->H' d=some (.dT (ts'.map fk))->bX ts'->Pz ns rs o n (c5 rs s x to os) sk->sk.cps=[]->sk.ls[s.ls.length]?=some l->ts'.Perm (sk.ts (s.groups.getD x 0))->Q (.ref a) H')->Rf K vs H Q E
theorem VM{t:Ad}(T:Txt K mg t):cz P w K mg base iM 2 t.CU t.Gq ["_law_ropes_here","_law_opened","_law_notes","_law_callers_here","_law_sender","_law_to"]  (Rf K):=by
 refine T.Qx.F.kh gK λH Q E hr h=>?_
 ·obtain⟨b,lo,d,cb,ns,rs,o,os,qs,bs,cl,D,st,x,to,ts,rfl,hB,hO,hd,hC,vI,N,h12,l14,hx,sd,hD,hcp,hws,hto,hpt,hoe,k⟩:=h
  refine⟨_,(aq (NU (xL (pv 3) (pv 4)) (Kl (n:=2) rfl (i0 (gT 6 gK) (i0 (gT 7 gK) Ay)))) (aq (sS 8 gK (pv 4)) (aq (cD (qT Az (pv 5) iO) (bI (sS 8 gK (bw fB (bw fB (pv 4) (pv 5)) aB))) bz) (aq (sS 9 gK (jq (gV (dU (nZ gG (pv 6)))))) (aq (sS 10 gK (jq (gV (dU (nZ (pv 6) iO))))) (aq (sS 11 gK aB) (aq (LX PassesOwn.never (PW.pt (Bs (qT pR (pv 11) (lS T.iN (pv 10))) (wN (qT pR (pv 11) aB)))) (aq (NU (xL (pv 10) (pv 11)) (Kl (n:=2) rfl (i0 (gT 12 gK) (i0 (gT 13 gK) Ay)))) (aq (ZP (i:=11) gK.nd rfl (Or.inl rfl) aB ZQ) (aq (cD (qT Az (pv 13) iO) (aq (fE (pS be bh bg eE (pv 9) (gV (dU (Ir gG (pv 12) (pv 13)))))) (bI (Kz (CF hr) (pv 2) (dU (nZ (pv 12) (pv 4))) (pv 13) rfl))) bz) (aq (Bx (i:=15) gK.nd rfl (Or.inl rfl) (kO gK ["_law_caller","_law_callers_here","_law_group","_law_house"] [none,some 3,some 7,some 12]) rfl (gB rfl T.jy (gV (lS T.iN (pv 3)))) (λ_ _ _ _=>by exact (gS 0 MD)) (λ_ _ _ _=>by exact (mP (qT (Qe K rfl hr.units) (yL K (pv 1) (pv 0)) (dU (nZ (pv 3) (pv 2)))))) (λ_ _ _ _=>by exact (pv 0))) (aq (fS (fV (pv 15)) (gT 14 gK) (bI (cD (PW.pt (Jp (qT ud (pv 14) (pv 5)) (Kh (PW.pt (Bs (qT Ob (pv 5) iO) (wN (qT sf (pv 14) (pv 4)))))))) (oE (pS be bh bg eE (pv 9) (gV (dU (Ir gG (pv 12) (pv 14)))))) bz))) (bI (fS (fV (cG (SJ T) hr T.MJ (aN7 (pv 0) (pv 1) (pv 2) (pv 15) (pv 12) (pv 13) (pv 5)))) (gT 16 gK) (aq (fE (pS be bh bg eE (pv 9) (gV (dU (YN gG (pv 12) (pv 16) (bw dZ (pv 8) (xT (xL (pv 0) (pv 16)) aB))))))) (oE (pS be bh bg eE (pv 10) (gV (dU (nZ (bw DE (bw fB (xT (xL (pv 0) (pv 16)) aB) (xT (xL (pv 0) (pv 16)) aB)) (pv 12)) (pv 16))))))))))))))) (oR (pv 9))))))))),?_⟩
  left
  have olt:=Ml N;have eq:qs.length=cl.length:=by rw[vI.len,ah]
  obtain⟨us,hL,WU⟩:=id hB;have eus:us.length=rs.length:=by rw[WU.len,ah]
  have hm:=sd.hm;have hgr:=sd.gr;have hxh:x<st.aO.length:=by rw[hm,ah];exact hx
  have hml:st.aO.length=cl.length:=by rw[hm,ah]
  have ehx:st.aO.getD x 0=cl[x].1:=by rw[hm,az,aj,aa hx];rfl
  have V8:st.groups.getD x 0=cl[x].2:=by rw[hgr,az,aj,aa hx];rfl
  have c20:cl.length<=20:=by
   have:=sd.bd.AZ
   lia
  have cat:∀{y:Nat} (hy:y<cl.length),FF (qs.map V.ref) (y:Int)=some (.ref (qs[y]'∅))/\cP K H (qs[y]'∅) [.int cl[y].1,.int cl[y].2]:=λ{y} hy=>⟨eY (by rw[aj,aa];rfl),vI.at' y _ _ (aa _) (by rw[aj,aa hy];rfl)⟩;obtain⟨a1,q1⟩:=cat hx;obtain⟨l0,LO,j0,_,ll0⟩:=J5.post (s:=st) (x:=x) (to:=to) (Fo.of N) sd.bd rfl hxh hcp;have YV:=sd.post (to:=to) hxh N h12;refine bO λNx I=>?_;refine⟨_,rfl,_,rfl,cb,_,_,_,rfl,rfl,bP.of hC,a1,_,_,rfl,q1,rfl,_,_,rfl,_,_,rfl,rfl,I _ _ ?_⟩;rw[V8] at hpt N j0 k;generalize hff:cl[x].1=f at *;generalize hg:cl[x].2=g at *;refine bO λNx I=>?_;refine⟨_,rfl,?_⟩;refine I _ _ ?_;refine oX (λC H5=>H5=H/\C=[some (.ref b),some (.ref lo),some (.ref d),some (.ref cb),some (.int (x:Nat)),some (iE (to.map λk:Nat=>(k:Int))),some (.int (f:Nat)),some (.int (g:Nat)),some (.int (gX (cE st x to):Nat)),none,none,none,none,none,none,none,none]) ?_ (λN' hN=>?_)
  rotate_left
  ·refine⟨_,rfl,rfl,_,rfl,?_⟩
   cases to with
   |none=>exact eZ (hN _ _ ⟨rfl,rfl⟩)
   |some y =>
    have O:(!decide (iE ((some y:Option Nat).map λy:Nat=>(y:Int))=V.fH))=true:=rfl;rw[O];refine gC ⟨_,rfl,_,rfl,_,_,rfl,rfl,_,_,rfl,rfl,hN _ _ ⟨rfl,?_⟩⟩;have e2:((x:Int)+(y:Int)+1)=(gX (cE st x (some y)):Nat):=rfl;rw[<- e2];rfl
  rintro C H0 ⟨e0,rfl⟩;rw[e0];have jl:J5 ns rs os st.ls.length g (gX (cE st x to)) [⟨st.aO.getD x 0,none⟩] (c5 rs st x to os):=j0;generalize hnum:gX (cE st x to)=num at *;have fr:=LJ (rs:=rs) (h:=st.aO.getD x 0) (aU:=none) (os:=os) (s:=gj st x to) (i:=st.ls.length) (l:={cE st x to with aD:=[.post (st.aO.getD x 0)]}) iB;have eW:(c5 rs st x to os).ws=st.ws:=fr.ws;have eR:(c5 rs st x to os).R=st.R:=fr.R;have hO0:eU (kJ ns rs o (c5 rs st x to os).ws g) ((c5 rs st x to os).R g) os:=by rw[eW,eR];exact N
  refine bO λNx I=>?_;refine⟨_,rfl,g7,λz1 hz1=>⟨nT,λls hls=>I _ _ ?_⟩⟩;have u1:=(aG.new (o:=.tup [V.str "post",V.int f]) hz1);have u2:=aG.new (o:=.lst [V.ref z1]) hls;have g1:=u2 _ _ (au (H:=H) (a:=z1) (o:=.tup [V.str "post",V.int f]));have g2:=au (H:=upd H z1 (.tup [V.str "post",V.int f])) (a:=ls) (o:=.lst [V.ref z1]);have aej:=u1.free hls;have XY:=u1.trans u2;generalize upd (upd H z1 (.tup [V.str "post",V.int f])) ls (.lst [V.ref z1])=H1 at XY g1 g2;refine bO λNx I=>?_;refine⟨_,rfl,g7,λz2 hz2=>⟨nT,λB hlw=>I _ _ ?_⟩⟩;have u3:=(aG.new (o:=.tup [V.int f,V.fH]) hz2);have u4:=aG.new (o:=.lst [V.ref z2]) hlw;have g3:=u4 _ _ (au (H:=H1) (a:=z2) (o:=.tup [V.int f,V.fH]));have g4:=au (H:=upd H1 z2 (.tup [V.int f,V.fH])) (a:=B) (o:=.lst [V.ref z2]);have aek:=XY.free (u3.free hlw);have nlw:ls≠B:=aE (u3 _ _ g2) hlw;have zb:=u3.trans u4;have g1:=zb _ _ g1;have g2:=zb _ _ g2;generalize upd (upd H1 z2 (.tup [V.int f,V.fH])) B (.lst [V.ref z2])=H2 at zb g1 g2 g3 g4;have V3:=XY.trans zb;have d0:DI K H H2 d ls B [.post f] [(f,none)] ts:=by
   refine⟨λb o h _=>V3 b o h,aej,aek,nlw,⟨_,hd⟩,V3 _ _ hd,⟨[z1],g2,⟨rfl,λi q y O e2=>?_⟩⟩,⟨[z2],g4,⟨rfl,λi q y O e2=>?_⟩⟩⟩
   ·cases i with
    |zero=>cases O;cases e2;exact cP.of g1
    |succ i=>cases O
   ·cases i with
    |zero=>cases O;cases e2;exact cP.of g3
    |succ i=>cases O
  have hd0:Hd rs o st (c5 rs st x to os) st.ls.length g f 0 [.post f] [(f,none)] ts:=⟨hoe,.inl ⟨rfl,rfl,rfl,hpt⟩⟩;refine Wy (λm C H3=>∃(A:Nat) (ds:List dN) (W:List (Nat×Option Nat)) (J:List T3) (ia Zo NP NQ NR:Option V),C=[some (.ref b),some (.ref lo),some (.ref d),some (.ref cb),some (.int (x:Nat)),some (iE (to.map λk:Nat=>(k:Int))),some (.int (f:Nat)),some (.int (g:Nat)),some (.int (num:Nat)),some (.ref ls),some (.ref B),some (.int (A:Nat)),ia,Zo,NP,NQ,NR]/\DI K H H3 d ls B ds W J/\Hd rs o st (c5 rs st x to os) st.ls.length g f A ds W J/\m=20-A) 20 ⟨0,_,_,_,_,_,_,_,_,rfl,d0,hd0,rfl⟩ ?_ ?_
  ·rintro m C H3 ⟨A,ds,W,J,ia,Zo,NP,NQ,NR,rfl,dd,hd2,rfl⟩
   obtain⟨w15,wk,dl,tl⟩:=hd2.bd YV hO0 jl rfl l14 (by have:=(sd.bd.tb g).1;lia);obtain⟨qW,S,rV⟩:=dd.wt;have eqW:qW.length=W.length:=by rw[rV.len,ah]
   refine⟨_,rfl,_,rfl,B,_,rfl,.inl (bP.of S),_,_,rfl,rfl,_,rfl,?_⟩;rw[ah,eqW];by_cases hk:A<W.length
   case neg =>
    rw[fy (show ¬(A:Int)<(W.length:Int) by lia)];refine eZ (eZ ?_);obtain⟨qS,u,v⟩:=dd.st;obtain⟨n,sk,l,p1,p2,p3,p4,p5⟩:=hd2.end_ ∅;rw[<- p4] at v;exact⟨_,rfl,k ls qS H3 J n sk l dd.sm dd.n1 u v dd.dt hd2.oe p1 p2 p3 p5⟩
   rw[e8 (show (A:Int)<(W.length:Int) by lia)];refine gC ⟨_,rfl,_,_,rfl,rfl,_,rfl,?_⟩;rw[e8 (show (A:Int)<20 by lia)];refine gC ?_;obtain⟨⟨h,aU⟩,he⟩:∃e,W[A]?=some e:=⟨_,aa hk⟩;have hqe:=rV.at' A (qW[A]'∅) (wV (h,aU)) (aa _) (by rw[aj,he];rfl);have aem:FF (qW.map V.ref) (A:Int)=some (.ref (qW[A]'∅)):=eY (by rw[aj,aa];rfl);refine bO λNx I=>?_;refine⟨_,rfl,_,rfl,B,_,_,_,rfl,rfl,bP.of S,aem,_,_,rfl,hqe,rfl,_,_,rfl,_,_,rfl,rfl,I _ _ ?_⟩;refine bO λNx I=>?_;refine⟨_,rfl,_,_,rfl,rfl,I _ _ ?_⟩;have oes:bX (st.ts g):=(sd.bd.tb g).2;have mid:=hd2.mid YV oes hcp V8 ehx N h12 jl he
   try dsimp only
   refine oX (λC H4=>∃(Zp:List dN) (V9:List T3) (s':NS) (l':LS),C=[some (.ref b),some (.ref lo),some (.ref d),some (.ref cb),some (.int (x:Nat)),some (iE (to.map λk:Nat=>(k:Int))),some (.int (f:Nat)),some (.int (g:Nat)),some (.int (num:Nat)),some (.ref ls),some (.ref B),some (.int ((A:Int)+1)),some (.int (h:Nat)),some (iE (aU.map λk:Nat=>(k:Int))),NP,NQ,NR]/\DI K H H4 d ls B Zp W V9/\Mid rs o os st (c5 rs st x to os) x to st.ls.length g A h aU Zp (W.drop (A+1)) V9 s' l'/\Zp.length<=D+1602) ?_ (λN' hN=>?_)
   rotate_left
   ·rcases mid with ⟨rfl,rfl,rfl,s',l',md⟩|⟨r,ts',rfl,ep,s',l',md⟩
    ·refine⟨_,rfl,rfl,_,rfl,eZ ?_⟩
     exact hN _ _ ⟨ds,J,s',l',rfl,dd,md,∅⟩
    ·obtain⟨qS,u,v⟩:=dd.st
     have vo:qS.length=ds.length:=by rw[v.len,ah]
     refine⟨_,rfl,rfl,_,rfl,gC ?_⟩;refine bO λNx I=>?_;refine⟨_,rfl,.inl ⟨rfl,_,bP.of u⟩,_,rfl,_,rfl,g9,λz3 Sa=>?_⟩;refine⟨ls,_,_,rfl,rfl,aG.new Sa _ _ u,mj (by rw[ah,vo];lia),I _ _ ?_⟩;have d2:=dd.abq (f:=.Iz h r) u v Sa;have ev:(dN.Iz h r).vs=[V.str "come",V.int h,iE ((some r:Option Nat).map λk:Nat=>(k:Int))]:=rfl;rw[ev] at d2;generalize upd (upd H3 z3 (.tup [V.str "come",V.int h,iE ((some r:Option Nat).map λk:Nat=>(k:Int))])) ls (.lst (qS.map V.ref++[.ref z3]))=H4 at d2;refine⟨_,rfl,_,rfl,_,rfl,_,rfl,g7,λb5 hb5=>?_⟩;have u5:=aG.new (o:=.tup [V.int h,.int x]) hb5;have Yd:=au (H:=H4) (a:=b5) (o:=.tup [V.int h,.int x]);have d3:=d2.mono u5;generalize upd H4 b5 (.tup [V.int h,.int x])=H5 at u5 Yd d3;refine⟨d,_,rfl,Ky.t (k:=keyOf h x) (kvs:=J.map fk) d3.dt Yd ?_,?_⟩
     ·exact mj (by rw[ah];lia)
     ·have d4:=d3.putD (ts':=ts')
      rw[<- ep] at d4;refine hN _ _ ⟨_,ts',s',l',rfl,d4,md,?_⟩;rw[av];show ds.length+1<=_;lia
   rintro C H4 ⟨Zp,V9,s',l',rfl,d4,md,dl4⟩;have ncb:cb≠d:=λz=>by rw[z,hd] at hC;cases hC
   have nlo:lo≠d:=λz=>by rw[z,hd] at hO;cases hO
   have nb:b≠d:=λz=>by rw[z,hd] at hL;cases hL
   have hC4:=d4.sm _ _ hC ncb;refine bO λNx I=>?_;refine⟨_,rfl,cb,_,rfl,.inl (bP.of hC4),(((qs.map V.ref).length:Nat):Int),rfl,∅,by rw[ah];lia,λlh XE=>?_⟩;rw[ah,eq];refine ir (n:=((cl.length:Int)).toNat) (λi ys _=>ys=bR ((aA i).filter λc=>decide (cl[c]?=some (h,g)))) XE By sq rfl ?_ ?_
   ·rintro i ys H5 hi s5 hy rfl z Z ⟨rfl,rfl⟩
    rw[gE];have hic:i<cl.length:=∅
    obtain⟨a2,q2⟩:=cat hic;refine⟨_,rfl,_,rfl,cb,_,_,_,rfl,rfl,bP.of (s5 _ _ hC4),a2,_,rfl,_,rfl,g7,λz3 Sa=>?_⟩;have u6:=aG.new (o:=.tup [V.int h,V.int g]) Sa;have hz6:=au (H:=Z) (a:=z3) (o:=.tup [V.int h,V.int g]);have hy6:=u6 _ _ hy;generalize upd Z z3 (.tup [V.int h,V.int g])=H7 at u6 hz6 hy6;have s6:=s5.trans u6;refine⟨.tuple (([(cl[i].1:Int),(cl[i].2:Int)]:List Int).map .int),.tuple (([(h:Int),(g:Int)]:List Int).map .int),Rep.JB (ns:=[(cl[i].1:Int),(cl[i].2:Int)]) (s6.dB (d4.dB q2)),Rep.JB (ns:=[(h:Int),(g:Int)]) (cP.of hz6),pT _,pT _,(by show PyData.depthAll _+1<=64;rw[vO];decide),_,rfl,?_⟩;rw[Qq];have O:decide ((cl[i].1:Int)=(h:Int)/\(cl[i].2:Int)=(g:Int))=decide (cl[i]?=some (h,g)):=by
     rw[aa hic,decide_eq_decide];constructor
     ·rintro⟨y1,y2⟩
      exact gU some (Prod.ext (by show cl[i].1=h;lia) (by show cl[i].2=g;lia))
     ·intro z
      have z:=aK z;rw[z];exact⟨rfl,rfl⟩
    rw[O];refine ko (λhc=>?_) (λhc=>?_)
    ·refine⟨_,rfl,?_⟩
     refine fQ XE hi s6 hy6 ?_ ?_
     ·rw[ah]
      refine cS (aN (aX _ _) ?_);rw[bB];lia
     ·rw[oW,ee hc,jI]
    ·refine jX hi s6 hy6 ?_
     rw[oW,er hc,bY]
   rintro ys H5 s5 tT rfl;rw[cy] at tT;refine I _ _ ?_;have tT:H5 lh=some (.lst (bR (rz cl h g))):=tT;have d5:=d4.mono s5;obtain⟨_,aep,_⟩:=d4.st;obtain⟨_,aeq,_⟩:=d4.wt;have nh1:lh≠ls:=(aE aep XE).symm;have nh2:lh≠B:=(aE aeq XE).symm;have nh3:lh≠d:=(aE d4.dt XE).symm;have aer:(rz cl h g).length<=20:=by
    unfold rz;refine aN (aX _ _) ?_;rw[bB];exact c20
   have eng:(cE st x to).grp=g:=V8;have hnd:=md.hand hm hgr eng;have hgo:=md.go hm hgr eng;refine bO λNx I=>?_;refine⟨_,rfl,lh,rfl,⟨_,bP.of tT⟩,AF (K:=K) (a:=lh) (xs:=bR (rz cl h g)) (λj C Z=>∃NP:Option V,C=[some (.ref b),some (.ref lo),some (.ref d),some (.ref cb),some (.int (x:Nat)),some (iE (to.map λk:Nat=>(k:Int))),some (.int (f:Nat)),some (.int (g:Nat)),some (.int (num:Nat)),some (.ref ls),some (.ref B),some (.int ((A:Int)+1)),some (.int (h:Nat)),some (iE (aU.map λk:Nat=>(k:Int))),NP,some (.ref lh),NR]/\DI K H Z d ls B (Zp++(((rz cl h g).take j).filter (ja x to)).map (dN.hand h)) W V9/\Z lh=some (.lst (bR (rz cl h g)))) ⟨_,rfl,by rw[List.take_zero];show DI K H H5 d ls B (Zp++[]) W V9;rw[bY];exact d5,tT⟩ (λj C Z _ z=>by obtain⟨_,_,_,z⟩:=z;exact bP.of z) ?_ ?_⟩
   ·rintro j y C Z Nf Gc hj ⟨NP,rfl,Y,tD⟩
    have U:j<(rz cl h g).length:=by
     have:=(ai.mp hj).1
     rw[ah] at this;exact this
    rw[aj,aa U] at hj;cases hj;have efs:=Et (p:=ja x to) U;rw[efs] at Gc;show iz 14 (V.int (((rz cl h g)[j]:Nat):Int)) _ _ _;have hjf:(((rz cl h g).take j).filter (ja x to)).length<=20:=by
     refine aN (aX _ _) ?_;rw[bQ];lia
    generalize (rz cl h g)[j]=c at Gc;obtain⟨qS,u,v⟩:=Y.st;have vo:qS.length<=D+1700:=by
     rw[v.len,ah,av,ah];lia
    have skip:ja x to c=false->∀(τ:L2.St),τ=[some (.ref b),some (.ref lo),some (.ref d),some (.ref cb),some (.int (x:Nat)),some (iE (to.map λk:Nat=>(k:Int))),some (.int (f:Nat)),some (.int (g:Nat)),some (.int (num:Nat)),some (.ref ls),some (.ref B),some (.int ((A:Int)+1)),some (.int (h:Nat)),some (iE (aU.map λk:Nat=>(k:Int))),some (.int (c:Nat)),some (.ref lh),NR]->Nf τ Z:=λe τ eτ=>Gc _ _ ⟨_,eτ,by rw[er (by rw[e];decide),bY];exact Y,tD⟩;have add:ja x to c=true->∀(τ:L2.St) (L:Addr),Z L=none->τ=[some (.ref b),some (.ref lo),some (.ref d),some (.ref cb),some (.int (x:Nat)),some (iE (to.map λk:Nat=>(k:Int))),some (.int (f:Nat)),some (.int (g:Nat)),some (.int (num:Nat)),some (.ref ls),some (.ref B),some (.int ((A:Int)+1)),some (.int (h:Nat)),some (iE (aU.map λk:Nat=>(k:Int))),some (.int (c:Nat)),some (.ref lh),NR]->Nf τ (upd (upd Z L (.tup [V.str "hand",V.int h,V.int c])) ls (.lst (qS.map V.ref++[.ref L]))):=λe τ L X eτ=>by
     have d7:=Y.abq (f:=.hand h c) u v X;refine Gc _ _ ⟨_,eτ,?_,?_⟩
     ·rw[ee e,aT,<- cF]
      exact d7
     ·rw[aH nh1,aH (aE tD X)]
      exact tD
    cases to with
    |none =>
     refine⟨_,rfl,_,rfl,mT _ none,_,rfl,eZ ⟨_,rfl,rfl,_,rfl,gC ⟨_,rfl,_,rfl,rfl,_,rfl,?_⟩⟩⟩;by_cases e:c=x
     ·have:decide (V.int ((c:Nat):Int)=V.int ((x:Nat):Int))=true:=by rw[e];exact e8 rfl
      rw[this];exact eZ (skip (by show (!decide (c=x))=false;rw[e8 e];rfl) _ rfl)
     ·have:decide (V.int ((c:Nat):Int)=V.int ((x:Nat):Int))=false:=fy λz=>e (by have:=V.int.inj z;lia)
      rw[this];refine gC ⟨_,rfl,.inl ⟨rfl,_,bP.of u⟩,_,rfl,_,rfl,g9,λL X=>?_⟩;refine⟨ls,_,_,rfl,rfl,aG.new X _ _ u,mj (by rw[ah];lia),add (by show (!decide (c=x))=true;rw[fy e];rfl) _ L X rfl⟩
    |some y =>
     by_cases e:c=y
     ·refine⟨_,rfl,_,rfl,mT _ (some (y:Int)),_,rfl,Uu (by rw[e];exact e8 rfl) ?_⟩
      refine⟨_,rfl,.inl ⟨rfl,_,bP.of u⟩,_,rfl,_,rfl,g9,λL X=>?_⟩;exact⟨ls,_,_,rfl,rfl,aG.new X _ _ u,mj (by rw[ah];lia),add (e8 e) _ L X rfl⟩
     ·refine⟨_,rfl,_,rfl,mT _ (some (y:Int)),_,rfl,EW (fy λz=>e (by have z:V.int (c:Int)=V.int (y:Int):=z;have:=V.int.inj z;lia)) ⟨_,rfl,rfl,_,rfl,eZ ?_⟩⟩
      exact skip (fy e) _ rfl
   rintro C Z ⟨aet,rfl,Y,tD⟩;refine I _ _ ?_;rw[ah,iX,<- hnd] at Y;obtain⟨sk,l2,pz,hl2,Zd,aeu,hts⟩:=md.fin;have sdk:=pz.sd YV;obtain⟨kw,kR,kH,kG,kl⟩:=pz.same;have g3:g<3:=by
    have:=sd.bd.g3 (st.groups.getD x 0) (by rw[az,aa (show x<st.groups.length by rw[sd.bd.gl];exact hxh)];exact aQ _)
    rw[V8] at this;exact this
   have nl:=aed sdk.ld g3 (os:=os) (by rw[kw,kR];exact hO0);have led:∀t∈V9,∃h c r:Nat,t=((h:Int),(c:Int),(r:Int))/\r∈os/\isAt rs (h:Int) r=true:=λt ht=>by
    obtain⟨h1,c1,r1,O,e2,e3,_⟩:=nl t (by rw[hts];exact md.pt.mem_iff.mp ht);exact⟨h1,c1,r1,O,e2,e3⟩
   have gn:=VI (rs:=rs) (os:=os) (s:=s') (l:=l') (h:=h) (aU:=aU);have gl:(Aw rs s' l' h aU os).length<=13:=by
    have:=gU List.length hgo
    rw[ah] at this;rw[<- this];refine aN (WV _ _ _ _ _ _) ?_;rw[ah]
    have:=aX (isAt rs (h:Int)) os
    lia
   have hO6:=Y.sm _ _ hO nlo;have hL6:=Y.sm _ _ hL nb;refine⟨_,rfl,_,rfl,_,rfl,_,rfl,_,rfl,_,rfl,_,rfl,b,lo,d,lh,ns,rs,os,V9,rz cl h g,h,aU,to,rfl,⟨us,hL6,WU.mono λb x=>Y.dB⟩,bP.of hO6,Y.dt,bP.of tD,olt,md.oe,∅,h12,led,λlg H7 s7 aev hlg=>?_⟩;rw[hgo] at hlg;have d7:=Y.mono s7;obtain⟨_,aew,_⟩:=Y.st;obtain⟨_,aex,_⟩:=Y.wt;have nl1:lg≠ls:=(aE aew aev).symm;have nl2:lg≠B:=(aE aex aev).symm;have ld6:(iA s' l' h).length<=20:=by
    rw[hnd];exact aN (aX _ _) aer
   generalize Aw rs s' l' h aU os=G at *;generalize iA s' l' h=hns at *;refine⟨lg,rfl,⟨_,bP.of hlg⟩,AF (K:=K) (a:=lg) (xs:=(G.map λk:Nat=>(k:Int)).map V.int) (λj C H8=>∃NR:Option V,C=[some (.ref b),some (.ref lo),some (.ref d),some (.ref cb),some (.int (x:Nat)),some (iE (to.map λk:Nat=>(k:Int))),some (.int (f:Nat)),some (.int (g:Nat)),some (.int (num:Nat)),some (.ref ls),some (.ref B),some (.int ((A:Int)+1)),some (.int (h:Nat)),some (iE (aU.map λk:Nat=>(k:Int))),aet,some (.ref lh),NR]/\DI K H H8 d ls B (Zp++hns.map (dN.hand h)++(G.take j).map (Yc rs st num h)) (W++(G.take j).map λr=>(eN rs r h,some r)) V9/\H8 lg=some (.lst ((G.map λk:Nat=>(k:Int)).map V.int))) ⟨_,rfl,by rw[List.take_zero];show DI K H H7 d ls B (Zp++hns.map (dN.hand h)++[]) (W++[]) V9;rw[bY,bY];exact d7,hlg⟩ (λj C Z _ z=>by obtain⟨_,_,_,z⟩:=z;exact bP.of z) ?_ ?_⟩
   ·rintro j y C H8 Nf Gc hj ⟨NR,rfl,d8,hg8⟩
    have U:j<G.length:=by
     have:=(ai.mp hj).1
     rw[ah,ah] at this;exact this
    rw[aj,aj,aa U] at hj;cases hj;obtain⟨OU,hat,_⟩:=gn _ (aQ U);have vd:G.take (j+1)=G.take j++[G[j]]:=by rw[uJ,aa U];rfl
    rw[vd] at Gc;show iz 16 (V.int ((G[j]:Nat):Int)) _ _ _;have hjf:(G.take j).length<=13:=by rw[bQ];lia
    generalize G[j]=r at OU hat Gc;have M:=olt r OU;have aez:=d8.dB (WU.at' r (us[r]'∅) (rs[r]).vs (aa _) (by rw[aj,aa M];rfl));have aeA:=WU.at' r (us[r]'∅) (rs[r]).vs (aa _) (by rw[aj,aa M];rfl);have PJ:FF (us.map V.ref) (r:Int)=some (.ref (us[r]'∅)):=eY (by rw[aj,aa];rfl);generalize us[r]'∅=pt at PJ aez aeA;have okr:=o.ok _ (aQ M);have d1:=okr.d1;have ew:((num:Int)%rs[r].d)=((gW st.ws r num:Nat):Int):=by
     unfold gW;rw[hws,aj,aa M];show (num:Int)%rs[r].d=(((aA rs[r].d.toNat).getD (num%(aA rs[r].d.toNat).length) 0:Nat):Int);obtain⟨dd,Zd⟩:∃dd:Nat,rs[r].d=(dd:Int):=⟨rs[r].d.toNat,∅⟩;rw[Zd,cy,bB,az,gp (Nat.mod_lt _ ∅)];rfl
    obtain⟨qS,u,v⟩:=d8.st;have vo:qS.length<=D+1800:=by
     rw[v.len,ah,av,av,ah,ah];lia
    refine bO λNx I=>?_;refine⟨_,rfl,.inl ⟨rfl,_,bP.of u⟩,_,rfl,_,rfl,_,rfl,_,rfl,_,rfl,b,_,_,_,rfl,rfl,bP.of (d8.sm _ _ hL nb),PJ,pt,_,3,_,rfl,rfl,aez,rfl,_,_,rfl,rfl,(by show (0:Int)<rs[r].d;lia),x6,λL X=>?_⟩;refine⟨ls,_,_,rfl,rfl,aG.new X _ _ u,mj (by rw[ah];lia),I _ _ ?_⟩;rw[ew];have d9:=d8.abq (f:=Yc rs st num h r) u v X;have ev:(Yc rs st num h r).vs=[V.str "send",V.int h,V.int r,V.int (gW st.ws r num:Nat)]:=rfl;rw[ev] at d9;have hg9:upd (upd H8 L (.tup [V.str "send",V.int h,V.int r,V.int (gW st.ws r num:Nat)])) ls (.lst (qS.map V.ref++[.ref L])) lg=some (.lst ((G.map λk:Nat=>(k:Int)).map V.int)):=by
     rw[aH nl1,aH (aE hg8 X)];exact hg8
    generalize upd (upd H8 L (.tup [V.str "send",V.int h,V.int r,V.int (gW st.ws r num:Nat)])) ls (.lst (qS.map V.ref++[.ref L]))=H9 at d9 hg9;have hL9:=bP.of (K:=K) (d9.sm _ _ hL nb);have aeB:=d9.dB aeA;obtain⟨qW,S,rV⟩:=d9.wt;have eqW:qW.length<=40:=by
     rw[rV.len,ah,av,ah];lia
    refine⟨_,rfl,.inl ⟨rfl,_,bP.of S⟩,_,rfl,_,rfl,b,_,_,_,rfl,rfl,hL9,PJ,pt,_,0,_,rfl,rfl,aeB,rfl,_,rfl,_,rfl,b,_,_,_,rfl,rfl,hL9,PJ,pt,_,1,_,rfl,rfl,aeB,rfl,_,_,rfl,rfl,_,rfl,_,_,rfl,rfl,_,rfl,g7,λz5 hz5=>?_⟩;have eia:isAt rs (h:Int) r=(decide ((h:Int)=rs[r].a) || decide ((h:Int)=rs[r].b)):=by unfold isAt;rw[aa M]
    have ef:rs[r].a+rs[r].b-(h:Int)=((eN rs r h:Nat):Int):=by
     have a0:=okr.a0;have b0:=okr.b0;unfold eN;rw[aa M];show _=((fR rs[r] h:Nat):Int);rw[eia,Bool.or_eq_true,decide_eq_true_iff,decide_eq_true_iff] at hat;unfold fR;by_cases z:(h:Int)=rs[r].a
     ·rw[ee z];lia
     ·rw[er z];lia
    have ev2:wV (eN rs r h,some r)=[V.int (eN rs r h:Nat),V.int r]:=rfl;refine⟨B,_,_,rfl,rfl,aG.new hz5 _ _ S,mj (by rw[ah];lia),?_⟩;have d10:=d9.addW (f:=(eN rs r h,some r)) S rV hz5;rw[ev2] at d10
    try dsimp only
    rw[ef];refine Gc _ _ ⟨_,rfl,?_,?_⟩
    ·rw[aT,aT,<- cF,<- cF]
     exact d10
    ·rw[aH nl2,aH (aE hg9 hz5)]
     exact hg9
   ·rintro C H8 ⟨amB,rfl,d8,hg8⟩
    rw[ah,ah,iX] at d8;have hle:=gU List.length aeu;rw[ah,av,wK,ah] at hle;rw[hnum] at Zd;refine⟨20-(A+1),∅,A+1,_,_,V9,_,_,_,_,_,rfl,d8,⟨md.oe,.inr ⟨A,sk,l2,rfl,pz,hl2,?_,?_,?_,?_⟩⟩,rfl⟩
    ·rw[Zd,cF]
    ·rw[List.drop_append_of_le_length ∅,aeu]
    ·rw[av,ah]
     lia
    ·rw[hts]
     exact md.pt
  ·rintro C H3 Q1 Q2 hq ⟨v1,O,v2,e2,a4,ys4,f5,f6,f7,f8,f9,f10,b,g2,g3⟩
   refine⟨v1,O,v2,e2,a4,ys4,f5,f6,f7,f8,f9,f10,b,g2,?_⟩;cases b with
   |true =>
    rw[ee rfl] at g3 ⊢;obtain⟨h1,h2,h3,h4,h5,h6,h7,h8,h9⟩:=g3;exact⟨h1,h2,h3,h4,h5,h6,h7,h8,hq _ _ h9⟩
   |false =>
    rw[er aF] at g3 ⊢;exact hq _ _ g3
end
section
variable{ns:List Int}{rs:List R5}{o:cX ns rs}{os:List Nat}{bs:List (List Bool)}{cl:List (Nat×Nat)}{s s0 sk:NS}
noncomputable def EK:dN->Bool
 |.send _ _ _=>true
 |_=>false
theorem Zq{h num:Nat}{e a:List Nat}{c:Nat->Nat}:((e.map (dN.hand h)++a.map λr=>dN.send h r (c r)).filter EK).length=a.length:=by
 rw[fO,av];have g:(e.map (dN.hand h)).filter EK=[]:=List.filter_eq_nil_iff.mpr λd b=>by
  obtain⟨r,_,rfl⟩:=aL.mp b;exact Bool.noConfusion
 have f:(a.map λr=>dN.send h r (c r)).filter EK=a.map λr=>dN.send h r (c r):=List.filter_eq_self.mpr λd b=>by
  obtain⟨r,_,rfl⟩:=aL.mp b;rfl
 rw[g,f,ah];exact Nat.zero_add _
theorem Pz.cnt{n x num g:Nat}{to:Option Nat}{E0:List En}(z:Pz ns rs o n (c5 rs s x to os) sk)(O:eU (kJ ns rs o (c5 rs s x to os).ws g) ((c5 rs s x to os).R g) os)(j:J5 ns rs os s.ls.length g num E0 (c5 rs s x to os))(B:s.cps=[]):∃l,sk.ls[s.ls.length]?=some l/\(l.aD.filter EK).length=n+sk.cps.length:=by
 generalize v:c5 rs s x to os=s0 at z;induction z with
 |refl =>
  subst v;unfold c5;obtain⟨t,u⟩:=uG (rs:=rs) (os:=os) (h:=s.aO.getD x 0) (aU:=none) (s:=gj s x to) (i:=s.ls.length) (l:={cE s x to with aD:=[.post (s.aO.getD x 0)]}) iB;rw[u];refine⟨_,LN (ls:=(gj s x to).ls) (by show s.ls.length<(s.ls++[_]).length;rw[av];exact wI _) _,?_⟩;show (([dN.post _]++_).filter EK).length=0+(s.cps++_).length;rw[B,fO,av,Zq (num:=0),List.nil_append,ah];rfl
 |@step n V sk c l b ts z d f w N p S D =>
  subst v;obtain⟨U,F,G⟩:=D rfl;obtain⟨E,_,y⟩:=z.j5 O j;obtain⟨q,A,m,_⟩:=y.comes d f;obtain⟨T,M,P,C,Q⟩:=y.lt;obtain⟨L,I,_⟩:=z.same;rw[q] at f
  have:=f
  rw[F] at this;cases this
  have:=f
  rw[M] at this;cases this;have H:b=os:=by
   rw[C,L,I] at w;exact w.uniq O
  subst H;have e:sk.ls[c.l]?=some l:=by rw[q];exact f
  unfold gk;rw[ee A];obtain⟨t,u⟩:=uG (rs:=rs) (os:=b) (h:=c.h) (aU:=some c.r) (jf (a:=0) (os:=b) (ts:=ts) e);rw[u];have J:(bA sk 0 c l b ts).ls.length=sk.ls.length:=by unfold bA;split <;> exact bT
  have K:(bA sk 0 c l b ts).cps=sk.cps.eraseIdx 0:=by unfold bA;split <;> rfl
  refine⟨_,by rw[<- q];exact LN (by rw[J];exact (ai.mp e).1) _,?_⟩;show (((l.aD++[fU l c b])++_).filter EK).length=n+1+((bA sk 0 c l b ts).cps++_).length;rw[fO,fO,av,av,Zq (num:=0),G,m,K,av,ah];have k:0<sk.cps.length:=(ai.mp d).1;rw[List.length_eraseIdx,ee k];show n+sk.cps.length+0+_=_;lia
theorem Pz.pre{n m:Nat}(z:Pz ns rs o n s sk)(h:m<n):∃a,Pz ns rs o m s a/\a.cps≠[]:=by
 induction z with
 |refl=>exact eL h (rY _)
 |@step n s sk g l c q z b k i f p j d =>
  by_cases e:m=n
  ·subst e
   exact⟨sk,z,λe=>by rw[e] at b;cases b⟩
  ·exact d ∅
end
section
variable{ns:List Int}{rs:List R5}{o:cX ns rs}{os:List Nat}{s s':NS}{g:Nat}
theorem Ye{cp:Cp}{l:LS}{ts:List T3}(hl:s.ls[cp.l]?=some l)(d:g≠l.grp):(gk rs s 0 cp l os ts).ts g=s.ts g:=by
 unfold gk;split
 ·obtain⟨c,b⟩:=uG (rs:=rs) (os:=os) (h:=cp.h) (aU:=some cp.r) (jf (a:=0) (os:=os) (ts:=ts) hl)
  rw[b];show (bA s 0 cp l os ts).ts g=s.ts g;unfold bA;split
  ·rfl
  ·show fD s.ts l.grp ts g=s.ts g
   exact cZ d
 ·rfl
theorem Pz.aeC{n i a num:Nat}{E0:List En}(z:Pz ns rs o n s s')(O:eU (kJ ns rs o s.ws a) (s.R a) os)(j:J5 ns rs os i a num E0 s)(r:g≠a):s'.ts g=s.ts g:=by
 induction z with
 |refl=>rfl
 |@step n s s' u l e ts z b c v t p w k =>
  obtain⟨E,_,d⟩:=z.j5 O j;obtain⟨x,m,_,f,_⟩:=d.lt;have q:=d.all _ (aM b);have h:=c;rw[q,m] at h;cases h;rw[Ye c (by rw[f];exact r)];exact k O j
theorem Yg{x:Nat}{to:Option Nat}:(c5 rs s x to os).ts=s.ts:=by
 unfold c5;obtain⟨b,a⟩:=uG (rs:=rs) (os:=os) (h:=s.aO.getD x 0) (aU:=none) (s:=gj s x to) (i:=s.ls.length) (l:={cE s x to with aD:=[.post (s.aO.getD x 0)]}) iB;rw[a];rfl
end
section
variable{P:Program}{w:World}{K:af}{mg:Str->Option Value}{base:Heap}
theorem Rg(rs:List R5):(rs.map λr=>k7 r.d.toNat true).map stand=rs.map λr=>aA r.d.toNat:=by
 rw[dw];exact c6 λr _=>OG _
theorem VN{n:Nat}{rs:List R5}(ok:∀r∈rs,r.Ok n):Fit rs (rs.map λr=>k7 r.d.toNat true):=by
 refine⟨ah _,λi r b c a=>?_⟩;rw[aj,c] at a;cases a;rw[List.length_replicate]
 have:=(ok r (aM c)).d1
 lia
theorem aeD{ns:List Int}{rs:List R5}{cl:List (Nat×Nat)}(o:cX ns rs)(j:cl.length<=20)(b:∀c∈cl,c.1<ns.length/\c.2<3):SD ns rs (rs.map λr=>k7 r.d.toNat true) cl 0 (S0 ns rs cl):=by
 refine⟨⟨ah _,λw a=>?_,λg _ i e=>⟨?_,jn _,⟨jn _,by show (0:Int)<(ns.length:Int);lia⟩,.inl rfl⟩⟩,⟨?_,?_,λg k=>?_,λh f=>?_,?_,λw a=>?_,bM _,λl z=>(by cases z),bM _,λc z=>(by cases z),λg=>⟨bM _,k8⟩⟩,(Rg rs).symm,VN o.ok,rfl,rfl⟩
 ·obtain⟨r,m,rfl⟩:=aL.mp a
  rw[bB]
  have:=(o.ok r m).d4
  lia
 ·show 0<=ns.getD i 0
  rw[az,aa e];exact o.pos _ (aQ e)
 ·show (cl.map _).length=(cl.map _).length
  rw[ah,ah]
 ·show (cl.map _).length<=20
  rw[ah];exact j
 ·obtain⟨c,z,rfl⟩:=aL.mp k
  exact (b c z).2
 ·obtain⟨c,z,rfl⟩:=aL.mp f
  exact (b c z).1
 ·show (cl.map _).length=(cl.map _).length
  rw[ah,ah]
 ·obtain⟨c,z,rfl⟩:=aL.mp a
  exact bM _
theorem SK{a:Addr}{xs:List V}{g:TG}{j:TS}{D:Ends}{b:L2.St}{H:Hp}(f:Nat->L2.St->Hp->Prop)(o:f 0 b H)(hl:∀i b H,i<=xs.length->f i b H->bP K H a xs)
 (n:∀i x b H p (N:L2.St->Hp->Prop),(∀c d,f (i+1) c d->N c d)->xs[i]?=some x->f i b H->H p=none->g (.ref p) b (upd H p (.tup [.int (i:Nat),x])) λe h=>j {D with nx:=N,ct:=N,bk:=D.nx} e h) (q:∀b H,f xs.length b H->D.nx b H) :
 ∃W:Nat->Nat->L2.St->Hp->Prop,(∃m,W 0 m b H)/\∀i m b H,W i m b H ->
  ((VX K a).stop i H/\D.nx b H)∨((VX K a).go i H/\∃N:L2.St->Hp->Prop,(∀c d,N c d->∃k,k<m/\W (i+1) k c d)/\∀x d,(VX K a).Km i H x d->g x b d λe h=>j {D with nx:=N,ct:=N,bk:=D.nx} e h) :=
 Uh f o hl (λi x b H p l z r=>n i x b H p _ (λ_ _ x=>x) l z r) q
structure NX(K:af)(CT:Addr)(h:Hp)(tp ln lr b0 cb dl:Addr)(ds:List Addr)(ns:List Int)(rs:List R5)(cl:List (Nat×Nat))(tt:Nat->List T3):Prop where
 vP:c7 K CT h tp ln lr ns rs
 rps:KN K h b0 rs
 QM:∃qs:List Addr,h cb=some (.lst (qs.map V.ref))/\dF K h qs (aee cl)
 O4:h dl=some (.lst (ds.map V.ref))
 d3:ds.length=3
 nd:ds.Nodup
 ny:∀(g:Nat) d,ds[g]?=some d->h d=some (.dT ((tt g).map fk))
 ap:∀d∈ds,d≠tp/\d≠ln/\d≠lr/\d≠b0/\d≠cb/\d≠dl
section
variable{CT:Addr}{h h':Hp}{tp ln lr b0 cb dl:Addr}{ds:List Addr}{ns:List Int}{rs:List R5}{cl:List (Nat×Nat)}{tt:Nat->List T3}
theorem NX.mono(x:NX K CT h tp ln lr b0 cb dl ds ns rs cl tt)(s:aG h h'):NX K CT h' tp ln lr b0 cb dl ds ns rs cl tt:=by
 obtain⟨f,a,c⟩:=x.QM;exact⟨x.vP.mono s,x.rps.keep (λo z=>s _ _ z) (λb x=>s.dB),⟨f,s _ _ a,c.mono λb x=>s.dB⟩,s _ _ x.O4,x.d3,x.nd,λg d e=>s _ _ (x.ny g d e),x.ap⟩
theorem NX.put(x:NX K CT h tp ln lr b0 cb dl ds ns rs cl tt){g:Nat}{d:Addr}{ts:List T3}(hd:ds[g]?=some d)(a:∀b o,h b=some o->b≠d->h' b=some o)(j:h' d=some (.dT (ts.map fk))):NX K CT h' tp ln lr b0 cb dl ds ns rs cl (fD tt g ts):=by
 obtain⟨l,u,r,A,p,s⟩:=x.ap d (aM hd);have f:∀c y,cP K h c y->cP K h' c y:=λc y=>cP.past (x.ny g d hd) Mp (λb o e n=>a b o e n);obtain⟨k,v,t⟩:=x.QM;refine⟨x.vP.keep (λc o e q=>a c o e ?_) f,x.rps.keep (λo e=>a _ o e (bK A)) f,⟨k,a _ _ v (bK p),t.mono f⟩,a _ _ x.O4 (bK s),x.d3,x.nd,λi m e=>?_,x.ap⟩
 ·rcases q with rfl|rfl|rfl
  ·exact bK l
  ·exact bK u
  ·exact bK r
 ·by_cases z:i=g
  ·subst z
   rw[hd] at e;cases e;rw[bS];exact j
  ·rw[cZ z]
   refine a _ _ (x.ny i m e) λw=>z ?_;subst w;exact (List.getElem?_inj (ai.mp e).1 x.nd).mp (e.trans hd.symm)
end
theorem aeE(d:dN):decide (V.str (dW d)=V.str "send")=EK d:=by
 cases d
 ·exact (by decide +kernel:decide (V.str "post" = V.str "send")=false)
 ·exact (by decide +kernel:decide (V.str "come" = V.str "send")=false)
 ·exact (by decide +kernel:decide (V.str "hand" = V.str "send")=false)
 ·exact (by decide +kernel:decide (V.str "send" = V.str "send")=true)
 ·exact (by decide +kernel:decide (V.str "twice" = V.str "send")=false)
 ·exact (by decide +kernel:decide (V.str "lost" = V.str "send")=false)
inductive VO(K:af)(vs:List V)(H:Hp)(Q:VK)(E:XK):Prop
 |mk (a:Addr) (ns:List Int):vs=[.ref a]->bP K H a (ns.map V.int)->ns.length<=63->(∀H',Q (.bl true) H')->VO K vs H Q E
theorem abt{t:Ad}(T:Txt K mg t):cz P w K mg base iM 9 t.MG t.MH ["_law_script"]  (VO K):=by
 refine T.U3.F.kh iy λH Q E L h=>?_
 ·obtain⟨a,cs,rfl,hS,hlen,k⟩:=h
  refine⟨_,(aq (sS 1 iy (bw fB aB (bw dZ (cG (gw T) L T.gz (nZ (pv 0) aB)) aB))) (aq (sS 2 iy (bw dZ (cG (gw T) L T.gz (nZ (pv 0) aB)) aB)) (aq (sS 3 iy (cG (Pu T) L T.JQ (Ir (pv 0) (pv 1) (pv 2)))) (aq (sS 4 iy (cG (LD T) L T.E6 (Ir (pv 0) (pv 1) (pv 2)))) (aq (sS 5 iy (cI T.C3 (Jh T) L T.adm (nZ (cI T.A8 (HV T) L T.aaG (nZ (cG (Pr T) L T.JP (nZ (pv 0) (pv 1))) (fW ig (by rfl) T.tw boot_list (gV (pv 3))))) (fW ig (by rfl) T.tw boot_list (gV (pv 4)))))) (aq (fS (gB rfl T.jy (gV aB)) (gT 6 iy) (oE (cG (NF T) L T.Hi (Ir (pv 5) (pv 1) (pv 6))))) (aq (sS 7 iy (jq (Ir yW yW yW))) (aq (fS (Qc rfl T.E7 (gV (bw Z7 (jq (gV aB)) (yQ Wp (pv 0) (wQ aB) (wQ aB))))) (Kl (n:=2) rfl (i0 (gT 8 iy) (i0 (gT 9 iy) Ay))) (aq (sS 10 iy (bw dZ (pv 9) (lS T.iN (pv 4)))) (aq (sS 6 iy (xT (xL (pv 4) (pv 10)) aB)) (aq (Bx (i:=11) iy.nd rfl (Or.inl rfl) (kO iy ["_law_caller","_law_callers_here","_law_one"] [none,some 4,some 6]) rfl (gB rfl T.jy (gV (lS T.iN (pv 4)))) (λ_ _ _ _=>by exact (gS 0 Sd)) (λ_ _ _ _=>by exact (mP (qT ud (yT K (yL K (pv 1) (pv 0)) aB) (pv 2)))) (λ_ _ _ _=>by exact (pv 0))) (aq (sS 12 iy (xL (pv 11) (bw dZ (bw fK (pv 9) aB) (lS T.iN (pv 11))))) (aq (cD (qT ud (bw dZ (bw fK (pv 9) aB) aB) aB) (bI (sS 12 iy iO)) bz) (aq (sS 13 iy (cG (VM T) L T.Qx (P0 (pv 3) (cM (pv 5) T.bV T.zM (Dr T) L (gV (pv 6))) (xL (pv 7) (pv 6)) (pv 4) (pv 10) (pv 12)))) (aq (cD (qT sf (Cw (pv 5) T.bV T.O7 (Nq T) (L.mono (!_)) T.O6 .nil mK (nZ (pv 10) (pv 12))) (pv 8)) oB bz) (aq (fS (fV (pv 13)) (gT 14 iy) (bI (cD (PW.pt (Bs (qT ud (xT (pv 14) aB) gG) (wN (qT sf (kD (pv 5) T.bV T.IK (Ik T) (L.mono (!_)) T.IJ (show bZ [V.int 0] [_] from .cons ⟨_,rfl⟩ .nil) mK) gG)))) oB bz))) (aq (sS 15 iy (cM (pv 5) T.bV T.E5 (LK T) L (gV (pv 8)))) (aq (cD (PW.pt (Jp (jo (wM (cG (Gd T) L T.zN (gV (pv 15))))) (Jp (qT KC (pv 15) (pv 13)) (Kh (qT KC (kD (pv 5) T.bV T.xJ.m (Jj T) (L.mono (!_)) T.xJ.B .nil mK) (jq iP)))))) oB bz) (aq (sS 16 iy (cM (pv 5) T.bV T.E4 (LF T) L (gV (pv 6)))) (aq (cD (qT KC (pv 16) (cB CO T.Hq boot_sorted (gV (gq (kO iy ["_law_house","_law_caller","_law_notes","_law_one"] [none,none,some 7,some 6]) rfl (fV (fW (OY rfl) (by rfl) T.tw boot_list (gV (xL (pv 7) (pv 6))))) (λ_ _ _ _=>by exact (KE K rfl (n:=2) rfl (i0 (gS 0 JL) (i0 (gS 1 JL) Ay)))) (λ_ _ _ _=>by exact mO) (λ_ _ _ _=>by exact (dU (Ir (pv 0) (pv 1) (P8 (CF L) (yL K (pv 2) (pv 3)) (dU (nZ (pv 0) (pv 1))) (λ_ _=>rfl))))))))) oB bz) (oE (pS be bh bg eE (pv 16) (gV (dU (Ir aB aB aB)))))))))))))))))) oB)))))))),?_⟩
  left
  refine⟨_,rfl,a,cs,0,rfl,hS,!_,_,_,rfl,rfl,(by show (0:Int)<10;decide),_,_,rfl,rfl,?_⟩;obtain⟨n,hn,hn1,VP⟩:∃n:Nat,1+cs.getD (0:Int).toNat 0%10=(n:Int)/\1<=n/\n<=10:=by
   have h1:=bU (cs.getD (0:Int).toNat 0) (show (10:Int)≠0 by decide);have h2:=ck (cs.getD (0:Int).toNat 0) (show (0:Int)<10 by decide);exact⟨(1+cs.getD (0:Int).toNat 0%10).toNat,∅,∅,∅⟩
  show iz 1 (V.int (1+cs.getD (0:Int).toNat 0%10)) _ _ _;rw[hn];refine⟨_,rfl,a,cs,1,rfl,hS,!_,_,_,rfl,rfl,(by show (0:Int)<3;decide),?_⟩;obtain⟨g,hge,hg⟩:∃g:Nat,cs.getD (1:Int).toNat 0%3=(g:Int)/\g<3:=LM _ (!_);show iz 2 (V.int (cs.getD (1:Int).toNat 0%3)) _ _ _;rw[hge];refine⟨_,rfl,_,rfl,_,rfl,a,cs,n,g,rfl,hS,hn1,VP,hg,λb0 H1 rs s1 hb0 hR1 l14 ok=>?_⟩;refine⟨_,rfl,_,rfl,_,rfl,a,cs,n,g,rfl,s1.seq hS,hn1,VP,hg,λcb qs H2 cl A aeF hcb Zf hc1 Xv abu=>?_⟩;have s12:=s1.trans A;refine⟨_,rfl,_,rfl,a,cs,n,rfl,s12.seq hS,hn1,VP,λa0 H3 ns s3 ha0 hA3 eln nd nn=>?_⟩;subst eln;have s13:=s12.trans s3;obtain⟨us,hB1,aeG⟩:=hR1;have hB3:=(A.trans s3) _ _ hB1;have abv:dF K H3 us (rs.map R5.vs):=aeG.mono λb x=>(A.trans s3).dB;have Jk:=s3 _ _ hcb;have abw:dF K H3 qs (aee cl):=Zf.mono λb x=>s3.dB;have hS3:=s13.seq hS;have tok:cX ns rs:=⟨nd,ok,hn1,VP,∅,nn⟩;have hw4:∀r∈rs,1<=r.d/\r.d<=4:=λr hr'=>⟨(ok r hr').d1,(ok r hr').d4⟩;have he7:∀r∈rs,1<=r.e/\r.e<=7:=λr hr'=>⟨(ok r hr').e1,(ok r hr').e7⟩;have ah3:cb≠b0:=(aE hB1 aeF).symm;refine⟨_,rfl,b0,_,rfl,.inl (bP.of hB3),λl2 h2=>?_⟩;have t2:=aG.new (o:=.lst (us.map V.ref)) h2;have hl2:=au (H:=H3) (a:=l2) (o:=.lst (us.map V.ref));generalize upd H3 l2 (.lst (us.map V.ref))=H4 at t2 hl2;refine λJ dx np rT nep=>?_;have t7:aG H4 (upd (upd H4 dx (.own J)) J (.ins t.bD dx [])):=(aG.new rT).trans (aG.new (by rw[aH (bK nep)];exact np));refine⟨J,dx,a0,l2,ns,rs,rfl,au,bP.of (t7 _ _ (t2 _ _ hA3)),⟨l2,_,rfl,bP.of (t7 _ _ hl2),KN.Qn (l:=l2) (abv.mono λb x=>(t2.trans t7).dB)⟩,hn1,VP,nn,nd,∅,ok,λln lr H5 hln hlr hT kp=>⟨rfl,?_⟩⟩;have t5:aG H3 H5:=t2.trans λb o e=>kp b o (t7 b o e) (aE e np);have ncb:cb≠J/\cb≠ln/\cb≠lr:=⟨aE (t2 _ _ Jk) np,aE (t7 _ _ (t2 _ _ Jk)) hln,aE (t7 _ _ (t2 _ _ Jk)) hlr⟩;refine⟨_,rfl,cb,_,rfl,.inl (bP.of (t5 _ _ Jk)),λl3 h3=>?_⟩;have t6:=aG.new (o:=.lst (qs.map V.ref)) h3;have hl3:=au (H:=H5) (a:=l3) (o:=.lst (qs.map V.ref));have hT6:=hT.mono t6;have YB:=t5.trans t6;generalize upd H5 l3 (.lst (qs.map V.ref))=H6 at t6 hl3 hT6 YB;refine λp DB npp rT nep=>?_;have t7:aG H6 (upd (upd H6 DB (.own p)) p (.ins t.cN DB [])):=(aG.new rT).trans (aG.new (by rw[aH (bK nep)];exact npp));refine⟨p,DB,J,ln,lr,l3,ns,rs,qs,cl,rfl,au,hT6.mono t7,∅,∅,hw4,bP.of (t7 _ _ hl3),abw.mono λb x=>(YB.trans t7).dB,Xv,abu,λF H7 N kp fr=>⟨rfl,?_⟩⟩;have S7:aG H6 (Off H7 F):=UG t7 npp kp fr;have hT7:=hT6.mono S7;have S37:=YB.trans S7;have s37:=S37.trans dH;have lJ:EJ ns rs tok _ cl 0 _:=⟨aeD tok Xv abu,aec⟩;have W0:NW K (nc t) t.bD H7 F p J ln lr ns rs (S0 ns rs cl):=hT7.nw N (λb z=>z);show Rn (ZR (Yu (gx (tC (V.int 3)) Bu)) (iz 6) _) _ _ _ H7;refine bO λNx G=>?_;refine⟨3,rfl,!_,!_,vM (n:=(3:Int).toNat) (λi U H2=>∃(A:NS) (C:Addr->Prop) (v6:Option V),NW K (nc t) t.bD H2 C p J ln lr ns rs A/\EJ ns rs tok (rs.map λr=>k7 r.d.toNat true) cl 0 A/\Step H7 F H2 C/\U=[some (.ref a),some (.int (ns.length:Nat)),some (.int g),some (.ref b0),some (.ref cb),some (.ref p),v6,none,none,none,none,none,none,none,none,none,none]) ⟨_,F,_,W0,lJ,Step.refl' (aG.refl _),rfl⟩ ?_ ?_⟩
  ·rintro i U H2 hi ⟨A,C,v6,W2,PF,st2,rfl⟩
   refine⟨_,rfl,_,rfl,_,rfl,C,p,J,ln,lr,ns,rs,tok,_,cl,0,A,i,(by rw[gE];rfl),W2,PF,hi,λs3 F3 H3 W3 sd3 st3=>⟨s3,F3,_,W3,sd3,st2.trans st3,rfl⟩⟩
  rintro U H8 ⟨s8,F8,v6,W8,lC,Sx,rfl⟩;refine G _ _ ?_;have S38:=S37.trans (zj Sx);have hT8:=hT7.mono (zj Sx);have N8:=W8.fC;have cp8:s8.cps=[]:=iw.mp (by have:=lC.bd.cb;lia);have ls8:s8.ls.length=0:=by have:=lC.bd.ll;lia
  have ts8:∀g,s8.ts g=[]:=λg=>iw.mp (by have:=(lC.bd.tb g).1;lia);have ws8:s8.ws=rs.map λr=>aA r.d.toNat:=lC.ws.trans (Rg rs);refine bO λNx G=>?_;refine λM h0 d1 h1 d2 h2=>⟨g9,λdl hdl=>G _ _ ?_⟩;have u0:=aG.new (o:=.dT []) h0;have u1:=aG.new (o:=.dT []) h1;have X:=aG.new (o:=.dT []) h2;have u3:=aG.new (o:=.lst [V.ref M,V.ref d1,V.ref d2]) hdl;have e0:=u3 _ _ (X _ _ (u1 _ _ (au (H:=H8) (a:=M) (o:=.dT []))));have e1:=u3 _ _ (X _ _ (au (H:=upd H8 M (.dT [])) (a:=d1) (o:=.dT [])));have e2:=u3 _ _ (au (H:=upd (upd H8 M (.dT [])) d1 (.dT [])) (a:=d2) (o:=.dT []));have e3:=au (H:=upd (upd (upd H8 M (.dT [])) d1 (.dT [])) d2 (.dT [])) (a:=dl) (o:=.lst [V.ref M,V.ref d1,V.ref d2]);have n01:M≠d1:=aE (au (H:=H8) (a:=M) (o:=.dT [])) h1;have n02:M≠d2:=aE (u1 _ _ (au (H:=H8) (a:=M) (o:=.dT []))) h2;have n12:d1≠d2:=aE (au (H:=upd H8 M (.dT [])) (a:=d1) (o:=.dT [])) h2;have n0l:M≠dl:=aE (X _ _ (u1 _ _ (au (H:=H8) (a:=M) (o:=.dT [])))) hdl;have n1l:d1≠dl:=aE (X _ _ (au (H:=upd H8 M (.dT [])) (a:=d1) (o:=.dT []))) hdl;have n2l:d2≠dl:=aE (au (H:=upd (upd H8 M (.dT [])) d1 (.dT [])) (a:=d2) (o:=.dT [])) hdl;have zk:=u0.free h1;have h2':=u0.free (u1.free h2);have aeJ:=u0.free (u1.free (X.free hdl));have s89:=u0.trans (u1.trans (X.trans u3));generalize upd (upd (upd (upd H8 M (.dT [])) d1 (.dT [])) d2 (.dT [])) dl (.lst [V.ref M,V.ref d1,V.ref d2])=H9 at *;have nF:∀b,H8 b=none->¬F8 b:=λb e z=>by
   obtain⟨o,h⟩:=N8.there z;rw[e] at h;cases h
  have S89:=iF (F:=F8) s89;have yz:=S38.trans S89;have N9:=N8.mono s89;have SM:∀{b o},Off H8 F8 b=some o->∀x,H8 x=none->x≠b:=λ{b o} e x hx z=>by
   have:=dH _ _ e
   rw[<- z,hx] at this;cases this
  obtain⟨⟨dt,htp⟩,hln,_,hlr,_⟩:=id hT8;have aeK:=S38 _ _ hB3;have aeL:=S38 _ _ Jk;have W:∀x,H8 x=none->x≠dl->x≠J/\x≠ln/\x≠lr/\x≠b0/\x≠cb/\x≠dl:=λx hx nl=>⟨SM htp x hx,SM hln x hx,SM hlr x hx,SM aeK x hx,SM aeL x hx,nl⟩;have qR:NX K t.bD (Off H9 F8) J ln lr b0 cb dl [M,d1,d2] ns rs cl (λ_=>[]):=by
   refine⟨hT8.mono S89,⟨us,yz _ _ hB3,abv.mono λb x=>yz.dB⟩,⟨qs,yz _ _ Jk,abw.mono λb x=>yz.dB⟩,qp (nF dl aeJ) e3,rfl,?_,λg d e=>?_,λd hd=>?_⟩
   ·simp[n01,n02,n12]
   ·match g,e with
    |0,e=>cases e;exact qp (nF _ h0) e0
    |1,e=>cases e;exact qp (nF _ zk) e1
    |2,e=>cases e;exact qp (nF _ h2') e2
    |g+3,e=>cases e
   ·rcases bf.mp hd with rfl|hd
    ·exact W _ h0 n0l
    rcases bf.mp hd with rfl|hd
    ·exact W _ zk n1l
    rcases bf.mp hd with rfl|hd
    ·exact W _ h2' n2l
    ·cases hd
  have hS9:bP K (Off H9 F8) a (cs.map V.int):=yz.seq hS3;generalize [M,d1,d2]=xP at qR;generalize (rs.map λr=>k7 r.d.toNat true)=bs at lC;obtain⟨I,eys,lys⟩:∃I:List Int,Cz (cs.map V.int) (some 30) (some 48)=I.map V.int/\I.length<=18:=Ur cs 30 48;refine⟨nT,λl0 LO=>?_⟩;have v1:=aG.new (o:=.lst [V.int 0]) LO;have w1:=au (H:=H9) (a:=l0) (o:=.lst [V.int 0]);generalize upd H9 l0 (.lst [V.int 0])=Ua at v1 w1;refine⟨_,rfl,_,rfl,_,rfl,a,_,rfl,(dH.trans v1).seq hS9,λlq hlq=>?_⟩;rw[eys];have v2:=aG.new (o:=.lst (I.map V.int)) hlq;have w2:=au (H:=Ua) (a:=lq) (o:=.lst (I.map V.int));generalize upd Ua lq (.lst (I.map V.int))=k9 at v2 w2;refine⟨l0,lq,_,_,rfl,rfl,v2 _ _ w1,w2,kg (cS (by rw[ah];show 1+I.length<=1000;lia)),λlp hlp=>?_⟩;have e5:[V.int 0]++I.map V.int=((0:Int)::I).map V.int:=rfl;rw[e5];have v3:=aG.new (o:=.lst (((0:Int)::I).map V.int)) hlp;have w3:=au (H:=k9) (a:=lp) (o:=.lst (((0:Int)::I).map V.int));have nFp:¬F8 lp:=λz=>by
   obtain⟨o,h⟩:=(N9.mono (v1.trans v2)).there z;rw[hlp] at h;cases h
  have ndp:∀d∈xP,lp≠d:=λd hd z=>by
   obtain⟨i,hi⟩:=oi hd;exact aE ((v1.trans v2) _ _ (dH _ _ (qR.ny i d hi))) hlp z.symm
  generalize upd k9 lp (.lst (((0:Int)::I).map V.int))=V5 at v3 w3;have abz:=v1.trans (v2.trans v3);have N12:=N9.mono abz;have ah9:=qR.mono (iF (F:=F8) abz);have aeN:Off V5 F8 lp=some (.lst (((0:Int)::I).map V.int)):=qp nFp w3;have lzs:((0:Int)::I).length<=19:=by show I.length+1<=19;lia
  generalize (0:Int)::I=zs at *;refine⟨lp,_,rfl,bP.of (dH _ _ aeN),SK (K:=K) (a:=lp) (xs:=zs.map V.int) (λj U H2=>∃(A:NS) (C:Addr->Prop) (tt:Nat->List T3) (v6 v8 v9 v10 v11 ia Zo NP NQ NR:Option V),fG K (nc t) H2 C p J ns.length A/\NX K t.bD (Off H2 C) J ln lr b0 cb dl xP ns rs cl tt/\EJ ns rs tok bs cl (2200*j) A/\A.cps=[]/\A.ls.length=j/\(A.ws=rs.map λr=>aA r.d.toNat)/\(∀g,(tt g).Perm (A.ts g)/\bX (tt g))/\Off H2 C lp=some (.lst (zs.map V.int))/\U=[some (.ref a),some (.int (ns.length:Nat)),some (.int g),some (.ref b0),some (.ref cb),some (.ref p),v6,some (.ref dl),v8,v9,v10,v11,ia,Zo,NP,NQ,NR])
   ⟨s8,F8,_,_,_,_,_,_,_,_,_,_,_,N12,ah9,lC,cp8,ls8,ws8,λg=>⟨by rw[ts8],k8⟩,aeN,rfl⟩ (λj U H2 _ z=>?_) ?_ ?_⟩
  ·obtain⟨A,C,tt,v6,v8,v9,v10,v11,ia,Zo,NP,NQ,NR,_,_,_,_,_,_,_,h5,_⟩:=z
   exact bP.of (dH _ _ h5)
  ·rintro j y U H2 p0 Nf Gc hj ⟨A,C,tt,v6,v8,v9,v10,v11,ia,Zo,NP,NQ,NR,N2,nx2,PF,cp2,ls2,ws2,htt,hq2,rfl⟩ hp0
   have hjl:j<zs.length:=by
    have:=(ai.mp hj).1
    rw[ah] at this;exact this
   rw[aj,aa hjl] at hj;cases hj;generalize zs[j]=cell;have w0:=aG.new (o:=.tup [V.int (j:Nat),V.int cell]) hp0;have hp1:=au (H:=H2) (a:=p0) (o:=.tup [V.int (j:Nat),V.int cell]);have N3:=N2.mono w0;have nx3:=nx2.mono (iF (F:=C) w0);have V0:=iF (F:=C) w0 _ _ hq2;generalize upd H2 p0 (.tup [V.int (j:Nat),V.int cell])=H3 at w0 hp1 N3 nx3 V0;refine⟨p0,_,rfl,cP.of hp1,rfl,_,_,rfl,_,_,rfl,rfl,?_⟩;have hml:A.aO.length=cl.length:=by rw[PF.hm,ah]
   obtain⟨x,ex,hx⟩:=LM cell (show 0<cl.length by lia);have V8:A.groups.getD x 0=cl[x].2:=by rw[PF.gr,az,aj,aa hx];rfl
   have g3:cl[x].2<3:=(abu _ (aQ hx)).2;obtain⟨l8,Jk,abA⟩:=id nx3.QM;have eqp:l8.length=cl.length:=by rw[abA.len,ah]
   have abB:(((l8.map V.ref).length:Nat):Int)=(cl.length:Int):=by rw[ah,eqp]
   have VQ:=dH _ _ Jk;have at':∀{z:Nat} (hz:z<cl.length),FF (l8.map V.ref) (z:Int)=some (.ref (l8[z]'∅))/\cP K H3 (l8[z]'∅) [.int cl[z].1,.int cl[z].2]:=λ{z} hz=>⟨eY (by rw[aj,aa];rfl),dH.dB (abA.at' z _ _ (aa _) (by rw[aj,aa hz];rfl))⟩;obtain⟨ax,qx⟩:=at' hx;refine bO λNx G=>?_;refine⟨_,rfl,_,rfl,cb,_,rfl,.inl (bP.of VQ),_,_,rfl,rfl,(by rw[abB];lia),?_⟩
   try dsimp only
   rw[abB,ex];refine G _ _ ?_;refine bO λNx G=>?_;refine⟨_,rfl,_,rfl,cb,_,_,_,rfl,rfl,bP.of VQ,ax,_,_,1,_,rfl,rfl,qx,rfl,G _ _ ?_⟩;refine bO λNx G=>?_;refine⟨_,rfl,cb,_,rfl,.inl (bP.of VQ),(((l8.map V.ref).length:Nat):Int),rfl,∅,by rw[ah];lia,λacc hacc=>?_⟩;rw[ah,eqp];refine ir (n:=((cl.length:Int)).toNat) (λi I _=>I=bR ((aA i).filter λz=>decide ((cl.getD z (0,0)).2=cl[x].2))) hacc By sq rfl ?_ ?_
   ·rintro i I H9 hi D hy rfl z Ua ⟨rfl,rfl⟩
    rw[gE];have hic:i<cl.length:=∅
    obtain⟨a1,q1⟩:=at' hic;refine⟨_,rfl,_,rfl,cb,_,_,_,rfl,rfl,bP.of (D _ _ VQ),a1,_,_,1,_,rfl,rfl,D.dB q1,rfl,_,rfl,rfl,_,rfl,?_⟩;have ed:decide (V.int ((cl[i].2:Nat):Int)=V.int ((cl[x].2:Nat):Int))=decide ((cl.getD i (0,0)).2=cl[x].2):=by
     rw[az,aa hic,decide_eq_decide];exact⟨λz=>by have:=V.int.inj z;show cl[i].2=_;lia,λz=>by have z:cl[i].2=cl[x].2:=z;rw[z]⟩
    try dsimp only
    rw[ed];refine ko (λhcc=>?_) (λhcc=>?_)
    ·refine⟨_,rfl,?_⟩
     refine fQ hacc hi D hy ?_ ?_
     ·rw[ah]
      refine cS (aN (aX _ _) ?_);rw[bB];lia
     ·rw[oW,ee hcc,jI]
    ·refine jX hi D hy ?_
     rw[oW,er hcc,bY]
   rintro ys' H4 s4 hy rfl;rw[cy] at hy;refine G _ _ ?_;have hmem:∀z∈(aA cl.length).filter (λz=>decide ((cl.getD z (0,0)).2=cl[x].2)),∃hz:z<cl.length,cl[z].2=cl[x].2:=λz hz=>by
    obtain⟨z1,z2⟩:=bC.mp hz;have hz:=dm.mp z1;refine⟨hz,?_⟩
    have:=g8 z2
    rw[az,aa hz] at this;exact this
   have V7:x∈(aA cl.length).filter (λz=>decide ((cl.getD z (0,0)).2=cl[x].2)):=bC.mpr ⟨dm.mpr hx,e8 (by rw[az,aa hx];rfl)⟩;generalize (aA cl.length).filter (λz=>decide ((cl.getD z (0,0)).2=cl[x].2))=ms at hy hmem V7;have aeO:0<ms.length:=List.length_pos_of_mem V7;obtain⟨jj,ejj,hjj⟩:=LM (cell/6) aeO;refine bO λNx G=>?_;refine⟨_,rfl,_,rfl,_,_,rfl,rfl,⟨!_,!_⟩,_,rfl,acc,_,rfl,.inl (bP.of hy),_,_,rfl,rfl,(by show (0:Int)<(((bR ms).length:Nat):Int);rw[ah];lia),?_⟩
   try dsimp only
   rw[ah,ejj];refine⟨acc,_,_,_,rfl,rfl,bP.of hy,sC hjj,?_⟩;refine G _ _ ?_;obtain⟨hw,egw⟩:=hmem ms[jj] (aQ hjj);generalize ms[jj]=wr at hw egw;refine oX (λU H5=>H5=H4/\∃to:Option Nat,(∀y,to=some y->y<A.aO.length/\A.groups[y]?=A.groups[x]?)/\U=[some (.ref a),some (.int (ns.length:Nat)),some (.int g),some (.ref b0),some (.ref cb),some (.ref p),some (.int (cl[x].2:Nat)),some (.ref dl),some (.int (j:Nat)),some (.int cell),some (.int (x:Nat)),some (.ref acc),some (iE (to.map λk:Nat=>(k:Int))),Zo,NP,NQ,NR]) ?_ (λN' hN=>?_)
   rotate_left
   ·refine⟨_,rfl,_,_,rfl,rfl,⟨!_,!_⟩,_,_,rfl,rfl,(by show (0:Int)<3;decide),rfl,_,rfl,ko (λe=>?_) (λe=>?_)⟩
    ·exact hN _ _ ⟨rfl,none,λy z=>(by cases z),rfl⟩
    ·refine hN _ _ ⟨rfl,some wr,λy z=>?_,rfl⟩
     cases z;refine⟨∅,?_⟩;rw[PF.gr,aj,aj,aa hw,aa hx];exact gU some egw
   rintro U H4' ⟨e4,to,hto,rfl⟩;rw[e4];have N4:=N3.mono s4;have nx4:=nx3.mono (iF (F:=C) s4);have V2:=iF (F:=C) s4 _ _ V0;have W4:NW K (nc t) t.bD H4 C p J ln lr ns rs A:=nx4.vP.nw N4 λb z=>z;obtain⟨loc,dxx,q,hp,O,hF,hT⟩:=id N4;have cC:=O.get .fC _ rfl;rw[hp] at cC;obtain⟨dg,hdg⟩:∃dg,xP[cl[x].2]?=some dg:=⟨_,aa (by rw[nx4.d3];exact g3)⟩;refine bO λNx G=>?_;refine⟨_,rfl,_,rfl,p,_,_,rfl,cC,rfl,_,rfl,C,p,J,ln,lr,ns,rs,A,tok,cl[x].2,rfl,W4,PF.ok,g3,λlo os H5 s5 Vs hlo hO h12=>?_⟩;have N5:=N4.mono s5;have ry:=nx4.mono (iF (F:=C) s5);have XT:=iF (F:=C) s5 _ _ V2;obtain⟨Hx,aeP,aeQ⟩:=id ry.QM;have Yh:FF (xP.map V.ref) ((cl[x].2:Nat):Int)=some (.ref dg):=eY (by rw[aj,hdg];rfl);have Yi:=ry.ny _ _ hdg;refine⟨_,rfl,_,rfl,dl,_,_,_,rfl,rfl,bP.of (dH _ _ ry.O4),Yh,_,rfl,_,rfl,_,rfl,b0,lo,dg,cb,ns,rs,tok,os,Hx,bs,cl,2200*j,A,x,to,tt cl[x].2,rfl,(ry.mono dH).rps,hlo,dH _ _ Yi,dH _ _ aeP,aeQ.mono (λb x z=>dH.dB z),(by rw[V8];exact hO),h12,l14,hx,PF,∅,cp2,ws2,hto,(by rw[V8];exact (htt _).1),(htt _).2,λly qS H6 S n sk l sm aeR hly htS hd6 HX pz cpk hlk perm=>G _ _ ?_⟩;have ndg:=(pU Yi).1;have N6:=N5.keep (λb v e fb=>sm b v e λw=>ndg (w▸fb)) (λb x=>cP.past (dH _ _ Yi) Mp λc o e n=>sm c o e n);have smO:∀b o,Off H5 C b=some o->b≠dg->Off H6 C b=some o:=λb o e n=>qp (pU e).1 (sm b o (pU e).2 n);have nx6:=ry.put hdg smO (qp ndg hd6);have hq6:=smO _ _ XT (ndp dg (aM hdg));have nly:¬C ly:=λz=>by
    obtain⟨v,e⟩:=N5.there z;rw[aeR] at e;cases e
   have aeS:Off H6 C ly=some (.lst (qS.map V.ref)):=qp nly hly;have aeT:dF K (Off H6 C) qS (l.aD.map dN.vs):=htS.mono λb x=>N6.agL;have W6:NW K (nc t) t.bD H6 C p J ln lr ns rs A:=nx6.vP.nw N6 λb z=>z;obtain⟨loc,dxx,q,hp,O,hF,hT⟩:=id N6;have cC:=O.get .fC _ rfl;rw[hp] at cC;refine bO λNx G=>?_;refine⟨_,rfl,p,_,_,rfl,cC,rfl,_,rfl,_,rfl,C,p,J,ln,lr,ns,rs,A,tok,x,to,2200*j,rfl,W6,PF.ok,PF.bd,∅,∅,hto,λo2 F7 H7 O2 aih W7 Ov=>?_⟩;have eo:o2=os:=by
    have h:=O2;rw[V8] at h;exact h.uniq hO
   subst eo;refine⟨_,rfl,rfl,_,rfl,?_⟩;rw[ls2,e8 rfl];refine eZ (G _ _ ?_);obtain⟨l7,S1,j7,_,ll7⟩:=J5.post (s:=A) (x:=x) (to:=to) (Fo.of O2) PF.bd rfl ∅ cp2;have lJ:=PF.post (to:=to) ∅ O2 aih;have fr:=LJ (rs:=rs) (h:=A.aO.getD x 0) (aU:=none) (os:=o2) (s:=gj A x to) (i:=A.ls.length) (l:={cE A x to with aD:=[.post (A.aO.getD x 0)]}) iB;have eW:(c5 rs A x to o2).ws=A.ws:=fr.ws;have eR:(c5 rs A x to o2).R=A.R:=fr.R;have V6:eU (kJ ns rs tok (c5 rs A x to o2).ws (A.groups.getD x 0)) ((c5 rs A x to o2).R (A.groups.getD x 0)) o2:=by rw[eW,eR];exact O2
   obtain⟨lk,aeU,cnt⟩:=pz.cnt V6 j7 cp2;rw[hlk] at aeU;cases aeU;rw[cpk] at cnt;have cnt:(l.aD.filter EK).length=n:=cnt;rw[ls2] at S1 j7 ll7 hlk;have S7:=zj Ov;have nx7:=nx6.mono S7;have hq7:=S7 _ _ hq6;have Yj:=S7 _ _ aeS;have Yk:dF K (Off H7 F7) qS (l.aD.map dN.vs):=aeT.mono λb x=>S7.dB;have aii:(c5 rs A x to o2).ws=rs.map λr=>aA r.d.toNat:=eW.trans ws2;have vo:qS.length=l.aD.length:=by rw[Yk.len,ah]
   have aij:(c5 rs A x to o2).ts=A.ts:=Yg;generalize c5 rs A x to o2=s0 at *;refine bO λNx G=>?_;refine⟨_,rfl,ly,rfl,⟨_,bP.of (dH _ _ Yj)⟩,se (K:=K) (a:=ly) (xs:=qS.map V.ref) (λi U H9=>∃(m:Nat) (D:NS) (F9:Addr->Prop) (NP:Option V),Pz ns rs tok m s0 D/\m=((l.aD.take i).filter EK).length/\NW K (nc t) t.bD H9 F9 p J ln lr ns rs D/\aG (Off H7 F7) (Off H9 F9)/\U=[some (.ref a),some (.int (ns.length:Nat)),some (.int g),some (.ref b0),some (.ref cb),some (.ref p),some (.int (cl[x].2:Nat)),some (.ref dl),some (.int (j:Nat)),some (.int cell),some (.int (x:Nat)),some (.ref acc),some (iE (to.map λk:Nat=>(k:Int))),some (.ref ly),NP,NQ,NR]) ⟨0,s0,F7,_,.refl,rfl,W7,aG.refl _,rfl⟩ (λi U H9 _ z=>by obtain⟨m,D,F9,NP,_,_,_,z,_⟩:=z;exact bP.of (dH _ _ (z _ _ Yj))) ?_ ?_⟩
   ·rintro i y U H9 hi ⟨m,D,F9,NP,SN,em,W9,S9,rfl⟩
    have hil:i<qS.length:=by
     have:=(ai.mp hi).1
     rw[ah] at this;exact this
    have hid:i<l.aD.length:=∅
    rw[aj,aa hil] at hi;cases hi;have hq:=(S9.trans dH).dB (Yk.at' i qS[i] (l.aD[i]).vs (aa hil) (by rw[aj,aa hid];rfl));have vd:=R7 (f:=EK) hid;have hle:((l.aD.take (i+1)).filter EK).length<=n:=by
     rw[<- cnt];exact ((List.take_sublist _ _).filter _).length_le
    generalize l.aD[i]=dd at hq vd;generalize qS[i]=qd at hq;refine⟨_,rfl,qd,_,0,_,rfl,rfl,hq,(by rw[LL];exact Dy dd),rfl,_,rfl,?_⟩;rw[aeE];cases e:EK dd with
    |false=>exact eZ ⟨m,D,F9,_,SN,by rw[vd,e,er (!_),bY];exact em,W9,S9,rfl⟩
    |true =>
     have em1:((l.aD.take (i+1)).filter EK).length=m+1:=by rw[vd,e,ee rfl,av,em];rfl
     refine gC ?_;obtain⟨ak,pza,nea⟩:=pz.pre (show m<n by lia);have ek:=pza.eqv lJ SN;have aeV:0<D.cps.length:=by
      rw[<- ek.cps];exact List.length_pos_iff.mpr nea
     obtain⟨E9,_,j9⟩:=SN.j5 V6 j7;have Z:=SN.sd lJ;have ln9:=SN.len V6 j7;have hc0:D.cps[0]?=some D.cps[0]:=aa aeV;have hcl:=(Z.bd.cl _ (aQ aeV)).1;generalize D.cps[0]=cp at hc0 hcl;obtain⟨lx,hli⟩:∃lx,D.ls[cp.l]?=some lx:=⟨_,aa hcl⟩;obtain⟨ei,_,_,hfs⟩:=j9.comes hc0 hli;obtain⟨l9,k1,_,k3,_⟩:=j9.lt;obtain⟨f1,f2,_⟩:=SN.same;obtain⟨loc,dxx,q,hp,O,hF,hT⟩:=id W9.fC;have cC:=O.get .fC _ rfl;rw[hp] at cC;refine⟨_,rfl,p,_,_,rfl,cC,rfl,F9,p,J,ln,lr,ns,rs,D,tok,0,2200*j+100+100*m,cp,_,rfl,W9,Z.ok,Z.bd,(by have VY:=tok.VY;lia),hc0,hli,λo9 t9 F10 Ua hO9 aik pt9 oe9 W10 ail=>?_⟩;have eg9:lx.grp=A.groups.getD x 0:=by
      have h:=hli;rw[ei,k1] at h;rw[<- aK h];exact k3
     have eo9:o9=o2:=by
      have h:=hO9;rw[eg9,f1,f2] at h;exact h.uniq V6
     rw[eo9,hfs];refine⟨rfl,_,rfl,?_⟩;rw[e8 rfl];exact eZ ⟨m+1,_,F10,_,.step SN hc0 hli hO9 aik pt9 oe9,em1.symm,W10,S9.trans (zj ail),rfl⟩
   rintro U H9 ⟨m,D,F9,aet,SN,em,W9,S9,rfl⟩;rw[ah,vo,iX,cnt] at em;subst em;refine G _ _ ?_;have ek:=pz.eqv lJ SN;have hl9:D.ls[j]?=some l:=by rw[<- ek.ls];exact hlk
   have cp9:D.cps=[]:=by rw[<- ek.cps];exact cpk
   have Z:=SN.sd lJ;have ln9:=SN.len V6 j7;obtain⟨f1,f2,f3,f4,f5⟩:=SN.same;have qR:=nx7.mono S9;have hq9:=S9 _ _ hq7;have aeW:=S9 _ _ Yj;have aeX:dF K (Off H9 F9) qS (l.aD.map dN.vs):=Yk.mono λb x=>S9.dB;have hdl:l.aD.length<=100000:=by
    have:=(Z.bd.lb l (aM hl9)).1
    have:=tok.VY
    lia
   obtain⟨loc,dxx,q,hp,O,hF,hT⟩:=id W9.fC;have cC:=O.get .fC _ rfl;rw[hp] at cC;refine bO λNx G=>?_;refine⟨_,rfl,p,_,_,rfl,cC,rfl,_,rfl,F9,p,J,ns.length,j,D,l,rfl,W9.fC,hl9,λao qo Ua VW aim hao hqo=>G _ _ ?_⟩;refine bO λNx G=>?_;refine⟨_,rfl,ao,qo,l.aD,rfl,bP.of hao,hqo,λk9 Ed=>⟨_,rfl,eZ ?_⟩⟩;have SO:=VW.trans Ed;have rS:Rep K k9 (.list (l.aD.map dD)) (.ref ao):=⟨ao,_,rfl,bP.of (Ed _ _ hao),EI (hqo.mono λb x=>Ed.dB)⟩;have rO:Rep K k9 (.list (l.aD.map dD)) (.ref ly):=⟨ly,_,rfl,bP.of (SO _ _ (dH _ _ aeW)),EI (aeX.mono λb x z=>(dH.trans SO).dB z)⟩;have dh:(PyData.list (l.aD.map dD)).depth<=64:=by
    show PyData.depthAll _+1<=64
    have:=Im l.aD
    lia
   refine⟨_,rfl,_,rfl,_,_,rS,rO,AU _,AU _,cJ (fz (aN (mE _ _) dh) _) L.units,_,rfl,?_⟩;rw[SeqAt.eqv_refl (.list (l.aD.map dD)) (AU _)];refine eZ ?_;refine⟨_,rfl,p,_,_,rfl,SO _ _ cC,rfl,F9,p,J,ns.length,D,rfl,W9.fC.mono SO,λlf qf V5 s12 aio hlf hqf=>?_⟩;refine⟨bM _,λb hb=>?_⟩;have Xe:=aG.new (o:=.lst []) hb;have abD:=au (H:=V5) (a:=b) (o:=.lst []);generalize upd V5 b (.lst [])=S3 at Xe abD;have eqf:qf=[]:=iw.mp (by have:=hqf.len;rw[cp9] at this;exact this);rw[eqf] at hlf;refine⟨.list [],.list [],⟨lf,[],rfl,bP.of (Xe _ _ hlf),rfl⟩,⟨b,[],rfl,bP.of abD,rfl⟩,rfl,rfl,cJ (fz (aN (mE _ _) (!_)) _) L.units,_,rfl,?_⟩;refine eZ (G _ _ ?_);have VR:=SO.trans (s12.trans Xe);have N13:=W9.fC.mono VR;have aeY:=qR.mono (iF (F:=F9) VR);have air:=iF (F:=F9) VR _ _ hq9
   replace cC:=VR _ _ cC
   have h2k:(D.ts cl[x].2).length<2000:=by
    have:=(Z.bd.tb cl[x].2).1
    have:=tok.VY
    lia
   refine bO λNx G=>?_;refine⟨_,rfl,p,_,_,rfl,cC,rfl,_,rfl,F9,p,J,ns.length,cl[x].2,D,rfl,N13,g3,h2k,λl5 Hx us5 kF ZC ais su hT5 hP5 hS5=>G _ _ ?_⟩;have N14:=N13.mono ZC;have aeZ:=aeY.mono (iF (F:=F9) ZC);have Zr:=dH _ _ aeZ.O4;have VS:=dH _ _ (aeZ.ny _ _ hdg);rw[bS] at VS;have Yh:FF (xP.map V.ref) ((cl[x].2:Nat):Int)=some (.ref dg):=eY (by rw[aj,hdg];rfl);rw[V8] at perm;have pk:S.Perm (D.ts cl[x].2):=perm.trans (ek.ts _);have tl:S.length<2000:=by rw[pk.length_eq];exact h2k
   refine bO λNx G=>?_;refine⟨_,rfl,_,rfl,_,rfl,dl,_,_,_,rfl,rfl,bP.of Zr,Yh,dg,S.map fk,rfl,VS,λlk qk ait eqk hkk=>?_⟩;have NQ:=aG.new (o:=.lst (qk.map V.ref)) ait;have Zs:=au (H:=kF) (a:=lk) (o:=.lst (qk.map V.ref));generalize upd kF lk (.lst (qk.map V.ref))=SY at NQ Zs;rw[ah] at eqk;have Yl:bP K SY lk (qk.map V.ref):=bP.of Zs;refine⟨lk,rfl,⟨_,Yl⟩,λaiu Zt=>?_⟩;refine ir (n:=(qk.map V.ref).length) (λi I Za=>∃qs:List Addr,I=qs.map V.ref/\fT K Za qs (S.take i)) Zt (DK Yl) (vN Yl) ⟨[],rfl,fT.nil⟩ ?_ ?_
   ·rintro i I Za hi Y hy ⟨qs,rfl,vI⟩ z Zb ⟨rfl,hz⟩
    have hz:=hz _ (Y.seq Yl);have hi':i<qk.length:=by rw[ah] at hi;exact hi
    have hit:i<S.length:=∅
    rw[aj,aa hi'] at hz;cases hz;obtain⟨⟨u1,X,u3⟩,hu⟩:∃u,S[i]?=some u:=⟨_,aa hit⟩;have hkey:kF qk[i]=some (.tup [V.int u1,V.int X]):=hkk i qk[i] [.inl u1,.inl X] (.int u3) (aa hi') (by rw[aj,hu];rfl);have abF:=Y _ _ (NQ _ _ hkey);have kn:jK S u1 X=some u3:=(mz HX).mpr (aM hu);refine⟨qk[i],_,rfl,cP.of abF,rfl,_,_,rfl,_,_,rfl,rfl,?_⟩;refine⟨_,rfl,_,rfl,_,rfl,_,rfl,dl,_,_,_,rfl,rfl,bP.of (Y _ _ (NQ _ _ Zr)),Yh,_,rfl,_,rfl,g7,λb5 hb5=>?_⟩;have w5:=aG.new (o:=.tup [V.int u1,V.int X]) hb5;have Yd:=au (H:=Zb) (a:=b5) (o:=.tup [V.int u1,V.int X]);have g5:=AW.t (k:=keyOf u1 X) (w5 _ _ (Y _ _ (NQ _ _ VS))) Yd;rw[sr,kn] at g5;refine⟨dg,_,rfl,g5,g9,λb6 hb6=>?_⟩;have w6:=aG.new (o:=.tup [V.int u1,V.int X,V.int u3]) hb6;have s7:=w5.trans w6;have hy7:=s7 _ _ hy;have hl:qs.length=i:=by rw[vI.1,bQ];lia
    refine fQ Zt hi (Y.trans s7) hy7 (by rw[ah];exact KU ∅) ⟨qs++[b6],-_,?_⟩;rw[uJ,hu];exact fT.past hy7 sA cK (fT.snoc (t:=(u1,X,u3)) (vI.mono s7) (cP.of au))
   rintro I Za Y hy ⟨qs,rfl,vI⟩;rw[ah,eqk,iX] at vI;refine⟨aiu,qs,S,rfl,bP.of hy,vI,tl,λNn A3 us aiv hpu hsu htu=>?_⟩;have VC:=aG.new (o:=.lst (A3.map V.ref)) aiv;have Zu:=au (H:=Za) (a:=Nn) (o:=.lst (A3.map V.ref));have htu:=htu.mono VC;generalize upd Za Nn (.lst (A3.map V.ref))=Zb at VC Zu htu;have eu:us=us5:=KJ (hpu.trans (pk.trans hP5.symm)) hsu hS5;subst eu;have Rh:=NQ.trans (Y.trans VC);have r5:Rep K Zb (.list (us.map X0)) (.ref l5):=⟨l5,_,rfl,bP.of (Rh _ _ su),Io (hT5.mono Rh)⟩;have r17:Rep K Zb (.list (us.map X0)) (.ref Nn):=⟨Nn,_,rfl,bP.of Zu,Io htu⟩;have dh5:(PyData.list (us.map X0)).depth<=64:=by
    show PyData.depthAll _+1<=64
    have:=Kc us
    lia
   refine⟨_,_,r5,r17,Dz _,Dz _,cJ (fz (aN (mE _ _) dh5) _) L.units,_,rfl,?_⟩;rw[SeqAt.eqv_refl (.list (us.map X0)) (Dz _)];refine eZ (G _ _ ?_);have Zv:=Rh _ _ su;have q5l:Hx.length<=2000:=by rw[hT5.1,hP5.length_eq];lia
   refine⟨_,rfl,.inl ⟨rfl,_,bP.of Zv⟩,g9,λz9 hz9=>?_⟩;refine⟨l5,_,_,rfl,rfl,aG.new hz9 _ _ Zv,mj (by rw[ah];lia),Gc _ _ ?_⟩;have VT:aG S3 (upd (upd Zb z9 (.tup [V.int 0,V.int 0,V.int 0])) l5 (.lst (Hx.map V.ref++[.ref z9]))):=λb o e=>by
    rw[aH (aE e ais)];exact aG.new hz9 _ _ (Rh _ _ (ZC _ _ e))
   refine⟨D,F9,fD tt cl[x].2 S,_,_,_,_,_,_,_,_,_,_,N13.mono VT,aeY.mono (iF VT),Z.mono (by have:=tok.VY;lia),cp9,∅,f1.trans aii,λg2=>?_,iF VT _ _ air,rfl⟩;by_cases e:g2=cl[x].2
   ·subst e
    rw[bS];exact⟨pk,HX⟩
   ·rw[cZ e,SN.aeC V6 j7 (by rw[V8];exact e),aij]
    exact htt g2
  ·rintro U H2 ⟨A,C,tt,v6,v8,v9,v10,v11,ia,Zo,NP,NQ,NR,_,_,_,_,_,_,_,_,rfl⟩
   exact k _
end
theorem walk{l:PySem.W.OpenLaw}{q:Program}{b:List Str}{XP:(Str->Option Value)->Heap->Prop}{p:World->Heap->Prop}{d:DefRec}{K:Params->af}(u:l.most=some 63)(j:d.params.defaults=[])(m:d.name = "law")
 (A:∀(w:World) (h:Heap),p w h->(K w.params).In h)
 (F:∀(w:World) (i:Str->Option Value) (h:Heap),(K w.params).In h->h.Ns mainGlobals i->∃t,Txt (K w.params) i t) :
 PySem.W.WalkO q b XP p l.row.toRowW d [] (λf vs=>PySem.call f vs) :=
 L2.Wt (n:=63) (k:=9) (x:="_law_script") (CX:=λ_=>iM) (sp:=λw=>VO (K w.params)) u (!_) j ⟨rfl,!_,!_⟩ A
  (λw i D h r G c=>by
   obtain⟨t,T⟩:=F w i h r G;rw[m] at c;have e:=c.symm.trans T.U3.g;cases e;refine⟨t.MH,λs v=>?_,λo _ _=>abt T⟩;obtain⟨_,_,_,_,_,_,_,_,_,e,_⟩:=T.U3.F.ex;rw[e];exact .of_eq rfl)
  (λ_ _ a C B _ y=>⟨a,C,rfl,y,B,λ_=>rfl⟩) λ_ _ _ _ _ z=>z
end fc
end
structure PySem.W.Fast:Prop where(tw17518586101745748679 tw16399748660581715672 tw7305193116296118019 tw7059934078789754841 tw8542996592945047470 tw4007050016831424831 tw176051982337130849 tw2801311183804458101 tw4991410789551307902 tw12626662771510615221 tw916844516324907175 tw8187414829849792197 tw11206280067498529722 tw2053273008310192430 tw13147963105587804439 tw7632246113021258769 tw6144756724099719166 tw7743088356302188642 tw17977655668989195454 tw470059115301218618 tw685956288728720929 tw7478112132433114022 tw4741485943592694168 tw9731264740111511221 tw17580923672832016043 tw8024571796940090961 tw9617972811960416679 tw14659631901662669807 tw17500610564364409832 tw2149429380273483465 tw2741389363641031568 tw11498967892477885187 tw9054318782878139259 tw8891707775518877777 tw14700457562929709464 tw12602410402891089187 tw7421977925844768264 tw18379237250557569939 tw8189427654513566256 tw4756989906888304913 tw3959010128171024254 tw7790307088632860463 tw3433569608892494129 tw7089313699604099358 tw11875184351720284825 tw2657965364053700908 tw5740965358701123824 tw9571153860468952220 tw6239240369417640600 tw14454803402865229850 tw10235258120565689612 tw16771900325302541710 tw12677926200211712494 tw8883258060677717218 tw17532814865021154514 tw12714267874531742855 tw12905097882531373377 tw1586442722794569938 tw9112900387944732076 tw579044769981819806 tw6721011183688942313 tw12257643471185870665 tw11730953326137682165 tw3781550463122460414 tw9782894649083529600 tw2885969540538117646 tw14752864976867228769 tw18214799314648785725 tw5700354506581298620 tw10305937437071099156 tw8871881255688903376 tw5663003299895230309 tw16849370031940153590 tw4329232678328550364 tw12788400086499959973 tw1298906432482915603 tw12586937460602038428 tw8421308050525758734 tw12448870048368988969 tw12940133635369027870 tw1329745783203502885 tw7095076150363448696 tw10995675549881889117 tw16814540425355960730 tw11765957250575972932 tw10421067657857831300 tw10640097372360204220 tw17385500303944660452 tw1860770917188838079 tw3318397554556487625 tw15820955929003338588 tw10838957383668296654 tw7270627581772875456 tw13789544760425776491 tw16717474596765839611 tw16852818341194501884 tw10806658940657553803 tw2837540774458481059 tw15320420273530205491 tw7948255130026385173 tw15401564991142396913 tw15580490829263096028 tw15156850093270142840 tw1355961604486848915 tw10355763456219820664 tw13265125350879649576 tw12379815681550915831 tw11967274970281795451 tw11336658698064565900 tw609136538428315087 tw5931661235493400206 tw5019435287832896471 tw4120432123373107128 tw15609707326076736324 tw7575514489879300952 tw5280246202220410907 tw4909106185184245792 tw10728023932297405831 tw12475059234823870446 tw16654277689135630472 tw2559849694062389051 tw1662449592613760894 tw7179389289218101023 tw10791907048663914764 tw3163574830920770260 tw18001263110971917770 tw14832271661138253612 tw3693940516676938158 tw17082694866540839173 tw9251055162934889943 tw7847014008687757649 tw4459574056067362603 tw12329299755584398930 tw9962803264442409600 tw11684420857182839519 tw2625953187186914041 tw6544548146303443344 tw5006288114208205248 tw16765888094716723632 tw17952469231635545498 tw14690309465379387594 tw13777556972214347632 tw4950117485940917949 tw12302496741816894224 tw17915040919788998375 tw4053768321000429914 tw17105122165615093004 tw1134433244672257129 tw9628531473874777380 tw5906758693827540846 tw5454183787069723824 tw9108695278529345297 tw269200290714391208 tw4246785921598129791 tw14515121472359747301 tw13594410871831143299 tw742971881895525322 tw16444107208038599722 tw970890534702168872 tw5804158590964094753 tw17325696308401533080 tw6082214005535978835 tw5082408952154960153 tw17262332457996467758 tw17257613323014281567 tw11787547120508147151 tw15233028025131129910 tw2791699231700626849 tw11514188446498380654 tw12793841624874441777 tw12769229787283661998 tw14126884667027573181 tw4730341317917744303 tw5467194026349758484 tw17083097016905214534 tw10166929324683073621 tw5400149820633191472 tw4015210242230570384 tw11907926952676119307 tw10056570104853063754 tw6273271925565636182 tw8422255813108571015 tw13614924505015403779 tw18345655443433494362 tw2858233925045133953 tw8049776460398813503 tw13621939188266201937 tw10702620828702505818 tw7607448543696391797 tw6062722584432634120 tw2998397156243636370 tw8110171725092871809 tw2845206672371265033 tw667601263634909036 tw4787591922147158889 tw12661790841950183174 tw13068859741679642831 tw9199475122831074620 tw10035059849550784319 tw7460403457777304261 tw224427827894441780 tw13333000103574489300 tw7015464094919750517 tw12243450637877718723 tw6704944538572728878 tw14229819999186528193 tw5399227287042734535 tw3155492179855759802 tw8968099557113940221 tw18294390048944164827 tw12978583586596666771 tw9543704866899159810 tw14381428375648446109 tw1804414866218371314 tw11252987599318199669 tw17927254974907560304 tw11517992362153735631 tw7635898613300985458 tw747131315357442141 tw11046245469990954399 tw4579928945235431520 tw9720783251122145297 tw2984393029853266733 tw12921317320186231457 tw15706052467513744763 tw5600377663395234875 tw8073490801125791726 tw1483641089570487918 tw3091325299044608719 tw5840176593017969596 tw18128021101042821126 tw15665067620616473259 tw5163938711530245341 tw1214046311230357129 tw10929163200810993816 tw14244138148313283311 tw16149216942338930596 tw15502830185131524460 tw2772837652079812121 tw15246483839790760345 tw9736176797643239404 tw11949130428591855392 tw11296560242959119849 tw7847965116814768698 tw6678759941005030481 tw3299321031476775576 tw3156143481245198530 tw16789628400674050271 tw15216617041771861518 tw943261836706218169 tw11377197310191747001 tw7640075511738916982 tw3376296306062305430 tw16604628211257977621 tw4773470620369586656 tw8271256740544475729 tw2584463281815525395 tw10584128038205928787 tw16192538912147373846 tw17886750601178640566 tw12846781770545821140 tw2218849660352670863 tw6744733963861752469 tw432948984820305535 tw18214258322755033489 tw12730291880983803534 tw2219891607623753531 tw14551002063739417188 tw11316809974205084320 tw10413052988875596431 tw13640288969759945320 tw8041884593938781981 tw13400227140632038213 tw4292150423974583862 tw4495856490036926305 tw17464312402075242387 tw15276719491688428133 tw3669525564664652880 tw7080101003091180723 tw13318565527147250565 tw7890925698768859200 tw2039442899879570420 tw11608127723642033829 tw1921738017804473312 tw2155400498035325242 tw8588372156038946342 tw3331814497220521253 tw4755214135934100426 tw9963694476520525977 tw5298767242369753975 tw16932515442487123877 tw14614635352431948998 tw12650477785855631984 tw15709962400912062833 tw5920552561878482531 tw17981578633000099256 tw3627530078142529254 tw9023532473224276266 tw14896130224359366371 tw8135711117634044474 tw16173532992334687369 tw15207651770934394919 tw3287027865576588747 tw2948512829582512262 tw17782391834927933475 tw17854967197306516705 tw4814037861307963494 tw3037807289985288654 tw12909990844491073668 tw4967972690447920931 tw18020935844448101144 tw6265261180502411393 tw15588333436432863520 tw11228884904412040071 tw5800406803687472539 tw18326551045379274433 tw10157834639759099901 tw7503382190899622856 tw11962191292697034682 tw16024117168860207629 tw8805690056996239816 tw8297421511687450244 tw14360548707425775418 tw12875954484358032804 tw12167980331554523774 tw9005451974204168581 tw7219825015136879917 tw4427294868804061231 tw18102653340566445472 tw16359987369055562335 tw520416157724518884 tw18142042428694404546 tw11410770672441006247 tw10415330376198570336 tw5761769911978395314 tw6636351530238189333 tw10384854321154887920 tw9139057716963877973 tw9127753235368263667 tw7666077069085775305 tw719229595665968598 tw6819466514344638099 tw6639030627484819458 tw5487870627413540312 tw5300800135991953994 tw5201533138808226645 tw4804214798476386691 tw4442268445247227069 tw18078338928449384221 tw17313871224737745048 tw17271779236451752043 tw16863719040176546370 tw16786428675375389997 tw1655336084503715137 tw15864603191749430328 tw1565312714606596523 tw15459049943825934446 tw15296301057560940352 tw14234577689689849713 tw13386759657751153459 tw13193613607155893476 tw12049891314294346807 tw11740590276473853911 tw10654931920907212398 tw10648804910413775908 tw7066009378102692220 tw5955928080433891148 tw10119123115547462905 tw978074640610755986 tw6548884625019967572 tw6435852228751240818 tw4601655930164497274 tw2859836781636824593 tw17654019629936612316 tw12551920769355314116 tw995182870864770075 tw5889164039933359766 tw4180274675436053653 tw16958371364329339585 tw14015018237708473272 tw3827983602984515602 tw17747479642481315669 tw7828693520352152795 tw7341916706936826995 tw5306480401123819471 tw4751923491736750638 tw18297819380908467014 tw1627296241687101872 tw15755813980678895379 tw14442964569892897100 tw12120215248060339236 tw5874852531777113135 tw13150216991293086201 tw9636429889950759891 tw8089060775066354321 tw7988467643491823813 tw5849743759614751847 tw2954694443048390012 tw2169916140012937840 tw1861047478779815654 tw1714633676122799318 tw16157465338053608535 tw13347140089403346540 tw12051430984591751645 tw1120011602341813857 tw10067397567837357163 tw8391009030228918857 tw8137869545396028627 tw15190549227706912235 tw10993481062354211181 tw10648250240542256289 tw9429217035250945385 tw8769718398024419413 tw8616249872414374610 tw7113732869934952851 tw4974883890310948683 tw4406796947539090850 tw392964912738594186 tw3605005959693061594 tw3018295512201679876 tw2746803035518306298 tw18156155798311607770 tw16656463041743526728 tw16468723554980500551 tw16241321681367412809 tw16173968725303523713 tw14330416214385364033 tw13245029575092299360 tw13215835185255605398 tw13112342601921544669 tw11589765996265143004 tw1158354666862538433 tw4820148270750538792 tw11326610933019401603 tw7926283831534865390 tw994149761990311565 tw6757562821520253 tw17358508973859442893 tw8830378890448895236 tw15077841720035491415 tw14060372270910515286 tw14952772384111761115 tw17711453212722037981 tw5847058751448722609 tw16297011808225322781 tw597374408867804193 tw1023005677129173996 tw13132554277515755433 tw1394958266268499004 tw1328929271362412384 tw12231973328833010340 tw14977676714925660111 tw13863986022053289295 tw4648199941364411116 tw375306699720586522 tw12633198425940161970 tw11618562557731104543 tw14689763580599299032 tw202456852185427312 tw14912414021094003248 tw426997412083920404 tw5431790117603102021 tw12439720511212654834 tw14482624185897629722 tw1778448976476006836 tw8997010899615515537 tw14034341235181497121 tw14731967563794333648 tw14492313806202564637 tw6657001067057380047 tw11138387958594100086 tw537175226957275294 tw6882822320918015500 tw13279695358160874780 tw18000566678285182694 tw9305743592767127441 tw6076461689609939166 tw12799519412537044116 tw16067934216766839747 tw8287467961080087458 tw746964854664125511 tw14446151525682217119 tw14989168530436427701 tw2959412451989162086 tw1951239704900146429 tw3272190074527919178 tw16865463060804769294 tw9525176200725630543 tw12722795283063604668 tw10049562767883213635 tw2526856854167236995 tw3623347006202556436 tw16868143213246737097 tw2035014314671800894 tw13251041912808544587 tw15675146100909684134 tw2616908151749015898 tw10218203736547108005 tw11093056987010839886 tw12759845182753986098 tw11694159308860990249 tw13730745917931800300 tw14573946153093967100 tw15957156513898762201 tw15518958998760044520 tw17401267858390447194 tw12923287196941482906 tw9841544101699847349 tw2397917759805773955 tw17500064821491011856 tw6097492449541535887 tw13172947500773579790 tw14671500987789567603 tw4869163168657347138 tw15505574755017327833 tw2124885247542042140 tw2507614528659784446 tw15603573569447543841 tw4043834972093855513 tw13891067196496424334 tw6915503667291832877 tw14820377012605972018 tw15912147679996092042 tw8562435442122161296 tw6801787678775217395 tw3714939264377833282 tw3663970459216959162 tw14508995222019835643 tw10792871082249403641 tw14243501294984915959 tw4360973588392331640 tw17183238452678346032 tw7659898126432938556 tw12428205786102474008 tw15753075289627019167 tw5199777816833158023 tw17202289636366487891 tw17242705700724006115 tw955036302296197725 tw17297121637923778106 tw11299081722005466403 tw14970438716653852880 tw13748018277354040498 tw187793883285520516 tw5905641821982148196 tw3031629200941596683 tw5370975454908041911 tw8044391677448386587 tw12705060040789392661 tw1475111856076250353 tw5641543968923640688 tw12974541446458222085 tw13227850750005979253 tw2779122876879666487 tw1740257904059142387 tw10331628310835812156 tw14582510079417616028 tw665242674119887949 tw10239858132283438540 tw12130965916582184214 tw18189610486409725495 tw13550980196735938095 tw16772779614900388686 tw812214975004644037 tw15708539581811923678 tw18368917188413803075 tw8972043854729544074 tw9061927453824031194 tw8228778392134653556 tw6591775095725555020 tw8774192125836828913 tw15018784943622754729 tw8854240268064607240 tw1420025754959385508 tw17225390895009955712 tw3186750130133555958 tw17524902947400300215 tw3367221950142590222 tw4859829864005918315 tw2276582595640501177 tw8205593177859729166 tw15653374412847659297 tw3943903935662358721 tw11444719824429625363 tw1065016210505349069 tw18037273691765706048 tw8821614995739422253 tw15148362175182888305 tw17315238279119508654 tw7367250308359627663 tw2967236753487895784 tw9221725599105379159 tw15102562907656789358 tw10372755185907254531 tw11839550120342783753 tw5907390763668523712 tw7735864966261872116 tw7876779270372868017 tw10039670557622514967 tw15116770400878864238 tw14500964625329212360 tw8060302045541532857 tw5713014480722159644 tw5020128116730870160 tw3892338879772140276 tw11898888457140120530 tw12848908078226381342 tw15222839375791028184:True)
open PySem PySem.W PyProof.Rows
set_option maxRecDepth 100000 in
set_option maxHeartbeats 0 in
theorem PySem.Challenge.cw_knotless_k31_letters_to_one_and_notes_holds : PySem.Challenge.rw_knotless_k31_letters_to_one_and_notes.Holds := by
 w_on;o_law;k_head;(case hw=>w_witness2)
 k_fill
 refine fc.walk (l:=PySem.Challenge.rw_knotless_k31_letters_to_one_and_notes) rfl rfl rfl (fun w h Y=>PySem.W.kIn_of Y) ?F
 case F =>
  intro w mg h KX G
  refine' fc.aaK KX G ?Ef ?Hw ?Hy ?Eg ?Lj ?BU ?Lk ?Pa ?ve ?xQ ?xR ?xS ?vf ?Eh ?BV ?qD ?tE ?tF ?qF ?tG ?vg ?vh ?tH ?vj ?Ei ?Ll ?U9 ?Va ?Lm ?Ej ?Ln ?vm ?zV ?zW ?qG ?tK ?zX ?vn ?vp ?xU ?zY ?oJ ?lY ?lZ ?tL ?BW ?vq ?qH ?xV ?BX ?BY ?zZ ?z6 ?xW ?BZ ?Ca ?Cb ?Cc ?Cd ?xX ?z7 ?xY ?vt ?vz ?vA ?vB ?pM ?tM ?z8 ?vC ?qI ?oK ?Ce ?qJ ?nS ?l6 ?oM ?xZ ?qK ?Aa ?Ek ?El ?Em ?Ab ?Cf ?tN ?Hz ?Lo ?Vb ?Ac ?oN ?x8 ?C7 ?qL ?Ae ?C8 ?qM ?Af ?Ag ?oO ?qN ?vD ?nU ?qO ?HA ?ku ?kB ?x9 ?ya ?wo ?qP ?mh ?HB ?yb ?MO ?Ah ?tO ?jU ?yc ?yd ?vE ?vF ?tP ?vG ?tQ ?tR ?qQ ?HC ?oQ ?oS ?oU ?Eo ?Ep ?Cg ?Ci ?vH ?ye ?yf ?yg ?tS ?yh ?yi ?Vc ?yj ?Vd ?Pb ?Pc ?Lp ?Lq ?Ai ?Ve ?Vf ?Vg ?Vh ?HD
  case Ef|Hw|Hy|Eg|Lj|BU|Lk|Pa | Ca|Cb|Cc|Cd|xX|z7 | vt|vz|vA|vB|pM|tM | oN|x8 | qL|Ae | qM|Af | oO|qN|vD|nU|qO | ku|kB|x9|ya | qP|mh | yb | Ah|tO|jU|yc|yd|vE|vF|tP|vG|tQ|tR|qQ|HC|oQ|oS|oU|Eo | Cg | vH|ye|yf|yg|tS|yh|yi|Vc|yj|Vd|Pb|Pc|Lp|Lq|Ai|Ve|Vf|Vg|Vh|HD=>k_is
  case ve|xQ|xR|xS|vf | qD|tE|tF|qF|tG|vg|vh|tH|vj | vm|zV|zW|qG|tK|zX | oJ|lY|lZ|tL | qH|xV|BX|BY|zZ|z6|xW|BZ | xY | z8|vC|qI|oK|Ce|qJ|nS|l6|oM=>exact L2.jb (by k_is) (by k_is) (by k_is) (by k_is) (by k_is)
  case Eh|BV | Ei|Ll|U9|Va|Lm|Ej|Ln | vn|vp|xU|zY | BW|vq | xZ|qK|Aa|Ek|El|Em|Ab|Cf|tN|Hz|Lo|Vb=>exact L2.ua KX G (by k_is) (by k_is) (by k_is) (by k_is)
  case Ac | C7 | C8 | Ag | HA | wo | HB | MO=>exact L2.YQ (by k_is) (by k_is) (by k_is) (by k_is) (by k_is) (by k_is)
  case Ep | Ci=>exact⟨by k_exc,by k_is,by k_is,by k_is,by k_is,by k_is,by k_is,by k_is,by k_is⟩
#print axioms PySem.Challenge.cw_knotless_k31_letters_to_one_and_notes_holds
