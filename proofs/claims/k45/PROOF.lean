import PyProof.Rows.All
import Wide.All
import OpenK.AllK
import Wide.FinOn
import Lean
import PyProof.EqAt
import PyProof.EqKinds
import PyProof.TupleCall
import PySem.Challenge.RW_knotless_k45_whole_notes_lead
set_option Elab.async false
noncomputable section
universe u v
section
local macro_rules|`(∅)=>`(by lia)
local macro_rules|`(!_)=>`(by decide)
local macro_rules|`(-_)=>`(by simp)
theorem z0:1<=PySem.sizeLine:=!_
theorem fO:2<=PySem.sizeLine:=!_
theorem nu:3<=PySem.sizeLine:=!_
theorem Tj:4<=PySem.sizeLine:=!_
theorem aar:5<=PySem.sizeLine:=!_
def ee:=@if_pos.{u}
def eH:=@if_neg.{u}
def e8:=@decide_eq_true
def ff:=@decide_eq_false
def gn:=@of_decide_eq_true
def eL:=@absurd.{v}
def fy:=@congrArg.{u,v}
open List renaming getElem?_eq_getElem -> aa, length_map -> ah, getElem?_eq_some_iff -> ai, getElem?_map -> aj, getD_eq_getElem?_getD -> ak, range -> aq, length_append -> ay, mem_of_getElem? -> aG, getElem_mem -> aK, size_toArray -> aL, mem_cons_of_mem -> aN, map_append -> aO, mem_singleton -> aS, length_cons -> aT, mem_map -> aV, mem_cons -> aW, length_set -> aX, mem_filter -> bf, length_range -> bx, length_filter_le -> bB, replicate -> bD, mem_append -> bG, mem_range -> bH, mem_cons_self -> bJ, map_cons -> bL, getElem?_append_left -> bN, getElem?_set -> bT, length_take -> bV, mem_append_right -> b6, getElem?_append_right -> cu, map_map -> cF, map_congr_left -> cQ, filterMap_cons -> cR, append_nil -> cW, filter_cons_of_pos -> dg, filter_cons_of_neg -> dh, filter_cons -> dm, filter_append -> eO, lookup_cons -> eY, range_succ -> fF, nodup_cons -> fG, take_length -> fP, mem_or_eq_of_mem_set -> gq, mem_append_left -> gX, getElem?_of_mem -> gY, replicate_succ -> iF, mem_map_of_mem -> iG, getElem_of_mem -> iH, getElem?_range -> iI, mem_filterMap -> jg, map_set -> jh, getElem?_eq_none -> ji, take_succ_eq_append_getElem -> jB, nodup_append -> jO, foldl_cons -> jP, append_assoc -> jQ, length_drop -> kL, nodup_nil -> lH, getElem?_concat_length -> mW, take_add_one -> oF, ext_getElem -> qq, all_eq_true -> qt, lookup -> qx, filter_sublist -> qy, find?_cons -> sj, pairwise_lt_range -> uq, flatten_cons -> uV, set_append_right -> vZ, any_eq_true -> xx
open PySem.W renaming Frag -> af, findIn -> aH, nsIn -> bP, mg_of -> cU, mg_none_of -> c5, kia_one -> dP, keepIn -> dR, fnOf -> eN, emptyDict -> fZ, codeIn -> jz, instObj -> jK, hasDictIn -> uS, plainGet -> xu
open Nat renaming le_refl -> av, le_trans -> aF, zero_le -> aR, ne_of_lt -> aZ, lt_of_lt_of_le -> bI, lt_of_le_of_lt -> bQ, add_le_add_left -> cC, le_succ -> dD, lt_irrefl -> gp, sub_self -> gz, min_le_left -> gA, le_add_right -> gV, le_of_lt -> iB, add_le_add_right -> jJ, not_lt_zero -> jL, le_succ_of_le -> jM, le_of_lt_succ -> jN, lt_succ_of_lt -> uU, lt_succ_self -> xw
open Bool renaming false_ne_true -> aB, and_eq_true -> cV, eq_iff_iff -> iJ, or_eq_true -> sq
open Option renaming some_ne_none -> aP
open Option.some renaming inj -> aQ
open Array renaming length_toList -> bg, getElem?_toList -> c8, getElem?_eq_some_iff -> fW, getD_eq_getD_getElem? -> iK, getElem_toList -> oM, getElem?_eq_getElem -> p6
open PySem.F renaming plainAttrs_list -> br, type_list_append -> bE, slot_list_append -> bF
open Ne renaming symm -> bM
open Int renaming emod_nonneg -> bO, emod_lt_of_pos -> bR, toNat_natCast -> f6, zero_add -> gB, toNat_of_nonneg -> kE
open Sum renaming inl -> gy
open ForInStep renaming yield -> jR
open False renaming elim -> jS
open True renaming intro -> lG
open PySem renaming mem_of_lookup -> qu
open PyProof.Rows renaming slot_tuple_getitem -> uT
set_option linter.all false
set_option maxRecDepth 100000
namespace L2
open PySem PySem.Spec PyProof.Rows
abbrev Key:=Sum Int Str
noncomputable def Kg:Key->Value->Bool
 |.inl k,v=>Value.isInt k v
 |.inr x,v=>Value.isStrOf x v
noncomputable def agW(w:World):Key->Int
 |.inl k=>hashInt k
 |.inr x=>hashStr w x
theorem gZ:∀{k:Key} {v:Value},Kg k v=true->(∃i t,k=gy i/\v=Value.int i t)∨(∃x t,k=Sum.inr x/\v=Value.str x t)
 |.inl i,v,h=>by
  obtain⟨t,e⟩:=Value.isInt_shape (k:=i) (v:=v) h;exact .inl ⟨i,t,rfl,e⟩
 |.inr x,v,h=>by
  obtain⟨t,e⟩:=Value.isStrOf_shape (x:=x) (v:=v) h;exact .inr ⟨x,t,rfl,e⟩
theorem SO(i:Int)(t:Tok):Kg (.inl i) (.int i t)=true:=by simp[Kg,Value.isInt]
theorem SQ(x:Str)(t:Tok):Kg (.inr x) (.str x t)=true:=by simp[Kg,Value.isStrOf]
theorem aaK(a b:Int):decide ((gy a:Key)=gy b)=(a==b):=by
 by_cases e:a=b
 ·subst e;simp
 ·have h:¬(gy a:Key)=gy b:=λq=>e (Sum.inl.inj q)
  rw[ff h];exact (beq_eq_false_iff_ne.mpr e).symm
theorem aaL(a b:Str):decide ((Sum.inr a:Key)=Sum.inr b)=decide (a=b):=by
 by_cases e:a=b
 ·subst e;simp
 ·have h:¬(Sum.inr a:Key)=Sum.inr b:=λq=>e (Sum.inr.inj q)
  rw[ff h,ff e]
theorem aaM(a:Int)(b:Str):decide ((gy a:Key)=Sum.inr b)=false:=ff (λq=>nomatch q)
theorem aaN(a:Str)(b:Int):decide ((Sum.inr a:Key)=gy b)=false:=ff (λq=>nomatch q)
noncomputable def ia(prog:Program)(w:World):PySem.KeyKind prog w Key where
 is:=Kg
 hash:=agW w
 inj:=λv a b ha hb=>by
  rcases gZ ha with ⟨i,t,rfl,rfl⟩|⟨x,t,rfl,rfl⟩
  ·rcases gZ hb with ⟨j,u,rfl,e⟩|⟨y,u,rfl,e⟩
   ·injection e with e1 _;rw[e1]
   ·exact nomatch e
  ·rcases gZ hb with ⟨j,u,rfl,e⟩|⟨y,u,rfl,e⟩
   ·exact nomatch e
   ·injection e with e1 _;rw[e1]
 byValue:=λk v h=>by
  rcases gZ h with ⟨i,t,rfl,rfl⟩|⟨x,t,rfl,rfl⟩ <;> rfl
 pyHash:=λhv h=>by
  rcases gZ hv with ⟨i,t,rfl,rfl⟩|⟨x,t,rfl,rfl⟩
  ·exact wpAny_pyHash_int h
  ·exact wpAny_pyHash_str h
 eqBool:=λhu hv h=>by
  rcases gZ hu with ⟨i,t,rfl,rfl⟩|⟨x,t,rfl,rfl⟩
  ·rcases gZ hv with ⟨j,u,rfl,rfl⟩|⟨y,u,rfl,rfl⟩
   ·rw[aaK] at h;exact wpAny_eqBool_int h
   ·rw[aaM] at h;exact SeqAt.EqAt.int_str i t y u _ _ _ _ h
  ·rcases gZ hv with ⟨j,u,rfl,rfl⟩|⟨y,u,rfl,rfl⟩
   ·rw[aaN] at h;exact SeqAt.EqAt.str_int x t j u _ _ _ _ h
   ·rw[aaL] at h;exact wpAny_eqBool_str h
 «strs»:=λk x t v h=>by
  rcases gZ h with ⟨i,u,rfl,e⟩|⟨y,u,rfl,e⟩
  ·exact nomatch e
  ·injection e with e1 _
   subst e1;cases v <;> rfl
theorem MM(prog:Program)(w:World)(i:Int)(t:Tok):(ia prog w).is (.inl i) (.int i t)=true:=SO i t
theorem MN(prog:Program)(w:World)(x:Str)(t:Tok):(ia prog w).is (.inr x) (.str x t)=true:=SQ x t
inductive V where
 |fk|bl (b:Bool)|int (i:Int)|str (x:Str)|Rg (b:Array UInt8)|lC (b:UInt64)|ref (a:Addr)|ty (n:String)
 deriving DecidableEq
def RelV:V->Value->Prop
 |.fk,u=>u=Value.none
 |.bl b,u=>u=Value.bool b
 |.int i,u=>∃t,u=Value.int i t
 |.str x,u=>∃t,u=Value.str x t
 |.Rg b,u=>∃t,u=Value.bytes b t
 |.lC b,u=>∃t,u=Value.float b t
 |.ref a,u=>u=Value.ref a
 |.ty n,u=>u=Value.type n
abbrev bY:List V->List Value->Prop:=Paired RelV
theorem bY.length{xs:List V}{us:List Value}(r:bY xs us):xs.length=us.length:=Paired.length r
theorem bY.get:∀{xs:List V} {us:List Value} {i:Nat} {x:V},bY xs us->xs[i]?=some x->∃u,us[i]?=some u/\RelV x u
 |_,_,_,_,.nil,e=>by simp at e
 |_,_,0,_,.cons r _,e=>by simp at e;subst e;exact⟨_,rfl,r⟩
 |_,_,i+1,x,.cons _ t,e=>by
  obtain⟨u,a,b⟩:=bY.get (i:=i) (x:=x) t (by simpa using e);exact⟨u,by simpa using a,b⟩
theorem bY.set{x:V}{u:Value}(r:RelV x u):∀{xs:List V} {us:List Value} (i:Nat),bY xs us->bY (xs.set i x) (us.set i u)
 |_,_,_,.nil=>.nil
 |_,_,0,.cons _ t=>.cons r t
 |_,_,i+1,.cons q t=>.cons q (bY.set r i t)
theorem bY.append:∀{xs a:List V} {us ws:List Value},bY xs us->bY a ws->bY (xs++a) (us++ws)
 |_,_,_,_,.nil,s=>s
 |_,_,_,_,.cons r t,s=>.cons r (bY.append t s)
theorem bY.take:∀{xs:List V} {us:List Value} (n:Nat),bY xs us->bY (xs.take n) (us.take n)
 |_,_,0,_=>.nil
 |_,_,_+1,.nil=>.nil
 |_,_,n+1,.cons r t=>.cons r (bY.take n t)
theorem bY.drop:∀{xs:List V} {us:List Value} (n:Nat),bY xs us->bY (xs.drop n) (us.drop n)
 |_,_,0,r=>r
 |_,_,_+1,.nil=>.nil
 |_,_,n+1,.cons _ t=>bY.drop n t
def Bc:Option V->Option Value->Prop
 |some v,some u=>RelV v u
 |none,none=>True
 |_,_=>False
def KV{κ:Type}:List (κ×V)->List (κ×Value)->Prop:=Paired λ(p:κ×V) (q:κ×Value)=>p.1=q.1/\RelV p.2 q.2
noncomputable def kV:Key->V
 |.inl i=>.int i
 |.inr x=>.str x
inductive HO where
 |lst (xs:List V)
 |tup (xs:List V)
 |dK (kvs:List (Key×V))|dT (kvs:List (List Key×V))
 |set (S:Int->Bool) (n:Nat)
 |ins (C dx:Addr) (fs:List (Str×V))
 |own (x:Addr)
 |xd (fs:List (Str×V))
 |met (f x:Addr)
 |UP (lo hi:Int)
 |AM (o:Obj) (u:HO)
 |ZI (ps:Array Value)
 |ext (φ:Heap->Prop)
abbrev Hp:=Addr->Option HO
noncomputable def upd(H:Hp)(a:Addr)(o:HO):Hp:=λb=>if b=a then some o else H b
theorem au{H:Hp}{a:Addr}{o:HO}:upd H a o a=some o:=by unfold upd;rw[ee rfl]
theorem aC{H:Hp}{a b:Addr}{o:HO}(h:b≠a):upd H a o b=H b:=by unfold upd;rw[eH h]
theorem Lo{H:Hp}{a:Addr}{o u:HO}:upd (upd H a o) a u=upd H a u:=by
 funext b;unfold upd;split <;> rfl
theorem mX{H:Hp}{a b:Addr}{o u:HO}(h:H a=some o)(h':H b=some u)(d:o≠u):a≠b:=by
 intro e;subst e;rw[h] at h';exact d (aQ h')
theorem aJ{H:Hp}{a b:Addr}{o:HO}(h:H a=some o)(h':H b=none):a≠b:=by
 intro e;subst e;rw[h] at h';cases h'
section
variable(P:Program)(w:World)
def fH(H:Hp)(h:Heap)(a:Addr):HO->Prop
 |.lst xs=>xs.length<=sizeLine/\∃(its:List Value) (n:Nat),bY xs its/\h.get? a=some {cls:=.type "list",data:=.seq its.toArray n}
 |.tup xs=>xs.length<=sizeLine/\∃its:List Value,bY xs its/\IsTup h a its.toArray
 |.dK kvs=>kvs.length<=sizeLine/\(a==sysModules)=false/\∃vs,KV kvs vs/\h.DictOf (ia P w) a vs
 |.dT kvs=>kvs.length<=sizeLine/\(a==sysModules)=false/\∃xs:List (List Key×Addr×Value),
  Paired (λ(p:List Key×V) (q:List Key×Addr×Value)=>p.1=q.1/\H q.2.1=some (.tup (p.1.map kV))/\RelV p.2 q.2.2) kvs xs /\
  ∃o es ep,h.get? a=some o/\o.ExactDict/\o.data=.dict es ep/\es.toList=xs.map (entryOfKey (tupleKind (ia P w)))/\(xs.map (·.1)).Nodup
 |.set S n=>h.SetOf (intKind P w) a S n
 |.ins C dx fs=>H dx=some (.own a)/\fs.length<=1000/\dx≠a/\h.get? a=some (jK C dx) /\
  ∃mA,h.Ns1 dx mA/\(∀f,Bc (fs.lookup f) (mA f))/\PySem.Within mA (fs.map (·.1))
 |.own _=>∃o,h.get? a=some o
 |.xd fs=>∃mA,h.Ns1 a mA/\∀f,Bc (fs.lookup f) (mA f)
 |.UP lo hi=>∃t u v,h.get? a=some {cls:=.type "range",data:=.fields #[.int lo t,.int hi u,.int 1 v]}
 |.AM o u=>h.get? a=some o/\fH H h a u
 |.ZI ps=>h.get? a=some {cls:=.none,data:=.fields ps}
 |.met f x=>h.get? a=some (PySem.W.methodObj (.ref f) (.ref x))
 |.ext φ=>φ h/\(∃o,h.get? a=some o)/\∀h1 h2:Heap,φ h1->(∀o,h1.get? a=some o->h2.get? a=some o)->φ h2
def zl(H:Hp)(h:Heap):Prop:=∀a o,H a=some o->fH P w H h a o
end
section
variable{P:Program}{w:World}{H H':Hp}{h h':Heap}{a:Addr}{o:HO}
theorem fH.lt(x:fH P w H h a o):a<h.objs.size:=by
 cases o with
 |lst c=>obtain⟨_,_,_,_,e⟩:=x;exact Heap.lt_size e
 |tup c=>obtain⟨_,_,_,p⟩:=x;exact p.lt
 |dK b=>obtain⟨_,_,_,_,o,_,_,e,_⟩:=x;exact Heap.lt_size e
 |dT b=>obtain⟨_,_,_,_,o,_,_,e,_⟩:=x;exact Heap.lt_size e
 |set S n=>obtain⟨o,_,_,_,e,_⟩:=x;exact Heap.lt_size e
 |ins C l d=>obtain⟨_,_,_,e,_⟩:=x;exact Heap.lt_size e
 |own y=>obtain⟨_,e⟩:=x;exact Heap.lt_size e
 |xd d=>obtain⟨_,⟨_,_,_,e,_⟩,_⟩:=x;exact Heap.lt_size e
 |UP lo k=>obtain⟨_,_,_,e⟩:=x;exact Heap.lt_size e
 |AM i u=>obtain⟨e,_⟩:=x;exact Heap.lt_size e
 |ZI g=>exact Heap.lt_size (show h.get? a=some _ from x)
 |met f y=>exact Heap.lt_size (show h.get? a=some _ from x)
 |ext j=>obtain⟨_,⟨_,e⟩,_⟩:=x;exact Heap.lt_size e
theorem Paired.Xz{c d:Type}{F G:c->d->Prop}:∀{l₁:List c} {l₂:List d},Paired F l₁ l₂->(∀a b,F a b->G a b)->Paired G l₁ l₂
 |_,_,.nil,_=>.nil
 |_,_,.cons r t,f=>.cons (f _ _ r) (Paired.Xz t f)
theorem fH.stay(x:fH P w H h a o)(k:∀b u,(b=a∨H b=some (.own a))->h.get? b=some u->h'.get? b=some u)
 (K:∀b,H b=some (.own a)->H' b=some (.own a)) (I:∀b xs,H b=some (.tup xs)->H' b=some (.tup xs)):fH P w H' h' a o:=by
 induction o with
 |lst xs=>obtain⟨z,l,n,r,e⟩:=x;exact⟨z,l,n,r,k _ _ (.inl rfl) e⟩
 |tup xs=>obtain⟨z,l,r,g,e,c⟩:=x;exact⟨z,l,r,g,k _ _ (.inl rfl) e,c⟩
 |dK s=>obtain⟨z,y,E,r,g,j,i,e,c⟩:=x;exact⟨z,y,E,r,g,j,i,k _ _ (.inl rfl) e,c⟩
 |dT s =>
  obtain⟨z,y,xs,r,g,j,i,e,c⟩:=x;exact⟨z,y,xs,Paired.Xz r λp q z=>⟨z.1,I _ _ z.2.1,z.2.2⟩,g,j,i,k _ _ (.inl rfl) e,c⟩
 |set S n=>obtain⟨g,j,i,t,e,c⟩:=x;exact⟨g,j,i,t,k _ _ (.inl rfl) e,c⟩
 |ins C N F =>
  obtain⟨d,z,D,e,A,⟨m,j,i,J,c⟩,r⟩:=x;exact⟨K _ d,z,D,k _ _ (.inl rfl) e,A,⟨m,j,i,k _ _ (.inr d) J,c⟩,r⟩
 |own y=>obtain⟨g,e⟩:=x;exact⟨g,k _ _ (.inl rfl) e⟩
 |xd F=>obtain⟨A,⟨m,j,i,e,c⟩,r⟩:=x;exact⟨A,⟨m,j,i,k _ _ (.inl rfl) e,c⟩,r⟩
 |UP lo M=>obtain⟨t,u,v,e⟩:=x;exact⟨t,u,v,k _ _ (.inl rfl) e⟩
 |AM g u G=>obtain⟨e,q⟩:=x;exact⟨k _ _ (.inl rfl) e,G q⟩
 |ZI B =>
  have e:h.get? a=some {cls:=.none,data:=.fields B}:=x;show h'.get? a=some {cls:=.none,data:=.fields B};exact k a _ (.inl rfl) e
 |met f y =>
  have e:h.get? a=some (PySem.W.methodObj (.ref f) (.ref y)):=x;show h'.get? a=some (PySem.W.methodObj (.ref f) (.ref y));exact k a _ (.inl rfl) e
 |ext L=>obtain⟨p,⟨o,e⟩,st⟩:=x;exact⟨st _ _ p λo q=>k _ _ (.inl rfl) q,⟨o,k _ _ (.inl rfl) e⟩,st⟩
theorem zl.lt(x:zl P w H h)(e:H a=some o):a<h.objs.size:=(x a o e).lt
theorem zl.fresh(x:zl P w H h)(e:h.objs.size<=a):H a=none:=by
 cases q:H a with
 |none=>rfl
 |some u=>exact eL (bI (x.lt q) e) (gp _)
theorem zl.kept(x:zl P w H h)(k:∀b u,h.get? b=some u->h'.get? b=some u):zl P w H h':=λa o e =>
 (x a o e).stay (λb u _ q=>k b u q) (λ_ q=>q) λ_ _ q=>q
theorem zl.laid(x:zl P w H h)(k:∀b u,h.get? b=some u->h'.get? b=some u)(i:h.objs.size<=a)(d:fH P w (upd H a o) h' a o):zl P w (upd H a o) h':=λb u e=>by
 have g:=x.fresh i;by_cases f:b=a
 ·subst f;rw[au] at e;cases e;exact d
 ·rw[aC f] at e
  exact (x b u e).stay (λc v _ q=>k c v q) (λc q=>by rw[aC (aJ q g)];exact q) λc j q=>by rw[aC (aJ q g)];exact q
end
def Rd(H:Hp)(a:Addr)(u:HO):Prop:=H a=some u∨∃o,H a=some (.AM o u)
theorem Rd.ok{P:Program}{w:World}{H:Hp}{h:Heap}{a:Addr}{u:HO}(r:Rd H a u)(x:zl P w H h):fH P w H h a u:=by
 rcases r with r|⟨o,r⟩
 ·exact x a u r
 ·obtain⟨_,q⟩:=x a _ r
  exact q
def Cs:Option HO->Prop
 |some (.lst _)=>True
 |some (.dK _)=>True
 |some (.dT _)=>True
 |some (.set _ _)=>True
 |some (.ins _ _ _)=>True
 |some (.ext _)=>True
 |_=>False
section
variable{P:Program}{w:World}{H:Hp}{h h':Heap}{x e:Addr}{o':HO}
theorem zl.write(ok:zl P w H h)(g:Cs (H x))(o:e=x∨H e=some (.own x))(k:∀b u,b≠e->h.get? b=some u->h'.get? b=some u)(m:∃u,h'.get? e=some u)
 (l:fH P w (upd H x o') h' x o'):zl P w (upd H x o') h':=λb u q=>by
 have d:∀c y,H c=some (.own y)->c≠x:=λc y r z=>by subst z;rw[r] at g;exact g
 have j:∀c f,H c=some (.tup f)->c≠x:=λc f r z=>by subst z;rw[r] at g;exact g
 by_cases i:b=x
 ·subst i;rw[au] at q;cases q;exact l
 ·rw[aC i] at q
  by_cases a:b=e
  ·have n:H b=some (.own x):=by
    rcases o with z|z
    ·exact eL (a.trans z) i
    ·rw[a];exact z
   rw[q] at n;cases n;obtain⟨v,p⟩:=m;exact⟨v,by rw[a];exact p⟩
  ·refine (ok b u q).stay (λc v hc r=>k c v ?_ r) (λc r=>by rw[aC (d c b r)];exact r) λc f r=>by rw[aC (j c f r)];exact r
   rcases hc with rfl|hc
   ·exact a
   ·rintro rfl
    rcases o with z|z
    ·exact d c b hc z
    ·rw[hc] at z;cases z;exact i rfl
end
structure Un(fs ex:List Addr)(H H':Hp)(h h':Heap):Prop where
 keep:∀b o,h.get? b=some o->H b=none->b∉fs->b∉ex->h'.get? b=some o
 slot:∀b o,h.get? b=some o->H b=none->b∈fs->b∉ex->∃sl,h'.get? b=some {o with slots:=sl}
 free:∀b o,h.get? b=some o->H b=none->b∉ex->H' b=none
 there:∀b o,h.get? b=some o->b∉ex->∃o',h'.get? b=some o'
 tups:∀b xs,H b=some (.tup xs)->H' b=some (.tup xs)
 Be:∀b o u,H b=some (.AM o u)->H' b=some (.AM o u)
 CV:∀b ps,H b=some (.ZI ps)->∃more,H' b=some (.ZI (ps++more))
section
variable{fs fs' ex ex':List Addr}{H H1 H2:Hp}{h h1 h2 h':Heap}{a x e:Addr}{o:HO}
theorem Un.any(u:Un fs ex H H1 h h1){b:Addr}{ob:Obj}(q:h.get? b=some ob)(n:H b=none)(a:b∉ex):∃d,h1.get? b=some {ob with slots:=d}:=by
 by_cases c:b∈fs
 ·exact u.slot b ob q n c a
 ·exact⟨ob.slots,u.keep b ob q n c a⟩
theorem Un.trans(a:Un fs ex H H1 h h1)(b:Un fs ex H1 H2 h1 h2):Un fs ex H H2 h h2 where
 keep:=λc e q n i d=>b.keep c e (a.keep c e q n i d) (a.free c e q n d) i d
 slot:=λc e q n i d=>by
  obtain⟨r,f⟩:=a.slot c e q n i d;obtain⟨j,k⟩:=b.slot c _ f (a.free c e q n d) i d;exact⟨j,k⟩
 free:=λc e q n d=>by
  obtain⟨l,f⟩:=a.there c e q d;exact b.free c l f (a.free c e q n d) d
 there:=λc e q d=>by
  obtain⟨l,f⟩:=a.there c e q d;exact b.there c l f d
 tups:=λc g q=>b.tups c g (a.tups c g q)
 Be:=λc e g q=>b.Be c e g (a.Be c e g q)
 CV:=λc m q=>by
  obtain⟨p,f⟩:=a.CV c m q;obtain⟨o,k⟩:=b.CV c _ f;exact⟨p++o,by rw[k,Array.append_assoc]⟩
theorem Un.kept(k:∀b u,h.get? b=some u->h'.get? b=some u):Un fs ex H H h h' :=
 ⟨λb a q _ _ _=>k b a q,λb a q _ _ _=>⟨a.slots,k b a q⟩,λ_ _ _ n _=>n,λb a q _=>⟨a,k b a q⟩,λ_ _ q=>q,λ_ _ _ q=>q,λ_ c q=>⟨#[],by rw[q];simp⟩⟩
theorem Un.refl:Un fs ex H H h h:=Un.kept λ_ _ q=>q
theorem Un.laid(k:∀b u,h.get? b=some u->h'.get? b=some u)(e:h.objs.size<=a)(c:H a=none):Un fs ex H (upd H a o) h h' where
 keep:=λb u q _ _ _=>k b u q
 slot:=λb u q _ _ _=>⟨u.slots,k b u q⟩
 free:=λb u q n _=>by rw[aC (aZ (bI (Heap.lt_size q) e))];exact n
 there:=λb u q _=>⟨u,k b u q⟩
 tups:=λb d q=>by rw[aC (aJ q c)];exact q
 Be:=λb u d q=>by rw[aC (aJ q c)];exact q
 CV:=λb f q=>⟨#[],by rw[aC (aJ q c),q];simp⟩
theorem Un.write(c:Cs (H x))(m:e=x∨H e=some (.own x))(k:∀b u,b≠e->h.get? b=some u->h'.get? b=some u)(d:∃u,h'.get? e=some u):Un fs ex H (upd H x o) h h':=by
 have g:∀b,H b=none->b≠x:=λb n z=>by subst z;rw[n] at c;exact c
 have i:∀b,H b=none->b≠e:=λb n z=>by
  subst z;rcases m with r|r
  ·exact g b n r
  ·rw[n] at r;cases r
 have f:∀b u,H b=some u->¬Cs (some u)->b≠x:=λb u q j z=>by subst z;rw[q] at c;exact j c
 refine⟨λb u q n _ _=>k b u (i b n) q,λb u q n _ _=>⟨u.slots,k b u (i b n) q⟩,λb u q n _=>by rw[aC (g b n)];exact n,λb u q _=>?_,
  λb l q=>by rw[aC (f b _ q λz=>z)];exact q,λb u l q=>by rw[aC (f b _ q λz=>z)];exact q,λb p q=>⟨#[],by rw[aC (f b _ q λz=>z),q];simp⟩⟩
 by_cases a:b=e
 ·subst a;exact d
 ·exact⟨u,k b u a q⟩
end
noncomputable def EZ(h:Heap)(H:Hp):List Addr:=(aq h.objs.size).filter λa=>(H a).isSome
noncomputable def Lp(h:Heap)(H:Hp):Heap:=PySem.W.hideAll h (EZ h H)
theorem SR(h:Heap)(H:Hp):(Lp h H).objs.size=h.objs.size:=PySem.W.hideAll_size _ _
theorem UQ{h:Heap}{H:Hp}{b:Addr}{o:Obj}(e:h.get? b=some o)(n:H b=none):(Lp h H).get? b=some o :=
 PySem.W.hideAll_get _ e λa=>by
  have q:(H b).isSome=true:=(bf.mp a).2;rw[n] at q;simp at q
theorem XA{h:Heap}{H:Hp}{b:Addr}{o:Obj}(e:(Lp h H).get? b=some o):h.get? b=some o/\H b=none:=by
 have a:h.get? b=some o:=PySem.W.of_hideAll (EZ h H) e;refine⟨a,?_⟩;cases q:H b with
 |none=>rfl
 |some x =>
  have c:b∈EZ h H:=bf.mpr ⟨bH.mpr (Heap.lt_size a),by simp[q]⟩;have z:(Lp h H).get? b=none:=PySem.W.hideAll_none (EZ h H) c;rw[z] at e;cases e
noncomputable def CY(g h:Heap)(L:Addr):List (Addr×Obj):=(aq h.objs.size).filterMap λa=>if a=L∨(g.get? a).isSome=true then none else (h.get? a).map λo=>(a,o)
theorem Fx{g h:Heap}{L a:Addr}{o:Obj}(c:a≠L)(d:g.get? a=none)(b:h.get? a=some o):(a,o)∈CY g h L :=
 jg.mpr ⟨a,bH.mpr (Heap.lt_size b),by simp[c,d,b]⟩
theorem G2{g h:Heap}{L:Addr}{p:Addr×Obj}(c:p∈CY g h L):p.1≠L/\g.get? p.1=none/\h.get? p.1=some p.2:=by
 obtain⟨b,_,e⟩:=jg.mp c;split at e
 ·cases e
 ·rename_i a
  cases q:h.get? b with
  |none=>rw[q] at e;simp at e
  |some u =>
   rw[q] at e;simp only[Option.map_some,Option.some.injEq] at e;subst e;refine⟨λz=>a (.inl z),?_,q⟩;show g.get? b=none;cases r:g.get? b with
   |none=>rfl
   |some v=>exact (a (.inr (by simp[r]))).elim
noncomputable def rest(g h:Heap)(L d:Addr):List (Addr×Obj):=(CY g h L).filter λp=>decide (p.1≠d)
theorem UR{g h:Heap}{L:Addr}:News g L h (CY g h L):=λp d=>let ⟨a,b,c⟩:=G2 d;⟨c,a,b⟩
structure Mod(K:af)(mg:Str->Option Value)(base:Heap):Prop where
 kF:K.In base
 glob:base.Ns mainGlobals mg
 blt:∃mb,base.Ns builtinsNs mb/\∀x:Str,x≠"__name__" -> mb x=bootBuiltins x
 nolimit:base.NoLimit
structure Cx where
 prog:Program
 w:World
 K:af
 mg:Str->Option Value
 base:Heap
 A:Around
 N:List Str
 s₀:Shared
 H₀:Hp
 env:Env
 outer:List Env
 stack:List Env
 ex:List Addr
 fn:Str->Bool
 calm:Bool
 pn:List (Addr×Obj)
 xe:Value->Shared->Prop
noncomputable def frs(l:List Env):List Addr:=l.filterMap (·.frame)
noncomputable abbrev Cx.fs(X:Cx):List Addr:=frs X.outer
def Vis(sc:Scope)(x:Str):Prop:=sc.names.lookup x=some .local∨sc.names.lookup x=some .cell∨sc.names.lookup x=some .free
def Loc(sc:Scope)(x:Str):Prop:=sc.names.lookup x=some .local∨sc.names.lookup x=some .cell
def Look(env:Env)(h:Heap)(m:Str->Option Value)(x:Str)(u:Value):Prop :=
 (env.kindOf x=some .local/\m x=some u)∨((env.kindOf x=some .cell∨env.kindOf x=some .free)/\∃c,env.cells.lookup x=some c/\h.IsCell c (some u))
structure Cx.Ok(X:Cx):Prop where
 mod:Mod X.K X.mg X.base
 kind:X.env.scope.kind=.function
 glob:X.env.globals=mainGlobals
 blt:X.env.builtins=builtinsNs
 above:X.s₀.heap.objs.size<=X.env.locals
 inj:∀x y c,X.env.cells.lookup x=some c->X.env.cells.lookup y=some c->x=y
 has:∀x,(X.env.kindOf x=some .cell∨X.env.kindOf x=some .free)->∃c,X.env.cells.lookup x=some c
 r4:∀x c,X.fn x=true->X.env.cells.lookup x=some c->X.s₀.heap.objs.size<=c
 hd:X.calm=true->X.A.handled=none
 frames:X.A.frames=some X.stack
 stk:X.stack=X.outer∨(X.stack=X.env::X.outer/\X.env.frame=some X.env.locals)
 exf:∀b∈X.ex,b≠X.env.locals/\∀x c,X.env.cells.lookup x=some c->c≠b
 bs:∀b o,X.base.get? b=some o->X.s₀.heap.get? b=some o/\X.H₀ b=none
 US:X.base.objs.size<=X.s₀.heap.objs.size
 SS:∀b o,X.base.get? b=some o->b∉X.ex
 UT:∀b∈X.ex,b∉X.fs
 CZ:X.s₀.heap.FunFrames X.base X.outer
 ZJ:∀b∈X.fs,X.H₀ b=none
structure Inv(X:Cx)(pins:List (Addr×Obj))(σ:List (Option V))(H:Hp)(s:Shared):Prop where
 ok:X.Ok
 os:s.os=X.s₀.os
 bare:AllBare s.gens
 base:Un X.fs X.ex X.H₀ H X.s₀.heap s.heap
 loc:∃m,s.heap.Ns X.env.locals m/\∀(i:Nat) (x:Str) (v:V),X.N[i]?=some x->σ[i]?=some (some v)->Vis X.env.scope x->∃u,RelV v u/\Look X.env s.heap m x u
 cell:∀x c,X.env.cells.lookup x=some c->∃v,s.heap.IsCell c v
 free:H X.env.locals=none
 ur:∀x c,X.env.cells.lookup x=some c->H c=none
 pin:∀p∈X.pn++pins,s.heap.get? p.1=some p.2/\H p.1=none/\p.1≠X.env.locals/\p.1∉X.fs/\∀v,p.2.data≠.cell v
 hok:zl X.prog X.w H s.heap
 len:σ.length=X.N.length
section
variable{X:Cx}{pins:List (Addr×Obj)}{σ:List (Option V)}{H H':Hp}{s:Shared}{h':Heap}
theorem Cx.Ok.ag0(ok:X.Ok){b:Addr}{o:Obj}(e:X.base.get? b=some o):b∉X.fs:=λa=>by
 have:=(ok.CZ.mem a).1
 rw[e] at this;cases this
theorem Inv.bs(I:Inv X pins σ H s):∀b o,X.base.get? b=some o->s.heap.get? b=some o/\H b=none:=λb o e =>
 ⟨I.base.keep b o (I.ok.bs b o e).1 (I.ok.bs b o e).2 (I.ok.ag0 e) (I.ok.SS b o e),I.base.free b o (I.ok.bs b o e).1 (I.ok.bs b o e).2 (I.ok.SS b o e)⟩
theorem Inv.bk(I:Inv X pins σ H s):∀b o,X.base.get? b=some o->s.heap.get? b=some o:=λb o e=>(I.bs b o e).1
theorem Inv.mod(I:Inv X pins σ H s):Mod X.K X.mg X.base:=I.ok.mod
theorem Inv.BL(I:Inv X pins σ H s):X.K.In s.heap:=I.ok.mod.kF.keeps I.bk
theorem Inv.fr(I:Inv X pins σ H s):∃m,Fr X.base X.env.locals s.heap m :=
 let ⟨m,a,_⟩:=I.loc
 ⟨m,a,I.bk,aF I.ok.US I.ok.above⟩
theorem Inv.lt(I:Inv X pins σ H s):X.env.locals<s.heap.objs.size:=let ⟨_,a,_⟩:=I.loc;a.lt
theorem Inv.sz(I:Inv X pins σ H s):X.s₀.heap.objs.size<=s.heap.objs.size:=aF I.ok.above (iB I.lt)
theorem Inv.ag1(I:Inv X pins σ H s){a:Addr}(h:s.heap.objs.size<=a):a∉X.fs:=λb=>by
 obtain⟨_,o,c,_⟩:=I.ok.CZ.mem b;exact eL (bI (Heap.lt_size c) (aF I.sz h)) (gp _)
theorem Inv.l0(I:Inv X pins σ H s):∀x c,X.env.cells.lookup x=some c->c≠X.env.locals:=λx c e z=>by
 obtain⟨v,o,f,d⟩:=I.cell x c e;obtain⟨m,⟨i,h,g,a,b,_⟩,_⟩:=I.loc;rw[z,a] at f;cases f;rw[b] at d;cases d
theorem Inv.CZ(I:Inv X pins σ H s):s.heap.FunFrames X.base X.outer:=by
 have a:∀(l:List Env),(∀b∈frs l,b∈X.fs)->X.s₀.heap.FunFrames X.base l->s.heap.FunFrames X.base l:=by
  intro l;induction l with
  |nil=>intro _ _;trivial
  |cons p r k =>
   intro g i;obtain⟨h,⟨L,o,f,j,q,n⟩,m⟩:=i;have c:L∈X.fs:=g L (by unfold frs;rw[cR,f];exact bJ);obtain⟨t,e⟩:=I.base.slot L o q (I.ok.ZJ L c) c λz=>I.ok.UT L z c;exact⟨h,⟨L,_,f,j,e,n⟩,k (λb d=>g b (by unfold frs;rw[cR,f];exact aN _ d)) m⟩
 exact a X.outer (λ_ d=>d) I.ok.CZ
theorem Inv.stack(I:Inv X pins σ H s):s.heap.FunFrames X.base X.stack:=by
 rcases I.ok.stk with e|⟨e,b⟩
 ·rw[e];exact I.CZ
 ·rw[e]
  obtain⟨m,a,_⟩:=I.loc;refine .cons (by rw[I.ok.kind];decide) b a ?_ I.CZ;exact Heap.get?_none_of_le (aF I.ok.US I.ok.above)
theorem Inv.Ef(I:Inv X pins σ H s):∀b∈frs X.stack,b∈X.env.locals::X.fs:=λb a=>by
 rcases I.ok.stk with e|⟨e,c⟩
 ·rw[e] at a;exact aN _ a
 ·rw[e] at a
  unfold frs at a;rw[cR,c] at a;exact a
theorem Inv.Lq(I:Inv X pins σ H s):∀b∈frs X.stack,H b=none:=λb hb=>by
 rcases aW.mp (I.Ef b hb) with e|hb
 ·rw[e];exact I.free
 ·obtain⟨_,o,a,_⟩:=I.ok.CZ.mem hb
  exact I.base.free b o a (I.ok.ZJ b hb) λz=>I.ok.UT b z hb
theorem Inv.step{g':Array GenState}{t':Nat}{d':Drawn}{ch:List Addr}(I:Inv X pins σ H s)
 (g:∀b∈ch,(b∈X.ex∨X.s₀.heap.objs.size<=b)/\b≠X.env.locals/\(∀x c,X.env.cells.lookup x=some c->c≠b)/\∀p∈X.pn++pins,p.1≠b)
 (keep:∀b o,b≠X.env.locals->b∉X.fs->b∉ch->s.heap.get? b=some o->H b=none->h'.get? b=some o)
 (slot:∀b o,b≠X.env.locals->b∈X.fs->b∉ch->s.heap.get? b=some o->H b=none->∃J,h'.get? b=some {o with slots:=J}) (free:∀b o,b∉ch->s.heap.get? b=some o->H b=none->H' b=none)
 (there:∀b o,b∉ch->s.heap.get? b=some o->∃C,h'.get? b=some C)
 (tups:∀b y,H b=some (.tup y)->H' b=some (.tup y)) (Be:∀b o u,H b=some (.AM o u)->H' b=some (.AM o u)) (CV:∀b G,H b=some (.ZI G)->∃F,H' b=some (.ZI (G++F)))
 (R:∀m,s.heap.Ns X.env.locals m->h'.Ns X.env.locals m) (L:zl X.prog X.w H' h') (U:AllBare g') :
 Inv X pins σ H' {s with heap:=h',gens:=g',drawn:=d',toks:=t'}:=by
 have D:∀b o,X.s₀.heap.get? b=some o->b≠X.env.locals:=λb o e=>aZ (bI (Heap.lt_size e) I.ok.above);have j:∀b o,X.s₀.heap.get? b=some o->b∉X.ex->b∉ch:=λb o e a A=>by
  rcases (g b A).1 with z|z
  ·exact a z
  ·exact eL (bI (Heap.lt_size e) z) (gp _)
 have f:∀x c,X.env.cells.lookup x=some c->∀v,s.heap.IsCell c v->h'.IsCell c v:=λx c e v ⟨o,B,M⟩=>by
  have h:c∉ch:=λz=>(g c z).2.2.1 x c e rfl;by_cases N:c∈X.fs
  ·obtain⟨J,q⟩:=slot c o (I.l0 x c e) N h B (I.ur x c e)
   exact⟨_,q,M⟩
  ·exact⟨o,keep c o (I.l0 x c e) N h B (I.ur x c e),M⟩
 refine⟨I.ok,I.os,U,⟨λb o e n A a=>?_,λb o e n A a=>?_,λb o e n a=>?_,λb o e a=>?_,λb y e=>tups b y (I.base.tups b y e),λb o y e=>Be b o y (I.base.Be b o y e),λb G e=>?_⟩,?_,λx c e=>?_,?_,λx c e=>?_,λp P=>?_,L,I.len⟩
 ·exact keep b o (D b o e) A (j b o e a) (I.base.keep b o e n A a) (I.base.free b o e n a)
 ·obtain⟨J,t⟩:=I.base.slot b o e n A a
  obtain⟨K,E⟩:=slot b _ (D b o e) A (j b o e a) t (I.base.free b o e n a);exact⟨K,E⟩
 ·obtain⟨C,t⟩:=I.base.there b o e a
  exact free b C (j b o e a) t (I.base.free b o e n a)
 ·obtain⟨C,t⟩:=I.base.there b o e a
  exact there b C (j b o e a) t
 ·obtain⟨S,t⟩:=I.base.CV b G e
  obtain⟨V,E⟩:=CV b _ t;exact⟨S++V,by rw[E,Array.append_assoc]⟩
 ·obtain⟨m,Q,W⟩:=I.loc
  refine⟨m,R m Q,λi x v t E T=>?_⟩;obtain⟨u,r,l⟩:=W i x v t E T;refine⟨u,r,?_⟩;rcases l with l|⟨k,c,e,z⟩
  ·exact .inl l
  ·exact .inr ⟨k,c,e,f x c e _ z⟩
 ·obtain⟨v,z⟩:=I.cell x c e
  exact⟨v,f x c e v z⟩
 ·obtain⟨m,⟨o,_,_,B,_⟩,_⟩:=I.loc
  exact free _ o (λz=>(g _ z).2.1 rfl) B I.free
 ·obtain⟨v,o,B,M⟩:=I.cell x c e
  exact free c o (λz=>(g c z).2.2.1 x c e rfl) B (I.ur x c e)
 ·obtain⟨e,n,O,nf,d⟩:=I.pin p P
  have h:p.1∉ch:=λz=>(g p.1 z).2.2.2 p P rfl;exact⟨keep p.1 p.2 O nf h e n,free p.1 p.2 h e n,O,nf,d⟩
theorem Inv.un{t':Nat}(I:Inv X pins σ H s)(u:Un X.fs [] H H' s.heap h')(d:zl X.prog X.w H' h'):Inv X pins σ H' {s with heap:=h',toks:=t'}:=by
 obtain⟨m,⟨o,v,l,h,r⟩,_⟩:=id I.loc;obtain⟨p,j⟩:=u.any h I.free (-_);exact I.step (g':=s.gens) (d':=s.drawn) (ch:=[]) (λ_ z=>nomatch z) (λb o _ f _ e n=>u.keep b o e n f (-_)) (λb o _ f _ e n=>u.slot b o e n f (-_)) (λb o _ e n=>u.free b o e n (-_)) (λb o _ e=>u.there b o e (-_)) u.tups u.Be u.CV (λq k=>by
  obtain⟨t,g,c,a,i⟩:=k;rw[h] at a;cases a;exact⟨_,g,c,j,i⟩) d I.bare
theorem Inv.call{g':Array GenState}{t':Nat}{d':Drawn}{ch:List Addr}(I:Inv X pins σ H s)(u:Un (frs X.stack) ch H H' s.heap h')(i:zl X.prog X.w H' h')(q:AllBare g')
 (f:∀b∈ch,(b∈X.ex∨X.s₀.heap.objs.size<=b)/\b≠X.env.locals/\(∀x c,X.env.cells.lookup x=some c->c≠b)/\∀p∈X.pn++pins,p.1≠b) :
 Inv X pins σ H' {s with heap:=h',gens:=g',drawn:=d',toks:=t'}:=by
 obtain⟨m,⟨o,D,y,k,r⟩,_⟩:=id I.loc;obtain⟨A,h⟩:=u.any k I.free λz=>(f _ z).2.1 rfl;exact I.step (ch:=ch) f (λb o h v a e n=>u.keep b o e n (λz=>(aW.mp (I.Ef b z)).elim h v) a) (λb o _ _ a e n=>u.any e n a) (λb o a e n=>u.free b o e n a) (λb o a e=>u.there b o e a) u.tups u.Be u.CV (λB t=>by
  obtain⟨C,j,g,d,l⟩:=t;rw[k] at d;cases d;exact⟨_,j,g,h,l⟩) i q
theorem Inv.turned{t':Nat}{a:Addr}(I:Inv X pins σ H s)(k:∀b o,b≠a->s.heap.get? b=some o->h'.get? b=some o)(i:H a=none)(g:a≠X.env.locals)
 (t:a∈X.ex∨X.s₀.heap.objs.size<=a) (j:∀x c,X.env.cells.lookup x=some c->c≠a) (l:∀p∈X.pn++pins,p.1≠a):Inv X pins σ H {s with heap:=h',toks:=t'}:=by
 have f:∀b u,H b=some u->b≠a:=λb u e z=>by rw[z,i] at e;cases e
 refine I.step (g':=s.gens) (d':=s.drawn) (ch:=[a]) (λb A=>?_) (λb o _ _ d e _=>k b o (λz=>d (by simp[z])) e) (λb o _ _ d e _=>⟨o.slots,k b o (λz=>d (by simp[z])) e⟩) (λ_ _ _ _ n=>n)
  (λb o d e=>⟨o,k b o (λz=>d (by simp[z])) e⟩) (λ_ _ e=>e) (λ_ _ _ e=>e) (λb C e=>⟨#[],by rw[e];simp⟩) (λm y=>?_) (λb u e=>?_) I.bare
 ·have e:b=a:=by simpa using A
  subst e;exact⟨t,g,j,l⟩
 ·obtain⟨o,w,h,B,r⟩:=y
  exact⟨o,w,h,k _ o (bM g) B,r⟩
 ·refine (I.hok b u e).stay (λc v d q=>k c v ?_ q) (λ_ q=>q) λ_ _ q=>q
  rcases d with z|z
  ·rw[z];exact f b u e
  ·exact f c _ z
theorem Inv.tok(I:Inv X pins σ H s)(t:Nat):Inv X pins σ H {s with toks:=t}:=I.un (h':=s.heap) (t':=t) Un.refl I.hok
theorem Inv.kept{t':Nat}(I:Inv X pins σ H s)(k:∀b u,s.heap.get? b=some u->h'.get? b=some u):Inv X pins σ H {s with heap:=h',toks:=t'}:=I.un (Un.kept k) (I.hok.kept k)
theorem Inv.laid{a:Addr}{o:HO}{t':Nat}(I:Inv X pins σ H s)(k:∀b u,s.heap.get? b=some u->h'.get? b=some u)(d:s.heap.objs.size<=a)(c:fH X.prog X.w (upd H a o) h' a o) :
 Inv X pins σ (upd H a o) {s with heap:=h',toks:=t'}:=I.un (Un.laid k d (I.hok.fresh d)) (I.hok.laid k d c)
theorem Inv.write{x e:Addr}{o:HO}{t':Nat}(I:Inv X pins σ H s)(f:Cs (H x))(d:e=x∨H e=some (.own x))(k:∀b u,b≠e->s.heap.get? b=some u->h'.get? b=some u)(a:∃u,h'.get? e=some u)
 (c:fH X.prog X.w (upd H x o) h' x o):Inv X pins σ (upd H x o) {s with heap:=h',toks:=t'}:=I.un (Un.write f d k a) (I.hok.write f d k a c)
theorem Inv.Rh{a:List (Addr×Obj)}(I:Inv X pins σ H s)(h:∀p∈a,s.heap.get? p.1=some p.2/\H p.1=none/\p.1≠X.env.locals/\p.1∉X.fs/\∀v,p.2.data≠.cell v):Inv X a σ H s :=
 ⟨I.ok,I.os,I.bare,I.base,I.loc,I.cell,I.free,I.ur,λp b=>(bG.mp b).elim (λz=>I.pin p (gX _ z)) (h p),I.hok,I.len⟩
theorem MO{N:List Str}(c:N.Nodup){i j:Nat}{x:Str}(a:N[i]?=some x)(b:N[j]?=some x):i=j:=by
 obtain⟨f,e⟩:=ai.mp a;obtain⟨g,d⟩:=ai.mp b;exact (List.getElem_inj c).mp (e.trans d.symm)
theorem Kl{M:Model}{A:Around}{E:Value->Shared->Prop}{i:Nat}{x:Str}{v:V}{u:Value}{Q:Unit->Shared->Prop}(I:Inv X pins σ H s)(hN:X.N.Nodup)(R:X.N[i]?=some x)(t:Loc X.env.scope x)(r:RelV v u)
 (h:∀s',Inv X pins (σ.set i (some v)) H s'->(∃a,Heap.SameBut a s.heap s'.heap/\(a=X.env.locals∨X.env.cells.lookup x=some a))->Q () s') (hf:X.fn x=true∨X.env.scope.names.lookup x=some .local:=by first|exact .inl rfl|exact .inr rfl|assumption):wpAny M A (storeName X.env x u) Q E s:=by
 obtain⟨m,W,hl⟩:=id I.loc;have J:(X.env.scope.kind==.class || (X.env.scope.kind==.module&&X.env.locals != X.env.globals))=false:=by rw[I.ok.kind];rfl
 have O:i<σ.length:=by rw[I.len];exact (ai.mp R).1
 have l0:=I.l0;have g:∀{a:Addr} {h':Heap},(∃o,s.heap.get? a=some o/\H a=none)->Heap.SameBut a s.heap h'->zl X.prog X.w H h':=λ{a h'} ha f b ob e=>by
  obtain⟨_,_,B⟩:=ha;refine (I.hok b ob e).stay (λc S hc q=>(f.2 c ?_).trans q) (λ_ q=>q) λ_ _ q=>q;rintro rfl;rcases hc with rfl|hc
  ·rw[B] at e;cases e
  ·rw[B] at hc;cases hc
 rcases t with hk|hk
 ·refine wpAny_storeName_local hk W (λh' hn' f=>?_) J
  obtain⟨oL,_,_,hoL,_⟩:=id W;refine h _ ⟨I.ok,I.os,I.bare,⟨λb o e n G t=>?_,λb o e n G t=>?_,I.base.free,λb o e t=>?_,I.base.tups,I.base.Be,I.base.CV⟩,⟨_,hn',λj y v' l C e3=>?_⟩,λy c e=>?_,I.free,I.ur,λp hp=>?_,g ⟨oL,hoL,I.free⟩ f,by simpa using I.len⟩ ⟨_,f,.inl rfl⟩
  ·exact (f.2 b (aZ (bI (Heap.lt_size e) I.ok.above))).trans (I.base.keep b o e n G t)
  ·obtain⟨Y,l⟩:=I.base.slot b o e n G t
   exact⟨Y,(f.2 b (aZ (bI (Heap.lt_size e) I.ok.above))).trans l⟩
  ·obtain⟨o',l⟩:=I.base.there b o e t
   exact⟨o',(f.2 b (aZ (bI (Heap.lt_size e) I.ok.above))).trans l⟩
  ·by_cases D:j=i
   ·subst D
    rw[R] at l;cases l;rw[List.getElem?_set_self O] at C;cases C;exact⟨u,r,.inl ⟨hk,-_⟩⟩
   ·rw[List.getElem?_set_ne (bM D)] at C
    obtain⟨Z,r',q⟩:=hl j y v' l C e3;refine⟨Z,r',?_⟩;rcases q with ⟨k,e⟩|⟨k,c,e,z⟩
    ·refine .inl ⟨k,?_⟩
     have:y≠x:=λe=>D (MO hN l (e▸R))
     simp[this,e]
    ·exact .inr ⟨k,c,e,z.sameBut f (l0 y c e)⟩
  ·obtain⟨S,z⟩:=I.cell y c e
   exact⟨S,z.sameBut f (l0 y c e)⟩
  ·obtain⟨e,n,T,nf,d⟩:=I.pin p hp
   exact⟨(f.2 p.1 T).trans e,n,T,nf,d⟩
 ·have F:X.fn x=true:=by
   rcases hf with z|z
   ·exact z
   ·rw[z] at hk;cases hk
  obtain⟨c,hc⟩:=I.ok.has x (.inl hk);obtain⟨S,z⟩:=I.cell x c hc;refine wpAny_storeName_cell I.ok.kind hk hc z (λh' L f=>?_);obtain⟨oc,K,ag3⟩:=id z;refine h {s with heap:=h'} ⟨I.ok,I.os,I.bare,⟨λb o e n G t=>?_,λb o e n G t=>?_,I.base.free,λb o e t=>?_,I.base.tups,I.base.Be,I.base.CV⟩,⟨m,W.sameBut f (bM (l0 x c hc)),λj y v' l C e3=>?_⟩,λy U e=>?_,I.free,I.ur,λp hp=>?_,g ⟨oc,K,I.ur x c hc⟩ f,by simpa using I.len⟩ ⟨c,f,.inr hc⟩
  ·exact (f.2 b (aZ (bI (Heap.lt_size e) (I.ok.r4 x c F hc)))).trans (I.base.keep b o e n G t)
  ·obtain⟨Y,l⟩:=I.base.slot b o e n G t
   exact⟨Y,(f.2 b (aZ (bI (Heap.lt_size e) (I.ok.r4 x c F hc)))).trans l⟩
  ·obtain⟨o',l⟩:=I.base.there b o e t
   exact⟨o',(f.2 b (aZ (bI (Heap.lt_size e) (I.ok.r4 x c F hc)))).trans l⟩
  ·by_cases D:j=i
   ·subst D
    rw[R] at l;cases l;rw[List.getElem?_set_self O] at C;cases C;exact⟨u,r,.inr ⟨.inl hk,c,hc,L⟩⟩
   ·rw[List.getElem?_set_ne (bM D)] at C
    obtain⟨Z,r',q⟩:=hl j y v' l C e3;refine⟨Z,r',?_⟩;rcases q with q|⟨k,U,e,z'⟩
    ·exact .inl q
    ·refine .inr ⟨k,U,e,z'.sameBut f ?_⟩
     rintro rfl;exact D (MO hN l (I.ok.inj _ _ _ e hc▸R))
  ·by_cases P:U=c
   ·subst P;exact⟨_,L⟩
   ·obtain⟨w2,z2⟩:=I.cell y U e
    exact⟨w2,z2.sameBut f P⟩
  ·obtain⟨e,n,T,nf,d⟩:=I.pin p hp
   refine⟨(f.2 p.1 ?_).trans e,n,T,nf,d⟩;intro q;rw[q,K] at e;have q':oc=p.2:=aQ e;exact d S (by rw[<- q'];exact ag3)
theorem C0{M:Model}{A:Around}{E:Value->Shared->Prop}{i:Nat}{x:Str}{v:V}{u:Value}{Q:Unit->Shared->Prop}(I:Inv X pins σ H s)(a:X.N.Nodup)(d:X.N[i]?=some x)(b:Loc X.env.scope x)(r:RelV v u)
 (h:∀s',Inv X pins (σ.set i (some v)) H s'->Q () s') (e:X.fn x=true∨X.env.scope.names.lookup x=some .local:=by first|exact .inl rfl|exact .inr rfl|assumption):wpAny M A (storeName X.env x u) Q E s :=
 Kl I a d b r (λs' c _=>h s' c) e
theorem Inv.ZK{s':Shared}{ch:List Addr}(I:Inv X pins σ H s)(g:s'.os=s.os)(u:Un (frs X.stack) ch H H' s.heap s'.heap)(d:zl X.prog X.w H' s'.heap)(f:AllBare s'.gens)
 (a:∀b∈ch,(b∈X.ex∨X.s₀.heap.objs.size<=b)/\b≠X.env.locals/\(∀x c,X.env.cells.lookup x=some c->c≠b)/\∀p∈X.pn++pins,p.1≠b):Inv X pins σ H' s':=by
 obtain⟨h',g',d',t',h⟩:=s';have e:h=s.os:=g;subst e;exact I.call (g':=g') (t':=t') (d':=d') u d f a
end
abbrev XK:=Value->Option Addr->Hp->Prop
abbrev St:=List (Option V)
abbrev VK:=V->Hp->Prop
abbrev TE:=St->Hp->VK->Prop
abbrev TT:=St->Hp->(Bool->Hp->Prop)->Prop
abbrev TA:=St->Hp->(List V->Hp->Prop)->Prop
structure Ends where
 nx:St->Hp->Prop
 rt:VK
 bk:St->Hp->Prop:=λ_ _=>False
 ct:St->Hp->Prop:=λ_ _=>False
abbrev TS:=Ends->St->Hp->Prop
inductive EP(X:Cx)(pins:List (Addr×Obj))(σ:St)(Q:VK)(u:Value)(s':Shared):Prop
 |mk (v:V) (H':Hp) (a:Inv X pins σ H' s') (b:RelV v u) (c:Q v H'):EP X pins σ Q u s'
inductive TP(X:Cx)(pins:List (Addr×Obj))(σ:St)(Q:Bool->Hp->Prop)(b:Bool)(s':Shared):Prop
 |mk (H':Hp) (a:Inv X pins σ H' s') (c:Q b H'):TP X pins σ Q b s'
inductive AP(X:Cx)(pins:List (Addr×Obj))(σ:St)(Q:List V->Hp->Prop)(us:List Value)(s':Shared):Prop
 |mk (vs:List V) (H':Hp) (a:Inv X pins σ H' s') (b:bY vs us) (c:Q vs H'):AP X pins σ Q us s'
def SP(X:Cx)(pins:List (Addr×Obj))(D:Ends)(f:Flow)(s':Shared):Prop :=
 match f with
 |.next=>∃σ' H',Inv X pins σ' H' s'/\D.nx σ' H'
 |.brk=>∃σ' H',Inv X pins σ' H' s'/\D.bk σ' H'
 |.cont=>∃σ' H',Inv X pins σ' H' s'/\D.ct σ' H'
 |.ret u=>∃v σ' H',Inv X pins σ' H' s'/\RelV v u/\D.rt v H'
def PE(X:Cx)(e:Expr)(t:TE):Prop :=
 ∀(pins:List (Addr×Obj)) (s:Shared) (σ:St) (H:Hp) (Q:VK),Inv X pins σ H s->t σ H Q->wpAny (model X.prog X.w) X.A (eval e X.env) (EP X pins σ Q) X.xe s
def PT(X:Cx)(e:Expr)(t:TT):Prop :=
 ∀(pins:List (Addr×Obj)) (s:Shared) (σ:St) (H:Hp) (Q:Bool->Hp->Prop),Inv X pins σ H s->t σ H Q->wpAny (model X.prog X.w) X.A (isTrue e X.env (eval e X.env)) (TP X pins σ Q) X.xe s
def PW(X:Cx)(e:Expr)(t:TT):Prop :=
 ∀(whole:Sem Value) (pins:List (Addr×Obj)) (s:Shared) (σ:St) (H:Hp) (Q:Bool->Hp->Prop),Inv X pins σ H s->t σ H Q->wpAny (model X.prog X.w) X.A (isTrue e X.env whole) (TP X pins σ Q) X.xe s
theorem PW.pt{X:Cx}{e:Expr}{t:TT}(h:PW X e t):PT X e t:=h _
def PA(X:Cx)(es:List Expr)(t:TA):Prop :=
 ∀(pos:Pos) (pins:List (Addr×Obj)) (s:Shared) (σ:St) (H:Hp) (Q:List V->Hp->Prop),Inv X pins σ H s->t σ H Q->wpAny (model X.prog X.w) X.A (spliced (backTo pos (starEach es X.env))) (AP X pins σ Q) X.xe s
def PS(X:Cx)(st:Stmt)(t:TS):Prop :=
 ∀(pins:List (Addr×Obj)) (s:Shared) (σ:St) (H:Hp) (D:Ends),Inv X pins σ H s->t D σ H->wpAny (model X.prog X.w) X.A (exec st X.env) (SP X pins D) X.xe s
def iX(X:Cx)(st:List Stmt)(t:TS):Prop :=
 ∀(pins:List (Addr×Obj)) (s:Shared) (σ:St) (H:Hp) (D:Ends),Inv X pins σ H s->t D σ H->wpAny (model X.prog X.w) X.A (execs st X.env) (SP X pins D) X.xe s
theorem gO{c:Type}{t:Sem c}{Q b:c->Shared->Prop}{M:Model}{A:Around}{E:Value->Shared->Prop}{s:Shared}(h:wpAny M A t Q E s)(d:∀a s,Q a s->b a s):wpAny M A t b E s:=wpAny_mono h d λ_ _ x=>x
section
variable{X:Cx}
inductive Lr(i:Nat)(σ:St)(H:Hp)(Q:VK):Prop
 |mk (v:V) (a:σ[i]?=some (some v)) (b:Q v H):Lr i σ H Q
def tC(v:V):TE:=λ_ H Q=>Q v H
theorem aaT{i:Nat}{x:Str}{g:Pos}(n:X.N[i]?=some x)(q:Vis X.env.scope x)(j:(x==("__debug__" : Str))=false:=by decide)(f:(x==("__classdict__" : Str))=false:=by decide):PE X (.Name x g) (Lr i):=by
 intro d s t H Q I h;obtain⟨v,e,h⟩:=h;obtain⟨m,o,w⟩:=I.loc;obtain⟨u,r,l⟩:=w i x v n e q;have b:EP X d t Q u s:=⟨v,H,I,r,h⟩;rcases l with ⟨hk,p⟩|⟨hk,c,k,a⟩
 ·exact wpAny_Name (wpAny_loadName_local I.ok.kind hk o p b) j
 ·rcases hk with hk|hk
  ·exact wpAny_Name (wpAny_loadName_cell I.ok.kind hk k a b) j
  ·exact wpAny_Name (wpAny_loadName_free I.ok.kind hk k a b f) j
theorem az{i j pos}:PE X (.Constant (.int i) j pos) (tC (.int i)):=λ_ _ _ H _ I h=>wpAny_Constant_int ⟨.int i,H,I.tok _,⟨_,rfl⟩,h⟩
theorem MP{b j pos}:PE X (.Constant (.bool b) j pos) (tC (.bl b)):=λ_ _ _ H _ I h=>Constant_bool ⟨.bl b,H,I,rfl,h⟩
theorem mY{j pos}:PE X (.Constant .none j pos) (tC .fk):=λ_ _ _ H _ I h=>Constant_none ⟨.fk,H,I,rfl,h⟩
theorem qz{x j pos}:PE X (.Constant (.str x) j pos) (tC (.str x)):=λ_ _ _ H _ I h=>Calls.Constant_str ⟨.str x,H,I.tok _,⟨_,rfl⟩,h⟩
def Gl(X:Cx)(x:Str):Prop:=X.env.kindOf x=some .globalImplicit
theorem C1{E:Value->Shared->Prop}{a:List (Addr×Obj)}{s:Shared}{f:St}{H:Hp}{x:Str}{u:Value}{b:Pos}{Q:Value->Shared->Prop}(I:Inv X a f H s)(c:Gl X x)(d:X.mg x=some u)(h:Q u s)
 (e:(x==("__debug__" : Str))=false:=by decide):wpAny (model X.prog X.w) X.A (eval (.Name x b) X.env) Q E s :=
 Calls.Name_function_global I.ok.kind c (Calls.loadGlobal_global (by rw[I.ok.glob];exact I.mod.glob.keeps I.bk) d h) e
theorem BN{E:Value->Shared->Prop}{a:List (Addr×Obj)}{s:Shared}{k:St}{H:Hp}{x:Str}{u:Value}{b:Pos}{Q:Value->Shared->Prop}(I:Inv X a k H s)(f:Gl X x)(g:X.mg x=none)(i:bootBuiltins x=some u)(h:Q u s)
 (c:x≠"__name__" := by decide) (j:(x==("__debug__" : Str))=false:=by decide):wpAny (model X.prog X.w) X.A (eval (.Name x b) X.env) Q E s:=by
 obtain⟨l,e,d⟩:=I.mod.blt;exact Calls.Name_function_global I.ok.kind f (Calls.loadGlobal_builtin (by rw[I.ok.glob];exact I.mod.glob.keeps I.bk) g (by rw[I.ok.blt];exact e.keeps I.bk) ((d x c).trans i) h) j
theorem lI{x:Str}{v:V}{u:Value}{a:Pos}(b:Gl X x)(d:X.mg x=some u)(r:RelV v u)(c:(x==("__debug__" : Str))=false:=by decide):PE X (.Name x a) (tC v) :=
 λ_ _ _ H _ I h=>C1 I b d ⟨v,H,I,r,h⟩ c
theorem GL{x:Str}{v:V}{u:Value}{a:Pos}(b:Gl X x)(f:X.mg x=none)(d:bootBuiltins x=some u)(r:RelV v u)(c:x≠"__name__" := by decide)(e:(x==("__debug__" : Str))=false:=by decide):PE X (.Name x a) (tC v) :=
 λ_ _ _ H _ I h=>BN I b f d ⟨v,H,I,r,h⟩ c e
variable{a b:Expr}{ta tb:TE}{pos:Pos}
def PC(X:Cx)(op:CmpOp)(a b:Expr)(t:TE):Prop :=
 ∀(pins:List (Addr×Obj)) (s:Shared) (σ:St) (H:Hp) (Q:VK),Inv X pins σ H s->t σ H Q ->
  wpAny (model X.prog X.w) X.A (eval a X.env) (λv s₁=>wpAny (model X.prog X.w) X.A (eval b X.env) (λu s₂=>wpAny (model X.prog X.w) X.A (compareOp op v u) (EP X pins σ Q) X.xe s₂) X.xe s₁) X.xe s
inductive BlR(Q:Bool->Hp->Prop)(x:V)(H1:Hp):Prop
 |mk (c:Bool) (a:x=.bl c) (b:Q c H1):BlR Q x H1
def tB(t:TE):TT:=λσ H Q=>t σ H (BlR Q)
theorem aaU{op:CmpOp}{t:TE}(h:PC X op a b t)(f:behindInMarks op b=false:=by first|exact adK _ (!_) (!_)|rfl):PT X (.Compare a [op] [b] pos) (tB t):=by
 intro e s m H Q I l;refine wpAny_isTrue_Compare1 (gO (h e s m H _ I l) λv p f=>gO f λu r i=>gO i λc o ⟨x,k,j,n,g⟩=>?_) f;obtain⟨d,rfl,q⟩:=g;cases n;exact wpAny_truthy_bool ⟨k,j,q⟩
theorem mZ{e:Expr}{t:TE}(h:PE X e t)(i:∀a,isTrue e X.env a=(do let v <- a;standAt e.pos;holding [v] (truthy v)):=by intro _;rfl):PT X e (tB t):=by
 intro b s k H Q I j;refine isTrue_plain (gO (h b s k H _ I j) λv m ⟨x,g,f,l,c⟩=>?_) (i _);obtain⟨d,rfl,q⟩:=c;cases l;exact wpAny_truthy_bool ⟨g,f,q⟩
variable{tA Hx:TT}{rest:List Expr}
def ag5(t u:TT):TT:=λσ H Q=>t σ H λc H1=>if c=true then u σ H1 Q else Q false H1
def tOr(t u:TT):TT:=λσ H Q=>t σ H λc H1=>if c=true then Q true H1 else u σ H1 Q
def ag6(t:TT):TT:=λσ H Q=>t σ H λc H1=>Q (!c) H1
theorem C2(d:PT X a tA):PW X (.BoolOp .And [a] pos) tA:=by
 intro g b s f H Q I h;refine isTrue_and (gO (d b s f H Q I h) λc i e=>?_);cases c with
 |true=>exact isTrue_and_nil e
 |false=>exact e
theorem BO(d:PT X a tA):PW X (.BoolOp .Or [a] pos) tA:=by
 intro g b s f H Q I h;refine isTrue_or (gO (d b s f H Q I h) λc i e=>?_);cases c with
 |false=>exact isTrue_or_nil e
 |true=>exact e
theorem G3(m:PT X a tA)(l:PW X (.BoolOp .And (b::rest) pos) Hx):PW X (.BoolOp .And (a::b::rest) pos) (ag5 tA Hx):=by
 intro j d s i H Q I h;refine isTrue_and (gO (m d s i H _ I h) λc k ⟨g,f,e⟩=>?_);cases c with
 |true=>exact l j d k i g Q f e
 |false=>exact⟨g,f,e⟩
theorem C3(m:PT X a tA)(l:PW X (.BoolOp .Or (b::rest) pos) Hx):PW X (.BoolOp .Or (a::b::rest) pos) (tOr tA Hx):=by
 intro j d s i H Q I h;refine isTrue_or (gO (m d s i H _ I h) λc k ⟨g,f,e⟩=>?_);cases c with
 |true=>exact⟨g,f,e⟩
 |false=>exact l j d k i g Q f e
theorem iL(g:PT X a tA):PT X (.UnaryOp .Not a pos) (ag6 tA):=by
 intro b s i H Q I h;exact isTrue_not (gO (g b s i H (λc d=>Q (!c) d) I h) λ_ _ ⟨d,e,f⟩=>⟨d,e,f⟩)
def adL(ta tb:TE):TE:=λσ H Q=>ta σ H λx H1=>∃c,x=.bl c/\if c=true then tb σ H1 Q else Q (.bl false) H1
def adM(ta:TE):TE:=λσ H Q=>ta σ H λx H1=>∃c,x=.bl c/\Q (.bl (!c)) H1
theorem PB{op}{t:TE}(h:PE X a t):PE X (.BoolOp op [a] pos) t:=λb s d H Q I c=>BoolOp_one (h b s d H Q I c)
theorem Ls(l:PE X a ta)(k:PE X (.BoolOp .And (b::rest) pos) tb):PE X (.BoolOp .And (a::b::rest) pos) (adL ta tb):=by
 intro d s i H Q I h;refine BoolOp_and (gO (l d s i H _ I h) λv j ⟨x,g,f,m,e⟩=>?_);obtain⟨c,rfl,e⟩:=e;cases m;refine wpAny_truthy_bool ?_;cases c with
 |true=>exact k d j i g Q f e
 |false=>exact⟨.bl false,g,f,rfl,e⟩
theorem UU(g:PE X a ta):PE X (.UnaryOp .Not a pos) (adM ta):=by
 intro b s i H Q I h;refine UnaryOp_ (gO (g b s i H _ I h) λv k ⟨x,f,e,j,d⟩=>?_);obtain⟨c,rfl,d⟩:=d;cases j;exact not_of (wpAny_truthy_bool ⟨.bl (!c),f,e,rfl,d⟩)
def tIf(t:TT)(ta tb:TE):TE:=λσ H Q=>t σ H λc H1=>if c=true then ta σ H1 Q else tb σ H1 Q
theorem zm{c:Expr}(l:PT X c tA)(n:PE X a ta)(m:PE X b tb):PE X (.IfExp c a b pos) (tIf tA ta tb):=by
 intro e s f H Q I h;refine wpAny_IfExp (gO (l e s f H _ I h) λd j ⟨k,g,i⟩=>?_);cases d with
 |true=>exact n e j f k Q g i
 |false=>exact m e j f k Q g i
end
def bS(K:af)(H:Hp)(a:Addr)(xs:List V):Prop :=
 Rd H a (.lst xs) ∨
  ∃(o:Obj) (its:Array Value) (n:Nat),K.lookup a=some o/\o.cls=.type "list" /\ o.dict=none/\o.data=.seq its n/\its.size<=sizeLine/\bY xs its.toList
def cN(K:af)(H:Hp)(a:Addr)(xs:List V):Prop :=
 Rd H a (.tup xs) ∨
  ∃(o:Obj) (its:Array Value) (n:Nat),K.lookup a=some o/\o.cls=.type "tuple" /\ o.data=.seq its n/\its.size<=sizeLine/\bY xs its.toList
noncomputable def ag7:Value->Option V
 |.none=>some .fk
 |.bool b=>some (.bl b)
 |.int i _=>some (.int i)
 |.str x _=>some (.str x)
 |.bytes b _=>some (.Rg b)
 |.float b _=>some (.lC b)
 |.ref a=>some (.ref a)
 |.type n=>some (.ty n)
 |_=>none
theorem RelV.abs{x:V}{u:Value}(r:RelV x u):ag7 u=some x:=by
 cases x with
 |fk=>cases r;rfl
 |bl _=>cases r;rfl
 |int _=>obtain⟨t,rfl⟩:=r;rfl
 |str _=>obtain⟨t,rfl⟩:=r;rfl
 |Rg _=>obtain⟨t,rfl⟩:=r;rfl
 |lC _=>obtain⟨t,rfl⟩:=r;rfl
 |ref _=>cases r;rfl
 |ty _=>cases r;rfl
theorem RelV.inj{x y:V}{u:Value}(r:RelV x u)(q:RelV y u):x=y:=aQ (r.abs.symm.trans q.abs)
theorem bY.inj:∀{xs a:List V} {us:List Value},bY xs us->bY a us->xs=a
 |_,_,_,.nil,.nil=>rfl
 |_,_,_,.cons r t,.cons b t'=>by rw[r.inj b,bY.inj t t']
section
variable{X:Cx}{pins:List (Addr×Obj)}{σ:St}{H:Hp}{s:Shared}{a:Addr}{xs ys:List V}
theorem bS.of{K:af}(h:H a=some (.lst xs)):bS K H a xs:=.inl (.inl h)
theorem cN.of{K:af}(h:H a=some (.tup xs)):cN K H a xs:=.inl (.inl h)
theorem Inv.list(I:Inv X pins σ H s)(h:bS X.K H a xs):∃b:List Value,bY xs b/\PlainL s.heap a b.toArray/\xs.length<=sizeLine:=by
 rcases h with h|⟨o,b,n,c,d,g,f,i,r⟩
 ·obtain⟨z,b,n,r,e⟩:=h.ok I.hok
  exact⟨b,r,⟨_,n,e,rfl,rfl,rfl⟩,z⟩
 ·refine⟨b.toList,r,⟨o,n,I.BL a o c,d,g,by simpa using f⟩,?_⟩
  have e:=r.length;simp only[bg] at e;lia
theorem Inv.tuple(I:Inv X pins σ H s)(h:cN X.K H a xs):∃b:List Value,bY xs b/\IsTup s.heap a b.toArray/\xs.length<=sizeLine:=by
 rcases h with h|⟨o,b,n,c,d,f,g,r⟩
 ·obtain⟨z,b,r,p⟩:=h.ok I.hok
  exact⟨b,r,p,z⟩
 ·refine⟨b.toList,r,⟨o,I.BL a o c,d,n,by simpa using f⟩,?_⟩
  have e:=r.length;simp only[bg] at e;lia
theorem Inv.MQ(I:Inv X pins σ H s)(h:bS X.K H a xs)(h':bS X.K H a ys):xs=ys:=by
 obtain⟨c,r,⟨o,n,e,_,_,d⟩,_⟩:=I.list h;obtain⟨b,i,⟨k,j,f,_,_,g⟩,_⟩:=I.list h';rw[e] at f;cases f;rw[d] at g;injection g with d1 _
 have:c=b:=by simpa using fy Array.toList d1
 subst this;exact r.inj i
theorem Inv.SV(I:Inv X pins σ H s)(h:cN X.K H a xs)(h':cN X.K H a ys):xs=ys:=by
 obtain⟨c,r,⟨o,e,_,n,d⟩,_⟩:=I.tuple h;obtain⟨b,i,⟨k,f,_,j,g⟩,_⟩:=I.tuple h';rw[e] at f;cases f;rw[d] at g;injection g with d1 _
 have:c=b:=by simpa using fy Array.toList d1
 subst this;exact r.inj i
end
noncomputable abbrev Cx.JD(X:Cx)(E:Value->Shared->Prop):Cx:={X with xe:=E}
noncomputable abbrev Cx.ZL(X:Cx):Cx:=X.JD λ_ _=>False
theorem Cx.Ok.JD{X:Cx}(ok:X.Ok)(E:Value->Shared->Prop):(X.JD E).Ok :=
 ⟨ok.mod,ok.kind,ok.glob,ok.blt,ok.above,ok.inj,ok.has,ok.r4,ok.hd,ok.frames,ok.stk,ok.exf,ok.bs,ok.US,ok.SS,ok.UT,ok.CZ,ok.ZJ⟩
theorem Cx.Ok.zo{X:Cx}{E:Value->Shared->Prop}(ok:(X.JD E).Ok):X.Ok :=
 ⟨ok.mod,ok.kind,ok.glob,ok.blt,ok.above,ok.inj,ok.has,ok.r4,ok.hd,ok.frames,ok.stk,ok.exf,ok.bs,ok.US,ok.SS,ok.UT,ok.CZ,ok.ZJ⟩
section
variable{X:Cx}{pins:List (Addr×Obj)}{σ:St}{H:Hp}{s:Shared}{E:Value->Shared->Prop}
theorem Inv.JD(I:Inv X pins σ H s)(E:Value->Shared->Prop):Inv (X.JD E) pins σ H s:=⟨I.ok.JD E,I.os,I.bare,I.base,I.loc,I.cell,I.free,I.ur,I.pin,I.hok,I.len⟩
theorem Inv.zo(I:Inv (X.JD E) pins σ H s):Inv X pins σ H s:=⟨I.ok.zo,I.os,I.bare,I.base,I.loc,I.cell,I.free,I.ur,I.pin,I.hok,I.len⟩
theorem SP.zo{D:Ends}{f:Flow}{s':Shared}(h:SP (X.JD E) pins D f s'):SP X pins D f s':=by
 cases f with
 |next=>obtain⟨a,b,I,q⟩:=h;exact⟨a,b,I.zo,q⟩
 |brk=>obtain⟨a,b,I,q⟩:=h;exact⟨a,b,I.zo,q⟩
 |cont=>obtain⟨a,b,I,q⟩:=h;exact⟨a,b,I.zo,q⟩
 |ret u=>obtain⟨v,a,b,I,r,q⟩:=h;exact⟨v,a,b,I.zo,r,q⟩
theorem iX.ZL{st:List Stmt}{t:TS}(h:iX X.ZL st t):iX X st t:=λpins s σ H D I a =>
 wpAny_mono (h pins s σ H D (I.JD _) a) (λ_ _ q=>q.zo) λ_ _ z=>jS z
end
section
variable{X:Cx}{st:Stmt}{rest:List Stmt}{t u:TS}{e:Expr}{te:TE}{pos:Pos}
def adN:TS:=λD σ H=>D.nx σ H
def UW(t u:TS):TS:=λD σ H=>t {D with nx:=u D} σ H
theorem bz:iX X [] adN:=λ_ _ a H _ I h=>wpAny_execs_nil ⟨a,H,I,h⟩
theorem ao(e:PS X st t)(c:iX X rest u):iX X (st::rest) (UW t u):=by
 intro a s j H D I h;refine wpAny_execs_cons (gO (e a s j H {D with nx:=u D} I h) λf g q=>?_);cases f with
 |next =>
  obtain⟨b,i,d,q⟩:=q;exact c a g b i D d q
 |ret v=>exact q
 |brk=>exact q
 |cont=>exact q
theorem bA(b:PS X st t):iX X [st] t:=by
 intro a s c H D I h;refine wpAny_execs_cons (gO (b a s c H D I h) λf d q=>?_);cases f with
 |next=>exact wpAny_execs_nil q
 |ret v=>exact q
 |brk=>exact q
 |cont=>exact q
theorem Inv.quiet{a:List (Addr×Obj)}{b:St}{H:Hp}{s:Shared}(I:Inv X a b H s):interactive X.env=false:=by simp[interactive,I.ok.kind]
def ZM(te:TE):TS:=λD σ H=>te σ H λ_ H1=>D.nx σ H1
theorem dS(d:PE X e te)(i:swapsWith e none pos.line X.env=pure false:=by rfl):PS X (.Expr e pos) (ZM te):=by
 intro a s b H D I h;exact wpAny_Expr_any (gO (d a s b H _ I h) λv j ⟨x,g,c,k,f⟩=>⟨b,g,c,f⟩) I.quiet i
def aaV(te:TE):TS:=λD σ H=>te σ H D.rt
theorem UX(d:PE X e te):PS X (.Return (some e) pos) (aaV te):=by
 intro a s b H D I h;exact wpAny_Return_some (gO (d a s b H _ I h) λv j ⟨x,g,c,i,f⟩=>⟨x,b,g,c,i,f⟩)
def PD(c:TT)(t u:TS):TS:=λD σ H=>c σ H λb H1=>if b=true then t D σ H1 else u D σ H1
theorem cy{c:Expr}{a b:List Stmt}{l:TT}(m:PT X c l)(o:iX X a t)(n:iX X b u):PS X (.If c a b pos) (PD l t u):=by
 intro e s f H D I h;refine wpAny_If (gO (m e s f H _ I h) λd k ⟨j,i,g⟩=>?_);cases d with
 |true=>exact o e k f j D i g
 |false=>exact n e k f j D i g
def aaW:TS:=λ_ _ _=>False
theorem dZ{a:List Stmt}:iX X a aaW:=λ_ _ _ _ _ _ h=>h.elim
end
abbrev TG:=V->St->Hp->(St->Hp->Prop)->Prop
abbrev nT:=List V->St->Hp->(St->Hp->Prop)->Prop
def PG(X:Cx)(target:Expr)(t:TG):Prop :=
 ∀(pins:List (Addr×Obj)) (s:Shared) (σ:St) (H:Hp) (v:V) (u:Value) (Q:St->Hp->Prop),Inv X pins σ H s->RelV v u->t v σ H Q ->
  wpAny (model X.prog X.w) X.A (assign target X.env u) (λ_ s'=>∃σ' H',Inv X pins σ' H' s'/\Q σ' H') X.xe s
def lJ(X:Cx)(ts:List Expr)(t:nT):Prop :=
 ∀(pins:List (Addr×Obj)) (s:Shared) (σ:St) (H:Hp) (vs:List V) (us:List Value) (Q:St->Hp->Prop),Inv X pins σ H s->bY vs us->t vs σ H Q ->
  wpAny (model X.prog X.w) X.A (assignInOrder ((assignEach ts X.env).map (·.2)) us) (λ_ s'=>∃σ' H',Inv X pins σ' H' s'/\Q σ' H') X.xe s
abbrev aaY:=V->V->V->Hp->(Hp->Prop)->Prop
def adO(X:Cx)(t:aaY):Prop :=
 ∀(pins:List (Addr×Obj)) (s:Shared) (σ:St) (H:Hp) (o i v:V) (ov iv u:Value) (Q:Hp->Prop),Inv X pins σ H s->RelV o ov->RelV i iv->RelV v u->t o i v H Q ->
  wpAny (model X.prog X.w) X.A (setItem ov iv u) (λ_ s'=>∃H',Inv X pins σ H' s'/\Q H') X.xe s
section
variable{X:Cx}{pos:Pos}
def gU(i:Nat):TG:=λv σ H Q=>Q (σ.set i (some v)) H
theorem Ri{i:Nat}{x:Str}(b:X.N.Nodup)(e:X.N[i]?=some x)(c:Loc X.env.scope x)(f:X.fn x=true∨X.env.scope.names.lookup x=some .local:=by first|exact .inl rfl|exact .inr rfl|assumption):PG X (.Name x pos) (gU i):=by
 intro a s g H v u Q I r h;exact wpAny_assign_Name (C0 I b e c r (λj d=>⟨_,H,d,h⟩) f)
def ag8:nT:=λvs σ H Q=>vs=[]/\Q σ H
inductive ZN(t:TG)(u:nT)(vs:List V)(σ:St)(H:Hp)(Q:St->Hp->Prop):Prop
 |mk (v:V) (r:List V) (a:vs=v::r) (b:t v σ H λσ' H'=>u r σ' H' Q):ZN t u vs σ H Q
theorem GN:lJ X [] ag8:=by
 intro a s b H d c Q I r h;obtain⟨e,h⟩:=h;subst e;cases r;exact assignInOrder_nil ⟨b,H,I,h⟩
theorem m5{e:Expr}{es:List Expr}{t:TG}{u:nT}(k:PG X e t)(d:lJ X es u)
 (i:(assignEach (e::es) X.env).map (·.2)=assign e X.env::(assignEach es X.env).map (·.2):=by rfl):lJ X (e::es) (ZN t u):=by
 intro a s n H p o Q I r h;obtain⟨v,q,m,h⟩:=h;subst m;cases r with
 |cons r j =>
  rw[i];refine assignInOrder_cons (gO (k a s n H _ _ _ I r h) λ_ l ⟨b,g,f,c⟩=>?_);exact d a l b g _ _ Q f j c
inductive aaZ(K:af)(n:Nat)(t:nT)(v:V)(σ:St)(H:Hp)(Q:St->Hp->Prop):Prop
 |mk (a:Addr) (xs:List V) (h1:v=.ref a) (h2:cN K H a xs) (h3:xs.length=n) (h4:t xs σ H Q):aaZ K n t v σ H Q
theorem PF{es:List Expr}{k:Nat}{t:nT}{n:Nat}(j:X.calm=true)(h:lJ X es t)
 (l:(assignEach es X.env).length=n:=by rfl) (d:(assignEach es X.env).findIdx? (·.1)=none:=by rfl):PG X (.Tuple es k pos) (aaZ X.K n t):=by
 intro c s i H v u Q I r f;obtain⟨a,p,z,hq,A,f⟩:=f;subst z;cases r;obtain⟨m,g,x,B⟩:=I.tuple hq;refine assign_Tuple_tuple (I.ok.hd j) x (by simp[l,<- A,g.length]) d λw y=>?_;have q:Inv X c i H {s with heap:=w}:=I.kept (t':=s.toks) λb o e=>y b o (aZ (Heap.lt_size e)) e;exact h c _ i H p _ Q q (by simpa using g) f
def ag9(to ti:TE)(t:aaY):TG:=λv σ H Q=>to σ H λo H1=>ti σ H1 λi H2=>t o i v H2 λH3=>Q σ H3
theorem Eg{o i:Expr}{to e:TE}{t:aaY}(F:PE X o to)(D:PE X i e)(l:adO X t)
 (E:∀v,assign (.Subscript o i pos) X.env v=(do
  let b <- holding [v] (eval o X.env);let c <- holding [v,b] (eval i X.env)
  standAt pos
  holding [v,b,c] (setItem b c v)
  release [v,b,c] []):=by intro _;rfl):PG X (.Subscript o i pos) (ag9 to e t):=by
 intro a s d H v u Q I r h;rw[E];refine wpAny_bind (wpAny_holding (gO (F a s d H _ I h) λb n ⟨x,k,j,m,f⟩=>?_));refine wpAny_bind (wpAny_holding (gO (D a n d k _ j f) λc z ⟨y,w,q,g,B⟩=>?_));refine wpAny_bind (wpAny_standAt (wpAny_bind (wpAny_holding (gO (l a z d w x y v b c u _ q m g r B) λ_ G ⟨C,A,p⟩=>?_))));exact wpAny_release ⟨d,C,A,p⟩
def XC(te:TE)(g:TG):TS:=λD σ H=>te σ H λx H1=>g x σ H1 D.nx
theorem BP{b e:Expr}{c:TE}{g:TG}(o:PE X e c)(m:PG X b g)(k:swapsWithSole [b] e pos.line X.env=pure false:=by rfl)(p:swappedStores [b] e X.env=pure none:=by rfl)
 (l:(assignEach [b] X.env).map (·.2)=[assign b X.env]:=by rfl):PS X (.Assign [b] e pos) (XC c g):=by
 intro a s d H D I h;refine wpAny_Assign_stores (gO (o a s d H _ I h) λv n ⟨x,j,i,r,f⟩=>?_) k p;rw[l];exact gO (m a n d j x v _ i r f) λ_ t q=>q
theorem aa0{i:Nat}{x:Str}{e:Expr}{c:TE}{a:Pos}(d:X.N.Nodup)(q:X.N[i]?=some x)(p:Loc X.env.scope x)(o:PE X e c)(m:swapsWith e (some (.Name x a)) pos.line X.env=pure false:=by rfl)(g:X.fn x=true∨X.env.scope.names.lookup x=some .local:=by first|exact .inl rfl|exact .inr rfl|assumption) :
 PS X (.Assign [.Name x a] e pos) (XC c (gU i)):=by
 intro b s l H D I h;refine wpAny_Assign_Name (gO (o b s l H _ I h) λv t ⟨y,k,j,r,f⟩=>?_) m;exact C0 j d q p r (λu n=>⟨_,k,n,f⟩) g
def aha(i j:Nat)(ta:TA):TS:=λD σ H=>ta σ H λvs H1=>∃v w,vs=[v,w]/\D.nx ((σ.set i (some v)).set j (some w)) H1
theorem aa1{i j:Nat}{x y:Str}{a b:Expr}{B:TA}{n t m:Pos}{kt k2 pt2}(K:X.calm=true)(z:X.N.Nodup)(V:X.N[i]?=some x)(Q:X.N[j]?=some y)(u:i≠j)
 (F:X.env.scope.names.lookup x=some .local) (J:X.env.scope.names.lookup y=some .local) (W:PA X [a,b] B)
 (Y:swappedStores [.Tuple [.Name x n,.Name y t] kt m] (.Tuple [a,b] k2 pt2) X.env=pure (some [x,y]))
 (P:swapsWithSole [.Tuple [.Name x n,.Name y t] kt m] (.Tuple [a,b] k2 pt2) pos.line X.env=pure false:=by rfl) :
 PS X (.Assign [.Tuple [.Name x n,.Name y t] kt m] (.Tuple [a,b] k2 pt2) pos) (aha i j B):=by
 intro c s G H D I h;rw[exec_Assign_arm];refine wpAny_bind (wpAny_standAt ?_);rw[P];refine wpAny_bind (wpAny_pure ?_);rw[eH (!_)];refine wpAny_bind (Tuple_ (gO (W _ c s G H _ I h) λL f ⟨vs,E,M,r1,k⟩=>?_));obtain⟨v,w,e1,k⟩:=k;subst e1;obtain⟨d,g,rfl,R,r⟩:∃d g,L=[d,g]/\RelV v d/\RelV w g:=by
  cases r1 with
  |cons p q =>
   cases q with
   |cons Z O =>
    cases O;exact⟨_,_,rfl,p,Z⟩
 refine wpAny_newObj_type ?_ fO;have T:Inv X c G E {f with heap:=f.heap.push {cls:=.type "tuple",data:=.seq [d,g].toArray}}:=M.kept (t':=f.toks) λb o e=>Heap.get?_push_of_some _ e;rw[Y];refine wpAny_bind (wpAny_pure ?_);show wpAny (model X.prog X.w) X.A (do rule "assign.swapped-stores";let items <- unpackItems (.ref f.heap.objs.size) 2 none;assignInOrder [λv=>bindName X.env y v,λv=>bindName X.env x v] items.reverse;pure Flow.next) _ _ _;refine wpAny_bind (wpAny_rule (wpAny_bind (unpackItems_tuple (items:=#[d,g]) (I.ok.hd K) (IsTup.new f.heap _) λh' l=>?_)));have U:=T.kept (h':=h') (t':=f.toks) λb o e=>l b o (aZ (Heap.lt_size e)) e;show wpAny _ _ (assignInOrder [λv=>bindName X.env y v,λv=>bindName X.env x v] [g,d] >>= λ_=>pure Flow.next) _ _ _;refine wpAny_bind (assignInOrder_cons (wpAny_bindName (C0 U z Q (.inl J) r (λs2 S=>?_) (.inr J))));refine assignInOrder_cons (wpAny_bindName (C0 S z V (.inl F) R (λs3 C=>assignInOrder_nil (wpAny_pure ?_)) (.inr F)));rw[List.set_comm _ _ (bM u)] at C;exact⟨_,E,C,k⟩
def PJ(c:TT)(tb:TS):TS:=λD σ H=>∃W:Nat->St->Hp->Prop,(∃m,W m σ H)/\∀m σ H,W m σ H ->
 c σ H λb H1=>if b=true then ∃N:St->Hp->Prop,(∀σ' H',N σ' H'->∃m',m'<m/\W m' σ' H')/\tb {D with nx:=N,ct:=N,bk:=D.nx} σ H1 else D.nx σ H1
theorem MR{c:Expr}{g:List Stmt}{E:TT}{x:TS}(F:PassesOwn (model X.prog X.w) X.A X.env X.xe)(G:PT X c E)(R:iX X g x):PS X (.While c g [] pos) (PJ E x):=by
 intro a s S H D I h;obtain⟨W,⟨P,K⟩,i⟩:=h;refine wpAny_While (codeAny_whileLoop (λn L=>∃j B,Inv X a j B L/\W n j B) ?_ P ⟨S,H,I,K⟩);rintro n O ⟨e,y,M,J⟩;refine wpAny_passesOwn F (gO (G a O e y _ M (i n e y J)) λb Q ⟨C,z,m⟩=>?_);cases b with
 |true =>
  obtain⟨N,u,m⟩:=m;rw[ee rfl];refine wpAny_passesOwn F (gO (R a Q e C _ z m) λf T l=>?_);cases f with
  |next =>
   obtain⟨d,k,t,o⟩:=l;obtain⟨p,r,q⟩:=u d k o;exact⟨p,r,d,k,t,q⟩
  |cont =>
   obtain⟨d,k,t,o⟩:=l;obtain⟨p,r,q⟩:=u d k o;exact⟨p,r,d,k,t,q⟩
  |brk=>exact l
  |ret v=>exact l
 |false =>
  rw[eH aB];exact wpAny_execs_nil ⟨e,C,z,m⟩
end
structure It where
 go:Nat->Hp->Prop
 MS:Nat->Hp->V->Hp->Prop
 stop:Nat->Hp->Prop
def C4(X:Cx)(pins:List (Addr×Obj))(H:Hp)(b:Addr):Prop :=
 H b=none/\b≠X.env.locals/\b∉X.fs/\(b∈X.ex∨X.s₀.heap.objs.size<=b)/\(∀x c,X.env.cells.lookup x=some c->c≠b)/\∀p∈X.pn++pins,p.1≠b
theorem Inv.UY{X:Cx}{a:List (Addr×Obj)}{i:St}{H f:Hp}{s:Shared}{b:Addr}(I:Inv X a i H s)(d:s.heap.objs.size<=b)(g:f b=none):C4 X a f b:=by
 refine⟨g,Nat.ne_of_gt (bI I.lt d),I.ag1 d,.inr (aF I.sz d),λx c e z=>?_,λp h z=>?_⟩
 ·obtain⟨v,q⟩:=I.cell x c e
  exact eL (bI q.lt (by rw[z];exact d)) (gp _)
 ·exact eL (bI (Heap.lt_size (I.pin p h).1) (by rw[z];exact d)) (gp _)
structure Turn(P:Program)(w:World)(K:af)(tg:Expr)(J:It)(fp:List Addr)(it:Addr)(tn:Nat->Heap->Prop):Prop where
 mem:it∈fp
 obj:∀i h,tn i h->∀b∈fp,∃o,h.get? b=some o/\∀v,o.data≠.cell v
 keep:∀i h h',tn i h->(∀b∈fp,∀o,h.get? b=some o->h'.get? b=some o)->tn i h'
 item:∀(X:Cx),X.prog=P->X.w=w->X.K=K->X.calm=true->∀(i:Nat) (pins:List (Addr×Obj)) (s:Shared) (σ:St) (H:Hp) (E:Value->Shared->Prop),Inv X pins σ H s->(∀b∈fp,C4 X pins H b)->tn i s.heap->J.go i H ->
  wpAny (model P w) X.A (pyNext (.ref it)) (λr s1=>∃u,r=some u /\
   wpAny (model P w) X.A (letOwnedTupleGo tg (.ref it) u) (λ_ s2=>∃x H',Inv X pins σ H' s2/\RelV x u/\J.MS i H x H'/\tn (i+1) s2.heap/\∀b∈fp,H' b=none) E s1) E s
 done:∀(X:Cx),X.prog=P->X.w=w->X.K=K->X.calm=true->∀(i:Nat) (pins:List (Addr×Obj)) (s:Shared) (σ:St) (H:Hp) (E:Value->Shared->Prop),Inv X pins σ H s->(∀b∈fp,C4 X pins H b)->tn i s.heap->J.stop i H ->
  wpAny (model P w) X.A (pyNext (.ref it)) (λr s1=>r=none/\Inv X pins σ H s1) E s
 self:∀(A:Around) (i:Nat) (s:Shared) (Q:Value->Shared->Prop) (E:Value->Shared->Prop),tn i s.heap->Q (.ref it) s->wpAny (model P w) A (pyIter (.ref it)) Q E s
abbrev TI:=St->Hp->(It->Hp->Prop)->Prop
def PIE(X:Cx)(pins:List (Addr×Obj))(σ:St)(tg:Expr)(R:It->Hp->Prop)(itv:Value)(s2:Shared):Prop :=
 ∃(it:Addr) (fp:List Addr) (tn:Nat->Heap->Prop) (J:It) (H':Hp),itv=.ref it/\Inv X pins σ H' s2/\Turn X.prog X.w X.K tg J fp it tn/\tn 0 s2.heap/\(∀b∈fp,C4 X pins H' b)/\R J H'
def PI(X:Cx)(tg iter:Expr)(wi:TI):Prop :=
 ∀(pins:List (Addr×Obj)) (s:Shared) (σ:St) (H:Hp) (R:It->Hp->Prop),Inv X pins σ H s->wi σ H R ->
  wpAny (model X.prog X.w) X.A (eval iter X.env) (λv s1=>wpAny (model X.prog X.w) X.A (pyIter v) (PIE X pins σ tg R) X.xe s1) X.xe s
theorem UZ{M:Model}{A:Around}{E:Value->Shared->Prop}{s:Shared}{c:Expr}{b:Addr}{u:Value}{o:Obj}{n:String}{vs:Array Value}{Q:Unit->Shared->Prop}(g:s.heap.get? b=some o)(d:o.cls=.type n)(f:o.data=.fields vs)
 (e:["enumerate","zip","dict_itemiterator","dict_reverseitemiterator","odict_iterator","itertools.zip_longest","itertools.pairwise"].contains n=false) (a:Q () s):wpAny M A (letOwnedTupleGo c (.ref b) u) Q E s:=by
 unfold letOwnedTupleGo;cases c <;> first
  |exact wpAny_pure a
  | (cases u <;> first
   |exact wpAny_pure a
   | (refine wpAny_bind (wpAny_load g ?_)
      rw[d,f];show wpAny M A (if (["enumerate","zip","dict_itemiterator","dict_reverseitemiterator","odict_iterator","itertools.zip_longest","itertools.pairwise"].contains n&&vs[0]?==some (rawInt _))=true then _ else _) Q E s;rw[eH (by intro h;rw[e,Bool.false_and] at h;cases h)];exact wpAny_pure a))
noncomputable def Lu(K:af)(a:Addr):It :=
 ⟨λi H=>∃xs x,bS K H a xs/\xs[i]?=some x,λi H x H'=>H'=H/\∀xs,bS K H a xs->xs[i]?=some x,λi H=>∃xs,bS K H a xs/\xs.length<=i⟩
noncomputable def XW(K:af)(a:Addr):It :=
 ⟨λi H=>∃xs x,cN K H a xs/\xs[i]?=some x,λi H x H'=>H'=H/\∀xs,cN K H a xs->xs[i]?=some x,λi H=>∃xs,cN K H a xs/\xs.length<=i⟩
noncomputable def U0(lo:Int)(n:Nat):It:=⟨λi _=>i<n,λi H x H'=>H'=H/\x=.int (lo+i),λi _=>n<=i⟩
theorem SW{P:Program}{w:World}{K:af}{S:Expr}(a g:Addr):Turn P w K S (Lu K a) [g] g (λi h=>h.IsListIter g a i) where
 mem:=-_
 obj:=λi h st b j=>by
  have e:b=g:=by simpa using j
  subst e;obtain⟨o,e,c,d⟩:=st;exact⟨o,e,λv z=>by rw[d] at z;cases z⟩
 keep:=λi h n st k=>st.at λo e=>k g (-_) o e
 item:=by
  intro X F L C M i f s N H E I m st t;subst F L C;obtain⟨Q,x,hq,J⟩:=t;obtain⟨q,y,p,W⟩:=I.list hq;obtain⟨u,U,Z⟩:=y.get J;obtain⟨G,B,T,A,r,D⟩:=m g (-_);refine wpAny_pyNext_list_item st p.isList (x:=u) (by simpa using U) λn l Y=>?_;have O:Inv X f N H {s with heap:=n}:=I.turned (t':=s.toks) (λb o j e=>(Y.2 b j).trans e) G B A r D;obtain⟨o,e,c,d⟩:=id l;exact⟨u,rfl,UZ (s:={s with heap:=n}) e c d (!_) ⟨x,H,O,Z,⟨rfl,λys V=>by rw[I.MQ V hq];exact J⟩,l,λb j=>(m b j).1⟩⟩
 done:=by
  intro X F L C M i f s N H E I m st t;subst F L C;obtain⟨Q,hq,J⟩:=t;obtain⟨q,y,p,W⟩:=I.list hq;obtain⟨G,B,T,A,r,D⟩:=m g (-_);have hl:=y.length;exact wpAny_pyNext_list_end (I.ok.hd M) st p.isList (by simp;lia) λn R=>⟨rfl,I.turned (t':=s.toks) (λb o j e=>R b o j e) G B A r D⟩
 self:=λ_ _ _ _ _ st h=>wpAny_pyIter_listiter st h
theorem PK{P:Program}{w:World}{K:af}{S:Expr}(a j:Addr):Turn P w K S (XW K a) [j] j (λi h=>h.IsTupleIter j a i) where
 mem:=-_
 obj:=λi h st b l=>by
  have e:b=j:=by simpa using l
  subst e;obtain⟨o,e,c,d⟩:=st;exact⟨o,e,λv z=>by rw[d] at z;cases z⟩
 keep:=λi h q st k=>st.at λo e=>k j (-_) o e
 item:=by
  intro X F L C M i f s N H E I n st t;subst F L C;obtain⟨Q,x,hq,J⟩:=t;obtain⟨g,y,p,W⟩:=I.tuple hq;obtain⟨u,U,Z⟩:=y.get J;obtain⟨G,B,T,A,r,D⟩:=n j (-_);refine wpAny_pyNext_tuple_item st (show s.heap.IsTuple a g.toArray from p) (x:=u) (by simpa using U) λq m Y=>?_;have O:Inv X f N H {s with heap:=q}:=I.turned (t':=s.toks) (λb o l e=>(Y.2 b l).trans e) G B A r D;obtain⟨o,e,c,d⟩:=id m;exact⟨u,rfl,UZ (s:={s with heap:=q}) e c d (!_) ⟨x,H,O,Z,⟨rfl,λys V=>by rw[I.SV V hq];exact J⟩,m,λb l=>(n b l).1⟩⟩
 done:=by
  intro X F L C M i f s N H E I n st t;subst F L C;obtain⟨Q,hq,J⟩:=t;obtain⟨g,y,p,W⟩:=I.tuple hq;obtain⟨G,B,T,A,r,D⟩:=n j (-_);have hl:=y.length;exact wpAny_pyNext_tuple_end (I.ok.hd M) st (show s.heap.IsTuple a g.toArray from p) (by simp;lia) λq R=>⟨rfl,I.turned (t':=s.toks) (λb o l e=>R b o l e) G B A r D⟩
 self:=λ_ _ _ _ _ st h=>wpAny_pyIter_tupleiter st h
theorem PL{P:Program}{w:World}{K:af}{J:Expr}(a:Addr)(lo:Int)(n:Nat):Turn P w K J (U0 lo n) [a] a (λi h=>IsRangeIter h a (lo+(i:Nat)*1) ((n:Int)-(i:Nat)) 1) where
 mem:=-_
 obj:=λi h st b d=>by
  have e:b=a:=by simpa using d
  subst e;exact⟨_,st,λv z=>by
   have M:Data.fields _=Data.cell v:=z;cases M⟩
 keep:=λi h j st k=>k a (-_) _ st
 item:=by
  intro X y B u l i c s D H E I g st p;subst y B u;obtain⟨A,r,L,q,m,x⟩:=g a (-_);have W:=Walks.range (prog:=X.prog) (w:=X.w) (I.ok.hd l) a lo 1 n;refine W.item i s _ _ p st λv j C N f F=>?_;obtain⟨t,rfl⟩:=N;have G:Inv X c D H {s with heap:=j,toks:=C}:=I.turned (λb o d e=>F b o (by simpa using d) e) A r q m x;refine⟨_,rfl,UZ (s:={s with heap:=j,toks:=C}) (n:="range_iterator") f rfl rfl (!_) ⟨.int (lo+i),H,G,⟨t,?_⟩,⟨rfl,rfl⟩,f,λb d=>(g b d).1⟩⟩;rw[Int.mul_one]
 done:=by
  intro X y B u l i c s D H E I g st p;subst y B u;obtain⟨A,r,L,q,m,x⟩:=g a (-_);exact wpAny_pyNext_range_end (I.ok.hd l) st (by have:n<=i:=p;lia) λj O=>⟨rfl,I.turned (t':=s.toks) (λb o d e=>O b o d e) A r q m x⟩
 self:=λ_ _ _ _ _ st h=>wpAny_pyIter_rangeiter st h
section
variable{X:Cx}{tg:Expr}
inductive ZO(K:af)(R:It->Hp->Prop)(x:V)(H1:Hp):Prop
 |mk (a:Addr) (h1:x=.ref a) (h2:∃xs,bS K H1 a xs) (h3:R (Lu K a) H1):ZO K R x H1
def adP(K:af)(tl:TE):TI:=λσ H R=>tl σ H (ZO K R)
def ahc(K:af)(tl:TE):TI:=λσ H R=>tl σ H λx H1=>∃a,x=.ref a/\(∃xs,cN K H1 a xs)/\R (XW K a) H1
theorem fq{l:Expr}{g:TE}(hl:PE X l g):PI X tg l (adP X.K g):=by
 intro c s n H R I h;refine gO (hl c s n H _ I h) λv f ⟨x,k,d,r,i⟩=>?_;obtain⟨a,e,⟨t,hq⟩,q⟩:=i;subst e;cases r;obtain⟨j,u,p,w⟩:=d.list hq;refine wpAny_pyIter_list p.isList ?_;refine⟨f.heap.objs.size,[f.heap.objs.size],_,_,k,rfl,d.kept (t':=f.toks) λb o e=>Heap.get?_push_of_some _ e,SW a _,⟨_,Heap.get?_push_size _ rfl,rfl,rfl⟩,λb m=>?_,q⟩;have e:b=f.heap.objs.size:=by simpa using m
 subst e;exact d.UY (av _) (d.hok.fresh (av _))
theorem U1{l:Expr}{i:TE}(hl:PE X l i):PI X tg l (ahc X.K i):=by
 intro d s n H R I h;refine gO (hl d s n H _ I h) λv c ⟨x,k,f,r,j⟩=>?_;obtain⟨a,e,⟨t,hq⟩,q⟩:=j;subst e;cases r;obtain⟨g,u,p,w⟩:=f.tuple hq;refine wpAny_pyIter_tuple (show c.heap.IsTuple a g.toArray from p) ?_;refine⟨c.heap.objs.size,[c.heap.objs.size],_,_,k,rfl,f.kept (t':=c.toks) λb o e=>Heap.get?_push_of_some _ e,PK a _,⟨_,Heap.get?_push_size _ rfl,rfl,rfl⟩,λb m=>?_,q⟩;have e:b=c.heap.objs.size:=by simpa using m
 subst e;exact f.UY (av _) (f.hok.fresh (av _))
theorem U3{c:List (Addr×Obj)}{f:St}{H:Hp}{s:Shared}{R:It->Hp->Prop}{E:Value->Shared->Prop}{lo a:Int}{t u v:Tok}{tk:Nat}(I:Inv X c f H s)(i:-(2^62)<=lo)(g:lo<2^62)(h:-(2^62)<=a)(l:a<2^62)
 (q:R (U0 lo (a-lo).toNat) H):wpAny (model X.prog X.w) X.A (pyIter (.ref s.heap.objs.size)) (PIE X c f tg R) E {s with heap:=s.heap.push {cls:=.type "range",data:=.fields #[.int lo t,.int a u,.int 1 v]},toks:=tk}:=by
 refine wpAny_pyIter_range (IsRange.new ..) (small_one i g h l) ?_;have d:Inv X c f H {s with heap:=s.heap.push {cls:=.type "range",data:=.fields #[.int lo t,.int a u,.int 1 v]},toks:=tk}:=I.kept λb o e=>Heap.get?_push_of_some _ e;refine⟨(s.heap.push {cls:=.type "range",data:=.fields #[.int lo t,.int a u,.int 1 v]}).objs.size,[(s.heap.push {cls:=.type "range",data:=.fields #[.int lo t,.int a u,.int 1 v]}).objs.size],_,_,H,rfl,
  d.kept (t':=tk) λb o e=>Heap.get?_push_of_some _ e,PL _ lo (a-lo).toNat,?_,λb k=>?_,q⟩
 ·have m:lo+((0:Nat):Int)*1=lo:=-_
  have j:(((a-lo).toNat:Nat):Int)-((0:Nat):Int)=Builtin.Range.rangeSize lo a 1:=by rw[rangeSize_one];split <;> lia
  show IsRangeIter _ _ (lo+((0:Nat):Int)*1) ((((a-lo).toNat:Nat):Int)-((0:Nat):Int)) 1;rw[m,j];exact Heap.get?_push_size _ rfl
 ·have e:b=(s.heap.push {cls:=.type "range",data:=.fields #[.int lo t,.int a u,.int 1 v]}).objs.size:=by simpa using k
  subst e;exact d.UY (av _) (d.hok.fresh (av _))
inductive ZP(R:It->Hp->Prop)(vs:List V)(H1:Hp):Prop
 |mk (j:Int) (h1:vs=[.int j]) (h2:-(2^62)<=j) (h3:j<2^62) (h4:R (U0 0 j.toNat) H1):ZP R vs H1
def adQ(ta:TA):TI:=λσ H R=>ta σ H (ZP R)
theorem gu{a:Expr}{f:TA}{p b:Pos}(l:Gl X "range")(m:X.mg "range" = none)(o:PA X [a] f)(i:starEach [a] X.env=[(false,eval a X.env)]:=by rfl):PI X tg (.Call (.Name "range" p) [a] [] b) (adQ f):=by
 intro c s u H R I h;refine Call_ (BN I l m boot_range (PyProof.Rows.callWith_type1 (gO (o b c s u H _ I h) λw z ⟨x,y,g,v,d⟩=>?_) i rfl));obtain⟨j,e,d,n,q⟩:=d;subst e;cases v with
 |cons r k =>
  cases k;obtain⟨t,rfl⟩:=r;exact call_range_1 (U3 g ∅ ∅ d n (by simpa using q))
def adR(wi:TI)(g:TG)(tb:TS):TS:=λD σ H=>wi σ H λJ H1=>∃W:Nat->Nat->St->Hp->Prop,(∃m,W 0 m σ H1)/\∀i m σ H,W i m σ H ->
 (J.stop i H/\D.nx σ H)∨(J.go i H/\∃N:St->Hp->Prop,(∀σ' H',N σ' H'->∃m',m'<m/\W (i+1) m' σ' H')/\∀x H',J.MS i H x H'->g x σ H' λσ2 H2=>tb {D with nx:=N,ct:=N,bk:=D.nx} σ2 H2)
noncomputable def G4(fp:List Addr)(h:Heap):List (Addr×Obj):=fp.filterMap λb=>(h.get? b).map λo=>(b,o)
theorem BQ{fp:List Addr}{h:Heap}{b:Addr}{o:Obj}(a:b∈fp)(e:h.get? b=some o):(b,o)∈G4 fp h:=jg.mpr ⟨b,a,by rw[e];rfl⟩
theorem SX{fp:List Addr}{h:Heap}{p:Addr×Obj}(d:p∈G4 fp h):p.1∈fp/\h.get? p.1=some p.2:=by
 obtain⟨b,a,e⟩:=jg.mp d;cases q:h.get? b with
 |none=>rw[q] at e;cases e
 |some o =>
  rw[q] at e;have c:(b,o)=p:=aQ e;subst c;exact⟨a,q⟩
theorem Inv.pinned{a:List (Addr×Obj)}{f:St}{H:Hp}{s:Shared}{fp:List Addr}(I:Inv X a f H s)(l:∀b∈fp,C4 X a H b)(m:∀b∈fp,∃o,s.heap.get? b=some o/\∀v,o.data≠.cell v):Inv X (a++G4 fp s.heap) f H s :=
 I.Rh λp k=>(bG.mp k).elim (λz=>I.pin p (b6 _ z)) λz=>by
  obtain⟨g,e⟩:=SX z;obtain⟨j,h,i,_⟩:=l p.1 g;obtain⟨o,c,d⟩:=m p.1 g;rw[e] at c;cases c;exact⟨e,j,h,i,d⟩
theorem Inv.C5{a pl:List (Addr×Obj)}{b:St}{H:Hp}{s:Shared}(I:Inv X (a++pl) b H s):Inv X a b H s:=I.Rh λp c=>I.pin p (b6 _ (gX _ c))
theorem aa2{k:Expr}{B:List Stmt}{wi:TI}{g:TG}{tb:TS}{Z:Pos}(M:PassesOwn (model X.prog X.w) X.A X.env X.xe)(hc:X.calm=true)(hi:PI X tg k wi)(hg:PG X tg g)(j:iX X B tb)
 (hs:∀x,foldedSetIterable k X.env x=pure x:=by intro _;rfl):PS X (.For tg k B [] Z) (adR wi g tb):=by
 intro a s σ H D I h;refine wpAny_For (gO (hi a s σ H _ I h) λv s1 h1=>gO h1 λitv s2 h2=>?_) hs;obtain⟨it,K,tn,J,H2,e,I2,T,st2,f2,W,⟨m0,w0⟩,G⟩:=h2;subst e;have y:∀{z:Hp},(∀b∈K,z b=none)->∀b∈K,C4 X a z b:=λhn b j=>⟨hn b j,(f2 b j).2⟩;refine codeAny_forLoop_any (λn s'=>∃i q z,Inv X a q z s'/\tn i s'.heap/\(∀b∈K,z b=none)/\W i n q z) ?_ m0 ⟨0,σ,H2,I2,st2,λb j=>(f2 b j).1,w0⟩;rintro n s3 ⟨i,l,P,I3,E,F,w3⟩;rcases G i n l P w3 with ⟨L,qn⟩|⟨go,N,hN,step⟩
 ·refine wpAny_passesOwn M (gO (T.done X rfl rfl rfl hc i a s3 l P X.xe I3 (y F) E L) λr s4 ⟨R,I4⟩=>?_)
  subst R;exact wpAny_execs_nil ⟨l,P,I4,qn⟩
 ·refine wpAny_passesOwn M (gO (T.item X rfl rfl rfl hc i a s3 l P X.xe I3 (y F) E go) λr s4 ⟨u,R,h4⟩=>?_)
  subst R;refine wpAny_passesOwn M (gO h4 λ_ s5 ⟨x,H5,I5,r5,y5,Y,U⟩=>?_);have Q:=I5.pinned (y U) (T.obj _ _ Y);refine wpAny_passesOwn M (gO (hg _ s5 l H5 x u _ Q r5 (step x H5 y5)) λ_ s6 ⟨S,H6,I6,q6⟩=>?_);refine wpAny_passesOwn M (gO (j _ s6 S H6 _ I6 q6) λf V C=>?_);have again:∀{p:St} {c:Hp},Inv X (a++G4 K s5.heap) p c V->N p c->∃m,m<n/\∃i q z,Inv X a q z V/\tn i V.heap/\(∀b∈K,z b=none)/\W i m q z:=λ{p c} t O=>by
   obtain⟨m',hm,w7⟩:=hN p c O;refine⟨m',hm,i+1,p,c,t.C5,T.keep _ _ _ Y λb j o e=>(t.pin (b,o) (b6 _ (b6 _ (BQ j e)))).1,λb j=>?_,w7⟩;obtain⟨o,e,d⟩:=T.obj _ _ Y b j;exact (t.pin (b,o) (b6 _ (b6 _ (BQ j e)))).2.1
  cases f with
  |next=>obtain⟨p,c,t,O⟩:=C;exact again t O
  |cont=>obtain⟨p,c,t,O⟩:=C;exact again t O
  |brk=>obtain⟨p,c,t,C⟩:=C;exact⟨p,c,t.C5,C⟩
  |ret v=>obtain⟨x7,p,c,t,r7,C⟩:=C;exact⟨x7,p,c,t.C5,r7,C⟩
end
theorem wc{K:af}{a:Addr}{xs:List V}{g:TG}{l:TS}{D:Ends}{b:St}{H:Hp}(c:Nat->St->Hp->Prop)(o:c 0 b H)(hl:∀i b H,i<=xs.length->c i b H->bS K H a xs)
 (r:∀i x b H,xs[i]?=some x->c i b H->g x b H λd k=>l {D with nx:=c (i+1),ct:=c (i+1),bk:=D.nx} d k) (t:∀b H,c xs.length b H->D.nx b H) :
 ∃W:Nat->Nat->St->Hp->Prop,(∃m,W 0 m b H)/\∀i m b H,W i m b H ->
  ((Lu K a).stop i H/\D.nx b H)∨((Lu K a).go i H/\∃N:St->Hp->Prop,(∀h f,N h f->∃n,n<m/\W (i+1) n h f)/\∀x f,(Lu K a).MS i H x f->g x b f λd k=>l {D with nx:=N,ct:=N,bk:=D.nx} d k):=by
 refine⟨λi m b H=>m=xs.length-i/\i<=xs.length/\c i b H,⟨xs.length,-_,aR _,o⟩,?_⟩;rintro i m b H ⟨rfl,s,p⟩;have q:=hl i b H s p;by_cases j:i<xs.length
 ·refine .inr ⟨⟨xs,xs[i],q,by simp[j]⟩,c (i+1),λh f u=>⟨xs.length-(i+1),∅,rfl,j,u⟩,λx f y=>?_⟩
  obtain⟨e,y⟩:=y;subst e;exact r i x b _ (y xs q) p
 ·have e:i=xs.length:=∅
  subst e;exact .inl ⟨⟨xs,q,av _⟩,t b H p⟩
theorem se{lo:Int}{n:Nat}{g:TG}{k:TS}{D:Ends}{a:St}{H:Hp}(b:Nat->St->Hp->Prop)(o:b 0 a H)
 (q:∀i a H,i<n->b i a H->g (.int (lo+i)) a H λc j=>k {D with nx:=b (i+1),ct:=b (i+1),bk:=D.nx} c j) (r:∀a H,b n a H->D.nx a H) :
 ∃W:Nat->Nat->St->Hp->Prop,(∃m,W 0 m a H)/\∀i m a H,W i m a H ->
  ((U0 lo n).stop i H/\D.nx a H)∨((U0 lo n).go i H/\∃N:St->Hp->Prop,(∀f d,N f d->∃l,l<m/\W (i+1) l f d)/\∀x d,(U0 lo n).MS i H x d->g x a d λc j=>k {D with nx:=N,ct:=N,bk:=D.nx} c j):=by
 refine⟨λi m a H=>m=n-i/\i<=n/\b i a H,⟨n,-_,aR _,o⟩,?_⟩;rintro i m a H ⟨rfl,t,p⟩;by_cases h:i<n
 ·refine .inr ⟨h,b (i+1),λf d s=>⟨n-(i+1),∅,rfl,h,s⟩,λx d y=>?_⟩
  obtain⟨e,y⟩:=y;subst e y;exact q i a _ h p
 ·have e:i=n:=∅
  subst e;exact .inl ⟨av _,r a H p⟩
theorem U5{c:TT}{j:TS}{D:Ends}{a:St}{H:Hp}(g:St->Hp->Prop)(i:St->Hp->Nat)(n:g a H)
 (o:∀a H,g a H->c a H λb e=>if b=true then j {D with nx:=λd f=>g d f/\i d f<i a H,ct:=λd f=>g d f/\i d f<i a H,bk:=D.nx} a e else D.nx a e)
 (h:∀a H Q k,(∀b e,Q b e->k b e)->c a H Q->c a H k):PJ c j D a H:=by
 refine⟨λm a H=>m=i a H/\g a H,⟨_,rfl,n⟩,?_⟩;rintro m a H ⟨rfl,p⟩;refine h a H _ _ (λb e q=>?_) (o a H p);cases b with
 |true=>exact⟨_,λd f ⟨r,l⟩=>⟨_,l,rfl,r⟩,q⟩
 |false=>exact q
abbrev R2:=V->V->Hp->VK->Prop
def xq(X:Cx)(f:Value->Value->Sem Value)(r:R2):Prop :=
 ∀(pins:List (Addr×Obj)) (s:Shared) (σ:St) (H:Hp) (x y:V) (v u:Value) (Q:VK),Inv X pins σ H s->RelV x v->RelV y u->r x y H Q ->
  wpAny (model X.prog X.w) X.A (f v u) (EP X pins σ Q) X.xe s
def UnR(X:Cx)(f:Value->Sem Value)(r:V->Hp->VK->Prop):Prop :=
 ∀(pins:List (Addr×Obj)) (s:Shared) (σ:St) (H:Hp) (x:V) (v:Value) (Q:VK),Inv X pins σ H s->RelV x v->r x H Q ->
  wpAny (model X.prog X.w) X.A (f v) (EP X pins σ Q) X.xe s
def oG(X:Cx)(f:Value)(r:List V->Hp->VK->Prop):Prop :=
 ∀(pins:List (Addr×Obj)) (s:Shared) (σ:St) (H:Hp) (xs:List V) (us:List Value) (Q:VK),Inv X pins σ H s->bY xs us->r xs H Q ->
  wpAny (model X.prog X.w) X.A (call f us) (EP X pins σ Q) X.xe s
def ahe(X:Cx)(r:V->Hp->(Bool->Hp->Prop)->Prop):Prop :=
 ∀(pins:List (Addr×Obj)) (s:Shared) (σ:St) (H:Hp) (x:V) (v:Value) (Q:Bool->Hp->Prop),Inv X pins σ H s->RelV x v->r x H Q ->
  wpAny (model X.prog X.w) X.A (truthy v) (TP X pins σ Q) X.xe s
def Xn(r:R2)(ta tb:TE):TE:=λσ H Q=>ta σ H λx H1=>tb σ H1 λy H2=>r x y H2 Q
def tUn(r:V->Hp->VK->Prop)(ta:TE):TE:=λσ H Q=>ta σ H λx H1=>r x H1 Q
inductive rI(C:Int->Int->Prop)(g:Int->Int->V)(x y:V)(H:Hp)(Q:VK):Prop
 |mk (i j:Int) (h1:x=.int i) (h2:y=.int j) (h3:C i j) (h4:Q (g i j) H):rI C g x y H Q
inductive U6(g:Int->Int->V)(x y:V)(H:Hp)(Q:VK):Prop
 |mk (i j:Int) (h1:x=.int i) (h2:y=.int j) (h3:Q (g i j) H):U6 g x y H Q
def rU(g:Int->V):V->Hp->VK->Prop:=λx H Q=>∃i,x=.int i/\Q (g i) H
section
variable{X:Cx}{a b c:Expr}{ta tb tc:TE}{pos:Pos}
theorem aa3(z:PE X a ta)(r:PE X b tb){c:List (Addr×Obj)}{s:Shared}{e:St}{H:Hp}{R:V->V->Hp->Prop}(I:Inv X c e H s)
 (h:ta e H λx k=>tb e k λy d=>R x y d) {Q:Value->Shared->Prop} {f:Value->Value->Sem Value}
 (n:∀v u j x y d,Inv X c e d j->RelV x v->RelV y u->R x y d->wpAny (model X.prog X.w) X.A (f v u) Q X.xe j) :
 wpAny (model X.prog X.w) X.A (eval a X.env) (λv i=>wpAny (model X.prog X.w) X.A (eval b X.env) (λu g=>wpAny (model X.prog X.w) X.A (f v u) Q X.xe g) X.xe i) X.xe s:=by
 refine gO (z c s e H _ I h) λv p ⟨x,k,o,B,l⟩=>?_;refine gO (r c p e k _ o l) λu j ⟨y,d,q,m,t⟩=>?_;exact n v u j x y d q B m t
theorem be{op:Operator}{r:R2}(m:xq X (binaryOp op) r)(k:PE X a ta)(j:PE X b tb):PE X (.BinOp a op b pos) (Xn r ta tb):=by
 intro c s l H Q I h;exact wpAny_BinOp (aa3 k j I h λv u i x y g f e d q=>m c i l g x y v u Q f e d q)
theorem adT{op:UnaryOp}{r:V->Hp->VK->Prop}(k:UnR X (unaryOp op) r)(i:PE X a ta):PE X (.UnaryOp op a pos) (tUn r ta):=by
 intro b s c H Q I h;exact UnaryOp_ (gO (i b s c H _ I h) λv f ⟨x,g,d,j,e⟩=>k b f c g x v Q d j e)
theorem vo{f:Value->Value->Sem Value}{C:Int->Int->Prop}{g:Int->Int->Int}
 (rule:∀(i j:Int) (t u:Tok) (s:Shared) (Q:Value->Shared->Prop) (E:Value->Shared->Prop),C i j->Q (.int (g i j) s.toks) {s with toks:=s.toks+1}->wpAny (model X.prog X.w) X.A (f (.int i t) (.int j u)) Q E s) :
 xq X f (rI C λi j=>.int (g i j)):=by
 intro a s k H x y v u Q I e c h;obtain⟨i,j,rfl,rfl,b,q⟩:=h;obtain⟨t,rfl⟩:=e;obtain⟨d,rfl⟩:=c;exact rule i j t d s _ _ b ⟨.int (g i j),H,I.tok _,⟨_,rfl⟩,q⟩
theorem XD{f:Value->Value->Sem Value}{g:Int->Int->Int}
 (rule:∀(i j:Int) (t u:Tok) (s:Shared) (Q:Value->Shared->Prop) (E:Value->Shared->Prop),Q (.int (g i j) s.toks) {s with toks:=s.toks+1}->wpAny (model X.prog X.w) X.A (f (.int i t) (.int j u)) Q E s) :
 xq X f (U6 λi j=>.int (g i j)):=by
 intro a s e H x y v u Q I d b h;obtain⟨i,j,rfl,rfl,q⟩:=h;obtain⟨t,rfl⟩:=d;obtain⟨c,rfl⟩:=b;exact rule i j t c s _ _ ⟨.int (g i j),H,I.tok _,⟨_,rfl⟩,q⟩
theorem XE{f:Value->Value->Sem Value}{g:Int->Int->Bool}
 (rule:∀(i j:Int) (t u:Tok) (s:Shared) (Q:Value->Shared->Prop) (E:Value->Shared->Prop),Q (.bool (g i j)) s->wpAny (model X.prog X.w) X.A (f (.int i t) (.int j u)) Q E s) :
 xq X f (U6 λi j=>.bl (g i j)):=by
 intro a s e H x y v u Q I d b h;obtain⟨i,j,rfl,rfl,q⟩:=h;obtain⟨t,rfl⟩:=d;obtain⟨c,rfl⟩:=b;exact rule i j t c s _ _ ⟨.bl (g i j),H,I,rfl,q⟩
def ahf(i j:Int):Prop:=0<j/\j<1073741824
def adV(i j:Int):Prop:=0<=j/\j<=1000000/\i.natAbs<2^64
def aa4(i j:Int):Prop:=(-(2^64)<i/\i<2^64)∨(-(2^64)<j/\j<2^64)
theorem aa4.ok{i j:Int}(h:aa4 i j):IntMulOk i j:=by
 rcases h with ⟨a,b⟩|⟨a,b⟩
 ·exact .of_left (intBits_le_64 a b)
 ·exact .of_right (intBits_le_64 a b)
theorem f9:xq X (binaryOp .Add) (U6 λi j=>.int (i+j)):=XD λ_ _ _ _ _ _ _ q=>add_int q
theorem Eh:xq X (binaryOp .Sub) (U6 λi j=>.int (i-j)):=XD λ_ _ _ _ _ _ _ q=>sub_int q
theorem U7:xq X (binaryOp .Mult) (rI aa4 λi j=>.int (i*j)):=vo λ_ _ _ _ _ _ _ a q=>mul_int q a.ok
theorem dF:xq X (binaryOp .FloorDiv) (rI ahf λi j=>.int (i/j)):=vo λi j _ _ _ _ _ a q=>by
 have b:(0:Int)<j:=a.1;have c:j<1073741824:=a.2;exact floordiv_int ∅ (by rw[Int.fdiv_eq_ediv_of_nonneg i ∅];exact q) (.inl (PyProof.noPylong_small ∅))
theorem cP:xq X (binaryOp .Mod) (rI (λ_ j=>0<j) λi j=>.int (i%j)):=vo λi j _ _ _ _ _ a q=>by
 have b:(0:Int)<j:=a;exact mod_int' ∅ (by rw[Int.fmod_eq_emod_of_nonneg i ∅];exact q)
theorem U8:xq X (binaryOp .Pow) (rI adV λi j=>.int (i^j.toNat)):=vo λ_ _ _ _ _ _ _ a q=>pow_int_small a.1 a.2.1 a.2.2 q
theorem aa5:xq X (binaryOp .LShift) (rI adV λi j=>.int (i*2^j.toNat)):=vo λ_ _ _ _ _ _ _ a q=>lshift_int_small a.1 a.2.1 a.2.2 q
theorem aa6:xq X (binaryOp .BitAnd) (U6 λi j=>.int (Builtin.bitAnd i j)):=XD λ_ _ _ _ _ _ _ q=>and_int q
theorem adW:xq X (binaryOp .BitOr) (U6 λi j=>.int (Builtin.bitOr i j)):=XD λ_ _ _ _ _ _ _ q=>or_int q
theorem unI{f:Value->Sem Value}{g:Int->Int}
 (rule:∀(i:Int) (t:Tok) (s:Shared) (Q:Value->Shared->Prop) (E:Value->Shared->Prop),Q (.int (g i) s.toks) {s with toks:=s.toks+1}->wpAny (model X.prog X.w) X.A (f (.int i t)) Q E s) :
 UnR X f (rU λi=>.int (g i)):=by
 intro a s c H x v Q I b h;obtain⟨i,rfl,q⟩:=h;obtain⟨t,rfl⟩:=b;exact rule i t s _ _ ⟨.int (g i),H,I.tok _,⟨_,rfl⟩,q⟩
theorem aa7:UnR X (unaryOp .USub) (rU λi=>.int (-i)):=unI λ_ _ _ _ _ q=>neg_int q
end
noncomputable def aa8:V->V->Bool
 |.fk,.fk=>true|.fk,.int _=>true|.int _,.fk=>true|.fk,.bl _=>true|.bl _,.fk=>true|.fk,.str _=>true|.str _,.fk=>true
 |.int _,.int _=>true|.bl _,.bl _=>true|.str _,.str _=>true|.Rg _,.Rg _=>true
 |.int _,.str _=>true|.str _,.int _=>true|.bl _,.str _=>true|.str _,.bl _=>true
 |_,_=>false
inductive rEq(x y:V)(H:Hp)(Q:VK):Prop
 |mk (a:aa8 x y=true) (b:Q (.bl (decide (x=y))) H):rEq x y H Q
inductive rNe(x y:V)(H:Hp)(Q:VK):Prop
 |mk (a:aa8 x y=true) (b:Q (.bl (!decide (x=y))) H):rNe x y H Q
theorem Rj{i j:Int}:decide (V.int i=V.int j)=(i==j):=by
 rw[iJ];simp
theorem U9{i j:Bool}:decide (V.bl i=V.bl j)=(i==j):=by
 rw[iJ];simp
theorem Rk{i j:Str}:decide (V.str i=V.str j)=(i==j):=by
 rw[iJ];simp
theorem Rl{i j:Array UInt8}:decide (V.Rg i=V.Rg j)=(i.toList==j.toList):=by
 rw[iJ];cases i;cases j;simp
section
variable{X:Cx}{a b c:Expr}{ta tb tc:TE}{pos:Pos}
theorem dQ{a:List (Addr×Obj)}{c:St}{H:Hp}{s:Shared}{Q:VK}{k b:Bool}(I:Inv X a c H s)(q:Q (.bl k) H)(e:k=b):EP X a c Q (.bool b) s:=by
 subst e;exact⟨.bl k,H,I,rfl,q⟩
theorem rD:xq X (compareOp .Eq) rEq:=by
 intro e s f H x y v u Q I d a h;obtain⟨c,q⟩:=h;cases x with
 |fk =>
  cases d;cases y with
  |fk=>cases a;exact PySem.EqNone.eq_none_none (dQ I q (-_))
  |bl j=>cases a;exact PySem.EqNone.eq_none_bool (dQ I q (-_))
  |int j=>obtain⟨b,rfl⟩:=a;exact PySem.EqNone.eq_none_int (dQ I q (-_))
  |str j=>obtain⟨b,rfl⟩:=a;exact PySem.EqNone.eq_none_str (dQ I q (-_))
  |_=>exact eL (show false=true from c) aB
 |bl i =>
  cases d;cases y with
  |fk=>cases a;exact PySem.EqNone.eq_bool_none (dQ I q (-_))
  |bl j=>cases a;exact eq_bool (dQ I q U9)
  |str j=>obtain⟨b,rfl⟩:=a;exact PySem.EqMixed.eq_bool_str (dQ I q (-_))
  |_=>exact eL (show false=true from c) aB
 |int i =>
  obtain⟨t,rfl⟩:=d;cases y with
  |fk=>cases a;exact PySem.EqNone.eq_int_none (dQ I q (-_))
  |int j=>obtain⟨b,rfl⟩:=a;exact eq_int (dQ I q Rj)
  |str j=>obtain⟨b,rfl⟩:=a;exact PySem.EqMixed.eq_int_str (dQ I q (-_))
  |_=>exact eL (show false=true from c) aB
 |str i =>
  obtain⟨t,rfl⟩:=d;cases y with
  |fk=>cases a;exact PySem.EqNone.eq_str_none (dQ I q (-_))
  |bl j=>cases a;exact PySem.EqMixed.eq_str_bool (dQ I q (-_))
  |int j=>obtain⟨b,rfl⟩:=a;exact PySem.EqMixed.eq_str_int (dQ I q (-_))
  |str j=>obtain⟨b,rfl⟩:=a;exact eq_str (dQ I q Rk)
  |_=>exact eL (show false=true from c) aB
 |Rg i =>
  obtain⟨t,rfl⟩:=d;cases y with
  |Rg j=>obtain⟨b,rfl⟩:=a;exact PySem.W.eq_bytes (dQ I q Rl)
  |_=>exact eL (show false=true from c) aB
 |_=>cases y <;> exact eL (show false=true from c) aB
theorem we:xq X (compareOp .NotEq) rNe:=by
 intro e s f H x y v u Q I d a h;obtain⟨c,q⟩:=h;cases x with
 |fk =>
  cases d;cases y with
  |fk=>cases a;exact PySem.EqNone.ne_none_none (dQ I q (-_))
  |bl j=>cases a;exact PySem.EqNone.ne_none_bool (dQ I q (-_))
  |int j=>obtain⟨b,rfl⟩:=a;exact PySem.EqNone.ne_none_int (dQ I q (-_))
  |str j=>obtain⟨b,rfl⟩:=a;exact PySem.EqNone.ne_none_str (dQ I q (-_))
  |_=>exact eL (show false=true from c) aB
 |bl i =>
  cases d;cases y with
  |fk=>cases a;exact PySem.EqNone.ne_bool_none (dQ I q (-_))
  |bl j=>cases a;exact ne_bool (dQ I q (fy not U9))
  |str j=>obtain⟨b,rfl⟩:=a;exact PySem.EqMixed.ne_bool_str (dQ I q (-_))
  |_=>exact eL (show false=true from c) aB
 |int i =>
  obtain⟨t,rfl⟩:=d;cases y with
  |fk=>cases a;exact PySem.EqNone.ne_int_none (dQ I q (-_))
  |int j=>obtain⟨b,rfl⟩:=a;exact ne_int (dQ I q (fy not Rj))
  |str j=>obtain⟨b,rfl⟩:=a;exact PySem.EqMixed.ne_int_str (dQ I q (-_))
  |_=>exact eL (show false=true from c) aB
 |str i =>
  obtain⟨t,rfl⟩:=d;cases y with
  |fk=>cases a;exact PySem.EqNone.ne_str_none (dQ I q (-_))
  |bl j=>cases a;exact PySem.EqMixed.ne_str_bool (dQ I q (-_))
  |int j=>obtain⟨b,rfl⟩:=a;exact PySem.EqMixed.ne_str_int (dQ I q (-_))
  |str j=>obtain⟨b,rfl⟩:=a;exact ne_str (dQ I q (fy not Rk))
  |_=>exact eL (show false=true from c) aB
 |Rg i =>
  obtain⟨t,rfl⟩:=d;cases y with
  |Rg j=>obtain⟨b,rfl⟩:=a;exact PySem.W.ne_bytes (dQ I q (fy not Rl))
  |_=>exact eL (show false=true from c) aB
 |_=>cases y <;> exact eL (show false=true from c) aB
theorem oH:xq X (compareOp .Lt) (U6 λi j=>.bl (decide (i<j))):=XE λ_ _ _ _ _ _ _ q=>lt_int q
theorem p7:xq X (compareOp .LtE) (U6 λi j=>.bl (decide (i<=j))):=XE λ_ _ _ _ _ _ _ q=>le_int q
theorem Rm:xq X (compareOp .Gt) (U6 λi j=>.bl (decide (j<i))):=XE λ_ _ _ _ _ _ _ q=>gt_int q
theorem adX:xq X (compareOp .GtE) (U6 λi j=>.bl (decide (j<=i))):=XE λ_ _ _ _ _ _ _ q=>ge_int q
theorem Va:xq X (compareOp .Is) (λx y H Q=>y=.fk/\Q (.bl (decide (x=.fk))) H):=by
 intro a s d H x y v u Q I b c h;obtain⟨rfl,q⟩:=h;cases c;refine is_none_gen (dQ I q ?_);cases x <;> first
  | (cases b;rfl)
  | (obtain⟨t,rfl⟩:=b;rfl)
theorem Lv:xq X (compareOp .IsNot) (λx y H Q=>y=.fk/\Q (.bl (!decide (x=.fk))) H):=by
 intro a s d H x y v u Q I b c h;obtain⟨rfl,q⟩:=h;cases c;refine isnot_none_gen (dQ I q ?_);cases x <;> first
  | (cases b;rfl)
  | (obtain⟨t,rfl⟩:=b;rfl)
theorem Vb(b:Expr){op:CmpOp}(h:op≠.In:=by decide)(d:op≠.NotIn:=by decide):behindInMarks op b=false:=by
 have c:(op==CmpOp.In)=false:=by cases op <;> first|rfl|exact eL rfl h
 have a:(op==CmpOp.NotIn)=false:=by cases op <;> first|rfl|exact eL rfl d
 cases b <;> simp[behindInMarks,c,a]
theorem XF{op:CmpOp}{r:R2}(n:xq X (compareOp op) r)(l:PE X a ta)(k:PE X b tb)(f:behindInMarks op b=false):PE X (.Compare a [op] [b] pos) (Xn r ta tb):=by
 intro c s m H Q I h;exact wpAny_Compare1 (aa3 l k I h λv u j x y i g e d q=>n c j m i x y v u Q g e d q) f
def Vc(t:TE):TT:=λσ H Q=>t σ H (BlR Q)
theorem iE{op:CmpOp}{r:R2}(G:xq X (compareOp op) r)(E:PE X a ta)(B:PE X b tb)(p:behindInMarks op b=false):PT X (.Compare a [op] [b] pos) (Vc (Xn r ta tb)):=by
 intro d s f H Q I h;refine wpAny_isTrue_Compare1 (gO (E d s f H _ I h) λv m ⟨x,l,j,F,g⟩=>gO (B d m f l _ j g) λu w ⟨y,t,q,i,C⟩ =>
  gO (G d w f t x y v u _ q F i C) λc J ⟨z,D,A,n,k,e,o⟩=>?_) p
 subst e;cases n;exact wpAny_truthy_bool ⟨D,A,o⟩
def Vd(r r':R2)(ta tb tc:TE):TE:=λσ H Q=>ta σ H λx H1=>tb σ H1 λy H2=>r x y H2 λz H3=>∃k,z=.bl k /\
 (if k=true then tc σ H3 λw' H4=>r' y w' H4 Q else Q (.bl false) H3)
theorem MT{op g:CmpOp}{r m:R2}(W:xq X (compareOp op) r)(j:xq X (compareOp g) m)(T:PE X a ta)(R:PE X b tb)(C:PE X c tc)
 (L:lastMarks [op,g] [b,c]=false:=by with_unfolding_all rfl):PE X (.Compare a [op,g] [b,c] pos) (Vd r m ta tb tc):=by
 intro f s i H Q I h;refine Compare_chain (gO (T f s i H _ I h) λv F ⟨x,E,D,V,t⟩=>chain_link (gO (R f F i E _ D t) λu P ⟨y,N,M,l,S⟩ =>
  gO (W f P i N x y v u _ M V l S) λd w ⟨z,p,o,G,k,e,n⟩=>?_)) L
 subst e;cases G;refine wpAny_truthy_bool ?_;cases k with
 |false=>exact ite_ff ⟨.bl false,p,o,rfl,n⟩
 |true=>exact ite_tt (chain_last (gO (C f w i p _ o n) λA U ⟨O,K,J,B,q⟩=>j f U i K y O u A Q J l B q))
theorem jj{op g:CmpOp}{r m:R2}(ho:xq X (compareOp op) r)(j:xq X (compareOp g) m)(ha:PE X a ta)(Y:PE X b tb)(C:PE X c tc)
 (S:lastMarks [op,g] [b,c]=false:=by with_unfolding_all rfl):PT X (.Compare a [op,g] [b,c] pos) (Vc (Vd r m ta tb tc)):=by
 intro f s i H Q I h;refine isTrue_chain (gO (ha f s i H _ I h) λv L ⟨x,J,F,r1,t⟩=>test_link (gO (Y f L i J _ F t) λu W ⟨y,U,T,l,Z⟩ =>
  gO (ho f W i U x y v u _ T r1 l Z) λd w ⟨z,p,o,M,k,e,n⟩=>?_)) S
 subst e;cases M;refine wpAny_truthy_bool ?_;cases k with
 |false =>
  obtain⟨k',E,G⟩:=n;cases E;exact ite_ff ⟨p,o,G⟩
 |true =>
  refine ite_tt (test_last (gO (C f w i p _ o n) λA s4 ⟨V,R,P,B,q⟩=>gO (j f s4 i R y V u A _ P l B q) λd' s5 ⟨z2,D,I5,K,k2,N,O⟩=>?_));subst N;cases K;exact wpAny_truthy_bool ⟨D,I5,O⟩
def aa9(K:af)(x:V)(H:Hp)(k:Bool):Prop :=
 match x with
 |.fk=>k=false
 |.bl b=>k=b
 |.int i=>k=(i != 0)
 |.str y=>y.length<=sizeLine/\k=((y.length:Int) != 0)
 |.Rg y=>y.size<=sizeLine/\k=((y.size:Int) != 0)
 |.ref p=>(∃xs,bS K H p xs/\k=!xs.isEmpty)∨(∃xs,cN K H p xs/\k=!xs.isEmpty)∨∃kvs,H p=some (.dK kvs)/\k=!kvs.isEmpty
 |_=>False
theorem PM{a:Type}{kvs:List (a×V)}{vs:List (a×Value)}(r:KV kvs vs):(!vs.isEmpty)=!kvs.isEmpty:=by
 cases r <;> rfl
theorem G5{xs:List V}{a:List Value}(r:bY xs a):(!a.toArray.isEmpty)=!xs.isEmpty:=by
 cases r <;> simp
theorem G6:(sizeLine:Nat)<2^63:=by rw[sizeLine_eq];decide
theorem aba:ahe X (λx H Q=>∃k,aa9 X.K x H k/\Q k H):=by
 intro u s D H x v Q I g h;obtain⟨k,e,q⟩:=h;have E:=G6;have C:sizeLine=16777216:=sizeLine_eq;cases x with
 |fk =>
  cases g;have a:k=false:=e;subst a;exact truthy_none ⟨H,I,q⟩
 |bl b =>
  cases g;have a:k=b:=e;subst a;exact wpAny_truthy_bool ⟨H,I,q⟩
 |int i =>
  obtain⟨t,rfl⟩:=g;have a:k=(i != 0):=e;subst a;exact PySem.P.truthy_int ⟨H,I,q⟩
 |str y =>
  obtain⟨t,rfl⟩:=g;obtain⟨B,a⟩:y.length<=sizeLine/\k=((y.length:Int) != 0):=e;subst a;exact PySem.P.truthy_str ∅ ⟨H,I.tok _,q⟩
 |Rg y =>
  obtain⟨t,rfl⟩:=g;obtain⟨B,a⟩:y.size<=sizeLine/\k=((y.size:Int) != 0):=e;subst a;exact PySem.W.truthy_bytes ∅ ⟨H,I.tok _,q⟩
 |ref p =>
  cases g;have a:(∃f,bS X.K H p f/\k=!f.isEmpty)∨(∃f,cN X.K H p f/\k=!f.isEmpty)∨∃c,H p=some (.dK c)/\k=!c.isEmpty:=e;rcases a with ⟨f,j,a⟩|⟨f,j,a⟩|⟨c,j,a⟩
  ·subst a
   obtain⟨n,r,o,z⟩:=I.list j;have d:=r.length;exact wpAny_truthy_list o.isList (by simp only[aL];lia) ⟨H,I.tok _,by rw[G5 r];exact q⟩
  ·subst a
   obtain⟨n,r,o,z⟩:=I.tuple j;have d:=r.length;exact truthy_tuple o (by simp only[aL];lia) ⟨H,I.tok _,by rw[G5 r];exact q⟩
  ·subst a
   obtain⟨z,A,l,r,m⟩:c.length<=sizeLine/\(p==sysModules)=false/\∃l,KV c l/\s.heap.DictOf (ia X.prog X.w) p l:=I.hok p _ j;have d:c.length=l.length:=Paired.length r;exact wpAny_truthy_dict A m ∅ ⟨H,I.tok _,by rw[PM r];exact q⟩
 |_=>exact (show False from e).elim
theorem Ve(m:PE X a ta)(l:∀b,isTrue a X.env b=(do let v <- b;standAt a.pos;holding [v] (truthy v))) :
 PT X a (λd H Q=>ta d H λx e=>∃k,aa9 X.K x e k/\Q k e):=by
 intro c s d H Q I h;exact isTrue_plain (gO (m c s d H _ I h) λv j ⟨x,i,g,n,f⟩=>aba c j d i x v Q g n f) (l _)
theorem vals1{x:V}{us:List Value}(r:bY [x] us):∃u,us=[u]/\RelV x u:=by
 cases r with
 |cons b a=>cases a;exact⟨_,rfl,b⟩
end
structure PN(h:Heap)(x dx C:Addr)(mA:Str->Option Value):Prop where
 obj:h.get? x=some (jK C dx)
 ns:h.Ns1 dx mA
 ne:dx≠x
theorem Km{h:Heap}{g:Addr}{f:Str->Option Value}(n:h.Ns1 g f):∃c,h.get? g=some c/\∀name,PySem.W.lookIn name c=some (f name):=by
 obtain⟨o,d,r,p,l,i,_,k⟩:=n;refine⟨o,p,λname=>?_⟩;have e:=k name;unfold nsFind findBy at e;rw[<- Array.find?_toList] at e;unfold PySem.W.lookIn;rw[l];dsimp only;split
 ·rename_i y q
  rw[q] at e;exact fy some e
 ·rename_i q
  rw[q] at e;have a:d.toList.any (·.refKey)=false:=by
   rw[List.any_eq_false];intro y m;obtain⟨z,t,b⟩:=i y (Array.mem_toList_iff.mp m);simp[DictEntry.refKey,b]
  have j:¬d.toList.any (·.refKey)=true:=by rw[a];exact aB
  rw[eH j];exact fy some e
theorem PN.look{h:Heap}{x c C:Addr}{b:Str->Option Value}(I:PN h x c C b):∃a,PySem.W.InstAt h x (jK C c) C (some a)/\∀name,PySem.W.lookIn name a=some (b name) :=
 let ⟨a,e,d⟩:=Km I.ns
 ⟨a,⟨I.obj,rfl,rfl,e⟩,d⟩
section
variable{prog:Program}{w:World}{A:Around}{E:Value->Shared->Prop}{s:Shared}{K:af}{x dx C f:Addr}{mA:Str->Option Value}{name:Str}{v:Value}
theorem get_map{a:Bool}{Q:Value->Shared->Prop}(X:K.In s.heap)(I:PN s.heap x dx C mA)(c:xu K C name=true)(hh:uS K C=true)
 (e:aH K (.ref C) name=some none) (d:mA name=some v) (b:PySem.W.handedIn v=true) (h:Q v {s with toks:=s.toks+1}) :
 wpAny (model prog w) A (getAttr (.ref x) name a) Q E s:=by
 obtain⟨g,J,f⟩:=I.look;exact PySem.W.get_value X J (PySem.W.plainGet_of c).1 (PySem.W.findObj_own hh e rfl (by rw[f,d])) b h
theorem Vf{pl:Sem Bool}{Q:Value×List Value->Shared->Prop}(X:K.In s.heap)(I:PN s.heap x dx C mA)(a:xu K C name=true)
 (e:aH K (.ref C) name=some (some (.ref f))) (d:PySem.W.isFn K (.ref f)=true) (b:mA name=none) (h:Q (.ref f,[.ref x]) s) :
 wpAny (model prog w) A (getMethod (.ref x) name pl) Q E s:=by
 obtain⟨c,J,g⟩:=I.look;exact PySem.W.method_fn X J (PySem.W.plainGet_of a).1 (PySem.W.plainGet_of a).2 e (beq_iff_eq.mp d) (by show (PySem.W.lookIn name c).map (·.isSome)=some false;rw[g,b];rfl) h
theorem XG{ns:List Str}{Q:Unit->Shared->Prop}(X:K.In s.heap)(I:PN s.heap x dx C mA)
 (k:aH K (.ref C) "__setattr__" = some (some (.builtin "object.__setattr__"))) (q:PySem.W.plainOver K C=true) (l:PySem.W.takerIn K C name=some none) (hh:uS K C=true)
 (p:PySem.Within mA ns) (hsz:ns.length<=sizeLine)
 (h:∀h',PN h' x dx C (λy=>if y=name then some v else mA y)->Heap.SameBut dx s.heap h'->Q () {s with heap:=h',toks:=s.toks+2}) :
 wpAny (model prog w) A (setAttr (.ref x) name v) Q E s:=by
 obtain⟨z,J,B⟩:=I.look;refine PySem.W.set_plain X J k (PySem.W.osa_open (s:={s with toks:=s.toks+1}) (r:=none) X J q l λb=>?_);obtain⟨t,j,g⟩:=PySem.W.any_some hh;have n:s.heap.get? x=some ⟨.ref C,some dx,.plain,#[]⟩:=I.obj;refine wpAny_bind (wpAny_pure (wpAny_bind (wpAny_bind (wpAny_loadPart n (wpAny_bind (PySem.W.Looks.here (s:={s with toks:=s.toks+1}) (PySem.W.looks_clsIn X j) ?_))))));rw[g];refine wpAny_pure (a:=some dx) (wpAny_bind (wpAny_pure (wpAny_bind ?_)));refine wpAny_nsSet1 (s:={s with toks:=s.toks+1}) I.ns λh' c d=>?_;obtain⟨u,o,m,e,f,i⟩:=c.count (PySem.Within.cons name v p);refine wpAny_bind (wpAny_lookBehind e (by rw[f];exact pastItsLine_dict (aF i (by rw[aT];lia))) ?_);exact wpAny_pure (h _ ⟨(d.2 _ (bM I.ne)).trans I.obj,c,I.ne⟩ d)
theorem Vg{R:Result->Shared->Prop}{vs:List Value}{b:List (Str×Value)}(X:K.In s.heap)(c:PySem.W.makesIn K C=true)
 (e:aH K (.ref C) "__init__" = some (some (.ref f))) (i:PySem.W.typeIn K (.ref f)=some (.type "function"))
 (h:codeAny (model prog w) (A.under (.builtin "type.__call__" ⟨.ref C::vs,b⟩)) (.call (.ref f) ⟨.ref (s.heap.objs.size+1)::vs,b⟩) (PySem.W.InitBack (s.heap.objs.size+1) R)
  {s with heap:=(s.heap.push fZ).push (jK C s.heap.objs.size)}) :
 codeAny (model prog w) A (.call (.ref C) ⟨vs,b⟩) R s:=by
 obtain⟨j,g,d,t,os⟩:=s;exact PySem.W.make_core (PySem.W.makes_of X c) (PySem.W.looks_findIn X e) (λa=>PySem.W.bind_fn X a i) (.inl rfl) h
end
noncomputable def zg(f:Str)(v:V):List (Str×V)->List (Str×V)
 |[]=>[(f,v)]
 | (g,x)::r=>if g=f then (g,v)::r else (g,x)::zg f v r
theorem Fy(f g:Str)(v:V):∀c:List (Str×V),(zg f v c).lookup g=if g=f then some v else c.lookup g
 |[]=>by
  show qx g [(f,v)]=_;by_cases h:g=f
  ·have a:(g==f)=true:=beq_iff_eq.mpr h
   simp only[qx,a,ee h]
  ·have a:(g==f)=false:=beq_eq_false_iff_ne.mpr h
   simp only[qx,a,eH h]
 | (k,x)::r=>by
  have d:=Fy f g v r;rw[show zg f v ((k,x)::r)=(if k=f then (k,v)::r else (k,x)::zg f v r) from rfl];by_cases b:k=f
  ·rw[ee b]
   by_cases h:g=k
   ·have a:(g==k)=true:=beq_iff_eq.mpr h
    simp only[qx,a,ee (h.trans b)]
   ·have a:(g==k)=false:=beq_eq_false_iff_ne.mpr h
    simp only[qx,a,eH (λe:g=f=>h (e.trans b.symm))]
  ·rw[eH b]
   by_cases h:g=k
   ·have a:(g==k)=true:=beq_iff_eq.mpr h
    simp only[qx,a,eH (λe:g=f=>b (h.symm.trans e))]
   ·have a:(g==k)=false:=beq_eq_false_iff_ne.mpr h
    simp only[qx,a];exact d
theorem Ei(f:Str)(v:V):∀b:List (Str×V),f∈(zg f v b).map (·.1)/\∀g,g∈b.map (·.1)->g∈(zg f v b).map (·.1)
 |[]=>⟨by simp[zg],λg h=>by simp at h⟩
 | (k,x)::r=>by
  obtain⟨d,c⟩:=Ei f v r;rw[show zg f v ((k,x)::r)=(if k=f then (k,v)::r else (k,x)::zg f v r) from rfl];by_cases a:k=f
  ·rw[ee a]
   subst a;exact⟨-_,λg h=>by simpa using h⟩
  ·rw[eH a]
   refine⟨?_,λg h=>?_⟩
   ·rw[bL]
    exact aN _ d
   ·rw[bL] at h ⊢
    rcases aW.mp h with e|e
    ·exact aW.mpr (.inl e)
    ·exact aN _ (c g e)
theorem Fz(f:Str)(v:V):∀b:List (Str×V),(zg f v b).length<=b.length+1
 |[]=>by simp[zg]
 | (k,x)::r=>by
  have c:=Fz f v r;rw[show zg f v ((k,x)::r)=(if k=f then (k,v)::r else (k,x)::zg f v r) from rfl];by_cases a:k=f
  ·rw[ee a,aT,aT];lia
  ·rw[eH a,aT,aT];lia
theorem Bc.some_of{v:V}{o:Option Value}(r:Bc (some v) o):∃u,o=some u/\RelV v u:=by
 cases o with
 |none=>exact (show False from r).elim
 |some u=>exact⟨u,rfl,r⟩
theorem Bc.none_of{o:Option Value}(r:Bc none o):o=none:=by
 cases o with
 |none=>rfl
 |some u=>exact (show False from r).elim
theorem SY{v:V}{u:Value}(r:RelV v u):PySem.W.handedIn u=true:=by
 cases v with
 |fk=>cases (show u=Value.none from r);rfl
 |bl b=>cases (show u=Value.bool b from r);rfl
 |int i=>obtain⟨t,e⟩:=(show ∃t,u=Value.int i t from r);cases e;rfl
 |str x=>obtain⟨t,e⟩:=(show ∃t,u=Value.str x t from r);cases e;rfl
 |Rg b=>obtain⟨t,e⟩:=(show ∃t,u=Value.bytes b t from r);cases e;rfl
 |lC b=>obtain⟨t,e⟩:=(show ∃t,u=Value.float b t from r);cases e;rfl
 |ref a=>cases (show u=Value.ref a from r);rfl
 |ty n=>cases (show u=Value.type n from r);rfl
section
variable{P:Program}{w:World}{H H':Hp}{h h':Heap}{a C dx:Addr}{fs fs':List (Str×V)}
theorem GO(c:zl P w H h)(e:H a=some (.ins C dx fs)):∃b,PN h a dx C b/\(∀f,Bc (fs.lookup f) (b f))/\PySem.Within b (fs.map (·.1))/\fs.length<=1000/\H dx=some (.own a):=by
 obtain⟨d,z,g,i,b,n,r,q⟩:=(show fH P w H h a (.ins C dx fs) from c a _ e);exact⟨b,⟨i,n,g⟩,r,q,z,d⟩
end
structure JC(K:af)(C:Addr):Prop where
 pg:xu K C Str.empty=true
 hd:uS K C=true
 po:PySem.W.plainOver K C=true
 sa:aH K (.ref C) "__setattr__" = some (some (.builtin "object.__setattr__"))
theorem JC.get{K:af}{C:Addr}(c:JC K C)(f:Str):xu K C f=true:=c.pg
def dw(K:af)(C:Addr)(f:Str):Prop:=aH K (.ref C) f=some none
theorem dw.adY{K:af}{C:Addr}{f:Str}(n:dw K C f):PySem.W.takerIn K C f=some none:=by
 unfold PySem.W.takerIn;rw[show aH K (.ref C) f=some none from n];rfl
structure Lw(K:af)(C:Addr)(m:Str)(f:Addr):Prop where
 at_:aH K (.ref C) m=some (some (.ref f))
 fn:PySem.W.isFn K (.ref f)=true
 kp:dR K (.ref f)=true
section
variable{X:Cx}{pins:List (Addr×Obj)}{σ:St}{H:Hp}{s:Shared}{a C dx:Addr}{fs:List (Str×V)}{f:Str}{v:V}{A:Around}{E:Value->Shared->Prop}
theorem PR{b:Bool}{Q:Value->Shared->Prop}(I:Inv X pins σ H s)(e:H a=some (.ins C dx fs))(c:JC X.K C)(n:dw X.K C f)(l:fs.lookup f=some v)
 (h:∀u s',Inv X pins σ H s'->RelV v u->Q u s'):wpAny (model X.prog X.w) A (getAttr (.ref a) f b) Q E s:=by
 obtain⟨g,O,r,_,_,_⟩:=GO I.hok e;obtain⟨u,i,d⟩:=Bc.some_of (v:=v) (o:=g f) (by rw[<- l];exact r f);exact get_map I.BL O (c.get f) c.hd n i (SY d) (h u _ (I.tok _) d)
theorem G7{m:Str}{g:Addr}{pl:Sem Bool}{Q:Value×List Value->Shared->Prop}(I:Inv X pins σ H s)(e:H a=some (.ins C dx fs))(c:JC X.K C)(k:Lw X.K C m g)(l:fs.lookup m=none)
 (h:Q (.ref g,[.ref a]) s):wpAny (model X.prog X.w) A (getMethod (.ref a) m pl) Q E s:=by
 obtain⟨d,O,r,_,_,_⟩:=GO I.hok e;have b:d m=none:=Bc.none_of (by rw[<- l];exact r m);exact Vf I.BL O (c.get m) k.at_ k.fn b h
theorem PU{y:V}{u:Value}{Q:Unit->Shared->Prop}(I:Inv X pins σ H s)(e:H a=some (.ins C dx fs))(c:JC X.K C)(n:dw X.K C f)(hl:fs.length<1000)(p:RelV y u)
 (h:∀s',Inv X pins σ (upd H a (.ins C dx (zg f y fs))) s'->Q () s'):wpAny (model X.prog X.w) A (setAttr (.ref a) f u) Q E s:=by
 obtain⟨j,O,r,i,_,k⟩:=GO I.hok e;have B:(fs.map (·.1)).length<=sizeLine:=by rw[ah,sizeLine_eq];lia
 refine XG I.BL O c.sa c.po n.adY c.hd i B λm d D=>h _ ?_;have hd:∃o,m.get? dx=some o:=let ⟨o,_,_,l,_⟩:=d.ns;⟨o,l⟩;refine I.write (x:=a) (e:=dx) (by rw[e];exact lG) (.inr k) (λb q v z=>(D.2 b v).trans z) hd ?_;refine⟨by rw[aC O.ne];exact k,?_,O.ne,d.obj,_,d.ns,λg=>?_,λg t=>?_⟩
 ·have:=Fz f y fs;lia
 ·show Bc ((zg f y fs).lookup g) (if g=f then some u else j g)
  rw[Fy];by_cases q:g=f
  ·rw[ee q,ee q];exact p
  ·rw[eH q,eH q];exact r g
 ·by_cases q:g=f
  ·rw[q];exact (Ei f y fs).1
  ·refine (Ei f y fs).2 g (i g λz=>t ?_)
   show (if g=f then some u else j g)=none;rw[eH q];exact z
theorem Inv.made(I:Inv X pins σ H s):Inv X pins σ (upd (upd H s.heap.objs.size (.own (s.heap.objs.size+1))) (s.heap.objs.size+1) (.ins C s.heap.objs.size []))
 {s with heap:=(s.heap.push fZ).push (jK C s.heap.objs.size)}:=by
 have d:(s.heap.push fZ).get? s.heap.objs.size=some fZ:=Heap.get?_push_size s.heap rfl;have h:((s.heap.push fZ).push (jK C s.heap.objs.size)).get? (s.heap.objs.size+1)=some (jK C s.heap.objs.size):=by
  have:=Heap.get?_push_size (s.heap.push fZ) (o:=jK C s.heap.objs.size) rfl
  rwa [Heap.size_push] at this
 have g:(s.heap.push fZ).Ns s.heap.objs.size (λ_=>none):=⟨fZ,#[],_,d,rfl,(λe i=>eL i (-_)),λ_=>rfl⟩;have f:=I.laid (a:=s.heap.objs.size) (o:=.own (s.heap.objs.size+1)) (h':=s.heap.push fZ) (t':=s.toks) (λb u q=>Heap.get?_push_of_some _ q) (av _) ⟨_,d⟩;refine f.laid (a:=s.heap.objs.size+1) (o:=.ins C s.heap.objs.size []) (t':=s.toks) (λb u q=>Heap.get?_push_of_some _ q) (Nat.le_of_eq (Heap.size_push _ _)) ?_;have c:s.heap.objs.size≠s.heap.objs.size+1:=aZ (xw _);refine⟨by rw[aC c,au],aR _,c,h,λ_=>none,(Heap.Ns1.of_empty g).at λo q=>Heap.get?_push_of_some _ q,λ_=>lG,λy j=>eL rfl j⟩
theorem XH{prog:Program}{w:World}{env:Env}{e:Expr}{f:Str}{b:Pos}{s:Shared}{Q:Value->Shared->Prop}(c:attributeBase e f env (eval e env)=eval e env)
 (h:wpAny (model prog w) A (eval e env) (λo a=>wpAny (model prog w) A (getAttr o f true) Q E a) E s):wpAny (model prog w) A (eval (.Attribute e f b) env) Q E s :=
 Attribute_any_ h (by rw[arm_eval_Attribute,c])
end
inductive adZ(K:af)(f:Str)(Q:VK)(x:V)(H1:Hp):Prop
 |mk (a C dx:Addr) (fs:List (Str×V)) (v:V) (h1:x=.ref a) (h2:H1 a=some (.ins C dx fs)) (h3:JC K C) (h4:dw K C f) (h5:fs.lookup f=some v) (h6:Q v H1):adZ K f Q x H1
def G8(K:af)(ta:TE)(f:Str):TE:=λσ H Q=>ta σ H (adZ K f Q)
def ahg(K:af)(ta tv:TE)(f:Str):TS:=λD σ H=>tv σ H λy H1=>ta σ H1 λx H2=>∃a C dx fs,x=.ref a/\H2 a=some (.ins C dx fs)/\JC K C/\dw K C f/\fs.length<1000 /\
 D.nx σ (upd H2 a (.ins C dx (zg f y fs)))
section
variable{X:Cx}{o e value:Expr}{f:Str}{pos pos' tpos:Pos}{ta tv:TE}
theorem aU(o:PE X e ta)(p:attributeBase e f X.env (eval e X.env)=eval e X.env):PE X (.Attribute e f pos) (G8 X.K ta f):=by
 intro b s t H Q I h;refine XH p (gO (o b s t H _ I h) λu y ⟨x,j,i,k,a,C,A,w,v,d,g,c,n,l,q⟩=>?_);subst d;obtain rfl:u=Value.ref a:=k;exact PR i g c n l λB z m r=>⟨v,j,m,r,q⟩
theorem fJ(B:PE X o ta)(A:PE X value tv)(m:swapsWith value (some (.Attribute o f pos')) pos.line X.env=pure false):PS X (.Assign [.Attribute o f pos'] value pos) (ahg X.K ta tv f):=by
 intro b s d H D I h;refine plainObj_wpAny_Assign_Attribute (gO (A b s d H _ I h) λu r ⟨y,k,j,p,q⟩=>gO (B b r d k _ j q) λg J ⟨x,G,v,t,a,C,L,F,e,i,c,n,l,z⟩=>?_) m;subst e;obtain rfl:g=Value.ref a:=t;exact PU v i c n l p λE w=>⟨d,_,w,z⟩
end
section
variable{X:Cx}{pins:List (Addr×Obj)}{σ:St}{H:Hp}{s:Shared}{A:Around}{E:Value->Shared->Prop}{Q:Value->Shared->Prop}{c:Value}{b:Bool}
inductive Ej(K:af)(H:Hp):V->Value->Prop where
 |fk:Ej K H .fk (.type "NoneType")
 |bl (x:Bool):Ej K H (.bl x) (.type "bool")
 |int (i:Int):Ej K H (.int i) (.type "int")
 |str (x:Str):Ej K H (.str x) (.type "str")
 |lC (x:UInt64):Ej K H (.lC x) (.type "float")
 |lst {a:Addr} {xs:List V} (e:H a=some (.lst xs)):Ej K H (.ref a) (.type "list")
 |AM {a:Addr} {o:Obj} {xs:List V} (e:H a=some (.AM o (.lst xs))):Ej K H (.ref a) (.type "list")
 |tup {a:Addr} {xs:List V} (e:H a=some (.tup xs)):Ej K H (.ref a) (.type "tuple")
 |dK {a:Addr} {kvs:List (Key×V)} (e:H a=some (.dK kvs)):Ej K H (.ref a) (.type "dict")
 |dT {a:Addr} {kvs:List (List Key×V)} (e:H a=some (.dT kvs)):Ej K H (.ref a) (.type "dict")
 |ins {a C dx:Addr} {fs:List (Str×V)} (e:H a=some (.ins C dx fs)) (cl:JC K C) (ha:aH K (.ref C) "__class__" = some (some (.builtin "object.__class__")))
  (hn:PySem.W.specialIn K (.builtin "object.__class__") "__get__" = some (some (.builtin "getset_descriptor.__get__"))) (htk:PySem.W.takesIn K (.builtin "object.__class__")=some true)
  (hm:PySem.W.mroIn K C (.type "object")=some true):Ej K H (.ref a) (.ref C)
theorem S1{x:V}{u t:Value}(I:Inv X pins σ H s)(f:RelV x u)(G:Ej X.K H x t)(e:PySem.W.kitOne X.K t c=some b)(h:∀tk,Q (.bool b) {s with toks:=tk}) :
 wpAny (model X.prog X.w) A (call (.builtin "isinstance") [u,c]) Q E s:=by
 cases G with
 |fk=>cases (show u=Value.none from f);exact dP PySem.W.kitx_none I.BL lG e (λz=>nomatch z) h
 |bl y=>cases (show u=Value.bool y from f);exact dP PySem.W.kitx_bool I.BL lG e (λz=>nomatch z) h
 |int i=>obtain⟨t,q⟩:=(show ∃t,u=Value.int i t from f);cases q;exact dP PySem.W.kitx_int I.BL lG e (λz=>nomatch z) h
 |str y=>obtain⟨t,q⟩:=(show ∃t,u=Value.str y t from f);cases q;exact dP PySem.W.kitx_str I.BL lG e (λz=>nomatch z) h
 |lC y=>obtain⟨t,q⟩:=(show ∃t,u=Value.float y t from f);cases q;exact dP PySem.W.kitx_float I.BL lG e (λz=>nomatch z) h
 |@lst a k d =>
  cases (show u=Value.ref a from f);obtain⟨_,_,n,_,g⟩:=(show fH X.prog X.w H s.heap a (.lst k) from I.hok a _ d);exact dP PySem.W.kitx_list I.BL ⟨_,g,rfl⟩ e (λz=>nomatch z) h
 |@AM a B k d =>
  cases (show u=Value.ref a from f);obtain⟨_,_,_,n,_,g⟩:=(show fH X.prog X.w H s.heap a (.AM B (.lst k)) from I.hok a _ d);exact dP PySem.W.kitx_list I.BL ⟨_,g,rfl⟩ e (λz=>nomatch z) h
 |@tup a k d =>
  cases (show u=Value.ref a from f);obtain⟨_,_,_,p⟩:=(show fH X.prog X.w H s.heap a (.tup k) from I.hok a _ d);obtain⟨o,g,l,_⟩:=p;exact dP PySem.W.kitx_tuple I.BL ⟨o,g,l⟩ e (λz=>nomatch z) h
 |@dK a j d =>
  cases (show u=Value.ref a from f);obtain⟨_,_,N,_,p⟩:=(show fH X.prog X.w H s.heap a (.dK j) from I.hok a _ d);obtain⟨o,D,r,g,l,_⟩:=p;exact dP PySem.W.kitx_dict I.BL ⟨o,g,l.1⟩ e (λz=>nomatch z) h
 |@dT a j d =>
  cases (show u=Value.ref a from f);obtain⟨_,_,k,_,o,D,r,g,l,_⟩:=(show fH X.prog X.w H s.heap a (.dT j) from I.hok a _ d);exact dP PySem.W.kitx_dict I.BL ⟨o,g,l.1⟩ e (λz=>nomatch z) h
 |@ins a C S P d cl L v m F =>
  cases (show u=Value.ref a from f);obtain⟨R,O,_⟩:=GO I.hok d;obtain⟨M,J,_⟩:=O.look;exact dP (PySem.W.kitx_own (cl.get _) cl.hd L v m F) I.BL J e (λz=>nomatch z) h
end
structure jT(k:Nat)(A:Around):Prop where
 hd:A.handled=none
 dp:A.depth+3*k+5<recursionLimit
 un:A.units+16*k+200<cLine
theorem jT.mono{j k:Nat}{A:Around}(r:jT k A)(h:j<=k):jT j A:=⟨r.hd,by have:=r.dp;lia,by have:=r.un;lia⟩
theorem jT.deeper{k:Nat}{A:Around}(r:jT (k+1) A)(env:Env):jT k (A.deeper env) :=
 ⟨r.hd,by have:=r.dp;show A.depth+1+3*k+5<_;lia,by have:=r.un;show A.units+3+16*k+200<_;lia⟩
theorem PV{A:Around}{C:Addr}{us:List Value}{a:List (Str×Value)}:(A.under (.builtin "type.__call__" ⟨.ref C::us,a⟩)).depth=A.depth+1:=by
 first|rfl|simp[Around.under,Code.weight,Code.isCreation,Code.isGuard,Code.isCaller,Code.frames,Code.isFrame,guardIds]
theorem PX{A:Around}{C:Addr}{us:List Value}{a:List (Str×Value)}:(A.under (.builtin "type.__call__" ⟨.ref C::us,a⟩)).units=A.units+1:=by
 first|rfl|simp[Around.under,Code.cUnits,Code.frames,Code.isFrame]
theorem jT.make{k:Nat}{A:Around}(r:jT (k+1) A)(C:Addr)(us:List Value)(a:List (Str×Value)):jT k (A.under (.builtin "type.__call__" ⟨.ref C::us,a⟩)) :=
 ⟨r.hd,by have:=r.dp;rw[PV];lia,by have:=r.un;rw[PX];lia⟩
theorem jT.depth{k:Nat}{A:Around}(r:jT k A):A.depth<recursionLimit:=by have:=r.dp;lia
theorem jT.units{k:Nat}{A:Around}(r:jT k A):A.units+64<cLine:=by have:=r.un;lia
def C6:TA:=λ_ H Q=>Q [] H
def gC(ta:TE)(tr:TA):TA:=λσ H Q=>ta σ H λx H1=>tr σ H1 λxs H2=>Q (x::xs) H2
section
variable{X:Cx}{e:Expr}{es:List Expr}{te:TE}{t:TA}{pos:Pos}
theorem gf:PA X [] C6:=λ_ _ _ _ H Q I h=>Calls.spliced_nil ⟨[],H,I,.nil,h⟩
theorem XI(p:PE X e te)(l:PA X es t)(j:starEach (e::es) X.env=(false,eval e X.env)::starEach es X.env:=by rfl):PA X (e::es) (gC te t):=by
 intro pos a s b H Q I h;rw[j];show wpAny _ _ (spliced ((false,eval e X.env)::backTo pos (starEach es X.env))) _ _ s;refine Calls.spliced_cons (gO (p a s b H _ I h) λu k ⟨x,i,g,q,c⟩=>?_);exact gO (l pos a k b i _ g c) λr v ⟨f,n,m,d,o⟩=>⟨x::f,n,m,.cons q d,o⟩
def ahh(t:TA):TE:=λσ H Q=>t σ H λxs H1=>xs.length<=sizeLine/\∀p,H1 p=none->Q (.ref p) (upd H1 p (.tup xs))
def ahi(t:TA):TE:=λσ H Q=>t σ H λxs H1=>xs.length<=sizeLine/\∀p,H1 p=none->Q (.ref p) (upd H1 p (.lst xs))
theorem gD{x1}(h:PA X es t):PE X (.Tuple es x1 pos) (ahh t):=by
 intro a s k H Q I hq;refine wpAny_Tuple_spliced (gO (h pos a s k H _ I hq) λi c ⟨j,f,d,r,z,q⟩=>⟨by rw[<- r.length];exact z,?_⟩);have g:f c.heap.objs.size=none:=d.hok.fresh (av _);refine⟨.ref c.heap.objs.size,upd f c.heap.objs.size (.tup j),d.laid (t':=c.toks) (λb u e=>Heap.get?_push_of_some _ e) (av _) ?_,rfl,q _ g⟩;exact⟨z,i,r,⟨_,Heap.get?_push_size _ rfl,rfl,_,rfl⟩⟩
theorem gE(h:PA X es t):PE X (.List es pos) (ahi t):=by
 intro a s k H Q I hq;refine wpAny_List_spliced (gO (h pos a s k H _ I hq) λi c ⟨j,f,d,r,z,q⟩=>⟨by rw[<- r.length];exact z,?_⟩);have g:f c.heap.objs.size=none:=d.hok.fresh (av _);refine⟨.ref c.heap.objs.size,upd f c.heap.objs.size (.lst j),d.laid (t':=c.toks) (λb u e=>Heap.get?_push_of_some _ e) (av _) ?_,rfl,q _ g⟩;exact⟨z,i,0,r,Heap.get?_push_size _ rfl⟩
end
abbrev Sp:=List V->Hp->VK->XK->Prop
abbrev S2:=List Env->Hp->Shared->XK->Value->Shared->Prop
structure PY(P:Program)(w:World)(K:af)(mg:Str->Option Value)(base:Heap)(A:Around)(outer:List Env)(s:Shared)(H:Hp):Prop where
 frames:A.frames=some outer
 mod:Mod K mg base
 bs:∀b o,base.get? b=some o->s.heap.get? b=some o/\H b=none
 US:base.objs.size<=s.heap.objs.size
 CZ:s.heap.FunFrames base outer
 ZJ:∀b∈frs outer,H b=none
 hok:zl P w H s.heap
 bare:AllBare s.gens
def CE(outer:List Env)(P:Program)(w:World)(H:Hp)(s:Shared)(Q:VK)(u:Value)(s':Shared):Prop :=
 ∃v H',s'.os=s.os/\AllBare s'.gens/\Un (frs outer) [] H H' s.heap s'.heap/\zl P w H' s'.heap/\RelV v u/\Q v H'
def CR(CX:S2)(outer:List Env)(P:Program)(w:World)(H:Hp)(s:Shared)(Q:VK)(E:XK)(r:Result)(s':Shared):Prop :=
 match r with
 |.ok (.ret u)=>CE outer P w H s Q u s'
 |.ok _=>False
 |.error e=>CX outer H s E e s'
structure ck(P:Program)(w:World)(K:af)(mg:Str->Option Value)(base:Heap)(CX:S2)(k:Nat)(f:Addr)(fd:FuncData)(ps:List Str)(sp:Sp):Prop where
 len:∀vs H Q E,sp vs H Q E->vs.length=ps.length
 run:∀(A:Around) (outer:List Env) (s:Shared) (H:Hp) (args:Args) (us:List Value) (vs:List V) (Q:VK) (E:XK),jT k A->PY P w K mg base A outer s H->BindsTo s fd args (ps.zip us)->bY vs us->sp vs H Q E ->
  codeAny (model P w) A (.call (.ref f) args) (CR CX outer P w H s Q E) s
theorem PY.make{P:Program}{w:World}{K:af}{b:Str->Option Value}{base:Heap}{A:Around}{a:List Env}{s:Shared}{H:Hp}(e:PY P w K b base A a s H)(C:Addr)(us:List Value)(c:List (Str×Value)) :
 PY P w K b base (A.under (.builtin "type.__call__" ⟨.ref C::us,c⟩)) a s H:=⟨by first|exact e.frames|(simpa [Around.under,Code.envs,Code.isFrame,pushEnvs] using e.frames),e.mod,e.bs,e.US,e.CZ,e.ZJ,e.hok,e.bare⟩
section
variable{X:Cx}{pins:List (Addr×Obj)}{σ:St}{H:Hp}{s s':Shared}
theorem Inv.ad0(I:Inv X pins σ H s):PY X.prog X.w X.K X.mg X.base X.A X.stack s H :=
 ⟨I.ok.frames,I.ok.mod,I.bs,aF I.ok.US I.sz,I.stack,I.Lq,I.hok,I.bare⟩
theorem Inv.after{Q:VK}{u:Value}(I:Inv X pins σ H s)(h:CE X.stack X.prog X.w H s Q u s'):EP X pins σ Q u s':=by
 obtain⟨v,i,os,a,j,e,r,q⟩:=h;obtain⟨f,g,d,t,c⟩:=s';obtain rfl:c=s.os:=os;exact⟨v,i,I.call (h':=f) (g':=g) (d':=d) (t':=t) (ch:=[]) j e a (λb z=>eL z (-_)),r,q⟩
end
def ZQ(sp:Sp)(BR:List V)(E:XK)(t:TA):TE:=λσ H Q=>t σ H λvs H1=>sp (vs++BR) H1 Q E
inductive ZR(C:Addr)(m:Str)(sp:Sp)(BR:List V)(E:XK)(t:TA)(σ:St)(Q:VK)(x:V)(H1:Hp):Prop
 |mk (a dx:Addr) (fs:List (Str×V)) (h1:x=.ref a) (h2:H1 a=some (.ins C dx fs)) (h3:fs.lookup m=none) (h4:t σ H1 λvs H2=>sp (x::(vs++BR)) H2 Q E):ZR C m sp BR E t σ Q x H1
def FA(C:Addr)(m:Str)(sp:Sp)(BR:List V)(E:XK)(ta:TE)(t:TA):TE:=λσ H Q=>ta σ H (ZR C m sp BR E t σ Q)
def Vh(C:Addr)(sp:Sp)(BR:List V)(E:XK)(t:TA):TE:=λσ H Q=>t σ H λvs H1=>∀x dx,H1 x=none->H1 dx=none->dx≠x ->
 sp (.ref x::(vs++BR)) (upd (upd H1 dx (.own x)) x (.ins C dx [])) (λv H2=>v=.fk/\Q (.ref x) H2) E
def Binds(K:af)(fd:FuncData)(ps:List Str)(ds:List Value):Prop :=
 ∀(s:Shared) (us:List Value),K.In s.heap->(us++ds).length=ps.length->BindsTo s fd ⟨us,[]⟩ (ps.zip (us++ds))
theorem Binds.all{K:af}{a:FuncData}{ps:List Str}(h:∀us:List Value,us.length=ps.length->bindArgs a ⟨us,[]⟩=pure (ps.zip us)):Binds K a ps []:=λs us _ b=>by
 rw[cW] at b ⊢;exact .of_eq (h us b)
def sr(CX:S2)(X:Cx)(E:XK):Prop:=∀(pins:List (Addr×Obj)) (σ:St) (H:Hp) (s:Shared) (e:Value) (s':Shared),Inv X pins σ H s->CX X.stack H s E e s'->X.xe e s'
section
variable{X:Cx}{CX:S2}{k:Nat}{f C:Addr}{fd:FuncData}{ps:List Str}{sp:Sp}{BR:List V}{ds:List Value}{E:XK}{x m:Str}{p pos apos:Pos}{e o:Expr}{es:List Expr}{ta:TE}{t:TA}
theorem Lx{a:List (Addr×Obj)}{b:St}{H:Hp}{s:Shared}{Q:VK}{us:List Value}{vs:List V}(F:ck X.prog X.w X.K X.mg X.base CX k f fd ps sp)(g:jT k X.A)(j:Binds X.K fd ps ds)(l:bY BR ds)(i:sr CX X E)
 (I:Inv X a b H s) (r:bY vs us) (h:sp (vs++BR) H Q E):wpAny (model X.prog X.w) X.A (call (.ref f) us) (EP X a b Q) X.xe s:=by
 have c:bY (vs++BR) (us++ds):=r.append l;have n:(us++ds).length=ps.length:=by rw[<- c.length];exact F.len _ _ _ _ h
 refine wpAny_call (codeAny_mono (F.run X.A X.stack s H ⟨us,[]⟩ (us++ds) (vs++BR) Q E g I.ad0 (j s us I.BL n) c h) λr d hq=>?_);cases r with
 |error e=>exact i a b H s e d I hq
 |ok m =>
  cases m with
  |ret u=>exact I.after hq
  |next=>exact jS hq
  |brk=>exact jS hq
  |cont=>exact jS hq
theorem AN(F:ck X.prog X.w X.K X.mg X.base CX k f fd ps sp)(j:jT k X.A)(i:Gl X x)(l:X.mg x=some (.ref f))(g:dR X.K (.ref f)=true)(o:Binds X.K fd ps ds)(v:bY BR ds)(n:sr CX X E)
 (u:PA X (e::es) t) (c:(x==("__debug__" : Str))=false:=by decide) (m:starEach (e::es) X.env=(false,eval e X.env)::starEach es X.env:=by rfl) (b:(backTo pos (starEach es X.env)).any (·.1)=false:=by rfl) :
 PE X (.Call (.Name x p) (e::es) [] pos) (ZQ sp BR E t):=by
 intro a s y H Q I h;refine wpAny_Call_Name_kw (C1 I i l ?_ c);refine PySem.W.callWith_K (h₀:=X.base) I.ok.mod.kF g (gO (u pos a s y H _ I h) λz D ⟨B,C,d,r,q⟩=>⟨d.BL,?_⟩) m b;exact Lx F j o v n d r q
theorem pJ{pl:Sem Bool}(L:PE X o ta)(c:JC X.K C)(hm:Lw X.K C m f)(F:ck X.prog X.w X.K X.mg X.base CX k f fd ps sp)(G:jT k X.A)(N:Binds X.K fd ps ds)(R:bY BR ds)(M:sr CX X E)(P:PA X (e::es) t)
 (g:starEach (e::es) X.env=(false,eval e X.env)::starEach es X.env:=by rfl) (d:(backTo pos (starEach es X.env)).any (·.1)=false:=by rfl)
 (B:eval (.Call (.Attribute o m apos) (e::es) [] pos) X.env=(do
  let i <- eval o X.env
  standAt apos.atName
  let (f,first) <- holding [i] (getMethod i m pl)
  callWith pos f first (backTo pos (starEach (e::es) X.env)) (backToKw pos (keywordEach [] X.env))):=by rfl) :
 PE X (.Call (.Attribute o m apos) (e::es) [] pos) (FA C m sp BR E ta t):=by
 intro b s p H Q I h;refine PySem.W.methodCall_KW (pl:=pl) (gO (L b s p H _ I h) λu D ⟨x,z,j,J,a,V,S,v,y,l,q⟩=>?_) B;subst v;obtain rfl:u=Value.ref a:=J;refine G7 j y c hm l ?_;refine PySem.W.callWith_K (first:=[.ref a]) (h₀:=X.base) I.ok.mod.kF hm.kp (gO (P pos b D p z _ j q) λus U ⟨vs,T,n,r,O⟩=>⟨n.BL,?_⟩) g d;exact Lx (us:=.ref a::us) (vs:=.ref a::vs) F G N R M n (.cons rfl r) O
theorem kM{pl:Sem Bool}(r:PE X o ta)(c:JC X.K C)(hm:Lw X.K C m f)(F:ck X.prog X.w X.K X.mg X.base CX k f fd ps sp)(n:jT k X.A)(v:Binds X.K fd ps ds)(y:bY BR ds)(t:sr CX X E)
 (j:eval (.Call (.Attribute o m apos) [] [] pos) X.env=(do
  let e <- eval o X.env
  standAt apos.atName
  let (f,first) <- holding [e] (getMethod e m pl)
  callWith pos f first (backTo pos (starEach [] X.env)) (backToKw pos (keywordEach [] X.env))):=by rfl) :
 PE X (.Call (.Attribute o m apos) [] [] pos) (FA C m sp BR E ta C6):=by
 intro b s z H Q I h;refine PySem.W.methodCall_KW (pl:=pl) (gO (r b s z H _ I h) λu G ⟨x,D,d,p,a,J,B,g,i,l,q⟩=>?_) j;subst g;obtain rfl:u=Value.ref a:=p;refine G7 d i c hm l ?_;exact PySem.W.callWith_K0 (first:=[.ref a]) d.BL hm.kp (Lx (us:=[.ref a]) (vs:=[.ref a]) F n v y t d (.cons rfl .nil) q)
structure Mk(K:af)(C f:Addr):Prop where
 makes:PySem.W.makesIn K C=true
 init:aH K (.ref C) "__init__" = some (some (.ref f))
 fn:PySem.W.isFn K (.ref f)=true
 kp:dR K (.ref C)=true
theorem MU{a:List (Addr×Obj)}{g:St}{H:Hp}{s:Shared}{Q:VK}{us:List Value}{vs:List V}(M:Mk X.K C f)(F:ck X.prog X.w X.K X.mg X.base CX k f fd ps sp)(m:jT (k+1) X.A)(z:Binds X.K fd ps ds)(B:bY BR ds)
 (y:sr CX X E) (I:Inv X a g H s) (r:bY vs us)
 (h:∀x d,H x=none->H d=none->d≠x->sp (.ref x::(vs++BR)) (upd (upd H d (.own x)) x (.ins C d [])) (λv q=>v=.fk/\Q (.ref x) q) E) :
 wpAny (model X.prog X.w) X.A (call (.ref C) us) (EP X a g Q) X.xe s:=by
 have hq:=h (s.heap.objs.size+1) s.heap.objs.size (I.hok.fresh (dD _)) (I.hok.fresh (av _)) (aZ (xw _));have c:=Inv.made (C:=C) I;have i:bY (V.ref (s.heap.objs.size+1)::(vs++BR)) (Value.ref (s.heap.objs.size+1)::(us++ds)):=.cons rfl (r.append B);have G:(Value.ref (s.heap.objs.size+1)::us++ds).length=ps.length:=by
  have e:=i.length;rw[F.len _ _ _ _ hq] at e;exact e.symm
 refine wpAny_call (Vg (f:=f) I.BL M.makes M.init (beq_iff_eq.mp M.fn) (codeAny_mono (F.run _ X.stack _ _ ⟨Value.ref (s.heap.objs.size+1)::us,[]⟩ (Value.ref (s.heap.objs.size+1)::(us++ds)) _ _ E (m.make C us [])
  (c.ad0.make C us []) (z _ (Value.ref (s.heap.objs.size+1)::us) c.BL G) i hq) λr j b=>?_))
 cases r with
 |error e=>exact y a g _ _ e j c b
 |ok D =>
  cases D with
  |ret u =>
   obtain⟨v,p,t,n,l,o⟩:=c.after b;subst l;exact⟨n,⟨V.ref (s.heap.objs.size+1),p,t,rfl,o⟩⟩
  |next=>exact jS b
  |brk=>exact jS b
  |cont=>exact jS b
theorem Rn(M:Mk X.K C f)(F:ck X.prog X.w X.K X.mg X.base CX k f fd ps sp)(i:jT (k+1) X.A)(g:Gl X x)(j:X.mg x=some (.ref C))(n:Binds X.K fd ps ds)(u:bY BR ds)(m:sr CX X E)
 (o:PA X (e::es) t) (c:(x==("__debug__" : Str))=false:=by decide) (l:starEach (e::es) X.env=(false,eval e X.env)::starEach es X.env:=by rfl) (b:(backTo pos (starEach es X.env)).any (·.1)=false:=by rfl) :
 PE X (.Call (.Name x p) (e::es) [] pos) (Vh C sp BR E t):=by
 intro a s v H Q I h;refine wpAny_Call_Name_kw (C1 I g j ?_ c);refine PySem.W.callWith_K (h₀:=X.base) I.ok.mod.kF M.kp (gO (o pos a s v H _ I h) λy D ⟨z,B,d,r,q⟩=>⟨d.BL,?_⟩) l b;exact MU M F i n u m d r q
theorem Vi(M:Mk X.K C f)(F:ck X.prog X.w X.K X.mg X.base CX k f fd ps sp)(i:jT (k+1) X.A)(c:Gl X x)(d:X.mg x=some (.ref C))(g:Binds X.K fd ps ds)(j:bY BR ds)(e:sr CX X E)
 (a:(x==("__debug__" : Str))=false:=by decide):PE X (.Call (.Name x p) [] [] pos) (Vh C sp BR E C6):=by
 intro b s l H Q I h;refine wpAny_Call_Name_kw (C1 I c d ?_ a);exact PySem.W.callWith_K0 I.BL M.kp (MU (us:=[]) M F i g j e I .nil h)
end
structure aI(N P:List Str)(sc:Scope):Prop where
 kind:sc.kind=.function
 co:sc.isCoroutine=false
 gen:sc.isGenerator=false
 nd:N.Nodup
 pre:N.take P.length=P
 par:∀x∈P,sc.names.lookup x=some .local∨sc.names.lookup x=some .cell
 abb:∀y∈sc.names,y.2≠.free
theorem Kn{kindOf:Str->Option NameKind}{x:Str}:∀{a:List (Str×Value)} {m:Str->Option Value},(∀v,(x,v)∉a)->bindL kindOf a m x=m x
 |[],_,_=>rfl
 | (n,v)::r,m,h=>by
  unfold bindL;rw[Kn λw b=>h w (aN _ b)];split
  ·have:x≠n:=by rintro rfl;exact h v bJ
   simp[this]
  ·rfl
theorem Ko{kindOf:Str->Option NameKind}{x:Str}:∀{a:List (Str×Value)} {m:Str->Option Value},(∀v,(x,v)∉a)->bindC kindOf a m x=m x
 |[],_,_=>rfl
 | (n,v)::r,m,h=>by
  unfold bindC;rw[Ko λw b=>h w (aN _ b)];split
  ·rfl
  ·have:x≠n:=by rintro rfl;exact h v bJ
   simp[this]
theorem Kq{kindOf:Str->Option NameKind}{x:Str}{v:Value}:∀{P:List Str} {vs:List Value} {i:Nat} {m:Str->Option Value},P.Nodup->P[i]?=some x->vs[i]?=some v->kindOf x=some .local ->
 bindL kindOf (P.zip vs) m x=some v
 |[],_,_,_,_,h,_,_=>by simp at h
 |_::_,[],_,_,_,_,h,_=>by simp at h
 |p::P,w::vs,0,m,nd,a,b,c=>by
  simp at a b;subst a;subst b;show bindL kindOf ((p,w)::P.zip vs) m p=_;unfold bindL;rw[Kn λv d=>(fG.mp nd).1 (List.of_mem_zip d).1,ee c];simp
 |p::P,w::vs,i+1,m,nd,a,b,c=>by
  show bindL kindOf ((p,w)::P.zip vs) m x=_;unfold bindL;exact Kq (i:=i) (fG.mp nd).2 (by simpa using a) (by simpa using b) c
theorem Kr{kindOf:Str->Option NameKind}{x:Str}{v:Value}:∀{P:List Str} {vs:List Value} {i:Nat} {m:Str->Option Value},P.Nodup->P[i]?=some x->vs[i]?=some v->kindOf x≠some .local ->
 bindC kindOf (P.zip vs) m x=some v
 |[],_,_,_,_,h,_,_=>by simp at h
 |_::_,[],_,_,_,_,h,_=>by simp at h
 |p::P,w::vs,0,m,nd,a,b,c=>by
  simp at a b;subst a;subst b;show bindC kindOf ((p,w)::P.zip vs) m p=_;unfold bindC;rw[Ko λv d=>(fG.mp nd).1 (List.of_mem_zip d).1,eH c];simp
 |p::P,w::vs,i+1,m,nd,a,b,c=>by
  show bindC kindOf ((p,w)::P.zip vs) m x=_;unfold bindC;exact Kr (i:=i) (fG.mp nd).2 (by simpa using a) (by simpa using b) c
noncomputable def start(N:List Str)(vs:List V):St:=vs.map some++bD (N.length-vs.length) none
noncomputable def oN(CX:S2)(P:Program)(w:World)(K:af)(mg:Str->Option Value)(base:Heap)(N:List Str)(qual:Str)(scope:Scope)(f:Addr)(cd:Value)(A:Around)(outer:List Env)(s:Shared)(H:Hp)(E:XK):Cx where
 prog:=P
 w:=w
 K:=K
 mg:=mg
 base:=base
 A:=A.deeper (envOfC qual scope s.heap.objs.size f cd)
 N:=N
 s₀:=s
 H₀:=H
 env:=envOfC qual scope s.heap.objs.size f cd
 outer:=outer
 stack:=envOfC qual scope s.heap.objs.size f cd::outer
 ex:=[]
 calm:=true
 fn:=λ_=>true
 pn:=[]
 xe:=λe s'=>wpAny (model P w) (A.deeper (envOfC qual scope s.heap.objs.size f cd)) (leaving (envOfC qual scope s.heap.objs.size f cd) e) (λ_ s''=>CX outer H s E e s'') (λe' s''=>CX outer H s E e' s'') s'
theorem MV{a:Scope}{n:Nat}{x:Str}(h:a.names.lookup x=some .cell):∃c,(cellsFrom n a.names []).lookup x=some c:=by
 have q:=PySem.W.cellsFrom_some a.names n [] (.inl h);exact Option.isSome_iff_exists.mp q
theorem S3{CX:S2}{P:Program}{w:World}{K:af}{F:Str->Option Value}{base:Heap}{N ps:List Str}{g:Str}{scope:Scope}{f:Addr}{B:Value}{A:Around}{d:List Env}{s I:Shared}{H:Hp}{E:XK}{us:List Value}{vs:List V}
 (S:aI N ps scope) (Q:A.handled=none) (l:PY P w K F base A d s H) (hl:vs.length=ps.length) (r:bY vs us)
 (x:InCallC s s.heap.objs.size (bindL (envOfC g scope s.heap.objs.size f B).kindOf (ps.zip us) λ_=>none) (cellsFrom (s.heap.objs.size+1) scope.names []) (bindC (envOfC g scope s.heap.objs.size f B).kindOf (ps.zip us) λ_=>none) I) :
 Inv (oN CX P w K F base N g scope f B A d s H E) [] (start N vs) H I:=by
 have L:ps.length<=N.length:=by have:=fy List.length S.pre;rw[bV] at this;lia
 obtain⟨C,R,rfl,G⟩:=x.done;have m:∀b:Addr,b∉(oN CX P w K F base N g scope f B A d s H E).ex:=λb z=>eL (show b∈([]:List Addr) from z) (-_);refine⟨⟨l.mod,S.kind,rfl,rfl,av _,λy z c C j=>?_,λy hy=>?_,λy c _ h=>?_,λ_=>Q,Around.frames_deeper l.frames,.inr ⟨rfl,rfl⟩,λb z=>eL z (m b),l.bs,l.US,λb _ _=>m b,λb z=>eL z (m b),l.CZ,l.ZJ⟩,
  rfl,l.bare,Un.kept G,⟨_,x.toInCall.ns,λi y v C j T=>?_⟩,λy c h=>⟨_,x.cell y c h⟩,l.hok.fresh (av _),λy c h=>?_,λp t=>eL (show p∈([]:List (Addr×Obj)) from t) (-_),l.hok.kept G,?_⟩
 ·exact name_of_addr x.apart (qu C) (qu j)
 ·have hy:scope.names.lookup y=some .cell∨scope.names.lookup y=some .free:=hy
  rcases hy with hy|hy
  ·exact MV hy
  ·exact eL rfl (S.abb _ (qu hy))
 ·exact iB (x.above y c (qu h))
 ·have D:i<vs.length:=by
   unfold start at j;by_cases D:i<vs.length
   ·exact D
   ·rw[cu (by simpa using D)] at j
    rw[List.getElem?_replicate] at j;split at j <;> cases j
  have O:vs[i]?=some v:=by
   unfold start at j;rw[bN (by simpa using D),aj] at j;cases e:vs[i]? with
   |none=>rw[e] at j;cases j
   |some a=>rw[e] at j;cases j;rfl
  obtain⟨u,J,M⟩:=r.get O;have t:ps[i]?=some y:=by
   rw[<- S.pre,List.getElem?_take_of_lt ∅];exact C
  have o:ps.Nodup:=by rw[<- S.pre];exact S.nd.sublist (List.take_sublist _ _)
  refine⟨u,M,?_⟩;rcases S.par y (aG t) with k|k
  ·exact .inl ⟨k,Kq o t J k⟩
  ·obtain⟨c,e⟩:=MV (n:=s.heap.objs.size+1) k
   refine .inr ⟨.inl k,c,e,?_⟩;have q:=x.cell y c e;rw[Kr o t J (by show scope.names.lookup y≠_;rw[k];decide)] at q;exact q
 ·exact l.hok.fresh (iB (x.above y c (qu h)))
 ·unfold start
  show _=N.length;rw[ay,ah,List.length_replicate];lia
theorem Vj{CX:S2}{P:Program}{w:World}{K:af}{F:Str->Option Value}{base:Heap}{k:Nat}{f:Addr}{name c:Str}{g:Arguments}{h:List Stmt}{scope:Scope}{Z kV C pm d ct oc:Value}{an od:Option Addr}
 {T:Array (Option Value)} {N ps:List Str} {sp:Sp} (lk:K.lookup f=some ⟨oc,od,.func (eN name c g h scope Z kV C pm an d ct),T⟩) (G:jz K d c=true) (S:aI N ps scope)
 (B:∀vs H Q E,sp vs H Q E->vs.length=ps.length)
 (l:∀(A:Around) (a:List Env) (s:Shared) (H:Hp) (vs:List V) (Q:VK) (E:XK),jT k (A.deeper (envOfC c scope s.heap.objs.size f d))->sp vs H Q E ->
  ∃t,iX (oN CX P w K F base N c scope f d A a s H E) h t/\t {nx:=λ_ j=>Q .fk j,rt:=Q} (start N vs) H) :
 ck P w K F base CX (k+1) f (eN name c g h scope Z kV C pm an d ct) ps sp:=by
 refine⟨B,λA a s H Y us vs Q E L z hb r U=>?_⟩;have hl:=B _ _ _ _ U;have X:K.In s.heap:=z.mod.kF.keeps λb o e=>(z.bs b o e).1;have O:s.heap.NoLimit:=z.mod.nolimit.keeps λb o e=>(z.bs b o e).1;have m:∀y∈ps.zip us,scope.names.lookup y.1=some .local∨(scope.names.lookup y.1=some .cell/\((cellsFrom (s.heap.objs.size+1) scope.names []).lookup y.1).isSome=true):=λ⟨n,v⟩ hy=>by
  rcases S.par n (List.of_mem_zip hy).1 with q|q
  ·exact .inl q
  ·exact .inr ⟨q,PySem.W.cellsFrom_some _ _ _ (.inl q)⟩
 refine codeAny_call_function L.depth (X _ _ lk) rfl S.co S.gen rfl (PySem.W.codeRec_of X G) (hb _ _ _ _ ?_);refine wpAny_newFunctionEnv_cells S.kind m λenv he s1 x=>?_;subst he;refine⟨O.keeps x.toInCall.keep,codeAny_func ?_⟩;obtain⟨t,ht,hq⟩:=l A a s H vs Q E (L.deeper _) U;have I:Inv (oN CX P w K F base N c scope f d A a s H E) [] (start N vs) H s1:=S3 S L.hd z hl r x;refine wpAny_mono (ht [] s1 (start N vs) H _ I hq) (λfl R p=>?_) λe R p=>p;have D:∀{i:St} {j:Hp} {v:V} {u:Value},Inv (oN CX P w K F base N c scope f d A a s H E) [] i j R->RelV v u->Q v j->CE a P w H s Q u R :=
  λ{i j v u} J M q=>⟨v,j,J.os,J.bare,J.base,J.hok,M,q⟩
 cases fl with
 |ret u =>
  obtain⟨v,i,j,J,M,q⟩:=p;exact D J M q
 |next =>
  obtain⟨i,j,J,q⟩:=p;exact D (v:=V.fk) (u:=Value.none) J rfl q
 |brk =>
  obtain⟨_,_,_,q⟩:=p;exact jS q
 |cont =>
  obtain⟨_,_,_,q⟩:=p;exact jS q
section
variable{X:Cx}{x:Str}{p pos:Pos}{e:Expr}{es:List Expr}{t:TA}{id T:String}{r:List V->Hp->VK->Prop}
def su(r:List V->Hp->VK->Prop)(t:TA):TE:=λσ H Q=>t σ H λvs H1=>r vs H1 Q
theorem MW(g:oG X (.builtin id) r)(n:Gl X x)(q:X.mg x=none)(v:bootBuiltins x=some (.builtin id))(w:PA X (e::es) t)(i:x≠"__name__" := by decide)(c:(x==("__debug__" : Str))=false:=by decide)
 (u:starEach (e::es) X.env=(false,eval e X.env)::starEach es X.env:=by rfl) (b:(backTo pos (starEach es X.env)).any (·.1)=false:=by rfl):PE X (.Call (.Name x p) (e::es) [] pos) (su r t):=by
 intro a s d H Q I h;refine wpAny_Call_Name_kw (BN I n q v ?_ i c);exact PyProof.Rows.callWith_builtin1 (gO (w pos a s d H _ I h) λj o ⟨k,m,l,y,f⟩=>g a o d m k j Q l y f) u b
theorem iM(g:oG X (.type T) r)(n:Gl X x)(q:X.mg x=none)(v:bootBuiltins x=some (.type T))(w:PA X (e::es) t)(i:x≠"__name__" := by decide)(c:(x==("__debug__" : Str))=false:=by decide)
 (u:starEach (e::es) X.env=(false,eval e X.env)::starEach es X.env:=by rfl) (b:(backTo pos (starEach es X.env)).any (·.1)=false:=by rfl):PE X (.Call (.Name x p) (e::es) [] pos) (su r t):=by
 intro a s d H Q I h;refine wpAny_Call_Name_kw (BN I n q v ?_ i c);exact PyProof.Rows.callWith_type1 (gO (w pos a s d H _ I h) λj o ⟨k,m,l,y,f⟩=>g a o d m k j Q l y f) u b
end
end L2
namespace HT
open PySem PyProof.Rows
theorem MX(A:Around)(s:Shared)(a:Int)(t:Tok)(c:Int)(u:Tok):∃e,SeqAt.EqAt A s (.int a t) (.int c u) e/\(e=true↔a=c) :=
 ⟨(a==c),SeqAt.EqAt.int_int a t c u,-_⟩
theorem Vk(A:Around)(s:Shared)(a:Int)(t:Tok)(c:Int)(u:Tok)(prog:Program)(w:World)(E:Value->Shared->Prop)(Q:Value->Shared->Prop)(h:Q (.bool (decide (a<c))) s) :
 wpAny (model prog w) A (richCompare .Lt (.int a t) (.int c u)) Q E s :=
 (PyProof.Rows.lt_int h:wpAny (model prog w) A (compareOp .Lt (.int a t) (.int c u)) Q E s)
section
open PySem.SeqAt
open PySem.AutoSeq1 (wpAny_loadPart')
open PySem.MeetsSeq PySem.MeetsSeq2 PySem.MeetsSeq3
end
section
variable{prog:Program}{w:World}{A:Around}{E:Value->Shared->Prop}{s:Shared}
theorem XJ{t b:Addr}{vs ws:List Value}{Q:Value->Shared->Prop}(v:IsTup s.heap t vs.toArray)(y:IsTup s.heap b ws.toArray)(p:vs≠[])
 (x:ws=[]->Q (.ref t) s) (u:ws≠[]->Q (.ref s.heap.objs.size) {s with heap:=s.heap.push {cls:=.type "tuple",data:=.seq (vs++ws).toArray}})
 (j:vs.length+ws.length<=sizeLine):wpAny (model prog w) A (binaryOp .Add (.ref t) (.ref b)) Q E s:=by
 obtain⟨⟨cls,m,data,l⟩,i,k,n,q⟩:=id v;obtain⟨⟨r,d,data2,c⟩,a,f,o,g⟩:=id y;simp only at k q f g;subst k q f g;have e:vs.toArray++ws.toArray=(vs++ws).toArray:=-_
 by_cases h:ws=[]
 ·exact concat_meets ⟨_,i,rfl⟩ ⟨_,a,rfl⟩ noFill_tuple_add seq_tuple_add PySem.F.slot_tuple_add PySem.F.entry_tuple_add (PySem.F.args_tuple_add_2 _ _)
   (tuple_addW1 t b vs.toArray ws.toArray n o m d l c (by simpa using p) (by simp[h])) ⟨i,a,x h⟩
 ·refine concat_meets ⟨_,i,rfl⟩ ⟨_,a,rfl⟩ noFill_tuple_add seq_tuple_add PySem.F.slot_tuple_add PySem.F.entry_tuple_add (PySem.F.args_tuple_add_2 _ _)
   (tuple_addW2 t b vs.toArray ws.toArray n o m d l c (by simpa using p) (by simpa using h) (by rw[aL,aL];exact j)) ⟨i,a,?_⟩
  rw[e];exact u h
noncomputable def kg(n d:Nat):Option Int->Nat
 |none=>d
 |some v=>if v<0 then (v+(n:Int)).toNat else min v.toNat n
theorem XM(n d k:Nat):kg n d (some (k:Int))=min k n:=by
 show (if (k:Int)<0 then ((k:Int)+(n:Int)).toNat else min (k:Int).toNat n)=min k n;rw[eH ∅,f6]
theorem abc(n d:Nat)(b:d<=n)(o:Option Int):kg n d o<=n:=by
 cases o with
 |none=>exact b
 |some v =>
  show (if v<0 then (v+(n:Int)).toNat else min v.toNat n)<=n;by_cases a:v<0
  ·rw[ee a];lia
  ·rw[eH a];exact Nat.min_le_right _ _
theorem Ro(v:Int)(n d:Nat):(if v<0 then max (v+(n:Int)) 0 else min v (n:Int))=((kg n d (some v):Nat):Int):=by
 show (if v<0 then max (v+(n:Int)) 0 else min v (n:Int))=(((if v<0 then (v+(n:Int)).toNat else min v.toNat n):Nat):Int);by_cases a:v<0
 ·simp only[ee a];lia
 ·simp only[eH a];lia
theorem PZ(lo a:Option Int)(n:Nat):Builtin.Slice.sliceAdjust lo a 1 (n:Int)=(((kg n 0 lo:Nat):Int),((kg n n a:Nat):Int)):=by
 have b:¬((1:Int)<0):=∅
 unfold Builtin.Slice.sliceAdjust;simp only[b,if_false];refine Prod.ext ?_ ?_
 ·cases lo with
  |none=>rfl
  |some v=>exact Ro v n 0
 ·cases a with
  |none=>rfl
  |some v=>exact Ro v n n
theorem P0(i j:Nat):Builtin.Slice.slicePlaces (i:Int) (j:Int) 1=j-i:=by
 unfold Builtin.Slice.slicePlaces;have a:(1:Int) > 0:=∅
 simp only[a,if_true,Int.ediv_one];split <;> lia
theorem G9{v:Value}{o:Option Int}{Q:Option Int->Shared->Prop}(p:IsPart v o)(h:Q o s):wpAny (model prog w) A (Builtin.Slice.slicePartIndex v) Q E s:=by
 cases p with
 |none=>exact slicePart_none h
 |int i t=>exact slicePart_int h
theorem Ek{f:Addr}{e d:Value}{lo b:Option Int}{n:Nat}{Q:Int×Int×Nat->Shared->Prop}(i:s.heap.IsSliceOf f e d .none)(pl:IsPart e lo)(g:IsPart d b)
 (h:Q (((kg n 0 lo:Nat):Int),1,kg n n b-kg n 0 lo) s):wpAny (model prog w) A (Builtin.Slice.sliceApplied (.ref f) (pure (n:Int))) Q E s:=by
 obtain⟨os,a,j,c⟩:=id i;unfold Builtin.Slice.sliceApplied Builtin.Slice.sliceFields;refine wpAny_bind (wpAny_bind (wpAny_field a c (x:=e) rfl (wpAny_bind (wpAny_field a c (x:=d) rfl (wpAny_bind (wpAny_field a c (x:=.none) rfl (wpAny_pure ?_)))))));refine wpAny_bind (slicePart_none ?_);show wpAny _ _ (if ((1:Int)==0)=true then _ else _) _ _ s;rw[eH (!_)];refine wpAny_bind (G9 pl (wpAny_bind (G9 g (wpAny_bind (wpAny_pure ?_)))));show wpAny _ _ (match Builtin.Slice.sliceAdjust lo b 1 (n:Int) with|(lo,b)=>pure (lo,(1:Int),Builtin.Slice.slicePlaces lo b 1)) _ _ s;rw[PZ lo b n];show wpAny _ _ (pure (((kg n 0 lo:Nat):Int),(1:Int),Builtin.Slice.slicePlaces ((kg n 0 lo:Nat):Int) ((kg n n b:Nat):Int) 1)) _ _ s;rw[P0];exact wpAny_pure h
theorem Vl(xs:Array Value)(i k:Nat):((aq k).filterMap λ(m:Nat)=>xs[((i:Int)+(m:Int)*1).toNat]?).toArray=((xs.toList.drop i).take k).toArray:=by
 have e:(λ(m:Nat)=>xs[((i:Int)+(m:Int)*1).toNat]?)=λm=>xs[i+m]?:=by
  funext m
  have:((i:Int)+(m:Int)*1).toNat=i+m:=∅
  rw[this]
 rw[e]
 have:=pick_run xs i k
 rw[List.filterMap_map] at this;have a:((λx=>xs[x]?)∘λx=>i+x)=λm=>xs[i+m]?:=rfl;rw[a] at this;rw[this]
theorem C7{t e:Addr}{items:Array Value}{j l:Value}{lo a:Option Int}{Q:Value->Shared->Prop}(b:IsTup s.heap t items)(k:s.heap.IsSliceOf e j l .none)(pl:IsPart j lo)(n:IsPart l a)
 (r:¬(kg items.size 0 lo=0/\kg items.size items.size a=items.size))
 (h:Q (.ref s.heap.objs.size) {s with heap:=s.heap.push {cls:=.type "tuple",data:=.seq ((items.toList.drop (kg items.size 0 lo)).take (kg items.size items.size a-kg items.size 0 lo)).toArray}})
 (p:items.size<=sizeLine):wpAny (model prog w) A (getItem (.ref t) (.ref e)) Q E s:=by
 have c:sizeOk (.seq ((items.toList.drop (kg items.size 0 lo)).take (kg items.size items.size a-kg items.size 0 lo)).toArray):=by
  show ((items.toList.drop (kg items.size 0 lo)).take (kg items.size items.size a-kg items.size 0 lo)).toArray.size<=sizeLine;rw[aL,bV,kL,bg];lia
 have v:kg items.size items.size a<=items.size:=abc _ _ (av _) a;obtain⟨os,f,g,o⟩:=id k;have d:s.TypeIs (.ref e) "slice" := ⟨os,f,g⟩;unfold getItem
 try with_reducible refine wpAny_holding ?_
 first|refine wpAny_bind (wpAny_pure ?_)|skip
 refine wpAny_bind (wpAny_sequenceKey b.typeIs (!_) ?_);refine wpAny_bind (wpAny_callSpecial?_slot (name:=Str.ofString "__getitem__") b.typeIs uT
  (wpAny_call_entry uT b.typeIs entry_tuple_getitem ?_ (args_tuple_getitem _ _)))
 show wpAny _ _ (Builtin.Tuple.tupleItemsOf (.ref t) >>= _) _ _ s;refine wpAny_bind (tupleItemsOf_ b ?_);refine wpAny_bind (wpAny_typeOf d ?_);rw[ee (!_)];refine wpAny_bind (Ek k pl n ?_);have i:¬((((kg items.size 0 lo:Nat):Int)==0&&(1:Int)==1&&(kg items.size items.size a-kg items.size 0 lo)==items.size)=true):=by
  intro q;rw[cV,cV] at q;have u:((kg items.size 0 lo:Nat):Int)=0:=eq_of_beq q.1.1;have x:kg items.size items.size a-kg items.size 0 lo=items.size:=eq_of_beq q.2;exact r ⟨∅,∅⟩
 show wpAny _ _ (if (((kg items.size 0 lo:Nat):Int)==0&&(1:Int)==1&&(kg items.size items.size a-kg items.size 0 lo)==items.size)=true then _ else _) _ _ s;rw[eH i,Vl]
 first
  |exact wpAny_bind (m:=Builtin.Tuple.tupleExact _) (wpAny_newObj_type (wpAny_pure ⟨_,rfl,wpAny_pure h⟩) c)
  |exact wpAny_bind (m:=Builtin.Tuple.tupleExact _) (wpAny_newObj_type (wpAny_bind (wpAny_pure (wpAny_pure ⟨_,rfl,wpAny_pure h⟩))) c)
  |exact wpAny_bind (wpAny_bind (m:=Builtin.Tuple.tupleExact _) (wpAny_newObj_type (wpAny_pure (wpAny_pure ⟨_,rfl,wpAny_pure h⟩)) c))
  |exact wpAny_bind (wpAny_bind (m:=Builtin.Tuple.tupleExact _) (wpAny_newObj_type (wpAny_pure ⟨_,rfl,wpAny_pure h⟩) c))
end
end HT
namespace L2
open PySem PySem.Spec PyProof.Rows
abbrev TO:=St->Hp->(Option Int->Hp->Prop)->Prop
def PO(X:Cx)(e:Option Expr)(t:TO):Prop :=
 ∀(pins:List (Addr×Obj)) (s:Shared) (σ:St) (H:Hp) (Q:Option Int->Hp->Prop),Inv X pins σ H s->t σ H Q ->
  wpAny (model X.prog X.w) X.A (evalPart e X.env) (λu s'=>∃o H',Inv X pins σ H' s'/\IsPart u o/\Q o H') X.xe s
def XN:TO:=λ_ H Q=>Q none H
inductive ZS(Q:Option Int->Hp->Prop)(x:V)(H1:Hp):Prop
 |mk (i:Int) (a:x=.int i) (b:Q (some i) H1):ZS Q x H1
def ad3(t:TE):TO:=λσ H Q=>t σ H (ZS Q)
theorem intsAre_of{ns:List Int}:∀{us:List Value},bY (ns.map V.int) us->IntsAre us ns:=by
 induction ns with
 |nil=>intro us r;rw[List.map_nil] at r;cases r;exact .nil
 |cons n ns b =>
  intro us r;rw[bL] at r;cases r with
  |cons a c =>
   obtain⟨t,e⟩:=a;subst e;exact .cons n t (b c)
section
variable{X:Cx}{e:Expr}{te:TE}{lo hi:Option Expr}{tl th:TO}{pos p2:Pos}
theorem C8:PO X none XN:=by
 intro a s b H Q I h;rw[evalPart_none];exact wpAny_pure ⟨none,H,I,.none,h⟩
theorem pK(h:PE X e te):PO X (some e) (ad3 te):=by
 intro a s f H Q I g;rw[evalPart_some];refine gO (h a s f H _ I g) λu k ⟨x,d,c,j,b⟩=>?_;obtain⟨i,rfl,q⟩:=b;obtain⟨t,rfl⟩:=j;exact⟨some i,d,c,.int i t,q⟩
def UA(X:Cx)(r:V->Option Int->Option Int->Hp->VK->Prop):Prop :=
 ∀(pins:List (Addr×Obj)) (s:Shared) (σ:St) (H:Hp) (x:V) (v vl vu:Value) (lo hi:Option Int) (sl:Addr) (Q:VK),Inv X pins σ H s->RelV x v->s.heap.IsSliceOf sl vl vu .none->IsPart vl lo->IsPart vu hi->r x lo hi H Q ->
  ∃T id,typeLookup (.type T) "__getitem__" = pure (some (.builtin id))/\s.TypeIs v T/\wpAny (model X.prog X.w) X.A (getItem v (.ref sl)) (EP X pins σ Q) X.xe s
def tSl(r:V->Option Int->Option Int->Hp->VK->Prop)(te:TE)(tl th:TO):TE:=λσ H Q=>te σ H λx H1=>tl σ H1 λl H2=>th σ H2 λu H3=>r x l u H3 Q
theorem sy{r:V->Option Int->Option Int->Hp->VK->Prop}(z:UA X r)(G:PE X e te)(hl:PO X lo tl)(E:PO X hi th):PE X (.Subscript e (.Slice lo hi none p2) pos) (tSl r te tl th):=by
 intro a s d H Q I h;refine Subscript_ (gO (G a s d H _ I h) λv y ⟨x,o,n,N,k⟩=>?_);refine wpAny_Slice (gO (hl a y d o _ n k) λf J ⟨l,F,D,L,M⟩=>gO (E a J d F _ D M) λg c ⟨u,i,K,m,C⟩=>?_);rw[evalPart_none];refine wpAny_pure ?_;have B:Inv X a d i {c with heap:=c.heap.push {cls:=.type "slice",data:=.fields #[f,g,.none]}}:=K.kept (t':=c.toks) λb O q=>Heap.get?_push_of_some _ q;obtain⟨T,id,j,p,t⟩:=z a {c with heap:=c.heap.push {cls:=.type "slice",data:=.fields #[f,g,.none]}} d i x v f g l u c.heap.objs.size Q B N (Heap.IsSliceOf.new ..) L m C;show wpAny (model X.prog X.w) X.A (subscriptTail e (.Slice lo hi none p2) v (.ref c.heap.objs.size)) (EP X a d Q) X.xe {c with heap:=c.heap.push {cls:=.type "slice",data:=.fields #[f,g,.none]}};exact tail_any (ops:=[.ref c.heap.objs.size,v]) p j t (by with_unfolding_all rfl)
noncomputable def El(xs:List V)(lo hi:Option Int):List V:=(xs.drop (HT.kg xs.length 0 lo)).take (HT.kg xs.length xs.length hi-HT.kg xs.length 0 lo)
theorem FD(xs:List V)(lo hi:Option Int):(El xs lo hi).length<=xs.length:=by
 unfold El;rw[bV,kL];lia
def ad4(K:af):V->Option Int->Option Int->Hp->VK->Prop:=λx lo hi H Q=>∃a xs,x=.ref a/\cN K H a xs /\
 ¬(HT.kg xs.length 0 lo=0/\HT.kg xs.length xs.length hi=xs.length)/\∀p,H p=none->Q (.ref p) (upd H p (.tup (El xs lo hi)))
theorem Em:UA X (ad4 X.K):=by
 intro g s z H x v t y lo hi w Q I l k n j h;obtain⟨a,d,rfl,m,p,q⟩:=h;cases l;obtain⟨e,r,f,i⟩:=I.tuple m;have c:e.toArray.size=d.length:=by rw[aL];exact r.length.symm
 refine⟨"tuple",_,uT.lookup,f.typeIs,?_⟩;refine HT.C7 f k n j (by rw[c];exact p) ?_ (by rw[c];exact i);rw[c];refine⟨.ref s.heap.objs.size,_,I.laid (t':=s.toks) (o:=.tup (El d lo hi)) (λb u q=>Heap.get?_push_of_some _ q) (av _) ?_,rfl,q _ (I.hok.fresh (av _))⟩;exact⟨aF (FD d lo hi) i,_,(r.drop (HT.kg d.length 0 lo)).take (HT.kg d.length d.length hi-HT.kg d.length 0 lo),IsTup.new _ _⟩
def ZT(K:af):R2:=λx y H Q=>∃a b xs ys,x=.ref a/\y=.ref b/\cN K H a xs/\cN K H b ys/\xs≠[]/\xs.length+ys.length<=sizeLine /\
 (ys=[]->Q (.ref a) H)/\(ys≠[]->∀p,H p=none->Q (.ref p) (upd H p (.tup (xs++ys))))
theorem bY.Ly{xs:List V}{us:List Value}(r:bY xs us):us=[]↔xs=[]:=by
 cases r with
 |nil=>simp
 |cons _ _=>simp
theorem XO:xq X (binaryOp .Add) (ZT X.K):=by
 intro f s D H x y v u Q I n m h;obtain⟨a,b,k,p,rfl,rfl,B,t,r,g,i,A⟩:=h;cases n;cases m;obtain⟨j,d,l,_⟩:=I.tuple B;obtain⟨e,c,p2,_⟩:=I.tuple t;refine HT.XJ l p2 (λz=>r (d.Ly.mp z)) (λz=>⟨.ref a,H,I,rfl,i (c.Ly.mp z)⟩) (λz=>?_) (by rw[<- d.length,<- c.length];exact g);refine⟨.ref s.heap.objs.size,_,I.laid (t':=s.toks) (o:=.tup (k++p)) (λb C q=>Heap.get?_push_of_some _ q) (av _) ?_,rfl,A (λw=>z (c.Ly.mpr w)) _ (I.hok.fresh (av _))⟩;exact⟨by rw[ay];exact g,_,d.append c,IsTup.new _ _⟩
end
noncomputable def XQ(n:Nat)(i:Int):Option Nat:=if 0<=i then (if i<n then some i.toNat else none) else if -(n:Int)<=i then some (i+n).toNat else none
noncomputable def Eo{α:Type}(xs:List α)(i:Int):Option α:=(XQ xs.length i).bind λj=>xs[j]?
theorem Lz{n:Nat}{i:Int}{j:Nat}(h:XQ n i=some j):seqIndex? i n=some j/\j<n/\-(n:Int)<=i/\i<n:=by
 unfold XQ at h;by_cases b:0<=i
 ·rw[ee b] at h
  by_cases a:i<n
  ·rw[ee a] at h
   have e:i.toNat=j:=aQ h;exact⟨by rw[seqIndex_of b a,e],∅,∅,a⟩
  ·rw[eH a] at h;cases h
 ·rw[eH b] at h
  by_cases a:-(n:Int)<=i
  ·rw[ee a] at h
   have e:(i+n).toNat=j:=aQ h;exact⟨by rw[seqIndex_neg ∅ a,e],∅,a,∅⟩
  ·rw[eH a] at h;cases h
theorem Rq{a:Type}{xs:List a}{i:Int}{v:a}(h:Eo xs i=some v):∃j,seqIndex? i xs.length=some j/\xs[j]?=some v/\j<xs.length/\-(xs.length:Int)<=i/\i<xs.length:=by
 unfold Eo at h;cases e:XQ xs.length i with
 |none=>rw[e] at h;cases h
 |some j =>
  rw[e] at h;obtain⟨b,f,c,d⟩:=Lz e;exact⟨j,b,h,f,c,d⟩
theorem dM{a:Type}{xs:List a}{j:Nat}{v:a}(h:xs[j]?=some v):Eo xs (j:Int)=some v:=by
 have b:j<xs.length:=(ai.mp h).1;have e:XQ xs.length (j:Int)=some j:=by
  unfold XQ;rw[ee ∅,ee ∅];simp
 unfold Eo;rw[e];exact h
def C9(b:Expr):Prop:=∀o i,subscripted b false o i=operate [o,i] (getItem o i)
def CS(X:Cx)(r:R2):Prop :=
 ∀(value slice:Expr) (pins:List (Addr×Obj)) (s:Shared) (σ:St) (H:Hp) (x y:V) (v u:Value) (Q:VK),Inv X pins σ H s->RelV x v->RelV y u->r x y H Q ->
  subscripted slice false v u=operate [v,u] (getItem v u)->wpAny (model X.prog X.w) X.A (subscriptTail value slice v u) (EP X pins σ Q) X.xe s
def MtR(X:Cx)(id:String)(r:V->List V->Hp->VK->Prop):Prop :=
 ∀(pins:List (Addr×Obj)) (s:Shared) (σ:St) (H:Hp) (x:V) (xs:List V) (v:Value) (us:List Value) (Q:VK),Inv X pins σ H s->RelV x v->bY xs us->r x xs H Q ->
  wpAny (model X.prog X.w) X.A (call (.builtin id) (v::us)) (EP X pins σ Q) X.xe s
section
variable{X:Cx}{a b:Expr}{ta tb:TE}{pos:Pos}
theorem Rr{r:R2}(f:CS X r)(m:PE X a ta)(l:PE X b tb)(d:C9 b):PE X (.Subscript a b pos) (Xn r ta tb):=by
 intro c s n H Q I h;exact Subscript_ (aa3 m l I h λv u k x y j i g e q=>f a b c k n j x y v u Q i g e q (d _ _))
inductive S4(K:af)(x y:V)(H:Hp)(Q:VK):Prop
 |mk (p:Addr) (xs:List V) (i:Int) (v:V) (h1:x=.ref p) (h2:y=.int i) (h3:bS K H p xs) (h4:Eo xs i=some v) (h5:Q v H):S4 K x y H Q
inductive S5(K:af)(x y:V)(H:Hp)(Q:VK):Prop
 |mk (p:Addr) (xs:List V) (i:Int) (v:V) (h1:x=.ref p) (h2:y=.int i) (h3:cN K H p xs) (h4:Eo xs i=some v) (h5:Q v H):S5 K x y H Q
theorem Rt:CS X (S4 X.K):=by
 intro g l a s A H x y v u Q I F E h n;obtain⟨p,N,i,z,rfl,rfl,hq,G,q⟩:=h;cases F;obtain⟨t,rfl⟩:=E;obtain⟨d,r,k,P⟩:=I.list hq;obtain⟨j,c,C,O,J,B⟩:=Rq G;obtain⟨w,o,e⟩:=r.get C;have L:=r.length;have M:=G6;have b:EP X a A Q w s:=⟨z,H,I,e,q⟩;by_cases m:0<=i
 ·have f:i.toNat=j:=by
   rw[seqIndex_of m B] at c;exact aQ c
  exact item_listR k.isList m ∅ (by rw[f];simpa using o) b n
 ·have f:(i+(d.toArray.size:Int)).toNat=j:=by
   rw[seqIndex_neg ∅ J] at c;rw[aL,<- L];exact aQ c
  exact subscriptTail_builtinR (x:=w) k.isList.typeIs slot_list_getitem.lookup
   (wpAny_getItem_list_neg (Q:=λr D=>r=w/\EP X a A Q r D) k.isList ∅ (by rw[aL] <;> lia) ∅ (by rw[f];simpa using o) ⟨rfl,b⟩) n
theorem Vm:CS X (S5 X.K):=by
 intro c d a s g H x y v u Q I C A h n;obtain⟨p,J,i,z,rfl,rfl,hq,D,q⟩:=h;cases C;obtain⟨t,rfl⟩:=A;obtain⟨k,r,f,N⟩:=I.tuple hq;obtain⟨j,o,l,L,M,F⟩:=Rq D;obtain⟨w,B,b⟩:=r.get l;have E:=r.length;have G:=G6;have e:EP X a g Q w s:=⟨z,H,I,b,q⟩;exact subscriptTail_builtinR (x:=w) f.typeIs slot_tuple_getitem.lookup
  (getItem_tuple (j:=j) (Q:=λr m=>r=w/\EP X a g Q r m) f ∅ ∅ (by rw[aL,<- E];exact o) (by simpa using B) ⟨rfl,e⟩) n
theorem P1(a:List Value)(n j:Nat)(u:Value):Obj.mapSeq (·.setIfInBounds j u) {cls:=.type "list",data:=.seq a.toArray n}={cls:=.type "list",data:=.seq (a.set j u).toArray n}:=by
 simp[Obj.mapSeq]
theorem Inv.lst{b:List (Addr×Obj)}{c:St}{H:Hp}{s:Shared}{p:Addr}{xs:List V}(I:Inv X b c H s)(h:H p=some (.lst xs)) :
 ∃(a:List Value) (n:Nat),bY xs a/\s.heap.get? p=some {cls:=.type "list",data:=.seq a.toArray n}/\xs.length<=sizeLine:=by
 obtain⟨z,a,n,r,e⟩:=I.hok p _ h;exact⟨a,n,r,e,z⟩
theorem Inv.abd{a:List (Addr×Obj)}{j:St}{H:Hp}{s:Shared}{p:Addr}{xs g:List V}{c its':List Value}{n d:Nat}{f:Obj->Obj}(I:Inv X a j H s)(h:H p=some (.lst xs))
 (m:s.heap.get? p=some {cls:=.type "list",data:=.seq c.toArray n}) (i:f {cls:=.type "list",data:=.seq c.toArray n}={cls:=.type "list",data:=.seq its'.toArray d}) (r:bY g its') (l:g.length<=sizeLine) (t:Nat) :
 Inv X a j (upd H p (.lst g)) {s with heap:=s.heap.update p f,toks:=t}:=by
 have e:(s.heap.update p f).get? p=some {cls:=.type "list",data:=.seq its'.toArray d}:=by
  rw[Heap.get?_update_self f m (by rw[i] <;> rfl),i]
 refine I.write (x:=p) (e:=p) (by rw[h];trivial) (.inl rfl) (λb u k q=>(Heap.get?_update_other _ _ (bM k)).trans q) ⟨_,e⟩ ?_;exact⟨l,its',d,r,e⟩
def ad6:V->V->V->Hp->(Hp->Prop)->Prop:=λo i v H Q=>∃p xs k j,o=.ref p/\i=.int k/\H p=some (.lst xs)/\XQ xs.length k=some j/\Q (upd H p (.lst (xs.set j v)))
theorem set_list:adO X ad6:=by
 intro b s z H o i v G K u Q I C A D h;obtain⟨p,y,k,j,rfl,rfl,x,B,q⟩:=h;cases C;obtain⟨t,rfl⟩:=A;obtain⟨a,n,r,e,E⟩:=I.lst x;obtain⟨c,J,l,w⟩:=Lz B;have f:=r.length;have F:=G6;have m:Inv X b z (upd H p (.lst (y.set j v))) {s with heap:=s.heap.update p (Obj.mapSeq (·.setIfInBounds j u))} :=
  I.abd x e (P1 a n j u) (r.set D j) (by rw[aX];exact E) s.toks
 by_cases g:0<=k
 ·have d:k.toNat=j:=by
   rw[seqIndex_of g w] at c;exact aQ c
  exact PySem.W.ki_setAt e g ∅ (by rw[aL,<- f];exact w) (by rw[d];exact⟨_,m,q⟩)
 ·have d:(k+(a.toArray.size:Int)).toNat=j:=by
   rw[seqIndex_neg ∅ l] at c;rw[aL,<- f];exact aQ c
  exact PySem.W.ki_setBack e ∅ (by rw[aL,<- f];exact l) ∅ (by rw[d];exact⟨_,m,q⟩)
theorem LA(lo a:Option Int)(n:Nat):(sliceBounds lo a none n).1=((HT.kg n 0 lo:Nat):Int)/\(sliceBounds lo a none n).2.1=((HT.kg n n a:Nat):Int)/\(sliceBounds lo a none n).2.2=1:=by
 refine⟨?_,?_,rfl⟩
 ·cases lo with
  |none=>simp[sliceBounds,HT.kg]
  |some i =>
   simp only[sliceBounds,HT.kg,Option.getD_none,show (1:Int) > 0 by decide,if_true];by_cases h:i<0
   ·simp only[h,if_true] <;> lia
   ·simp only[h,if_false] <;> lia
 ·cases a with
  |none=>simp[sliceBounds,HT.kg]
  |some i =>
   simp only[sliceBounds,HT.kg,Option.getD_none,show (1:Int) > 0 by decide,if_true];by_cases h:i<0
   ·simp only[h,if_true] <;> lia
   ·simp only[h,if_false] <;> lia
theorem JE(a:List Value)(lo b:Option Int):slicePick a.toArray lo b none=((a.drop (HT.kg a.length 0 lo)).take (HT.kg a.length a.length b-HT.kg a.length 0 lo)).toArray:=by
 obtain⟨c,e,d⟩:=LA lo b a.toArray.size;unfold slicePick;rw[c,e,d];simp only[sliceRange_one,pick_run,aL] <;> rfl
def ahl(K:af):V->Option Int->Option Int->Hp->VK->Prop:=λx lo hi H Q=>∃a xs,x=.ref a/\bS K H a xs/\∀p,H p=none->Q (.ref p) (upd H p (.lst (El xs lo hi)))
theorem XR:UA X (ahl X.K):=by
 intro g s z H x v t y lo e w Q I l k n j h;obtain⟨a,c,rfl,m,q⟩:=h;cases l;obtain⟨i,r,f,p⟩:=I.list m;have d:=r.length;refine⟨"list",_,slot_list_getitem.lookup,f.isList.typeIs,?_⟩;refine wpAny_getItem_list_slice f.isList k n j .none (-_) ?_ (by rw[aL] <;> lia);rw[JE,<- d];refine⟨.ref s.heap.objs.size,_,I.laid (t':=s.toks) (o:=.lst (El c lo e)) (λb u q=>Heap.get?_push_of_some _ q) (av _) ?_,rfl,q _ (I.hok.fresh (av _))⟩;exact⟨aF (FD c lo e) p,_,0,(r.drop (HT.kg c.length 0 lo)).take (HT.kg c.length c.length e-HT.kg c.length 0 lo),Heap.get?_push_size _ rfl⟩
noncomputable def zp:V->Bool
 |.fk=>true
 |.bl _=>true
 |.int _=>true
 |.str _=>true
 |_=>false
noncomputable def S6:V->V->Bool
 |.fk,.fk=>true
 |.bl a,.bl b=>a==b
 |.bl a,.int b=>(if a then 1 else 0)==b
 |.int a,.bl b=>a==(if b then 1 else 0)
 |.int a,.int b=>a==b
 |.str a,.str b=>a==b
 |_,_=>false
theorem abe{A:Around}{s:Shared}{y x:V}{u v:Value}(f:RelV y u)(c:RelV x v)(g:zp y=true)(e:zp x=true):SeqAt.EqAt A s u v (S6 y x):=by
 cases y with
 |fk =>
  cases f;cases x with
  |fk=>cases c;exact SeqAt.EqAt.same _
  |bl b=>cases c;exact SeqAt.EqAt.none_bool b
  |int b=>obtain⟨t,rfl⟩:=c;exact SeqAt.EqAt.none_int b t
  |str b=>obtain⟨t,rfl⟩:=c;exact SeqAt.EqAt.none_str b t
  |_=>exact eL (show false=true from e) aB
 |bl a =>
  cases f;cases x with
  |fk=>cases c;exact SeqAt.EqAt.bool_none a
  |bl b=>cases c;exact SeqAt.EqAt.bool_bool a b
  |int b=>obtain⟨t,rfl⟩:=c;exact SeqAt.EqAt.bool_int a b t
  |str b=>obtain⟨t,rfl⟩:=c;exact SeqAt.EqAt.bool_str a b t
  |_=>exact eL (show false=true from e) aB
 |int a =>
  obtain⟨d,rfl⟩:=f;cases x with
  |fk=>cases c;exact SeqAt.EqAt.int_none a d
  |bl b=>cases c;exact SeqAt.EqAt.int_bool a d b
  |int b=>obtain⟨t,rfl⟩:=c;exact SeqAt.EqAt.int_int a d b t
  |str b=>obtain⟨t,rfl⟩:=c;exact SeqAt.EqAt.int_str a d b t
  |_=>exact eL (show false=true from e) aB
 |str a =>
  obtain⟨d,rfl⟩:=f;cases x with
  |fk=>cases c;exact SeqAt.EqAt.str_none a d
  |bl b=>cases c;exact SeqAt.EqAt.str_bool a d b
  |int b=>obtain⟨t,rfl⟩:=c;exact SeqAt.EqAt.str_int a d b t
  |str b=>obtain⟨t,rfl⟩:=c;exact SeqAt.EqAt.str_str a d b t
  |_=>exact eL (show false=true from e) aB
 |_=>exact eL (show false=true from g) aB
noncomputable def P4(x:V)(u:Value):Bool:=match u with
 |.none=>S6 .fk x
 |.bool b=>S6 (.bl b) x
 |.int i _=>S6 (.int i) x
 |.str z _=>S6 (.str z) x
 |_=>false
theorem Vn{x y:V}{u:Value}(r:RelV y u)(f:zp y=true):P4 x u=S6 y x:=by
 cases y with
 |fk=>cases r;rfl
 |bl b=>cases r;rfl
 |int i=>obtain⟨t,rfl⟩:=r;rfl
 |str z=>obtain⟨t,rfl⟩:=r;rfl
 |_=>exact eL (show false=true from f) aB
theorem Dc{x:V}:∀{xs:List V} {us:List Value},bY xs us->xs.all zp=true->us.any (P4 x)=xs.any λy=>S6 y x
 |_,_,.nil,_=>rfl
 |y::xs,u::us,.cons r t,f=>by
  rw[List.all_cons,cV] at f;rw[List.any_cons,List.any_cons,Vn r f.1,Dc t f.2]
theorem zq{A:Around}{s:Shared}{x:V}{v:Value}(b:RelV x v)(a:zp x=true):∀{xs:List V} {us:List Value},bY xs us->xs.all zp=true->∀u∈us,SeqAt.EqAt A s u v (P4 x u)
 |_,_,.nil,_=>λu hu=>by cases hu
 |y::xs,u::us,.cons r t,f=>λc hu=>by
  rw[List.all_cons,cV] at f;rcases aW.mp hu with rfl|hu
  ·rw[Vn r f.1];exact abe r b f.1 a
  ·exact zq b a t f.2 c hu
noncomputable def LB(x:V)(xs:List V):Bool:=xs.any λy=>S6 y x
inductive Jf(K:af)(neg:Bool)(x y:V)(H:Hp)(Q:VK):Prop
 |mk (p:Addr) (xs:List V) (h1:y=.ref p) (h2:bS K H p xs∨cN K H p xs) (h3:zp x=true) (h4:xs.all zp=true) (h5:Q (.bl (if neg then !LB x xs else LB x xs)) H):Jf K neg x y H Q
theorem oO:xq X (compareOp .In) (Jf X.K false):=by
 intro g s l H x y v u Q I f i h;obtain⟨p,k,rfl,hq,e,b,q⟩:=h;cases i;rcases hq with hq|hq
 ·obtain⟨a,r,c,j⟩:=I.list hq
  refine SeqAt.in_listAt (P4 x) c.isList (λw d=>zq f e r b w (by simpa using d)) ⟨.bl _,H,I,rfl,?_⟩;rw[show a.toArray.any (P4 x)=a.any (P4 x) by simp,Dc r b];exact q
 ·obtain⟨a,r,c,j⟩:=I.tuple hq
  refine SeqAt.in_tupleAt (P4 x) c (λw d=>zq f e r b w (by simpa using d)) ⟨.bl _,H,I,rfl,?_⟩;rw[show a.toArray.any (P4 x)=a.any (P4 x) by simp,Dc r b];exact q
theorem i0:xq X (compareOp .NotIn) (Jf X.K true):=by
 intro g s l H x y v u Q I f i h;obtain⟨p,k,rfl,hq,e,b,q⟩:=h;cases i;rcases hq with hq|hq
 ·obtain⟨a,r,c,j⟩:=I.list hq
  refine SeqAt.notIn_listAt (P4 x) c.isList (λw d=>zq f e r b w (by simpa using d)) ⟨.bl _,H,I,rfl,?_⟩;rw[show a.toArray.any (P4 x)=a.any (P4 x) by simp,Dc r b];exact q
 ·obtain⟨a,r,c,j⟩:=I.tuple hq
  refine SeqAt.notIn_tupleAt (P4 x) c (λw d=>zq f e r b w (by simpa using d)) ⟨.bl _,H,I,rfl,?_⟩;rw[show a.toArray.any (P4 x)=a.any (P4 x) by simp,Dc r b];exact q
theorem Dd:oG X (.builtin "len") (λxs H Q=>∃p b,xs=[.ref p]/\(bS X.K H p b∨cN X.K H p b)/\Q (.int b.length) H):=by
 intro f s l H xs k Q I r h;obtain⟨p,b,rfl,hq,q⟩:=h;obtain⟨u,rfl,g⟩:=vals1 r;cases g;have j:=G6;rcases hq with hq|hq
 ·obtain⟨c,d,e,i⟩:=I.list hq
  have a:=d.length;exact Calls.call_len_list e.isList (by simp only[aL] <;> lia) ⟨.int b.length,H,I.tok _,⟨s.toks+1,by rw[aL,a]⟩,q⟩
 ·obtain⟨c,d,e,i⟩:=I.tuple hq
  have a:=d.length;exact len_tuple e (by simp only[aL] <;> lia) ⟨.int b.length,H,I.tok _,⟨s.toks+1,by rw[aL,a]⟩,q⟩
theorem ic:oG X (.type "list") (λxs H Q=>∃p g,xs=[.ref p]/\(bS X.K H p g∨cN X.K H p g)/\∀l,H l=none->Q (.ref l) (upd H l (.lst g))):=by
 intro k s C H xs D Q I r h;obtain⟨p,g,rfl,hq,q⟩:=h;obtain⟨u,rfl,B⟩:=vals1 r;cases B;have t:∀(a:List Value),bY g a->g.length<=sizeLine->∀(c:Heap) (f:Nat),(∀b A,s.heap.get? b=some A->c.get? b=some A) ->
  c.get? s.heap.objs.size=some {cls:=.type "list",dict:=none,data:=.seq a.toArray f,slots:=#[]}->EP X k C Q (.ref s.heap.objs.size) {s with heap:=c}:=λa d m c f j e =>
  ⟨.ref s.heap.objs.size,_,I.laid (t':=s.toks) j (av _) (show fH X.prog X.w _ c _ (.lst g) from ⟨m,a,f,d,e⟩),rfl,q _ (I.hok.fresh (av _))⟩
 rcases hq with hq|hq
 ·obtain⟨a,d,x,m⟩:=I.list hq
  have i:=d.length;obtain⟨o,z,v,n,y⟩:=x.isList;exact call_list_seq p (.inl rfl) z v y (λc f j e=>t a d m c f j e) (by simp only[aL] <;> lia)
 ·obtain⟨a,d,x,m⟩:=I.tuple hq
  have i:=d.length;obtain⟨o,z,v,n,y⟩:=x;exact call_list_seq p (.inr rfl) z v y (λc f j e=>t a d m c f j e) (by simp only[aL] <;> lia)
def tyV(K:af)(T:String)(x:V)(H:Hp):Prop:=match x with
 |.str _=>T = "str"
 |.int _=>T = "int"
 |.ref p=>(T = "list" /\ ∃xs,bS K H p xs)∨(T = "tuple" /\ ∃o,K.lookup p=some o/\o.cls=.type "tuple" /\ o.dict=none) ∨
  (T = "dict" /\ ((∃kvs,H p=some (.dK kvs))∨∃kvs,H p=some (.dT kvs)))∨(T = "set" /\ ∃S n,H p=some (.set S n))
 |_=>False
theorem Vo{f:List (Addr×Obj)}{u:St}{H:Hp}{s:Shared}{T:String}{x:V}{v:Value}(I:Inv X f u H s)(r:RelV x v)(g:tyV X.K T x H) :
 s.TypeIs v T/\∀a,v=.ref a->∃ob,s.heap.get? a=some ob/\ob.dict=none:=by
 cases x with
 |str z =>
  obtain⟨t,rfl⟩:=r;cases (show T = "str" from g);exact⟨typeIs_str s z t,λ_ e=>nomatch e⟩
 |int i =>
  obtain⟨t,rfl⟩:=r;cases (show T = "int" from g);exact⟨typeIs_int s i t,λ_ e=>nomatch e⟩
 |ref p =>
  cases r;rcases g with ⟨rfl,w,hq⟩|⟨rfl,o,b,m,k⟩|⟨rfl,b⟩|⟨rfl,S,n,b⟩
  ·obtain⟨q,_,l,_⟩:=I.list hq
   refine⟨l.isList.typeIs,λa e=>?_⟩;cases e;obtain⟨o,n,e,c,k,_⟩:=l;exact⟨o,e,k⟩
  ·refine⟨⟨o,I.BL p o b,m⟩,λa e=>?_⟩
   cases e;exact⟨o,I.BL _ o b,k⟩
  ·have z:∃o,s.heap.get? p=some o/\o.ExactDict:=by
    rcases b with ⟨j,b⟩|⟨j,b⟩
    ·obtain⟨_,_,_,_,o,_,_,e,d,_⟩:=I.hok p _ b
     exact⟨o,e,d⟩
    ·obtain⟨_,_,_,_,o,_,_,e,d,_⟩:=I.hok p _ b
     exact⟨o,e,d⟩
   obtain⟨o,e,d⟩:=z;refine⟨⟨o,e,d.1⟩,λa h=>?_⟩;cases h;exact⟨o,e,d.2.1⟩
  ·obtain⟨o,_,_,_,e,d,_⟩:=I.hok p _ b
   refine⟨⟨o,e,d.1⟩,λa h=>?_⟩;cases h;exact⟨o,e,d.2.1⟩
 |_=>exact jS g
def ahn(K:af)(T:String)(r:V->List V->Hp->VK->Prop)(to:TE):TE:=λσ H Q=>to σ H λx H1=>tyV K T x H1/\r x [] H1 Q
def tBM(K:af)(T:String)(r:V->List V->Hp->VK->Prop)(to:TE)(t:TA):TE:=λσ H Q=>to σ H λx H1=>tyV K T x H1/\t σ H1 λxs H2=>r x xs H2 Q
variable{o e:Expr}{es:List Expr}{to:TE}{t:TA}{name:Str}{apos cpos:Pos}{T id:String}{r:V->List V->Hp->VK->Prop}
theorem Vp(pa:PlainAttrs T)(d:Slot T name id)(e:typeOf (.builtin id)=pure (.type "method_descriptor"))(p:MtR X id r)(t:PE X o to)
 (c:attributeBase o name X.env (eval o X.env)=eval o X.env:=by rfl) (b:(apos.endLine==cpos.line)=true:=by rfl):PE X (.Call (.Attribute o name apos) [] [] cpos) (ahn X.K T r to):=by
 intro a s g H Q I h;refine wpAny_Call_method0_late c b (gO (t a s g H _ I h) λv n ⟨x,l,f,i,q,j⟩=>?_);obtain⟨m,k⟩:=Vo f i q;exact⟨T,id,pa,d,e,m,k,Calls.callWith_builtin rfl (PySem.evalArgs_none (p a n g l x [] v [] Q f i .nil j))⟩
theorem rE(pa:PlainAttrs T)(f:Slot T name id)(i:typeOf (.builtin id)=pure (.type "method_descriptor"))(C:MtR X id r)(M:PE X o to)(L:PA X (e::es) t)
 (d:attributeBase o name X.env (eval o X.env)=eval o X.env:=by rfl)
 (g:((backTo cpos (starEach (e::es) X.env)).all (λx=>!x.1)&&(backToKw cpos (keywordEach [] X.env)).all (λx=>x.1.isSome)
  && decide ((e::es).length+([]:List Keyword).length+(if ([]:List Keyword).isEmpty then 0 else 1)<30))=true:=by rfl)
 (c:(apos.endLine==cpos.line)=true:=by rfl) (z:starEach (e::es) X.env=(false,eval e X.env)::starEach es X.env:=by rfl) (b:(backTo cpos (starEach es X.env)).any (·.1)=false:=by rfl) :
 PE X (.Call (.Attribute o name apos) (e::es) [] cpos) (tBM X.K T r to t):=by
 intro a s j H Q I h;refine wpAny_Call_method_late d g c rfl (gO (M a s j H _ I h) λv B ⟨x,y,k,m,F,n⟩=>?_);obtain⟨A,u⟩:=Vo k m F;refine⟨T,id,pa,f,i,A,u,?_⟩;have l:=L cpos a B j y _ k n;rw[z] at l ⊢;refine Calls.callWith_builtin (by show (false || (backTo cpos (starEach es X.env)).any (·.1))=false;rw[b] <;> rfl) (Calls.evalArgs_plain ?_);exact gO l λq G ⟨w,E,D,p,J⟩=>C a G j E x w v q Q D m p J
end
def MtM(X:Cx)(id:String)(r:V->List V->Hp->VK->Prop):Prop :=
 ∀(pins:List (Addr×Obj)) (s:Shared) (σ:St) (H:Hp) (x:V) (xs:List V) (v:Value) (us:List Value) (Q:VK),Inv X pins σ H s->RelV x v->bY xs us->r x xs H Q ->
  wpAny (model X.prog X.w) X.A (call (.builtin id) (v::us)) (EP X pins σ Q) X.xe s
theorem bY.one:∀{x:V} {us:List Value},bY [x] us->∃u,us=[u]/\RelV x u
 |_,_,.cons r .nil=>⟨_,rfl,r⟩
theorem bY.two:∀{x y:V} {us:List Value},bY [x,y] us->∃u v,us=[u,v]/\RelV x u/\RelV y v
 |_,_,_,.cons r (.cons q .nil)=>⟨_,_,rfl,r,q⟩
theorem bY.zero:∀{us:List Value},bY [] us->us=[]
 |_,.nil=>rfl
theorem bY.dropLast{xs:List V}{us:List Value}(h:bY xs us):bY xs.dropLast us.dropLast:=by
 induction h with
 |nil=>exact .nil
 |cons r t a =>
  cases t with
  |nil=>exact .nil
  |cons q b=>exact .cons r a
theorem bY.eraseIdx:∀{xs:List V} {us:List Value} (i:Nat),bY xs us->bY (xs.eraseIdx i) (us.eraseIdx i)
 |_,_,_,.nil=>.nil
 |_,_,0,.cons _ t=>t
 |_,_,i+1,.cons r t=>.cons r (bY.eraseIdx i t)
theorem bY.rep{xs:List V}{us:List Value}(h:bY xs us):∀k:Nat,bY (bD k xs).flatten (bD k us).flatten
 |0=>.nil
 |k+1=>by
  rw[iF,iF,uV,uV];exact bY.append h (bY.rep h k)
theorem P5{c:Type}(l:List c):l.eraseIdx (l.length-1)=l.dropLast:=by
 induction l with
 |nil=>rfl
 |cons a r d =>
  cases r with
  |nil=>rfl
  |cons b r =>
   have e:(a::b::r).length-1=((b::r).length-1)+1:=by
    have f:(a::b::r).length=r.length+2:=rfl;have g:(b::r).length=r.length+1:=rfl;lia
   rw[e,List.eraseIdx_cons_succ,d]
   all_goals rfl
theorem Ks{a:Type}:∀(l:List a) (i:Nat),(l.eraseIdx i).length<=l.length
 |[],_=>av _
 |_::_,0=>dD _
 |_::r,i+1=>Nat.succ_le_succ (Ks r i)
theorem foldl_rep(a:List Value):∀(k:Nat) (b:List Value),
 List.foldl (λf d=>f++d) b.toArray (bD k a.toArray)=(b++(bD k a).flatten).toArray
 |0,b=>-_
 |k+1,b=>by
  have e:b.toArray++a.toArray=(b++a).toArray:=-_
  have c:(b++a)++(bD k a).flatten=b++(bD (k+1) a).flatten:=by
   rw[iF,uV,jQ]
  rw[<- c,<- foldl_rep a k (b++a),<- e,iF,jP]
section
variable{X:Cx}{pins:List (Addr×Obj)}{σ:St}{H:Hp}{s:Shared}{l b:Addr}{xs ys zs:List V}
theorem Inv.abf{a its':List Value}{n:Nat}{f:Array Value->Array Value}{t':Nat}(I:Inv X pins σ H s)(b:H l=some (.lst xs))
 (e:s.heap.get? l=some {cls:=.type "list",data:=.seq a.toArray n}) (i:f a.toArray=its'.toArray) (g:bY ys its') (h:ys.length<=sizeLine) :
 Inv X pins σ (upd H l (.lst ys)) {s with heap:=s.heap.update l (Obj.mapSeq f),toks:=t'}:=by
 have q:=PySem.IsL.update e f;rw[i] at q;refine I.write (x:=l) (e:=l) (by rw[b];exact trivial) (.inl rfl) (λj u d c=>(Heap.get?_update_other s.heap (Obj.mapSeq f) (bM d)).trans c) ⟨_,q⟩ ?_;exact⟨h,its',_,g,q⟩
theorem Inv.ad7{a:List Value}{t':Nat}(I:Inv X pins σ H s)(b:bY ys a)(c:ys.length<=sizeLine) :
 Inv X pins σ (upd H s.heap.objs.size (.lst ys)) {s with heap:=s.heap.push {cls:=.type "list",data:=.seq a.toArray},toks:=t'} :=
 I.laid (λ_ _ q=>Heap.get?_push_of_some _ q) (av _) ⟨c,a,0,b,Heap.get?_push_size _ rfl⟩
theorem Inv.fresh(I:Inv X pins σ H s):H s.heap.objs.size=none:=I.hok.fresh (av _)
theorem Inv.S8(I:Inv X pins σ H s)(b:H l=some (.lst xs)):xs.length<=sizeLine/\∃(a:List Value) (n:Nat),bY xs a/\xs.length=a.length/\s.heap.get? l=some {cls:=.type "list",data:=.seq a.toArray n}:=by
 obtain⟨z,a,n,r,e⟩:=I.hok l _ b;exact⟨z,a,n,r,r.length,e⟩
theorem Vq{n:Nat}(h:n<=sizeLine):Builtin.List.listTooLong n=false:=by
 unfold Builtin.List.listTooLong;exact ff ∅
end
section
variable{X:Cx}
inductive Ru(x:V)(vs:List V)(H:Hp)(Q:VK):Prop
 |mk (l:Addr) (xs:List V) (y:V) (h1:x=.ref l) (h2:vs=[y]) (h3:H l=some (.lst xs)) (h4:xs.length<sizeLine) (h5:Q .fk (upd H l (.lst (xs++[y])))):Ru x vs H Q
theorem eX:MtM X "list.append" Ru:=by
 intro c s o H x j v i Q I f d h;obtain⟨l,k,y,rfl,rfl,b,m,q⟩:=h;cases f;obtain⟨u,rfl,g⟩:=d.one;obtain⟨z,a,n,r,p,e⟩:=I.S8 b;refine call_meets F.slot_list_append ⟨_,e,rfl⟩ F.entry_list_append (F.args_list_append_2 _ _) (PySem.list_append l a.toArray n u (by rw[aL];lia)) ⟨e,?_⟩;refine⟨.fk,_,I.abf (its':=a++[u]) b e (-_) (r.append (.cons g .nil)) ?_,rfl,q⟩;rw[ay,List.length_singleton];lia
def ahp:V->List V->Hp->VK->Prop:=λx vs H Q=>∃l xs y,x=.ref l/\vs=[]/\H l=some (.lst xs)/\xs[xs.length-1]?=some y/\Q y (upd H l (.lst xs.dropLast))
theorem abg:MtM X "list.pop" ahp:=by
 intro d s A H x t v p Q I i g h;obtain⟨l,w,y,rfl,rfl,c,k,q⟩:=h;cases i;have f:=g.zero;subst f;obtain⟨z,a,n,r,o,e⟩:=I.S8 c;obtain⟨u,j,m⟩:=r.get k;have b:a.toArray[a.toArray.size-1]?=some u:=by
  show a.toArray[a.length-1]?=some u;rw[<- c8,<- o];exact j
 refine call_meets F.slot_list_pop ⟨_,e,rfl⟩ F.entry_list_pop (F.args_list_pop_1 _) (MeetsSeq.list_pop_last l a.toArray n u b (by rw[aL];lia)) ⟨e,?_⟩;refine⟨y,_,I.abf (its':=a.dropLast) c e ?_ r.dropLast ?_,m,q⟩
 ·show a.toArray.eraseIdxIfInBounds (a.toArray.size-1)=a.dropLast.toArray
  rw[aL,List.eraseIdxIfInBounds_toArray,P5]
 ·rw[List.length_dropLast]
  lia
def abh:V->List V->Hp->VK->Prop:=λx vs H Q=>∃l xs i k y,x=.ref l/\vs=[.int i]/\H l=some (.lst xs)/\-(2^63)<=i/\i<2^63/\seqIndex? i xs.length=some k/\xs[k]?=some y/\Q y (upd H l (.lst (xs.eraseIdx k)))
theorem Vr:MtM X "list.pop" abh:=by
 intro d s J H x G v E Q I p o h;obtain⟨l,j,i,k,y,rfl,rfl,c,m,g,f,B,q⟩:=h;cases p;obtain⟨u,rfl,C⟩:=o.one;obtain⟨t,rfl⟩:=C;obtain⟨z,a,n,r,D,e⟩:=I.S8 c;obtain⟨w,A,b⟩:=r.get B;refine call_meets F.slot_list_pop ⟨_,e,rfl⟩ F.entry_list_pop (F.args_list_pop_2 _ _)
  (MeetsSeq.list_pop_at l a.toArray n i t k w (fitsIndex_both m g) (by rw[aL,<- D];exact f) (by rw[<- c8];exact A) (by rw[aL];lia)) ⟨e,?_⟩
 refine⟨y,_,I.abf (its':=a.eraseIdx k) c e ?_ (r.eraseIdx k) ?_,b,q⟩
 ·show a.toArray.eraseIdxIfInBounds k=(a.eraseIdx k).toArray
  rw[List.eraseIdxIfInBounds_toArray]
 ·have:=Ks j k
  lia
def ahq:R2:=λx y H Q=>∃l b xs zs,x=.ref l/\y=.ref b/\H l=some (.lst xs)/\H b=some (.lst zs)/\xs.length+zs.length<=sizeLine/\∀p,H p=none->Q (.ref p) (upd H p (.lst (xs++zs)))
theorem Vs:xq X (binaryOp .Add) ahq:=by
 intro d s D H x y v u Q I o j h;obtain⟨l,b,t,w,rfl,rfl,g,p,C,q⟩:=h;cases o;cases j;obtain⟨z,c,n,r,E,e⟩:=I.S8 g;obtain⟨A,a,B,f,k,m⟩:=I.S8 p;refine PySem.P.add_list e m ?_ (by rw[aL,aL];lia);have i:c.toArray++a.toArray=(c++a).toArray:=-_
 rw[i];exact⟨.ref _,_,I.ad7 (t':=s.toks) (r.append f) (by rw[ay];lia),rfl,q _ I.fresh⟩
def ahr:R2:=λx y H Q=>∃l k xs,x=.ref l/\y=.int k/\H l=some (.lst xs)/\-(2^63)<=k/\k<2^63/\xs.length*k.toNat<=sizeLine /\
 ∀p,H p=none->Q (.ref p) (upd H p (.lst (bD k.toNat xs).flatten))
theorem len_rep{b:Type}(xs:List b)(k:Nat):(bD k xs).flatten.length=k*xs.length:=by
 induction k with
 |zero=>simp
 |succ k a=>rw[iF,uV,ay,a,Nat.succ_mul,Nat.add_comm]
theorem abi:xq X (binaryOp .Mult) ahr:=by
 intro p s N H x y v u Q I G E h;obtain⟨l,k,L,rfl,rfl,A,D,B,w,q⟩:=h;cases G;obtain⟨t,rfl⟩:=E;obtain⟨z,b,n,r,K,e⟩:=I.S8 A;have c:b.toArray.size*k.toNat<=sizeLine:=by rw[aL,<- K];exact w
 have f:¬b.toArray.size*k.toNat > (2^63-1)/8:=by
  have:(sizeLine:Nat)<=(2^63-1)/8:=!_
  lia
 have d:¬(!Builtin.List.listFitsIndex k)=true:=by
  rw[fitsIndex_both D B];exact aB
 have j:¬Builtin.List.listTooLong (b.toArray.size*k.toNat)=true:=by
  rw[Vq c];exact aB
 have g:List.foldl (λo i=>o++i) #[] (bD (if b.toArray.isEmpty=true then 0 else k.toNat) b.toArray)=(bD k.toNat b).flatten.toArray:=by
  have J:∀m:Nat,List.foldl (λo i=>o++i) #[] (bD m b.toArray)=(bD m b).flatten.toArray:=λm=>by
   have:=foldl_rep b m []
   rw[List.nil_append] at this;exact this
  rw[J];cases b with
  |nil=>simp
  |cons a M=>rw[eH (-_)]
 refine wpAny_binaryOp_repeat_ref (T:="list") (U:="int") (!_) ⟨_,e,rfl⟩ (λC=>typeIs_int C k t) noFill_list_mul F.fills_int_mul F.slot_int_rmul repeat_list F.slot_int_index.lookup
  (call_meets F.slot_int_rmul (typeIs_int s k t) F.entry_int_rmul (F.args_int_rmul_2 _ _) (int___rmul___int_list k t l b.toArray n)
   ⟨e,rfl,⟨_,e,rfl⟩,call_meets F.slot_list_mul ⟨_,e,rfl⟩ F.entry_list_mul (F.args_list_mul_2 _ _) (AutoListH.list___mul___list_int_3 l b.toArray n k t d f j) ⟨e,?_⟩⟩)
 rw[g];exact⟨.ref _,_,I.ad7 (t':=s.toks) (r.rep k.toNat) (by rw[len_rep,Nat.mul_comm];exact w),rfl,q _ I.fresh⟩
end
section
variable{κ:Type}[DecidableEq κ]
noncomputable def De(kvs:List (κ×V))(k:κ):Option V:=(kvs.find? λkv=>decide (kv.1=k)).map (·.2)
noncomputable def putK(kvs:List (κ×V))(k:κ)(v:V):List (κ×V) :=
 if (kvs.any λkv=>decide (kv.1=k))=true then kvs.map (λkv=>if kv.1=k then (kv.1,v) else kv) else kvs++[(k,v)]
theorem zu{p:κ×V}{r:List (κ×V)}{k:κ}(e:p.1=k):De (p::r) k=some p.2:=by simp[De,sj,e]
theorem zv{p:κ×V}{r:List (κ×V)}{k:κ}(e:¬p.1=k):De (p::r) k=De r k:=by simp[De,sj,e]
theorem MY(k:κ):∀kvs:List (κ×V),(kvs.any λkv=>decide (kv.1=k))=(De kvs k).isSome
 |[]=>rfl
 |p::r=>by
  rw[List.any_cons];by_cases e:p.1=k
  ·simp only[zu e,e8 e,Bool.true_or,Option.isSome_some]
  ·rw[zv e,ff e,Bool.false_or];exact MY k r
theorem FE(kvs:List (κ×V))(k:κ)(v:V):(putK kvs k v).length<=kvs.length+1:=by
 unfold putK;split
 ·rw[ah];lia
 ·rw[ay,aT,List.length_nil];lia
theorem Bc.Ep{o:Option V}{u:Option Value}(r:Bc o u):o.isSome=u.isSome:=by
 cases o with
 |none=>cases u with
  |none=>rfl
  |some _=>exact (show False from r).elim
 |some _=>cases u with
  |none=>exact (show False from r).elim
  |some _=>rfl
theorem Bc.getD{o:Option V}{u:Option Value}{d:V}{d':Value}(r:Bc o u)(a:RelV d d'):RelV (o.getD d) (u.getD d'):=by
 cases o with
 |none=>cases u with
  |none=>exact a
  |some _=>exact (show False from r).elim
 |some _=>cases u with
  |none=>exact (show False from r).elim
  |some _=>exact r
theorem KV.val{kvs:List (κ×V)}{vs:List (κ×Value)}(r:KV kvs vs)(k:κ):Bc (De kvs k) (valueAt vs k):=by
 unfold KV at r;induction r with
 |nil=>exact lG
 |@cons p q i c h t g =>
  obtain⟨d,f⟩:=h;by_cases e:p.1=k
  ·have a:q.1=k:=d.symm.trans e
   have b:valueAt (q::c) k=some q.2:=by simp[valueAt,sj,a]
   rw[zu e,b];exact f
  ·have a:¬q.1=k:=λz=>e (d.trans z)
   have b:valueAt (q::c) k=valueAt c k:=by simp[valueAt,sj,a]
   rw[zv e,b];exact g
theorem KV.any{kvs:List (κ×V)}{vs:List (κ×Value)}(r:KV kvs vs)(k:κ):(kvs.any λkv=>decide (kv.1=k))=vs.any λkv=>decide (kv.1=k):=by
 unfold KV at r;induction r with
 |nil=>rfl
 |cons h t a=>rw[List.any_cons,List.any_cons,a,h.1]
theorem KV.repl{kvs:List (κ×V)}{vs:List (κ×Value)}(r:KV kvs vs)(k:κ){y:V}{u:Value}(d:RelV y u) :
 KV (kvs.map λkv=>if kv.1=k then (kv.1,y) else kv) (vs.map λkv=>if kv.1=k then (kv.1,u) else kv):=by
 unfold KV at r ⊢;induction r with
 |nil=>exact .nil
 |@cons p q f g h t c =>
  rw[bL,bL];refine .cons ?_ c;obtain⟨a,b⟩:=h;by_cases e:p.1=k
  ·rw[ee e,ee (a.symm.trans e)];exact⟨a,d⟩
  ·rw[eH e,eH (λz=>e (a.trans z))];exact⟨a,b⟩
theorem KV.put{kvs:List (κ×V)}{vs:List (κ×Value)}(r:KV kvs vs)(k:κ){y:V}{u:Value}(a:RelV y u):KV (putK kvs k y) (stored vs k u):=by
 unfold putK stored;rw[r.any k];by_cases e:(vs.any λkv=>decide (kv.1=k))=true
 ·rw[ee e,ee e];exact r.repl k a
 ·rw[eH e,eH e];exact Paired.snoc r ⟨rfl,a⟩
theorem KV.length{kvs:List (κ×V)}{vs:List (κ×Value)}(r:KV kvs vs):kvs.length=vs.length:=Paired.length r
end
theorem Rv{P:Program}{w:World}{k:Key}{u:Value}(r:RelV (kV k) u):(ia P w).is k u=true:=by
 cases k with
 |inl i=>obtain⟨t,e⟩:=(show ∃t,u=Value.int i t from r);subst e;exact MM P w i t
 |inr x=>obtain⟨t,e⟩:=(show ∃t,u=Value.str x t from r);subst e;exact MN P w x t
theorem Ku{P:Program}{w:World}:∀{a:List Key} {us:List Value},bY (a.map kV) us->ItemsAre (ia P w) a us
 |[],_,r=>by rw[List.map_nil] at r;cases r;exact .nil
 |k::a,_,r=>by
  rw[bL] at r;cases r with
  |cons h t=>exact .cons (Rv h) (Ku t)
abbrev KT(H:Hp):List (List Key×V)->List (List Key×Addr×Value)->Prop:=Paired λp q=>p.1=q.1/\H q.2.1=some (.tup (p.1.map kV))/\RelV p.2 q.2.2
theorem KT.val{H:Hp}{kvs:List (List Key×V)}{xs:List (List Key×Addr×Value)}(r:KT H kvs xs)(k:List Key):Bc (De kvs k) ((atKey xs k).map (·.2)):=by
 induction r with
 |nil=>exact lG
 |@cons p q i c h t g =>
  obtain⟨d,_,f⟩:=h;by_cases e:p.1=k
  ·have a:q.1=k:=d.symm.trans e
   have b:atKey (q::c) k=some q.2:=by simp[atKey,sj,a]
   rw[zu e,b];exact f
  ·have a:¬q.1=k:=λz=>e (d.trans z)
   have b:atKey (q::c) k=atKey c k:=by simp[atKey,sj,a]
   rw[zv e,b];exact g
theorem KT.repl{H:Hp}{kvs:List (List Key×V)}{xs:List (List Key×Addr×Value)}(r:KT H kvs xs)(k:List Key){y:V}{u:Value}(f:RelV y u) :
 KT H (kvs.map λkv=>if kv.1=k then (kv.1,y) else kv) (xs.map (putAt k u)):=by
 induction r with
 |nil=>exact .nil
 |@cons p q g i h t d =>
  rw[bL,bL];refine .cons ?_ d;obtain⟨a,b,c⟩:=h;unfold putAt;by_cases e:p.1=k
  ·rw[ee e,ee (a.symm.trans e)];exact⟨a,b,f⟩
  ·rw[eH e,eH (λz=>e (a.trans z))];exact⟨a,b,c⟩
theorem KT.put{H:Hp}{kvs:List (List Key×V)}{xs:List (List Key×Addr×Value)}(r:KT H kvs xs)(k:List Key){b:Addr}{y:V}{u:Value}(c:H b=some (.tup (k.map kV)))(a:RelV y u) :
 KT H (putK kvs k y) (storedH xs k b u):=by
 have e:(kvs.any λkv=>decide (kv.1=k))=(atKey xs k).isSome:=by
  rw[MY,(r.val k).Ep,Option.isSome_map]
 unfold putK storedH;rw[e];by_cases q:(atKey xs k).isSome=true
 ·rw[ee q,ee q];exact r.repl k a
 ·rw[eH q,eH q];exact Paired.snoc r ⟨rfl,c,a⟩
theorem KT.keeps{H c:Hp}{kvs:List (List Key×V)}{xs:List (List Key×Addr×Value)}(r:KT H kvs xs)(d:∀b a,H b=some (.tup a)->c b=some (.tup a)):KT c kvs xs :=
 Paired.Xz r λ_ _ z=>⟨z.1,d _ _ z.2.1,z.2.2⟩
section
variable{P:Program}{w:World}{H:Hp}{h:Heap}{a:Addr}
theorem ZU{u:HO}(ok:zl P w H h)(e:Rd H a u):fH P w H h a u:=e.ok ok
theorem Rx{kvs:List (Key×V)}(ok:zl P w H h)(e:Rd H a (.dK kvs)):kvs.length<=sizeLine/\(a==sysModules)=false/\∃vs,KV kvs vs/\h.DictOf (ia P w) a vs :=
 show fH P w H h a (.dK kvs) from ZU ok e
theorem ad9{kvs:List (Key×V)}(ok:zl P w H h)(e:H a=some (.dK kvs)):kvs.length<=sizeLine/\(a==sysModules)=false/\∃vs,KV kvs vs/\h.DictOf (ia P w) a vs:=Rx ok (.inl e)
theorem LC{c:List Key}(ok:zl P w H h)(e:H a=some (.tup (c.map kV))):(tupleKind (ia P w)).is h c a:=by
 obtain⟨_,b,r,o,d,g,n,f⟩:=(show fH P w H h a (.tup (c.map kV)) from ok a _ e);exact⟨o,b.toArray,n,d,g,f,by simpa using Ku r⟩
theorem Ry{kvs:List (List Key×V)}(ok:zl P w H h)(e:Rd H a (.dT kvs)):kvs.length<=sizeLine/\(a==sysModules)=false /\
 ∃xs,KT H kvs xs/\h.DictOfH (tupleKind (ia P w)) a xs:=by
 obtain⟨z,y,xs,r,o,k,c,j,f,g,n,d⟩:=(show fH P w H h a (.dT kvs) from ZU ok e);refine⟨z,y,xs,r,o,k,c,j,f,g,n,λx hx=>?_,d⟩;have b:∀{l:List (List Key×V)} {m:List (List Key×Addr×Value)},KT H l m->∀x∈m,(tupleKind (ia P w)).is h x.1 x.2.1:=by
  intro l m q;induction q with
  |nil=>intro x hx;exact nomatch hx
  |@cons p q s u hq t i =>
   intro x hx;rcases aW.mp hx with e|hx
   ·subst e
    exact LC ok (by rw[<- hq.1];exact hq.2.1)
   ·exact i x hx
 exact b r x hx
theorem aea{kvs:List (List Key×V)}(ok:zl P w H h)(e:H a=some (.dT kvs)):kvs.length<=sizeLine/\(a==sysModules)=false /\
 ∃xs,KT H kvs xs/\h.DictOfH (tupleKind (ia P w)) a xs:=Ry ok (.inl e)
end
def JF(H:Hp)(a:Addr)(y:V)(r:Option V):Prop :=
 (∃kvs k,Rd H a (.dK kvs)/\y=kV k/\r=De kvs k)∨∃kvs k b,Rd H a (.dT kvs)/\y=.ref b/\H b=some (.tup (k.map kV))/\r=De kvs k
def MZ(H:Hp)(a:Addr)(y v:V)(H':Hp):Prop :=
 (∃kvs k,H a=some (.dK kvs)/\y=kV k/\kvs.length<sizeLine/\H'=upd H a (.dK (putK kvs k v))) ∨
 ∃kvs k b,H a=some (.dT kvs)/\y=.ref b/\H b=some (.tup (k.map kV))/\kvs.length<sizeLine/\H'=upd H a (.dT (putK kvs k v))
theorem JF.k{H:Hp}{a:Addr}{kvs:List (Key×V)}{k:Key}(e:H a=some (.dK kvs)):JF H a (kV k) (De kvs k):=.inl ⟨kvs,k,.inl e,rfl,rfl⟩
theorem JF.t{H:Hp}{a b:Addr}{kvs:List (List Key×V)}{k:List Key}(e:H a=some (.dT kvs))(c:H b=some (.tup (k.map kV))):JF H a (.ref b) (De kvs k):=.inr ⟨kvs,k,b,.inl e,rfl,c,rfl⟩
theorem MZ.k{H:Hp}{a:Addr}{kvs:List (Key×V)}{k:Key}{v:V}(e:H a=some (.dK kvs))(hl:kvs.length<sizeLine):MZ H a (kV k) v (upd H a (.dK (putK kvs k v))):=.inl ⟨kvs,k,e,rfl,hl,rfl⟩
theorem MZ.t{H:Hp}{a b:Addr}{kvs:List (List Key×V)}{k:List Key}{v:V}(e:H a=some (.dT kvs))(c:H b=some (.tup (k.map kV)))(hl:kvs.length<sizeLine) :
 MZ H a (.ref b) v (upd H a (.dT (putK kvs k v))):=.inr ⟨kvs,k,b,e,rfl,c,hl,rfl⟩
section
variable{X:Cx}{pins:List (Addr×Obj)}{σ:St}{H:Hp}{s:Shared}{a:Addr}{y v:V}{u r:Value}{o:Option V}{A:Around}{E:Value->Shared->Prop}
theorem Inv.big(I:Inv X pins σ H s):sysModules<s.heap.objs.size:=by
 have h:mainGlobals<s.heap.objs.size:=(I.mod.glob.keeps I.bk).lt;exact Nat.lt_trans (!_) h
theorem ahs{Q:Value->Shared->Prop}(m:A.units+1<cLine)(I:Inv X pins σ H s)(g:JF H a y o)(j:RelV y u)(h:∀s',Inv X pins σ H s'->Q (.bool o.isSome) s') :
 wpAny (model X.prog X.w) A (compareOp .In u (.ref a)) Q E s:=by
 rcases g with ⟨d,k,e,f,l⟩|⟨d,k,b,e,f,n,l⟩
 ·subst f
  obtain⟨z,i,p,rel,c⟩:=Rx I.hok e;refine wpAny_in_of (Rv j) i c.mapOf ?_;rw[<- (rel.val k).Ep,<- l];exact h _ (I.tok _)
 ·subst f
  cases (show u=Value.ref b from j);obtain⟨z,i,r,rel,c⟩:=Ry I.hok e;refine wpAny_in_heap (tupleKind_room_in1 m) (LC I.hok n) i c ?_;have q:=(rel.val k).Ep;rw[Option.isSome_map] at q;rw[<- q,<- l];exact h _ (I.tok _)
theorem Rz{h':Heap}{t':Nat}{ob:HO}(I:Inv X pins σ H s)(f:Cs (H a))(h:Heap.SameBut a s.heap h')(d:∃q,h'.get? a=some q)(c:fH X.prog X.w (upd H a ob) h' a ob) :
 Inv X pins σ (upd H a ob) {s with heap:=h',toks:=t'} :=
 I.write (x:=a) (e:=a) f (.inl rfl) (λb q g z=>(h.2 b g).trans z) d c
theorem abj{P:Program}{w:World}{d:Hp}{h':Heap}{kvs:List (Key×V)}{vs:List (Key×Value)}(z:kvs.length<=sizeLine)(c:(a==sysModules)=false)(b:KV kvs vs)(dd:h'.DictOf (ia P w) a vs) :
 fH P w d h' a (.dK kvs):=⟨z,c,vs,b,dd⟩
theorem S9{F:Hp}{Q:Unit->Shared->Prop}(R:A.units+1<cLine)(I:Inv X pins σ H s)(g:MZ H a y v F)(C:RelV y u)(D:RelV v r)(h:∀s',Inv X pins σ F s'->Q () s') :
 wpAny (model X.prog X.w) A (setItem (.ref a) u r) Q E s:=by
 rcases g with ⟨d,k,e,n,l,t⟩|⟨d,k,b,e,n,G,l,t⟩
 ·subst n t
  obtain⟨z,o,M,rel,j⟩:=ad9 I.hok e;have p:M.length<=sizeLine:=by rw[<- rel.length];exact z
  have i:(putK d k v).length<=sizeLine:=by have:=FE d k v;lia
  refine wpAny_setItem_pairs (hsz:=p) (Rv C) j λB f m=>h _ ?_;have S:∃q,B.get? a=some q:=let ⟨q,_,_,hq,_⟩:=f;⟨q,hq⟩;exact Rz I (by rw[e];exact lG) m S (abj i o (rel.put k D) f)
 ·subst n t
  cases (show u=Value.ref b from C);obtain⟨z,o,N,rel,j⟩:=aea I.hok e;have p:N.length<=sizeLine:=by rw[<- Paired.length rel];exact z
  have i:(putK d k v).length<=sizeLine:=by have:=FE d k v;lia
  refine wpAny_setItem_heap (hsz:=p) (tupleKind_room_in1 R) (LC I.hok G) j λB f m=>h _ ?_;obtain⟨q,P,J,hq,L,O,T,_,K⟩:=f;refine Rz I (by rw[e];exact lG) m ⟨q,hq⟩ ⟨i,o,_,(rel.put k G D).keeps λc U x=>?_,q,P,J,hq,L,O,T,K⟩;rw[aC (mX x e (λz=>nomatch z))];exact x
end
def aht(ty td:TE):TE:=λσ H Q=>ty σ H λy H1=>td σ H1 λx H2=>∃a o,x=.ref a/\JF H2 a y o/\Q (.bl o.isSome) H2
def aeb(td ty tv:TE):TS:=λD σ H=>tv σ H λv H1=>td σ H1 λx H2=>ty σ H2 λy H3=>∃a H4,x=.ref a/\MZ H3 a y v H4/\D.nx σ H4
section
variable{X:Cx}{o i e value:Expr}{pos pos' tpos:Pos}{td ty tv:TE}
theorem abk(q:X.A.units+1<cLine)(w:PE X i ty)(z:PE X o td):PC X .In i o (aht ty td):=by
 intro b s c H Q I h;refine gO (w b s c H _ I h) λC m ⟨y,k,j,l,d⟩=>gO (z b m c k _ j d) λu D ⟨x,r,p,n,a,f,e,g,v⟩=>?_;subst e;obtain rfl:u=Value.ref a:=n;exact ahs q p g l λB t=>⟨.bl f.isSome,r,t,rfl,v⟩
theorem RA(B:X.A.units+1<cLine)(L:PE X o td)(J:PE X i ty)(K:PE X value tv)(k:swapsWith value (some (.Subscript o i pos')) pos.line X.env=pure false) :
 PS X (.Assign [.Subscript o i pos'] value pos) (aeb td ty tv):=by
 intro b s c H D I h;refine wpAny_Assign_Subscript (gO (K b s c H _ I h) λr m ⟨v,j,f,n,d⟩=>gO (L b m c j _ f d) λu E ⟨x,C,z,w,G⟩=>gO (J b E c C _ z G) λN M ⟨y,O,F,l,a,q,e,g,t⟩=>?_) k;subst e;obtain rfl:u=Value.ref a:=w;exact S9 B F g l n λP p=>⟨c,q,p,t⟩
end
theorem Vt{P:Program}{w:World}{H:Hp}(h:Heap)(a:sysModules<h.objs.size):fH P w H (h.push {cls:=.type "dict",data:=.dict #[]}) h.objs.size (.dK []) :=
 ⟨aR _,beq_eq_false_iff_ne.mpr (bM (aZ a)),[],.nil,Heap.DictOf.new h⟩
theorem Vu{P:Program}{w:World}{H:Hp}(h:Heap)(a:sysModules<h.objs.size):fH P w H (h.push {cls:=.type "dict",data:=.dict #[]}) h.objs.size (.dT []) :=
 ⟨aR _,beq_eq_false_iff_ne.mpr (bM (aZ a)),[],.nil,_,#[],0,Heap.get?_push_size _ rfl,⟨rfl,rfl,rfl⟩,rfl,rfl,lH⟩
def abl:TE:=λ_ H Q=>∀p,H p=none->Q (.ref p) (upd H p (.dK []))
def abm:TE:=λ_ H Q=>∀p,H p=none->Q (.ref p) (upd H p (.dT []))
section
variable{X:Cx}{pos:Pos}
theorem Vv:PE X (.Dict [] [] pos) abl:=λb s c H Q I h =>
 wpAny_Dict_empty ⟨.ref s.heap.objs.size,_,I.laid (a:=s.heap.objs.size) (o:=.dK []) (t':=s.toks) (λ_ _ q=>Heap.get?_push_of_some _ q) (av _) (Vt s.heap I.big),rfl,h _ (I.hok.fresh (av _))⟩
theorem M0:PE X (.Dict [] [] pos) abm:=λb s c H Q I h =>
 wpAny_Dict_empty ⟨.ref s.heap.objs.size,_,I.laid (a:=s.heap.objs.size) (o:=.dT []) (t':=s.toks) (λ_ _ q=>Heap.get?_push_of_some _ q) (av _) (Vu s.heap I.big),rfl,h _ (I.hok.fresh (av _))⟩
end
structure M1(X:Cx)(o:Expr)(m:Str)(apos:Pos)(e:Expr)(cpos:Pos):Prop where
 base:attributeBase o m X.env (eval o X.env)=eval o X.env
 few:((backTo cpos (starEach [e] X.env)).all (λx=>!x.1)&&(backToKw cpos (keywordEach [] X.env)).all (λx=>x.1.isSome)
  && decide (([e]:List Expr).length+([]:List Keyword).length+(if ([]:List Keyword).isEmpty then 0 else 1)<30))=true
 line:(apos.endLine==cpos.line)=true
 trees:backTo cpos (starEach [e] X.env)=[(false,eval e X.env)]
def IsD(H:Hp)(a:Addr):Prop:=(∃kvs,Rd H a (.dK kvs))∨∃kvs,Rd H a (.dT kvs)
theorem abn{X:Cx}{f:List (Addr×Obj)}{k:St}{H:Hp}{s:Shared}{a:Addr}(I:Inv X f k H s)(d:IsD H a) :
 s.TypeIs (.ref a) "dict" /\ (∀b,Value.ref a=.ref b->∃ob,s.heap.get? b=some ob/\ob.dict=none)/\(a==sysModules)=false:=by
 rcases d with ⟨i,e⟩|⟨i,e⟩
 ·obtain⟨_,j,l,_,c⟩:=Rx I.hok e
  refine⟨c.typeIs,λb q=>?_,j⟩;cases q;obtain⟨ob,_,_,h,g,_⟩:=c;exact⟨ob,h,g.2.1⟩
 ·obtain⟨_,j,m,_,c⟩:=Ry I.hok e
  refine⟨c.typeIs,λb q=>?_,j⟩;cases q;obtain⟨ob,_,_,h,g,_⟩:=c;exact⟨ob,h,g.2.1⟩
section
variable{X:Cx}{pins:List (Addr×Obj)}{σ:St}{H:Hp}{s:Shared}{a:Addr}{y d:V}{u r:Value}{o:Option V}{A:Around}{E:Value->Shared->Prop}
theorem abo{Q:Value->Shared->Prop}(p:A.units+1<cLine)(I:Inv X pins σ H s)(g:JF H a y o)(m:RelV y u)(h:∀j s',Inv X pins σ H s'->RelV (o.getD .fk) j->Q j s') :
 wpAny (model X.prog X.w) A (call (.builtin "dict.get") [.ref a,u]) Q E s:=by
 rcases g with ⟨d,k,e,f,l⟩|⟨d,k,b,e,f,q,l⟩
 ·subst f
  obtain⟨z,i,r,rel,c⟩:=Rx I.hok e;refine call_meetsIn PySem.F.slot_dict_get c.typeIs PySem.F.entry_dict_get (PySem.F.args_dict_get_2 _ _) (meets_dict_get (ia X.prog X.w) a (Rv m) i) ⟨_,c.mapOf,h _ _ (I.tok _) ?_⟩;rw[l];exact (rel.val k).getD rfl
 ·subst f
  cases (show u=Value.ref b from m);obtain⟨z,i,n,rel,c⟩:=Ry I.hok e;refine call_meetsIn PySem.F.slot_dict_get c.typeIs PySem.F.entry_dict_get (PySem.F.args_dict_get_2 _ _) (meetsH_dict_get (tupleKind (ia X.prog X.w)) a b i) ⟨tupleKind_room_in1 p,k,n,LC I.hok q,c,h _ _ (I.tok _) ?_⟩;rw[l];exact (rel.val k).getD rfl
end
def abp(td ty:TE):TE:=λσ H Q=>td σ H λx H1=>∃a,x=.ref a/\IsD H1 a/\ty σ H1 λy H2=>∃o,JF H2 a y o/\Q (o.getD .fk) H2
section
variable{X:Cx}{o e f:Expr}{apos cpos:Pos}{td ty tx:TE}
theorem Vw(t:X.A.units+1<cLine)(D:PE X o td)(z:PE X e ty)(m:M1 X o "get" apos e cpos):PE X (.Call (.Attribute o "get" apos) [e] [] cpos) (abp td ty):=by
 intro b s i H Q I h;refine wpAny_Call_method m.base m.few m.line PySem.F.plainAttrs_dict PySem.F.slot_dict_get PySem.F.type_dict_get (gO (D b s i H _ I h) λu p ⟨x,l,f,q,a,k,d,j⟩=>?_);subst k;obtain rfl:u=Value.ref a:=q;obtain⟨w,E,_⟩:=abn f d;refine⟨w,E,?_⟩;rw[m.trees];refine Calls.callWith_builtin rfl (Calls.evalArgs_plain (Calls.spliced_cons (gO (z b p i l _ f j) λL M ⟨y,v,r,n,K,g,C⟩=>Calls.spliced_nil ?_)));exact abo t r g n λJ G B c=>⟨_,v,B,c,C⟩
end
end L2
namespace Att
open PySem PySem.W PySem.Calls PyProof.Rows
theorem Gp{P:Params}{h:Heap}:∀(ns:List Int) (vs:List Value),WellAll P h vs (ns.map WData.int)->IntsAre vs ns:=by
 intro ns;induction ns with
 |nil =>
  intro vs w;rw[List.map_nil] at w;cases w;exact .nil
 |cons n ns c =>
  intro vs w;rw[bL] at w;cases w with
  |cons a b =>
   cases a;exact .cons _ _ (c _ b)
theorem Td{l:OpenLaw}{n:Nat}(o:l.most=some n){P:Params}{h:Heap}{args:List WData}{b:List Value}
 (c:l.row.toRowW.claim.pre args=true) (k:WellAll P h b args) :
 ∃a vs ns,b=[Value.ref a]/\args=[WData.list (ns.map WData.int)]/\h.get? a=some {cls:=.type "list",data:=.seq vs.toArray}/\IntsAre vs ns/\ns.length<=n:=by
 have j:WShape.hasAll [] args [.list .int]=true:=(pre_splitW c).1;have m:l.pre.holds [] {args:=args}=true:=(pre_splitW c).2;obtain⟨d,r,rfl,w,p⟩:=hasAllW_cons j;obtain rfl:=hasAllW_nil p;obtain⟨y,rfl,u⟩:=hasW_list w;obtain⟨ns,rfl⟩:=items_int u;have f:ns.length<=n:=by
  unfold OpenLaw.pre at m;have i:(WTm.not (.lt (.lit (.int (n:Int))) (.len (.arg 0)))).holds [] {args:=[.list (ns.map .int)]}=true:=by
   have i:=(holds_andW m).1;rw[o] at i;exact i
  have g:=condW_of i (w_not (w_lt w_lit (w_len_list (w_arg rfl))));rw[ah] at g;refine Nat.le_of_not_lt λq=>?_;have t:(n:Int)<((ns.length:Nat):Int):=∅
  first
   | (rw[e8 t] at g;exact eL g (!_))
   | (simp at g;lia)
 cases k with
 |cons s v =>
  cases v;cases s with
  |list x e=>exact⟨_,_,ns,rfl,rfl,x,Gp ns _ e,f⟩
theorem Te(l:OpenLaw)(args:List WData):l.row.toRowW.claim.post args (.bool true) args=true :=
 postW_of (r:=l.row.toRowW) (X:=(true==true))
  (show WShape.has [] (.bool true) .bool=true by first|rfl|decide|simp[WShape.has,WShape.arms,WShape.armsAll])
  (show (WTm.eq .res (.lit (.bool true))).value [] {args:=args,res:=some (.bool true),after:=args}=some (.bool (true==true)) from w_eq_bool (w_res rfl) w_lit) rfl
theorem M2{l:OpenLaw}{n:Nat}{q:Program}{c:List Str}{XP:(Str->Option Value)->Heap->Prop}{F:World->Heap->Prop}{d:DefRec}
 (H:l.most=some n) (x:d.params.defaults=[])
 (call:∀(w:World) (e b:Shared) (t u:Str->Option Value) (k:Addr) (o:Obj) (y p g:Value) (a:Addr) (vs:List Value) (ns:List Int),
  Ground q c [] XP w e t u b.heap->F w b.heap ->
  b.heap.get? k=some o->o.data=.func (docDef d.name d.params d.body d.scope y p g)->b.heap.CodeRec p d.name->t d.name=some (.ref k) ->
  b.heap.get? a=some {cls:=.type "list",data:=.seq vs.toArray}->IntsAre vs ns->ns.length<=n->b.gens=#[] ->
  codeAny (model l.prog w) callerA (.call (.ref k) ⟨[.ref a],[]⟩) (λr s=>r=.ok (.ret (.bool true))/\OldK b.heap s.heap/\s.os=b.os/\AllBare s.gens) b) :
 WalkO q c XP F l.row.toRowW d [] (λf vs=>PySem.call f vs):=by
 intro w e b t u G Y k o y p g Q kV R P v D A L E B S j C M z I;obtain rfl:Q=.none:=Dflts.none D x;obtain rfl:kV=.none:=Dflts.noKw D;obtain⟨a,vs,ns,rfl,rfl,m,h,i⟩:=Td H j z;refine enter_call (codeAny_mono (call w e b t u k o y p g a vs ns G Y R (fd_plain P) v A m h i L) λr s hq=>?_);obtain⟨rfl,J,K,O⟩:=hq;exact⟨.inl ⟨.bool true,.bool true,[],rfl,λ_=>rfl,.bool true,Te l _,λ_=>⟨List.Pairwise.nil,λ_ N=>(nomatch N)⟩⟩,J,K,O⟩
end Att
namespace L2
open PySem PySem.Spec PyProof.Rows
theorem Kv:∀{vs:List Value} {ns:List Int},IntsAre vs ns->bY (ns.map V.int) vs
 |_,_,.nil=>.nil
 |_,_,.cons n t h=>.cons ⟨t,rfl⟩ (Kv h)
def abq(H:Hp):Prop:=∀b,H b=none∨∃o xs,H b=some (.AM o (.lst xs))
theorem Vx{P:Program}{w:World}{K:af}{D N:Str->Option Value}{CX:S2}{k:Nat}{S a:Addr}{Y:FuncData}{x:Str}{sp:Sp}{c:Shared}{vs:List Value}{ns:List Int}
 (U:K.In c.heap) (t:c.heap.Ns mainGlobals D) (f:c.heap.Ns builtinsNs N) (M:∀x:Str,x≠"__name__" -> N x=bootBuiltins x) (C:c.heap.NoLimit) (hg:c.gens=#[])
 (I:c.heap.get? a=some {cls:=.type "list",data:=.seq vs.toArray}) (hi:IntsAre vs ns) (X:ns.length<=sizeLine) (hr:jT k callerA)
 (F:∀base:Heap,K.In base->base.Ns mainGlobals D->ck P w K D base CX k S Y [x] sp) (l:∀(s:Shared) (u:Value),BindsTo s Y ⟨[u],[]⟩ [(x,u)])
 (UG:∀H:Hp,abq H->bS K H a (ns.map V.int)->sp [.ref a] H (λv _=>v=.bl true) λ_ _ _=>False)
 (T:∀H e g,CX [] H c (λ_ _ _=>False) e g->False) :
 codeAny (model P w) callerA (.call (.ref S) ⟨[.ref a],[]⟩) (λr g=>r=.ok (.ret (.bool true))/\OldK c.heap g.heap/\g.os=c.os/\AllBare g.gens) c:=by
 have W:=Kv hi;have O:=hi.length;have j:∀H:Hp,abq H->bS K H a (ns.map V.int)->zl P w H c.heap->(∀b,H b≠none->b=a)->(H a≠none->K.lookup a=none) ->
  codeAny (model P w) callerA (.call (.ref S) ⟨[.ref a],[]⟩) (λr g=>r=.ok (.ret (.bool true))/\OldK c.heap g.heap/\g.os=c.os/\AllBare g.gens) c:=by
  intro H hO hS E hA hK;have Z:∀{b:Addr} {o:Obj},c.heap.get? b=some o->H b=none->(Lp c.heap H).get? b=some o:=λe n=>UQ e n;have J:∀{b:Addr} {o:Obj} {A:Array DictEntry} {B:Nat},c.heap.get? b=some o->o.data=.dict A B->H b=none:=λ{b o A B} e d=>by
   cases q:H b with
   |none=>rfl
   |some u =>
    have R:b=a:=hA b (by rw[q];simp);subst R;rw[I] at e;cases e;have d':Data.seq vs.toArray _=Data.dict A B:=d;cases d'
  have i:∀{b:Addr} {m:Str->Option Value},c.heap.Ns b m->(Lp c.heap H).Ns b m:=λ{b m} ⟨o,A,B,e,d,r⟩=>⟨o,A,B,Z e (J e d),d,r⟩;have y:K.In (Lp c.heap H):=λb o e=>Z (U b o e) (by
   cases q:H b with
   |none=>rfl
   |some u =>
    have R:b=a:=hA b (by rw[q];simp);subst R;rw[hK (by rw[q];simp)] at e;cases e)
  have hM:Mod K D (Lp c.heap H):=⟨y,i t,⟨N,i f,M⟩,let ⟨mc,h1,h2⟩:=C;⟨mc,i h1,h2⟩⟩;have e0:PY P w K D (Lp c.heap H) callerA [] c H:=⟨rfl,hM,λb o e=>XA e,Nat.le_of_eq (SR _ _),trivial,λb f=>eL (show b∈([]:List Addr) from f) (-_),E,.of_eq hg⟩;refine codeAny_mono ((F _ y (i t)).run callerA [] c H ⟨[.ref a],[]⟩ [.ref a] [.ref a] _ _ hr e0 (l c (.ref a)) (.cons rfl .nil) (UG H hO hS)) λr g h=>?_;cases r with
  |error e=>exact (T H e g h).elim
  |ok fl =>
   cases fl with
   |next=>exact jS h
   |brk=>exact jS h
   |cont=>exact jS h
   |ret u =>
    obtain⟨v,H',os,p,un,L,r',q⟩:=h;have q':v=.bl true:=q;subst q';obtain rfl:u=Value.bool true:=r';refine⟨rfl,OldK.of_keep λb o e=>?_,os,p⟩;cases q:H b with
    |none=>exact un.keep b o e q (by intro z;exact eL (show b∈([]:List Addr) from z) (-_)) (-_)
    |some u =>
     rcases hO b with z|⟨ob,xs,z⟩
     ·rw[q] at z;cases z
     ·have z2:=un.Be b ob _ z
      obtain⟨e1,_⟩:=E b _ z;obtain⟨e2,_⟩:=L b _ z2;rw[e] at e1;cases e1;exact e2
 cases Q:K.lookup a with
 |some o =>
  have e:=U a o Q;rw[I] at e;cases e;refine j (λ_=>none) (λ_=>.inl rfl) (.inr ⟨_,vs.toArray,_,Q,rfl,rfl,rfl,by rw[aL,O];exact X,by simpa using W⟩) (λb u z=>by have G:(none:Option HO)=some u:=z;cases G) (λb z=>eL rfl z) λz=>eL rfl z
 |none =>
  refine j (λb=>if b=a then some (.AM {cls:=.type "list",data:=.seq vs.toArray} (.lst (ns.map V.int))) else none) (λb=>?_) (.inl (.inr ⟨{cls:=.type "list",data:=.seq vs.toArray},ee rfl⟩)) (λb u z=>?_) (λb z=>?_) λ_=>Q
  ·by_cases f:b=a
   ·exact .inr ⟨_,_,ee f⟩
   ·exact .inl (eH f)
  ·by_cases f:b=a
   ·have G:=(ee f).symm.trans z
    cases G;subst f;exact⟨I,by rw[ah];exact X,vs,_,W,I⟩
   ·have G:=(eH f).symm.trans z
    cases G
  ·by_cases f:b=a
   ·exact f
   ·exact eL (eH f) z
theorem XT{l:PySem.W.OpenLaw}{n k:Nat}{q:Program}{i:List Str}{XP:(Str->Option Value)->Heap->Prop}{E:World->Heap->Prop}{d:DefRec}{K:Params->af}{CX:World->S2}{sp:World->Sp}{x:Str}
 (J:l.most=some n) (z:n<=sizeLine) (A:d.params.defaults=[]) (S:jT k callerA)
 (N:∀(w:World) (h:Heap),E w h->(K w.params).In h)
 (F:∀(w:World) (m:Str->Option Value) (t:Addr) (h:Heap),(K w.params).In h->h.Ns mainGlobals m->m d.name=some (.ref t) ->
  ∃B:FuncData,(∀(s:Shared) (u:Value),BindsTo s B ⟨[u],[]⟩ [(x,u)]) /\
   ∀base:Heap,(K w.params).In base->base.Ns mainGlobals m->ck l.prog w (K w.params) m base (CX w) k t B [x] (sp w))
 (P:∀(w:World) (H:Hp) (a:Addr) (ns:List Int),ns.length<=n->abq H->bS (K w.params) H a (ns.map V.int)->sp w [.ref a] H (λv _=>v=.bl true) λ_ _ _=>False)
 (y:∀(w:World) (H:Hp) (s:Shared) (e:Value) (s':Shared),CX w [] H s (λ_ _ _=>False) e s'->False) :
 PySem.W.WalkO q i XP E l.row.toRowW d [] (λf vs=>PySem.call f vs):=by
 refine Att.M2 J A λw I p m mb t o pm Z X a vs ns G Y ho hd Q C r j c R=>?_;have D:=N w _ Y;obtain⟨B,U,L⟩:=F w m t _ D G.T.g C;exact Vx D G.T.g G.T.b G.T.builtins G.T.nolimit R r j (aF c z) S L U (λH O M=>P w H a ns c O M) λH e s'=>y w H p e s'
noncomputable def inClass(s:Stmt)(j:Nat):Stmt:=match s with
 |.ClassDef _ _ _ body _ _ _ _ _ _ _=>body.getD j (.Pass ⟨0,0,0,0⟩)
 |_=>.Pass ⟨0,0,0,0⟩
noncomputable def jC(s:Stmt):Arguments:=match s with
 |.FunctionDef _ a _ _ _ _ _ _ _ _=>a
 |_=>{posonlyargs:=[],args:=[],vararg:=none,kwonlyargs:=[],kw_defaults:=[],kwarg:=none,defaults:=[]}
noncomputable def fQ(s:Stmt):List Stmt:=match s with
 |.FunctionDef _ _ b _ _ _ _ _ _ _=>b
 |_=>[]
noncomputable def aA(s:Stmt):Scope:=match s with
 |.FunctionDef _ _ _ _ _ _ sc _ _ _=>sc
 |_=>{kind:=.function,names:=[],isGenerator:=false,isCoroutine:=false}
abbrev iC:S2:=λ_ _ _ _ _ _=>False
abbrev E0:XK:=λ_ _ _=>False
theorem mK{X:Cx}:sr iC X E0:=λ_ _ _ _ _ _ _ h=>h.elim
structure Px(K:af)(x qual:Str)(st:Stmt)(f:Addr)(fd:FuncData):Prop where
 ex:∃(oc:Value) (od:Option Addr) (kV doc pm:Value) (an:Option Addr) (cdv ct:Value) (osl:Array (Option Value)),
  fd=eN x qual (jC st) (fQ st) (aA st) .none kV doc pm an cdv ct/\K.lookup f=some ⟨oc,od,.func fd,osl⟩/\jz K cdv qual=true
 kp:dR K (.ref f)=true
section
variable{P:Program}{w:World}{K:af}{mg:Str->Option Value}{base:Heap}
theorem Px.ok{x b:Str}{st:Stmt}{f:Addr}{i:FuncData}{N ps:List Str}{k:Nat}{sp:Sp}(F:Px K x b st f i)(S:aI N ps (aA st))(g:∀vs H Q E,sp vs H Q E->vs.length=ps.length)
 (d:∀(c:Value) (A:Around) (a:List Env) (s:Shared) (H:Hp) (vs:List V) (Q:VK) (E:XK),jT k (A.deeper (envOfC b (aA st) s.heap.objs.size f c))->sp vs H Q E ->
  ∃t,iX (oN iC P w K mg base N b (aA st) f c A a s H E).ZL (fQ st) t/\t {nx:=λ_ m=>Q .fk m,rt:=Q} (start N vs) H):ck P w K mg base iC (k+1) f i ps sp:=by
 obtain⟨p,r,kV,o,v,u,c,y,n,rfl,lk,e⟩:=F.ex;refine Vj lk e S g λA a s H vs Q E l j=>?_;obtain⟨t,h,q⟩:=d c A a s H vs Q E l j;exact⟨t,h.ZL,q⟩
theorem Px.binds{x a:Str}{st:Stmt}{f:Addr}{g:FuncData}{ps:List Str}(F:Px K x a st f g)
 (h:∀(kV c e:Value) (d:Option Addr) (b ct:Value) (us:List Value),us.length=ps.length->bindArgs (eN x a (jC st) (fQ st) (aA st) .none kV c e d b ct) ⟨us,[]⟩=pure (ps.zip us)):Binds K g ps []:=by
 obtain⟨k,l,kV,c,e,d,b,ct,j,rfl,lk,i⟩:=F.ex;exact .all (h kV c e d b ct)
theorem Vy{x a:Str}{st:Stmt}{f:Addr}{i:Value}{j g:Option Addr}{e:Array (Option Value)}{kV d h b ct:Value}(l:K.lookup f=some ⟨i,j,.func (eN x a (jC st) (fQ st) (aA st) .none kV d h g b ct),e⟩)
 (c:jz K b a=true) (k:dR K (.ref f)=true):Px K x a st f (eN x a (jC st) (fQ st) (aA st) .none kV d h g b ct):=⟨⟨i,j,kV,d,h,g,b,ct,e,rfl,l,c⟩,k⟩
end
theorem M3{A:Around}{k:Nat}(a:jT k A):A.units+1<cLine:=bQ (cC (by decide:1<=64) _) a.units
theorem bX{n:Nat}(h:n<=1000):n<sizeLine:=bQ h (!_)
section
variable{X:Cx}
theorem pv(i:Nat){x:Str}{a:Pos}(c:X.N[i]?=some x:=by rfl)(d:Vis X.env.scope x:=by first|exact Or.inl rfl|exact Or.inr (Or.inl rfl)|exact Or.inr (Or.inr rfl))(e:(x==("__debug__" : Str))=false:=by decide)
 (b:(x==("__classdict__" : Str))=false:=by decide):PE X (.Name x a) (Lr i):=aaT c d e b
end
theorem eG{A B:Prop}(h:B):if false=true then A else B:=by
 rw[eH aB];exact h
theorem fK{A B:Prop}(h:A):if true=true then A else B:=by
 rw[ee rfl];exact h
theorem iY{c A B:Prop}[Decidable c](a:c->A)(b:¬c->B):if c then A else B:=by
 by_cases h:c
 ·rw[ee h]
  exact a h
 ·rw[eH h]
  exact b h
def aD(H H':Hp):Prop:=∀b o,H b=some o->H' b=some o
theorem aD.refl(H:Hp):aD H H:=λ_ _ h=>h
theorem aD.trans{H e d:Hp}(a:aD H e)(b:aD e d):aD H d:=λc o h=>b c o (a c o h)
theorem aD.free{H a:Hp}(e:aD H a){l:Addr}(h:a l=Option.none):H l=Option.none:=by
 cases q:H l with
 |none=>rfl
 |some o =>
  rw[e l o q] at h;cases h
theorem aD.seq{K:af}{H b:Hp}{a:Addr}{xs:List V}(e:aD H b)(h:bS K H a xs):bS K b a xs:=by
 rcases h with (h|⟨o,h⟩)|h
 ·exact .inl (.inl (e _ _ h))
 ·exact .inl (.inr ⟨o,e _ _ h⟩)
 ·exact .inr h
theorem Tf{env:Env}{x:Str}{c:Addr}(h:env.cells.lookup x=some c):cellOf env x=pure c:=by
 unfold cellOf;rw[h]
noncomputable def m6(env:Env):List (Str×NameKind)->List (Str×Addr)->List (Str×Addr)
 |[],cs=>cs
 | (n,k)::r,cs=>m6 env r (if k==.free then (n,(env.cells.lookup n).getD 0)::cs else cs)
theorem LD{env:Env}:∀(ns:List (Str×NameKind)) (cs:List (Str×Addr)),(∀n,(n,NameKind.free)∈ns->∃c,env.cells.lookup n=some c) ->
 (forIn (m:=Sem) ns cs λx r=>match x with
  | (a,d)=>if (d==NameKind.free)=true then do let c <- cellOf env a;pure (jR ((a,c)::r)) else pure (jR r))=pure (m6 env ns cs)
 |[],cs,_=>rfl
 | (n,k)::r,cs,h=>by
  rw[List.forIn_cons];by_cases b:(k==NameKind.free)=true
  ·have g:k=.free:=by simpa using b
   obtain⟨c,e⟩:=h n (by rw[g];exact bJ);simp only[b,if_true,Tf e];have q:=LD r ((n,c)::cs) λm f=>h m (aN _ f);show (forIn (m:=Sem) r ((n,c)::cs) _)=pure (m6 env r (if (k==.free)=true then (n,(env.cells.lookup n).getD 0)::cs else cs));rw[ee b,e];exact q
  ·simp only[b]
   have q:=LD r cs λm f=>h m (aN _ f);show (forIn (m:=Sem) r cs _)=pure (m6 env r (if (k==.free)=true then (n,(env.cells.lookup n).getD 0)::cs else cs));rw[eH b];exact q
theorem Bk{scope:Scope}{env:Env}(h:∀n,(n,NameKind.free)∈scope.names->∃c,env.cells.lookup n=some c):closureFor scope env=pure (m6 env scope.names []):=by
 have e:=LD scope.names [] h;unfold closureFor;show (forIn (m:=Sem) scope.names [] (λx r=>match x with
  | (a,b)=>if (b==NameKind.free)=true then do let c <- cellOf env a;pure (jR ((a,c)::r)) else pure (jR r)) >>= λs=>pure s)=_
 rw[e];rfl
theorem l6{env:Env}{x:Str}{c:Addr}:∀(ns:List (Str×NameKind)) (cs:List (Str×Addr)),(∀n,(n,NameKind.free)∈ns->∃c,env.cells.lookup n=some c)->(cs.lookup x=some c->env.cells.lookup x=some c) ->
 (m6 env ns cs).lookup x=some c->env.cells.lookup x=some c
 |[],_,_,a,h=>a h
 | (n,k)::r,cs,g,a,h=>by
  unfold m6 at h;refine l6 r _ (λm l=>g m (aN _ l)) (λq=>?_) h;by_cases b:(k==NameKind.free)=true
  ·have j:k=.free:=by simpa using b
   subst j;obtain⟨d,e⟩:=g n bJ;rw[ee b,e,eY] at q;by_cases f:(x==n)=true
   ·have i:x=n:=by simpa using f
    rw[f] at q;subst i;rw[e];exact q
   ·simp only[f] at q
    exact a q
  ·rw[eH b] at q
   exact a q
theorem BS{env:Env}{x:Str}:∀(ns:List (Str×NameKind)) (cs:List (Str×Addr)),((cs.lookup x).isSome=true∨(x,NameKind.free)∈ns)->((m6 env ns cs).lookup x).isSome=true
 |[],_,h=>h.elim id λz=>eL z (-_)
 | (n,k)::r,cs,h=>by
  unfold m6;refine BS r _ ?_;rcases h with h|h
  ·refine .inl ?_
   split
   ·rw[eY]
    split
    ·rfl
    ·exact h
   ·exact h
  ·rcases aW.mp h with e|h
   ·cases e
    refine .inl ?_;rw[ee (show (NameKind.free==NameKind.free)=true from rfl),eY];simp
   ·exact .inr h
noncomputable def jU(cap:List (Option Nat))(σ:St):St:=cap.map λo=>o.bind λj=>(σ[j]?).join
noncomputable def mh(X:Cx)(scope:Scope)(N':List Str)(fp:List Addr)(pins:List (Addr×Obj))(s₃:Shared)(ahx:Hp):Cx where
 prog:=X.prog
 w:=X.w
 K:=X.K
 mg:=X.mg
 base:=X.base
 A:=X.A
 N:=N'
 s₀:=s₃
 H₀:=ahx
 env:=compEnvC scope (m6 X.env scope.names []) s₃.heap.objs.size X.env
 outer:=X.stack
 stack:=X.stack
 ex:=fp
 fn:=λ_=>false
 calm:=X.calm
 pn:=X.pn++pins
 xe:=λ_ _=>False
structure jV(X:Cx)(scope:Scope)(N':List Str)(cap:List (Option Nat)):Prop where
 kind:scope.kind=.function
 P6:∀y∈scope.names,y.2≠.cell
 loc:∀y∈scope.names,y.2=.local->scope.names.lookup y.1=some .local
 fr:∀y∈scope.names,y.2=.free->X.env.kindOf y.1=some .cell
 frl:∀y∈scope.names,y.2=.free->scope.names.lookup y.1=some .free
 nd:N'.Nodup
 len:cap.length=N'.length
 cap:∀(i j:Nat) (x:Str),cap[i]?=some (some j)->N'[i]?=some x->X.N[j]?=some x/\(x,NameKind.free)∈scope.names
section
variable{X:Cx}{scope:Scope}{N':List Str}{cap:List (Option Nat)}{fp:List Addr}{pins:List (Addr×Obj)}{s:Shared}{σ:St}{H:Hp}
theorem jV.clos(S:jV X scope N' cap)(ok:X.Ok):∀n,(n,NameKind.free)∈scope.names->∃c,X.env.cells.lookup n=some c:=λn a=>ok.has n (.inl (S.fr _ a rfl))
theorem xA{env:Env}{x:Str}:∀{names:List (Str×NameKind)} {k:NameKind},
 (names.map λ(n,k)=>if (k==NameKind.free&&env.scope.kind==.function&&env.kindOf n==some .cell) then (n,NameKind.cell) else (n,k)).lookup x=some k->k=.cell∨k=.free->(∀y∈names,y.2≠.cell)->(x,NameKind.free)∈names
 |[],_,h,_,_=>by simp at h
 | (n,q)::r,k,h,hk,c=>by
  have h':qx x ((if (q==NameKind.free&&env.scope.kind==.function&&env.kindOf n==some .cell)=true then (n,NameKind.cell) else (n,q))::(r.map λ(n,k)=>if (k==NameKind.free&&env.scope.kind==.function&&env.kindOf n==some .cell) then (n,NameKind.cell) else (n,k)))=some k:=h;by_cases b:(x==n)=true
  ·have d:x=n:=by simpa using b
   subst d;by_cases hq:(q==NameKind.free&&env.scope.kind==.function&&env.kindOf x==some .cell)=true
   ·have:q=.free:=by
     rw[cV,cV] at hq
     simpa using hq.1.1
    subst this;exact bJ
   ·rw[eH hq,eY,b] at h'
    have e:q=k:=aQ h';subst e;rcases hk with hk|hk
    ·exact eL hk (c _ bJ)
    ·rw[hk];exact bJ
  ·have a:(x==n)=false:=by simpa using b
   refine aN _ (xA (env:=env) (k:=k) ?_ hk λy f=>c y (aN _ f));split at h'
   ·rw[eY,a] at h';exact h'
   ·rw[eY,a] at h';exact h'
theorem Df{env:Env}{x:Str}(d:env.scope.kind=.function)(b:env.kindOf x=some .cell):∀{names:List (Str×NameKind)},names.lookup x=some .free ->
 (names.map λ(n,k)=>if (k==NameKind.free&&env.scope.kind==.function&&env.kindOf n==some .cell) then (n,NameKind.cell) else (n,k)).lookup x=some .cell
 |[],h=>by simp at h
 | (n,k)::r,h=>by
  show qx x ((if (k==NameKind.free&&env.scope.kind==.function&&env.kindOf n==some .cell)=true then (n,NameKind.cell) else (n,k))::_)=_;cases a:x==n with
  |true =>
   have e:x=n:=by simpa using a
   subst e;simp only[eY,a] at h;have f:k=.free:=aQ h;subst f;rw[ee (by rw[d,b];rfl),eY,a]
  |false =>
   simp only[eY,a] at h;have c:=Df d b h;split
   ·rw[eY,a];exact c
   ·rw[eY,a];exact c
theorem jV.ok(S:jV X scope N' cap)(I:Inv X pins σ H s)(d:∀b∈fp,C4 X pins H b)(f:∀b∈fp,∃o,s.heap.get? b=some o):(mh X scope N' fp pins s H).Ok where
 mod:=I.ok.mod
 kind:=S.kind
 glob:=I.ok.glob
 blt:=I.ok.blt
 above:=av _
 inj:=λx y c j g=>I.ok.inj x y c (l6 _ _ (S.clos I.ok) (λz=>by simp at z) j) (l6 _ _ (S.clos I.ok) (λz=>by simp at z) g)
 has:=λx hx=>by
  have k:(x,NameKind.free)∈scope.names:=by
   rcases hx with hx|hx
   ·exact xA (env:=X.env) hx (.inl rfl) S.P6
   ·exact xA (env:=X.env) hx (.inr rfl) S.P6
  exact Option.isSome_iff_exists.mp (BS scope.names [] (.inr k))
 r4:=λx c h=>by cases h
 hd:=I.ok.hd
 frames:=I.ok.frames
 stk:=.inl rfl
 exf:=λb a=>by
  obtain⟨o,e⟩:=f b a;refine⟨aZ (Heap.lt_size e),λx c h=>(d b a).2.2.2.2.1 x c (l6 _ _ (S.clos I.ok) (λz=>by simp at z) h)⟩
 bs:=I.bs
 US:=aF I.ok.US I.sz
 SS:=λb o e a=>by
  rcases (d b a).2.2.2.1 with z|z
  ·exact I.ok.SS b o e z
  ·exact eL (bI (Heap.lt_size e) (aF I.ok.US z)) (gp _)
 UT:=λb a i=>by
  rcases aW.mp (I.Ef b i) with z|z
  ·exact (d b a).2.1 z
  ·exact (d b a).2.2.1 z
 CZ:=I.stack
 ZJ:=I.Lq
theorem jV.look(S:jV X scope N' cap)(I:Inv X pins σ H s){h₁:Heap}{m:Str->Option Value}(g:∀x c v,X.env.cells.lookup x=some c->s.heap.IsCell c v->h₁.IsCell c v)(i:Nat)(x:Str)(v:V)(G:N'[i]?=some x)(E:(jU cap σ)[i]?=some (some v)) :
 ∃u,RelV v u/\Look (compEnvC scope (m6 X.env scope.names []) s.heap.objs.size X.env) h₁ m x u:=by
 have K:∀x c,(m6 X.env scope.names []).lookup x=some c->X.env.cells.lookup x=some c:=λx c h=>l6 _ _ (S.clos I.ok) (λz=>by simp at z) h;have d:((cap[i]?).map λo=>o.bind λj=>(σ[j]?).join)=some (some v):=by
  have:=E
  unfold jU at this;rw[aj] at this;exact this
 cases p:cap[i]? with
 |none=>rw[p] at d;cases d
 |some o =>
  cases o with
  |none=>rw[p] at d;cases d
  |some j =>
   rw[p] at d;obtain⟨C,a⟩:=S.cap i j x p G;have k:(σ[j]?).join=some v:=aQ d;have J:σ[j]?=some (some v):=by
    cases t:σ[j]? with
    |none=>rw[t] at k;cases k
    |some y =>
     cases y with
     |none=>rw[t] at k;cases k
     |some z =>
      rw[t] at k;have e:z=v:=aQ k;rw[e]
   have b:=S.fr _ a rfl;obtain⟨L,F,D⟩:=I.loc;obtain⟨u,r,l⟩:=D j x v C J (.inr (.inl b));refine⟨u,r,?_⟩;rcases l with ⟨A,_⟩|⟨A,c,B,f⟩
   ·have z:X.env.kindOf x=some .cell:=b
    rw[A] at z;cases z
   ·obtain⟨q,n⟩:=Option.isSome_iff_exists.mp (BS (env:=X.env) (x:=x) scope.names [] (.inr a))
    have w:q=c:=by
     have:=K x q n
     rw[B] at this;exact (aQ this).symm
    subst w;exact .inr ⟨.inl (Df I.ok.kind b (S.frl _ a rfl)),q,n,g x q _ B f⟩
theorem jV.start(S:jV X scope N' cap)(I:Inv X pins σ H s)(u:∀b∈fp,C4 X pins H b)(k:∀b∈fp,∃o,s.heap.get? b=some o){h₁:Heap}{tk:Nat}{m:Str->Option Value}(j:h₁.Ns s.heap.objs.size m)
 (g:∀b o,s.heap.get? b=some o->h₁.get? b=some o):Inv (mh X scope N' fp pins s H) [] (jU cap σ) H {s with heap:=h₁,toks:=tk}:=by
 have r:∀x c,(m6 X.env scope.names []).lookup x=some c->X.env.cells.lookup x=some c:=λx c h=>l6 _ _ (S.clos I.ok) (λz=>by simp at z) h;have a:∀{c:Addr} {v:Option Value},s.heap.IsCell c v->h₁.IsCell c v:=λ{c v} ⟨o,e,d⟩=>⟨o,g c o e,d⟩;refine⟨S.ok I u k,rfl,I.bare,Un.kept g,⟨m,j,λi x v y w B=>S.look I (λ_ _ _ _ z=>a z) i x v y w⟩,λx c h=>?_,I.hok.fresh (av _),λx c h=>I.ur x c (r x c h),λp A=>?_,I.hok.kept g,?_⟩
 ·obtain⟨v,z⟩:=I.cell x c (r x c h)
  exact⟨v,a z⟩
 ·have f:p∈(X.pn++pins)++[]:=A
  have l:p∈X.pn++pins:=by rw[cW] at f;exact f
  obtain⟨e,n,t,nf,d⟩:=I.pin p l;refine⟨g _ _ e,n,aZ (Heap.lt_size e),λz=>?_,d⟩;rcases aW.mp (I.Ef p.1 z) with q|q
  ·exact t q
  ·exact nf q
 ·unfold jU
  rw[ah];exact S.len
theorem jV.again(S:jV X scope N' cap)(I:Inv X pins σ H s)(k:∀b∈fp,C4 X pins H b){p:St}{h:Hp}{g:Shared}(a:Inv (mh X scope N' fp pins s H) [] p h g):Inv (mh X scope N' fp pins s H) [] (jU cap σ) h g:=by
 obtain⟨m,j,_⟩:=a.loc;refine⟨a.ok,a.os,a.bare,a.base,⟨m,j,λi x v n l z=>S.look I (λy c u f r=>?_) i x v n l⟩,a.cell,a.free,a.ur,a.pin,a.hok,?_⟩
 ·obtain⟨o,e,d⟩:=r
  obtain⟨w,q⟩:=a.base.any e (I.ur y c f) λt=>(k c t).2.2.2.2.1 y c f rfl;exact⟨_,q,d⟩
 ·unfold jU
  rw[ah];exact S.len
theorem jV.back{i k:Hp}{f s3 s':Shared}{s:St}{h:Addr}{d:Heap}(S:jV X scope N' cap)(t:Inv X pins σ i f)(L:∀b∈fp,C4 X pins i b){o:HO}
 (G:s3.heap.objs.size=f.heap.objs.size+1) (k3:∀b u,f.heap.get? b=some u->s3.heap.get? b=some u) (x:h=f.heap.objs.size) (E:s3.os=f.os)
 (l:Inv (mh X scope N' fp pins s3 (upd i h o)) [] s k s') (r:Heap.SameBut s3.heap.objs.size s'.heap d):Inv X pins σ k {s' with heap:=d}:=by
 have A:Un (frs X.stack) fp i (upd i h o) f.heap s3.heap:=Un.laid k3 (by rw[x];exact av _) (t.hok.fresh (by rw[x];exact av _));have j:Un (frs X.stack) fp i k f.heap s'.heap:=A.trans l.base;have g:∀b a,f.heap.get? b=some a->b≠s3.heap.objs.size:=λb a e=>by
  have:=Heap.lt_size e
  rw[G];exact aZ (uU this)
 have y:k s3.heap.objs.size=none:=l.free;have H:Un (frs X.stack) fp i k f.heap d :=
  ⟨λb a e n p m=>(r.2 b (g b a e)).trans (j.keep b a e n p m),λb a e n p m=>by
   obtain⟨C,q⟩:=j.slot b a e n p m;exact⟨C,(r.2 b (g b a e)).trans q⟩,j.free,λb a e m=>by
   obtain⟨D,q⟩:=j.there b a e m;exact⟨D,(r.2 b (g b a e)).trans q⟩,j.tups,j.Be,j.CV⟩
 have hok:zl X.prog X.w k d:=λb a e=>(l.hok b a e).stay (λc v B q=>(r.2 c (by
  rintro rfl;rcases B with z|z
  ·rw[<- z,y] at e;cases e
  ·rw[y] at z;cases z)).trans q) (λ_ q=>q) λ_ _ q=>q
 refine t.ZK (s':={s' with heap:=d}) (ch:=fp) (l.os.trans E) H hok l.bare λb p=>?_;obtain⟨_,J,_,I,F,K⟩:=L b p;exact⟨I,J,F,K⟩
def lK(X:Cx)(ifs:List Expr)(t:TT):Prop :=
 ∀(pins:List (Addr×Obj)) (s:Shared) (σ:St) (H:Hp) (Q:Bool->Hp->Prop),Inv X pins σ H s->t σ H Q ->
  wpAny (model X.prog X.w) X.A (forIn ifs true λc r=>if r=true then do let ok <- isTrue c X.env (eval c X.env);pure (jR ok) else pure (jR r)) (TP X pins σ Q) X.xe s
def aed:TT:=λ_ H Q=>Q true H
theorem lM:lK X [] aed:=λ_ _ _ H _ I h=>wpAny_tests_nil ⟨H,I,h⟩
theorem rJ{c:Expr}{t:TT}(h:PT X c t):lK X [c] t:=λpins s σ H Q I hq=>wpAny_tests_one (h pins s σ H Q I hq)
def ZW(wi:TI)(cap:List (Option Nat))(g:TG)(tc:TT)(te:TE):TE:=λσ H Q=>wi σ H λJ H1=>∀acc,H1 acc=none->∃W:Nat->Nat->Hp->Prop,(∃m,W 0 m (upd H1 acc (.lst [])))/\∀i m H,W i m H ->
 (J.stop i H/\Q (.ref acc) H)∨(J.go i H/\∀x H',J.MS i H x H'->g x (jU cap σ) H' λσ2 H2=>tc σ2 H2 λb H3=>if b=true then te σ2 H3 λy H4=>∃xs,H4 acc=some (.lst xs)/\xs.length<sizeLine /\
  ∃m',m'<m/\W (i+1) m' (upd H4 acc (.lst (xs++[y]))) else ∃m',m'<m/\W (i+1) m' H3)
theorem Th{t a j:PySem.Expr}{q:List PySem.Expr}{scope:Scope}{C:Pos}{E o:Value}{env:Env}{prog:Program}{w:World}{A:Around}{s:Shared}{R:Result->Shared->Prop}(I:Nat->Shared->Prop)
 (u:∀n s,I n s->wpAny (model prog w) A (pyNext E) (λr b=>match r with
  |none=>R (.ok .next) b
  |some v=>wpAny (model prog w) A (letOwnedTupleGo a E v) (λ_ l=>wpAny (model prog w) A (assign a env v) (λ_ g =>
   wpAny (model prog w) A (forIn q true λc r=>if r=true then do let ok <- isTrue c env (eval c env);pure (jR ok) else pure (jR r)) (λok d=>if ok=true then wpAny (model prog w) A (eval t env) (λx k =>
    wpAny (model prog w) A (call (.builtin "list.append") [o,x]) (λ_ e=>∃m,m<n/\I m e) (λ_ _=>False) k) (λ_ _=>False) d
    else ∃m,m<n/\I m d) (λ_ _=>False) g)
   (λ_ _=>False) l) (λ_ _=>False) b) (λ_ _=>False) s)
 (n:Nat) (h:I n s):codeAny (model prog w) A (.compLoop (.ListComp t [⟨a,j,q,0⟩] scope C) 0 E o env) R s:=by
 refine codeAny_loop rfl I (λn s G=>?_) n h;show wpAny _ A ((compTurn (.ListComp t [⟨a,j,q,0⟩] scope C) 0 E o env).onRaise (λx=>do noteFrame x env;theTreesLotGoes x)) _ _ s;refine wpAny_noted ?_;rw[compTurn_list];refine wpAny_bind (wpAny_standAt (wpAny_bind (wpAny_mono (u n s G) (λr b f=>?_) λ_ _ z=>z.elim)));cases r with
 |none=>exact wpAny_pure f
 |some v =>
  refine wpAny_bind (wpAny_mono f (λ_ l p=>?_) λ_ _ z=>z.elim);refine wpAny_bind (wpAny_mono p (λ_ g D=>?_) λ_ _ z=>z.elim);refine wpAny_bind (wpAny_mono D (λF d i=>?_) λ_ _ z=>z.elim);cases F with
  |false=>exact wpAny_pure ⟨rfl,i⟩
  |true=>exact wpAny_bind (wpAny_bind (wpAny_mono i (λx k y=>wpAny_bind (wpAny_mono y (λ_ e B=>wpAny_pure (wpAny_pure ⟨rfl,B⟩)) λ_ _ z=>z.elim)) λ_ _ z=>z.elim))
theorem Hf{P tg D:Expr}{O:List Expr}{pos:Pos}{g:TG}{tc:TT}{te:TE}{Q:VK}{a:Shared}{B:Hp}{it:Addr}{tn:Nat->Heap->Prop}{J:It}{E:Value->Shared->Prop}{RR:Value->Addr->Result->Shared->Prop}
 (S:jV X scope N' cap) (hc:X.calm=true) (hg:∀fp pins s H,PG (mh X scope N' fp pins s H) tg g) (hts:∀fp pins s H,lK (mh X scope N' fp pins s H) O tc) (he:∀fp pins s H,PE (mh X scope N' fp pins s H) P te)
 (I2:Inv X pins σ B a) (T:Turn X.prog X.w X.K tg J fp it tn) (R:tn 0 a.heap) (V:∀b∈fp,C4 X pins B b)
 (h:∀k,B k=none->∃W:Nat->Nat->Hp->Prop,(∃m,W 0 m (upd B k (.lst [])))/\∀i m H,W i m H ->
  (J.stop i H/\Q (.ref k) H)∨(J.go i H/\∀x j,J.MS i H x j->g x (jU cap σ) j λσ2 B=>tc σ2 B λb H3=>if b=true then te σ2 H3 λy H4=>∃xs,H4 k=some (.lst xs)/\xs.length<sizeLine /\
   ∃l,l<m/\W (i+1) l (upd H4 k (.lst (xs++[y]))) else ∃l,l<m/\W (i+1) l H3))
 (hRR:∀C s' j,(∃m,s'.heap.Ns C m)->(∀M,Heap.SameBut C s'.heap M->Inv X pins σ j {s' with heap:=M})->Q (.ref a.heap.objs.size) j->j C=none->a.heap.objs.size<C ->
  RR (.ref a.heap.objs.size) C (.ok .next) s') :
 wpAny (model X.prog X.w) X.A (newList []) (λk s₃=>wpAny (model X.prog X.w) X.A (newFunctionEnv scope X.env.globals (m6 X.env scope.names []) [] X.env.qual none .none (some X.env)) (λI s₄ =>
  codeAny (model X.prog X.w) X.A (.compStart (.ListComp P [⟨tg,D,O,0⟩] scope pos) 0 (.ref it) k {I with scope:=relabel scope X.env}) (RR k I.locals) s₄) E s₃) E a:=by
 refine wpAny_newObj_type (wpAny_newFunctionEnv S.P6 (by intro y hy;simp at hy) (λt P7 P8=>?_) S.kind);dsimp only at P7 P8 ⊢;have hfr:B a.heap.objs.size=none:=I2.hok.fresh (av _);generalize L:a.heap.push {cls:=.type "list",dict:=none,data:=.seq ([]:List Value).toArray}=h3 at P7 P8 ⊢;have e3:h3.objs.size=a.heap.objs.size+1:=by rw[<- L,Heap.size_push]
 have k3:∀b u,a.heap.get? b=some u->h3.get? b=some u:=λb u e=>by rw[<- L];exact Heap.get?_push_of_some _ e
 have I3:Inv X pins σ (upd B a.heap.objs.size (.lst [])) {a with heap:=h3,toks:=a.toks}:=by
  refine I2.laid (t':=a.toks) k3 (av _) ?_;exact⟨aR _,[],0,.nil,by rw[<- L];exact Heap.get?_push_size _ rfl⟩
 have f3:∀b∈fp,C4 X pins (upd B a.heap.objs.size (.lst [])) b:=λb f=>by
  obtain⟨o,e,_⟩:=T.obj _ _ R b f;exact⟨by rw[aC (aZ (Heap.lt_size e))];exact (V b f).1,(V b f).2⟩
 have ex3:∀b∈fp,∃o,h3.get? b=some o:=λb f=>by
  obtain⟨o,e,_⟩:=T.obj _ _ R b f;exact⟨o,k3 b o e⟩
 have kp:∀b o,h3.get? b=some o->t.get? b=some o:=λb o e=>P8.extBut b o (aZ (Heap.lt_size e)) (Heap.get?_push_of_some _ e);have I4:=S.start (fp:=fp) (tk:=a.toks+([]:List (Str×Value)).length) I3 f3 ex3 P7 kp;have GP:tn 0 t:=T.keep _ _ _ R λb _ o e=>kp b o (k3 b o e);obtain⟨W,⟨m0,w0⟩,Z⟩:=h a.heap.objs.size hfr;let G:=mh X scope N' fp pins {a with heap:=h3,toks:=a.toks} (upd B a.heap.objs.size (.lst []));have v:∀{Kh:List (Addr×Obj)} {j:Hp},(∀p∈Kh,p.1∉fp)->(∀b∈fp,j b=none)->∀b∈fp,C4 G Kh j b:=λ{Kh j} hpn hn b f=>by
  obtain⟨o,e⟩:=ex3 b f;refine⟨hn b f,aZ (Heap.lt_size e),λz=>?_,.inl f,λx c hx=>(f3 b f).2.2.2.2.1 x c (l6 _ _ (S.clos I2.ok) (λz=>by simp at z) hx),λp hp=>?_⟩
  ·rcases aW.mp (I2.Ef b z) with q|q
   ·exact (V b f).2.1 q
   ·exact (V b f).2.2.1 q
  ·rcases bG.mp hp with q|q
   ·exact (V b f).2.2.2.2.2 p q
   ·exact λz=>hpn p q (z▸f)
 have F:codeAny (model X.prog X.w) X.A (.compLoop (.ListComp P [⟨tg,D,O,0⟩] scope pos) 0 (.ref it) (.ref a.heap.objs.size) G.env) (RR (.ref a.heap.objs.size) h3.objs.size) {a with heap:=t,toks:=a.toks+([]:List (Str×Value)).length}:=by
  refine Th (λn s'=>∃i j,Inv G [] (jU cap σ) j s'/\tn i s'.heap/\(∀b∈fp,j b=none)/\W i n j) ?_ m0 ⟨0,_,I4,GP,λb f=>(f3 b f).1,w0⟩;rintro n s5 ⟨i,H5,I5,MI,fr5,w5⟩;rcases Z i n H5 w5 with ⟨stop,qn⟩|⟨go,step⟩
  ·refine wpAny_mono (T.done G rfl rfl rfl hc i [] s5 (jU cap σ) H5 (λ_ _=>False) I5 (v (λ_ z=>eL z (-_)) fr5) MI stop) (λr s6 ⟨hr,I6⟩=>?_) λ_ _ z=>z
   subst hr;refine hRR _ s6 H5 ?_ (λM sb=>S.back I2 V (s3:={a with heap:=h3,toks:=a.toks}) e3 k3 rfl rfl I6 sb) qn I6.free (by rw[e3];exact xw _);obtain⟨m,hn,_⟩:=I6.loc;exact⟨m,hn⟩
  ·refine wpAny_mono (T.item G rfl rfl rfl hc i [] s5 (jU cap σ) H5 (λ_ _=>False) I5 (v (λ_ z=>eL z (-_)) fr5) MI go) (λr s6 ⟨u,hr,h6⟩=>?_) λ_ _ z=>z
   subst hr;refine wpAny_mono h6 (λ_ s7 ⟨x,H7,I7,r7,y7,UH,fr7⟩=>?_) λ_ _ z=>z;have I7':=I7.pinned (v (λ_ z=>eL z (-_)) fr7) (T.obj _ _ UH);have again:∀{Y:St} {U:Hp} {N:Shared},Inv G ([]++G4 fp s7.heap) Y U N->(∃l,l<n/\W (i+1) l U)->∃m,m<n/\∃i j,Inv G [] (jU cap σ) j N/\tn i N.heap/\(∀b∈fp,j b=none)/\W i m j:=λ{Y U N} I8 n8=>by
    obtain⟨l,hm,w8⟩:=n8;have pn:∀b∈fp,∃o,s7.heap.get? b=some o/\N.heap.get? b=some o/\U b=none:=λb f=>by
     obtain⟨o,e,d⟩:=T.obj _ _ UH b f;have q:=I8.pin (b,o) (b6 _ (b6 _ (BQ f e)));exact⟨o,e,q.1,q.2.1⟩
    refine⟨l,hm,i+1,U,S.again I3 f3 I8.C5,T.keep _ _ _ UH λb f o e=>?_,λb f=>?_,w8⟩
    ·obtain⟨o',e',q,_⟩:=pn b f
     rw[e] at e';cases e';exact q
    ·obtain⟨_,_,_,q⟩:=pn b f
     exact q
   refine wpAny_mono (hg fp pins _ _ _ s7 (jU cap σ) H7 x u _ I7' r7 (step x H7 y7)) (λ_ N ⟨Y,U,I8,q8⟩=>?_) λ_ _ z=>z;refine wpAny_mono (hts fp pins _ _ _ N Y U _ I8 q8) (λb s9 ⟨H9,I9,q9⟩=>?_) λ_ _ z=>z;cases b with
   |false=>exact again I9 q9
   |true =>
    refine wpAny_mono (he fp pins _ _ _ s9 Y H9 _ I9 q9) (λu RD ⟨y,Xo,I10,r10,xs,hx,hl,q10⟩=>?_) λ_ _ z=>z;refine wpAny_mono (eX (X:=G) _ RD Y Xo (.ref a.heap.objs.size) [y] (.ref a.heap.objs.size) [u] (λ_ j=>∃l,l<n/\W (i+1) l j) I10 rfl (.cons r10 .nil) ⟨_,xs,y,rfl,rfl,hx,hl,q10⟩) (λ_ s11 ⟨_,Zy,I11,_,q11⟩=>again I11 q11) λ_ _ z=>z
 exact codeAny_compStart_list F (T.self _ 0 _ _ _ GP F)
theorem gQ{c k a:Expr}{b:List Expr}{l:Pos}{o:TI}{g:TG}{p:TT}{n:TE}(S:jV X scope N' cap)(q:X.calm=true)(M:PI X k a o)(B:∀fp pins s H,PG (mh X scope N' fp pins s H) k g)
 (i:∀fp pins s H,lK (mh X scope N' fp pins s H) b p) (G:∀fp pins s H,PE (mh X scope N' fp pins s H) c n) (u:∀x,foldedSetIterable a X.env x=pure x:=by intro _;rfl) :
 PE X (.ListComp c [⟨k,a,b,0⟩] scope l) (ZW o cap g p n):=by
 intro pins s σ H Q I h;rw[eval_ListComp];refine wpAny_comprehension_free (use:=none) rfl u (Bk (S.clos I.ok)) S.kind S.loc (gO (M pins s σ H _ I h) λv V z=>gO z λL K t=>?_);obtain⟨U,fp,P,J,W,e,F,T,f,D,y⟩:=t;subst e;refine Hf (RR:=λj C=>compPost (model X.prog X.w) X.A X.xe none (EP X pins σ Q) j C) S q B i G F T f D y ?_;intro C R E ⟨m,r⟩ O hq _ _;exact⟨m,r,λd N=>⟨.ref K.heap.objs.size,E,O d N,rfl,hq⟩⟩
theorem BU{k B f:Expr}{j:List Expr}{r:Pos}{W:TI}{g:TG}{tc:TT}{Y:TE}{i:Nat}{x:Str}{d l:Pos}(hN:X.N.Nodup)(V:X.N[i]?=some x)(hx:Loc X.env.scope x)(S:jV X scope N' cap)(hc:X.calm=true)
 (hi:PI X B f W) (hg:∀fp pins s H,PG (mh X scope N' fp pins s H) B g)
 (P:∀fp pins s H,lK (mh X scope N' fp pins s H) j tc) (he:∀fp pins s H,PE (mh X scope N' fp pins s H) k Y) (hs:∀x,foldedSetIterable f X.env x=pure x:=by intro _;rfl)
 (R:swapsWith (.ListComp k [⟨B,f,j,0⟩] scope r) (some (.Name x d)) l.line X.env=pure true:=by rfl) (hf:X.fn x=true∨X.env.scope.names.lookup x=some .local:=by first|exact .inl rfl|exact .inr rfl|assumption) :
 PS X (.Assign [.Name x d] (.ListComp k [⟨B,f,j,0⟩] scope r) l) (XC (ZW W cap g tc Y) (gU i)):=by
 intro pins s σ H D I h;rw[exec_Assign_Name_used _ _ _ _ R];refine wpAny_bind (wpAny_standAt (wpAny_bind ?_));show wpAny _ X.A (do let _ <- comprehension (.ListComp k [⟨B,f,j,0⟩] scope r) scope X.env _ (newList []) false (eval f X.env) (some (assign (.Name x d) X.env))) _ _ s;refine wpAny_bind (wpAny_mono (wpAny_comprehension_free (use:=some (assign (.Name x d) X.env)) (Q:=λ_ n=>SP X pins D .next n) rfl hs (Bk (S.clos I.ok)) S.kind S.loc
  (gO (hi pins s σ H _ I h) λv s1 h1=>gO h1 λitv K h2=>?_)) (λ_ n hq=>wpAny_pure (wpAny_pure hq)) λ_ _ e=>e)
 obtain⟨it,fp,tn,J,H2,e,t,T,O,f2,hW⟩:=h2;subst e;refine Hf (RR:=λU C=>compPost (model X.prog X.w) X.A X.xe (some (assign (.Name x d) X.env)) (λ_ n=>SP X pins D .next n) U C) (Q:=λx H1=>gU i x σ H1 D.nx) S hc hg P he t T O f2 hW ?_;intro C n Z ⟨m,hn⟩ hI hq hC E;have I':Inv X pins σ Z n:=hI n.heap (.refl ..);show wpAny _ _ (assign (.Name x d) X.env (.ref K.heap.objs.size)) _ _ n;refine wpAny_assign_Name (Kl (v:=.ref K.heap.objs.size) I' hN V hx rfl (λs6 I6 ⟨a,sb,ha⟩=>?_) hf);have u:∀b,b<K.heap.objs.size->b≠C:=λb F=>aZ (Nat.lt_trans F E);have L:a≠C:=by
  rcases ha with z|z
  ·rw[z];exact u _ t.lt
  ·obtain⟨_,q⟩:=t.cell x a z
   exact u _ q.lt
 refine⟨m,hn.sameBut sb (bM L),λh' M=>⟨_,Z,I6.turned (t':=s6.toks) (λb o F e=>(M.2 b F).trans e) hC (bM (u _ t.lt)) (.inr (aF t.sz (iB E))) (λy c G=>?_) (λp hp=>?_),hq⟩⟩
 ·obtain⟨_,q⟩:=t.cell y c G
  exact u _ q.lt
 ·exact u _ (Heap.lt_size (t.pin p hp).1)
end
section
variable{X:Cx}
noncomputable def X7(K:af)(a:Addr):It :=
 ⟨λi H=>∃xs x,bS K H a xs/\xs[i]?=some x,λi H x H'=>∃p v,H p=none/\x=.ref p/\H'=upd H p (.tup [.int (i:Nat),v])/\∀xs,bS K H a xs->xs[i]?=some v,λi H=>∃xs,bS K H a xs/\xs.length<=i⟩
theorem Ti{P:Program}{w:World}{K:af}{F:List Expr}{x1}{pos:Pos}(a e f:Addr)(D:e≠f) :
 Turn P w K (.Tuple F x1 pos) (X7 K a) [e,f] e (λi h=>∃old,IsEnum h e f (i:Nat) old/\h.IsListIter f a i) where
 mem:=-_
 obj:=λi h ⟨old,st,t⟩ b hb=>by
  rcases aW.mp hb with z|hb
  ·subst z
   exact⟨_,st,λv z=>by
    have z':Data.fields _=Data.cell v:=z;cases z'⟩
  ·have z:b=f:=by simpa using hb
   subst z;obtain⟨o,e,c,d⟩:=t;exact⟨o,e,λv z=>by rw[d] at z;cases z⟩
 keep:=λi h h' ⟨old,st,t⟩ k=>⟨old,k e (-_) _ st,t.at λo q=>k f (-_) o q⟩
 item:=by
  intro X hP hw T g i y s σ H E I l ⟨old,st,t⟩ Q;subst hP hw T;obtain⟨Y,x,hq,U⟩:=Q;obtain⟨W,J,p,hz⟩:=I.list hq;obtain⟨u,hu,ru⟩:=J.get U;refine wpAny_pyNext_enum_item st t p.isList (x:=u) (by simpa using hu) D λh' eo S tu sz kp=>?_;refine⟨_,rfl,wpAny_letOwnedTupleGo_enum eo λB e2 N=>?_⟩;have j:H s.heap.objs.size=none:=I.hok.fresh (av _);have nE:∀b o,H b=some o->b≠e:=λb o q z=>by rw[z,(l e (-_)).1] at q;cases q
  have nI:∀b o,H b=some o->b≠f:=λb o q z=>by rw[z,(l f (-_)).1] at q;cases q
  have C:∀b o,b≠e->b≠f->s.heap.get? b=some o->B.get? b=some o:=λb o h1 h3 q=>(N.2 b h1).trans (kp b o h1 h3 q);have O:e<s.heap.objs.size:=Heap.lt_size st;have V:B.get? s.heap.objs.size=some {cls:=.type "tuple",data:=.seq #[.int (i:Nat) s.toks,u]}:=(N.2 _ (Nat.ne_of_gt O)).trans tu;have M:B.IsListIter f a (i+1):=S.at λo q=>(N.2 f (bM D)).trans q;have A:∀b,b∉[e,f]->b≠e/\b≠f:=λb hb=>⟨λz=>hb (by simp[z]),λz=>hb (by simp[z])⟩;have G:∀b∈[e,f],upd H s.heap.objs.size (.tup [.int (i:Nat),x]) b=none:=λb hb=>by
   obtain⟨o,q,_⟩:∃o,s.heap.get? b=some o/\True:=by
    rcases aW.mp hb with z|hb
    ·subst z;exact⟨_,st,trivial⟩
    ·have z:b=f:=by simpa using hb
     subst z;obtain⟨o,q,_⟩:=t;exact⟨o,q,trivial⟩
   rw[aC (aZ (Heap.lt_size q))];exact (l b hb).1
  have I1:Inv X y σ (upd H s.heap.objs.size (.tup [.int (i:Nat),x])) {s with heap:=B,toks:=s.toks+1}:=by
   refine I.step (g':=s.gens) (d':=s.drawn) (ch:=[e,f]) (λb hb=>?_) (λb o _ _ g q _=>C b o (A b g).1 (A b g).2 q) (λb o _ _ g q _=>⟨o.slots,C b o (A b g).1 (A b g).2 q⟩)
    (λb o _ q n=>by rw[aC (aZ (Heap.lt_size q))];exact n) (λb o g q=>⟨o,C b o (A b g).1 (A b g).2 q⟩) (λb Y q=>by rw[aC (aJ q j)];exact q) (λb o u q=>by rw[aC (aJ q j)];exact q)
    (λb ps q=>⟨#[],by rw[aC (aJ q j),q];simp⟩) (λm hm=>?_) (λb o q=>?_) I.bare
   ·obtain⟨_,L,_,f3,Z,f5⟩:=l b hb
    exact⟨f3,L,Z,f5⟩
   ·obtain⟨o,es,ep,ho,r⟩:=hm
    exact⟨o,es,ep,C _ o (bM (l e (-_)).2.1) (bM (l f (-_)).2.1) ho,r⟩
   ·by_cases hb:b=s.heap.objs.size
    ·subst hb
     rw[au] at q;cases q;exact⟨by show 2<=sizeLine;decide,[.int (i:Nat) s.toks,u],.cons ⟨_,rfl⟩ (.cons ru .nil),⟨_,V,rfl,_,rfl⟩⟩
    ·rw[aC hb] at q
     refine (I.hok b o q).stay (λc v g r=>C c v ?_ ?_ r) (λc r=>by rw[aC (aJ r j)];exact r) λc Y r=>by rw[aC (aJ r j)];exact r
     ·rcases g with z|z
      ·rw[z];exact nE b o q
      ·exact nE c _ z
     ·rcases g with z|z
      ·rw[z];exact nI b o q
      ·exact nI c _ z
  refine⟨.ref s.heap.objs.size,_,I1,rfl,⟨_,x,j,rfl,rfl,λys hy=>by rw[I.MQ hy hq];exact U⟩,⟨u,?_,M⟩,G⟩;have R:IsEnum B e f ((i:Int)+1) u:=e2;show IsEnum B e f (((i+1:Nat):Int)) u;rw[Int.natCast_add];exact R
 done:=by
  intro X hP hw T g i y s σ H E I l ⟨old,st,t⟩ Q;subst hP hw T;obtain⟨Y,hq,U⟩:=Q;obtain⟨W,J,p,hz⟩:=I.list hq;obtain⟨f0,L,f2,f3,Z,f5⟩:=l f (-_);have hl:=J.length;exact wpAny_pyNext_enum_end (I.ok.hd g) st t p.isList (by simp;lia) λh' eb=>⟨rfl,I.turned (t':=s.toks) (λb o hb q=>eb b o hb q) f0 L f3 Z f5⟩
 self:=λ_ _ _ _ _ ⟨_,st,_⟩ h=>wpAny_pyIter_enum st h
def aef(K:af)(ta:TA):TI:=λσ H R=>ta σ H λvs H1=>∃a xs,vs=[.ref a]/\bS K H1 a xs/\R (X7 K a) H1
theorem XU{l:Expr}{m:TA}{p i:Pos}{g:List Expr}{x1}{f:Pos}(C:Gl X "enumerate")(D:X.mg "enumerate" = none)(G:PA X [l] m)(y:starEach [l] X.env=[(false,eval l X.env)]:=by rfl) :
 PI X (.Tuple g x1 f) (.Call (.Name "enumerate" p) [l] [] i) (aef X.K m):=by
 intro c s t H R I h;refine Call_ (BN I C D boot_enumerate (PyProof.Rows.callWith_type1 (gO (G i c s t H _ I h) λM d ⟨N,k,j,J,u⟩=>?_) y rfl));obtain⟨a,O,e,hq,q⟩:=u;subst e;cases J with
 |cons r B =>
  cases B;cases r;obtain⟨w,P,F,Q⟩:=j.list hq;refine call_enumerate_list F.isList λA o v L x=>wpAny_pyIter_enum o ?_;have E:Inv X c t k {d with heap:=A,toks:=d.toks}:=j.kept x;have n:∀b,d.heap.objs.size<=b->C4 X c k b:=λb hb=>j.UY hb (j.hok.fresh hb);refine⟨d.heap.objs.size+1,[d.heap.objs.size+1,d.heap.objs.size],_,_,k,rfl,E,Ti a _ _ (Nat.succ_ne_self _),⟨.none,o,v⟩,λb hb=>?_,q⟩;rcases aW.mp hb with z|hb
  ·subst z;exact n _ ∅
  ·have z:b=d.heap.objs.size:=by simpa using hb
   subst z;exact n _ ∅
end
theorem aD.dj{K:af}{H b:Hp}{a:Addr}{xs:List V}(e:aD H b)(h:cN K H a xs):cN K b a xs:=by
 rcases h with (h|⟨o,h⟩)|h
 ·exact .inl (.inl (e _ _ h))
 ·exact .inl (.inr ⟨o,e _ _ h⟩)
 ·exact .inr h
theorem aD.new{H:Hp}{p:Addr}{o:HO}(h:H p=none):aD H (upd H p o):=λb u e=>by rw[aC (aJ e h)];exact e
theorem aD.out{a H:Hp}{p:Addr}{o:HO}(s:aD a H)(h:a p=none):aD a (upd H p o):=λb u e=>by rw[aC (aJ e h)];exact s b u e
mutual
def Rep(K:af)(H:Hp):PyData->V->Prop
 |.none,v=>v=.fk
 |.bool b,v=>v=.bl b
 |.int i,v=>v=.int i
 |.str x,v=>v=.str x
 |.list ds,v=>∃a vs,v=.ref a/\bS K H a vs/\c6 K H ds vs
 |.tuple ds,v=>∃a vs,v=.ref a/\cN K H a vs/\c6 K H ds vs
 |.dict _,_=>False
def c6(K:af)(H:Hp):List PyData->List V->Prop
 |[],vs=>vs=[]
 |d::ds,vs=>∃v r,vs=v::r/\Rep K H d v/\c6 K H ds r
end
section
variable{K:af}{H H':Hp}
mutual
theorem Rep.mono(s:aD H H'):∀{d:PyData} {v:V},Rep K H d v->Rep K H' d v
 |.none,_,h=>h
 |.bool _,_,h=>h
 |.int _,_,h=>h
 |.str _,_,h=>h
 |.list ds,_,⟨a,vs,e,q,r⟩=>⟨a,vs,e,s.seq q,c6.mono s r⟩
 |.tuple ds,_,⟨a,vs,e,q,r⟩=>⟨a,vs,e,s.dj q,c6.mono s r⟩
 |.dict _,_,h=>h
theorem c6.mono(s:aD H H'):∀{ds:List PyData} {vs:List V},c6 K H ds vs->c6 K H' ds vs
 |[],_,h=>h
 |_::_,_,⟨v,r,e,q,t⟩=>⟨v,r,e,q.mono s,c6.mono s t⟩
end
theorem c6.length:∀{ds:List PyData} {vs:List V},c6 K H ds vs->vs.length=ds.length
 |[],_,h=>by rw[h];rfl
 |_::_,_,⟨v,r,e,_,t⟩=>by rw[e,aT,aT,c6.length t]
theorem c6.get:∀{ds:List PyData} {vs:List V} {i:Nat} {d:PyData},c6 K H ds vs->ds[i]?=some d->∃v,vs[i]?=some v/\Rep K H d v
 |[],_,_,_,_,e=>by simp at e
 |x::ds,_,0,d,⟨v,r,e,q,t⟩,h=>by
  subst e;have z:x=d:=by simpa using h
  subst z;exact⟨v,rfl,q⟩
 |_::ds,_,i+1,d,⟨v,r,e,q,t⟩,h=>by
  subst e;obtain⟨y,a,b⟩:=c6.get (i:=i) (d:=d) t (by simpa using h);exact⟨y,by simpa using a,b⟩
theorem p8:∀ns:List Int,c6 K H (ns.map PyData.int) (ns.map V.int)
 |[]=>rfl
 |n::ns=>⟨.int n,_,rfl,rfl,p8 ns⟩
theorem zw:∀{ns:List Int} {vs:List V},c6 K H (ns.map PyData.int) vs->vs=ns.map V.int
 |[],_,h=>h
 |n::ns,_,⟨v,r,e,q,t⟩=>by
  have q':v=.int n:=q;rw[e,q',zw t];rfl
theorem Rep.Hg{ns:List Int}{a:Addr}(h:cN K H a (ns.map V.int)):Rep K H (.tuple (ns.map .int)) (.ref a):=⟨a,_,rfl,h,p8 ns⟩
theorem Rep.zx{ns:List Int}{v:V}(h:Rep K H (.tuple (ns.map .int)) v):∃a,v=.ref a/\cN K H a (ns.map V.int):=by
 obtain⟨a,b,e,q,r⟩:=h;rw[zw r] at q;exact⟨a,e,q⟩
end
section
variable{X:Cx}{pins:List (Addr×Obj)}{σ:St}{H:Hp}{s:Shared}
mutual
theorem Rep.reads(I:Inv X pins σ H s):∀{d:PyData} {v:V} {u:Value},Rep X.K H d v->RelV v u->∃k,Reads s.heap u d k
 |.none,_,_,h,r=>by cases h;cases r;exact⟨_,.none⟩
 |.bool b,_,_,h,r=>by cases h;cases r;exact⟨_,.bool b⟩
 |.int i,_,_,h,r=>by cases h;obtain⟨t,rfl⟩:=r;exact⟨_,.int i t⟩
 |.str x,_,_,h,r=>by cases h;obtain⟨t,rfl⟩:=r;exact⟨_,.str x t⟩
 |.list w,_,_,⟨a,p,e,q,t⟩,r=>by
  subst e;cases r;obtain⟨c,j,⟨o,n,m,g,y,f⟩,_⟩:=I.list q;obtain⟨k,l⟩:=c6.reads I t j;exact⟨_,.list m g f (by simpa using l)⟩
 |.tuple w,_,_,⟨a,p,e,q,t⟩,r=>by
  subst e;cases r;obtain⟨c,j,⟨o,m,g,n,f⟩,_⟩:=I.tuple q;obtain⟨k,l⟩:=c6.reads I t j;exact⟨_,.tuple m g f (by simpa using l)⟩
 |.dict _,_,_,h,_=>h.elim
theorem c6.reads(I:Inv X pins σ H s):∀{ds:List PyData} {vs:List V} {us:List Value},c6 X.K H ds vs->bY vs us->∃a,ReadsAll s.heap us ds a
 |[],_,_,h,r=>by cases h;cases r;exact⟨_,.nil⟩
 |_::_,_,_,⟨v,g,e,q,t⟩,r=>by
  subst e;cases r with
  |cons f b =>
   obtain⟨a,d⟩:=q.reads I f;obtain⟨i,c⟩:=c6.reads I t b;exact⟨_,.cons d c⟩
end
end
section
variable{X:Cx}
def ahA(K:af)(u:Nat):R2:=λx y H Q=>∃da db,Rep K H da x/\Rep K H db y/\da.canLay0=true/\db.canLay0=true/\u+min da.depth db.depth<cLine/\Q (.bl (PyData.eqv da db)) H
def ahB(K:af)(u:Nat):R2:=λx y H Q=>∃da db,Rep K H da x/\Rep K H db y/\da.canLay0=true/\db.canLay0=true/\u+min da.depth db.depth<cLine/\Q (.bl (!PyData.eqv da db)) H
theorem Er:xq X (compareOp .Eq) (ahA X.K X.A.units):=by
 intro a s o H x y v u Q I d b ⟨m,k,j,g,f,c,e,q⟩;obtain⟨n,h⟩:=j.reads I d;obtain⟨l,i⟩:=g.reads I b;exact SeqAt.compareEq_reads h i f c e ⟨.bl _,H,I,rfl,q⟩
theorem Hh:xq X (compareOp .NotEq) (ahB X.K X.A.units):=by
 intro a s o H x y v u Q I d b ⟨m,k,j,g,f,c,e,q⟩;obtain⟨n,h⟩:=j.reads I d;obtain⟨l,i⟩:=g.reads I b;exact SeqAt.compareNe_reads h i f c e ⟨.bl _,H,I,rfl,q⟩
theorem M4:oG X (.builtin "isinstance") (λxs H Q=>∃x n t b,xs=[x,.ty n]/\Ej X.K H x t/\PySem.W.kitOne X.K t (.type n)=some b/\Q (.bl b) H):=by
 intro c s i H xs h Q I r ⟨x,n,t,b,e,ty,k,q⟩;subst e;obtain⟨u,g,e,f,a⟩:=bY.two r;subst e;cases a;exact S1 I f ty k λd=>⟨.bl _,H,I.tok d,rfl,q⟩
theorem Tn(l:X.calm=true):oG X (.type "set") (λxs H Q=>∃(a:Addr) (ns:List Int),xs=[.ref a]/\bS X.K H a (ns.map V.int)/\ns.length+1<scanBound /\
 ∀p,H p=none->Q (.ref p) (upd H p (.set (λc=>(firstMet (λi=>ns.getD i 0) ns.length).any (·==c)) (firstMet (λi=>ns.getD i 0) ns.length).length))):=by
 intro j s z H xs v Q I r ⟨a,ns,e,hq,n,q⟩;subst e;obtain⟨u,e,t⟩:=bY.one r;subst e;cases t;obtain⟨d,g,p,y⟩:=I.list hq;have k:=g.length;rw[ah] at k;have f:d.toArray.size=ns.length:=by simp[k]
 refine call_set_list (I.ok.hd l) p.isList (ns:=ns) (by simpa using intsAre_of g) (by rw[f];exact n) λx w h m=>?_;rw[f] at h;exact⟨.ref s.heap.objs.size,_,I.laid (o:=.set (λc=>(firstMet (λi=>ns.getD i 0) ns.length).any (·==c)) (firstMet (λi=>ns.getD i 0) ns.length).length) (λb o e=>m b o (Heap.lt_size e) e) (av _) h,rfl,q _ (I.hok.fresh (av _))⟩
theorem To:oG X (.builtin "len") (λxs H Q=>∃(a:Addr) (S:Int->Bool) (n:Nat),xs=[.ref a]/\H a=some (.set S n)/\Q (.int n) H):=by
 intro b s x H xs m Q I r ⟨a,S,n,e,hq,q⟩;subst e;obtain⟨u,e,j⟩:=bY.one r;subst e;cases j;obtain⟨o,g,l,t,i,h,c,p,v,d,k,f⟩:=(show s.heap.SetOf (intKind X.prog X.w) a S n from I.hok a _ hq);subst f;refine call_len_set i h c k ?_ ⟨.int _,H,I.tok _,⟨_,rfl⟩,q⟩
 have:g.size<2^62:=bI d (!_)
 lia
theorem Tq(w:X.calm=true):oG X (.builtin "min") (λxs H Q=>∃(a:Addr) (ns:List Int),xs=[.ref a]/\bS X.K H a (ns.map V.int)/\0<ns.length/\∀m,m∈ns->(∀n∈ns,m<=n)->Q (.int m) H):=by
 intro h s J H xs C Q I r ⟨a,ns,e,hq,d,q⟩;subst e;obtain⟨u,e,B⟩:=bY.one r;subst e;cases B;obtain⟨c,z,p,G⟩:=I.list hq;have i:IntsAre c ns:=intsAre_of z;have l:=p.isList;obtain⟨xs,e⟩:=i.allInts.items;have b:ns=xs.toList.map (·.1):=by
  rw[<- i.numsOf,<- nums_intItems,<- e]
 have f:0<xs.size:=by
  have g:=d;rw[b,ah,bg] at g;exact g
 rw[e] at l;refine min_intList (I.ok.hd w) l f λv E D A o=>?_;obtain⟨t,rfl⟩:=intItems_at A;obtain⟨F,x⟩:=argBest_lt (numAt xs) (xs.size-1);refine⟨.int _,H,I.kept o,⟨t,rfl⟩,q _ ?_ λa k=>?_⟩
 ·rw[b,numAt_eq];exact getD_mem (by rw[ah,bg];lia)
 ·rw[b] at k
  obtain⟨j,y,rfl⟩:=mem_getD k;rw[ah,bg] at y;rw[<- numAt_eq];exact x j ∅
end
noncomputable def LF(scope ZY:Scope)(N0 N2:List Str)(cap:List (Option Nat)):Bool :=
 (scope.kind==.function)&&(scope.names.all λy=>y.2 != .cell)&&(scope.names.all λy=>y.2 != .local || scope.names.lookup y.1==some .local) &&
 (scope.names.all λy=>y.2 != .free || ZY.names.lookup y.1==some .cell)&&(scope.names.all λy=>y.2 != .free || scope.names.lookup y.1==some .free)&&decide N2.Nodup&&(cap.length==N2.length) &&
 ((aq cap.length).all λi=>match cap[i]?,N2[i]? with
   |some (some j),some x=>N0[j]?==some x&&scope.names.any (λy=>y.1==x&&y.2==.free)
   |_,_=>true)
theorem Tr{X:Cx}{scope g:Scope}{m k:List Str}{b:List (Option Nat)}(A:X.env.scope=g)(p:X.N=m)(h:LF scope g m k b=true):jV X scope k b:=by
 unfold LF at h;simp only[cV] at h;obtain⟨⟨⟨⟨⟨⟨⟨t,f⟩,l⟩,n⟩,c⟩,B⟩,v⟩,d⟩:=h;rw[qt] at f l n c d;refine⟨by simpa using t,λy a e=>?_,λy a e=>?_,λy a e=>?_,λy a e=>?_,gn B,by simpa using v,λi j x o u=>?_⟩
 ·have:=f y a;rw[e] at this;exact eL this (!_)
 ·have:=l y a;rw[e] at this;simpa using this
 ·have:=n y a
  rw[e] at this;show X.env.scope.names.lookup y.1=some .cell;rw[A]
  simpa using this
 ·have:=c y a;rw[e] at this;simpa using this
 ·have w:i<b.length:=(ai.mp o).1
  have q:=d i (bH.mpr w);rw[o,u] at q;simp only[cV] at q;refine⟨by rw[p];simpa using q.1,?_⟩;obtain⟨y,a,z⟩:=xx.mp q.2;simp only[cV] at z;have s:y.1=x:=by simpa using z.1
  have r:y.2=.free:=by simpa using z.2
  rw[<- s,<- r];exact a
def CW(H1:Hp)(acc:Addr)(n:Nat)(P:Nat->List V->Hp->Prop):Nat->Nat->Hp->Prop :=
 λi m H=>m=n-i/\i<=n/\aD H1 H/\∃ys,H acc=some (.lst ys)/\P i ys H
theorem gR{J:It}{n:Nat}{r:List (Option Nat)}{g:TG}{B:TT}{v:TE}{w:St}{z:Hp->Prop}{f:Hp}{a:Addr}(P:Nat->List V->Hp->Prop)(j:f a=none)
 (go:∀i H,i<n->aD f H->J.go i H) (stop:∀H,aD f H->J.stop n H) (C:P 0 [] (upd f a (.lst [])))
 (step:∀i h H,i<n->aD f H->H a=some (.lst h)->P i h H->∀x l,J.MS i H x l->g x (jU r w) l λc t=>B c t λb o=>if b=true then v c o λy k=>∃xs,k a=some (.lst xs)/\xs.length<sizeLine /\
  ∃d,d<n-i/\CW f a n P (i+1) d (upd k a (.lst (xs++[y]))) else ∃d,d<n-i/\CW f a n P (i+1) d o)
 (u:∀h H,aD f H->H a=some (.lst h)->P n h H->z H) :
 ∃W:Nat->Nat->Hp->Prop,(∃m,W 0 m (upd f a (.lst [])))/\∀i m H,W i m H ->
  (J.stop i H/\z H)∨(J.go i H/\∀x l,J.MS i H x l->g x (jU r w) l λc t=>B c t λb o=>if b=true then v c o λy k=>∃xs,k a=some (.lst xs)/\xs.length<sizeLine /\
   ∃d,d<m/\W (i+1) d (upd k a (.lst (xs++[y]))) else ∃d,d<m/\W (i+1) d o):=by
 refine⟨CW f a n P,⟨n,rfl,aR _,aD.new j,[],au,C⟩,?_⟩;rintro i m H ⟨rfl,D,s,h,A,p⟩;by_cases q:i<n
 ·exact .inr ⟨go i H q s,step i h H q s A p⟩
 ·have e:i=n:=∅
  subst e;exact .inl ⟨stop H s,u h H s A p⟩
theorem fj{e c:Hp}{a:Addr}{n i:Nat}{P:Nat->List V->Hp->Prop}{d:List V}{y:V}(b:e a=none)(g:i<n)(s:aD e c)(h:c a=some (.lst d))(hl:d.length<sizeLine)(p:P (i+1) (d++[y]) (upd c a (.lst (d++[y])))) :
 ∃xs,c a=some (.lst xs)/\xs.length<sizeLine/\∃f,f<n-i/\CW e a n P (i+1) f (upd c a (.lst (xs++[y]))) :=
 ⟨d,h,hl,n-(i+1),∅,rfl,g,s.out b,_,au,p⟩
theorem kh{c b:Hp}{a:Addr}{n i:Nat}{P:Nat->List V->Hp->Prop}{e:List V}(f:i<n)(s:aD c b)(g:b a=some (.lst e))(p:P (i+1) e b):∃d,d<n-i/\CW c a n P (i+1) d b :=
 ⟨n-(i+1),∅,rfl,f,s,_,g,p⟩
theorem xB{K:af}{a:Addr}{xs:List V}{b:Hp}(h:bS K b a xs):∀i H,i<xs.length->aD b H->(Lu K a).go i H:=λi H c s=>⟨xs,xs[i],s.seq h,by simp[c]⟩
theorem m7{K:af}{a:Addr}{xs:List V}{b:Hp}(h:bS K b a xs):∀H,aD b H->(Lu K a).stop xs.length H:=λH s=>⟨xs,s.seq h,av _⟩
theorem abr{K:af}{a:Addr}{xs:List V}{b:Hp}(h:bS K b a xs):∀i H,i<xs.length->aD b H->(X7 K a).go i H:=λi H c s=>⟨xs,xs[i],s.seq h,by simp[c]⟩
theorem Vz{K:af}{a:Addr}{xs:List V}{b:Hp}(h:bS K b a xs):∀H,aD b H->(X7 K a).stop xs.length H:=λH s=>⟨xs,s.seq h,av _⟩
theorem Es{lo:Int}{n:Nat}{a:Hp}:∀i H,i<n->aD a H->(U0 lo n).go i H:=λi H b s=>b
theorem wg{lo:Int}{n:Nat}{a:Hp}:∀H,aD a H->(U0 lo n).stop n H:=λH s=>av n
noncomputable def hide(H:Hp)(l:Addr):Hp:=λb=>if b=l then none else H b
theorem abt{a:Type}{xs:List a}{i:Int}{v:a}(b:0<=i)(h:xs[i.toNat]?=some v):Eo xs i=some v:=by
 obtain⟨k,rfl⟩:=Int.eq_ofNat_of_zero_le b;exact dM (by simpa using h)
theorem VA{ns:List Int}{i:Int}(b:0<=i)(h:i<ns.length):Eo (ns.map V.int) i=some (.int (ns.getD i.toNat 0)):=by
 have a:i.toNat<ns.length:=∅
 refine abt b ?_;rw[aj,ak,aa a];rfl
section
variable{X:Cx}
theorem VB(K:af)(h:X.K=K):CS X (S4 K):=by subst h;exact Rt
theorem XX(K:af)(h:X.K=K):CS X (S5 K):=by subst h;exact Vm
theorem XY(K:af)(h:X.K=K):UA X (ad4 K):=by subst h;exact Em
theorem Hi(K:af)(h:X.K=K):xq X (compareOp .In) (Jf K false):=by subst h;exact oO
theorem JH(K:af)(h:X.K=K):oG X (.builtin "len") (λxs H Q=>∃p a,xs=[.ref p]/\(bS K H p a∨cN K H p a)/\Q (.int a.length) H):=by subst h;exact Dd
theorem GQ(K:af)(h:X.K=K){e:Expr}{f:Str}{a:Pos}{b:TE}(c:PE X e b)(d:attributeBase e f X.env (eval e X.env)=eval e X.env):PE X (.Attribute e f a) (G8 K b f):=by subst h;exact aU c d
theorem RE(K:af)(h:X.K=K){es:List Expr}{k:Nat}{a:Pos}{t:nT}{n:Nat}(c:X.calm=true)(h':lJ X es t)(d:(assignEach es X.env).length=n:=by rfl)
 (b:(assignEach es X.env).findIdx? (·.1)=none:=by rfl):PG X (.Tuple es k a) (aaZ K n t):=by subst h;exact PF c h' d b
theorem Tt:oG X (.builtin "isinstance") (λxs H Q=>∃(a:Addr) (d:List V) (n:String) (b:Bool),xs=[.ref a,.ty n]/\cN X.K H a d/\PySem.W.kitOne X.K (.type "tuple") (.type n)=some b/\Q (.bl b) H):=by
 intro f s v H xs p Q I r ⟨a,d,n,b,e,hq,k,q⟩;subst e;obtain⟨u,m,e,l,c⟩:=bY.two r;subst e;cases c;cases l;obtain⟨g,t,⟨o,j,h,_⟩,_⟩:=I.tuple hq;exact dP PySem.W.kitx_tuple I.BL ⟨o,j,h⟩ k (λz=>nomatch z) λi=>⟨.bl _,H,I.tok i,rfl,q⟩
theorem Tu:oG X (.builtin "isinstance") (λxs H Q=>∃(a:Addr) (d:List V) (n:String) (b:Bool),xs=[.ref a,.ty n]/\bS X.K H a d/\PySem.W.kitOne X.K (.type "list") (.type n)=some b/\Q (.bl b) H):=by
 intro f s w H xs p Q I r ⟨a,d,n,b,e,hq,k,q⟩;subst e;obtain⟨u,m,e,l,c⟩:=bY.two r;subst e;cases c;cases l;obtain⟨g,v,⟨o,t,j,h,_⟩,_⟩:=I.list hq;exact dP PySem.W.kitx_list I.BL ⟨o,j,h⟩ k (λz=>nomatch z) λi=>⟨.bl _,H,I.tok i,rfl,q⟩
noncomputable def dX:Expr->Bool
 |.Starred _ _=>false
 |_=>true
theorem M5{e:Expr}{es:List Expr}{env:Env}(h:dX e=true):starEach (e::es) env=(false,eval e env)::starEach es env:=by
 cases e <;> first|rfl|(exact Bool.noConfusion h)|simp[starEach]
theorem m8{e:Expr}{es:List Expr}{a:TE}{t:TA}(d:PE X e a)(b:PA X es t)(c:dX e=true:=by rfl):PA X (e::es) (gC a t):=XI d b (M5 c)
theorem XZ{bs:List Bool}{us:List Value}(r:bY (bs.map V.bl) us){i:Nat}{v:Value}(h:us[i]?=some v):v=.bool (bs.getD i true):=by
 have c:=r.length;rw[ah] at c;have d:i<us.length:=(ai.mp h).1;have e:(bs.map V.bl)[i]?=some (.bl (bs.getD i true)):=by
  rw[aj,aa ∅,ak,aa ∅];rfl
 obtain⟨u,a,b⟩:=r.get e;rw[h] at a;cases a;exact b
theorem range_all(bs:List Bool):((aq bs.length).all λi=>bs.getD i true)=bs.all id:=by
 rw[iJ,qt,qt];constructor
 ·intro h x b
  obtain⟨i,a,e⟩:=iH b
  have:=h i (bH.mpr a)
  rw[ak,aa a,e] at this;exact this
 ·intro h i a
  have a:=bH.mp a
  have:=h bs[i] (aK a)
  rw[ak,aa a];exact this
theorem VC(k:X.calm=true):oG X (.builtin "all") (λxs H Q=>∃(a:Addr) (bs:List Bool),xs=[.ref a]/\bS X.K H a (bs.map V.bl)/\Q (.bl (bs.all id)) H):=by
 intro g s C H xs x Q I r ⟨a,bs,e,hq,q⟩;subst e;obtain⟨u,e,w⟩:=bY.one r;subst e;cases w;obtain⟨c,f,p,B⟩:=I.list hq;have h:=f.length;rw[ah] at h;refine call_all_walk (wpAny_pyIter_list p.isList ?_);have d:a<s.heap.objs.size:=by obtain⟨o,n,e,_⟩:=p;exact Heap.lt_size e
 refine⟨s.heap.objs.size,_,_,_,_,_,λi=>bs.getD i true,rfl,Walks.list (A:=X.A.in1) (show X.A.in1.handled=none from I.ok.hd k) _ a (aZ d) c.toArray,⟨⟨_,Heap.get?_push_size _ rfl,rfl,rfl⟩,p.isList.at λo e=>Heap.get?_push_of_some _ e⟩,?_,λy l j=>?_⟩
 ·intro i v s Q E t m
  have e:=XZ f (show c[i]?=some v by simpa using t);subst e;exact wpAny_truthy_bool m
 ·have e:(aq c.toArray.size).all (λi=>bs.getD i true)=bs.all id:=by
   rw[show c.toArray.size=bs.length by simp[h]];exact range_all bs
  rw[e];exact⟨.bl _,H,I.kept (t':=l) λb o e=>j b o (by
   intro z
   have:b=s.heap.objs.size:=by simpa using z
   exact eL (Heap.lt_size e) (by rw[this];exact gp _)) (Heap.get?_push_of_some _ e),rfl,q⟩
end
end L2
namespace Gr
abbrev Ps:=List (Int×Int)
def AO(ps:Ps)(k:Nat)(x y:Int):Prop:=ps[k]?=some (x,y)∨ps[k]?=some (y,x)
theorem Et{f:Type}[DecidableEq f]:∀{xs B:List f},xs.Nodup->(∀x∈xs,x∈B)->xs.length<=B.length
 |[],_,_,_=>aR _
 |x::xs,B,b,c=>by
  have a:=c x bJ;have h:∀y∈xs,y∈B.erase x:=λy d=>by
   have g:y≠x:=λe=>(fG.mp b).1 (e▸d);exact (List.mem_erase_of_ne g).mpr (c y (aN _ d))
  have i:=Et (fG.mp b).2 h;have j:=List.length_erase_of_mem a;have k:0<B.length:=List.length_pos_of_mem a;rw[aT];lia
theorem BV{c:Type}{xs:List c}{x:c}(h:xs.Nodup)(f:x∉xs):(xs++[x]).Nodup:=by
 rw[jO];refine⟨h,-_,λa g b d=>?_⟩
 have:b=x:=by simpa using d
 rw[this];exact λe=>f (e▸g)
noncomputable def ends(ps:Ps):List Int:=ps.flatMap λp=>[p.1,p.2]
end Gr
namespace L2
open PySem Gr
def VD(K:af)(ta:TE):TT:=λσ H Q=>ta σ H λx H'=>∃k,aa9 K x H' k/\Q k H'
theorem Tv{X:Cx}{a:Expr}{c:TE}(e:PE X a c)(d:∀b,isTrue a X.env b=(do let v <- b;standAt a.pos;holding [v] (truthy v))):PT X a (VD X.K c):=Ve e d
theorem X0{c:TT}{j:TS}{D:Ends}{a:St}{H:Hp}(f:Nat->St->Hp->Prop)(l:Nat)(n:f l a H)
 (o:∀m a H,f m a H->c a H λb e=>if b=true then j {D with nx:=λd i=>∃h,h<m/\f h d i,ct:=λd i=>∃h,h<m/\f h d i,bk:=D.nx} a e else D.nx a e)
 (g:∀a H Q k,(∀b e,Q b e->k b e)->c a H Q->c a H k):PJ c j D a H:=by
 refine⟨f,⟨l,n⟩,λm a H p=>g a H _ _ (λb e q=>?_) (o m a H p)⟩;cases b with
 |true=>exact⟨_,λd i z=>z,q⟩
 |false=>exact q
end L2
namespace L2
open PySem PySem.Spec PyProof.Rows
section
variable{X:Cx}
theorem M6:oG X (.type "range") (λxs H Q=>∃j:Int,xs=[.int j]/\∀p,H p=none->Q (.ref p) (upd H p (.UP 0 j))):=by
 intro c s g H xs f Q I r ⟨j,e,q⟩;subst e;obtain⟨u,e,d⟩:=bY.one r;subst e;obtain⟨t,rfl⟩:=d;refine call_range_1 ⟨.ref s.heap.objs.size,_,I.laid (a:=s.heap.objs.size) (o:=.UP 0 j) (λb o e=>Heap.get?_push_of_some _ e) (av _) ?_,rfl,q _ (I.hok.fresh (av _))⟩;exact⟨_,_,_,Heap.get?_push_size _ rfl⟩
theorem P9{a:Array Value}{n:Nat}(hl:a.size=n)(h:∀(i:Nat) (v:Value),a[i]?=some v->∃t,v=Value.int (0+(i:Int)*1) t):bY ((aq n).map λk=>V.int (k:Nat)) a.toList:=by
 have c:∀(b:List Value) (m:Nat),(∀(i:Nat) (v:Value),b[i]?=some v->∃t,v=Value.int ((m+i:Nat):Int) t)->bY ((List.range' m b.length).map λk=>V.int (k:Nat)) b:=by
  intro b;induction b with
  |nil=>intro m _;exact .nil
  |cons u b f =>
   intro m d;rw[aT,List.range'_succ,bL];refine .cons (d 0 u rfl) (f (m+1) λi v e=>?_);obtain⟨t,q⟩:=d (i+1) v (by simpa using e);exact⟨t,by rw[q];congr 1;lia⟩
 have:=c a.toList 0 λi v e=>by
  obtain⟨t,q⟩:=h i v (by simpa using e);exact⟨t,by rw[q];congr 1;lia⟩
 rw[bg,hl,<- List.range_eq_range'] at this;exact this
theorem Qa(h:X.calm=true):oG X (.type "list") (λxs H Q=>∃(p:Addr) (j:Nat),xs=[.ref p]/\H p=some (.UP 0 j)/\j<=1000/\∀l,H l=none->Q (.ref l) (upd H l (.lst ((aq j).map λk=>.int (k:Nat))))):=by
 intro f s G H xs D Q I r ⟨p,j,e,B,m,q⟩;subst e;obtain⟨u,e,C⟩:=bY.one r;subst e;cases C;obtain⟨t,u,v,x⟩:=(show fH X.prog X.w H s.heap p (.UP 0 j) from I.hok p _ B);refine call_list_range (I.ok.hd h) (n:=j) x (small_one ∅ ∅ ∅ ∅) (by rw[rangeSize_one];split <;> lia) ∅ λF E b y g i A=>?_;obtain⟨d,c⟩:=A;have z:=P9 d c;refine⟨.ref s.heap.objs.size,_,I.laid (a:=s.heap.objs.size) (o:=.lst ((aq j).map λk=>.int (k:Nat))) g (av _) ⟨?_,b.toList,y,z,by simpa using i⟩,rfl,q _ (I.hok.fresh (av _))⟩;rw[ah,bx];exact iB (bX m)
end
end L2
namespace Gr
end Gr
namespace L2
open PySem PySem.Spec PyProof.Rows
def Yb(h:Heap)(e T:Addr)(cls fl:Value):Prop :=
 ∃oe vs oT ts,h.get? e=some oe/\oe.cls=cls/\oe.dict=none/\oe.data=.fields vs/\vs[1]?=some (.ref T)/\T≠e/\h.get? T=some oT/\oT.data=.fields ts/\ts[3]?=some fl
structure Kw(F R:List Addr)(h h':Heap):Prop where
 keep:∀b o,b∉F->b∉R->h.get? b=some o->h'.get? b=some o
 slot:∀b o,b∈F->b∉R->h.get? b=some o->∃sl,h'.get? b=some {o with slots:=sl}
theorem Kw.mono{F R f:List Addr}{h h':Heap}(t:Kw F R h h')(d:∀b∈R,b∈f):Kw F f h h' :=
 ⟨λb o a c e=>t.keep b o a (λz=>c (d b z)) e,λb o a c e=>t.slot b o a (λz=>c (d b z)) e⟩
theorem Kw.trans{F R:List Addr}{h i j:Heap}(a:Kw F R h i)(b:Kw F R i j):Kw F R h j :=
 ⟨λc o d f e=>b.keep c o d f (a.keep c o d f e),λc o d f e=>by
  obtain⟨m,l⟩:=a.slot c o d f e;obtain⟨g,k⟩:=b.slot c _ d f l;exact⟨g,k⟩⟩
theorem Kw.aeg{F:List Addr}{h:Heap}{a:Addr}{g:Obj->Obj}:Kw F [a] h (h.update a g) :=
 ⟨λb o _ c e=>(Heap.get?_update_other _ _ (λz=>c (by simp[z]))).trans e,λb o _ c e=>⟨o.slots,(Heap.get?_update_other _ _ (λz=>c (by simp[z]))).trans e⟩⟩
theorem Tw{f:Array Value->Array Value}{o:Obj}:(Obj.mapFields f o).dict=o.dict:=by
 obtain⟨c,d,a,b⟩:=o;cases a <;> rfl
section
variable{M:Model}{A:Around}{E:Value->Shared->Prop}{s:Shared}{base:Heap}{env:Env}{outer:List Env}{L e:Addr}
theorem Hj(hl:s.heap.FunFrames base (env::outer)){b:Obj}{vs:Array Value}(d:s.heap.get? e=some b)(f:b.data=.fields vs):e∉frs (env::outer):=λg=>by
 obtain⟨_,o,c,a⟩:=hl.mem g;rw[d] at c;cases c;exact a vs f
theorem Ky{d:Obj}{vs:Array Value}{a:Value}{C:Bool}{Q:Unit->Shared->Prop}(u:A.frames=some (env::outer))(hl:s.heap.FunFrames base (env::outer))(G:env.frame=some L)
 (x:s.heap.get? e=some d) (k:d.dict=none) (v:d.data=.fields vs) (hsz:1<vs.size)
 (h:∀h',Yb h' e s.heap.objs.size d.cls (rawInt L)->Kw (frs (env::outer)) [e] s.heap h'->Q () {s with heap:=h'}) :
 wpAny M A (do let y <- frameOf env;let j <- entryPlaceOf L C;let B <- EntryCells.newEntry a y .none (rawInt L) .none j;setField (.ref e) 1 B) Q E s:=by
 have n:=Hj hl x v;refine wpAny_bind (wpAny_frameOf_fun u hl G λg1 F=>?_);obtain⟨t,c,m⟩:=F;refine wpAny_bind (wpAny_entryPlaceOf λj i=>?_);unfold EntryCells.newEntry newFields;refine wpAny_bind (wpAny_newObj_type ?_ (i.sizeOk5 _ _ _ _ _));have l:g1.get? e=some d:=(c e n).trans x;have f:g1.objs.size≠e:=Nat.ne_of_gt (Heap.lt_size l);refine wpAny_setField (Heap.get?_push_of_some _ l) v hsz (h _ ?_ ?_)
 ·have g:=Obj.data_mapFields v (·.setIfInBounds 1 (Value.ref g1.objs.size))
  have qT:=(Heap.get?_update_other _ (Obj.mapFields (·.setIfInBounds 1 (Value.ref g1.objs.size))) (bM f)).trans (Heap.get?_push_size g1 (o:={cls:=.type "traceback",dict:=none,data:=.fields ([a,.ref L,.none,rawInt L,.none]++(if j.isEmpty then bD 6 Value.none else j)).toArray}) rfl);rw[<- t];refine⟨_,_,_,_,Heap.get?_update_self _ (Heap.get?_push_of_some _ l) (Obj.isFreed_of_fields g),Obj.cls_mapFields _ _,?_,g,?_,f,qT,rfl,?_⟩
  ·rw[Tw]
   exact k
  ·simp[hsz]
  ·rcases i with rfl|⟨_,_,_,_,_,_,_,rfl⟩ <;> simp
 ·refine⟨λb o w p r=>?_,λb o w p r=>?_⟩
  ·rw[Heap.get?_update_other _ _ (λz=>p (by simp[z]))]
   exact Heap.get?_push_of_some _ ((c b w).trans r)
  ·obtain⟨D,q⟩:=m b o r
   refine⟨D,?_⟩;rw[Heap.get?_update_other _ _ (λz=>p (by simp[z]))];exact Heap.get?_push_of_some _ q
theorem Qc{a:Obj}{vs:Array Value}{Q:Unit->Shared->Prop}(c:A.frames=some (env::outer))(hl:s.heap.FunFrames base (env::outer))(g:env.frame=some L)
 (f:s.heap.get? e=some a) (b:a.dict=none) (i:a.data=.fields vs) (d:vs[1]?=some .none)
 (h:∀h',Yb h' e s.heap.objs.size a.cls (rawInt L)->Kw (frs (env::outer)) [e] s.heap h'->Q () {s with heap:=h'}):wpAny M A (noteFrame (.ref e) env) Q E s:=by
 unfold noteFrame;simp only[g];refine wpAny_bind (wpAny_field f i d ?_);rw[eH (!_)];exact Ky c hl g f b i (fW.mp d).1 h
theorem Tz{T:Addr}{cls:Value}{Q:Unit->Shared->Prop}(j:A.frames=some (env::outer))(hl:s.heap.FunFrames base (env::outer))(q:env.frame=some L)(y:Yb s.heap e T cls .none)
 (h:∀h',Yb h' e s.heap.objs.size cls (rawInt L)->Kw (frs (env::outer)) [e,T] s.heap h'->Q () {s with heap:=h'}):wpAny M A (noteFrame (.ref e) env) Q E s:=by
 obtain⟨u,D,F,C,n,r,g,p,m,x,f,c,l⟩:=y;subst r;unfold noteFrame;simp only[q];refine wpAny_bind (wpAny_field n p m ?_);rw[ee (-_)];refine wpAny_bind (wpAny_field f c l ?_);rw[eH (by simp[rawInt])];refine wpAny_bind (wpAny_setField f c (fW.mp l).1 ?_);have t:=Hj (e:=T) hl f c;have k:(s.heap.update T (Obj.mapFields (·.setIfInBounds 3 Value.none))).objs.size=s.heap.objs.size:=Heap.size_after_update ..;have a:∀b,b≠T->(s.heap.update T (Obj.mapFields (·.setIfInBounds 3 Value.none))).get? b=s.heap.get? b:=λb d=>Heap.get?_update_other _ _ (bM d);refine Ky (s:={s with heap:=s.heap.update T (Obj.mapFields (·.setIfInBounds 3 Value.none))}) (base:=base) j (hl.of_keeps λb o d i=>⟨o,(a b λz=>?_).trans d,rfl⟩) q ((a e (bM x)).trans n) g p (fW.mp m).1 λh' B v=>?_
 ·rw[z,f] at d
  cases d;exact i C c
 ·have w:Yb h' e s.heap.objs.size u.cls (rawInt L):=k▸B
  exact h h' w ((Kw.aeg.mono (-_)).trans (v.mono (-_)))
theorem FF{T:Addr}{cls q:Value}{Q:Unit->Shared->Prop}(f:Yb s.heap e T cls q)(h:∀h',Yb h' e T cls .none->(∀F,Kw F [T] s.heap h')->h'.objs.size=s.heap.objs.size->Q () {s with heap:=h'}) :
 wpAny M A (setFlight (.ref e) none) Q E s:=by
 obtain⟨p,n,t,r,j,m,d,l,i,k,g,b,o⟩:=f;have a:3<r.size:=(fW.mp o).1;unfold setFlight;refine wpAny_bind (wpAny_field j l i ?_);rw[ee (-_)];refine wpAny_setField g b a (h _ ?_ (λF=>Kw.aeg) (Heap.size_after_update ..));have c:=Obj.data_mapFields b (·.setIfInBounds 3 ((none:Option Addr).elim Value.none λf=>rawInt f));exact⟨p,n,_,_,(Heap.get?_update_other _ _ k).trans j,m,d,l,i,k,Heap.get?_update_self _ g (Obj.isFreed_of_fields c),c,by simp[a]⟩
end
theorem fH.there{P:Program}{w:World}{H:Hp}{h:Heap}{a:Addr}:∀{o:HO},fH P w H h a o->∃ob,h.get? a=some ob
 |.lst _,⟨_,_,_,_,e⟩=>⟨_,e⟩
 |.tup _,⟨_,_,_,o,e,_⟩=>⟨o,e⟩
 |.dK _,⟨_,_,_,_,o,_,_,e,_⟩=>⟨o,e⟩
 |.dT _,⟨_,_,_,_,o,_,_,e,_⟩=>⟨o,e⟩
 |.set _ _,⟨o,_,_,_,e,_⟩=>⟨o,e⟩
 |.ins _ _ _,⟨_,_,_,e,_⟩=>⟨_,e⟩
 |.own _,e=>e
 |.xd _,⟨_,n,_⟩=>let ⟨o,e,_⟩:=Km n;⟨o,e⟩
 |.met _ _,e=>⟨_,e⟩
 |.UP _ _,⟨_,_,_,e⟩=>⟨_,e⟩
 |.AM o _,⟨e,_⟩=>⟨o,e⟩
 |.ZI _,e=>⟨_,e⟩
 |.ext _,⟨_,e,_⟩=>e
theorem zl.r8{P:Program}{w:World}{H:Hp}{h h':Heap}{F R:List Addr}(ok:zl P w H h)(t:Kw F R h h')(c:∀b∈F,H b=none)(d:∀b∈R,H b=none):zl P w H h':=λa o e =>
 (ok a o e).stay (λb u hb q=>t.keep b u (λz=>by
  have:=c b z
  rcases hb with rfl|hb
  ·rw[e] at this;cases this
  ·rw[hb] at this;cases this) (λz=>by
  have:=d b z
  rcases hb with rfl|hb
  ·rw[e] at this;cases this
  ·rw[hb] at this;cases this) q) (λ_ q=>q) λ_ _ q=>q
def Rec(X:Cx)(pins:List (Addr×Obj))(H:Hp)(b:Addr):Prop :=
 H b=none/\b≠X.env.locals/\b∉X.fs/\X.s₀.heap.get? b=none/\(∀x c,X.env.cells.lookup x=some c->c≠b)/\∀p∈X.pn++pins,p.1≠b
section
variable{X:Cx}{pins:List (Addr×Obj)}{σ:St}{H H':Hp}{s:Shared}{h':Heap}
theorem Inv.Yc(I:Inv X pins σ H s)(f:X.ex=[]){b:Addr}(g:H' b=none)(d:s.heap.get? b=none):Rec X pins H' b:=by
 refine⟨g,λz=>?_,λz=>?_,?_,λx c e z=>?_,λp h z=>?_⟩
 ·obtain⟨m,⟨o,_,_,a,_⟩,_⟩:=I.loc
  rw[<- z,d] at a;cases a
 ·obtain⟨_,o,a,_⟩:=I.CZ.mem z
  rw[d] at a;cases a
 ·cases q:X.s₀.heap.get? b with
  |none=>rfl
  |some o =>
   obtain⟨i,e⟩:=I.base.there b o q (by rw[f];simp);rw[d] at e;cases e
 ·obtain⟨v,o,a,_⟩:=I.cell x c e
  rw[z,d] at a;cases a
 ·have:=(I.pin p h).1
  rw[z,d] at this;cases this
theorem Inv.M7(I:Inv X pins σ H s)(a:X.ex=[]):Rec X pins H s.heap.objs.size:=by
 refine I.Yc a (I.hok.fresh (av _)) ?_;cases q:s.heap.get? s.heap.objs.size with
 |none=>rfl
 |some o=>exact eL (Heap.lt_size q) (gp _)
theorem Inv.r8{R:List Addr}{t':Nat}(I:Inv X pins σ H s)(w:∀b∈R,Rec X pins H b)(t:Kw (frs X.stack) R s.heap h'):Inv X pins σ H {s with heap:=h',toks:=t'}:=by
 have F:∀b∈frs X.stack,H b=none:=λb a=>I.Lq b a;have g:∀b o,b∉R->s.heap.get? b=some o->∃j,h'.get? b=some {o with slots:=j}:=λb o C e=>by
  by_cases a:b∈frs X.stack
  ·exact t.slot b o a C e
  ·exact⟨o.slots,t.keep b o a C e⟩
 have K:∀b o,b≠X.env.locals->b∉X.fs->b∉R->s.heap.get? b=some o->h'.get? b=some o:=λb o P a C e =>
  t.keep b o (λz=>(aW.mp (I.Ef b z)).elim P a) C e
 have E:∀b o,X.s₀.heap.get? b=some o->b≠X.env.locals:=λb o e=>aZ (bI (Heap.lt_size e) I.ok.above);have h:∀b o,X.s₀.heap.get? b=some o->b∉R:=λb o e z=>by rw[(w b z).2.2.2.1] at e;cases e
 have f:∀x c,X.env.cells.lookup x=some c->∀v,s.heap.IsCell c v->h'.IsCell c v:=λx c e v ⟨o,G,S⟩=>by
  obtain⟨j,q⟩:=g c o (λz=>(w c z).2.2.2.2.1 x c e rfl) G;exact⟨_,q,S⟩
 refine⟨I.ok,I.os,I.bare,⟨λb o e n a A=>?_,λb o e n a A=>?_,I.base.free,λb o e A=>?_,I.base.tups,I.base.Be,I.base.CV⟩,?_,λx c e=>?_,I.free,I.ur,λp L=>?_,I.hok.r8 t F (λb a=>(w b a).1),I.len⟩
 ·exact K b o (E b o e) a (h b o e) (I.base.keep b o e n a A)
 ·obtain⟨j,B⟩:=I.base.slot b o e n a A
  obtain⟨D,y⟩:=g b _ (h b o e) B;exact⟨D,y⟩
 ·obtain⟨U,B⟩:=I.base.there b o e A
  obtain⟨j,y⟩:=g b _ (h b o e) B;exact⟨_,y⟩
 ·obtain⟨m,⟨o,Q,M,G,r⟩,N⟩:=I.loc
  obtain⟨j,q⟩:=g _ o (λz=>(w _ z).2.1 rfl) G;refine⟨m,⟨_,Q,M,q,r⟩,λi x v B y O=>?_⟩;obtain⟨u,T,l⟩:=N i x v B y O;refine⟨u,T,?_⟩;rcases l with l|⟨k,c,e,z⟩
  ·exact .inl l
  ·exact .inr ⟨k,c,e,f x c e _ z⟩
 ·obtain⟨v,z⟩:=I.cell x c e
  exact⟨v,f x c e v z⟩
 ·obtain⟨e,n,J,nf,d⟩:=I.pin p L
  exact⟨K p.1 p.2 J nf (λz=>(w p.1 z).2.2.2.2.2 p L rfl) e,n,J,nf,d⟩
end
def XP(X:Cx)(pins:List (Addr×Obj))(σ:St)(E:XK)(e:Value)(s':Shared):Prop :=
 ∃ea T cls H',e=.ref ea/\Inv X pins σ H' s'/\Yb s'.heap ea T cls .none/\Rec X pins H' ea/\Rec X pins H' T/\E cls none H'
def Ec(P:Program)(w:World):S2:=λouter H s E e s' =>
 ∃ea T cls H',e=.ref ea/\s'.os=s.os/\AllBare s'.gens/\Un (frs outer) [] H H' s.heap s'.heap/\zl P w H' s'.heap/\Yb s'.heap ea T cls .none/\s.heap.get? ea=none/\s.heap.get? T=none/\H' ea=none/\H' T=none/\E cls none H'
theorem aej{X:Cx}{a:List (Addr×Obj)}{i:St}{H:Hp}{s s':Shared}{E:XK}{e:Value}(I:Inv X a i H s)(d:X.ex=[])(h:Ec X.prog X.w X.stack H s E e s'):XP X a i E e s':=by
 obtain⟨k,T,f,n,o,os,c,p,g,t,m,r,l,j,q⟩:=h;exact⟨k,T,f,n,o,I.ZK (ch:=[]) os p g c (λb z=>eL z (-_)),t,I.Yc d l m,I.Yc d j r,q⟩
theorem VE{X:Cx}{a:List (Addr×Obj)}{e:St}{H:Hp}{s:Shared}{R:List Addr}{h':Heap}(I:Inv X a e H s)(c:X.ex=[])(d:∀b∈R,Rec X a H b)(t:Kw (frs X.stack) R s.heap h'):Un X.fs [] X.H₀ H X.s₀.heap h':=by
 have:=(I.r8 (t':=s.toks) d t).base
 rw[c] at this;exact this
section
variable{P:Program}{w:World}{K:af}{mg:Str->Option Value}{base:Heap}{N:List Str}{qual:Str}{scope:Scope}{f:Addr}{cd:Value}{A:Around}{outer:List Env}{s0:Shared}{H0:Hp}{E:XK}
theorem aek{a:List (Addr×Obj)}{v:St}{e:Value}{s:Shared}(h:XP (oN (Ec P w) P w K mg base N qual scope f cd A outer s0 H0 E) a v E e s):(oN (Ec P w) P w K mg base N qual scope f cd A outer s0 H0 E).xe e s:=by
 obtain⟨d,T,g,l,rfl,I,u,j,n,q⟩:=h;show wpAny _ _ (leaving _ (.ref d)) _ _ s;unfold leaving;refine wpAny_bind (Tz (base:=base) I.ok.frames I.stack rfl u λB p t=>?_);refine FF p λo r x y=>?_;have i:=I.M7 rfl;have k:∀b∈[d,T,s.heap.objs.size],Rec (oN (Ec P w) P w K mg base N qual scope f cd A outer s0 H0 E) a l b:=by
  intro b m;simp only[aW,List.not_mem_nil,or_false] at m;rcases m with z|z|z
  ·rw[z];exact j
  ·rw[z];exact n
  ·rw[z];exact i
 have c:Kw (frs (oN (Ec P w) P w K mg base N qual scope f cd A outer s0 H0 E).stack) [d,T,s.heap.objs.size] s.heap o:=(t.mono (-_)).trans ((x _).mono (-_));have J:=I.r8 (t':=s.toks) k c;exact⟨d,_,g,l,rfl,I.os,I.bare,VE I rfl k c,J.hok,r,j.2.2.2.1,i.2.2.2.1,j.1,i.1,q⟩
theorem RG:sr (Ec P w) (oN (Ec P w) P w K mg base N qual scope f cd A outer s0 H0 E) E:=λa b H s e c I h=>aek (aej I rfl h)
theorem Px.okX{x qual:Str}{st:Stmt}{f:Addr}{e:FuncData}{N ps:List Str}{k:Nat}{sp:Sp}(F:Px K x qual st f e)(S:aI N ps (aA st))(d:∀vs H Q E,sp vs H Q E->vs.length=ps.length)
 (b:∀(a:Value) (A:Around) (outer:List Env) (s:Shared) (H:Hp) (vs:List V) (Q:VK) (E:XK),jT k (A.deeper (envOfC qual (aA st) s.heap.objs.size f a))->sp vs H Q E ->
  ∃t,iX (oN (Ec P w) P w K mg base N qual (aA st) f a A outer s H E) (fQ st) t/\t {nx:=λ_ i=>Q .fk i,rt:=Q} (start N vs) H):ck P w K mg base (Ec P w) (k+1) f e ps sp:=by
 obtain⟨m,n,kV,l,p,o,a,q,j,rfl,lk,c⟩:=F.ex;exact Vj lk c S d λA outer s H vs Q E h g=>b a A outer s H vs Q E h g
end
theorem Kz{P:Program}{w:World}{X:Cx}:sr (Ec P w) X E0:=λ_ _ _ _ _ _ _ h=>by
 obtain⟨_,_,_,_,_,_,_,_,_,_,_,_,_,_,q⟩:=h;exact q.elim
abbrev aem:List Value:=[.type "ValueError",.type "Exception",.type "BaseException",.type "object"]
structure VF(K:af)(C:Addr):Prop where
 ex:PySem.W.excIn K C aem "ValueError.__new__" = true
 ga:aH K (.ref C) "__getattribute__" = some (some (.builtin "BaseException.__getattribute__"))
 gb:aH K (.ref C) "__getattr__" = some none
 hd:uS K C=true
 ca:aH K (.ref C) "__class__" = some (some (.builtin "object.__class__"))
 cg:PySem.W.specialIn K (.builtin "object.__class__") "__get__" = some (some (.builtin "getset_descriptor.__get__"))
 ct:PySem.W.takesIn K (.builtin "object.__class__")=some true
 mo:PySem.W.mroIn K C (.type "object")=some true
 mb:PySem.W.mroIn K C (.type "BaseException")=some true
theorem Yd{K:af}{h:Heap}{C:Addr}{a:List Value}{f:String}(X:K.In h)(q:PySem.W.excIn K C a f=true) :
 ∃bm N nm d bs b sn c ab col dd k0 k1 k2 k3 k5 m,h.get? C=some (excClassObj nm d C N bs bm b sn c ab col dd k0 k1 k2 k3 k5 f)/\h.Ns N m/\m "__init__" = none/\OwnTail h a bm/\bm.contains (.type "BaseException")=a.contains (.type "BaseException"):=by
 unfold PySem.W.excIn at q;split at q
 ·rename_i dd p i w
  obtain⟨nm,bs,r,g,d,b,sn,c,ab,col,u⟩:=p;obtain⟨i⟩:=i;split at q
  ·rename_i D bm k0 k1 k2 k3 n k5 o j
   simp only[cV,beq_iff_eq,Bool.not_eq_true'] at q;obtain⟨⟨⟨⟨⟨v,t⟩,k⟩,s⟩,e⟩,l⟩:=q;dsimp only at o j k e l;subst v t o j k;have T:=PySem.W.tail_of_in X s;exact⟨bm,g,nm,d,bs,b,sn,c,ab,col,dd,k0,k1,k2,k3,k5,h.nsMap g,X _ _ w,.of_isNs (PySem.W.isNs_of_in X e),PySem.W.nsMap_none_of_in X e l,T,T.hasType rfl⟩
  ·cases q
 ·cases q
section
variable{P:Program}{w:World}{K:af}{mg:Str->Option Value}{base:Heap}{N:List Str}{qual:Str}{scope:Scope}{f:Addr}{cd:Value}{A:Around}{outer:List Env}{s0:Shared}{H0:Hp}{E:XK}
theorem raised{a:List (Addr×Obj)}{m:St}{H:Hp}{s:Shared}{h':Heap}{e C:Addr}{vs:List Value}(I:Inv (oN (Ec P w) P w K mg base N qual scope f cd A outer s0 H0 E) a m H s)(hm:Heap.MadeExcOf s.heap h' e (.ref C) vs)
 (q:E (.ref C) none H):(oN (Ec P w) P w K mg base N qual scope f cd A outer s0 H0 E).xe (.ref e) {s with heap:=h'}:=by
 have h:H e=none:=by
  cases z:H e with
  |none=>rfl
  |some o =>
   obtain⟨B,l⟩:=(I.hok e o z).there;rw[hm.new] at l;cases l
 have i:=I.Yc rfl h hm.new;have c:Inv (oN (Ec P w) P w K mg base N qual scope f cd A outer s0 H0 E) a m H {s with heap:=h'}:=I.kept (t':=s.toks) hm.keeps;obtain⟨t,u,_,_⟩:=hm.there;show wpAny _ _ (leaving _ (.ref e)) _ _ _;unfold leaving;refine wpAny_bind (Qc (base:=base) c.ok.frames c.stack rfl u rfl rfl rfl λD p v=>?_);refine FF p λn r x y=>?_;have g:=c.M7 rfl;have j:∀b∈[e,h'.objs.size],Rec (oN (Ec P w) P w K mg base N qual scope f cd A outer s0 H0 E) a H b:=by
  intro b k;simp only[aW,List.not_mem_nil,or_false] at k;rcases k with z|z
  ·rw[z];exact i
  ·rw[z];exact g
 have d:Kw (frs (oN (Ec P w) P w K mg base N qual scope f cd A outer s0 H0 E).stack) [e,h'.objs.size] h' n:=(v.mono (-_)).trans ((x _).mono (-_));have J:=c.r8 (t':=s.toks) j d;exact⟨e,_,.ref C,H,rfl,I.os,I.bare,VE c rfl j d,J.hok,r,i.2.2.2.1,g.2.2.2.1,i.1,g.1,q⟩
theorem Dg{x:Str}{C:Addr}{a:Expr}{u b k:Pos}{m:TE}(B:Gl (oN (Ec P w) P w K mg base N qual scope f cd A outer s0 H0 E) x)(L:mg x=some (.ref C))(M:VF K C)(hh:A.handled=none)
 (Q:PE (oN (Ec P w) P w K mg base N qual scope f cd A outer s0 H0 E) a m) (i:(x==("__debug__" : Str))=false:=by decide)
 (n:backTo b (starEach [a] (oN (Ec P w) P w K mg base N qual scope f cd A outer s0 H0 E).env)=[(false,eval a (oN (Ec P w) P w K mg base N qual scope f cd A outer s0 H0 E).env)]:=by rfl) :
 PS (oN (Ec P w) P w K mg base N qual scope f cd A outer s0 H0 E) (.Raise (some (.Call (.Name x u) [a] [] b)) none k) (λ_ l H=>m l H λ_ o=>E (.ref C) none o):=by
 intro c s l H D I h;obtain⟨bm,z,nm,J,bs,t,sn,G,ab,col,dd,k0,k1,k2,k3,k5,W,R,p,j,T,O⟩:=Yd I.ok.mod.kF M.ex;refine wpAny_Raise_call_subT (C:=C) (nm:=nm) (q:=J) (N:=z) (bs:=bs) (bm:=bm) (hdct:=t) (sn:=sn) (sub:=G) (ab:=ab) (col:=col) (dd:=dd) (k0:=k0) (k1:=k1) (k2:=k2) (k3:=k3) (k5:=k5) PySem.F.excBase_ValueError (by rw[O];decide) hh (by rw[n];rfl) j (C1 I B L ⟨rfl,?_⟩ i);rw[n];refine Calls.evalArgs_plain (Calls.spliced_cons (gO (Q c s l H _ I h) λv V ⟨y,o,d,U,r⟩=>Calls.spliced_nil ?_));exact⟨rfl,by show 1<=sizeLine;decide,d.bk _ _ R,p.keeps d.bk,T.keeps d.bk,λS e g=>raised d g r⟩
end
end L2
namespace RM
structure Row where
 hd:Int
 co:Int
 ho:Int
 by_:Int
deriving DecidableEq
theorem Row.ext'{r s:Row}(a:r.hd=s.hd)(d:r.co=s.co)(b:r.ho=s.ho)(c:r.by_=s.by_):r=s:=by
 cases r;cases s;simp_all
def lt(r s:Row):Prop:=r.hd<s.hd∨(r.hd=s.hd/\(r.co<s.co∨(r.co=s.co/\(r.ho<s.ho∨(r.ho=s.ho/\r.by_<s.by_)))))
instance (r s:Row):Decidable (lt r s):=by unfold lt;infer_instance
def le(r s:Row):Prop:=¬lt s r
instance (r s:Row):Decidable (le r s):=by unfold le;infer_instance
theorem le_refl(r:Row):le r r:=by unfold le lt;lia
theorem abv{a b c:Int}{i l j:Prop}(h:¬i->¬l->¬j)(f:¬(b<a∨(b=a/\i)))(k:¬(c<b∨(c=b/\l))):¬(c<a∨(c=a/\j)):=by
 have d:a<=b:=Int.not_lt.mp λy=>f (.inl y);have g:b<=c:=Int.not_lt.mp λy=>k (.inl y);intro z;rcases z with z|⟨z,n⟩
 ·exact Int.not_lt.mpr (Int.le_trans d g) z
 ·subst z
  have e:=Int.le_antisymm d g;subst e;exact h (λy=>f (.inr ⟨rfl,y⟩)) (λy=>k (.inr ⟨rfl,y⟩)) n
theorem le_trans{r s t:Row}(c:le r s)(d:le s t):le r t :=
 abv (abv (abv λa b=>Int.not_lt.mpr (Int.le_trans (Int.not_lt.mp a) (Int.not_lt.mp b)))) c d
theorem Z0{r s:Row}(h:lt r s):le r s:=by unfold le lt at *;lia
structure Net where
 n:Nat
 nm:Nat->Int
 a:Nat->Nat
 b:Nat->Nat
 c:Nat->Int
 live:List Nat
 inj:∀i j,i<n->j<n->nm i=nm j->i=j
 ab:∀k∈live,a k<n/\b k<n/\a k≠b k
 c1:∀k∈live,1<=c k
section
variable(N:Net)
def GR(k h g:Nat):Prop:=k∈N.live/\((N.a k=h/\N.b k=g)∨(N.b k=h/\N.a k=g))
noncomputable def own(h:Nat):Row:=⟨N.nm h,0,0,-1⟩
noncomputable def over(k:Nat)(r:Row):Row:=⟨r.hd,r.co+N.c k,r.ho+1,k⟩
end
variable{N:Net}
theorem GR.symm{k h g:Nat}(e:GR N k h g):GR N k g h:=⟨e.1,e.2.elim (λz=>.inr ⟨z.2,z.1⟩) λz=>.inl ⟨z.2,z.1⟩⟩
theorem GR.lt{k h g:Nat}(e:GR N k h g):h<N.n/\g<N.n/\h≠g:=by
 obtain⟨d,e⟩:=e;obtain⟨a,c,b⟩:=N.ab k d;rcases e with ⟨rfl,rfl⟩|⟨rfl,rfl⟩
 ·exact⟨a,c,b⟩
 ·exact⟨c,a,bM b⟩
theorem GR.cost{k h g:Nat}(e:GR N k h g):1<=N.c k:=N.c1 k e.1
structure VG(cut:Int)(R:Nat->Row)(h:Nat)(d:Row):Prop where
 one:d=own N h∨∃k g,GR N k h g/\(R g).ho+1<cut/\d=over N k (R g)
 own:le d (RM.own N h)
 all:∀k g,GR N k h g->(R g).ho+1<cut->le d (over N k (R g))
def Sane(N:Net)(R:Nat->Row):Prop:=∀h,h<N.n->0<=(R h).ho/\(R h).ho<N.n
noncomputable def upd(R:Nat->Row)(h:Nat)(d:Row):Nat->Row:=λx=>if x=h then d else R x
structure oQ(N:Net)(R:Nat->Row)(k h g:Nat):Prop where
 AO:GR N k h g
 cut:(R g).ho+1<N.n
 eq:R h=over N k (R g)
theorem GR.far{k h g g':Nat}(a:GR N k h g)(c:GR N k h g'):g=g':=by
 obtain⟨b,e⟩:=a;obtain⟨_,d⟩:=c
 have:=(N.ab k b).2.2
 lia
section
variable{R:Nat->Row}{k h g:Nat}
theorem oQ.ho(t:oQ N R k h g):(R h).ho=(R g).ho+1:=by rw[t.eq];rfl
theorem oQ.by(t:oQ N R k h g):(R h).by_=k:=by rw[t.eq];rfl
theorem oQ.uniq{a g':Nat}(t:oQ N R k h g)(u:oQ N R a h g'):k=a/\g=g':=by
 have b:=t.by;have c:=u.by;have e:k=a:=∅
 subst e;exact⟨rfl,t.AO.far u.AO⟩
theorem oQ.one{h' g':Nat}(t:oQ N R k h g)(u:oQ N R k h' g'):h=h'/\g=g':=by
 obtain⟨f,e⟩:=t.AO;obtain⟨_,b⟩:=u.AO;have d:=t.ho;have i:=u.ho;have a:h=h'∨(h=g'/\g=h'):=by
  rcases e with ⟨rfl,rfl⟩|⟨rfl,rfl⟩ <;> rcases b with ⟨rfl,rfl⟩|⟨rfl,rfl⟩ <;> simp
 rcases a with a|⟨a,c⟩
 ·subst a
  exact⟨rfl,t.AO.far u.AO⟩
 ·subst a c
  lia
end
end RM
namespace RM
variable{N:Net}
end RM
namespace L2
open PySem PySem.Spec PyProof.Rows
inductive M8:List Value->List Value->Bool->Prop
 |nil:M8 [] [] false
 |ne {a c:Int} {t u:Tok} {vs ws:List Value} (h:a≠c):M8 (.int a t::vs) (.int c u::ws) (decide (a<c))
 |eq {a:Int} {t u:Tok} {vs ws:List Value} {r:Bool} (h:M8 vs ws r):M8 (.int a t::vs) (.int a u::ws) r
section
open PySem.SeqAt
open PySem.AutoSeq1 (wpAny_loadPart')
open PySem.MeetsSeq PySem.MeetsSeq2 PySem.MeetsSeq3
theorem Qd(l b:Addr)(items f:Array Value)(n K:Nat)(dd F:Option Addr)(I B:Array (Option Value))(r:Bool)(M:M8 items.toList f.toList r)(hsz:items.size=f.size) :
 Meets (Builtin.«tuple.__lt__» ⟨[.ref l,.ref b],[]⟩)
  (λ_ R s=>s.heap.get? l=some {cls:=.type "tuple",dict:=dd,data:=.seq items n,slots:=I}/\s.heap.get? b=some {cls:=.type "tuple",dict:=F,data:=.seq f K,slots:=B} /\
   R (.ok (.ret (.bool r))) s) :=
 .of_wp λi w A R s h=>by
  obtain⟨z,g,d,v,os⟩:=s;obtain⟨N,J,h⟩:=h;have Q:=AutoSeq1.sub_tuple_tuple
  wp_walk using wpAny_loadPart' N,wpAny_loadPart' J,wpAny_forIn_list _ (λrest b E=>b.1=none/\E=⟨z,g,d,v,os⟩/\∃(p q:List Value),rest=p.zip q/\M8 p q r) _
  case turn =>
   rintro⟨y,x⟩ rest b E ⟨m,rfl,p,q,k,o⟩;cases o with
   |nil=>rw[List.zip_nil_left] at k;cases k
   |@ne a c t u p q D =>
    rw[List.zip_cons_cons] at k;injection k with hyx hrest
    injection hyx with hy o
    subst hy o;obtain⟨e,G,j⟩:=HT.MX A.in1 ⟨z,g,d,v,os⟩ a t c u;refine wpAny_bind (G i w _ _ ?_);cases e with
    |true=>exact eL (j.mp rfl) D
    |false =>
     have H:=HT.Vk A.in1 ⟨z,g,d,v,os⟩ a t c u i w
     wp_walk using H
     exact⟨_,rfl,by simpa using h⟩
   |@eq a t u p q P C =>
    rw[List.zip_cons_cons] at k;injection k with hyx hrest
    injection hyx with hy o
    subst hy o;obtain⟨e,G,j⟩:=HT.MX A.in1 ⟨z,g,d,v,os⟩ a t a u;refine wpAny_bind (G i w _ _ ?_);cases e with
    |true =>
     wp_walk
     exact⟨rfl,rfl,_,_,hrest,C⟩
    |false=>exact eL (j.mpr rfl) aB
  case fin =>
   rintro⟨O,S⟩ E ⟨m,rfl,p,q,k,o⟩;simp only at m;subst m;cases o with
   |nil =>
    have L:decide (items.size<f.size)=false:=ff ∅;rw[<- L] at h
    wp_walk
    exact⟨_,rfl,by simpa [Builtin.Tuple.tupleCompareSizes] using h⟩
   |ne=>rw[List.zip_cons_cons] at k;cases k
   |eq=>rw[List.zip_cons_cons] at k;cases k
  case h =>
   exact⟨rfl,rfl,items.toList,f.toList,rfl,M⟩
end
theorem Ye{prog:Program}{w:World}{A:Around}{E:Value->Shared->Prop}{s:Shared}{l b:Addr}{items a:Array Value}{r:Bool}{Q:Value->Shared->Prop}(hl:IsTup s.heap l items)(v:IsTup s.heap b a)(z:M8 items.toList a.toList r)(hsz:items.size=a.size)
 (u:A.units<cLine) (h:Q (.bool r) s):wpAny (model prog w) A (compareOp .Lt (.ref l) (.ref b)) Q E s:=by
 obtain⟨⟨t,q,j,p⟩,m,i,n,k⟩:=id hl;obtain⟨⟨o,g,data2,f⟩,d,c,y,e⟩:=id v;simp only at i k c e;subst i k c e;exact richCompare_meets_room (op:=.Lt) ⟨_,m,rfl⟩ ⟨_,d,rfl⟩ PySem.F.slot_tuple_lt PySem.F.entry_tuple_lt (PySem.F.args_tuple_lt_2 _ _) (Qd l b items a n y q g p f r z hsz)
  ⟨m,d,show Value.bool r≠Value.notImplemented/\Q (.bool r) s from ⟨(λx=>nomatch x),h⟩⟩ u
inductive Hl:List V->List V->Bool->Prop
 |nil:Hl [] [] false
 |ne {a c:Int} {vs ws:List V} (h:a≠c):Hl (.int a::vs) (.int c::ws) (decide (a<c))
 |eq {a:Int} {vs ws:List V} {r:Bool} (h:Hl vs ws r):Hl (.int a::vs) (.int a::ws) r
theorem Hl.vals{vs ws:List V}{r:Bool}(h:Hl vs ws r):∀{us a:List Value},bY vs us->bY ws a->M8 us a r:=by
 induction h with
 |nil=>intro us a c b;cases c;cases b;exact .nil
 |ne h =>
  intro us a c b;cases c with
  |cons d _ =>
   cases b with
   |cons e _ =>
    obtain⟨t,rfl⟩:=d;obtain⟨u,rfl⟩:=e;exact .ne h
 |eq _ f =>
  intro us a c b;cases c with
  |cons d g =>
   cases b with
   |cons e i =>
    obtain⟨t,rfl⟩:=d;obtain⟨u,rfl⟩:=e;exact .eq (f g i)
section
variable{X:Cx}
def ahD(K:af):R2:=λx y H Q=>∃a b xs ys r,x=.ref a/\y=.ref b/\cN K H a xs/\cN K H b ys/\xs.length=ys.length/\Hl xs ys r/\Q (.bl r) H
theorem abw(m:X.A.units<cLine):xq X (compareOp .Lt) (ahD X.K):=by
 intro e s B H x y v u Q I l k h;obtain⟨a,b,w,z,r,rfl,rfl,p,o,t,n,q⟩:=h;cases l;cases k;obtain⟨g,f,j,_⟩:=I.tuple p;obtain⟨d,c,i,_⟩:=I.tuple o;exact Ye j i (n.vals f c) (by rw[aL,aL,<- f.length,<- c.length];exact t) m ⟨.bl r,H,I,rfl,q⟩
end
end L2
namespace RM
open PySem L2
noncomputable def ki(b:Int):V:=if b<0 then .fk else .int b
noncomputable abbrev cT(r:Row):List V:=[.int r.hd,.int r.co,.int r.ho,ki r.by_]
theorem bu{b:Int}(h:b<0):ki b=.fk:=ee h
theorem bq{b:Int}(h:0<=b):ki b=.int b:=eH ∅
end RM
namespace L2
open PySem PySem.Spec PyProof.Rows
end L2
namespace L2
open PySem PySem.Spec PyProof.Rows RM
end L2
namespace L2
open PySem PySem.Spec PyProof.Rows
section
variable{X:Cx}
def ahE(K:af):R2:=λx y H Q=>∃da db,Rep K H da x/\Rep K H db y/\da.canLay0=true/\db.canLay0=true/\da.depth<=64/\Q (.bl (PyData.eqv da db)) H
theorem Yg(K:af)(g:X.K=K)(h:X.A.units+64<cLine):xq X (compareOp .Eq) (ahE K):=by
 subst g;intro a s m H x y v u Q I f c ⟨d,b,k,j,i,e,l,q⟩;exact Er a s m H x y v u Q I f c ⟨d,b,k,j,i,e,bQ (cC (aF (gA _ _) l) _) h,q⟩
end
end L2
namespace RM
open PySem L2
noncomputable def UI(b:Int):PyData:=if b<0 then .none else .int b
noncomputable def Eu(r:Row):PyData:=.tuple [.int r.hd,.int r.co,.int r.ho,UI r.by_]
theorem Yh{K:af}{H:Hp}(b:Int):Rep K H (UI b) (ki b):=by
 unfold UI ki;by_cases h:b<0
 ·rw[ee h,ee h];rfl
 ·rw[eH h,eH h];rfl
theorem zy{K:af}{H:Hp}{p:Addr}{r:Row}(h:cN K H p (cT r)):Rep K H (Eu r) (.ref p) :=
 ⟨p,_,rfl,h,_,_,rfl,rfl,_,_,rfl,rfl,_,_,rfl,rfl,_,_,rfl,Yh _,rfl⟩
theorem zz(r:Row):(Eu r).canLay0=true:=by
 show (true&&(true&&(true&&((UI r.by_).canLay0&&true))))=true;unfold UI;split <;> rfl
theorem KA(r:Row):(Eu r).depth=1:=by
 show max 0 (max 0 (max 0 (max (UI r.by_).depth 0)))+1=1;unfold UI;split <;> rfl
theorem M9{r s:Row}(g:-1<=r.by_)(i:-1<=s.by_):PyData.eqv (Eu r) (Eu s)=decide (r=s):=by
 have e:PyData.eqv (Eu r) (Eu s)=((r.hd==s.hd)&&((r.co==s.co)&&((r.ho==s.ho)&&(PyData.eqv (UI r.by_) (UI s.by_)&&true)))):=rfl;rw[e];have f:PyData.eqv (UI r.by_) (UI s.by_)=decide (r.by_=s.by_):=by
  unfold UI;by_cases a:r.by_<0 <;> by_cases c:s.by_<0
  ·rw[ee a,ee c]
   exact (e8 ∅).symm
  ·rw[ee a,eH c]
   exact (ff ∅).symm
  ·rw[eH a,ee c]
   exact (ff ∅).symm
  ·rw[eH a,eH c]
   show (r.by_==s.by_)=_;by_cases b:r.by_=s.by_
   ·rw[e8 b,b];exact beq_self_eq_true _
   ·rw[ff b];exact beq_eq_false_iff_ne.mpr b
 rw[f];by_cases h:r=s
 ·subst h
  simp
 ·rw[ff h]
  have:¬(r.hd=s.hd/\r.co=s.co/\r.ho=s.ho/\r.by_=s.by_):=λz=>h (Row.ext' z.1 z.2.1 z.2.2.1 z.2.2.2)
  simp only[Bool.and_true];by_cases a:r.hd=s.hd
  ·by_cases c:r.co=s.co
   ·by_cases b:r.ho=s.ho
    ·have d:¬r.by_=s.by_:=λz=>this ⟨a,c,b,z⟩
     simp[d]
    ·simp[b]
   ·simp[c]
  ·simp[a]
end RM
namespace L2
open PySem PySem.Spec PyProof.Rows
end L2
namespace RM
open PySem L2
theorem Yi{r s:Row}(h:r.hd=s.hd->r.co=s.co->r.ho=s.ho->¬lt r s):Hl [.int r.hd,.int r.co,.int r.ho] [.int s.hd,.int s.co,.int s.ho] (decide (lt r s)):=by
 obtain⟨n,m,l,o⟩:=r;obtain⟨j,i,k,p⟩:=s;dsimp only at h;have a:∀{b g:Bool} {vs ws},Hl vs ws b->b=g->Hl vs ws g:=λh e=>e▸h;by_cases c:n=j
 ·subst c
  by_cases f:m=i
  ·subst f
   by_cases d:l=k
   ·subst d
    exact a (.eq (.eq (.eq .nil))) (ff (h rfl rfl rfl)).symm
   ·exact a (.eq (.eq (.ne d))) (by unfold lt;simp[d])
  ·exact a (.eq (.ne f)) (by unfold lt;simp[f])
 ·exact a (.ne c) (by unfold lt;simp[c])
end RM
namespace L2
open PySem PySem.Spec PyProof.Rows
end L2
set_option maxHeartbeats 4000000
namespace TW
open PySem L2 PyProof.Rows
open RM (cT ki bu bq)
seal L2.PE L2.PA L2.PT L2.PW L2.PS L2.iX L2.PG L2.lJ L2.PI L2.lK
structure VH(n:Int)(a b c d e:Int):Prop where
 a0:0<=a
 a1:a<n
 b0:0<=b
 b1:b<n
 ab:a≠b
 c1:1<=c
 d1:1<=d
 d4:d<=4
 e1:1<=e
 e7:e<=7
noncomputable abbrev aen(a b c d e:Int):List V:=[.int a,.int b,.int c,.int d,.int e]
structure R5 where
 a:Int
 b:Int
 c:Int
 d:Int
 e:Int
noncomputable abbrev R5.vs(r:R5):List V:=aen r.a r.b r.c r.d r.e
noncomputable abbrev R5.ns(r:R5):List Int:=[r.a,r.b,r.c,r.d,r.e]
noncomputable def R5.D(r:R5):PyData:=.tuple (r.ns.map .int)
abbrev R5.Ok(n:Int)(r:R5):Prop:=VH n r.a r.b r.c r.d r.e
def Ho(K:af)(H:Hp)(l:Addr)(rs:List R5):Prop:=Rep K H (.list (rs.map R5.D)) (.ref l)
section
variable{K:af}{H H':Hp}{l:Addr}{rs:List R5}
theorem Ho.mono(s:aD H H')(h:Ho K H l rs):Ho K H' l rs:=Rep.mono s h
theorem Ho.at(h:Ho K H l rs):∃vs,bS K H l vs/\vs.length=rs.length/\∀(i:Nat) r,rs[i]?=some r->∃p,vs[i]?=some (.ref p)/\cN K H p r.vs:=by
 obtain⟨a,vs,e,q,r⟩:=h;cases e;refine⟨vs,q,by rw[r.length,ah],λi x c=>?_⟩;obtain⟨v,b,g⟩:=r.get (i:=i) (d:=x.D) (by rw[aj,c];rfl);obtain⟨p,e,f⟩:=Rep.zx (ns:=x.ns) g;subst e;exact⟨p,b,f⟩
end
theorem Hq:∀(ns:List Int),ns.Nodup->(firstMet (λi=>ns.getD i 0) ns.length).length=ns.length:=by
 intro ns j;have e:(aq ns.length).map (λi=>ns.getD i 0)=ns:=by
  apply qq
  ·simp
  ·intro i d m
   simp at d;simp[ak,d]
 have c:∀(b a:List Int),(a++b).Nodup->b.foldl step_dedup a=a++b:=by
  intro b;induction b with
  |nil=>intro a _;simp
  |cons x b l =>
   intro a h;have f:x∉a:=λg=>by
    rw[jO] at h;exact h.2.2 x g x (-_) rfl
   have k:step_dedup a x=a++[x]:=by
    unfold step_dedup;simp[f]
   rw[jP,k,l _ (by simpa using h)];simp
 unfold firstMet;rw[e,c ns [] (by simpa using j)];simp
theorem dH{f:Str}{v:V}:∀{a:List (Str×V)} {names:List Str},a.map (·.1)=names->names.contains f=false->zg f v a=a++[(f,v)]
 |[],_,_,_=>rfl
 | (g,u)::r,_,e,h=>by
  subst e;rw[bL,List.contains_cons,Bool.or_eq_false_iff] at h;have b:¬g=f:=λz=>by
   have:=h.1
   rw[z] at this;simp at this
  show (if g=f then (g,v)::r else (g,u)::zg f v r)=_;rw[eH b,dH rfl h.2];rfl
theorem AQ{K:af}{H d:Hp}{p C f:Addr}{e:List (Str×V)}{a:Addr}{xs:List V}(k:∀b o,H b=some o->b≠p->d b=some o)(c:H p=some (.ins C f e))(h:bS K H a xs):bS K d a xs:=by
 rcases h with (h|⟨o,h⟩)|h
 ·exact .inl (.inl (k _ _ h (mX h c (by intro z;cases z))))
 ·exact .inl (.inr ⟨o,k _ _ h (mX h c (by intro z;cases z))⟩)
 ·exact .inr h
theorem Yj{K:af}{H d:Hp}{p C f:Addr}{e:List (Str×V)}{a:Addr}{xs:List V}(k:∀b o,H b=some o->b≠p->d b=some o)(c:H p=some (.ins C f e))(h:cN K H a xs):cN K d a xs:=by
 rcases h with (h|⟨o,h⟩)|h
 ·exact .inl (.inl (k _ _ h (mX h c (by intro z;cases z))))
 ·exact .inl (.inr ⟨o,k _ _ h (mX h c (by intro z;cases z))⟩)
 ·exact .inr h
mutual
theorem Yk{K:af}{H f:Hp}{p C i:Addr}{g:List (Str×V)}(k:∀b o,H b=some o->b≠p->f b=some o)(c:H p=some (.ins C i g)):∀{d:PyData} {v:V},Rep K H d v->Rep K f d v
 |.none,_,h=>h
 |.bool _,_,h=>h
 |.int _,_,h=>h
 |.str _,_,h=>h
 |.list ds,_,⟨a,vs,e,q,r⟩=>⟨a,vs,e,AQ k c q,jW k c r⟩
 |.tuple ds,_,⟨a,vs,e,q,r⟩=>⟨a,vs,e,Yj k c q,jW k c r⟩
 |.dict _,_,h=>h
theorem jW{K:af}{H a:Hp}{p C f:Addr}{d:List (Str×V)}(k:∀b o,H b=some o->b≠p->a b=some o)(c:H p=some (.ins C f d)):∀{ds:List PyData} {vs:List V},c6 K H ds vs->c6 K a ds vs
 |[],_,h=>h
 |_::_,_,⟨v,r,e,q,t⟩=>⟨v,r,e,Yk k c q,jW k c t⟩
end
noncomputable abbrev ahF(ln lr:Addr)(n m:Nat):List (Str×V):=[("house_names",.ref ln),("rope_tuples",.ref lr),("size",.int n),("many",.int m)]
structure cX(K:af)(C:Addr)(H:Hp)(p ln lr:Addr)(ns:List Int)(rs:List R5):Prop where
 ob:∃dx,H p=some (.ins C dx (ahF ln lr ns.length rs.length))
 nl:H ln=some (.lst (ns.map V.int))
 rl:∃vs,H lr=some (.lst vs)/\c6 K H (rs.map R5.D) vs
section
variable{K:af}{C:Addr}{H H':Hp}{p ln lr:Addr}{ns:List Int}{rs:List R5}
theorem cX.mono(s:aD H H')(h:cX K C H p ln lr ns rs):cX K C H' p ln lr ns rs:=by
 obtain⟨⟨f,a⟩,d,e,b,c⟩:=h;exact⟨⟨f,s _ _ a⟩,s _ _ d,e,s _ _ b,c.mono s⟩
end
theorem LG(a x:Int):S6 (.int a) (.int x)=decide (x=a):=by
 show (a==x)=decide (x=a);by_cases e:x=a
 ·rw[e8 e,e];exact beq_self_eq_true a
 ·rw[ff e];exact beq_eq_false_iff_ne.mpr (bM e)
theorem kN(x:Int)(xs:List Int):LB (.int x) (xs.map V.int)=decide (x∈xs):=by
 unfold LB;induction xs with
 |nil=>simp
 |cons y c d =>
  rw[bL,List.any_cons,d,LG];by_cases a:x=y
  ·subst a;simp
  ·by_cases b:x∈c
   ·simp[a,b]
   ·simp[a,b]
theorem mL(xs:List Int):(xs.map V.int).all zp=true:=by
 rw[qt];intro v a;obtain⟨x,_,rfl⟩:=aV.mp a;rfl
noncomputable def above(xs:List Int)(x:Int):Nat:=(xs.filter λy=>decide (x<=y)).length
theorem VI{xs:List Int}{x:Int}(h:x∈xs):above xs (x+1)<above xs x:=by
 unfold above;induction xs with
 |nil=>cases h
 |cons y c f =>
  have d:(c.filter λy=>decide (x+1<=y)).length<=(c.filter λy=>decide (x<=y)).length:=by
   clear f h;induction c with
   |nil=>simp
   |cons z j a =>
    simp only[dm];by_cases b:x+1<=z
    ·rw[ee (by simpa using b),ee (by simp;lia)];simp;exact a
    ·rw[eH (by simpa using b)]
     split
     ·simp;lia
     ·exact a
  simp only[dm];by_cases g:x=y
  ·subst g
   rw[eH (by simp;lia),ee (-_)];simp;lia
  ·have i:x∈c:=by
    rcases aW.mp h with e|e
    ·exact eL e g
    ·exact e
   have:=f i
   by_cases b:x+1<=y
   ·rw[ee (by simpa using b),ee (by simp;lia)];simp;exact this
   ·rw[eH (by simpa using b),eH (by simp;lia)];exact this
theorem Yl{n x y:Int}(j:2<=n):0<=x%n/\x%n<n/\0<=(x%n+1+y%(n-1))%n/\(x%n+1+y%(n-1))%n<n/\x%n≠(x%n+1+y%(n-1))%n:=by
 have d:=bO x (show n≠0 by lia);have f:=bR x (show 0<n by lia);have i:=bO y (show n-1≠0 by lia);have h:=bR y (show 0<n-1 by lia);have e:=bO (x%n+1+y%(n-1)) (show n≠0 by lia);have g:=bR (x%n+1+y%(n-1)) (show 0<n by lia);refine⟨d,f,e,g,?_⟩;generalize x%n=a at *;generalize y%(n-1)=b at *;by_cases c:a+1+b<n
 ·rw[Int.emod_eq_of_lt ∅ c];lia
 ·rw[<- Int.sub_emod_right,Int.emod_eq_of_lt ∅ ∅];lia
theorem abx{c:TT}{t u r:TS}{D:Ends}{a:L2.St}{H:Hp}(J:L2.St->Hp->Prop)(b:∀a H,J a H->r D a H)(h:(∀a H,J a H->r D a H)->PD c t u {D with nx:=r D} a H):UW (PD c t u) r D a H:=h b
theorem VJ{K:af}{a:Addr}{xs:List V}{b:Hp}(h:cN K b a xs):∀i H,i<xs.length->aD b H->(XW K a).go i H:=λi H c s=>⟨xs,xs[i],s.dj h,by simp[c]⟩
theorem Na{K:af}{a:Addr}{xs:List V}{b:Hp}(h:cN K b a xs):∀H,aD b H->(XW K a).stop xs.length H:=λH s=>⟨xs,s.dj h,av _⟩
structure BW(n m:Nat)(r:RM.Row):Prop where
 hd:0<=r.hd
 co:0<=r.co
 ho:0<=r.ho/\r.ho<n
 by_:r.by_=-1∨(0<=r.by_/\r.by_<m)
noncomputable abbrev bw(ks:List Nat):List V:=ks.map λk=>V.int (k:Nat)
theorem iy(a:List Nat)(k:Nat):bw (a++[k])=bw a++[V.int (k:Nat)]:=by
 unfold bw;rw[aO];rfl
theorem Ym{K:af}{H:Hp}{q a:Addr}{xs b:List V}{o:HO}(hq:H q=some (.lst xs))(h:cN K H a b):cN K (upd H q o) a b:=by
 rcases h with (h|⟨c,h⟩)|h
 ·exact .inl (.inl (by rw[aC (mX h hq (by intro z;cases z))];exact h))
 ·exact .inl (.inr ⟨c,by rw[aC (mX h hq (by intro z;cases z))];exact h⟩)
 ·exact .inr h
noncomputable def aY(ns:List Int)(rs:List R5)(live:List Nat)(nd:ns.Nodup)(ok:∀r∈rs,r.Ok ns.length)(hl:∀k∈live,k<rs.length):RM.Net where
 n:=ns.length
 nm i:=ns.getD i 0
 a k:=((rs[k]?).map λr=>r.a.toNat).getD 0
 b k:=((rs[k]?).map λr=>r.b.toNat).getD 0
 c k:=((rs[k]?).map λr=>r.c).getD 0
 live:=live
 inj i j hi hj e:=by
  have e1:ns.getD i 0=ns[i]:=by simp[ak,hi]
  have e2:ns.getD j 0=ns[j]:=by simp[ak,hj]
  have e:ns[i]=ns[j]:=by rw[<- e1,<- e2];exact e
  exact (List.getElem?_inj hi nd).mp (by rw[aa hi,aa hj,e])
 ab k hk:=by
  have h:=hl k hk;have o:=ok _ (aK h);simp only[aa h,Option.map_some,Option.getD_some];have h1:=o.a0;have h2:=o.a1;have h3:=o.b0;have h4:=o.b1;have h5:=o.ab;exact⟨∅,∅,∅⟩
 c1 k hk:=by
  have h:=hl k hk;have o:=ok _ (aK h);simp only[aa h,Option.map_some,Option.getD_some];exact o.c1
def xC(K:af)(H:Hp)(l:Addr)(n:Nat)(R:Nat->RM.Row):Prop:=∃ps:List Addr,bS K H l (ps.map V.ref)/\ps.length=n/\∀(i:Nat) p,ps[i]?=some p->cN K H p (cT (R i))
theorem xC.mono{K:af}{H a:Hp}{l:Addr}{n:Nat}{R:Nat->RM.Row}(s:aD H a)(h:xC K H l n R):xC K a l n R:=by
 obtain⟨c,b,f,d⟩:=h;exact⟨c,s.seq b,f,λi p e=>s.dj (d i p e)⟩
theorem kP:∀ns:List Int,PyData.canLayAll0 (ns.map .int)=true
 |[]=>rfl
 |n::ns=>by
  show (PyData.canLay0 (.int n)&&PyData.canLayAll0 (ns.map .int))=true;rw[kP ns];rfl
theorem wk:∀ns:List Int,PyData.depthAll (ns.map .int)=0
 |[]=>rfl
 |n::ns=>by
  show max (PyData.depth (.int n)) (PyData.depthAll (ns.map .int))=0;rw[wk ns];rfl
section
variable{ns:List Int}{rs:List R5}{live:List Nat}{nd:ns.Nodup}{ok:∀r∈rs,r.Ok ns.length}{hl:∀k∈live,k<rs.length}
def xD(n m:Nat)(R:Nat->RM.Row):Prop:=∀i,i<n->BW n m (R i)
theorem xD.aby{m:Nat}{R:Nat->RM.Row}(h:xD ns.length m R):RM.Sane (aY ns rs live nd ok hl) R:=λi a=>(h i a).ho
theorem Yn{R:Nat->RM.Row}{h:Nat}{d:RM.Row}(j:xD ns.length rs.length R)(hh:h<ns.length)(b:∀x∈ns,0<=x)(i:RM.VG (N:=aY ns rs live nd ok hl) ns.length R h d):BW ns.length rs.length d:=by
 rcases i.one with e|⟨k,g,a,c,e⟩
 ·rw[e]
  have l:(aY ns rs live nd ok hl).nm h=ns[h]:=by show ns.getD h 0=_;simp[ak,hh]
  refine⟨?_,Int.le_refl _,⟨Int.le_refl _,?_⟩,.inl rfl⟩
  ·show 0<=(aY ns rs live nd ok hl).nm h
   rw[l];exact b _ (aK hh)
  ·show (0:Int)<ns.length
   lia
 ·have f:=j g a.lt.2.1
  have n:=a.cost;have m:k<rs.length:=hl k a.1;rw[e];refine⟨f.hd,?_,⟨?_,c⟩,.inr ⟨?_,?_⟩⟩
  ·show 0<=(R g).co+(aY ns rs live nd ok hl).c k
   have:=f.co
   lia
  ·show 0<=(R g).ho+1
   have:=f.ho.1
   lia
  ·show (0:Int)<=(k:Nat);lia
  ·show ((k:Nat):Int)<(rs.length:Nat);lia
end
theorem BW.by1{n m:Nat}{r:RM.Row}(h:BW n m r):-1<=r.by_:=by have:=h.by_;lia
noncomputable def isAt(rs:List R5)(h:Int)(i:Nat):Bool:=match rs[i]? with|some r=>decide (h=r.a) || decide (h=r.b)|none=>false
noncomputable def UJ(rs:List R5)(h:Int)(n:Nat):List Nat:=(aq n).filter (isAt rs h)
theorem Nb(rs:List R5)(h:Int)(n:Nat):UJ rs h (n+1)=UJ rs h n++(if isAt rs h n then [n] else []):=by
 unfold UJ;rw[fF,eO];congr 1;by_cases a:isAt rs h n=true
 ·rw[ee a];simp[a]
 ·rw[eH a];simp[a]
theorem Yo(rs:List R5)(h:Int)(n:Nat):(UJ rs h n).length<=n:=by
 have:=bB (isAt rs h) (aq n)
 rw[bx] at this;exact this
theorem LH(x a b:Int):LB (V.int x) [V.int a,V.int b]=(decide (x=a) || decide (x=b)):=by
 show (S6 (.int a) (.int x) || (S6 (.int b) (.int x) || false))=_;rw[LG,LG,Bool.or_false]
theorem eT(a:List Nat):bw a=(a.map λk:Nat=>(k:Int)).map V.int:=by
 unfold bw;rw[cF];rfl
theorem wm(x:Nat)(xs:List Nat):LB (.int (x:Nat)) (bw xs)=decide (x∈xs):=by
 rw[eT,kN];by_cases h:x∈xs
 ·rw[e8 h]
  exact e8 (aV.mpr ⟨x,h,rfl⟩)
 ·rw[ff h]
  refine ff λz=>h ?_;obtain⟨y,a,e⟩:=aV.mp z
  have:y=x:=∅
  exact this▸a
theorem mO(xs:List Nat):(bw xs).all zp=true:=by rw[eT];exact mL _
theorem VL(rs:List R5)(h:Int)(n:Nat):(UJ rs h n).Pairwise (·<·):=List.Pairwise.filter _ uq
theorem Yp{a:List Nat}(h:a.Pairwise (·<·)){j:Nat}(c:j<a.length){k:Nat}(b:k∈a.take j):k<a[j]:=by
 obtain⟨i,d,e⟩:=iH b;rw[bV] at d;rw[List.getElem_take] at e;rw[<- e];exact List.pairwise_iff_getElem.mp h i j ∅ c ∅
theorem AR{rs:List R5}{h:Int}{n k:Nat}:k∈UJ rs h n↔k<n/\isAt rs h k=true:=by
 unfold UJ;rw[bf,bH]
section
variable{ns:List Int}{rs:List R5}{live:List Nat}{nd:ns.Nodup}{ok:∀r∈rs,r.Ok ns.length}{hl:∀k∈live,k<rs.length}
noncomputable def fL(r:R5)(h:Nat):Nat:=(if (h:Int)=r.a then r.b else r.a).toNat
theorem uu{k h g:Nat}(f:k∈live):RM.GR (aY ns rs live nd ok hl) k h g↔isAt rs (h:Int) k=true/\g=fL (rs[k]'(hl k f)) h:=by
 have d:=hl k f;have o:=ok _ (aK d);have i:rs[k]?=some rs[k]:=aa d;have j:(aY ns rs live nd ok hl).a k=rs[k].a.toNat:=by show ((rs[k]?).map λr=>r.a.toNat).getD 0=_;rw[i];rfl
 have l:(aY ns rs live nd ok hl).b k=rs[k].b.toNat:=by show ((rs[k]?).map λr=>r.b.toNat).getD 0=_;rw[i];rfl
 unfold RM.GR isAt fL;rw[j,l,i];dsimp only;generalize rs[k]=r at o;have m:=o.a0;have p:=o.b0;have n:=o.ab;constructor
 ·rintro⟨_,⟨e,c⟩|⟨e,c⟩⟩
  ·have z:(h:Int)=r.a:=∅
   rw[ee z];exact⟨by simp[z],c.symm⟩
  ·have z:(h:Int)=r.b:=∅
   rw[eH ∅];exact⟨by simp[z],c.symm⟩
 ·rintro⟨e,c⟩
  refine⟨f,?_⟩;have e:(h:Int)=r.a∨(h:Int)=r.b:=by simpa using e
  by_cases z:(h:Int)=r.a
  ·rw[ee z] at c
   exact .inl ⟨∅,c.symm⟩
  ·rw[eH z] at c
   exact .inr ⟨∅,c.symm⟩
end
theorem AS{a:Type}{xs:List a}{x y:a}{j:Nat}(h:(xs++[x])[j]?=some y):xs[j]?=some y∨(j=xs.length/\y=x):=by
 by_cases b:j<xs.length
 ·rw[bN b] at h
  exact .inl h
 ·have:=(ai.mp h).1
  rw[ay] at this;have e:j=xs.length:=by have:j<xs.length+1:=this;lia
  subst e;rw[cu (av _),gz] at h;cases h;exact .inr ⟨rfl,rfl⟩
theorem xE{n i:Nat}(h:i<n):XQ n (i:Int)=some i:=by
 unfold XQ;rw[ee ∅,ee ∅];simp
section
variable{ns:List Int}{rs:List R5}{live:List Nat}{nd:ns.Nodup}{ok:∀r∈rs,r.Ok ns.length}{hl:∀k∈live,k<rs.length}
theorem aeo{k:Nat}(h:k<rs.length):(aY ns rs live nd ok hl).c k=rs[k].c:=by
 show ((rs[k]?).map λr=>r.c).getD 0=_;rw[aa h];rfl
end
end TW
namespace TW
open PySem L2 PyProof.Rows
theorem bW{a b:TS}{D:Ends}{e:L2.St}{H:Hp}(h:∀N:L2.St->Hp->Prop,(∀c d,b D c d->N c d)->a {D with nx:=N} e H):UW a b D e H:=h _ λ_ _ x=>x
theorem LI{K:af}{H:Hp}{Q:VK}{p:Addr}{xs:List V}{i:Int}{v:V}(h:bS K H p xs)(e:Eo xs i=some v)(k:Q v H):S4 K (.ref p) (.int i) H Q:=⟨p,xs,i,v,rfl,rfl,h,e,k⟩
theorem Yq{K:af}{b:L2.St}{H:Hp}{Q:VK}{p:Addr}{xs:List V}{i:Int}{v:V}(h:cN K H p xs)(e:Eo xs i=some v)(k:Q v H):tC (.int i) b H λy a=>S5 K (.ref p) y a Q:=⟨p,xs,i,v,rfl,rfl,h,e,k⟩
theorem rK{c:TT}{t u r:TS}{D:Ends}{a:L2.St}{H:Hp}(J:L2.St->Hp->Prop)(b:∀a H,J a H->r D a H)(h:∀N:L2.St->Hp->Prop,(∀a H,J a H->N a H)->PD c t u {D with nx:=N} a H):UW (PD c t u) r D a H:=h _ b
theorem Hr{lo:Int}{n:Nat}{g:TG}{h:TS}{D:Ends}{a:L2.St}{H:Hp}(e:Nat->L2.St->Hp->Prop)(k:e 0 a H)
 (l:∀i a H (N:L2.St->Hp->Prop),(∀b c,e (i+1) b c->N b c)->i<n->e i a H->g (.int (lo+i)) a H λd f=>h {D with nx:=N,ct:=N,bk:=D.nx} d f) (q:∀a H,e n a H->D.nx a H) :
 ∃W:Nat->Nat->L2.St->Hp->Prop,(∃m,W 0 m a H)/\∀i m a H,W i m a H ->
  ((U0 lo n).stop i H/\D.nx a H)∨((U0 lo n).go i H/\∃N:L2.St->Hp->Prop,(∀b c,N b c->∃j,j<m/\W (i+1) j b c)/\∀x c,(U0 lo n).MS i H x c->g x a c λd f=>h {D with nx:=N,ct:=N,bk:=D.nx} d f) :=
 se e k (λi a H o p=>l i a H _ (λ_ _ x=>x) o p) q
theorem wo{K:af}{a:Addr}{xs:List V}{g:TG}{j:TS}{D:Ends}{b:L2.St}{H:Hp}(f:Nat->L2.St->Hp->Prop)(l:f 0 b H)(hl:∀i b H,i<=xs.length->f i b H->bS K H a xs)
 (n:∀i x b H (N:L2.St->Hp->Prop),(∀c d,f (i+1) c d->N c d)->xs[i]?=some x->f i b H->g x b H λe h=>j {D with nx:=N,ct:=N,bk:=D.nx} e h) (q:∀b H,f xs.length b H->D.nx b H) :
 ∃W:Nat->Nat->L2.St->Hp->Prop,(∃m,W 0 m b H)/\∀i m b H,W i m b H ->
  ((Lu K a).stop i H/\D.nx b H)∨((Lu K a).go i H/\∃N:L2.St->Hp->Prop,(∀c d,N c d->∃k,k<m/\W (i+1) k c d)/\∀x d,(Lu K a).MS i H x d->g x b d λe h=>j {D with nx:=N,ct:=N,bk:=D.nx} e h) :=
 wc f l hl (λi x b H o p=>n i x b H _ (λ_ _ x=>x) o p) q
end TW
namespace TW
open PySem L2 PyProof.Rows
open RM (cT ki bu bq)
seal L2.PE L2.PA L2.PT L2.PW L2.PS L2.iX L2.PG L2.lJ L2.PI L2.lK
section
open Classical
noncomputable def zA(N:RM.Net)(R:Nat->RM.Row)(h:Nat):Option (Nat×Nat) :=
 if e:∃p:Nat×Nat,RM.oQ N R p.1 h p.2 then some (choose e) else none
end
theorem uv{N:RM.Net}{R:Nat->RM.Row}{h k g:Nat}:zA N R h=some (k,g)↔RM.oQ N R k h g:=by
 unfold zA;constructor
 ·intro e
  split at e
  ·rename_i q
   have:=Classical.choose_spec q
   rw[aQ e] at this;exact this
  ·cases e
 ·intro t
  have q:∃p:Nat×Nat,RM.oQ N R p.1 h p.2:=⟨(k,g),t⟩;rw[dif_pos q];have u:=Classical.choose_spec q;obtain⟨b,a⟩:=u.uniq t;exact fy some (Prod.ext b a)
theorem Nc{N:RM.Net}{R:Nat->RM.Row}{h:Nat}(q:∀k g,¬RM.oQ N R k h g):zA N R h=none:=by
 cases e:zA N R h with
 |none=>rfl
 |some p=>exact eL (uv.mp e) (q p.1 p.2)
def uW(K:af)(H:Hp)(v:V):Option (Nat×Nat)->Prop
 |none=>v=.fk
 |some p=>∃t,v=.ref t/\cN K H t [.int (p.1:Nat),.int (p.2:Nat)]
theorem uW.mono{K:af}{H a:Hp}{v:V}{o:Option (Nat×Nat)}(s:aD H a)(h:uW K H v o):uW K a v o:=by
 cases o with
 |none=>exact h
 |some p =>
  obtain⟨t,e,q⟩:=h;exact⟨t,e,s.dj q⟩
theorem uW.lst{K:af}{H:Hp}{v:V}{o:Option (Nat×Nat)}{l:Addr}{xs:List V}{ob:HO}(hl:H l=some (.lst xs))(h:uW K H v o):uW K (upd H l ob) v o:=by
 cases o with
 |none=>exact h
 |some p =>
  obtain⟨t,e,q⟩:=h;exact⟨t,e,Ym hl q⟩
def abz(K:af)(H:Hp)(l:Addr)(n:Nat)(u:Nat->Option (Nat×Nat)):Prop:=∃vs:List V,H l=some (.lst vs)/\vs.length=n/\∀(i:Nat) v,vs[i]?=some v->uW K H v (u i)
section
variable{ns:List Int}{rs:List R5}{live:List Nat}{nd:ns.Nodup}{ok:∀r∈rs,r.Ok ns.length}{hl:∀k∈live,k<rs.length}
theorem VM{R:Nat->RM.Row}{k h:Nat}(a:k∈live):(∃g,RM.oQ (aY ns rs live nd ok hl) R k h g)↔isAt rs (h:Int) k=true/\(R (fL (rs[k]'(hl k a)) h)).ho+1<ns.length/\R h=RM.over (aY ns rs live nd ok hl) k (R (fL (rs[k]'(hl k a)) h)):=by
 constructor
 ·rintro⟨g,t⟩
  obtain⟨b,c⟩:=(uu a).mp t.AO;subst c;exact⟨b,t.cut,t.eq⟩
 ·rintro⟨b,c,d⟩
  exact⟨_,(uu a).mpr ⟨b,rfl⟩,c,d⟩
theorem abA{R:Nat->RM.Row}{k h g:Nat}(t:RM.oQ (aY ns rs live nd ok hl) R k h g):g=fL (rs[k]'(hl k t.AO.1)) h:=((uu t.AO.1).mp t.AO).2
theorem Qe{k h:Nat}(a:k<rs.length)(ok:∀r∈rs,r.Ok ns.length):fL rs[k] h<ns.length:=by
 have o:=ok _ (aK a);have b:=o.a0;have e:=o.a1;have c:=o.b0;have d:=o.b1;unfold fL;split <;> lia
theorem RH{k h:Nat}(c:k<rs.length)(ok:∀r∈rs,r.Ok ns.length):(if (h:Int)=rs[k].a then rs[k].b else rs[k].a)=((fL rs[k] h:Nat):Int):=by
 have o:=ok _ (aK c);have d:=o.a0;have e:=o.b0;unfold fL;split <;> lia
end
theorem ahH{x y z i:Int}(lo a:Int)(b:lo<=x/\x<=a)(c:lo<=y/\y<=a)(d:lo<=z/\z<=a)(f:0<=i)(e:i<3):∃w,(lo<=w/\w<=a)/\Eo [V.int x,V.int y,V.int z] i=some (.int w):=by
 have:i=0∨i=1∨i=2:=∅
 rcases this with rfl|rfl|rfl
 ·exact⟨x,b,rfl⟩
 ·exact⟨y,c,rfl⟩
 ·exact⟨z,d,rfl⟩
theorem Yr(xs:List Nat):LB .fk (bw xs)=false:=by
 unfold LB;rw[Bool.eq_false_iff];intro h;obtain⟨x,a,e⟩:=xx.mp h;obtain⟨y,_,rfl⟩:=aV.mp a;cases e
end TW
namespace L2
open PySem PySem.Spec PyProof.Rows
theorem LJ{us:List Value}{ns:List Int}(h:IntsAre us ns):bY (ns.map V.int) us:=by
 induction h with
 |nil=>exact .nil
 |cons n t _ a=>exact .cons ⟨t,rfl⟩ a
section
variable{X:Cx}
def Ys(K:af):List V->Hp->VK->Prop:=λxs H Q=>∃(a:Addr) (ns:List Int),xs=[.ref a]/\bS K H a (ns.map V.int)/\ns.length<64/\∀l (ns':List Int),H l=none->ns'.Perm ns->ns'.Pairwise (·<=·)->Q (.ref l) (upd H l (.lst (ns'.map V.int)))
theorem zB:oG X (.builtin "sorted") (Ys X.K):=by
 intro g s y H w v Q I r ⟨a,i,e,hq,n,q⟩;subst e;obtain⟨u,e,t⟩:=bY.one r;subst e;cases t;obtain⟨c,j,p,x⟩:=I.list hq;have h:IntsAre c i:=intsAre_of j;have f:=IntsAre.length h;refine sorted_ints (vs:=c) p.isList h ∅ λout d k a2 l=>?_;obtain⟨e,m⟩:=sortedAll_at s.heap c out;refine⟨.ref (s.heap.objs.size+1),_,I.laid (a:=s.heap.objs.size+1) (o:=.lst (d.map V.int)) (t':=s.toks) (λb o e=>sortedAll_old e) (dD _) ⟨?_,out.toList,e,LJ k,?_⟩,rfl,q _ d (I.hok.fresh (dD _)) a2 l⟩
 ·rw[ah,a2.length_eq]
  exact iB (bX ∅)
 ·rw[m]
end
end L2
namespace TW
open PySem L2 PyProof.Rows
open RM (cT ki bu bq)
seal L2.PE L2.PA L2.PT L2.PW L2.PS L2.iX L2.PG L2.lJ L2.PI L2.lK
theorem KC:∀{xs c:List Nat},xs.Pairwise (·<·)->c.Pairwise (·<·)->(∀k,k∈xs↔k∈c)->xs=c
 |[],[],_,_,_=>rfl
 |[],y::c,_,_,h=>eL ((h y).mpr bJ) (-_)
 |x::xs,[],_,_,h=>eL ((h x).mp bJ) (-_)
 |x::xs,y::c,d,f,h=>by
  have b:=List.pairwise_cons.mp d;have a:=List.pairwise_cons.mp f;have e:x=y:=by
   rcases aW.mp ((h x).mp bJ) with z|z
   ·exact z
   ·rcases aW.mp ((h y).mpr bJ) with w|w
    ·exact w.symm
    ·have:=a.1 x z
     have:=b.1 y w
     lia
  subst e;rw[KC b.2 a.2 λk=>?_];constructor
  ·intro z
   rcases aW.mp ((h k).mp (aN _ z)) with w|w
   ·have:=b.1 k z;lia
   ·exact w
  ·intro z
   rcases aW.mp ((h k).mpr (aN _ z)) with w|w
   ·have:=a.1 k z;lia
   ·exact w
theorem oQ.lt{N:RM.Net}{R:Nat->RM.Row}{k h g:Nat}(t:RM.oQ N R k h g):h<N.n/\g<N.n:=⟨t.AO.lt.1,t.AO.lt.2.1⟩
def gk(N:RM.Net)(R:Nat->RM.Row)(os:List Nat):Prop:=os.Pairwise (·<·)/\∀k,k∈os↔∃h g,RM.oQ N R k h g
theorem gk.uniq{N:RM.Net}{R:Nat->RM.Row}{xs c:List Nat}(a:gk N R xs)(b:gk N R c):xs=c:=KC a.1 b.1 λk=>(a.2 k).trans (b.2 k).symm
theorem Nd{g:List Nat}{c:List Int}(p:c.Perm (g.map λk:Nat=>(k:Int)))(t:c.Pairwise (·<=·))(nd:g.Nodup):∃os:List Nat,c.map V.int=bw os/\os.Pairwise (·<·)/\(∀k,k∈os↔k∈g)/\os.length=g.length:=by
 have j:∀m∈c,∃k:Nat,m=(k:Int)/\k∈g:=λm i=>by
  obtain⟨k,d,e⟩:=aV.mp (p.mem_iff.mp i);exact⟨k,e.symm,d⟩
 have s:(c.map Int.toNat).map (λk:Nat=>(k:Int))=c:=by
  rw[cF]
  conv=>rhs;rw[<- List.map_id c]
  apply cQ;intro m i;obtain⟨k,e,_⟩:=j m i;rw[e];rfl
 have l:c.Nodup:=by
  refine p.nodup_iff.mpr ?_;unfold List.Nodup;rw[List.pairwise_map];exact nd.imp λh e=>h ∅
 refine⟨c.map Int.toNat,?_,?_,λk=>?_,by rw[ah,p.length_eq,ah]⟩
 ·rw[eT,s]
 ·rw[List.pairwise_map]
  have f:=List.pairwise_and_iff.mpr ⟨t,l⟩;refine List.Pairwise.imp_of_mem (λ{a b} q o h=>?_) f;obtain⟨x,u,_⟩:=j a q;obtain⟨y,n,_⟩:=j b o;have w:=h.1;have v:=h.2;lia
 ·constructor
  ·intro d
   obtain⟨m,i,e⟩:=aV.mp d;obtain⟨y,n,r⟩:=j m i;rw[n] at e
   have:y=k:=by rw[<- e];rfl
   exact this▸r
  ·intro d
   have:((k:Nat):Int)∈c:=p.mem_iff.mpr (aV.mpr ⟨k,d,rfl⟩)
   exact aV.mpr ⟨_,this,rfl⟩
end TW
namespace TW
open PySem L2 PyProof.Rows Gr
open RM (cT ki bu bq)
section
variable{ns:List Int}{rs:List R5}{live:List Nat}{nd:ns.Nodup}{ok:∀r∈rs,r.Ok ns.length}{hl:∀k∈live,k<rs.length}
theorem VN{R:Nat->RM.Row}{os:List Nat}(O:gk (aY ns rs live nd ok hl) R os):∀k∈os,k<rs.length:=λk a=>by
 obtain⟨h,g,t⟩:=(O.2 k).mp a;exact hl k t.AO.1
end
end TW
namespace L2
open PySem PySem.Calls PySem.Spec PyProof.Rows PyProof.V PySem.W
end L2
namespace Gr
end Gr
namespace TW
open PySem L2 PyProof.Rows Gr
end TW
namespace L2
open PySem PySem.Calls PySem.Spec PyProof.Rows PyProof.V PySem.W
end L2
namespace TW
open PySem L2 PyProof.Rows Gr
end TW
namespace TW
open PySem L2 PyProof.Rows
noncomputable def stand(b:List Bool):List Nat:=(aq b.length).filter λk=>b.getD k false
theorem kj{b:List Bool}{k:Nat}:k∈stand b↔b[k]?=some true:=by
 unfold stand;rw[bf,bH,ak];constructor
 ·rintro⟨a,c⟩
  rw[aa a] at c ⊢
  simpa using c
 ·intro h
  have a:=(ai.mp h).1;exact⟨a,by rw[h];rfl⟩
theorem sA(b:List Bool):(stand b).Pairwise (·<·):=List.Pairwise.filter _ uq
theorem TH(b:List Bool):(stand b).length<=b.length:=by
 have:=bB (λk=>b.getD k false) (aq b.length)
 rw[bx] at this;exact this
theorem Dh:∀{xs b:List Nat},xs.Pairwise (·<·)->b.Pairwise (·<·)->(∀k,k∈xs↔k∈b)->xs=b
 |[],[],_,_,_=>rfl
 |[],y::b,_,_,h=>eL ((h y).mpr (-_)) (-_)
 |x::xs,[],_,_,h=>eL ((h x).mp (-_)) (-_)
 |x::xs,y::b,c,d,h=>by
  rw[List.pairwise_cons] at c d;have e:x=y:=by
   have h1:=(h x).mp (-_);have h2:=(h y).mpr (-_);rw[aW] at h1 h2;rcases h1 with h1|h1
   ·exact h1
   ·rcases h2 with h2|h2
    ·exact h2.symm
    ·have:=c.1 _ h2
     have:=d.1 _ h1
     lia
  subst e;rw[Dh c.2 d.2 λk=>?_];constructor
  ·intro a
   rcases aW.mp ((h k).mp (aN _ a)) with rfl|z
   ·exact eL (c.1 _ a) (gp _)
   ·exact z
  ·intro a
   rcases aW.mp ((h k).mpr (aN _ a)) with rfl|z
   ·exact eL (d.1 _ a) (gp _)
   ·exact z
theorem Qf{b:List Bool}{k:Nat}:(stand b).filter (λj=>decide (j≠k))=stand (b.set k false):=by
 refine Dh (List.Pairwise.filter _ (sA b)) (sA _) λj=>?_;rw[bf,kj,kj,bT];by_cases e:k=j
 ·subst e
  simp
 ·rw[eH e]
  simp[bM e]
theorem TJ{b:List Bool}{k:Nat}{xs:List Nat}(d:b[k]?=some false)(f:xs.Perm (stand b++[k]))(h:xs.Pairwise (·<=·)):xs=stand (b.set k true):=by
 have g:(stand b++[k]).Nodup:=by
  rw[jO];refine⟨(sA b).imp λz=>aZ z,-_,λx a y i=>?_⟩
  have:y=k:=by simpa using i
  subst this;intro e;subst e;rw[kj,d] at a;cases a
 have a:=(f.nodup_iff).mpr g;have l:xs.Pairwise (·<·):=(h.and a).imp λz=>Nat.lt_of_le_of_ne z.1 z.2;refine Dh l (sA _) λj=>?_;have c:=(ai.mp d).1;rw[f.mem_iff,bG,kj,kj,bT,aS];by_cases e:k=j
 ·subst e
  rw[ee rfl,ee c];simp
 ·rw[eH e]
  simp[bM e]
theorem Qg(n:Nat):stand (bD n true)=aq n:=by
 refine Dh (sA _) uq λj=>?_;rw[kj,List.getElem?_replicate,bH];by_cases h:j<n
 ·simp[h]
 ·simp[h]
theorem LK{w:List Nat}{xs:List Int}(b:xs.Perm (w.map λk:Nat=>(k:Int)))(f:xs.Pairwise (·<=·)):∃a:List Nat,xs=a.map (λk:Nat=>(k:Int))/\a.Perm w/\a.Pairwise (·<=·):=by
 have e:xs=(xs.map Int.toNat).map λk:Nat=>(k:Int):=by
  rw[cF];refine Eq.symm ((cQ λx d=>?_).trans (List.map_id xs));obtain⟨k,_,rfl⟩:=aV.mp (b.mem_iff.mp d);rfl
 refine⟨xs.map Int.toNat,e,?_,?_⟩
 ·have:=b.map Int.toNat
  rw[cF] at this;have c:(Int.toNat∘λk:Nat=>(k:Int))=id:=rfl;rw[c,List.map_id] at this;exact this
 ·rw[List.pairwise_map]
  exact f.imp λz=>Int.toNat_le_toNat z
theorem abB(k:Nat):(bD k [V.bl true]).flatten=(bD k true).map V.bl:=by
 induction k with
 |zero=>rfl
 |succ k a=>rw[iF,uV,a,iF];rfl
def n6(rs:List R5)(bs:List (List Bool)):Prop:=bs.length=rs.length/\∀(i:Nat) r b,rs[i]?=some r->bs[i]?=some b->(b.length:Int)=r.d
theorem n6.set{rs:List R5}{bs:List (List Bool)}{i k:Nat}{b:List Bool}{x:Bool}(h:n6 rs bs)(c:bs[i]?=some b):n6 rs (bs.set i (b.set k x)):=by
 refine⟨by rw[aX];exact h.1,λj r e d a=>?_⟩;rw[bT] at a;by_cases z:i=j
 ·subst z
  rw[ee rfl,ee (ai.mp c).1] at a;cases a;rw[aX];exact h.2 i r b d c
 ·rw[eH z] at a
  exact h.2 j r e d a
theorem n6.at{rs:List R5}{bs:List (List Bool)}{i:Nat}{r:R5}(h:n6 rs bs)(a:rs[i]?=some r):∃b,bs[i]?=some b/\(b.length:Int)=r.d:=by
 have:=(ai.mp a).1
 exact⟨_,aa (by have:=h.1;lia),h.2 i r _ a (aa (by have:=h.1;lia))⟩
structure uw(C:Addr)(H:Hp)(p tp lu:Addr)(ws:List (List Nat)):Prop where
 ob:∃dx,H p=some (.ins C dx [("town",.ref tp),("upright",.ref lu)])
 up:∃ls:List Addr,H lu=some (.lst (ls.map V.ref))/\ls.length=ws.length/\∀(i:Nat) l w,ls[i]?=some l->ws[i]?=some w->H l=some (.lst (bw w))
section
variable{C:Addr}{H H':Hp}{p tp lu:Addr}{ws:List (List Nat)}
theorem uw.mono(s:aD H H')(h:uw C H p tp lu ws):uw C H' p tp lu ws:=by
 obtain⟨⟨j,c⟩,f,g,d,e⟩:=h;exact⟨⟨j,s _ _ c⟩,f,s _ _ g,d,λi l w a b=>s _ _ (e i l w a b)⟩
theorem wu{w:List Nat}{ls:List Addr}{i:Nat}{l:Addr}(e:ls[i]?=some l):bw w≠ls.map V.ref:=by
 intro z;have a:(bw w)[i]?=some (V.ref l):=by rw[z,aj,e];rfl
 rw[aj] at a;cases b:w[i]? with
 |none=>rw[b] at a;cases a
 |some k=>rw[b] at a;cases a
theorem uw.ne(h:uw C H p tp lu ws):p≠lu:=by
 obtain⟨⟨d,a⟩,c,b,_⟩:=h;exact mX a b (by intro z;cases z)
theorem uw.put{i:Nat}{q:Addr}{w:List Nat}{ls:List Addr}(h:uw C H p tp lu ws)(e:H lu=some (.lst (ls.map V.ref)))(hq:H q=some (.lst (bw w)))(B:i<ws.length)(k:∀b u,H b=some u->b≠lu->H' b=some u)(y:H' lu=some (.lst ((ls.map V.ref).set i (.ref q)))):uw C H' p tp lu (ws.set i w):=by
 have c:=h.ne;obtain⟨⟨D,x⟩,d,f,t,A⟩:=h;rw[e] at f;have z:=HO.lst.inj (aQ f);have z:ls=d:=by
  have:=fy (List.map λv=>match v with|V.ref a=>a|_=>0) z
  rw[cF,cF] at this;have s:((λv=>match v with|V.ref a=>a|_=>0)∘V.ref)=(id:Addr->Addr):=rfl;rw[s,List.map_id,List.map_id] at this;exact this
 subst z;have n:i<ls.length:=∅
 have o:q≠lu:=by
  refine mX hq e λz=>?_;exact wu (aa n) (HO.lst.inj z)
 refine⟨⟨D,k _ _ x c⟩,ls.set i q,by rw[y,jh],by rw[aX,aX,t],λj l r a b=>?_⟩;rw[bT] at a b;by_cases g:i=j
 ·subst g
  rw[ee rfl,ee n] at a;rw[ee rfl,ee B] at b;cases a;cases b;exact k _ _ hq o
 ·rw[eH g] at a b
  have m:=A j l r a b;exact k _ _ m (mX m e λz=>wu a (HO.lst.inj z))
structure Z1(H:Hp)(ls:Addr)(mV:List Addr)(bs:List (List Bool)):Prop where
 at_:H ls=some (.lst (mV.map V.ref))
 len:mV.length=bs.length
 nd:mV.Nodup
 it:∀(i:Nat) l b,mV[i]?=some l->bs[i]?=some b->H l=some (.lst (b.map V.bl))
theorem Z1.mono{ls:Addr}{a:List Addr}{bs:List (List Bool)}(s:aD H H')(h:Z1 H ls a bs):Z1 H' ls a bs:=⟨s _ _ h.at_,h.len,h.nd,λi l b x y=>s _ _ (h.it i l b x y)⟩
theorem Z1.put{ls:Addr}{d:List Addr}{bs:List (List Bool)}{i:Nat}{l:Addr}{b:List Bool}(h:Z1 H ls d bs)(g:d[i]?=some l)(k:∀c u,H c=some u->c≠l->H' c=some u)(hl:H' l=some (.lst (b.map V.bl)))(a:ls≠l):Z1 H' ls d (bs.set i b):=by
 refine⟨k _ _ h.at_ a,by rw[aX,h.len],h.nd,λj o n x y=>?_⟩;have f:i<bs.length:=by rw[<- h.len];exact (ai.mp g).1
 rw[bT] at y;by_cases e:i=j
 ·subst e
  rw[ee rfl,ee f] at y;cases y;rw[g] at x;cases x;exact hl
 ·rw[eH e] at y
  refine k _ _ (h.it j o n x y) λz=>e ?_;subst z;have p:=ai.mp g;have m:=ai.mp x;obtain⟨s,a2⟩:=p;obtain⟨r,q⟩:=m;exact (List.getElem_inj h.nd).mp (a2.trans q.symm)
theorem cX.but{K:af}{C m r:Addr}{l:List (Str×V)}{tp g f:Addr}{ns:List Int}{rs:List R5}(h:cX K C H tp g f ns rs)(k:∀b o,H b=some o->b≠p->H' b=some o)(a:H p=some (.ins m r l))(i:tp≠p):cX K C H' tp g f ns rs:=by
 obtain⟨⟨d,n⟩,c,j,e,q⟩:=h;exact⟨⟨d,k _ _ n i⟩,k _ _ c (mX c a (by intro z;cases z)),j,k _ _ e (mX e a (by intro z;cases z)),jW k a q⟩
end
end TW
namespace L2
open PySem PySem.Spec PyProof.Rows
section
variable{X:Cx}
theorem TL(K:af)(f:X.K=K){a:Expr}{c:TE}(e:PE X a c)(d:∀b,isTrue a X.env b=(do let v <- b;standAt a.pos;holding [v] (truthy v))):PT X a (VD K c):=by
 subst f;exact Tv e d
end
end L2
namespace TW
open PySem L2 PyProof.Rows
noncomputable def Bl(e:Int)(g:Nat):Bool:=decide (e/2^g%2=1)
theorem Ng{e z:Int}{g:Nat}(d:1<=e)(f:e<=7)(a:([1,2,4]:List Int)[g]?=some z):(!decide (Builtin.bitAnd e z=0))=Bl e g:=by
 have b:g=0∨g=1∨g=2:=by
  have:=(ai.mp a).1
  simp at this;lia
 have c:e=1∨e=2∨e=3∨e=4∨e=5∨e=6∨e=7:=∅
 rcases b with rfl|rfl|rfl <;> cases a <;> rcases c with rfl|rfl|rfl|rfl|rfl|rfl|rfl <;> decide +kernel
theorem aep{g:Nat}(h:g<3):∃z,([1,2,4]:List Int)[g]?=some z:=⟨_,aa (by simpa using h)⟩
noncomputable def isLive(rs:List R5)(ws:List (List Nat))(g i:Nat):Bool:=match rs[i]?,ws[i]? with|some r,some w=>(!w.isEmpty)&&Bl r.e g|_,_=>false
noncomputable def uX(rs:List R5)(ws:List (List Nat))(g n:Nat):List Nat:=(aq n).filter (isLive rs ws g)
theorem zC(rs:List R5)(ws:List (List Nat))(g n:Nat):uX rs ws g (n+1)=uX rs ws g n++(if isLive rs ws g n=true then [n] else []):=by
 unfold uX;rw[fF,eO];congr 1;by_cases h:isLive rs ws g n=true
 ·rw[ee h,dm,ee h];rfl
 ·rw[eH h,dm,eH h];rfl
theorem Qh(rs:List R5)(ws:List (List Nat))(g n:Nat):(uX rs ws g n).length<=n:=by
 have:=bB (isLive rs ws g) (aq n)
 rw[bx] at this;exact this
end TW
namespace L2
open PySem PySem.Spec PyProof.Rows
structure Z2(K:af)(C:Addr)(m:Str)(f:Addr):Prop where
 hg:PySem.W.specialIn K (.ref C) "__getattribute__" = some (some (.builtin "type.__getattribute__"))
 hr:PySem.W.readsIn K C (.type "type")=true
 md:PySem.W.findCls K (.ref C) (.type "type") m=some (.val (.ref f))
 kp:dR K (.ref f)=true
section
variable{X:Cx}
theorem Ew{e:Expr}{t u:TE}(c:PE X e t)(d:PE X e u):PE X e (λb H Q=>t b H Q∨u b H Q):=λa s b H Q I h=>h.elim (c a s b H Q I) (d a s b H Q I)
end
def aeq(C:Addr)(sp:Sp)(BR:List V)(E:XK)(ta:TE)(t:TA):TE:=λσ H Q=>ta σ H λx H1=>x=.ref C/\t σ H1 λvs H2=>sp (vs++BR) H2 Q E
section
variable{X:Cx}{CX:S2}{k:Nat}{f C:Addr}{fd:FuncData}{ps:List Str}{sp:Sp}{BR:List V}{ds:List Value}{E:XK}{x m:Str}{p pos apos:Pos}{e o:Expr}{es:List Expr}{ta:TE}{t:TA}
theorem Qi{pl:Sem Bool}(D:PE X o ta)(c:Z2 X.K C m f)
 (F:ck X.prog X.w X.K X.mg X.base CX k f fd ps sp) (hr:jT k X.A) (J:Binds X.K fd ps ds) (N:bY BR ds) (G:sr CX X E) (M:PA X (e::es) t)
 (g:starEach (e::es) X.env=(false,eval e X.env)::starEach es X.env:=by rfl) (d:(backTo pos (starEach es X.env)).any (·.1)=false:=by rfl)
 (v:eval (.Call (.Attribute o m apos) (e::es) [] pos) X.env=(do
  let i <- eval o X.env
  standAt apos.atName
  let (f,first) <- holding [i] (getMethod i m pl)
  callWith pos f first (backTo pos (starEach (e::es) X.env)) (backToKw pos (keywordEach [] X.env))):=by rfl) :
 PE X (.Call (.Attribute o m apos) (e::es) [] pos) (aeq C sp BR E ta t):=by
 intro a s l H Q I h;refine PySem.W.methodCall_KW (pl:=pl) (gO (D a s l H _ I h) λu y ⟨x,p,b,z,n,q⟩=>?_) v;subst n;obtain rfl:u=Value.ref C:=z;refine PySem.W.method_cls b.BL c.hg (PySem.W.cls_value b.BL c.hr c.md rfl ?_);have B:=b.tok (y.toks+1);refine PySem.W.callWith_K (first:=[]) (h₀:=X.base) I.ok.mod.kF c.kp (gO (M pos a _ l p _ B q) λus P ⟨vs,O,j,r,L⟩=>⟨j.BL,?_⟩) g d;exact Lx (us:=us) (vs:=vs) F hr J N G j r L
end
end L2
namespace TW
open PySem L2 PyProof.Rows
theorem KD{b:Bool}{A B:Prop}(e:b=false)(h:B):if b=true then A else B:=by subst e;exact eG h
theorem aer{b:Bool}{A B:Prop}(e:b=true)(h:A):if b=true then A else B:=by subst e;exact fK h
inductive FG(cL c1 cA:Addr)(H:Hp)(a:Addr)(s to:Int):Int->Prop
 |bare (dx:Addr) (h:H a=some (.ins cL dx [("sender",.int s)])):FG cL c1 cA H a s to 0
 |one (dx:Addr) (h:H a=some (.ins c1 dx [("sender",.int s),("to",.int to)])):FG cL c1 cA H a s to 1
 |all (dx:Addr) (h:H a=some (.ins cA dx [("sender",.int s)])):FG cL c1 cA H a s to 2
section
variable{cL c1 cA:Addr}{H H':Hp}{a lh q:Addr}{s to k:Int}{xs:List V}
theorem FG.mono(h:FG cL c1 cA H a s to k)(e:aD H H'):FG cL c1 cA H' a s to k:=by
 cases h with
 |bare b h=>exact .bare b (e _ _ h)
 |one b h=>exact .one b (e _ _ h)
 |all b h=>exact .all b (e _ _ h)
end
end TW
namespace L2
open PySem PySem.W PyProof.Rows
section
variable{n:Nat}{r:Nat->Int}{cmp:Nat->Nat->(Bool->Shared->Prop)->Shared->Prop}{s:Shared}
def Pm(n:Nat)(p:Array Nat):Prop:=p.Perm (List.toArray (aq n))
theorem Pm.size{p:Array Nat}(h:Pm n p):p.size=n:=by
 have:=h.size_eq
 simpa using this
theorem Pm.lt{p:Array Nat}(h:Pm n p){k:Nat}(a:k<n):p.getD k 0<n:=by
 have b:=h.size;have e:p.getD k 0=p[k]'∅:=by simp[Array.getD,b,a]
 rw[e]
 have:p[k]'∅∈p:=Array.getElem_mem _
 have:=(h.mem_iff).mp this
 simpa using this
noncomputable def kv(r:Nat->Int)(p:Array Nat)(k:Nat):Int:=r (p.getD k 0)
def Di(r:Nat->Int)(p:Array Nat)(m:Nat):Prop:=∀i j,i<j->j<m->kv r p i<=kv r p j
def Hs(r:Nat->Int)(p:Array Nat)(m:Nat):Prop:=∀i j,i<j->j<m->kv r p j<=kv r p i
def TM(r:Nat->Int)(p:Array Nat)(a b:Nat):Prop:=∀i j,a<=i->i<b->a<=j->j<b->kv r p i=kv r p j
theorem Di.next{p:Array Nat}{m:Nat}(h:Di r p m)(d:1<=m)(b:kv r p (m-1)<=kv r p m):Di r p (m+1):=λi j a f=>by
 by_cases e:j=m
 ·subst e
  by_cases c:i=j-1
  ·rw[c];exact b
  ·exact Int.le_trans (h i (j-1) ∅ ∅) b
 ·exact h i j a ∅
theorem Hs.next{p:Array Nat}{m:Nat}(h:Hs r p m)(d:1<=m)(b:kv r p m<=kv r p (m-1)):Hs r p (m+1):=λi j a f=>by
 by_cases e:j=m
 ·subst e
  by_cases c:i=j-1
  ·rw[c];exact b
  ·exact Int.le_trans b (h i (j-1) ∅ ∅)
 ·exact h i j a ∅
theorem abD{p:Array Nat}{m:Nat}:TM r p (m+1-(0+1)) (m+1):=λi j a b c d=>by
 have:i=j:=∅
 rw[this]
theorem abE{p:Array Nat}:Di r p 1:=λi j a b=>∅
theorem Ht{p:Array Nat}{a b k:Nat}(f:b<=p.size)(d:a<=b):kv r (kas_rev p a b) k=if a<=k/\k<b then kv r p (a+b-1-k) else kv r p k:=by
 unfold kv;have e:(kas_rev p a b)[k]?=if a<=k/\k<b then p[a+b-1-k]? else p[k]?:=by
  unfold kas_rev;rw[getElem?_mirror f ((b-a)/2) ∅ k];by_cases h:a<=k/\k<b
  ·rw[ee h]
   by_cases c:a<=k/\k<a+(b-a)/2∨b-(b-a)/2<=k/\k<b
   ·rw[ee c]
   ·rw[eH c]
    congr 1;lia
  ·rw[eH h,eH ∅]
 have g:∀(q:Array Nat) (i:Nat),q.getD i 0=(q[i]?).getD 0:=λq i=>by simp[iK]
 rw[g,e];by_cases h:a<=k/\k<b
 ·rw[ee h,ee h,g]
 ·rw[eH h,eH h,g]
theorem Pm.rev{p:Array Nat}(h:Pm n p)(a b:Nat):Pm n (kas_rev p a b):=(mirror_perm _ _ _ _).trans h
theorem TN{p:Array Nat}{m:Nat}(a:m<=p.size)(h:Hs r p m):Di r (kas_rev p 0 m) m:=λi j c b=>by
 rw[Ht a (aR _),Ht a (aR _),ee ⟨aR _,∅⟩,ee ⟨aR _,b⟩];exact h _ _ ∅ ∅
theorem Ex{p:Array Nat}{a m:Nat}(f:m<=p.size)(b:a<=m)(h:Hs r p m)(d:TM r p a m):Hs r (kas_rev p a m) m/\∀k,m<=k->kv r (kas_rev p a m) k=kv r p k:=by
 have same:∀k,kv r (kas_rev p a m) k=kv r p k:=λk=>by
  rw[Ht f b];by_cases h:a<=k/\k<m
  ·rw[ee h]
   exact d _ _ ∅ ∅ h.1 h.2
  ·rw[eH h]
 exact⟨λi j c e=>by rw[same,same];exact h i j c e,λk _=>same k⟩
variable(hc:∀i j C,i<n->j<n->C (decide (r i<r j)) s->cmp i j C s)
include hc
theorem Qj{p:Array Nat}(i:Pm n p):∀(f m:Nat) {Q:Nat->Shared->Prop},1<=m->m+f=n->Di r p m ->
 (∀e,m<=e->e<=n->Di r p e->(e<n->kv r p e<kv r p (e-1))->Q e s)->(kas_asc p f m).kasWp cmp Q s
 |0,m,Q,j,l,g,k=>k m (av _) ∅ g (λz=>∅)
 |f+1,m,Q,j,l,g,k=>by
  refine hc _ _ _ (i.lt ∅) (i.lt ∅) ?_;by_cases h:kv r p m<kv r p (m-1)
  ·rw[show decide (r (p.getD m 0)<r (p.getD (m-1) 0))=true from e8 h]
   exact k m (av _) ∅ g λ_=>h
  ·rw[show decide (r (p.getD m 0)<r (p.getD (m-1) 0))=false from ff h]
   exact Qj i f (m+1) ∅ ∅ (g.next j ∅) λe a b c d=>k e ∅ b c d
theorem GS:∀(f:Nat) (p:Array Nat) (m q:Nat) {Q:Array Nat×Nat×Nat->Shared->Prop},Pm n p->1<=m->m+f=n->q+1<=m->Hs r p m->TM r p (m-(q+1)) m ->
 (∀t h q',Pm n t->1<=h->h<=n->q'+1<=h->Hs r t h->TM r t (h-(q'+1)) h->Q (t,h,q') s)->(kas_desc f p m q).kasWp cmp Q s
 |0,p,m,q,Q,e,l,A,hq,hd,o,k=>k p m q e l ∅ hq hd o
 |f+1,p,m,q,Q,e,l,A,hq,hd,o,k=>by
  have E:=e.size;refine hc _ _ _ (e.lt ∅) (e.lt ∅) ?_;by_cases w:kv r p m<kv r p (m-1)
  ·rw[show decide (r (p.getD m 0)<r (p.getD (m-1) 0))=true from e8 w]
   show ((if true=true then (if q > 0 then kas_desc f (kas_rev p (m-(q+1)) m) (m+1) 0 else kas_desc f p (m+1) 0) else _):KasT _).kasWp cmp Q s;rw[ee rfl];have g:∀{t:Array Nat},TM r t (m+1-(0+1)) (m+1):=λi j a b c d=>by
    have:i=j:=∅
    rw[this]
   by_cases u:q > 0
   ·rw[ee u]
    obtain⟨B,C⟩:=Ex ∅ (Nat.sub_le _ _) hd o;refine GS f _ (m+1) 0 (e.rev _ _) ∅ ∅ ∅ (B.next l ?_) g k;rw[C m (av _)]
    have:kv r (kas_rev p (m-(q+1)) m) (m-1)=kv r p (m-1):=by
     rw[Ht ∅ (Nat.sub_le _ _)];split
     ·exact o _ _ ∅ ∅ ∅ ∅
     ·rfl
    lia
   ·rw[eH u]
    exact GS f p (m+1) 0 e ∅ ∅ ∅ (hd.next l ∅) g k
  ·rw[show decide (r (p.getD m 0)<r (p.getD (m-1) 0))=false from ff w]
   refine hc _ _ _ (e.lt ∅) (e.lt ∅) ?_;by_cases y:kv r p (m-1)<kv r p m
   ·rw[show decide (r (p.getD (m-1) 0)<r (p.getD m 0))=true from e8 y]
    exact k p m q e l ∅ hq hd o
   ·rw[show decide (r (p.getD (m-1) 0)<r (p.getD m 0))=false from ff y]
    have D:kv r p m=kv r p (m-1):=∅
    refine GS f p (m+1) (q+1) e ∅ ∅ ∅ (hd.next l ∅) (λi j a b c d=>?_) k;have v:∀x,m+1-(q+1+1)<=x->x<m+1->kv r p x=kv r p (m-1):=λx a b=>by
     by_cases z:x=m
     ·rw[z];exact D
     ·exact o x (m-1) ∅ ∅ ∅ ∅
    rw[v i a b,v j c d]
theorem Nh{m:Nat}{p:Array Nat}{Q:Nat×Array Nat->Shared->Prop}(e:Pm n p)(g:1<=m)(i:m<=n)(h:Hs r p m)(k:∀d f,Pm n f->1<=d->d<=n->Di r f d->Q (d,f) s):(kas_tail3 m n p).kasWp cmp Q s:=by
 unfold kas_tail3;rw[KasT.kasWp_bind];exact Qj hc (e.rev 0 m) (n-m) m g ∅ (TN (by have:=e.size;lia) h) λd a b c _=>k d _ (e.rev 0 m) ∅ b c
theorem FH{m:Nat}{p:Array Nat}{Q:Nat×Array Nat->Shared->Prop}(i:Pm n p)(l:1<=m)(o:m<n)(h:Hs r p (m+1))(k:∀a b,Pm n b->1<=a->a<=n->Di r b a->Q (a,b) s):(kas_descPart m n p).kasWp cmp Q s:=by
 unfold kas_descPart;rw[KasT.kasWp_bind];refine GS hc (n-(m+1)) p (m+1) 0 i ∅ ∅ ∅ h abD λb a g a1 e d j c f=>?_;dsimp only;by_cases hq:g > 0
 ·rw[ee hq]
  exact Nh hc (a1.rev _ _) e d (Ex (by have:=a1.size;lia) (Nat.sub_le _ _) c f).1 k
 ·rw[eH hq]
  exact Nh hc a1 e d c k
theorem VO{p:Array Nat}{Q:Nat×Array Nat->Shared->Prop}(c:Pm n p)(H:1<=n)(k:∀f t,Pm n t->1<=f->f<=n->Di r t f->Q (f,t) s):(kas_count n p).kasWp cmp Q s:=by
 unfold kas_count;rw[KasT.kasWp_bind];refine Qj hc c (n-1) 1 (av _) ∅ abE λm a b g o=>?_;by_cases e:m=n
 ·rw[ee (by simp[e])]
  exact k m p c a b g
 ·rw[eH (by simp[e])]
  have o:=o ∅;by_cases w:m > 1
  ·rw[ee w]
   refine hc _ _ _ (c.lt ∅) (c.lt ∅) ?_;by_cases v:kv r p 0<kv r p (m-1)
   ·rw[show decide (r (p.getD 0 0)<r (p.getD (m-1) 0))=true from e8 v]
    exact k m p c a b g
   ·rw[show decide (r (p.getD 0 0)<r (p.getD (m-1) 0))=false from ff v]
    have l:TM r p 0 m:=by
     have d:∀x,x<m->kv r p x=kv r p 0:=λx q=>by
      by_cases E:x=0
      ·rw[E]
      ·have B:=g 0 x ∅ q
       by_cases C:x=m-1
       ·rw[C] at B ⊢;lia
       ·have:=g x (m-1) ∅ ∅
        lia
     exact λi j _ y _ G=>by rw[d i y,d j G]
    have F:Hs r p m:=λi j h u=>by rw[l i j (aR _) ∅ (aR _) u];exact Int.le_refl _
    obtain⟨A,D⟩:=Ex (by have:=c.size;lia) (aR _) F l;refine FH hc (c.rev 0 m) ∅ ∅ (A.next ∅ ?_) k;rw[D m (av _),Ht (by have:=c.size;lia) (aR _),ee ⟨aR _,∅⟩]
    have:=l (0+m-1-(m-1)) (m-1) (aR _) ∅ (aR _) ∅
    lia
  ·rw[eH w]
   have z:m=1:=∅
   subst z;refine FH hc c (av _) ∅ (λi j h u=>?_) k
   have:i=0/\j=1:=∅
   rw[this.1,this.2];exact Int.le_of_lt o
theorem Hu{p:Array Nat}{d:Nat}(o:Pm n p)(q:d<n)(m:Di r p d):∀(f l u:Nat) {Q:Nat->Shared->Prop},l<=u->u<=d->u-l<=f->(∀i,i<l->kv r p i<=kv r p d)->(∀i,u<=i->i<d->kv r p d<kv r p i) ->
 (∀j,j<=d->(∀i,i<j->kv r p i<=kv r p d)->(∀i,j<=i->i<d->kv r p d<kv r p i)->Q j s)->(kas_place p d f l u).kasWp cmp Q s
 |0,l,u,Q,v,g,x,a,b,k=>k l ∅ a (λi h=>b i ∅)
 |f+1,l,u,Q,v,g,x,a,b,k=>by
  show ((if l≥u then KasT.ret l else _):KasT Nat).kasWp cmp Q s;by_cases h:l≥u
  ·rw[ee h]
   exact k l ∅ a (λi h=>b i ∅)
  ·rw[eH h]
   refine hc _ _ _ (o.lt q) (o.lt ∅) ?_;by_cases c:kv r p d<kv r p ((l+u)/2)
   ·rw[show decide (r (p.getD d 0)<r (p.getD ((l+u)/2) 0))=true from e8 c]
    refine Hu o q m f l ((l+u)/2) ∅ ∅ ∅ a (λi w t=>?_) k;by_cases e:i=(l+u)/2
    ·rw[e];exact c
    ·exact Int.lt_of_lt_of_le c (m _ i ∅ t)
   ·rw[show decide (r (p.getD d 0)<r (p.getD ((l+u)/2) 0))=false from ff c]
    refine Hu o q m f ((l+u)/2+1) u ∅ g ∅ (λi w=>?_) b k;by_cases e:i=(l+u)/2
    ·rw[e];lia
    ·have:=m i ((l+u)/2) ∅ ∅
     lia
omit hc in
theorem VP{p:Array Nat}{a d k:Nat}(c:a<p.size)(e:d<=a):kv r (bubble p a d) k=if k=a-d then kv r p a else if a-d<k/\k<=a then kv r p (k-1) else kv r p k:=by
 unfold kv;have g:∀(q:Array Nat) (i:Nat),q.getD i 0=(q[i]?).getD 0:=λq i=>by simp[iK]
 rw[g,getElem?_bubble c d e k];by_cases h:k=a-d
 ·rw[ee h,ee h,g]
 ·rw[eH h,eH h]
  by_cases b:a-d<k/\k<=a
  ·rw[ee b,ee b,g]
  ·rw[eH b,eH b,g]
theorem VQ:∀(f:Nat) (p:Array Nat) (m:Nat) {Q:Array Nat->Shared->Prop},Pm n p->m+f=n->Di r p m->(∀t,Pm n t->Di r t n->Q t s)->(kas_bin f p m).kasWp cmp Q s
 |0,p,m,Q,o,u,c,k=>k p o (by rw[<- u];exact c)
 |f+1,p,m,Q,o,u,c,k=>by
  show ((kas_place p m m 0 m).bind λl=>kas_bin f (bubble p m (m-l)) (m+1)).kasWp cmp Q s;rw[KasT.kasWp_bind];refine Hu hc o ∅ c m 0 m (aR _) (av _) ∅ (λi h=>∅) (λi z y=>∅) λl hl a b=>?_;have B:=o.size;refine VQ f _ (m+1) ((bubble_perm _ _ _).trans o) ∅ (λi j q A=>?_) k;have x:m-(m-l)=l:=∅
  rw[VP ∅ (Nat.sub_le _ _),VP ∅ (Nat.sub_le _ _),x];by_cases v:i=l
  ·rw[ee v,eH ∅,ee ∅]
   exact Int.le_of_lt (b (j-1) ∅ ∅)
  ·rw[eH v]
   by_cases d:l<i/\i<=m
   ·rw[ee d,eH ∅,ee ∅]
    exact c (i-1) (j-1) ∅ ∅
   ·rw[eH d]
    by_cases g:j=l
    ·rw[ee g];exact a i ∅
    ·rw[eH g]
     by_cases e:l<j/\j<=m
     ·rw[ee e]
      by_cases w:i=j-1
      ·rw[w];exact Int.le_refl _
      ·exact c i (j-1) ∅ ∅
     ·rw[eH e]
      exact c i j q ∅
theorem Yt{Q:Array Nat->Shared->Prop}(e:1<=n)(k:∀p,Pm n p->Di r p n->Q p s):(kas_sort n).kasWp cmp Q s:=by
 unfold kas_sort;rw[KasT.kasWp_bind];refine VO hc (Array.Perm.refl _) e λm p d a b c=>?_;dsimp only;by_cases h:m<n
 ·rw[ee h]
  have f:max m 1=m:=∅
  rw[f];exact VQ hc (n-m) p m d ∅ c k
 ·rw[eH h]
  have:m=n:=∅
  subst this;exact k p d c
end
end L2
namespace L2
open PySem PySem.W PySem.Spec PyProof.Rows
abbrev T3:=Int×Int×Int
noncomputable def CU(x y:T3):Bool:=decide (x.1<y.1) || (decide (x.1=y.1)&&(decide (x.2.1<y.2.1) || (decide (x.2.1=y.2.1)&&decide (x.2.2<y.2.2))))
theorem xF{x y:T3}:CU x y=true↔x.1<y.1∨(x.1=y.1/\(x.2.1<y.2.1∨(x.2.1=y.2.1/\x.2.2<y.2.2))):=by
 unfold CU;simp[sq,cV]
theorem TR{x y z:T3}(a:CU x y=true)(b:CU y z=true):CU x z=true:=by
 rw[xF] at *;lia
theorem Yu(x:T3):CU x x=false:=by
 rw[Bool.eq_false_iff];intro z;rw[xF] at z;lia
theorem le3{x y z:T3}(a:CU x y=false)(b:CU z y=true):CU z x=true:=by
 have c:¬CU x y=true:=by rw[a];exact aB
 rw[xF] at *;lia
noncomputable def KE(ts:List T3)(x:T3):Int:=((ts.filter λz=>CU z x).length:Nat)
theorem filter_le{c:Type}{p q:c->Bool}:∀{l:List c},(∀z,p z=true->q z=true)->(l.filter p).length<=(l.filter q).length
 |[],_=>av _
 |a::l,h=>by
  have d:=filter_le (l:=l) h;rw[dm,dm];by_cases b:p a=true
  ·rw[ee b,ee (h a b),aT,aT];lia
  ·rw[eH b]
   split
   ·rw[aT];lia
   ·exact d
theorem filter_lt{c:Type}{p q:c->Bool}{x:c}:∀{l:List c},(∀z,p z=true->q z=true)->x∈l->p x=false->q x=true->(l.filter p).length<(l.filter q).length
 |a::l,h,hx,d,e=>by
  rw[dm,dm];rcases aW.mp hx with rfl|hx
  ·rw[eH (by rw[d];exact aB),ee e,aT]
   have:=filter_le (l:=l) h
   lia
  ·have f:=filter_lt h hx d e
   by_cases b:p a=true
   ·rw[ee b,ee (h a b),aT,aT];lia
   ·rw[eH b]
    split
    ·rw[aT];lia
    ·exact f
theorem Ni{ts:List T3}{x y:T3}(b:x∈ts):decide (KE ts x<KE ts y)=CU x y:=by
 unfold KE;cases e:CU x y with
 |true =>
  refine e8 ?_
  have:=filter_lt (l:=ts) (p:=λz=>CU z x) (q:=λz=>CU z y) (x:=x) (λz a=>TR a e) b (Yu x) e
  lia
 |false =>
  refine ff ?_
  have:=filter_le (l:=ts) (p:=λz=>CU z y) (q:=λz=>CU z x) (λz a=>le3 e a)
  lia
noncomputable abbrev iV(x:T3):List V:=[.int x.1,.int x.2.1,.int x.2.2]
def Aa(h:Heap)(v:Value)(x:T3):Prop:=∃(q:Addr) (o:Obj) (n:Nat) (t1 t2 t3:Tok),v=.ref q/\h.get? q=some o/\o.cls=.type "tuple" /\ o.data=.seq #[.int x.1 t1,.int x.2.1 t2,.int x.2.2 t3] n
section
variable{prog:Program}{w:World}{A:Around}{s:Shared}
theorem abG{E:Value->Shared->Prop}{u v:Value}{x y:T3}{C:Bool->Shared->Prop}(i:Aa s.heap u x)(l:Aa s.heap v y)(k:C (CU x y) s):wpAny (model prog w) A (keyLt' (tuples' true) u v) C E s:=by
 obtain⟨p,o,n,F,J,G,rfl,g,D,h⟩:=i;obtain⟨q,t,r,m,I,B,rfl,f,H,j⟩:=l;refine kat_lt g h f j ?_;refine kat_cons (wpAny_eqBool_int (kat_go (λa=>kat_yes ?_) λa=>kat_no (oneLt_int ?_)))
 case refine_2 =>
  have d:¬x.1=y.1:=by simpa using a
  have e:CU x y=decide (x.1<y.1):=by unfold CU;rw[ff d];simp
  rw[<- e];exact k
 have a:x.1=y.1:=by simpa using a
 refine kat_cons (wpAny_eqBool_int (kat_go (λb=>kat_yes ?_) λb=>kat_no (kat_one _ _ (lt_int ?_))))
 case refine_2 =>
  have d:¬x.2.1=y.2.1:=by simpa using b
  have e:CU x y=decide (x.2.1<y.2.1):=by rw[iJ,xF,decide_eq_true_eq];lia
  rw[<- e];exact k
 have b:x.2.1=y.2.1:=by simpa using b
 refine kat_cons (wpAny_eqBool_int (kat_go (λc=>kat_yes (kat_nil ?_)) λc=>kat_no (kat_one _ _ (lt_int ?_))))
 ·have c:x.2.2=y.2.2:=by simpa using c
  have e:CU x y=false:=by
   rw[Bool.eq_false_iff];intro z;rw[xF] at z;lia
  rw[e] at k;exact k
 ·have e:CU x y=decide (x.2.2<y.2.2):=by rw[iJ,xF,decide_eq_true_eq];lia
  rw[<- e];exact k
theorem Hv{h:Heap}:∀{vs:List Value} {ts:List T3},vs.length=ts.length->(∀(i:Nat) v x,vs[i]?=some v->ts[i]?=some x->Aa h v x)->∃d,KatTups h vs d/\d.length=vs.length/\∀f∈d,∃i t,f=Value.int i t
 |[],[],_,_=>⟨[],trivial,rfl,λ_ hf=>eL hf (-_)⟩
 |v::vs,x::ts,hl,h=>by
  obtain⟨d,a,b,c⟩:=Hv (vs:=vs) (ts:=ts) (by simpa using hl) λi v x m j=>h (i+1) v x (by simpa using m) (by simpa using j);obtain⟨q,o,n,l,r,p,rfl,e,k,g⟩:=h 0 v x rfl rfl;refine⟨.int x.1 l::d,KatTups.cons e k g rfl a,by simp[b],λf hf=>?_⟩;rcases aW.mp hf with rfl|hf
  ·exact⟨_,_,rfl⟩
  ·exact c f hf
end
section
variable{prog:Program}{w:World}{A:Around}{s:Shared}{E:Value->Shared->Prop}
theorem VR{d:Addr}{v:Value}{c:Nat}{P:PySem.Fin->Shared->Prop}(b:s.heap.get? d=some (seqObj "list" [v].toArray c))(k:P (.done (.ret .none)) {s with heap:=sortedHeap s.heap d [v] #[v]}) :
 wpAny (model prog w) A (Builtin.«list.sort» ⟨[.ref d],[]⟩) P E s:=by
 have j:d<s.heap.objs.size:=Heap.lt_size b;rw[list_sort_plain];refine wpAny_bind (listItems_at b rfl (wpAny_bind (listUpdate_at b rfl ?_)));have a:∃e,(s.heap.update d (Obj.mapSeq λ_=>#[])).get? d=some (seqObj "list" #[] e):=⟨_,get?_update_seq b (λ_=>#[])⟩;obtain⟨e,a⟩:=a;refine wpAny_bind (seqEpoch_at a rfl (wpAny_bind (wpAny_newTuple (wpAny_bind (wpAny_newList (wpAny_holding ?_))))));have i:(s.heap.update d (Obj.mapSeq λ_=>#[])).objs.size=s.heap.objs.size:=Heap.size_update _ _ _;have g:(((s.heap.update d (Obj.mapSeq λ_=>#[])).push (seqObj "tuple" [v].toArray 0)).push (seqObj "list" #[] 0)).get? d=some (seqObj "list" #[] e) :=
  Heap.get?_push_of_some _ (Heap.get?_push_of_some _ a)
 show wpAny (model prog w) A _ P E {s with heap:=((s.heap.update d (Obj.mapSeq λ_=>#[])).push (seqObj "tuple" [v].toArray 0)).push (seqObj "list" #[] 0)};have h:[v].toArray.size<2:=-_
 have f:(arrOf (SortSt.mk' general' (#[v].zip #[v]) #[] 7 none)).map (·.2)=#[v]:=by
  show (#[v].zip #[v]).map (·.2)=#[v];simp
 dsimp only;rw[ee h,ee h];refine wpAny_bind (wpAny_pure ?_);rw[StateT.run_pure];refine wpAny_bind (wpAny_pure (wpAny_bind (seqEpoch_at g rfl (wpAny_bind (listUpdate_at g rfl ?_ (hsz2:=?_))))))
 ·simp only[bne_self_eq_false,Bool.false_eq_true,if_false]
  refine wpAny_pure ?_;rw[f];exact k
 ·show ((arrOf (SortSt.mk' general' (#[v].zip #[v]) #[] 7 none)).map (·.2)).size<=sizeLine+1
  rw[f];show 1<=sizeLine+1;exact Nat.le_add_left _ _
theorem Qk{l:Addr}{v:Value}{Q:Value->Shared->Prop}(hl:s.heap.IsList l [v].toArray)(k:Q (.ref (s.heap.objs.size+1)) {s with heap:=sortedAll s.heap [v] #[v]}):wpAny (model prog w) A (call (.builtin "sorted") [.ref l]) Q E s:=by
 refine Calls.call_function_entry kind_sorted plain_sorted entry_sorted (args_sorted1 _) ?_;unfold Builtin.«sorted»;refine wpAny_bind (m:=checkCount "sorted" 1 1 _) (wpAny_pure (wpAny_bind (collect_list hl (wpAny_bind (wpAny_newList ?_)))));have a:((s.heap.push (seqObj "list" #[] 0)).update s.heap.objs.size (Obj.mapSeq (·++[v].toArray))).objs.size=s.heap.objs.size+1:=(Heap.size_update _ _ _).trans (size_push' _ _);have b:(((s.heap.push (seqObj "list" #[] 0)).update s.heap.objs.size (Obj.mapSeq (·++[v].toArray))).push (seqObj "list" [v].toArray 0)).get? (s.heap.objs.size+1)=some (seqObj "list" [v].toArray 0):=a▸Heap.get?_push_size _ rfl;show wpAny _ _ _ _ _ {s with heap:=((s.heap.push (seqObj "list" #[] 0)).update s.heap.objs.size (Obj.mapSeq (·++[v].toArray))).push (seqObj "list" [v].toArray 0)};rw[a];exact wpAny_bind (wpAny_holding (wpAny_call_entry slot_list_sort ⟨_,b,rfl⟩ entry_list_sort (VR b ⟨_,rfl,wpAny_pure ⟨_,rfl,k⟩⟩) (args_list_sort _)))
end
def iz(K:af)(H:Hp)(qs:List Addr)(ts:List T3):Prop:=qs.length=ts.length/\∀(i:Nat) q t,qs[i]?=some q->ts[i]?=some t->cN K H q (iV t)
theorem iz.mono{K:af}{H c:Hp}{qs:List Addr}{ts:List T3}(s:aD H c)(h:iz K H qs ts):iz K c qs ts:=⟨h.1,λi q t a b=>s.dj (h.2 i q t a b)⟩
def AU(ts:List T3):Prop:=∀(i j:Nat) (x y:T3),i<j->ts[i]?=some x->ts[j]?=some y->CU y x=false
section
variable{X:Cx}
def VS(K:af):List V->Hp->VK->Prop:=λxs H Q=>∃(a:Addr) (qs:List Addr) (ts:List T3),xs=[.ref a]/\bS K H a (qs.map V.ref)/\iz K H qs ts/\ts.length<64 /\
 ∀l (tK:List Addr) (ts':List T3),H l=none->ts'.Perm ts->AU ts'->iz K H tK ts'->Q (.ref l) (upd H l (.lst (tK.map V.ref)))
theorem LL:∀{qs:List Addr} {a:List Value},bY (qs.map V.ref) a->a=qs.map Value.ref
 |[],_,r=>by cases r;rfl
 |q::qs,_,r=>by
  cases r with
  |cons h t =>
   have h:_=Value.ref q:=h;rw[h,LL t];rfl
theorem KG:∀qs:List Addr,bY (qs.map V.ref) (qs.map Value.ref)
 |[]=>.nil
 |q::qs=>.cons rfl (KG qs)
theorem map_getD{b:Type}(d:b):∀l:List b,(aq l.length).map (λi=>l.getD i d)=l:=λl=>by
 apply qq
 ·simp
 ·intro i a c
  simp at a;simp[a]
theorem Dj:oG X (.builtin "sorted") (VS X.K):=by
 intro U s σ H xs us Q I r ⟨a,w,ts,e,hq,ht,h64,q⟩;subst e;obtain⟨u,e,ru⟩:=bY.one r;subst e;cases ru;obtain⟨its,rv,p,hz⟩:=I.list hq;have abI:=LL rv;subst abI;have S:=ht.1;by_cases h0:ts.length=0
 ·have d:w=[]:=List.length_eq_zero_iff.mp ∅
  subst d;have E:ts=[]:=List.length_eq_zero_iff.mp h0;subst E;refine zB U s σ H [V.ref a] [Value.ref a] Q I (.cons rfl .nil) ⟨a,[],rfl,hq,!_,λl ns' hl P _=>?_⟩
  have:ns'=[]:=List.Perm.eq_nil P
  subst this;exact q l [] [] hl (List.Perm.refl _) (λi j x y _ h=>by simp at h) ⟨rfl,λi q t h=>by simp at h⟩
 by_cases h1:ts.length=1
 ·obtain⟨A,d⟩:∃A,w=[A]:=List.length_eq_one_iff.mp ∅
  subst d;refine Qk (v:=.ref A) p.isList ?_;obtain⟨e,he⟩:=sortedAll_at s.heap [.ref A] #[.ref A];refine⟨.ref (s.heap.objs.size+1),_,I.laid (a:=s.heap.objs.size+1) (o:=.lst [.ref A]) (t':=s.toks) (λb o e=>sortedAll_old e) (dD _) ⟨?_,[.ref A],e,.cons rfl .nil,he⟩,rfl,q _ [A] ts (I.hok.fresh (dD _)) (List.Perm.refl _) (λi j x y hij h1' N=>?_) ht⟩
  ·show 1<=sizeLine
   decide
  ·have:=(ai.mp N).1
   lia
 have h2:2<=ts.length:=∅
 obtain⟨m,F⟩:=I.fr;have ahJ:∀(i:Nat) v x,(w.map Value.ref)[i]?=some v->ts[i]?=some x->Aa s.heap v x:=λi v x d E=>by
  rw[aj] at d;cases e3:w[i]? with
  |none=>rw[e3] at d;cases d
  |some A =>
   rw[e3] at d;cases d;obtain⟨jt,rj,tp,_⟩:=I.tuple (ht.2 i A x e3 E);obtain⟨o,ho,hc,n,hd⟩:=tp;cases rj with
   |cons x1 r1=>cases r1 with
    |cons x2 r2=>cases r2 with
     |cons x3 r3 =>
      cases r3;obtain⟨t1,rfl⟩:=x1;obtain⟨t2,rfl⟩:=x2;obtain⟨t3,rfl⟩:=x3;exact⟨A,o,n,t1,t2,t3,rfl,ho,hc,hd⟩
 have Z3:∀{h':Heap} {m':Str->Option Value},Fr X.base X.env.locals h' m'->(∀p∈CY X.base s.heap X.env.locals,h'.get? p.1=some p.2)->∀b o,b≠X.env.locals->s.heap.get? b=some o->h'.get? b=some o:=λ{h' m'} F' N' b o J e=>by
  cases g:X.base.get? b with
  |some u =>
   have:=I.bk b u g
   rw[e] at this;cases this;exact F'.keep b _ g
  |none=>exact N' (b,o) (Fx J g e)
 have ahK:∀{h':Heap},(∀b o,b≠X.env.locals->s.heap.get? b=some o->h'.get? b=some o)->∀(i:Nat) v x,(w.map Value.ref)[i]?=some v->ts[i]?=some x->Aa h' v x:=λ{h'} kp i v x d E=>by
  obtain⟨A,o,n,t1,t2,t3,rfl,ho,hc,hd⟩:=ahJ i v x d E;refine⟨A,o,n,t1,t2,t3,rfl,kp A o (λz=>?_) ho,hc,hd⟩;obtain⟨m0,⟨oL,es,ep,hoL,hdL,_⟩,_⟩:=I.loc;rw[z,hoL] at ho;cases ho;rw[hdL] at hd;cases hd
 refine kat_sorted (vs:=w.map Value.ref) F (UR (g:=X.base) (h:=s.heap) (L:=X.env.locals)) p.isList (by rw[ah];lia) (by rw[ah];lia) λD d h' F' N' hD=>?_;have kp':=Z3 F' λp P=>(N' p (.tail _ P)).1;have Z:=ahK kp';obtain⟨fs,kt,fl,fi⟩:=Hv (h:=h') (vs:=w.map Value.ref) (ts:=ts) (by rw[ah];exact S) Z;refine kat_kind (s:={s with heap:=h'}) (T:=.type "int") kt (by rw[fl,ah];lia) (λf hf=>?_) rfl ?_
 ·obtain⟨i,t,rfl⟩:=fi f hf
  exact Looks.of_pure rfl
 have ahM:(Value.type "int" != Value.type "tuple")=true:=!_
 rw[ahM];have hn:(w.map Value.ref).length=ts.length:=by rw[ah];exact S
 have B:∀i,i<ts.length->(w.map Value.ref)[i]?=some ((w.map Value.ref).getD i Value.none)/\ts[i]?=some (ts.getD i (0,0,0)):=λi Y=>by
  constructor
  ·rw[ak,aa ∅];rfl
  ·rw[ak,aa Y];rfl
 refine Yt (n:=(w.map Value.ref).length) (r:=λi=>KE ts (ts.getD i (0,0,0))) (λi j C Y hj k=>?_) ∅ λpp P hu=>?_
 ·rw[hn] at Y hj
  unfold kas_ask;refine abG (x:=ts.getD i (0,0,0)) (y:=ts.getD j (0,0,0)) (Z i _ _ (B i Y).1 (B i Y).2) (Z j _ _ (B j hj).1 (B j hj).2) ?_;rw[<- Ni (ts:=ts) (aG (B i Y).2)];exact k
 have hDn:s.heap.get? D=none:=by
  cases g:s.heap.get? D with
  |none=>rfl
  |some o =>
   have hx:=N' (D,seqObj "list" #[] d) (.head _)
   have:=hD (D,o) (Fx hx.2.1 hx.2.2 g)
   exact eL this (gp _)
 have hHD:H D=none:=by
  cases g:H D with
  |none=>rfl
  |some o =>
   obtain⟨ob,hob⟩:=(I.hok D o g).there;rw[hDn] at hob;cases hob
 have G:pp.toList.Perm (aq ts.length):=by
  have:=P.toList
  rw[hn] at this
  simpa using this
 refine KasFin.intro F' N' (UpdF.head λp P=>aZ (hD p P)) λN c F2 N2=>?_;have JG:=Z3 F2 λp P=>(N2 p (.tail _ P)).1;have hgD:=(N2 _ (.head _)).1;have ahN:(pp.toList.map λi=>(w.map Value.ref).getD i Value.none)=(pp.toList.map λi=>w.getD i 0).map Value.ref:=by
  rw[cF];refine cQ λi Y=>?_;have hil:i<w.length:=by
   have:=(G.mem_iff).mp Y
   rw[bH] at this;lia
  show (w.map Value.ref).getD i Value.none=Value.ref (w.getD i 0);rw[ak,ak,aj,aa hil];rfl
 rw[ahN] at hgD;have aet:pp.toList.length=ts.length:=by rw[G.length_eq,bx]
 have neD:∀b o,s.heap.get? b=some o->b≠D:=λb o e z=>by rw[z,hDn] at e;cases e
 have M:∀b o,H b=some o->b≠D:=λb o e=>aJ e hHD;have neL:∀b o,H b=some o->b≠X.env.locals:=λb o e=>aJ e I.free;refine⟨.ref D,upd H D (.lst ((pp.toList.map λi=>w.getD i 0).map V.ref)),?_,rfl,q D (pp.toList.map λi=>w.getD i 0) (pp.toList.map λi=>ts.getD i (0,0,0)) hHD ?_ ?_ ?_⟩
 ·show Inv X U σ _ {s with heap:=N,gens:=s.gens,drawn:=s.drawn,toks:=s.toks}
  refine I.step (s:=s) (t':=s.toks) (g':=s.gens) (d':=s.drawn) (h':=N) (ch:=[]) (λ_ z=>nomatch z) (λb o J _ _ e _=>JG b o J e) (λb o J _ _ e _=>⟨o.slots,JG b o J e⟩) (λb o _ e n=>by rw[aC (neD b o e)];exact n) (λb o _ e=>?_)
   (λb xs e=>by rw[aC (M b _ e)];exact e) (λb o u e=>by rw[aC (M b _ e)];exact e) (λb ps e=>⟨#[],by rw[aC (M b _ e),e];simp⟩) (λm' hm'=>?_) (λb o e=>?_) I.bare
  ·by_cases J:b=X.env.locals
   ·obtain⟨o',_,_,ho',_⟩:=F2.ns
    exact⟨o',by rw[J];exact ho'⟩
   ·exact⟨o,JG b o J e⟩
  ·have em:m'=m:=by
    obtain⟨o1,es1,ep1,O,d1,k1,f1⟩:=hm';obtain⟨o2,es2,ep2,W,d2,k2,f2⟩:=F.ns;rw[O] at W;cases W;rw[d1] at d2;cases d2;funext x;rw[<- f1 x,<- f2 x]
   rw[em];exact F2.ns
  ·by_cases J:b=D
   ·subst J
    rw[au] at e;cases e;refine⟨?_,(pp.toList.map λi=>w.getD i 0).map Value.ref,c,KG _,hgD⟩;rw[ah,ah,aet];exact iB (bX ∅)
   ·rw[aC J] at e
    refine (I.hok b o e).stay (λc u hc r=>?_) (λc r=>by rw[aC (M c _ r)];exact r) λc xs r=>by rw[aC (M c _ r)];exact r
    rcases hc with z|z
    ·rw[z] at r ⊢
     exact JG b u (neL b o e) r
    ·exact JG c u (neL c _ z) r
 ·have:=G.map λi=>ts.getD i (0,0,0)
  rw[map_getD] at this;exact this
 ·intro i j x y hij d E
  rw[aj] at d E;cases O:pp.toList[i]? with
  |none=>rw[O] at d;cases d
  |some R =>
   cases W:pp.toList[j]? with
   |none=>rw[W] at E;cases E
   |some a2 =>
    rw[O] at d;rw[W] at E;cases d;cases E;have hj:=(ai.mp W).1;have z:=hu i j hij ∅;have z:KE ts (ts.getD (pp.getD i 0) (0,0,0))<=KE ts (ts.getD (pp.getD j 0) (0,0,0)):=z;show CU (ts.getD a2 (0,0,0)) (ts.getD R (0,0,0))=false;have k1:pp.getD i 0=R:=by rw[iK,<- c8,O];rfl
    have k2:pp.getD j 0=a2:=by rw[iK,<- c8,W];rfl
    rw[k1,k2] at z;have m2:a2<ts.length:=by
     have:=(G.mem_iff).mp (aG W)
     rwa [bH] at this
    rw[<- Ni (ts:=ts) (aG (B a2 m2).2)];exact ff ∅
 ·refine⟨by rw[ah,ah],λi A t0 d E=>?_⟩
  rw[aj] at d E;cases O:pp.toList[i]? with
  |none=>rw[O] at d;cases d
  |some R =>
   rw[O] at d E;cases d;cases E;have m1:R<ts.length:=by
    have:=(G.mem_iff).mp (aG O)
    rwa [bH] at this
   refine ht.2 R _ _ ?_ (B R m1).2;show w[R]?=some (w.getD R 0);rw[ak,aa ∅];rfl
end
section
variable{X:Cx}{pins:List (Addr×Obj)}{σ:St}{H:Hp}{s:Shared}
theorem Inv.ahO{d:Addr}{o:Obj}{u:HO}(I:Inv X pins σ H s)(t:H d=some (.AM o u))(C:∀f h,X.H₀ d≠some (.AM f h)):Inv X pins σ (upd H d u) s:=by
 have l:∀b v,H b=some v->(∀f h,v≠.AM f h)->b≠d:=λb v e E z=>by
  rw[z,t] at e;cases e;exact E _ _ rfl
 have j:∀b,H b=none->(upd H d u) b=none:=λb e=>by
  rw[aC (λz=>by rw[z,t] at e;cases e)];exact e
 have A:∀b y,H b=some (.own y)->(upd H d u) b=some (.own y):=λb y e=>by rw[aC (l b _ e (by intro _ _ z;cases z))];exact e
 have m:∀b g,H b=some (.tup g)->(upd H d u) b=some (.tup g):=λb g e=>by rw[aC (l b _ e (by intro _ _ z;cases z))];exact e
 refine⟨I.ok,I.os,I.bare,⟨I.base.keep,I.base.slot,λb f e n D=>j b (I.base.free b f e n D),I.base.there,λb g e=>m b g (I.base.tups b g e),λb f h e=>?_,λb B e=>?_⟩,I.loc,I.cell,j _ I.free,λx c e=>j c (I.ur x c e),λp F=>?_,λb v e=>?_,I.len⟩
 ·have k:=I.base.Be b f h e
  rw[aC (λz=>C f h (by rw[<- z];exact e))];exact k
 ·obtain⟨i,k⟩:=I.base.CV b B e
  exact⟨i,by rw[aC (l b _ k (by intro _ _ z;cases z))];exact k⟩
 ·obtain⟨a,b,c⟩:=I.pin p F
  exact⟨a,j _ b,c⟩
 ·by_cases w:b=d
  ·subst w
   rw[au] at e;cases e;obtain⟨_,q⟩:=I.hok b _ t;exact q.stay (λc v _ r=>r) (λc r=>A c _ r) m
  ·rw[aC w] at e
   exact (I.hok b v e).stay (λc v _ r=>r) (λc r=>A c _ r) m
def aev(t:TE):TE:=λσ H Q=>∃d kvs,H d=some (.dT kvs)/\t σ H λv H1=>∃o,H1 d=some (.AM o (.dT kvs))/\Q v (upd H1 d (.dT kvs))
theorem Yv{e:Expr}{t:TE}(h:PE X e t):PE X e (aev t):=by
 intro pins s σ H Q I ⟨d,f,g,q⟩;refine gO (h pins s σ H _ I q) λv m ⟨x,l,b,j,o,i,a⟩=>⟨x,_,b.ahO i (λc k z=>?_),j,a⟩
 have:=I.base.Be d c k z
 rw[g] at this;cases this
end
section
variable{prog:Program}{w:World}{A:Around}{E:Value->Shared->Prop}{s:Shared}{d v it:Addr}{od:Obj}{es:Array DictEntry}{ep:Nat}
theorem Ql{Q:Value->Shared->Prop}(lo:(d==sysModules)=false)(b:s.heap.get? d=some od)(c:od.ExactDict)(e:od.data=.dict es ep)
 (k:Q (.ref s.heap.objs.size) {s with heap:=s.heap.push {cls:=.type "dict_items",data:=.fields #[.ref d]}}):wpAny (model prog w) A (call (.builtin "dict.items") [.ref d]) Q E s:=by
 have a:s.TypeIs (.ref d) "dict" := ⟨od,b,c.1⟩;refine wpAny_call_entry F.slot_dict_items a F.entry_dict_items ?_ (F.args_dict_items_1 _);unfold Builtin.«dict.items» Builtin.Dict.noArgs Builtin.Dict.showsAll;refine wpAny_bind (wpAny_bind (wpAny_notOrdered_dict a (wpAny_pure ?_)));rw[eH (by rw[lo];exact aB)];exact wpAny_bind (wpAny_pure (wpAny_bind (wpAny_newObj_type (wpAny_pure ⟨_,rfl,k⟩))))
theorem Qm{Q:Value->Shared->Prop}(a:s.heap.IsItemsView v d)(b:s.heap.get? d=some od)(c:od.data=.dict es ep)
 (k:Q (.ref s.heap.objs.size) {s with heap:=s.heap.push {cls:=.type "dict_itemiterator",data:=.fields #[.none,.bool false,.ref d,.int 0 0,.int es.size 0,.int ep 0,.none,.none]}}):wpAny (model prog w) A (pyIter (.ref v)) Q E s:=by
 obtain⟨g,f,h,e⟩:=id a;have own:Builtin.Dict_items.ownsTuple "dict_itemiterator" = true:=!_
 refine wpAny_pyIter_slot a.typeIs F.slot_dict_items_iter (wpAny_call_entry F.slot_dict_items_iter a.typeIs F.entry_dict_items_iter ?_ (F.args_dict_items_iter_1 _));unfold Builtin.«dict_items.__iter__» Builtin.Dict_items.dictOf Builtin.Dict_items.newIterator;refine wpAny_bind (wpAny_pure (wpAny_bind (wpAny_bind (wpAny_field f e (x:=.ref d) rfl (wpAny_pure (wpAny_bind (wpAny_bind (wpAny_dictEntries b c (wpAny_bind (wpAny_dictEpoch b c ?_))))))))));simp only[own,if_true];refine wpAny_newObj_type (wpAny_pure ⟨_,rfl,"dict_itemiterator",_,⟨_,Heap.get?_push_size _ rfl,rfl⟩,F.slot_dict_itemiterator_next.lookup,?_⟩) ?_
 ·simpa [rawInt,Builtin.Dict_items.ownedTupleFields] using k
 ·simp[sizeOk,Builtin.Dict_items.ownedTupleFields,sizeLine_eq]
theorem Qn{i:Nat}{a:DictEntry}{ok l:Value}{Q:Option Value->Shared->Prop}(z:IsItemIter s.heap it d i es.size ep ok l)(Y:s.heap.get? d=some od)(W:od.data=.dict es ep)(Z:es[i]?=some a)
 (k:∀h',IsItemIterOut h' it d (i+1) es.size ep a.key a.val s.heap.objs.size->h'.get? s.heap.objs.size=some {cls:=.type "tuple",data:=.seq #[a.key,a.val]}->h'.objs.size=s.heap.objs.size+1 ->
  (∀b o,b≠it->s.heap.get? b=some o->h'.get? b=some o)->Q (some (.ref s.heap.objs.size)) {s with heap:=h'}):wpAny (model prog w) A (pyNext (.ref it)) Q E s:=by
 obtain⟨h,g,t,n,os⟩:=s;have r:Shared.TypeIs ⟨h,g,t,n,os⟩ (.ref it) "dict_itemiterator" := ⟨_,z,rfl⟩;have own:Builtin.Dict_items.ownsTuple "dict_itemiterator" = true:=!_
 obtain⟨hlt,hen⟩:=fW.mp Z;unfold pyNext;refine wpAny_bind (wpAny_attempt (wpAny_callSpecial?_slot (name:=Str.ofString "__next__") r F.slot_dict_itemiterator_next (wpAny_call_entry F.slot_dict_itemiterator_next r F.entry_dict_itemiterator_next ?_ (F.args_dict_itemiterator_next_1 _))));refine wpAny_bind (wpAny_pure (wpAny_bind (wpAny_bind (wpAny_bind (wpAny_typeNameOfWhole_itemiter r (wpAny_pure (wpAny_bind (wpAny_fieldsOf z rfl ?_))))))));simp only[own,if_true];have nn:¬(Value.ref d==Value.none)=true:=aB;have J:¬(i:Int)<0:=∅
 show wpAny (model prog w) A.in1 (if (Value.ref d==Value.none)=true then _ else _) _ _ _;rw[eH nn];refine wpAny_bind (wpAny_pure (wpAny_bind (wpAny_dictEntries Y W ?_)));rw[eH (-_)];refine wpAny_bind (wpAny_pure (wpAny_bind (wpAny_dictEpoch Y W ?_)));rw[eH (-_)];refine wpAny_pure ?_;simp only[J,if_false,f6,Z];refine wpAny_bind (wpAny_bind (wpAny_typeNameOfWhole_itemiter r (wpAny_pure (wpAny_bind (wpAny_isOneOf_itemiter r ?_)))));have t0:(rawInt ((i:Int)+1))=Value.int ((i+1:Nat):Int) 0:=by
  show Value.int ((i:Int)+1) 0=_;rw[show ((i+1:Nat):Int)=(i:Int)+1 by lia]
 show wpAny _ _ (setField (.ref it) 3 (rawInt ((i:Int)+1)) >>= _) _ _ ⟨h,g,t,n,os⟩;rw[t0];refine wpAny_bind (wpAny_setField_rec z (-_) λj y c=>wpAny_bind (wpAny_holding ?_));have y:IsItemIter j it d (i+1) es.size ep ok l:=y;have c:Heap.SameBut it h j:=c;have m:Shared.TypeIs ⟨j,g,t,n,os⟩ (.ref it) "dict_itemiterator" := ⟨_,y,rfl⟩;have G:j.objs.size=h.objs.size:=c.1;have O:it<h.objs.size:=Heap.lt_size z;refine wpAny_bind (wpAny_isOneOf_itemiter m (wpAny_bind (wpAny_isOneOf_itemiter m ?_)));show wpAny _ _ (Builtin.Dict_items.pairFromOwner (.ref it) 6 a.key a.val) _ _ ⟨j,g,t,n,os⟩;unfold Builtin.Dict_items.pairFromOwner;refine wpAny_bind (wpAny_newTuple ?_);obtain⟨f,u⟩:∃f,j.push {cls:=.type "tuple",data:=.seq #[a.key,a.val]}=f:=⟨_,rfl⟩;have v:IsItemIter f it d (i+1) es.size ep ok l:=u▸Heap.get?_push_of_some _ y;have L:f.get? h.objs.size=some {cls:=.type "tuple",data:=.seq #[a.key,a.val]}:=by
  rw[<- u,<- G];exact Heap.get?_push_size _ rfl
 have z5:f.objs.size=h.objs.size+1:=by rw[<- u,Heap.size_push,G]
 have k5:∀b o,b≠it->h.get? b=some o->f.get? b=some o:=λb o e q=>u▸Heap.get?_push_of_some _ (c.extBut b o e q);show wpAny _ _ (Builtin.Dict_items.ownedTupleIsFree (.ref it) >>= _) _ _ ⟨j.push {cls:=.type "tuple",data:=.seq #[a.key,a.val]},g,t,n,os⟩;rw[u,G];unfold Builtin.Dict_items.ownedTupleIsFree;refine wpAny_bind (wpAny_bind (wpAny_field v rfl (x:=.none) rfl (wpAny_pure ?_)));simp only[if_true];refine wpAny_bind (wpAny_field v rfl (x:=ok) rfl (wpAny_bind (wpAny_field v rfl (x:=l) rfl ?_)));refine wpAny_bind (wpAny_setField_rec v (-_) λS I D=>?_);have I:IsItemIter S it d (i+1) es.size ep a.key l:=I;refine wpAny_bind (wpAny_setField_rec I (-_) λR K H=>?_);have K:IsItemIter R it d (i+1) es.size ep a.key a.val:=K;refine wpAny_bind (wpAny_setField_rec K (-_) λC P N=>?_);have P:IsItemIterOut C it d (i+1) es.size ep a.key a.val h.objs.size:=P;refine wpAny_bind (wpAny_setField_rec P (-_) λp B M=>?_);have B:IsItemIterOut p it d (i+1) es.size ep a.key a.val h.objs.size:=B;have T:Heap.SameBut it f S:=D;have s7:Heap.SameBut it S R:=H;have V:Heap.SameBut it R C:=N;have U:Heap.SameBut it C p:=M;have X:∀b o,b≠it->f.get? b=some o->p.get? b=some o:=λb o e q=>U.extBut b o e (V.extBut b o e (s7.extBut b o e (T.extBut b o e q)));refine wpAny_bind (wpAny_letGo (wpAny_pure (wpAny_pure ⟨_,rfl,wpAny_pure (k p B (X _ _ (Nat.ne_of_gt O) L) ?_ λb o e q=>X b o e (k5 b o e q))⟩)));show p.objs.size=h.objs.size+1;rw[U.1,V.1,s7.1,T.1,z5]
theorem TU{i:Nat}{ok l:Value}{Q:Option Value->Shared->Prop}(hh:A.handled=none)(f:IsItemIter s.heap it d i es.size ep ok l)(h:s.heap.get? d=some od)(g:od.data=.dict es ep)(n:es.size<=i)
 (k:∀h',Heap.ExtBut it s.heap h'->Q none {s with heap:=h'}):wpAny (model prog w) A (pyNext (.ref it)) Q E s:=by
 have c:s.TypeIs (.ref it) "dict_itemiterator" := ⟨_,f,rfl⟩;have own:Builtin.Dict_items.ownsTuple "dict_itemiterator" = true:=!_
 have j:¬(Value.ref d==Value.none)=true:=aB;have e:¬(i:Int)<0:=∅
 unfold pyNext;refine wpAny_bind (wpAny_attempt (wpAny_callSpecial?_slot (name:=Str.ofString "__next__") c F.slot_dict_itemiterator_next (wpAny_call_entry F.slot_dict_itemiterator_next c F.entry_dict_itemiterator_next ?_ (F.args_dict_itemiterator_next_1 _))));refine wpAny_bind (wpAny_pure (wpAny_bind (wpAny_bind (wpAny_bind (wpAny_typeNameOfWhole_itemiter c (wpAny_pure (wpAny_bind (wpAny_fieldsOf f rfl ?_))))))));simp only[own,if_true];show wpAny (model prog w) A.in1 (if (Value.ref d==Value.none)=true then _ else _) _ _ _;rw[eH j];refine wpAny_bind (wpAny_pure (wpAny_bind (wpAny_dictEntries h g ?_)));rw[eH (-_)];refine wpAny_bind (wpAny_pure (wpAny_bind (wpAny_dictEpoch h g ?_)));rw[eH (-_)];refine wpAny_pure ?_;simp only[e,if_false,f6,Array.getElem?_eq_none n];refine wpAny_bind (wpAny_bind (wpAny_typeNameOfWhole_itemiter c (wpAny_pure ?_)));show wpAny _ _ (setField (.ref it) 2 .none >>= _) _ _ s;refine wpAny_bind (wpAny_setField f rfl (-_) ?_);unfold newExc newTuple raiseNew;refine wpAny_bind (wpAny_bind (wpAny_newObj_type (wpAny_bind (m:=firstArgMember _ _) (wpAny_of_eq (a:=Value.none) rfl (wpAny_newObj_type (wpAny_bind (wpAny_handled ?_)) (by size_fits)))) (by size_fits)));rw[show A.in1.handled=none from hh];refine wpAny_bind (wpAny_pure (wpAny_throw ?_));refine wpAny_bind ?_;refine wpAny_isInstance (T:="StopIteration") (b:=true) ⟨_,Heap.get?_push_size _ rfl,rfl⟩ isSubtype_stop ?_;have up:=(Heap.SameBut.update s.heap it (Obj.mapFields λx=>x.setIfInBounds 2 Value.none)).extBut;exact wpAny_pure (k _ ((up.push _).push _))
end
noncomputable def Hw(v d:Addr):HO:=.ext λh=>h.IsItemsView v d
section
variable{X:Cx}
def abK:V->List V->Hp->VK->Prop:=λx vs H Q=>∃d kvs,x=.ref d/\vs=[]/\H d=some (.dT kvs)/\∀v,H v=none->Q (.ref v) (upd H v (Hw v d))
theorem VT:MtR X "dict.items" abK:=by
 intro f s K H x D v C Q I r p h;obtain⟨d,c,rfl,rfl,A,q⟩:=h;cases r;have g:=p.zero;subst g;obtain⟨z,lo,E,m,o,G,B,n,i,j,_⟩:=(show fH X.prog X.w H s.heap d (.dT c) from I.hok d _ A);refine Ql lo n i j ⟨.ref s.heap.objs.size,_,I.laid (a:=s.heap.objs.size) (o:=Hw s.heap.objs.size d) (t':=s.toks) (λb o e=>Heap.get?_push_of_some _ e) (av _) ⟨⟨_,Heap.get?_push_size _ rfl,rfl,rfl⟩,⟨_,Heap.get?_push_size _ rfl⟩,λJ F ⟨l,t,y,u⟩ k=>⟨l,k _ t,y,u⟩⟩,rfl,q _ (I.hok.fresh (av _))⟩
noncomputable def WY(d:Addr)(o:Obj)(kvs:List (List Key×V)):It :=
 ⟨λi H=>H d=some (.AM o (.dT kvs))/\i<kvs.length,
  λi H x H'=>∃p kb k v,H p=none/\x=.ref p/\H'=upd H p (.tup [.ref kb,v])/\kvs[i]?=some (k,v)/\H kb=some (.tup (k.map kV)),
  λi H=>H d=some (.AM o (.dT kvs))/\kvs.length<=i⟩
theorem Hy{c d:Type}{F:c->d->Prop}:∀{l₁:List c} {l₂:List d},Paired F l₁ l₂->∀{i:Nat} {a:c},l₁[i]?=some a->∃b,l₂[i]?=some b/\F a b
 |_,_,.cons h t,0,a,e=>by cases e;exact⟨_,rfl,h⟩
 |_,_,.cons h t,i+1,a,e=>Hy t (by simpa using e)
theorem Qo{P:Program}{w:World}{K:af}{J:List Expr}{x1}{pos:Pos}(d f:Addr){o:Obj}{es:Array DictEntry}{ep:Nat}{kvs:List (List Key×V)}(N:o.data=.dict es ep) :
 Turn P w K (.Tuple J x1 pos) (WY d o kvs) [f] f (λi h=>∃ok A,IsItemIter h f d i es.size ep ok A) where
 mem:=-_
 obj:=λi h ⟨ok,A,st⟩ b a=>by
  have e:b=f:=by simpa using a
  subst e;exact⟨_,st,λv z=>by
   have z':Data.fields _=Data.cell v:=z;cases z'⟩
 keep:=λi h h' ⟨ok,A,st⟩ k=>⟨ok,A,k f (-_) _ st⟩
 item:=by
  intro X hP hw Y j i l s σ H E I S ⟨ok,A,st⟩ T;subst hP hw Y;obtain⟨e,B⟩:=T;obtain⟨G,z,lo,xs,p,o',es',R,L,g3,F,g5,g6⟩:=(show fH X.prog X.w H s.heap d (.AM o (.dT kvs)) from I.hok d _ e);rw[G] at L;cases L;rw[N] at F;cases F;obtain⟨O,M,f2,f3,f4,f5⟩:=S f (-_);obtain⟨⟨k2,D,u⟩,hx,hk1,hk2,hk3⟩:=Hy p (aa B);have he:es[i]?=some (entryOfKey (tupleKind (ia X.prog X.w)) (k2,D,u)):=by
   rw[<- c8,g5,aj,hx];rfl
  refine Qn st G N he λh' io tu sz kp=>⟨_,rfl,wpAny_letOwnedTupleGo_items io λU e2 ZX=>?_⟩;have g:H s.heap.objs.size=none:=I.hok.fresh (av _);have lt:f<s.heap.objs.size:=Heap.lt_size st;have x:∀b q,b≠f->s.heap.get? b=some q->U.get? b=some q:=λb q a r=>(ZX.2 b a).trans (kp b q a r);have C:∀b q,H b=some q->b≠f:=λb q r z=>by rw[z,O] at r;cases r
  have Z:U.get? s.heap.objs.size=some {cls:=.type "tuple",data:=.seq #[.ref D,u]}:=(ZX.2 _ (Nat.ne_of_gt lt)).trans tu;have I1:Inv X l σ (upd H s.heap.objs.size (.tup [.ref D,kvs[i].2])) {s with heap:=U,toks:=s.toks}:=by
   refine I.step (g':=s.gens) (d':=s.drawn) (ch:=[f]) (λb a=>?_) (λb q _ _ j r _=>x b q (λz=>j (by simp[z])) r) (λb q _ _ j r _=>⟨q.slots,x b q (λz=>j (by simp[z])) r⟩)
    (λb q _ r n=>by rw[aC (aZ (Heap.lt_size r))];exact n) (λb q j r=>⟨q,x b q (λz=>j (by simp[z])) r⟩) (λb ys r=>by rw[aC (aJ r g)];exact r) (λb q y r=>by rw[aC (aJ r g)];exact r)
    (λb ps r=>⟨#[],by rw[aC (aJ r g),r];simp⟩) (λm hm=>?_) (λb q r=>?_) I.bare
   ·have e:b=f:=by simpa using a
    subst e;exact⟨f3,M,f4,f5⟩
   ·obtain⟨q,W,Q,hq,r⟩:=hm
    exact⟨q,W,Q,x _ q (bM M) hq,r⟩
   ·by_cases a:b=s.heap.objs.size
    ·subst a
     rw[au] at r;cases r;exact⟨by show 2<=sizeLine;decide,[.ref D,u],.cons rfl (.cons hk3 .nil),⟨_,Z,rfl,_,rfl⟩⟩
    ·rw[aC a] at r
     refine (I.hok b q r).stay (λc y j t=>?_) (λc t=>by rw[aC (aJ t g)];exact t) λc ys t=>by rw[aC (aJ t g)];exact t
     rcases j with e|e
     ·rw[e] at t ⊢;exact x b y (C b q r) t
     ·exact x c y (C c _ e) t
  refine⟨.ref s.heap.objs.size,_,I1,rfl,⟨_,D,kvs[i].1,kvs[i].2,g,rfl,rfl,aa B,hk2⟩,⟨_,_,e2⟩,λb a=>?_⟩;have e:b=f:=by simpa using a
  subst e;rw[aC (aZ lt)];exact O
 done:=by
  intro X hP hw Y j i l s σ H E I S ⟨ok,A,st⟩ T;subst hP hw Y;obtain⟨e,hle⟩:=T;obtain⟨G,z,lo,xs,p,o',es',R,L,g3,F,g5,g6⟩:=(show fH X.prog X.w H s.heap d (.AM o (.dT kvs)) from I.hok d _ e);rw[G] at L;cases L;rw[N] at F;cases F;obtain⟨O,M,f2,f3,f4,f5⟩:=S f (-_);have hl:es.size=kvs.length:=by
   have:=fy List.length g5
   rw[ah,<- Paired.length p] at this
   simpa using this
  exact TU (I.ok.hd j) st G N ∅ λh' eb=>⟨rfl,I.turned (t':=s.toks) (λb o a e=>eb b o a e) O M f3 f4 f5⟩
 self:=λ_ _ _ _ _ ⟨_,_,st⟩ h=>kcp_self st h
def abL(td:TE):TI:=λσ H R=>td σ H λx H1=>∃v d kvs,x=.ref v/\H1 v=some (Hw v d)/\H1 d=some (.dT kvs)/\∀o,R (WY d o kvs) (upd H1 d (.AM o (.dT kvs)))
theorem VU{l:Expr}{B:TE}{j:List Expr}{x1}{i:Pos}(hl:PE X l B):PI X (.Tuple j x1 i) l (abL B):=by
 intro c s D H R I h;refine gO (hl c s D H _ I h) λv a ⟨x,m,k,Q,F⟩=>?_;obtain⟨n,d,f,e,P,A,q⟩:=F;subst e;cases Q;obtain⟨z,lo,K,r,o,M,E,g,N,t,J⟩:=(show fH X.prog X.w m a.heap d (.dT f) from k.hok d _ A);obtain⟨L,_,_⟩:=(show fH X.prog X.w m a.heap n (Hw n d) from k.hok n _ P);have C:Inv X c D (upd m d (.AM o (.dT f))) a:=k.write (t':=a.toks) (h':=a.heap) (x:=d) (e:=d) (by rw[A];exact lG) (.inl rfl) (λb u _ q=>q) ⟨o,g⟩ ⟨g,z,lo,K,Paired.Xz r λp q y=>⟨y.1,by rw[aC (mX y.2.1 A (by intro z;cases z))];exact y.2.1,y.2.2⟩,o,M,E,g,N,t,J⟩;have G:(upd m d (.AM o (.dT f))) a.heap.objs.size=none:=by
  rw[aC (bM (aZ (Heap.lt_size g)))];exact k.hok.fresh (av _)
 refine Qm L g t ?_;refine⟨a.heap.objs.size,[a.heap.objs.size],_,_,_,rfl,C.kept (t':=a.toks) λb o e=>Heap.get?_push_of_some _ e,Qo d _ t,⟨_,_,Heap.get?_push_size _ rfl⟩,λb O=>?_,q o⟩;have e:b=a.heap.objs.size:=by simpa using O
 subst e;exact C.UY (av _) G
theorem abM{d:Addr}{o:Obj}{kvs:List (List Key×V)}{a:Hp}(h:a d=some (.AM o (.dT kvs))):∀i H,i<kvs.length->aD a H->(WY d o kvs).go i H:=λi H b s=>⟨s _ _ h,b⟩
theorem VV{d:Addr}{o:Obj}{kvs:List (List Key×V)}{a:Hp}(h:a d=some (.AM o (.dT kvs))):∀H,aD a H->(WY d o kvs).stop kvs.length H:=λH s=>⟨s _ _ h,av _⟩
end
end L2
namespace L2
theorem VW{X:Cx}(K:af)(a:X.K=K):xq X (PySem.binaryOp .Add) (ZT K):=by
 subst a;exact XO
end L2
namespace TW
open PySem L2 PyProof.Rows
theorem LM{xs k:List T3}(h:xs.Perm k)(v:AU xs)(z:AU k):xs=k:=by
 have c:∀a b:T3,CU a b=false->CU b a=false->a=b:=λa b g f=>by
  have d:¬CU a b=true:=by rw[g];exact aB
  have e:¬CU b a=true:=by rw[f];exact aB
  rw[xF] at d e;obtain⟨t,w,u⟩:=a;obtain⟨o,y,q⟩:=b;have A:t=o:=by simp at d e;lia
  subst A;have s:w=y:=by simp at d e;lia
  subst s;have p:u=q:=by simp at d e;lia
  rw[p]
 have n:∀{l:List T3},AU l->l.Pairwise λa b=>CU b a=false:=λ{l} B=>by
  rw[List.pairwise_iff_getElem];intro i j x r m;exact B i j _ _ m (aa x) (aa r)
 exact List.Perm.eq_of_pairwise (λa b _ _ g f=>c a b f g) (n v) (n z) h
noncomputable def iZ(t:T3):List Key×V:=([.inl t.1,.inl t.2.1],.int t.2.2)
noncomputable abbrev keyOf(h c:Int):List Key:=[.inl h,.inl c]
def gh(ts:List T3):Prop:=(ts.map λt=>(t.1,t.2.1)).Nodup
noncomputable def BX(ts:List T3)(h c:Int):Option Int:=(ts.find? λt=>decide (t.1=h/\t.2.1=c)).map λt=>t.2.2
noncomputable def put3(ts:List T3)(h c r:Int):List T3:=(ts.filter λt=>!decide (t.1=h/\t.2.1=c))++[(h,c,r)]
theorem VX{ts:List T3}(n:gh ts){h c r:Int}:gh (put3 ts h c r):=by
 unfold gh put3;rw[aO,jO];refine⟨?_,-_,λx b y d=>?_⟩
 ·exact List.Nodup.sublist ((qy).map _) n
 ·obtain⟨t,g,rfl⟩:=aV.mp b
  have f:=(bf.mp g).2;have e:y=(h,c):=by simpa using d
  rw[e];intro z;have a:t.1=h/\t.2.1=c:=⟨(Prod.mk.inj z).1,(Prod.mk.inj z).2⟩;simp[a] at f
theorem oS(t:T3)(h c:Int):(iZ t).1=keyOf h c↔t.1=h/\t.2.1=c:=by
 unfold iZ keyOf;constructor
 ·intro e
  have b:=(List.cons.inj e).1;have a:=(List.cons.inj (List.cons.inj e).2).1;exact⟨Sum.inl.inj b,Sum.inl.inj a⟩
 ·rintro⟨rfl,rfl⟩
  rfl
theorem Hz:∀(ts:List T3) (h c:Int),De (ts.map iZ) (keyOf h c)=(BX ts h c).map V.int
 |[],h,c=>rfl
 |t::ts,h,c=>by
  rw[bL];by_cases e:t.1=h/\t.2.1=c
  ·rw[zu ((oS t h c).mpr e)]
   unfold BX;rw[List.find?_cons_of_pos (by simp[e])];rfl
  ·rw[zv (λz=>e ((oS t h c).mp z)),Hz ts h c]
   unfold BX;rw[List.find?_cons_of_neg (by rw[ff e];exact aB)]
noncomputable def Dk(h c r:Int)(t:T3):T3:=if t.1=h/\t.2.1=c then (h,c,r) else t
theorem VY(h c r:Int)(t:T3):((Dk h c r t).1,(Dk h c r t).2.1)=(t.1,t.2.1):=by
 unfold Dk;split
 ·rename_i e
  show (h,c)=(t.1,t.2.1);rw[e.1,e.2]
 ·rfl
theorem KH{h c r:Int}:∀{ts:List T3},gh ts->(∃t∈ts,t.1=h/\t.2.1=c)->(ts.map (Dk h c r)).Perm (put3 ts h c r)
 |[],_,⟨_,h,_⟩=>by cases h
 |t::ts,n,g=>by
  have d:gh ts:=(fG.mp n).2;have i:=(fG.mp n).1;unfold put3;by_cases e:t.1=h/\t.2.1=c
  ·have b:∀u∈ts,¬(u.1=h/\u.2.1=c):=λu hu z=>i (aV.mpr ⟨u,hu,Prod.ext (z.1.trans e.1.symm) (z.2.trans e.2.symm)⟩)
   have j:ts.map (Dk h c r)=ts:=by
    refine (cQ λu hu=>?_).trans (List.map_id ts);unfold Dk;rw[eH (b u hu)];rfl
   have f:ts.filter (λu=>!decide (u.1=h/\u.2.1=c))=ts:=List.filter_eq_self.mpr λu hu=>by rw[ff (b u hu)];rfl
   rw[bL,j,dm,eH (by simp[e]),f];have a:Dk h c r t=(h,c,r):=by unfold Dk;rw[ee e]
   rw[a];exact (List.perm_append_comm (l₁:=[(h,c,r)]) (l₂:=ts))
  ·have a:Dk h c r t=t:=by unfold Dk;rw[eH e]
   rw[bL,a,dm,ee (by rw[ff e];rfl)];refine List.Perm.cons t (KH d ?_);obtain⟨u,hu,z⟩:=g;rcases aW.mp hu with rfl|hu
   ·exact eL z e
   ·exact⟨u,hu,z⟩
theorem KI{xs a:List T3}(b:xs.Perm a)(h c r:Int):(put3 xs h c r).Perm (put3 a h c r):=(b.filter _).append_right _
theorem Qp{ts g:List T3}{h c r:Int}(f:ts.Perm g)(n:gh ts):∃b,putK (ts.map iZ) (keyOf h c) (V.int r)=b.map iZ/\b.Perm (put3 g h c r)/\gh b:=by
 unfold putK;by_cases a:((ts.map iZ).any λkv=>decide (kv.1=keyOf h c))=true
 ·rw[ee a]
  refine⟨ts.map (Dk h c r),?_,?_,?_⟩
  ·rw[cF,cF]
   refine cQ λt _=>?_;show (if (iZ t).1=keyOf h c then ((iZ t).1,V.int r) else iZ t)=iZ (Dk h c r t);unfold Dk;by_cases e:t.1=h/\t.2.1=c
   ·rw[ee ((oS t h c).mpr e),ee e,(oS t h c).mpr e]
    rfl
   ·rw[eH (λz=>e ((oS t h c).mp z)),eH e]
  ·refine (KH n ?_).trans (KI f h c r)
   obtain⟨kv,k,i⟩:=xx.mp a;obtain⟨t,d,rfl⟩:=aV.mp k;exact⟨t,d,(oS t h c).mp (gn i)⟩
  ·unfold gh
   rw[cF]
   have:((λt:T3=>(t.1,t.2.1))∘Dk h c r)=λt:T3=>(t.1,t.2.1):=funext λt=>VY h c r t
   rw[this];exact n
 ·rw[eH a]
  have j:∀t∈ts,¬(t.1=h/\t.2.1=c):=λt d z=>a (xx.mpr ⟨iZ t,aV.mpr ⟨t,d,rfl⟩,e8 ((oS t h c).mpr z)⟩);have e:put3 ts h c r=ts++[(h,c,r)]:=by
   unfold put3;rw[List.filter_eq_self.mpr λu l=>by rw[ff (j u l)];rfl]
  refine⟨ts++[(h,c,r)],by rw[aO];rfl,e▸KI f h c r,e▸VX n⟩
structure qA(C:Addr)(H:Hp)(p d:Addr)(ts:List T3):Prop where
 ob:∃dx,H p=some (.ins C dx [("kept",.ref d)])
 di:H d=some (.dT (ts.map iZ))
theorem qA.mono{C:Addr}{H a:Hp}{p d:Addr}{ts:List T3}(s:aD H a)(h:qA C H p d ts):qA C a p d ts:=by
 obtain⟨⟨e,b⟩,c⟩:=h;exact⟨⟨e,s _ _ b⟩,s _ _ c⟩
def wz(u:HO):Prop:=∀xs,u≠.tup xs/\∀o,u≠.AM o (.tup xs)
theorem iN{a:List V}:wz (.lst a):=λb=>⟨λe=>(by cases e),λo e=>(by cases e)⟩
theorem aew{kvs:List (List Key×V)}:wz (.dT kvs):=λa=>⟨λe=>(by cases e),λo e=>(by cases e)⟩
theorem abN{o:Obj}{kvs:List (List Key×V)}:wz (.AM o (.dT kvs)):=λa=>⟨λe=>(by cases e),λo e=>(by cases e)⟩
theorem m9{C b:Addr}{a:List (Str×V)}:wz (.ins C b a):=λc=>⟨λe=>(by cases e),λo e=>(by cases e)⟩
theorem cN.past{K:af}{H g:Hp}{z a:Addr}{u:HO}{xs:List V}(d:H z=some u)(f:wz u)(c:∀b v,H b=some v->b≠z->g b=some v)(h:cN K H a xs):cN K g a xs:=by
 rcases h with (h|⟨o,h⟩)|h
 ·exact .inl (.inl (c _ _ h λe=>by subst e;rw[d] at h;exact (f xs).1 (aQ h)))
 ·exact .inl (.inr ⟨o,c _ _ h λe=>by subst e;rw[d] at h;exact (f xs).2 o (aQ h)⟩)
 ·exact .inr h
theorem iz.past{K:af}{H d:Hp}{z:Addr}{u:HO}{qs:List Addr}{ts:List T3}(f:H z=some u)(e:wz u)(c:∀b v,H b=some v->b≠z->d b=some v)(h:iz K H qs ts):iz K d qs ts :=
 ⟨h.1,λi q t a b=>cN.past f e c (h.2 i q t a b)⟩
theorem bU{H:Hp}{z:Addr}{o:HO}:∀b v,H b=some v->b≠z->(upd H z o) b=some v:=λb v e a=>by rw[aC a];exact e
theorem iz.snoc{K:af}{H:Hp}{qs:List Addr}{ts:List T3}{q:Addr}{t:T3}(h:iz K H qs ts)(hq:cN K H q (iV t)):iz K H (qs++[q]) (ts++[t]):=by
 refine⟨by rw[ay,ay,h.1];rfl,λi a u b c=>?_⟩;by_cases z:i<qs.length
 ·rw[bN z] at b
  rw[bN (h.1▸z)] at c;exact h.2 i a u b c
 ·have e:i=qs.length:=by
   have:=(ai.mp b).1
   rw[ay] at this
   have:i<qs.length+1:=this
   lia
  subst e;rw[mW] at b;rw[h.1,mW] at c;cases b;cases c;exact hq
theorem iz.nil{K:af}{H:Hp}:iz K H [] []:=⟨rfl,λi q t hq=>by cases hq⟩
theorem Qq{H:Hp}{a b:Addr}{u v:HO}(d:H a=some u)(c:H b=some v)(n:u≠v):a≠b:=λe=>by
 subst e;rw[d] at c;exact n (aQ c)
end TW
namespace L2
open PySem PySem.W PySem.Spec PyProof.Rows
end L2
namespace TW
open PySem L2 PyProof.Rows
theorem Nj{J:It}{n:Nat}{r:List (Option Nat)}{g:TG}{I:TT}{B:TE}{D:L2.St}{F:Hp->Prop}{k:Hp}{d:Addr}(E:Nat->V)(f:Nat->Option V)(j:k d=none)
 (go:∀i H,i<n->aD k H->J.go i H) (stop:∀H,aD k H->J.stop n H) (MS:∀i H x a,i<n->aD k H->J.MS i H x a->a=H/\x=E i) (K:n<=1000)
 (step:∀(i:Nat) (H:Hp) (R:V->Hp->Prop) (S:Hp->Prop),i<n->aD k H->(∀y a,aD H a->f i=some y->R y a)->(∀a,aD H a->f i=none->S a) ->
  g (E i) (jU r D) H λc z=>I c z λb l=>if b=true then B c l R else S l)
 (A:∀H,aD k H->H d=some (.lst ((aq n).filterMap f))->F H) :
 ∃W:Nat->Nat->Hp->Prop,(∃m,W 0 m (upd k d (.lst [])))/\∀i m H,W i m H ->
  (J.stop i H/\F H)∨(J.go i H/\∀x a,J.MS i H x a->g x (jU r D) a λc z=>I c z λb l=>if b=true then B c l λy v=>∃xs,v d=some (.lst xs)/\xs.length<sizeLine /\
   ∃p,p<m/\W (i+1) p (upd v d (.lst (xs++[y]))) else ∃p,p<m/\W (i+1) p l):=by
 have o:∀i,((aq i).filterMap f).length<=i:=λi=>by
  have:=List.length_filterMap_le f (aq i)
  rwa [bx] at this
 refine gR (n:=n) (λi w _=>w=(aq i).filterMap f) j go stop rfl ?_ ?_
 ·rintro i w H q s t rfl x a L
  obtain⟨rfl,rfl⟩:=MS i H x a q s L;have e:(aq (i+1)).filterMap f=(aq i).filterMap f++(f i).toList:=by
   rw[fF,List.filterMap_append];cases h:f i <;> simp[h]
  refine step i a _ _ q s (λy v G u=>?_) (λl C u=>?_)
  ·refine fj j q (s.trans G) (G _ _ t) (bX (aF (o i) (aF (iB q) K))) ?_
   show _=(aq (i+1)).filterMap f;rw[e,u];rfl
  ·refine kh q (s.trans C) (C _ _ t) ?_
   show _=(aq (i+1)).filterMap f;rw[e,u];simp
 ·rintro w H s t rfl
  exact A H s t
theorem rL{a b:Type}:∀(xs:List a) (F:a->Option b),(aq xs.length).filterMap (λi=>xs[i]?.bind F)=xs.filterMap F
 |[],F=>rfl
 |x::xs,F=>by
  have e:((λi:Nat=>(x::xs)[i]?.bind F)∘Nat.succ)=λi=>xs[i]?.bind F:=funext λi=>-_
  rw[aT,List.range_succ_eq_map,cR,List.filterMap_map,e,rL xs F,cR];rfl
theorem TV{K:af}{l d:Addr}{xs:List Int}{q:List (Option Nat)}{g:TG}{E:TT}{w:TE}{z:L2.St}{D:Hp->Prop}{h:Hp}(F:Int->Option V)(k:h d=none)(hl:bS K h l (xs.map V.int))(G:xs.length<=1000)
 (step:∀(x:Int) (H:Hp) (R:V->Hp->Prop) (S:Hp->Prop),x∈xs->aD h H->(∀y a,aD H a->F x=some y->R y a)->(∀a,aD H a->F x=none->S a) ->
  g (.int x) (jU q z) H λc u=>E c u λb p=>if b=true then w c p R else S p)
 (v:∀H,aD h H->H d=some (.lst (xs.filterMap F))->D H) :
 ∃W:Nat->Nat->Hp->Prop,(∃m,W 0 m (upd h d (.lst [])))/\∀i m H,W i m H ->
  ((Lu K l).stop i H/\D H)∨((Lu K l).go i H/\∀x a,(Lu K l).MS i H x a->g x (jU q z) a λc u=>E c u λb p=>if b=true then w c p λy C=>∃xs,C d=some (.lst xs)/\xs.length<sizeLine /\
    ∃j,j<m/\W (i+1) j (upd C d (.lst (xs++[y]))) else ∃j,j<m/\W (i+1) j p):=by
 have A:(xs.map V.int).length=xs.length:=ah _;refine Nj (n:=xs.length) (λi=>(xs.map V.int).getD i .fk) (λi=>xs[i]?.bind F) k (λi H f s=>xB hl i H (by rw[A];exact f) s) (λH s=>by have:=m7 hl H s;rwa [A] at this) (λi H x a f s o=>?_) G (λi H R S f s J I=>?_) (λH s L=>v H s (by rw[<- rL];exact L))
 ·obtain⟨rfl,o⟩:=o
  have o:=o _ (s.seq hl);exact⟨rfl,by rw[ak,o];rfl⟩
 ·have e:(xs.map V.int).getD i .fk=V.int xs[i]:=by rw[ak,aj,aa f];rfl
  have B:xs[i]?=some xs[i]:=aa f;rw[e];refine step _ H R S (aK f) s (λy a t r=>J y a t ?_) (λa t r=>I a t ?_)
  ·show xs[i]?.bind F=_
   rw[B];exact r
  ·show xs[i]?.bind F=_
   rw[B];exact r
theorem TY(xs:List Int)(f:Int->Bool):xs.filterMap (λx=>if f x=true then some (V.int x) else none)=(xs.filter f).map V.int:=by
 induction xs with
 |nil=>rfl
 |cons x xs a =>
  by_cases h:f x=true
  ·rw[dg h,bL,<- a,cR];simp only[h,if_true]
  ·rw[dh h,<- a,cR];simp only[h];rfl
theorem sC{K:af}{l d:Addr}{xs:List Int}{n:List (Option Nat)}{g:TG}{z:TT}{t:TE}{u:L2.St}{w:Hp->Prop}{e:Hp}(f:Int->Bool)(j:e d=none)(hl:bS K e l (xs.map V.int))(A:xs.length<=1000)
 (step:∀(x:Int) (H:Hp) (R:V->Hp->Prop) (S:Hp->Prop),x∈xs->aD e H->(∀a,aD H a->f x=true->R (.int x) a)->(∀a,aD H a->f x=false->S a) ->
  g (.int x) (jU n u) H λc p=>z c p λb k=>if b=true then t c k R else S k)
 (q:∀H,aD e H->H d=some (.lst ((xs.filter f).map V.int))->w H) :
 ∃W:Nat->Nat->Hp->Prop,(∃m,W 0 m (upd e d (.lst [])))/\∀i m H,W i m H ->
  ((Lu K l).stop i H/\w H)∨((Lu K l).go i H/\∀x a,(Lu K l).MS i H x a->g x (jU n u) a λc p=>z c p λb k=>if b=true then t c k λy v=>∃xs,v d=some (.lst xs)/\xs.length<sizeLine /\
    ∃h,h<m/\W (i+1) h (upd v d (.lst (xs++[y]))) else ∃h,h<m/\W (i+1) h k):=by
 refine TV (λx=>if f x=true then some (V.int x) else none) j hl A (λx H R S D s C B=>step x H R S D s (λa o r=>C _ a o (ee r)) (λa o r=>B a o (eH (by rw[r];exact aB)))) (λH s E=>q H s (by rw[<- TY];exact E))
def Z4(u:HO):Prop:=∀xs,u≠.lst xs/\∀o,u≠.AM o (.lst xs)
theorem VZ{C b:Addr}{a:List (Str×V)}:Z4 (.ins C b a):=λc=>⟨λe=>(by cases e),λo e=>(by cases e)⟩
theorem bS.past{K:af}{H g:Hp}{z a:Addr}{u:HO}{xs:List V}(d:H z=some u)(f:Z4 u)(c:∀b v,H b=some v->b≠z->g b=some v)(h:bS K H a xs):bS K g a xs:=by
 rcases h with (h|⟨o,h⟩)|h
 ·exact .inl (.inl (c _ _ h λe=>by subst e;rw[d] at h;exact (f xs).1 (aQ h)))
 ·exact .inl (.inr ⟨o,c _ _ h λe=>by subst e;rw[d] at h;exact (f xs).2 o (aQ h)⟩)
 ·exact .inr h
noncomputable def Ey(c:Option Int):V:=(c.map V.int).getD .fk
theorem Dl(i:Int)(c:Option Int):aa8 (.int i) (Ey c)=true:=by cases c <;> rfl
theorem V0(c:Option Int):zp (Ey c)=true:=by cases c <;> rfl
theorem HA(xs:List Int):LB .fk (xs.map V.int)=false:=by
 unfold LB;rw[List.any_map,List.any_eq_false];intro x _;show ¬(S6 (.int x) .fk)=true;simp[S6]
noncomputable def p9(c:Option Int)(r:Int):Bool:=!decide (V.int r=Ey c)
noncomputable def V1(ts:List T3)(so:Option Int)(ng:Int)(cj:Option Int)(os hs:List Int):List Int :=
 match so with
 |none=>os.filter (p9 cj)
 |some to=>if to∈hs then [] else match BX ts ng to with
  |some r=>if r∈os then [r].filter (p9 cj) else os.filter (p9 cj)
  |none=>os.filter (p9 cj)
noncomputable def HB(s to k c:Int):Bool:=if k=1 then decide (V.int c=V.int to) else if k=2 then !decide (V.int c=V.int s) else false
noncomputable def AV(to k:Int):Option Int:=if k=1 then some to else none
theorem made{H:Hp}{x a C:Addr}{e:List (Str×V)}(d:H x=none)(c:H a=none)(b:a≠x):aD H (upd (upd (upd H a (.own x)) x (.ins C a [])) x (.ins C a e)):=by
 rw[Lo];exact (aD.new c).trans (aD.new (by rw[aC (bM b)];exact d))
theorem neT{b:Bool}(h:¬b=true):b=false:=by
 cases b
 ·rfl
 ·exact eL rfl h
end TW
namespace TX
open PySem PySem.StrLaws PySem.Builtin PySem.Builtin.Str
noncomputable abbrev cs(x:Str):List Nat:=x.cps.toList
end TX
namespace TX
open PySem PySem.StrLaws PySem.Builtin PySem.Builtin.Str PySem.NumText
end TX
namespace TX
open PySem PySem.StrLaws PySem.Builtin PySem.Builtin.Str
end TX
namespace L2
open PySem PySem.W PySem.Spec PyProof.Rows
theorem HC{a c:Type}{f g:a->Option c}:∀{l:List a},(∀x∈l,f x=g x)->l.filterMap f=l.filterMap g
 |[],_=>rfl
 |x::l,h=>by
  rw[cR,cR,h x (bJ ..),HC λy b=>h y (aN _ b)]
theorem TZ{c:Type}(xs:List c):((aq xs.length).map (λk=>xs.length-1-k)).filterMap (λi=>xs.toArray[i]?)=xs.reverse:=by
 have a:(aq xs.length).map (λk=>xs.length-1-k)=(aq xs.length).reverse:=by
  refine qq (-_) λi a b=>?_;simp at a b;simp[List.getElem_reverse]
 rw[a,List.filterMap_reverse];congr 1;refine List.ext_getElem? λi=>?_;have b:(aq xs.length).filterMap (λi=>xs.toArray[i]?)=xs:=by
  have:=TW.rL xs (λx=>some x)
  rw[List.filterMap_some] at this;refine Eq.trans (HC λi d=>?_) this;rw[List.getElem?_toArray];cases xs[i]? <;> rfl
 rw[b]
theorem HD(a:List Value):slicePick a.toArray none none (some (-1))=a.reverse.toArray:=by
 unfold slicePick;congr 1;have e:sliceBounds none none (some (-1)) a.toArray.size=((a.length:Int)-1,-1,-1):=by
  simp[sliceBounds]
 rw[e,<- TZ a];congr 1;unfold sliceRange;by_cases h:a.length=0
 ·simp[h]
 ·have b:((a.length:Int)-1) > -1:=∅
  have d:((a.length:Int)-1 - -1 - -1-1)/(- -1)=(a.length:Int):=by
   have:((a.length:Int)-1 - -1 - -1-1)=(a.length:Int):=∅
   rw[this];show (a.length:Int)/1=_;exact Int.ediv_one _
  simp only[show ¬((-1:Int) > 0) by decide,if_false,b,if_true,d,f6];refine cQ λk c=>?_
  have:=bH.mp c
  lia
section
variable{X:Cx}
def abO(K:af)(te:TE)(ts:TO):TE:=λσ H Q=>te σ H λx H1=>ts σ H1 λo H2=>∃a xs,x=.ref a/\o=some (-1)/\bS K H2 a xs/\∀p,H2 p=none->Q (.ref p) (upd H2 p (.lst xs.reverse))
theorem T4{xs:List V}{us:List Value}(h:bY xs us):bY xs.reverse us.reverse:=by
 induction h with
 |nil=>exact .nil
 |cons r t a =>
  rw[List.reverse_cons,List.reverse_cons];exact a.append (.cons r .nil)
theorem Nk{e st:Expr}{k:TE}{ts:TO}{n j:Pos}(J:PE X e k)(C:PO X (some st) ts):PE X (.Subscript e (.Slice none none (some st) n) j) (abO X.K k ts):=by
 intro c s f H Q I h;refine Subscript_ (gO (J c s f H _ I h) λv D ⟨x,B,z,N,t⟩=>?_);refine wpAny_Slice ?_;rw[evalPart_none];refine wpAny_pure ?_;refine wpAny_pure ?_;refine gO (C c D f B _ z t) λm d ⟨o,G,F,O,a,y,M,E,hq,q⟩=>?_;subst M E;cases N;have i:Inv X c f G {d with heap:=d.heap.push {cls:=.type "slice",data:=.fields #[.none,.none,m]}}:=F.kept (t':=d.toks) λb u q=>Heap.get?_push_of_some _ q;obtain⟨g,r,p,L⟩:=i.list hq;have l:=r.length;show wpAny (model X.prog X.w) X.A (subscriptTail e (.Slice none none (some st) n) (.ref a) (.ref d.heap.objs.size)) (EP X c f Q) X.xe {d with heap:=d.heap.push {cls:=.type "slice",data:=.fields #[.none,.none,m]}};refine tail_any (ops:=[.ref a,.ref d.heap.objs.size]) p.isList.typeIs slot_list_getitem.lookup ?_ (by with_unfolding_all rfl);refine wpAny_getItem_list_slice p.isList (Heap.IsSliceOf.new ..) .none .none O (-_) ?_ (by rw[aL] <;> lia);rw[HD];refine⟨.ref _,_,i.laid (t':=d.toks) (o:=.lst y.reverse) (λb u q=>Heap.get?_push_of_some _ q) (av _) ?_,rfl,q _ (i.hok.fresh (av _))⟩;exact⟨by rw[List.length_reverse];exact L,g.reverse,0,T4 r,Heap.get?_push_size _ rfl⟩
end
end L2
namespace TW
open PySem L2 PyProof.Rows
theorem RI{K:af}{l c:Addr}{xs:List V}{q:List (Option Nat)}{g:TG}{B:TT}{v:TE}{w:L2.St}{A:Hp->Prop}{h:Hp}(f:Nat->Option V)(k:h c=none)(hl:bS K h l xs)(C:xs.length<=1000)
 (step:∀(i:Nat) (x:V) (H:Hp) (R:V->Hp->Prop) (S:Hp->Prop),xs[i]?=some x->aD h H->(∀y d,aD H d->f i=some y->R y d)->(∀d,aD H d->f i=none->S d) ->
  g x (jU q w) H λa r=>B a r λb p=>if b=true then v a p R else S p)
 (u:∀H,aD h H->H c=some (.lst ((aq xs.length).filterMap f))->A H) :
 ∃W:Nat->Nat->Hp->Prop,(∃m,W 0 m (upd h c (.lst [])))/\∀i m H,W i m H ->
  ((Lu K l).stop i H/\A H)∨((Lu K l).go i H/\∀x d,(Lu K l).MS i H x d->g x (jU q w) d λa r=>B a r λb p=>if b=true then v a p λy z=>∃xs,z c=some (.lst xs)/\xs.length<sizeLine /\
    ∃j,j<m/\W (i+1) j (upd z c (.lst (xs++[y]))) else ∃j,j<m/\W (i+1) j p):=by
 refine Nj (n:=xs.length) (λi=>xs.getD i .fk) f k (xB hl) (m7 hl) (λi H x d t s o=>?_) C (λi H R S t s E D=>?_) u
 ·obtain⟨rfl,o⟩:=o
  have o:=o _ (s.seq hl);exact⟨rfl,by rw[ak,o];rfl⟩
 ·have e:xs.getD i .fk=xs[i]:=by rw[ak,aa t];rfl
  rw[e];exact step i _ H R S (aa t) s E D
theorem HE{b d:Type}(xs:List b)(h:b->d):(aq xs.length).filterMap (λi=>xs[i]?.map h)=xs.map h:=by
 have e:∀l:List b,l.filterMap (λx=>some (h x))=l.map h:=λl=>by
  induction l with
  |nil=>rfl
  |cons a l c=>rw[cR,c];rfl
 rw[<- e,<- rL xs (λx=>some (h x))];refine HC λi _=>?_;cases xs[i]? <;> rfl
inductive Role where
 |c7|cJ|c9|fX (i:Nat)|ux|rows (g:Nat)|i6|book (g:Nat)|eZ (g:Nat)
 |aM|groups|jD|handed (c:Nat)|cO|bZ (i:Nat)|letter (i:Nat)|done (i:Nat)|aE (i:Nat)|eU
 deriving DecidableEq
structure uY(H:Hp)(loc:Role->Addr)(ob:Role->Option HO):Prop where
 get:∀r o,ob r=some o->H (loc r)=some o
 inj:∀r q,ob r≠none->ob q≠none->loc r=loc q->r=q
noncomputable def ie(ob:Role->Option HO)(r:Role)(o:HO):Role->Option HO:=λq=>if q=r then some o else ob q
noncomputable def qB(loc:Role->Addr)(r:Role)(a:Addr):Role->Addr:=λq=>if q=r then a else loc q
theorem dG{ob:Role->Option HO}{r:Role}{o:HO}:ie ob r o r=some o:=ee rfl
theorem cD{ob:Role->Option HO}{r q:Role}{o:HO}(h:q≠r):ie ob r o q=ob q:=eH h
theorem fm{b:Role->Addr}{r:Role}{a:Addr}:qB b r a r=a:=ee rfl
theorem eV{b:Role->Addr}{r q:Role}{a:Addr}(h:q≠r):qB b r a q=b q:=eH h
def Fp(loc:Role->Addr)(ob:Role->Option HO)(b:Addr):Prop:=∃r,ob r≠none/\loc r=b
section
variable{H H':Hp}{loc:Role->Addr}{ob:Role->Option HO}
theorem uY.mono(h:uY H loc ob)(s:aD H H'):uY H' loc ob:=⟨λr o e=>s _ _ (h.get r o e),h.inj⟩
theorem uY.keep(h:uY H loc ob)(k:∀b o,H b=some o->Fp loc ob b->H' b=some o):uY H' loc ob :=
 ⟨λr o e=>k _ _ (h.get r o e) ⟨r,by rw[e];exact aP o,rfl⟩,h.inj⟩
theorem uY.set(h:uY H loc ob){r:Role}(b:ob r≠none)(o:HO):uY (upd H (loc r) o) loc (ie ob r o):=by
 have c:∀q,ie ob r o q≠none->ob q≠none:=λq hq=>by
  by_cases e:q=r
  ·rw[e];exact b
  ·rw[cD e] at hq;exact hq
 refine⟨λq u e=>?_,λq a d f e=>h.inj q a (c q d) (c a f) e⟩;by_cases z:q=r
 ·subst z
  rw[dG] at e;cases e;exact au
 ·rw[cD z] at e
  rw[aC (λw=>z (h.inj q r (by rw[e];exact aP u) b w))];exact h.get q u e
theorem uY.new(h:uY H loc ob){p:Addr}(j:H p=none)(r:Role)(o:HO):uY (upd H p o) (qB loc r p) (ie ob r o):=by
 have f:∀q,q≠r->ob q≠none->loc q≠p:=λq hq g e=>by
  cases i:ob q with
  |none=>exact g i
  |some u =>
   have:=h.get q u i
   rw[e,j] at this;cases this
 refine⟨λq u e=>?_,λq c d b e=>?_⟩
 ·by_cases z:q=r
  ·subst z
   rw[dG] at e;cases e;rw[fm];exact au
  ·rw[cD z] at e
   rw[eV z,aC (f q z (by rw[e];exact aP u))];exact h.get q u e
 ·by_cases z:q=r
  ·by_cases a:c=r
   ·rw[z,a]
   ·rw[z,fm,eV a] at e
    rw[cD a] at b;exact eL e.symm (f c a b)
  ·by_cases a:c=r
   ·rw[a,fm,eV z] at e
    rw[cD z] at d;exact eL e (f q z d)
   ·rw[eV z,eV a] at e
    rw[cD z] at d;rw[cD a] at b;exact h.inj q c d b e
theorem uY.V2(h:uY H loc ob){p:Addr}{r:Role}{o:HO}{b:Addr}(d:Fp (qB loc r p) (ie ob r o) b):Fp loc ob b∨b=p:=by
 obtain⟨q,c,a⟩:=d;by_cases z:q=r
 ·rw[z,fm] at a
  exact .inr a.symm
 ·rw[cD z] at c
  rw[eV z] at a;exact .inl ⟨q,c,a⟩
theorem HF{r:Role}(d:ob r≠none){o:HO}{b:Addr}:Fp loc (ie ob r o) b↔Fp loc ob b:=by
 constructor
 ·rintro⟨q,a,c⟩
  refine⟨q,?_,c⟩;by_cases z:q=r
  ·rw[z];exact d
  ·rw[cD z] at a;exact a
 ·rintro⟨q,a,c⟩
  refine⟨q,?_,c⟩;by_cases z:q=r
  ·rw[z,dG];exact aP o
  ·rw[cD z];exact a
end
inductive sD where
 |post (h:Nat)|aex (h r:Nat)|hand (h c:Nat)|send (h r w:Nat)|twice (h r:Nat)|V3 (h r:Nat)
noncomputable def sD.vs:sD->List V
 |.post h=>[.str "post",.int h]
 |.aex h r=>[.str "come",.int h,.int r]
 |.hand h c=>[.str "hand",.int h,.int c]
 |.send h r w=>[.str "send",.int h,.int r,.int w]
 |.twice h r=>[.str "twice",.int h,.int r]
 |.V3 h r=>[.str "lost",.int h,.int r]
structure LS where
 s:Nat
 to:Nat
 kd:Int
 grp:Nat
 old:Bool
 done:List Nat
 aE:List sD
structure Cp where
 l:Nat
 r:Nat
 w:Nat
 h:Nat
noncomputable def Cp.vs(c:Cp):List V:=[.int c.l,.int c.r,.int c.w,.int c.h]
structure NS where
 ws:List (List Nat)
 R:Nat->Nat->RM.Row
 ts:Nat->List T3
 aM:List Nat
 groups:List Nat
 had:List (List Nat)
 ls:List LS
 cps:List Cp
structure TQ where
 rq:Nat->List Addr
 dq:Nat->List Addr
 cq:List Addr
structure NC where
 c7:Addr
 str:Addr
 book:Addr
 post:Addr
 al3:Addr
 let1:Addr
 aey:Addr
noncomputable def rM(c:NC)(dx:Addr)(l:LS):HO:=if l.kd=1 then .ins c.let1 dx [("sender",.int l.s),("to",.int l.to)] else .ins c.aey dx [("sender",.int l.s)]
noncomputable def desc(c:NC)(dx:Role->Addr)(tp:Addr)(loc:Role->Addr)(q:TQ)(s:NS):Role->Option HO
 |.c7=>some (.ins c.c7 (dx .c7) [("town",.ref tp),("strands",.ref (loc .cJ)),("rows_by_group",.ref (loc .ux)),("books",.ref (loc .i6)),("homes",.ref (loc .aM)),("groups",.ref (loc .groups)),("handed",.ref (loc .jD)),("letters",.ref (loc .cO)),("copies",.ref (loc .eU))])
 |.cJ=>some (.ins c.str (dx .cJ) [("town",.ref tp),("upright",.ref (loc .c9))])
 |.c9=>some (.lst ((aq s.ws.length).map λi=>.ref (loc (.fX i))))
 |.fX i=>s.ws[i]?.map λw=>.lst (bw w)
 |.ux=>some (.lst ((aq 3).map λg=>.ref (loc (.rows g))))
 |.rows g=>if g<3 then some (.lst ((q.rq g).map V.ref)) else none
 |.i6=>some (.lst ((aq 3).map λg=>.ref (loc (.book g))))
 |.book g=>if g<3 then some (.ins c.book (dx (.book g)) [("kept",.ref (loc (.eZ g)))]) else none
 |.eZ g=>if g<3 then some (.dT ((s.ts g).map iZ)) else none
 |.aM=>some (.lst (bw s.aM))
 |.groups=>some (.lst (bw s.groups))
 |.jD=>some (.lst ((aq s.had.length).map λi=>.ref (loc (.handed i))))
 |.handed i=>s.had[i]?.map λw=>.lst (bw w)
 |.cO=>some (.lst ((aq s.ls.length).map λi=>.ref (loc (.bZ i))))
 |.bZ i=>s.ls[i]?.map λl=>.ins c.post (dx (.bZ i)) [("letter",.ref (loc (.letter i))),("group",.int l.grp),("old",.bl l.old),("done_at",.ref (loc (.done i))),("deeds",.ref (loc (.aE i)))]
 |.letter i=>s.ls[i]?.map λl=>rM c (dx (.letter i)) l
 |.done i=>s.ls[i]?.map λl=>.dK (l.done.map λh:Nat=>(gy (h:Int),.bl true))
 |.aE i=>s.ls[i]?.map λl=>.lst ((q.dq i).map V.ref)
 |.eU=>some (.lst (q.cq.map V.ref))
mutual
noncomputable def Nl:PyData->Bool
 |.none=>true
 |.bool _=>true
 |.int _=>true
 |.str _=>true
 |.list _=>false
 |.tuple ds=>Ez ds
 |.dict _=>true
noncomputable def Ez:List PyData->Bool
 |[]=>true
 |d::ds=>Nl d&&Ez ds
end
structure dI(K:af)(H:Hp)(qs:List Addr)(xs:List (List V)):Prop where
 len:qs.length=xs.length
 at':∀(i:Nat) q x,qs[i]?=some q->xs[i]?=some x->cN K H q x
theorem dI.mono{K:af}{H c:Hp}{qs:List Addr}{xs:List (List V)}(h:dI K H qs xs)(k:∀b x,cN K H b x->cN K c b x):dI K c qs xs:=⟨h.len,λi q x a b=>k _ _ (h.at' i q x a b)⟩
noncomputable def gF(n:Nat)(R:Nat->RM.Row):List (List V):=(aq n).map λi=>RM.cT (R i)
structure nh(K:af)(H:Hp)(n:Nat)(q:TQ)(s:NS):Prop where
 rows:∀g,g<3->dI K H (q.rq g) (gF n (s.R g))
 aE:∀i l,s.ls[i]?=some l->dI K H (q.dq i) (l.aE.map sD.vs)
 cps:dI K H q.cq (s.cps.map Cp.vs)
theorem nh.mono{K:af}{H a:Hp}{n:Nat}{q:TQ}{s:NS}(h:nh K H n q s)(k:∀b x,cN K H b x->cN K a b x):nh K a n q s :=
 ⟨λg c=>(h.rows g c).mono k,λi l e=>(h.aE i l e).mono k,h.cps.mono k⟩
def cY(K:af)(c:NC)(H:Hp)(F:Addr->Prop)(p tp:Addr)(n:Nat)(s:NS):Prop :=
 ∃loc dx q,loc .c7=p/\uY H loc (desc c dx tp loc q s)/\(∀b,F b↔Fp loc (desc c dx tp loc q s) b)/\nh K H n q s
structure Step(H:Hp)(F:Addr->Prop)(H':Hp)(F':Addr->Prop):Prop where
 kp:∀b o,H b=some o->¬F b->H' b=some o
 fr:∀b,F' b->F b∨H b=none
theorem Qs{c:NC}{n:Role->Addr}{k:Addr}{i:Role->Addr}{q:TQ}{s:NS}{r:Role}{o:HO}(h:desc c n k i q s r=some o):wz o:=by
 have b:∀{g:Type} {f:g->HO} {x:Option g},(∀a,wz (f a))->x.map f=some o->wz o:=λ{g f x} m e=>by
  cases x with
  |none=>cases e
  |some a=>cases e;exact m a
 have ins:∀{C d:Addr} {j:List (Str×V)},wz (.ins C d j):=m9;cases r <;> simp only[desc] at h
 all_goals first
  | (cases h;exact m9)
  | (cases h;exact iN)
  |exact b (λ_=>iN) h
  |exact b (λ_=>m9) h
  | (split at h
     ·cases h;first|exact iN|exact m9|exact aew
     ·cases h)
  | (refine b (λl=>?_) h;unfold rM;split <;> exact m9)
  | (refine b (λl=>?_) h;exact λp=>⟨λe=>(by cases e),λo e=>(by cases e)⟩)
section
variable{K:af}{c:NC}{CT:Addr}{H H':Hp}{F F':Addr->Prop}{p tp ln lr:Addr}{n:Nat}{s s':NS}{ns:List Int}{rs:List R5}
theorem cY.mono(h:cY K c H F p tp n s)(e:aD H H'):cY K c H' F p tp n s:=by
 obtain⟨a,j,q,d,i,f,g⟩:=h;exact⟨a,j,q,d,i.mono e,f,g.mono λb x=>e.dj⟩
theorem cY.RJ(h:cY K c H F p tp n s){b:Addr}{o:HO}(j:F b)(e:H b=some o):wz o:=by
 obtain⟨a,k,q,l,f,g,m⟩:=h;obtain⟨r,i,rfl⟩:=(g b).mp j;cases d:desc c k tp a q s r with
 |none=>exact eL d i
 |some u =>
  have:=f.get r u d
  rw[e] at this;cases this;exact Qs d
theorem cY.there(h:cY K c H F p tp n s){b:Addr}(f:F b):∃o,H b=some o:=by
 obtain⟨a,j,q,k,i,e,l⟩:=h;obtain⟨r,g,rfl⟩:=(e b).mp f;cases d:desc c j tp a q s r with
 |none=>exact eL d g
 |some u=>exact⟨u,i.get r u d⟩
theorem cY.tup(h:cY K c H F p tp n s)(a:∀b o,H b=some o->¬F b->H' b=some o){b:Addr}{x:List V}(e:cN K H b x):cN K H' b x:=by
 rcases e with (e|⟨o,e⟩)|e
 ·exact .inl (.inl (a _ _ e λz=>(h.RJ z e x).1 rfl))
 ·exact .inl (.inr ⟨o,a _ _ e λz=>(h.RJ z e x).2 o rfl⟩)
 ·exact .inr e
theorem cY.keep(h:cY K c H F p tp n s)(j:∀b o,H b=some o->F b->H' b=some o)(g:∀b x,cN K H b x->cN K H' b x):cY K c H' F p tp n s:=by
 obtain⟨a,l,q,f,k,d,i⟩:=h;exact⟨a,l,q,f,k.keep λb o e z=>j b o e ((d b).mpr z),d,i.mono g⟩
end
mutual
theorem Rep.tups{K:af}{H g:Hp}(c:∀b x,cN K H b x->cN K g b x):∀{d:PyData} {v:V},Nl d=true->Rep K H d v->Rep K g d v
 |.none,_,_,h=>h
 |.bool _,_,_,h=>h
 |.int _,_,_,h=>h
 |.str _,_,_,h=>h
 |.list _,_,f,_=>by simp[Nl] at f
 |.tuple ds,_,f,⟨a,vs,e,q,r⟩=>⟨a,vs,e,c _ _ q,c6.tups c f r⟩
 |.dict _,_,_,h=>h
theorem c6.tups{K:af}{H c:Hp}(a:∀b x,cN K H b x->cN K c b x):∀{ds:List PyData} {vs:List V},Ez ds=true->c6 K H ds vs->c6 K c ds vs
 |[],_,_,h=>h
 |d::ds,_,f,⟨v,r,e,q,t⟩=>by
  have f:(Nl d&&Ez ds)=true:=f;rw[cV] at f;exact⟨v,r,e,Rep.tups a f.1 q,c6.tups a f.2 t⟩
end
theorem HG:∀rs:List R5,Ez (rs.map R5.D)=true
 |[]=>rfl
 |r::rs=>by
  show (Nl r.D&&Ez (rs.map R5.D))=true;rw[HG rs];rfl
section
variable{K:af}{c:NC}{CT:Addr}{H H':Hp}{F F':Addr->Prop}{p tp ln lr:Addr}{n:Nat}{s s':NS}{ns:List Int}{rs:List R5}
theorem cX.keep(h:cX K CT H tp ln lr ns rs)(k1:∀b o,H b=some o->b=tp∨b=ln∨b=lr->H' b=some o)(c:∀b x,cN K H b x->cN K H' b x):cX K CT H' tp ln lr ns rs:=by
 obtain⟨⟨i,a⟩,f,g,d,e⟩:=h;exact⟨⟨i,k1 _ _ a (.inl rfl)⟩,k1 _ _ f (.inr (.inl rfl)),g,k1 _ _ d (.inr (.inr rfl)),c6.tups c (HG rs) e⟩
structure NW(K:af)(c:NC)(CT:Addr)(H:Hp)(F:Addr->Prop)(p tp ln lr:Addr)(ns:List Int)(rs:List R5)(s:NS):Prop where
 c7:cY K c H F p tp ns.length s
 ni:cX K CT H tp ln lr ns rs
 o1:¬F tp
 o2:¬F ln
 o3:¬F lr
theorem NW.mono(h:NW K c CT H F p tp ln lr ns rs s)(e:aD H H'):NW K c CT H' F p tp ln lr ns rs s:=⟨h.c7.mono e,h.ni.mono e,h.o1,h.o2,h.o3⟩
theorem NW.done(h:NW K c CT H F p tp ln lr ns rs s)(st:Step H F H' F')(a:cY K c H' F' p tp ns.length s'):NW K c CT H' F' p tp ln lr ns rs s':=by
 have g:∀b x,cN K H b x->cN K H' b x:=λb x=>h.c7.tup st.kp;obtain⟨⟨m,i⟩,d,k,f,l⟩:=id h.ni;have nf:∀b o,H b=some o->¬F b->¬F' b:=λb o e j z=>by
  rcases st.fr b z with w|w
  ·exact j w
  ·rw[e] at w;cases w
 refine⟨a,h.ni.keep (λb o e q=>st.kp b o e ?_) g,nf _ _ i h.o1,nf _ _ d h.o2,nf _ _ f h.o3⟩;rcases q with rfl|rfl|rfl
 ·exact h.o1
 ·exact h.o2
 ·exact h.o3
theorem Step.refl'(e:aD H H'):Step H F H' F:=⟨λb o q _=>e _ _ q,λb z=>.inl z⟩
theorem Step.trans{d:Hp}{c:Addr->Prop}(a:Step H F H' F')(b:Step H' F' d c):Step H F d c:=by
 refine⟨λx o e nf=>b.kp x o (a.kp x o e nf) λz=>?_,λx z=>?_⟩
 ·rcases a.fr x z with w|w
  ·exact nf w
  ·rw[e] at w;cases w
 ·rcases b.fr x z with w|w
  ·exact a.fr x w
  ·by_cases q:F x
   ·exact .inl q
   ·refine .inr ?_
    cases f:H x with
    |none=>rfl
    |some o =>
     have:=a.kp x o f q
     rw[this] at w;cases w
end
theorem uY.join{H:Hp}{i k:Role->Addr}{j c:Role->Option HO}(a:uY H i j)(b:uY H k c)(m:∀r q,j r≠none->c q≠none->i r≠k q) :
 uY H (λr=>if (c r).isSome=true then k r else i r) (λr=>if (c r).isSome=true then c r else j r):=by
 have l:∀{r},(c r).isSome=true->c r≠none:=λ{r} h e=>by rw[e] at h;cases h
 refine⟨λr o e=>?_,λr q d f e=>?_⟩
 ·by_cases z:(c r).isSome=true
  ·rw[ee z] at e ⊢
   exact b.get r o e
  ·rw[eH z] at e ⊢
   exact a.get r o e
 ·by_cases z:(c r).isSome=true
  ·by_cases g:(c q).isSome=true
   ·simp only[z,g,if_true] at d f e
    exact b.inj r q d f e
   ·simp only[z,g,if_true,if_false] at d f e
    exact eL e.symm (m q r (by simpa using f) (l z))
  ·by_cases g:(c q).isSome=true
   ·simp only[z,g,if_true,if_false] at d f e
    exact eL e (m r q (by simpa using d) (l g))
   ·simp only[z,g,if_false] at d f e
    exact a.inj r q (by simpa using d) (by simpa using f) e
structure Gq(H0 H:Hp)(p:Addr)(loc:Role->Addr)(ob:Role->Option HO):Prop where
 own:uY H loc ob
 np:loc .c7=p
 hn:ob .c7≠none
 kp:∀b o,H0 b=some o->b≠p->H b=some o
 fr:∀b,Fp loc ob b->b=p∨H0 b=none
section
variable{H0 H H':Hp}{p:Addr}{loc:Role->Addr}{ob:Role->Option HO}
theorem Gq.free(h:Gq H0 H p loc ob){a:Addr}(b:H a=none):H0 a=none:=by
 cases e:H0 a with
 |none=>rfl
 |some o =>
  by_cases z:a=p
  ·exfalso
   cases c:ob .c7 with
   |none=>exact h.hn c
   |some u =>
    have:=h.own.get .c7 u c
    rw[h.np,<- z,b] at this;cases this
  ·have:=h.kp a o e z
   rw[b] at this;cases this
theorem Gq.new(h:Gq H0 H p loc ob){a:Addr}(c:H a=none){r:Role}(d:r≠.c7)(o:HO):Gq H0 (upd H a o) p (qB loc r a) (ie ob r o):=by
 refine⟨h.own.new c r o,by rw[eV (bM d)];exact h.np,by rw[cD (bM d)];exact h.hn,λb u e n=>?_,λb f=>?_⟩
 ·have:=h.kp b u e n
  rw[aC (aJ this c)];exact this
 ·rcases h.own.V2 f with z|rfl
  ·exact h.fr b z
  ·exact .inr (h.free c)
theorem Gq.put(h:Gq H0 H p loc ob)(o:HO):Gq H0 (upd H p o) p loc (ie ob .c7 o):=by
 have e:=h.own.set (r:=.c7) h.hn o;rw[h.np] at e;refine⟨e,h.np,by rw[dG];exact aP o,λb u q n=>?_,λb a=>h.fr b ((HF h.hn).mp a)⟩;rw[aC n];exact h.kp b u q n
theorem uY.add{H H':Hp}{loc:Role->Addr}{ob:Role->Option HO}(h:uY H loc ob)(s:aD H H'){a:Addr}(d:H a=none){o:HO}(e:H' a=some o)(r:Role):uY H' (qB loc r a) (ie ob r o):=by
 have c:=h.new d r o;refine⟨λq u b=>?_,c.inj⟩;by_cases z:q=r
 ·subst z
  rw[dG] at b;cases b;rw[fm];exact e
 ·rw[cD z] at b
  rw[eV z];exact s _ _ (h.get q u b)
theorem Gq.add(h:Gq H0 H p loc ob)(s:aD H H'){a:Addr}(d:H a=none){o:HO}(e:H' a=some o){r:Role}(f:r≠.c7):Gq H0 H' p (qB loc r a) (ie ob r o):=by
 have c:=h.new d f o;exact⟨h.own.add s d e r,c.np,c.hn,λb u q n=>s _ _ (h.kp b u q n),c.fr⟩
theorem Gq.abP(h:Gq H0 H p loc ob){r:Role}(a:ob r≠none)(f:r≠.c7)(o:HO):Gq H0 (upd H (loc r) o) p loc (ie ob r o):=by
 refine⟨h.own.set a o,h.np,by rw[cD (bM f)];exact h.hn,λb u e n=>?_,λb d=>h.fr b ((HF a).mp d)⟩;have c:b≠loc r:=λz=>by
  rcases h.fr (loc r) ⟨r,a,rfl⟩ with w|w
  ·exact n (z.trans w)
  ·rw[z,w] at e;cases e
 rw[aC c];exact h.kp b u e n
theorem Gq.ext{loc':Role->Addr}{RK:Role->Option HO}(h:Gq H0 H p loc ob)(d:∀r,ob r=RK r)(c:∀r,ob r≠none->loc r=loc' r):Gq H0 H p loc' RK:=by
 have e:ob=RK:=funext d;subst e;refine⟨⟨λr o e=>?_,λr q a b e=>h.own.inj r q a b ?_⟩,?_,h.hn,h.kp,λb f=>?_⟩
 ·rw[<- c r (by rw[e];exact aP o)]
  exact h.own.get r o e
 ·rw[c r a,c q b]
  exact e
 ·rw[<- c .c7 h.hn]
  exact h.np
 ·obtain⟨r,a,e⟩:=f
  exact h.fr b ⟨r,a,(c r a).trans e⟩
theorem Gq.join{f:Role->Addr}{a:Role->Option HO}(h:Gq H0 H p loc ob)(b:uY H' f a)(g:a .c7=none)(fresh:∀r,a r≠none->H (f r)=none)(s:aD H H') :
 Gq H0 H' p (λr=>if (a r).isSome=true then f r else loc r) (λr=>if (a r).isSome=true then a r else ob r):=by
 refine⟨(h.own.mono s).join b λr q d c e=>?_,?_,?_,λb o e n=>s _ _ (h.kp b o e n),λx j=>?_⟩
 ·cases i:ob r with
  |none=>exact d i
  |some u =>
   have:=h.own.get r u i
   rw[e,fresh q c] at this;cases this
 ·show (if (a .c7).isSome=true then _ else _)=p
  rw[g];exact h.np
 ·show (if (a .c7).isSome=true then _ else _)≠none
  rw[g];exact h.hn
 ·obtain⟨r,d,c⟩:=j
  by_cases z:(a r).isSome=true
  ·simp only[z,if_true] at d c
   rw[<- c];exact .inr (h.free (fresh r d))
  ·simp only[z,if_false] at d c
   exact h.fr x ⟨r,by simpa using d,by simpa using c⟩
end
noncomputable def zh(ns:List Int)(i:Nat):RM.Row:=⟨ns.getD i 0,0,0,-1⟩
noncomputable def S0(ns:List Int)(rs:List R5)(cl:List (Nat×Nat)):NS where
 ws:=rs.map λr=>aq r.d.toNat
 R:=λ_=>zh ns
 ts:=λ_=>[]
 aM:=cl.map (·.1)
 groups:=cl.map (·.2)
 had:=cl.map λ_=>[]
 ls:=[]
 cps:=[]
noncomputable def T5(C dx tp lu:Addr)(ls:List Addr)(ws:List (List Nat)):Role->Option HO
 |.cJ=>some (.ins C dx [("town",.ref tp),("upright",.ref lu)])
 |.c9=>some (.lst (ls.map V.ref))
 |.fX i=>ws[i]?.map λw=>.lst (bw w)
 |_=>none
noncomputable def Yw(sp lu:Addr)(ls:List Addr):Role->Addr
 |.cJ=>sp
 |.c9=>lu
 |.fX i=>ls.getD i 0
 |_=>0
theorem abQ{H:Hp}{C sp s m d:Addr}{ls:List Addr}{ws:List (List Nat)}(n:H sp=some (.ins C s [("town",.ref m),("upright",.ref d)]))(t:H d=some (.lst (ls.map V.ref)))(hl:ls.length=ws.length)
 (u:∀(i:Nat) l w,ls[i]?=some l->ws[i]?=some w->H l=some (.lst (bw w))) (nd:ls.Nodup) (A:d∉ls):uY H (Yw sp d ls) (T5 C s m d ls ws):=by
 have b:∀{i:Nat},T5 C s m d ls ws (.fX i)≠none->∃(a:i<ls.length),Yw sp d ls (.fX i)=ls[i]:=λ{i} h=>by
  have a:i<ls.length:=by
   rw[hl];by_cases z:i<ws.length
   ·exact z
   ·exact eL (show (ws[i]?.map λw=>HO.lst (bw w))=none by rw[ji ∅];rfl) h
  refine⟨a,?_⟩;show ls.getD i 0=ls[i];rw[ak,aa a];rfl
 have B:∀{i:Nat} (a:i<ls.length),∃w,H ls[i]=some (.lst (bw w)):=λ{i} a=>⟨ws[i]'(hl▸a),u i _ _ (aa a) (aa (hl▸a))⟩;have v:sp≠d:=Qq n t (λe=>by cases e);have x:∀{i:Nat} (a:i<ls.length),sp≠ls[i]:=λ{i} a=>by
  obtain⟨w,g⟩:=B a;exact Qq n g (λe=>by cases e)
 have y:∀{i:Nat} (a:i<ls.length),d≠ls[i]:=λ{i} a e=>A (e▸aK a);refine⟨λr o e=>?_,λr q k f e=>?_⟩
 ·cases r <;> first|(cases e;done)|skip
  case cJ=>cases e;exact n
  case c9=>cases e;exact t
  case fX i =>
   obtain⟨a,c⟩:=b (i:=i) (by rw[e];exact aP o);have g:=aa (hl▸a:i<ws.length);have e:(ws[i]?.map λw=>HO.lst (bw w))=some o:=e;rw[g] at e;cases e;rw[c];exact u i _ _ (aa a) g
 ·cases r <;> first|exact eL rfl k|skip
  all_goals cases q <;> first|exact eL rfl f|rfl|skip
  case cJ.c9=>exact eL e v
  case cJ.fX i =>
   obtain⟨a,c⟩:=b f;exact eL (e.trans c) (x a)
  case c9.cJ=>exact eL e.symm v
  case c9.fX i =>
   obtain⟨a,c⟩:=b f;exact eL (e.trans c) (y a)
  case fX.cJ i =>
   obtain⟨a,c⟩:=b k;exact eL (e.symm.trans c) (x a)
  case fX.c9 i =>
   obtain⟨a,c⟩:=b k;exact eL (e.symm.trans c) (y a)
  case fX.fX i j =>
   obtain⟨a,c⟩:=b k;obtain⟨D,p⟩:=b f;rw[c,p] at e;have q:ls[i]?=ls[j]?:=by rw[aa a,aa D,e]
   have:=(List.getElem?_inj a nd).mp q
   rw[this]
structure cE(ns:List Int)(rs:List R5):Prop where
 nd:ns.Nodup
 ok:∀r∈rs,r.Ok ns.length
 n1:1<=ns.length
 Xp:ns.length<=10
 jw:rs.length<=20
 pos:∀x∈ns,0<=x
structure Bf(ns:List Int)(rs:List R5)(s:NS):Prop where
 wl:s.ws.length=rs.length
 w4:∀w∈s.ws,w.length<=4
 fit:∀g,g<3->xD ns.length rs.length (s.R g)
noncomputable abbrev yQ(rs:List R5)(ws:List (List Nat))(g:Nat):List Nat:=uX rs ws g rs.length
theorem zD{rs:List R5}{ws:List (List Nat)}{g:Nat}:∀k∈yQ rs ws g,k<rs.length:=λk a=>bH.mp (bf.mp a).1
noncomputable def oU(ns:List Int)(rs:List R5)(o:cE ns rs)(ws:List (List Nat))(g:Nat):RM.Net:=aY ns rs (yQ rs ws g) o.nd o.ok zD
section
variable{K:af}{c:NC}{CT:Addr}{H H':Hp}{loc dx:Role->Addr}{q:TQ}{p tp ln lr:Addr}{n:Nat}{s:NS}{ns:List Int}{rs:List R5}
theorem uY.strAt(O:uY H loc (desc c dx tp loc q s)):uw c.str H (loc .cJ) tp (loc .c9) s.ws:=by
 refine⟨⟨dx .cJ,O.get .cJ _ rfl⟩,(aq s.ws.length).map λi=>loc (.fX i),?_,by rw[ah,bx],λi l w b a=>?_⟩
 ·have:=O.get .c9 _ rfl
  rw[this,cF];rfl
 ·have d:=(ai.mp a).1
  rw[aj,iI d] at b;cases b;exact O.get (.fX i) _ (by show (s.ws[i]?.map _)=_;rw[a];rfl)
theorem uY.LN(O:uY H loc (desc c dx tp loc q s)){g:Nat}(a:g<3):qA c.book H (loc (.book g)) (loc (.eZ g)) (s.ts g) :=
 ⟨⟨dx (.book g),O.get (.book g) _ (ee a)⟩,O.get (.eZ g) _ (ee a)⟩
theorem qC{f:Nat->V}{m g:Nat}(h:g<m):Eo ((aq m).map f) (g:Int)=some (f g):=dM (by rw[aj,iI h];rfl)
theorem dI.Qt{l:Addr}{qs:List Addr}{R:Nat->RM.Row}(h:dI K H qs (gF n R))(hl:bS K H l (qs.map V.ref)):xC K H l n R:=by
 have e:qs.length=n:=by rw[h.len];simp[gF]
 refine⟨qs,hl,e,λi p a=>h.at' i p _ a ?_⟩;have b:=(ai.mp a).1;unfold gF;rw[aj,iI ∅];rfl
theorem nj{xs:List Nat}{i:Nat}(h:i<xs.length):Eo (bw xs) (i:Int)=some (.int (xs[i]:Nat)):=dM (by rw[aj,aa h];rfl)
end
noncomputable def fM{α:Type}(f:Nat->α)(i:Nat)(v:α):Nat->α:=λg=>if g=i then v else f g
theorem cz{a:Type}{f:Nat->a}{i:Nat}{v:a}:fM f i v i=v:=ee rfl
theorem dN{a:Type}{f:Nat->a}{i g:Nat}{v:a}(h:g≠i):fM f i v g=f g:=eH h
theorem uY.ext{H:Hp}{c loc':Role->Addr}{ob RK:Role->Option HO}(h:uY H c ob)(f:∀r,ob r=RK r)(d:∀r,ob r≠none->c r=loc' r):uY H loc' RK/\∀b,Fp c ob b↔Fp loc' RK b:=by
 have e:ob=RK:=funext f;subst e;refine⟨⟨λr o e=>?_,λr q a b e=>h.inj r q a b ?_⟩,λb=>⟨λ⟨r,a,e⟩=>⟨r,a,(d r a).symm.trans e⟩,λ⟨r,a,e⟩=>⟨r,a,(d r a).trans e⟩⟩⟩
 ·rw[<- d r (by rw[e];exact aP o)]
  exact h.get r o e
 ·rw[d r a,d q b]
  exact e
section
variable{K:af}{c:NC}{H H':Hp}{F:Addr->Prop}{loc dx:Role->Addr}{q:TQ}{p tp:Addr}{n g:Nat}{s:NS}
theorem Qu(J:loc .c7=p)(O:uY H loc (desc c dx tp loc q s))(u:∀b,F b↔Fp loc (desc c dx tp loc q s) b)(f:nh K H n q s)(y:g<3){d' d:Addr}(t:H d'=none)
 (Q:H' (loc (.book g))=some (.ins c.book d [("kept",.ref d')])) (P:H' d'=some (.dT [])) (E:∀b o,H b=some o->b≠loc (.book g)->H' b=some o) :
 ∃C,cY K c H' C p tp n {s with ts:=fM s.ts g []}/\Step H F H' C:=by
 have A:desc c dx tp loc q s (.book g)≠none:=by
  show (if g<3 then some _ else none)≠none;rw[ee y];exact aP _
 have G:F (loc (.book g)):=(u _).mpr ⟨.book g,A,rfl⟩;have m:∀b o,H b=some o->¬F b->H' b=some o:=λb o e z=>E b o e λw=>z (w▸G);have h:cY K c H F p tp n s:=⟨loc,dx,q,J,O,u,f⟩;have D:=O.set A (.ins c.book d [("kept",.ref d')]);have v:d'≠loc (.book g):=λz=>by
  have:=h.there G
  obtain⟨o,e⟩:=this;rw[z,e] at t;cases t
 have B:(upd H (loc (.book g)) (.ins c.book d [("kept",.ref d')])) d'=none:=by rw[aC v];exact t
 have T:=D.new B (.eZ g) (.dT []);have R:uY H' (qB loc (.eZ g) d') (ie (ie (desc c dx tp loc q s) (.book g) (.ins c.book d [("kept",.ref d')])) (.eZ g) (.dT [])):=by
  refine T.keep λb o e _=>?_;by_cases z:b=d'
  ·rw[z,au] at e
   cases e;rw[z];exact P
  ·rw[aC z] at e
   by_cases j:b=loc (.book g)
   ·rw[j,au] at e
    cases e;rw[j];exact Q
   ·rw[aC j] at e
    exact E b o e j
 obtain⟨M,N⟩:=R.ext (RK:=desc c (λr=>if r=.book g then d else dx r) tp (qB loc (.eZ g) d') q {s with ts:=fM s.ts g []}) (loc':=qB loc (.eZ g) d') (λr=>by
  cases r <;> first|rfl|skip
  ·rename_i k
   show ie (desc c dx tp loc q s) (.book g) _ (.book k)=(if k<3 then some (HO.ins c.book (if Role.book k=.book g then d else dx (.book k)) [("kept",.ref (qB loc (.eZ g) d' (.eZ k)))]) else none);by_cases z:k=g
   ·subst z
    rw[dG,ee y,ee rfl,fm]
   ·have I:Role.book k≠.book g:=λe=>z (by cases e;rfl)
    have a:Role.eZ k≠.eZ g:=λe=>z (by cases e;rfl);rw[cD I,eH I,eV a];rfl
  ·rename_i k
   show ie (ie (desc c dx tp loc q s) (.book g) _) (.eZ g) _ (.eZ k)=(if k<3 then some (HO.dT ((fM s.ts g [] k).map iZ)) else none);by_cases z:k=g
   ·subst z
    rw[dG,ee y,cz];rfl
   ·have a:Role.eZ k≠.eZ g:=λe=>z (by cases e;rfl)
    rw[cD a,dN z];rfl) (λr _=>rfl)
 refine⟨Fp _ _,⟨_,_,q,?_,M,λb=>Iff.rfl,⟨λk L=>(f.rows k L).mono λb x=>h.tup m,λi l e=>(f.aE i l e).mono λb x=>h.tup m,f.cps.mono λb x=>h.tup m⟩⟩,m,λb S=>?_⟩
 ·rw[eV (λz=>by cases z)]
  exact J
 ·rcases D.V2 ((N b).mpr S) with z|rfl
  ·exact .inl ((u b).mpr ((HF A).mp z))
  ·exact .inr t
theorem Yx(I:loc .c7=p)(O:uY H loc (desc c dx tp loc q s))(t:∀b,F b↔Fp loc (desc c dx tp loc q s) b)(h:nh K H n q s)(G:g<3){x:Nat}(U:x<n){a:Addr}{d:RM.Row}(T:cN K H a (RM.cT d)) :
 ∃B,cY K c (upd H (loc (.rows g)) (.lst (((q.rq g).map V.ref).set x (.ref a)))) B p tp n {s with R:=fM s.R g (RM.upd (s.R g) x d)}/\Step H F (upd H (loc (.rows g)) (.lst (((q.rq g).map V.ref).set x (.ref a)))) B:=by
 have u:desc c dx tp loc q s (.rows g)≠none:=by
  show (if g<3 then some _ else none)≠none;rw[ee G];exact aP _
 have P:F (loc (.rows g)):=(t _).mpr ⟨.rows g,u,rfl⟩;have E:∀b o,H b=some o->¬F b->(upd H (loc (.rows g)) (.lst (((q.rq g).map V.ref).set x (.ref a)))) b=some o:=λb o e z=>by
  have J:b≠loc (.rows g):=λw=>z (w▸P);rw[aC J];exact e
 have Q:cY K c H F p tp n s:=⟨loc,dx,q,I,O,t,h⟩;have j:∀{b x},cN K H b x->_:=λ{b x} e=>Q.tup E (b:=b) (x:=x) e;have L:=O.set u (.lst (((q.rq g).map V.ref).set x (.ref a)));obtain⟨M,N⟩:=L.ext (RK:=desc c dx tp loc {q with rq:=fM q.rq g ((q.rq g).set x a)} {s with R:=fM s.R g (RM.upd (s.R g) x d)}) (loc':=loc) (λr=>by
  cases r <;> first|rfl|skip
  rename_i k;show ie (desc c dx tp loc q s) (.rows g) _ (.rows k)=(if k<3 then some (HO.lst ((fM q.rq g ((q.rq g).set x a) k).map V.ref)) else none);by_cases z:k=g
  ·subst z
   rw[dG,ee G,cz,jh]
  ·rw[cD (λe=>z (by cases e;rfl)),dN z]
   rfl) (λr _=>rfl)
 refine⟨Fp _ _,⟨loc,dx,_,I,M,λb=>Iff.rfl,⟨λk C=>?_,λi l e=>(h.aE i l e).mono λb x=>j,h.cps.mono λb x=>j⟩⟩,E,λb S=>.inl ((t b).mpr ((HF u).mp ((N b).mpr S)))⟩;show dI K _ (fM q.rq g ((q.rq g).set x a) k) (gF n (fM s.R g (RM.upd (s.R g) x d) k));by_cases z:k=g
 ·subst z
  rw[cz,cz];have D:=h.rows k C;have A:(q.rq k).length=n:=by rw[D.len];simp[gF]
  refine⟨by rw[aX,A];simp[gF],λi b v f y=>?_⟩;have m:=(ai.mp f).1;rw[aX,A] at m;unfold gF at y;rw[aj,iI m] at y;cases y;rw[bT] at f;by_cases w:x=i
  ·subst w
   rw[ee rfl,ee (by rw[A];exact m)] at f;cases f
   have:RM.upd (s.R k) x d x=d:=by unfold RM.upd;rw[ee rfl]
   show cN K _ a (RM.cT (RM.upd (s.R k) x d x));rw[this];exact j T
  ·rw[eH w] at f
   have:RM.upd (s.R k) x d i=s.R k i:=by unfold RM.upd;rw[eH (bM w)]
   show cN K _ b (RM.cT (RM.upd (s.R k) x d i));rw[this];exact j (D.at' i b _ f (by unfold gF;rw[aj,iI m];rfl))
 ·rw[dN z,dN z]
  exact (h.rows k C).mono λb x=>j
end
section
variable{K:af}{c:NC}{H H':Hp}{F:Addr->Prop}{loc dx:Role->Addr}{q:TQ}{p tp:Addr}{n j:Nat}{s:NS}
theorem Nm(G:loc .c7=p)(O:uY H loc (desc c dx tp loc q s))(u:∀b,F b↔Fp loc (desc c dx tp loc q s) b)(d:nh K H n q s)(P:j<s.ws.length){a:Addr}{w:List Nat}{ls:List Addr}(R:H (loc .c9)=some (.lst (ls.map V.ref)))(m:H a=none)
 (N:H' a=some (.lst (bw w))) (M:H' (loc .c9)=some (.lst ((ls.map V.ref).set j (.ref a)))) (D:∀b o,H b=some o->b≠loc .c9->H' b=some o) :
 ∃B,cY K c H' B p tp n {s with ws:=s.ws.set j w}/\Step H F H' B:=by
 have A:desc c dx tp loc q s .c9≠none:=aP _;have E:F (loc .c9):=(u _).mpr ⟨.c9,A,rfl⟩;have h:∀b o,H b=some o->¬F b->H' b=some o:=λb o e z=>D b o e λw=>z (w▸E);have f:cY K c H F p tp n s:=⟨loc,dx,q,G,O,u,d⟩;have v:ls.map V.ref=(aq s.ws.length).map λi=>V.ref (loc (.fX i)):=by
  have:=O.get .c9 _ rfl
  rw[R] at this;exact HO.lst.inj (aQ this)
 have C:=O.set A (.lst ((ls.map V.ref).set j (.ref a)));have t:a≠loc .c9:=λz=>by
  obtain⟨o,e⟩:=f.there E;rw[z,e] at m;cases m
 have y:(upd H (loc .c9) (.lst ((ls.map V.ref).set j (.ref a)))) a=none:=by rw[aC t];exact m
 have W:=C.new y (.fX j) (.lst (bw w));have Q:uY H' (qB loc (.fX j) a) (ie (ie (desc c dx tp loc q s) .c9 (.lst ((ls.map V.ref).set j (.ref a)))) (.fX j) (.lst (bw w))):=by
  refine W.keep λb o e _=>?_;by_cases z:b=a
  ·rw[z,au] at e
   cases e;rw[z];exact N
  ·rw[aC z] at e
   by_cases g:b=loc .c9
   ·rw[g,au] at e
    cases e;rw[g];exact M
   ·rw[aC g] at e
    exact D b o e g
 obtain⟨J,L⟩:=Q.ext (RK:=desc c dx tp (qB loc (.fX j) a) q {s with ws:=s.ws.set j w}) (loc':=qB loc (.fX j) a) (λr=>by
  cases r <;> first|rfl|skip
  ·show some (HO.lst ((ls.map V.ref).set j (.ref a)))=some (HO.lst ((aq (s.ws.set j w).length).map λi=>V.ref (qB loc (.fX j) a (.fX i))))
   rw[v,aX];congr 2;refine qq (-_) λi U X=>?_;simp only[aX,ah,bx] at U;rw[List.getElem_set];by_cases z:j=i
   ·subst z
    simp[fm]
   ·have S:Role.fX i≠.fX j:=λe=>z (by cases e;rfl)
    simp[z,eV S]
  ·rename_i i
   show ie (ie (desc c dx tp loc q s) .c9 _) (.fX j) _ (.fX i)=((s.ws.set j w)[i]?.map λw=>HO.lst (bw w));by_cases z:i=j
   ·subst z
    rw[dG,bT,ee rfl,ee P];rfl
   ·rw[cD (λe=>z (by cases e;rfl)),bT,eH (bM z)]
    rfl) (λr _=>rfl)
 refine⟨Fp _ _,⟨_,dx,q,?_,J,λb=>Iff.rfl,⟨λk I=>(d.rows k I).mono λb x=>f.tup h,λi l e=>(d.aE i l e).mono λb x=>f.tup h,d.cps.mono λb x=>f.tup h⟩⟩,h,λb T=>?_⟩
 ·rw[eV (λz=>by cases z)]
  exact G
 ·rcases C.V2 ((L b).mpr T) with z|rfl
  ·exact .inl ((u b).mpr ((HF A).mp z))
  ·exact .inr m
theorem Qv(u:loc .c7=p)(O:uY H loc (desc c dx tp loc q s))(m:∀b,F b↔Fp loc (desc c dx tp loc q s) b)(v:nh K H n q s){l:Addr}{qs:List Addr}{cps:List Cp}(hl:H l=some (.lst (qs.map V.ref)))(I:¬F l)(hq:dI K H qs (cps.map Cp.vs)) :
 ∃G,cY K c (upd H p (.ins c.c7 (dx .c7) [("town",.ref tp),("strands",.ref (loc .cJ)),("rows_by_group",.ref (loc .ux)),("books",.ref (loc .i6)),("homes",.ref (loc .aM)),("groups",.ref (loc .groups)),("handed",.ref (loc .jD)),("letters",.ref (loc .cO)),("copies",.ref l)])) G p tp n {s with cps:=cps} /\
  (∀b o,H b=some o->b≠p->(upd H p (.ins c.c7 (dx .c7) [("town",.ref tp),("strands",.ref (loc .cJ)),("rows_by_group",.ref (loc .ux)),("books",.ref (loc .i6)),("homes",.ref (loc .aM)),("groups",.ref (loc .groups)),("handed",.ref (loc .jD)),("letters",.ref (loc .cO)),("copies",.ref l)])) b=some o)/\F p/\∀b,G b->F b∨b=l:=by
 generalize Q:HO.ins c.c7 (dx .c7) [("town",.ref tp),("strands",.ref (loc .cJ)),("rows_by_group",.ref (loc .ux)),("books",.ref (loc .i6)),("homes",.ref (loc .aM)),("groups",.ref (loc .groups)),("handed",.ref (loc .jD)),("letters",.ref (loc .cO)),("copies",.ref l)]=o1;have t:desc c dx tp loc q s .c7≠none:=aP _;have f:F p:=(m _).mpr ⟨.c7,t,u⟩;have N:cY K c H F p tp n s:=⟨loc,dx,q,u,O,m,v⟩;have A:∀b o,H b=some o->b≠p->(upd H p o1) b=some o:=λb o e z=>by rw[aC z];exact e
 have B:∀{b x},cN K H b x->cN K (upd H p o1) b x:=λ{b x} e=>N.tup (λb o e z=>A b o e λw=>z (w▸f)) e;have y:=O.set t o1;rw[u] at y;have E:l≠p:=λz=>I (z▸f);have R:uY (upd H p o1) (qB loc .eU l) (ie (ie (desc c dx tp loc q s) .c7 o1) .eU (.lst (qs.map V.ref))):=by
  refine⟨λr o e=>?_,λr D a b e=>?_⟩
  ·by_cases z:r=.eU
   ·subst z
    rw[dG] at e;cases e;rw[fm];exact A _ _ hl E
   ·rw[cD z] at e
    rw[eV z];exact y.get r o e
  ·have g:∀{r:Role},r≠.eU->ie (desc c dx tp loc q s) .c7 o1 r≠none->loc r≠l:=λ{r} z h e=>by
    refine I ((m _).mpr ⟨r,?_,e⟩);by_cases w:r=.c7
    ·rw[w];exact t
    ·rw[cD w] at h;exact h
   by_cases z:r=.eU
   ·by_cases d:D=.eU
    ·rw[z,d]
    ·rw[z,fm,eV d] at e
     rw[cD d] at b;exact eL e.symm (g d b)
   ·by_cases d:D=.eU
    ·rw[d,fm,eV z] at e
     rw[cD z] at a;exact eL e (g z a)
    ·rw[eV z,eV d] at e
     rw[cD z] at a;rw[cD d] at b;exact y.inj r D a b e
 obtain⟨L,M⟩:=R.ext (RK:=desc c dx tp (qB loc .eU l) {q with cq:=qs} {s with cps:=cps}) (loc':=qB loc .eU l) (λr=>by
  subst Q;cases r <;> rfl) (λr _=>rfl)
 refine⟨Fp _ _,⟨_,dx,_,?_,L,λb=>Iff.rfl,⟨λk J=>(v.rows k J).mono λb x=>B,λi l e=>(v.aE i l e).mono λb x=>B,hq.mono λb x=>B⟩⟩,A,f,λb P=>?_⟩
 ·rw[eV (λz=>by cases z)]
  exact u
 ·obtain⟨r,C,j⟩:=(M b).mpr P
  by_cases z:r=.eU
  ·rw[z,fm] at j
   exact .inr j.symm
  ·rw[eV z] at j
   rw[cD z] at C;refine .inl ((m b).mpr ⟨r,?_,j⟩);by_cases w:r=.c7
   ·rw[w];exact t
   ·rw[cD w] at C;exact C
end
end TW
namespace TW
open PySem L2 PyProof.Rows
open Classical in
noncomputable def Off(H:Hp)(F:Addr->Prop):Hp:=λb=>if F b then none else H b
section
variable{K:af}{c:NC}{CT:Addr}{H H':Hp}{F F' F1 F2 G:Addr->Prop}{p tp ln lr:Addr}{n:Nat}{s:NS}{ns:List Int}{rs:List R5}
theorem nk{b:Addr}{o:HO}(h:Off H F b=some o):¬F b/\H b=some o:=by
 unfold Off at h;by_cases z:F b
 ·rw[ee z] at h;cases h
 ·rw[eH z] at h;exact⟨z,h⟩
theorem xG{b:Addr}{o:HO}(z:¬F b)(h:H b=some o):Off H F b=some o:=by
 unfold Off;rw[eH z];exact h
theorem cZ:aD (Off H F) H:=λb o e=>(nk e).2
theorem kQ(st:Step H F H' F'):aD (Off H F) (Off H' F'):=λb o e=>by
 obtain⟨a,c⟩:=nk e;refine xG (λz=>?_) (st.kp b o c a);rcases st.fr b z with w|w
 ·exact a w
 ·rw[c] at w;cases w
theorem ig(e:aD H H'):aD (Off H F) (Off H' F):=kQ (Step.refl' e)
theorem LO{z:Addr}{o:HO}(a:¬F z):Off (upd H z o) F=upd (Off H F) z o:=by
 funext b;by_cases e:b=z
 ·subst e
  rw[au];exact xG a au
 ·rw[aC e]
  unfold Off;rw[aC e]
theorem cY.ahQ(h:cY K c H F p tp n s){b:Addr}{x:List V}(e:cN K H b x):cN K (Off H F) b x:=by
 rcases e with (e|⟨o,e⟩)|e
 ·exact .inl (.inl (xG (λz=>(h.RJ z e x).1 rfl) e))
 ·exact .inl (.inr ⟨o,xG (λz=>(h.RJ z e x).2 o rfl) e⟩)
 ·exact .inr e
theorem cX.nw(a:cX K CT (Off H G) tp ln lr ns rs)(N:cY K c H F p tp ns.length s)(sub:∀b,F b->G b):NW K c CT H F p tp ln lr ns rs s:=by
 obtain⟨⟨i,d⟩,f,h,e,g⟩:=id a;exact⟨N,a.mono cZ,λz=>(nk d).1 (sub _ z),λz=>(nk f).1 (sub _ z),λz=>(nk e).1 (sub _ z)⟩
end
def LP(K:af)(H:Hp)(l:Addr)(rs:List R5):Prop:=∃qs:List Addr,H l=some (.lst (qs.map V.ref))/\dI K H qs (rs.map R5.vs)
theorem LP.keep{K:af}{H a:Hp}{l:Addr}{rs:List R5}(h:LP K H l rs)(k:∀o,H l=some o->a l=some o)(e:∀b x,cN K H b x->cN K a b x):LP K a l rs:=by
 obtain⟨f,c,d⟩:=h;exact⟨f,k _ c,d.mono e⟩
theorem LP.Z5{K:af}{H:Hp}{l:Addr}:∀{rs:List R5} {qs:List Addr},dI K H qs (rs.map R5.vs)->c6 K H (rs.map R5.D) (qs.map V.ref)
 |[],[],_=>rfl
 |[],_::_,h=>by cases h.len
 |_::_,[],h=>by cases h.len
 |r::rs,q::qs,h=>⟨.ref q,qs.map V.ref,rfl,Rep.Hg (ns:=r.ns) (h.at' 0 q _ rfl rfl),LP.Z5 (l:=l) ⟨Nat.succ.inj h.len,λi p x a b=>h.at' (i+1) p x a b⟩⟩
theorem V5{H a d:Hp}{F:Addr->Prop}{p:Addr}(t:aD H a)(c:H p=none)(g:∀b o,a b=some o->b≠p->d b=some o)(f:∀b,F b->b=p∨a b=none):aD H (Off d F):=λb o e=>xG (λz=>by
 rcases f b z with rfl|w
 ·rw[e] at c;cases c
 ·rw[t _ _ e] at w;cases w) (g b o (t b o e) (aJ e c))
end TW
namespace L2
open PySem PySem.Spec PyProof.Rows
structure LQ(K:af)(x qual:Str)(st:Stmt)(f:Addr)(fd:FuncData)(dv:Value):Prop where
 ex:∃(oc:Value) (od:Option Addr) (T:Addr) (o:Obj) (n:Nat) (kV doc pm:Value) (an:Option Addr) (cdv ct:Value) (osl:Array (Option Value)),
  fd=eN x qual (jC st) (fQ st) (aA st) (.ref T) kV doc pm an cdv ct/\K.lookup f=some ⟨oc,od,.func fd,osl⟩/\jz K cdv qual=true/\K.lookup T=some o/\o.data=.seq #[dv] n
 kp:dR K (.ref f)=true
section
variable{P:Program}{w:World}{K:af}{mg:Str->Option Value}{base:Heap}
theorem LQ.ok{x b:Str}{st:Stmt}{f:Addr}{i:FuncData}{r:Value}{N ps:List Str}{k:Nat}{sp:Sp}(F:LQ K x b st f i r)(S:aI N ps (aA st))(g:∀vs H Q E,sp vs H Q E->vs.length=ps.length)
 (d:∀(c:Value) (A:Around) (a:List Env) (s:Shared) (H:Hp) (vs:List V) (Q:VK) (E:XK),jT k (A.deeper (envOfC b (aA st) s.heap.objs.size f c))->sp vs H Q E ->
  ∃t,iX (oN iC P w K mg base N b (aA st) f c A a s H E).ZL (fQ st) t/\t {nx:=λ_ m=>Q .fk m,rt:=Q} (start N vs) H):ck P w K mg base iC (k+1) f i ps sp:=by
 obtain⟨v,y,T,o,n,kV,u,B,z,c,C,p,rfl,lk,e,_⟩:=F.ex;refine Vj lk e S g λA a s H vs Q E l j=>?_;obtain⟨t,h,q⟩:=d c A a s H vs Q E l j;exact⟨t,h.ZL,q⟩
theorem LQ.binds{x a:Str}{st:Stmt}{f:Addr}{g:FuncData}{i:Value}{ps:List Str}{ds:List Value}{m:Nat}(F:LQ K x a st f g i)(y:m+ds.length=ps.length)
 (h:∀(T:Addr) (kV c e:Value) (d:Option Addr) (b ct:Value) (us:List Value),us.length=m ->
  ∃k,bindArgs (eN x a (jC st) (fQ st) (aA st) (.ref T) kV c e d b ct) ⟨us,[]⟩=seqItems? (.ref T) >>= k/\k (some #[i])=pure (ps.zip (us++ds))):Binds K g ps ds:=by
 obtain⟨v,w,T,o,n,kV,c,e,d,b,ct,t,rfl,lk,p,lt,u⟩:=F.ex;intro s us r j;obtain⟨k,q,l⟩:=h T kV c e d b ct us (by rw[ay] at j;lia);exact PySem.W.binds_K r rfl lt u q l
theorem RN{x a:Str}{st:Stmt}{f T:Addr}{o:Obj}{n:Nat}{m:Value}{i:Value}{j g:Option Addr}{e:Array (Option Value)}{kV d h b ct:Value}(l:K.lookup f=some ⟨i,j,.func (eN x a (jC st) (fQ st) (aA st) (.ref T) kV d h g b ct),e⟩)
 (c:jz K b a=true) (k:dR K (.ref f)=true) (lt:K.lookup T=some o) (p:o.data=.seq #[m] n):LQ K x a st f (eN x a (jC st) (fQ st) (aA st) (.ref T) kV d h g b ct) m:=⟨⟨i,j,T,o,n,kV,d,h,g,b,ct,e,rfl,l,c,lt,p⟩,k⟩
end
end L2
namespace TW
open PySem L2 PyProof.Rows
structure jA(K:af)(c:NC)(H:Hp)(F:Addr->Prop)(loc dx:Role->Addr)(q:TQ)(p tp:Addr)(n:Nat)(s:NS):Prop where
 hp:loc .c7=p
 own:uY H loc (desc c dx tp loc q s)
 fp:∀b,F b↔Fp loc (desc c dx tp loc q s) b
 tup:nh K H n q s
section
variable{K:af}{c:NC}{H H':Hp}{F:Addr->Prop}{loc dx:Role->Addr}{q:TQ}{p tp:Addr}{n:Nat}{s:NS}
theorem jA.c7(h:jA K c H F loc dx q p tp n s):cY K c H F p tp n s:=⟨loc,dx,q,h.hp,h.own,h.fp,h.tup⟩
theorem jA.mono(h:jA K c H F loc dx q p tp n s)(e:aD H H'):jA K c H' F loc dx q p tp n s:=⟨h.hp,h.own.mono e,h.fp,h.tup.mono λb x=>e.dj⟩
theorem xH(X:jA K c H F loc dx q p tp n s){r:Role}(f:desc c dx tp loc q s r≠none){o:HO}{q':TQ}{s':NS}
 (t:∀x,ie (desc c dx tp loc q s) r o x=desc c dx tp loc q' s' x) (d:(∀b x,cN K H b x->cN K (upd H (loc r) o) b x)->nh K (upd H (loc r) o) n q' s') :
 jA K c (upd H (loc r) o) F loc dx q' p tp n s'/\Step H F (upd H (loc r) o) F:=by
 obtain⟨h,O,a,i⟩:=X;have l:F (loc r):=(a _).mpr ⟨r,f,rfl⟩;have m:cY K c H F p tp n s:=⟨loc,dx,q,h,O,a,i⟩;have g:∀b u,H b=some u->¬F b->(upd H (loc r) o) b=some u:=λb u e z=>bU b u e λw=>z (w▸l);obtain⟨j,k⟩:=(O.set f o).ext (RK:=desc c dx tp loc q' s') (loc':=loc) t (λx _=>rfl);exact⟨⟨h,j,λb=>(a b).trans ((HF f).symm.trans (k b)),d λb x=>m.tup g⟩,g,λb z=>.inl z⟩
theorem gi{ls:List LS}{i k:Nat}{a:LS}(b:i<ls.length):(ls.set i a)[k]?=if k=i then some a else ls[k]?:=by
 rw[bT];by_cases z:i=k
 ·subst z
  rw[ee rfl,ee b,ee rfl]
 ·rw[eH z,eH (bM z)]
noncomputable def nv(c:NC)(dx:Role->Addr)(loc:Role->Addr)(i:Nat)(l:LS):HO:=.ins c.post (dx (.bZ i)) [("letter",.ref (loc (.letter i))),("group",.int l.grp),("old",.bl l.old),("done_at",.ref (loc (.done i))),("deeds",.ref (loc (.aE i)))]
theorem Yy(X:jA K c H F loc dx q p tp n s){i:Nat}{l:LS}(hl:s.ls[i]?=some l) :
 jA K c (upd H (loc (.bZ i)) (nv c dx loc i {l with old:=true})) F loc dx q p tp n {s with ls:=s.ls.set i {l with old:=true}}/\Step H F (upd H (loc (.bZ i)) (nv c dx loc i {l with old:=true})) F:=by
 have a:=(ai.mp hl).1;refine xH X (r:=.bZ i) (q':=q) (by show (s.ls[i]?.map _)≠none;rw[hl];exact aP _) (λx=>?_) (λb=>⟨λg f=>(X.tup.rows g f).mono b,λk d e=>?_,X.tup.cps.mono b⟩)
 ·cases x <;> first|rfl|skip
  ·show some _=some (HO.lst ((aq (s.ls.set i _).length).map _))
   rw[aX]
  all_goals rename_i k
  ·show ie (desc c dx tp loc q s) (.bZ i) _ (.bZ k)=((s.ls.set i _)[k]?.map λl=>nv c dx loc k l)
   rw[gi a];by_cases z:k=i
   ·subst z
    rw[dG,ee rfl];rfl
   ·rw[cD (λe=>z (by cases e;rfl)),eH z]
    rfl
  ·show (s.ls[k]?.map λl=>rM c (dx (.letter k)) l)=((s.ls.set i _)[k]?.map λl=>rM c (dx (.letter k)) l)
   rw[gi a];by_cases z:k=i
   ·subst z
    rw[ee rfl,hl];rfl
   ·rw[eH z]
  ·show (s.ls[k]?.map λl=>HO.dK (l.done.map λh:Nat=>(gy (h:Int),.bl true)))=((s.ls.set i _)[k]?.map λl=>HO.dK (l.done.map λh:Nat=>(gy (h:Int),.bl true)))
   rw[gi a];by_cases z:k=i
   ·subst z
    rw[ee rfl,hl];rfl
   ·rw[eH z]
  ·show (s.ls[k]?.map λ_=>HO.lst ((q.dq k).map V.ref))=((s.ls.set i _)[k]?.map λ_=>HO.lst ((q.dq k).map V.ref))
   rw[gi a];by_cases z:k=i
   ·subst z
    rw[ee rfl,hl];rfl
   ·rw[eH z]
 ·have e:(s.ls.set i _)[k]?=some d:=e
  rw[gi a] at e;by_cases z:k=i
  ·subst z
   rw[ee rfl] at e;cases e;exact (X.tup.aE k l hl).mono b
  ·rw[eH z] at e
   exact (X.tup.aE k d e).mono b
theorem V6(X:jA K c H F loc dx q p tp n s){i:Nat}{l:LS}(hl:s.ls[i]?=some l)(ds:List Nat) :
 jA K c (upd H (loc (.done i)) (.dK (ds.map λh:Nat=>(gy (h:Int),.bl true)))) F loc dx q p tp n {s with ls:=s.ls.set i {l with done:=ds}}/\Step H F (upd H (loc (.done i)) (.dK (ds.map λh:Nat=>(gy (h:Int),.bl true)))) F:=by
 have a:=(ai.mp hl).1;refine xH X (r:=.done i) (q':=q) (by show (s.ls[i]?.map _)≠none;rw[hl];exact aP _) (λx=>?_) (λb=>⟨λg f=>(X.tup.rows g f).mono b,λk d e=>?_,X.tup.cps.mono b⟩)
 ·cases x <;> first|rfl|skip
  ·show some _=some (HO.lst ((aq (s.ls.set i _).length).map _))
   rw[aX]
  all_goals rename_i k
  ·show (s.ls[k]?.map λl=>nv c dx loc k l)=((s.ls.set i _)[k]?.map λl=>nv c dx loc k l)
   rw[gi a];by_cases z:k=i
   ·subst z
    rw[ee rfl,hl];rfl
   ·rw[eH z]
  ·show (s.ls[k]?.map λl=>rM c (dx (.letter k)) l)=((s.ls.set i _)[k]?.map λl=>rM c (dx (.letter k)) l)
   rw[gi a];by_cases z:k=i
   ·subst z
    rw[ee rfl,hl];rfl
   ·rw[eH z]
  ·show ie (desc c dx tp loc q s) (.done i) _ (.done k)=((s.ls.set i _)[k]?.map λl=>HO.dK (l.done.map λh:Nat=>(gy (h:Int),.bl true)))
   rw[gi a];by_cases z:k=i
   ·subst z
    rw[dG,ee rfl];rfl
   ·rw[cD (λe=>z (by cases e;rfl)),eH z]
    rfl
  ·show (s.ls[k]?.map λ_=>HO.lst ((q.dq k).map V.ref))=((s.ls.set i _)[k]?.map λ_=>HO.lst ((q.dq k).map V.ref))
   rw[gi a];by_cases z:k=i
   ·subst z
    rw[ee rfl,hl];rfl
   ·rw[eH z]
 ·have e:(s.ls.set i _)[k]?=some d:=e
  rw[gi a] at e;by_cases z:k=i
  ·subst z
   rw[ee rfl] at e;cases e;exact (X.tup.aE k l hl).mono b
  ·rw[eH z] at e
   exact (X.tup.aE k d e).mono b
theorem zE(X:jA K c H F loc dx q p tp n s){i:Nat}{l:LS}(hl:s.ls[i]?=some l){a:Addr}{d:sD}(A:cN K H a d.vs) :
 jA K c (upd H (loc (.aE i)) (.lst ((q.dq i).map V.ref++[.ref a]))) F loc dx {q with dq:=fM q.dq i (q.dq i++[a])} p tp n {s with ls:=s.ls.set i {l with aE:=l.aE++[d]}}/\Step H F (upd H (loc (.aE i)) (.lst ((q.dq i).map V.ref++[.ref a]))) F:=by
 have o:=(ai.mp hl).1;refine xH X (r:=.aE i) (q':={q with dq:=fM q.dq i (q.dq i++[a])}) (by show (s.ls[i]?.map _)≠none;rw[hl];exact aP _) (λx=>?_) (λf=>⟨λg w=>(X.tup.rows g w).mono f,λk v e=>?_,X.tup.cps.mono f⟩)
 ·cases x <;> first|rfl|skip
  ·show some _=some (HO.lst ((aq (s.ls.set i _).length).map _))
   rw[aX]
  all_goals rename_i k
  ·show (s.ls[k]?.map λl=>nv c dx loc k l)=((s.ls.set i _)[k]?.map λl=>nv c dx loc k l)
   rw[gi o];by_cases z:k=i
   ·subst z
    rw[ee rfl,hl];rfl
   ·rw[eH z]
  ·show (s.ls[k]?.map λl=>rM c (dx (.letter k)) l)=((s.ls.set i _)[k]?.map λl=>rM c (dx (.letter k)) l)
   rw[gi o];by_cases z:k=i
   ·subst z
    rw[ee rfl,hl];rfl
   ·rw[eH z]
  ·show (s.ls[k]?.map λl=>HO.dK (l.done.map λh:Nat=>(gy (h:Int),.bl true)))=((s.ls.set i _)[k]?.map λl=>HO.dK (l.done.map λh:Nat=>(gy (h:Int),.bl true)))
   rw[gi o];by_cases z:k=i
   ·subst z
    rw[ee rfl,hl];rfl
   ·rw[eH z]
  ·show ie (desc c dx tp loc q s) (.aE i) _ (.aE k)=((s.ls.set i _)[k]?.map λ_=>HO.lst ((fM q.dq i (q.dq i++[a]) k).map V.ref))
   rw[gi o];by_cases z:k=i
   ·subst z
    rw[dG,ee rfl,cz,aO];rfl
   ·rw[cD (λe=>z (by cases e;rfl)),eH z,dN z]
    rfl
 ·show dI K _ (fM q.dq i (q.dq i++[a]) k) _
  have e:(s.ls.set i _)[k]?=some v:=e;rw[gi o] at e;by_cases z:k=i
  ·subst z
   rw[ee rfl] at e;cases e;rw[cz];show dI K _ _ ((l.aE++[d]).map sD.vs);rw[aO];have t:=(X.tup.aE k l hl).mono f;refine⟨by rw[ay,ay,t.len];rfl,λj b x u m=>?_⟩;rcases AS u with u|⟨rfl,rfl⟩
   ·have y:=(ai.mp u).1
    rw[bN (by rw[<- t.len];exact y)] at m;exact t.at' j b x u m
   ·rw[t.len,cu (av _)] at m
    rw[gz] at m;cases m;exact f _ _ A
  ·rw[eH z] at e
   rw[dN z];exact (X.tup.aE k v e).mono f
theorem RO(X:jA K c H F loc dx q p tp n s){qs:List Addr}{cps:List Cp}(hq:dI K H qs (cps.map Cp.vs)) :
 jA K c (upd H (loc .eU) (.lst (qs.map V.ref))) F loc dx {q with cq:=qs} p tp n {s with cps:=cps}/\Step H F (upd H (loc .eU) (.lst (qs.map V.ref))) F :=
 xH X (r:=.eU) (q':={q with cq:=qs}) (aP _) (λx=>by cases x <;> rfl) (λa=>⟨λg b=>(X.tup.rows g b).mono a,λk l e=>(X.tup.aE k l e).mono a,hq.mono a⟩)
theorem V7(X:jA K c H F loc dx q p tp n s)(a:List Nat) :
 jA K c (upd H (loc .aM) (.lst (bw a))) F loc dx q p tp n {s with aM:=a}/\Step H F (upd H (loc .aM) (.lst (bw a))) F :=
 xH X (r:=.aM) (q':=q) (aP _) (λx=>by cases x <;> rfl) (λb=>⟨λg d=>(X.tup.rows g d).mono b,λk l e=>(X.tup.aE k l e).mono b,X.tup.cps.mono b⟩)
theorem V8(X:jA K c H F loc dx q p tp n s){i:Nat}(d:i<s.had.length)(a:List Nat) :
 jA K c (upd H (loc (.handed i)) (.lst (bw a))) F loc dx q p tp n {s with had:=s.had.set i a}/\Step H F (upd H (loc (.handed i)) (.lst (bw a))) F:=by
 refine xH X (r:=.handed i) (q':=q) (by show (s.had[i]?.map _)≠none;rw[aa d];exact aP _) (λx=>?_) (λb=>⟨λg f=>(X.tup.rows g f).mono b,λk l e=>(X.tup.aE k l e).mono b,X.tup.cps.mono b⟩);cases x <;> first|rfl|skip
 ·show some _=some (HO.lst ((aq (s.had.set i _).length).map _))
  rw[aX]
 ·rename_i k
  show ie (desc c dx tp loc q s) (.handed i) _ (.handed k)=((s.had.set i a)[k]?.map λw=>HO.lst (bw w));rw[bT];by_cases z:k=i
  ·subst z
   rw[dG,ee rfl,ee d];rfl
  ·rw[cD (λe=>z (by cases e;rfl)),eH (bM z)]
   rfl
end
theorem wA{a:Type}{xs:List a}{i:Nat}{x:a}(h:xs[i]?=some x):xs.set i x=xs:=by
 obtain⟨b,rfl⟩:=ai.mp h;exact List.set_getElem_self b
noncomputable def zj(c:NC)(Ed LR la da ea:Addr)(n:Nat)(l:LS):Role->Option HO
 |.bZ i=>if i=n then some (.ins c.post Ed [("letter",.ref la),("group",.int l.grp),("old",.bl l.old),("done_at",.ref da),("deeds",.ref ea)]) else none
 |.letter i=>if i=n then some (rM c LR l) else none
 |.done i=>if i=n then some (.dK (l.done.map λh:Nat=>(gy (h:Int),.bl true))) else none
 |.aE i=>if i=n then some (.lst []) else none
 |_=>none
noncomputable def newL(pa la da ea:Addr):Role->Addr
 |.bZ _=>pa
 |.letter _=>la
 |.done _=>da
 |.aE _=>ea
 |_=>0
section
variable{K:af}{c:NC}{H H':Hp}{F:Addr->Prop}{loc dx:Role->Addr}{q:TQ}{p tp:Addr}{n:Nat}{s:NS}
theorem abS{Ed LR pa la da ea:Addr}{l:LS}(w:H pa=some (.ins c.post Ed [("letter",.ref la),("group",.int l.grp),("old",.bl l.old),("done_at",.ref da),("deeds",.ref ea)]))(t:H la=some (rM c LR l))(v:H da=some (.dK (l.done.map λh:Nat=>(gy (h:Int),.bl true))))(x:H ea=some (.lst []))
 (k:pa≠la) (q:pa≠da) (s:pa≠ea) (m:la≠da) (j:la≠ea) (p:da≠ea):uY H (newL pa la da ea) (zj c Ed LR la da ea n l):=by
 have d:∀{i:Nat} {o:HO} {g:HO},(if i=n then some o else none)=some g->o=g/\i=n:=λ{i o g} e=>by
  by_cases z:i=n
  ·rw[ee z] at e;cases e;exact⟨rfl,z⟩
  ·rw[eH z] at e;cases e
 have f:∀{i:Nat} {o:HO},(if i=n then some o else none)≠none->i=n:=λ{i o} e=>by
  by_cases z:i=n
  ·exact z
  ·rw[eH z] at e;exact eL rfl e
 refine⟨λr o e=>?_,λr u a b e=>?_⟩
 ·cases r <;> first|(cases e;done)|skip
  ·rw[<- (d e).1];exact w
  ·rw[<- (d e).1];exact t
  ·rw[<- (d e).1];exact v
  ·rw[<- (d e).1];exact x
 ·cases r <;> first|exact eL rfl a|skip
  all_goals cases u <;> first|exact eL rfl b|skip
  all_goals first
   | (rw[f a,f b];done)
   |exact eL e k
   |exact eL e.symm k
   |exact eL e q
   |exact eL e.symm q
   |exact eL e s
   |exact eL e.symm s
   |exact eL e m
   |exact eL e.symm m
   |exact eL e j
   |exact eL e.symm j
   |exact eL e p
   |exact eL e.symm p
theorem V9(E:loc .c7=p)(O:uY H loc (desc c dx tp loc q s))(m:∀b,F b↔Fp loc (desc c dx tp loc q s) b)(j:nh K H n q s){Ed LR pa la da ea:Addr}{l:LS}(hd:l.aE=[])
 (T:H pa=some (.ins c.post Ed [("letter",.ref la),("group",.int l.grp),("old",.bl l.old),("done_at",.ref da),("deeds",.ref ea)])) (L:H la=some (rM c LR l)) (P:H da=some (.dK (l.done.map λh:Nat=>(gy (h:Int),.bl true)))) (h4:H ea=some (.lst []))
 (U:pa≠la) (Z:pa≠da) (d3:pa≠ea) (X:la≠da) (R:la≠ea) (Y:da≠ea) (n1:¬F pa) (n2:¬F la) (n3:¬F da) (n4:¬F ea) :
 ∃B,cY K c (upd H (loc .cO) (.lst (((aq s.ls.length).map λi=>.ref (loc (.bZ i)))++[.ref pa]))) B p tp n {s with ls:=s.ls++[l]} /\
  (∀b o,H b=some o->¬F b->(upd H (loc .cO) (.lst (((aq s.ls.length).map λi=>.ref (loc (.bZ i)))++[.ref pa]))) b=some o)/\∀b,B b->F b∨b=pa∨b=la∨b=da∨b=ea:=by
 have v:=abS (n:=s.ls.length) (c:=c) T L P h4 U Z d3 X R Y;have Q:cY K c H F p tp n s:=⟨loc,dx,q,E,O,m,j⟩;have A:desc c dx tp loc q s .cO≠none:=aP _;have M:F (loc .cO):=(m _).mpr ⟨.cO,A,rfl⟩;have t:∀r,zj c Ed LR la da ea s.ls.length l r≠none->¬F (newL pa la da ea r):=λr h=>by
  cases r <;> first|exact eL rfl h|assumption
 have D:∀b o,H b=some o->¬F b->(upd H (loc .cO) (.lst (((aq s.ls.length).map λi=>.ref (loc (.bZ i)))++[.ref pa]))) b=some o:=λb u e z=>bU b u e λw=>z (w▸M);have y:∀b x,cN K H b x->cN K _ b x:=λb x=>Q.tup D;have J:=O.join v λr N a b e=>t N b (e▸(m _).mpr ⟨r,a,rfl⟩);have S:=J.set (r:=.cO) A (.lst (((aq s.ls.length).map λi=>V.ref (loc (.bZ i)))++[.ref pa]));have d:∀{k:Nat},k≠s.ls.length->(s.ls++[l])[k]?=s.ls[k]?:=λ{k} z=>by
  by_cases w:k<s.ls.length
  ·exact bN w
  ·rw[ji (by rw[ay];show s.ls.length+1<=k;lia),ji ∅]
 have f:(s.ls++[l])[s.ls.length]?=some l:=by rw[cu (av _),gz];rfl
 obtain⟨G,I⟩:=S.ext (RK:=desc c (λr=>if r=.bZ s.ls.length then Ed else if r=.letter s.ls.length then LR else dx r) tp (λr=>if (zj c Ed LR la da ea s.ls.length l r).isSome=true then newL pa la da ea r else loc r) {q with dq:=fM q.dq s.ls.length []} {s with ls:=s.ls++[l]})
  (loc':=λr=>if (zj c Ed LR la da ea s.ls.length l r).isSome=true then newL pa la da ea r else loc r) (λr=>by
   cases r <;> first|rfl|skip
   ·
    show some _=some (HO.lst ((aq (s.ls++[l]).length).map _));rw[ay];show _=some (HO.lst ((aq (s.ls.length+1)).map _));rw[fF,aO];congr 2;congr 1
    ·refine cQ λi hi=>?_
     have z:i≠s.ls.length:=by have:=bH.mp hi;lia
     simp[zj,z]
    ·simp[zj,newL]
   all_goals rename_i k
   all_goals by_cases z:k=s.ls.length
   all_goals first|subst z|skip
   all_goals rw[cD (λe=>by cases e)]
   ·simp[zj,newL,desc,f]
   ·have:=d z
    simp[zj,newL,desc,z,this]
   ·simp[zj,newL,desc,f]
   ·have:=d z
    simp[zj,newL,desc,z,this]
   ·simp[zj,newL,desc,f]
   ·have:=d z
    simp[zj,newL,desc,z,this]
   ·simp[zj,newL,desc,f,cz]
   ·have:=d z
    simp[zj,newL,desc,z,this,dN z]) (λr _=>rfl)
 refine⟨Fp _ _,⟨λr=>if (zj c Ed LR la da ea s.ls.length l r).isSome=true then newL pa la da ea r else loc r,_,_,E,G,λb=>Iff.rfl,⟨λg W=>(j.rows g W).mono y,λk C e=>?_,j.cps.mono y⟩⟩,D,λb hb=>?_⟩
 ·have e:(s.ls++[l])[k]?=some C:=e
  show dI K _ (fM q.dq s.ls.length [] k) _;by_cases z:k=s.ls.length
  ·subst z
   rw[f] at e;cases e;rw[cz,hd];exact⟨rfl,λi b x e=>by cases e⟩
  ·rw[d z] at e
   rw[dN z];exact (j.aE k C e).mono y
 ·obtain⟨r,a,e⟩:=(HF (ob:=λr=>if (zj c Ed LR la da ea s.ls.length l r).isSome=true then zj c Ed LR la da ea s.ls.length l r else desc c dx tp loc q s r) (r:=.cO) A).mp ((I b).mpr hb)
  by_cases z:(zj c Ed LR la da ea s.ls.length l r).isSome=true
  ·simp only[z,if_true] at e
   subst e;right;cases r <;> first|(cases z;done)|skip
   ·exact .inl rfl
   ·exact .inr (.inl rfl)
   ·exact .inr (.inr (.inl rfl))
   ·exact .inr (.inr (.inr rfl))
  ·simp only[z,if_false] at a e
   exact .inl ((m b).mpr ⟨r,by simpa using a,by simpa using e⟩)
end
theorem RP(a b x y:Int):PyData.eqv (.tuple (([a,b]:List Int).map .int)) (.tuple (([x,y]:List Int).map .int))=decide (a=x/\b=y):=by
 show (PyData.eqv (.int a) (.int x)&&(PyData.eqv (.int b) (.int y)&&true))=_;show ((a==x)&&((b==y)&&true))=_;rw[Bool.and_true,iJ];simp
section
variable{K:af}{c:NC}{H H':Hp}{F:Addr->Prop}{loc dx:Role->Addr}{q:TQ}{p tp:Addr}{n:Nat}{s:NS}
theorem jA.past(X:jA K c H F loc dx q p tp n s){z:Addr}{u:HO}(g:H z=some u)(f:wz u)(d:¬F z)(a:∀b v,H b=some v->b≠z->H' b=some v):jA K c H' F loc dx q p tp n s :=
 ⟨X.hp,X.own.keep λb o e y=>a b o e λw=>d (w▸(X.fp b).mpr y),X.fp,X.tup.mono λb x=>cN.past g f a⟩
end
noncomputable def Xq(i x:Nat)(c:Cp):Bool:=decide (c.r=i/\c.w=x)
noncomputable def dc(s:NS)(i:Nat)(d:sD):NS:=match s.ls[i]? with|some l=>{s with ls:=s.ls.set i {l with aE:=l.aE++[d]}}|none=>s
theorem eW{s:NS}{i:Nat}{d:sD}{l:LS}(h:s.ls[i]?=some l):dc s i d={s with ls:=s.ls.set i {l with aE:=l.aE++[d]}}:=by
 unfold dc;rw[h]
noncomputable def oJ(i x:Nat)(s:NS)(c:Cp):NS:=if Xq i x c=true then dc s c.l (.V3 c.h i) else s
noncomputable def jk(s:NS)(i x:Nat)(m:Nat):NS:=(s.cps.take m).foldl (oJ i x) s
noncomputable def oK(s:NS)(i x:Nat):NS:={jk s i x s.cps.length with cps:=s.cps.filter λc=>!Xq i x c}
theorem Np{s:NS}{i:Nat}{d:sD}:(dc s i d).ls.length=s.ls.length:=by
 unfold dc;cases s.ls[i]? with
 |none=>rfl
 |some l=>exact aX
theorem T6{i x:Nat}{s:NS}{c:Cp}:(oJ i x s c).ls.length=s.ls.length:=by
 unfold oJ;split
 ·exact Np
 ·rfl
theorem Nq{s:NS}{i:Nat}{d:sD}:(dc s i d).cps=s.cps:=by
 unfold dc;cases s.ls[i]? <;> rfl
theorem T7{i x:Nat}{s:NS}{c:Cp}:(oJ i x s c).cps=s.cps:=by
 unfold oJ;split
 ·exact Nq
 ·rfl
theorem KJ{i x:Nat}:∀{cs:List Cp} {s:NS},(cs.foldl (oJ i x) s).ls.length=s.ls.length
 |[],_=>rfl
 |c::cs,s=>by rw[jP,KJ,T6]
theorem KL{i x:Nat}:∀{cs:List Cp} {s:NS},(cs.foldl (oJ i x) s).cps=s.cps
 |[],_=>rfl
 |c::cs,s=>by rw[jP,KL,T7]
theorem xJ{s:NS}{i x:Nat}:jk s i x 0=s:=by unfold jk;rw[List.take_zero];rfl
theorem xK{s:NS}{i x m:Nat}(h:m<s.cps.length):jk s i x (m+1)=oJ i x (jk s i x m) s.cps[m]:=by
 unfold jk;rw[jB h,List.foldl_append];rfl
theorem KN{s:NS}{i x m:Nat}:(jk s i x m).ls.length=s.ls.length:=KJ
theorem T8{s:NS}{i x m:Nat}:(jk s i x m).cps=s.cps:=KL
theorem KO{a:Type}{f:a->Bool}{xs:List a}{i:Nat}(b:i<xs.length):(xs.take (i+1)).filter f=(xs.take i).filter f++if f xs[i]=true then [xs[i]] else []:=by
 rw[jB b,eO];congr 1;cases e:f xs[i]
 ·rw[eH (!_),dh (by rw[e];decide)];rfl
 ·rw[ee rfl,dg e];rfl
theorem dI.snoc{K:af}{H:Hp}{qs:List Addr}{xs:List (List V)}{a:Addr}{x:List V}(h:dI K H qs xs)(f:cN K H a x):dI K H (qs++[a]) (xs++[x]):=by
 refine⟨by rw[ay,ay,h.len];rfl,λj b y d c=>?_⟩;rcases AS d with d|⟨rfl,rfl⟩
 ·have e:=(ai.mp d).1
  rw[bN (by rw[<- h.len];exact e)] at c;exact h.at' j b y d c
 ·rw[h.len,cu (av _),gz] at c
  cases c;exact f
end TW
namespace RM
variable{N:Net}{S:Nat->Row}
end RM
namespace Gr
end Gr
namespace L2
open PySem PySem.Spec PyProof.Rows
section
variable{X:Cx}{pos:Pos}
theorem sS(i:Nat){x:Str}{e:Expr}{b:TE}{a:Pos}{ps:List Str}{f:Scope}(S:aI X.N ps f)(c:PE X e b)(g:X.N[i]?=some x:=by rfl)(d:Loc X.env.scope x:=by first|exact Or.inl rfl|exact Or.inr rfl)(h:swapsWith e (some (.Name x a)) pos.line X.env=pure false:=by rfl)(j:X.fn x=true∨X.env.scope.names.lookup x=some .local:=by first|exact .inl rfl|exact .inr rfl|assumption) :
 PS X (.Assign [.Name x a] e pos) (XC b (gU i)):=aa0 S.nd g d c h j
theorem gS(i:Nat){x:Str}(a:X.N.Nodup)(c:X.N[i]?=some x:=by rfl)(b:Loc X.env.scope x:=by first|exact Or.inl rfl|exact Or.inr rfl)(d:X.fn x=true∨X.env.scope.names.lookup x=some .local:=by first|exact .inl rfl|exact .inr rfl|assumption):PG X (.Name x pos) (gU i):=Ri a c b d
theorem gT(i:Nat){x:Str}{ps:List Str}{b:Scope}(S:aI X.N ps b)(c:X.N[i]?=some x:=by rfl)(a:Loc X.env.scope x:=by first|exact Or.inl rfl|exact Or.inr rfl)(d:X.fn x=true∨X.env.scope.names.lookup x=some .local:=by first|exact .inl rfl|exact .inr rfl|assumption):PG X (.Name x pos) (gU i):=Ri S.nd c a d
theorem oR{e:Expr}{a:TE}(b:PE X e a):iX X [.Return (some e) pos] (aaV a):=bA (UX b)
theorem oB{b j pos'}:iX X [.Return (some (.Constant (.bool b) j pos')) pos] (aaV (tC (.bl b))):=bA (UX MP)
theorem oE{e:Expr}{a:TE}(c:PE X e a)(b:swapsWith e none pos.line X.env=pure false:=by rfl):iX X [.Expr e pos] (ZM a):=bA (dS c b)
theorem gj{a:Expr}{b:TE}(c:PE X a b)(d:dX a=true:=by rfl):PA X [a] (gC b C6):=(m8 c gf d)
theorem mP{b a:Expr}{c d:TE}(e:PE X b c)(h:PE X a d)(g:dX b=true:=by rfl)(f:dX a=true:=by rfl):PA X [b,a] (gC c (gC d C6)):=(m8 e (m8 h gf f) g)
theorem KP{b a c:Expr}{d f e:TE}(g:PE X b d)(l:PE X a f)(j:PE X c e)(i:dX b=true:=by rfl)(h:dX a=true:=by rfl)(k:dX c=true:=by rfl):PA X [b,a,c] (gC d (gC f (gC e C6))):=(m8 g (m8 l (m8 j gf k) h) i)
theorem Xr{b a d c:Expr}{e h f g:TE}(i:PE X b e)(p:PE X a h)(l:PE X d f)(m:PE X c g)(k:dX b=true:=by rfl)(j:dX a=true:=by rfl)(n:dX d=true:=by rfl)(o:dX c=true:=by rfl):PA X [b,a,d,c] (gC e (gC h (gC f (gC g C6)))):=(m8 i (m8 p (m8 l (m8 m gf o) n) j) k)
theorem aN5{e c b a d:Expr}{g j h i f:TE}(o:PE X e g)(m:PE X c j)(n:PE X b h)(s:PE X a i)(l:PE X d f)(p:dX e=true:=by rfl)(r:dX c=true:=by rfl)(k:dX b=true:=by rfl)(t:dX a=true:=by rfl)(q:dX d=true:=by rfl):PA X [e,c,b,a,d] (gC g (gC j (gC h (gC i (gC f C6))))):=(m8 o (m8 m (m8 n (m8 s (m8 l gf q) t) k) r) p)
theorem aN6{f d b a e c:Expr}{i l j k g h:TE}(r:PE X f i)(p:PE X d l)(q:PE X b j)(v:PE X a k)(o:PE X e g)(x:PE X c h)(s:dX f=true:=by rfl)(u:dX d=true:=by rfl)(n:dX b=true:=by rfl)(w:dX a=true:=by rfl)(t:dX e=true:=by rfl)(m:dX c=true:=by rfl):PA X [f,d,b,a,e,c] (gC i (gC l (gC j (gC k (gC g (gC h C6)))))):=(m8 r (m8 p (m8 q (m8 v (m8 o (m8 x gf m) t) w) n) u) s)
theorem aN7{f d b a e c g:Expr}{k n l m h i j:TE}(t:PE X f k)(r:PE X d n)(s:PE X b l)(y:PE X a m)(q:PE X e h)(A:PE X c i)(v:PE X g j)(u:dX f=true:=by rfl)(x:dX d=true:=by rfl)(p:dX b=true:=by rfl)(z:dX a=true:=by rfl)(w:dX e=true:=by rfl)(o:dX c=true:=by rfl)(B:dX g=true:=by rfl):PA X [f,d,b,a,e,c,g] (gC k (gC n (gC l (gC m (gC h (gC i (gC j C6))))))):=(m8 t (m8 r (m8 s (m8 y (m8 q (m8 A (m8 v gf B) o) w) z) p) x) u)
theorem kO{N ps:List Str}{b scope:Scope}(S:aI N ps b)(c:List Str)(a:List (Option Nat))(e:X.env.scope=b:=by rfl)(d:X.N=N:=by rfl)(h:LF scope b N c a=true:=by decide +kernel):jV X scope c a:=Tr e d h
end
section
variable{X:Cx}{a b tg iter:Expr}{ta tb:TE}{pos:Pos}{op:CmpOp}{r:R2}{body:List Stmt}{wi:TI}{g:TG}{ts:TS}
theorem xL(d:PE X a ta)(c:PE X b tb)(e:C9 b:=by exact λ_ _=>rfl):PE X (.Subscript a b pos) (Xn (S4 X.K) ta tb):=Rr Rt d c e
theorem xT(d:PE X a ta)(c:PE X b tb)(e:C9 b:=by exact λ_ _=>rfl):PE X (.Subscript a b pos) (Xn (S5 X.K) ta tb):=Rr Vm d c e
theorem yL(K:af)(e:PE X a ta)(c:PE X b tb)(f:X.K=K:=by rfl)(d:C9 b:=by exact λ_ _=>rfl):PE X (.Subscript a b pos) (Xn (S4 K) ta tb):=Rr (VB K f) e c d
theorem yT(K:af)(e:PE X a ta)(c:PE X b tb)(f:X.K=K:=by rfl)(d:C9 b:=by exact λ_ _=>rfl):PE X (.Subscript a b pos) (Xn (S5 K) ta tb):=Rr (XX K f) e c d
theorem qE(g:xq X (compareOp op) r)(e:PE X a ta)(d:PE X b tb)(c:op≠.In:=by decide)(f:op≠.NotIn:=by decide):PE X (.Compare a [op] [b] pos) (Xn r ta tb):=XF g e d (Vb b c f)
theorem qT(g:xq X (compareOp op) r)(e:PE X a ta)(d:PE X b tb)(c:op≠.In:=by decide)(f:op≠.NotIn:=by decide):PT X (.Compare a [op] [b] pos) (Vc (Xn r ta tb)):=iE g e d (Vb b c f)
theorem fS(d:PI X tg iter wi)(a:PG X tg g)(c:iX X body ts)(f:PassesOwn (model X.prog X.w) X.A X.env X.xe:=by exact PassesOwn.never)(b:X.calm=true:=by rfl)(e:∀x,foldedSetIterable iter X.env x=pure x:=by intro _;rfl):PS X (.For tg iter body [] pos) (adR wi g ts):=aa2 f b d a c e
end
section
variable{X:Cx}{x:Str}{p pos:Pos}{e:Expr}{es:List Expr}{te:TE}{t:TA}{id:String}{r:List V->Hp->VK->Prop}
theorem cB(f:oG X (.builtin id) r)(j:X.mg x=none)(h:bootBuiltins x=some (.builtin id))(i:PA X (e::es) t)(c:Gl X x:=by rfl)(g:x≠"__name__" := by decide)(b:(x==("__debug__" : Str))=false:=by decide)
 (d:starEach (e::es) X.env=(false,eval e X.env)::starEach es X.env:=by rfl) (a:(backTo pos (starEach es X.env)).any (·.1)=false:=by rfl):PE X (.Call (.Name x p) (e::es) [] pos) (su r t):=MW f c j h i g b d a
theorem lS(i:X.mg "len" = none)(h:PE X e te)(f:Gl X "len" := by rfl)(a:dX e=true:=by rfl)(g:starEach [e] X.env=(false,eval e X.env)::starEach [] X.env:=by rfl)(b:(backTo pos (starEach [] X.env)).any (·.1)=false:=by rfl) :
 PE X (.Call (.Name "len" p) [e] [] pos) (su (λd H Q=>∃p c,d=[.ref p]/\(bS X.K H p c∨cN X.K H p c)/\Q (.int c.length) H) (gC te C6)):=MW Dd f i PySem.boot_len (m8 h gf a) (!_) (!_) g b
end
theorem i7{N P:List Str}{a:Scope}(b:a.kind=.function:=by rfl)(g:a.isCoroutine=false:=by rfl)(d:a.isGenerator=false:=by rfl)(e:N.Nodup:=by decide +kernel)(f:N.take P.length=P:=by rfl)(h:∀x∈P,a.names.lookup x=some .local∨a.names.lookup x=some .cell:=by decide +kernel)(c:∀y∈a.names,y.2≠.free:=by decide +kernel):aI N P a:=⟨b,g,d,e,f,h,c⟩
structure mU(K:af)(mg:Str->Option Value)(x key:Str)(st:Stmt)(f:Addr)(d:FuncData)(ps:List Str):Prop where
 F:Px K x key st f d
 B:Binds K d ps []
 g:mg x=some (.ref f)
structure iD(K:af)(C:Addr)(x key:Str)(st:Stmt)(f:Addr)(d:FuncData)(ps:List Str):Prop where
 F:Px K x key st f d
 B:Binds K d ps []
 m:Lw K C x f
structure Nr(K:af)(C:Addr)(key:Str)(st:Stmt)(f:Addr)(d:FuncData)(ps:List Str):Prop where
 F:Px K "__init__" key st f d
 B:Binds K d ps []
 M:Mk K C f
def EG(K:af)(mg:Str->Option Value)(x key:Str)(st:Stmt)(f:Addr):Prop:=∃d,Px K x key st f d/\mg x=some (.ref f)
def EM(K:af)(C:Addr)(x key:Str)(st:Stmt)(f:Addr):Prop:=∃d,Px K x key st f d/\Lw K C x f
structure EC(K:af)(C:Addr):Prop where
 c:JC K C
 Z6:PySem.W.makesIn K C=true
 kc:dR K (.ref C)=true
section
variable{K:af}{h:Heap}{mg:Str->Option Value}{x key:Str}{st:Stmt}{C f:Addr}{oc:Value}{od an:Option Addr}{osl:Array (Option Value)}{kV doc pm cdv ct:Value}
theorem xy(X:K.In h)(G:h.Ns mainGlobals mg)(a:bP K mainGlobals x=some (some (.ref f)))(l:K.lookup f=some ⟨oc,od,.func (eN x key (jC st) (fQ st) (aA st) .none kV doc pm an cdv ct),osl⟩)(c:jz K cdv key=true)(k:dR K (.ref f)=true):EG K mg x key st f:=⟨_,Vy l c k,cU X G a⟩
theorem lZ(a:aH K (.ref C) x=some (some (.ref f)))(i:PySem.W.isFn K (.ref f)=true)(l:K.lookup f=some ⟨oc,od,.func (eN x key (jC st) (fQ st) (aA st) .none kV doc pm an cdv ct),osl⟩)(c:jz K cdv key=true)(k:dR K (.ref f)=true):EM K C x key st f:=⟨_,Vy l c k,⟨a,i,k⟩⟩
theorem Z7(a:xu K C Str.empty=true)(e:uS K C=true)(d:PySem.W.plainOver K C=true)(c:aH K (.ref C) "__setattr__" = some (some (.builtin "object.__setattr__")))(b:PySem.W.makesIn K C=true)(f:dR K (.ref C)=true):EC K C:=⟨⟨a,e,d,c⟩,b,f⟩
end
section
variable{X:Cx}{k k':Nat}{f C:Addr}{fd:FuncData}{ps:List Str}{sp:Sp}{x m key:Str}{st:Stmt}{p pos apos:Pos}{e o:Expr}{es:List Expr}{ta:TE}{t:TA}
theorem cG(F:ck X.prog X.w X.K X.mg X.base iC k f fd ps sp)(j:jT k' X.A)(c:mU X.K X.mg x key st f fd ps)(l:PA X (e::es) t)(d:k<=k':=by decide)(h:Gl X x:=by rfl)
 (b:(x==("__debug__" : Str))=false:=by decide) (i:starEach (e::es) X.env=(false,eval e X.env)::starEach es X.env:=by rfl) (a:(backTo pos (starEach es X.env)).any (·.1)=false:=by rfl) :
 PE X (.Call (.Name x p) (e::es) [] pos) (ZQ sp [] E0 t):=AN F (j.mono d) h c.g c.F.kp c.B .nil mK l b i a
theorem cM{pl:Sem Bool}(l:PE X o ta)(c:JC X.K C)(u:iD X.K C m key st f fd ps)(F:ck X.prog X.w X.K X.mg X.base iC k f fd ps sp)(i:jT k' X.A)(j:PA X (e::es) t)(b:k<=k':=by decide)
 (d:starEach (e::es) X.env=(false,eval e X.env)::starEach es X.env:=by rfl) (a:(backTo pos (starEach es X.env)).any (·.1)=false:=by rfl)
 (h:eval (.Call (.Attribute o m apos) (e::es) [] pos) X.env=(do
  let g <- eval o X.env
  standAt apos.atName
  let (f,first) <- holding [g] (getMethod g m pl)
  callWith pos f first (backTo pos (starEach (e::es) X.env)) (backToKw pos (keywordEach [] X.env))):=by rfl) :
 PE X (.Call (.Attribute o m apos) (e::es) [] pos) (FA C m sp [] E0 ta t):=pJ l c u.m F (i.mono b) u.B .nil mK j d a h
theorem cI(u:Nr X.K C key st f fd ps)(F:ck X.prog X.w X.K X.mg X.base iC k f fd ps sp)(h:jT k' X.A)(j:X.mg x=some (.ref C))(i:PA X (e::es) t)(c:k+1<=k':=by decide)(d:Gl X x:=by rfl)
 (b:(x==("__debug__" : Str))=false:=by decide) (g:starEach (e::es) X.env=(false,eval e X.env)::starEach es X.env:=by rfl) (a:(backTo pos (starEach es X.env)).any (·.1)=false:=by rfl) :
 PE X (.Call (.Name x p) (e::es) [] pos) (Vh C sp [] E0 t):=Rn u.M F (h.mono c) d j u.B .nil mK i b g a
end
section
variable{P:Program}{w:World}{K:af}{mg:Str->Option Value}{base:Heap}
theorem Px.jE{x a:Str}{st:Stmt}{f:Addr}{e:FuncData}{N ps:List Str}{k:Nat}{sp:Sp}(F:Px K x a st f e)(S:aI N ps (aA st))
 (j:∀{c:Value} {A:Around} {b:List Env} {s:Shared} {vs:List V} (H:Hp) (Q:VK) (E:XK),jT k (A.deeper (envOfC a (aA st) s.heap.objs.size f c))->sp vs H Q E ->
  ∃t,iX (oN iC P w K mg base N a (aA st) f c A b s H E).ZL (fQ st) t/\t {nx:=λ_ i=>Q .fk i,rt:=Q} (start N vs) H) (d:∀vs H Q E,sp vs H Q E->vs.length=ps.length:=by intro _ _ _ _ h;cases h;subst_vars;rfl):ck P w K mg base iC (k+1) f e ps sp:=F.ok S d λ_ _ _ _ H _ Q E g h=>j H Q E g h
theorem Px.T9{x a:Str}{st:Stmt}{f:Addr}{e:FuncData}{N ps:List Str}{k:Nat}{sp:Sp}(F:Px K x a st f e)(S:aI N ps (aA st))
 (j:∀{c:Value} {A:Around} {b:List Env} {s:Shared} {vs:List V} (H:Hp) (Q:VK) (E:XK),jT k (A.deeper (envOfC a (aA st) s.heap.objs.size f c))->sp vs H Q E ->
  ∃t,iX (oN (Ec P w) P w K mg base N a (aA st) f c A b s H E) (fQ st) t/\t {nx:=λ_ i=>Q .fk i,rt:=Q} (start N vs) H) (d:∀vs H Q E,sp vs H Q E->vs.length=ps.length:=by intro _ _ _ _ h;cases h;subst_vars;rfl):ck P w K mg base (Ec P w) (k+1) f e ps sp:=F.okX S d λ_ _ _ _ H _ Q E g h=>j H Q E g h
theorem LQ.jE{x a:Str}{st:Stmt}{f:Addr}{e:FuncData}{j:Value}{N ps:List Str}{k:Nat}{sp:Sp}(F:LQ K x a st f e j)(S:aI N ps (aA st))
 (l:∀{c:Value} {A:Around} {b:List Env} {s:Shared} {vs:List V} (H:Hp) (Q:VK) (E:XK),jT k (A.deeper (envOfC a (aA st) s.heap.objs.size f c))->sp vs H Q E ->
  ∃t,iX (oN iC P w K mg base N a (aA st) f c A b s H E).ZL (fQ st) t/\t {nx:=λ_ i=>Q .fk i,rt:=Q} (start N vs) H) (d:∀vs H Q E,sp vs H Q E->vs.length=ps.length:=by intro _ _ _ _ h;cases h;subst_vars;rfl):ck P w K mg base iC (k+1) f e ps sp:=F.ok S d λ_ _ _ _ H _ Q E g h=>l H Q E g h
end
end L2
namespace L2
open PySem PySem.W PySem.Spec PyProof.Rows
abbrev T2:=Int×Int
noncomputable abbrev n7(x:T2):List V:=[.int x.1,.int x.2]
def xM(K:af)(H:Hp)(qs:List Addr)(ts:List T2):Prop:=qs.length=ts.length/\∀(i:Nat) q t,qs[i]?=some q->ts[i]?=some t->cN K H q (n7 t)
theorem xM.mono{K:af}{H c:Hp}{qs:List Addr}{ts:List T2}(s:aD H c)(h:xM K H qs ts):xM K c qs ts:=⟨h.1,λi q t a b=>s.dj (h.2 i q t a b)⟩
end L2
namespace L2
open PySem PySem.W PySem.Spec PySem.Calls PyProof.Rows
end L2
namespace L2
open PySem PySem.Spec PyProof.Rows
end L2
namespace L2
open PySem PySem.Spec PyProof.Rows PySem.Builtin PySem.Builtin.Str
end L2
namespace TX
open PySem PySem.Builtin PySem.Builtin.Str
end TX
namespace TX
open PySem PySem.StrLaws PySem.Builtin PySem.Builtin.Str
end TX
namespace ST
open PySem
def Xs(xs:Array Nat):Prop:=xs.toList.Pairwise (·<·)
theorem GU{xs:Array Nat}(h:Xs xs){i j:Nat}(c:i<j){a b:Nat}(g:xs.toList[i]?=some a)(e:xs.toList[j]?=some b):a<b:=by
 obtain⟨f,rfl⟩:=ai.mp g;obtain⟨d,rfl⟩:=ai.mp e;exact List.pairwise_iff_getElem.mp h i j f d c
def Cut(xs:Array Nat)(j p:Nat):Prop:=p<=xs.size/\(∀i x,i<p->xs.toList[i]?=some x->x<j)/\∀i x,p<=i->xs.toList[i]?=some x->j<=x
theorem Qw{xs:Array Nat}(h:Xs xs)(j:Nat):∀(fuel lo a:Nat),lo<=a->a<=xs.size->a-lo<=fuel->(∀i x,i<lo->xs.toList[i]?=some x->x<j)->(∀i x,a<=i->xs.toList[i]?=some x->j<=x)->Cut xs j (SetTable.below.go xs j fuel lo a)
 |0,lo,a,p,k,o,l,f=>by
  have:lo=a:=∅
  subst this;exact⟨k,l,f⟩
 |fuel+1,lo,a,p,k,o,l,f=>by
  unfold SetTable.below.go;by_cases c:lo<a
  ·rw[ee c]
   dsimp only;have n:(lo+a)/2<xs.size:=∅
   have g:xs.toList[(lo+a)/2]?=some (xs.getD ((lo+a)/2) j):=by
    rw[c8,p6 n,iK,p6 n];rfl
   by_cases d:xs.getD ((lo+a)/2) j<j
   ·rw[ee d]
    refine Qw h j fuel _ _ ∅ k ∅ (λi x m b=>?_) f;by_cases e:i=(lo+a)/2
    ·subst e
     rw[g] at b;cases b;exact d
    ·exact Nat.lt_trans (GU h (show i<(lo+a)/2 by lia) b g) d
   ·rw[eH d]
    refine Qw h j fuel _ _ ∅ ∅ ∅ l (λi x m b=>?_);by_cases e:i=(lo+a)/2
    ·subst e
     rw[g] at b;cases b;lia
    ·exact aF ∅ (iB (GU h (show (lo+a)/2<i by lia) g b))
  ·rw[eH c]
   have:lo=a:=∅
   subst this;exact⟨k,l,f⟩
theorem KQ{xs:Array Nat}(h:Xs xs)(j:Nat):Cut xs j (SetTable.below xs j) :=
 Qw h j xs.size 0 xs.size (aR _) (av _) ∅ (λi x a=>eL a (jL _)) (λi x a b=>by
  have:=(ai.mp b).1
  rw[bg] at this;lia)
theorem lN{a:Type}(xs:Array a)(p:Nat)(x:a):(SetTable.insertAt xs p x).toList=xs.toList.take p++x::xs.toList.drop p:=by
 unfold SetTable.insertAt;simp only[Array.toList_append,Array.toList_push,Array.toList_extract,jQ];simp only[List.extract,List.drop_zero,Nat.sub_zero];rw[List.take_of_length_le (l:=xs.toList.drop p) (by rw[kL,bg];exact av _)];rfl
theorem Yz{xs:Array Nat}(h:Xs xs){j:Nat}(m:xs[SetTable.below xs j]?≠some j):Xs (SetTable.insertAt xs (SetTable.below xs j) j):=by
 obtain⟨o,k,d⟩:=KQ h j;generalize SetTable.below xs j=p at o k d m;unfold Xs;rw[lN,List.pairwise_append];have l:∀b∈xs.toList.drop p,j<b:=λb hb=>by
  obtain⟨i,f,rfl⟩:=iH hb;rw[kL] at f;have e:xs.toList[p+i]?=some (xs.toList.drop p)[i]:=by rw[List.getElem_drop,aa]
  have q:=d (p+i) _ ∅ e;rcases Nat.lt_or_eq_of_le q with h5|h5
  ·exact h5
  ·exfalso
   by_cases n:i=0
   ·subst n
    rw[<- h5] at e;rw[Nat.add_zero,c8] at e;exact m e
   ·have s:p<xs.toList.length:=∅
    have g:xs.toList[p]?=some xs.toList[p]:=aa s;have a:=d p _ (av _) g;have b:=GU h (show p<p+i by lia) g e;lia
 refine⟨h.sublist (List.take_sublist ..),List.pairwise_cons.mpr ⟨l,h.sublist (List.drop_sublist ..)⟩,λa r b hb=>?_⟩;have c:a<j:=by
  obtain⟨i,f,rfl⟩:=iH r;rw[bV] at f;exact k i _ ∅ (by rw[List.getElem_take,aa])
 rcases aW.mp hb with e|hb
 ·rw[e];exact c
 ·exact Nat.lt_trans c (l b hb)
theorem Wa{owner:Array (Option Nat)}{n:Nat}:Xs (((aq n).filterMap λj=>(owner.getD j none).map (j,·)).map (·.1)).toArray:=by
 unfold Xs;rw[List.toList_toArray];have e:∀l:List Nat,(l.filterMap λj=>(owner.getD j none).map (j,·)).map (·.1)=l.filter λj=>(owner.getD j none).isSome:=λl=>by
  induction l with
  |nil=>rfl
  |cons a l b =>
   rw[cR,dm];cases owner.getD a none with
   |none=>exact b
   |some k =>
    show a::_=_;rw[b];rfl
 rw[e];exact uq.sublist qy
end ST
namespace ST
open PySem PyProof.Rows
section
variable{prog:Program}{w:World}{A:Around}{E:Value->Shared->Prop}{s:Shared}
noncomputable abbrev aeE(w:World):Bool:=!w.params.followText "set-order"
noncomputable abbrev ko(w:World):Obj:={cls:=.type "set",dict:=none,data:=.set #[] 0 (.fresh 0 0 (aeE w))}
theorem abU(a:Value){Q:Value->Shared->Prop}(h:Q (.ref s.heap.objs.size) {s with heap:=s.heap.push (ko w)}) :
 codeAny (model prog w) A (.call (.builtin "set.__new__") ⟨[.type "set",a],[]⟩) (wants Q E) s:=by
 refine codeAny_of_tree ?_;refine wpAny_bind (m:=checkBuiltinCall "set.__new__" ⟨[.type "set",a],[]⟩) (wpAny_of_eq (F.newCall_set_1 a) (wpAny_pure ⟨plainId_quiet F.plain_set_new _,codeAny_builtin F.entry_set_new ?_⟩));rw[Around.under_plainId F.plain_set_new _];unfold Builtin.«set.__new__» Builtin.Frozenset.newClass;have b:=sub_set_self;obtain⟨e,g,d,c,os⟩:=s;dsimp only
 wp_walk
 refine wpAny_askSetting (wpAny_pure ?_);dsimp only;simp only[newObj];refine wpAny_bind (wpAny_alloc (wpAny_pure ?_));exact wpAny_pure h
end
end ST
namespace L2
open PySem PySem.Spec PyProof.Rows ST
end L2
namespace ST
open PySem PyProof.Rows
noncomputable def qb(m:Nat):Nat->Nat×Nat->Nat×Nat
 |0,x=>x
 |k+1,x=>qb m k (SetTable.leap m x.1 x.2)
theorem sf(m:Nat):∀(a b:Nat) (x:Nat×Nat),qb m (a+b) x=qb m b (qb m a x)
 |0,b,x=>by rw[Nat.zero_add];rfl
 |a+1,b,x=>by rw[Nat.succ_add];exact sf m a b _
theorem KR(m:Nat):∀(k:Nat) (x:Nat×Nat),(qb m k x).2=x.2/32^k
 |0,x=>by simp[qb]
 |k+1,x=>by
  show (qb m k (SetTable.leap m x.1 x.2)).2=_;rw[KR m k,Nat.pow_succ',<- Nat.div_div_eq_div_mul];rfl
theorem Nu(m:Nat):∀(k:Nat) (x:Nat×Nat),x.1<=m->(qb m k x).1<=m
 |0,x,h=>h
 |k+1,x,h=>Nu m k _ (jN (Nat.mod_lt _ (Nat.succ_pos _)))
noncomputable def um(m:Nat):Nat->Nat->List Nat
 |0,_=>[]
 |k+1,i=>i::um m k ((i*5+1)%(m+1))
theorem LU(m:Nat):∀(k i j:Nat),j∈um m k i->∃a,a<k/\qb m a (i,0)=(j,0)
 |k+1,i,j,h=>by
  rcases aW.mp h with h|h
  ·exact⟨0,Nat.succ_pos _,by rw[h];rfl⟩
  ·obtain⟨a,b,e⟩:=LU m k _ j h
   refine⟨a+1,Nat.succ_lt_succ b,?_⟩;show qb m a (SetTable.leap m i 0)=_;exact e
def YA(m:Nat):Prop:=m=7∨m=31∨m=127∨m=511
theorem YB{m:Nat}(h:YA m):(∀j,j<=m->j∈um m (m+1) 0)/\qb m (m+1) (0,0)=(0,0):=by
 have a:∀m,((aq (m+1)).all λj=>(um m (m+1) 0).contains j)=true->∀j,j<=m->j∈um m (m+1) 0:=λm h j b=>by
  have:=qt.mp h j (bH.mpr (Nat.lt_succ_of_le b))
  simpa using this
 rcases h with rfl|rfl|rfl|rfl
 ·exact⟨a 7 (by decide +kernel),by decide +kernel⟩
 ·exact⟨a 31 (by decide +kernel),by decide +kernel⟩
 ·exact⟨a 127 (by decide +kernel),by decide +kernel⟩
 ·exact⟨a 511 (by decide +kernel),by decide +kernel⟩
theorem Nv{m:Nat}(h:YA m){i j p:Nat}(q:i<=m)(l:j<=m)(r:p<2^64):∃a,a<SetTable.turns m/\(qb m a (i,p)).1=j:=by
 have n:(qb m 13 (i,p)).2=0:=by
  rw[KR];exact Nat.div_eq_of_lt (bI r (!_))
 have o:=Nu m 13 (i,p) q;obtain⟨e,g⟩:=YB h;obtain⟨a,s,k⟩:=LU m _ _ _ (e _ o);obtain⟨b,t,f⟩:=LU m _ _ _ (e j l);have d:qb m 13 (i,p)=qb m a (0,0):=by
  rw[k];exact Prod.ext rfl n
 by_cases c:a<=b
 ·refine⟨13+(b-a),by unfold SetTable.turns;lia,?_⟩
  rw[sf,d,<- sf,Nat.add_sub_cancel' c,f]
 ·refine⟨13+(m+1+b-a),by unfold SetTable.turns;lia,?_⟩
  rw[sf,d,<- sf,show a+(m+1+b-a)=m+1+b by lia,sf,g,f]
theorem RQ(h:Int):SetTable.bits h<2^64:=by
 unfold SetTable.bits;have a:=bO h (show (2^64:Int)≠0 by decide);have b:=bR h (show (0:Int)<2^64 by decide);lia
structure Tc(t:SetTable)(n:Nat):Prop where
 inc:Xs t.place
 Z8:t.dummies=#[]
 le:∀j∈t.place.toList,j<=t.mask
 sz:t.place.size=n
 mm:YA t.mask
 rm:n*5<t.mask*3
theorem Tc.slot{t:SetTable}{n:Nat}(h:Tc t n)(j:Nat):(t.slot j=.empty/\j∉t.place.toList)∨∃i,i<n/\t.slot j=.live i:=by
 unfold SetTable.slot;dsimp only;by_cases e:t.place[SetTable.below t.place j]?=some j
 ·right
  refine⟨SetTable.below t.place j,?_,by rw[ee (by rw[e];simp)]⟩;rw[<- h.sz];exact (fW.mp e).1
 ·left
  refine⟨?_,λp=>?_⟩
  ·rw[eH (by simpa using e),eH]
   rw[h.Z8];simp[SetTable.has]
  ·obtain⟨i,l,o⟩:=iH p
   have c:=KQ h.inc j;obtain⟨s,r,m⟩:=c;have f:t.place.toList[i]?=some j:=by rw[aa l,o]
   by_cases d:i<SetTable.below t.place j
   ·have:=r i j d f
    lia
   ·have a:SetTable.below t.place j<=i:=Nat.le_of_not_lt d
    have q:SetTable.below t.place j<t.place.toList.length:=bQ a l;have k:t.place.toList[SetTable.below t.place j]?=some t.place.toList[SetTable.below t.place j]:=aa q;have g:=m _ _ (av _) k;by_cases b:SetTable.below t.place j=i
    ·exact e (by rw[b,<- c8];exact f)
    ·have:=GU h.inc (Nat.lt_of_le_of_ne a b) k f
     lia
theorem abV{n:Nat}{l:List Nat}(hl:l.length<n):∃j,j<n/\j∉l:=by
 by_cases h:∃j,j<n/\j∉l
 ·exact h
 ·exfalso
  have c:∀j,j<n->j∈l:=λj a=>Classical.byContradiction λz=>h ⟨j,a,z⟩;have b:(aq n) ⊆ l:=λj a=>c j (bH.mp a)
  have:=(List.nodup_range (n:=n)).length_le_of_subset b
  rw[bx] at this;lia
theorem Tc.free{t:SetTable}{n:Nat}(h:Tc t n):∃j,j<=t.mask/\t.slot j=.empty:=by
 have d:=h.rm;obtain⟨j,b,c⟩:=abV (n:=t.mask+1) (l:=t.place.toList) (by rw[bg,h.sz];lia);refine⟨j,jN b,?_⟩;rcases h.slot j with ⟨e,_⟩|⟨i,f,e⟩
 ·exact e
 ·exfalso
  unfold SetTable.slot at e;dsimp only at e;split at e
  ·next a =>
   have a:t.place[SetTable.below t.place j]?=some j:=by simpa using a
   rw[<- c8] at a;exact c (aG a)
  ·split at e <;> cases e
noncomputable def GV(m:Nat)(x:Nat×Nat):SetTable.Probe:={j:=x.1,more:=SetTable.runEnd m x.1-x.1,i:=x.1,perturb:=x.2,dummy:=none}
theorem abW(m i:Nat)(h:i<=m):SetTable.runEnd m i-i<=9/\i+(SetTable.runEnd m i-i)<=m:=by
 unfold SetTable.runEnd;split <;> lia
theorem Tc.run{t:SetTable}{n:Nat}(h:Tc t n){f:Nat->Int}{hh:Int}(c:∀i,i<n->f i≠hh):∀(k:Nat) (p:SetTable.Probe),p.more=k->p.dummy=none->p.j+k<=t.mask ->
 (∃j,j<=t.mask/\t.slot j=.empty/\∀a,SetTable.probe.go t f hh (a+(k+1)) p=some (.empty j none))∨(t.slot p.j≠.empty/\∀a,SetTable.probe.go t f hh (a+(k+1)) p=SetTable.probe.go t f hh a (GV t.mask (SetTable.leap t.mask p.i p.perturb)))
 |0,p,l,b,o=>by
  rcases h.slot p.j with ⟨e,_⟩|⟨i,g,e⟩
  ·left
   refine⟨p.j,o,e,λa=>?_⟩;show SetTable.probe.go t f hh (a+1) p=_;unfold SetTable.probe.go;rw[e];dsimp only;rw[b]
  ·right
   refine⟨(by rw[e];intro z;cases z),λa=>?_⟩;show SetTable.probe.go t f hh (a+1) p=_;rw[SetTable.probe.go,e];dsimp only;rw[eH (by simpa using c i g)];unfold SetTable.advance GV;rw[l,eH (gp 0)];dsimp only;rw[b]
 |k+1,p,l,b,o=>by
  rcases h.slot p.j with ⟨e,_⟩|⟨i,g,e⟩
  ·left
   refine⟨p.j,∅,e,λa=>?_⟩;show SetTable.probe.go t f hh ((a+(k+1))+1) p=_;rw[SetTable.probe.go,e];dsimp only;rw[b]
  ·have ea:t.advance p={p with j:=p.j+1,more:=p.more-1}:=by
    unfold SetTable.advance;rw[ee ∅]
   have st:∀a,SetTable.probe.go t f hh (a+(k+1+1)) p=SetTable.probe.go t f hh (a+(k+1)) {p with j:=p.j+1,more:=p.more-1}:=λa=>by
    show SetTable.probe.go t f hh ((a+(k+1))+1) p=_;rw[SetTable.probe.go,e];dsimp only;rw[eH (by simpa using c i g),ea]
   have r:=Tc.run h c k {p with j:=p.j+1,more:=p.more-1} (by show p.more-1=k;lia) b (by show p.j+1+k<=_;lia);rcases r with ⟨j,m,d,q⟩|⟨m,d⟩
   ·exact .inl ⟨j,m,d,λa=>(st a).trans (q a)⟩
   ·exact .inr ⟨(by rw[e];intro z;cases z),λa=>(st a).trans (d a)⟩
theorem Tc.Wb{t:SetTable}{n:Nat}(h:Tc t n){f:Nat->Int}{hh:Int}(k:∀i,i<n->f i≠hh):∀(a b:Nat) (x:Nat×Nat),x.1<=t.mask->t.slot (qb t.mask a x).1=.empty->10*(a+1)<=b->∃j,j<=t.mask/\t.slot j=.empty/\SetTable.probe.go t f hh b (GV t.mask x)=some (.empty j none)
 |a,b,x,r,c,hl=>by
  obtain⟨s,l⟩:=abW t.mask x.1 r;have g:b=(b-((SetTable.runEnd t.mask x.1-x.1)+1))+((SetTable.runEnd t.mask x.1-x.1)+1):=∅
  rcases h.run k _ (GV t.mask x) rfl rfl l with ⟨j,e,d,m⟩|⟨e,d⟩
  ·exact⟨j,e,d,by rw[g];exact m _⟩
  ·match a,c,hl with
   |0,c,hl=>exact eL c e
   |a+1,c,hl =>
    obtain⟨j,p,o,q⟩:=Tc.Wb h k a (b-((SetTable.runEnd t.mask x.1-x.1)+1)) (SetTable.leap t.mask x.1 x.2) (jN (Nat.mod_lt _ (Nat.succ_pos _))) c ∅;exact⟨j,p,o,by rw[g];exact (d _).trans q⟩
theorem Tc.probe{t:SetTable}{n:Nat}(h:Tc t n){f:Nat->Int}{hh:Int}(d:∀i,i<n->f i≠hh):∃j,j<=t.mask/\t.slot j=.empty/\t.probe f hh (t.probeStart hh)=some (.empty j none):=by
 obtain⟨j,c,e⟩:=h.free;have b:SetTable.bits hh%(t.mask+1)<=t.mask:=jN (Nat.mod_lt _ (Nat.succ_pos _));obtain⟨a,k,g⟩:=Nv h.mm b c (RQ hh);exact h.Wb d a (10*SetTable.turns t.mask) (SetTable.bits hh%(t.mask+1),SetTable.bits hh) b (by rw[g];exact e) ∅
theorem Wc{t:SetTable}{n j:Nat}(a:t.place.size=n):(t.put j).1.place.size=n+1:=by
 have c:(SetTable.insertAt t.place (SetTable.below t.place j) j).toList.length=n+1:=by
  rw[lN,ay,aT,bV,kL,bg,a];lia
 show (SetTable.insertAt t.place (SetTable.below t.place j) j).size=n+1;rw[<- bg];exact c
structure Tp(t:SetTable)(n:Nat):Prop where
 inc:Xs t.place
 Z8:t.dummies=#[]
 le:∀j∈t.place.toList,j<=t.mask
 sz:t.place.size=n
 mm:YA t.mask
 rm:n<=t.mask
theorem Tp.tc{t:SetTable}{n:Nat}(h:Tp t n)(a:t.tooFull=false):Tc t n:=by
 refine⟨h.inc,h.Z8,h.le,h.sz,h.mm,?_⟩;unfold SetTable.tooFull SetTable.fill at a;rw[h.Z8,h.sz] at a
 simpa using a
theorem Tc.put{t:SetTable}{n:Nat}(h:Tc t n){j:Nat}(b:j<=t.mask)(e:t.slot j=.empty):Tp (t.put j).1 (n+1):=by
 have c:=h.rm;have a:t.place[SetTable.below t.place j]?≠some j:=by
  intro z;unfold SetTable.slot at e;dsimp only at e;rw[ee (by rw[z];simp)] at e;cases e
 refine⟨Yz h.inc a,?_,?_,Wc h.sz,h.mm,?_⟩
 ·show (if SetTable.has t.dummies j then _ else t.dummies)=#[]
  rw[h.Z8];simp[SetTable.has]
 ·intro i hi
  have hi:i∈(SetTable.insertAt t.place (SetTable.below t.place j) j).toList:=hi;rw[lN] at hi;rcases bG.mp hi with hi|hi
  ·exact h.le i (List.mem_of_mem_take hi)
  ·rcases aW.mp hi with rfl|hi
   ·exact b
   ·exact h.le i (List.mem_of_mem_drop hi)
 ·show n+1<=t.mask
  rcases h.mm with z|z|z|z <;> lia
theorem Qx{owner:Array (Option Nat)}{j:Nat}(h:(owner.getD j (some 0)).isNone=true):∃h:j<owner.size,owner[j]=none:=by
 by_cases a:j<owner.size
 ·refine⟨a,?_⟩
  rw[Array.getD,dif_pos a] at h
  simpa using h
 ·rw[Array.getD,dif_neg a] at h
  cases h
theorem RS{m:Nat}{owner:Array (Option Nat)}:∀(a b i p:Nat),a<b->(owner.getD (qb m a (i,p)).1 (some 0)).isNone=true->∃j,SetTable.layClean.free m owner b i p=some j/\(owner.getD j (some 0)).isNone=true
 |a,0,i,p,h,e=>eL h (jL _)
 |a,b+1,i,p,h,e=>by
  rw[SetTable.layClean.free];cases c:(aq (SetTable.runEnd m i+1-i)).find? λk=>(owner.getD (i+k) (some 0)).isNone with
  |some k=>exact⟨i+k,rfl,(List.find?_some c:_)⟩
  |none =>
   dsimp only
   match a,h,e with
   |0,h,e =>
    exfalso;have d:0∈aq (SetTable.runEnd m i+1-i):=bH.mpr (by unfold SetTable.runEnd;split <;> lia)
    have:=List.find?_eq_none.mp c 0 d
    exact this e
   |a+1,h,e=>exact RS a b _ _ (Nat.lt_of_succ_lt_succ h) e
structure Ow(m k:Nat)(owner:Array (Option Nat)):Prop where
 sz:owner.size=m+1
 ct:owner.toList.countP Option.isSome=k
 lt:∀x∈owner.toList,∀i,x=some i->i<k
theorem Ow.step{m k:Nat}{owner:Array (Option Nat)}(o:Ow m k owner)(u:YA m)(A:k<=m)(h:Int):∃j,SetTable.layClean.free m owner (SetTable.turns m) (SetTable.bits h%(m+1)) (SetTable.bits h)=some j/\Ow m (k+1) (owner.setIfInBounds j (some k)):=by
 have n:∃j,∃l:j<owner.size,owner[j]=none:=by
  apply Classical.byContradiction;intro z;have c:∀x∈owner.toList,x.isSome=true:=λx hx=>by
   obtain⟨i,f,rfl⟩:=iH hx;rw[bg] at f;cases e:owner[i] with
   |none=>exact eL ⟨i,f,e⟩ z
   |some v=>rw[oM,e];rfl
  have:=List.countP_eq_length.mpr c
  rw[o.ct,bg,o.sz] at this;lia
 obtain⟨r,b,s⟩:=n;rw[o.sz] at b;have f:SetTable.bits h%(m+1)<=m:=jN (Nat.mod_lt _ (Nat.succ_pos _));obtain⟨a,w,p⟩:=Nv u f (jN b) (RQ h);obtain⟨j,y,t⟩:=RS (m:=m) (owner:=owner) a (SetTable.turns m) _ _ w (by
  rw[p,Array.getD,dif_pos (by rw[o.sz];exact b)];show (owner[r]'_).isNone=true;rw[s];rfl)
 obtain⟨l,q⟩:=Qx t;have d:j<owner.toList.length:=by rw[bg];exact l
 refine⟨j,y,by rw[Array.size_setIfInBounds];exact o.sz,?_,?_⟩
 ·rw[Array.toList_setIfInBounds,List.countP_set d]
  have:(owner.toList[j]'(d)).isSome=false:=by rw[oM,q];rfl
  rw[this,o.ct];rfl
 ·intro x hx i g
  rw[Array.toList_setIfInBounds] at hx;rcases gq hx with hx|hx
  ·exact uU (o.lt x hx i g)
  ·rw[hx] at g
   cases g;exact xw _
theorem Ny{m:Nat}(f:YA m):∀(b:List Int) (k:Nat) (owner:Array (Option Nat)),Ow m k owner->k+b.length<=m+1->∃a,b.foldl (λc h=>do
 let (owner,k) <- c;let j <- SetTable.layClean.free m owner (SetTable.turns m) (SetTable.bits h%(m+1)) (SetTable.bits h)
 pure (owner.setIfInBounds j (some k),k+1)) (some (owner,k))=some (a,k+b.length)/\Ow m (k+b.length) a
 |[],k,owner,o,d=>⟨owner,rfl,o⟩
 |h::b,k,owner,o,d=>by
  rw[aT] at d;obtain⟨j,e,n⟩:=o.step f ∅ h;obtain⟨i,l,g⟩:=Ny f b (k+1) _ n ∅;refine⟨i,?_,by rw[aT,Nat.add_comm b.length,<- Nat.add_assoc];exact g⟩;rw[jP,aT,Nat.add_comm b.length,<- Nat.add_assoc,<- l];congr 1;show (SetTable.layClean.free m owner (SetTable.turns m) (SetTable.bits h%(m+1)) (SetTable.bits h) >>= _)=_;rw[e];rfl
theorem Wd{m:Nat}(f:YA m)(b:Array Int)(h:b.size<=m):∃owner,SetTable.layClean m b=some owner/\Ow m b.size owner:=by
 have c:Ow m 0 (Array.replicate (m+1) none):=by
  refine⟨Array.size_replicate,?_,λx a i e=>?_⟩
  ·rw[Array.toList_replicate]
   rw[List.countP_eq_zero];intro x a;rw[(List.mem_replicate.mp a).2];simp
  ·rw[Array.toList_replicate] at a
   rw[(List.mem_replicate.mp a).2] at e;cases e
 obtain⟨d,e,o⟩:=Ny f b.toList 0 _ c (by rw[bg];lia);rw[Nat.zero_add,bg] at o e;refine⟨d,?_,o⟩;unfold SetTable.layClean;rw[<- Array.foldl_toList];rw[e];rfl
theorem We{b:Type}{es:Array b}:∀{l:List Nat},(∀k∈l,k<es.size)->(l.filterMap (es[·]?)).length=l.length
 |[],_=>rfl
 |k::l,h=>by
  rw[cR,p6 (h k bJ)];dsimp only;rw[aT,aT,We λx a=>h x (aN _ a)]
theorem Ua{t:SetTable}{es:Array (Int×Value)}{a m:Nat}(w:SetTable.sizeAbove a=m+1)(s:YA m)(u:es.size*5<m*3):∃t' order,t.relaid (es.map (·.1)) a=some (t',order)/\Tc t' es.size/\(order.filterMap (es[·]?)).size=es.size/\∀e∈(order.filterMap (es[·]?)).toList,e∈es.toList:=by
 unfold SetTable.relaid;rw[w,Nat.add_sub_cancel];obtain⟨b,e,o⟩:=Wd s (es.map (·.1)) (by rw[Array.size_map];lia);rw[Array.size_map] at o;unfold SetTable.laid;rw[e];have c:((aq (m+1)).filterMap λj=>(b.getD j none).map (j,·)).length=es.size:=by
  rw[List.length_filterMap_eq_countP,<- o.ct]
  have:b.toList=(aq (m+1)).map λj=>b.getD j none:=by
   apply qq
   ·rw[ah,bx,bg,o.sz]
   ·intro i q y
    rw[List.getElem_map,List.getElem_range,oM,Array.getD,dif_pos (by rw[bg] at q;exact q)];rfl
  rw[this,List.countP_map];congr 1;funext j;show ((b.getD j none).map _).isSome=(b.getD j none).isSome;cases b.getD j none <;> rfl
 refine⟨_,_,rfl,⟨Wa,rfl,λj n=>?_,?_,s,u⟩,?_,λx d=>?_⟩
 ·have n:j∈((aq (m+1)).filterMap λj=>(b.getD j none).map (j,·)).map (·.1):=by simpa using n
  obtain⟨x,d,rfl⟩:=aV.mp n;obtain⟨i,p,g⟩:=jg.mp d;obtain⟨v,_,rfl⟩:=Option.map_eq_some_iff.mp g;exact jN (bH.mp p)
 ·show (List.toArray _).size=_
  rw[aL,ah,c]
 ·rw[<- bg,Array.toList_filterMap,We,List.toList_toArray,ah,c]
  intro k h;have h:k∈((aq (m+1)).filterMap λj=>(b.getD j none).map (j,·)).map (·.2):=by simpa using h
  obtain⟨x,d,rfl⟩:=aV.mp h;obtain⟨i,p,g⟩:=jg.mp d;obtain⟨v,f,rfl⟩:=Option.map_eq_some_iff.mp g;have l:i<b.size:=by rw[o.sz];exact bH.mp p
  rw[Array.getD,dif_pos l] at f;refine o.lt (some v) ?_ v rfl;have f:b[i]=some v:=f;rw[<- f,<- oM];exact aK _
 ·rw[Array.toList_filterMap] at d
  obtain⟨k,_,r⟩:=jg.mp d;rw[<- c8] at r;exact aG r
theorem Tp.grown{t:SetTable}{n:Nat}(h:Tp t (n+1))(c:n*5<t.mask*3)(a:t.tooFull=true)(d:n<306):∃m,SetTable.sizeAbove (SetTable.grown (n+1))=m+1/\YA m/\(n+1)*5<m*3:=by
 have b:t.mask*3<=(n+1)*5:=by
  unfold SetTable.tooFull SetTable.fill at a;rw[h.Z8,h.sz] at a
  simpa using a
 rcases h.mm with z|z|z|z <;> rw[z] at c b
 ·obtain rfl:n=4:=∅
  exact⟨31,by decide +kernel,.inr (.inl rfl),!_⟩
 ·obtain rfl:n=18:=∅
  exact⟨127,by decide +kernel,.inr (.inr (.inl rfl)),!_⟩
 ·obtain rfl:n=76:=∅
  exact⟨511,by decide +kernel,.inr (.inr (.inr rfl)),!_⟩
 ·lia
section
variable{prog:Program}{w:World}{A:Around}{E:Value->Shared->Prop}{s:Shared}
theorem Tc.fits{t:SetTable}{n:Nat}(h:Tc t n):t.fits n=true:=by
 have a:=h.rm;unfold SetTable.fits SetTable.fill;rw[h.sz,h.Z8];simp;rcases h.mm with z|z|z|z <;> lia
theorem Tp.fits{t:SetTable}{n:Nat}(h:Tp t n):t.fits n=true:=by
 have a:=h.rm;unfold SetTable.fits SetTable.fill;rw[h.sz,h.Z8]
 simpa using a
def HH(h:Heap)(a:Addr)(hs:List Int)(n:Nat):Prop :=
 ∃o es ep t,h.get? a=some o/\o.ExactSet/\o.data=.set es ep t/\Tc t n/\es.size=n/\∀e∈es.toList,e.1∈hs
theorem HH.keep{h h':Heap}{a:Addr}{b:List Int}{n:Nat}(q:HH h a b n)(k:∀o,h.get? a=some o->h'.get? a=some o):HH h' a b n:=by
 obtain⟨o,d,c,t,e,r⟩:=q;exact⟨o,d,c,t,k o e,r⟩
theorem NB{q:List Int}{b:Addr}{Q:Bool->Shared->Prop}(g:IsTupleKey (intKind prog w) s.heap q b)(h:Q true s):wpAny (model prog w) A (hashByValue 8 (.ref b)) Q E s:=by
 have f:=g.typeIs;obtain⟨o,items,n,l,_,j,i⟩:=g;unfold hashByValue;refine wpAny_bind (wpAny_specialOf f F.slot_tuple_hash.lookup ?_);dsimp only;refine wpAny_bind (wpAny_seqItems l j ?_);refine wpAny_bind ?_;show wpAny _ _ (forIn items _ _) _ _ s;rw[<- Array.forIn_toList];have x:∀v∈items.toList,∃k t,v=Value.int k t:=by
  intro v hv;clear j l f;revert v;generalize items.toList=vs at i;induction i with
  |nil=>intro v hv;cases hv
  |cons p _ m =>
   intro v hv;rcases aW.mp hv with rfl|hv
   ·revert p
    cases v <;> simp[intKind,Value.isInt]
   ·exact m v hv
 refine wpAny_forIn_list _ (λrest r c=>r.1=none/\c=s/\∀v∈rest,∃k t,v=Value.int k t) _ ?_ ?_ _ _ ⟨rfl,rfl,x⟩
 ·rintro v rest r c ⟨e,rfl,a⟩
  obtain⟨k,t,rfl⟩:=a v bJ;rw[show hashByValue 7 (Value.int k t)=pure true from rfl];refine wpAny_bind (wpAny_pure ?_);simp only[Bool.not_true,Bool.false_eq_true,if_false];exact wpAny_pure ⟨rfl,rfl,λu d=>a u (aN _ d)⟩
 ·rintro⟨z,y⟩ c ⟨e,rfl,_⟩
  simp only at e;subst e;exact wpAny_pure h
theorem abX{a b:Addr}{G:List Int}{n:Nat}{hh:Int}{ks:List Int}{Q:Bool->Shared->Prop}(hk:IsTupleKey (intKind prog w) s.heap ks b)(hn:hh∉G)(q:HH s.heap a G n)(room:n<306)
 (F:∀h',Heap.SameBut a s.heap h'->HH h' a (hh::G) (n+1)->Q true {s with heap:=h'}) :
 wpAny (model prog w) A (setAddHashed a (.ref b) hh) Q E s:=by
 obtain⟨o,es,S,t,y,W,v,tc,H,O⟩:=q;have I:t.fits es.size=true:=by rw[H];exact tc.fits
 have Z:t.gaveWay=false:=by
  unfold SetTable.gaveWay;rcases tc.mm with z|z|z|z <;> rw[z] <;> rfl
 unfold setAddHashed setAddHashedIn;refine wpAny_holding (wpAny_bind (wpAny_setState_of y v I ?_));dsimp only;rw[show byScan (.ref b) es=false from rfl,eH aB];unfold setSearch setSearchFrom;refine wpAny_bind (wpAny_bind (wpAny_setState_of y v I ?_));dsimp only;rw[Z,eH aB];obtain⟨j,hj,L,pr⟩:=tc.probe (f:=λi=>(es[i]?.map (·.1)).getD 0) (hh:=hh) λi X e=>by
  have X:i<es.size:=∅
  have e:(es[i]?.map (·.1)).getD 0=hh:=e;rw[p6 X] at e;have e:es[i].1=hh:=e;exact hn (e▸O es[i] (by rw[<- oM];exact aK _))
 generalize R:t.probe _ hh _=P;obtain rfl:P=some (.empty j none):=R.symm.trans pr;dsimp only;refine wpAny_pure ?_;dsimp only;refine wpAny_bind (wpAny_setState_of y v I ?_);dsimp only;have K:=tc.put hj L;have D:(SetTable.insertAt es (t.put j).2 (hh,Value.ref b)).toList=es.toList.take (t.put j).2++(hh,Value.ref b)::es.toList.drop (t.put j).2:=lN _ _ _;have c:(SetTable.insertAt es (t.put j).2 (hh,Value.ref b)).size=n+1:=by
  have:=fy List.length D
  rw[ay,aT,bV,kL,bg,bg,H] at this;lia
 have l:∀e∈(SetTable.insertAt es (t.put j).2 (hh,Value.ref b)).toList,e.1∈hh::G:=λe he=>by
  rw[D] at he;rcases bG.mp he with he|he
  ·exact aN _ (O e (List.mem_of_mem_take he))
  ·rcases aW.mp he with rfl|he
   ·exact bJ
   ·exact aN _ (O e (List.mem_of_mem_drop he))
 have J:n*5<(t.put j).1.mask*3:=tc.rm;generalize (t.put j).1=t1 at K J;generalize SetTable.insertAt es (t.put j).2 (hh,Value.ref b)=es1 at c l;have C:es1.size<=sizeLine:=by
  rw[c];exact aF room (!_)
 have k:∀d:SetTable,Tp d (n+1)->n*5<d.mask*3->wpAny (model prog w) A (do
  storeSet a es1 d
  if (!false&&d.tooFull)=true then do
      setRelay a (SetTable.grown (es.size+1))
      pure true
   else pure true) Q E s:=λd p r2=>by
  refine wpAny_bind (wpAny_storeSet_of y v ?_ C);have g:=Heap.get?_update_self (Obj.putSet es1 d) y (by rw[putSet_of es1 d v];rfl);rw[putSet_of es1 d v] at g;have B:=Heap.SameBut.update s.heap a (Obj.putSet es1 d);by_cases x:d.tooFull=true
  ·rw[x]
   refine wpAny_bind ?_;rw[H];obtain⟨m,Y,V,e3⟩:=p.grown r2 x room;unfold setRelay;refine wpAny_bind (wpAny_setState_of g rfl (by rw[c];exact p.fits) ?_);dsimp only;rw[Y,eH (by rcases V with z|z|z|z <;> rw[z] <;> decide)];obtain⟨u,order,f1,f2,M,f4⟩:=Ua (t:=d) (es:=es1) Y V (by rw[c];exact e3);rw[f1];have U:=Heap.get?_update_self (Obj.putSet (order.filterMap (es1[·]?)) u) g (by rw[putSet_of _ u rfl];rfl);rw[putSet_of _ u rfl] at U;have ZX:=B.trans (Heap.SameBut.update _ a (Obj.putSet (order.filterMap (es1[·]?)) u));have N:wpAny (model prog w) A (do
    let h:=order.filterMap (es1[·]?)
    if (h.size != es1.size)=true then unsupported "internal:set-table-lost-an-element"
    pure (h,u)) (λr T=>r=(order.filterMap (es1[·]?),u)/\T={s with heap:=s.heap.update a (Obj.putSet es1 d)}) E {s with heap:=s.heap.update a (Obj.putSet es1 d)}:=by
    dsimp only;rw[eH (by rw[M];simp)];exact wpAny_pure ⟨rfl,rfl⟩
   refine wpAny_bind (wpAny_mono N (λr T ⟨er,h⟩=>?_) λ_ _ h'=>h');subst er;subst h;refine wpAny_storeSet_of g rfl ?_ (by rw[M];exact C);refine wpAny_pure (F _ ZX ⟨_,_,S+1+1,u,U,W,rfl,by rw[<- c];exact f2,by rw[M,c],λe he=>l e (f4 e he)⟩)
  ·have x:d.tooFull=false:=by simpa using x
   rw[x];refine wpAny_pure (F _ B ⟨_,es1,S+1,d,g,W,rfl,p.tc x,c,l⟩)
 split
 ·refine wpAny_bind (NB hk ?_)
  exact k _ K J
 ·refine wpAny_bind (wpAny_pure ?_)
  exact k _ K J
end
theorem HH.sub{h:Heap}{a:Addr}{b hs':List Int}{n:Nat}(q:HH h a b n)(k:∀x∈b,x∈hs'):HH h a hs' n:=by
 obtain⟨o,j,c,t,i,f,g,m,d,p⟩:=q;exact⟨o,j,c,t,i,f,g,m,d,λe l=>k _ (p e l)⟩
theorem LV{prog:Program}{w:World}{h h':Heap}{c:List Int}{b:Addr}(q:IsTupleKey (intKind prog w) h c b)(k:∀o,h.get? b=some o->h'.get? b=some o):IsTupleKey (intKind prog w) h' c b:=by
 obtain⟨o,a,n,d,r⟩:=q;exact⟨o,a,n,k o d,r⟩
section
variable{prog:Program}{w:World}{A:Around}{R:Result->Shared->Prop}{I:Addr}{fp wr:List Addr}{G:Array GenState->Array GenState->Prop}{n:Nat}{P:Nat->Value->Prop}{St:Nat->Shared->Prop}
theorem RT(W:WalksS prog w A.in1 I fp wr G n P St)(a:Addr)(r:a∉fp)(d:Nat->List Int)(ad:Nat->Addr)(H:∀i v,P i v->v=.ref (ad i))(had:∀i,i<n->ad i≠a/\ad i∉wr)
 (p:∀i j,i<j->j<n->tupleKeyHash (intKind prog w) (d i)≠tupleKeyHash (intKind prog w) (d j)) (Q:n<=306) (E:A.in1.units<cLine) :
 ∀(k i:Nat) (s:Shared),n-i=k->i<=n->St i s->(∀j,j<n->IsTupleKey (intKind prog w) s.heap (d j) (ad j))->HH s.heap a ((aq i).map λj=>tupleKeyHash (intKind prog w) (d j)) i ->
  (∀s',Moved (a::wr) G s s'->HH s'.heap a ((aq n).map λj=>tupleKeyHash (intKind prog w) (d j)) n->R (.ok (.ret .none)) s') ->
  codeAny (model prog w) A (.builtin "set.update.loop" ⟨[.ref a,.ref I],[]⟩) R s
 |0,i,s,K,T,st,D,q,h=>by
  obtain rfl:i=n:=∅
  have B:a∉wr:=λz=>r (W.sub _ z);refine codeAny_builtin F.entry_set_update_loop ?_;rw[Around.under_plainId F.plain_set_update_loop _];refine wpAny_bind (m:=pyNext (.ref I)) (W.done s _ _ st λs' l=>?_);exact wpAny_pure (h s' (l.mono λb z=>aN _ z) (q.keep λo e=>l.heap a _ B e))
 |k+1,i,s,K,T,st,D,q,h=>by
  have lt:i<n:=∅
  have B:a∉wr:=λz=>r (W.sub _ z);refine codeAny_builtin F.entry_set_update_loop ?_;rw[Around.under_plainId F.plain_set_update_loop _];refine wpAny_bind (m:=pyNext (.ref I)) (W.item i s _ _ lt st λv s' N y l=>?_);obtain rfl:=H i v N;have L:=q.keep λo e=>l.heap a _ B e;have f:∀j,j<n->IsTupleKey (intKind prog w) s'.heap (d j) (ad j):=λj g=>LV (D j g) λo e=>l.heap (ad j) _ (had j g).2 e;refine wpAny_bind (m:=holding [Value.ref (ad i)] (setAdd a (.ref (ad i)))) (wpAny_holding ?_);unfold setAdd;refine wpAny_holding (wpAny_bind (wpAny_pyHash_tuple E (f i lt) ?_));refine abX (s:={s' with toks:=s'.toks+((d i).length+1)}) (f i lt) (λz=>?_) L ∅ λU C S=>?_
  ·obtain⟨j,g,e⟩:=aV.mp z
   exact p j i (bH.mp g) lt e
  have M:=S.sub (hs':=(aq (i+1)).map λj=>tupleKeyHash (intKind prog w) (d j)) λx hx=>by
   rw[fF,aO];rcases aW.mp hx with rfl|hx
   ·exact b6 _ (aS.mpr rfl)
   ·exact gX _ hx
  refine wpAny_pure ⟨plainId_quiet F.plain_set_update_loop _,RT W a r d ad H had p Q E k (i+1) _ ∅ lt (W.frame _ s' _ _ y (gV _ _) λc u o e=>?_) (λj g=>LV (f j g) λo e=>(C.2 _ (had j g).1).trans e) M λO t J=>?_⟩
  ·exact (C.2 c λz=>r (z▸u)).trans e
  ·refine h O (Moved.trans W.gtrans ((l.mono λb z=>aN _ z).then_heap (gV _ _) λc o u e=>?_) t) J
   exact (C.2 c λz=>u (by rw[z];exact bJ)).trans e
end
section
variable{prog:Program}{w:World}{A:Around}{E:Value->Shared->Prop}{s:Shared}
def RU(h h':Heap)(n:Nat):Prop:=(∃hs,HH h' h.objs.size hs n)/\∀b o,b<h.objs.size->h.get? b=some o->h'.get? b=some o
set_option maxHeartbeats 4000000 in
theorem YC{l:Addr}{ad:List Addr}{a:List (List Int)}(hu:A.units+3<cLine)(hh:A.handled=none)(hl:s.heap.IsList l (ad.map Value.ref).toArray)(f:ad.length=a.length)(p:∀(i:Nat) b k,ad[i]?=some b->a[i]?=some k->IsTupleKey (intKind prog w) s.heap k b)
 (t:∀i j,i<j->j<a.length->tupleKeyHash (intKind prog w) (a.getD i [])≠tupleKeyHash (intKind prog w) (a.getD j [])) (n:a.length<=306) :
 codeAny (model prog w) A (.call (.builtin "set.__init__") ⟨[.ref s.heap.objs.size,.ref l],[]⟩) (wants (λr X=>r=.none/\∃h' tk,X={s with heap:=h',toks:=tk}/\RU s.heap h' a.length) E) {s with heap:=s.heap.push (ko w)}:=by
 have J:(s.heap.push (ko w)).get? s.heap.objs.size=some (ko w):=Heap.get?_push_size _ rfl;have O:Shared.TypeIs {s with heap:=s.heap.push (ko w)} (.ref s.heap.objs.size) "set" := ⟨_,J,rfl⟩;refine codeAny_call_builtin F.called_set.init.plain F.entry_set_init (check_set_init_1 O ?_);obtain⟨⟨oc,Q,T,C⟩,N,I,K,M⟩:=hl;simp only at I M;subst I;subst M;have B:(s.heap.push (ko w)).get? l=some {cls:=.type "list",dict:=Q,data:=.seq (ad.map Value.ref).toArray K,slots:=C}:=Heap.get?_push_of_some _ N;have S:=F.sub_list_set;have V:=F.sub_list_frozenset;have P:(Value.type "list" == Value.type "dict")=false:=!_
 have g:(s.heap.push (ko w)).IsList l (ad.map Value.ref).toArray:=⟨_,B,rfl,K,rfl⟩;unfold Builtin.«set.__init__» noKeywords Builtin.Frozenset.updateFrom;generalize y:pyIter=PI
 wp_walk
 subst y;refine wpAny_pyIter_list g ?_;refine wpAny_bind (wpAny_runValue ?_);have lt:l<s.heap.objs.size:=Heap.lt_size N;have x:l≠(s.heap.push (ko w)).objs.size:=by
  rw[Heap.size_push];exact aZ (uU lt)
 have H:s.heap.objs.size∉[(s.heap.push (ko w)).objs.size,l]:=by
  rw[Heap.size_push];intro z;rcases aW.mp z with z|z
  ·exact eL z (aZ (xw _))
  ·exact eL (aS.mp z) (Nat.ne_of_gt lt)
 have d:(ad.map Value.ref).toArray.size=a.length:=by simp[f]
 have Y:∀(i:Nat) (v:Value),(ad.map Value.ref).toArray[i]?=some v->v=.ref (ad.getD i 0):=λi v e=>by
  rw[List.getElem?_toArray,aj] at e;rw[ak];cases L:ad[i]? with
  |none=>rw[L] at e;cases e
  |some b=>rw[L] at e;cases e;rfl
 have h:∀j,j<a.length->IsTupleKey (intKind prog w) s.heap (a.getD j []) (ad.getD j 0):=λj c=>by
  refine p j _ _ ?_ ?_
  ·rw[ak,aa ∅];rfl
  ·rw[ak,aa c];rfl
 have D:∀j,j<a.length->ad.getD j 0<s.heap.objs.size:=λj c=>by
  obtain⟨o,_,_,e,_⟩:=h j c;exact Heap.lt_size e
 refine RT ((Walks.list (by simp[hh]) _ l x (ad.map Value.ref).toArray).toS) s.heap.objs.size H (λi=>a.getD i []) (λi=>ad.getD i 0) Y (λi p=>?_) (by rw[d];exact t) (by rw[d];exact n) ?_ a.length 0 _ (by rw[d];lia) (aR _) ⟨⟨_,Heap.get?_push_size _ rfl,rfl,rfl⟩,(g.push _)⟩ (λj c=>?_) ?_ ?_
 ·rw[d] at p
  have:=D i p
  refine⟨aZ this,λz=>?_⟩;have z:=aS.mp z;rw[Heap.size_push] at z;exact eL z (aZ (uU this))
 ·show A.units+1+1<cLine
  lia
 ·rw[d] at c
  exact LV (h j c) λo e=>Heap.get?_push_of_some _ (Heap.get?_push_of_some _ e)
 ·exact⟨_,#[],0,_,Heap.get?_push_of_some _ J,⟨rfl,rfl,rfl⟩,rfl,⟨List.Pairwise.nil,rfl,λj c=>(by cases c),rfl,.inl rfl,(by show 0*5<7*3;decide)⟩,rfl,λe W=>(by cases W)⟩
 ·intro R m q
  obtain⟨h',Z,U,G,u⟩:=R;obtain rfl:Z=s.gens:=m.gens;obtain rfl:U=s.drawn:=m.drawn;obtain rfl:u=s.os:=m.os;show wpAny _ _ _ _ _ _;refine wpAny_pure ?_;rw[d] at q;refine wpAny_pure ⟨rfl,h',G,rfl,⟨_,q⟩,λb o n e=>?_⟩;refine m.heap b o (λz=>?_) (Heap.get?_push_of_some _ (Heap.get?_push_of_some _ e));rcases aW.mp z with z|z
  ·exact eL z (aZ n)
  ·have z:=aS.mp z
   rw[Heap.size_push] at z;exact eL z (aZ (uU n))
set_option maxHeartbeats 4000000 in
theorem abY{l:Addr}{ad:List Addr}{d:List (List Int)}{Q:Value->Shared->Prop}(N:A.units+8<cLine)(hh:A.handled=none)(hl:s.heap.IsList l (ad.map Value.ref).toArray)(f:ad.length=d.length)(H:∀(i:Nat) b k,ad[i]?=some b->d[i]?=some k->IsTupleKey (intKind prog w) s.heap k b)
 (h:∀i j,i<j->j<d.length->tupleKeyHash (intKind prog w) (d.getD i [])≠tupleKeyHash (intKind prog w) (d.getD j [])) (D:d.length<=306)
 (t:∀(h':Heap) (tk:Nat),RU s.heap h' d.length->Q (.ref s.heap.objs.size) {s with heap:=h',toks:=tk}):wpAny (model prog w) A (call (.type "set") [.ref l]) Q E s:=by
 obtain⟨c,M,G⟩:=F.called_set.mro;have m:=F.called_set.made;have u:=F.called_set.sub;refine wpAny_call (codeAny_of_tree ?_);refine wpAny_pure ⟨Code.quiet_builtin _ (by decide +kernel),codeAny_builtin F.entry_type_call ?_⟩;have n:(A.under (.builtin "type.__call__" ⟨[.type "set",.ref l],[]⟩)).units+5<cLine:=by
  rw[Around.under_plain (weight_type_call_type "set" [.ref l] []) rfl];show A.units+1+5<cLine;lia
 rw[Around.under_plain (weight_type_call_type "set" [.ref l] []) rfl] at n ⊢;have L:=F.called_set.notType;have K:=F.called_set.canCreate;have x:=F.typeCall_set_1 (.ref l)
 repeat (any_goals (first|assumption|wp_step))
 refine codeAny_mono (abU (.ref l) (E:=E) (Q:=λg v=>g=.ref s.heap.objs.size/\v={s with heap:=s.heap.push (ko w)}) ⟨rfl,rfl⟩) λr v o=>?_;cases r with
 |error e=>exact o
 |ok I =>
  cases I with
  |ret g =>
   obtain⟨rfl,rfl⟩:=o;have z:(s.heap.push (ko w)).get? s.heap.objs.size=some (ko w):=Heap.get?_push_size _ rfl;have J:Shared.TypeIs {s with heap:=s.heap.push (ko w)} (.ref s.heap.objs.size) "set" := ⟨_,z,rfl⟩;have B:=F.called_set.init.lookup;have C:=F.called_set.init.bind (.ref s.heap.objs.size)
   repeat (any_goals (first|assumption|wp_step))
   refine codeAny_mono (YC (E:=E) (by show A.units+1+3<cLine;lia) (by simp[hh]) hl f H h D) λy O a=>?_;cases y with
   |error e=>exact a
   |ok p =>
    cases p with
    |ret r =>
     obtain⟨rfl,h',tk,rfl,q⟩:=a
     repeat (any_goals (first|assumption|wp_step))
     exact t h' tk q
    |_=>exact a.elim
  |_=>exact o.elim
end
noncomputable def hq(i:Nat):Int:=reduceHash (Builtin.Tuple.tupleHashOf [hashInt ((i/20:Nat):Int),hashInt ((i%20:Nat):Int)])
noncomputable def Wf:List Int->Bool
 |[]=>true
 |x::xs=>xs.all (λy=>!decide (x=y))&&Wf xs
theorem ND:∀{l:List Int},Wf l=true->l.Nodup
 |[],_=>lH
 |x::xs,h=>by
  unfold Wf at h;rw[cV] at h;refine fG.mpr ⟨λz=>?_,ND h.2⟩
  have:=qt.mp h.1 x z
  simp at this
theorem aeH:((aq 200).map hq).Nodup:=ND (by decide +kernel)
theorem abZ{i j:Nat}(d:i<200)(a:j<200)(e:hq i=hq j):i=j:=by
 have h:=aeH;have b:i<((aq 200).map hq).length:=by simpa using d
 have c:j<((aq 200).map hq).length:=by simpa using a
 refine (List.getElem_inj (h₀:=b) (h₁:=c) h).mp ?_
 simpa using e
theorem Z9{prog:Program}{w:World}{a b:Int}(e:0<=a)(c:0<=b)(d:b<20):tupleKeyHash (intKind prog w) [a,b]=hq (a.toNat*20+b.toNat):=by
 show reduceHash (Builtin.Tuple.tupleHashOf [hashInt a,hashInt b])=_;unfold hq;rw[show (a.toNat*20+b.toNat)/20=a.toNat by lia,show (a.toNat*20+b.toNat)%20=b.toNat by lia,kE e,kE c]
end ST
namespace L2
open PySem PySem.Spec PyProof.Rows ST
def YD(K:af):List V->Hp->VK->Prop:=λxs H Q=>∃(a:Addr) (qs:List Addr) (ts:List T2),xs=[.ref a]/\bS K H a (qs.map V.ref)/\xM K H qs ts/\ts.Nodup/\(∀t∈ts,(0<=t.1/\t.1<10)/\0<=t.2/\t.2<20)/\ts.length<=200/\Q (.int ts.length) H
section
variable{X:Cx}{e:Expr}{t:TA}{p p2 pos pos2:Pos}
theorem Ub(J:X.calm=true)(hu:X.A.units+64<cLine)(O:Gl X "len")(L:X.mg "len" = none)(D:Gl X "set")(y:X.mg "set" = none)(ha:PA X [e] t)
 (g:starEach [.Call (.Name "set" p2) [e] [] pos2] X.env=[(false,eval (.Call (.Name "set" p2) [e] [] pos2) X.env)]:=by rfl) (C:starEach [e] X.env=[(false,eval e X.env)]:=by rfl) :
 PE X (.Call (.Name "len" p) [.Call (.Name "set" p2) [e] [] pos2] [] pos) (su (YD X.K) t):=by
 intro m s σ H Q I h;refine wpAny_Call_Name_kw (BN I O L boot_len ?_ (!_) (!_));refine callWith_builtin1 ?_ g rfl;rw[g];show wpAny _ _ (spliced ((false,eval (.Call (.Name "set" p2) [e] [] pos2) X.env)::[])) _ _ s;refine Calls.spliced_cons ?_;refine wpAny_Call_Name_kw (BN I D y boot_set ?_ (!_) (!_));refine callWith_type1 (gO (ha pos2 m s σ H _ I h) λus s1 ⟨vs,H1,w,P,a,qs,c,r,hq,T,G,f,E,q⟩=>?_) C rfl;subst r;obtain⟨u,e,ru⟩:=bY.one P;subst e;cases ru;obtain⟨its,rv,pl,hz⟩:=w.list hq;have M:=LL rv;subst M;have l:qs.length=(c.map λt=>[t.1,t.2]).length:=by rw[ah];exact T.1
 have U:∀i,i<c.length->(c.map λt=>[t.1,t.2]).getD i []=[(c.getD i (0,0)).1,(c.getD i (0,0)).2]/\c.getD i (0,0)∈c:=λi W=>by
  constructor
  ·rw[ak,aj,ak,aa W]
   rfl
  ·rw[ak,aa W]
   exact aK _
 refine abY ∅ (w.ok.hd J) pl.isList l (λi b k r d=>?_) (λi j hij v e=>?_) (by rw[ah];lia) λh' S Y=>?_
 ·rw[aj] at d
  cases B:c[i]? with
  |none=>rw[B] at d;cases d
  |some x =>
   rw[B] at d;cases d;obtain⟨jt,rj,⟨o,F,J,n,hd⟩,_⟩:=w.tuple (T.2 i b x r B);refine⟨o,_,n,F,J,hd,?_⟩;cases rj with
   |cons x1 P=>cases P with
    |cons x2 r2 =>
     cases r2;obtain⟨t1,rfl⟩:=x1;obtain⟨t2,rfl⟩:=x2;exact .cons (intKind_is _ _ _ _) (.cons (intKind_is _ _ _ _) .nil)
 ·rw[ah] at v
  obtain⟨r,m1⟩:=U i ∅;obtain⟨d,m2⟩:=U j v;obtain⟨⟨a1,a2⟩,a3,a4⟩:=f _ m1;obtain⟨⟨b1,b2⟩,b3,b4⟩:=f _ m2;rw[r,d,Z9 a1 a3 a4,Z9 b1 b3 b4] at e;have e:=abZ ∅ ∅ e;have V:c.getD i (0,0)=c.getD j (0,0):=Prod.ext ∅ ∅;have R:i<c.length:=∅
  rw[ak,ak,aa R,aa v] at V
  have:=(List.getElem_inj (h₀:=R) (h₁:=v) G).mp V
  lia
 refine Calls.spliced_nil ?_;rw[ah] at Y;obtain⟨⟨hs,o,es,ep,tt,F,hx,hd,tc,N,me⟩,Z⟩:=Y;refine call_len_set (s:={s1 with heap:=h',toks:=S}) F hx hd (by rw[N];exact tc.fits) ?_ ?_
 ·rw[N]
  have:c.length<2^62:=bQ E (!_)
  lia
 refine⟨.int _,H1,(w.kept (h':=h') (t':=S+1+1) λb ob z=>Z b ob (Heap.lt_size z) z),⟨_,rfl⟩,?_⟩;rw[N];exact q
end
end L2
namespace fc
open PySem L2
noncomputable def top (i:Nat):Stmt:=PySem.Challenge.pw_knotless_k45_whole_notes_lead.main.body.getD i (.Pass ⟨0,0,0,0⟩)
noncomputable abbrev uZ:Stmt:=(inClass (top 2) 0)
noncomputable abbrev xN:Stmt:=(inClass (top 2) 1)
noncomputable abbrev xO:Stmt:=(inClass (top 2) 2)
noncomputable abbrev xP:Stmt:=(inClass (top 2) 3)
noncomputable abbrev u0:Stmt:=(inClass (top 2) 4)
noncomputable abbrev EA:Stmt:=(top 4)
noncomputable abbrev BY:Stmt:=(top 5)
noncomputable abbrev qD:Stmt:=(inClass (top 16) 0)
noncomputable abbrev sE:Stmt:=(inClass (top 16) 1)
noncomputable abbrev sF:Stmt:=(inClass (top 16) 2)
noncomputable abbrev qF:Stmt:=(inClass (top 16) 3)
noncomputable abbrev sG:Stmt:=(inClass (top 17) 0)
noncomputable abbrev vc:Stmt:=(inClass (top 17) 1)
noncomputable abbrev vd:Stmt:=(inClass (top 17) 2)
noncomputable abbrev sH:Stmt:=(inClass (top 17) 3)
noncomputable abbrev ve:Stmt:=(inClass (top 18) 0)
noncomputable abbrev EB:Stmt:=(top 20)
noncomputable abbrev LW:Stmt:=(top 21)
noncomputable abbrev Wg:Stmt:=(top 22)
noncomputable abbrev Wh:Stmt:=(top 24)
noncomputable abbrev LX:Stmt:=(top 25)
noncomputable abbrev ED:Stmt:=(top 27)
noncomputable abbrev LY:Stmt:=(top 28)
noncomputable abbrev vf:Stmt:=(inClass (top 35) 0)
noncomputable abbrev zF:Stmt:=(inClass (top 35) 1)
noncomputable abbrev zG:Stmt:=(inClass (top 35) 2)
noncomputable abbrev qG:Stmt:=(inClass (top 35) 3)
noncomputable abbrev sI:Stmt:=(inClass (top 35) 4)
noncomputable abbrev zH:Stmt:=(inClass (top 35) 5)
noncomputable abbrev vg:Stmt:=(top 36)
noncomputable abbrev vh:Stmt:=(top 37)
noncomputable abbrev xQ:Stmt:=(top 38)
noncomputable abbrev zI:Stmt:=(top 39)
noncomputable abbrev oV:Stmt:=(inClass (top 41) 0)
noncomputable abbrev sJ:Stmt:=(inClass (top 41) 1)
noncomputable abbrev vj:Stmt:=(inClass (top 41) 2)
noncomputable abbrev mj:Stmt:=(inClass (top 41) 3)
noncomputable abbrev mq:Stmt:=(inClass (top 41) 4)
noncomputable abbrev sL:Stmt:=(inClass (top 41) 5)
noncomputable abbrev BZ:Stmt:=(top 42)
noncomputable abbrev vm:Stmt:=(top 43)
noncomputable abbrev qH:Stmt:=(inClass (top 46) 0)
noncomputable abbrev xR:Stmt:=(inClass (top 47) 0)
noncomputable abbrev Ca:Stmt:=(inClass (top 47) 1)
noncomputable abbrev Cb:Stmt:=(inClass (top 47) 2)
noncomputable abbrev zJ:Stmt:=(inClass (top 47) 3)
noncomputable abbrev zK:Stmt:=(inClass (top 47) 4)
noncomputable abbrev xS:Stmt:=(inClass (top 47) 6)
noncomputable abbrev Cc:Stmt:=(inClass (top 47) 7)
noncomputable abbrev Cd:Stmt:=(inClass (top 47) 8)
noncomputable abbrev EE:Stmt:=(inClass (top 47) 9)
noncomputable abbrev Ce:Stmt:=(inClass (top 47) 12)
noncomputable abbrev i8:Stmt:=(inClass (top 47) 13)
noncomputable abbrev xU:Stmt:=(inClass (top 47) 14)
noncomputable abbrev fz:Stmt:=(inClass (top 47) 15)
noncomputable abbrev vn:Stmt:=(inClass (top 47) 17)
noncomputable abbrev qI:Stmt:=(inClass (top 47) 18)
noncomputable abbrev oW:Stmt:=(inClass (top 47) 19)
noncomputable abbrev Cf:Stmt:=(inClass (top 47) 20)
noncomputable abbrev ny:Stmt:=(inClass (top 47) 21)
noncomputable abbrev qJ:Stmt:=(inClass (top 47) 22)
noncomputable abbrev iO:Stmt:=(inClass (top 47) 23)
noncomputable abbrev nA:Stmt:=(inClass (top 47) 24)
noncomputable abbrev mw:Stmt:=(inClass (top 47) 25)
noncomputable abbrev oX:Stmt:=(inClass (top 47) 26)
noncomputable abbrev xV:Stmt:=(top 48)
noncomputable abbrev qK:Stmt:=(top 49)
noncomputable abbrev zL:Stmt:=(top 51)
noncomputable abbrev EF:Stmt:=(top 52)
noncomputable abbrev EH:Stmt:=(top 53)
noncomputable abbrev EI:Stmt:=(top 54)
noncomputable abbrev zM:Stmt:=(top 55)
noncomputable abbrev Cg:Stmt:=(top 56)
noncomputable abbrev Ci:Stmt:=(top 57)
noncomputable abbrev Qy:Stmt:=(top 58)
noncomputable abbrev HJ:Stmt:=(top 59)
noncomputable abbrev HK:Stmt:=(top 60)
noncomputable abbrev HL:Stmt:=(top 61)
noncomputable abbrev Wi:Stmt:=(top 62)
theorem HM:aI ["self"] ["self"] (aA uZ):=i7
theorem JI:aI ["self","house","caller","rope"] ["self","house","caller","rope"] (aA xN):=i7
theorem JJ:aI ["self","house","caller"] ["self","house","caller"] (aA xO):=i7
theorem Bm:aI ["self"] ["self"] (aA xP):=i7
theorem wB:(["noted","rope"]:List Str).Nodup:=by decide +kernel
theorem HN:aI ["self"] ["self"] (aA u0):=i7
theorem Cj:aI ["book","letter","house","came","open_here","here","handed"] ["book","letter","house","came","open_here","here"] (aA EA):=i7
theorem JK:(["caller","letter"]:List Str).Nodup:=by decide +kernel
theorem uy:aI ["book","sought","house","came","open_here","here","noted","leading"] ["book","sought","house","came","open_here","here"] (aA BY):=i7
theorem HP:(["rope","came"]:List Str).Nodup:=by decide +kernel
theorem EJ:aI ["self","sender"] ["self","sender"] (aA qD):=i7
theorem Gs:aI ["self","caller"] ["self","caller"] (aA sE):=i7
theorem Gu:aI ["self"] ["self"] (aA sF):=i7
theorem EK:aI ["self"] ["self"] (aA qF):=i7
theorem Gv:aI ["self","sender","to"] ["self","sender","to"] (aA sG):=i7
theorem HQ:aI ["self","caller"] ["self","caller"] (aA vc):=i7
theorem HR:aI ["self"] ["self"] (aA vd):=i7
theorem Gw:aI ["self"] ["self"] (aA sH):=i7
theorem HS:aI ["self","caller"] ["self","caller"] (aA ve):=i7
theorem Qz:aI ["town","house"] ["town","house"] (aA EB):=i7
theorem NF:aI ["town","row","rope","hops"] ["town","row","rope"] (aA LW):=i7
theorem HU:aI ["town","live","rows","house","least","rope","made"] ["town","live","rows","house"] (aA Wg):=i7
theorem Wj:aI ["town","live","rows"] ["town","live","rows"] (aA Wh):=i7
theorem Uc:(["house","live","rows","town"]:List Str).Nodup:=by decide +kernel
theorem NH:aI ["town","live","rows"] ["town","live","rows"] (aA LX):=i7
theorem NI:(["up"]:List Str).Nodup:=by decide +kernel
theorem Ck:aI ["town","live","rows","house","joined"] ["town","live","rows","house"] (aA ED):=i7
theorem JL:(["rope","joined"]:List Str).Nodup:=by decide +kernel
theorem HV:aI ["town","live","rows","house","rope","other"] ["town","live","rows","house"] (aA LY):=i7
theorem HW:aI ["self","names","ropes"] ["self","names","ropes"] (aA vf):=i7
theorem LZ:aI ["self","house"] ["self","house"] (aA zF):=i7
theorem L0:aI ["self","number"] ["self","number"] (aA zG):=i7
theorem wC:aI ["self","house"] ["self","house"] (aA qG):=i7
theorem rF:(["number","rope","house"]:List Str).Nodup:=by decide +kernel
theorem yR:aI ["self","rope","house","ends"] ["self","rope","house"] (aA sI):=i7
theorem L1:aI ["self","rope","group"] ["self","rope","group"] (aA zH):=i7
theorem HX:aI ["names"] ["names"] (aA vg):=i7
theorem zN:aI ["size","ropes","rope"] ["size","ropes"] (aA vh):=i7
theorem JM:aI ["size","rope"] ["size","rope"] (aA xQ):=i7
theorem L3:aI ["size","one","other"] ["size","one","other"] (aA zI):=i7
theorem uz:aI ["self","town"] ["self","town"] (aA oV):=i7
theorem zO:(["rope","town"]:List Str).Nodup:=by decide +kernel
theorem qL:aI ["self","rope","wire","ahead"] ["self","rope","wire"] (aA sJ):=i7
theorem Cm:(["each","wire"]:List Str).Nodup:=by decide +kernel
theorem zP:aI ["self","rope","wire","ahead"] ["self","rope","wire"] (aA vj):=i7
theorem Bg:aI ["self","rope"] ["self","rope"] (aA mj):=i7
theorem rG:aI ["self","rope","number","stand"] ["self","rope","number"] (aA mq):=i7
theorem yS:aI ["self","group"] ["self","group"] (aA sL):=i7
theorem Cn:(["rope","group","self"]:List Str).Nodup:=by decide +kernel
theorem NJ:aI ["town","rope"] ["town","rope"] (aA BZ):=i7
theorem HY:aI ["group"] ["group"] (aA vm):=i7
theorem EL:aI ["self","letter","group"] ["self","letter","group"] (aA qH):=i7
theorem jx:aI ["self","town","callers"] ["self","town","callers"] (aA xR):=i7
theorem EN:(["bit","town"]:List Str).Nodup:=by decide +kernel
theorem EO:(["bit"]:List Str).Nodup:=by decide +kernel
theorem ER:(["caller"]:List Str).Nodup:=by decide +kernel
theorem ES:(["caller"]:List Str).Nodup:=by decide +kernel
theorem ET:(["caller"]:List Str).Nodup:=by decide +kernel
theorem NK:aI ["self","group"] ["self","group"] (aA Ca):=i7
theorem NL:aI ["self","group"] ["self","group"] (aA Cb):=i7
theorem L4:aI ["self","group"] ["self","group"] (aA zJ):=i7
theorem L5:aI ["self","group"] ["self","group"] (aA zK):=i7
theorem JN:aI ["self","house","group"] ["self","house","group"] (aA xS):=i7
theorem zQ:aI ["self","house","group","ahead","row"] ["self","house","group"] (aA Cc):=i7
theorem FI:aI ["self","rope","wire","ended"] ["self","rope","wire"] (aA Cd):=i7
theorem HZ:aI ["self","rope","wire","began"] ["self","rope","wire"] (aA EE):=i7
theorem NN:aI ["self","caller","house"] ["self","caller","house"] (aA Ce):=i7
theorem uA:aI ["self","sender","to","letter","number","house"] ["self","sender","to"] (aA i8):=i7
theorem JO:aI ["self"] ["self"] (aA xU):=i7
theorem gG:aI ["self","at","landed","number","rope","house","posted","fate"] ["self","at"] (aA fz):=i7
theorem Ia:aI ["self","posted","rope","house"] ["self","posted","rope","house"] (aA vn):=i7
theorem eu:aI ["self","number","house","came","posted","group","open_here","here","found","caller","rope"] ["self","number","house","came"] (aA qI):=i7
theorem nB:aI ["self","house","group","there"] ["self","house","group"] (aA oW):=i7
theorem zR:(["caller","self","there"]:List Str).Nodup:=by decide +kernel
theorem zS:aI ["self","number","house","rope","posted","wire"] ["self","number","house","rope"] (aA Cf):=i7
theorem mz:aI ["self","rope","wire","left","flown"] ["self","rope","wire"] (aA ny):=i7
theorem wD:aI ["self","group","posted"] ["self","group"] (aA qJ):=i7
theorem kR:aI ["self","rope","group"] ["self","rope"] (aA iO):=i7
theorem Co:aI ["self","house"] ["self","house"] (aA nA):=i7
theorem Bh:aI ["self","caller"] ["self","caller"] (aA mw):=i7
theorem Dm:aI ["self","sender","to"] ["self","sender","to"] (aA oX):=i7
theorem Bo:aI ["town"] ["town"] (aA xV):=i7
theorem EU:(["house","town"]:List Str).Nodup:=by decide +kernel
theorem wF:aI ["town","callers","caller"] ["town","callers"] (aA qK):=i7
theorem L6:aI ["_law_script","_law_k"] ["_law_script","_law_k"] (aA zL):=i7
theorem QA:aI ["_law_found"] ["_law_found"] (aA EF):=i7
theorem mC:aI ["_law_script","_law_size","_law_names_here","_law_k","_law_cell","_law_name"] ["_law_script","_law_size"] (aA EH):=i7
theorem dJ:aI ["_law_script","_law_size","_law_group","_law_ropes_here","_law_many","_law_k","_law_cell","_law_one","_law_other","_law_rest","_law_cost","_law_lets"] ["_law_script","_law_size","_law_group"] (aA EI):=i7
theorem kq:aI ["_law_script","_law_size","_law_group","_law_callers_here","_law_most","_law_k","_law_cell","_law_place"] ["_law_script","_law_size","_law_group"] (aA zM):=i7
theorem zT:aI ["_law_net","_law_size","_law_group","_law_turn","_law_house"] ["_law_net","_law_size","_law_group"] (aA Cg):=i7
theorem zU:aI ["_law_net","_law_ropes_here","_law_stood","_law_number","_law_rope","_law_wire"] ["_law_net","_law_ropes_here","_law_stood","_law_number"] (aA Ci):=i7
theorem L7:aI ["_law_places","_law_sender","_law_number","_law_mates"] ["_law_places","_law_sender","_law_number"] (aA Qy):=i7
theorem QB:(["_law_caller","_law_places","_law_sender"]:List Str).Nodup:=by decide +kernel
theorem AW:aI ["_law_net","_law_size","_law_group","_law_ropes_here","_law_stood","_law_places","_law_cell","_law_deed_here","_law_more","_law_caller"] ["_law_net","_law_size","_law_group","_law_ropes_here","_law_stood","_law_places","_law_cell"] (aA HJ):=i7
theorem oY:aI ["_law_ropes_here","_law_opened","_law_house","_law_rope","_law_led","_law_waiting","_law_here","_law_by","_law_far","_law_one"] ["_law_ropes_here","_law_opened","_law_house","_law_rope"] (aA HK):=i7
theorem mQ:aI ["_law_net","_law_ropes_here","_law_places","_law_group","_law_notes","_law_opened","_law_house","_law_caller","_law_rope"] ["_law_net","_law_ropes_here","_law_places","_law_group"] (aA HL):=i7
theorem L8:(["_law_note"]:List Str).Nodup:=by decide +kernel
theorem Ma:(["_law_note"]:List Str).Nodup:=by decide +kernel
theorem sM:aI ["_law_script","_law_size","_law_group","_law_ropes_here","_law_callers_here","_law_net","_law_stood","_law_places","_law_cell","_law_one"] ["_law_script"] (aA Wi):=i7
theorem Ud:(["_law_rope"]:List Str).Nodup:=by decide +kernel
set_option genInjectivity false in
structure Ad where
 (kT nC nD nH kU wG sN dU jX gH fV jY kW kX jZ kY wH Dn NO NP xW wI Dp kZ qd qe jm j3 qg k6 k7 nJ qh iP j4 k8 gI gJ j5 sO lg jo nK sP sQ qi qj nL sR sU wJ sV nM ly jq iQ sW ir jr eB iu gK iR nO ju qk wK wL wM ql sX sY Ib zV zW zX NQ:Addr)
 (pL rN rO rP pM AX xX lO nP nQ lP nS pN pO nU pP AY GW RV RW GX AZ GY pQ uB uC lQ nV uD pR pS rQ uE kr nW pT i9 ja nX xY pU lR rR xZ x8 uF uG rS x9 ya A0 yb rT pV lT ku yc jF lU fR jG jb kB rV lV uH A1 A2 A3 uI yd ye Mb Dq Dr Dt NR:FuncData)
 jc:Addr
 yf:FuncData
 fB:Addr
 pW:FuncData
 jy:Tok
 iS:Addr
 fT:Addr
 jd:Addr
 jv:Addr
 bh:Addr
 cK:Addr
 eK:Addr
 cH:Addr
 wN:Addr
 A4:Addr
 pX:Tok
 rW:Tok
 rX:Tok
 rY:Tok
 nY:Tok
 dW:Addr
structure Txt(K:af)(mg:Str->Option Value)(t:Ad):Prop where
 vp:Nr K t.eK "Book.__init__" uZ t.kT t.pL ["self"]
 Du:iD K t.eK "learn" "Book.learn" xN t.nC t.rN ["self","house","caller","rope"]
 Dv:iD K t.eK "known" "Book.known" xO t.nD t.rO ["self","house","caller"]
 yg:iD K t.eK "notes" "Book.notes" xP t.nH t.rP ["self"]
 vq:iD K t.eK "forget" "Book.forget" u0 t.kU t.pM ["self"]
 KS:mU K mg "targets" "targets" EA t.wG t.AX ["book","letter","house","came","open_here","here"]
 Ic:mU K mg "ropes_on" "ropes_on" BY t.sN t.xX ["book","sought","house","came","open_here","here"]
 qM:Nr K t.iS "Letter.__init__" qD t.dU t.lO ["self","sender"]
 zY:iD K t.iS "meant" "Letter.meant" sE t.jX t.nP ["self","caller"]
 nZ:iD K t.iS "seeks" "Letter.seeks" sF t.gH t.nQ ["self"]
 lW:iD K t.iS "number" "Letter.number" qF t.fV t.lP ["self"]
 zZ:Nr K t.fT "ToOne.__init__" sG t.jY t.nS ["self","sender","to"]
 Bp:iD K t.fT "meant" "ToOne.meant" vc t.kW t.pN ["self","caller"]
 vt:iD K t.fT "seeks" "ToOne.seeks" vd t.kX t.pO ["self"]
 sZ:iD K t.fT "number" "ToOne.number" sH t.jZ t.nU ["self"]
 Bq:iD K t.jd "meant" "ToAll.meant" ve t.kY t.pP ["self","caller"]
 EV:mU K mg "own_row" "own_row" EB t.wH t.AY ["town","house"]
 Mc:mU K mg "offer" "offer" LW t.Dn t.GW ["town","row","rope"]
 aaa:mU K mg "due" "due" Wg t.NO t.RV ["town","live","rows","house"]
 aab:mU K mg "ups" "ups" Wh t.NP t.RW ["town","live","rows"]
 Dw:mU K mg "opens" "opens" LX t.xW t.GX ["town","live","rows"]
 KU:mU K mg "open_at" "open_at" ED t.wI t.AZ ["town","live","rows","house"]
 RX:mU K mg "up_of" "up_of" LY t.Dp t.GY ["town","live","rows","house"]
 Br:Nr K t.bh "Town.__init__" vf t.kZ t.pQ ["self","names","ropes"]
 FJ:iD K t.bh "name" "Town.name" zF t.qd t.uB ["self","house"]
 z6:iD K t.bh "rope" "Town.rope" zG t.qe t.uC ["self","number"]
 lX:iD K t.bh "ropes_at" "Town.ropes_at" qG t.jm t.lQ ["self","house"]
 n9:iD K t.bh "far_end" "Town.far_end" sI t.j3 t.nV ["self","rope","house"]
 z7:iD K t.bh "lets" "Town.lets" zH t.qg t.uD ["self","rope","group"]
 Bs:mU K mg "check_names" "check_names" vg t.k6 t.pR ["names"]
 Bt:mU K mg "check_ropes" "check_ropes" vh t.k7 t.pS ["size","ropes"]
 Dy:mU K mg "check_rope" "check_rope" xQ t.nJ t.rQ ["size","rope"]
 FL:mU K mg "joins_two" "joins_two" zI t.qh t.uE ["size","one","other"]
 wO:Nr K t.cK "Strands.__init__" oV t.iP t.kr ["self","town"]
 tw:iD K t.cK "fall" "Strands.fall" sJ t.j4 t.nW ["self","rope","wire"]
 vz:iD K t.cK "lay" "Strands.lay" vj t.k8 t.pT ["self","rope","wire"]
 dY:iD K t.cK "standing" "Strands.standing" mj t.gI t.i9 ["self","rope"]
 mD:iD K t.cK "wire_for" "Strands.wire_for" mq t.gJ t.ja ["self","rope","number"]
 tD:iD K t.cK "live" "Strands.live" sL t.j5 t.nX ["self","group"]
 Cq:mU K mg "wires_of" "wires_of" BZ t.sO t.xY ["town","rope"]
 eS:mU K mg "check_group" "check_group" vm t.lg t.pU ["group"]
 yU:Nr K t.jv "Posted.__init__" qH t.jo t.lR ["self","letter","group"]
 Dz:Nr K t.cH "Net.__init__" xR t.nK t.rR ["self","town","callers"]
 tE:iD K t.cH "rows" "Net.rows" Ca t.sP t.xZ ["self","group"]
 yh:iD K t.cH "live" "Net.live" Cb t.sQ t.x8 ["self","group"]
 z8:iD K t.cH "opens" "Net.opens" zJ t.qi t.uF ["self","group"]
 FN:iD K t.cH "notes" "Net.notes" zK t.qj t.uG ["self","group"]
 DA:iD K t.cH "row_at" "Net.row_at" xS t.nL t.rS ["self","house","group"]
 Cr:iD K t.cH "call" "Net.call" Cc t.sR t.x9 ["self","house","group"]
 Ie:iD K t.cH "fall" "Net.fall" Cd t.sU t.ya ["self","rope","wire"]
 KW:iD K t.cH "lay" "Net.lay" EE t.wJ t.A0 ["self","rope","wire"]
 Ig:iD K t.cH "move" "Net.move" Ce t.sV t.yb ["self","caller","house"]
 tF:LQ K "post" "Net.post" i8 t.jc t.yf (.none)
 ab0:Binds K t.yf ["self","sender","to"] [.none]
 QC:Binds K t.yf ["self","sender","to"] []
 QD:Lw K t.cH "post" t.jc
 oh:iD K t.cH "flying" "Net.flying" xU t.nM t.rT ["self"]
 lz:LQ K "pass_on" "Net.pass_on" fz t.fB t.pW (.int 0 t.jy)
 Xu:Binds K t.pW ["self","at"] [.int 0 t.jy]
 JP:Binds K t.pW ["self","at"] []
 JQ:Lw K t.cH "pass_on" t.fB
 Bu:iD K t.cH "fate_of" "Net.fate_of" vn t.ly t.pV ["self","posted","rope","house"]
 qN:iD K t.cH "do_letter" "Net.do_letter" qI t.jq t.lT ["self","number","house","came"]
 wQ:iD K t.cH "callers_at" "Net.callers_at" oW t.iQ t.ku ["self","house","group"]
 Ih:iD K t.cH "send" "Net.send" Cf t.sW t.yc ["self","number","house","rope"]
 uJ:iD K t.cH "lose_copies" "Net.lose_copies" ny t.ir t.jF ["self","rope","wire"]
 lY:iD K t.cH "take_news" "Net.take_news" qJ t.jr t.lU ["self","group"]
 iT:iD K t.cH "take_news_of_rope" "Net.take_news_of_rope" iO t.eB t.fR ["self","rope"]
 oi:iD K t.cH "check_house" "Net.check_house" nA t.iu t.jG ["self","house"]
 je:iD K t.cH "check_caller" "Net.check_caller" mw t.gK t.jb ["self","caller"]
 wR:iD K t.cH "check_pair" "Net.check_pair" oX t.iR t.kB ["self","sender","to"]
 DB:mU K mg "first_rows" "first_rows" xV t.nO t.rV ["town"]
 yV:mU K mg "check_callers" "check_callers" qK t.ju t.lV ["town","callers"]
 fN:mU K mg "_law_cell_at" "_law_cell_at" zL t.qk t.uH ["_law_script","_law_k"]
 A5:mU K mg "_law_whole" "_law_whole" EF t.wK t.A1 ["_law_found"]
 KY:mU K mg "_law_names" "_law_names" EH t.wL t.A2 ["_law_script","_law_size"]
 KZ:mU K mg "_law_ropes" "_law_ropes" EI t.wM t.A3 ["_law_script","_law_size","_law_group"]
 FO:mU K mg "_law_callers" "_law_callers" zM t.ql t.uI ["_law_script","_law_size","_law_group"]
 Ii:mU K mg "_law_rounds" "_law_rounds" Cg t.sX t.yd ["_law_net","_law_size","_law_group"]
 Ij:mU K mg "_law_toggle" "_law_toggle" Ci t.sY t.ye ["_law_net","_law_ropes_here","_law_stood","_law_number"]
 Wk:mU K mg "_law_to" "_law_to" Qy t.Ib t.Mb ["_law_places","_law_sender","_law_number"]
 NT:mU K mg "_law_deed" "_law_deed" HJ t.zV t.Dq ["_law_net","_law_size","_law_group","_law_ropes_here","_law_stood","_law_places","_law_cell"]
 NU:mU K mg "_law_over" "_law_over" HK t.zW t.Dr ["_law_ropes_here","_law_opened","_law_house","_law_rope"]
 NV:mU K mg "_law_lead" "_law_lead" HL t.zX t.Dt ["_law_net","_law_ropes_here","_law_places","_law_group"]
 Wl:mU K mg "law" "law" Wi t.NQ t.NR ["_law_script"]
 Ik:JC K t.iS
 Wm:mg "Letter" = some (.ref t.iS)
 UK:dw K t.iS "sender"
 aac:dw K t.iS "to"
 pY:JC K t.fT
 YE:mg "ToOne" = some (.ref t.fT)
 tG:dw K t.fT "sender"
 yi:dw K t.fT "to"
 yj:JC K t.jd
 YF:mg "ToAll" = some (.ref t.jd)
 oj:dw K t.jd "sender"
 ab1:dw K t.jd "to"
 dB:JC K t.jv
 Wn:mg "Posted" = some (.ref t.jv)
 gW:dw K t.jv "letter"
 j6:dw K t.jv "group"
 yk:dw K t.jv "old"
 oZ:dw K t.jv "done_at"
 iU:dw K t.jv "deeds"
 fh:JC K t.bh
 ab2:mg "Town" = some (.ref t.bh)
 tH:dw K t.bh "house_names"
 gM:dw K t.bh "rope_tuples"
 mR:dw K t.bh "size"
 uK:dw K t.bh "many"
 dO:JC K t.cK
 Ue:mg "Strands" = some (.ref t.cK)
 j7:dw K t.cK "town"
 fU:dw K t.cK "upright"
 yl:JC K t.eK
 ab3:mg "Book" = some (.ref t.eK)
 qm:dw K t.eK "kept"
 bK:JC K t.cH
 aeI:mg "Net" = some (.ref t.cH)
 mE:dw K t.cH "town"
 lA:dw K t.cH "strands"
 kG:dw K t.cH "rows_by_group"
 qo:dw K t.cH "books"
 j8:dw K t.cH "homes"
 kC:dw K t.cH "groups"
 DC:dw K t.cH "handed"
 fC:dw K t.cH "letters"
 jf:dw K t.cH "copies"
 z9:mg "opens_opens" = some (.ref t.xW)
 JR:Lw K t.jd "seeks" t.gH
 Il:Lw K t.jd "number" t.fV
 YG:Mk K t.jd t.dU
 EW:Z2 K t.iS "__init__" t.dU
 Im:mg "NoWire" = some (.ref t.wN)
 Io:VF K t.wN
 Ug:mg "NoGroup" = some (.ref t.A4)
 Uh:VF K t.A4
 JS:mg "MOST_HOUSES" = some (.int 10 t.pX)
 Me:mg "MOST_ROPES" = some (.int 20 t.rW)
 Mf:mg "MOST_WIRES" = some (.int 4 t.rX)
 Mg:mg "ALL_GROUPS" = some (.int 7 t.rY)
 Ip:mg "MOST_CALLERS" = some (.int 20 t.nY)
 kD:mg "GROUP_BITS" = some (.ref t.dW)
 fD:∀H,cN K H t.dW [.int 1,.int 2,.int 4]
 gm:mg "len" = none
 rZ:mg "isinstance" = none
 aeJ:mg "int" = none
 ab4:mg "bool" = none
 vA:mg "list" = none
 YH:mg "tuple" = none
 jH:mg "range" = none
 NX:mg "enumerate" = none
 aeK:mg "min" = none
 aad:mg "set" = none
 aeL:mg "all" = none
 DE:mg "sorted" = none
theorem RY{a:Type}{M:List a->Prop}(h:∀b,M [b]):∀us:List a,us.length=1->M us
 |[_],_=>h _
theorem EX{a:Type}{M:List a->Prop}(h:∀b c,M [b,c]):∀us:List a,us.length=2->M us
 |[_,_],_=>h _ _
theorem EY{a:Type}{M:List a->Prop}(h:∀b d c,M [b,d,c]):∀us:List a,us.length=3->M us
 |[_,_,_],_=>h _ _ _
theorem Xv{a:Type}{M:List a->Prop}(h:∀c e d b,M [c,e,d,b]):∀us:List a,us.length=4->M us
 |[_,_,_,_],_=>h _ _ _ _
theorem el6{a:Type}{M:List a->Prop}(h:∀d g e c f b,M [d,g,e,c,f,b]):∀us:List a,us.length=6->M us
 |[_,_,_,_,_,_],_=>h _ _ _ _ _ _
theorem el7{a:Type}{M:List a->Prop}(h:∀d i f c g b e,M [d,i,f,c,g,b,e]):∀us:List a,us.length=7->M us
 |[_,_,_,_,_,_,_],_=>h _ _ _ _ _ _ _
theorem ab5{K:af}{h:Heap}{b:Str->Option Value}(X:K.In h)(G:h.Ns mainGlobals b){kT nC nD nH kU wG sN s jX u P jY kW kX jZ kY wH Dn NO NP R wI Dp kZ qd qe jm j3 qg k6 k7 nJ qh iP j4 k8 gI gJ j5 sO lg jo nK sP sQ qi qj nL sR sU wJ sV nM ly jq iQ sW ir jr eB iu gK iR nO ju qk wK wL wM ql sX sY Ib zV zW zX NQ:Addr}
 {NY FP FQ FT T FU:Value} {NZ FW:Option Addr} {Oa:Array (Option Value)} {q:Addr}
 {E:Addr} {Mh:Option Addr} {Ob:Nat} {Mi:Array (Option Value)}
 {Iq Ab Ac Ae Z Af:Value} {Ir Ag:Option Addr} {Iu:Array (Option Value)} {p:Addr}
 {v:Addr} {Gx:Option Addr} {Iv:Nat} {Gy:Array (Option Value)}
 {F:Tok}
 {e:Addr}
 {j:Addr}
 {i:Addr}
 {k:Addr}
 {d:Addr}
 {f:Addr}
 {g:Addr}
 {a:Addr}
 {w:Addr}
 {I:Addr}
 {pX:Tok}
 {rW:Tok}
 {rX:Tok}
 {rY:Tok}
 {nY:Tok}
 {Y:Addr} {JT:Option Addr} {Mj:Nat} {JU JV JW:Tok} {JX:Array (Option Value)}
 (E1:bP K mainGlobals "Letter" = some (some (.ref e)))
 (Iz:bP K mainGlobals "ToOne" = some (some (.ref j)))
 (IA:bP K mainGlobals "ToAll" = some (some (.ref i)))
 (E2:bP K mainGlobals "Posted" = some (some (.ref k)))
 (Ml:bP K mainGlobals "Town" = some (some (.ref d)))
 (Ct:bP K mainGlobals "Strands" = some (some (.ref f)))
 (Mm:bP K mainGlobals "Book" = some (some (.ref g)))
 (QE:bP K mainGlobals "Net" = some (some (.ref a)))
 (vC:EM K g "__init__" "Book.__init__" uZ kT)
 (yo:EM K g "learn" "Book.learn" xN nC)
 (yp:EM K g "known" "Book.known" xO nD)
 (yq:EM K g "notes" "Book.notes" xP nH)
 (vD:EM K g "forget" "Book.forget" u0 kU)
 (E3:EG K b "targets" "targets" EA wG)
 (Cu:EG K b "ropes_on" "ropes_on" BY sN)
 (qO:EM K e "__init__" "Letter.__init__" qD s)
 (tL:EM K e "meant" "Letter.meant" sE jX)
 (tM:EM K e "seeks" "Letter.seeks" sF u)
 (qP:EM K e "number" "Letter.number" qF P)
 (tN:EM K j "__init__" "ToOne.__init__" sG jY)
 (vE:EM K j "meant" "ToOne.meant" vc kW)
 (vF:EM K j "seeks" "ToOne.seeks" vd kX)
 (tO:EM K j "number" "ToOne.number" sH jZ)
 (vG:EM K i "meant" "ToAll.meant" ve kY)
 (E4:EG K b "own_row" "own_row" EB wH)
 (Mn:EG K b "offer" "offer" LW Dn)
 (Wo:EG K b "due" "due" Wg NO)
 (Wp:EG K b "ups" "ups" Wh NP)
 (Mp:EG K b "opens" "opens" LX R)
 (E5:EG K b "open_at" "open_at" ED wI)
 (Mq:EG K b "up_of" "up_of" LY Dp)
 (vH:EM K d "__init__" "Town.__init__" vf kZ)
 (Ah:EM K d "name" "Town.name" zF qd)
 (Ai:EM K d "rope" "Town.rope" zG qe)
 (qQ:EM K d "ropes_at" "Town.ropes_at" qG jm)
 (tP:EM K d "far_end" "Town.far_end" sI j3)
 (Aj:EM K d "lets" "Town.lets" zH qg)
 (vI:EG K b "check_names" "check_names" vg k6)
 (vJ:EG K b "check_ropes" "check_ropes" vh k7)
 (yr:EG K b "check_rope" "check_rope" xQ nJ)
 (Ak:EG K b "joins_two" "joins_two" zI qh)
 (o8:EM K f "__init__" "Strands.__init__" oV iP)
 (tQ:EM K f "fall" "Strands.fall" sJ j4)
 (vK:EM K f "lay" "Strands.lay" vj k8)
 (mF:EM K f "standing" "Strands.standing" mj gI)
 (mG:EM K f "wire_for" "Strands.wire_for" mq gJ)
 (tR:EM K f "live" "Strands.live" sL j5)
 (Cv:EG K b "wires_of" "wires_of" BZ sO)
 (vL:EG K b "check_group" "check_group" vm lg)
 (qR:EM K k "__init__" "Posted.__init__" qH jo)
 (yt:EM K a "__init__" "Net.__init__" xR nK)
 (Cw:EM K a "rows" "Net.rows" Ca sP)
 (Cy:EM K a "live" "Net.live" Cb sQ)
 (Al:EM K a "opens" "Net.opens" zJ qi)
 (Am:EM K a "notes" "Net.notes" zK qj)
 (yu:EM K a "row_at" "Net.row_at" xS nL)
 (Cz:EM K a "call" "Net.call" Cc sR)
 (CA:EM K a "fall" "Net.fall" Cd sU)
 (E6:EM K a "lay" "Net.lay" EE wJ)
 (CB:EM K a "move" "Net.move" Ce sV)
 (CC:aH K (.ref a) "post" = some (some (.ref q)))
 (CD:PySem.W.isFn K (.ref q)=true)
 (CF:K.lookup q=some ⟨NY,NZ,.func (eN "post" "Net.post" (jC i8) (fQ i8) (aA i8) (.ref E) FP FQ FT FW T FU),Oa⟩)
 (CG:jz K T "Net.post" = true)
 (yv:dR K (.ref q)=true)
 (An:K.lookup E=some ⟨.type "tuple",Mh,.seq #[.none] Ob,Mi⟩)
 (yw:EM K a "flying" "Net.flying" xU nM)
 (vM:aH K (.ref a) "pass_on" = some (some (.ref p)))
 (vN:PySem.W.isFn K (.ref p)=true)
 (vO:K.lookup p=some ⟨Iq,Ir,.func (eN "pass_on" "Net.pass_on" (jC fz) (fQ fz) (aA fz) (.ref v) Ab Ac Ae Ag Z Af),Iu⟩)
 (vP:jz K Z "Net.pass_on" = true)
 (pZ:dR K (.ref p)=true)
 (tS:K.lookup v=some ⟨.type "tuple",Gx,.seq #[.int 0 F] Iv,Gy⟩)
 (vQ:EM K a "fate_of" "Net.fate_of" vn ly)
 (qS:EM K a "do_letter" "Net.do_letter" qI jq)
 (pe:EM K a "callers_at" "Net.callers_at" oW iQ)
 (CH:EM K a "send" "Net.send" Cf sW)
 (oq:EM K a "lose_copies" "Net.lose_copies" ny ir)
 (qU:EM K a "take_news" "Net.take_news" qJ jr)
 (iW:EM K a "take_news_of_rope" "Net.take_news_of_rope" iO eB)
 (ou:EM K a "check_house" "Net.check_house" nA iu)
 (mH:EM K a "check_caller" "Net.check_caller" mw gK)
 (pq:EM K a "check_pair" "Net.check_pair" oX iR)
 (yx:EG K b "first_rows" "first_rows" xV nO)
 (qV:EG K b "check_callers" "check_callers" qK ju)
 (Ao:EG K b "_law_cell_at" "_law_cell_at" zL qk)
 (E7:EG K b "_law_whole" "_law_whole" EF wK)
 (E8:EG K b "_law_names" "_law_names" EH wL)
 (E9:EG K b "_law_ropes" "_law_ropes" EI wM)
 (Aq:EG K b "_law_callers" "_law_callers" zM ql)
 (CI:EG K b "_law_rounds" "_law_rounds" Cg sX)
 (CJ:EG K b "_law_toggle" "_law_toggle" Ci sY)
 (QF:EG K b "_law_to" "_law_to" Qy Ib)
 (IB:EG K b "_law_deed" "_law_deed" HJ zV)
 (IC:EG K b "_law_over" "_law_over" HK zW)
 (ID:EG K b "_law_lead" "_law_lead" HL zX)
 (Wq:EG K b "law" "law" Wi NQ)
 (J:EC K e)
 (pA:aH K (.ref e) "sender" = some none)
 (yy:aH K (.ref e) "to" = some none)
 (y:EC K j)
 (qW:aH K (.ref j) "sender" = some none)
 (As:aH K (.ref j) "to" = some none)
 (S:EC K i)
 (qX:aH K (.ref i) "sender" = some none)
 (Au:aH K (.ref i) "to" = some none)
 (B:EC K k)
 (pB:aH K (.ref k) "letter" = some none)
 (qY:aH K (.ref k) "group" = some none)
 (vR:aH K (.ref k) "old" = some none)
 (oz:aH K (.ref k) "done_at" = some none)
 (qZ:aH K (.ref k) "deeds" = some none)
 (Q:EC K d)
 (kH:aH K (.ref d) "house_names" = some none)
 (kI:aH K (.ref d) "rope_tuples" = some none)
 (yz:aH K (.ref d) "size" = some none)
 (yC:aH K (.ref d) "many" = some none)
 (U:EC K f)
 (rz:aH K (.ref f) "town" = some none)
 (mJ:aH K (.ref f) "upright" = some none)
 (V:EC K g)
 (yD:aH K (.ref g) "kept" = some none)
 (x:EC K a)
 (Aw:aH K (.ref a) "town" = some none)
 (tT:aH K (.ref a) "strands" = some none)
 (j9:aH K (.ref a) "rows_by_group" = some none)
 (yE:aH K (.ref a) "books" = some none)
 (yF:aH K (.ref a) "homes" = some none)
 (vS:aH K (.ref a) "groups" = some none)
 (vU:aH K (.ref a) "handed" = some none)
 (tU:aH K (.ref a) "letters" = some none)
 (vV:aH K (.ref a) "copies" = some none)
 (tV:bP K mainGlobals "opens_opens" = some (some (.ref R)))
 (tW:aH K (.ref i) "seeks" = some (some (.ref u)))
 (rA:aH K (.ref i) "number" = some (some (.ref P)))
 (IG:aH K (.ref i) "__init__" = some (some (.ref s)))
 (pC:PySem.W.specialIn K (.ref e) "__getattribute__" = some (some (.builtin "type.__getattribute__")))
 (pD:PySem.W.readsIn K e (.type "type")=true)
 (pF:PySem.W.findCls K (.ref e) (.type "type") "__init__" = some (.val (.ref s)))
 (Fb:bP K mainGlobals "NoWire" = some (some (.ref w)))
 (Fc:VF K w)
 (CK:bP K mainGlobals "NoGroup" = some (some (.ref I)))
 (CL:VF K I)
 (vW:bP K mainGlobals "MOST_HOUSES" = some (some (.int 10 pX)))
 (yG:bP K mainGlobals "MOST_ROPES" = some (some (.int 20 rW)))
 (yH:bP K mainGlobals "MOST_WIRES" = some (some (.int 4 rX)))
 (yI:bP K mainGlobals "ALL_GROUPS" = some (some (.int 7 rY)))
 (tX:bP K mainGlobals "MOST_CALLERS" = some (some (.int 20 nY)))
 (yJ:bP K mainGlobals "GROUP_BITS" = some (some (.ref Y)))
 (yK:K.lookup Y=some ⟨.type "tuple",JT,.seq #[.int 1 JU,.int 2 JV,.int 4 JW] Mj,JX⟩)
 (Wr:bP K mainGlobals "len" = some none)
 (yM:bP K mainGlobals "isinstance" = some none)
 (Ws:bP K mainGlobals "int" = some none)
 (QG:bP K mainGlobals "bool" = some none)
 (QH:bP K mainGlobals "list" = some none)
 (Mr:bP K mainGlobals "tuple" = some none)
 (Ms:bP K mainGlobals "range" = some none)
 (Ax:bP K mainGlobals "enumerate" = some none)
 (Wt:bP K mainGlobals "min" = some none)
 (Wu:bP K mainGlobals "set" = some none)
 (Wv:bP K mainGlobals "all" = some none)
 (II:bP K mainGlobals "sorted" = some none):∃t,Txt K b t:=by
 obtain⟨pL,Bv,Bw⟩:=vC;obtain⟨rN,DH,Mt⟩:=yo;obtain⟨rO,DI,Mu⟩:=yp;obtain⟨rP,DJ,Mv⟩:=yq;obtain⟨pM,Bx,JY⟩:=vD;obtain⟨AX,K0,Ui⟩:=E3;obtain⟨xX,IJ,QI⟩:=Cu;obtain⟨lO,yW,r⟩:=qO;obtain⟨nP,Ay,IK⟩:=tL;obtain⟨nQ,Az,L⟩:=tM;obtain⟨lP,yX,D⟩:=qP;obtain⟨nS,AA,AB⟩:=tN;obtain⟨pN,By,JZ⟩:=vE;obtain⟨pO,BA,J0⟩:=vF;obtain⟨nU,AD,IL⟩:=tO;obtain⟨pP,BB,J1⟩:=vG;obtain⟨AY,K1,Uj⟩:=E4;obtain⟨GW,RZ,YI⟩:=Mn;obtain⟨RV,o,A⟩:=Wo;obtain⟨RW,l,z⟩:=Wp;obtain⟨GX,R0,YJ⟩:=Mp;obtain⟨AZ,K2,Uk⟩:=E5;obtain⟨GY,R1,YK⟩:=Mq;obtain⟨pQ,BC,BD⟩:=vH;obtain⟨uB,FY,Od⟩:=Ah;obtain⟨uC,FZ,Oe⟩:=Ai;obtain⟨lQ,yY,Gz⟩:=qQ;obtain⟨nV,AE,IM⟩:=tP;obtain⟨uD,F0,Of⟩:=Aj;obtain⟨pR,BE,J2⟩:=vI;obtain⟨pS,BF,J3⟩:=vJ;obtain⟨rQ,DK,Mw⟩:=yr;obtain⟨uE,F7,Og⟩:=Ak;obtain⟨kr,wV,wW⟩:=o8;obtain⟨nW,AF,IP⟩:=tQ;obtain⟨pT,BG,J4⟩:=vK;obtain⟨i9,tZ,CM⟩:=mF;obtain⟨ja,t8,CN⟩:=mG;obtain⟨nX,AG,IQ⟩:=tR;obtain⟨xY,IS,QJ⟩:=Cv;obtain⟨pU,BH,J5⟩:=vL;obtain⟨lR,yZ,y9⟩:=qR;obtain⟨rR,DL,DM⟩:=yt;obtain⟨xZ,IT,QK⟩:=Cw;obtain⟨x8,IU,QL⟩:=Cy;obtain⟨uF,Ga,Oh⟩:=Al;obtain⟨uG,Gb,Oi⟩:=Am;obtain⟨rS,DN,Mx⟩:=yu;obtain⟨x9,IV,QM⟩:=Cz;obtain⟨ya,IW,QN⟩:=CA;obtain⟨A0,K3,Ul⟩:=E6;obtain⟨yb,IX,QO⟩:=CB;have O:=RN (st:=i8) CF CG yv An rfl;obtain⟨rT,DO,My⟩:=yw;have C:=RN (st:=fz) vO vP pZ tS rfl;obtain⟨pV,BI,J6⟩:=vQ;obtain⟨lT,za,GA⟩:=qS;obtain⟨ku,wX,Fd⟩:=pe;obtain⟨yc,IY,QS⟩:=CH;obtain⟨jF,uL,DP⟩:=oq;obtain⟨lU,zb,GB⟩:=qU;obtain⟨fR,mS,wY⟩:=iW;obtain⟨jG,uM,DQ⟩:=ou;obtain⟨jb,t9,CO⟩:=mH;obtain⟨kB,wZ,Fe⟩:=pq;obtain⟨rV,DR,Mz⟩:=yx;obtain⟨lV,zc,GC⟩:=qV;obtain⟨uH,Gc,Oj⟩:=Ao;obtain⟨A1,K4,Um⟩:=E7;obtain⟨A2,K5,Uo⟩:=E8;obtain⟨A3,K6,Up⟩:=E9;obtain⟨uI,Gd,Ol⟩:=Aq;obtain⟨yd,IZ,QT⟩:=CI;obtain⟨ye,I0,QU⟩:=CJ;obtain⟨Mb,Ww,M⟩:=QF;obtain⟨Dq,Om,Wx⟩:=IB;obtain⟨Dr,Oo,Wy⟩:=IC;obtain⟨Dt,Oq,Wz⟩:=ID;obtain⟨NR,n,N⟩:=Wq;exact⟨⟨kT,nC,nD,nH,kU,wG,sN,s,jX,u,P,jY,kW,kX,jZ,kY,wH,Dn,NO,NP,R,wI,Dp,kZ,qd,qe,jm,j3,qg,k6,k7,nJ,qh,iP,j4,k8,gI,gJ,j5,sO,lg,jo,nK,sP,sQ,qi,qj,nL,sR,sU,wJ,sV,nM,ly,jq,iQ,sW,ir,jr,eB,iu,gK,iR,nO,ju,qk,wK,wL,wM,ql,sX,sY,Ib,zV,zW,zX,NQ,pL,rN,rO,rP,pM,AX,xX,lO,nP,nQ,lP,nS,pN,pO,nU,pP,AY,GW,RV,RW,GX,AZ,GY,pQ,uB,uC,lQ,nV,uD,pR,pS,rQ,uE,kr,nW,pT,i9,ja,nX,xY,pU,lR,rR,xZ,x8,uF,uG,rS,x9,ya,A0,yb,rT,pV,lT,ku,yc,jF,lU,fR,jG,jb,kB,rV,lV,uH,A1,A2,A3,uI,yd,ye,Mb,Dq,Dr,Dt,NR,q,(eN "post" "Net.post" (jC i8) (fQ i8) (aA i8) (.ref E) FP FQ FT FW T FU),p,(eN "pass_on" "Net.pass_on" (jC fz) (fQ fz) (aA fz) (.ref v) Ab Ac Ae Ag Z Af),F,e,j,i,k,d,f,g,a,w,I,pX,rW,rX,rY,nY,Y⟩,⟨⟨Bv,Bv.binds λ_ _ _ _ _ _=>RY λ_=>rfl,⟨V.Z6,Bw.at_,Bw.fn,V.kc⟩⟩,
  ⟨DH,DH.binds λ_ _ _ _ _ _=>Xv λ_ _ _ _=>rfl,Mt⟩,
  ⟨DI,DI.binds λ_ _ _ _ _ _=>EY λ_ _ _=>rfl,Mu⟩,
  ⟨DJ,DJ.binds λ_ _ _ _ _ _=>RY λ_=>rfl,Mv⟩,
  ⟨Bx,Bx.binds λ_ _ _ _ _ _=>RY λ_=>rfl,JY⟩,
  ⟨K0,K0.binds λ_ _ _ _ _ _=>el6 λ_ _ _ _ _ _=>rfl,Ui⟩,
  ⟨IJ,IJ.binds λ_ _ _ _ _ _=>el6 λ_ _ _ _ _ _=>rfl,QI⟩,
  ⟨yW,yW.binds λ_ _ _ _ _ _=>EX λ_ _=>rfl,⟨J.Z6,r.at_,r.fn,J.kc⟩⟩,
  ⟨Ay,Ay.binds λ_ _ _ _ _ _=>EX λ_ _=>rfl,IK⟩,
  ⟨Az,Az.binds λ_ _ _ _ _ _=>RY λ_=>rfl,L⟩,
  ⟨yX,yX.binds λ_ _ _ _ _ _=>RY λ_=>rfl,D⟩,
  ⟨AA,AA.binds λ_ _ _ _ _ _=>EY λ_ _ _=>rfl,⟨y.Z6,AB.at_,AB.fn,y.kc⟩⟩,
  ⟨By,By.binds λ_ _ _ _ _ _=>EX λ_ _=>rfl,JZ⟩,
  ⟨BA,BA.binds λ_ _ _ _ _ _=>RY λ_=>rfl,J0⟩,
  ⟨AD,AD.binds λ_ _ _ _ _ _=>RY λ_=>rfl,IL⟩,
  ⟨BB,BB.binds λ_ _ _ _ _ _=>EX λ_ _=>rfl,J1⟩,
  ⟨K1,K1.binds λ_ _ _ _ _ _=>EX λ_ _=>rfl,Uj⟩,
  ⟨RZ,RZ.binds λ_ _ _ _ _ _=>EY λ_ _ _=>rfl,YI⟩,
  ⟨o,o.binds λ_ _ _ _ _ _=>Xv λ_ _ _ _=>rfl,A⟩,
  ⟨l,l.binds λ_ _ _ _ _ _=>EY λ_ _ _=>rfl,z⟩,
  ⟨R0,R0.binds λ_ _ _ _ _ _=>EY λ_ _ _=>rfl,YJ⟩,
  ⟨K2,K2.binds λ_ _ _ _ _ _=>Xv λ_ _ _ _=>rfl,Uk⟩,
  ⟨R1,R1.binds λ_ _ _ _ _ _=>Xv λ_ _ _ _=>rfl,YK⟩,
  ⟨BC,BC.binds λ_ _ _ _ _ _=>EY λ_ _ _=>rfl,⟨Q.Z6,BD.at_,BD.fn,Q.kc⟩⟩,
  ⟨FY,FY.binds λ_ _ _ _ _ _=>EX λ_ _=>rfl,Od⟩,
  ⟨FZ,FZ.binds λ_ _ _ _ _ _=>EX λ_ _=>rfl,Oe⟩,
  ⟨yY,yY.binds λ_ _ _ _ _ _=>EX λ_ _=>rfl,Gz⟩,
  ⟨AE,AE.binds λ_ _ _ _ _ _=>EY λ_ _ _=>rfl,IM⟩,
  ⟨F0,F0.binds λ_ _ _ _ _ _=>EY λ_ _ _=>rfl,Of⟩,
  ⟨BE,BE.binds λ_ _ _ _ _ _=>RY λ_=>rfl,J2⟩,
  ⟨BF,BF.binds λ_ _ _ _ _ _=>EX λ_ _=>rfl,J3⟩,
  ⟨DK,DK.binds λ_ _ _ _ _ _=>EX λ_ _=>rfl,Mw⟩,
  ⟨F7,F7.binds λ_ _ _ _ _ _=>EY λ_ _ _=>rfl,Og⟩,
  ⟨wV,wV.binds λ_ _ _ _ _ _=>EX λ_ _=>rfl,⟨U.Z6,wW.at_,wW.fn,U.kc⟩⟩,
  ⟨AF,AF.binds λ_ _ _ _ _ _=>EY λ_ _ _=>rfl,IP⟩,
  ⟨BG,BG.binds λ_ _ _ _ _ _=>EY λ_ _ _=>rfl,J4⟩,
  ⟨tZ,tZ.binds λ_ _ _ _ _ _=>EX λ_ _=>rfl,CM⟩,
  ⟨t8,t8.binds λ_ _ _ _ _ _=>EY λ_ _ _=>rfl,CN⟩,
  ⟨AG,AG.binds λ_ _ _ _ _ _=>EX λ_ _=>rfl,IQ⟩,
  ⟨IS,IS.binds λ_ _ _ _ _ _=>EX λ_ _=>rfl,QJ⟩,
  ⟨BH,BH.binds λ_ _ _ _ _ _=>RY λ_=>rfl,J5⟩,
  ⟨yZ,yZ.binds λ_ _ _ _ _ _=>EY λ_ _ _=>rfl,⟨B.Z6,y9.at_,y9.fn,B.kc⟩⟩,
  ⟨DL,DL.binds λ_ _ _ _ _ _=>EY λ_ _ _=>rfl,⟨x.Z6,DM.at_,DM.fn,x.kc⟩⟩,
  ⟨IT,IT.binds λ_ _ _ _ _ _=>EX λ_ _=>rfl,QK⟩,
  ⟨IU,IU.binds λ_ _ _ _ _ _=>EX λ_ _=>rfl,QL⟩,
  ⟨Ga,Ga.binds λ_ _ _ _ _ _=>EX λ_ _=>rfl,Oh⟩,
  ⟨Gb,Gb.binds λ_ _ _ _ _ _=>EX λ_ _=>rfl,Oi⟩,
  ⟨DN,DN.binds λ_ _ _ _ _ _=>EY λ_ _ _=>rfl,Mx⟩,
  ⟨IV,IV.binds λ_ _ _ _ _ _=>EY λ_ _ _=>rfl,QM⟩,
  ⟨IW,IW.binds λ_ _ _ _ _ _=>EY λ_ _ _=>rfl,QN⟩,
  ⟨K3,K3.binds λ_ _ _ _ _ _=>EY λ_ _ _=>rfl,Ul⟩,
  ⟨IX,IX.binds λ_ _ _ _ _ _=>EY λ_ _ _=>rfl,QO⟩,
  O,
  (O.binds (ps:=["self","sender","to"]) (ds:=[.none]) (m:=2) rfl λ_ _ _ _ _ _ _=>EX λ_ _=>⟨_,rfl,rfl⟩),
  (O.binds (ps:=["self","sender","to"]) (ds:=[]) (m:=3) rfl λ_ _ _ _ _ _ _=>EY λ_ _ _=>⟨_,rfl,rfl⟩),
  ⟨CC,CD,yv⟩,
  ⟨DO,DO.binds λ_ _ _ _ _ _=>RY λ_=>rfl,My⟩,
  C,
  (C.binds (ps:=["self","at"]) (ds:=[.int 0 F]) (m:=1) rfl λ_ _ _ _ _ _ _=>RY λ_=>⟨_,rfl,rfl⟩),
  (C.binds (ps:=["self","at"]) (ds:=[]) (m:=2) rfl λ_ _ _ _ _ _ _=>EX λ_ _=>⟨_,rfl,rfl⟩),
  ⟨vM,vN,pZ⟩,
  ⟨BI,BI.binds λ_ _ _ _ _ _=>Xv λ_ _ _ _=>rfl,J6⟩,
  ⟨za,za.binds λ_ _ _ _ _ _=>Xv λ_ _ _ _=>rfl,GA⟩,
  ⟨wX,wX.binds λ_ _ _ _ _ _=>EY λ_ _ _=>rfl,Fd⟩,
  ⟨IY,IY.binds λ_ _ _ _ _ _=>Xv λ_ _ _ _=>rfl,QS⟩,
  ⟨uL,uL.binds λ_ _ _ _ _ _=>EY λ_ _ _=>rfl,DP⟩,
  ⟨zb,zb.binds λ_ _ _ _ _ _=>EX λ_ _=>rfl,GB⟩,
  ⟨mS,mS.binds λ_ _ _ _ _ _=>EX λ_ _=>rfl,wY⟩,
  ⟨uM,uM.binds λ_ _ _ _ _ _=>EX λ_ _=>rfl,DQ⟩,
  ⟨t9,t9.binds λ_ _ _ _ _ _=>EX λ_ _=>rfl,CO⟩,
  ⟨wZ,wZ.binds λ_ _ _ _ _ _=>EY λ_ _ _=>rfl,Fe⟩,
  ⟨DR,DR.binds λ_ _ _ _ _ _=>RY λ_=>rfl,Mz⟩,
  ⟨zc,zc.binds λ_ _ _ _ _ _=>EX λ_ _=>rfl,GC⟩,
  ⟨Gc,Gc.binds λ_ _ _ _ _ _=>EX λ_ _=>rfl,Oj⟩,
  ⟨K4,K4.binds λ_ _ _ _ _ _=>RY λ_=>rfl,Um⟩,
  ⟨K5,K5.binds λ_ _ _ _ _ _=>EX λ_ _=>rfl,Uo⟩,
  ⟨K6,K6.binds λ_ _ _ _ _ _=>EY λ_ _ _=>rfl,Up⟩,
  ⟨Gd,Gd.binds λ_ _ _ _ _ _=>EY λ_ _ _=>rfl,Ol⟩,
  ⟨IZ,IZ.binds λ_ _ _ _ _ _=>EY λ_ _ _=>rfl,QT⟩,
  ⟨I0,I0.binds λ_ _ _ _ _ _=>Xv λ_ _ _ _=>rfl,QU⟩,
  ⟨Ww,Ww.binds λ_ _ _ _ _ _=>EY λ_ _ _=>rfl,M⟩,
  ⟨Om,Om.binds λ_ _ _ _ _ _=>el7 λ_ _ _ _ _ _ _=>rfl,Wx⟩,
  ⟨Oo,Oo.binds λ_ _ _ _ _ _=>Xv λ_ _ _ _=>rfl,Wy⟩,
  ⟨Oq,Oq.binds λ_ _ _ _ _ _=>Xv λ_ _ _ _=>rfl,Wz⟩,
  ⟨n,n.binds λ_ _ _ _ _ _=>RY λ_=>rfl,N⟩,
  J.c,
  (cU X G E1),
  pA,
  yy,
  y.c,
  (cU X G Iz),
  qW,
  As,
  S.c,
  (cU X G IA),
  qX,
  Au,
  B.c,
  (cU X G E2),
  pB,
  qY,
  vR,
  oz,
  qZ,
  Q.c,
  (cU X G Ml),
  kH,
  kI,
  yz,
  yC,
  U.c,
  (cU X G Ct),
  rz,
  mJ,
  V.c,
  (cU X G Mm),
  yD,
  x.c,
  (cU X G QE),
  Aw,
  tT,
  j9,
  yE,
  yF,
  vS,
  vU,
  tU,
  vV,
  (cU X G tV),
  ⟨tW,L.fn,L.kp⟩,
  ⟨rA,D.fn,D.kp⟩,
  ⟨S.Z6,IG,r.fn,S.kc⟩,
  ⟨pC,pD,pF,r.kp⟩,
  (cU X G Fb),
  Fc,
  (cU X G CK),
  CL,
  (cU X G vW),
  (cU X G yG),
  (cU X G yH),
  (cU X G yI),
  (cU X G tX),
  (cU X G yJ),
  (λH=>.inr ⟨_,_,_,yK,rfl,rfl,nu,(.cons ⟨_,rfl⟩ (.cons ⟨_,rfl⟩ (.cons ⟨_,rfl⟩ .nil)))⟩),
  (c5 X G Wr),
  (c5 X G yM),
  (c5 X G Ws),
  (c5 X G QG),
  (c5 X G QH),
  (c5 X G Mr),
  (c5 X G Ms),
  (c5 X G Ax),
  (c5 X G Wt),
  (c5 X G Wu),
  (c5 X G Wv),
  (c5 X G II)⟩⟩
end fc
namespace fc
open PySem L2 TW PyProof.Rows
open RM (cT ki bu bq)
seal L2.PE L2.PA L2.PT L2.PW L2.PS L2.iX L2.PG L2.lJ L2.PI L2.lK
theorem bC{CX:S2}{P:Program}{w:World}{K:af}{d:Str->Option Value}{base:Heap}{N:List Str}{b:Str}{scope:Scope}{f:Addr}{c:Value}{A:Around}{a:List Env}{s:Shared}{H:Hp}{E:XK}:(oN CX P w K d base N b scope f c A a s H E).K=K:=rfl
local macro_rules|`(tactic|left)=>`(tactic|try dsimp only[bC])
section
variable{P:Program}{w:World}{K:af}{mg:Str->Option Value}{base:Heap}
inductive R3(vs:List V)(H:Hp)(Q:VK)(E:XK):Prop
 |mk (i:Int):vs=[.int i]->Q (.bl true) H->R3  vs H Q E
theorem CP{t:Ad}(T:Txt K mg t):ck P w K mg base iC 1 t.wK t.A1 ["_law_found"]  R3:=by
 refine T.A5.F.jE QA λH Q E a h=>?_
 ·obtain⟨i,rfl,k⟩:=h
  refine⟨_,(oR (Ls (cB M4 T.rZ boot_isinstance (mP (pv 0) (GL rfl T.aeJ boot_int (v:=.ty "int") rfl))) (PB (UU (cB M4 T.rZ boot_isinstance (mP (pv 0) (GL rfl T.ab4 boot_bool (v:=.ty "bool") rfl))))))),?_⟩
  left
  refine⟨_,rfl,_,_,_,_,rfl,.int _,rfl,_,rfl,fK ?_⟩;refine⟨_,rfl,_,_,_,_,rfl,.int _,rfl,_,rfl,?_⟩;exact k
inductive WA(K:af)(vs:List V)(H:Hp)(Q:VK)(E:XK):Prop
 |mk (a:Addr) (ns:List Int) (k:Int):vs=[.ref a,.int k]->bS K H a (ns.map V.int)->0<=k->Q (.int (ns.getD k.toNat 0)) H->WA K vs H Q E
theorem fE{t:Ad}(T:Txt K mg t):ck P w K mg base iC 1 t.qk t.uH ["_law_script","_law_k"]  (WA K):=by
 refine T.fN.F.jE L6 λH Q E g h=>?_
 ·obtain⟨a,ns,i,rfl,b,f,k⟩:=h
  refine⟨_,(ao (cy (qT oH (pv 1) (lS T.gm (pv 0))) (oR (xL (pv 0) (pv 1))) bz) (oR az)),?_⟩
  left
  refine⟨_,rfl,_,rfl,a,_,rfl,.inl b,_,_,rfl,rfl,_,rfl,?_⟩;refine iY (λc=>?_) (λc=>?_)
  ·have d:i<ns.length:=by simpa using c
   refine⟨_,rfl,_,rfl,a,_,_,_,rfl,rfl,b,VA f d,k⟩
  ·have d:¬i<ns.length:=by simpa using c
   have e:ns.getD i.toNat 0=0:=by
    rw[ak,ji ∅];rfl
   rw[e] at k;exact k
inductive R4(vs:List V)(H:Hp)(Q:VK)(E:XK):Prop
 |mk (n a b:Int):vs=[.int n,.int a,.int b]->0<=a->a<n->0<=b->b<n->a≠b->Q (.bl true) H->R4  vs H Q E
theorem MA{t:Ad}(T:Txt K mg t):ck P w K mg base iC 1 t.qh t.uE ["size","one","other"]  R4:=by
 refine T.FL.F.jE L3 λH Q E i h=>?_
 ·obtain⟨n,a,b,rfl,c,g,d,e,f,k⟩:=h
  refine⟨_,(oR (Ls (MT p7 oH az (pv 1) (pv 0)) (Ls (MT p7 oH az (pv 2) (pv 0)) (PB (qE we (pv 1) (pv 2)))))),?_⟩
  left
  refine⟨_,rfl,_,_,rfl,rfl,_,rfl,?_⟩;rw[e8 c];refine fK ⟨_,rfl,_,_,rfl,rfl,_,rfl,?_⟩;rw[e8 g];refine fK ⟨_,rfl,_,_,rfl,rfl,_,rfl,?_⟩;rw[e8 d];refine fK ⟨_,rfl,_,_,rfl,rfl,_,rfl,?_⟩;rw[e8 e];refine fK ⟨_,rfl,_,rfl,rfl,?_⟩;rw[ff (λz=>f (V.int.inj z))];exact k
inductive Ge(K:af)(vs:List V)(H:Hp)(Q:VK)(E:XK):Prop
 |mk (n:Int) (p:Addr) (a b c d e:Int):vs=[.int n,.ref p]->cN K H p (aen a b c d e)->VH n a b c d e->Q .fk H->Ge K vs H Q E
theorem J7{t:Ad}(T:Txt K mg t):ck P w K mg base iC 2 t.nJ t.rQ ["size","rope"]  (Ge K):=by
 refine T.Dy.F.jE JM λH Q E s h=>?_
 ·obtain⟨n,p,a,b,c,d,e,rfl,f,i,k⟩:=h
  obtain⟨r,m,o,x,j,y,u,l,q,g⟩:=i;refine⟨_,(ao (cy (qT we (lS T.gm (pv 1)) az) dZ bz) (ao (cy (iL (mZ (cG (MA T) s T.FL (KP (pv 0) (xT (pv 1) az) (xT (pv 1) az))))) dZ bz) (ao (cy (qT oH (xT (pv 1) az) az) dZ bz) (ao (cy (iL (jj p7 p7 az (xT (pv 1) az) (lI rfl T.Mf (v:=.int 4) ⟨_,rfl⟩))) dZ bz) (bA (cy (iL (jj p7 p7 az (xT (pv 1) az) (lI rfl T.Mg (v:=.int 7) ⟨_,rfl⟩))) dZ bz)))))),?_⟩
  left
  refine⟨_,rfl,p,_,rfl,.inr f,rfl,_,rfl,eG ?_⟩;refine⟨_,rfl,_,rfl,p,_,_,_,rfl,rfl,f,rfl,_,rfl,p,_,_,_,rfl,rfl,f,rfl,?_⟩;refine⟨_,_,_,rfl,r,m,o,x,j,_,rfl,eG ?_⟩;refine⟨_,rfl,p,_,_,_,rfl,rfl,f,rfl,_,_,rfl,rfl,_,rfl,?_⟩;rw[ff (show ¬c<1 by lia)];refine eG ?_;refine⟨_,rfl,p,_,_,_,rfl,rfl,f,rfl,_,_,rfl,rfl,_,rfl,?_⟩;rw[e8 u];refine fK ?_;refine⟨_,_,rfl,rfl,_,rfl,?_⟩;rw[e8 l];refine eG ?_;refine⟨_,rfl,p,_,_,_,rfl,rfl,f,rfl,_,_,rfl,rfl,_,rfl,?_⟩;rw[e8 q];refine fK ?_;refine⟨_,_,rfl,rfl,_,rfl,?_⟩;rw[e8 g];refine eG ?_;exact k
inductive DS(K:af)(vs:List V)(H:Hp)(Q:VK)(E:XK):Prop
 |mk (n:Int) (l:Addr) (rs:List R5):vs=[.int n,.ref l]->Ho K H l rs->rs.length<=20->(∀r∈rs,r.Ok n)->Q .fk H->DS K vs H Q E
theorem Ja{t:Ad}(T:Txt K mg t):ck P w K mg base iC 3 t.k7 t.pS ["size","ropes"]  (DS K):=by
 refine T.Bt.F.jE zN λH Q E z h=>?_
 ·obtain⟨n,l,g,rfl,u,B,q,k⟩:=h
  obtain⟨d,f,A,x⟩:=u.at;refine⟨_,(ao (cy (qT Rm (lS T.gm (pv 1)) (lI rfl T.Me (v:=.int 20) ⟨_,rfl⟩)) dZ bz) (bA (fS (fq (pv 1)) (gT 2 zN) (oE (cG (J7 T) z T.Dy (mP (pv 0) (pv 2))))))),?_⟩
  left
  refine⟨_,rfl,l,_,rfl,.inl f,_,_,rfl,rfl,_,rfl,?_⟩;rw[ff (show ¬(20:Int)<d.length by lia)];refine eG ?_;refine⟨_,rfl,l,rfl,⟨_,f⟩,wc (K:=K) (a:=l) (xs:=d) (λi c b=>b=H/\∃v,c=[some (.int n),some (.ref l),v]) ⟨rfl,_,rfl⟩ (λi c b _ ⟨e,_⟩=>by rw[e];exact f) ?_ ?_⟩
  ·rintro i y c b o ⟨rfl,v,rfl⟩
   have r:i<d.length:=(ai.mp o).1;have m:g[i]?=some g[i]:=-_
   obtain⟨p,j,s⟩:=x i _ m;rw[o] at j;cases j;refine⟨_,rfl,_,rfl,n,p,_,_,_,_,_,rfl,s,q _ (aG m),rfl,_,rfl⟩
  ·rintro c b ⟨rfl,v,rfl⟩
   exact k
inductive DT(K:af)(vs:List V)(H:Hp)(Q:VK)(E:XK):Prop
 |mk (l:Addr) (ns:List Int):vs=[.ref l]->bS K H l (ns.map V.int)->1<=ns.length->ns.length<=10->(∀n∈ns,0<=n)->ns.Nodup->(∀H',aD H H'->Q .fk H')->DT K vs H Q E
theorem Jb{t:Ad}(T:Txt K mg t):ck P w K mg base iC 1 t.k6 t.pR ["names"]  (DT K):=by
 refine T.Bs.F.jE HX λH Q E r h=>?_
 ·obtain⟨l,ns,rfl,a,q,n,d,j,k⟩:=h
  refine⟨_,(ao (cy (iL (jj p7 p7 az (lS T.gm (pv 0)) (lI rfl T.JS (v:=.int 10) ⟨_,rfl⟩))) dZ bz) (ao (cy (qT oH (cB (Tq rfl) T.aeK boot_min (gj (pv 0))) az) dZ bz) (bA (cy (qT we (cB To T.gm PySem.boot_len (gj (iM (Tn rfl) (by rfl) T.aad boot_set (gj (pv 0))))) (lS T.gm (pv 0))) dZ bz)))),?_⟩
  left
  refine⟨_,rfl,l,_,rfl,.inl a,_,_,rfl,rfl,_,rfl,?_⟩;rw[e8 (show (1:Int)<=(ns.map V.int).length by rw[ah];lia)];refine fK ?_;refine⟨_,_,rfl,rfl,_,rfl,?_⟩;rw[e8 (show ((ns.map V.int).length:Int)<=10 by rw[ah];lia)];refine eG ?_;refine⟨_,rfl,l,ns,rfl,a,∅,λm g e=>?_⟩;refine⟨_,_,rfl,rfl,_,rfl,?_⟩;rw[ff (show ¬m<0 by have:=d m g;lia)];refine eG ?_;refine⟨_,rfl,l,ns,rfl,a,bI (show ns.length+1<100 by lia) (!_),λp b=>?_⟩;have f:=aD.new (o:=.set (λc=>(firstMet (λi=>ns.getD i 0) ns.length).any (·==c)) (firstMet (λi=>ns.getD i 0) ns.length).length) b;refine⟨p,_,_,rfl,au,_,rfl,l,_,rfl,.inl (f.seq a),rfl,_,rfl,?_⟩;rw[Hq ns j,ah];simp only[decide_true,Bool.not_true];refine eG ?_;exact k _ (aD.new b)
inductive WB(K:af)(C:Addr)(vs:List V)(H:Hp)(Q:VK)(E:XK):Prop
 |mk (p dx l1 l2:Addr) (ns:List Int) (rs:List R5):vs=[.ref p,.ref l1,.ref l2]->H p=some (.ins C dx [])->bS K H l1 (ns.map V.int)->Ho K H l2 rs->1<=ns.length->ns.length<=10->(∀n∈ns,0<=n)->ns.Nodup->rs.length<=20->(∀r∈rs,r.Ok ns.length)->(∀ln lr H',H ln=none->H lr=none->cX K C H' p ln lr ns rs->(∀b o,H b=some o->b≠p->H' b=some o)->Q .fk H')->WB K C vs H Q E
theorem Jc{t:Ad}(T:Txt K mg t):ck P w K mg base iC 4 t.kZ t.pQ ["self","names","ropes"]  (WB K t.bh):=by
 refine T.Br.F.jE HW λH Q E hr h=>?_
 ·obtain⟨p,f,y,z,ns,rs,rfl,hp,M,hR,h1,h2,h3,h4,h5,h6,k⟩:=h
  refine⟨_,(ao (dS (cG (Jb T) hr T.Bs (gj (pv 1)))) (ao (dS (cG (Ja T) hr T.Bt (mP (lS T.gm (pv 1)) (pv 2)))) (ao (fJ (pv 0) (iM ic (by rfl) T.vA boot_list (gj (pv 1))) rfl) (ao (fJ (pv 0) (iM ic (by rfl) T.vA boot_list (gj (pv 2))) rfl) (ao (fJ (pv 0) (lS T.gm (pv 1)) rfl) (bA (fJ (pv 0) (lS T.gm (pv 2)) rfl))))))),?_⟩
  left
  refine⟨_,rfl,y,ns,rfl,M,h1,h2,h3,h4,λY r=>?_⟩;refine⟨_,rfl,y,_,rfl,.inl (r.seq M),?_⟩;refine⟨_,rfl,(ns.length:Int),z,rs,-_,hR.mono r,h5,h6,?_⟩;have d:=r _ _ hp;have O:=hR.mono r;have A:=r.seq M;obtain⟨_,g,e,hq,UL⟩:=id O;cases e;refine⟨_,rfl,y,_,rfl,.inl A,λc N=>?_⟩;have m:p≠c:=aJ d N;have s2:=aD.new (o:=.lst (ns.map V.int)) N;refine⟨_,rfl,p,_,f,[],rfl,s2 _ _ d,T.fh,T.tH,!_,?_⟩;rw[dH (names:=[]) rfl rfl];generalize n:upd (upd Y c (.lst (ns.map V.int))) p (.ins t.bh f ([]++[(Str.ofString "house_names",V.ref c)]))=H2;have J:∀b o,Y b=some o->b≠p->H2 b=some o:=λb o e a=>by rw[<- n,aC a];exact s2 _ _ e
  have i:H2 p=some (.ins t.bh f [(Str.ofString "house_names",V.ref c)]):=by rw[<- n];exact au
  have U:H2 c=some (.lst (ns.map V.int)):=by rw[<- n,aC (bM m),au]
  have fr2:∀{b:Addr},Y b=none->b≠p->b≠c->H2 b=none:=λ{b} e n1 n2=>by rw[<- n,aC n1,aC n2];exact e
  have hL2:bS K H2 y (ns.map V.int):=AQ (λb o e a=>J b o e a) d A;have I:bS K H2 z g:=AQ (λb o e a=>J b o e a) d hq;have S:c6 K H2 (rs.map R5.D) g:=jW (λb o e a=>J b o e a) d UL;refine⟨_,rfl,z,_,rfl,.inl I,λj v=>?_⟩;have l:p≠j:=aJ i v;have s3:=aD.new (o:=.lst g) v;refine⟨_,rfl,p,_,f,_,rfl,s3 _ _ i,T.fh,T.gM,(by show 1<1000;decide),?_⟩;rw[dH (names:=["house_names"]) rfl (by decide +kernel)];generalize x:upd (upd H2 j (.lst g)) p (.ins t.bh f ([(Str.ofString "house_names",V.ref c)]++[(Str.ofString "rope_tuples",V.ref j)]))=H3;have B:∀b o,H2 b=some o->b≠p->H3 b=some o:=λb o e a=>by rw[<- x,aC a];exact s3 _ _ e
  have s:H3 p=some (.ins t.bh f [(Str.ofString "house_names",V.ref c),(Str.ofString "rope_tuples",V.ref j)]):=by rw[<- x];exact au
  have X:H3 j=some (.lst g):=by rw[<- x,aC (bM l),au]
  have R:=B _ _ U (bM m);have W:bS K H3 y (ns.map V.int):=AQ B i hL2;have hq3:bS K H3 z g:=AQ B i I;have ahV:c6 K H3 (rs.map R5.D) g:=jW B i S;refine⟨_,rfl,y,_,rfl,.inl W,_,rfl,p,_,f,_,rfl,s,T.fh,T.mR,(by show 2<1000;decide),?_⟩;rw[dH (names:=["house_names","rope_tuples"]) rfl (by decide +kernel)];generalize G:upd H3 p (.ins t.bh f ([(Str.ofString "house_names",V.ref c),(Str.ofString "rope_tuples",V.ref j)]++[(Str.ofString "size",V.int ((ns.map V.int).length:Nat))]))=H4;have C:∀b o,H3 b=some o->b≠p->H4 b=some o:=λb o e a=>by rw[<- G,aC a];exact e
  have UM:H4 p=some (.ins t.bh f [(Str.ofString "house_names",V.ref c),(Str.ofString "rope_tuples",V.ref j),(Str.ofString "size",V.int ((ns.map V.int).length:Nat))]):=by rw[<- G];exact au
  have hq4:bS K H4 z g:=AQ C s hq3;have ahW:c6 K H4 (rs.map R5.D) g:=jW C s ahV;refine⟨_,rfl,z,_,rfl,.inl hq4,_,rfl,p,_,f,_,rfl,UM,T.fh,T.uK,(by show 3<1000;decide),?_⟩;rw[dH (names:=["house_names","rope_tuples","size"]) rfl (by decide +kernel)];have L:∀b o,H4 b=some o->b≠p->∀u,(upd H4 p u) b=some o:=λb o e a u=>by rw[aC a];exact e
  have Z:g.length=rs.length:=by rw[UL.length,ah]
  refine k c j _ (r.free N) ?_ ⟨⟨f,?_⟩,?_,g,?_,jW (λb o e a=>L b o e a _) UM ahW⟩ ?_
  ·cases q:H j with
   |none=>rfl
   |some o =>
    have:=J j o (r _ _ q) (λe=>l e.symm)
    rw[v] at this;cases this
  ·rw[au,Z,ah]
   rfl
  ·exact L _ _ (C _ _ R (bM m)) (bM m) _
  ·exact L _ _ (C _ _ X (bM l)) (bM l) _
  ·exact λb o e a=>L _ _ (C _ _ (B _ _ (J _ _ (r _ _ e) a) a) a) a _
inductive WC(K:af)(C:Addr)(vs:List V)(H:Hp)(Q:VK)(E:XK):Prop
 |mk (p ln lr:Addr) (ns:List Int) (rs:List R5) (i:Nat) (n:Int):vs=[.ref p,.int i]->cX K C H p ln lr ns rs->ns[i]?=some n->Q (.int n) H->WC K C vs H Q E
theorem MB{t:Ad}(T:Txt K mg t):ck P w K mg base iC 1 t.qd t.uB ["self","house"]  (WC K t.bh):=by
 refine T.FJ.F.jE LZ λH Q E o h=>?_
 ·obtain⟨p,e,q,m,l,i,n,rfl,a,d,k⟩:=h
  obtain⟨⟨g,f⟩,b,j,c,r⟩:=id a;refine⟨_,(oR (xL (aU (pv 0) rfl) (pv 1))),?_⟩
  left
  refine⟨_,rfl,p,_,g,_,_,rfl,f,T.fh,T.tH,rfl,_,rfl,e,_,_,_,rfl,rfl,bS.of b,dM (v:=V.int n) (by rw[aj,d];rfl),k⟩
inductive WD(K:af)(C:Addr)(vs:List V)(H:Hp)(Q:VK)(E:XK):Prop
 |mk (p ln lr:Addr) (ns:List Int) (rs:List R5) (i:Nat) (r:R5):vs=[.ref p,.int i]->cX K C H p ln lr ns rs->rs[i]?=some r->(∀q,H q=some (.tup r.vs)∨cN K H q r.vs->Q (.ref q) H)->WD K C vs H Q E
theorem DU{t:Ad}(T:Txt K mg t):ck P w K mg base iC 1 t.qe t.uC ["self","number"]  (WD K t.bh):=by
 refine T.z6.F.jE L0 λH Q E x h=>?_
 ·obtain⟨p,y,f,ns,u,i,r,rfl,b,j,k⟩:=h
  obtain⟨⟨n,l⟩,o,s,a,m⟩:=id b;obtain⟨v,g,c⟩:=m.get (i:=i) (d:=r.D) (by rw[aj,j];rfl);obtain⟨q,e,hq⟩:=Rep.zx (ns:=r.ns) c;subst e;refine⟨_,(oR (xL (aU (pv 0) rfl) (pv 1))),?_⟩
  left
  exact⟨_,rfl,p,_,n,_,_,rfl,l,T.fh,T.gM,rfl,_,rfl,f,_,_,_,rfl,rfl,bS.of a,dM g,k q (.inr hq)⟩
inductive aaj(K:af)(C:Addr)(vs:List V)(H:Hp)(Q:VK)(E:XK):Prop
 |mk (p ln lr:Addr) (ns:List Int) (rs:List R5) (i:Nat) (r:R5) (h:Int):vs=[.ref p,.int i,.int h]->cX K C H p ln lr ns rs->rs[i]?=some r->Q (.int (if h=r.a then r.b else r.a)) H->aaj K C vs H Q E
theorem rC{t:Ad}(T:Txt K mg t):ck P w K mg base iC 1 t.j3 t.nV ["self","rope","house"]  (aaj K t.bh):=by
 refine T.n9.F.jE yR λH Q E B h=>?_
 ·obtain⟨p,C,l,ns,A,i,r,x,rfl,g,n,k⟩:=h
  obtain⟨⟨u,o⟩,y,z,b,s⟩:=id g;obtain⟨v,m,j⟩:=s.get (i:=i) (d:=r.D) (by rw[aj,n];rfl);obtain⟨q,e,hq⟩:=Rep.zx (ns:=r.ns) j;subst e;refine⟨_,(ao (sS 3 yR (xL (aU (pv 0) rfl) (pv 1))) (oR (zm (qT rD (pv 2) (xT (pv 3) az)) (xT (pv 3) az) (xT (pv 3) az)))),?_⟩
  left
  refine⟨_,rfl,p,_,u,_,_,rfl,o,T.fh,T.gM,rfl,_,rfl,l,_,_,_,rfl,rfl,bS.of b,dM m,?_⟩;refine⟨_,rfl,_,rfl,q,_,_,_,rfl,rfl,hq,rfl,rfl,_,rfl,?_⟩;refine iY (λc=>?_) (λc=>?_)
  ·have f:x=r.a:=by simpa using c
   rw[ee f] at k;exact⟨_,rfl,q,_,_,_,rfl,rfl,hq,rfl,k⟩
  ·have f:¬x=r.a:=by simpa using c
   rw[eH f] at k;exact⟨_,rfl,q,_,_,_,rfl,rfl,hq,rfl,k⟩
inductive aeQ(K:af)(C:Addr)(vs:List V)(H:Hp)(Q:VK)(E:XK):Prop
 |mk (p ln lr:Addr) (ns:List Int) (rs:List R5) (h:Int):vs=[.ref p,.int h]->cX K C H p ln lr ns rs->rs.length<=20->(∀l H',aD H H'->H l=none->H' l=some (.lst (bw (UJ rs h rs.length)))->Q (.ref l) H')->aeQ K C vs H Q E
theorem pG{t:Ad}(T:Txt K mg t):ck P w K mg base iC 1 t.jm t.lQ ["self","house"]  (aeQ K t.bh):=by
 refine T.lX.F.jE wC λH Q E hr h=>?_
 ·obtain⟨p,ln,lr,ns,rs,x,rfl,X,vX,k⟩:=h
  obtain⟨⟨dx,hp⟩,hn,z,g,U⟩:=id X;have G:z.length=rs.length:=by rw[U.length,ah]
  refine⟨_,(oR (gQ (kO wC ["number","rope","house"] [none,none,some 1]) rfl (XU rfl T.NX (gj (aU (pv 0) rfl))) (λ_ _ _ _=>by exact (RE K rfl (n:=2) rfl (m5 (gS 0 rF) (m5 (gS 1 rF) GN)))) (λ_ _ _ _=>by exact (rJ (iE (Hi K rfl) (pv 2) (gD (mP (yT K (pv 1) az) (yT K (pv 1) az))) (by with_unfolding_all rfl)))) (λ_ _ _ _=>by exact (pv 0)))),?_⟩
  left
  refine⟨_,rfl,p,_,dx,_,_,rfl,hp,T.fh,T.gM,rfl,lr,z,rfl,bS.of g,λj f=>?_⟩;refine gR (n:=z.length) (λi m _=>m=bw (UJ rs x i)) f (abr (bS.of g)) (Vz (bS.of g)) rfl ?_ ?_
  ·rintro i m A N l B r y H3 ⟨q,v,hq,rfl,rfl,hv⟩
   have C:=hv z (l.seq (bS.of g));have M:rs[i]?=some rs[i]:=-_
   obtain⟨v',u,Y⟩:=U.get (i:=i) (d:=(rs[i]).D) (by rw[aj,M];rfl);rw[C] at u;cases u;obtain⟨b,e,hb⟩:=Rep.zx (ns:=(rs[i]).ns) Y;subst e;have s:=(l.out (o:=.tup [.int (i:Nat),.ref b]) (l.free hq)).dj hb;have W:j≠q:=aJ B hq;refine⟨q,_,rfl,cN.of au,rfl,_,_,rfl,_,_,rfl,rfl,?_⟩;refine⟨_,rfl,_,rfl,b,_,_,_,rfl,rfl,s,rfl,_,rfl,b,_,_,_,rfl,rfl,s,rfl,fO,λc L=>?_⟩;refine⟨c,_,rfl,.inr (cN.of au),rfl,rfl,_,rfl,?_⟩;have Z:LB (V.int x) [V.int rs[i].a,V.int rs[i].b]=isAt rs x i:=by
    unfold isAt;rw[M];exact LH _ _ _
   have J:=l.out (o:=.tup [.int (i:Nat),.ref b]) (l.free hq);have R:=J.out (o:=.tup [V.int rs[i].a,V.int rs[i].b]) (J.free L);have O:(upd (upd A q (HO.tup [V.int (i:Nat),V.ref b])) c (HO.tup [V.int rs[i].a,V.int rs[i].b])) j=some (.lst m):=by
    have S:(upd A q (HO.tup [V.int (i:Nat),V.ref b])) j=some (.lst m):=by rw[aC W];exact B
    rw[aC (aJ S L)];exact S
   try dsimp only
   rw[eH aB,Z];have hl:m.length<sizeLine:=by rw[r,ah];exact bQ (aF (Yo rs x i) ∅) (bX (av _))
   refine iY (λI=>?_) (λI=>?_)
   ·exact⟨_,rfl,fj f N R O hl (by rw[r,Nb,ee I,iy])⟩
   ·exact kh N R O (by rw[r,Nb,eH I,cW])
  ·intro m A l B r
   rw[G] at r;exact k j A l f (by rw[B,r])
inductive Ot(K:af)(C:Addr)(vs:List V)(H:Hp)(Q:VK)(E:XK):Prop
 |mk (p ln lr:Addr) (ns:List Int) (rs:List R5) (i:Nat) (n:Int):vs=[.ref p,.int i]->cX K C H p ln lr ns rs->ns[i]?=some n->(∀q H',aD H H'->cN K H' q (cT ⟨n,0,0,-1⟩)->Q (.ref q) H')->Ot K C vs H Q E
theorem Jd{t:Ad}(T:Txt K mg t):ck P w K mg base iC 2 t.wH t.AY ["town","house"]  (Ot K t.bh):=by
 refine T.EV.F.jE Qz λH Q E d h=>?_
 ·obtain⟨p,g,e,c,b,i,n,rfl,a,f,k⟩:=h
  obtain⟨⟨l,j⟩,_,_,_⟩:=id a;refine⟨_,(oR (gD (Xr (cM (pv 0) T.fh T.FJ (MB T) d (gj (pv 1))) az az mY))),?_⟩
  left
  refine⟨_,rfl,p,l,_,rfl,j,rfl,_,rfl,p,g,e,c,b,i,n,rfl,a,f,Tj,λq hq=>?_⟩;exact k q _ (aD.new hq) (cN.of au)
inductive R6(K:af)(C:Addr)(vs:List V)(H:Hp)(Q:VK)(E:XK):Prop
 |mk (p ln lr:Addr) (ns:List Int) (rs:List R5) (i:Nat) (x:R5) (a:Addr) (r:RM.Row):vs=[.ref p,.ref a,.int i]->cX K C H p ln lr ns rs->rs[i]?=some x->cN K H a (cT r)->(¬r.ho+1<ns.length->∀H',aD H H'->Q .fk H')->(r.ho+1<ns.length->∀q H',aD H H'->cN K H' q (cT ⟨r.hd,r.co+x.c,r.ho+1,i⟩)->Q (.ref q) H')->R6 K C vs H Q E
theorem Ou{t:Ad}(T:Txt K mg t):ck P w K mg base iC 2 t.Dn t.GW ["town","row","rope"]  (R6 K t.bh):=by
 refine T.Mc.F.jE NF λH Q E n h=>?_
 ·obtain⟨p,y,o,ns,l,i,x,a,r,rfl,f,v,d,A,m⟩:=h
  obtain⟨⟨j,g⟩,_,_,_⟩:=id f;refine⟨_,(ao (sS 3 NF (be f9 (xT (pv 1) az) az)) (ao (cy (qT adX (pv 3) (aU (pv 0) rfl)) (oR mY) bz) (oR (gD (Xr (xT (pv 1) az) (be f9 (xT (pv 1) az) (xT (cM (pv 0) T.fh T.z6 (DU T) n (gj (pv 2))) az)) (pv 3) (pv 2)))))),?_⟩
  left
  refine⟨_,rfl,a,_,_,_,rfl,rfl,d,rfl,_,_,rfl,rfl,?_⟩;refine⟨_,rfl,_,rfl,p,_,j,_,_,rfl,g,T.fh,T.mR,rfl,_,_,rfl,rfl,_,rfl,?_⟩;refine iY (λe=>?_) (λe=>?_)
  ·have k:(ns.length:Int)<=r.ho+1:=gn e
   exact A ∅ _ (aD.refl _)
  ·have k:¬(ns.length:Int)<=r.ho+1:=of_decide_eq_false (eq_false_of_ne_true e)
   refine⟨_,rfl,a,_,_,_,rfl,rfl,d,rfl,_,rfl,a,_,_,_,rfl,rfl,d,rfl,_,rfl,p,j,_,rfl,g,rfl,_,rfl,p,y,o,ns,l,i,x,rfl,f,v,λq hq=>?_⟩;have b:cN K H q x.vs:=hq.elim (λz=>cN.of z) id;refine⟨q,_,_,_,rfl,rfl,b,rfl,_,_,rfl,rfl,_,rfl,_,rfl,Tj,λu s=>?_⟩;refine m ∅ u _ (aD.new s) (cN.of ?_);rw[au];show some (HO.tup [.int r.hd,.int (r.co+x.c),.int (r.ho+1),.int (i:Int)])=some (HO.tup [.int r.hd,.int (r.co+x.c),.int (r.ho+1),ki (i:Int)]);rw[bq ∅]
inductive aak(K:af)(C:Addr)(vs:List V)(H:Hp)(Q:VK)(E:XK):Prop
 |mk (p ln lr c b:Addr) (ns:List Int) (rs:List R5) (live:List Nat) (nd:ns.Nodup) (ok:∀r∈rs,r.Ok ns.length) (hl:∀k∈live,k<rs.length) (R:Nat->RM.Row) (h:Nat):vs=[.ref p,.ref c,.ref b,.int h]->cX K C H p ln lr ns rs->bS K H c (bw live)->xC K H b ns.length R->h<ns.length->rs.length<=20->RM.Sane (aY ns rs live nd ok hl) R->(∀q d H',aD H H'->cN K H' q (cT d)->RM.VG (N:=aY ns rs live nd ok hl) ns.length R h d->Q (.ref q) H')->aak K C vs H Q E
theorem ab7{t:Ad}(T:Txt K mg t):ck P w K mg base iC 3 t.NO t.RV ["town","live","rows","house"]  (aak K t.bh):=by
 refine T.aaa.F.jE HU λH Q E hr h=>?_
 ·obtain⟨p,ln,lr,c,b,ns,rs,e,n,m,i,R,x,rfl,hT,hC,hR,hx,vX,aby,k⟩:=h
  obtain⟨⟨dx,hp⟩,_,_,_⟩:=id hT;obtain⟨ps,hP,ePs,YL⟩:=hR;have enm:(aY ns rs e n m i).nm x=ns[x]:=by show ns.getD x 0=_;simp[ak,hx]
  refine⟨_,(ao (sS 4 HU (cG (Jd T) hr T.EV (mP (pv 0) (pv 3)))) (ao (fS (fq (cM (pv 0) T.fh T.lX (pG T) hr (gj (pv 3)))) (gT 5 HU) (bA (cy (iE oO (pv 5) (pv 1) (by with_unfolding_all rfl)) (ao (sS 6 HU (cG (Ou T) hr T.Mc (KP (pv 0) (xL (pv 2) (cM (pv 0) T.fh T.n9 (rC T) hr (mP (pv 5) (pv 3)))) (pv 5)))) (bA (cy (PW.pt (G3 (qT Lv (pv 6) mY) (C2 (qT (abw (Nat.lt_of_succ_lt (M3 hr))) (sy Em (pv 6) C8 (pK az)) (sy Em (pv 4) C8 (pK az)))))) (bA (sS 4 HU (pv 6))) bz))) bz))) (oR (pv 4)))),?_⟩
  left
  refine⟨_,rfl,_,rfl,p,ln,lr,ns,rs,x,ns[x],rfl,hT,aa hx,λp0 H0 s0 hp0=>?_⟩;have hown:cN K H0 p0 (cT (RM.own (aY ns rs e n m i) x)):=by unfold RM.own;rw[enm];exact hp0
  refine⟨_,rfl,p,dx,_,rfl,s0 _ _ hp,rfl,_,rfl,p,ln,lr,ns,rs,x,rfl,hT.mono s0,vX,λl H1 s1 Py X=>?_⟩;have s01:=s0.trans s1;refine⟨l,rfl,⟨_,bS.of X⟩,?_⟩;generalize U:UJ rs (x:Int) rs.length=v at X;refine wc (K:=K) (a:=l) (xs:=bw v) (λj σ Z=>aD H1 Z/\∃(q:Addr) (d:RM.Row) (v5 v6:Option V),σ=[some (.ref p),some (.ref c),some (.ref b),some (.int x),some (.ref q),v5,v6]/\cN K Z q (cT d) /\
   (d=RM.own (aY ns rs e n m i) x∨∃f g,f∈v.take j/\RM.GR (aY ns rs e n m i) f x g/\(R g).ho+1<ns.length/\d=RM.over (aY ns rs e n m i) f (R g))/\RM.le d (RM.own (aY ns rs e n m i) x) /\
   ∀f g,f∈v.take j->RM.GR (aY ns rs e n m i) f x g->(R g).ho+1<ns.length->RM.le d (RM.over (aY ns rs e n m i) f (R g)))
   ⟨aD.refl _,p0,RM.own (aY ns rs e n m i) x,_,_,rfl,s1.dj hown,.inl rfl,RM.le_refl _,λf g he=>by simp at he⟩ (λj σ Z _ z=>bS.of (z.1 _ _ X)) ?_ ?_
  ·rintro j y σ Z hj ⟨s2,q,d,v5,v6,rfl,hq,d1,d2,W⟩
   have D:j<v.length:=by
    have:=(ai.mp hj).1
    rw[ah] at this;exact this
   rw[aj,aa D] at hj;cases hj;have et:v.take (j+1)=v.take j++[v[j]]:=by rw[oF,aa D];rfl
   have Y:v[j]∈v:=aK D;have aal:∀A∈v.take j,A<v[j]:=λA s=>Yp (U▸VL rs (x:Int) rs.length) D s;have J:(d=RM.own (aY ns rs e n m i) x∨∃f g,f∈v.take j++[v[j]]/\RM.GR (aY ns rs e n m i) f x g/\(R g).ho+1<ns.length/\d=RM.over (aY ns rs e n m i) f (R g)):=d1.imp id λ⟨a1,a2,a3,a4⟩=>⟨a1,a2,gX _ a3,a4⟩;rw[et];show gU 5 (V.int ((v[j]:Nat):Int)) _ _ _;generalize v[j]=f at Y aal J;rw[<- U,AR] at Y;obtain⟨hkl,hat⟩:=Y;have YM:=s01.trans s2;refine⟨_,rfl,_,rfl,c,_,rfl,.inl (YM.seq hC),rfl,mO e,_,rfl,?_⟩
   try dsimp only
   rw[eH aB,wm];refine iY (λM=>?_) (λM=>?_)
   case refine_2 =>
    have M:f∉e:=λz=>M (e8 z);refine⟨s2,q,d,_,_,rfl,hq,J,d2,λA g s AO N=>?_⟩;rcases bG.mp s with z|z
    ·exact W A g z AO N
    ·rw[aS.mp z] at AO
     exact eL AO.1 M
   have M:f∈e:=gn M;have S:rs[f]?=some rs[f]:=aa hkl;have AO:RM.GR (aY ns rs e n m i) f x (fL rs[f] x):=(uu M).mpr ⟨hat,rfl⟩;have hgn:fL rs[f] x<ns.length:=AO.lt.2.1;have hgs:=aby _ hgn;have WG:(if (x:Int)=rs[f].a then rs[f].b else rs[f].a)=((fL rs[f] x:Nat):Int):=by
    have o:=m _ (aK hkl);have h1:=o.a0;have h2:=o.b0;unfold fL;split <;> lia
   have WH:(aY ns rs e n m i).c f=rs[f].c:=by show ((rs[f]?).map λr=>r.c).getD 0=_;rw[S];rfl
   have fu:∀g,RM.GR (aY ns rs e n m i) f x g->g=fL rs[f] x:=λg a=>((uu M).mp a).2;generalize fL rs[f] x=g at AO hgn hgs WG fu;have hpg:ps[g]?=some ps[g]:=aa ∅;have ab8:Eo (ps.map V.ref) (if (x:Int)=rs[f].a then rs[f].b else rs[f].a)=some (.ref ps[g]):=by rw[WG];exact dM (by rw[aj,hpg];rfl)
   have hrg:=YM.dj (YL g _ hpg);refine⟨_,rfl,_,rfl,_,rfl,p,dx,_,rfl,YM _ _ hp,rfl,_,rfl,_,rfl,p,ln,lr,ns,rs,f,rs[f],x,rfl,hT.mono YM,S,b,_,_,_,rfl,rfl,YM.seq hP,ab8,_,rfl,?_⟩;refine⟨p,ln,lr,ns,rs,f,rs[f],ps[g],R g,rfl,hT.mono YM,S,hrg,λN H3 s3=>?_,λN u H3 s3 hu=>?_⟩
   ·refine⟨_,rfl,rfl,_,rfl,eG (eG ?_)⟩
    refine⟨s2.trans s3,q,d,_,_,rfl,s3.dj hq,J,d2,λA G s C O=>?_⟩;rcases bG.mp s with z|z
    ·exact W A G z C O
    ·rw[aS.mp z] at C
     rw[fu G C] at O;exact eL O N
   have eov:(⟨(R g).hd,(R g).co+rs[f].c,(R g).ho+1,f⟩:RM.Row)=RM.over (aY ns rs e n m i) f (R g):=by unfold RM.over;rw[WH]
   rw[eov] at hu;have L:=s3.dj hq;have I:=s2.trans s3;refine⟨_,rfl,rfl,_,rfl,fK ?_⟩;have lex:Hl [V.int (RM.over (aY ns rs e n m i) f (R g)).hd,V.int (RM.over (aY ns rs e n m i) f (R g)).co,V.int (RM.over (aY ns rs e n m i) f (R g)).ho] [V.int d.hd,V.int d.co,V.int d.ho] (decide (RM.lt (RM.over (aY ns rs e n m i) f (R g)) d)):=RM.Yi (by
    rcases d1 with z|⟨A,G,s,_,_,z⟩
    ·rw[z]
     intro _ _ e3
     have:(R g).ho+1=0:=e3
     lia
    ·have hlt':=aal A s
     rw[z];intro e1 e2 e3 e4;rcases e4 with e4|⟨_,e4|⟨_,e4|⟨_,e4⟩⟩⟩
     ·lia
     ·lia
     ·lia
     ·have:((f:Nat):Int)<((A:Nat):Int):=e4
      lia)
   have nw:∀r:RM.Row,¬(HT.kg (cT r).length 0 none=0/\HT.kg (cT r).length (cT r).length (some 3)=(cT r).length):=λr z=>eL z.2 (by show HT.kg 4 4 (some 3)≠4;decide);have ct:∀r:RM.Row,El (cT r) none (some 3)=[V.int r.hd,V.int r.co,V.int r.ho]:=λr=>rfl;refine⟨_,rfl,_,rfl,u,_,rfl,hu,nw _,λz1 hz1=>?_⟩;rw[ct];have t1:=aD.new (o:=.tup [V.int (RM.over (aY ns rs e n m i) f (R g)).hd,V.int (RM.over (aY ns rs e n m i) f (R g)).co,V.int (RM.over (aY ns rs e n m i) f (R g)).ho]) hz1;refine⟨_,rfl,_,rfl,q,_,rfl,t1.dj L,nw _,λz2 hz2=>?_⟩;rw[ct];have t2:=aD.new (o:=.tup [V.int d.hd,V.int d.co,V.int d.ho]) hz2;have I:=I.trans (t1.trans t2);have hu:=(t1.trans t2).dj hu;have L:=(t1.trans t2).dj L;refine⟨z1,z2,_,_,_,rfl,rfl,cN.of (t2 _ _ au),cN.of au,rfl,lex,_,rfl,?_⟩;by_cases B:RM.lt (RM.over (aY ns rs e n m i) f (R g)) d
   ·rw[e8 B]
    refine fK ?_;refine⟨_,rfl,I,u,_,_,_,rfl,hu,.inr ⟨f,g,b6 _ (aS.mpr rfl),AO,N,rfl⟩,RM.le_trans (RM.Z0 B) d2,λA G s C O=>?_⟩;rcases bG.mp s with z|z
    ·exact RM.le_trans (RM.Z0 B) (W A G z C O)
    ·rw[aS.mp z] at C ⊢
     rw[fu G C];exact RM.le_refl _
   ·rw[ff B]
    refine eG ⟨I,q,d,_,_,rfl,L,J,d2,λA G s C O=>?_⟩;rcases bG.mp s with z|z
    ·exact W A G z C O
    ·rw[aS.mp z] at C ⊢
     rw[fu G C];exact B
  ·rintro σ Z ⟨s2,q,d,v5,v6,rfl,hq,d1,d2,W⟩
   rw[ah,List.take_of_length_le (av _)] at W;refine⟨_,rfl,k q d Z (s01.trans s2) hq ⟨d1.imp id λ⟨a1,a2,_,a4⟩=>⟨a1,a2,a4⟩,d2,λf g AO N=>W f g ?_ AO N⟩⟩;rw[<- U,AR];exact⟨i f AO.1,((uu AO.1).mp AO).1⟩
inductive WI(K:af)(C:Addr)(vs:List V)(H:Hp)(Q:VK)(E:XK):Prop
 |mk (p ln lr c b:Addr) (ns:List Int) (rs:List R5) (live:List Nat) (nd:ns.Nodup) (ok:∀r∈rs,r.Ok ns.length) (hl:∀k∈live,k<rs.length) (R:Nat->RM.Row) (h:Nat):vs=[.ref p,.ref c,.ref b,.int h]->cX K C H p ln lr ns rs->bS K H c (bw live)->xC K H b ns.length R->h<ns.length->rs.length<=20->xD ns.length rs.length R->(∀v H',aD H H'->uW K H' v (zA (aY ns rs live nd ok hl) R h)->Q v H')->WI K C vs H Q E
theorem WK{t:Ad}(T:Txt K mg t):ck P w K mg base iC 3 t.Dp t.GY ["town","live","rows","house"]  (WI K t.bh):=by
 refine T.RX.F.jE HV λH Q E A h=>?_
 ·obtain⟨p,S,N,c,b,ns,rs,live,nd,ok,r,R,i,rfl,I,hC,hRw,hin,vX,Z,k⟩:=h
  obtain⟨⟨dx,hp⟩,_,_,_⟩:=id I;obtain⟨s,J,ePs,YL⟩:=id hRw;have G:s[i]?=some s[i]:=aa ∅;have y:Eo (s.map V.ref) (i:Int)=some (.ref s[i]):=dM (by rw[aj,G];rfl);have X:=YL i _ G;have fi:=Z i hin;refine⟨_,(ao (sS 4 HV (xT (xL (pv 2) (pv 3)) az)) (ao (cy (PW.pt (C3 (iE i0 (pv 4) (pv 1) (by with_unfolding_all rfl)) (BO (iE i0 (pv 4) (cM (pv 0) T.fh T.lX (pG T) A (gj (pv 3))) (by with_unfolding_all rfl))))) (oR mY) bz) (ao (sS 5 HV (cM (pv 0) T.fh T.n9 (rC T) A (mP (pv 4) (pv 3)))) (ao (cy (qT Hh (cG (Ou T) A T.Mc (KP (pv 0) (xL (pv 2) (pv 5)) (pv 4))) (xL (pv 2) (pv 3))) (oR mY) bz) (oR (gD (mP (pv 4) (pv 5)))))))),?_⟩
  left
  refine⟨_,rfl,_,rfl,LI J y (Yq X rfl ?_)⟩;have f:∀{H3:Hp},aD H H3->(∀k g,¬RM.oQ (aY ns rs live nd ok r) R k i g)->Q .fk H3:=λs3 no=>k .fk _ s3 (by rw[Nc no];rfl);show gU 4 (ki (R i).by_) _ _ _;rcases fi.by_ with U|⟨b0,b1⟩
  ·rw[show ki (R i).by_=V.fk by rw[U];rfl]
   refine⟨_,rfl,_,rfl,c,_,rfl,.inl hC,rfl,mO live,_,rfl,?_⟩
   try dsimp only
   rw[ee rfl,Yr];refine fK (fK (f (aD.refl _) λn g t=>?_))
   have:=t.by
   lia
  obtain⟨d,ekk⟩:∃d:Nat,(R i).by_=(d:Int):=⟨(R i).by_.toNat,∅⟩;have o:d<rs.length:=∅
  rw[show ki (R i).by_=V.int (d:Nat) by rw[ekk,bq ∅]];have q:∀n g,RM.oQ (aY ns rs live nd ok r) R n i g->n=d:=λn g t=>by have:=t.by;lia
  refine⟨_,rfl,_,rfl,c,_,rfl,.inl hC,rfl,mO live,_,rfl,?_⟩
  try dsimp only
  rw[ee rfl,wm];by_cases D:d∈live
  case neg =>
   rw[ff D];refine fK (fK (f (aD.refl _) λn g t=>?_))
   have:=q n g t
   subst this;exact D t.AO.1
  rw[e8 D];refine eG ?_;refine⟨_,rfl,_,rfl,p,dx,_,rfl,hp,rfl,_,rfl,p,S,N,ns,rs,i,rfl,I,vX,λl H1 x Py Y=>?_⟩;refine⟨l,_,rfl,.inl (bS.of Y),rfl,mO _,_,rfl,?_⟩
  try dsimp only
  rw[ee rfl,wm];by_cases m:d∈UJ rs (i:Int) rs.length
  case neg =>
   rw[ff m];refine fK (f x λn g t=>?_)
   have:=q n g t
   subst this;exact m (AR.mpr ⟨o,((uu D).mp t.AO).1⟩)
  rw[e8 m];refine eG ?_;have m:=(AR.mp m).2;have C:rs[d]?=some rs[d]:=aa o;have WG:=RH (h:=i) o ok;have M:fL rs[d] i<ns.length:=Qe o ok;have YN:=VM (ns:=ns) (rs:=rs) (live:=live) (nd:=nd) (ok:=ok) (hl:=r) (R:=R) (h:=i) D;have WH:=aeo (ns:=ns) (live:=live) (nd:=nd) (ok:=ok) (hl:=r) o;have v:∀g,RM.oQ (aY ns rs live nd ok r) R d i g->g=fL rs[d] i:=λg t=>abA t;refine⟨_,rfl,p,dx,_,rfl,x _ _ hp,rfl,_,rfl,_,rfl,p,S,N,ns,rs,d,rs[d],i,rfl,I.mono x,C,?_⟩;show gU 5 (V.int (if (i:Int)=rs[d].a then rs[d].b else rs[d].a)) _ _ _;rw[WG];generalize fL rs[d] i=g at WG M YN v;have z:s[g]?=some s[g]:=aa ∅;have O:Eo (s.map V.ref) (g:Int)=some (.ref s[g]):=dM (by rw[aj,z];rfl);refine⟨_,rfl,_,rfl,_,rfl,LI (x.seq J) O ⟨_,rfl,p,S,N,ns,rs,d,rs[d],s[g],R g,rfl,I.mono x,C,x.dj (YL g _ z),λL H2 W=>?_,λL u H2 W hu=>?_⟩⟩
  ·have j:=x.trans W
   refine⟨_,rfl,_,rfl,LI (j.seq J) y ⟨.none,RM.Eu (R i),rfl,RM.zy (j.dj X),rfl,RM.zz _,bQ (cC (aF (gA _ _) (!_)) _) A.units,_,rfl,?_⟩⟩;refine fK (f j λn B t=>?_);have e1:=q n B t;subst e1;have e2:=v B t;subst e2;exact L t.cut
  ·have j:=x.trans W
   have eov:(⟨(R g).hd,(R g).co+rs[d].c,(R g).ho+1,d⟩:RM.Row)=RM.over (aY ns rs live nd ok r) d (R g):=by unfold RM.over;rw[WH]
   rw[eov] at hu;refine⟨_,rfl,_,rfl,LI (j.seq J) y ⟨RM.Eu (RM.over (aY ns rs live nd ok r) d (R g)),RM.Eu (R i),RM.zy hu,RM.zy (j.dj X),RM.zz _,RM.zz _,bQ (cC (aF (gA _ _) (by rw[RM.KA];decide)) _) A.units,_,rfl,?_⟩⟩;rw[RM.M9 (show (-1:Int)<=(d:Nat) by lia) fi.by1];by_cases e:RM.over (aY ns rs live nd ok r) d (R g)=R i
   case neg =>
    rw[ff e];refine fK (f j λn B t=>?_);have e1:=q n B t;subst e1;have e2:=v B t;subst e2;exact e t.eq.symm
   rw[e8 e];refine eG ?_;have hh:RM.oQ (aY ns rs live nd ok r) R d i g:=by
    obtain⟨g2,t⟩:=YN.mpr ⟨m,L,e.symm⟩
    have:=v g2 t
    subst this;exact t
   refine⟨_,rfl,_,rfl,fO,λo2 ho2=>?_⟩;exact k (.ref o2) _ (j.trans (aD.new ho2)) (by rw[uv.mpr hh];exact⟨o2,rfl,cN.of au⟩)
inductive aan(K:af)(C:Addr)(vs:List V)(H:Hp)(Q:VK)(E:XK):Prop
 |mk (p ln lr c b:Addr) (ns:List Int) (rs:List R5) (live:List Nat) (nd:ns.Nodup) (ok:∀r∈rs,r.Ok ns.length) (hl:∀k∈live,k<rs.length) (R:Nat->RM.Row):vs=[.ref p,.ref c,.ref b]->cX K C H p ln lr ns rs->bS K H c (bw live)->xC K H b ns.length R->ns.length<=12->rs.length<=20->xD ns.length rs.length R->(∀l H',aD H H'->H l=none->abz K H' l ns.length (zA (aY ns rs live nd ok hl) R)->Q (.ref l) H')->aan K C vs H Q E
theorem aci{t:Ad}(T:Txt K mg t):ck P w K mg base iC 4 t.NP t.RW ["town","live","rows"]  (aan K t.bh):=by
 refine T.aab.F.jE Wj λH Q E L h=>?_
 ·obtain⟨p,U,M,c,b,ns,C,d,G,B,D,R,rfl,A,V,y,Y,J,s,k⟩:=h
  obtain⟨⟨X,W⟩,_,_,_⟩:=id A;refine⟨_,(oR (gQ (kO Wj ["house","live","rows","town"] [none,some 1,some 2,some 0]) rfl (gu rfl T.jH (gj (aU (pv 0) rfl))) (λ_ _ _ _=>by exact (gS 0 Uc)) (λ_ _ _ _=>by exact lM) (λ_ _ _ _=>by exact (cG (WK T) L T.RX (Xr (pv 3) (pv 1) (pv 2) (pv 0)))))),?_⟩
  left
  refine⟨_,rfl,p,_,X,_,_,rfl,W,T.fh,T.mR,rfl,(ns.length:Int),rfl,∅,∅,λu a=>?_⟩;refine gR (n:=((ns.length:Int)).toNat) (λi l m=>l.length=i/\∀(j:Nat) v,l[j]?=some v->uW K m v (zA (aY ns C d G B D) R j)) a Es wg ⟨rfl,λj v e=>by simp at e⟩ ?_ ?_
  ·rintro i l m S g o ⟨q,f⟩ x H3 ⟨rfl,rfl⟩
   refine⟨_,rfl,_,rfl,_,rfl,_,rfl,p,U,M,c,b,ns,C,d,G,B,D,R,i,by rw[gB];rfl,A.mono g,g.seq V,y.mono g,∅,J,s,λv Z r O=>?_⟩;refine fj a S (g.trans r) (r _ _ o) (by rw[q];exact bX ∅) ⟨by rw[ay,q];rfl,λj w e=>?_⟩;refine uW.lst (r _ _ o) ?_;rcases AS e with z|⟨N,I⟩
   ·exact (f j w z).mono r
   ·rw[N,I,q];exact O
  rintro l m g o ⟨q,f⟩;exact k u m g a ⟨l,o,∅,f⟩
inductive R7(K:af)(C:Addr)(vs:List V)(H:Hp)(Q:VK)(E:XK):Prop
 |mk (p ln lr c b:Addr) (ns:List Int) (rs:List R5) (live:List Nat) (nd:ns.Nodup) (ok:∀r∈rs,r.Ok ns.length) (hl:∀k∈live,k<rs.length) (R:Nat->RM.Row):vs=[.ref p,.ref c,.ref b]->cX K C H p ln lr ns rs->bS K H c (bw live)->xC K H b ns.length R->ns.length<=12->rs.length<=20->xD ns.length rs.length R->(∀l os H',aD H H'->H l=none->H' l=some (.lst (bw os))->gk (aY ns rs live nd ok hl) R os->os.length<=12->Q (.ref l) H')->R7 K C vs H Q E
theorem Ov{t:Ad}(T:Txt K mg t):ck P w K mg base iC 5 t.xW t.GX ["town","live","rows"]  (R7 K t.bh):=by
 refine T.Dw.F.jE NH λH Q E hr h=>?_
 ·obtain⟨p,ln,lr,c,b,ns,N,a,S,M,J,R,rfl,hT,hC,U,YO,vX,O,k⟩:=h
  refine⟨_,(oR (cB zB T.DE boot_sorted (gj (gQ (kO NH ["up"] [none]) rfl (fq (cG (aci T) hr T.aab (KP (pv 0) (pv 1) (pv 2)))) (λ_ _ _ _=>by exact (gS 0 NI)) (λ_ _ _ _=>by exact (rJ (qT Lv (pv 0) mY))) (λ_ _ _ _=>by exact (yT K (pv 0) az)))))),?_⟩
  left
  refine⟨_,rfl,_,rfl,_,rfl,p,ln,lr,c,b,ns,N,a,S,M,J,R,rfl,hT,hC,U,YO,vX,O,λlu H2 s2 amy hO=>?_⟩;obtain⟨X,d,evs,L⟩:=hO;refine⟨lu,rfl,⟨_,bS.of d⟩,λV j=>?_⟩;refine gR (n:=X.length) (λi W _=>∃f:List Nat,W=bw f/\f.length<=i/\f.Nodup/\∀k,k∈f↔∃h g,h<i/\RM.oQ (aY ns N a S M J) R k h g) j (xB (bS.of d)) (m7 (bS.of d)) ⟨[],rfl,aR _,lH,λk=>⟨λz=>eL z (-_),λ⟨_,_,z,_⟩=>eL z (jL _)⟩⟩ ?_ ?_
  ·rintro i W H3 G r C ⟨f,rfl,Z,D,s⟩ y H4 ⟨rfl,hv⟩
   have x:=hv _ (r.seq (bS.of d));rw[aa G] at x;cases x;have o:=(L i _ (aa G)).mono r;generalize X[i]=v at o;cases A:zA (aY ns N a S M J) R i with
   |none =>
    rw[A] at o;have o:v=.fk:=o;subst o;refine⟨_,rfl,rfl,_,rfl,eG ?_⟩;refine kh G r C ⟨f,rfl,∅,D,λk=>(s k).trans ⟨λ⟨h,g,z,t⟩=>⟨h,g,∅,t⟩,λ⟨h,g,z,t⟩=>⟨h,g,?_,t⟩⟩⟩;by_cases e:h=i
    ·subst e
     rw[uv.mpr t] at A;cases A
    ·lia
   |some q =>
    rw[A] at o;obtain⟨t1,rfl,ht⟩:=o;have m:=(uv (k:=q.1) (g:=q.2)).mp A;refine⟨_,rfl,rfl,_,rfl,fK ?_⟩;refine⟨_,rfl,t1,_,0,_,rfl,rfl,ht,rfl,?_⟩;refine fj j G r C (by rw[ah];exact bX ∅) ⟨f++[q.1],by rw[iy],by rw[ay];exact jJ Z 1,Gr.BV D λz=>?_,λk=>?_⟩
    ·obtain⟨h,g,z1,t⟩:=(s _).mp z
     have:=(t.one m).1
     lia
    ·rw[bG,aS,s]
     constructor
     ·rintro (⟨h,g,z,t⟩|rfl)
      ·exact⟨h,g,∅,t⟩
      ·exact⟨i,q.2,∅,m⟩
     ·rintro⟨h,g,z,t⟩
      by_cases e:h=i
      ·subst e
       exact .inr (t.uniq m).1
      ·exact .inl ⟨h,g,∅,t⟩
  rintro W H3 r C ⟨f,rfl,Z,D,s⟩;refine⟨V,f.map λk:Nat=>(k:Int),rfl,bS.of (by rw[C,eT]),by rw[ah];lia,λl ms Y B pw=>?_⟩;obtain⟨os,I,o1,o2,o3⟩:=Nd B pw D;rw[I];have u:=s2.trans r;refine k l os _ (u.trans (aD.new Y)) (u.free Y) au ⟨o1,λk=>?_⟩ ∅;rw[o2,s];constructor
  ·rintro⟨h,g,_,t⟩;exact⟨h,g,t⟩
  ·rintro⟨h,g,t⟩
   have:h<ns.length:=(oQ.lt t).1
   exact⟨h,g,∅,t⟩
theorem K7{p:Nat->Bool}{xs:List Nat}{i:Nat}(a:i<xs.length):(xs.take (i+1)).filter p=(xs.take i).filter p++if p xs[i] then [xs[i]] else []:=by
 rw[jB a,eO];congr 1;cases e:p xs[i]
 ·rw[eH (!_),dh (by rw[e];decide)];rfl
 ·rw[ee rfl,dg e];rfl
inductive Ox(K:af)(C:Addr)(vs:List V)(H:Hp)(Q:VK)(E:XK):Prop
 |mk (p ln lr c b:Addr) (ns:List Int) (rs:List R5) (live:List Nat) (nd:ns.Nodup) (ok:∀r∈rs,r.Ok ns.length) (hl:∀k∈live,k<rs.length) (R:Nat->RM.Row) (h:Int):vs=[.ref p,.ref c,.ref b,.int h]->cX K C H p ln lr ns rs->bS K H c (bw live)->xC K H b ns.length R->ns.length<=12->rs.length<=20->xD ns.length rs.length R->(∀l os H',aD H H'->H l=none->H' l=some (.lst (bw (os.filter (isAt rs h))))->gk (aY ns rs live nd ok hl) R os->os.length<=12->Q (.ref l) H')->Ox K C vs H Q E
theorem QV{t:Ad}(T:Txt K mg t):ck P w K mg base iC 6 t.wI t.AZ ["town","live","rows","house"]  (Ox K t.bh):=by
 refine T.KU.F.jE Ck λH Q E U h=>?_
 ·obtain⟨p,W,V,c,b,N,rs,j,nd,X,O,R,x,rfl,s,hC,J,Z,S,D,k⟩:=h
  refine⟨_,(ao (sS 4 Ck (cM (pv 0) T.fh T.lX (pG T) U (gj (pv 3)))) (oR (gQ (kO Ck ["rope","joined"] [none,some 4]) rfl (fq (AN (Ov T) (U.mono (!_)) rfl T.z9 T.Dw.F.kp T.Dw.B .nil mK (KP (pv 0) (pv 1) (pv 2)))) (λ_ _ _ _=>by exact (gS 0 JL)) (λ_ _ _ _=>by exact (rJ (iE (Hi K rfl) (pv 0) (pv 1) (by with_unfolding_all rfl)))) (λ_ _ _ _=>by exact (pv 0))))),?_⟩
  left
  obtain⟨⟨dx,hp⟩,_⟩:=id s;refine⟨_,rfl,p,dx,_,rfl,hp,rfl,_,rfl,p,W,V,N,rs,x,rfl,s,S,λlj H1 l amB QW=>?_⟩;refine⟨_,rfl,_,rfl,_,rfl,p,W,V,c,b,N,rs,j,nd,X,O,R,rfl,s.mono l,l.seq hC,J.mono l,Z,S,D,λlo os H2 M WL d m G=>?_⟩;have C:=M _ _ QW;have v:∀k∈os,decide (k∈UJ rs x rs.length)=isAt rs x k:=λk Y=>by
   obtain⟨h,g,t⟩:=(m.2 k).mp Y;have A:k<rs.length:=O k t.AO.1;by_cases z:isAt rs x k=true
   ·rw[z];exact e8 (AR.mpr ⟨A,z⟩)
   ·rw[Bool.not_eq_true] at z
    rw[z];refine ff λy=>?_;rw[(AR.mp y).2] at z;cases z
  refine⟨lo,rfl,⟨_,bS.of d⟩,λI a=>?_⟩;refine gR (n:=(bw os).length) (λi L _=>L=bw ((os.take i).filter (isAt rs x))) a (xB (bS.of d)) (m7 (bS.of d)) rfl ?_ ?_
  ·rintro i L H3 r f o rfl y H4 ⟨rfl,q⟩
   have q:=q _ (f.seq (bS.of d));have e:i<os.length:=by rw[ah] at r;exact r
   rw[aj,aa e] at q;cases q;refine⟨_,rfl,_,rfl,lj,_,rfl,.inl (bS.of (f _ _ C)),rfl,mO _,_,rfl,?_⟩
   try dsimp only
   rw[eH aB,wm,v _ (aK e)];refine iY (λu=>?_) (λu=>?_)
   ·refine⟨_,rfl,?_⟩
    refine fj a r f o ?_ ?_
    ·rw[ah]
     refine bX (aF (bB _ _) ?_);rw[bV];lia
    ·rw[K7 e,ee u,iy]
   ·refine kh r f o ?_
    rw[K7 e,eH u,cW]
  ·rintro L H3 f o rfl
   rw[ah,fP] at o;have Uq:=(l.trans M).trans f;exact k I os _ Uq ((l.trans M).free a) o m G
inductive WM(K:af)(C:Addr)(vs:List V)(H:Hp)(Q:VK)(E:XK):Prop
 |mk (p ln lr:Addr) (ns:List Int) (rs:List R5) (i:Nat) (r:R5) (g:Nat) (z:Int):vs=[.ref p,.int i,.int g]->cX K C H p ln lr ns rs->rs[i]?=some r->([1,2,4]:List Int)[g]?=some z->Q (.bl (!decide (Builtin.bitAnd r.e z=0))) H->WM K C vs H Q E
theorem DV{t:Ad}(T:Txt K mg t):ck P w K mg base iC 1 t.qg t.uD ["self","rope","group"]  (WM K t.bh):=by
 refine T.z7.F.jE L1 λH Q E B h=>?_
 ·obtain⟨p,C,f,ns,A,i,r,g,z,rfl,b,m,o,k⟩:=h
  obtain⟨⟨u,n⟩,x,y,a,s⟩:=id b;obtain⟨v,l,c⟩:=s.get (i:=i) (d:=r.D) (by rw[aj,m];rfl);obtain⟨q,e,hq⟩:=Rep.zx (ns:=r.ns) c;subst e;refine⟨_,(oR (qE we (be aa6 (xT (xL (aU (pv 0) rfl) (pv 1)) az) (xT (lI rfl T.kD (v:=.ref t.dW) rfl) (pv 2))) az)),?_⟩
  left
  refine⟨_,rfl,p,_,u,_,_,rfl,n,T.fh,T.gM,rfl,_,rfl,f,_,_,_,rfl,rfl,bS.of a,dM l,?_⟩;refine⟨q,_,_,_,rfl,rfl,hq,rfl,?_⟩;have j:([.int 1,.int 2,.int 4]:List V)[g]?=some (.int z):=by
   have e:([.int 1,.int 2,.int 4]:List V)=([1,2,4]:List Int).map V.int:=rfl;rw[e,aj,o];rfl
  refine⟨_,rfl,_,_,_,_,rfl,rfl,T.fD H,dM j,_,_,rfl,rfl,rfl,?_⟩;have e:decide (V.int (Builtin.bitAnd r.e z)=V.int 0)=decide (Builtin.bitAnd r.e z=0):=-_
  rw[e];exact k
inductive K8(K:af)(C:Addr)(vs:List V)(H:Hp)(Q:VK)(E:XK):Prop
 |mk (p ln lr:Addr) (ns:List Int) (rs:List R5) (i:Nat) (r:R5):vs=[.ref p,.int i]->cX K C H p ln lr ns rs->rs[i]?=some r->Q (.int r.d) H->K8 K C vs H Q E
theorem Gg{t:Ad}(T:Txt K mg t):ck P w K mg base iC 2 t.sO t.xY ["town","rope"]  (K8 K t.bh):=by
 refine T.Cq.F.jE NJ λH Q E d h=>?_
 ·obtain⟨p,g,e,c,b,i,r,rfl,a,f,k⟩:=h
  obtain⟨⟨l,j⟩,_⟩:=id a;refine⟨_,(oR (xT (cM (pv 0) T.fh T.z6 (DU T) d (gj (pv 1))) az)),?_⟩
  left
  refine⟨_,rfl,p,l,_,rfl,j,rfl,_,rfl,p,g,e,c,b,i,r,rfl,a,f,λq hq=>?_⟩;have hq:cN K H q r.vs:=hq.elim cN.of id;exact⟨q,_,_,_,rfl,rfl,hq,rfl,k⟩
inductive Jg(K:af)(CT C NW:Addr)(vs:List V)(H:Hp)(Q:VK)(E:XK):Prop
 |mk (p tp lu ln lr:Addr) (ns:List Int) (rs:List R5) (ws:List (List Nat)) (i:Int):vs=[.ref p,.int i]->cX K CT H tp ln lr ns rs->uw C H p tp lu ws->ws.length=rs.length->(∀(j:Nat) w l H',i=(j:Int)->ws[j]?=some w->aD H H'->H l=none->H' l=some (.lst (bw w))->Q (.ref l) H')->(¬(0<=i/\i<rs.length)->E (.ref NW) none H)->Jg K CT C NW vs H Q E
theorem kJ{t:Ad}(T:Txt K mg t):ck P w K mg base (Ec P w) 1 t.gI t.i9 ["self","rope"]  (Jg K t.bh t.cK t.wN):=by
 refine T.dY.F.T9 Bg λH Q E D h=>?_
 ·obtain⟨p,A,v,M,J,I,rs,f,i,rfl,u,y,L,k,o⟩:=h
  obtain⟨⟨r,q⟩,a,B,x,c⟩:=id y;obtain⟨⟨G,d⟩,_⟩:=id u;refine⟨_,(ao (cy (iL (jj p7 oH az (pv 1) (aU (aU (pv 0) rfl) rfl))) (bA (Dg rfl T.Im T.Io D.hd qz)) bz) (oR (iM ic (by rfl) T.vA boot_list (gj (xL (aU (pv 0) rfl) (pv 1)))))),?_⟩
  left
  refine⟨_,rfl,_,_,rfl,rfl,_,rfl,?_⟩;by_cases e:0<=i
  case neg =>
   rw[ff e];exact eG ⟨_,rfl,fK (o λz=>e z.1)⟩
  rw[e8 e];refine fK ?_;refine⟨_,rfl,p,_,r,_,_,rfl,q,T.dO,T.j7,rfl,A,_,G,_,_,rfl,d,T.fh,T.uK,rfl,_,_,rfl,rfl,_,rfl,?_⟩;by_cases g:i<(rs.length:Int)
  case neg =>
   rw[ff g];exact fK (o λz=>g z.2)
  rw[e8 g];refine eG ?_;obtain⟨j,rfl⟩:∃j:Nat,i=(j:Int):=⟨i.toNat,∅⟩;have C:j<f.length:=∅
  have b:f[j]?=some f[j]:=aa C;have n:a[j]?=some a[j]:=aa ∅;have m:Eo (a.map V.ref) (j:Int)=some (.ref a[j]):=dM (by rw[aj,n];rfl);refine⟨_,rfl,p,_,r,_,_,rfl,q,T.dO,T.fU,rfl,_,rfl,v,_,_,_,rfl,rfl,bS.of B,m,a[j],_,rfl,.inl (bS.of (c j _ _ n b)),λl s=>?_⟩;exact k j _ l _ rfl b (aD.new s) s au
inductive R8(K:af)(CT C NW:Addr)(vs:List V)(H:Hp)(Q:VK)(E:XK):Prop
 |mk (p tp lu ln lr:Addr) (ns:List Int) (rs:List R5) (ws:List (List Nat)) (i x:Int):vs=[.ref p,.int i,.int x]->cX K CT H tp ln lr ns rs->uw C H p tp lu ws->ws.length=rs.length->(∀w∈ws,w.length<=4)->(∀(j k:Nat) w (ls:List Addr) (q:Addr) H',i=(j:Int)->x=(k:Int)->ws[j]?=some w->k∈w->H lu=some (.lst (ls.map V.ref))->H q=none->H' q=some (.lst (bw (w.filter λz=>decide (z≠k))))->H' lu=some (.lst ((ls.map V.ref).set j (.ref q)))->(∀b o,H b=some o->b≠lu->H' b=some o)->Q (.bl (w.filter λz=>decide (z≠k)).isEmpty) H')->(¬(0<=i/\i<rs.length)->E (.ref NW) none H)->(∀(j:Nat) w H',i=(j:Int)->ws[j]?=some w->(∀k∈w,x≠(k:Nat))->aD H H'->E (.ref NW) none H')->R8 K CT C NW vs H Q E
theorem GD{t:Ad}(T:Txt K mg t):ck P w K mg base (Ec P w) 2 t.j4 t.nW ["self","rope","wire"]  (R8 K t.bh t.cK t.wN):=by
 refine T.tw.F.T9 qL λH Q E Z h=>?_
 ·obtain⟨p,tp,D,ln,lr,ns,rs,ws,i,x,rfl,hT,X,ew,h4,k,kx,ky⟩:=h
  obtain⟨⟨dx,hp⟩,S,MJ,els,hls⟩:=id X;refine⟨_,(ao (sS 3 qL (pJ (pv 0) T.dO T.dY.m (kJ T) (Z.mono (!_)) T.dY.B .nil RG (gj (pv 1)))) (ao (cy (iE i0 (pv 2) (pv 3) (by with_unfolding_all rfl)) (bA (Dg rfl T.Im T.Io Z.hd qz)) bz) (ao (BP (gQ (kO qL ["each","wire"] [none,some 2]) rfl (fq (pv 3)) (λ_ _ _ _=>by exact (gS 0 Cm)) (λ_ _ _ _=>by exact (rJ (qT we (pv 0) (pv 1)))) (λ_ _ _ _=>by exact (pv 0))) (Eg (aU (pv 0) rfl) (pv 1) set_list)) (oR (qE Er (xL (aU (pv 0) rfl) (pv 1)) (gE gf)))))),?_⟩
  left
  refine⟨_,rfl,p,dx,_,rfl,hp,rfl,_,rfl,p,tp,D,ln,lr,ns,rs,ws,i,rfl,hT,X,ew,λj c l H1 ej N s1 Py hl=>?_,kx⟩;subst ej;have hjl:=(ai.mp N).1;have w4:=h4 _ (aG N);refine⟨_,rfl,_,rfl,l,_,rfl,.inl (bS.of hl),rfl,mO c,_,rfl,?_⟩
  try dsimp only
  rw[ee rfl,eT,kN];by_cases O:x∈c.map λk:Nat=>(k:Int)
  case neg =>
   rw[ff O];exact fK (ky j c H1 rfl N (λz C e=>O (aV.mpr ⟨z,C,e.symm⟩)) s1)
  rw[e8 O];refine eG ?_;obtain⟨s,hkk,rfl⟩:=aV.mp O;refine⟨_,rfl,l,rfl,⟨_,bS.of hl⟩,λd f=>?_⟩;have hC:=bS.of (K:=K) hl;refine gR (n:=(bw c).length) (λi ys _=>ys=bw ((c.take i).filter λz=>decide (z≠s))) f (xB hC) (m7 hC) rfl ?_ ?_
  ·rintro i ys H2 W I v rfl y U ⟨rfl,R⟩
   have R:=R _ (I.seq hC);have hi':i<c.length:=by rw[ah] at W;exact W
   have J:c[i]?=some c[i]:=aa hi';rw[aj,J] at R;cases R;refine⟨_,rfl,_,rfl,rfl,_,rfl,?_⟩;have et:c.take (i+1)=c.take i++[c[i]]:=by rw[oF,J];rfl
   by_cases C:c[i]=s
   ·have e1:decide (V.int (c[i]:Nat)=V.int (s:Nat))=true:=e8 (by rw[C])
    rw[e1];refine eG (kh W I v ?_);rw[et,eO,C];simp
   ·have e1:decide (V.int (c[i]:Nat)=V.int (s:Nat))=false:=ff λq=>C (by have:=V.int.inj q;lia)
    rw[e1];refine fK ⟨_,rfl,fj f W I v ?_ ?_⟩
    ·rw[ah]
     have:=bB (λz=>decide (z≠s)) (c.take i)
     rw[bV] at this;exact bX ∅
    ·rw[et,eO,<- iy]
     simp[C]
  ·rintro ys H2 I v rfl
   rw[ah,fP] at v;have g:=s1.trans I;have u:=g _ _ MJ;have hp2:=g _ _ hp;have QW:j<S.length:=∅
   refine⟨_,rfl,p,_,dx,_,_,rfl,hp2,T.dO,T.fU,rfl,_,rfl,D,_,_,j,rfl,rfl,u,(by rw[ah];exact xE QW),?_⟩;have hW2:=X.mono g;generalize L:upd H2 D (.lst ((S.map V.ref).set j (.ref d)))=U;have k3:∀b o,H2 b=some o->b≠D->U b=some o:=λb o e nb=>by rw[<- L,aC nb];exact e
   have A:U D=some (.lst ((S.map V.ref).set j (.ref d))):=by rw[<- L];exact au
   have hW3:=hW2.put u v hjl k3 A;have G:U d=some (.lst (bw (c.filter λz=>decide (z≠s)))):=k3 _ _ v (mX v u λz=>wu (aa QW) (HO.lst.inj z));obtain⟨⟨R9,Y⟩,_⟩:=id hW3;refine⟨_,rfl,p,_,R9,_,_,rfl,Y,T.dO,T.fU,rfl,_,rfl,D,_,_,V.ref d,rfl,rfl,bS.of A,dM (by rw[bT,ee rfl,ee (by rw[ah];exact QW)]),aR _,λq hq=>?_⟩;have M:=aD.new (o:=.lst []) hq;refine⟨.list (((c.filter λz=>decide (z≠s)).map λk:Nat=>(k:Int)).map .int),.list [],⟨d,_,rfl,bS.of (M _ _ G),(by rw[eT];exact p8 _)⟩,⟨q,_,rfl,bS.of au,rfl⟩,kP _,rfl,bQ (cC (aF (Nat.min_le_right _ _) (!_)) _) Z.units,?_⟩;have z:=k j s c S d _ rfl rfl N hkk MJ (s1.free f) (M _ _ G) (M _ _ A) (λb o e nb=>M _ _ (k3 _ _ (g _ _ e) nb));cases e:c.filter λz=>decide (z≠s) with
   |nil=>rw[e] at z;exact z
   |cons a r=>rw[e] at z;exact z
inductive Sa(NG:Addr)(vs:List V)(H:Hp)(Q:VK)(E:XK):Prop
 |mk (g:Int):vs=[.int g]->(0<=g/\g<3->Q .fk H)->(¬(0<=g/\g<3)->E (.ref NG) none H)->Sa NG vs H Q E
theorem ua{t:Ad}(T:Txt K mg t):ck P w K mg base (Ec P w) 1 t.lg t.pU ["group"]  (Sa t.A4):=by
 refine T.eS.F.T9 HY λH Q E d h=>?_
 ·obtain⟨g,rfl,k,c⟩:=h
  refine⟨_,(bA (cy (iL (jj p7 oH az (pv 0) (lS T.gm (lI rfl T.kD (v:=.ref t.dW) rfl)))) (bA (Dg rfl T.Ug T.Uh d.hd qz)) bz)),?_⟩
  left
  refine⟨_,rfl,_,_,rfl,rfl,_,rfl,?_⟩;by_cases b:0<=g
  case neg =>
   rw[ff b];exact eG ⟨_,rfl,fK (c λz=>b z.1)⟩
  rw[e8 b];refine fK ?_;refine⟨_,_,rfl,.inr (T.fD H),_,_,rfl,rfl,_,rfl,?_⟩;by_cases a:g<3
  case neg =>
   have e:decide (g<((([.int 1,.int 2,.int 4]:List V).length:Nat):Int))=false:=ff a;rw[e];exact fK (c λz=>a z.2)
  have e:decide (g<((([.int 1,.int 2,.int 4]:List V).length:Nat):Int))=true:=e8 a;rw[e];exact eG (k ⟨b,a⟩)
inductive WN(K:af)(CT C NG:Addr)(vs:List V)(H:Hp)(Q:VK)(E:XK):Prop
 |mk (p tp lu ln lr:Addr) (ns:List Int) (rs:List R5) (ws:List (List Nat)) (g:Int):vs=[.ref p,.int g]->cX K CT H tp ln lr ns rs->uw C H p tp lu ws->ws.length=rs.length->rs.length<=20->(∀r∈rs,1<=r.e/\r.e<=7)->(∀(gg:Nat) l H',g=(gg:Int)->gg<3->aD H H'->H l=none->H' l=some (.lst (bw (uX rs ws gg rs.length)))->Q (.ref l) H')->(¬(0<=g/\g<3)->E (.ref NG) none H)->WN K CT C NG vs H Q E
theorem GF{t:Ad}(T:Txt K mg t):ck P w K mg base (Ec P w) 2 t.j5 t.nX ["self","group"]  (WN K t.bh t.cK t.A4):=by
 refine T.tD.F.T9 yS λH Q E N h=>?_
 ·obtain⟨p,s,W,ln,lr,X,rs,d,g,rfl,M,Z,ew,vX,he,k,kx⟩:=h
  obtain⟨⟨L,J⟩,I,MJ,Y,y⟩:=id Z;obtain⟨⟨O,m⟩,_⟩:=id M;refine⟨_,(ao (dS (AN (ua T) (N.mono (!_)) rfl T.eS.g T.eS.F.kp T.eS.B .nil RG (gj (pv 1)))) (oR (gQ (kO yS ["rope","group","self"] [none,some 1,some 0]) rfl (gu rfl T.jH (gj (aU (aU (pv 0) rfl) rfl))) (λ_ _ _ _=>by exact (gS 0 Cn)) (λ_ _ _ _=>by exact (rJ (PW.pt (G3 (TL K rfl (yL K (GQ K rfl (pv 2) rfl) (pv 0)) (λ_=>rfl)) (C2 (mZ (cM (GQ K rfl (pv 2) rfl) T.fh T.z7 (DV T) N (mP (pv 0) (pv 1))))))))) (λ_ _ _ _=>by exact (pv 0))))),?_⟩
  left
  refine⟨_,rfl,g,rfl,λhg=>?_,kx⟩;obtain⟨a,rfl⟩:∃a:Nat,g=(a:Int):=⟨g.toNat,∅⟩;have j:a<3:=∅
  obtain⟨z,S⟩:=aep j;refine⟨_,rfl,p,_,L,_,_,rfl,J,T.dO,T.j7,rfl,s,_,O,_,_,rfl,m,T.fh,T.uK,rfl,_,rfl,(by show -(2^62)<=((rs.length:Nat):Int);lia),(by show ((rs.length:Nat):Int)<2^62;lia),λA b=>?_⟩;refine gR (n:=(((rs.length:Nat):Int)).toNat) (λi G _=>G=bw (uX rs d a i)) b Es wg rfl ?_ ?_
  ·rintro i G R u c r rfl x H3 ⟨rfl,rfl⟩
   have C:i<rs.length:=by simpa using u
   have D:rs[i]?=some rs[i]:=aa C;have q:d[i]?=some d[i]:=aa ∅;have l:I[i]?=some I[i]:=aa ∅;have QX:(bw (uX rs d a i)).length<sizeLine:=by rw[ah];exact bX (by have:=Qh rs d a i;lia)
   have v:isLive rs d a i=((!(d[i]).isEmpty)&&Bl (rs[i]).e a):=by unfold isLive;rw[D,q]
   refine⟨_,rfl,p,_,L,_,_,rfl,c _ _ J,T.dO,T.fU,rfl,_,rfl,W,_,_,V.ref I[i],rfl,rfl,bS.of (c _ _ MJ),(by rw[gB];exact dM (by rw[aj,l];rfl)),?_⟩;refine⟨!(bw d[i]).isEmpty,?_,?_⟩
   ·exact .inl ⟨_,bS.of (c _ _ (y i _ _ l q)),rfl⟩
   cases f:d[i] with
   |nil =>
    refine eG (kh u c r ?_);rw[zC,v,f];simp
   |cons y0 r0 =>
    refine fK ?_;refine⟨_,rfl,p,_,L,_,_,rfl,c _ _ J,T.dO,T.j7,rfl,s,O,_,rfl,c _ _ m,rfl,_,rfl,_,rfl,s,ln,lr,X,rs,i,rs[i],a,z,(by show [V.ref s,V.int (0+(i:Int)),V.int (a:Nat)]=_;rw[gB]),M.mono c,D,S,_,rfl,?_⟩;have o:=he _ (aG D);rw[Ng o.1 o.2 S];cases U:Bl rs[i].e a with
    |true =>
     refine fK ⟨_,rfl,fj b u c r QX ?_⟩;rw[zC,v,f,U,gB];exact (iy _ _).symm
    |false =>
     refine eG (kh u c r ?_);rw[zC,v,f,U];simp
  ·rintro G R c r rfl
   exact k a A R rfl j c b (by rw[r,f6])
inductive Sb(K:af)(vs:List V)(H:Hp)(Q:VK)(E:XK):Prop
 |mk (p C dx:Addr) (s:Int):vs=[.ref p,.int s]->H p=some (.ins C dx [])->JC K C->dw K C "sender" -> Q .fk (upd H p (.ins C dx [("sender",.int s)]))->Sb K vs H Q E
theorem w6{t:Ad}(T:Txt K mg t):ck P w K mg base iC 1 t.dU t.lO ["self","sender"]  (Sb K):=by
 refine T.qM.F.jE EJ λH Q E e h=>?_
 ·obtain⟨p,C,d,f,rfl,c,a,b,k⟩:=h
  refine⟨_,(bA (fJ (pv 0) (pv 1) rfl)),?_⟩
  left
  exact⟨_,rfl,_,rfl,p,C,d,[],rfl,c,a,b,!_,k⟩
inductive Oz(vs:List V)(H:Hp)(Q:VK)(E:XK):Prop
 |mk (p:Addr) (c:Int):vs=[.ref p,.int c]->Q (.bl false) H->Oz  vs H Q E
theorem GG{t:Ad}(T:Txt K mg t):ck P w K mg base iC 1 t.jX t.nP ["self","caller"]  Oz:=by
 refine T.zY.F.jE Gs λH Q E a h=>?_
 ·obtain⟨p,c,rfl,k⟩:=h
  exact⟨_,oB,k⟩
inductive OA(vs:List V)(H:Hp)(Q:VK)(E:XK):Prop
 |mk (p:Addr):vs=[.ref p]->Q .fk H->OA  vs H Q E
theorem zd{t:Ad}(T:Txt K mg t):ck P w K mg base iC 1 t.gH t.nQ ["self"]  OA:=by
 refine T.nZ.F.jE Gu λH Q E a h=>?_
 ·obtain⟨p,rfl,k⟩:=h
  exact⟨_,(oR mY),k⟩
inductive A6(K:af)(vs:List V)(H:Hp)(Q:VK)(E:XK):Prop
 |mk (p C dx:Addr) (s:Int):vs=[.ref p]->H p=some (.ins C dx [("sender",.int s)])->JC K C->dw K C "sender" -> Q (.int s) H->A6 K vs H Q E
theorem w9{t:Ad}(T:Txt K mg t):ck P w K mg base iC 1 t.fV t.lP ["self"]  (A6 K):=by
 refine T.lW.F.jE EK λH Q E e h=>?_
 ·obtain⟨p,C,d,f,rfl,c,a,b,k⟩:=h
  exact⟨_,(oR (aU (pv 0) rfl)),_,rfl,p,C,d,_,_,rfl,c,a,b,rfl,k⟩
inductive K9(C:Addr)(vs:List V)(H:Hp)(Q:VK)(E:XK):Prop
 |mk (p dx:Addr) (s to:Int):vs=[.ref p,.int s,.int to]->H p=some (.ins C dx [])->(∀H',H' p=some (.ins C dx [("sender",.int s),("to",.int to)])->(∀b o,H b=some o->b≠p->H' b=some o)->Q .fk H')->K9 C vs H Q E
theorem GH{t:Ad}(T:Txt K mg t):ck P w K mg base iC 2 t.jY t.nS ["self","sender","to"]  (K9 t.fT):=by
 refine T.zZ.F.jE Gv λH Q E f h=>?_
 ·obtain⟨p,c,d,i,rfl,g,k⟩:=h
  refine⟨_,(ao (dS (Qi (lI rfl T.Wm (v:=.ref t.iS) rfl) T.EW (w6 T) (f.mono (!_)) T.qM.B .nil mK (mP (pv 0) (pv 1)))) (bA (fJ (pv 0) (pv 2) rfl))),?_⟩
  left
  refine⟨rfl,_,rfl,_,rfl,p,t.fT,c,d,rfl,g,T.pY,T.tG,?_⟩;refine⟨_,rfl,_,rfl,p,t.fT,c,_,rfl,au,T.pY,T.yi,(by show 1<1000;decide),?_⟩;rw[dH (names:=["sender"]) rfl (by decide +kernel)];exact k _ au λb o e a=>by rw[aC a,aC a];exact e
inductive OB(C:Addr)(vs:List V)(H:Hp)(Q:VK)(E:XK):Prop
 |mk (p dx:Addr) (s to c:Int):vs=[.ref p,.int c]->H p=some (.ins C dx [("sender",.int s),("to",.int to)])->Q (.bl (decide (V.int c=V.int to))) H->OB C vs H Q E
theorem Jh{t:Ad}(T:Txt K mg t):ck P w K mg base iC 1 t.kW t.pN ["self","caller"]  (OB t.fT):=by
 refine T.Bp.F.jE HQ λH Q E d h=>?_
 ·obtain⟨p,b,f,e,c,rfl,a,k⟩:=h
  exact⟨_,(oR (qE rD (pv 1) (aU (pv 0) rfl))),_,rfl,_,rfl,p,_,b,_,_,rfl,a,T.pY,T.yi,rfl,rfl,k⟩
inductive OC(C:Addr)(vs:List V)(H:Hp)(Q:VK)(E:XK):Prop
 |mk (p dx:Addr) (s to:Int):vs=[.ref p]->H p=some (.ins C dx [("sender",.int s),("to",.int to)])->Q (.int to) H->OC C vs H Q E
theorem Ji{t:Ad}(T:Txt K mg t):ck P w K mg base iC 1 t.kX t.pO ["self"]  (OC t.fT):=by
 refine T.vt.F.jE HR λH Q E c h=>?_
 ·obtain⟨p,b,e,d,rfl,a,k⟩:=h
  exact⟨_,(oR (aU (pv 0) rfl)),_,rfl,p,_,b,_,_,rfl,a,T.pY,T.yi,rfl,k⟩
inductive Ff(C:Addr)(vs:List V)(H:Hp)(Q:VK)(E:XK):Prop
 |mk (p dx:Addr) (s to:Int):vs=[.ref p]->H p=some (.ins C dx [("sender",.int s),("to",.int to)])->Q (.int (s+to+1)) H->Ff C vs H Q E
theorem GI{t:Ad}(T:Txt K mg t):ck P w K mg base iC 1 t.jZ t.nU ["self"]  (Ff t.fT):=by
 refine T.sZ.F.jE Gw λH Q E c h=>?_
 ·obtain⟨p,b,e,d,rfl,a,k⟩:=h
  exact⟨_,(oR (be f9 (be f9 (aU (pv 0) rfl) (aU (pv 0) rfl)) az)),_,rfl,p,_,b,_,_,rfl,a,T.pY,T.tG,rfl,_,rfl,p,_,b,_,_,rfl,a,T.pY,T.yi,rfl,_,_,rfl,rfl,_,_,rfl,rfl,k⟩
inductive OD(C:Addr)(vs:List V)(H:Hp)(Q:VK)(E:XK):Prop
 |mk (p dx:Addr) (s c:Int):vs=[.ref p,.int c]->H p=some (.ins C dx [("sender",.int s)])->Q (.bl (!decide (V.int c=V.int s))) H->OD C vs H Q E
theorem Jj{t:Ad}(T:Txt K mg t):ck P w K mg base iC 1 t.kY t.pP ["self","caller"]  (OD t.jd):=by
 refine T.Bq.F.jE HS λH Q E d h=>?_
 ·obtain⟨p,b,e,c,rfl,a,k⟩:=h
  exact⟨_,(oR (qE we (pv 1) (aU (pv 0) rfl))),_,rfl,_,rfl,p,_,b,_,_,rfl,a,T.yj,T.oj,rfl,rfl,k⟩
inductive Sd(C:Addr)(vs:List V)(H:Hp)(Q:VK)(E:XK):Prop
 |mk (p dx:Addr):vs=[.ref p]->H p=some (.ins C dx [])->(∀d H',H d=none->qA C H' p d []->(∀b o,H b=some o->b≠p->H' b=some o)->Q .fk H')->Sd C vs H Q E
theorem Jk{t:Ad}(T:Txt K mg t):ck P w K mg base iC 1 t.kT t.pL ["self"]  (Sd t.eK):=by
 refine T.vp.F.jE HM λH Q E i h=>?_
 ·obtain⟨p,f,rfl,c,k⟩:=h
  refine⟨_,(bA (fJ (pv 0) M0 rfl)),?_⟩
  left
  refine λd a=>⟨_,rfl,p,t.eK,f,[],rfl,?_,T.yl,T.qm,!_,?_⟩
  ·rw[aC (aJ c a)];exact c
  ·refine k d _ a ⟨⟨f,au⟩,?_⟩ λb o e g=>?_
   ·rw[aC (aJ c a).symm];exact au
   ·rw[aC g,aC (aJ e a)];exact e
inductive Se(C:Addr)(vs:List V)(H:Hp)(Q:VK)(E:XK):Prop
 |mk (p d:Addr) (ts:List T3) (h c r:Int):vs=[.ref p,.int h,.int c,.int r]->qA C H p d ts->ts.length<10000->(∀H',H' d=some (.dT (putK (ts.map iZ) (keyOf h c) (.int r)))->(∀b o,H b=some o->b≠d->H' b=some o)->Q .fk H')->Se C vs H Q E
theorem J8{t:Ad}(T:Txt K mg t):ck P w K mg base iC 1 t.nC t.rN ["self","house","caller","rope"]  (Se t.eK):=by
 refine T.Du.F.jE JI λH Q E i h=>?_
 ·obtain⟨p,d,q,g,j,r,rfl,⟨⟨m,l⟩,c⟩,n,k⟩:=h
  refine⟨_,(bA (RA (M3 i) (aU (pv 0) rfl) (gD (mP (pv 1) (pv 2))) (pv 3) rfl)),?_⟩
  left
  refine⟨_,rfl,_,rfl,p,t.eK,m,_,_,rfl,l,T.yl,T.qm,rfl,_,rfl,_,rfl,fO,λb a=>?_⟩;have f:d≠b:=aJ c a;refine⟨d,_,rfl,MZ.t (k:=keyOf g j) (kvs:=q.map iZ) (by rw[aC f];exact c) au (by rw[ah];exact Nat.lt_trans n (by show 10000<2^24;decide)),?_⟩;exact k _ au λx o e nx=>by rw[aC nx,aC (aJ e a)];exact e
inductive Sf(C:Addr)(vs:List V)(H:Hp)(Q:VK)(E:XK):Prop
 |mk (p d:Addr) (ts:List T3) (h c:Int):vs=[.ref p,.int h,.int c]->qA C H p d ts->(∀H',aD H H'->Q (((BX ts h c).map V.int).getD .fk) H')->Sf C vs H Q E
theorem J9{t:Ad}(T:Txt K mg t):ck P w K mg base iC 1 t.nD t.rO ["self","house","caller"]  (Sf t.eK):=by
 refine T.Dv.F.jE JJ λH Q E g h=>?_
 ·obtain⟨p,d,m,c,e,rfl,⟨⟨l,j⟩,f⟩,k⟩:=h
  refine⟨_,(oR (Vw (M3 g) (aU (pv 0) rfl) (gD (mP (pv 1) (pv 2))) ⟨rfl,rfl,rfl,rfl⟩)),?_⟩
  left
  refine⟨_,rfl,p,t.eK,l,_,_,rfl,j,T.yl,T.qm,rfl,d,rfl,.inr ⟨_,.inl f⟩,_,rfl,_,rfl,fO,λb i=>?_⟩;have a:=aD.new (o:=.tup [.int c,.int e]) i;refine⟨_,JF.t (k:=keyOf c e) (a _ _ f) au,?_⟩;rw[Hz];exact k _ a
inductive Sg(K:af)(C:Addr)(vs:List V)(H:Hp)(Q:VK)(E:XK):Prop
 |mk (p d:Addr) (ts:List T3):vs=[.ref p]->qA C H p d ts->ts.length<64->(∀l (qs:List Addr) (us:List T3) H',aD H H'->H l=none->H' l=some (.lst (qs.map V.ref))->iz K H' qs us->us.Perm ts->AU us->Q (.ref l) H')->Sg K C vs H Q E
theorem Ka{t:Ad}(T:Txt K mg t):ck P w K mg base iC 1 t.nH t.rP ["self"]  (Sg K t.eK):=by
 refine T.yg.F.jE Bm λH Q E hr h=>?_
 ·obtain⟨p,d,j,rfl,⟨⟨dx,hp⟩,L⟩,h64,k⟩:=h
  refine⟨_,(oR (cB Dj T.DE boot_sorted (gj (Yv (gQ (kO Bm ["noted","rope"] [none,none]) rfl (VU (Vp PySem.F.plainAttrs_dict PySem.F.slot_dict_items PySem.F.type_dict_items VT (aU (pv 0) rfl))) (λ_ _ _ _=>by exact (RE K rfl (n:=2) rfl (m5 (gS 0 wB) (m5 (gS 1 wB) GN)))) (λ_ _ _ _=>by exact lM) (λ_ _ _ _=>by exact (be (VW K rfl) (pv 0) (gD (gj (pv 1)))))))))),?_⟩
  left
  refine⟨d,j.map iZ,L,?_⟩;refine⟨_,rfl,p,t.eK,dx,_,_,rfl,hp,T.yl,T.qm,rfl,?_⟩;refine⟨.inr (.inr (.inl ⟨rfl,.inr ⟨_,L⟩⟩)),d,_,rfl,rfl,L,λv hv=>?_⟩;have U:=aD.new (o:=Hw v d) hv;have y:=au (H:=H) (a:=v) (o:=Hw v d);have J:=U _ _ L;generalize upd H v (Hw v d)=H1 at U y J;refine⟨v,d,_,rfl,y,J,λo=>?_⟩;intro B f;have g:=au (H:=H1) (a:=d) (o:=.AM o (.dT (j.map iZ)));have S:∀{s:Hp},aD (upd H1 d (.AM o (.dT (j.map iZ)))) s->aD H (upd s d (.dT (j.map iZ))):=λ{s} m b u e=>by
   by_cases z:b=d
   ·subst z
    rw[L] at e;cases e;exact au
   ·rw[aC z]
    exact m _ _ (by rw[aC z];exact U _ _ e)
  generalize upd H1 d (.AM o (.dT (j.map iZ)))=H2 at g S f;refine gR (n:=(j.map iZ).length) (λi W s=>∃r:List Addr,W=r.map V.ref/\iz K s r (j.take i)) f (abM g) (VV g) ⟨[],rfl,iz.nil⟩ ?_ ?_
  ·rintro i W s Z m hy ⟨r,rfl,A⟩ x H4 ⟨q,kb,ky,vv,hq,rfl,rfl,D,I⟩
   have C:i<j.length:=by rw[ah] at Z;exact Z
   rw[aj,aa C] at D;cases D;generalize M:j[i]=u;have hu:j[i]?=some u:=by rw[aa C,M]
   obtain⟨R,u2,N⟩:=u;rw[M] at I;have u4:=aD.new (o:=.tup [.ref kb,.int N]) hq;refine⟨q,_,rfl,cN.of au,rfl,_,_,rfl,_,_,rfl,rfl,?_⟩;refine⟨_,rfl,_,rfl,z0,λb hb=>?_⟩;have u5:=aD.new (o:=.tup [V.int N]) hb;refine⟨kb,b,[.int R,.int u2],_,rfl,rfl,cN.of (u5 _ _ (u4 _ _ I)),cN.of au,(-_),nu,λz=>(by cases z),λ_ c hc=>?_⟩;have u6:=aD.new (o:=.tup ([V.int R,.int u2]++[.int N])) hc;have Y:=u4.trans (u5.trans u6);have G:=Y _ _ hy;have O:r.length=i:=by rw[A.1,bV];lia
   refine fj f Z (m.trans Y) G (by rw[ah];exact bX ∅) ⟨r++[c],-_,?_⟩;rw[oF,hu];exact iz.past G iN bU (iz.snoc (t:=(R,u2,N)) (A.mono Y) (cN.of au))
  ·rintro W s m hy ⟨r,rfl,A⟩
   have Ur:B≠d:=(aJ g f).symm;rw[ah,fP] at A;refine⟨o,m _ _ g,?_⟩;refine⟨B,r,j,rfl,bS.of (by rw[aC Ur];exact hy),iz.past (m _ _ g) abN bU A,h64,λl X us O hp hs M=>?_⟩;exact k l X us _ ((S m).trans (aD.new O)) ((S m).free O) au (M.mono (aD.new O)) hp hs
inductive OE(C:Addr)(vs:List V)(H:Hp)(Q:VK)(E:XK):Prop
 |mk (p d:Addr) (ts:List T3):vs=[.ref p]->qA C H p d ts->(∀d' H',H d'=none->qA C H' p d' []->(∀b o,H b=some o->b≠p->H' b=some o)->Q .fk H')->OE C vs H Q E
theorem Jl{t:Ad}(T:Txt K mg t):ck P w K mg base iC 1 t.kU t.pM ["self"]  (OE t.eK):=by
 refine T.vq.F.jE HN λH Q E j h=>?_
 ·obtain⟨p,d,m,rfl,⟨⟨f,c⟩,l⟩,k⟩:=h
  refine⟨_,(bA (fJ (pv 0) M0 rfl)),?_⟩
  left
  refine λi a=>⟨_,rfl,p,t.eK,f,[("kept",.ref d)],rfl,?_,T.yl,T.qm,(by show 1<1000;decide),?_⟩
  ·rw[aC (aJ c a)];exact c
  ·refine k i _ a ⟨⟨f,au⟩,?_⟩ λb o e g=>?_
   ·rw[aC (aJ c a).symm];exact au
   ·rw[aC g,aC (aJ e a)];exact e
inductive aeS(K:af)(C:Addr)(vs:List V)(H:Hp)(Q:VK)(E:XK):Prop
 |mk (bk d lo lh:Addr) (ts:List T3) (so cj:Option Int) (ng:Int) (os hs:List Int):vs=[.ref bk,Ey so,.int ng,Ey cj,.ref lo,.ref lh]->qA C H bk d ts->bS K H lo (os.map V.int)->bS K H lh (hs.map V.int)->os.length<=1000->(∀l H',aD H H'->H l=none->H' l=some (.lst ((V1 ts so ng cj os hs).map V.int))->Q (.ref l) H')->aeS K C vs H Q E
theorem OF{t:Ad}(T:Txt K mg t):ck P w K mg base iC 2 t.sN t.xX ["book","sought","house","came","open_here","here"]  (aeS K t.eK):=by
 refine T.Ic.F.jE uy λH Q E hr h=>?_
 ·obtain⟨Z,d,lo,lh,U,so,g,N,os,u,rfl,hB,D,hH,I,k⟩:=h
  refine⟨_,(ao (cy (iE oO (pv 1) (pv 5) (by with_unfolding_all rfl)) (oR (gE gf)) bz) (ao (sS 6 uy (zm (qT Va (pv 1) mY) mY (cM (pv 0) T.yl T.Dv (J9 T) hr (mP (pv 2) (pv 1))))) (ao (sS 7 uy (zm (iE oO (pv 6) (pv 4) (by with_unfolding_all rfl)) (gE (gj (pv 6))) (pv 4))) (oR (gQ (kO uy ["rope","came"] [none,some 3]) rfl (fq (pv 7)) (λ_ _ _ _=>by exact (gS 0 HP)) (λ_ _ _ _=>by exact (rJ (qT we (pv 0) (pv 1)))) (λ_ _ _ _=>by exact (pv 0))))))),?_⟩
  left
  obtain⟨dx,J⟩:=hB.ob;refine⟨_,rfl,_,rfl,lh,_,rfl,.inl hH,V0 so,mL u,_,rfl,?_⟩;cases so with
  |none =>
   refine KD (by show LB .fk _=false;exact HA u) ?_;refine⟨_,rfl,rfl,_,rfl,aer (e8 rfl) ?_⟩;refine⟨_,rfl,_,rfl,lo,_,rfl,.inl D,rfl,mL os,_,rfl,KD (by show LB .fk _=false;exact HA os) ?_⟩;refine⟨_,rfl,_,rfl,lo,rfl,⟨_,D⟩,λc a=>?_⟩;refine sC (p9 g) a D I (λx p R S _ v y j=>?_) (λp v i=>k c p v a i);refine⟨_,rfl,_,rfl,Dl x g,_,rfl,?_⟩;exact iY (λe=>⟨_,rfl,y _ (aD.refl _) e⟩) (λe=>j _ (aD.refl _) (neT e))
  |some n =>
   refine iY (λe=>?_) (λe=>?_)
   ·refine⟨aR _,λl q=>k l _ (aD.new q) q ?_⟩
    have L:n∈u:=by
     have e:LB (.int n) (u.map V.int)=true:=e;rw[kN] at e;exact gn e
    show _=some (HO.lst (List.map V.int (if n∈u then [] else _)));rw[ee L];exact au
   ·have L:¬n∈u:=λz=>e (by show LB (.int n) (u.map V.int)=true;rw[kN];exact e8 z)
    refine⟨_,rfl,rfl,_,rfl,KD (ff λz=>by cases z) ?_⟩;refine⟨_,rfl,Z,dx,_,rfl,J,rfl,_,rfl,_,rfl,Z,d,U,N,n,rfl,hB,λY B=>?_⟩;have m:∀l b,aD H b->H l=none->b l=some (.lst ((match BX U N n with
     |some r=>if r∈os then [r].filter (p9 g) else os.filter (p9 g)
     |none=>os.filter (p9 g)).map V.int))->Q (.ref l) b:=λl b s q i=>k l b s q (by
     show _=some (HO.lst (List.map V.int (if n∈u then [] else _)));rw[eH L];exact i)
    have f:=B.seq D;cases W:BX U N n with
    |none =>
     rw[W] at m;refine⟨_,rfl,_,rfl,lo,_,rfl,.inl f,rfl,mL os,_,rfl,KD (by show LB .fk _=false;exact HA os) ?_⟩;refine⟨_,rfl,_,rfl,lo,rfl,⟨_,f⟩,λc a=>?_⟩;refine sC (p9 g) a f I (λx p R S _ v y j=>?_) (λp v i=>m c p (B.trans v) (B.free a) i);refine⟨_,rfl,_,rfl,Dl x g,_,rfl,?_⟩;exact iY (λe=>⟨_,rfl,y _ (aD.refl _) e⟩) (λe=>j _ (aD.refl _) (neT e))
    |some r =>
     rw[W] at m;dsimp only[Option.map_some,Option.getD_some];refine⟨_,rfl,_,rfl,lo,_,rfl,.inl f,rfl,mL os,_,rfl,iY (λC=>?_) (λC=>?_)⟩
     ·have A:r∈os:=by
       have C:LB (.int r) (os.map V.int)=true:=C;rw[kN] at C;exact gn C
      have m:∀l b,aD H b->H l=none->b l=some (.lst (([r].filter (p9 g)).map V.int))->Q (.ref l) b:=λl b s q i=>m l b s q (by
       show _=some (HO.lst (List.map V.int (if r∈os then _ else _)));rw[ee A];exact i)
      refine⟨_,rfl,z0,λG M=>?_⟩;have O:=aD.new (o:=.lst [V.int r]) M;have j:bS K (upd Y G (.lst [V.int r])) G ([r].map V.int):=bS.of au;generalize upd Y G (.lst [V.int r])=p at O j;refine⟨_,rfl,G,rfl,⟨_,j⟩,λc a=>?_⟩;refine sC (p9 g) a j (by show 1<=1000;decide) (λx H3 R S _ X y j=>?_) (λH3 X i=>m c H3 (B.trans (O.trans X)) (B.free (O.free a)) i);refine⟨_,rfl,_,rfl,Dl x g,_,rfl,?_⟩;exact iY (λe=>⟨_,rfl,y _ (aD.refl _) e⟩) (λe=>j _ (aD.refl _) (neT e))
     ·have A:¬r∈os:=λz=>C (by show LB (.int r) (os.map V.int)=true;rw[kN];exact e8 z)
      have m:∀l b,aD H b->H l=none->b l=some (.lst ((os.filter (p9 g)).map V.int))->Q (.ref l) b:=λl b s q i=>m l b s q (by
       show _=some (HO.lst (List.map V.int (if r∈os then _ else _)));rw[eH A];exact i)
      refine⟨_,rfl,_,rfl,lo,rfl,⟨_,f⟩,λc a=>?_⟩;refine sC (p9 g) a f I (λx p R S _ v y j=>?_) (λp v i=>m c p (B.trans v) (B.free a) i);refine⟨_,rfl,_,rfl,Dl x g,_,rfl,?_⟩;exact iY (λe=>⟨_,rfl,y _ (aD.refl _) e⟩) (λe=>j _ (aD.refl _) (neT e))
inductive La(K:af)(C cL c1 cA:Addr)(vs:List V)(H:Hp)(Q:VK)(E:XK):Prop
 |mk (bk d la lo lh:Addr) (ts:List T3) (s to kd ng:Int) (cj:Option Int) (os hs:List Int):vs=[.ref bk,.ref la,.int ng,Ey cj,.ref lo,.ref lh]->qA C H bk d ts->FG cL c1 cA H la s to kd->bS K H lo (os.map V.int)->bS K H lh (hs.map V.int)->os.length<=1000->hs.length<=1000->(∀p l1 l2 H',aD H H'->H p=none->H l1=none->H l2=none->l1≠l2->H' p=some (.tup [.ref l1,.ref l2])->H' l1=some (.lst ((hs.filter (HB s to kd)).map V.int))->H' l2=some (.lst ((V1 ts (AV to kd) ng cj os hs).map V.int))->Q (.ref p) H')->La K C cL c1 cA vs H Q E
theorem QY{t:Ad}(T:Txt K mg t):ck P w K mg base iC 3 t.wG t.AX ["book","letter","house","came","open_here","here"]  (La K t.eK t.iS t.fT t.jd):=by
 refine T.KS.F.jE Cj λH Q E y h=>?_
 ·obtain⟨W,d,g,lo,G,L,C,A,kd,I,J,os,D,rfl,Y,hL,O,z,M,U,k⟩:=h
  refine⟨_,(ao (BU (i:=6) Cj.nd rfl (Or.inl rfl) (kO Cj ["caller","letter"] [none,some 1]) rfl (fq (pv 5)) (λ_ _ _ _=>by exact (gS 0 JK)) (λ_ _ _ _=>by exact (rJ (mZ (Ew (cM (pv 1) T.Ik T.zY (GG T) y (gj (pv 0))) (Ew (cM (pv 1) T.pY T.Bp (Jh T) y (gj (pv 0))) (cM (pv 1) T.yj T.Bq (Jj T) y (gj (pv 0)))))))) (λ_ _ _ _=>by exact (pv 0))) (oR (gD (mP (pv 6) (cG (OF T) y T.Ic (aN6 (pv 0) (Ew (kM (pv 1) T.Ik T.nZ.m (zd T) (y.mono (!_)) T.nZ.B .nil mK) (Ew (kM (pv 1) T.pY T.vt.m (Ji T) (y.mono (!_)) T.vt.B .nil mK) (kM (pv 1) T.yj T.JR (zd T) (y.mono (!_)) T.nZ.B .nil mK))) (pv 2) (pv 3) (pv 4) (pv 5))))))),?_⟩
  left
  refine⟨_,rfl,G,rfl,⟨_,z⟩,λv q=>?_⟩;refine sC (HB C A kd) q z U (λx X R S _ b Z N=>?_) (λX b hy=>?_)
  ·have s:=hL.mono b
   cases s with
   |bare f c =>
    exact .inl ⟨_,rfl,g,f,_,rfl,c,rfl,_,rfl,g,x,rfl,_,rfl,N _ (aD.refl _) rfl⟩
   |one f c =>
    refine .inr (.inl ⟨_,rfl,g,f,_,rfl,c,rfl,_,rfl,g,f,C,A,x,rfl,c,_,rfl,?_⟩);exact iY (λe=>⟨_,rfl,Z _ (aD.refl _) e⟩) (λe=>N _ (aD.refl _) (neT e))
   |all f c =>
    refine .inr (.inr ⟨_,rfl,g,f,_,rfl,c,rfl,_,rfl,g,f,C,x,rfl,c,_,rfl,?_⟩);exact iY (λe=>⟨_,rfl,Z _ (aD.refl _) e⟩) (λe=>N _ (aD.refl _) (neT e))
  ·have s:=hL.mono b
   have rest:∀j l,aD X l->X j=none->l j=some (.lst ((V1 L (AV A kd) I J os D).map V.int))->2<=sizeLine/\∀p,l p=none->Q (.ref p) (upd l p (.tup [.ref v,.ref j])):=λj l n a r=>by
    refine⟨!_,λp hp=>?_⟩;have u:=aD.new (o:=.tup [V.ref v,.ref j]) hp;exact k p v j _ ((b.trans n).trans u) (b.free (n.free hp)) q (b.free a) (aJ hy a) au (u _ _ (n _ _ hy)) (u _ _ r)
   refine⟨_,rfl,_,rfl,?_⟩;cases s with
   |bare f c =>
    exact .inl ⟨_,rfl,g,f,_,rfl,c,rfl,g,rfl,_,rfl,_,rfl,_,rfl,_,rfl,W,d,lo,G,L,none,J,I,os,D,rfl,Y.mono b,b.seq O,b.seq z,M,λj l n a r=>rest j l n a r⟩
   |one f c =>
    exact .inr (.inl ⟨_,rfl,g,f,_,rfl,c,rfl,g,f,C,A,rfl,c,_,rfl,_,rfl,_,rfl,_,rfl,W,d,lo,G,L,some A,J,I,os,D,rfl,Y.mono b,b.seq O,b.seq z,M,λj l n a r=>rest j l n a r⟩)
   |all f c =>
    exact .inr (.inr ⟨_,rfl,g,f,_,rfl,c,rfl,g,rfl,_,rfl,_,rfl,_,rfl,_,rfl,W,d,lo,G,L,none,J,I,os,D,rfl,Y.mono b,b.seq O,b.seq z,M,λj l n a r=>rest j l n a r⟩)
inductive Lb(K:af)(vs:List V)(H:Hp)(Q:VK)(E:XK):Prop
 |mk (a:Addr) (cs:List Int) (n:Nat):vs=[.ref a,.int n]->bS K H a (cs.map V.int)->1<=n->n<=10->(∀l H' (xs:List Int),aD H H'->H l=none->H' l=some (.lst (xs.map V.int))->xs.length=n->xs.Nodup->(∀x∈xs,0<=x)->Q (.ref l) H')->Lb K vs H Q E
theorem QZ{t:Ad}(T:Txt K mg t):ck P w K mg base iC 2 t.wL t.A2 ["_law_script","_law_size"]  (Lb K):=by
 refine T.KY.F.jE mC λH Q E O h=>?_
 ·obtain⟨a,cs,n,rfl,N,X,hn,k⟩:=h
  refine⟨_,(ao (sS 2 mC (gE gf)) (ao (fS (gu rfl T.jH (gj (pv 1))) (gT 3 mC) (ao (sS 4 mC (cG (fE T) O T.fN (mP (pv 0) (be f9 az (pv 3))))) (ao (sS 5 mC (be cP (be dF (pv 4) az) az)) (ao (cy (qT rD (be cP (pv 4) az) az) (bA (sS 5 mC (be cP (be dF (pv 4) az) (be Eh (be U8 az az) az)))) bz) (ao (MR PassesOwn.never (iE oO (pv 5) (pv 2) (by with_unfolding_all rfl)) (bA (sS 5 mC (be f9 (pv 5) az)))) (oE (rE br bF bE eX (pv 2) (gj (pv 5))))))))) (ao (cy (qT rD (be cP (be dF (cG (fE T) O T.fN (mP (pv 0) az)) az) az) az) (oR (Nk (pv 2) (pK (adT aa7 az)))) bz) (oR (pv 2))))),?_⟩
  left
  refine⟨aR _,λl L=>?_⟩;refine⟨_,rfl,(n:Int),rfl,∅,∅,?_⟩;refine se (n:=((n:Int)).toNat) (λi f m=>aD H m/\∃(d:List Int) (B A D:Option V),f=[some (.ref a),some (.int n),some (.ref l),B,A,D]/\m l=some (.lst (d.map V.int))/\d.length=i/\d.Nodup/\∀x∈d,0<=x)
   ⟨aD.new L,[],none,none,none,rfl,au,rfl,lH,λx g=>eL g (-_)⟩ ?_ ?_
  ·rintro i f m hi ⟨j,d,B,A,D,rfl,g,M,r,p⟩
   rw[gB];refine⟨_,rfl,_,rfl,_,_,rfl,rfl,a,cs,_,rfl,j.seq N,∅,?_⟩;dsimp only[gU];generalize cs.getD _ 0=c;refine⟨_,rfl,_,_,rfl,rfl,⟨!_,!_⟩,_,_,rfl,rfl,(by show (0:Int)<40;decide),?_⟩;dsimp only[gU];refine abx (λf J=>J=m/\∃z:Int,0<=z/\f=[some (.ref a),some (.int n),some (.ref l),some (.int (i:Nat)),some (.int c),some (.int z)]) ?_ λnx=>?_
   case refine_2 =>
    refine⟨_,rfl,_,_,rfl,rfl,(by show (0:Int)<3;decide),rfl,_,rfl,iY (λe=>?_) (λe=>?_)⟩
    ·exact⟨_,rfl,_,_,rfl,rfl,⟨!_,!_⟩,_,_,rfl,rfl,⟨!_,!_,!_⟩,_,_,rfl,rfl,_,_,rfl,rfl,(by show (0:Int)<10^(60:Int).toNat-20;decide),nx _ _ ⟨rfl,_,bO _ (!_),rfl⟩⟩
    ·exact nx _ _ ⟨rfl,_,bO _ (!_),rfl⟩
   rintro f J ⟨rfl,z,s,rfl⟩;refine U5 (λf C=>C=J/\∃x:Int,0<=x/\f=[some (.ref a),some (.int n),some (.ref l),some (.int (i:Nat)),some (.int c),some (.int x)])
    (λ(f:L2.St) (_:Hp)=>match f[5]? with|some (some (V.int x))=>above d x|_=>0) ⟨rfl,_,s,rfl⟩ ?_ ?_
   ·rintro f C ⟨rfl,x,I,rfl⟩
    refine⟨_,rfl,_,rfl,l,_,rfl,.inl (bS.of g),rfl,mL d,_,rfl,?_⟩
    try dsimp only
    rw[eH aB,kN];refine iY (λc=>?_) (λc=>?_)
    ·have G:x∈d:=gn c
     exact⟨_,rfl,_,_,rfl,rfl,⟨rfl,x+1,∅,rfl⟩,VI G⟩
    ·have G:x∉d:=λz=>c (e8 z)
     refine⟨_,rfl,.inl ⟨rfl,_,bS.of g⟩,_,rfl,l,_,_,rfl,rfl,g,?_,?_⟩
     ·rw[ah];exact bX ∅
     ·refine⟨j.out L,d++[x],_,_,_,rfl,?_,?_,Gr.BV r G,?_⟩
      ·rw[au,aO];rfl
      ·simp[M]
      ·intro y hy
       rcases bG.mp hy with z|z
       ·exact p y z
       ·have:y=x:=by simpa using z
        rw[this];exact I
   ·rintro f C Q1 Q2 hq ⟨v,e1,u,Z,q,ys,U,S,e5,W,b,e7,Y⟩
    exact⟨v,e1,u,Z,q,ys,U,S,e5,W,b,e7,hq _ _ Y⟩
  ·rintro f m ⟨j,d,B,A,D,rfl,g,M,r,p⟩
   refine⟨_,rfl,a,cs,1,rfl,j.seq N,!_,_,_,rfl,rfl,⟨!_,!_⟩,_,_,rfl,rfl,(by show (0:Int)<2;decide),rfl,_,rfl,iY (λe=>?_) (λe=>?_)⟩
   ·refine⟨_,rfl,_,rfl,_,rfl,l,_,rfl,rfl,bS.of g,λR o=>?_⟩
    rw[<- List.map_reverse];exact k R _ d.reverse (j.trans (aD.new o)) (j.free o) au (by rw[List.length_reverse];lia) ((List.reverse_perm d).nodup_iff.mpr r) λx g=>p x (List.mem_reverse.mp g)
   ·exact⟨_,rfl,k l m d j L g ∅ r p⟩
theorem YQ{x:Int}{g:Nat}(c:1<=x)(e:x<=7)(d:g<3):1<=Builtin.bitOr x (1*2^((g:Int)).toNat)/\Builtin.bitOr x (1*2^((g:Int)).toNat)<=7:=by
 have b:x=1∨x=2∨x=3∨x=4∨x=5∨x=6∨x=7:=∅
 have a:g=0∨g=1∨g=2:=∅
 rcases a with rfl|rfl|rfl <;> rcases b with rfl|rfl|rfl|rfl|rfl|rfl|rfl <;> decide +kernel
def aap(K:af)(H:Hp)(l:Addr)(rs:List R5):Prop:=∃qs:List Addr,H l=some (.lst (qs.map V.ref))/\dI K H qs (rs.map R5.vs)
theorem dI.snoc{K:af}{H:Hp}{qs:List Addr}{xs:List (List V)}{q:Addr}{x:List V}(h:dI K H qs xs)(hq:cN K H q x):dI K H (qs++[q]) (xs++[x]):=by
 refine⟨by rw[ay,ay,h.len];rfl,λi a u b c=>?_⟩;by_cases z:i<qs.length
 ·rw[bN z] at b
  rw[bN (h.len▸z)] at c;exact h.at' i a u b c
 ·have e:i=qs.length:=by
   have:=(ai.mp b).1
   rw[ay] at this
   have:i<qs.length+1:=this
   lia
  subst e;rw[mW] at b;rw[h.len,mW] at c;cases b;cases c;exact hq
inductive Lc(K:af)(vs:List V)(H:Hp)(Q:VK)(E:XK):Prop
 |mk (a:Addr) (cs:List Int) (n g:Nat):vs=[.ref a,.int n,.int g]->bS K H a (cs.map V.int)->1<=n->n<=10->g<3->(∀l H' (rs:List R5),aD H H'->H l=none->aap K H' l rs->rs.length<=14->(∀r∈rs,r.Ok n)->Q (.ref l) H')->Lc K vs H Q E
theorem Q0{t:Ad}(T:Txt K mg t):ck P w K mg base iC 2 t.wM t.A3 ["_law_script","_law_size","_law_group"]  (Lc K):=by
 refine T.KZ.F.jE dJ λH Q E hr h=>?_
 ·obtain⟨a,cs,n,g,rfl,hS,hn1,hn,hg,k⟩:=h
  refine⟨_,(ao (sS 3 dJ (gE gf)) (ao (sS 4 dJ az) (ao (cy (qT Rm (pv 1) az) (bA (sS 4 dJ (be f9 (be Eh (pv 1) az) (be cP (be dF (cG (fE T) hr T.fN (mP (pv 0) az)) az) az)))) bz) (ao (fS (gu rfl T.jH (gj (pv 4))) (gT 5 dJ) (ao (sS 6 dJ (cG (fE T) hr T.fN (mP (pv 0) (be f9 az (pv 5))))) (ao (sS 7 dJ (be cP (be dF (pv 6) az) (pv 1))) (ao (sS 8 dJ (be cP (be f9 (be f9 (pv 7) az) (be cP (be dF (pv 6) az) (be Eh (pv 1) az))) (pv 1))) (ao (cy (qT oH (pv 5) (be Eh (pv 1) az)) (ao (sS 7 dJ (be f9 (pv 5) az)) (bA (sS 8 dJ (be cP (be dF (pv 6) az) (be f9 (pv 5) az))))) bz) (ao (sS 9 dJ (be dF (pv 6) az)) (ao (sS 10 dJ (be f9 az (be cP (pv 9) az))) (ao (cy (qT rD (be cP (be dF (pv 9) az) az) az) (bA (sS 10 dJ (be f9 az (be cP (be dF (pv 9) az) (be Eh (be U8 az az) az))))) bz) (ao (sS 11 dJ (be f9 az (be cP (be dF (pv 9) az) az))) (ao (cy (qT Rm (be cP (be dF (pv 9) az) az) az) (bA (sS 11 dJ (be adW (pv 11) (be aa5 az (pv 2))))) bz) (ao (cy (qT rD (be cP (pv 6) az) az) (bA (aa1 (i:=7) (j:=8) rfl dJ.nd rfl rfl (!_) rfl rfl (mP (pv 8) (pv 7)) rfl)) bz) (oE (rE br bF bE eX (pv 3) (gj (gD (aN5 (pv 7) (pv 8) (pv 10) (be f9 az (be cP (be dF (pv 9) az) az)) (pv 11))))))))))))))))) (oR (pv 3)))))),?_⟩
  left
  refine⟨aR _,λl Z=>?_⟩;have s0:=aD.new (o:=.lst []) Z;have Py:=au (H:=H) (a:=l) (o:=.lst []);generalize upd H l (.lst [])=H0 at s0 Py;dsimp only[gU];refine bW λN hN=>?_;refine hN [some (.ref a),some (.int n),some (.int g),some (.ref l),some (.int 0),none,none,none,none,none,none,none] H0 ?_;refine rK (λd H1=>H1=H0/\∃m:Nat,m<=14/\(0<m->2<=n)/\d=[some (.ref a),some (.int n),some (.int g),some (.ref l),some (.int (m:Nat)),none,none,none,none,none,none,none]) ?_ λC nx=>?_
  case refine_2 =>
   refine⟨_,rfl,_,_,rfl,rfl,_,rfl,iY (λe=>?_) (λe=>?_)⟩
   ·have h2:(1:Int)<n:=gn e
    refine⟨_,rfl,_,_,rfl,rfl,_,rfl,a,cs,1,rfl,s0.seq hS,!_,_,_,rfl,rfl,⟨!_,!_⟩,_,_,rfl,rfl,(by show (0:Int)<6;decide),_,_,rfl,rfl,nx _ _ ?_⟩;generalize cs.getD _ 0/3=y;have q1:=bO y (show (6:Int)≠0 by decide);have q2:=bR y (show (0:Int)<6 by decide);refine⟨rfl,((n:Int)-1+y%6).toNat,∅,λ_=>∅,?_⟩;rw[kE ∅];rfl
   ·exact nx _ _ ⟨rfl,0,∅,λz=>eL z (!_),rfl⟩
  rintro d H1 ⟨rfl,m,hm,h2,rfl⟩;refine⟨_,rfl,(m:Int),rfl,∅,∅,?_⟩;refine Hr (n:=((m:Int)).toNat) (λi d v=>aD H v/\∃(rs:List R5) (v5 v6 v7 v8 M p f:Option V),d=[some (.ref a),some (.int n),some (.int g),some (.ref l),some (.int (m:Nat)),v5,v6,v7,v8,M,p,f]/\aap K v l rs/\rs.length=i/\∀r∈rs,r.Ok n)
   ⟨s0,[],_,_,_,_,_,_,_,rfl,⟨[],Py,⟨rfl,λi q x e=>by cases e⟩⟩,rfl,λr s=>eL s (-_)⟩ ?_ ?_
  ·rintro i d v Nf GZ hi ⟨I,rs,v5,v6,v7,v8,M,p,f,rfl,⟨qs,A,zk⟩,ei,X⟩
   rw[gB];have hi':i<m:=by simpa using hi
   have h2:2<=n:=h2 ∅;refine bW λNx cS=>?_;refine⟨_,rfl,_,rfl,_,_,rfl,rfl,a,cs,_,rfl,I.seq hS,∅,?_⟩;dsimp only[gU];generalize cs.getD _ 0=c;refine cS _ _ ?_;obtain⟨o1,o2,o3,o4,o5⟩:=Yl (n:=n) (x:=c/2) (y:=c/13) ∅;refine⟨_,rfl,_,_,rfl,rfl,⟨!_,!_⟩,_,rfl,_,_,rfl,rfl,(by show (0:Int)<n;lia),?_⟩;refine⟨_,rfl,_,_,rfl,rfl,_,rfl,_,_,rfl,rfl,⟨!_,!_⟩,_,rfl,_,_,rfl,rfl,_,_,rfl,rfl,(by show 0<(n:Int)-1;lia),_,_,rfl,rfl,_,rfl,_,_,rfl,rfl,(by show (0:Int)<n;lia),?_⟩;dsimp only[gU];refine rK (λd H3=>H3=v/\∃x y:Int,(0<=x/\x<n/\0<=y/\y<n/\x≠y)/\d=[some (.ref a),some (.int n),some (.int g),some (.ref l),some (.int (m:Nat)),some (.int (i:Nat)),some (.int c),some (.int x),some (.int y),M,p,f]) ?_ λC nx=>?_
   case refine_2 =>
    refine⟨_,rfl,_,rfl,_,_,rfl,rfl,_,_,rfl,rfl,_,rfl,iY (λe=>?_) (λe=>?_)⟩
    ·have e:(i:Int)<(n:Int)-1:=gn e
     refine⟨_,rfl,_,_,rfl,rfl,?_⟩;refine⟨_,rfl,_,_,rfl,rfl,⟨!_,!_⟩,_,rfl,_,_,rfl,rfl,_,_,rfl,rfl,(by show (0:Int)<(i:Int)+1;lia),nx _ _ ⟨rfl,(i:Int)+1,c/2%((i:Int)+1),?_,rfl⟩⟩;have q1:=bO (c/2) (show (i:Int)+1≠0 by lia);have q2:=bR (c/2) (show (0:Int)<(i:Int)+1 by lia);lia
    ·exact nx _ _ ⟨rfl,_,_,⟨o1,o2,o3,o4,o5⟩,rfl⟩
   rintro d H3 ⟨rfl,x,y,⟨R,D,O,G,L⟩,rfl⟩;refine⟨_,rfl,_,_,rfl,rfl,⟨!_,!_⟩,?_⟩;dsimp only[gU];generalize c/97=rt;refine⟨_,rfl,_,_,rfl,rfl,(by show (0:Int)<3;decide),_,_,rfl,rfl,?_⟩;dsimp only[gU];refine rK (λd W=>W=H3/\∃z:Int,1<=z/\d=[some (.ref a),some (.int n),some (.int g),some (.ref l),some (.int (m:Nat)),some (.int (i:Nat)),some (.int c),some (.int x),some (.int y),some (.int rt),some (.int z),f]) ?_ λC nx=>?_
   case refine_2 =>
    refine⟨_,rfl,_,_,rfl,rfl,⟨!_,!_⟩,_,_,rfl,rfl,(by show (0:Int)<3;decide),rfl,_,rfl,iY (λe=>?_) (λe=>?_)⟩
    ·refine⟨_,rfl,_,_,rfl,rfl,⟨!_,!_⟩,_,_,rfl,rfl,⟨!_,!_,!_⟩,_,_,rfl,rfl,_,_,rfl,rfl,(by show (0:Int)<10^(60:Int).toNat-1;decide),_,_,rfl,rfl,nx _ _ ⟨rfl,_,?_,rfl⟩⟩
     have:=bO (rt/9) (show (10:Int)^(60:Int).toNat-1≠0 by decide)
     lia
    ·refine nx _ _ ⟨rfl,_,?_,rfl⟩
     have:=bO rt (show (3:Int)≠0 by decide)
     lia
   rintro d W ⟨rfl,z,hz,rfl⟩;refine⟨_,rfl,_,_,rfl,rfl,⟨!_,!_⟩,_,_,rfl,rfl,(by show (0:Int)<7;decide),_,_,rfl,rfl,?_⟩;dsimp only[gU];refine rK (λd Y=>Y=W/\∃e:Int,1<=e/\e<=7/\d=[some (.ref a),some (.int n),some (.int g),some (.ref l),some (.int (m:Nat)),some (.int (i:Nat)),some (.int c),some (.int x),some (.int y),some (.int rt),some (.int z),some (.int e)]) ?_ λC nx=>?_
   case refine_2 =>
    have q1:=bO (rt/11) (show (7:Int)≠0 by decide);have q2:=bR (rt/11) (show (0:Int)<7 by decide);refine⟨_,rfl,_,_,rfl,rfl,⟨!_,!_⟩,_,_,rfl,rfl,(by show (0:Int)<4;decide),_,_,rfl,rfl,_,rfl,iY (λe=>?_) (λe=>?_)⟩
    ·have b:=YQ (x:=1+rt/11%7) ∅ ∅ hg
     exact⟨_,rfl,_,rfl,_,_,rfl,rfl,⟨∅,∅,!_⟩,_,_,rfl,rfl,nx _ _ ⟨rfl,_,b.1,b.2,rfl⟩⟩
    ·exact nx _ _ ⟨rfl,_,∅,∅,rfl⟩
   rintro d Y ⟨rfl,le,le1,U,rfl⟩;refine rK (λd J=>aD Y J/\∃x y:Int,(0<=x/\x<n/\0<=y/\y<n/\x≠y)/\d=[some (.ref a),some (.int n),some (.int g),some (.ref l),some (.int (m:Nat)),some (.int (i:Nat)),some (.int c),some (.int x),some (.int y),some (.int rt),some (.int z),some (.int le)]) ?_ λC nx=>?_
   case refine_2 =>
    refine⟨_,rfl,_,_,rfl,rfl,(by show (0:Int)<2;decide),rfl,_,rfl,iY (λe=>?_) (λe=>?_)⟩
    ·exact⟨_,rfl,_,rfl,_,_,rfl,nx _ _ ⟨aD.refl _,y,x,⟨O,G,R,D,bM L⟩,rfl⟩⟩
    ·exact nx _ _ ⟨aD.refl _,x,y,⟨R,D,O,G,L⟩,rfl⟩
   rintro d J ⟨s6,x,y,⟨R,D,O,G,L⟩,rfl⟩;have rB:=s6 _ _ A;refine⟨_,rfl,.inl ⟨rfl,_,bS.of rB⟩,_,rfl,_,rfl,_,rfl,_,rfl,_,_,rfl,rfl,⟨!_,!_⟩,_,_,rfl,rfl,(by show (0:Int)<4;decide),_,_,rfl,rfl,_,rfl,aar,λq hq=>?_⟩;have u7:=aD.new (o:=.tup [V.int x,.int y,.int z,.int (1+rt/5%4),.int le]) hq;have B:=au (H:=J) (a:=q) (o:=.tup [V.int x,.int y,.int z,.int (1+rt/5%4),.int le]);generalize upd J q (.tup [V.int x,.int y,.int z,.int (1+rt/5%4),.int le])=H7 at u7 B;have u:=s6.trans u7;have UN:=u _ _ A;have S:=zk.mono λb x=>u.dj;have q1:=bO (rt/5) (show (4:Int)≠0 by decide);have q2:=bR (rt/5) (show (0:Int)<4 by decide);refine⟨l,_,_,rfl,rfl,UN,(by rw[ah,zk.len,ah];exact bX ∅),?_⟩;refine GZ _ _ ⟨(I.trans u).out Z,rs++[⟨x,y,z,1+rt/5%4,le⟩],_,_,_,_,_,_,_,rfl,⟨qs++[q],?_,?_⟩,by rw[ay,ei];rfl,λr s=>?_⟩
   ·rw[au,aO];rfl
   ·rw[aO]
    exact (dI.snoc S (cN.of B)).mono λb x=>cN.past UN iN bU
   ·rcases bG.mp s with w'|w'
    ·exact X r w'
    ·rw[aS.mp w']
     exact⟨R,D,O,G,L,hz,by show 1<=1+rt/5%4;lia,by show 1+rt/5%4<=4;lia,le1,U⟩
  ·rintro d v ⟨I,rs,v5,v6,v7,v8,M,p,f,rfl,hR,ei,X⟩
   exact⟨_,rfl,k l v rs I Z hR (by rw[ei];simpa using hm) X⟩
theorem Le{K:af}{H:Hp}{l q:Addr}{qs:List Addr}{cl:List (Nat×Nat)}{pl a:Nat}(hl:H l=some (.lst (qs.map V.ref)))(d:dI K H qs (cl.map λc=>[.int c.1,.int c.2]))(hq:H q=some (.tup [V.int pl,.int a])) :
 (upd H l (.lst (qs.map V.ref++[.ref q]))) l=some (.lst ((qs++[q]).map V.ref))/\dI K (upd H l (.lst (qs.map V.ref++[.ref q]))) (qs++[q]) ((cl++[(pl,a)]).map λc=>[.int c.1,.int c.2]):=by
 refine⟨by rw[au,aO];rfl,?_⟩;rw[aO];exact (dI.snoc d (cN.of hq)).mono λb x=>cN.past hl iN bU
inductive Gh(K:af)(vs:List V)(H:Hp)(Q:VK)(E:XK):Prop
 |mk (a:Addr) (cs:List Int) (n g:Nat):vs=[.ref a,.int n,.int g]->bS K H a (cs.map V.int)->1<=n->n<=10->g<3->(∀l (qs:List Addr) H' (cl:List (Nat×Nat)),aD H H'->H l=none->H' l=some (.lst (qs.map V.ref))->dI K H' qs (cl.map λc=>[.int c.1,.int c.2])->1<=cl.length->cl.length<=20->(∀c∈cl,c.1<n/\c.2<3)->Q (.ref l) H')->Gh K vs H Q E
theorem MC{t:Ad}(T:Txt K mg t):ck P w K mg base iC 2 t.ql t.uI ["_law_script","_law_size","_law_group"]  (Gh K):=by
 refine T.FO.F.jE kq λH Q E R h=>?_
 ·obtain⟨a,cs,n,g,rfl,U,hn1,hn,hg,k⟩:=h
  refine⟨_,(ao (sS 3 kq (gE gf)) (ao (sS 4 kq (xL (gE (KP az az az)) (be cP (be dF (cG (fE T) R T.fN (mP (pv 0) az)) az) az))) (ao (fS (gu rfl T.jH (gj (be f9 az (be cP (be dF (cG (fE T) R T.fN (mP (pv 0) az)) az) (pv 4))))) (gT 5 kq) (ao (sS 6 kq (be dF (cG (fE T) R T.fN (mP (pv 0) (be f9 az (be cP (pv 5) az)))) (be f9 az (be U7 az (be dF (pv 5) az))))) (ao (sS 7 kq (be cP (pv 6) (pv 1))) (bA (cy (qT rD (be cP (be dF (pv 6) az) az) az) (oE (rE br bF bE eX (pv 3) (gj (gD (mP (pv 7) (be cP (be f9 (be f9 (pv 2) az) (be cP (be dF (pv 6) az) az)) az)))))) (oE (rE br bF bE eX (pv 3) (gj (gD (mP (pv 7) (pv 2))))))))))) (oR (pv 3))))),?_⟩
  left
  refine⟨aR _,λl M=>?_⟩;have s0:=aD.new (o:=.lst []) M;have Py:=au (H:=H) (a:=l) (o:=.lst []);generalize upd H l (.lst [])=H0 at s0 Py;refine⟨nu,λZ h1=>?_⟩;have O:=aD.new (o:=.lst [V.int 6,V.int 6,V.int 20]) h1;have G:=au (H:=H0) (a:=Z) (o:=.lst [V.int 6,V.int 6,V.int 20]);have C:=O _ _ Py;have N:=s0.trans O;generalize upd H0 Z (.lst [V.int 6,V.int 6,V.int 20])=H1 at O G C N;refine⟨_,rfl,a,cs,1,rfl,N.seq U,!_,_,_,rfl,rfl,⟨!_,!_⟩,_,_,rfl,rfl,(by show (0:Int)<3;decide),?_⟩;obtain⟨v,hmo,emo⟩:=ahH (x:=6) (y:=6) (z:=20) (i:=cs.getD (1:Int).toNat 0/7%3) 1 20 (!_) (!_) (!_) (bO _ (!_)) (bR _ (!_));refine⟨Z,_,_,_,rfl,rfl,bS.of G,emo,?_⟩;dsimp only[gU];refine⟨_,rfl,a,cs,1,rfl,N.seq U,!_,_,_,rfl,rfl,⟨!_,!_⟩,_,rfl,_,_,rfl,rfl,(by show 0<v;lia),_,_,rfl,rfl,?_⟩;have q1:=bO (cs.getD (1:Int).toNat 0/36) (show v≠0 by lia);have q2:=bR (cs.getD (1:Int).toNat 0/36) (show 0<v by lia);obtain⟨m,em⟩:∃m:Nat,1+cs.getD (1:Int).toNat 0/36%v=(m:Int):=⟨(1+cs.getD (1:Int).toNat 0/36%v).toNat,∅⟩;have hm1:1<=m:=∅
  have amI:m<=20:=∅
  refine⟨(m:Int),(by rw[<- em]),∅,∅,?_⟩;refine Hr (n:=m) (λi σ p=>aD H p/\∃(D:List Addr) (cl:List (Nat×Nat)) (v5 v6 Y:Option V),σ=[some (.ref a),some (.int n),some (.int g),some (.ref l),some (.int v),v5,v6,Y]/\p l=some (.lst (D.map V.ref))/\dI K p D (cl.map λc=>[.int c.1,.int c.2])/\cl.length=i/\∀c∈cl,c.1<n/\c.2<3)
   ⟨N,[],[],_,_,_,rfl,C,⟨rfl,λi q x e=>by cases e⟩,rfl,λc hc=>eL hc (-_)⟩ ?_ ?_
  ·rintro i σ p Nf GZ hi ⟨B,D,cl,v5,v6,Y,rfl,f,u,X,L⟩
   rw[gB];have e6:=bO (i:Int) (show (6:Int)≠0 by decide);have d6:0<=(i:Int)/6:=Int.ediv_nonneg ∅ (!_);have d6':(i:Int)/6<=20:=∅
   refine⟨_,rfl,_,rfl,_,_,rfl,rfl,(by show (0:Int)<6;decide),_,_,rfl,rfl,a,cs,_,rfl,B.seq U,∅,_,rfl,_,_,rfl,rfl,⟨!_,!_⟩,_,_,rfl,rfl,.inl ⟨!_,!_⟩,_,_,rfl,rfl,_,_,rfl,rfl,⟨∅,∅⟩,?_⟩;dsimp only[gU];generalize cs.getD _ 0/(1+7*((i:Int)/6))=c;refine⟨_,rfl,_,rfl,_,_,rfl,rfl,(by show (0:Int)<n;lia),?_⟩;dsimp only[gU];have J:=bO c (show (n:Int)≠0 by lia);have I:=bR c (show (0:Int)<n by lia);obtain⟨r,W⟩:∃r:Nat,c%(n:Int)=(r:Int):=⟨(c%(n:Int)).toNat,∅⟩;rw[W];have A:r<n:=∅
   refine⟨_,rfl,_,_,rfl,rfl,⟨!_,!_⟩,_,_,rfl,rfl,(by show (0:Int)<4;decide),rfl,_,rfl,iY (λe=>?_) (λe=>?_)⟩
   ·have g1:=bO ((g:Int)+1+c/44%2) (show (3:Int)≠0 by decide)
    have g2:=bR ((g:Int)+1+c/44%2) (show (0:Int)<3 by decide);obtain⟨gr,egr⟩:∃gr:Nat,((g:Int)+1+c/44%2)%3=(gr:Int):=⟨(((g:Int)+1+c/44%2)%3).toNat,∅⟩;refine⟨_,rfl,.inl ⟨rfl,_,bS.of f⟩,_,rfl,_,rfl,_,_,rfl,rfl,_,rfl,_,_,rfl,rfl,⟨!_,!_⟩,_,_,rfl,rfl,(by show (0:Int)<2;decide),_,_,rfl,rfl,_,_,rfl,rfl,(by show (0:Int)<3;decide),fO,λq hq=>?_⟩;have s:=aD.new (o:=.tup [V.int r,.int (((g:Int)+1+c/44%2)%3)]) hq;have d:=au (H:=p) (a:=q) (o:=.tup [V.int r,.int (((g:Int)+1+c/44%2)%3)]);generalize upd p q (.tup [V.int r,.int (((g:Int)+1+c/44%2)%3)])=H3 at s d;rw[egr] at d;have j:=s _ _ f;obtain⟨J,I⟩:=Le (cl:=cl) j (u.mono λb x=>s.dj) d;refine⟨l,_,_,rfl,rfl,j,(by rw[ah,u.len,ah];exact bX ∅),GZ _ _ ⟨(B.trans s).out M,_,_,_,_,_,rfl,J,I,by rw[ay,X];rfl,λz S=>?_⟩⟩;rcases bG.mp S with w'|w'
    ·exact L z w'
    ·rw[aS.mp w']
     exact⟨A,by show gr<3;lia⟩
   ·refine⟨_,rfl,.inl ⟨rfl,_,bS.of f⟩,_,rfl,_,rfl,fO,λq hq=>?_⟩
    have s:=aD.new (o:=.tup [V.int r,.int g]) hq;have d:=au (H:=p) (a:=q) (o:=.tup [V.int r,.int g]);generalize upd p q (.tup [V.int r,.int g])=H3 at s d;have j:=s _ _ f;obtain⟨J,I⟩:=Le (cl:=cl) j (u.mono λb x=>s.dj) d;refine⟨l,_,_,rfl,rfl,j,(by rw[ah,u.len,ah];exact bX ∅),GZ _ _ ⟨(B.trans s).out M,_,_,_,_,_,rfl,J,I,by rw[ay,X];rfl,λz S=>?_⟩⟩;rcases bG.mp S with w'|w'
    ·exact L z w'
    ·rw[aS.mp w']
     exact⟨A,hg⟩
  ·rintro σ p ⟨B,D,cl,v5,v6,Y,rfl,f,u,X,L⟩
   exact⟨_,rfl,k l D p cl B M f u ∅ ∅ L⟩
inductive Jm(K:af)(CT C:Addr)(vs:List V)(H:Hp)(Q:VK)(E:XK):Prop
 |mk (p dx tp ln lr:Addr) (ns:List Int) (rs:List R5):vs=[.ref p,.ref tp]->H p=some (.ins C dx [])->cX K CT H tp ln lr ns rs->rs.length<=20->(∀r∈rs,1<=r.d/\r.d<=4)->(∀lu (ls:List Addr) H',H lu=none->(∀l∈ls,H l=none)->lu∉ls->ls.Nodup->ls.length=rs.length->H' p=some (.ins C dx [("town",.ref tp),("upright",.ref lu)])->H' lu=some (.lst (ls.map V.ref))->(∀(j:Nat) l r,ls[j]?=some l->rs[j]?=some r->H' l=some (.lst (bw (aq r.d.toNat))))->(∀b o,H b=some o->b≠p->H' b=some o)->Q .fk H')->Jm K CT C vs H Q E
theorem DW{t:Ad}(T:Txt K mg t):ck P w K mg base iC 3 t.iP t.kr ["self","town"]  (Jm K t.bh t.cK):=by
 refine T.wO.F.jE uz λH Q E hr h=>?_
 ·obtain⟨p,W,B,ln,lr,ns,rs,rfl,hp,hT,vX,hw,k⟩:=h
  refine⟨_,(ao (fJ (pv 0) (pv 1) rfl) (bA (fJ (pv 0) (gQ (kO uz ["rope","town"] [none,some 1]) rfl (gu rfl T.jH (gj (aU (pv 1) rfl))) (λ_ _ _ _=>by exact (gS 0 zO)) (λ_ _ _ _=>by exact lM) (λ_ _ _ _=>by exact (iM (Qa rfl) (by rfl) T.vA boot_list (gj (iM M6 (by rfl) T.jH boot_range (gj (cG (Gg T) hr T.Cq (mP (pv 1) (pv 0))))))))) rfl))),?_⟩
  left
  obtain⟨⟨dt,htp⟩,_⟩:=id hT;have gw:B≠p:=mX htp hp λz=>by have:=(HO.ins.inj z).2.2;cases this
  refine⟨_,rfl,_,rfl,p,_,W,[],rfl,hp,T.dO,T.j7,!_,?_⟩;rw[dH (names:=[]) rfl rfl];generalize I:upd H p (.ins t.cK W ([]++[(Str.ofString "town",V.ref B)]))=H1;have k1:∀b o,H b=some o->b≠p->H1 b=some o:=λb o e U=>by rw[<- I,aC U];exact e
  have y:H1 p=some (.ins t.cK W [(Str.ofString "town",V.ref B)]):=by rw[<- I];exact au
  have C:=hT.but k1 hp gw;have f1:∀{l:Addr},H1 l=none->H l=none:=λ{l} e=>by
   cases q:H l with
   |none=>rfl
   |some o =>
    by_cases z:l=p
    ·rw[z,y] at e;cases e
    ·have:=k1 _ _ q z
     rw[e] at this;cases this
  obtain⟨⟨dt,ah4⟩,_⟩:=id C;refine⟨_,rfl,B,_,dt,_,_,rfl,ah4,T.fh,T.uK,rfl,_,rfl,(by show -(2^62)<=((rs.length:Nat):Int);lia),(by show ((rs.length:Nat):Int)<2^62;lia),λc a=>?_⟩;refine gR (n:=(((rs.length:Nat):Int)).toNat) (λi ys R=>∃f:List Addr,ys=f.map V.ref/\f.length=i/\f.Nodup/\(∀l∈f,H l=none/\R l≠none)/\∀(j:Nat) l r,f[j]?=some l->rs[j]?=some r->R l=some (.lst (bw (aq r.d.toNat)))/\l≠c) a Es wg ⟨[],rfl,rfl,lH,λl u=>(by cases u),λj l r e=>by simp at e⟩ ?_ ?_
  ·rintro i ys R X A O ⟨f,rfl,s,nd,g,m⟩ x H3 ⟨rfl,rfl⟩
   have X:i<rs.length:=by simpa using X
   have Y:rs[i]?=some rs[i]:=aa X;have wi:=hw _ (aG Y);obtain⟨d,ed⟩:∃d:Nat,rs[i].d=(d:Int):=⟨rs[i].d.toNat,∅⟩;refine⟨_,rfl,_,rfl,B,ln,lr,ns,rs,i,rs[i],(by show [V.ref B,V.int (0+(i:Int))]=_;rw[gB]),C.mono A,Y,?_⟩;refine⟨rs[i].d,rfl,λq hq=>?_⟩;have N:=aD.new (o:=.UP 0 rs[i].d) hq;refine⟨q,d,rfl,(by rw[au,ed]),∅,λl u=>?_⟩;have Py:H l=none:=f1 ((A.trans N).free u);have nl:l∉f:=λz=>(g l z).2 (N.free u);have D:=N.trans (aD.new (o:=.lst ((aq d).map λk=>V.int (k:Nat))) u);have WE:=D _ _ O;have Kc:(upd (upd H3 q (.UP 0 rs[i].d)) l (.lst ((aq d).map λk=>V.int (k:Nat)))) l=some (.lst (bw (aq d))):=au;have v:l≠c:=(aJ (N _ _ O) u).symm;generalize upd (upd H3 q (.UP 0 rs[i].d)) l (.lst ((aq d).map λk=>V.int (k:Nat)))=H4 at D WE Kc;refine fj a (by simpa using X) (A.trans D) WE (by rw[ah,s];exact bX ∅) ⟨f++[l],by rw[aO];rfl,by rw[ay,s];rfl,Gr.BV nd nl,λG hl'=>?_,λj G r M L=>?_⟩
   ·rcases bG.mp hl' with z|z
    ·obtain⟨z1,S⟩:=g G z
     refine⟨z1,?_⟩;by_cases q:G=c
     ·rw[q,au];exact aP _
     ·rw[aC q]
      cases e:H3 G with
      |none=>exact eL e S
      |some o=>rw[D _ _ e];exact aP _
    ·rw[aS.mp z]
     exact⟨Py,by rw[aC v,Kc];exact aP _⟩
   ·rcases AS M with M|⟨rfl,rfl⟩
    ·obtain⟨z1,S⟩:=m j G r M L
     exact⟨by rw[aC S];exact D _ _ z1,S⟩
    ·rw[s,Y] at L
     cases L;rw[ed,f6];exact⟨by rw[aC v];exact Kc,v⟩
  ·rintro ys R A O ⟨f,rfl,s,nd,g,m⟩
   have s:f.length=rs.length:=by simpa using s
   have npa:p≠c:=aJ y a;have J:=A _ _ y;refine⟨_,rfl,p,_,W,_,rfl,J,T.dO,T.fU,(by show 1<1000;decide),?_⟩;rw[dH (names:=["town"]) rfl (by decide +kernel)];refine k c f _ (f1 a) (λl u=>(g l u).1) (λz=>?_) nd s au (by rw[aC (bM npa)];exact O) (λj l r M L=>?_) λb o e U=>by rw[aC U];exact A _ _ (k1 _ _ e U)
   ·obtain⟨j,hj⟩:=gY z
    have Z:=(ai.mp hj).1;exact (m j c _ hj (aa (s▸Z))).2 rfl
   ·have z:=(m j l r M L).1
    rw[aC (mX z J (by intro z;cases z))];exact z
inductive Gi(K:af)(C:Addr)(vs:List V)(H:Hp)(Q:VK)(E:XK):Prop
 |mk (tp ln lr:Addr) (ns:List Int) (rs:List R5):vs=[.ref tp]->cX K C H tp ln lr ns rs->ns.length<=12->(∀l (qs:List Addr) H',aD H H'->H l=none->H' l=some (.lst (qs.map V.ref))->dI K H' qs (gF ns.length (zh ns))->Q (.ref l) H')->Gi K C vs H Q E
theorem Kd{t:Ad}(T:Txt K mg t):ck P w K mg base iC 3 t.nO t.rV ["town"]  (Gi K t.bh):=by
 refine T.DB.F.jE Bo λH Q E A h=>?_
 ·obtain⟨u,D,B,ns,y,rfl,s,z,k⟩:=h
  refine⟨_,(oR (gQ (kO Bo ["house","town"] [none,some 0]) rfl (gu rfl T.jH (gj (aU (pv 0) rfl))) (λ_ _ _ _=>by exact (gS 0 EU)) (λ_ _ _ _=>by exact lM) (λ_ _ _ _=>by exact (cG (Jd T) A T.EV (mP (pv 1) (pv 0)))))),?_⟩
  left
  obtain⟨⟨C,l⟩,_⟩:=id s;refine⟨_,rfl,u,_,C,_,_,rfl,l,T.fh,T.mR,rfl,(ns.length:Int),rfl,∅,∅,λm a=>?_⟩;refine gR (n:=((ns.length:Int)).toNat) (λi o g=>∃c:List Addr,o=c.map V.ref/\dI K g c (gF i (zh ns))) a Es wg ⟨[],rfl,⟨rfl,λi q x e=>by cases e⟩⟩ ?_ ?_
  ·rintro i o g f j p ⟨c,rfl,d⟩ x I ⟨rfl,rfl⟩
   have f:i<ns.length:=by simpa using f
   rw[gB];refine⟨_,rfl,_,rfl,u,D,B,ns,y,i,ns[i],rfl,s.mono j,aa f,λq G r hq=>?_⟩;have v:=r _ _ p;have J:c.length=i:=by rw[d.len];simp[gF]
   refine fj a (by simpa using f) (j.trans r) v (by rw[ah];exact bX ∅) ⟨c++[q],by rw[aO];rfl,?_⟩;have e:gF (i+1) (zh ns)=gF i (zh ns)++[cT ⟨ns[i],0,0,-1⟩]:=by
    unfold gF;rw[fF,aO,bL,List.map_nil];congr 3;unfold zh;rw[ak,aa f];rfl
   rw[e];exact (dI.snoc (d.mono λb x=>r.dj) hq).mono λb x=>cN.past v iN bU
  ·rintro o g j p ⟨c,rfl,d⟩
   rw[show ((ns.length:Int)).toNat=ns.length from rfl] at d;exact k m c g j a p d
inductive AH(K:af)(C:Addr)(vs:List V)(H:Hp)(Q:VK)(E:XK):Prop
 |mk (tp ln lr lc:Addr) (ns:List Int) (rs:List R5) (qs:List Addr) (cl:List (Nat×Nat)):vs=[.ref tp,.ref lc]->cX K C H tp ln lr ns rs->bS K H lc (qs.map V.ref)->dI K H qs (cl.map λc=>[.int c.1,.int c.2])->cl.length<=20->(∀c∈cl,c.1<ns.length/\c.2<3)->Q .fk H->AH K C vs H Q E
theorem Fg{t:Ad}(T:Txt K mg t):ck P w K mg base iC 1 t.ju t.lV ["town","callers"]  (AH K t.bh):=by
 refine T.yV.F.jE wF λH Q E M h=>?_
 ·obtain⟨u,O,N,f,ns,J,c,cl,rfl,B,m,x,L,n,k⟩:=h
  refine⟨_,(ao (cy (qT Rm (lS T.gm (pv 1)) (lI rfl T.Ip (v:=.int 20) ⟨_,rfl⟩)) dZ bz) (bA (fS (fq (pv 1)) (gT 2 wF) (ao (cy (qT we (lS T.gm (pv 2)) az) dZ bz) (ao (cy (iL (jj p7 oH az (xT (pv 2) az) (aU (pv 0) rfl))) dZ bz) (bA (cy (iL (jj p7 oH az (xT (pv 2) az) (lS T.gm (lI rfl T.kD (v:=.ref t.dW) rfl)))) dZ bz))))))),?_⟩
  left
  obtain⟨⟨D,l⟩,_⟩:=id B;have I:c.length=cl.length:=by rw[x.len,ah]
  refine⟨_,rfl,f,_,rfl,.inl m,_,_,rfl,rfl,_,rfl,KD (ff (by rw[ah];lia)) ?_⟩;refine⟨_,rfl,f,rfl,⟨_,m⟩,wc (K:=K) (a:=f) (xs:=c.map V.ref) (λi g e=>e=H/\∃r:Option V,g=[some (.ref u),some (.ref f),r]) ⟨rfl,_,rfl⟩ (λi g e _ z=>by rw[z.1];exact m) ?_ ?_⟩
  ·rintro i y g e p ⟨rfl,r,rfl⟩
   have b:=(ai.mp p).1;rw[ah] at b;have d:i<cl.length:=I▸b;have G:y=.ref c[i]:=by
    rw[aj,aa b] at p;exact (aQ p).symm
   subst G;have hq:cN K e c[i] [.int cl[i].1,.int cl[i].2]:=x.at' i _ _ (aa b) (by rw[aj,aa d];rfl);obtain⟨s,A⟩:=n _ (aK d);generalize c[i]=q at hq;generalize cl[i]=cc at hq s A;obtain⟨o,j⟩:=cc;refine⟨_,rfl,q,_,rfl,.inr hq,rfl,_,rfl,KD (by show (!decide (V.int 2=V.int 2))=false;rw[e8 rfl];rfl) ?_⟩;refine⟨_,rfl,q,_,_,_,rfl,rfl,hq,rfl,_,_,rfl,rfl,_,rfl,?_⟩;rw[e8 (show (0:Int)<=(o:Int) by lia)];refine fK ⟨_,rfl,u,_,D,_,_,rfl,l,T.fh,T.mR,rfl,_,_,rfl,rfl,_,rfl,?_⟩;rw[e8 (show (o:Int)<(ns.length:Int) by have:o<ns.length:=s;lia)];refine eG ?_;refine⟨_,rfl,q,_,_,_,rfl,rfl,hq,rfl,_,_,rfl,rfl,_,rfl,?_⟩;rw[e8 (show (0:Int)<=(j:Int) by lia)];refine fK ⟨_,_,rfl,.inr (T.fD _),_,_,rfl,rfl,_,rfl,?_⟩;have C:decide ((j:Int)<((([.int 1,.int 2,.int 4]:List V).length:Nat):Int))=true:=e8 (by show (j:Int)<3;have:j<3:=A;lia);rw[C];exact eG ⟨rfl,_,rfl⟩
  ·rintro g e ⟨rfl,r,rfl⟩
   exact k
end
noncomputable abbrev nc(t:Ad):NC:=⟨t.cH,t.cK,t.eK,t.jv,t.iS,t.fT,t.jd⟩
section
variable{P:Program}{w:World}{K:af}{mg:Str->Option Value}{base:Heap}
inductive Lf(K:af)(CT:Addr)(c:NC)(vs:List V)(H:Hp)(Q:VK)(E:XK):Prop
 |mk (p dx tp ln lr lc:Addr) (ns:List Int) (rs:List R5) (qs:List Addr) (cl:List (Nat×Nat)):vs=[.ref p,.ref tp,.ref lc]->H p=some (.ins c.c7 dx [])->cX K CT H tp ln lr ns rs->ns.length<=12->rs.length<=20->(∀r∈rs,1<=r.d/\r.d<=4)->bS K H lc (qs.map V.ref)->dI K H qs (cl.map λc=>[.int c.1,.int c.2])->cl.length<=20->(∀c∈cl,c.1<ns.length/\c.2<3)->(∀F H',cY K c H' F p tp ns.length (S0 ns rs cl)->(∀b o,H b=some o->b≠p->H' b=some o)->(∀b,F b->b=p∨H b=none)->Q .fk H')->Lf K CT c vs H Q E
noncomputable abbrev nf(fs:List (Str×V))(k:Str)(v:V):List (Str×V):=fs++[(k,v)]
structure Gj(K:af)(CT:Addr)(H:Hp)(tp ln lr lc:Addr)(ns:List Int)(rs:List R5)(qs:List Addr)(cl:List (Nat×Nat)):Prop where
 ni:cX K CT H tp ln lr ns rs
 YR:bS K H lc (qs.map V.ref)
 tup:dI K H qs (cl.map λc=>[.int c.1,.int c.2])
theorem Gj.mono{e f c d a:Addr}{H g:Hp}{ns:List Int}{rs:List R5}{qs:List Addr}{cl:List (Nat×Nat)}(h:Gj K e H f c d a ns rs qs cl)(s:aD H g):Gj K e g f c d a ns rs qs cl:=⟨h.ni.mono s,s.seq h.YR,h.tup.mono λb x=>s.dj⟩
theorem Gj.put{i a g f d p C l:Addr}{H:Hp}{ns:List Int}{rs:List R5}{qs:List Addr}{cl:List (Nat×Nat)}{j:List (Str×V)}{o:HO}(h:Gj K i H a g f d ns rs qs cl)(c:H p=some (.ins C l j))(n:a≠p):Gj K i (upd H p o) a g f d ns rs qs cl :=
 ⟨h.ni.but (λb u e k=>by rw[aC k];exact e) c n,bS.past c VZ bU h.YR,h.tup.mono λb x=>cN.past c m9 bU⟩
theorem xg(la:Nat->Addr)(i:Nat)(l:Addr):(aq (i+1)).map (λg=>V.ref (fM la i l g))=(aq i).map (λg=>V.ref (la g))++[.ref l]:=by
 rw[fF,aO,bL,List.map_nil,cz];congr 1;refine cQ λg a=>?_;rw[dN (aZ (bH.mp a))]
noncomputable def acm(loc:Role->Addr)(acc:Addr)(la:Nat->Addr):Role->Addr
 |.ux=>acc
 |.rows g=>la g
 |r=>loc r
noncomputable def obR(ob:Role->Option HO)(la:Nat->Addr)(rq:Nat->List Addr)(i:Nat):Role->Option HO
 |.ux=>some (.lst ((aq i).map λg=>.ref (la g)))
 |.rows g=>if g<i then some (.lst ((rq g).map V.ref)) else none
 |r=>ob r
noncomputable def YS(loc:Role->Addr)(acc:Addr)(lb ld:Nat->Addr):Role->Addr
 |.i6=>acc
 |.book g=>lb g
 |.eZ g=>ld g
 |r=>loc r
noncomputable def ME(C:Addr)(ob:Role->Option HO)(Q3 lb ld:Nat->Addr)(i:Nat):Role->Option HO
 |.i6=>some (.lst ((aq i).map λg=>.ref (lb g)))
 |.book g=>if g<i then some (.ins C (Q3 g) [("kept",.ref (ld g))]) else none
 |.eZ g=>if g<i then some (.dT []) else none
 |r=>ob r
noncomputable def aeT(loc:Role->Addr)(acc:Addr)(lh:Nat->Addr):Role->Addr
 |.jD=>acc
 |.handed g=>lh g
 |r=>loc r
noncomputable def obH(ob:Role->Option HO)(lh:Nat->Addr)(i:Nat):Role->Option HO
 |.jD=>some (.lst ((aq i).map λg=>.ref (lh g)))
 |.handed g=>if g<i then some (.lst []) else none
 |r=>ob r
noncomputable def dxF(dx WO:Addr)(Q3:Nat->Addr):Role->Addr
 |.c7=>dx
 |.cJ=>WO
 |.book g=>Q3 g
 |_=>0
noncomputable def aeU(p sp lu:Addr)(ls:List Addr)(acc:Addr)(la:Nat->Addr)(acb:Addr)(lb ld:Nat->Addr)(Xw YT YU:Addr)(lh:Nat->Addr)(acl mu:Addr):Role->Addr
 |.c7=>p
 |.cJ=>sp
 |.c9=>lu
 |.fX i=>ls.getD i 0
 |.ux=>acc
 |.rows g=>la g
 |.i6=>acb
 |.book g=>lb g
 |.eZ g=>ld g
 |.aM=>Xw
 |.groups=>YT
 |.jD=>YU
 |.handed i=>lh i
 |.cO=>acl
 |.eU=>mu
 |_=>0
theorem Ke{t:Ad}(T:Txt K mg t):ck P w K mg base iC 5 t.nK t.rR ["self","town","callers"]  (Lf K t.bh (nc t)):=by
 refine T.Dz.F.jE jx λH Q E hr h=>?_
 ·obtain⟨p,s,y,ln,lr,lc,ns,rs,qs,cl,rfl,hp,hT,h12,vX,hw,hL,zk,YV,hok,k⟩:=h
  refine⟨_,(ao (dS (cG (Fg T) hr T.yV (mP (pv 1) (pv 2)))) (ao (fJ (pv 0) (pv 1) rfl) (ao (fJ (pv 0) (cI T.wO (DW T) hr T.Ue (gj (pv 1))) rfl) (ao (fJ (pv 0) (gQ (kO jx ["bit","town"] [none,some 1]) rfl (U1 (lI rfl T.kD (v:=.ref t.dW) rfl)) (λ_ _ _ _=>by exact (gS 0 EN)) (λ_ _ _ _=>by exact lM) (λ_ _ _ _=>by exact (cG (Kd T) hr T.DB (gj (pv 1))))) rfl) (ao (fJ (pv 0) (gQ (kO jx ["bit"] [none]) rfl (U1 (lI rfl T.kD (v:=.ref t.dW) rfl)) (λ_ _ _ _=>by exact (gS 0 EO)) (λ_ _ _ _=>by exact lM) (λ_ _ _ _=>by exact (Vi T.vp.M (Jk T) (hr.mono (!_)) rfl T.ab3 T.vp.B .nil mK))) rfl) (ao (fJ (pv 0) (gQ (kO jx ["caller"] [none]) rfl (fq (pv 2)) (λ_ _ _ _=>by exact (gS 0 ER)) (λ_ _ _ _=>by exact lM) (λ_ _ _ _=>by exact (yT K (pv 0) az))) rfl) (ao (fJ (pv 0) (gQ (kO jx ["caller"] [none]) rfl (fq (pv 2)) (λ_ _ _ _=>by exact (gS 0 ES)) (λ_ _ _ _=>by exact lM) (λ_ _ _ _=>by exact (yT K (pv 0) az))) rfl) (ao (fJ (pv 0) (gQ (kO jx ["caller"] [none]) rfl (fq (pv 2)) (λ_ _ _ _=>by exact (gS 0 ET)) (λ_ _ _ _=>by exact lM) (λ_ _ _ _=>by exact (gE gf))) rfl) (ao (fJ (pv 0) (gE gf) rfl) (bA (fJ (pv 0) (gE gf) rfl))))))))))),?_⟩
  left
  obtain⟨⟨dt,htp⟩,htn,vs,htr,_⟩:=id hT;have gw:y≠p:=mX htp hp λz=>by have:=(HO.ins.inj z).2.2;cases this
  refine bW λNx L=>?_;refine⟨_,rfl,_,rfl,y,ln,lr,lc,ns,rs,qs,cl,rfl,hT,hL,zk,YV,hok,L _ _ ?_⟩;have B0:Gq H H p (λ_=>p) (λr=>if r=.c7 then some (.ins t.cH s []) else none):=by
   refine⟨⟨λr o e=>?_,λr q h1 h2 _=>?_⟩,rfl,-_,λb o e _=>e,λb hb=>.inl ?_⟩
   ·by_cases z:r=.c7
    ·rw[ee z] at e;cases e;exact hp
    ·rw[eH z] at e;cases e
   ·have g:∀{r:Role},(if r=Role.c7 then some (HO.ins t.cH s []) else none)≠none->r=.c7:=λ{r} h=>by
     by_cases z:r=.c7
     ·exact z
     ·rw[eH z] at h;exact eL rfl h
    rw[g h1,g h2]
   ·obtain⟨_,_,e⟩:=hb
    exact e.symm
  refine bW λNx L=>?_;refine⟨_,rfl,_,rfl,p,_,s,[],rfl,hp,T.bK,T.mE,!_,?_⟩;rw[dH (names:=[]) rfl rfl];refine L _ _ ?_;have B1:=B0.put (.ins t.cH s ([]++[(Str.ofString "town",V.ref y)]));have hT1:cX K t.bh (upd H p (.ins t.cH s ([]++[(Str.ofString "town",V.ref y)]))) y ln lr ns rs:=hT.but (λb o e n=>by rw[aC n];exact e) hp gw;have hp1:=au (H:=H) (a:=p) (o:=.ins t.cH s ([]++[(Str.ofString "town",V.ref y)]));have kq1:∀b x,cN K H b x->cN K (upd H p (.ins t.cH s ([]++[(Str.ofString "town",V.ref y)]))) b x:=λb x=>cN.past hp m9 bU;have hL1:=bS.past hp VZ (bU (o:=.ins t.cH s ([]++[(Str.ofString "town",V.ref y)]))) hL;have WQ:=zk.mono kq1;generalize upd H p (.ins t.cH s ([]++[(Str.ofString "town",V.ref y)]))=H1 at B1 hT1 hp1 hL1 WQ;refine bW λNx L=>?_;refine⟨_,rfl,λI WO nsp vB hne=>?_⟩;have t2:aD H1 (upd (upd H1 WO (.own I)) I (.ins t.cK WO [])):=(aD.new vB).trans (aD.new (by rw[aC (bM hne)];exact nsp));refine⟨I,WO,y,ln,lr,ns,rs,rfl,au,hT1.mono t2,vX,hw,λlu J H2 MJ hls nlu nd el h2p h2u h2w kp=>⟨rfl,?_⟩⟩;have s2:aD H1 H2:=λb o e=>kp b o (t2 b o e) (aJ e nsp);have aeW:H1 lu=none:=t2.free MJ;have aeX:∀l∈J,H1 l=none:=λl hl=>t2.free (hls l hl);have OS:uY H2 (Yw I lu J) (T5 t.cK WO y lu J (rs.map λr=>aq r.d.toNat)):=by
   refine abQ h2p h2u (by rw[ah];exact el) (λi l w' e1 e2=>?_) nd nlu;rw[aj] at e2;cases e3:rs[i]? with
   |none=>rw[e3] at e2;cases e2
   |some r=>rw[e3] at e2;cases e2;exact h2w i l r e1 e3
  have B2:=B1.join OS rfl (λr m=>by
   cases r <;> first|exact eL rfl m|skip
   ·exact nsp
   ·exact aeW
   ·rename_i i
    show H1 (J.getD i 0)=none;by_cases z:i<J.length
    ·rw[ak,aa z]
     exact aeX _ (aK z)
    ·exact eL (show ((rs.map λr:R5=>aq r.d.toNat)[i]?.map λw=>HO.lst (bw w))=none by rw[ji (by rw[ah];lia)];rfl) m) s2
  have aeY:Gj K t.bh H2 y ln lr lc ns rs qs cl:=⟨hT1.mono s2,s2.seq hL1,WQ.mono λb x=>s2.dj⟩;have hp2:=s2 _ _ hp1;refine⟨_,rfl,p,_,s,_,rfl,hp2,T.bK,T.lA,(by show 1<1000;decide),?_⟩;rw[dH (names:=["town"]) rfl (by decide +kernel)];refine L _ _ ?_;have B3:=B2.put (.ins t.cH s (([]++[(Str.ofString "town",V.ref y)])++[(Str.ofString "strands",V.ref I)]));have acq:=aeY.put hp2 gw (o:=.ins t.cH s (([]++[(Str.ofString "town",V.ref y)])++[(Str.ofString "strands",V.ref I)]));have hp3:=au (H:=H2) (a:=p) (o:=.ins t.cH s (([]++[(Str.ofString "town",V.ref y)])++[(Str.ofString "strands",V.ref I)]));generalize upd H2 p (.ins t.cH s (([]++[(Str.ofString "town",V.ref y)])++[(Str.ofString "strands",V.ref I)]))=H3 at B3 acq hp3;generalize ah7:(λr=>if (T5 t.cK WO y lu J (rs.map λr:R5=>aq r.d.toNat) r).isSome=true then Yw I lu J r else p)=GJ at B3;generalize x6:(ie (λr=>if (T5 t.cK WO y lu J (rs.map λr:R5=>aq r.d.toNat) r).isSome=true then T5 t.cK WO y lu J (rs.map λr:R5=>aq r.d.toNat) r else ie (λr=>if r=.c7 then some (.ins t.cH s []) else none) .c7 (.ins t.cH s ([]++[(Str.ofString "town",V.ref y)])) r) .c7 (.ins t.cH s (([]++[(Str.ofString "town",V.ref y)])++[(Str.ofString "strands",V.ref I)])))=ow at B3;refine bW λNx L=>?_;refine⟨_,rfl,⟨_,T.fD _⟩,λA hacc=>?_⟩;refine gR (n:=3) (λi ys W=>∃(X:Nat->Addr) (G:Nat->List Addr),ys=(aq i).map (λg=>.ref (X g))/\Gq H W p (acm GJ A X) (obR ow X G i)/\(∀g,g<i->dI K W (G g) (gF ns.length (zh ns)))) hacc (VJ (T.fD _)) (Na (T.fD _)) ?_ ?_ ?_
  ·refine⟨λ_=>0,λ_=>[],rfl,(B3.new hacc (r:=.ux) (!_) (.lst [])).ext (λr=>?_) (λr m=>?_),λg D=>eL D ∅⟩
   ·cases r <;> first|rfl|skip
    rename_i g;show ow (.rows g)=_;rw[show ow (.rows g)=none by rw[<- x6];rfl];show none=(if g<0 then some (HO.lst (([]:List Addr).map V.ref)) else none);rw[eH (jL g)]
   ·cases r <;> first|rfl|skip
    rename_i g;exact eL (show ow (.rows g)=none by rw[<- x6];rfl) m
  ·rintro i ys W Y sx U ⟨X,G,rfl,B,hR⟩ x H4 ⟨rfl,hx⟩
   refine⟨_,rfl,y,ln,lr,ns,rs,rfl,(acq.mono sx).ni,h12,λl tK H5 s5 hl h5 ht=>?_⟩;have hy5:=s5 _ _ U;have B5:=((B.add s5 hl h5 (r:=.rows i) (λz=>by cases z)).abP (r:=.ux) (aP _) (λz=>by cases z) (.lst ((aq i).map (λg=>V.ref (X g))++[.ref l])));have hl5:l≠A:=(aJ U hl).symm;refine fj hacc Y (sx.trans s5) hy5 (by rw[ah,bx];exact bX ∅) ⟨fM X i l,fM G i tK,(xg X i l).symm,B5.ext (λr=>?_) (λr m=>?_),λg D=>?_⟩
   ·cases r <;> first|rfl|skip
    ·show some (HO.lst _)=some (HO.lst _)
     rw[xg]
    ·rename_i g
     show ie (obR ow X G i) (.rows i) _ (.rows g)=if g<i+1 then some (HO.lst ((fM G i tK g).map V.ref)) else none
     by_cases z:g=i
     ·subst z
      rw[dG,ee ∅,cz]
     ·rw[cD (λe=>z (by cases e;rfl)),dN z]
      show (if g<i then some (HO.lst ((G g).map V.ref)) else none)=_;by_cases z2:g<i
      ·rw[ee z2,ee ∅]
      ·rw[eH z2,eH ∅]
   ·cases r <;> first|rfl|skip
    rename_i g;show qB (acm GJ A X) (.rows i) l (.rows g)=fM X i l g;by_cases z:g=i
    ·subst z
     rw[fm,cz]
    ·rw[eV (λe=>z (by cases e;rfl)),dN z]
     rfl
   ·by_cases z:g=i
    ·subst z
     rw[cz];exact ht.mono λb x=>cN.past hy5 iN bU
    ·rw[dN z]
     exact ((hR g ∅).mono λb x=>s5.dj).mono λb x=>cN.past hy5 iN bU
  rintro ys H4 s4 U ⟨X,G,rfl,B4,hR4⟩;have ae0:=acq.mono s4;have UM:=s4 _ _ hp3;refine⟨_,rfl,p,_,s,_,rfl,UM,T.bK,T.kG,(by show 2<1000;decide),?_⟩;rw[dH (names:=["town","strands"]) rfl (by decide +kernel)];refine L _ _ ?_;generalize eo5:HO.ins t.cH s ((([]++[(Str.ofString "town",V.ref y)])++[(Str.ofString "strands",V.ref I)])++[(Str.ofString "rows_by_group",V.ref A)])=o5;have B5:=B4.put o5;have acs:=ae0.put UM gw (o:=o5);have hp5:=au (H:=H4) (a:=p) (o:=o5);have hR5:∀g,g<3->dI K (upd H4 p o5) (G g) (gF ns.length (zh ns)):=λg D=>(hR4 g D).mono λb x=>cN.past UM m9 bU;generalize upd H4 p o5=H5 at B5 acs hp5 hR5;generalize ae2:acm GJ A X=WR at B5;generalize acu:ie (obR ow X G 3) .c7 o5=YW at B5;have n5:∀g,YW .i6=none/\YW (.book g)=none/\YW (.eZ g)=none:=λg=>by rw[<- acu,<- x6];exact⟨rfl,rfl,rfl⟩
  refine bW λNx L=>?_;refine⟨_,rfl,⟨_,T.fD _⟩,λC YX=>?_⟩;refine gR (n:=3) (λi ys W=>∃(N ld Q3:Nat->Addr),ys=(aq i).map (λg=>.ref (N g))/\Gq H W p (YS WR C N ld) (ME t.eK YW Q3 N ld i)) YX (VJ (T.fD _)) (Na (T.fD _)) ?_ ?_ ?_
  ·refine⟨λ_=>0,λ_=>0,λ_=>0,rfl,(B5.new YX (r:=.i6) (λz=>by cases z) (.lst [])).ext (λr=>?_) (λr m=>?_)⟩
   ·cases r <;> first|rfl|skip
    ·rename_i g
     show YW (.book g)=(if g<0 then some (HO.ins t.eK 0 [("kept",.ref 0)]) else none);rw[eH (jL g)];exact (n5 g).2.1
    ·rename_i g
     show YW (.eZ g)=(if g<0 then some (HO.dT []) else none);rw[eH (jL g)];exact (n5 g).2.2
   ·cases r <;> first|rfl|skip
    ·rename_i g
     exact eL (n5 g).2.1 m
    ·rename_i g
     exact eL (n5 g).2.2 m
  ·rintro i ys W Y sx U ⟨N,ld,Q3,rfl,B⟩ x H6 ⟨rfl,hx⟩
   refine λZ Ed nbp aib hne=>?_;have t6:aD H6 (upd (upd H6 Ed (.own Z)) Z (.ins t.eK Ed [])):=(aD.new aib).trans (aD.new (by rw[aC (bM hne)];exact nbp));refine⟨Z,Ed,rfl,au,λd H7 hd hB kp=>⟨rfl,?_⟩⟩;have s7:aD H6 H7:=λb o e=>kp b o (t6 b o e) (aJ e nbp);have hd6:H6 d=none:=t6.free hd;obtain⟨⟨RL,h7b⟩,h7d⟩:=hB;have nbd:Z≠d:=Qq h7b h7d (λe=>by cases e);have sm:aD H6 (hide H7 d):=λb o e=>by
    have nb:b≠d:=aJ e hd6;show (if b=d then none else H7 b)=some o;rw[eH nb];exact s7 _ _ e
   have sm2:aD (hide H7 d) H7:=λb o e=>by
    have e:(if b=d then none else H7 b)=some o:=e;by_cases z:b=d
    ·rw[ee z] at e;cases e
    ·rw[eH z] at e;exact e
   have hmb:(hide H7 d) Z=some (.ins t.eK RL [("kept",.ref d)]):=by
    show (if Z=d then none else H7 Z)=_;rw[eH nbd];exact h7b
   have hmd:(hide H7 d) d=none:=ee rfl;have B1:=B.add sm nbp hmb (r:=.book i) (λz=>by cases z);have B2:=B1.add sm2 hmd h7d (r:=.eZ i) (λz=>by cases z);have B3:=B2.abP (r:=.i6) (aP _) (λz=>by cases z) (.lst ((aq i).map (λg=>V.ref (N g))++[.ref Z]));refine fj YX Y (sx.trans s7) (s7 _ _ U) (by rw[ah,bx];exact bX ∅) ⟨fM N i Z,fM ld i d,fM Q3 i RL,(xg N i Z).symm,B3.ext (λr=>?_) (λr m=>?_)⟩
   ·cases r <;> first|rfl|skip
    ·show some (HO.lst _)=some (HO.lst _)
     rw[xg]
    ·rename_i g
     show ie (ME t.eK YW Q3 N ld i) (.book i) _ (.book g)=if g<i+1 then some (HO.ins t.eK (fM Q3 i RL g) [("kept",.ref (fM ld i d g))]) else none
     by_cases z:g=i
     ·subst z
      rw[dG,ee ∅,cz,cz]
     ·rw[cD (λe=>z (by cases e;rfl)),dN z,dN z]
      show (if g<i then some (HO.ins t.eK (Q3 g) [("kept",.ref (ld g))]) else none)=_;by_cases z2:g<i
      ·rw[ee z2,ee ∅]
      ·rw[eH z2,eH ∅]
    ·rename_i g
     show ie (ie (ME t.eK YW Q3 N ld i) (.book i) _) (.eZ i) _ (.eZ g)=if g<i+1 then some (HO.dT []) else none
     by_cases z:g=i
     ·subst z
      rw[dG,ee ∅];rfl
     ·rw[cD (λe=>z (by cases e;rfl))]
      show (if g<i then some (HO.dT []) else none)=_;by_cases z2:g<i
      ·rw[ee z2,ee ∅]
      ·rw[eH z2,eH ∅]
   ·cases r <;> first|rfl|skip
    ·rename_i g
     show qB (YS WR C N ld) (.book i) Z (.book g)=fM N i Z g;by_cases z:g=i
     ·subst z
      rw[fm,cz]
     ·rw[eV (λe=>z (by cases e;rfl)),dN z]
      rfl
    ·rename_i g
     show qB (qB (YS WR C N ld) (.book i) Z) (.eZ i) d (.eZ g)=fM ld i d g;by_cases z:g=i
     ·subst z
      rw[fm,cz]
     ·rw[eV (λe=>z (by cases e;rfl)),dN z]
      rfl
  rintro ys H6 s6 U ⟨N,ld,Q3,rfl,B6⟩;have ae3:=acs.mono s6;have hR6:∀g,g<3->dI K H6 (G g) (gF ns.length (zh ns)):=λg D=>(hR5 g D).mono λb x=>s6.dj;have hp6:=s6 _ _ hp5;subst eo5;refine⟨_,rfl,p,_,s,_,rfl,hp6,T.bK,T.qo,(by show 3<1000;decide),?_⟩;rw[dH (names:=["town","strands","rows_by_group"]) rfl (by decide +kernel)];refine L _ _ ?_;generalize eo7:HO.ins t.cH s (((([]++[(Str.ofString "town",V.ref y)])++[(Str.ofString "strands",V.ref I)])++[(Str.ofString "rows_by_group",V.ref A)])++[(Str.ofString "books",V.ref C)])=o7;have B7:=B6.put o7;have Q4:=ae3.put hp6 gw (o:=o7);have hp7:=au (H:=H6) (a:=p) (o:=o7);have hR7:∀g,g<3->dI K (upd H6 p o7) (G g) (gF ns.length (zh ns)):=λg D=>(hR6 g D).mono λb x=>cN.past hp6 m9 bU;generalize upd H6 p o7=H7 at B7 Q4 hp7 hR7;have YY:(qs.map V.ref).length=cl.length:=by rw[ah,Q4.tup.len,ah]
  have ae4:∀{i:Nat} {x:V} {W:Hp},(qs.map V.ref)[i]?=some x->Gj K t.bh W y ln lr lc ns rs qs cl->∃(Y:i<cl.length) (q:Addr),x=.ref q/\cN K W q [.int cl[i].1,.int cl[i].2]:=λ{i x W} hx ev=>by
   have Y:=(ai.mp hx).1;rw[YY] at Y;have hq:i<qs.length:=by rw[<- ah (f:=V.ref),YY];exact Y
   refine⟨Y,qs[i],?_,ev.tup.at' i _ _ (aa hq) (by rw[aj,aa Y];rfl)⟩;rw[aj,aa hq] at hx;exact (aQ hx).symm
  refine bW λNx L=>?_;refine⟨_,rfl,lc,rfl,⟨_,Q4.YR⟩,λXw acv=>?_⟩;refine RI (λi=>cl[i]?.map λc=>V.int (c.1:Nat)) acv Q4.YR ∅ (λi x W R S hx sx h1 h2=>?_) (λH8 s8 U=>?_)
  ·obtain⟨Y,q,rfl,hq⟩:=ae4 hx (Q4.mono sx)
   exact⟨_,rfl,q,_,_,_,rfl,rfl,hq,rfl,h1 _ _ (aD.refl _) (by rw[aa Y];rfl)⟩
  rw[YY,HE] at U;have B8:=B7.add s8 acv U (r:=.aM) (λz=>by cases z);have ae5:=Q4.mono s8;have wh:=s8 _ _ hp7;subst eo7;refine⟨_,rfl,p,_,s,_,rfl,wh,T.bK,T.j8,(by show 4<1000;decide),?_⟩;rw[dH (names:=["town","strands","rows_by_group","books"]) rfl (by decide +kernel)];refine L _ _ ?_;generalize eo9:HO.ins t.cH s ((((([]++[(Str.ofString "town",V.ref y)])++[(Str.ofString "strands",V.ref I)])++[(Str.ofString "rows_by_group",V.ref A)])++[(Str.ofString "books",V.ref C)])++[(Str.ofString "homes",V.ref Xw)])=o9;have B9:=B8.put o9;have Us:=ae5.put wh gw (o:=o9);have hp9:=au (H:=H8) (a:=p) (o:=o9);have hR9:∀g,g<3->dI K (upd H8 p o9) (G g) (gF ns.length (zh ns)):=λg D=>((hR7 g D).mono λb x=>s8.dj).mono λb x=>cN.past wh m9 bU;generalize upd H8 p o9=H9 at B9 Us hp9 hR9;refine bW λNx L=>?_;refine⟨_,rfl,lc,rfl,⟨_,Us.YR⟩,λYT acw=>?_⟩;refine RI (λi=>cl[i]?.map λc=>V.int (c.2:Nat)) acw Us.YR ∅ (λi x W R S hx sx h1 h2=>?_) (λXo RD U=>?_)
  ·obtain⟨Y,q,rfl,hq⟩:=ae4 hx (Us.mono sx)
   exact⟨_,rfl,q,_,_,_,rfl,rfl,hq,rfl,h1 _ _ (aD.refl _) (by rw[aa Y];rfl)⟩
  rw[YY,HE] at U;have B10:=B9.add RD acw U (r:=.groups) (λz=>by cases z);have aas:=Us.mono RD;have YZ:=RD _ _ hp9;subst eo9;refine⟨_,rfl,p,_,s,_,rfl,YZ,T.bK,T.kC,(by show 5<1000;decide),?_⟩;rw[dH (names:=["town","strands","rows_by_group","books","homes"]) rfl (by decide +kernel)];refine L _ _ ?_;generalize aih:HO.ins t.cH s (((((([]++[(Str.ofString "town",V.ref y)])++[(Str.ofString "strands",V.ref I)])++[(Str.ofString "rows_by_group",V.ref A)])++[(Str.ofString "books",V.ref C)])++[(Str.ofString "homes",V.ref Xw)])++[(Str.ofString "groups",V.ref YT)])=o6;have ZZ:=B10.put o6;have Sh:=aas.put YZ gw (o:=o6);have acy:=au (H:=Xo) (a:=p) (o:=o6);have acz:∀g,g<3->dI K (upd Xo p o6) (G g) (gF ns.length (zh ns)):=λg D=>((hR9 g D).mono λb x=>RD.dj).mono λb x=>cN.past YZ m9 bU;generalize upd Xo p o6=Zy at ZZ Sh acy acz;generalize acA:qB (qB (YS WR C N ld) .aM Xw) .groups YT=aat at ZZ;generalize aau:ie (ie (ie (ie (ie (ME t.eK YW Q3 N ld 3) .c7 _) .aM _) .c7 _) .groups _) .c7 o6=WS at ZZ;have n11:∀g,WS .jD=none/\WS (.handed g)=none:=λg=>by rw[<- aau,<- acu,<- x6];exact⟨rfl,rfl⟩
  refine bW λNx L=>?_;refine⟨_,rfl,lc,rfl,⟨_,Sh.YR⟩,λYU Ur=>?_⟩;refine gR (n:=(qs.map V.ref).length) (λi ys W=>∃O:Nat->Addr,ys=(aq i).map (λg=>.ref (O g))/\Gq H W p (aeT aat YU O) (obH WS O i)) Ur (xB Sh.YR) (m7 Sh.YR) ?_ ?_ ?_
  ·refine⟨λ_=>0,rfl,(ZZ.new Ur (r:=.jD) (λz=>by cases z) (.lst [])).ext (λr=>?_) (λr m=>?_)⟩
   ·cases r <;> first|rfl|skip
    rename_i g;show WS (.handed g)=(if g<0 then some (HO.lst []) else none);rw[eH (jL g)];exact (n11 g).2
   ·cases r <;> first|rfl|skip
    rename_i g;exact eL (n11 g).2 m
  ·rintro i ys W Y sx U ⟨O,rfl,B⟩ x gP ⟨rfl,hx⟩
   refine⟨aR _,λl hl=>?_⟩;have u:=aD.new (o:=.lst []) hl;have B3:=(B.new hl (r:=.handed i) (λz=>by cases z) (.lst [])).abP (r:=.jD) (aP _) (λz=>by cases z) (.lst ((aq i).map (λg=>V.ref (O g))++[.ref l]));refine fj Ur Y (sx.trans u) (u _ _ U) (by rw[ah,bx];exact bX ∅) ⟨fM O i l,(xg O i l).symm,B3.ext (λr=>?_) (λr m=>?_)⟩
   ·cases r <;> first|rfl|skip
    ·show some (HO.lst _)=some (HO.lst _)
     rw[xg]
    ·rename_i g
     show ie (obH WS O i) (.handed i) _ (.handed g)=if g<i+1 then some (HO.lst []) else none
     by_cases z:g=i
     ·subst z
      rw[dG,ee ∅]
     ·rw[cD (λe=>z (by cases e;rfl))]
      show (if g<i then some (HO.lst []) else none)=_;by_cases z2:g<i
      ·rw[ee z2,ee ∅]
      ·rw[eH z2,eH ∅]
   ·cases r <;> first|rfl|skip
    rename_i g;show qB (aeT aat YU O) (.handed i) l (.handed g)=fM O i l g;by_cases z:g=i
    ·subst z
     rw[fm,cz]
    ·rw[eV (λe=>z (by cases e;rfl)),dN z]
     rfl
  rintro ys gP s12 U ⟨O,rfl,B12⟩;rw[YY] at B12;have ae7:∀g,g<3->dI K gP (G g) (gF ns.length (zh ns)):=λg D=>(acz g D).mono λb x=>s12.dj;have acB:=s12 _ _ acy;subst aih;refine⟨_,rfl,p,_,s,_,rfl,acB,T.bK,T.DC,(by show 6<1000;decide),?_⟩;rw[dH (names:=["town","strands","rows_by_group","books","homes","groups"]) rfl (by decide +kernel)];refine L _ _ ?_;generalize aij:HO.ins t.cH s ((((((([]++[(Str.ofString "town",V.ref y)])++[(Str.ofString "strands",V.ref I)])++[(Str.ofString "rows_by_group",V.ref A)])++[(Str.ofString "books",V.ref C)])++[(Str.ofString "homes",V.ref Xw)])++[(Str.ofString "groups",V.ref YT)])++[(Str.ofString "handed",V.ref YU)])=N5;have B13:=B12.put N5;have acC:=au (H:=gP) (a:=p) (o:=N5);have acD:∀g,g<3->dI K (upd gP p N5) (G g) (gF ns.length (zh ns)):=λg D=>(ae7 g D).mono λb x=>cN.past acB m9 bU;generalize upd gP p N5=Y6 at B13 acC acD;refine bW λNx L=>?_;refine⟨aR _,λacl acE=>?_⟩;have B14:=B13.new acE (r:=.cO) (λz=>by cases z) (.lst []);have u14:=aD.new (o:=.lst []) acE;have Y0:=u14 _ _ acC;have acF:∀g,g<3->dI K (upd Y6 acl (.lst [])) (G g) (gF ns.length (zh ns)):=λg D=>(acD g D).mono λb x=>u14.dj;generalize upd Y6 acl (.lst [])=H14 at B14 Y0 acF;subst aij;refine⟨_,rfl,p,_,s,_,rfl,Y0,T.bK,T.fC,(by show 7<1000;decide),?_⟩;rw[dH (names:=["town","strands","rows_by_group","books","homes","groups","handed"]) rfl (by decide +kernel)];refine L _ _ ?_;generalize aio:HO.ins t.cH s (((((((([]++[(Str.ofString "town",V.ref y)])++[(Str.ofString "strands",V.ref I)])++[(Str.ofString "rows_by_group",V.ref A)])++[(Str.ofString "books",V.ref C)])++[(Str.ofString "homes",V.ref Xw)])++[(Str.ofString "groups",V.ref YT)])++[(Str.ofString "handed",V.ref YU)])++[(Str.ofString "letters",V.ref acl)])=Nn;have B15:=B14.put Nn;have ae8:=au (H:=H14) (a:=p) (o:=Nn);have ae9:∀g,g<3->dI K (upd H14 p Nn) (G g) (gF ns.length (zh ns)):=λg D=>(acF g D).mono λb x=>cN.past Y0 m9 bU;generalize upd H14 p Nn=H15 at B15 ae8 ae9;refine⟨aR _,λmu afa=>?_⟩;have B16:=B15.new afa (r:=.eU) (λz=>by cases z) (.lst []);have u16:=aD.new (o:=.lst []) afa;have acG:=u16 _ _ ae8;have afb:∀g,g<3->dI K (upd H15 mu (.lst [])) (G g) (gF ns.length (zh ns)):=λg D=>(ae9 g D).mono λb x=>u16.dj;generalize upd H15 mu (.lst [])=H16 at B16 acG afb;subst aio;refine⟨_,rfl,p,_,s,_,rfl,acG,T.bK,T.jf,(by show 8<1000;decide),?_⟩;rw[dH (names:=["town","strands","rows_by_group","books","homes","groups","handed","letters"]) rfl (by decide +kernel)];generalize aip:HO.ins t.cH s ((((((((([]++[(Str.ofString "town",V.ref y)])++[(Str.ofString "strands",V.ref I)])++[(Str.ofString "rows_by_group",V.ref A)])++[(Str.ofString "books",V.ref C)])++[(Str.ofString "homes",V.ref Xw)])++[(Str.ofString "groups",V.ref YT)])++[(Str.ofString "handed",V.ref YU)])++[(Str.ofString "letters",V.ref acl)])++[(Str.ofString "copies",V.ref mu)])=o17;have B17:=B16.put o17;have afc:∀g,g<3->dI K (upd H16 p o17) (G g) (gF ns.length (zh ns)):=λg D=>(afb g D).mono λb x=>cN.past acG m9 bU;generalize upd H16 p o17=H17 at B17 afc;subst aip aau acA acu ae2 x6 ah7;have hws:(rs.map λr:R5=>aq r.d.toNat).length=J.length:=by rw[ah];exact el.symm
  have air:J.map V.ref=(aq (rs.map λr:R5=>aq r.d.toNat).length).map λi=>V.ref (J.getD i 0):=by
   rw[hws];refine qq (-_) λi h1 h2=>?_;simp at h1;simp[h1]
  have ZV:Gq H H17 p (aeU p I lu J A X C N ld Xw YT YU O acl mu) (desc (nc t) (dxF s WO Q3) y (aeU p I lu J A X C N ld Xw YT YU O acl mu) ⟨G,λ_=>[],[]⟩ (S0 ns rs cl)):=by
   refine B17.ext (λr=>?_) (λr m=>?_)
   ·cases r <;> first|rfl|skip
    case c9 =>
     show some (HO.lst (J.map V.ref))=some (HO.lst ((aq (rs.map λr:R5=>aq r.d.toNat).length).map λi=>V.ref (J.getD i 0)));rw[<- air]
    case fX j =>
     show (if ((rs.map λr:R5=>aq r.d.toNat)[j]?.map λw=>HO.lst (bw w)).isSome=true then ((rs.map λr:R5=>aq r.d.toNat)[j]?.map λw=>HO.lst (bw w)) else none)=((rs.map λr:R5=>aq r.d.toNat)[j]?.map λw=>HO.lst (bw w));cases (rs.map λr:R5=>aq r.d.toNat)[j]? <;> rfl
    case aM =>
     show some (HO.lst _)=some (HO.lst ((cl.map (·.1)).map _));rw[cF];rfl
    case groups =>
     show some (HO.lst _)=some (HO.lst ((cl.map (·.2)).map _));rw[cF];rfl
    case jD =>
     show some (HO.lst ((aq cl.length).map λg=>V.ref (O g)))=some (HO.lst ((aq (cl.map λ_=>([]:List Nat)).length).map λg=>V.ref (O g)));rw[ah]
    case handed j =>
     show (if j<cl.length then some (HO.lst []) else none)=((cl.map λ_=>([]:List Nat))[j]?.map λw=>HO.lst (bw w));rw[aj];by_cases z:j<cl.length
     ·rw[ee z,aa z]
      rfl
     ·rw[eH z,ji ∅]
      rfl
   ·cases r <;> first|rfl|exact eL rfl m|skip
    case fX j =>
     show (if ((rs.map λr:R5=>aq r.d.toNat)[j]?.map λw=>HO.lst (bw w)).isSome=true then J.getD j 0 else p)=J.getD j 0;have m:(if ((rs.map λr:R5=>aq r.d.toNat)[j]?.map λw=>HO.lst (bw w)).isSome=true then ((rs.map λr:R5=>aq r.d.toNat)[j]?.map λw=>HO.lst (bw w)) else none)≠none:=m;cases e:(rs.map λr:R5=>aq r.d.toNat)[j]? with
     |none=>rw[e] at m;exact eL rfl m
     |some w'=>rfl
  refine k _ H17 ⟨_,dxF s WO Q3,⟨G,λ_=>[],[]⟩,ZV.np,ZV.own,λb=>Iff.rfl,⟨afc,λi l e=>?_,⟨rfl,λi q x e=>by cases e⟩⟩⟩ ZV.kp ZV.fr;cases e
inductive Si(K:af)(c:NC)(vs:List V)(H:Hp)(Q:VK)(E:XK):Prop
 |mk (F:Addr->Prop) (p tp:Addr) (n g:Nat) (s:NS):vs=[.ref p,.int g]->cY K c H F p tp n s->g<3->(∀l (qs:List Addr) H',aD H H'->H l=none->H' l=some (.lst (qs.map V.ref))->dI K H' qs (gF n (s.R g))->Q (.ref l) H')->Si K c vs H Q E
theorem uN{t:Ad}(T:Txt K mg t):ck P w K mg base iC 2 t.sP t.xZ ["self","group"]  (Si K (nc t)):=by
 refine T.tE.F.jE NK λH Q E i h=>?_
 ·obtain⟨F,p,r,n,g,st,rfl,⟨a,s,q,j,O,m,f⟩,c,k⟩:=h
  refine⟨_,(ao (dS (AN (ua T) (i.mono (!_)) rfl T.eS.g T.eS.F.kp T.eS.B .nil Kz (gj (pv 1)))) (oR (iM ic (by rfl) T.vA boot_list (gj (xL (aU (pv 0) rfl) (pv 1)))))),?_⟩
  left
  have d:=O.get .c7 _ rfl;rw[j] at d;refine⟨_,rfl,g,rfl,λ_=>?_,λz=>eL ⟨∅,∅⟩ z⟩;refine⟨_,rfl,p,_,_,_,_,rfl,d,T.bK,T.kG,rfl,_,rfl,a .ux,_,_,_,rfl,rfl,bS.of (O.get .ux _ rfl),qC c,a (.rows g),_,rfl,.inl (bS.of (O.get (.rows g) _ (ee c))),λl e=>?_⟩;have u:=aD.new (o:=.lst ((q.rq g).map V.ref)) e;exact k l (q.rq g) _ u e au ((f.rows g c).mono λb x=>u.dj)
inductive Sj(K:af)(CT:Addr)(c:NC)(vs:List V)(H:Hp)(Q:VK)(E:XK):Prop
 |mk (F:Addr->Prop) (p tp ln lr:Addr) (ns:List Int) (rs:List R5) (s:NS) (g:Nat):vs=[.ref p,.int g]->NW K c CT H F p tp ln lr ns rs s->cE ns rs->Bf ns rs s->g<3->(∀l H',aD H H'->H l=none->H' l=some (.lst (bw (yQ rs s.ws g)))->Q (.ref l) H')->Sj K CT c vs H Q E
theorem AI{t:Ad}(T:Txt K mg t):ck P w K mg base iC 3 t.sQ t.x8 ["self","group"]  (Sj K t.bh (nc t)):=by
 refine T.yh.F.jE NL λH Q E o h=>?_
 ·obtain⟨F,p,i,x,s,e,d,st,g,rfl,N,ok,n,J,k⟩:=h
  refine⟨_,(oR (pJ (aU (pv 0) rfl) T.dO T.tD.m (GF T) (o.mono (!_)) T.tD.B .nil Kz (gj (pv 1)))),?_⟩
  left
  obtain⟨a,A,q,y,O,I,D⟩:=N.c7;have c:=O.get .c7 _ rfl;rw[y] at c;refine⟨_,rfl,p,_,_,_,_,rfl,c,T.bK,T.lA,rfl,a .cJ,A .cJ,_,rfl,O.get .cJ _ rfl,rfl,_,rfl,a .cJ,i,a .c9,x,s,e,d,st.ws,g,rfl,N.ni,O.strAt,n.wl,ok.jw,(λr b=>⟨(ok.ok r b).e1,(ok.ok r b).e7⟩),λv l u G _ f C j=>?_,λz=>eL ⟨∅,∅⟩ z⟩
  have:v=g:=∅
  subst this;exact k l u f C j
inductive OG(K:af)(CT:Addr)(c:NC)(vs:List V)(H:Hp)(Q:VK)(E:XK):Prop
 |mk (F:Addr->Prop) (p tp ln lr:Addr) (ns:List Int) (rs:List R5) (s:NS) (o:cE ns rs) (g:Nat):vs=[.ref p,.int g]->NW K c CT H F p tp ln lr ns rs s->Bf ns rs s->g<3->(∀l os H',aD H H'->H l=none->H' l=some (.lst (bw os))->gk (oU ns rs o s.ws g) (s.R g) os->os.length<=12->Q (.ref l) H')->OG K CT c vs H Q E
theorem DY{t:Ad}(T:Txt K mg t):ck P w K mg base iC 6 t.qi t.uF ["self","group"]  (OG K t.bh (nc t)):=by
 refine T.z8.F.jE L4 λH Q E i h=>?_
 ·obtain⟨F,p,d,r,n,ns,j,st,ok,g,rfl,N,m,f,k⟩:=h
  refine⟨_,(oR (AN (Ov T) (i.mono (!_)) rfl T.z9 T.Dw.F.kp T.Dw.B .nil mK (KP (aU (pv 0) rfl) (cM (pv 0) T.bK T.yh (AI T) i (gj (pv 1))) (cM (pv 0) T.bK T.tE (uN T) i (gj (pv 1)))))),?_⟩
  left
  obtain⟨A,Y,q,L,O,U,S⟩:=id N.c7;have c:=O.get .c7 _ rfl;rw[L] at c;refine⟨_,rfl,p,_,_,_,_,rfl,c,T.bK,T.mE,rfl,?_⟩;refine⟨_,rfl,p,_,_,rfl,c,rfl,_,rfl,F,p,d,r,n,ns,j,st,g,rfl,N,ok,m,f,λI V a x D=>?_⟩;have o:=N.mono a;refine⟨_,rfl,p,_,_,rfl,a _ _ c,rfl,_,rfl,F,p,d,ns.length,g,st,rfl,o.c7,f,λv W X b G u C=>?_⟩;refine⟨d,r,n,I,v,ns,j,_,ok.nd,ok.ok,zD,st.R g,rfl,o.ni.mono b,bS.of (b _ _ D),C.Qt (bS.of u),by have:=ok.Xp;lia,ok.jw,m.fit g f,λl os J s M y z e=>?_⟩;exact k l os J (a.trans (b.trans s)) ((a.trans b).free M) y z e
inductive OH(K:af)(c:NC)(vs:List V)(H:Hp)(Q:VK)(E:XK):Prop
 |mk (F:Addr->Prop) (p tp:Addr) (n g:Nat) (s:NS):vs=[.ref p,.int g]->cY K c H F p tp n s->g<3->(s.ts g).length<64->(∀l (qs:List Addr) (us:List T3) H',aD H H'->H l=none->H' l=some (.lst (qs.map V.ref))->iz K H' qs us->us.Perm (s.ts g)->AU us->Q (.ref l) H')->OH K c vs H Q E
theorem MD{t:Ad}(T:Txt K mg t):ck P w K mg base iC 2 t.qj t.uG ["self","group"]  (OH K (nc t)):=by
 refine T.FN.F.jE L5 λH Q E d h=>?_
 ·obtain⟨F,p,o,n,g,st,rfl,⟨a,i,q,f,O,l,j⟩,b,c,k⟩:=h
  refine⟨_,(ao (dS (AN (ua T) (d.mono (!_)) rfl T.eS.g T.eS.F.kp T.eS.B .nil Kz (gj (pv 1)))) (oR (kM (xL (aU (pv 0) rfl) (pv 1)) T.yl T.yg.m (Ka T) (d.mono (!_)) T.yg.B .nil mK))),?_⟩
  left
  have e:=O.get .c7 _ rfl;rw[f] at e;refine⟨_,rfl,g,rfl,λ_=>?_,λz=>eL ⟨∅,∅⟩ z⟩;exact⟨_,rfl,p,_,_,_,_,rfl,e,T.bK,T.qo,rfl,_,rfl,a .i6,_,_,_,rfl,rfl,bS.of (O.get .i6 _ rfl),qC b,a (.book g),i (.book g),_,rfl,O.get (.book g) _ (ee b),rfl,a (.book g),a (.eZ g),st.ts g,rfl,O.LN b,c,k⟩
inductive OL(K:af)(CT:Addr)(c:NC)(vs:List V)(H:Hp)(Q:VK)(E:XK):Prop
 |mk (F:Addr->Prop) (p tp ln lr:Addr) (ns:List Int) (rs:List R5) (s:NS) (h:Nat):vs=[.ref p,.int h]->NW K c CT H F p tp ln lr ns rs s->h<ns.length->Q .fk H->OL K CT c vs H Q E
theorem uc{t:Ad}(T:Txt K mg t):ck P w K mg base iC 1 t.iu t.jG ["self","house"]  (OL K t.bh (nc t)):=by
 refine T.oi.F.jE Co λH Q E l h=>?_
 ·obtain⟨F,p,d,o,m,ns,j,st,x,rfl,N,n,k⟩:=h
  refine⟨_,(bA (cy (iL (jj p7 oH az (pv 1) (aU (aU (pv 0) rfl) rfl))) dZ bz)),?_⟩
  left
  obtain⟨c,r,q,f,O,i,g⟩:=id N.c7;obtain⟨⟨e,a⟩,_⟩:=id N.ni;have b:=O.get .c7 _ rfl;rw[f] at b;refine⟨_,rfl,_,_,rfl,rfl,_,rfl,?_⟩;rw[e8 (show (0:Int)<=(x:Int) by lia)];refine fK ⟨_,rfl,p,_,_,_,_,rfl,b,T.bK,T.mE,rfl,d,_,e,_,_,rfl,a,T.fh,T.mR,rfl,_,_,rfl,rfl,_,rfl,?_⟩;rw[e8 (show (x:Int)<(ns.length:Int) by lia)];exact eG k
inductive Lg(K:af)(c:NC)(vs:List V)(H:Hp)(Q:VK)(E:XK):Prop
 |mk (F:Addr->Prop) (p tp:Addr) (n x:Nat) (s:NS):vs=[.ref p,.int x]->cY K c H F p tp n s->x<s.aM.length->Q .fk H->Lg K c vs H Q E
theorem kK{t:Ad}(T:Txt K mg t):ck P w K mg base iC 1 t.gK t.jb ["self","caller"]  (Lg K (nc t)):=by
 refine T.je.F.jE Bh λH Q E g h=>?_
 ·obtain⟨F,p,f,n,x,st,rfl,⟨a,j,q,c,O,e,d⟩,i,k⟩:=h
  refine⟨_,(bA (cy (iL (jj p7 oH az (pv 1) (lS T.gm (aU (pv 0) rfl)))) dZ bz)),?_⟩
  left
  have b:=O.get .c7 _ rfl;rw[c] at b;refine⟨_,rfl,_,_,rfl,rfl,_,rfl,?_⟩;rw[e8 (show (0:Int)<=(x:Int) by lia)];refine fK ⟨_,rfl,p,_,_,_,_,rfl,b,T.bK,T.j8,rfl,a .aM,_,rfl,.inl (bS.of (O.get .aM _ rfl)),_,_,rfl,rfl,_,rfl,?_⟩;rw[ah,e8 (show (x:Int)<(st.aM.length:Int) by lia)];exact eG k
inductive OM(K:af)(CT:Addr)(c:NC)(vs:List V)(H:Hp)(Q:VK)(E:XK):Prop
 |mk (F:Addr->Prop) (p tp ln lr:Addr) (ns:List Int) (rs:List R5) (s:NS) (h g:Nat):vs=[.ref p,.int h,.int g]->NW K c CT H F p tp ln lr ns rs s->h<ns.length->g<3->(∀q H',aD H H'->cN K H' q (cT (s.R g h))->Q (.ref q) H')->OM K CT c vs H Q E
theorem Kf{t:Ad}(T:Txt K mg t):ck P w K mg base iC 3 t.nL t.rS ["self","house","group"]  (OM K t.bh (nc t)):=by
 refine T.DA.F.jE JN λH Q E f h=>?_
 ·obtain⟨F,p,d,y,r,ns,m,st,x,g,rfl,N,i,o,k⟩:=h
  refine⟨_,(ao (dS (cM (pv 0) T.bK T.oi (uc T) f (gj (pv 1)))) (oR (xL (cM (pv 0) T.bK T.tE (uN T) f (gj (pv 2))) (pv 1)))),?_⟩
  left
  obtain⟨n,D,q,z,O,B,A⟩:=id N.c7;have c:=O.get .c7 _ rfl;rw[z] at c;refine⟨_,rfl,p,_,_,rfl,c,rfl,_,rfl,F,p,d,y,r,ns,m,st,x,rfl,N,i,?_⟩;refine⟨_,rfl,p,_,_,rfl,c,rfl,_,rfl,F,p,d,ns.length,g,st,rfl,N.c7,o,λl b s u G j e=>?_⟩;have C:b.length=ns.length:=by rw[e.len];simp[gF]
  have a:x<b.length:=∅
  refine⟨_,rfl,l,_,_,_,rfl,rfl,bS.of j,dM (v:=.ref b[x]) (by rw[aj,aa a];rfl),k _ s u (e.at' x _ _ (aa a) ?_)⟩;unfold gF;rw[aj,iI i];rfl
inductive Lh(K:af)(c:NC)(vs:List V)(H:Hp)(Q:VK)(E:XK):Prop
 |mk (F:Addr->Prop) (p tp:Addr) (n:Nat) (s:NS):vs=[.ref p]->cY K c H F p tp n s->(∀l (qs:List Addr) H',aD H H'->H l=none->H' l=some (.lst (qs.map V.ref))->dI K H' qs (s.cps.map Cp.vs)->Q (.ref l) H')->Lh K c vs H Q E
theorem BJ{t:Ad}(T:Txt K mg t):ck P w K mg base iC 1 t.nM t.rT ["self"]  (Lh K (nc t)):=by
 refine T.oh.F.jE JO λH Q E j h=>?_
 ·obtain⟨F,p,i,n,st,rfl,N,k⟩:=h
  refine⟨_,(oR (iM ic (by rfl) T.vA boot_list (gj (aU (pv 0) rfl)))),?_⟩
  left
  obtain⟨a,m,q,f,O,g,e⟩:=id N;have c:=O.get .c7 _ rfl;rw[f] at c;refine⟨_,rfl,p,_,_,_,_,rfl,c,T.bK,T.jf,rfl,a .eU,_,rfl,.inl (bS.of (O.get .eU _ rfl)),λl d=>?_⟩;have u:=aD.new (o:=.lst (q.cq.map V.ref)) d;exact k l q.cq _ u d au (e.cps.mono λb x=>u.dj)
noncomputable def uo(g:Nat)(l:LS):LS:=if l.grp=g then {l with old:=true} else l
noncomputable def xh(s:NS)(g:Nat):NS:={s with ts:=fM s.ts g [],ls:=s.ls.map (uo g)}
inductive Sk(K:af)(c:NC)(vs:List V)(H:Hp)(Q:VK)(E:XK):Prop
 |mk (F:Addr->Prop) (p tp:Addr) (n g:Nat) (s:NS):vs=[.ref p,.int g]->cY K c H F p tp n s->g<3->(∀F' H',cY K c H' F' p tp n (xh s g)->Step H F H' F'->Q .fk H')->Sk K c vs H Q E
theorem pH{t:Ad}(T:Txt K mg t):ck P w K mg base iC 2 t.jr t.lU ["self","group"]  (Sk K (nc t)):=by
 refine T.lY.F.jE wD λH Q E hr h=>?_
 ·obtain⟨F,p,Z,n,g,st,rfl,⟨f,dx,q,hp,O,hF,hT⟩,x,k⟩:=h
  refine⟨_,(ao (dS (kM (xL (aU (pv 0) rfl) (pv 1)) T.yl T.vq.m (Jl T) (hr.mono (!_)) T.vq.B .nil mK)) (bA (fS (fq (aU (pv 0) rfl)) (gT 2 wD) (bA (cy (qT rD (aU (pv 2) rfl) (pv 1)) (bA (fJ (pv 2) MP rfl)) bz))))),?_⟩
  left
  have b5:=O.get .c7 _ rfl;rw[hp] at b5;refine⟨_,rfl,p,_,_,_,_,rfl,b5,T.bK,T.qo,rfl,_,rfl,f .i6,_,_,_,rfl,rfl,bS.of (O.get .i6 _ rfl),qC x,f (.book g),dx (.book g),_,rfl,O.get (.book g) _ (ee x),rfl,f (.book g),f (.eZ g),st.ts g,rfl,O.LN x,λd' W L hB kp=>?_⟩;obtain⟨⟨RL,R⟩,D⟩:=hB;obtain⟨r,N',C⟩:=Qu hp O hF hT x L R D kp;obtain⟨b,S,U,u,J,G,I⟩:=N';have X:jA K (nc t) W r b S U p Z n {st with ts:=fM st.ts g []}:=⟨u,J,G,I⟩;have s:=J.get .c7 _ rfl;rw[u] at s;have WT:=J.get .cO _ rfl;refine⟨_,rfl,p,_,_,_,_,rfl,s,T.bK,T.fC,rfl,b .cO,rfl,⟨_,bS.of WT⟩,wc (K:=K) (a:=b .cO) (xs:=(aq st.ls.length).map λi=>.ref (b (.bZ i))) (λi v o=>jA K (nc t) o r b S U p Z n {st with ts:=fM st.ts g [],ls:=(st.ls.take i).map (uo g)++st.ls.drop i}/\Step W r o r/\∃N:Option V,v=[some (.ref p),some (.int g),N]) ⟨by rw[List.take_zero,List.drop_zero];exact X,Step.refl' (aD.refl _),_,rfl⟩ (λi v o _ z=>?_) ?_ ?_⟩
  ·have e:=z.1.own.get .cO _ rfl
   have el:((st.ls.take i).map (uo g)++st.ls.drop i).length=st.ls.length:=by
    rw[ay,ah,<- ay,List.take_append_drop]
   refine bS.of (e.trans ?_);show some (HO.lst ((aq ((st.ls.take i).map (uo g)++st.ls.drop i).length).map _))=_;rw[el]
  ·rintro i y v o M ⟨l,d,N,rfl⟩
   have c:i<st.ls.length:=by
    have:=(ai.mp M).1
    rw[ah,bx] at this;exact this
   rw[aj,iI c] at M;cases M;have j:((st.ls.take i).map (uo g)++st.ls.drop i)[i]?=some st.ls[i]:=by
    rw[cu (by rw[ah,bV];lia),ah,bV,Nat.min_eq_left ∅,gz,List.getElem?_drop,Nat.add_zero];exact aa c
   have Y:=l.own.get (.bZ i) (nv (nc t) S b i st.ls[i]) (by show (((st.ls.take i).map (uo g)++st.ls.drop i)[i]?.map _)=_;rw[j];rfl);have next:(st.ls.take (i+1)).map (uo g)++st.ls.drop (i+1)=((st.ls.take i).map (uo g)++st.ls.drop i).set i (uo g st.ls[i]):=by
    rw[oF,aa c,aO,jQ,vZ _ _ (by rw[ah,bV];lia),ah,bV,Nat.min_eq_left ∅,gz,List.drop_eq_getElem_cons c];rfl
   rw[next];refine⟨_,rfl,_,_,_,_,_,rfl,Y,T.dB,T.j6,rfl,_,rfl,rfl,_,rfl,iY (λe=>?_) (λe=>?_)⟩
   ·have e:(st.ls[i]).grp=g:=by
     have:=V.int.inj (gn e)
     lia
    refine⟨_,rfl,_,_,_,_,rfl,Y,T.dB,T.yk,(by show 5<1000;decide),?_⟩;obtain⟨X3,A⟩:=Yy l j;refine⟨?_,d.trans A,_,rfl⟩;unfold uo;rw[ee e];exact X3
   ·have e:¬(st.ls[i]).grp=g:=λz=>e (e8 (by rw[z]))
    refine⟨?_,d,_,rfl⟩
    have:uo g st.ls[i]=st.ls[i]:=eH e
    rw[this,wA j];exact l
  ·rintro v o ⟨l,d,N,rfl⟩
   rw[ah,bx,List.take_of_length_le (av _),List.drop_eq_nil_of_le (av _),cW] at l;exact k r o l.c7 (C.trans d)
noncomputable def uO(s:NS)(g x:Nat)(d:RM.Row):NS:=if d=s.R g x then s else xh {s with R:=fM s.R g (RM.upd (s.R g) x d)} g
inductive ON(K:af)(CT:Addr)(c:NC)(vs:List V)(H:Hp)(Q:VK)(E:XK):Prop
 |mk (F:Addr->Prop) (p tp ln lr:Addr) (ns:List Int) (rs:List R5) (s:NS) (o:cE ns rs) (x g:Nat):vs=[.ref p,.int x,.int g]->NW K c CT H F p tp ln lr ns rs s->Bf ns rs s->x<ns.length->g<3->(∀d F' H',RM.VG (N:=oU ns rs o s.ws g) ns.length (s.R g) x d->BW ns.length rs.length d->cY K c H' F' p tp ns.length (uO s g x d)->Step H F H' F'->(d=s.R g x->aD H H')->Q (.bl (!decide (d=s.R g x))) H')->ON K CT c vs H Q E
theorem Gk{t:Ad}(T:Txt K mg t):ck P w K mg base iC 4 t.sR t.x9 ["self","house","group"]  (ON K t.bh (nc t)):=by
 refine T.Cr.F.jE zQ λH Q E i h=>?_
 ·obtain⟨F,p,o,G,C,ns,I,st,ok,x,g,rfl,N,y,j,a,k⟩:=h
  refine⟨_,(ao (sS 3 zQ (cM (pv 0) T.bK T.DA (Kf T) i (mP (pv 1) (pv 2)))) (ao (sS 4 zQ (cG (ab7 T) i T.aaa (Xr (aU (pv 0) rfl) (cM (pv 0) T.bK T.yh (AI T) i (gj (pv 2))) (cM (pv 0) T.bK T.tE (uN T) i (gj (pv 2))) (pv 1)))) (ao (cy (qT Er (pv 4) (pv 3)) oB bz) (ao (BP (pv 4) (Eg (xL (aU (pv 0) rfl) (pv 2)) (pv 1) set_list)) (ao (dS (cM (pv 0) T.bK T.lY (pH T) i (gj (pv 2)))) oB))))),?_⟩
  left
  obtain⟨loc,dx,q,hp,O,hF,hT⟩:=id N.c7;have Z:=O.get .c7 _ rfl;rw[hp] at Z;refine⟨_,rfl,p,_,_,rfl,Z,rfl,_,rfl,_,rfl,F,p,o,G,C,ns,I,st,x,g,rfl,N,j,a,λq1 H1 Y M=>?_⟩;have N1:=N.mono Y;have S:=Y _ _ Z;refine⟨_,rfl,p,_,_,_,_,rfl,S,T.bK,T.mE,rfl,?_⟩;refine⟨_,rfl,p,_,_,rfl,S,rfl,_,rfl,F,p,o,G,C,ns,I,st,g,rfl,N1,ok,y,a,λl2 H2 L hl2 h2=>?_⟩;have N2:=N1.mono L;refine⟨_,rfl,p,_,_,rfl,L _ _ S,rfl,_,rfl,F,p,o,ns.length,g,st,rfl,N2.c7,a,λl3 qs H3 A hl3 h3 ht=>?_⟩;have N3:=N2.mono A;refine⟨_,rfl,o,G,C,l2,l3,ns,I,_,ok.nd,ok.ok,zD,st.R g,x,rfl,N3.ni,bS.of (A _ _ h2),ht.Qt (bS.of h3),j,ok.jw,(y.fit g a).aby,λq4 d H4 s4 r f=>?_⟩;have W:=Yn (y.fit g a) j ok.pos f;have N4:=N3.mono s4;have m:=L.trans (A.trans s4);have b:=Y.trans m;refine⟨_,rfl,_,rfl,RM.Eu d,RM.Eu (st.R g x),RM.zy r,RM.zy (m.dj M),RM.zz _,RM.zz _,bQ (cC (aF (gA _ _) (by rw[RM.KA];decide:(RM.Eu d).depth<=64)) _) i.units,?_⟩;rw[RM.M9 W.by1 (y.fit g a x j).by1];refine⟨_,rfl,iY (λe=>?_) (λe=>?_)⟩
  ·have l:d=st.R g x:=gn e
   have:=k d F H4 f W (by unfold uO;rw[ee l];exact N4.c7) (Step.refl' b) (λ_=>b)
   rw[e8 l] at this;exact this
  ·have l:¬d=st.R g x:=λz=>e (e8 z)
   obtain⟨c,dx4,u,UM,v,D,s⟩:=id N4.c7;have AK:=v.get .c7 _ rfl;rw[UM] at AK;have X:(u.rq g).length=ns.length:=by rw[(s.rows g a).len];simp[gF]
   obtain⟨F5,B,MI⟩:=Yx UM v D s a j r;refine⟨_,rfl,_,rfl,p,_,_,_,_,rfl,AK,T.bK,T.kG,rfl,_,rfl,c .ux,_,_,_,rfl,rfl,bS.of (v.get .ux _ rfl),qC a,_,rfl,c (.rows g),_,_,_,rfl,rfl,v.get (.rows g) _ (ee a),xE (by rw[ah,X];exact j),?_⟩;generalize upd H4 (c (.rows g)) (.lst (((u.rq g).map V.ref).set x (.ref q4)))=H5 at B MI;obtain⟨WR,dx5,q5,J,O5,hF5,hT5⟩:=id B;have n:=O5.get .c7 _ rfl;rw[J] at n;refine⟨_,rfl,p,_,_,rfl,n,rfl,_,rfl,F5,p,o,ns.length,g,_,rfl,B,a,λF6 H6 N6 U=>?_⟩
   have:=k d F6 H6 f W (by unfold uO;rw[eH l];exact N6) ((Step.refl' b).trans (MI.trans U)) (λz=>eL z l)
   rw[ff l] at this;exact this
noncomputable def jI(s:NS)(e:Int)(m:Nat):NS:=(aq m).foldl (λs g=>if Bl e g=true then xh s g else s) s
theorem iA{s:NS}{e:Int}{m:Nat}:jI s e (m+1)=if Bl e m=true then xh (jI s e m) m else jI s e m:=by
 unfold jI;rw[fF,List.foldl_append];rfl
inductive Gm(K:af)(CT:Addr)(c:NC)(vs:List V)(H:Hp)(Q:VK)(E:XK):Prop
 |mk (F:Addr->Prop) (p tp ln lr:Addr) (ns:List Int) (rs:List R5) (s:NS) (i:Nat) (r:R5):vs=[.ref p,.int i]->NW K c CT H F p tp ln lr ns rs s->cE ns rs->rs[i]?=some r->(∀F' H',NW K c CT H' F' p tp ln lr ns rs (jI s r.e 3)->Step H F H' F'->Q .fk H')->Gm K CT c vs H Q E
theorem lB{t:Ad}(T:Txt K mg t):ck P w K mg base iC 3 t.eB t.fR ["self","rope"]  (Gm K t.bh (nc t)):=by
 refine T.iT.F.jE kR λH Q E B h=>?_
 ·obtain⟨F,p,l,D,C,ns,y,st,i,r,rfl,N,tok,x,k⟩:=h
  have f:=tok.ok r (aG x);refine⟨_,(bA (fS (gu rfl T.jH (gj (lS T.gm (lI rfl T.kD (v:=.ref t.dW) rfl)))) (gT 2 kR) (bA (cy (mZ (cM (aU (pv 0) rfl) T.fh T.z7 (DV T) B (mP (pv 1) (pv 2)))) (oE (cM (pv 0) T.bK T.lY (pH T) B (gj (pv 2)))) bz)))),?_⟩
  left
  refine⟨_,_,rfl,.inr (T.fD _),(3:Int),rfl,∅,∅,?_⟩;refine se (n:=3) (λg u j=>∃(c:Addr->Prop) (o:Option V),NW K (nc t) t.bh j c p l D C ns y (jI st r.e g)/\Step H F j c/\u=[some (.ref p),some (.int i),o]) ⟨F,_,N,Step.refl' (aD.refl _),rfl⟩ ?_ ?_
  ·rintro g u j A ⟨c,o,b,a,rfl⟩
   rw[gB];obtain⟨J,X,q,R,O,U,S⟩:=id b.c7;obtain⟨⟨M,m⟩,_⟩:=id b.ni;have s:=O.get .c7 _ rfl;rw[R] at s;obtain⟨z,G⟩:=aep A;refine⟨_,rfl,p,_,_,_,_,rfl,s,T.bK,T.mE,rfl,l,M,_,rfl,m,rfl,_,rfl,_,rfl,l,D,C,ns,y,i,r,g,z,rfl,b.ni,x,G,_,rfl,?_⟩;rw[Ng f.e1 f.e7 G];refine iY (λe=>?_) (λe=>?_)
   ·refine⟨_,rfl,p,_,_,rfl,s,rfl,_,rfl,c,p,l,ns.length,g,_,rfl,b.c7,A,λL W I d=>?_⟩
    refine⟨L,_,?_,a.trans d,rfl⟩;rw[iA,ee e];exact b.done d I
   ·refine⟨c,_,?_,a,rfl⟩
    rw[iA,eH e];exact b
  ·rintro u j ⟨c,o,b,a,rfl⟩
   exact k c j b a
theorem vY{n:Nat}(h:n<=1000000):n<sizeLine:=bQ h (by show 1000000<2^24;decide)
theorem Q5{s:NS}{i B:Nat}{d:sD}(h:∀l∈s.ls,l.aE.length<=B):∀l∈(dc s i d).ls,l.aE.length<=B+1:=by
 intro l a;unfold dc at a;cases e:s.ls[i]? with
 |none=>rw[e] at a;exact jM (h l a)
 |some b =>
  rw[e] at a;rcases gq a with z|rfl
  ·exact jM (h l z)
  ·show (b.aE++[d]).length<=B+1
   rw[ay];exact jJ (h b (aG e)) 1
theorem OO{s:NS}{i x B:Nat}(h:∀l∈s.ls,l.aE.length<=B):∀m,m<=s.cps.length->∀l∈(jk s i x m).ls,l.aE.length<=B+m
 |0,_=>by rw[xJ];exact h
 |m+1,c=>by
  have a:=OO (i:=i) (x:=x) h m ∅;rw[xK ∅];unfold oJ;split
  ·exact Q5 a
  ·exact λl b=>jM (a l b)
inductive Sl(K:af)(c:NC)(vs:List V)(H:Hp)(Q:VK)(E:XK):Prop
 |mk (F:Addr->Prop) (p tp:Addr) (n:Nat) (i x:Nat) (s:NS) (B:Nat):vs=[.ref p,.int i,.int x]->cY K c H F p tp n s->(∀cp∈s.cps,cp.l<s.ls.length)->(∀l∈s.ls,l.aE.length<=B)->B+s.cps.length<=1000000->(∀F' H',cY K c H' F' p tp n (oK s i x)->Step H F H' F'->Q .fk H')->Sl K c vs H Q E
theorem CQ{t:Ad}(T:Txt K mg t):ck P w K mg base iC 1 t.ir t.jF ["self","rope","wire"]  (Sl K (nc t)):=by
 refine T.uJ.F.jE mz λH Q E hr h=>?_
 ·obtain⟨F,p,tp,n,i,x,st,B,rfl,N,hc,hB,hBm,k⟩:=h
  refine⟨_,(ao (sS 3 mz (gE gf)) (ao (fS (fq (aU (pv 0) rfl)) (gT 4 mz) (bA (cy (qT Er (sy Em (pv 4) (pK az) (pK az)) (gD (mP (pv 1) (pv 2)))) (oE (rE br bF bE eX (aU (xL (aU (pv 0) rfl) (xT (pv 4) az)) rfl) (gj (gD (KP qz (xT (pv 4) az) (pv 1)))))) (oE (rE br bF bE eX (pv 3) (gj (pv 4))))))) (bA (fJ (pv 0) (pv 3) rfl)))),?_⟩
  left
  refine bW λNx cS=>?_;refine⟨aR _,λl hl=>cS _ _ ?_⟩;have u1:=aD.new (o:=.lst []) hl;have h1:=au (H:=H) (a:=l) (o:=.lst []);generalize upd H l (.lst [])=H1 at u1 h1;have nF:¬F l:=λz=>by
   obtain⟨o,e⟩:=N.there z;rw[hl] at e;cases e
  obtain⟨m,dx,q,hp,O,hF,hT⟩:=id (N.mono u1);have X:jA K (nc t) H1 F m dx q p tp n st:=⟨hp,O,hF,hT⟩;have b5:=O.get .c7 _ rfl;rw[hp] at b5;have hco:=O.get .eU _ rfl;have u:q.cq.length=st.cps.length:=by
   have:=hT.cps.len
   rw[ah] at this;exact this
  refine bW λNx cS=>?_;refine⟨_,rfl,p,_,_,_,_,rfl,b5,T.bK,T.jf,rfl,m .eU,rfl,⟨_,bS.of hco⟩,wo (K:=K) (a:=m .eU) (xs:=q.cq.map V.ref) (λj σ D=>∃(W:TQ) (J:List Addr) (v4:Option V),jA K (nc t) D F m dx W p tp n (jk st i x j)/\W.cq=q.cq/\Step H F D F/\D l=some (.lst (J.map V.ref))/\dI K D J (((st.cps.take j).filter λc=>!Xq i x c).map Cp.vs)/\σ=[some (.ref p),some (.int i),some (.int x),some (.ref l),v4]) ⟨q,[],_,by rw[xJ];exact X,rfl,Step.refl' u1,h1,⟨rfl,λi q x e=>by cases e⟩,rfl⟩ (λj σ D _ z=>?_) ?_ ?_⟩
  ·obtain⟨W,J,v4,s,Y,_⟩:=z
   have:=s.own.get .eU _ rfl
   refine bS.of (this.trans ?_);rw[Y]
  ·rintro j y σ D Nf G hj ⟨W,J,v4,s,Y,U,M,zk,rfl⟩
   have hjl:j<q.cq.length:=by
    have:=(ai.mp hj).1
    rw[ah] at this;exact this
   have C:j<st.cps.length:=∅
   rw[aj,aa hjl] at hj;cases hj;have I:cN K D q.cq[j] (st.cps[j]).vs:=s.tup.cps.at' j _ _ (by rw[Y];exact aa hjl) (by rw[T8,aj,aa C];rfl);have hcm:=aK C;rw[xK C] at G;have efs:=KO (f:=λc:Cp=>!Xq i x c) C;rw[efs] at G;generalize st.cps[j]=g at I hcm G;generalize q.cq[j]=a at I;have nw:¬(HT.kg g.vs.length 0 (some 1)=0/\HT.kg g.vs.length g.vs.length (some 3)=g.vs.length):=λz=>eL z.1 (by show HT.kg 4 0 (some 1)≠0;decide);refine⟨_,rfl,_,rfl,_,rfl,a,_,rfl,I,nw,λz1 hz1=>?_⟩;have ct:El g.vs (some 1) (some 3)=[V.int g.r,V.int g.w]:=rfl;rw[ct];have v1:=aD.new (o:=.tup [V.int g.r,V.int g.w]) hz1;refine⟨_,rfl,_,rfl,fO,λz2 hz2=>?_⟩;have v2:=aD.new (o:=.tup [V.int i,V.int x]) hz2;refine⟨.tuple (([(g.r:Int),(g.w:Int)]:List Int).map .int),.tuple (([(i:Int),(x:Int)]:List Int).map .int),Rep.Hg (ns:=[(g.r:Int),(g.w:Int)]) (cN.of (v2 _ _ au)),Rep.Hg (ns:=[(i:Int),(x:Int)]) (cN.of au),kP _,kP _,bQ (cC (aF (gA _ _) (by show PyData.depthAll _+1<=64;rw[wk];decide)) _) hr.units,_,rfl,?_⟩;rw[RP];have v:=v1.trans v2;have L:=s.mono v;have Z:=v _ _ M;have Y4:=v.dj I;have Y5:=zk.mono λb x=>v.dj (a:=b) (xs:=x);have GP:=U.trans (Step.refl' (F:=F) v);generalize upd (upd D z1 (.tup [V.int g.r,V.int g.w])) z2 (.tup [V.int i,V.int x])=H4 at L Z Y4 Y5 GP;refine iY (λe=>?_) (λe=>?_)
   ·have on:Xq i x g=true:=by
     obtain⟨e1,e2⟩:=gn e;exact e8 ⟨∅,∅⟩
    have u:g.l<(jk st i x j).ls.length:=by rw[KN];exact hc g hcm
    have A:(jk st i x j).ls[g.l]?=some (jk st i x j).ls[g.l]:=aa u;have hdl:((jk st i x j).ls[g.l]).aE.length<=B+j:=OO hB j ∅ _ (aK u);have AK:=L.own.get .c7 _ rfl;rw[L.hp] at AK;have ait:=L.own.get .cO _ rfl;have aiu:=L.own.get (.bZ g.l) (nv (nc t) dx m g.l _) (by show ((jk st i x j).ls[g.l]?.map _)=_;rw[A];rfl);have afg:=L.own.get (.aE g.l) (.lst ((W.dq g.l).map V.ref)) (by show ((jk st i x j).ls[g.l]?.map _)=_;rw[A];rfl);have ML:=(L.tup.aE g.l _ A).len;rw[ah] at ML;unfold oJ at G;rw[ee on,eW A,on] at G;refine⟨_,rfl,p,_,_,_,_,rfl,AK,T.bK,T.fC,rfl,_,rfl,a,_,0,_,rfl,rfl,Y4,rfl,m .cO,_,_,_,rfl,rfl,bS.of ait,qC u,m (.bZ g.l),_,_,_,_,rfl,aiu,T.dB,T.iU,rfl,.inl ⟨rfl,_,bS.of afg⟩,_,rfl,a,_,3,_,rfl,rfl,Y4,rfl,_,rfl,nu,λz3 k9=>?_⟩;have v3:=aD.new (o:=.tup [V.str "lost",V.int g.h,V.int i]) k9;have X5:=L.mono v3;refine⟨m (.aE g.l),_,_,rfl,rfl,v3 _ _ afg,vY (by rw[ah,ML];lia),?_⟩;obtain⟨X6,R⟩:=zE X5 A (d:=.V3 g.h i) (cN.of au);refine G _ _ ⟨_,J,_,X6,Y,(GP.trans (Step.refl' (F:=F) v3)).trans R,R.kp _ _ (v3 _ _ Z) nF,?_,rfl⟩;rw[eH (!_),cW];exact (Y5.mono λb x=>v3.dj (a:=b) (xs:=x)).mono λb x=>X5.c7.tup R.kp
   ·have on:Xq i x g=false:=ff λz=>e (e8 ⟨∅,∅⟩)
    unfold oJ at G;rw[on,eH (!_)] at G;have hql:J.length<=j:=by
     rw[Y5.len,ah];refine aF (bB _ _) ?_;rw[bV];exact gA _ _
    refine⟨_,rfl,.inl ⟨rfl,_,bS.of Z⟩,_,rfl,l,_,_,rfl,rfl,Z,vY (by rw[ah];lia),?_⟩;have S:=bU (H:=H4) (z:=l) (o:=.lst (J.map V.ref++[.ref a]));have X5:=L.past Z iN nF S;refine G _ _ ⟨W,J++[a],_,X5,Y,⟨λb o e z=>S _ _ (GP.kp b o e z) (aJ e hl),GP.fr⟩,by rw[au,aO];rfl,?_,rfl⟩;rw[ee (!_),aO];exact (Y5.snoc Y4).mono λb x=>cN.past Z iN S
  ·rintro σ D ⟨W,J,v4,s,Y,U,M,zk,rfl⟩
   refine cS _ _ ?_;rw[ah,u] at s zk;rw[fP] at zk;obtain⟨F',N',kp,hpF,fr⟩:=Qv s.hp s.own s.fp s.tup M nF zk;have DZ:=s.own.get .c7 _ rfl;rw[s.hp] at DZ;refine⟨_,rfl,_,rfl,p,_,_,_,rfl,DZ,T.bK,T.jf,(by show 9<1000;decide),?_⟩;refine k F' _ N' ⟨λb o e z=>kp _ _ (U.kp _ _ e z) (λy=>z (y▸hpF)),λb z=>?_⟩;rcases fr b z with y|rfl
   ·exact .inl y
   ·exact .inr hl
noncomputable def xj(s:NS)(i x:Nat)(w:List Nat)(e:Int):NS :=
 if (w.filter λz=>decide (z≠x)).isEmpty=true then jI (oK {s with ws:=s.ws.set i (w.filter λz=>decide (z≠x))} i x) e 3 else oK {s with ws:=s.ws.set i (w.filter λz=>decide (z≠x))} i x
inductive OP(K:af)(CT:Addr)(c:NC)(vs:List V)(H:Hp)(Q:VK)(E:XK):Prop
 |mk (F:Addr->Prop) (p tp ln lr:Addr) (ns:List Int) (rs:List R5) (s:NS) (i x:Nat) (w:List Nat) (r:R5) (B:Nat):vs=[.ref p,.int i,.int x]->NW K c CT H F p tp ln lr ns rs s->cE ns rs->Bf ns rs s->(∀cp∈s.cps,cp.l<s.ls.length)->(∀l∈s.ls,l.aE.length<=B)->B+s.cps.length<=1000000->s.ws[i]?=some w->rs[i]?=some r->x∈w->(∀F' H',NW K c CT H' F' p tp ln lr ns rs (xj s i x w r.e)->Step H F H' F'->Q (.bl (w.filter λz=>decide (z≠x)).isEmpty) H')->OP K CT c vs H Q E
theorem OQ{t:Ad}(T:Txt K mg t):ck P w K mg base iC 4 t.sU t.ya ["self","rope","wire"]  (OP K t.bh (nc t)):=by
 refine T.Ie.F.jE FI λH Q E D h=>?_
 ·obtain⟨F,p,y,I,G,ns,rs,st,i,x,J,r,B,rfl,N,A,Y,hc,hB,S,l,TF,L,k⟩:=h
  refine⟨_,(ao (sS 3 FI (pJ (aU (pv 0) rfl) T.dO T.tw.m (GD T) (D.mono (!_)) T.tw.B .nil Kz (mP (pv 1) (pv 2)))) (ao (dS (cM (pv 0) T.bK T.uJ (CQ T) D (mP (pv 1) (pv 2)))) (ao (cy (mZ (pv 3)) (oE (cM (pv 0) T.bK T.iT (lB T) D (gj (pv 1)))) bz) (oR (pv 3))))),?_⟩
  left
  obtain⟨f,dx,q,hp,O,hF,hT⟩:=id N.c7;have b5:=O.get .c7 _ rfl;rw[hp] at b5;have u:=(ai.mp l).1;have Gf:i<rs.length:=by rw[<- Y.wl];exact u
  refine⟨_,rfl,p,_,_,_,_,rfl,b5,T.bK,T.lA,rfl,f .cJ,dx .cJ,_,rfl,O.get .cJ _ rfl,rfl,_,rfl,_,rfl,f .cJ,y,f .c9,I,G,ns,rs,st.ws,i,x,rfl,N.ni,O.strAt,Y.wl,Y.w4,λj b w2 ls a H1 ej ek o hk MJ ha V W kp=>?_,λz=>eL ⟨∅,∅⟩ z,λj w2 H1 ej o hk _=>?_⟩
  case refine_2 =>
   have:j=i:=∅
   subst this;rw[l] at o;cases o;exact eL rfl (hk x L)
  have:j=i:=∅
  subst this
  have:b=x:=∅
  subst this;rw[l] at o;cases o;obtain⟨F1,R,d⟩:=Nm hp O hF hT u MJ ha V W kp;have M:=N.done d R;obtain⟨aiz,Pz,q1,U,O1,hF1,hT1⟩:=id R;have fY:=O1.get .c7 _ rfl;rw[U] at fY;dsimp only[gU];refine⟨_,rfl,p,_,_,rfl,fY,rfl,_,rfl,_,rfl,F1,p,y,ns.length,j,b,_,B,rfl,R,hc,hB,S,λF2 H2 N2 g=>?_⟩;have s:=M.done g N2;unfold xj at k;generalize (J.filter λz=>decide (z≠b)).isEmpty=eb at k;obtain⟨amW,Y3,q2,X,O2,hF2,hT2⟩:=id N2;have Z:=O2.get .c7 _ rfl;rw[X] at Z
  try dsimp only
  refine rK (λσ v=>∃n:Addr->Prop,NW K (nc t) t.bh v n p y I G ns rs (if eb=true then jI (oK {st with ws:=st.ws.set j (J.filter λz=>decide (z≠b))} j b) r.e 3 else oK {st with ws:=st.ws.set j (J.filter λz=>decide (z≠b))} j b)/\Step H F v n/\σ=[some (.ref p),some (.int j),some (.int b),some (.bl eb)]) ?_ λN' nx=>?_
  case refine_2 =>
   refine⟨_,rfl,_,rfl,iY (λe=>?_) (λe=>?_)⟩
   ·rw[ee e] at nx
    refine⟨_,rfl,p,_,_,rfl,Z,rfl,_,rfl,F2,p,y,I,G,ns,rs,_,j,r,rfl,s,A,TF,λn v C c=>?_⟩;exact nx _ _ ⟨n,C,d.trans (g.trans c),rfl⟩
   ·rw[eH e] at nx
    exact nx _ _ ⟨F2,s,d.trans g,rfl⟩
  rintro σ v ⟨n,C,c,rfl⟩;exact⟨_,rfl,k n v C c⟩
inductive WU(K:af)(CT C NW:Addr)(vs:List V)(H:Hp)(Q:VK)(E:XK):Prop
 |mk (p tp lu ln lr:Addr) (ns:List Int) (rs:List R5) (ws:List (List Nat)) (i x:Int):vs=[.ref p,.int i,.int x]->cX K CT H tp ln lr ns rs->uw C H p tp lu ws->ws.length=rs.length->(∀w∈ws,w.length<=4)->(∀(j k:Nat) w w' r (ls:List Addr) (q:Addr) H',i=(j:Int)->x=(k:Int)->ws[j]?=some w->rs[j]?=some r->x<r.d->k∉w->w'.Perm (w++[k])->w'.Pairwise (·<=·)->H lu=some (.lst (ls.map V.ref))->H q=none->H' q=some (.lst (bw w'))->H' lu=some (.lst ((ls.map V.ref).set j (.ref q)))->(∀b o,H b=some o->b≠lu->H' b=some o)->Q (.bl w.isEmpty) H')->(¬(0<=i/\i<rs.length)->E (.ref NW) none H)->(∀(j:Nat) w r H',i=(j:Int)->ws[j]?=some w->rs[j]?=some r->¬(0<=x/\x<r.d)∨(∃k∈w,x=(k:Nat))->aD H H'->E (.ref NW) none H')->WU K CT C NW vs H Q E
theorem Jo{t:Ad}(T:Txt K mg t):ck P w K mg base (Ec P w) 3 t.k8 t.pT ["self","rope","wire"]  (WU K t.bh t.cK t.wN):=by
 refine T.vz.F.T9 zP λH Q E N h=>?_
 ·obtain⟨p,tp,J,ln,lr,ns,s,ws,i,x,rfl,hT,hW,ew,h4,k,kx,ky⟩:=h
  obtain⟨⟨dx,hp⟩,W,MJ,els,hls⟩:=id hW;refine⟨_,(ao (sS 3 zP (pJ (pv 0) T.dO T.dY.m (kJ T) (N.mono (!_)) T.dY.B .nil RG (gj (pv 1)))) (ao (cy (PW.pt (C3 (iL (jj p7 oH az (pv 2) (cG (Gg T) N T.Cq (mP (aU (pv 0) rfl) (pv 1))))) (BO (iE oO (pv 2) (pv 3) (by with_unfolding_all rfl))))) (bA (Dg rfl T.Im T.Io N.hd qz)) bz) (ao (BP (cB zB T.DE boot_sorted (gj (be Vs (pv 3) (gE (gj (pv 2)))))) (Eg (aU (pv 0) rfl) (pv 1) set_list)) (oR (qE Er (pv 3) (gE gf)))))),?_⟩
  left
  refine⟨_,rfl,p,dx,_,rfl,hp,rfl,_,rfl,p,tp,J,ln,lr,ns,s,ws,i,rfl,hT,hW,ew,λj c l G ej A y Py S=>?_,kx⟩;subst ej;have hjl:=(ai.mp A).1;have w4:=h4 _ (aG A);have L:s[j]?=some s[j]:=aa ∅;have hp1:=y _ _ hp;have hT1:=hT.mono y;refine⟨_,rfl,_,_,rfl,rfl,_,rfl,?_⟩;by_cases h0:0<=x
  case neg =>
   rw[ff h0];exact eG ⟨_,rfl,fK (fK (ky j c _ G rfl A L (.inl λz=>h0 z.1) y))⟩
  rw[e8 h0];refine fK ?_;refine⟨_,rfl,p,_,dx,_,_,rfl,hp1,T.dO,T.j7,rfl,_,rfl,tp,ln,lr,ns,s,j,s[j],rfl,hT1,L,_,_,rfl,rfl,_,rfl,?_⟩;by_cases R:x<s[j].d
  case neg =>
   rw[ff R];exact fK (fK (ky j c _ G rfl A L (.inl λz=>R z.2) y))
  rw[e8 R];refine eG ?_;obtain⟨f,rfl⟩:∃f:Nat,x=(f:Int):=⟨x.toNat,∅⟩;refine⟨_,rfl,_,rfl,l,_,rfl,.inl (bS.of S),rfl,mO c,_,rfl,?_⟩
  try dsimp only
  rw[eH aB,wm];by_cases U:f∈c
  case pos =>
   rw[e8 U];exact fK (ky j c _ G rfl A L (.inr ⟨f,U,rfl⟩) y)
  rw[ff U];refine eG ?_;refine⟨_,rfl,_,rfl,z0,λq hq=>?_⟩;have s2:=aD.new (o:=.lst [.int (f:Nat)]) hq;refine⟨l,q,_,_,rfl,rfl,s2 _ _ S,au,?_,λM h3=>?_⟩
  ·rw[ah]
   exact iB (bX (by show c.length+1<=1000;lia))
  have Y:=s2.trans (aD.new (o:=.lst (bw c++[.int (f:Nat)])) h3);have D:(upd (upd G q (.lst [.int (f:Nat)])) M (.lst (bw c++[.int (f:Nat)]))) M=some (.lst (((c++[f]).map λk:Nat=>(k:Int)).map V.int)):=by rw[au,<- iy,eT]
  generalize upd (upd G q (.lst [.int (f:Nat)])) M (.lst (bw c++[.int (f:Nat)]))=H3 at Y D;refine⟨M,_,rfl,bS.of D,(by rw[ah,ay];show c.length+1<64;lia),λu xs Kc afh afi=>?_⟩;obtain⟨C,rfl,hz1,hz2⟩:=LK afh afi;have O:=Y.trans (aD.new (o:=.lst ((C.map λk:Nat=>(k:Int)).map V.int)) Kc);have v:(upd H3 u (.lst ((C.map λk:Nat=>(k:Int)).map V.int))) u=some (.lst (bw C)):=by rw[au,eT]
  generalize upd H3 u (.lst ((C.map λk:Nat=>(k:Int)).map V.int))=H4 at O v;have g:=y.trans O;have n:=g _ _ MJ;have UM:=g _ _ hp;have QW:j<W.length:=∅
  refine⟨_,rfl,p,_,dx,_,_,rfl,UM,T.dO,T.fU,rfl,_,rfl,J,_,_,j,rfl,rfl,n,(by rw[ah];exact xE QW),?_⟩;generalize I:upd H4 J (.lst ((W.map V.ref).set j (.ref u)))=H5;have k5:∀b o,H4 b=some o->b≠J->H5 b=some o:=λb o e nb=>by rw[<- I,aC nb];exact e
  have Z:H5 J=some (.lst ((W.map V.ref).set j (.ref u))):=by rw[<- I];exact au
  have UN:H5 u=some (.lst (bw C)):=k5 _ _ v (mX v n λz=>wu (aa QW) (HO.lst.inj z));have rB:H5 l=some (.lst (bw c)):=k5 _ _ (O _ _ S) (mX (O _ _ S) n λz=>wu (aa QW) (HO.lst.inj z));refine⟨_,rfl,aR _,λq2 hq2=>?_⟩;have X:=aD.new (o:=.lst []) hq2;refine⟨.list ((c.map λk:Nat=>(k:Int)).map .int),.list [],⟨l,_,rfl,bS.of (X _ _ rB),(by rw[eT];exact p8 _)⟩,⟨q2,_,rfl,bS.of au,rfl⟩,kP _,rfl,bQ (cC (aF (Nat.min_le_right _ _) (!_)) _) N.units,?_⟩;have z:=k j f c C s[j] W u _ rfl rfl A L R U hz1 hz2 MJ ((y.trans Y).free Kc) (X _ _ UN) (X _ _ Z) (λb o e nb=>X _ _ (k5 _ _ (g _ _ e) nb));cases c with
  |nil=>exact z
  |cons a r=>exact z
noncomputable def Fi(s:NS)(i:Nat)(w w2:List Nat)(e:Int):NS :=
 if w.isEmpty=true then jI {s with ws:=s.ws.set i w2} e 3 else {s with ws:=s.ws.set i w2}
inductive Sm(K:af)(CT:Addr)(c:NC)(vs:List V)(H:Hp)(Q:VK)(E:XK):Prop
 |mk (F:Addr->Prop) (p tp ln lr:Addr) (ns:List Int) (rs:List R5) (s:NS) (i x:Nat) (w:List Nat) (r:R5):vs=[.ref p,.int i,.int x]->NW K c CT H F p tp ln lr ns rs s->cE ns rs->Bf ns rs s->s.ws[i]?=some w->rs[i]?=some r->(x:Int)<r.d->x∉w->(∀w2 F' H',w2.Perm (w++[x])->w2.Pairwise (·<=·)->NW K c CT H' F' p tp ln lr ns rs (Fi s i w w2 r.e)->Step H F H' F'->Q (.bl w.isEmpty) H')->Sm K CT c vs H Q E
theorem Q6{t:Ad}(T:Txt K mg t):ck P w K mg base iC 4 t.wJ t.A0 ["self","rope","wire"]  (Sm K t.bh (nc t)):=by
 refine T.KW.F.jE HZ λH Q E Y h=>?_
 ·obtain⟨F,p,R,D,C,G,rs,st,i,x,w',r,rfl,N,v,X,f,TF,M,I,k⟩:=h
  refine⟨_,(ao (sS 3 HZ (pJ (aU (pv 0) rfl) T.dO T.vz.m (Jo T) (Y.mono (!_)) T.vz.B .nil Kz (mP (pv 1) (pv 2)))) (ao (cy (mZ (pv 3)) (oE (cM (pv 0) T.bK T.iT (lB T) Y (gj (pv 1)))) bz) (oR (pv 3)))),?_⟩
  left
  obtain⟨d,dx,q,hp,O,hF,hT⟩:=id N.c7;have b5:=O.get .c7 _ rfl;rw[hp] at b5;have o:=(ai.mp f).1;have Gf:i<rs.length:=by rw[<- X.wl];exact o
  refine⟨_,rfl,p,_,_,_,_,rfl,b5,T.bK,T.lA,rfl,d .cJ,dx .cJ,_,rfl,O.get .cJ _ rfl,rfl,_,rfl,_,rfl,d .cJ,R,d .c9,D,C,G,rs,st.ws,i,x,rfl,N.ni,O.strAt,X.wl,X.w4,λj kk w1 u r2 ls a H1 ej ek n W hkd hk L J MJ ha U V kp=>?_,λz=>eL ⟨∅,∅⟩ z,λj u r2 H1 ej n W hz _=>?_⟩
  case refine_2 =>
   have:j=i:=∅
   subst this;rw[f] at n;cases n;rw[TF] at W;cases W;rcases hz with z|⟨y,hy,e⟩
   ·exact eL ⟨∅,M⟩ z
   ·have:y=x:=∅
    subst this;exact eL hy I
  have:j=i:=∅
  subst this
  have:kk=x:=∅
  subst this;rw[f] at n;cases n;obtain⟨F1,Z,c⟩:=Nm hp O hF hT o MJ ha U V kp;have l:=N.done c Z;obtain⟨aiz,Pz,q1,S,O1,hF1,hT1⟩:=id Z;have fY:=O1.get .c7 _ rfl;rw[S] at fY;dsimp only[gU];have k:=k u;unfold Fi at k;generalize w'.isEmpty=eb at k;refine rK (λσ s=>∃g:Addr->Prop,NW K (nc t) t.bh s g p R D C G rs (if eb=true then jI {st with ws:=st.ws.set j u} r.e 3 else {st with ws:=st.ws.set j u})/\Step H F s g/\σ=[some (.ref p),some (.int j),some (.int kk),some (.bl eb)]) ?_ λN' nx=>?_
  case refine_2 =>
   refine⟨_,rfl,_,rfl,iY (λe=>?_) (λe=>?_)⟩
   ·rw[ee e] at nx
    refine⟨_,rfl,p,_,_,rfl,fY,rfl,_,rfl,F1,p,R,D,C,G,rs,_,j,r,rfl,l,v,TF,λg s A b=>?_⟩;exact nx _ _ ⟨g,A,c.trans b,rfl⟩
   ·rw[eH e] at nx
    exact nx _ _ ⟨F1,l,c,rfl⟩
  rintro σ s ⟨g,A,b,rfl⟩;exact⟨_,rfl,k g s L J A b⟩
inductive Sn(K:af)(c:NC)(vs:List V)(H:Hp)(Q:VK)(E:XK):Prop
 |mk (F:Addr->Prop) (p tp:Addr) (n x:Nat) (to:Option Nat) (s:NS):vs=[.ref p,.int x,Ey (to.map λy:Nat=>(y:Int))]->cY K c H F p tp n s->x<s.aM.length->s.groups.length=s.aM.length->(∀y,to=some y->y<s.aM.length/\s.groups[y]?=s.groups[x]?)->Q .fk H->Sn K c vs H Q E
theorem D0{t:Ad}(T:Txt K mg t):ck P w K mg base iC 2 t.iR t.kB ["self","sender","to"]  (Sn K (nc t)):=by
 refine T.wR.F.jE Dm λH Q E j h=>?_
 ·obtain⟨F,p,i,n,x,o,st,rfl,N,r,m,f,k⟩:=h
  refine⟨_,(ao (dS (cM (pv 0) T.bK T.je (kK T) j (gj (pv 1)))) (bA (cy (qT Lv (pv 2) mY) (ao (dS (cM (pv 0) T.bK T.je (kK T) j (gj (pv 2)))) (bA (cy (qT we (xL (aU (pv 0) rfl) (pv 1)) (xL (aU (pv 0) rfl) (pv 2))) dZ bz))) bz))),?_⟩
  left
  obtain⟨a,A,q,s,O,z,v⟩:=id N;have d:=O.get .c7 _ rfl;rw[s] at d;refine⟨_,rfl,p,_,_,rfl,d,rfl,_,rfl,F,p,i,n,x,st,rfl,N,r,?_⟩;cases o with
  |none=>exact⟨_,rfl,rfl,_,rfl,eG k⟩
  |some y =>
   obtain⟨u,g⟩:=f y rfl;refine⟨_,rfl,rfl,_,rfl,fK ?_⟩;refine⟨_,rfl,p,_,_,rfl,d,rfl,_,rfl,F,p,i,n,y,st,rfl,N,u,?_⟩;have c:=bS.of (K:=K) (O.get .groups _ rfl);have l:x<st.groups.length:=∅
   have b:y<st.groups.length:=∅
   have e:st.groups[y]=st.groups[x]:=by
    rw[aa b,aa l] at g;exact aQ g
   refine⟨_,rfl,p,_,_,_,_,rfl,d,T.bK,T.kC,rfl,_,rfl,a .groups,_,_,_,rfl,rfl,c,nj l,_,rfl,p,_,_,_,_,rfl,d,T.bK,T.kC,rfl,_,rfl,a .groups,_,_,_,rfl,rfl,c,nj b,rfl,_,rfl,?_⟩;rw[e,e8 rfl];exact eG k
noncomputable def xm(s:NS)(x h:Nat):NS:=if s.aM[x]?=some h then s else xh {s with aM:=s.aM.set x h} (s.groups.getD x 0)
inductive So(K:af)(CT:Addr)(c:NC)(vs:List V)(H:Hp)(Q:VK)(E:XK):Prop
 |mk (F:Addr->Prop) (p tp ln lr:Addr) (ns:List Int) (rs:List R5) (s:NS) (x h:Nat):vs=[.ref p,.int x,.int h]->NW K c CT H F p tp ln lr ns rs s->x<s.aM.length->s.groups.length=s.aM.length->(∀g∈s.groups,g<3)->h<ns.length->(∀F' H',NW K c CT H' F' p tp ln lr ns rs (xm s x h)->Step H F H' F'->Q .fk H')->So K CT c vs H Q E
theorem OR{t:Ad}(T:Txt K mg t):ck P w K mg base iC 3 t.sV t.yb ["self","caller","house"]  (So K t.bh (nc t)):=by
 refine T.Ig.F.jE NN λH Q E n h=>?_
 ·obtain⟨F,p,i,M,D,ns,B,st,x,y,rfl,N,j,G,l,R,k⟩:=h
  refine⟨_,(ao (dS (cM (pv 0) T.bK T.je (kK T) n (gj (pv 1)))) (ao (dS (cM (pv 0) T.bK T.oi (uc T) n (gj (pv 2)))) (bA (cy (qT we (pv 2) (xL (aU (pv 0) rfl) (pv 1))) (ao (BP (pv 2) (Eg (aU (pv 0) rfl) (pv 1) set_list)) (oE (cM (pv 0) T.bK T.lY (pH T) n (gj (xL (aU (pv 0) rfl) (pv 1)))))) bz)))),?_⟩
  left
  obtain⟨a,S,q,hp,O,v,s⟩:=id N.c7;have X:jA K (nc t) H F a S q p i ns.length st:=⟨hp,O,v,s⟩;have f:=O.get .c7 _ rfl;rw[hp] at f;have g:=O.get .aM _ rfl;have o:x<st.groups.length:=∅
  refine⟨_,rfl,p,_,_,rfl,f,rfl,_,rfl,F,p,i,ns.length,x,st,rfl,N.c7,j,?_⟩;refine⟨_,rfl,p,_,_,rfl,f,rfl,_,rfl,F,p,i,M,D,ns,B,st,y,rfl,N,R,?_⟩;refine⟨_,rfl,_,rfl,p,_,_,_,_,rfl,f,T.bK,T.j8,rfl,_,rfl,a .aM,_,_,_,rfl,rfl,bS.of g,nj j,rfl,_,rfl,?_⟩;unfold xm at k;rw[aa j] at k;by_cases e:st.aM[x]=y
  ·rw[ee (by rw[e])] at k
   rw[e,e8 rfl];exact eG (k F H N (Step.refl' (aD.refl _)))
  ·rw[eH (λz=>e (aQ z))] at k
   rw[ff (λz=>e (by have:=V.int.inj z;lia))];refine fK ?_;refine⟨_,rfl,_,rfl,p,_,_,_,_,rfl,f,T.bK,T.j8,rfl,_,rfl,a .aM,_,_,x,rfl,rfl,g,(by rw[ah];exact xE j),?_⟩;have C:(bw st.aM).set x (.int (y:Nat))=bw (st.aM.set x y):=by rw[bw,bw,jh]
   rw[C];obtain⟨c,b⟩:=V7 X (st.aM.set x y);generalize upd H (a .aM) (.lst (bw (st.aM.set x y)))=H1 at c b;have m:=c.own.get .c7 _ rfl;rw[c.hp] at m;have r:=bS.of (K:=K) (c.own.get .groups _ rfl);have L:=N.done b c.c7;have u:st.groups.getD x 0=st.groups[x]:=by rw[ak,aa o];rfl
   rw[u] at k;refine⟨_,rfl,p,_,_,rfl,m,rfl,_,rfl,p,_,_,_,_,rfl,m,T.bK,T.kC,rfl,_,rfl,a .groups,_,_,_,rfl,rfl,r,nj o,F,p,i,ns.length,st.groups[x],_,rfl,c.c7,l _ (aK o),λJ I A d=>?_⟩;exact k J I (L.done d A) (b.trans d)
noncomputable def Jp(s:NS)(h g x:Nat):Bool:=decide (s.aM[x]?=some h/\s.groups[x]?=some g)
noncomputable def ze(s:NS)(h g:Nat):List Nat:=(aq s.aM.length).filter (Jp s h g)
theorem yN{f:Nat->Bool}{i:Nat}:(aq (i+1)).filter f=(aq i).filter f++if f i=true then [i] else []:=by
 rw[fF,eO];congr 1;cases e:f i
 ·rw[eH (!_),dh (by rw[e];decide)];rfl
 ·rw[ee rfl,dg e];rfl
inductive Sq(K:af)(c:NC)(vs:List V)(H:Hp)(Q:VK)(E:XK):Prop
 |mk (F:Addr->Prop) (p tp:Addr) (n h g:Nat) (s:NS):vs=[.ref p,.int h,.int g]->cY K c H F p tp n s->s.groups.length=s.aM.length->s.aM.length<=20->(∀l H',aD H H'->H l=none->H' l=some (.lst (bw (ze s h g)))->Q (.ref l) H')->Sq K c vs H Q E
theorem D3{t:Ad}(T:Txt K mg t):ck P w K mg base iC 1 t.iQ t.ku ["self","house","group"]  (Sq K (nc t)):=by
 refine T.wQ.F.jE nB λH Q E Y h=>?_
 ·obtain⟨F,p,tp,n,c,g,st,rfl,N,Z,vX,k⟩:=h
  refine⟨_,(ao (sS 3 nB (gD (mP (pv 1) (pv 2)))) (oR (gQ (kO nB ["caller","self","there"] [none,some 0,some 3]) rfl (gu rfl T.jH (gj (lS T.gm (aU (pv 0) rfl)))) (λ_ _ _ _=>by exact (gS 0 zR)) (λ_ _ _ _=>by exact (rJ (qT (Yg K rfl Y.units) (gD (mP (yL K (GQ K rfl (pv 1) rfl) (pv 0)) (yL K (GQ K rfl (pv 1) rfl) (pv 0)))) (pv 2)))) (λ_ _ _ _=>by exact (pv 0))))),?_⟩
  left
  refine⟨_,rfl,_,rfl,fO,λD r=>?_⟩;have m:=aD.new (o:=.tup [V.int c,V.int g]) r;have M:=au (H:=H) (a:=D) (o:=.tup [V.int c,V.int g]);generalize upd H D (.tup [V.int c,V.int g])=H1 at m M;obtain⟨d,dx,q,hp,O,hF,hT⟩:=N.mono m;have A:=O.get .c7 _ rfl;rw[hp] at A;have l:=bS.of (K:=K) (O.get .aM _ rfl);have z:=bS.of (K:=K) (O.get .groups _ rfl);refine⟨_,rfl,p,_,_,_,_,rfl,A,T.bK,T.j8,rfl,d .aM,_,rfl,.inl l,(((bw st.aM).length:Nat):Int),rfl,∅,by rw[ah];lia,λv b=>?_⟩;rw[ah];refine gR (n:=((st.aM.length:Int)).toNat) (λi x _=>x=bw ((aq i).filter (Jp st c g))) b Es wg rfl ?_ ?_
  ·rintro i x I J e C rfl y H4 ⟨rfl,rfl⟩
   rw[gB];have j:i<st.aM.length:=∅
   have f:i<st.groups.length:=∅
   have U:=e _ _ A;refine⟨_,rfl,p,_,_,_,_,rfl,U,T.bK,T.j8,rfl,_,rfl,d .aM,_,_,_,rfl,rfl,e.seq l,nj j,_,rfl,p,_,_,_,_,rfl,U,T.bK,T.kC,rfl,_,rfl,d .groups,_,_,_,rfl,rfl,e.seq z,nj f,fO,λz1 u=>?_⟩;have R:=aD.new (o:=.tup [V.int (st.aM[i]:Nat),V.int (st.groups[i]:Nat)]) u;have B:=e.trans R;have L:=R _ _ C;refine⟨_,rfl,.tuple (([(st.aM[i]:Int),(st.groups[i]:Int)]:List Int).map .int),.tuple (([(c:Int),(g:Int)]:List Int).map .int),Rep.Hg (ns:=[(st.aM[i]:Int),(st.groups[i]:Int)]) (cN.of au),Rep.Hg (ns:=[(c:Int),(g:Int)]) (cN.of (B _ _ M)),kP _,kP _,(by show PyData.depthAll _+1<=64;rw[wk];decide),_,rfl,?_⟩
   try dsimp only
   have W:Jp st c g i=decide ((st.aM[i]:Int)=(c:Int)/\(st.groups[i]:Int)=(g:Int)):=by
    unfold Jp;rw[aa j,aa f,decide_eq_decide];constructor
    ·rintro⟨S,G⟩
     exact⟨by rw[aQ S],by rw[aQ G]⟩
    ·rintro⟨S,G⟩
     exact⟨fy some ∅,fy some ∅⟩
   rw[RP,<- W];refine iY (λs=>?_) (λs=>?_)
   ·refine⟨_,rfl,?_⟩
    refine fj b J B L ?_ ?_
    ·rw[ah]
     refine bX (aF (bB _ _) ?_);rw[bx];lia
    ·rw[yN,ee s,iy]
   ·refine kh J B L ?_
    rw[yN,eH s,cW]
  ·rintro x I e C rfl
   have X:=m.trans e;exact k v I X (m.free b) C
inductive Li(K:af)(CT C NW:Addr)(vs:List V)(H:Hp)(Q:VK)(E:XK):Prop
 |mk (p tp lu ln lr:Addr) (ns:List Int) (rs:List R5) (ws:List (List Nat)) (i x:Int):vs=[.ref p,.int i,.int x]->cX K CT H tp ln lr ns rs->uw C H p tp lu ws->ws.length=rs.length->(∀(j:Nat) w H',i=(j:Int)->ws[j]?=some w->aD H H'->(w=[]->Q .fk H')/\(∀k:Nat,w[(x%(w.length:Int)).toNat]?=some k->w≠[]->Q (.int (k:Nat)) H'))->(¬(0<=i/\i<rs.length)->E (.ref NW) none H)->Li K CT C NW vs H Q E
theorem Bj{t:Ad}(T:Txt K mg t):ck P w K mg base (Ec P w) 2 t.gJ t.ja ["self","rope","number"]  (Li K t.bh t.cK t.wN):=by
 refine T.mD.F.T9 rG λH Q E g h=>?_
 ·obtain⟨p,J,u,U,R,D,C,I,i,x,rfl,s,f,S,k,M⟩:=h
  obtain⟨⟨Y,W⟩,_⟩:=id f;refine⟨_,(ao (sS 3 rG (pJ (pv 0) T.dO T.dY.m (kJ T) (g.mono (!_)) T.dY.B .nil RG (gj (pv 1)))) (ao (cy (qT Er (pv 3) (gE gf)) (oR mY) bz) (oR (xL (pv 3) (be cP (pv 2) (lS T.gm (pv 3))))))),?_⟩
  left
  refine⟨_,rfl,p,Y,_,rfl,W,rfl,_,rfl,p,J,u,U,R,D,C,I,i,rfl,s,f,S,λj d l H1 A O N Py Z=>?_,M⟩;refine⟨_,rfl,aR _,λq hq=>?_⟩;have n:=aD.new (o:=.lst []) hq;have c:=n _ _ Z;refine⟨.list ((d.map λk:Nat=>(k:Int)).map .int),.list [],⟨l,_,rfl,bS.of c,(by rw[eT];exact p8 _)⟩,⟨q,_,rfl,bS.of au,rfl⟩,kP _,rfl,bQ (cC (aF (Nat.min_le_right _ _) (!_)) _) g.units,_,rfl,?_⟩;obtain⟨X,G⟩:=k j d _ A O (N.trans n);cases d with
  |nil=>exact fK (X rfl)
  |cons y b =>
   refine eG ?_;have a:(0:Int)<(((y::b).length:Nat):Int):=by rw[aT];lia
   have L:=bO x (show (((y::b).length:Nat):Int)≠0 by lia);have v:=bR x a;have e:(x%(((y::b).length:Nat):Int)).toNat<(y::b).length:=∅
   refine⟨_,rfl,_,rfl,_,rfl,l,_,rfl,.inl (bS.of c),_,_,rfl,(by rw[ah]),a,?_⟩;obtain⟨z,r⟩:∃z,(y::b)[(x%(((y::b).length:Nat):Int)).toNat]?=some z:=⟨_,aa e⟩;refine⟨l,_,_,V.int (z:Nat),rfl,rfl,bS.of c,?_,G z r (by intro z;cases z)⟩;rw[show x%(((y::b).length:Nat):Int)=(((x%(((y::b).length:Nat):Int)).toNat:Nat):Int) by lia];exact dM (by rw[aj,r];rfl)
noncomputable def D4(l:LS)(h:Nat):Bool:=(De (l.done.map λh:Nat=>((gy (h:Int):Key),V.bl true)) (gy (h:Int))).isSome
inductive Ss(K:af)(CT:Addr)(c:NC)(vs:List V)(H:Hp)(Q:VK)(E:XK):Prop
 |mk (F:Addr->Prop) (loc dx:Role->Addr) (q:TQ) (p tp ln lr:Addr) (ns:List Int) (rs:List R5) (s:NS) (o:cE ns rs) (i r h:Nat) (l:LS):vs=[.ref p,.ref (loc (.bZ i)),.int r,.int h]->jA K c H F loc dx q p tp ns.length s->NW K c CT H F p tp ln lr ns rs s->Bf ns rs s->s.ls[i]?=some l->l.grp<3->(∀os H',aD H H'->gk (oU ns rs o s.ws l.grp) (s.R l.grp) os->os.length<=12->Q (.str (if r∈os then (if D4 l h=true then "twice" else "come") else "lost")) H')->Ss K CT c vs H Q E
theorem Jq{t:Ad}(T:Txt K mg t):ck P w K mg base iC 7 t.ly t.pV ["self","posted","rope","house"]  (Ss K t.bh (nc t)):=by
 refine T.Bu.F.jE Ia λH Q E s h=>?_
 ·obtain⟨F,a,I,q,p,z,G,D,x,v,st,o,i,r,C,l,rfl,X,N,A,b,B,k⟩:=h
  refine⟨_,(ao (cy (iE i0 (pv 2) (cM (pv 0) T.bK T.z8 (DY T) s (gj (aU (pv 1) rfl))) (by with_unfolding_all rfl)) (oR qz) bz) (oR (zm (aaU (abk (M3 s) (pv 3) (aU (pv 1) rfl)) (by with_unfolding_all rfl)) qz qz))),?_⟩
  left
  have u:=X.own.get .c7 _ rfl;rw[X.hp] at u;have n:=X.own.get (.bZ i) (nv (nc t) I a i l) (by show (st.ls[i]?.map _)=_;rw[b];rfl);have m:=X.own.get (.done i) (.dK (l.done.map λh:Nat=>(gy (h:Int),.bl true))) (by show (st.ls[i]?.map _)=_;rw[b];rfl);refine⟨_,rfl,_,rfl,p,_,_,rfl,u,rfl,_,rfl,a (.bZ i),_,_,_,_,rfl,n,T.dB,T.j6,rfl,F,p,z,G,D,x,v,st,o,l.grp,rfl,N,A,B,λlo os y f J c g d=>⟨lo,_,rfl,.inl (bS.of c),rfl,mO _,_,rfl,?_⟩⟩
  try dsimp only
  rw[ee rfl,wm];have k:=k os y f g d;by_cases e:r∈os
  ·rw[ee e] at k
   rw[e8 e];refine eG ?_;refine⟨_,rfl,_,rfl,a (.bZ i),_,_,_,_,rfl,f _ _ n,T.dB,T.oZ,rfl,a (.done i),_,rfl,JF.k (k:=.inl (C:Int)) (f _ _ m),_,rfl,?_⟩;unfold D4 at k;refine iY (λj=>?_) (λj=>?_)
   ·rw[ee j] at k
    exact k
   ·rw[eH j] at k
    exact k
  ·rw[eH e] at k
   rw[ff e];exact fK k
noncomputable def pI(l:LS):Nat:=if l.kd=1 then l.s+l.to+1 else l.s
theorem Y7{t:Ad}(T:Txt K mg t){b a:Role->Addr}{f:L2.St}{H:Hp}{Q:VK}{i:Nat}{l:LS}(j:∀Q:VK,Q (.ref (a (.bZ i))) H->Lr 4 f H Q)(h:H (a (.bZ i))=some (nv (nc t) b a i l))(d:H (a (.letter i))=some (rM (nc t) (b (.letter i)) l))(q:Q (.int (pI l:Nat)) H) :
 FA t.iS (Str.ofString "number") (A6 K) [] E0 (G8 K (Lr 4) (Str.ofString "letter")) C6 f H Q∨FA t.fT (Str.ofString "number") (Ff t.fT) [] E0 (G8 K (Lr 4) (Str.ofString "letter")) C6 f H Q∨FA t.jd (Str.ofString "number") (A6 K) [] E0 (G8 K (Lr 4) (Str.ofString "letter")) C6 f H Q:=by
 by_cases e:l.kd=1
 ·have c:H (a (.letter i))=some (.ins t.fT (b (.letter i)) [("sender",.int l.s),("to",.int l.to)]):=by rw[d];unfold rM;rw[ee e]
  have g:V.int ((l.s:Int)+(l.to:Int)+1)=.int (pI l:Nat):=by unfold pI;rw[ee e];rfl
  refine .inr (.inl ?_);unfold FA G8;exact (j _ ⟨a (.bZ i),_,_,_,_,rfl,h,T.dB,T.gW,rfl,a (.letter i),b (.letter i),_,rfl,c,rfl,a (.letter i),b (.letter i),l.s,l.to,rfl,c,(by rw[g];exact q)⟩)
 ·have c:H (a (.letter i))=some (.ins t.jd (b (.letter i)) [("sender",.int l.s)]):=by rw[d];unfold rM;rw[eH e]
  have g:V.int (l.s:Int)=.int (pI l:Nat):=by unfold pI;rw[eH e]
  refine .inr (.inr ?_);unfold FA G8;exact (j _ ⟨a (.bZ i),_,_,_,_,rfl,h,T.dB,T.gW,rfl,a (.letter i),b (.letter i),_,rfl,c,rfl,a (.letter i),t.jd,b (.letter i),l.s,rfl,c,T.yj,T.oj,(by rw[g];exact q)⟩)
noncomputable def OT(s:NS)(i h r x f:Nat):NS:={dc s i (.send h r x) with cps:=s.cps++[⟨i,r,x,f⟩]}
inductive Su(K:af)(CT:Addr)(c:NC)(vs:List V)(H:Hp)(Q:VK)(E:XK):Prop
 |mk (F:Addr->Prop) (p tp ln lr:Addr) (ns:List Int) (rs:List R5) (s:NS) (i h r:Nat) (l:LS) (re:R5) (w:List Nat) (x:Nat):vs=[.ref p,.int i,.int h,.int r]->NW K c CT H F p tp ln lr ns rs s->cE ns rs->Bf ns rs s->s.ls[i]?=some l->l.aE.length<1000000->s.cps.length<1000000->rs[r]?=some re->s.ws[r]?=some w->w[(((pI l:Nat):Int)%(w.length:Int)).toNat]?=some x->w≠[]->(∀F' H',NW K c CT H' F' p tp ln lr ns rs (OT s i h r x (fL re h))->Step H F H' F'->Q .fk H')->Su K CT c vs H Q E
theorem OU{t:Ad}(T:Txt K mg t):ck P w K mg base iC 3 t.sW t.yc ["self","number","house","rope"]  (Su K t.bh (nc t)):=by
 refine T.Ih.F.jE zS λH Q E g h=>?_
 ·obtain⟨F,p,A,ln,lr,ns,v,st,i,e,r,l,re,w',x,rfl,N,tok,AJ,b,hld,hcl,Y8,hw,G,hwn,k⟩:=h
  refine⟨_,(ao (sS 4 zS (xL (aU (pv 0) rfl) (pv 1))) (ao (sS 5 zS (pJ (aU (pv 0) rfl) T.dO T.mD.m (Bj T) (g.mono (!_)) T.mD.B .nil Kz (mP (pv 3) (Ew (kM (aU (pv 4) rfl) T.Ik T.lW.m (w9 T) (g.mono (!_)) T.lW.B .nil mK) (Ew (kM (aU (pv 4) rfl) T.pY T.sZ.m (GI T) (g.mono (!_)) T.sZ.B .nil mK) (kM (aU (pv 4) rfl) T.yj T.Il (w9 T) (g.mono (!_)) T.lW.B .nil mK)))))) (ao (dS (rE br bF bE eX (aU (pv 4) rfl) (gj (gD (Xr qz (pv 2) (pv 3) (pv 5)))))) (oE (rE br bF bE eX (aU (pv 0) rfl) (gj (gD (Xr (pv 1) (pv 3) (pv 5) (cM (aU (pv 0) rfl) T.fh T.n9 (rC T) g (mP (pv 3) (pv 2))))))))))),?_⟩
  left
  obtain⟨a,C,q,hp,O,hF,hT⟩:=id N.c7;have b5:=O.get .c7 _ rfl;rw[hp] at b5;have U:=(ai.mp b).1;have X:=(ai.mp Y8).1;have WT:=O.get .cO _ rfl;have MK:=O.get (.bZ i) (nv (nc t) C a i l) (by show (st.ls[i]?.map _)=_;rw[b];rfl);have Y:=O.get (.letter i) (rM (nc t) (C (.letter i)) l) (by show (st.ls[i]?.map _)=_;rw[b];rfl);refine⟨_,rfl,p,_,_,_,_,rfl,b5,T.bK,T.fC,rfl,_,rfl,a .cO,_,_,_,rfl,rfl,bS.of WT,qC U,?_⟩;refine⟨_,rfl,p,_,_,_,_,rfl,b5,T.bK,T.lA,rfl,a .cJ,C .cJ,_,rfl,O.get .cJ _ rfl,rfl,_,rfl,?_⟩;have n:=O.get (.aE i) (.lst ((q.dq i).map V.ref)) (by show (st.ls[i]?.map _)=_;rw[b];rfl);refine Y7 T (l:=l) (λQ q=>⟨_,rfl,q⟩) MK Y ?_;refine⟨a .cJ,A,a .c9,ln,lr,ns,v,st.ws,r,(pI l:Nat),rfl,N.ni,O.strAt,AJ.wl,λj w2 H1 ej y u=>⟨λz=>?_,λkk hk _=>?_⟩,λz=>eL ⟨∅,∅⟩ z⟩
  ·have:j=r:=∅
   subst this;rw[hw] at y;cases y;exact eL z hwn
  have:j=r:=∅
  subst this;rw[hw] at y;cases y;rw[G] at hk;cases hk;have X1:jA K (nc t) H1 F a C q p A ns.length st:=jA.mono ⟨hp,O,hF,hT⟩ u;have ML:=(X1.tup.aE i _ b).len;rw[ah] at ML;refine⟨_,rfl,a (.bZ i),_,_,_,_,rfl,u _ _ MK,T.dB,T.iU,rfl,.inl ⟨rfl,_,bS.of (u _ _ n)⟩,_,rfl,_,rfl,_,rfl,Tj,λz1 Z=>?_⟩;have D:=aD.new (o:=.tup [V.str "send",V.int e,V.int j,V.int x]) Z;refine⟨a (.aE i),_,_,rfl,rfl,D _ _ (u _ _ n),vY (by rw[ah,ML];lia),?_⟩;obtain⟨c,W⟩:=zE (X1.mono D) b (d:=.send e j x) (cN.of au);have f:=(Step.refl' (F:=F) (u.trans D)).trans W;have L:=N.done f c.c7;generalize upd (upd H1 z1 (.tup [V.str "send",V.int e,V.int j,V.int x])) (a (.aE i)) (.lst ((q.dq i).map V.ref++[.ref z1]))=H2 at c f L;have I:=c.own.get .c7 _ rfl;rw[c.hp] at I;have s:=c.own.get .eU _ rfl;obtain⟨⟨dt,M⟩,_⟩:=id L.ni;have J:q.cq.length=st.cps.length:=by
   have z:=c.tup.cps.len;rw[ah] at z;exact z
  obtain⟨_,rfl⟩:=ai.mp Y8;refine⟨_,rfl,p,_,_,_,_,rfl,I,T.bK,T.jf,rfl,.inl ⟨rfl,_,bS.of s⟩,_,rfl,_,rfl,_,rfl,_,rfl,p,_,_,_,_,rfl,I,T.bK,T.mE,rfl,A,dt,_,rfl,M,rfl,_,rfl,_,rfl,A,ln,lr,ns,v,j,_,e,rfl,L.ni,Y8,?_⟩;rw[RH (h:=e) X tok.ok];refine⟨Tj,λz2 R=>?_⟩;have S:=aD.new (o:=.tup [V.int i,V.int j,V.int x,V.int (fL v[j] e:Nat)]) R;refine⟨a .eU,_,_,rfl,rfl,S _ _ s,vY (by rw[ah,J];lia),?_⟩;have X3:=c.mono S;obtain⟨X4,GP⟩:=RO X3 (qs:=q.cq++[z2]) (cps:=st.cps++[⟨i,j,x,fL v[j] e⟩]) (by rw[aO];exact X3.tup.cps.snoc (cN.of au));rw[aO] at X4 GP;have MI:=(f.trans (Step.refl' (F:=F) S)).trans GP;refine k F _ ?_ MI;unfold OT;rw[eW b];exact N.done MI X4.c7
end
section
noncomputable def mT(ds:List Nat)(h:Nat):List Nat:=if h∈ds then ds else ds++[h]
theorem Ut{ds:List Nat}{h:Nat}:putK (ds.map λh:Nat=>((gy (h:Int):Key),V.bl true)) (gy (h:Int)) (V.bl true)=(mT ds h).map λh:Nat=>((gy (h:Int):Key),V.bl true):=by
 have e:((ds.map λh:Nat=>((gy (h:Int):Key),V.bl true)).any λkv=>decide (kv.1=(gy (h:Int):Key)))=decide (h∈ds):=by
  rw[iJ,List.any_map,xx,decide_eq_true_iff];constructor
  ·rintro⟨x,a,e⟩
   have e:=Sum.inl.inj (gn e)
   have:x=h:=∅
   exact this▸a
  ·exact λa=>⟨h,a,e8 rfl⟩
 unfold putK mT;rw[e];by_cases z:h∈ds
 ·rw[ee (e8 z),ee z,cF]
  refine cQ λx _=>?_;show (if _ then _ else _)=_;split <;> rfl
 ·rw[eH (by rw[decide_eq_true_iff];exact z),eH z,aO]
  rfl
structure Fr(s s':NS):Prop where
 ws:s'.ws=s.ws
 R:s'.R=s.R
 ts:s'.ts=s.ts
 aM:s'.aM=s.aM
 groups:s'.groups=s.groups
 lt:∀(i:Nat) (l:LS),s.ls[i]?=some l->∃l':LS,s'.ls[i]?=some l'/\l'.s=l.s/\l'.to=l.to/\l'.kd=l.kd/\l'.grp=l.grp/\l'.old=l.old
theorem Fr.refl(s:NS):Fr s s:=⟨rfl,rfl,rfl,rfl,rfl,λ_ l h=>⟨l,h,rfl,rfl,rfl,rfl,rfl⟩⟩
theorem Fr.trans{a b c:NS}(f:Fr a b)(g:Fr b c):Fr a c:=by
 refine⟨g.ws.trans f.ws,g.R.trans f.R,g.ts.trans f.ts,g.aM.trans f.aM,g.groups.trans f.groups,λi l h=>?_⟩;obtain⟨e,o,t,p,n,k,s⟩:=f.lt i l h;obtain⟨j,d,f1,f2,q,m,r⟩:=g.lt i e o;exact⟨j,d,f1.trans t,f2.trans p,q.trans n,m.trans k,r.trans s⟩
theorem Fr.ok{ns:List Int}{rs:List R5}{s s':NS}(f:Fr s s')(h:Bf ns rs s):Bf ns rs s' :=
 ⟨by rw[f.ws];exact h.wl,by rw[f.ws];exact h.w4,by rw[f.R];exact h.fit⟩
theorem aaA{s:NS}{i:Nat}{l a:LS}{had:List (List Nat)}{cps:List Cp}(hl:s.ls[i]?=some l)(f:a.s=l.s)(d:a.to=l.to)(c:a.kd=l.kd)(g:a.grp=l.grp)(e:a.old=l.old):Fr s {s with ls:=s.ls.set i a,had:=had,cps:=cps}:=by
 refine⟨rfl,rfl,rfl,rfl,rfl,λk b h=>?_⟩;show ∃b,(s.ls.set i a)[k]?=some b/\_;rw[gi (ai.mp hl).1];by_cases z:k=i
 ·subst z
  rw[hl] at h;cases h;exact⟨a,ee rfl,f,d,c,g,e⟩
 ·exact⟨b,by rw[eH z];exact h,rfl,rfl,rfl,rfl,rfl⟩
theorem Sv{s:NS}{i:Nat}{d:sD}:Fr s (dc s i d):=by
 cases h:s.ls[i]? with
 |none=>unfold dc;rw[h];exact Fr.refl s
 |some l=>rw[eW h];exact aaA h rfl rfl rfl rfl rfl
structure Bd(n m D:Nat)(s:NS):Prop where
 gl:s.groups.length=s.aM.length
 vX:s.aM.length<=20
 g3:∀g∈s.groups,g<3
 hm:∀h∈s.aM,h<n
 hl:s.had.length=s.aM.length
 hb:∀w∈s.had,w.length<=D
 ll:s.ls.length<=D
 lb:∀l∈s.ls,l.aE.length+s.cps.length<=D/\l.done.length<=D/\l.grp<3/\(l.kd=1∨l.kd=2)
 cb:s.cps.length<=D
 cl:∀c∈s.cps,c.l<s.ls.length/\c.r<m/\c.h<n
 tb:∀g,50*(s.ts g).length<=D/\gh (s.ts g)
theorem Bd.mono{n m D a:Nat}{s:NS}(b:Bd n m D s)(h:D<=a):Bd n m a s :=
 ⟨b.gl,b.vX,b.g3,b.hm,b.hl,λw z=>aF (b.hb w z) h,aF b.ll h,λl z=>⟨aF (b.lb l z).1 h,aF (b.lb l z).2.1 h,(b.lb l z).2.2⟩,aF b.cb h,b.cl,λg=>⟨aF (b.tb g).1 h,(b.tb g).2⟩⟩
theorem Bd.set{n m D:Nat}{s:NS}{i:Nat}{l a:LS}(b:Bd n m D s)(k:Nat)(hl:s.ls[i]?=some l){cps:List Cp}{had:List (List Nat)}(u:cps.length<=s.cps.length+1)(k2:cps.length<=s.cps.length∨2<=k)(k1:1<=k)(t:a.aE.length+cps.length<=l.aE.length+s.cps.length+k)(q:a.done.length<=l.done.length+k)(j:a.grp=l.grp)(o:a.kd=l.kd)
 (f:∀c∈cps,c∈s.cps∨(c.l<s.ls.length/\c.r<m/\c.h<n)) (hh:had.length=s.had.length) (p:∀w∈had,w.length<=D+k):Bd n m (D+k) {s with ls:=s.ls.set i a,had:=had,cps:=cps}:=by
 have d:=b.lb l (aG hl);refine⟨b.gl,b.vX,b.g3,b.hm,hh.trans b.hl,p,?_,λe z=>?_,?_,λc z=>?_,λg=>⟨aF (b.tb g).1 (gV _ _),(b.tb g).2⟩⟩
 ·show (s.ls.set i a).length<=_
  rw[aX]
  have:=b.ll
  lia
 ·rcases gq z with z|rfl
  ·have h:=b.lb e z
   refine⟨?_,?_,h.2.2⟩
   ·show e.aE.length+cps.length<=_
    have:=h.1
    lia
   ·have:=h.2.1
    lia
  ·refine⟨?_,?_,j▸d.2.2.1,o▸d.2.2.2⟩
   ·show e.aE.length+cps.length<=_
    have:=d.1
    lia
   ·have:=d.2.1
    lia
 ·show cps.length<=_
  have:=b.cb
  lia
 ·show c.l<(s.ls.set i a).length/\_
  rw[aX];rcases f c z with y|y
  ·exact b.cl c y
  ·exact y
theorem Bd.am0{n m D:Nat}{s:NS}(b:Bd n m D s)(i:Nat)(d:sD):Bd n m (D+1) (dc s i d):=by
 cases h:s.ls[i]? with
 |none=>unfold dc;rw[h];exact b.mono (dD D)
 |some l =>
  rw[eW h];refine b.set 1 h (dD _) (.inl (av _)) (av _) ?_ (dD _) rfl rfl (λc z=>.inl z) rfl (λw z=>jM (b.hb w z));show (l.aE++[d]).length+_<=_;rw[ay];show l.aE.length+1+_<=_;lia
noncomputable def eE(s:NS)(i h:Nat)(l:LS):NS:={s with ls:=s.ls.set i {l with done:=mT l.done h}}
theorem MF{s:NS}{i h:Nat}{l:LS}(hl:s.ls[i]?=some l):Fr s (eE s i h l):=aaA hl rfl rfl rfl rfl rfl
theorem Sw{n m D:Nat}{s:NS}{i h:Nat}{l:LS}(b:Bd n m D s)(hl:s.ls[i]?=some l):Bd n m (D+1) (eE s i h l):=by
 refine b.set 1 hl (dD _) (.inl (av _)) (av _) (dD _) ?_ rfl rfl (λc z=>.inl z) rfl (λw z=>jM (b.hb w z));show (mT l.done h).length<=_;unfold mT;split
 ·exact dD _
 ·rw[ay];exact av _
noncomputable def ud(s:NS)(i c:Nat):NS:={s with had:=s.had.set c (s.had.getD c []++[i])}
noncomputable def lD(i h:Nat)(s:NS)(c:Nat):NS:=dc (ud s i c) i (.hand h c)
theorem G0{s:NS}{i h c:Nat}:Fr s (lD i h s c):=Fr.trans (b:=ud s i c) ⟨rfl,rfl,rfl,rfl,rfl,λ_ l h=>⟨l,h,rfl,rfl,rfl,rfl,rfl⟩⟩ Sv
theorem MG{n m D:Nat}{s:NS}{i h c:Nat}(b:Bd n m D s):Bd n m (D+1) (lD i h s c):=by
 have q:∀w∈(ud s i c).had,w.length<=D+1:=λw z=>by
  rcases gq z with y|rfl
  ·exact jM (b.hb w y)
  ·rw[ay]
   refine jJ ?_ 1;rw[ak];cases e:s.had[c]? with
   |none=>exact aR _
   |some w=>exact b.hb w (aG e)
 unfold lD;cases d:s.ls[i]? with
 |none =>
  unfold dc;rw[show (ud s i c).ls[i]?=none from d];have a:=b.mono (dD D);exact⟨a.gl,a.vX,a.g3,a.hm,by show (s.had.set _ _).length=_;rw[aX];exact a.hl,q,a.ll,a.lb,a.cb,a.cl,a.tb⟩
 |some l =>
  rw[eW (show (ud s i c).ls[i]?=some l from d)];refine b.set 1 d (dD _) (.inl (av _)) (av _) ?_ (dD _) rfl rfl (λc z=>.inl z) (by show (s.had.set _ _).length=_;rw[aX]) q;show (l.aE++[_]).length+s.cps.length<=_;rw[ay];show l.aE.length+1+s.cps.length<=_;lia
noncomputable def ue(ws:List (List Nat))(r k:Nat):Nat:=match ws[r]? with|some w=>w.getD (k%w.length) 0|none=>0
noncomputable def gv(rs:List R5)(r h:Nat):Nat:=match rs[r]? with|some re=>fL re h|none=>0
noncomputable def Uu(s:NS)(i:Nat):Nat:=match s.ls[i]? with|some l=>pI l|none=>0
noncomputable def uf(rs:List R5)(i h:Nat)(s:NS)(r:Nat):NS:=OT s i h r (ue s.ws r (Uu s i)) (gv rs r h)
theorem G1{rs:List R5}{s:NS}{i h r:Nat}:Fr s (uf rs i h s r):=Fr.trans (Sv (i:=i) (d:=.send h r (ue s.ws r (Uu s i)))) ⟨rfl,rfl,rfl,rfl,rfl,λ_ l h=>⟨l,h,rfl,rfl,rfl,rfl,rfl⟩⟩
theorem Qe{ns:List Int}{rs:List R5}(o:cE ns rs){r h:Nat}(a:r<rs.length):gv rs r h<ns.length:=by
 unfold gv;rw[aa a];have k:=o.ok _ (aK a);have b:=k.a0;have e:=k.b0;have c:=k.a1;have d:=k.b1;show fL _ _<_;unfold fL;split <;> lia
theorem Sx{ns:List Int}{rs:List R5}(o:cE ns rs){D:Nat}{s:NS}{i h r:Nat}(b:Bd ns.length rs.length D s)(e:i<s.ls.length)(d:r<rs.length):Bd ns.length rs.length (D+2) (uf rs i h s r):=by
 have a:=aa e;unfold uf OT;rw[eW a];refine b.set 2 a (by rw[ay];exact av _) (.inr (av _)) (!_) ?_ (gV _ _) rfl rfl (λc z=>?_) rfl (λw z=>aF (b.hb w z) (gV _ _))
 ·show (s.ls[i].aE++[_]).length+(s.cps++[_]).length<=_
  rw[ay,ay];show s.ls[i].aE.length+1+(s.cps.length+1)<=_;lia
 ·rcases bG.mp z with y|y
  ·exact .inl y
  ·rw[aS] at y
   subst y;exact .inr ⟨e,d,Qe o d⟩
theorem yO{f:NS->Nat->NS}(h:∀s x,Fr s (f s x)):∀(xs:List Nat) (s:NS),Fr s (xs.foldl f s)
 |[],s=>Fr.refl s
 |x::xs,s=>(h s x).trans (yO h xs (f s x))
theorem A7{n m k:Nat}{f:NS->Nat->NS}(I:NS->Prop):∀(xs:List Nat) (s:NS) (D:Nat),(∀s x D,x∈xs->I s->Bd n m D s->I (f s x)/\Bd n m (D+k) (f s x))->I s->Bd n m D s->Bd n m (D+k*xs.length) (xs.foldl f s)
 |[],s,D,_,_,b=>b
 |x::xs,s,D,h,i,b=>by
  obtain⟨a,c⟩:=h s x D bJ i b
  have:=A7 I xs (f s x) (D+k) (λs y D z=>h s y D (aN _ z)) a c
  refine this.mono (Nat.le_of_eq ?_);rw[aT,Nat.mul_succ];lia
theorem Lj{f:NS->Nat->NS}{xs:List Nat}{s:NS}{j:Nat}(h:j<xs.length):(xs.take (j+1)).foldl f s=f ((xs.take j).foldl f s) xs[j]:=by
 rw[jB h,List.foldl_append];rfl
noncomputable def oA(s:NS)(l:LS)(h:Nat):List Nat:=(ze s h l.grp).filter λc=>HB l.s l.to l.kd c
noncomputable def Jr(rs:List R5)(s:NS)(l:LS)(h:Nat)(cj:Option Nat)(os:List Nat):List Nat:=(V1 (s.ts l.grp) (AV l.to l.kd) h (cj.map λk:Nat=>(k:Int)) ((os.filter (isAt rs h)).map λk:Nat=>(k:Int)) ((ze s h l.grp).map λk:Nat=>(k:Int))).map Int.toNat
noncomputable def Uv(rs:List R5)(s:NS)(i h:Nat)(l:LS)(cj:Option Nat)(os:List Nat):NS:=(Jr rs s l h cj os).foldl (uf rs i h) ((oA s l h).foldl (lD i h) (eE s i h l))
theorem D5{ts:List T3}{a:Option Int}{b:Int}{cj:Option Int}{os d:List Int}:(∀x∈V1 ts a b cj os d,x∈os)/\(V1 ts a b cj os d).length<=os.length:=by
 have f:(∀x∈os.filter (p9 cj),x∈os)/\(os.filter (p9 cj)).length<=os.length:=⟨λx z=>(bf.mp z).1,bB _ _⟩;unfold V1;split
 ·exact f
 ·split
  ·exact⟨λx z=>eL z (-_),aR _⟩
  ·split
   ·split
    ·rename_i r _ c
     refine⟨λx z=>?_,?_⟩
     ·have:=(bf.mp z).1
      rw[aS] at this;exact this▸c
     ·refine aF (bB _ _) ?_
      show 1<=os.length;cases os with
      |nil=>cases c
      |cons=>simp
    ·exact f
   ·exact f
theorem Y9{rs:List R5}{s:NS}{l:LS}{h:Nat}{cj:Option Nat}{os:List Nat}:(V1 (s.ts l.grp) (AV l.to l.kd) h (cj.map λk:Nat=>(k:Int)) ((os.filter (isAt rs h)).map λk:Nat=>(k:Int)) ((ze s h l.grp).map λk:Nat=>(k:Int))).map V.int=bw (Jr rs s l h cj os):=by
 unfold Jr;rw[bw,cF];refine cQ λx a=>?_;obtain⟨k,_,rfl⟩:=aV.mp (D5.1 x a);rfl
theorem Sy{rs:List R5}{s:NS}{l:LS}{h:Nat}{cj:Option Nat}{os:List Nat}:(∀r∈Jr rs s l h cj os,r∈os)/\(Jr rs s l h cj os).length<=os.length:=by
 unfold Jr;refine⟨λr c=>?_,?_⟩
 ·obtain⟨x,b,rfl⟩:=aV.mp c
  obtain⟨k,a,rfl⟩:=aV.mp (D5.1 x b);exact (bf.mp a).1
 ·rw[ah]
  refine aF D5.2 ?_;rw[ah];exact bB _ _
theorem OV{s:NS}{l:LS}{h:Nat}:(∀c∈oA s l h,c<s.aM.length)/\(oA s l h).length<=s.aM.length:=by
 unfold oA ze;refine⟨λc z=>bH.mp (bf.mp (bf.mp z).1).1,?_⟩;refine aF (bB _ _) (aF (bB _ _) ?_);rw[bx];exact av _
theorem Fj{ns:List Int}{rs:List R5}{o:cE ns rs}{s:NS}{g:Nat}{os:List Nat}(O:gk (oU ns rs o s.ws g) (s.R g) os){r:Nat}(d:r∈os):r<rs.length/\∃w,s.ws[r]?=some w/\w≠[]:=by
 obtain⟨a,b,t⟩:=(O.2 r).mp d;have m:r∈yQ rs s.ws g:=t.AO.1;refine⟨zD r m,?_⟩;have e:=(bf.mp m).2;unfold isLive at e;split at e
 ·rename_i f w h c
  refine⟨w,c,λz=>?_⟩;subst z;cases e
 ·cases e
theorem acK{rs:List R5}{s:NS}{i h:Nat}{l:LS}{cj:Option Nat}{os:List Nat}(hl:s.ls[i]?=some l):Fr s (Uv rs s i h l cj os):=((MF hl).trans (yO (λ_ _=>G0) _ _)).trans (yO (λ_ _=>G1) _ _)
end
section
variable{P:Program}{w:World}{K:af}{mg:Str->Option Value}{base:Heap}
theorem acL{c:NC}{H:Hp}{a b:Addr}{l:LS}{d:Addr}(h:H a=some (rM c b l))(k:l.kd=1∨l.kd=2):FG d c.let1 c.aey H a l.s l.to l.kd:=by
 rcases k with e|e
 ·rw[e]
  refine .one b ?_;rw[h];unfold rM;rw[ee e]
 ·rw[e]
  refine .all b ?_;rw[h];unfold rM;rw[eH (by rw[e];decide)]
inductive aaB(K:af)(CT:Addr)(c:NC)(vs:List V)(H:Hp)(Q:VK)(E:XK):Prop
 |mk (F:Addr->Prop) (p tp ln lr:Addr) (ns:List Int) (rs:List R5) (s:NS) (o:cE ns rs) (i h:Nat) (cj:Option Nat) (l:LS) (D:Nat):vs=[.ref p,.int i,.int h,Ey (cj.map λk:Nat=>(k:Int))]->NW K c CT H F p tp ln lr ns rs s->Bf ns rs s->Bd ns.length rs.length D s->D<=900000->s.ls[i]?=some l->(∀os F' H',gk (oU ns rs o s.ws l.grp) (s.R l.grp) os->os.length<=12->NW K c CT H' F' p tp ln lr ns rs (Uv rs s i h l cj os)->Step H F H' F'->Q .fk H')->aaB K CT c vs H Q E
theorem xo{t:Ad}(T:Txt K mg t):ck P w K mg base iC 7 t.jq t.lT ["self","number","house","came"]  (aaB K t.bh (nc t)):=by
 refine T.qN.F.jE eu λH Q E hr h=>?_
 ·obtain⟨F,p,tp,ln,lr,ns,rs,st,o,i,f,S,l,D,rfl,N,AJ,bd,hD,I,k⟩:=h
  refine⟨_,(ao (sS 4 eu (xL (aU (pv 0) rfl) (pv 1))) (ao (sS 5 eu (aU (pv 4) rfl)) (ao (RA (M3 hr) (aU (pv 4) rfl) (pv 2) MP rfl) (ao (sS 6 eu (cG (QV T) hr T.KU (Xr (aU (pv 0) rfl) (cM (pv 0) T.bK T.yh (AI T) hr (gj (pv 5))) (cM (pv 0) T.bK T.tE (uN T) hr (gj (pv 5))) (pv 2)))) (ao (sS 7 eu (cM (pv 0) T.bK T.wQ (D3 T) hr (mP (pv 2) (pv 5)))) (ao (sS 8 eu (cG (QY T) hr T.KS (aN6 (xL (aU (pv 0) rfl) (pv 5)) (aU (pv 4) rfl) (pv 2) (pv 3) (pv 6) (pv 7)))) (ao (fS (fq (xT (pv 8) az)) (gT 9 eu) (ao (dS (rE br bF bE eX (xL (aU (pv 0) rfl) (pv 9)) (gj (pv 1)))) (oE (rE br bF bE eX (aU (pv 4) rfl) (gj (gD (KP qz (pv 2) (pv 9)))))))) (bA (fS (fq (xT (pv 8) az)) (gT 10 eu) (oE (cM (pv 0) T.bK T.Ih (OU T) hr (KP (pv 1) (pv 2) (pv 10))))))))))))),?_⟩
  left
  obtain⟨g,dx,q,hp,O,hF,hT⟩:=id N.c7;have X:jA K (nc t) H F g dx q p tp ns.length st:=⟨hp,O,hF,hT⟩;have b5:=O.get .c7 _ rfl;rw[hp] at b5;have hil:=(ai.mp I).1;obtain⟨lb1,lb2,hg,lkd⟩:=bd.lb l (aG I);have WT:=O.get .cO _ rfl;have MK:=O.get (.bZ i) (nv (nc t) dx g i l) (by show (st.ls[i]?.map _)=_;rw[I];rfl);have hdo:=O.get (.done i) (.dK (l.done.map λh:Nat=>(gy (h:Int),.bl true))) (by show (st.ls[i]?.map _)=_;rw[I];rfl);refine bW λNx L=>?_;refine⟨_,rfl,p,_,_,_,_,rfl,b5,T.bK,T.fC,rfl,_,rfl,g .cO,_,_,_,rfl,rfl,bS.of WT,qC hil,L _ _ ?_⟩;refine bW λNx L=>?_;refine⟨_,rfl,g (.bZ i),_,_,_,_,rfl,MK,T.dB,T.j6,rfl,L _ _ ?_⟩;refine bW λNx L=>?_;refine⟨_,rfl,g (.bZ i),_,_,_,_,rfl,MK,T.dB,T.oZ,rfl,_,rfl,g (.done i),_,rfl,MZ.k (k:=.inl (f:Int)) hdo (vY (by rw[ah];lia)),?_⟩;rw[Ut];refine L _ _ ?_;obtain⟨X1,st1⟩:=V6 X I (mT l.done f);have N1:=N.done st1 X1.c7;generalize upd H (g (.done i)) (.dK ((mT l.done f).map λh:Nat=>((gy (h:Int):Key),V.bl true)))=H1 at X1 st1 N1;have fr1:=MF (h:=f) I;have B:=Sw (h:=f) bd I;have es1:eE st i f l={st with ls:=st.ls.set i {l with done:=mT l.done f}}:=rfl;rw[<- es1] at X1 N1;have Fk:(eE st i f l).ls[i]?=some {l with done:=mT l.done f}:=by
   show (st.ls.set i _)[i]?=_;rw[gi hil,ee rfl]
  have ets:(eE st i f l).ts=st.ts:=rfl;have ehe:ze (eE st i f l) f l.grp=ze st f l.grp:=rfl;have k1:∀os F' H',gk (oU ns rs o (eE st i f l).ws l.grp) ((eE st i f l).R l.grp) os->os.length<=12->NW K (nc t) t.bh H' F' p tp ln lr ns rs ((Jr rs st l f S os).foldl (uf rs i f) ((oA st l f).foldl (lD i f) (eE st i f l)))->Step H1 F H' F'->Q .fk H':=λos F' H' a b c d=>k os F' H' a b c (st1.trans d);have Uw:=fr1.ok AJ;have ehd:oA st l f=(ze (eE st i f l) f l.grp).filter λc:Nat=>HB l.s l.to l.kd c:=rfl;have ego:∀os,Jr rs st l f S os=(V1 ((eE st i f l).ts l.grp) (AV l.to l.kd) f (S.map λk:Nat=>(k:Int)) ((os.filter (isAt rs f)).map λk:Nat=>(k:Int)) ((ze (eE st i f l) f l.grp).map λk:Nat=>(k:Int))).map Int.toNat:=λos=>rfl;have hgi:∀os,(V1 ((eE st i f l).ts l.grp) (AV l.to l.kd) f (S.map λk:Nat=>(k:Int)) ((os.filter (isAt rs f)).map λk:Nat=>(k:Int)) ((ze (eE st i f l) f l.grp).map λk:Nat=>(k:Int))).map V.int=bw (Jr rs st l f S os):=λos=>Y9;have G:∀os,(∀r∈Jr rs st l f S os,r∈os)/\(Jr rs st l f S os).length<=os.length:=λos=>Sy;have W:(∀c∈oA st l f,c<(eE st i f l).aM.length)/\(oA st l f).length<=(eE st i f l).aM.length:=OV;have hhi:((ze (eE st i f l) f l.grp).map λk:Nat=>(k:Int)).filter (HB l.s l.to l.kd)=(oA st l f).map λk:Nat=>(k:Int):=by
   rw[ehd,List.filter_map];rfl
  generalize Jr rs st l f S=M at k1 hgi G;generalize oA st l f=n at k1 W hhi;generalize eE st i f l=m at X1 N1 B k1 Fk Uw hgi W hhi;have am5:=(ai.mp Fk).1;have fY:=X1.own.get .c7 _ rfl;rw[X1.hp] at fY;refine bW λNx L=>?_;refine⟨_,rfl,p,_,_,_,_,rfl,fY,T.bK,T.mE,rfl,?_⟩;refine⟨_,rfl,p,_,_,rfl,fY,rfl,_,rfl,F,p,tp,ln,lr,ns,rs,m,l.grp,rfl,N1,o,Uw,hg,λa1 H2 t2 ha1 h1=>?_⟩;refine⟨_,rfl,p,_,_,rfl,t2 _ _ fY,rfl,_,rfl,F,p,tp,ns.length,l.grp,m,rfl,(N1.mono t2).c7,hg,λa2 qs H3 t3 ha2 h2 ht=>?_⟩;refine⟨_,rfl,tp,ln,lr,a1,a2,ns,rs,_,o.nd,o.ok,zD,m.R l.grp,f,rfl,(N1.mono (t2.trans t3)).ni,bS.of (t3 _ _ h1),ht.Qt (bS.of h2),by have:=o.Xp;lia,o.jw,Uw.fit l.grp hg,λlo os H4 t4 WL hlo hO h12=>L _ _ ?_⟩;have t14:=t2.trans (t3.trans t4);refine bW λNx L=>?_;refine⟨_,rfl,p,_,_,rfl,t14 _ _ fY,rfl,_,rfl,_,rfl,F,p,tp,ns.length,f,l.grp,m,rfl,(N1.mono t14).c7,B.gl,B.vX,λlh H5 t5 aiH hlh=>L _ _ ?_⟩;have t15:=t14.trans t5;have X5:=X1.mono t15;have acM:=t5 _ _ hlo;have afm:=X5.own.get (.bZ i) (nv (nc t) dx g i {l with done:=mT l.done f}) (by show (m.ls[i]?.map _)=_;rw[Fk];rfl);have afn:=X5.own.get (.letter i) (rM (nc t) (dx (.letter i)) {l with done:=mT l.done f}) (by show (m.ls[i]?.map _)=_;rw[Fk];rfl);rw[eT] at acM hlh;refine bW λNx L=>?_;refine⟨_,rfl,p,_,_,_,_,rfl,t15 _ _ fY,T.bK,T.qo,rfl,_,rfl,g .i6,_,_,_,rfl,rfl,bS.of (X5.own.get .i6 _ rfl),qC hg,_,rfl,g (.bZ i),_,_,_,_,rfl,afm,T.dB,T.gW,rfl,_,rfl,_,rfl,_,rfl,_,rfl,g (.book l.grp),g (.eZ l.grp),g (.letter i),lo,lh,m.ts l.grp,l.s,l.to,l.kd,f,S.map λk:Nat=>(k:Int),_,_,rfl,X5.own.LN hg,acL afn lkd,bS.of acM,bS.of hlh,?_,?_,λtq b1 b2 H6 t6 aiK aiL aiM am6 htq hb1 hb2=>L _ _ ?_⟩
  ·rw[ah]
   have:=bB (isAt rs f) os
   lia
  ·rw[ah]
   unfold ze
   have:=bB (Jp m f l.grp) (aq m.aM.length)
   rw[bx] at this
   have:=B.vX
   lia
  rw[hhi,<- eT] at hb1;rw[hgi os] at hb2;have G:=G os;have k1:=k1 os;generalize M os=M at hb2 G k1;have t16:=t15.trans t6;have X6:=X1.mono t16;have nF:∀{b},H5 b=none->¬F b:=λ{b} e z=>by
   obtain⟨u,e'⟩:=X5.c7.there z;rw[e] at e';cases e'
  have nq:=nF aiK;have n1:=nF aiL;have n2:=nF aiM;have afo:Step H1 F H6 F:=Step.refl' t16;refine bW λNx L=>?_;refine⟨_,rfl,tq,_,0,_,rfl,rfl,cN.of htq,rfl,b1,rfl,⟨_,bS.of hb1⟩,wo (K:=K) (a:=b1) (xs:=bw n) (λj σ H7=>∃(q7:TQ) (v9:Option V),jA K (nc t) H7 F g dx q7 p tp ns.length ((n.take j).foldl (lD i f) m)/\Step H6 F H7 F/\σ=[some (.ref p),some (.int i),some (.int f),some (Ey (S.map λk:Nat=>(k:Int))),some (.ref (g (.bZ i))),some (.int l.grp),some (.ref lo),some (.ref lh),some (.ref tq),v9,none]) ⟨q,none,X6,Step.refl' (aD.refl _),rfl⟩ (λj σ H7 _ z=>?_) ?_ ?_⟩
  ·obtain⟨q7,v9,U,UH,rfl⟩:=z
   exact bS.of (UH.kp _ _ hb1 n1)
  ·rintro j y σ H7 Nf GZ hj ⟨q7,v9,U,UH,rfl⟩
   have C:j<n.length:=by
    have:=(ai.mp hj).1
    rw[ah] at this;exact this
   rw[aj,aa C] at hj;cases hj;rw[Lj C] at GZ;have b7:Bd ns.length rs.length (D+1+1*(n.take j).length) ((n.take j).foldl (lD i f) m):=A7 (λ_=>True) _ _ _ (λs x D _ _ b=>⟨trivial,MG b⟩) trivial B;have f7:Fr m ((n.take j).foldl (lD i f) m):=yO (λ_ _=>G0) _ _;have hjt:(n.take j).length<=20:=by
    rw[bV]
    have:=W.2
    have:=B.vX
    lia
   obtain⟨l7,UN,_⟩:=f7.lt i _ Fk;have v:n[j]<((n.take j).foldl (lD i f) m).had.length:=by
    rw[b7.hl,f7.aM];exact W.1 _ (aK C)
   generalize (n.take j).foldl (lD i f) m=A at U b7 UN v GZ;show gU 9 (V.int ((n[j]:Nat):Int)) _ _ _;generalize n[j]=c at v GZ;have aaD:=U.own.get .c7 _ rfl;rw[U.hp] at aaD;have hhc:=U.own.get (.handed c) (.lst (bw A.had[c])) (by show (A.had[c]?.map _)=_;rw[aa v];rfl);have hwl:=b7.hb _ (aK v);have hdl:=(b7.lb l7 (aG UN)).1;refine⟨_,rfl,p,_,_,_,_,rfl,aaD,T.bK,T.DC,rfl,_,rfl,g .jD,_,_,_,rfl,rfl,bS.of (U.own.get .jD _ rfl),qC v,.inl ⟨rfl,_,bS.of hhc⟩,_,rfl,g (.handed c),_,_,rfl,rfl,hhc,vY (by rw[ah];lia),?_⟩;obtain⟨X8,Za⟩:=V8 U v (A.had[c]++[i]);rw[iy] at X8 Za;generalize upd H7 (g (.handed c)) (.lst (bw A.had[c]++[V.int i]))=H8 at X8 Za;have es:{A with had:=A.had.set c (A.had[c]++[i])}=ud A i c:=by
    unfold ud;rw[ak,aa v];rfl
   rw[es] at X8;have Y:(ud A i c).ls[i]?=some l7:=UN;have aiN:=X8.own.get (.bZ i) (nv (nc t) dx g i l7) (by show ((ud A i c).ls[i]?.map _)=_;rw[Y];rfl);have afp:=X8.own.get (.aE i) (.lst ((q7.dq i).map V.ref)) (by show ((ud A i c).ls[i]?.map _)=_;rw[Y];rfl);have ML:=(X8.tup.aE i _ Y).len;rw[ah] at ML;refine⟨_,rfl,g (.bZ i),_,_,_,_,rfl,aiN,T.dB,T.iU,rfl,.inl ⟨rfl,_,bS.of afp⟩,_,rfl,_,rfl,nu,λz1 hz1=>?_⟩;have u1:=aD.new (o:=.tup [V.str "hand",V.int f,V.int c]) hz1;refine⟨g (.aE i),_,_,rfl,rfl,u1 _ _ afp,vY (by rw[ah,ML];lia),?_⟩;obtain⟨X9,st9⟩:=zE (X8.mono u1) Y (d:=.hand f c) (cN.of au);rw[<- eW Y] at X9;exact GZ _ _ ⟨_,_,X9,(UH.trans Za).trans ((Step.refl' (F:=F) u1).trans st9),rfl⟩
  ·rintro σ H7 ⟨q7,v9,U,UH,rfl⟩
   refine L _ _ ?_;rw[ah,fP] at U;have b7:Bd ns.length rs.length (D+1+1*n.length) (n.foldl (lD i f) m):=A7 (λ_=>True) _ _ _ (λs x D _ _ b=>⟨trivial,MG b⟩) trivial B;have f7:Fr m (n.foldl (lD i f) m):=yO (λ_ _=>G0) _ _;have hjt:n.length<=20:=by
    have:=W.2
    have:=B.vX
    lia
   have N7:=N1.done (afo.trans UH) U.c7;obtain⟨l7,UN,_⟩:=f7.lt i _ Fk;have afq:=f7.ok Uw;have hO7:gk (oU ns rs o (n.foldl (lD i f) m).ws l.grp) ((n.foldl (lD i f) m).R l.grp) os:=by rw[f7.ws,f7.R];exact hO
   generalize n.foldl (lD i f) m=A at U b7 UN N7 k1 afq hO7;refine⟨_,rfl,tq,_,1,_,rfl,rfl,cN.of (UH.kp _ _ htq nq),rfl,b2,rfl,⟨_,bS.of (UH.kp _ _ hb2 n2)⟩,wo (K:=K) (a:=b2) (xs:=bw M) (λj σ H8=>∃(F8:Addr->Prop) (Z:Option V),NW K (nc t) t.bh H8 F8 p tp ln lr ns rs ((M.take j).foldl (uf rs i f) A)/\Step H6 F H8 F8/\σ=[some (.ref p),some (.int i),some (.int f),some (Ey (S.map λk:Nat=>(k:Int))),some (.ref (g (.bZ i))),some (.int l.grp),some (.ref lo),some (.ref lh),some (.ref tq),v9,Z]) ⟨F,none,N7,UH,rfl⟩ (λj σ H8 _ z=>?_) ?_ ?_⟩
   ·obtain⟨F8,Z,N8,Za,rfl⟩:=z
    exact bS.of (Za.kp _ _ hb2 n2)
   ·rintro j y σ H8 Nf GZ hj ⟨F8,Z,N8,Za,rfl⟩
    have C:j<M.length:=by
     have:=(ai.mp hj).1
     rw[ah] at this;exact this
    rw[aj,aa C] at hj;cases hj;rw[Lj C] at GZ;have hgl:∀r∈M,r<rs.length:=λr hr=>(Fj hO7 (G.1 r hr)).1;have f8:Fr A ((M.take j).foldl (uf rs i f) A):=yO (λ_ _=>G1) _ _;have b8:Bd ns.length rs.length (D+1+1*n.length+2*(M.take j).length) ((M.take j).foldl (uf rs i f) A):=A7 (λs=>i<s.ls.length) _ _ _ (λs x D hx hi b=>⟨by
     obtain⟨l',e,_⟩:=(G1 (rs:=rs) (h:=f) (i:=i) (r:=x) (s:=s)).lt i _ (aa hi);exact (ai.mp e).1,Sx o b hi (hgl x (List.mem_of_mem_take hx))⟩) (ai.mp UN).1 b7
    have am8:(M.take j).length<=12:=by
     rw[bV]
     have:=G.2
     lia
    obtain⟨hrl,J,hw,hwn⟩:=Fj hO7 (G.1 _ (aK C));rw[<- f8.ws] at hw;obtain⟨l8,Y,_⟩:=f8.lt i _ UN;have afr:=f8.ok afq;generalize (M.take j).foldl (uf rs i f) A=s8 at N8 b8 Y hw afr GZ;show gU 10 (V.int ((M[j]:Nat):Int)) _ _ _;generalize M[j]=r at hrl hw GZ;obtain⟨am9,dx8,q8,wh,O8,hF8,hT8⟩:=id N8.c7;have aaE:=O8.get .c7 _ rfl;rw[wh] at aaE;have hdl:=(b8.lb l8 (aG Y)).1;have v:=b8.cb;have hwl:pI l8%J.length<J.length:=Nat.mod_lt _ (List.length_pos_iff.mpr hwn);have hwx:J[(((pI l8:Nat):Int)%(J.length:Int)).toNat]?=some J[pI l8%J.length]:=by
     rw[show (((pI l8:Nat):Int)%(J.length:Int))=((pI l8%J.length:Nat):Int) from rfl,f6];exact aa hwl
    have Y8:=aa hrl;refine⟨_,rfl,p,_,_,rfl,aaE,rfl,_,rfl,_,rfl,_,rfl,F8,p,tp,ln,lr,ns,rs,s8,i,f,r,l8,rs[r],J,_,rfl,N8,o,afr,Y,∅,∅,Y8,hw,hwx,hwn,λF9 H9 N9 st9=>?_⟩;refine GZ _ _ ⟨F9,_,?_,Za.trans st9,rfl⟩;have e1:ue s8.ws r (Uu s8 i)=J[pI l8%J.length]:=by
     unfold ue Uu;rw[hw,Y];show J.getD (pI l8%J.length) 0=_;rw[ak,aa hwl];rfl
    have e2:gv rs r f=fL rs[r] f:=by
     unfold gv;rw[Y8]
    unfold uf;rw[e1,e2];exact N9
   ·rintro σ H8 ⟨F8,Z,N8,Za,rfl⟩
    rw[ah,fP] at N8;exact k1 F8 H8 hO h12 N8 (afo.trans Za)
theorem acN{a b:TS}{D:Ends}{c:L2.St}{H:Hp}(J:L2.St->Hp->Prop)(d:∀c H,J c H->b D c H)(h:∀N:L2.St->Hp->Prop,(∀c H,J c H->N c H)->a {D with nx:=N} c H):UW a b D c H:=h _ d
inductive Sz(C:Addr)(vs:List V)(H:Hp)(Q:VK)(E:XK):Prop
 |mk (p dx la:Addr) (g:Int):vs=[.ref p,.ref la,.int g]->H p=some (.ins C dx [])->(∀da ea H',H da=none->H ea=none->da≠ea->H' p=some (.ins C dx [("letter",.ref la),("group",.int g),("old",.bl false),("done_at",.ref da),("deeds",.ref ea)])->H' da=some (.dK [])->H' ea=some (.lst [])->(∀b o,H b=some o->b≠p->H' b=some o)->Q .fk H')->Sz C vs H Q E
theorem Fl{t:Ad}(T:Txt K mg t):ck P w K mg base iC 1 t.jo t.lR ["self","letter","group"]  (Sz t.jv):=by
 refine T.yU.F.jE EL λH Q E u h=>?_
 ·obtain⟨p,j,s,g,rfl,r,k⟩:=h
  refine⟨_,(ao (fJ (pv 0) (pv 1) rfl) (ao (fJ (pv 0) (pv 2) rfl) (ao (fJ (pv 0) MP rfl) (ao (fJ (pv 0) Vv rfl) (bA (fJ (pv 0) (gE gf) rfl)))))),?_⟩
  left
  refine⟨_,rfl,_,rfl,p,_,j,_,rfl,r,T.dB,T.gW,(!_),?_⟩;rw[dH (names:=[]) rfl rfl];refine⟨_,rfl,_,rfl,p,_,j,_,rfl,au,T.dB,T.j6,(by show 1<1000;decide),?_⟩;rw[dH (names:=["letter"]) rfl (by decide +kernel),Lo];refine⟨_,rfl,p,_,j,_,rfl,au,T.dB,T.yk,(by show 2<1000;decide),?_⟩;rw[dH (names:=["letter","group"]) rfl (by decide +kernel),Lo];intro i a;have d:H i=none:=by
   by_cases z:i=p
   ·subst z;rw[au] at a;cases a
   ·rw[aC z] at a;exact a
  have n:p≠i:=aJ r d;refine⟨_,rfl,p,_,j,_,rfl,(by rw[aC n];exact au),T.dB,T.oZ,(by show 3<1000;decide),?_⟩;rw[dH (names:=["letter","group","old"]) rfl (by decide +kernel)];refine⟨aR _,λm c=>?_⟩;have l:m≠p:=λz=>by subst z;rw[au] at c;cases c
  rw[aC l] at c;have f:i≠m:=λz=>by subst z;rw[au] at c;cases c
  rw[aC (bM f),aC l] at c;refine⟨_,rfl,p,_,j,_,rfl,(by rw[aC (bM l)];exact au),T.dB,T.iU,(by show 4<1000;decide),?_⟩;rw[dH (names:=["letter","group","old","done_at"]) rfl (by decide +kernel)];refine k i m _ d c f au ?_ ?_ λb o e q=>?_
  ·rw[aC (bM n),aC f,aC (bM n)];exact au
  ·rw[aC l];exact au
  ·rw[aC q,aC (aJ e c),aC q,aC (aJ e d),aC q];exact e
noncomputable def lE(s:NS)(x:Nat)(to:Option Nat):LS:={s:=x,to:=to.getD 0,kd:=if to.isSome=true then 1 else 2,grp:=s.groups.getD x 0,old:=false,done:=[],aE:=[]}
noncomputable def Lk(s:NS)(l:LS):NS:={s with ls:=s.ls++[l]}
noncomputable def rH(s:NS)(x:Nat)(to:Option Nat):NS:={s with ls:=s.ls++[{lE s x to with aE:=[.post (s.aM.getD x 0)]}]}
noncomputable def uP(rs:List R5)(s:NS)(x:Nat)(to:Option Nat)(os:List Nat):NS:=Uv rs (rH s x to) s.ls.length (s.aM.getD x 0) {lE s x to with aE:=[.post (s.aM.getD x 0)]} none os
theorem Uy{s:NS}{x:Nat}{to:Option Nat}:dc (Lk s (lE s x to)) s.ls.length (.post (s.aM.getD x 0))=rH s x to:=by
 rw[eW (l:=lE s x to) (by show (s.ls++[_])[s.ls.length]?=_;rw[cu (av _),gz];rfl)];show {s with ls:=(s.ls++[_]).set s.ls.length _}={s with ls:=_};congr 1;rw[vZ _ _ (av _),gz];rfl
theorem r9{s:NS}{l:LS}:(s.ls++[l])[s.ls.length]?=some l:=by rw[cu (av _),gz];rfl
theorem SA{n m D:Nat}{s:NS}{x:Nat}{to:Option Nat}(b:Bd n m D s)(g:x<s.aM.length):Bd n m (D+1) (rH s x to):=by
 have a:=b.mono (dD D);refine⟨a.gl,a.vX,a.g3,a.hm,a.hl,a.hb,?_,λl z=>?_,a.cb,λc z=>?_,a.tb⟩
 ·show (s.ls++[_]).length<=_
  rw[ay];exact jJ b.ll 1
 ·rcases bG.mp z with y|y
  ·exact a.lb l y
  ·rw[aS] at y
   subst y;refine⟨?_,aR _,?_,?_⟩
   ·show 1+s.cps.length<=D+1
    have:=b.cb
    lia
   ·show s.groups.getD x 0<3
    have d:x<s.groups.length:=by rw[b.gl];exact g
    rw[ak,aa d];exact b.g3 _ (aK d)
   ·show (if _ then (1:Int) else 2)=1∨(if _ then (1:Int) else 2)=2
    split
    ·exact .inl rfl
    ·exact .inr rfl
 ·obtain⟨f,e⟩:=b.cl c z
  refine⟨?_,e⟩;show c.l<(s.ls++[_]).length;rw[ay];exact bI f (gV _ _)
inductive SE(K:af)(CT:Addr)(c:NC)(vs:List V)(H:Hp)(Q:VK)(E:XK):Prop
 |mk (F:Addr->Prop) (p tp ln lr:Addr) (ns:List Int) (rs:List R5) (s:NS) (o:cE ns rs) (x:Nat) (to:Option Nat) (D:Nat):vs=[.ref p,.int x,Ey (to.map λy:Nat=>(y:Int))]->NW K c CT H F p tp ln lr ns rs s->Bf ns rs s->Bd ns.length rs.length D s->D<=800000->x<s.aM.length->(∀y,to=some y->y<s.aM.length/\s.groups[y]?=s.groups[x]?)->(∀os F' H',gk (oU ns rs o s.ws (s.groups.getD x 0)) (s.R (s.groups.getD x 0)) os->os.length<=12->NW K c CT H' F' p tp ln lr ns rs (uP rs s x to os)->Step H F H' F'->Q (.int s.ls.length) H')->SE K CT c vs H Q E
theorem OW{t:Ad}(T:Txt K mg t):ck P w K mg base iC 8 t.jc t.yf ["self","sender","to"]  (SE K t.bh (nc t)):=by
 refine T.tF.jE uA λH Q E X h=>?_
 ·obtain⟨F,p,tp,ln,lr,ns,rs,st,o,x,c,D,rfl,N,AJ,bd,hD,hx,hto,k⟩:=h
  refine⟨_,(ao (dS (cM (pv 0) T.bK T.wR (D0 T) X (mP (pv 1) (pv 2)))) (ao (sS 3 uA (zm (qT Va (pv 2) mY) (Rn T.YG (w6 T) (X.mono (!_)) rfl T.YF T.qM.B .nil mK (gj (pv 1))) (cI T.zZ (GH T) X T.YE (mP (pv 1) (pv 2))))) (ao (sS 4 uA (lS T.gm (aU (pv 0) rfl))) (ao (dS (rE br bF bE eX (aU (pv 0) rfl) (gj (cI T.yU (Fl T) X T.Wn (mP (pv 3) (xL (aU (pv 0) rfl) (pv 1))))))) (ao (sS 5 uA (xL (aU (pv 0) rfl) (pv 1))) (ao (dS (rE br bF bE eX (aU (xL (aU (pv 0) rfl) (pv 4)) rfl) (gj (gD (mP qz (pv 5)))))) (ao (dS (cM (pv 0) T.bK T.qN (xo T) X (KP (pv 4) (pv 5) mY))) (oR (pv 4))))))))),?_⟩
  left
  obtain⟨j,dx,q,hp,O,hF,hT⟩:=id N.c7;have b5:=O.get .c7 _ rfl;rw[hp] at b5;have WV:x<st.groups.length:=by rw[bd.gl];exact hx
  refine bW λZ n=>?_;refine⟨_,rfl,p,_,_,rfl,b5,rfl,_,rfl,_,rfl,F,p,tp,ns.length,x,c,st,rfl,N.c7,hx,bd.gl,hto,n _ _ ?_⟩;refine acN (λσ r=>∃la LR,aD H r/\H la=none/\r la=some (rM (nc t) LR (lE st x c))/\σ=[some (.ref p),some (.int x),some (Ey (c.map λy:Nat=>(y:Int))),some (.ref la),none,none]) ?_ (λN hN=>?_)
  rotate_left
  ·cases c with
   |none =>
    refine⟨_,rfl,rfl,_,rfl,fK ?_⟩;refine⟨_,rfl,λz dz S M G=>⟨z,_,dz,x,rfl,au,T.yj,T.oj,rfl,?_⟩⟩;exact hN _ _ ⟨z,dz,made S M G,S,au,rfl⟩
   |some y =>
    refine⟨_,rfl,rfl,_,rfl,eG ?_⟩;refine⟨_,rfl,_,rfl,λz dz S M G=>⟨z,dz,x,y,rfl,au,λH3 hy3 kp=>⟨rfl,?_⟩⟩⟩;exact hN _ _ ⟨z,dz,λb u e=>kp b u (((aD.new M).trans (aD.new (by rw[aC (bM G)];exact S))) b u e) (aJ e S),S,hy3,rfl⟩
  rintro σ r ⟨la,LR,s,Y,hla,rfl⟩;have fY:=s _ _ b5;have N1:=N.mono s;obtain⟨O1,T1⟩:=And.intro (O.mono s) (hT.mono λb x=>s.dj (a:=b) (xs:=x));have Zb:=O1.get .cO _ rfl;refine bW λZ n=>?_;refine⟨_,rfl,p,_,_,_,_,rfl,fY,T.bK,T.fC,rfl,j .cO,_,rfl,.inl (bS.of Zb),?_⟩;rw[ah,bx];refine n _ _ ?_;refine bW λZ n=>?_;refine⟨_,rfl,p,_,_,_,_,rfl,fY,T.bK,T.fC,rfl,.inl ⟨rfl,_,bS.of Zb⟩,_,rfl,_,rfl,p,_,_,_,_,rfl,fY,T.bK,T.kC,rfl,_,rfl,j .groups,_,_,_,rfl,rfl,bS.of (O1.get .groups _ rfl),nj WV,λpa Ed f Zc Zd=>⟨pa,Ed,la,_,rfl,au,λda ea H2 R Ux nde h2p h2d h2e JG=>⟨rfl,?_⟩⟩⟩;have m:aD r H2:=λb u e=>JG b u (((aD.new Zc).trans (aD.new (by rw[aC (bM Zd)];exact f))) b u e) (aJ e f);have C:r da=none:=by
   cases e:r da with
   |none=>rfl
   |some u =>
    have:=((aD.new (o:=.own pa) Zc).trans (aD.new (o:=.ins t.jv Ed []) (by rw[aC (bM Zd)];exact f))) _ _ e
    rw[R] at this;cases this
  have L:r ea=none:=by
   cases e:r ea with
   |none=>rfl
   |some u =>
    have:=((aD.new (o:=.own pa) Zc).trans (aD.new (o:=.ins t.jv Ed []) (by rw[aC (bM Zd)];exact f))) _ _ e
    rw[Ux] at this;cases this
  have nF:∀{b},r b=none->¬F b:=λ{b} e z=>by
   obtain⟨u,e'⟩:=N1.c7.there z;rw[e] at e';cases e'
  have nFl:¬F la:=λz=>by
   obtain⟨u,e'⟩:=N.c7.there z;rw[Y] at e';cases e'
  have npd:pa≠da:=λz=>by rw[<- z,au] at R;cases R
  have npe:pa≠ea:=λz=>by rw[<- z,au] at Ux;cases Ux
  have A:∀{b},r b=none->la≠b:=λ{b} e=>aJ hla e;have eg:st.groups.getD x 0=st.groups[x]:=by rw[ak,aa WV];rfl
  have afs:=m _ _ Zb;refine⟨j .cO,_,_,rfl,rfl,afs,vY (by rw[ah,bx];have:=bd.ll;lia),?_⟩;obtain⟨F3,N3,ry,fr3⟩:=V9 (l:=lE st x c) (Ed:=Ed) (LR:=LR) (pa:=pa) (la:=la) (da:=da) (ea:=ea) hp (O1.mono m) hF (T1.mono λb x=>m.dj (a:=b) (xs:=x)) rfl (by show _=some (HO.ins _ _ [_,(_,V.int ((st.groups.getD x 0:Nat):Int)),_,_,_]);rw[eg];exact h2p) (m _ _ hla) h2d h2e (bM (A f)) npd npe (A C) (A L) nde (nF f) nFl (nF C) (nF L);have v:Step H F _ F3:=⟨λb u e z=>ry b u (m _ _ (s _ _ e)) z,λb z=>by
   rcases fr3 b z with y|rfl|rfl|rfl|rfl
   ·exact .inl y
   ·exact .inr (s.free f)
   ·exact .inr Y
   ·exact .inr (s.free C)
   ·exact .inr (s.free L)⟩
  have W3:=N.done v N3;generalize upd H2 (j .cO) (.lst (((aq st.ls.length).map λi=>V.ref (j (.bZ i)))++[.ref pa]))=H3 at v W3 N3;refine n _ _ ?_;obtain⟨J,R9,q3,W,U,hF3,hT3⟩:=id W3.c7;have X3:jA K (nc t) H3 F3 J R9 q3 p tp ns.length (Lk st (lE st x c)):=⟨W,U,hF3,hT3⟩;have zf:=U.get .c7 _ rfl;rw[W] at zf;have g:(Lk st (lE st x c)).ls[st.ls.length]?=some (lE st x c):=r9;have Ze:st.ls.length<(Lk st (lE st x c)).ls.length:=(ai.mp g).1;have eh:st.aM.getD x 0=st.aM[x]:=by rw[ak,aa hx];rfl
  refine bW λZ n=>?_;refine⟨_,rfl,p,_,_,_,_,rfl,zf,T.bK,T.j8,rfl,_,rfl,J .aM,_,_,_,rfl,rfl,bS.of (U.get .aM _ rfl),nj hx,n _ _ ?_⟩;have WW:=U.get (.bZ st.ls.length) (nv (nc t) R9 J st.ls.length (lE st x c)) (by show ((Lk st (lE st x c)).ls[st.ls.length]?.map _)=_;rw[g];rfl);have aft:=U.get (.aE st.ls.length) (.lst ((q3.dq st.ls.length).map V.ref)) (by show ((Lk st (lE st x c)).ls[st.ls.length]?.map _)=_;rw[g];rfl);have ML:=(X3.tup.aE _ _ g).len;rw[ah] at ML;refine bW λZ n=>?_;refine⟨_,rfl,p,_,_,_,_,rfl,zf,T.bK,T.fC,rfl,_,rfl,J .cO,_,_,_,rfl,rfl,bS.of (U.get .cO _ rfl),qC Ze,J (.bZ st.ls.length),_,_,_,_,rfl,WW,T.dB,T.iU,rfl,.inl ⟨rfl,_,bS.of aft⟩,_,rfl,fO,λz1 hz1=>?_⟩;have u1:=aD.new (o:=.tup [V.str "post",V.int (st.aM[x]:Nat)]) hz1;refine⟨J (.aE st.ls.length),_,_,rfl,rfl,u1 _ _ aft,vY (by rw[ah,ML];exact aR _),?_⟩;obtain⟨X4,GP⟩:=zE (X3.mono u1) g (d:=.post st.aM[x]) (cN.of au);rw[<- eW g,<- eh,Uy] at X4;rw[<- eh] at GP u1;rw[<- eh];have I:=v.trans ((Step.refl' (F:=F3) u1).trans GP);have W4:=N.done I X4.c7;generalize upd (upd H3 z1 (.tup [V.str "post",V.int (st.aM.getD x 0:Nat)])) (J (.aE st.ls.length)) (.lst ((q3.dq st.ls.length).map V.ref++[.ref z1]))=H4 at X4 I W4;refine n _ _ ?_;have AK:=X4.own.get .c7 _ rfl;rw[X4.hp] at AK;have acS:Bf ns rs (rH st x c):=⟨AJ.wl,AJ.w4,AJ.fit⟩;refine bW λZ n=>?_;refine⟨_,rfl,p,_,_,rfl,AK,rfl,_,rfl,_,rfl,F3,p,tp,ln,lr,ns,rs,rH st x c,o,st.ls.length,st.aM.getD x 0,none,{lE st x c with aE:=[.post (st.aM.getD x 0)]},D+1,rfl,W4,acS,SA bd hx,∅,r9,λos F5 H5 hO h12 W5 MI=>?_⟩;exact n _ _ ⟨_,rfl,k os F5 H5 hO h12 W5 (I.trans MI)⟩
theorem aaF{ns:List Int}{rs:List R5}(o:cE ns rs){D:Nat}{s:NS}{i h:Nat}{l:LS}{cj:Option Nat}{os:List Nat}(b:Bd ns.length rs.length D s)(hl:s.ls[i]?=some l)(O:gk (oU ns rs o s.ws l.grp) (s.R l.grp) os)(j:os.length<=12):Bd ns.length rs.length (D+45) (Uv rs s i h l cj os):=by
 have g:=Sw (h:=h) b hl;have f1:=MF (h:=h) hl;have q:Bd ns.length rs.length (D+1+1*(oA s l h).length) ((oA s l h).foldl (lD i h) (eE s i h l)):=A7 (λ_=>True) _ _ _ (λs x D _ _ b=>⟨trivial,MG b⟩) trivial g;have n:Fr (eE s i h l) ((oA s l h).foldl (lD i h) (eE s i h l)):=yO (λ_ _=>G0) _ _;obtain⟨w,a,_⟩:=(f1.trans n).lt i l hl;have y:=(OV (s:=s) (l:=l) (h:=h)).2;have t:=b.vX;have c:=Sy (rs:=rs) (s:=s) (l:=l) (h:=h) (cj:=cj) (os:=os);have v:=c.2;have m:=A7 (k:=2) (f:=uf rs i h) (λs=>i<s.ls.length) (Jr rs s l h cj os) _ _ (λs x D p d b=>⟨by
  obtain⟨u,e,_⟩:=(G1 (rs:=rs) (h:=h) (i:=i) (r:=x) (s:=s)).lt i _ (aa d);exact (ai.mp e).1,Sx o b d (Fj O (c.1 x p)).1⟩) (ai.mp a).1 q
 exact m.mono ∅
noncomputable def BK(l:LS)(cp:Cp)(os:List Nat):Str:=if cp.r∈os then (if D4 l cp.h=true then "twice" else "come") else "lost"
noncomputable def iw(l:LS)(cp:Cp)(os:List Nat):sD:=if cp.r∈os then (if D4 l cp.h=true then .twice cp.h cp.r else .aex cp.h cp.r) else .V3 cp.h cp.r
theorem Zf{l:LS}{cp:Cp}{os:List Nat}:(iw l cp os).vs=[.str (BK l cp os),.int cp.h,.int cp.r]:=by
 unfold iw BK;split
 ·split <;> rfl
 ·rfl
noncomputable def comes(l:LS)(cp:Cp)(os:List Nat):Bool:=decide (cp.r∈os)&&!D4 l cp.h
theorem Uz{l:LS}{cp:Cp}{os:List Nat}:decide (V.str (BK l cp os)=V.str "come")=comes l cp os:=by
 unfold BK comes;by_cases e:cp.r∈os
 ·rw[ee e,e8 e]
  cases D4 l cp.h
  ·rw[eH (!_)];decide +kernel
  ·rw[ee rfl];decide +kernel
 ·rw[eH e,ff e,Bool.false_and];decide +kernel
noncomputable def OX(s:NS)(a:Nat):NS:={s with cps:=s.cps.eraseIdx a}
noncomputable def SG(s:NS)(g:Nat)(ts:List T3):NS:={s with ts:=fM s.ts g ts}
noncomputable def p5(s:NS)(a:Nat)(cp:Cp)(l:LS)(os:List Nat):NS:={s with cps:=s.cps.eraseIdx a,ls:=s.ls.set cp.l {l with aE:=l.aE++[iw l cp os]}}
noncomputable def b9(s:NS)(a:Nat)(cp:Cp)(l:LS)(os:List Nat)(ts:List T3):NS:=if l.old=true then p5 s a cp l os else SG (p5 s a cp l os) l.grp ts
noncomputable def lF(rs:List R5)(s:NS)(a:Nat)(cp:Cp)(l:LS)(os:List Nat)(ts:List T3):NS :=
 if comes l cp os=true then Uv rs (b9 s a cp l os ts) cp.l cp.h {l with aE:=l.aE++[iw l cp os]} (some cp.r) os else p5 s a cp l os
theorem Fq{n m D:Nat}{s:NS}{a:Nat}{cp:Cp}{l:LS}{os:List Nat}(b:Bd n m D s)(hl:s.ls[cp.l]?=some l)(d:a<s.cps.length):Bd n m (D+1) (p5 s a cp l os):=by
 have e:(s.cps.eraseIdx a).length+1=s.cps.length:=by
  rw[List.length_eraseIdx,ee d];lia
 refine b.set 1 hl ∅ (.inl ∅) (av _) ?_ (dD _) rfl rfl (λc z=>.inl (List.mem_of_mem_eraseIdx z)) rfl (λw z=>jM (b.hb w z));show (l.aE++[_]).length+_<=_;rw[ay];show l.aE.length+1+_<=_;lia
theorem OY{ts a:List T3}{h c r:Int}(p:a.Perm (put3 ts h c r)):a.length<=ts.length+1:=by
 rw[p.length_eq];unfold put3;rw[ay];exact jJ (bB _ _) 1
theorem Zg{n m D:Nat}{s:NS}{g:Nat}{ts:List T3}{h c r:Int}(b:Bd n m D s)(p:ts.Perm (put3 (s.ts g) h c r))(e:gh ts):Bd n m (D+50) (SG s g ts):=by
 have a:=b.mono (gV D 50);refine⟨a.gl,a.vX,a.g3,a.hm,a.hl,a.hb,a.ll,a.lb,a.cb,a.cl,λd=>?_⟩;show 50*(fM s.ts g ts d).length<=_/\gh (fM s.ts g ts d);by_cases z:d=g
 ·subst z
  rw[cz];refine⟨?_,e⟩
  have:=OY p
  have:=(b.tb d).1
  lia
 ·rw[dN z]
  exact a.tb d
theorem Ft{s:NS}{a:Nat}{cp:Cp}{l:LS}{os:List Nat}(hl:s.ls[cp.l]?=some l):(p5 s a cp l os).ls[cp.l]?=some {l with aE:=l.aE++[iw l cp os]}:=by
 show (s.ls.set cp.l _)[cp.l]?=_;rw[gi (ai.mp hl).1,ee rfl]
theorem ug{s:NS}{a:Nat}{cp:Cp}{l:LS}{os:List Nat}{ts:List T3}(hl:s.ls[cp.l]?=some l):(b9 s a cp l os ts).ls[cp.l]?=some {l with aE:=l.aE++[iw l cp os]}:=by
 unfold b9;split
 ·exact Ft hl
 ·exact Ft (a:=a) hl
theorem D6{s:NS}{a:Nat}{cp:Cp}{l:LS}{os:List Nat}{ts:List T3}:(b9 s a cp l os ts).ws=s.ws/\(b9 s a cp l os ts).R=s.R/\(b9 s a cp l os ts).aM=s.aM/\(b9 s a cp l os ts).groups=s.groups:=by
 unfold b9;split <;> exact⟨rfl,rfl,rfl,rfl⟩
theorem OZ{n m D:Nat}{s:NS}{a:Nat}{cp:Cp}{l:LS}{os:List Nat}{ts:List T3}{h c r:Int}(b:Bd n m D s)(hl:s.ls[cp.l]?=some l)(d:a<s.cps.length)(p:ts.Perm (put3 (s.ts l.grp) h c r))(e:gh ts):Bd n m (D+51) (b9 s a cp l os ts):=by
 unfold b9;split
 ·exact (Fq b hl d).mono ∅
 ·exact (Zg (h:=h) (c:=c) (r:=r) (Fq b hl d) p e).mono ∅
theorem Zh{ns:List Int}{rs:List R5}(o:cE ns rs){D:Nat}{s:NS}{a:Nat}{cp:Cp}{l:LS}{os:List Nat}{ts:List T3}{h c r:Int}(b:Bd ns.length rs.length D s)(hl:s.ls[cp.l]?=some l)(f:a<s.cps.length)(O:gk (oU ns rs o s.ws l.grp) (s.R l.grp) os)(d:os.length<=12)(p:ts.Perm (put3 (s.ts l.grp) h c r))(g:gh ts):Bd ns.length rs.length (D+100) (lF rs s a cp l os ts):=by
 unfold lF;split
 ·have e:=D6 (s:=s) (a:=a) (cp:=cp) (l:=l) (os:=os) (ts:=ts)
  exact (aaF o (OZ (h:=h) (c:=c) (r:=r) b hl f p g) (ug hl) (by rw[e.1,e.2.1];exact O) d).mono ∅
 ·exact (Fq b hl f).mono ∅
theorem _root_.TW.dI.erase{H:Hp}{qs:List Addr}{xs:List (List V)}(h:dI K H qs xs)(a:Nat):dI K H (qs.eraseIdx a) (xs.eraseIdx a):=by
 refine⟨by rw[List.length_eraseIdx,List.length_eraseIdx,h.len],λi q x c b=>?_⟩;rw[List.getElem?_eraseIdx] at c b;by_cases z:i<a
 ·rw[ee z] at c b
  exact h.at' i q x c b
 ·rw[eH z] at c b
  exact h.at' (i+1) q x c b
theorem Fv{b c:Type}(f:b->c):∀(xs:List b) (a:Nat),(xs.map f).eraseIdx a=(xs.eraseIdx a).map f
 |[],_=>rfl
 |_::_,0=>rfl
 |x::xs,a+1=>fy (f x::·) (Fv f xs a)
theorem WX{c:NC}{H d:Hp}{F:Addr->Prop}{a m:Role->Addr}{q:TQ}{p i:Addr}{n g:Nat}{s:NS}(X:jA K c H F a m q p i n s)(f:g<3)(ts:List T3)(w:d (a (.eZ g))=some (.dT (ts.map iZ)))(v:∀b o,H b=some o->b≠a (.eZ g)->d b=some o) :
 jA K c d F a m q p i n (SG s g ts)/\Step H F d F:=by
 obtain⟨y,h⟩:=xH X (r:=.eZ g) (o:=.dT (ts.map iZ)) (q':=q) (s':=SG s g ts) (by show (if g<3 then some _ else none)≠none;rw[ee f];exact aP _) (λx=>by
  cases x <;> first|rfl|skip
  rename_i k;show ie (desc c m i a q s) (.eZ g) _ (.eZ k)=(if k<3 then some (HO.dT ((fM s.ts g ts k).map iZ)) else none);by_cases z:k=g
  ·subst z
   rw[dG,ee f,cz]
  ·rw[cD (λe=>z (by cases e;rfl)),dN z]
   rfl) (λj=>⟨λg f=>(X.tup.rows g f).mono j,λk l e=>(X.tup.aE k l e).mono j,X.tup.cps.mono j⟩)
 have t:aD (upd H (a (.eZ g)) (.dT (ts.map iZ))) d:=λb u e=>by
  by_cases z:b=a (.eZ g)
  ·rw[z,au] at e
   cases e;rw[z];exact w
  ·rw[aC z] at e
   exact v b u e z
 exact⟨y.mono t,h.trans (Step.refl' t)⟩
theorem Zi{t:Ad}(T:Txt K mg t){b a:Role->Addr}{f:L2.St}{H:Hp}{Q:VK}{i:Nat}{l:LS}(h:∀Q:VK,Q (.ref (a (.bZ i))) H->Lr 6 f H Q)(g:H (a (.bZ i))=some (nv (nc t) b a i l))(c:H (a (.letter i))=some (rM (nc t) (b (.letter i)) l))(q:Q (.int l.s) H) :
 G8 K (G8 K (Lr 6) (Str.ofString "letter")) (Str.ofString "sender") f H Q:=by
 by_cases e:l.kd=1
 ·have d:H (a (.letter i))=some (.ins t.fT (b (.letter i)) [("sender",.int l.s),("to",.int l.to)]):=by rw[c];unfold rM;rw[ee e]
  unfold G8;exact (h _ ⟨a (.bZ i),_,_,_,_,rfl,g,T.dB,T.gW,rfl,a (.letter i),_,b (.letter i),_,_,rfl,d,T.pY,T.tG,rfl,q⟩)
 ·have d:H (a (.letter i))=some (.ins t.jd (b (.letter i)) [("sender",.int l.s)]):=by rw[c];unfold rM;rw[eH e]
  unfold G8;exact (h _ ⟨a (.bZ i),_,_,_,_,rfl,g,T.dB,T.gW,rfl,a (.letter i),_,b (.letter i),_,_,rfl,d,T.yj,T.oj,rfl,q⟩)
inductive SH(K:af)(CT:Addr)(c:NC)(vs:List V)(H:Hp)(Q:VK)(E:XK):Prop
 |mk (F:Addr->Prop) (p tp ln lr:Addr) (ns:List Int) (rs:List R5) (s:NS) (o:cE ns rs) (a D:Nat) (cp:Cp) (l:LS):vs=[.ref p,.int a]->NW K c CT H F p tp ln lr ns rs s->Bf ns rs s->Bd ns.length rs.length D s->D<=400000->s.cps[a]?=some cp->s.ls[cp.l]?=some l->(∀os ts F' H',gk (oU ns rs o s.ws l.grp) (s.R l.grp) os->os.length<=12->ts.Perm (put3 (s.ts l.grp) cp.h l.s cp.r)->gh ts->NW K c CT H' F' p tp ln lr ns rs (lF rs s a cp l os ts)->Step H F H' F'->Q (.str (BK l cp os)) H')->SH K CT c vs H Q E
theorem Js{t:Ad}(T:Txt K mg t):ck P w K mg base iC 8 t.fB t.pW ["self","at"]  (SH K t.bh (nc t)):=by
 refine T.lz.jE gG λH Q E hr h=>?_
 ·obtain⟨F,p,U,ln,lr,ns,v,st,o,a,D,cp,l,rfl,N,C,I,hD,hcp,g,k⟩:=h
  refine⟨_,(ao (cy (iL (jj p7 oH az (pv 1) (lS T.gm (aU (pv 0) rfl)))) dZ bz) (ao (sS 2 gG (rE br PySem.F.slot_list_pop PySem.F.type_list_pop Vr (aU (pv 0) rfl) (gj (pv 1)))) (ao (sS 3 gG (xT (pv 2) az)) (ao (sS 4 gG (xT (pv 2) az)) (ao (sS 5 gG (xT (pv 2) az)) (ao (sS 6 gG (xL (aU (pv 0) rfl) (pv 3))) (ao (sS 7 gG (cM (pv 0) T.bK T.Bu (Jq T) hr (KP (pv 6) (pv 4) (pv 5)))) (ao (dS (rE br bF bE eX (aU (pv 6) rfl) (gj (gD (KP (pv 7) (pv 5) (pv 4)))))) (ao (cy (qT rD (pv 7) qz) (ao (cy (iL (mZ (aU (pv 6) rfl))) (oE (cM (xL (aU (pv 0) rfl) (aU (pv 6) rfl)) T.yl T.Du (J8 T) hr (KP (pv 5) (aU (aU (pv 6) rfl) rfl) (pv 4)))) bz) (oE (cM (pv 0) T.bK T.qN (xo T) hr (KP (pv 3) (pv 5) (pv 4))))) bz) (oR (pv 7))))))))))),?_⟩
  left
  obtain⟨b,A,q,hp,O,hF,hT⟩:=id N.c7;have X:jA K (nc t) H F b A q p U ns.length st:=⟨hp,O,hF,hT⟩;have b5:=O.get .c7 _ rfl;rw[hp] at b5;have hal:=(ai.mp hcp).1;have hil:=(ai.mp g).1;have hcb:=I.cb;obtain⟨lb1,lb2,M,lkd⟩:=I.lb l (aG g);obtain⟨ts,ets,u,B⟩:=Qp (h:=(cp.h:Int)) (c:=(l.s:Int)) (r:=(cp.r:Int)) (List.Perm.refl (st.ts l.grp)) (I.tb l.grp).2;have y:=O.get .eU _ rfl;have J:q.cq.length=st.cps.length:=by
   have z:=hT.cps.len;rw[ah] at z;exact z
  have L:a<q.cq.length:=∅
  refine bW λx f=>?_;refine⟨_,rfl,_,_,rfl,rfl,_,rfl,?_⟩;rw[e8 (show (0:Int)<=(a:Int) by lia)];refine fK ⟨_,rfl,p,_,_,_,_,rfl,b5,T.bK,T.jf,rfl,b .eU,_,rfl,.inl (bS.of y),_,_,rfl,rfl,_,rfl,?_⟩;rw[ah,J,e8 (show (a:Int)<(st.cps.length:Int) by lia)];refine eG (f _ _ ?_);refine bW λx f=>?_;refine⟨_,rfl,p,_,_,_,_,rfl,b5,T.bK,T.jf,rfl,.inl ⟨rfl,_,bS.of y⟩,_,rfl,b .eU,_,a,a,_,rfl,rfl,y,∅,∅,(Lz (by rw[ah,J];exact xE hal)).1,(by rw[aj,aa L];rfl),?_⟩;have htu:cN K H q.cq[a] cp.vs:=hT.cps.at' a _ _ (aa L) (by rw[aj,hcp];rfl);obtain⟨m,j⟩:=RO X (qs:=q.cq.eraseIdx a) (cps:=st.cps.eraseIdx a) (by rw[<- Fv];exact hT.cps.erase a);rw[Fv];have Y:cN K _ q.cq[a] cp.vs:=N.c7.tup j.kp htu;generalize upd H (b .eU) (.lst ((q.cq.eraseIdx a).map V.ref))=H1 at m j Y;generalize q.cq[a]=qa at Y;refine f _ _ ?_;have es:{st with cps:=st.cps.eraseIdx a}=OX st a:=rfl;rw[es] at m;have Fk:(OX st a).ls[cp.l]?=some l:=g;have N1:=N.done j m.c7;have fY:=m.own.get .c7 _ rfl;rw[m.hp] at fY;have afv:=m.own.get (.bZ cp.l) (nv (nc t) A b cp.l l) (by show ((OX st a).ls[cp.l]?.map _)=_;rw[Fk];rfl);refine bW λx f=>?_;refine⟨_,rfl,qa,_,0,_,rfl,rfl,Y,rfl,f _ _ ?_⟩;refine bW λx f=>?_;refine⟨_,rfl,qa,_,1,_,rfl,rfl,Y,rfl,f _ _ ?_⟩;refine bW λx f=>?_;refine⟨_,rfl,qa,_,3,_,rfl,rfl,Y,rfl,f _ _ ?_⟩;refine bW λx f=>?_;refine⟨_,rfl,p,_,_,_,_,rfl,fY,T.bK,T.fC,rfl,_,rfl,b .cO,_,_,_,rfl,rfl,bS.of (m.own.get .cO _ rfl),qC hil,f _ _ ?_⟩;have Uw:Bf ns v (OX st a):=⟨C.wl,C.w4,C.fit⟩;refine bW λx f=>?_;refine⟨_,rfl,p,_,_,rfl,fY,rfl,_,rfl,_,rfl,_,rfl,F,b,A,_,p,U,ln,lr,ns,v,OX st a,o,cp.l,cp.r,cp.h,l,rfl,m,N1,Uw,Fk,M,λos H2 s2 hO h12=>?_⟩;have ef:(if cp.r∈os then (if D4 l cp.h=true then "twice" else "come") else "lost" : Str)=BK l cp os:=rfl;rw[ef];refine f _ _ ?_;have k:=k os ts;have X2:=m.mono s2;have afw:=s2 _ _ afv;have Z:=X2.own.get (.aE cp.l) (.lst ((q.dq cp.l).map V.ref)) (by show ((OX st a).ls[cp.l]?.map _)=_;rw[Fk];rfl);have ML:=(X2.tup.aE cp.l _ Fk).len;rw[ah] at ML;have ML:(q.dq cp.l).length=l.aE.length:=ML;refine bW λx f=>?_;refine⟨_,rfl,b (.bZ cp.l),_,_,_,_,rfl,afw,T.dB,T.iU,rfl,.inl ⟨rfl,_,bS.of Z⟩,_,rfl,_,rfl,_,rfl,nu,λz1 hz1=>?_⟩;have u1:=aD.new (o:=.tup [V.str (BK l cp os),V.int cp.h,V.int cp.r]) hz1;refine⟨b (.aE cp.l),_,_,rfl,rfl,u1 _ _ Z,vY (by rw[ah,ML];lia),?_⟩;obtain⟨i,st3⟩:=zE (X2.mono u1) Fk (d:=iw l cp os) (by rw[Zf];exact cN.of au);have G:=(j.trans (Step.refl' (F:=F) (s2.trans u1))).trans st3;generalize upd (upd H2 z1 (.tup [V.str (BK l cp os),V.int cp.h,V.int cp.r])) (b (.aE cp.l)) (.lst ((q.dq cp.l).map V.ref++[.ref z1]))=H3 at i G;refine f _ _ ?_;have es:{OX st a with ls:=(OX st a).ls.set cp.l {l with aE:=l.aE++[iw l cp os]}}=p5 st a cp l os:=rfl;rw[es] at i;have zf:=i.own.get .c7 _ rfl;rw[i.hp] at zf;have Ze:=Ft (a:=a) (os:=os) g;have WW:=i.own.get (.bZ cp.l) (nv (nc t) A b cp.l {l with aE:=l.aE++[iw l cp os]}) (by show ((p5 st a cp l os).ls[cp.l]?.map _)=_;rw[Ze];rfl);have aiT:=i.own.get (.letter cp.l) (rM (nc t) (A (.letter cp.l)) {l with aE:=l.aE++[iw l cp os]}) (by show ((p5 st a cp l os).ls[cp.l]?.map _)=_;rw[Ze];rfl);have N3:=N.done G i.c7;refine⟨_,rfl,rfl,_,rfl,?_⟩;rw[Uz];by_cases e:comes l cp os=true
  ·have k:∀F' H',NW K (nc t) t.bh H' F' p U ln lr ns v (Uv v (b9 st a cp l os ts) cp.l cp.h {l with aE:=l.aE++[iw l cp os]} (some cp.r) os)->Step H F H' F'->Q (.str (BK l cp os)) H':=λF' H' W z=>k F' H' hO h12 u B (by unfold lF;rw[ee e];exact W) z
   rw[e];refine fK ?_;refine rK (λσ H4=>jA K (nc t) H4 F b A {q with cq:=q.cq.eraseIdx a,dq:=fM q.dq cp.l (q.dq cp.l++[z1])} p U ns.length (b9 st a cp l os ts)/\Step H F H4 F/\σ=[some (.ref p),some (.int a),some (.ref qa),some (.int cp.l),some (.int cp.r),some (.int cp.h),some (.ref (b (.bZ cp.l))),some (.str (BK l cp os))]) ?_ (λN' hN=>?_)
   ·rintro σ H4 ⟨X4,GP,rfl⟩
    have AK:=X4.own.get .c7 _ rfl;rw[X4.hp] at AK;have S:=D6 (s:=st) (a:=a) (cp:=cp) (l:=l) (os:=os) (ts:=ts);have acS:Bf ns v (b9 st a cp l os ts):=⟨by rw[S.1];exact C.wl,by rw[S.1];exact C.w4,by rw[S.2.1];exact C.fit⟩;refine⟨_,rfl,p,_,_,rfl,AK,rfl,_,rfl,_,rfl,_,rfl,F,p,U,ln,lr,ns,v,b9 st a cp l os ts,o,cp.l,cp.h,some cp.r,{l with aE:=l.aE++[iw l cp os]},D+51,rfl,N.done GP X4.c7,acS,OZ I g hal u B,∅,ug g,λos' F5 H5 n _ W5 MI=>?_⟩;have n:gk (oU ns v o (b9 st a cp l os ts).ws l.grp) ((b9 st a cp l os ts).R l.grp) os':=n;rw[S.1,S.2.1] at n;rw[n.uniq hO] at W5;exact⟨_,rfl,k F5 H5 W5 (GP.trans MI)⟩
   ·refine⟨_,rfl,b (.bZ cp.l),_,_,_,_,rfl,WW,T.dB,T.yk,rfl,_,rfl,?_⟩
    cases eo:l.old with
    |true =>
     refine eG ?_;refine hN _ _ ⟨?_,G,rfl⟩;unfold b9;rw[ee eo];exact i
    |false =>
     refine fK ?_;refine⟨_,rfl,p,_,_,_,_,rfl,zf,T.bK,T.qo,rfl,_,rfl,b (.bZ cp.l),_,_,_,_,rfl,WW,T.dB,T.j6,rfl,b .i6,_,_,_,rfl,rfl,bS.of (i.own.get .i6 _ rfl),qC M,b (.book l.grp),A (.book l.grp),_,rfl,i.own.get (.book l.grp) _ (ee M),rfl,_,rfl,?_⟩;refine Zi T (λQ q=>⟨_,rfl,q⟩) WW aiT ?_;refine⟨_,rfl,b (.book l.grp),b (.eZ l.grp),st.ts l.grp,cp.h,l.s,cp.r,rfl,i.own.LN M,?_,λH4 h4 kp4=>?_⟩
     ·have:=(I.tb l.grp).1
      lia
     ·rw[ets] at h4
      obtain⟨X4,GP⟩:=WX i M ts h4 kp4;refine hN _ _ ⟨?_,G.trans GP,rfl⟩;unfold b9;rw[eH (by rw[eo];decide)];exact X4
  ·have e':comes l cp os=false:=by simpa using e
   rw[e'];refine eG ?_;refine⟨_,rfl,k F H3 hO h12 u B ?_ G⟩;unfold lF;rw[e',eH (!_)];exact N3
end
section
inductive Rw(rs:List R5)(os:List Nat)(r0:Nat)(x:Nat):Nat->Prop
 |refl:Rw rs os r0 x x
 |step {y r:Nat} (t:Rw rs os r0 x y) (hr:r∈os) (ne:r≠r0) (ha:isAt rs (y:Int) r=true):Rw rs os r0 x (gv rs r y)
inductive Ds(N:RM.Net)(R:Nat->RM.Row)(c:Nat):Nat->Prop
 |self:Ds N R c c
 |on {r x y:Nat} (t:RM.oQ N R r x y) (d:Ds N R c y):Ds N R c x
theorem Ds.rank{N:RM.Net}{R:Nat->RM.Row}{c x:Nat}(d:Ds N R c x):(R c).ho<=(R x).ho:=by
 induction d with
 |self=>exact Int.le_refl _
 |on t _ a=>have:=t.ho;lia
variable{ns:List Int}{rs:List R5}{os:List Nat}{live:List Nat}{nd:ns.Nodup}{ok:∀r∈rs,r.Ok ns.length}{hl:∀k∈live,k<rs.length}{R:Nat->RM.Row}
theorem Q7{r x:Nat}(a:r∈live)(b:isAt rs (x:Int) r=true):RM.GR (aY ns rs live nd ok hl) r x (gv rs r x):=by
 refine (uu a).mpr ⟨b,?_⟩;unfold gv;rw[aa (hl r a)]
theorem SI{N:RM.Net}{r a b x y:Nat}(c:RM.GR N r a b)(h:RM.GR N r x y):(a=x/\b=y)∨(a=y/\b=x):=by
 rcases c.2 with ⟨e,d⟩|⟨e,d⟩ <;> rcases h.2 with ⟨g,f⟩|⟨g,f⟩ <;> lia
theorem O0{r x:Nat}(d:r<rs.length)(ok:∀r∈rs,r.Ok ns.length)(c:isAt rs (x:Int) r=true):isAt rs ((gv rs r x:Nat):Int) r=true/\gv rs r (gv rs r x)=x/\gv rs r x≠x/\gv rs r x<ns.length:=by
 have o:=ok _ (aK d);have m:=o.a0;have l:=o.b0;have i:=o.ab;have n:=o.a1;have k:=o.b1;have h:∀y,gv rs r y=fL rs[r] y:=λy=>by unfold gv;rw[aa d]
 have g:∀y:Int,isAt rs y r=(decide (y=rs[r].a) || decide (y=rs[r].b)):=λy=>by unfold isAt;rw[aa d]
 rw[h,h,g];rw[g] at c;have c:(decide ((x:Int)=rs[r].a) || decide ((x:Int)=rs[r].b))=true:=c;rw[sq,decide_eq_true_iff,decide_eq_true_iff] at c;show (decide _ || decide _)=true/\fL rs[r] (fL rs[r] x)=x/\fL rs[r] x≠x/\fL rs[r] x<_;rw[sq,decide_eq_true_iff,decide_eq_true_iff];unfold fL;rcases c with e|e
 ·rw[ee e]
  have f:((rs[r].b.toNat:Nat):Int)=rs[r].b:=∅
  rw[f,eH (bM i)];lia
 ·have j:¬(x:Int)=rs[r].a:=∅
  rw[eH j];have f:((rs[r].a.toNat:Nat):Int)=rs[r].a:=∅
  rw[f,ee rfl];lia
theorem SJ(O:gk (aY ns rs live nd ok hl) R os){r0 c p:Nat}(f:RM.oQ (aY ns rs live nd ok hl) R r0 c p){r y z:Nat}(h:r∈os)(e:r≠r0)(j:RM.GR (aY ns rs live nd ok hl) r y z)(d:Ds (aY ns rs live nd ok hl) R c y):Ds (aY ns rs live nd ok hl) R c z:=by
 obtain⟨a,b,t⟩:=(O.2 r).mp h;rcases SI t.AO j with ⟨rfl,rfl⟩|⟨rfl,rfl⟩
 ·cases d with
  |self=>exact eL (t.uniq f).1 e
  |on g i =>
   obtain⟨_,rfl⟩:=t.uniq g;exact i
 ·exact .on t d
theorem Zj(O:gk (aY ns rs live nd ok hl) R os){r x:Nat}(f:r∈os)(g:isAt rs (x:Int) r=true):¬Rw rs os r x (gv rs r x):=by
 intro t;obtain⟨c,p,i⟩:=(O.2 r).mp f;have l:∀k∈os,k∈live:=λk n=>by
  obtain⟨a,b,t⟩:=(O.2 k).mp n;exact t.AO.1
 have o:∀{y z:Nat},Rw rs os r y z->Ds (aY ns rs live nd ok hl) R c y->Ds (aY ns rs live nd ok hl) R c z:=λ{y z} t=>by
  induction t with
  |refl=>exact id
  |step t f j g m=>exact λd=>SJ O i f j (Q7 (l _ f) g) (m d)
 have h:∀{y z:Nat},Rw rs os r y z->Ds (aY ns rs live nd ok hl) R c z->Ds (aY ns rs live nd ok hl) R c y:=λ{y z} t=>by
  induction t with
  |refl=>exact id
  |step t f j g m=>exact λd=>m (SJ O i f j (Q7 (l _ f) g).symm d)
 have e:=i.ho;rcases SI i.AO (Q7 (l r f) g) with ⟨rfl,q⟩|⟨s,rfl⟩
 ·have:=(o t .self).rank
  rw[<- q] at this;lia
 ·have:=(h t (s▸.self)).rank
  lia
theorem Rw.trans{r0 x y z:Nat}(a:Rw rs os r0 x y)(b:Rw rs os r0 y z):Rw rs os r0 x z:=by
 induction b with
 |refl=>exact a
 |step t d c e f=>exact .step f d c e
theorem Rw.symm{r0 x y:Nat}(ok:∀r∈rs,r.Ok ns.length)(lt:∀k∈os,k<rs.length)(a:Rw rs os r0 x y):Rw rs os r0 y x:=by
 induction a with
 |refl=>exact .refl
 |@step y r t b c g e =>
  obtain⟨f,d,_⟩:=O0 (lt r b) ok g
  have:Rw rs os r0 (gv rs r y) y:=by
   have:=Rw.step (rs:=rs) (os:=os) (r0:=r0) (x:=gv rs r y) .refl b c f
   rw[d] at this;exact this
  exact this.trans e
structure En where
 h:Nat
 fr:Option (Nat×Nat)
noncomputable def En.by?(e:En):Option Nat:=e.fr.map (·.1)
noncomputable def goes(rs:List R5)(os:List Nat)(e:En):List Nat:=os.filter λr=>isAt rs (e.h:Int) r&&!decide (some r=e.by?)
theorem uh{e:En}{r:Nat}:r∈goes rs os e↔r∈os/\isAt rs (e.h:Int) r=true/\some r≠e.by?:=by
 unfold goes;rw[bf,cV,Bool.not_eq_true',decide_eq_false_iff_not]
structure Fo(ns:List Int)(rs:List R5)(os:List Nat):Prop where
 lt:∀r∈os,r<rs.length
 ok:∀r∈rs,r.Ok ns.length
 cut:∀r∈os,∀x:Nat,isAt rs (x:Int) r=true->¬Rw rs os r x (gv rs r x)
 ri:os.Pairwise (·<·)
variable{ns:List Int}{rs:List R5}{os:List Nat}
theorem Fo.of{live:List Nat}{nd:ns.Nodup}{ok:∀r∈rs,r.Ok ns.length}{hl:∀k∈live,k<rs.length}{R:Nat->RM.Row}(O:gk (aY ns rs live nd ok hl) R os):Fo ns rs os:=⟨VN O,ok,λ_ a _ b=>Zj O a b,O.1⟩
theorem Fo.back(F:Fo ns rs os){r x:Nat}(a:r∈os)(b:isAt rs (x:Int) r=true):isAt rs ((gv rs r x:Nat):Int) r=true/\gv rs r (gv rs r x)=x/\gv rs r x≠x/\gv rs r x<ns.length:=O0 (F.lt r a) F.ok b
theorem Fo.two(F:Fo ns rs os){r x y:Nat}(e:r∈os)(d:isAt rs (x:Int) r=true)(f:isAt rs (y:Int) r=true):y=x∨y=gv rs r x:=by
 have hl:=F.lt r e;have o:=F.ok _ (aK hl);have g:=o.a0;have h:=o.b0;have c:∀y:Int,isAt rs y r=(decide (y=rs[r].a) || decide (y=rs[r].b)):=λy=>by unfold isAt;rw[aa hl]
 rw[c,sq,decide_eq_true_iff,decide_eq_true_iff] at d f;unfold gv;rw[aa hl];show y=x∨y=fL rs[r] x;unfold fL;split <;> lia
theorem Fo.symm(F:Fo ns rs os){r0 x y:Nat}(a:Rw rs os r0 x y):Rw rs os r0 y x:=a.symm F.ok F.lt
theorem Fo.avoid(F:Fo ns rs os){q x z d:Nat}(hq:q∈os)(f:isAt rs (x:Int) q=true)(a:isAt rs (x:Int) d=true)(t:Rw rs os q (gv rs q x) z):Rw rs os d (gv rs q x) z:=by
 induction t with
 |refl=>exact .refl
 |@step y r t b h c i =>
  refine .step i b (λe=>?_) c;subst e;rcases F.two b a c with e|e
  ·subst e
   exact F.cut q hq y f (F.symm t)
  ·have g:=Rw.step t b h c
   rw[e,(F.back b a).2.1] at g;exact F.cut q hq x f (F.symm g)
noncomputable def nx(rs:List R5)(e:En)(r:Nat):En:=⟨gv rs r e.h,some (r,e.h)⟩
structure WJ(ns:List Int)(rs:List R5)(os:List Nat)(f:Nat)(D Pn:List En):Prop where
 nd:((D++Pn).map (·.h)).Nodup
 fr:∀e∈D++Pn,∀r p,e.fr=some (r,p)->r∈os/\isAt rs (p:Int) r=true/\gv rs r p=e.h/\(∃e'∈D,e'.h=p)/\Rw rs os r f p
 f0:∀e∈D++Pn,e.fr=none->e.h=f
 lt:∀e∈D++Pn,e.h<ns.length
theorem WJ.zero{f:Nat}(b:f<ns.length):WJ ns rs os f [] [⟨f,none⟩] :=
 ⟨-_,λe a r p h=>(by rw[aS.mp a] at h;cases h),λe a _=>(by rw[aS.mp a]),λe a=>(by rw[aS.mp a];exact b)⟩
variable{f:Nat}{D Pn A B:List En}{e:En}
theorem WJ.side(F:Fo ns rs os)(w:WJ ns rs os f D Pn)(j:e∈D++Pn){r0:Nat}(n:r0∈os)(m:isAt rs (e.h:Int) r0=true)(l:some r0≠e.by?):Rw rs os r0 f e.h:=by
 cases z:e.fr with
 |none=>rw[w.f0 e j z];exact .refl
 |some q =>
  obtain⟨r,p⟩:=q;obtain⟨b,g,i,_,k⟩:=w.fr e j r p z;have a:r≠r0:=λq=>l (by unfold En.by?;rw[z,<- q];rfl);obtain⟨d,c,_⟩:=F.back b g;rw[i] at d c;have t:=F.avoid b d m (by rw[c];exact F.symm k);rw[c] at t
  have:=Rw.step (F.symm t) b a g
  rw[i] at this;exact this
theorem WZ(nd:((D++Pn).map (·.h)).Nodup)(b:e∈Pn):∀a∈D,a.h≠e.h:=λa c z=>by
 rw[aO,jO] at nd;exact nd.2.2 _ (iG c) _ (iG b) z
theorem WJ.next(F:Fo ns rs os)(w:WJ ns rs os f D (A++e::B)){gs:List Nat}(M:gs.Nodup)(t:∀r∈gs,r∈goes rs os e):WJ ns rs os f (D++[e]) (A++B++gs.map (nx rs e)):=by
 have s:e∈A++e::B:=-_
 have m:e∈D++(A++e::B):=b6 _ s;have K:=WZ w.nd s;have pm:((D++[e])++(A++B++gs.map (nx rs e))).Perm ((D++(A++e::B))++gs.map (nx rs e)):=by
  have c:([e]++(A++B)).Perm (A++e::B):=by
   show (e::(A++B)).Perm _;exact List.perm_middle.symm
  have g:=(c.append_left D).append_right (gs.map (nx rs e))
  simpa [jQ] using g
 have I:∀r∈gs,∀b∈D++(A++e::B),b.h≠gv rs r e.h:=λr l b i z=>by
  obtain⟨c,g,E⟩:=uh.mp (t r l);have R:=w.side F m c g E;obtain⟨P,U,W,_⟩:=F.back c g;by_cases q:some r=b.by?
  ·unfold En.by? at q
   cases y:b.fr with
   |none=>rw[y] at q;cases q
   |some v =>
    obtain⟨O,p⟩:=v;rw[y] at q;have q:r=O:=aQ q;subst q;obtain⟨_,n,J,⟨u,G,C⟩,_⟩:=w.fr b i r p y
    have:p=e.h:=by
     have:=(F.back c n).2.1
     rw[J,z,U] at this;exact this.symm
    exact K u G (C.trans this)
  ·have L:=w.side F i c (by rw[z];exact P) q
   rw[z] at L;exact F.cut r c e.h g ((F.symm R).trans L)
 have j:∀b,b∈(D++[e])++(A++B++gs.map (nx rs e))->b∈D++(A++e::B)∨∃r∈gs,b=nx rs e r:=λb i=>by
  rcases bG.mp (pm.mem_iff.mp i) with h|h
  ·exact .inl h
  ·obtain⟨r,l,z⟩:=aV.mp h
   exact .inr ⟨r,l,z.symm⟩
 refine⟨?_,λb i r p h=>?_,λb i h=>?_,λb i=>?_⟩
 ·rw[(pm.map (·.h)).nodup_iff,aO,jO]
  refine⟨w.nd,?_,λx S y V=>?_⟩
  ·rw[cF]
   refine List.pairwise_map.mpr (List.Pairwise.imp_of_mem ?_ M);intro r k l d N z;obtain⟨c,g,_⟩:=uh.mp (t r l);obtain⟨H,n,_⟩:=uh.mp (t k d);have z:gv rs r e.h=gv rs k e.h:=z
   have:=Rw.step (rs:=rs) (os:=os) (r0:=r) (x:=e.h) .refl H (bM N) n
   rw[<- z] at this;exact F.cut r c e.h g this
  ·obtain⟨a,T,rfl⟩:=aV.mp S
   obtain⟨b,i,rfl⟩:=aV.mp V;obtain⟨r,l,rfl⟩:=aV.mp i;exact I r l a T
 ·rcases j b i with o|⟨k,d,rfl⟩
  ·obtain⟨H,n,J,⟨u,G,C⟩,Q⟩:=w.fr b o r p h
   exact⟨H,n,J,⟨u,gX _ G,C⟩,Q⟩
  ·obtain⟨c,g,E⟩:=uh.mp (t k d)
   cases h;exact⟨c,g,rfl,⟨e,-_,rfl⟩,w.side F m c g E⟩
 ·rcases j b i with o|⟨k,d,rfl⟩
  ·exact w.f0 b o h
  ·cases h
 ·rcases j b i with o|⟨k,d,rfl⟩
  ·exact w.lt b o
  ·obtain⟨c,g,_⟩:=uh.mp (t k d)
   exact (F.back c g).2.2.2
end
section
variable{ns:List Int}{rs:List R5}{os:List Nat}{s:NS}{l:LS}{i h:Nat}
theorem O6:∀(cs:List Nat) (s:NS) (l:LS),s.ls[i]?=some l->∃had,cs.foldl (lD i h) s={s with had:=had,ls:=s.ls.set i {l with aE:=l.aE++cs.map (sD.hand h)}}
 |[],s,l,e=>⟨s.had,by
  show s={s with had:=s.had,ls:=s.ls.set i {l with aE:=l.aE++[]}};rw[cW,wA e]⟩
 |c::cs,s,l,e=>by
  have b:=(ai.mp e).1;have d:(ud s i c).ls[i]?=some l:=e;have a:lD i h s c={s with had:=s.had.set c (s.had.getD c []++[i]),ls:=s.ls.set i {l with aE:=l.aE++[.hand h c]}}:=by
   unfold lD;rw[eW d];rfl
  obtain⟨had,f⟩:=O6 cs (lD i h s c) {l with aE:=l.aE++[.hand h c]} (by rw[a];show (s.ls.set i _)[i]?=_;rw[gi b,ee rfl]);refine⟨had,?_⟩;rw[jP,f,a];show {s with had:=had,ls:=(s.ls.set i _).set i _}=_;rw[List.set_set];simp only[jQ,bL];rfl
theorem O7:∀(gs:List Nat) (s:NS) (l:LS),s.ls[i]?=some l->gs.foldl (uf rs i h) s={s with cps:=s.cps++gs.map λr=>⟨i,r,ue s.ws r (pI l),gv rs r h⟩,ls:=s.ls.set i {l with aE:=l.aE++gs.map λr=>.send h r (ue s.ws r (pI l))}}
 |[],s,l,e=>by
  show s={s with cps:=s.cps++[],ls:=s.ls.set i {l with aE:=l.aE++[]}};rw[cW,cW,wA e]
 |r::gs,s,l,e=>by
  have b:=(ai.mp e).1;have c:Uu s i=pI l:=by unfold Uu;rw[e]
  have a:uf rs i h s r={s with cps:=s.cps++[⟨i,r,ue s.ws r (pI l),gv rs r h⟩],ls:=s.ls.set i {l with aE:=l.aE++[.send h r (ue s.ws r (pI l))]}}:=by
   unfold uf OT;rw[eW e,c]
  rw[jP,O7 gs (uf rs i h s r) {l with aE:=l.aE++[.send h r (ue s.ws r (pI l))]} (by rw[a];show (s.ls.set i _)[i]?=_;rw[gi b,ee rfl]),a];show {s with cps:=_,ls:=(s.ls.set i _).set i _}=_;rw[List.set_set];simp only[jQ,bL];rfl
theorem Jt{cj:Option Nat}(e:s.ls[i]?=some l):∃had,Uv rs s i h l cj os={s with had:=had,cps:=s.cps++(Jr rs s l h cj os).map λr=>⟨i,r,ue s.ws r (pI l),gv rs r h⟩,ls:=s.ls.set i {l with done:=mT l.done h,aE:=l.aE++((oA s l h).map (sD.hand h)++(Jr rs s l h cj os).map λr=>.send h r (ue s.ws r (pI l)))}}:=by
 have a:=(ai.mp e).1;unfold Uv;have c:(eE s i h l).ls[i]?=some {l with done:=mT l.done h}:=by
  show (s.ls.set i _)[i]?=_;rw[gi a,ee rfl]
 obtain⟨had,b⟩:=O6 (h:=h) (oA s l h) (eE s i h l) _ c;refine⟨had,?_⟩;rw[b,O7 _ _ {l with done:=mT l.done h,aE:=l.aE++(oA s l h).map (sD.hand h)} (by show ((s.ls.set i _).set i _)[i]?=_;rw[gi (by rw[aX];exact a),ee rfl])];show {s with had:=had,cps:=_,ls:=((s.ls.set i _).set i _).set i _}=_;rw[List.set_set,List.set_set];simp only[jQ];rfl
theorem W0{ds:List Nat}{h:Nat}{l:LS}(e:l.done=ds):D4 l h=decide (h∈ds):=by
 unfold D4;rw[e];clear e;induction ds with
 |nil=>rfl
 |cons d ds a =>
  rw[bL];by_cases z:d=h
  ·subst z
   rw[zu rfl];simp
  ·rw[zv (λe=>z (by have:=Sum.inl.inj e;lia)),a]
   have:¬h=d:=λe=>z e.symm
   simp[this]
theorem Zk(F:Fo ns rs os){e:En}:(goes rs os e).Nodup:=List.Nodup.sublist qy (F.ri.imp λh=>aZ h)
end
section
noncomputable def Q8(rs:List R5)(h:Nat):Nat:=((aq rs.length).filter (isAt rs h)).length
noncomputable def uQ(n:Nat)(rs:List R5)(done:List Nat):Nat:=(((aq n).filter λh=>!decide (h∈done)).map (Q8 rs)).sum
noncomputable def Ph(n:Nat)(rs:List R5)(s:NS):Nat:=s.cps.length+(s.ls.map λl=>uQ n rs l.done).sum
theorem sum_set{b:Type}{f:b->Nat}:∀{xs:List b} {i:Nat} {x:b} (y:b),xs[i]?=some x->((xs.set i y).map f).sum+f x=(xs.map f).sum+f y
 |[],_,_,_,h=>by cases h
 |a::xs,0,x,y,h=>by
  cases h;show f y+(xs.map f).sum+f a=f a+(xs.map f).sum+f y;lia
 |a::xs,i+1,x,y,h=>by
  have:=sum_set (f:=f) (xs:=xs) (i:=i) y h
  show f a+((xs.set i y).map f).sum+f x=f a+(xs.map f).sum+f y;lia
theorem O9{f:Nat->Nat}{d:List Nat}{h:Nat}(b:h∉d):∀{L:List Nat},L.Nodup->(((L.filter λk=>!decide (k∈d++[h])).map f).sum+if h∈L then f h else 0)=((L.filter λk=>!decide (k∈d)).map f).sum
 |[],_=>rfl
 |a::L,nd=>by
  obtain⟨g,i⟩:=fG.mp nd;have c:=O9 (f:=f) b i;by_cases z:a=h
  ·subst z
   rw[eH g] at c;rw[ee bJ,dh (-_),dg (by simp[b]),bL,List.sum_cons];lia
  ·have e:(if h∈a::L then f h else 0)=(if h∈L then f h else 0):=by
    have q:¬h=a:=λy=>z y.symm;simp[q]
   rw[e];by_cases y:a∈d
   ·rw[dh (by simp[y]),dh (by simp[y])]
    exact c
   ·rw[dg (by simp[y,z]),dg (by simp[y]),bL,bL,List.sum_cons,List.sum_cons]
    lia
theorem Ll{n:Nat}{rs:List R5}{d:List Nat}{h:Nat}(b:h<n)(a:h∉d):uQ n rs (mT d h)+Q8 rs h=uQ n rs d:=by
 unfold uQ mT;rw[eH a]
 have:=O9 (f:=Q8 rs) a (List.nodup_range (n:=n))
 rw[ee (bH.mpr b)] at this;exact this
theorem acV{n:Nat}{rs:List R5}{k:Nat}:((aq n).filter λh:Nat=>isAt rs (h:Int) k).length<=2:=by
 cases e:rs[k]? with
 |none =>
  have:((aq n).filter λh:Nat=>isAt rs (h:Int) k)=[]:=List.filter_eq_nil_iff.mpr λh _=>by unfold isAt;rw[e];exact aB
  rw[this];decide
 |some r =>
  have:=Gr.Et (B:=[r.a.toNat,r.b.toNat]) (List.Nodup.sublist (l₁:=(aq n).filter λh:Nat=>isAt rs (h:Int) k) qy List.nodup_range) λx c=>by
   have c:=(bf.mp c).2;unfold isAt at c;rw[e] at c;have c:(decide ((x:Int)=r.a) || decide ((x:Int)=r.b))=true:=c;rw[sq,decide_eq_true_iff,decide_eq_true_iff] at c;rcases c with z|z
   ·rw[<- z];simp
   ·rw[<- z];simp
  exact this
theorem Pa{n:Nat}{p:Nat->Nat->Bool}:∀m,((aq n).map λh=>((aq m).filter (p h)).length).sum=((aq m).map λk=>((aq n).filter λh=>p h k).length).sum
 |0=>by
  show ((aq n).map λh=>0).sum=0;generalize aq n=L;induction L with
  |nil=>rfl
  |cons a L b=>rw[bL,List.sum_cons,b];rfl
 |m+1=>by
  rw[fF,aO,List.sum_append,<- Pa m];show _=_+(((aq n).filter λh=>p h m).length+0);generalize aq n=L;induction L with
  |nil=>rfl
  |cons a L b =>
   rw[bL,bL,List.sum_cons,List.sum_cons,b,eO,ay];by_cases z:p a m=true
   ·rw[dg z,dg (p:=λh=>p h m) z,aT,aT,List.filter_nil,List.length_nil]
    lia
   ·rw[dh z,dh (p:=λh=>p h m) z,List.filter_nil,List.length_nil]
    lia
theorem Zl{n:Nat}{rs:List R5}:((aq n).map (Q8 rs)).sum<=2*rs.length:=by
 have e:((aq n).map (Q8 rs)).sum=_:=Pa (n:=n) (p:=λh k=>isAt rs (h:Int) k) rs.length;rw[e];generalize rs.length=m;induction m with
 |zero=>exact av _
 |succ m a =>
  rw[fF,aO,List.sum_append]
  have:((aq n).filter λh:Nat=>isAt rs (h:Int) m).length<=2:=acV
  show _+(((aq n).filter λh:Nat=>isAt rs (h:Int) m).length+0)<=_;lia
theorem W6{ns:List Int}{rs:List R5}{os:List Nat}(F:Fo ns rs os){s:NS}{l:LS}{h:Nat}{cj:Option Nat}:(Jr rs s l h cj os).length<=Q8 rs h:=by
 unfold Jr Q8;rw[ah];refine aF D5.2 ?_;rw[ah];exact Gr.Et (List.Nodup.sublist qy (F.ri.imp λh=>aZ h)) λx a=>bf.mpr ⟨bH.mpr (F.lt x (bf.mp a).1),(bf.mp a).2⟩
theorem Zm{ns:List Int}{rs:List R5}{os:List Nat}(F:Fo ns rs os){s:NS}{x:Nat}{to:Option Nat}(g:s.aM.getD x 0<ns.length):Ph ns.length rs (uP rs s x to os)<=Ph ns.length rs s+2*rs.length:=by
 unfold uP;obtain⟨c,e⟩:=Jt (rs:=rs) (os:=os) (h:=s.aM.getD x 0) (cj:=none) (s:=rH s x to) (i:=s.ls.length) (l:={lE s x to with aE:=[.post (s.aM.getD x 0)]}) r9;rw[e];have f:=W6 (s:=rH s x to) (l:={lE s x to with aE:=[.post (s.aM.getD x 0)]}) (h:=s.aM.getD x 0) (cj:=none) F;generalize Jr rs (rH s x to) _ _ _ os=gs at f;have b:∀a,(rH s x to).ls.set s.ls.length a=s.ls++[a]:=λa=>by
  show (s.ls++[_]).set s.ls.length a=_;rw[vZ _ _ (av _),gz];rfl
 unfold Ph;rw[b];show (s.cps++_).length+((s.ls++[_]).map _).sum<=_;rw[ay,ah,aO,List.sum_append];show s.cps.length+gs.length+(_+(uQ ns.length rs (mT [] (s.aM.getD x 0))+0))<=_;have k:=Ll (rs:=rs) (d:=[]) g (-_);have j:uQ ns.length rs []<=2*rs.length:=by
  unfold uQ;rw[List.filter_eq_self.mpr (-_)];exact Zl
 lia
theorem Zn{ns:List Int}{rs:List R5}{os:List Nat}(F:Fo ns rs os){s:NS}{a:Nat}{cp:Cp}{l:LS}{ts:List T3}(i:s.cps[a]?=some cp)(hl:s.ls[cp.l]?=some l)(hh:cp.h<ns.length):Ph ns.length rs (lF rs s a cp l os ts)+1<=Ph ns.length rs s:=by
 have k:=(ai.mp hl).1;have g:=(ai.mp i).1;have v:(s.cps.eraseIdx a).length+1=s.cps.length:=by
  rw[List.length_eraseIdx,ee g];lia
 have m:∀b,((p5 s a cp l b).ls.map λl=>uQ ns.length rs l.done).sum=(s.ls.map λl=>uQ ns.length rs l.done).sum:=λb=>by
  have:=sum_set (f:=λl:LS=>uQ ns.length rs l.done) {l with aE:=l.aE++[iw l cp b]} hl
  show ((s.ls.set cp.l _).map _).sum=_;simp only at this;lia
 unfold lF;split
 ·rename_i e
  have c:cp.h∉l.done:=λz=>by
   unfold comes at e;rw[W0 rfl,e8 z] at e;simp at e
  obtain⟨o,t⟩:=Jt (rs:=rs) (os:=os) (h:=cp.h) (cj:=some cp.r) (ug (a:=a) (os:=os) (ts:=ts) hl);rw[t];have u:=W6 (s:=b9 s a cp l os ts) (l:={l with aE:=l.aE++[iw l cp os]}) (h:=cp.h) (cj:=some cp.r) F;generalize Jr rs (b9 s a cp l os ts) _ _ _ os=gs at u;have j:(b9 s a cp l os ts).cps=s.cps.eraseIdx a:=by unfold b9;split <;> rfl
  have p:(b9 s a cp l os ts).ls=s.ls.set cp.l {l with aE:=l.aE++[iw l cp os]}:=by unfold b9;split <;> rfl
  unfold Ph
  try dsimp only
  rw[j,p,List.set_set,ay,ah];have w:=Ll (rs:=rs) (d:=l.done) hh c;have q:=λy=>sum_set (f:=λl:LS=>uQ ns.length rs l.done) y hl;have n:=q {l with done:=mT l.done cp.h,aE:=l.aE++[iw l cp os]++((oA (b9 s a cp l os ts) {l with aE:=l.aE++[iw l cp os]} cp.h).map (sD.hand cp.h)++gs.map λr=>.send cp.h r (ue (b9 s a cp l os ts).ws r (pI {l with aE:=l.aE++[iw l cp os]})))};dsimp only at n;lia
 ·unfold Ph
  rw[m];show (s.cps.eraseIdx a).length+_+1<=_;lia
structure SD(ns:List Int)(rs:List R5)(bs:List (List Bool))(cl:List (Nat×Nat))(D:Nat)(s:NS):Prop where
 ok:Bf ns rs s
 bd:Bd ns.length rs.length D s
 ws:s.ws=bs.map stand
 fit:n6 rs bs
 hm:s.aM=cl.map (·.1)
 gr:s.groups=cl.map (·.2)
variable{ns:List Int}{rs:List R5}{bs:List (List Bool)}{cl:List (Nat×Nat)}{D:Nat}{s:NS}
theorem SD.mono{a:Nat}(h:SD ns rs bs cl D s)(e:D<=a):SD ns rs bs cl a s:=⟨h.ok,h.bd.mono e,h.ws,h.fit,h.hm,h.gr⟩
theorem Zo{n m:Nat}{g:Nat}(b:Bd n m D s):Bd n m D (xh s g):=by
 refine⟨b.gl,b.vX,b.g3,b.hm,b.hl,b.hb,by show (s.ls.map _).length<=D;rw[ah];exact b.ll,λl z=>?_,b.cb,λc z=>by show c.l<(s.ls.map _).length/\_;rw[ah];exact b.cl c z,λa=>?_⟩
 ·obtain⟨d,e,rfl⟩:=aV.mp z
  unfold uo;split
  ·exact b.lb d e
  ·exact b.lb d e
 ·show 50*(fM s.ts g [] a).length<=D/\gh (fM s.ts g [] a)
  by_cases z:a=g
  ·subst z
   rw[cz];exact⟨aR _,lH⟩
  ·rw[dN z]
   exact b.tb a
theorem SD.news(h:SD ns rs bs cl D s)(g:Nat):SD ns rs bs cl D (xh s g):=⟨⟨h.ok.wl,h.ok.w4,h.ok.fit⟩,Zo h.bd,h.ws,h.fit,h.hm,h.gr⟩
theorem SD.jI(h:SD ns rs bs cl D s)(e:Int):∀m,SD ns rs bs cl D (jI s e m)
 |0=>h
 |m+1=>by
  rw[iA];split
  ·exact (h.jI e m).news m
  ·exact h.jI e m
theorem SD.call{g x:Nat}{d:RM.Row}(h:SD ns rs bs cl D s)(c:BW ns.length rs.length d):SD ns rs bs cl D (uO s g x d):=by
 unfold uO;split
 ·exact h
 ·refine SD.news (s:={s with R:=fM s.R g (RM.upd (s.R g) x d)}) ⟨⟨h.ok.wl,h.ok.w4,λk a=>?_⟩,⟨h.bd.gl,h.bd.vX,h.bd.g3,h.bd.hm,h.bd.hl,h.bd.hb,h.bd.ll,h.bd.lb,h.bd.cb,h.bd.cl,h.bd.tb⟩,h.ws,h.fit,h.hm,h.gr⟩ g
  show xD _ _ (fM s.R g (RM.upd (s.R g) x d) k);by_cases z:k=g
  ·subst z
   rw[cz];intro i b;unfold RM.upd;split
   ·exact c
   ·exact h.ok.fit k a i b
  ·rw[dN z]
   exact h.ok.fit k a
theorem SD.move{x y:Nat}(h:SD ns rs bs cl D s)(a:x<cl.length)(g:y<ns.length):SD ns rs bs (cl.set x (y,cl[x].2)) D (xm s x y):=by
 have d:x<s.aM.length:=by rw[h.hm,ah];exact a
 have c:(cl.set x (y,cl[x].2)).map (·.2)=cl.map (·.2):=by
  rw[jh];refine wA ?_;rw[aj,aa a];rfl
 unfold xm;split
 ·rename_i e
  refine⟨h.ok,h.bd,h.ws,h.fit,?_,by rw[c];exact h.gr⟩;rw[jh,<- h.hm];exact (wA e).symm
 ·refine SD.news (s:={s with aM:=s.aM.set x y}) ⟨⟨h.ok.wl,h.ok.w4,h.ok.fit⟩,?_,h.ws,h.fit,by show s.aM.set x y=_;rw[jh,<- h.hm],by rw[c];exact h.gr⟩ _
  have b:=h.bd;refine⟨by show s.groups.length=(s.aM.set x y).length;rw[aX];exact b.gl,by show (s.aM.set x y).length<=20;rw[aX];exact b.vX,b.g3,λz f=>?_,by show s.had.length=(s.aM.set x y).length;rw[aX];exact b.hl,b.hb,b.ll,b.lb,b.cb,b.cl,b.tb⟩;rcases gq f with w|rfl
  ·exact b.hm z w
  ·exact g
theorem Pb{P Q:LS->Prop}{i:Nat}{d:sD}(h:∀l∈s.ls,P l)(b:∀l,P l->Q l)(f:∀l,P l->Q {l with aE:=l.aE++[d]}):∀l∈(dc s i d).ls,Q l:=by
 intro l a;unfold dc at a;cases e:s.ls[i]? with
 |none=>rw[e] at a;exact b l (h l a)
 |some c =>
  rw[e] at a;rcases gq a with z|rfl
  ·exact b l (h l z)
  ·exact f c (h c (aG e))
theorem Q9{i:Nat}{d:sD}:(dc s i d).ws=s.ws/\(dc s i d).R=s.R/\(dc s i d).ts=s.ts/\(dc s i d).aM=s.aM/\(dc s i d).groups=s.groups/\(dc s i d).had=s.had:=by
 unfold dc;cases s.ls[i]? <;> exact⟨rfl,rfl,rfl,rfl,rfl,rfl⟩
theorem Ju{i x:Nat}:∀m,m<=s.cps.length->(jk s i x m).ws=s.ws/\(jk s i x m).R=s.R/\(jk s i x m).ts=s.ts/\(jk s i x m).aM=s.aM/\(jk s i x m).groups=s.groups/\(jk s i x m).had=s.had
 |0,_=>by rw[xJ];exact⟨rfl,rfl,rfl,rfl,rfl,rfl⟩
 |m+1,k=>by
  have a:=Ju (i:=i) (x:=x) m ∅;rw[xK ∅];unfold oJ;split
  ·obtain⟨b,g,c,e,f,j⟩:=Q9 (s:=jk s i x m) (i:=(s.cps[m]).l) (d:=.V3 (s.cps[m]).h i)
   exact⟨b.trans a.1,g.trans a.2.1,c.trans a.2.2.1,e.trans a.2.2.2.1,f.trans a.2.2.2.2.1,j.trans a.2.2.2.2.2⟩
  ·exact a
theorem Pc{i x:Nat}(h:∀l∈s.ls,l.aE.length+s.cps.length<=D/\l.done.length<=D/\l.grp<3/\(l.kd=1∨l.kd=2)):∀m,m<=s.cps.length->∀l∈(jk s i x m).ls,l.aE.length+((s.cps.take m).filter λc=>!Xq i x c).length+s.cps.length<=D+m/\l.done.length<=D/\l.grp<3/\(l.kd=1∨l.kd=2)
 |0,_=>by rw[xJ];exact h
 |m+1,k=>by
  have d:=Pc (i:=i) (x:=x) h m ∅;have b:m<s.cps.length:=∅
  rw[xK b,KO (f:=λc:Cp=>!Xq i x c) b,ay];unfold oJ;cases e:Xq i x s.cps[m]
  ·rw[eH (!_),ee (!_)]
   intro l a;obtain⟨j,g⟩:=d l a;exact⟨by show l.aE.length+(_+1)+_<=_;lia,g⟩
  ·rw[ee rfl,eH (!_)]
   refine Pb d (λl a=>⟨by have:=a.1;show l.aE.length+(_+0)+_<=_;lia,a.2⟩) (λl a=>⟨?_,a.2⟩)
   have:=a.1
   show (l.aE++[_]).length+(_+0)+_<=_;rw[ay];show l.aE.length+1+(_+0)+_<=_;lia
theorem SD.lose(h:SD ns rs bs cl D s)(i x:Nat):SD ns rs bs cl D (oK s i x):=by
 obtain⟨e,k,j,a,d,f⟩:=Ju (s:=s) (i:=i) (x:=x) s.cps.length (av _);have lb:=Pc (i:=i) (x:=x) h.bd.lb s.cps.length (av _);have ll:=KN (s:=s) (i:=i) (x:=x) (m:=s.cps.length);rw[fP] at lb;unfold oK;generalize jk s i x s.cps.length=s2 at e k j a d f lb ll;have b:=h.bd;refine⟨⟨e▸h.ok.wl,e▸h.ok.w4,k▸h.ok.fit⟩,⟨?_,?_,?_,?_,?_,?_,?_,λl hl=>?_,?_,λc n=>?_,?_⟩,e.trans h.ws,h.fit,a.trans h.hm,d.trans h.gr⟩
 ·show s2.groups.length=s2.aM.length;rw[a,d];exact b.gl
 ·show s2.aM.length<=20;rw[a];exact b.vX
 ·show ∀g∈s2.groups,g<3;rw[d];exact b.g3
 ·show ∀h∈s2.aM,h<ns.length;rw[a];exact b.hm
 ·show s2.had.length=s2.aM.length;rw[a,f];exact b.hl
 ·show ∀w∈s2.had,w.length<=D;rw[f];exact b.hb
 ·show s2.ls.length<=D;rw[ll];exact b.ll
 ·obtain⟨p,o⟩:=lb l hl
  exact⟨by show l.aE.length+(s.cps.filter λc=>!Xq i x c).length<=D;lia,o⟩
 ·exact aF (bB _ _) b.cb
 ·show c.l<s2.ls.length/\_
  rw[ll];exact b.cl c (bf.mp n).1
 ·show ∀g,50*(s2.ts g).length<=D/\gh (s2.ts g);rw[j];exact b.tb
theorem SD.fX{i x:Nat}{b:List Bool}{v:Bool}(o:cE ns rs)(h:SD ns rs bs cl D s)(hb:bs[i]?=some b):SD ns rs (bs.set i (b.set x v)) cl D {s with ws:=s.ws.set i (stand (b.set x v))}:=by
 have d:=h.fit.set hb (k:=x) (x:=v);have l:s.ws.set i (stand (b.set x v))=(bs.set i (b.set x v)).map stand:=by rw[h.ws,jh]
 refine⟨⟨by show (s.ws.set i _).length=_;rw[aX];exact h.ok.wl,λu c=>?_,h.ok.fit⟩,⟨h.bd.gl,h.bd.vX,h.bd.g3,h.bd.hm,h.bd.hl,h.bd.hb,h.bd.ll,h.bd.lb,h.bd.cb,h.bd.cl,h.bd.tb⟩,l,d,h.hm,h.gr⟩;have c:u∈s.ws.set i (stand (b.set x v)):=c;rw[l] at c;obtain⟨m,f,rfl⟩:=aV.mp c;obtain⟨j,g,e⟩:=iH f;have a:j<rs.length:=by rw[<- d.1];exact g
 have:=d.2 j _ _ (aa a) (aa g)
 have n:=(o.ok _ (aK a)).d4
 have:=TH m
 rw[e] at *;lia
theorem SD.Ra{i x:Nat}{b:List Bool}(o:cE ns rs)(h:SD ns rs bs cl D s)(c:bs[i]?=some b)(e:Int):SD ns rs (bs.set i (b.set x false)) cl D (xj s i x (stand b) e):=by
 have a:=(h.fX (x:=x) (v:=false) o c).lose i x;unfold xj;rw[Qf];split
 ·exact a.jI e 3
 ·exact a
theorem SD.lay{i x:Nat}{b:List Bool}(o:cE ns rs)(h:SD ns rs bs cl D s)(c:bs[i]?=some b)(e:Int):SD ns rs (bs.set i (b.set x true)) cl D (Fi s i (stand b) (stand (b.set x true)) e):=by
 have a:=h.fX (x:=x) (v:=true) o c;unfold Fi;split
 ·exact a.jI e 3
 ·exact a
theorem W7{i h:Nat}{l:LS}{cj:Option Nat}{os:List Nat}(hl:s.ls[i]?=some l):(Uv rs s i h l cj os).ws=s.ws/\(Uv rs s i h l cj os).R=s.R/\(Uv rs s i h l cj os).aM=s.aM/\(Uv rs s i h l cj os).groups=s.groups:=by
 have f:=acK (rs:=rs) (h:=h) (cj:=cj) (os:=os) hl;exact⟨f.ws,f.R,f.aM,f.groups⟩
theorem SD.post{x:Nat}{to:Option Nat}{os:List Nat}(o:cE ns rs)(h:SD ns rs bs cl D s)(j:x<s.aM.length)(O:gk (oU ns rs o s.ws (s.groups.getD x 0)) (s.R (s.groups.getD x 0)) os)(a:os.length<=12):SD ns rs bs cl (D+100) (uP rs s x to os):=by
 obtain⟨b,g,f,e⟩:=W7 (rs:=rs) (h:=s.aM.getD x 0) (cj:=none) (os:=os) (s:=rH s x to) (i:=s.ls.length) (l:={lE s x to with aE:=[.post (s.aM.getD x 0)]}) r9;have d:=aaF o (h:=s.aM.getD x 0) (cj:=none) (SA (to:=to) h.bd j) r9 O a;exact⟨⟨(fy List.length b).trans h.ok.wl,λw c=>h.ok.w4 w (by rw[show (uP rs s x to os).ws=s.ws from b] at c;exact c),by rw[show (uP rs s x to os).R=s.R from g];exact h.ok.fit⟩,d.mono ∅,b.trans h.ws,h.fit,f.trans h.hm,e.trans h.gr⟩
theorem SD.pass{a:Nat}{cp:Cp}{l:LS}{os:List Nat}{ts:List T3}{h' c r:Int}(o:cE ns rs)(h:SD ns rs bs cl D s)(hl:s.ls[cp.l]?=some l)(v:a<s.cps.length)(O:gk (oU ns rs o s.ws l.grp) (s.R l.grp) os)(g:os.length<=12)(p:ts.Perm (put3 (s.ts l.grp) h' c r))(m:gh ts):SD ns rs bs cl (D+100) (lF rs s a cp l os ts):=by
 have k:=Zh o (a:=a) (cp:=cp) h.bd hl v O g p m;have e:(lF rs s a cp l os ts).ws=s.ws/\(lF rs s a cp l os ts).R=s.R/\(lF rs s a cp l os ts).aM=s.aM/\(lF rs s a cp l os ts).groups=s.groups:=by
  unfold lF;split
  ·obtain⟨t,u,q,n⟩:=D6 (s:=s) (a:=a) (cp:=cp) (l:=l) (os:=os) (ts:=ts)
   obtain⟨b,i,f,d⟩:=W7 (rs:=rs) (h:=cp.h) (cj:=some cp.r) (os:=os) (ug (a:=a) (os:=os) (ts:=ts) hl);exact⟨b.trans t,i.trans u,f.trans q,d.trans n⟩
  ·exact⟨rfl,rfl,rfl,rfl⟩
 obtain⟨b,i,f,d⟩:=e;exact⟨⟨(fy List.length b).trans h.ok.wl,λw j=>h.ok.w4 w (by rw[b] at j;exact j),by rw[i];exact h.ok.fit⟩,k,b.trans h.ws,h.fit,f.trans h.hm,d.trans h.gr⟩
end
section
variable{ns:List Int}{rs:List R5}{os:List Nat}{s s':NS}{g:Nat}
def Led(rs:List R5)(os:List Nat)(s:NS)(g h c r:Nat):Prop:=r∈os/\isAt rs (h:Int) r=true/\s.groups[c]?=some g/\Rw rs os r (gv rs r h) (s.aM.getD c 0)
structure D7(rs:List R5)(os:List Nat)(g:Nat)(s:NS):Prop where
 nt:∀t∈s.ts g,∃h c r:Nat,t=((h:Int),(c:Int),(r:Int))/\Led rs os s g h c r
 cp:∀c∈s.cps,∀l,s.ls[c.l]?=some l->l.grp=g->l.old=false->Led rs os s g c.h l.s c.r
def Xx(s:NS):Prop:=∀l∈s.ls,s.groups[l.s]?=some l.grp
structure Ld(o:cE ns rs)(s:NS):Prop where
 sd:Xx s
 ld:∀g,g<3->∀os,gk (oU ns rs o s.ws g) (s.R g) os->D7 rs os g s
theorem Led.of{h c r:Nat}(a:Led rs os s g h c r)(d:s'.groups=s.groups)(b:∀c,s.groups[c]?=some g->s'.aM.getD c 0=s.aM.getD c 0):Led rs os s' g h c r:=⟨a.1,a.2.1,by rw[d];exact a.2.2.1,by rw[b c a.2.2.1];exact a.2.2.2⟩
theorem D7.of(a:D7 rs os g s)(p:∀t∈s'.ts g,t∈s.ts g)(f:s'.groups=s.groups)(d:∀c,s.groups[c]?=some g->s'.aM.getD c 0=s.aM.getD c 0)(i:∀c∈s'.cps,∀b,s'.ls[c.l]?=some b->b.grp=g->b.old=false->c∈s.cps/\∃l,s.ls[c.l]?=some l/\l.s=b.s/\l.grp=g/\l.old=false):D7 rs os g s':=by
 refine⟨λt h=>?_,λc h b u k o=>?_⟩
 ·obtain⟨h,c,r,e,q⟩:=a.nt t (p t h)
  exact⟨h,c,r,e,q.of f d⟩
 ·obtain⟨v,l,n,j,w,m⟩:=i c h b u k o
  have:=(a.cp c v l n w m).of f d
  rw[j] at this;exact this
theorem Rb(h:Xx s)(d:s'.groups=s.groups)(hl:∀a∈s'.ls,∃l∈s.ls,a.s=l.s/\a.grp=l.grp):Xx s':=λa f=>by
 obtain⟨l,b,e,c⟩:=hl a f;rw[d,e,c];exact h l b
theorem W8{l:LS}{k:Nat}:(uo k l).s=l.s/\(uo k l).grp=l.grp:=by unfold uo;split <;> exact⟨rfl,rfl⟩
theorem news_at{k i:Nat}{a:LS}(h:(xh s k).ls[i]?=some a):∃l,s.ls[i]?=some l/\a=uo k l:=by
 have h:(s.ls.map (uo k))[i]?=some a:=h;rw[aj] at h;cases e:s.ls[i]? with
 |none=>rw[e] at h;cases h
 |some l=>rw[e] at h;exact⟨l,rfl,(aQ h).symm⟩
theorem Jv(h:Xx s)(k:Nat):Xx (xh s k):=Rb h rfl λc b=>by
 obtain⟨l,a,rfl⟩:=aV.mp b;exact⟨l,a,W8⟩
theorem A8(h:Xx s)(e:Int):∀m,Xx (jI s e m)
 |0=>h
 |m+1=>by
  rw[iA];split
  ·exact Jv (A8 h e m) m
  ·exact A8 h e m
theorem D7.SK:D7 rs os g (xh s g):=by
 refine⟨λt h=>?_,λc _ f d b a=>?_⟩
 ·have h:t∈fM s.ts g [] g:=h
  rw[cz] at h;cases h
 ·exfalso
  obtain⟨l,e,rfl⟩:=news_at d;unfold uo at b a;split at a
  ·cases a
  ·rename_i z
   rw[eH z] at b;exact z b
theorem D7.news(a:D7 rs os g s)(k:Nat):D7 rs os g (xh s k):=by
 by_cases z:g=k
 ·subst z
  exact D7.SK
 ·refine a.of (λt h=>?_) rfl (λ_ _=>rfl) λc h m f d b=>?_
  ·have h:t∈fM s.ts k [] g:=h
   rw[dN z] at h;exact h
  ·obtain⟨l,i,rfl⟩:=news_at f
   have e:=W8 (l:=l) (k:=k);have j:¬l.grp=k:=λq=>z (by rw[<- d,e.2,q]);unfold uo at b;rw[eH j] at b;exact⟨h,l,i,e.1.symm,e.2▸d,b⟩
theorem D7.O4(a:D7 rs os g s)(e:Int):∀m,D7 rs os g (jI s e m)
 |0=>a
 |m+1=>by
  rw[iA];split
  ·exact (a.O4 e m).news m
  ·exact a.O4 e m
theorem D7.acX{e:Int}(hl:Bl e g=true):∀m,g<m->D7 rs os g (jI s e m)
 |0,h=>eL h (jL _)
 |m+1,h=>by
  rw[iA];by_cases z:g=m
  ·subst z
   rw[ee hl];exact D7.SK
  ·have a:=D7.acX hl m ∅
   split
   ·exact a.news m
   ·exact a
theorem Jw{e:Int}:∀m:Nat,(jI s e m).ws=s.ws/\(jI s e m).R=s.R
 |0=>⟨rfl,rfl⟩
 |m+1=>by
  have a:=Jw (e:=e) m;rw[iA];split <;> exact a
theorem Ld.call{o:cE ns rs}{x:Nat}{d:RM.Row}(h:Ld o s):Ld o (uO s g x d):=by
 unfold uO;split
 ·exact h
 ·refine⟨Jv (s:={s with R:=fM s.R g (RM.upd (s.R g) x d)}) h.sd g,λk a os O=>?_⟩
  by_cases z:k=g
  ·subst z
   exact D7.SK
  ·have O:gk (oU ns rs o s.ws k) (fM s.R g (RM.upd (s.R g) x d) k) os:=O
   rw[dN z] at O;exact D7.news (s:={s with R:=fM s.R g (RM.upd (s.R g) x d)}) ((h.ld k a os O).of (λt h=>h) rfl (λ_ _=>rfl) λc h e i b f=>⟨h,e,i,rfl,b,f⟩) g
theorem Ld.move{o:cE ns rs}{x y:Nat}(h:Ld o s)(j:x<s.groups.length):Ld o (xm s x y):=by
 unfold xm;split
 ·exact h
 ·refine⟨Jv (s:={s with aM:=s.aM.set x y}) h.sd _,λk a os O=>?_⟩
  by_cases z:k=s.groups.getD x 0
  ·subst z
   exact D7.SK
  ·refine D7.news (s:={s with aM:=s.aM.set x y}) ((h.ld k a os O).of (λt h=>h) rfl (λc b=>?_) λc h f i e g=>⟨h,f,i,rfl,e,g⟩) _
   show (s.aM.set x y).getD c 0=s.aM.getD c 0;have d:x≠c:=λq=>by
    subst q;rw[ak,b] at z;exact z rfl
   rw[ak,ak,bT,eH d]
theorem Pd{i:Nat}{r:R5}{w:List Nat}(b:rs[i]?=some r)(a:Bl r.e g=false):yQ rs (s.ws.set i w) g=yQ rs s.ws g:=by
 unfold yQ uX;refine List.filter_congr λk d=>?_;unfold isLive;by_cases e:i=k
 ·subst e
  rw[b];cases c:(s.ws.set i w)[i]? <;> cases f:s.ws[i]? <;> simp[a]
 ·rw[bT,eH e]
theorem Pe{i:Nat}{w f:List Nat}(h:s.ws[i]?=some w)(j:w≠[])(l:f≠[]):yQ rs (s.ws.set i f) g=yQ rs s.ws g:=by
 unfold yQ uX;refine List.filter_congr λk m=>?_;unfold isLive;by_cases e:i=k
 ·subst e
  rw[bT,ee rfl,ee (ai.mp h).1,h];cases rs[i]? with
  |none=>rfl
  |some r =>
   cases w with
   |nil=>exact eL rfl j
   |cons a b =>
    cases f with
    |nil=>exact eL rfl l
    |cons c d=>rfl
 ·rw[bT,eH e]
theorem yP{o:cE ns rs}{R:Nat->RM.Row}{ws a:List (List Nat)}(e:yQ rs a g=yQ rs ws g)(O:gk (oU ns rs o a g) R os):gk (oU ns rs o ws g) R os:=by
 have:oU ns rs o a g=oU ns rs o ws g:=by
  unfold oU;congr 1
 rw[<- this];exact O
theorem SM{i x k:Nat}{a:LS}(h:(oK s i x).ls[k]?=some a):∃l,s.ls[k]?=some l/\a.s=l.s/\a.grp=l.grp/\a.old=l.old:=by
 have m:∀(cs:List Cp) (d:NS) (a:LS),(cs.foldl (oJ i x) d).ls[k]?=some a->∃l,d.ls[k]?=some l/\a.s=l.s/\a.grp=l.grp/\a.old=l.old:=λcs=>by
  induction cs with
  |nil=>exact λd a h=>⟨a,h,rfl,rfl,rfl⟩
  |cons c cs o =>
   intro d a h;obtain⟨g,b,j,f,e⟩:=o (oJ i x d c) a h;unfold oJ at b;split at b
   ·unfold dc at b
    cases q:d.ls[c.l]? with
    |none=>rw[q] at b;exact⟨g,b,j,f,e⟩
    |some n =>
     rw[q] at b;have b:(d.ls.set c.l _)[k]?=some g:=b;rw[gi (ai.mp q).1] at b;by_cases z:k=c.l
     ·rw[ee z] at b
      cases b;exact⟨n,by rw[z];exact q,j,f,e⟩
     ·rw[eH z] at b
      exact⟨g,b,j,f,e⟩
   ·exact⟨g,b,j,f,e⟩
 exact m s.cps s a (by rw[<- fP (l:=s.cps)];exact h)
theorem A9{i x:Nat}:(oK s i x).ws=s.ws/\(oK s i x).R=s.R/\(oK s i x).ts=s.ts/\(oK s i x).aM=s.aM/\(oK s i x).groups=s.groups:=by
 obtain⟨c,b,e,d,a,_⟩:=Ju (s:=s) (i:=i) (x:=x) s.cps.length (av _);exact⟨c,b,e,d,a⟩
theorem D7.lose(a:D7 rs os g s){i x:Nat}:D7 rs os g (oK s i x):=by
 obtain⟨_,_,k,j,n⟩:=A9 (s:=s) (i:=i) (x:=x);refine a.of (λt h=>by rw[k] at h;exact h) n (λ_ _=>by rw[j]) λc h q m d f=>?_;obtain⟨l,o,e,b,p⟩:=SM m;exact⟨(bf.mp h).1,l,o,e.symm,b▸d,p▸f⟩
theorem Pf(h:Xx s){i x:Nat}:Xx (oK s i x):=Rb h (A9 (s:=s) (i:=i) (x:=x)).2.2.2.2 λf d=>by
 obtain⟨k,a⟩:=gY d;obtain⟨l,c,e,b,_⟩:=SM a;exact⟨l,aG c,e,b⟩
theorem D7.ws(a:D7 rs os g s)(ws:List (List Nat)):D7 rs os g {s with ws:=ws}:=a.of (λt h=>h) rfl (λ_ _=>rfl) λc h f b e d=>⟨h,f,b,rfl,e,d⟩
theorem Ld.Ra{o:cE ns rs}{i x:Nat}{w:List Nat}{r:R5}(h:Ld o s)(j:rs[i]?=some r)(l:s.ws[i]?=some w):Ld o (xj s i x w r.e):=by
 have b:=A9 (s:={s with ws:=s.ws.set i (w.filter λz=>decide (z≠x))}) (i:=i) (x:=x);unfold xj;split
 ·obtain⟨f,k⟩:=Jw (s:=oK {s with ws:=s.ws.set i (w.filter λz=>decide (z≠x))} i x) (e:=r.e) 3
  refine⟨A8 (Pf (s:={s with ws:=s.ws.set i (w.filter λz=>decide (z≠x))}) h.sd) _ _,λg c os O=>?_⟩;rw[f,k,b.1,b.2.1] at O;cases q:Bl r.e g with
  |true=>exact D7.acX q 3 c
  |false=>exact ((((h.ld g c os (yP (Pd j q) O)).ws _).lose).O4 _ _)
 ·rename_i d
  have a:(w.filter λz=>decide (z≠x))≠[]:=λz=>d (by rw[z];rfl);refine⟨Pf (s:={s with ws:=s.ws.set i (w.filter λz=>decide (z≠x))}) h.sd,λg c os O=>?_⟩;rw[b.1,b.2.1] at O;exact ((h.ld g c os (yP (Pe l (λz=>a (by rw[z];rfl)) a) O)).ws _).lose
theorem Ld.lay{o:cE ns rs}{i:Nat}{w a:List Nat}{r:R5}(h:Ld o s)(j:rs[i]?=some r)(l:s.ws[i]?=some w)(k:a≠[]):Ld o (Fi s i w a r.e):=by
 unfold Fi;split
 ·obtain⟨d,f⟩:=Jw (s:={s with ws:=s.ws.set i a}) (e:=r.e) 3
  refine⟨A8 (s:={s with ws:=s.ws.set i a}) h.sd _ _,λg b os O=>?_⟩;rw[d,f] at O;cases q:Bl r.e g with
  |true=>exact D7.acX q 3 b
  |false=>exact ((h.ld g b os (yP (Pd j q) O)).ws _).O4 _ _
 ·rename_i c
  exact⟨h.sd,λg b os O=>(h.ld g b os (yP (Pe l (λz=>c (by rw[z];rfl)) k) O)).ws _⟩
end
section
variable{ns:List Int}{rs:List R5}{os:List Nat}{s:NS}{g:Nat}
theorem aaG{l:LS}{h:Nat}{cj:Option Nat}:∀r∈Jr rs s l h cj os,r∈os/\isAt rs (h:Int) r=true/\some r≠cj:=λr d=>by
 unfold Jr at d;obtain⟨x,a,rfl⟩:=aV.mp d;have b:p9 (cj.map λk:Nat=>(k:Int)) x=true:=by
  unfold V1 at a;split at a
  ·exact (bf.mp a).2
  ·split at a
   ·cases a
   ·split at a
    ·split at a
     ·exact (bf.mp a).2
     ·exact (bf.mp a).2
    ·exact (bf.mp a).2
 obtain⟨k,c,rfl⟩:=aV.mp (D5.1 x a);rw[f6];refine⟨(bf.mp c).1,(bf.mp c).2,λz=>?_⟩;rw[<- z] at b;unfold p9 at b;rw[Bool.not_eq_true',decide_eq_false_iff_not] at b;exact b rfl
theorem Ld.post{o:cE ns rs}{x:Nat}{to:Option Nat}(h:Ld o s)(M:x<s.aM.length)(K:x<s.groups.length)(m:∀c∈s.cps,c.l<s.ls.length)(H:gk (oU ns rs o s.ws (s.groups.getD x 0)) (s.R (s.groups.getD x 0)) os):Ld o (uP rs s x to os):=by
 have q:s.groups[x]?=some (s.groups.getD x 0):=by rw[ak,aa K];rfl
 unfold uP;generalize p:s.aM.getD x 0=f;obtain⟨E,I⟩:=Jt (rs:=rs) (os:=os) (h:=f) (cj:=none) (s:=rH s x to) (i:=s.ls.length) (l:={lE s x to with aE:=[.post f]}) (by show (s.ls++[_])[s.ls.length]?=_;rw[p];exact r9);rw[I];have n:=aaG (rs:=rs) (os:=os) (s:=rH s x to) (l:={lE s x to with aE:=[.post f]}) (h:=f) (cj:=none);generalize Jr rs (rH s x to) {lE s x to with aE:=[.post f]} f none os=gs at n;have j:∀b,(rH s x to).ls.set s.ls.length b=s.ls++[b]:=λb=>by
  show (s.ls++[_]).set s.ls.length b=_;rw[vZ _ _ (av _),gz];rfl
 rw[j];refine⟨λb C=>?_,λk v g O=>?_⟩
 ·rcases bG.mp C with z|z
  ·exact h.sd b z
  ·rw[aS.mp z]
   exact q
 ·have a:=h.ld k v g O
  refine⟨λt D=>a.nt t D,λc w b d e A=>?_⟩;have d:(s.ls++[_])[c.l]?=some b:=d;rcases bG.mp w with z|z
  ·rw[bN (m c z)] at d
   exact a.cp c z b d e A
  ·obtain⟨r,G,rfl⟩:=aV.mp z
   rw[r9] at d;cases d;have e:s.groups.getD x 0=k:=e;subst e;have J:=H.uniq O;subst J;have F:=Fo.of O;obtain⟨u,B,_⟩:=n r G;obtain⟨y,L,_⟩:=F.back u B;refine⟨u,y,q,?_⟩;show Rw rs os r (gv rs r (gv rs r f)) (s.aM.getD x 0);rw[L,p];exact .refl
theorem Ld.pass{o:cE ns rs}{a:Nat}{cp:Cp}{l:LS}{ts:List T3}(h:Ld o s)(V:∀c∈s.cps,c.l<s.ls.length)(J:s.cps[a]?=some cp)(hl:s.ls[cp.l]?=some l)(hg:l.grp<3)(M:gk (oU ns rs o s.ws l.grp) (s.R l.grp) os)(pt:ts.Perm (put3 (s.ts l.grp) cp.h l.s cp.r)):Ld o (lF rs s a cp l os ts):=by
 have L:=(ai.mp hl).1;have y:=aG J;have F:=Fo.of M;have n:∀(m:NS) (A:LS),A.s=l.s->A.grp=l.grp->A.old=l.old->m.ls=s.ls.set cp.l A->∀(i:Nat) d,m.ls[i]?=some d->∃e,s.ls[i]?=some e/\e.s=d.s/\e.grp=d.grp/\e.old=d.old:=λm A e1 e2 T I i d p=>by
  rw[I,gi L] at p;by_cases z:i=cp.l
  ·rw[ee z] at p
   cases p;exact⟨l,by rw[z];exact hl,e1.symm,e2.symm,T.symm⟩
  ·rw[eH z] at p
   exact⟨d,p,rfl,rfl,rfl⟩
 have x:∀m:NS,m.groups=s.groups->(∀(i:Nat) d,m.ls[i]?=some d->∃e,s.ls[i]?=some e/\e.s=d.s/\e.grp=d.grp/\e.old=d.old)->Xx m:=λm eg st=>Rb h.sd eg λd G=>by
  obtain⟨i,p⟩:=gY G;obtain⟨e,j,w,u,_⟩:=st i d p;exact⟨e,aG j,w.symm,u.symm⟩
 unfold lF;split
 ·have le:=D6 (s:=s) (a:=a) (cp:=cp) (l:=l) (os:=os) (ts:=ts)
  have ec:(b9 s a cp l os ts).cps=s.cps.eraseIdx a:=by unfold b9;split <;> rfl
  have I:(b9 s a cp l os ts).ls=s.ls.set cp.l {l with aE:=l.aE++[iw l cp os]}:=by unfold b9;split <;> rfl
  obtain⟨had,ed⟩:=Jt (rs:=rs) (os:=os) (h:=cp.h) (cj:=some cp.r) (ug (a:=a) (os:=os) (ts:=ts) hl);rw[ed];have P:=aaG (rs:=rs) (os:=os) (s:=b9 s a cp l os ts) (l:={l with aE:=l.aE++[iw l cp os]}) (h:=cp.h) (cj:=some cp.r);generalize Jr rs (b9 s a cp l os ts) {l with aE:=l.aE++[iw l cp os]} cp.h (some cp.r) os=gs at P;have st:=n {b9 s a cp l os ts with had:=had,cps:=(b9 s a cp l os ts).cps++gs.map λr=>(⟨cp.l,r,ue (b9 s a cp l os ts).ws r (pI {l with aE:=l.aE++[iw l cp os]}),gv rs r cp.h⟩:Cp),ls:=(b9 s a cp l os ts).ls.set cp.l {l with done:=mT l.done cp.h,aE:=l.aE++[iw l cp os]++((oA (b9 s a cp l os ts) {l with aE:=l.aE++[iw l cp os]} cp.h).map (sD.hand cp.h)++gs.map λr=>.send cp.h r (ue (b9 s a cp l os ts).ws r (pI {l with aE:=l.aE++[iw l cp os]})))}} {l with done:=mT l.done cp.h,aE:=l.aE++[iw l cp os]++((oA (b9 s a cp l os ts) {l with aE:=l.aE++[iw l cp os]} cp.h).map (sD.hand cp.h)++gs.map λr=>.send cp.h r (ue (b9 s a cp l os ts).ws r (pI {l with aE:=l.aE++[iw l cp os]})))} rfl rfl rfl (by rw[I,List.set_set]);refine⟨x _ le.2.2.2 st,λk K g O=>?_⟩;have O:gk (oU ns rs o (b9 s a cp l os ts).ws k) ((b9 s a cp l os ts).R k) g:=O;rw[le.1,le.2.1] at O;have b:=h.ld k K g O;have B:∀c,s.groups[c]?=some k->(b9 s a cp l os ts).aM.getD c 0=s.aM.getD c 0:=λc _=>by rw[le.2.2.1]
  refine⟨λt f=>?_,λc v d H E C=>?_⟩
  ·have old:t∈s.ts k->∃h c r:Nat,t=((h:Int),(c:Int),(r:Int))/\Led rs g _ k h c r:=λz=>by
    obtain⟨G,Z,Y,e',q⟩:=b.nt t z;exact⟨G,Z,Y,e',q.of le.2.2.2 B⟩
   have f:t∈(b9 s a cp l os ts).ts k:=f;unfold b9 at f;split at f
   ·exact old f
   ·rename_i no
    have f:t∈fM s.ts l.grp ts k:=f;by_cases z:k=l.grp
    ·subst z
     rw[cz] at f;have f:=pt.mem_iff.mp f;unfold put3 at f;rcases bG.mp f with w'|w'
     ·exact old (bf.mp w').1
     ·refine⟨cp.h,l.s,cp.r,aS.mp w',?_⟩
      exact (b.cp cp y l hl rfl (by simpa using no)).of le.2.2.2 B
    ·rw[dN z] at f
     exact old f
  ·obtain⟨e,j,w,u,D⟩:=st c.l d H
   have v:c∈(b9 s a cp l os ts).cps++_:=v;rw[ec] at v;rcases bG.mp v with z|z
   ·have:=(b.cp c (List.mem_of_mem_eraseIdx z) e j (u.trans E) (D.trans C)).of le.2.2.2 B
    rw[w] at this;exact this
   ·obtain⟨r,U,rfl⟩:=aV.mp z
    have j:s.ls[cp.l]?=some e:=j;rw[hl] at j;cases j;have ek:l.grp=k:=u.trans E;subst ek;have eo:=M.uniq O;subst eo;have q:=b.cp cp y l hl rfl (D.trans C);obtain⟨N,Q,g3⟩:=P r U;obtain⟨b1,X,_⟩:=F.back N Q;have ne:cp.r≠r:=λz=>g3 (by rw[z]);have W:=F.avoid q.1 q.2.1 Q q.2.2.2;have t2:Rw rs os r cp.h (gv rs cp.r cp.h):=.step .refl q.1 ne q.2.1;have S:Led rs os s l.grp (gv rs r cp.h) l.s r:=⟨N,b1,q.2.2.1,by rw[X];exact t2.trans W⟩
    have:=S.of le.2.2.2 B
    rw[w] at this;exact this
 ·have st:=n (p5 s a cp l os) {l with aE:=l.aE++[iw l cp os]} rfl rfl rfl rfl
  refine⟨x _ rfl st,λk K g O=>?_⟩;refine (h.ld k K g O).of (λt h=>h) rfl (λ_ _=>rfl) λc v d H E C=>?_;obtain⟨e,j,w,u,D⟩:=st c.l d H;exact⟨List.mem_of_mem_eraseIdx v,e,j,w,u.trans E,D.trans C⟩
theorem afy{o:cE ns rs}{cl:List (Nat×Nat)}:Ld o (S0 ns rs cl):=⟨λl h=>(by cases h),λg _ os _=>⟨λt h=>(by cases h),λc h=>(by cases h)⟩⟩
end
section
variable{ns:List Int}{rs:List R5}{s s':NS}{n:Nat}
noncomputable def Pg(s:NS):List (List Nat):=s.ls.map λl=>l.done
theorem Zp{i:Nat}{d:sD}:Pg (dc s i d)=Pg s:=by
 unfold dc;cases e:s.ls[i]? with
 |none=>rfl
 |some l =>
  show (s.ls.set i _).map (λl=>l.done)=_;rw[jh];exact wA (by rw[aj,e];rfl)
theorem D8{g:Nat}:Pg (xh s g)=Pg s:=by
 show (s.ls.map (uo g)).map (λl=>l.done)=s.ls.map λl=>l.done;rw[cF];refine cQ λl _=>?_;show (uo g l).done=l.done;unfold uo;split <;> rfl
theorem AL{e:Int}:∀m,Pg (jI s e m)=Pg s
 |0=>rfl
 |m+1=>by
  have a:=AL (e:=e) m;rw[iA];split
  ·rw[D8];exact a
  ·exact a
theorem SN{i x:Nat}:Pg (oK s i x)=Pg s:=by
 have b:∀(cs:List Cp) (a:NS),Pg (cs.foldl (oJ i x) a)=Pg a:=λcs=>by
  induction cs with
  |nil=>exact λ_=>rfl
  |cons c cs d =>
   intro a;rw[jP,d];unfold oJ;split
   ·exact Zp
   ·rfl
 exact b (s.cps.take s.cps.length) s
def Gn(n:Nat)(rs:List R5)(s:NS):Prop:=Ph n rs s<=2*rs.length*s.ls.length
theorem Gn.of(h:Gn n rs s)(d:s'.cps.length<=s.cps.length)(a:Pg s'=Pg s):Gn n rs s':=by
 have b:s'.ls.length=s.ls.length:=by
  have:=fy List.length a
  unfold Pg at this;rw[ah,ah] at this;exact this
 have c:(s'.ls.map λl=>uQ n rs l.done).sum=(s.ls.map λl=>uQ n rs l.done).sum:=by
  have:=fy (λL=>(L.map (uQ n rs)).sum) a
  unfold Pg at this;simp only[cF] at this;exact this
 unfold Gn Ph at h ⊢;rw[b,c];lia
theorem Fw{e:Int}:∀m,(jI s e m).cps=s.cps
 |0=>rfl
 |m+1=>by
  have a:=Fw (e:=e) m;rw[iA];split <;> exact a
theorem Gn.call{g x:Nat}{d:RM.Row}(h:Gn n rs s):Gn n rs (uO s g x d):=by
 unfold uO;split
 ·exact h
 ·exact h.of (av _) D8
theorem Gn.move{x y:Nat}(h:Gn n rs s):Gn n rs (xm s x y):=by
 unfold xm;split
 ·exact h
 ·exact h.of (av _) D8
theorem Gn.Ra{i x:Nat}{w:List Nat}{e:Int}(h:Gn n rs s):Gn n rs (xj s i x w e):=by
 have a:Gn n rs (oK {s with ws:=s.ws.set i (w.filter λz=>decide (z≠x))} i x):=h.of (bB _ _) (SN (s:={s with ws:=s.ws.set i (w.filter λz=>decide (z≠x))}));unfold xj;split
 ·exact a.of (by rw[Fw];exact av _) (AL 3)
 ·exact a
theorem Gn.lay{i:Nat}{w a:List Nat}{e:Int}(h:Gn n rs s):Gn n rs (Fi s i w a e):=by
 unfold Fi;split
 ·exact h.of (by rw[Fw];exact av _) (AL (s:={s with ws:=s.ws.set i a}) 3)
 ·exact h
theorem Jx(e:Pg s'=Pg s):s'.ls.length=s.ls.length:=by
 have:=fy List.length e
 unfold Pg at this;rw[ah,ah] at this;exact this
theorem Zq{g x:Nat}{d:RM.Row}:(uO s g x d).ls.length=s.ls.length:=by
 unfold uO;split
 ·rfl
 ·exact Jx D8
theorem Zr{x y:Nat}:(xm s x y).ls.length=s.ls.length:=by
 unfold xm;split
 ·rfl
 ·exact Jx D8
theorem Zs{i x:Nat}{w:List Nat}{e:Int}:(xj s i x w e).ls.length=s.ls.length:=by
 have a:=Jx (SN (s:={s with ws:=s.ws.set i (w.filter λz=>decide (z≠x))}) (i:=i) (x:=x));unfold xj;split
 ·exact (Jx (AL 3)).trans a
 ·exact a
theorem acZ{i:Nat}{w a:List Nat}{e:Int}:(Fi s i w a e).ls.length=s.ls.length:=by
 unfold Fi;split
 ·exact Jx (AL (s:={s with ws:=s.ws.set i a}) 3)
 ·rfl
theorem Pj{x:Nat}{to:Option Nat}{os:List Nat}:(uP rs s x to os).ls.length=s.ls.length+1:=by
 unfold uP;obtain⟨a,b⟩:=Jt (rs:=rs) (os:=os) (h:=s.aM.getD x 0) (cj:=none) (s:=rH s x to) (i:=s.ls.length) (l:={lE s x to with aE:=[.post (s.aM.getD x 0)]}) r9;rw[b];show ((s.ls++[_]).set _ _).length=_;rw[aX,ay];rfl
theorem Pk{a:Nat}{cp:Cp}{l:LS}{os:List Nat}{ts:List T3}(hl:s.ls[cp.l]?=some l):(lF rs s a cp l os ts).ls.length=s.ls.length:=by
 unfold lF;split
 ·obtain⟨b,c⟩:=Jt (rs:=rs) (os:=os) (h:=cp.h) (cj:=some cp.r) (ug (a:=a) (os:=os) (ts:=ts) hl)
  rw[c];show ((b9 s a cp l os ts).ls.set _ _).length=_;rw[aX];unfold b9;split <;> exact aX
 ·exact aX
theorem Gn.post{os:List Nat}{x:Nat}{to:Option Nat}(F:Fo ns rs os)(h:Gn ns.length rs s)(a:s.aM.getD x 0<ns.length):Gn ns.length rs (uP rs s x to os):=by
 have:=Zm (to:=to) F a
 unfold Gn at h ⊢;rw[Pj,Nat.mul_add,Nat.mul_one];lia
theorem Gn.pass{os:List Nat}{a:Nat}{cp:Cp}{l:LS}{ts:List T3}(F:Fo ns rs os)(h:Gn ns.length rs s)(b:s.cps[a]?=some cp)(hl:s.ls[cp.l]?=some l)(hh:cp.h<ns.length):Gn ns.length rs (lF rs s a cp l os ts):=by
 have:=Zn (ts:=ts) F b hl hh
 unfold Gn at h ⊢;rw[Pk hl];lia
end
section
variable{ns:List Int}{rs:List R5}{s:NS}
def r6(s s':NS):Prop:=∀g,(s'.ts g).length<=(s.ts g).length
theorem Jy{k:Nat}:r6 s (xh s k):=λg=>by
 show (fM s.ts k [] g).length<=_;by_cases e:g=k
 ·subst e
  rw[cz];exact aR _
 ·rw[dN e]
  exact av _
theorem Ba{e:Int}:∀m,r6 s (jI s e m)
 |0=>λ_=>av _
 |m+1=>by
  rw[iA];split
  ·exact λg=>aF (Jy g) (Ba m g)
  ·exact Ba m
theorem W9{g x:Nat}{d:RM.Row}:r6 s (uO s g x d):=by
 unfold uO;split
 ·exact λ_=>av _
 ·exact Jy (s:={s with R:=fM s.R g (RM.upd (s.R g) x d)})
theorem Xa{x y:Nat}:r6 s (xm s x y):=by
 unfold xm;split
 ·exact λ_=>av _
 ·exact Jy (s:={s with aM:=s.aM.set x y})
theorem Xb{i x:Nat}{w:List Nat}{e:Int}:r6 s (xj s i x w e):=λg=>by
 have h:=(A9 (s:={s with ws:=s.ws.set i (w.filter λz=>decide (z≠x))}) (i:=i) (x:=x)).2.2.1;unfold xj;split
 ·refine aF (Ba 3 g) ?_
  rw[h];exact av _
 ·rw[h]
  exact av _
theorem Zt{i:Nat}{w a:List Nat}{e:Int}:r6 s (Fi s i w a e):=by
 unfold Fi;split
 ·exact Ba (s:={s with ws:=s.ws.set i a}) 3
 ·exact λ_=>av _
theorem aaH{i h:Nat}{l:LS}{cj:Option Nat}{os:List Nat}(e:s.ls[i]?=some l):(Uv rs s i h l cj os).ts=s.ts:=by
 obtain⟨a,b⟩:=Jt (rs:=rs) (os:=os) (h:=h) (cj:=cj) e;rw[b]
theorem Zu{x:Nat}{to:Option Nat}{os:List Nat}:(uP rs s x to os).ts=s.ts:=by
 unfold uP;exact aaH (s:=rH s x to) r9
theorem Zv{a:Nat}{cp:Cp}{l:LS}{os:List Nat}{ts:List T3}(hl:s.ls[cp.l]?=some l)(p:ts.Perm (put3 (s.ts l.grp) cp.h l.s cp.r))(g:Nat):((lF rs s a cp l os ts).ts g).length<=(s.ts g).length+1:=by
 have b:((b9 s a cp l os ts).ts g).length<=(s.ts g).length+1:=by
  unfold b9;split
  ·exact dD _
  ·show (fM s.ts l.grp ts g).length<=_
   by_cases e:g=l.grp
   ·subst e
    rw[cz];exact OY p
   ·rw[dN e]
    exact dD _
 unfold lF;split
 ·rw[aaH (ug hl)]
  exact b
 ·exact dD _
end
section
structure xr(ns:List Int)(rs:List R5)(bs:List (List Bool))(cl:List (Nat×Nat))(D:Nat)(s:NS):Prop extends SD ns rs bs cl D s where
 ld:∀o:cE ns rs,Ld o s
 ph:Gn ns.length rs s
 ln:100*s.ls.length<=D
 nb:∀g,100*(s.ts g).length<=D
variable{ns:List Int}{rs:List R5}{bs:List (List Bool)}{cl:List (Nat×Nat)}{D:Nat}{s:NS}
theorem xr.b0(h:xr ns rs bs cl D s):SD ns rs bs cl D s:=⟨h.ok,h.bd,h.ws,h.fit,h.hm,h.gr⟩
theorem xr.mono{a:Nat}(h:xr ns rs bs cl D s)(e:D<=a):xr ns rs bs cl a s:=⟨h.b0.mono e,h.ld,h.ph,aF h.ln e,λg=>aF (h.nb g) e⟩
theorem xr.call{g x:Nat}{d:RM.Row}(h:xr ns rs bs cl D s)(a:BW ns.length rs.length d):xr ns rs bs cl D (uO s g x d):=⟨h.b0.call a,λo=>(h.ld o).call,h.ph.call,by rw[Zq];exact h.ln,λg=>aF (Nat.mul_le_mul_left _ (W9 g)) (h.nb g)⟩
theorem xr.move{x y:Nat}(h:xr ns rs bs cl D s)(a:x<cl.length)(b:y<ns.length):xr ns rs bs (cl.set x (y,cl[x].2)) D (xm s x y):=⟨h.b0.move a b,λo=>(h.ld o).move (by rw[h.gr,ah];exact a),h.ph.move,by rw[Zr];exact h.ln,λg=>aF (Nat.mul_le_mul_left _ (Xa g)) (h.nb g)⟩
theorem xr.aaI(h:xr ns rs bs cl D s){i:Nat}{b:List Bool}(a:bs[i]?=some b):s.ws[i]?=some (stand b):=by rw[h.ws,aj,a];rfl
theorem xr.Ra{i x:Nat}{b:List Bool}{r:R5}(o:cE ns rs)(h:xr ns rs bs cl D s)(a:bs[i]?=some b)(c:rs[i]?=some r):xr ns rs (bs.set i (b.set x false)) cl D (xj s i x (stand b) r.e):=⟨h.b0.Ra o a r.e,λo=>(h.ld o).Ra c (h.aaI a),h.ph.Ra,by rw[Zs];exact h.ln,λg=>aF (Nat.mul_le_mul_left _ (Xb g)) (h.nb g)⟩
theorem xr.lay{i x:Nat}{b:List Bool}{r:R5}{v:Bool}(o:cE ns rs)(h:xr ns rs bs cl D s)(a:bs[i]?=some b)(d:rs[i]?=some r)(c:b[x]?=some v):xr ns rs (bs.set i (b.set x true)) cl D (Fi s i (stand b) (stand (b.set x true)) r.e):=⟨h.b0.lay o a r.e,λo=>(h.ld o).lay d (h.aaI a) (λz=>by
 have:x∈stand (b.set x true):=kj.mpr (by rw[bT,ee rfl,ee (ai.mp c).1])
 rw[z] at this;cases this),h.ph.lay,by rw[acZ];exact h.ln,λg=>aF (Nat.mul_le_mul_left _ (Zt g)) (h.nb g)⟩
theorem xr.post{x:Nat}{to:Option Nat}{os:List Nat}(o:cE ns rs)(h:xr ns rs bs cl D s)(a:x<s.aM.length)(O:gk (oU ns rs o s.ws (s.groups.getD x 0)) (s.R (s.groups.getD x 0)) os)(b:os.length<=12):xr ns rs bs cl (D+100) (uP rs s x to os):=⟨h.b0.post o a O b,λe=>(h.ld e).post a (by rw[h.bd.gl];exact a) (λc d=>(h.bd.cl c d).1) O,h.ph.post (Fo.of O) (h.bd.hm _ (by rw[ak,aa a];exact aK a)),by rw[Pj,Nat.mul_add];exact jJ h.ln 100,λg=>by rw[Zu];exact aF (h.nb g) (gV _ _)⟩
theorem xr.pass{a:Nat}{cp:Cp}{l:LS}{os:List Nat}{ts:List T3}(o:cE ns rs)(h:xr ns rs bs cl D s)(hl:s.ls[cp.l]?=some l)(b:s.cps[a]?=some cp)(O:gk (oU ns rs o s.ws l.grp) (s.R l.grp) os)(d:os.length<=12)(p:ts.Perm (put3 (s.ts l.grp) cp.h l.s cp.r))(i:gh ts):xr ns rs bs cl (D+100) (lF rs s a cp l os ts):=⟨h.b0.pass o hl (ai.mp b).1 O d p i,λf=>(h.ld f).pass (λc e=>(h.bd.cl c e).1) b hl (h.bd.lb l (aG hl)).2.2.1 O p,h.ph.pass (Fo.of O) b hl (h.bd.cl cp (aG b)).2.2,by rw[Pk hl];exact aF h.ln (gV _ _),λg=>by have:=Zv (rs:=rs) (a:=a) (os:=os) hl p g;have:=h.nb g;lia⟩
end
section
variable{P:Program}{w:World}{K:af}{mg:Str->Option Value}{base:Heap}
noncomputable abbrev Zw(cl:List (Nat×Nat)):List (List V):=cl.map λc=>[.int c.1,.int c.2]
structure DX(K:af)(CT:Addr)(h:Hp)(tp ln lr b0 ls:Addr)(mV:List Addr)(pl:Addr)(ns:List Int)(rs:List R5)(bs:List (List Bool))(cl:List (Nat×Nat)):Prop where
 ni:cX K CT h tp ln lr ns rs
 om:LP K h b0 rs
 sts:Z1 h ls mV bs
 tY:∃qp:List Addr,h pl=some (.lst (qp.map V.ref))/\dI K h qp (Zw cl)
 nl:∀l∈mV,l≠tp/\l≠ln/\l≠lr/\l≠b0/\l≠ls/\l≠pl
 np:pl≠tp/\pl≠ln/\pl≠lr/\pl≠b0/\pl≠ls
def Kp(h h':Hp)(mV:List Addr)(pl:Addr):Prop:=∀b o,h b=some o->b∉mV->b≠pl->h' b=some o
section
variable{CT:Addr}{h h' h2:Hp}{tp ln lr b0 ls pl:Addr}{mV:List Addr}{ns:List Int}{rs:List R5}{bs:List (List Bool)}{cl:List (Nat×Nat)}
theorem Kp.of(s:aD h h'):Kp h h' mV pl:=λb o e _ _=>s b o e
theorem Kp.trans(a:Kp h h' mV pl)(b:Kp h' h2 mV pl):Kp h h2 mV pl:=λx o e c d=>b x o (a x o e c d) c d
theorem DX.mono(d:DX K CT h tp ln lr b0 ls mV pl ns rs bs cl)(s:aD h h'):DX K CT h' tp ln lr b0 ls mV pl ns rs bs cl:=by
 obtain⟨c,a,h2⟩:=d.tY;exact⟨d.ni.mono s,d.om.keep (λo z=>s _ _ z) (λb x=>s.dj),d.sts.mono s,⟨c,s _ _ a,h2.mono λb x=>s.dj⟩,d.nl,d.np⟩
theorem DX.aiV(d:DX K CT h tp ln lr b0 ls mV pl ns rs bs cl){i x:Nat}{l:Addr}{b:List Bool}{v:Bool}(hl:mV[i]?=some l)(t:bs[i]?=some b):DX K CT (upd h l (.lst ((b.map V.bl).set x (V.bl v)))) tp ln lr b0 ls mV pl ns rs (bs.set i (b.set x v)) cl:=by
 obtain⟨r,u,k,s,j,g⟩:=d.nl l (aG hl);have n:=d.sts.it i l b hl t;have a:∀c y,cN K h c y->cN K (upd h l (.lst ((b.map V.bl).set x (V.bl v)))) c y:=λc y=>cN.past n iN bU;obtain⟨f,p,m⟩:=d.tY;refine⟨d.ni.keep (λc o e q=>bU c o e ?_) a,d.om.keep (λo e=>bU _ o e (bM s)) a,d.sts.put hl bU (by rw[au,jh]) (bM j),⟨f,bU _ _ p (bM g),m.mono a⟩,d.nl,d.np⟩;rcases q with rfl|rfl|rfl
 ·exact bM r
 ·exact bM u
 ·exact bM k
theorem DX.aiW(d:DX K CT h tp ln lr b0 ls mV pl ns rs bs cl){g:List Addr}{x:Nat}{q:Addr}{c:Nat×Nat}(p:h pl=some (.lst (g.map V.ref)))(k:dI K h g (Zw cl))(hq:cN K h q [.int c.1,.int c.2]):DX K CT (upd h pl (.lst ((g.map V.ref).set x (.ref q)))) tp ln lr b0 ls mV pl ns rs bs (cl.set x c):=by
 obtain⟨t,v,n,u,m⟩:=d.np;have j:∀c y,cN K h c y->cN K (upd h pl (.lst ((g.map V.ref).set x (.ref q)))) c y:=λc y=>cN.past p iN bU;refine⟨d.ni.keep (λc o e q=>bU c o e ?_) j,d.om.keep (λo e=>bU _ o e (bM u)) j,⟨bU _ _ d.sts.at_ (bM m),d.sts.len,d.sts.nd,λi l b a f=>bU _ _ (d.sts.it i l b a f) (d.nl l (aG a)).2.2.2.2.2⟩,⟨g.set x q,by rw[au,jh],?_⟩,d.nl,d.np⟩
 ·rcases q with rfl|rfl|rfl
  ·exact bM t
  ·exact bM v
  ·exact bM n
 ·refine⟨by rw[aX,k.len];simp,λi r y a f=>?_⟩
  rw[aj] at f;rw[bT] at a f;have w:g.length=cl.length:=by rw[k.len,ah]
  by_cases z:x=i
  ·rw[ee z] at a f
   by_cases s:i<cl.length
   ·rw[z,ee ∅] at a
    rw[z,ee s] at f;cases a;cases f;exact j _ _ hq
   ·rw[z,eH ∅] at a
    cases a
  ·rw[eH z] at a f
   exact j _ _ (k.at' i r y a (by rw[aj];exact f))
theorem _root_.TW.cY.past{c:NC}{H:Hp}{F:Addr->Prop}{p:Addr}{n:Nat}{s:NS}(N:cY K c H F p tp n s){z:Addr}{u o:HO}(f:Off H F z=some u)(d:wz u):cY K c (upd H z o) F p tp n s:=by
 obtain⟨nf,a⟩:=nk f;exact N.keep (λb v e g=>bU b v e λw=>nf (w▸g)) (λb x=>cN.past a d bU)
theorem Kp.upd{H:Hp}{F:Addr->Prop}{z:Addr}{o u:HO}(f:Off H F z=some u)(a:z∈mV∨z=pl):Kp (Off H F) (Off (upd H z o) F) mV pl:=λb v e c d=>by
 rw[LO (nk f).1];refine bU b v e λw=>?_;rcases a with y|y
 ·exact c (w▸y)
 ·exact d (w.trans y)
end
inductive Po(K:af)(CT:Addr)(c:NC)(vs:List V)(H:Hp)(Q:VK)(E:XK):Prop
 |mk (F:Addr->Prop) (p tp ln lr b0 ls:Addr) (mV:List Addr) (pl:Addr) (ns:List Int) (rs:List R5) (bs:List (List Bool)) (cl:List (Nat×Nat)) (D:Nat) (s:NS) (kk:Int):vs=[.ref p,.ref b0,.ref ls,.int kk]->cE ns rs->cY K c H F p tp ns.length s->DX K CT (Off H F) tp ln lr b0 ls mV pl ns rs bs cl->xr ns rs bs cl D s->D<=40000->rs≠[]->(∀v s' bs' F' H',cY K c H' F' p tp ns.length s'->DX K CT (Off H' F') tp ln lr b0 ls mV pl ns rs bs' cl->xr ns rs bs' cl D s'->Kp (Off H F) (Off H' F') mV pl->Q (.bl v) H')->Po K CT c vs H Q E
theorem Pp{t:Ad}(T:Txt K mg t):ck P w K mg base iC 5 t.sY t.ye ["_law_net","_law_ropes_here","_law_stood","_law_number"]  (Po K t.bh (nc t)):=by
 refine T.Ij.F.jE zU λH Q E hr h=>?_
 ·obtain⟨F,p,tp,Y,U,b0,ls,mV,pl,ns,rs,bs,cl,D,st,M,rfl,o,N,B,f,hD,hne,k⟩:=h
  refine⟨_,(ao (sS 4 zU (be cP (pv 3) (lS T.gm (pv 1)))) (ao (sS 5 zU (be cP (be dF (pv 3) (lS T.gm (pv 1))) (xT (xL (pv 1) (pv 4)) az))) (ao (BP (UU (xL (xL (pv 2) (pv 4)) (pv 5))) (Eg (xL (pv 2) (pv 4)) (pv 5) set_list)) (ao (cy (mZ (xL (xL (pv 2) (pv 4)) (pv 5))) (oR (cM (pv 0) T.bK T.KW (Q6 T) hr (mP (pv 4) (pv 5)))) bz) (oR (cM (pv 0) T.bK T.Ie (OQ T) hr (mP (pv 4) (pv 5)))))))),?_⟩
  left
  obtain⟨u,hL0,Zx⟩:=B.om;have S:=cZ _ _ hL0;have Tg:u.length=rs.length:=by rw[Zx.len,ah]
  have hrl:0<rs.length:=List.length_pos_iff.mpr hne;have I:(((u.map V.ref).length:Nat):Int)=(rs.length:Int):=by rw[ah,Tg]
  refine⟨_,rfl,_,rfl,b0,_,rfl,.inl (bS.of S),_,_,rfl,rfl,(by rw[I];lia),?_⟩
  try dsimp only
  rw[I];obtain⟨i,ei⟩:∃i:Nat,M%(rs.length:Int)=(i:Int):=⟨_,(kE (bO _ ∅)).symm⟩;have hi:i<rs.length:=by
   have:=bR M (show (0:Int)<(rs.length:Int) by lia)
   lia
  rw[ei];have r:rs[i]?=some rs[i]:=aa hi;have oki:=o.ok _ (aK hi);have hq:(u.map V.ref)[i]?=some (V.ref (u[i]'∅)):=by rw[aj,aa];rfl
  have Z:cN K H (u[i]'∅) (rs[i]).vs:=cZ.dj (Zx.at' i (u[i]'∅) (rs[i]).vs (aa _) (by rw[aj,r];rfl));refine⟨_,rfl,_,rfl,b0,_,rfl,.inl (bS.of S),_,_,rfl,rfl,(by rw[I];exact⟨∅,by have:=o.jw;lia⟩),?_⟩
  try dsimp only
  rw[I];have d1:=oki.d1;refine⟨_,rfl,_,rfl,b0,_,_,_,rfl,rfl,bS.of S,dM hq,_,_,3,_,rfl,rfl,Z,rfl,_,_,rfl,rfl,(by show (0:Int)<rs[i].d;lia),?_⟩
  try dsimp only
  obtain⟨x,ex⟩:∃x:Nat,M/(rs.length:Int)%rs[i].d=(x:Int):=⟨_,(kE (bO _ (show rs[i].d≠0 by lia))).symm⟩;have hx:(x:Int)<rs[i].d:=by
   have:=bR (M/(rs.length:Int)) (show (0:Int)<rs[i].d by lia)
   lia
  rw[ex];obtain⟨b,s,RB⟩:=f.fit.at r;have g:x<b.length:=∅
  have W:=(ai.mp s).1;obtain⟨l,L⟩:∃l,mV[i]?=some l:=⟨_,aa (by rw[B.sts.len];exact W)⟩;have hsl:=B.sts.at_;have J:=B.sts.it i l b L s;have m:Eo (mV.map V.ref) (i:Int)=some (.ref l):=dM (by rw[aj,L];rfl);have R:Eo (b.map V.bl) (x:Int)=some (V.bl b[x]):=dM (by rw[aj,aa g];rfl);have G:=cZ _ _ hsl;have A:=cZ _ _ J;refine⟨_,rfl,_,rfl,ls,_,_,_,rfl,rfl,bS.of G,m,_,rfl,l,_,_,_,rfl,rfl,bS.of A,R,_,rfl,?_⟩;refine⟨_,rfl,_,rfl,ls,_,_,_,rfl,rfl,bS.of G,m,_,rfl,l,_,_,x,rfl,rfl,A,(by rw[ah];exact xE g),?_⟩;have N1:=N.past (o:=.lst ((b.map V.bl).set x (V.bl (!b[x])))) J iN;have j:=B.aiV (x:=x) (v:=!b[x]) L s;rw[<- LO (nk J).1] at j;have n:Kp (Off H F) (Off (upd H l (.lst ((b.map V.bl).set x (V.bl (!b[x]))))) F) mV pl:=Kp.upd J (.inl (aG L));have y:(upd H l (.lst ((b.map V.bl).set x (V.bl (!b[x]))))) l=some (.lst ((b.set x (!b[x])).map V.bl)):=by rw[au,jh]
  generalize upd H l (.lst ((b.map V.bl).set x (V.bl (!b[x]))))=H1 at N1 j n y;have ai0:=cZ _ _ j.sts.at_;have ai1:Eo ((b.set x (!b[x])).map V.bl) (x:Int)=some (V.bl (!b[x])):=dM (by rw[aj,bT,ee rfl,ee g];rfl);refine⟨_,rfl,_,rfl,ls,_,_,_,rfl,rfl,bS.of ai0,m,_,rfl,l,_,_,_,rfl,rfl,bS.of y,ai1,_,rfl,?_⟩;obtain⟨loc,RL,q,hp,O,hF,hT⟩:=id N1;have b5:=O.get .c7 _ rfl;rw[hp] at b5;have W1:NW K (nc t) t.bh H1 F p tp Y U ns rs st:=j.ni.nw N1 λb z=>z;have C:st.ws[i]?=some (stand b):=by rw[f.ws,aj,s];rfl
  have a:b[x]?=some b[x]:=aa g;cases e:b[x] with
  |true =>
   rw[e] at j a;refine eG ?_;have hc:∀cp∈st.cps,cp.l<st.ls.length:=λcp z=>(f.bd.cl cp z).1;have hB:∀l∈st.ls,l.aE.length<=D:=λl z=>by have:=(f.bd.lb l z).1;lia
   have hcb:=f.bd.cb;refine⟨_,rfl,p,_,_,rfl,b5,rfl,_,rfl,_,rfl,F,p,tp,Y,U,ns,rs,st,i,x,stand b,rs[i],D,rfl,W1,o,f.ok,hc,hB,∅,C,r,kj.mpr a,λF2 H2 W2 c=>?_⟩;exact k _ _ _ F2 H2 W2.c7 (j.mono (kQ c)) (f.Ra o s r) (n.trans (Kp.of (kQ c)))
  |false =>
   rw[e] at j a;refine fK ?_;refine⟨_,rfl,p,_,_,rfl,b5,rfl,_,rfl,_,rfl,F,p,tp,Y,U,ns,rs,st,i,x,stand b,rs[i],rfl,W1,o,f.ok,C,r,hx,λz=>?_,λw2 F2 H2 hp2 X W2 c=>?_⟩
   ·rw[kj,a] at z
    cases z
   ·have ew:=TJ a hp2 X
    subst ew;exact k _ _ _ F2 H2 W2.c7 (j.mono (kQ c)) (f.lay o s r a) (n.trans (Kp.of (kQ c)))
noncomputable def GK(x:List Int):PyData:=.tuple (x.map .int)
theorem D9{H:Hp}:∀{qs:List Addr} {xs:List (List Int)},dI K H qs (xs.map λx=>x.map V.int)->c6 K H (xs.map GK) (qs.map V.ref)
 |[],[],_=>rfl
 |[],_::_,h=>by cases h.len
 |_::_,[],h=>by cases h.len
 |q::qs,x::xs,h=>⟨.ref q,qs.map V.ref,rfl,Rep.Hg (ns:=x) (h.at' 0 q _ rfl rfl),D9 ⟨Nat.succ.inj h.len,λi p y a b=>h.at' (i+1) p y a b⟩⟩
theorem Ea:∀xs:List (List Int),PyData.canLayAll0 (xs.map GK)=true
 |[]=>rfl
 |x::xs=>by
  show (PyData.canLayAll0 (x.map .int)&&PyData.canLayAll0 (xs.map GK))=true;rw[Ea xs,kP];rfl
theorem Bb:∀xs:List (List Int),PyData.depthAll (xs.map GK)<=1
 |[]=>!_
 |x::xs=>by
  show max (PyData.depthAll (x.map .int)+1) (PyData.depthAll (xs.map GK))<=1
  have:=Bb xs
  have:=wk x
  lia
theorem MH{ds:List PyData}:(PyData.list ds).eqv (.list [])=ds.isEmpty:=by cases ds <;> rfl
theorem Xc{c:TT}{t u:TS}{D:Ends}{b:L2.St}{H:Hp}(rest:∀a,aD H a->u D b a)(h:(∀a,aD H a->u D b a)->PD c t u D b H):PD c t u D b H:=h rest
theorem uR(y:Int){n:Nat}(h:0<n):∃x:Nat,y%(n:Int)=(x:Int)/\x<n:=by
 have a:=bO y (show (n:Int)≠0 by lia);have b:=bR y (show (0:Int)<(n:Int) by lia);exact⟨(y%(n:Int)).toNat,∅,∅⟩
noncomputable def ym(c:Cp):List Int:=[c.l,c.r,c.w,c.h]
theorem ac1(cps:List Cp):cps.map Cp.vs=(cps.map ym).map λx=>x.map V.int:=by rw[cF];rfl
theorem afE(rs:List R5):rs.map R5.vs=(rs.map R5.ns).map λx=>x.map V.int:=by rw[cF];rfl
noncomputable def Lm(cl:List (Nat×Nat))(x y:Nat):Bool:=decide ((cl.getD y (0,0)).2=(cl.getD x (0,0)).2)
inductive afF(K:af)(vs:List V)(H:Hp)(Q:VK)(E:XK):Prop
 |mk (pl:Addr) (qp:List Addr) (cl:List (Nat×Nat)) (x:Nat) (kk:Int):vs=[.ref pl,.int x,.int kk]->bS K H pl (qp.map V.ref)->dI K H qp (Zw cl)->x<cl.length->cl.length<=20->(∀(to:Option Nat) H',aD H H'->(∀y,to=some y->y<cl.length/\(cl.map (·.2))[y]?=(cl.map (·.2))[x]?)->Q (Ey (to.map λy:Nat=>(y:Int))) H')->afF K vs H Q E
theorem Zz{t:Ad}(T:Txt K mg t):ck P w K mg base iC 1 t.Ib t.Mb ["_law_places","_law_sender","_law_number"]  (afF K):=by
 refine T.Wk.F.jE L7 λH Q E X h=>?_
 ·obtain⟨v,f,cl,x,I,rfl,u,B,m,W,k⟩:=h
  refine⟨_,(ao (BU (i:=3) L7.nd rfl (Or.inl rfl) (kO L7 ["_law_caller","_law_places","_law_sender"] [none,some 0,some 1]) rfl (gu rfl T.jH (gj (lS T.gm (pv 0)))) (λ_ _ _ _=>by exact (gS 0 QB)) (λ_ _ _ _=>by exact (rJ (qT rD (yT K (yL K (pv 1) (pv 0)) az) (yT K (yL K (pv 1) (pv 2)) az)))) (λ_ _ _ _=>by exact (pv 0))) (ao (cy (qT rD (be cP (pv 2) az) az) (oR mY) bz) (oR (xL (pv 3) (be cP (be dF (pv 2) az) (lS T.gm (pv 3))))))),?_⟩
  left
  have U:f.length=cl.length:=by rw[B.len,ah]
  have at':∀{y:Nat} (a:y<cl.length),Eo (f.map V.ref) (y:Int)=some (.ref (f[y]'∅))/\cN K H (f[y]'∅) [.int cl[y].1,.int cl[y].2]:=λ{y} a=>⟨dM (by rw[aj,aa];rfl),B.at' y _ _ (aa _) (by rw[aj,aa a];rfl)⟩;have p:∀{y:Nat} (a:y<cl.length),(cl.getD y (0,0))=cl[y]:=λ{y} a=>by rw[ak,aa a];rfl
  refine⟨_,rfl,v,_,rfl,.inl u,(((f.map V.ref).length:Nat):Int),rfl,∅,by rw[ah];lia,λg d=>?_⟩;rw[ah,U];refine gR (n:=((cl.length:Int)).toNat) (λi s _=>s=bw ((aq i).filter (Lm cl x))) d Es wg rfl ?_ ?_
  ·rintro i s A D b a rfl y Y ⟨rfl,rfl⟩
   rw[gB];have l:i<cl.length:=∅
   obtain⟨M,G⟩:=at' l;obtain⟨S,R⟩:=at' m;refine⟨_,rfl,_,rfl,v,_,_,_,rfl,rfl,b.seq u,M,_,_,1,_,rfl,rfl,b.dj G,rfl,_,rfl,_,rfl,v,_,_,_,rfl,rfl,b.seq u,S,_,_,1,_,rfl,rfl,b.dj R,rfl,rfl,_,rfl,?_⟩;have N:decide (V.int ((cl[i].2:Nat):Int)=V.int ((cl[x].2:Nat):Int))=Lm cl x i:=by
    unfold Lm;rw[p l,p m,decide_eq_decide];exact⟨λz=>by have:=V.int.inj z;lia,λz=>by rw[z]⟩
   try dsimp only
   rw[N];refine iY (λq=>?_) (λq=>?_)
   ·refine⟨_,rfl,?_⟩
    refine fj d D b a ?_ ?_
    ·rw[ah]
     refine bX (aF (bB _ _) ?_);rw[bx];lia
    ·rw[yN,ee q,iy]
   ·refine kh D b a ?_
    rw[yN,eH q,cW]
  rintro s A b a rfl;rw[f6] at a;have c:∀y∈(aq cl.length).filter (Lm cl x),y<cl.length/\(cl.map (·.2))[y]?=(cl.map (·.2))[x]?:=λy z=>by
   obtain⟨O,L⟩:=bf.mp z;have a:=bH.mp O;refine⟨a,?_⟩
   have:=gn L
   rw[p a,p m] at this;rw[aj,aj,aa a,aa m];exact fy some this
  have o:x∈(aq cl.length).filter (Lm cl x):=bf.mpr ⟨bH.mpr m,e8 rfl⟩;generalize (aq cl.length).filter (Lm cl x)=ms at a c o;refine⟨_,rfl,_,_,rfl,rfl,(by show (0:Int)<2;decide),rfl,_,rfl,iY (λe=>?_) (λe=>?_)⟩
  ·exact k none A b (λy z=>by cases z)
  ·have r:0<ms.length:=List.length_pos_of_mem o
   obtain⟨j,J,C⟩:=uR (I/2) r;refine⟨_,rfl,_,rfl,_,_,rfl,rfl,⟨!_,!_⟩,_,rfl,g,_,rfl,.inl (bS.of a),_,_,rfl,rfl,(by show (0:Int)<(((bw ms).length:Nat):Int);rw[ah];lia),?_⟩
   try dsimp only
   rw[ah,J];refine⟨g,_,_,_,rfl,rfl,bS.of a,nj C,?_⟩;exact k (some ms[j]) A b (λy z=>by cases z;exact c _ (aK C))
inductive Xe(K:af)(CT:Addr)(c:NC)(vs:List V)(H:Hp)(Q:VK)(E:XK):Prop
 |mk (F:Addr->Prop) (p tp ln lr b0 ls:Addr) (mV:List Addr) (pl:Addr) (ns:List Int) (rs:List R5) (bs:List (List Bool)) (cl:List (Nat×Nat)) (D:Nat) (s:NS) (g:Nat) (kk:Int):vs=[.ref p,.int (ns.length:Nat),.int g,.ref b0,.ref ls,.ref pl,.int kk]->cE ns rs->cY K c H F p tp ns.length s->DX K CT (Off H F) tp ln lr b0 ls mV pl ns rs bs cl->xr ns rs bs cl D s->D<=30000->g<3->0<cl.length->(∀s' bs' cl' F' H',cY K c H' F' p tp ns.length s'->DX K CT (Off H' F') tp ln lr b0 ls mV pl ns rs bs' cl'->xr ns rs bs' cl' (D+100) s'->cl'.length=cl.length->Kp (Off H F) (Off H' F') mV pl->Q .fk H')->Xe K CT c vs H Q E
theorem UB{t:Ad}(T:Txt K mg t):ck P w K mg base iC 9 t.zV t.Dq ["_law_net","_law_size","_law_group","_law_ropes_here","_law_stood","_law_places","_law_cell"]  (Xe K t.bh (nc t)):=by
 refine T.NT.F.jE AW λH Q E I h=>?_
 ·obtain⟨F,p,C,M,L,b0,ls,mV,n,ns,rs,bs,cl,D,st,g,kk,rfl,o,N,dx,f,hD,hg,hcl,k⟩:=h
  refine⟨_,(ao (sS 7 AW (be cP (pv 6) az)) (ao (sS 8 AW (be dF (pv 6) az)) (bA (cy (qT oH (pv 7) az) (oE (cM (pv 0) T.bK T.Cr (Gk T) I (mP (be cP (pv 8) (pv 1)) (xL (gE (KP (pv 2) (pv 2) (be cP (be dF (pv 8) az) az))) (be cP (be dF (pv 8) az) az))))) (bA (cy (PW.pt (G3 (qT oH (pv 7) az) (C2 (qT Hh (pv 3) (gE gf))))) (oE (cG (Pp T) I T.Ij (Xr (pv 0) (pv 3) (pv 4) (pv 8)))) (bA (cy (qT rD (pv 7) az) (ao (sS 9 AW (be cP (pv 8) (lS T.gm (pv 5)))) (ao (BP (gD (mP (be cP (be dF (pv 8) az) (pv 1)) (xT (xL (pv 5) (pv 9)) az))) (Eg (pv 5) (pv 9) set_list)) (oE (cM (pv 0) T.bK T.Ig (OR T) I (mP (pv 9) (xT (xL (pv 5) (pv 9)) az)))))) (bA (cy (qT rD (pv 7) az) (oE (pJ (pv 0) T.bK T.QD (OW T) (I.mono (!_)) T.QC .nil mK (mP (be cP (pv 8) (lS T.gm (pv 5))) (cG (Zz T) I T.Wk (KP (pv 5) (be cP (pv 8) (lS T.gm (pv 5))) (be dF (pv 8) az)))))) (bA (cy (qT Hh (kM (pv 0) T.bK T.oh.m (BJ T) (I.mono (!_)) T.oh.B .nil mK) (gE gf)) (oE (pJ (pv 0) T.bK T.JQ (Js T) (I.mono (!_)) T.JP .nil mK (gj (be cP (pv 8) (lS T.gm (kM (pv 0) T.bK T.oh.m (BJ T) (I.mono (!_)) T.oh.B .nil mK)))))) bz)))))))))))),?_⟩
  left
  have Xp:=o.Xp;have n1:=o.n1;have vX:cl.length<=20:=by have:=f.bd.vX;rw[f.hm,ah] at this;exact this
  have hml:st.aM.length=cl.length:=by rw[f.hm,ah]
  have k0:∀s' F' W,cY K (nc t) W F' p C ns.length s'->xr ns rs bs cl (D+100) s'->Step H F W F'->Q .fk W:=λs' F' W N' U st'=>k s' bs cl F' W N' (dx.mono (kQ st')) U rfl (Kp.of (kQ st'));refine⟨_,rfl,_,_,rfl,rfl,(by show (0:Int)<9;decide),?_⟩;show gU 7 (V.int (kk%9)) _ _ _;refine⟨_,rfl,_,_,rfl,rfl,⟨!_,!_⟩,?_⟩;show gU 8 (V.int (kk/9)) _ _ _;generalize kk%9=dd;generalize kk/9=m;obtain⟨loc,dxx,q,hp,O,hF,hT⟩:=id N;have b5:=O.get .c7 _ rfl;rw[hp] at b5;refine⟨_,rfl,_,_,rfl,rfl,_,rfl,iY (λe=>?_) (λe=>?_)⟩
  ·
   obtain⟨x,ex,hx⟩:=uR m (show 0<ns.length by lia);obtain⟨y,ey,hy⟩:=uR (m/18) (show 0<3 by decide);obtain⟨z,ez,hz⟩:=uR (m/6) (show 0<3 by decide);refine⟨_,rfl,p,_,_,rfl,b5,rfl,_,rfl,_,rfl,_,_,rfl,rfl,(by show (0:Int)<(ns.length:Int);lia),?_⟩
   try dsimp only
   rw[ex];refine⟨_,rfl,_,rfl,_,rfl,_,_,rfl,rfl,⟨!_,!_⟩,_,_,rfl,rfl,(by show (0:Int)<3;decide),nu,λa S=>?_⟩
   try dsimp only
   rw[show m/18%3=(y:Int) from ey];have r:=aD.new (o:=.lst [V.int g,V.int g,V.int y]) S;have u:=au (H:=H) (a:=a) (o:=.lst [V.int g,V.int g,V.int y]);generalize upd H a (.lst [V.int g,V.int g,V.int y])=J at r u;obtain⟨g',eg',hg'⟩:∃g':Nat,Eo [V.int g,V.int g,V.int y] (z:Int)=some (.int g')/\g'<3:=by
    have:z=0∨z=1∨z=2:=∅
    rcases this with rfl|rfl|rfl
    ·exact⟨g,rfl,hg⟩
    ·exact⟨g,rfl,hg⟩
    ·exact⟨y,rfl,hy⟩
   refine⟨_,rfl,_,_,rfl,rfl,⟨!_,!_⟩,_,_,rfl,rfl,(by show (0:Int)<3;decide),?_⟩
   try dsimp only
   rw[show m/6%3=(z:Int) from ez];have N1:=N.mono r;have W1:NW K (nc t) t.bh J F p C M L ns rs st:=(dx.mono (ig r)).ni.nw N1 λb z=>z;refine⟨a,_,_,_,rfl,rfl,bS.of u,eg',F,p,C,M,L,ns,rs,st,o,x,g',rfl,W1,f.ok,hx,hg',λd F2 A _ hf N2 st2 _=>?_⟩;exact k0 _ F2 A N2 ((f.call hf).mono ∅) ((Step.refl' r).trans st2)
  refine Xc ?_ (λrest=>?_)
  rotate_left
  ·refine⟨_,rfl,_,_,rfl,rfl,_,rfl,iY (λe2=>?_) (λe2=>rest _ (aD.refl _))⟩
   obtain⟨us,hL0,Zx⟩:=dx.om;refine⟨_,rfl,aR _,λa S=>?_⟩;have r:=aD.new (o:=.lst []) S;have u:=au (H:=H) (a:=a) (o:=.lst []);generalize upd H a (.lst [])=J at r u;have WQ:dI K J us ((rs.map R5.ns).map λx=>x.map V.int):=by
    rw[<- afE];exact Zx.mono λb x z=>r.dj (cZ.dj z)
   have eR:rs.map R5.D=(rs.map R5.ns).map GK:=by rw[cF];rfl
   refine⟨.list ((rs.map R5.ns).map GK),.list [],⟨b0,_,rfl,bS.of (r _ _ (cZ _ _ hL0)),D9 WQ⟩,⟨a,[],rfl,bS.of u,rfl⟩,Ea _,rfl,bQ (cC (aF (gA _ _) (by show PyData.depthAll _+1<=64;have:=Bb (rs.map R5.ns);lia)) _) I.units,_,rfl,?_⟩;rw[MH];by_cases er:rs=[]
   ·subst er
    exact eG (rest J r)
   ·have:((rs.map R5.ns).map GK).isEmpty=false:=by cases rs with
     |nil=>exact eL rfl er
     |cons=>rfl
    rw[this];refine fK ?_;have Pz:=dx.mono (ig (F:=F) r);refine⟨_,rfl,_,rfl,_,rfl,_,rfl,F,p,C,M,L,b0,ls,mV,n,ns,rs,bs,cl,D,st,m,rfl,o,N.mono r,Pz,f,∅,er,λv s' bs' F' W N' RL U kp'=>?_⟩;exact k s' bs' cl F' W N' RL (U.mono ∅) rfl ((Kp.of (ig r)).trans kp')
  intro J Z;have N1:=N.mono Z;have Pz:=dx.mono (ig (F:=F) Z);have fY:=Z _ _ b5;have st1:Step H F J F:=Step.refl' Z;have W1:NW K (nc t) t.bh J F p C M L ns rs st:=Pz.ni.nw N1 λb z=>z;obtain⟨s,ZA,ZC⟩:=Pz.tY;have i:=cZ _ _ ZA;have Xd:=ZC.mono λb x z=>cZ.dj z;have eqp:s.length=cl.length:=by rw[Xd.len,ah]
  have UC:(((s.map V.ref).length:Nat):Int)=(cl.length:Int):=by rw[ah,eqp]
  obtain⟨x,ex,hx⟩:=uR m hcl;refine⟨_,rfl,rfl,_,rfl,iY (λe3=>?_) (λe3=>?_)⟩
  ·
   obtain⟨y,ey,hy⟩:=uR (m/6) (show 0<ns.length by lia);have ai4:Eo (s.map V.ref) (x:Int)=some (.ref (s[x]'∅)):=dM (by rw[aj,aa];rfl);have hqx:=Xd.at' x (s[x]'∅) [.int cl[x].1,.int cl[x].2] (aa _) (by rw[aj,aa hx];rfl);refine⟨_,rfl,_,rfl,n,_,rfl,.inl (bS.of i),_,_,rfl,rfl,(by rw[UC];lia),?_⟩
   try dsimp only
   rw[UC,ex];refine⟨_,rfl,_,_,rfl,rfl,⟨!_,!_⟩,_,rfl,_,_,rfl,rfl,(by show (0:Int)<(ns.length:Int);lia),?_⟩
   try dsimp only
   rw[ey];refine⟨_,rfl,_,rfl,n,_,_,_,rfl,rfl,bS.of i,ai4,_,_,1,_,rfl,rfl,hqx,rfl,fO,λa S=>?_⟩;have R:=aD.new (o:=.tup [V.int y,V.int (cl[x].2:Nat)]) S;have X:=au (H:=J) (a:=a) (o:=.tup [V.int y,V.int (cl[x].2:Nat)]);generalize upd J a (.tup [V.int y,V.int (cl[x].2:Nat)])=A at R X;have N2:=N1.mono R;have Y3:=Pz.mono (ig (F:=F) R);have ZD:=ig (F:=F) R _ _ ZA;have ai5:=ZC.mono λb x=>(ig (F:=F) R).dj (a:=b) (xs:=x);refine⟨_,rfl,_,rfl,n,_,_,x,rfl,rfl,R _ _ i,(by rw[ah];exact xE ∅),?_⟩;have N3:=N2.past (o:=.lst ((s.map V.ref).set x (.ref a))) ZD iN;have R9:=Y3.aiW (x:=x) (c:=(y,cl[x].2)) ZD ai5 (N2.ahQ (cN.of X));rw[<- LO (nk ZD).1] at R9;have ry:Kp (Off A F) (Off (upd A n (.lst ((s.map V.ref).set x (.ref a)))) F) mV n:=Kp.upd ZD (.inr rfl);have afG:=au (H:=A) (a:=n) (o:=.lst ((s.map V.ref).set x (.ref a)));have G:cN K (upd A n (.lst ((s.map V.ref).set x (.ref a)))) a [V.int y,V.int (cl[x].2:Nat)]:=cN.past (R _ _ i) iN bU (cN.of X);generalize upd A n (.lst ((s.map V.ref).set x (.ref a)))=H3 at N3 R9 ry afG G;have W3:NW K (nc t) t.bh H3 F p C M L ns rs st:=R9.ni.nw N3 λb z=>z;obtain⟨GJ,ani,q3,hp3,O3,hF3,hT3⟩:=id N3;have zf:=O3.get .c7 _ rfl;rw[hp3] at zf;have ai6:Eo ((s.map V.ref).set x (.ref a)) (x:Int)=some (.ref a):=dM (by rw[bT,ee rfl,ee (by rw[ah];lia)]);refine⟨_,rfl,p,_,_,rfl,zf,rfl,_,rfl,_,rfl,_,rfl,n,_,_,_,rfl,rfl,bS.of afG,ai6,a,_,0,_,rfl,rfl,G,rfl,F,p,C,M,L,ns,rs,st,x,y,rfl,W3,∅,f.bd.gl,f.bd.g3,hy,λF4 H4 W4 GP=>?_⟩;exact k _ bs (cl.set x (y,cl[x].2)) F4 H4 W4.c7 (R9.mono (kQ GP)) ((f.move hx hy).mono ∅) aX (((Kp.of (ig (Z.trans R))).trans ry).trans (Kp.of (kQ GP)))
  refine⟨_,rfl,rfl,_,rfl,iY (λe4=>?_) (λe4=>?_)⟩
  ·
   refine⟨_,rfl,p,_,_,rfl,fY,rfl,_,rfl,_,rfl,n,_,rfl,.inl (bS.of i),_,_,rfl,rfl,(by rw[UC];lia),?_⟩
   try dsimp only
   rw[UC,ex];refine⟨_,rfl,_,rfl,_,rfl,n,_,rfl,.inl (bS.of i),_,_,rfl,rfl,(by rw[UC];lia),?_⟩
   try dsimp only
   rw[UC,ex];refine⟨_,rfl,_,_,rfl,rfl,⟨!_,!_⟩,n,s,cl,x,m/6,rfl,bS.of i,Xd,hx,vX,λto A s2 hto=>?_⟩;have eto:∀y,to=some y->y<st.aM.length/\st.groups[y]?=st.groups[x]?:=λy z=>by
    obtain⟨h1,h2⟩:=hto y z;rw[f.gr];exact⟨∅,h2⟩
   refine⟨F,p,C,M,L,ns,rs,st,o,x,to,D,rfl,W1.mono s2,f.ok,f.bd,∅,∅,eto,λos F3 H3 hO Y W3 st3=>?_⟩;exact k0 _ F3 H3 W3.c7 (f.post o ∅ hO Y) ((Step.refl' (Z.trans s2)).trans st3)
  refine⟨_,rfl,p,_,_,rfl,fY,rfl,F,p,C,ns.length,st,rfl,N1,λlf qf A s2 ank hlf hqf=>?_⟩;refine⟨aR _,λa S=>?_⟩;have u3:=aD.new (o:=.lst []) S;have G:=au (H:=A) (a:=a) (o:=.lst []);generalize upd A a (.lst [])=H3 at u3 G;have ai7:dI K H3 qf ((st.cps.map ym).map λx=>x.map V.int):=by
   rw[<- ac1];exact hqf.mono λb x z=>u3.dj z
  refine⟨.list ((st.cps.map ym).map GK),.list [],⟨lf,_,rfl,bS.of (u3 _ _ hlf),D9 ai7⟩,⟨a,[],rfl,bS.of G,rfl⟩,Ea _,rfl,bQ (cC (aF (gA _ _) (by show PyData.depthAll _+1<=64;have:=Bb (st.cps.map ym);lia)) _) I.units,_,rfl,?_⟩;rw[MH];have Uq:=Z.trans (s2.trans u3);cases ec:st.cps with
  |nil =>
   exact eG (k0 st F H3 (N.mono Uq) (f.mono ∅) (Step.refl' Uq))
  |cons c0 cs0 =>
   rw[<- ec]
   have:((st.cps.map ym).map GK).isEmpty=false:=by rw[ec];rfl
   rw[this];refine fK ?_;have ai8:0<st.cps.length:=by rw[ec];exact Nat.zero_lt_succ _
   obtain⟨j,ej,hj⟩:=uR m ai8;refine⟨_,rfl,p,_,_,rfl,Uq _ _ b5,rfl,_,rfl,_,rfl,p,_,_,rfl,Uq _ _ b5,rfl,F,p,C,ns.length,st,rfl,N.mono Uq,λlf2 qf2 H4 s4 akP ai9 aja=>?_⟩;have eqf:qf2.length=st.cps.length:=by rw[aja.len,ah]
   refine⟨lf2,_,rfl,.inl (bS.of ai9),_,_,rfl,rfl,(by show (0:Int)<(((qf2.map V.ref).length:Nat):Int);rw[ah];lia),?_⟩
   try dsimp only
   rw[ah,eqf,ej];have s14:=Uq.trans s4;have hcj:=aa hj;have QW:=(f.bd.cl _ (aK hj)).1;refine⟨F,p,C,M,L,ns,rs,st,o,j,D,st.cps[j],st.ls[st.cps[j].l],rfl,(W1.mono (s2.trans u3)).mono s4,f.ok,f.bd,∅,hcj,aa QW,λos ts F5 H5 hO Y pts oe W5 MI=>?_⟩;exact k0 _ F5 H5 W5.c7 (f.pass o (aa QW) hcj hO Y pts oe) ((Step.refl' s14).trans MI)
inductive Jz(K:af)(CT:Addr)(c:NC)(vs:List V)(H:Hp)(Q:VK)(E:XK):Prop
 |mk (F:Addr->Prop) (p tp ln lr:Addr) (ns:List Int) (rs:List R5) (bs:List (List Bool)) (cl:List (Nat×Nat)) (D:Nat) (s:NS) (g:Nat):vs=[.ref p,.int (ns.length:Nat),.int g]->cE ns rs->NW K c CT H F p tp ln lr ns rs s->xr ns rs bs cl D s->g<3->(∀s' F' H',NW K c CT H' F' p tp ln lr ns rs s'->xr ns rs bs cl D s'->Step H F H' F'->Q .fk H')->Jz K CT c vs H Q E
theorem Pq{t:Ad}(T:Txt K mg t):ck P w K mg base iC 5 t.sX t.yd ["_law_net","_law_size","_law_group"]  (Jz K t.bh (nc t)):=by
 refine T.Ii.F.jE zT λH Q E hr h=>?_
 ·obtain⟨F,p,C,L,J,ns,y,M,S,D,st,g,rfl,o,N,sd,hg,k⟩:=h
  refine⟨_,(bA (fS (gu rfl T.jH (gj (be U7 az (pv 1)))) (gT 3 zT) (bA (fS (gu rfl T.jH (gj (pv 1))) (gT 4 zT) (oE (cM (pv 0) T.bK T.Cr (Gk T) hr (mP (be cP (be f9 (pv 4) (pv 3)) (pv 1)) (pv 2)))))))),?_⟩
  left
  have Xp:=o.Xp;have n1:=o.n1;refine⟨_,rfl,_,_,rfl,rfl,.inl ⟨!_,!_⟩,2*(ns.length:Int),rfl,∅,∅,se (n:=(2*(ns.length:Int)).toNat) (λi f z=>∃(s:NS) (u:Addr->Prop) (I c:Option V),NW K (nc t) t.bh z u p C L J ns y s/\xr ns y M S D s/\Step H F z u/\f=[some (.ref p),some (.int (ns.length:Nat)),some (.int g),I,c]) ⟨st,F,_,_,N,sd,Step.refl' (aD.refl _),rfl⟩ ?_ ?_⟩
  ·rintro i f z hi ⟨s,u,I,c,B,l,e,rfl⟩
   refine⟨_,rfl,(ns.length:Int),rfl,∅,∅,se (n:=(ns.length:Int).toNat) (λj f A=>∃(m:NS) (r:Addr->Prop) (c:Option V),NW K (nc t) t.bh A r p C L J ns y m/\xr ns y M S D m/\Step H F A r/\f=[some (.ref p),some (.int (ns.length:Nat)),some (.int g),some (.int (0+(i:Int))),c]) ⟨s,u,_,B,l,e,rfl⟩ ?_ ?_⟩
   ·rintro j f A hj ⟨m,r,c,v,a,b,rfl⟩
    obtain⟨loc,dx,q,hp,O,hF,hT⟩:=id v.c7;have U:=O.get .c7 _ rfl;rw[hp] at U;have G:(0:Int)<=(0+(j:Int)+(0+(i:Int)))%(ns.length:Int):=bO _ ∅;have Z:(0+(j:Int)+(0+(i:Int)))%(ns.length:Int)<(ns.length:Int):=bR _ ∅;obtain⟨x,X⟩:∃x:Nat,(0+(j:Int)+(0+(i:Int)))%(ns.length:Int)=(x:Int):=⟨_,(kE G).symm⟩;have hx:x<ns.length:=∅
    refine⟨_,rfl,p,_,_,rfl,U,rfl,_,rfl,_,rfl,_,_,rfl,rfl,_,rfl,_,_,rfl,rfl,∅,?_⟩
    try dsimp only
    rw[X];refine⟨_,rfl,r,p,C,L,J,ns,y,m,o,x,g,rfl,v,a.ok,hx,hg,λd F4 H4 hd Y W R _=>?_⟩;exact⟨_,F4,_,v.done R W,a.call Y,b.trans R,rfl⟩
   ·rintro f A ⟨m,r,c,v,a,b,rfl⟩
    exact⟨m,r,_,_,v,a,b,rfl⟩
  ·rintro f z ⟨s,u,I,c,B,l,e,rfl⟩
   exact k s u z B l e
end
section
variable{ns:List Int}{rs:List R5}{os:List Nat}{f r0:Nat}{D Pn A:List En}{e:En}
structure OJ(ns:List Int)(rs:List R5)(os:List Nat)(f r0:Nat)(D Pn:List En):Prop where
 wj:WJ ns rs os f (⟨f,none⟩::D) Pn
 st:nx rs ⟨f,none⟩ r0∈D++Pn
 cl:∀e∈D,∀r∈goes rs os e,nx rs e r∈D++Pn
theorem OJ.zero(F:Fo ns rs os)(g:r0∈os)(c:isAt rs (f:Int) r0=true)(d:f<ns.length):OJ ns rs os f r0 [] [nx rs ⟨f,none⟩ r0]:=by
 have w:=WJ.next (A:=[]) (B:=[]) (D:=[]) (e:=⟨f,none⟩) (gs:=[r0]) F (WJ.zero d) (-_) λr b=>by
  rw[aS.mp b];exact uh.mpr ⟨g,c,λz=>by cases z⟩
 exact⟨w,aS.mpr rfl,λe a=>by cases a⟩
theorem OJ.next(F:Fo ns rs os)(j:OJ ns rs os f r0 D (A++[e])):OJ ns rs os f r0 (D++[e]) (A++(goes rs os e).map (nx rs e)):=by
 have w:=WJ.next (B:=[]) F j.wj (Zk F) λr a=>a;rw[cW] at w;have c:∀x,x∈D++(A++[e])->x∈(D++[e])++(A++(goes rs os e).map (nx rs e)):=λx b=>by
  simp only[bG,aS] at b ⊢;rcases b with h|h|h
  ·exact .inl (.inl h)
  ·exact .inr (.inl h)
  ·exact .inl (.inr h)
 refine⟨w,c _ j.st,λx b r a=>?_⟩;rcases bG.mp b with h|h
 ·exact c _ (j.cl x h r a)
 ·rw[aS.mp h] at a ⊢
  exact b6 _ (b6 _ (iG a))
theorem OJ.fr(j:OJ ns rs os f r0 D Pn):∀x∈D++Pn,∃r p,x.fr=some (r,p):=λx a=>by
 cases z:x.fr with
 |some q=>exact⟨q.1,q.2,rfl⟩
 |none =>
  exfalso;have h:=j.wj.f0 x (aN _ a) z;have nd:=j.wj.nd;rw[List.cons_append,bL,fG] at nd;exact nd.1 (by show f∈_;rw[<- h];exact iG a)
theorem OJ.len(j:OJ ns rs os f r0 D Pn):D.length+Pn.length+1<=ns.length:=by
 have h:=j.wj.nd.length_le_of_subset (l₂:=aq ns.length) λx b=>by
  obtain⟨e,a,rfl⟩:=aV.mp b;exact bH.mpr (j.wj.lt e a)
 rw[ah,bx,ay,aT] at h;lia
theorem OJ.full(F:Fo ns rs os)(m:r0∈os)(w:isAt rs (f:Int) r0=true)(j:OJ ns rs os f r0 D []){x:Nat}(t:Rw rs os r0 (gv rs r0 f) x):x∈D.map (·.h):=by
 have st:=j.st;rw[cW] at st;have cl:∀e∈D,∀r∈goes rs os e,nx rs e r∈D:=λe c r b=>by have:=j.cl e c r b;rwa [cW] at this
 induction t with
 |refl=>exact aV.mpr ⟨_,st,rfl⟩
 |@step y r t b l i o =>
  obtain⟨e,c,rfl⟩:=aV.mp o;by_cases q:some r=e.by?
  ·obtain⟨s,p,g⟩:=j.fr e (gX _ c)
   unfold En.by? at q;rw[g] at q;have q:r=s:=aQ q;subst q;obtain⟨_,n,v,⟨A,u,a⟩,_⟩:=j.wj.fr e (aN _ (gX _ c)) r p g;have d:gv rs r e.h=p:=by rw[<- v];exact (F.back b n).2.1
   rcases aW.mp u with z|z
   ·exfalso
    rw[z] at a;have a:f=p:=a;have k:=Rw.step t b l i;rw[d,<- a] at k;exact F.cut r0 m f w (F.symm k)
   ·rw[d,<- a]
    exact iG z
  ·exact aV.mpr ⟨_,cl e c r (uh.mpr ⟨b,i,q⟩),rfl⟩
noncomputable def UO(e:En):List Int:=match e.fr with|some (r,p)=>[(p:Int),(r:Int)]|none=>[(e.h:Int),0]
theorem ZE(F:Fo ns rs os){r x:Nat}(f:r∈os)(e:isAt rs (x:Int) r=true):∃re,rs[r]?=some re/\re.a+re.b-(x:Int)=((gv rs r x:Nat):Int):=by
 have c:=F.lt r f;have o:=F.ok _ (aK c);have g:=o.a0;have h:=o.b0;refine⟨rs[r],aa c,?_⟩;have d:isAt rs (x:Int) r=(decide ((x:Int)=rs[r].a) || decide ((x:Int)=rs[r].b)):=by unfold isAt;rw[aa c]
 rw[d,sq,decide_eq_true_iff,decide_eq_true_iff] at e;unfold gv;rw[aa c];show _=((fL rs[r] x:Nat):Int);unfold fL;split <;> lia
end
section
variable{P:Program}{w:World}{K:af}{mg:Str->Option Value}{base:Heap}
theorem LH(h a b:Int):LB (.int h) [.int a,.int b]=(decide (h=a) || decide (h=b)):=by
 have:=kN h [a,b]
 rw[show ([a,b]:List Int).map V.int=[.int a,.int b] from rfl] at this;rw[this];by_cases c:h=a <;> by_cases d:h=b <;> simp[c,d]
structure OI(K:af)(H H2:Hp)(l1 l2:Addr)(D Pn:List En):Prop where
 sm:aD H H2
 n1:H l1=none
 n2:H l2=none
 ne:l1≠l2
 led:H2 l1=some (.lst (bw (D.map (·.h))))
 wt:∃qs:List Addr,H2 l2=some (.lst (qs.map V.ref))/\dI K H2 qs ((Pn.map UO).map λx=>x.map V.int)
theorem OI.new{H c:Hp}{f g a:Addr}{o:HO}{D e:List En}(d:OI K H c f g D e)(h:c a=none):OI K H (upd c a o) f g D e:=by
 have s:=aD.new (o:=o) h;obtain⟨k,i,j⟩:=d.wt;exact⟨d.sm.trans s,d.n1,d.n2,d.ne,s _ _ d.led,k,s _ _ i,j.mono λb x=>s.dj⟩
theorem OI.led'{H c:Hp}{a g:Addr}{D f:List En}(d:OI K H c a g D f)(e:En):OI K H (upd c a (.lst (bw (D.map (·.h))++[V.int e.h]))) a g (D++[e]) f:=by
 obtain⟨k,i,j⟩:=d.wt;refine⟨d.sm.out d.n1,d.n1,d.n2,d.ne,?_,k,by rw[aC (bM d.ne)];exact i,j.mono λb x z=>cN.past d.led iN bU z⟩;rw[au,aO];show _=some (HO.lst (bw (D.map (·.h)++[e.h])));rw[iy]
theorem OI.wt'{H c:Hp}{f e:Addr}{D g a:List En}{qs:List Addr}{ws:List V}(d:OI K H c f e D g)(i:c e=some (.lst ws))(h:dI K c qs ((a.map UO).map λx=>x.map V.int)):OI K H (upd c e (.lst (qs.map V.ref))) f e D a :=
 ⟨d.sm.out d.n2,d.n1,d.n2,d.ne,by rw[aC d.ne];exact d.led,qs,au,h.mono λb x z=>cN.past i iN bU z⟩
inductive Pr(K:af)(vs:List V)(H:Hp)(Q:VK)(E:XK):Prop
 |mk (b lo:Addr) (ns:List Int) (rs:List R5) (os:List Nat) (f r0:Nat):vs=[.ref b,.ref lo,.int f,.int r0]->LP K H b rs->bS K H lo (bw os)->Fo ns rs os->r0∈os->isAt rs (f:Int) r0=true->f<ns.length->rs.length<=20->ns.length<=10->(∀l H' (xs:List Nat),aD H H'->H' l=some (.lst (bw xs))->(∀x,Rw rs os r0 (gv rs r0 f) x->x∈xs)->Q (.ref l) H')->Pr K vs H Q E
theorem UD{t:Ad}(T:Txt K mg t):ck P w K mg base iC 1 t.zW t.Dr ["_law_ropes_here","_law_opened","_law_house","_law_rope"]  (Pr K):=by
 refine T.NU.F.jE oY λH Q E hr h=>?_
 ·obtain⟨b,lo,ns,rs,os,f,I,rfl,hB,hO,F,h0,hat,hf,jw,Xp,k⟩:=h
  refine⟨_,(ao (sS 4 oY (gE gf)) (ao (sS 5 oY (gE (gj (gD (mP (pv 2) (pv 3)))))) (ao (MR PassesOwn.never (PW.pt (G3 (qT Hh (pv 5) (gE gf)) (C2 (qT oH (lS T.gm (pv 4)) az)))) (ao (BP (Vp br PySem.F.slot_list_pop PySem.F.type_list_pop abg (pv 5)) (PF (n:=2) rfl (m5 (gT 6 oY) (m5 (gT 7 oY) GN)))) (ao (sS 8 oY (be Eh (be f9 (xT (xL (pv 0) (pv 7)) az) (xT (xL (pv 0) (pv 7)) az)) (pv 6))) (ao (dS (rE br bF bE eX (pv 4) (gj (pv 8)))) (bA (fS (fq (pv 1)) (gT 9 oY) (bA (cy (PW.pt (G3 (qT we (pv 9) (pv 7)) (C2 (iE oO (pv 8) (sy Em (xL (pv 0) (pv 9)) C8 (pK az)) (by with_unfolding_all rfl))))) (oE (rE br bF bE eX (pv 5) (gj (gD (mP (pv 8) (pv 9)))))) bz)))))))) (oR (pv 4))))),?_⟩
  left
  obtain⟨us,hL,XS⟩:=id hB;have Tg:us.length=rs.length:=by rw[XS.len,ah]
  refine bW λNx c=>?_;refine⟨aR _,λp hl1=>c _ _ ?_⟩;have u1:=aD.new (o:=.lst []) hl1;have g1:=au (H:=H) (a:=p) (o:=.lst []);generalize upd H p (.lst [])=H1 at u1 g1;refine bW λNx c=>?_;refine⟨_,rfl,_,rfl,fO,λR hz1=>⟨z0,λl O=>c _ _ ?_⟩⟩;have u2:=aD.new (o:=.tup [V.int f,V.int I]) hz1;have u3:=aD.new (o:=.lst [V.ref R]) O;have g2:=u3 _ _ (au (H:=H1) (a:=R) (o:=.tup [V.int f,V.int I]));have g3:=au (H:=upd H1 R (.tup [V.int f,V.int I])) (a:=l) (o:=.lst [V.ref R]);have afI:=u1.free (u2.free O);have nl:p≠l:=aJ (u2 _ _ g1) O;have S:=u2.trans u3;generalize upd (upd H1 R (.tup [V.int f,V.int I])) l (.lst [V.ref R])=H2 at S g2 g3;have d0:OI K H H2 p l [] [nx rs ⟨f,none⟩ I]:=by
   refine⟨u1.trans S,hl1,afI,nl,S _ _ g1,[R],g3,⟨rfl,λi q y C L=>?_⟩⟩;cases i with
   |zero=>cases C;cases L;exact cN.of g2
   |succ i=>cases C
  have j0:=OJ.zero F h0 hat hf;refine X0 (λm M H3=>∃(D u:List En) (v6 v7 v8 v9:Option V),M=[some (.ref b),some (.ref lo),some (.int f),some (.int I),some (.ref p),some (.ref l),v6,v7,v8,v9]/\OI K H H3 p l D u/\OJ ns rs os f I D u/\m=20-D.length) 20 ⟨[],_,_,_,_,_,rfl,d0,j0,rfl⟩ ?_ ?_
  ·rintro m M H3 ⟨D,u,v6,v7,v8,v9,rfl,d,j,rfl⟩
   have jl:=j.len;obtain⟨qw,s,G⟩:=d.wt;refine⟨_,rfl,aR _,λa ha=>?_⟩;have J:=d.new (o:=.lst []) ha;have ha1:=au (H:=H3) (a:=a) (o:=.lst []);generalize upd H3 a (.lst [])=H4 at J ha1;obtain⟨qw,s,G⟩:=J.wt;have U:qw.length=u.length:=by rw[G.len,ah,ah]
   refine⟨.list ((u.map UO).map GK),.list [],⟨l,_,rfl,bS.of s,D9 G⟩,⟨a,[],rfl,bS.of ha1,rfl⟩,Ea _,rfl,bQ (cC (aF (gA _ _) (by show PyData.depthAll _+1<=64;have:=Bb (u.map UO);lia)) _) hr.units,_,rfl,?_⟩;rw[MH];by_cases ep:u=[]
   case pos =>
    subst ep;refine eG (eG ?_);exact⟨_,rfl,k p H4 _ J.sm J.led λx hx=>j.full F h0 hat hx⟩
   have:((u.map UO).map GK).isEmpty=false:=by
    cases u with
    |nil=>exact eL rfl ep
    |cons=>rfl
   rw[this];refine fK ?_;refine⟨_,rfl,p,_,rfl,.inl (bS.of J.led),_,_,rfl,rfl,_,rfl,?_⟩;rw[ah,ah,e8 (show (D.length:Int)<20 by lia)];refine fK ?_;obtain⟨A,e,rfl⟩:∃A e,u=A++[e]:=⟨u.dropLast,u.getLast ep,(List.dropLast_concat_getLast ep).symm⟩;obtain⟨Y,q,rfl⟩:∃Y q,qw=Y++[q]:=by
    have:qw≠[]:=λz=>by rw[z,ay] at U;simp at U
    exact⟨qw.dropLast,qw.getLast this,(List.dropLast_concat_getLast this).symm⟩
   have eqa:Y.length=A.length:=by simpa using U
   have hem:e∈D++(A++[e]):=-_
   obtain⟨r,X,ef⟩:=j.fr e hem;obtain⟨w1,w2,w3,_⟩:=j.wj.fr e (aN _ hem) r X ef;have hpp:UO e=[(X:Int),(r:Int)]:=by unfold UO;rw[ef]
   have hq:=G.at' Y.length q [V.int X,V.int r] (-_) (by rw[aj,aj,cu ∅,eqa,gz];show some _=_;rw[hpp];rfl);have hqa:dI K H4 Y ((A.map UO).map λx=>x.map V.int):=⟨by rw[ah,ah];exact eqa,λi q y C L=>G.at' i q y (by rw[bN (ai.mp C).1];exact C) (by
    rw[aO,aO,bN (ai.mp L).1];exact L)⟩
   have hrl:=F.lt r w1;obtain⟨re,Y8,YN⟩:=ZE F w1 w2;have cat:∀{H5:Hp},aD H H5->∀{i:Nat} (hi:i<rs.length),bS K H5 b (us.map V.ref)/\∃q,Eo (us.map V.ref) (i:Int)=some (.ref q)/\cN K H5 q (rs[i]).vs:=λ{H5} s5 {i} hi=>⟨bS.of (s5 _ _ hL),us[i]'∅,dM (by rw[aj,aa];rfl),s5.dj (XS.at' i _ _ (aa _) (by rw[aj,aa hi];rfl))⟩;refine bW λNx c=>?_;refine⟨_,rfl,.inl ⟨rfl,_,bS.of s⟩,l,_,.ref q,rfl,rfl,s,-_,?_⟩;rw[aO,List.map_singleton,List.dropLast_concat];have Z:=J.wt' s hqa;have hq2:cN K (upd H4 l (.lst (Y.map V.ref))) q [V.int X,V.int r]:=cN.past s iN bU hq;generalize upd H4 l (.lst (Y.map V.ref))=H5 at Z hq2;refine⟨_,_,rfl,hq2,rfl,_,_,rfl,_,_,rfl,rfl,c _ _ ?_⟩;obtain⟨c1,q1,c2,c3⟩:=cat Z.sm hrl;have eF:rs[r].a+rs[r].b-(X:Int)=((e.h:Nat):Int):=by
    rw[aa hrl] at Y8;cases Y8;rw[YN,w3]
   refine bW λNx c=>?_;refine⟨_,rfl,_,rfl,b,_,_,_,rfl,rfl,c1,c2,q1,_,0,_,rfl,rfl,c3,rfl,_,rfl,_,rfl,b,_,_,_,rfl,rfl,c1,c2,q1,_,1,_,rfl,rfl,c3,rfl,_,_,rfl,rfl,_,rfl,_,_,rfl,rfl,?_⟩;show gU 8 (V.int (rs[r].a+rs[r].b-(X:Int))) _ _ _;rw[eF];refine c _ _ ?_;refine bW λNx c=>?_;refine⟨_,rfl,.inl ⟨rfl,_,bS.of Z.led⟩,_,rfl,p,_,_,rfl,rfl,Z.led,?_,c _ _ ?_⟩
   ·rw[ah,ah]
    exact bX ∅
   have d3:=Z.led' e;generalize upd H5 p (.lst (bw (D.map (·.h))++[V.int e.h]))=H6 at d3;have hO6:=d3.sm.seq hO;have jn:=j.next F;have gl:=jn.len;rw[ay,ay,ah] at gl;let B:Nat->Bool:=λr=>isAt rs (e.h:Int) r&&!decide (some r=e.by?);refine⟨_,rfl,lo,rfl,⟨_,hO6⟩,wo (K:=K) (a:=lo) (xs:=bw os) (λi M N=>∃v9:Option V,M=[some (.ref b),some (.ref lo),some (.int f),some (.int I),some (.ref p),some (.ref l),some (.int X),some (.int r),some (.int e.h),v9]/\OI K H N p l (D++[e]) (A++((os.take i).filter B).map (nx rs e))) ⟨_,rfl,by rw[List.take_zero];show OI _ _ _ _ _ _ (A++[]);rw[cW];exact d3⟩ (λi M N _ ⟨_,_,z⟩=>z.sm.seq hO) ?_ ?_⟩
   ·rintro i y M N Nx c hi ⟨v9,rfl,d7⟩
    have W:i<os.length:=by
     have:=(ai.mp hi).1
     rw[ah] at this;exact this
    rw[aj,aa W] at hi;cases hi;have hm:os[i]∈os:=aK W;have et:os.take (i+1)=os.take i++[os[i]]:=by rw[oF,aa W];rfl
    rw[et] at c;generalize os[i]=x at hm c;have hx:=F.lt x hm;have gx:B x=(isAt rs (e.h:Int) x&&!decide (x=r)):=by
     show (isAt rs (e.h:Int) x&&!decide (some x=e.by?))=_;unfold En.by?;rw[ef];show (_&&!decide (some x=some r))=_;congr 2;exact decide_eq_decide.mpr ⟨λz=>aQ z,λz=>by rw[z]⟩
    have skip:∀H8,B x=false->OI K H H8 p l (D++[e]) (A++((os.take i).filter B).map (nx rs e))->OI K H H8 p l (D++[e]) (A++((os.take i++[x]).filter B).map (nx rs e)):=λH8 z d=>by
     rw[eO,dm,z]
     simpa using d
    refine⟨_,rfl,_,rfl,rfl,_,rfl,iY (λC=>?_) (λC=>eG (c _ _ ⟨_,rfl,skip N ?_ d7⟩))⟩
    rotate_left
    ·rw[gx]
     have e1':(x:Int)=r:=by simpa using C
     have:x=r:=∅
     rw[this];simp
    have C:x≠r:=λz=>by rw[z] at C;simp at C
    obtain⟨c1,q1,c2,c3⟩:=cat d7.sm hx;have nw:¬(HT.kg (rs[x]).vs.length 0 none=0/\HT.kg (rs[x]).vs.length (rs[x]).vs.length (some 2)=(rs[x]).vs.length):=λz=>eL z.2 (by show HT.kg 5 5 (some 2)≠5;decide);have ct:El (rs[x]).vs none (some 2)=[V.int rs[x].a,V.int rs[x].b]:=rfl;refine⟨_,rfl,_,rfl,_,rfl,b,_,_,_,rfl,rfl,c1,c2,_,rfl,q1,_,rfl,c3,nw,λz3 k9=>?_⟩;rw[ct];have d8:=d7.new (o:=.tup [V.int rs[x].a,V.int rs[x].b]) k9;have hz8:=au (H:=N) (a:=z3) (o:=.tup [V.int rs[x].a,V.int rs[x].b]);generalize upd N z3 (.tup [V.int rs[x].a,V.int rs[x].b])=H8 at d8 hz8;refine⟨z3,_,rfl,.inr (cN.of hz8),rfl,rfl,_,rfl,?_⟩
    try dsimp only
    rw[eH aB,LH];have ei:(decide ((e.h:Int)=rs[x].a) || decide ((e.h:Int)=rs[x].b))=isAt rs (e.h:Int) x:=by unfold isAt;rw[aa hx]
    rw[ei];refine iY (λL=>?_) (λL=>c _ _ ⟨_,rfl,skip H8 (by rw[gx,neT L];rfl) d8⟩);obtain⟨qv,hv1,hv2⟩:=id d8.wt;have eqv:qv.length=A.length+((os.take i).filter B).length:=by rw[hv2.len,ah,ah,ay,ah]
    refine⟨_,rfl,.inl ⟨rfl,_,bS.of hv1⟩,_,rfl,_,rfl,fO,λz4 hz4=>?_⟩;have d9:=d8.new (o:=.tup [V.int e.h,V.int x]) hz4;have u9:=aD.new (o:=.tup [V.int e.h,V.int x]) hz4;have hz9:=au (H:=H8) (a:=z4) (o:=.tup [V.int e.h,V.int x]);generalize upd H8 z4 (.tup [V.int e.h,V.int x])=H9 at d9 hz9 u9;have hv9:=u9 _ _ hv1;have hw9:dI K H9 (qv++[z4]) (((A++((os.take i++[x]).filter B).map (nx rs e)).map UO).map λy=>y.map V.int):=by
     have ev:(A++((os.take i++[x]).filter B).map (nx rs e)).map UO=(A++((os.take i).filter B).map (nx rs e)).map UO++[UO (nx rs e x)]:=by
      rw[eO,dm,gx,L];rw[ff C];simp
     rw[ev,aO];exact (hv2.mono λb x=>u9.dj).snoc (cN.of hz9)
    refine⟨l,_,_,rfl,rfl,hv9,?_,?_⟩
    ·rw[ah,eqv]
     have:((os.take i).filter B).length<=(os.filter B).length:=List.Sublist.length_le ((List.take_sublist _ _).filter _)
     have gl:D.length+[e].length+(A.length+(os.filter B).length)+1<=ns.length:=gl;exact bX ∅
    ·have:=d9.wt' hv9 hw9
     rw[aO] at this;exact c _ _ ⟨_,rfl,this⟩
   ·rintro M N ⟨v9,rfl,d7⟩
    rw[ah,fP] at d7;exact⟨20-(D++[e]).length,by rw[ay];show 20-(D.length+1)<_;lia,_,_,_,_,_,_,rfl,d7,jn,rfl⟩
  ·rintro M H3 Q1 Q2 hq ⟨v,e,z,f⟩
   refine⟨v,e,z,λa ha=>?_⟩;obtain⟨J,Z,r1,r2,y1,y2,bd,b,eb,g⟩:=f a ha;refine⟨J,Z,r1,r2,y1,y2,bd,b,eb,?_⟩;cases b with
   |true =>
    rw[ee rfl] at g ⊢;obtain⟨g1,g2,g3,g4,g5,g6,g7,g8,g9,g10,g11,g12,g13⟩:=g;exact⟨g1,g2,g3,g4,g5,g6,g7,g8,g9,g10,g11,g12,hq _ _ g13⟩
   |false =>
    rw[eH aB] at g ⊢;exact hq _ _ g
end
section
variable{K:af}
noncomputable def Xy(t:T3):PyData:=.tuple (([t.1,t.2.1,t.2.2]:List Int).map .int)
theorem JA{H:Hp}:∀{qs:List Addr} {us:List T3},iz K H qs us->c6 K H (us.map Xy) (qs.map V.ref)
 |[],[],_=>rfl
 |[],_::_,h=>by cases h.1
 |_::_,[],h=>by cases h.1
 |q::qs,u::us,h=>⟨.ref q,qs.map V.ref,rfl,Rep.Hg (ns:=[u.1,u.2.1,u.2.2]) (h.2 0 q u rfl rfl),JA ⟨Nat.succ.inj h.1,λi p x a b=>h.2 (i+1) p x a b⟩⟩
theorem Eb:∀us:List T3,PyData.canLayAll0 (us.map Xy)=true
 |[]=>rfl
 |u::us=>by
  show (PyData.canLayAll0 (([u.1,u.2.1,u.2.2]:List Int).map .int)&&PyData.canLayAll0 (us.map Xy))=true;rw[Eb us,kP];rfl
theorem Ln:∀us:List T3,PyData.depthAll (us.map Xy)<=1
 |[]=>!_
 |u::us=>by
  show max (PyData.depthAll (([u.1,u.2.1,u.2.2]:List Int).map .int)+1) (PyData.depthAll (us.map Xy))<=1
  have:=Ln us
  have:=wk [u.1,u.2.1,u.2.2]
  lia
end
theorem Rc{X:Cx}(K:af)(h:X.K=K):oG X (.builtin "isinstance") (λxs H Q=>∃(a:Addr) (c:List V) (n:String) (b:Bool),xs=[.ref a,.ty n]/\cN K H a c/\PySem.W.kitOne K (.type "tuple") (.type n)=some b/\Q (.bl b) H):=by subst h;exact Tt
section
variable{ns:List Int}{rs:List R5}{bs:List (List Bool)}{cl:List (Nat×Nat)}{D g:Nat}{s:NS}{os:List Nat}
theorem Fo.afJ(F:Fo ns rs os){r x:Nat}(a:r∈os)(b:isAt rs (x:Int) r=true):x<ns.length:=by
 obtain⟨d,c,_,_⟩:=F.back a b
 have:=(F.back a d).2.2.2
 rw[c] at this;exact this
structure Nt(ns:List Int)(rs:List R5)(os:List Nat)(cl:List (Nat×Nat))(g h c r:Nat):Prop where
 hh:h<ns.length
 hc:c<cl.length
 hg:(cl.getD c (0,0)).2=g
 ne:(cl.getD c (0,0)).1≠h
 hr:r∈os
 at_:isAt rs (h:Int) r=true
 rw_:Rw rs os r (gv rs r h) (cl.getD c (0,0)).1
theorem xr.nt(o:cE ns rs)(k:xr ns rs bs cl D s)(m:g<3)(O:gk (oU ns rs o s.ws g) (s.R g) os):∀t∈s.ts g,∃h c r:Nat,t=((h:Int),(c:Int),(r:Int))/\Nt ns rs os cl g h c r:=λt l=>by
 obtain⟨h,c,r,e,f,i,a,d⟩:=((k.ld o).ld g m os O).nt t l;have F:=Fo.of O;rw[k.gr,aj] at a;cases b:cl[c]? with
 |none=>rw[b] at a;cases a
 |some p =>
  rw[b] at a;have a:p.2=g:=aQ a;have j:cl.getD c (0,0)=p:=by rw[ak,b];rfl
  have n:s.aM.getD c 0=p.1:=by rw[k.hm,ak,aj,b];rfl
  rw[n] at d;refine⟨h,c,r,e,F.afJ f i,(ai.mp b).1,by rw[j];exact a,λz=>?_,f,i,by rw[j];exact d⟩;rw[j] at z;rw[z] at d;exact F.cut r f h i (F.symm d)
end
section
variable{P:Program}{w:World}{K:af}{mg:Str->Option Value}{base:Heap}
theorem Xf{H:Hp}{qs:List Addr}{ts:List T2}{a:Addr}{xs d:List V}(h:xM K H qs ts)(c:H a=some (.lst xs)):xM K (upd H a (.lst d)) qs ts:=⟨h.1,λi q t x b=>cN.past c iN bU (h.2 i q t x b)⟩
theorem Xg{H:Hp}{qs:List Addr}{ts:List T2}{q:Addr}{t:T2}(h:xM K H qs ts)(hq:cN K H q (n7 t)):xM K H (qs++[q]) (ts++[t]):=by
 refine⟨by rw[ay,ay,h.1];rfl,λi p x b a=>?_⟩;rcases AS b with b|⟨rfl,rfl⟩
 ·rw[bN (by rw[<- h.1];exact (ai.mp b).1)] at a
  exact h.2 i p x b a
 ·rw[cu (by rw[h.1];exact av _),h.1,gz] at a
  cases a;exact hq
inductive Pu(K:af)(CT:Addr)(c:NC)(vs:List V)(H:Hp)(Q:VK)(E:XK):Prop
 |mk (F:Addr->Prop) (p tp ln lr b0 pl:Addr) (qp:List Addr) (ns:List Int) (rs:List R5) (bs:List (List Bool)) (cl:List (Nat×Nat)) (D:Nat) (s:NS) (g:Nat):vs=[.ref p,.ref b0,.ref pl,.int g]->cE ns rs->NW K c CT H F p tp ln lr ns rs s->xr ns rs bs cl D s->LP K H b0 rs->bS K H pl (qp.map V.ref)->dI K H qp (cl.map λc=>[.int c.1,.int c.2])->D<=3600->g<3->(∀H',aD H H'->Q (.bl true) H')->Pu K CT c vs H Q E
theorem UE{t:Ad}(T:Txt K mg t):ck P w K mg base iC 7 t.zX t.Dt ["_law_net","_law_ropes_here","_law_places","_law_group"]  (Pu K t.bh (nc t)):=by
 refine T.NV.F.jE mQ λH Q E hr h=>?_
 ·obtain⟨F,p,tp,ln,lr,b0,pl,qp,ns,rs,Z,cl,D,st,g,rfl,o,W,sd,hB,hP,Xd,hD,hg,k⟩:=h
  refine⟨_,(ao (sS 4 mQ (cM (pv 0) T.bK T.FN (MD T) hr (gj (pv 3)))) (ao (sS 5 mQ (cM (pv 0) T.bK T.z8 (DY T) hr (gj (pv 3)))) (ao (cy (PW.pt (C3 (iL (mZ (cB Tu T.rZ boot_isinstance (mP (pv 4) (GL rfl T.vA boot_list (v:=.ty "list") rfl))))) (BO (iL (mZ (cB (VC rfl) T.aeL boot_all (gj (gQ (kO mQ ["_law_note"] [none]) rfl (fq (pv 4)) (λ_ _ _ _=>by exact (gS 0 L8)) (λ_ _ _ _=>by exact lM) (λ_ _ _ _=>by exact (Ls (cB (Rc K rfl) T.rZ boot_isinstance (mP (pv 0) (GL rfl T.YH boot_tuple (v:=.ty "tuple") rfl))) (PB (qE rD (cB (JH K rfl) T.gm PySem.boot_len (gj (pv 0))) az)))))))))))) oB bz) (ao (cy (PW.pt (C3 (qT Hh (pv 4) (cB Dj T.DE boot_sorted (gj (pv 4)))) (BO (qT we (Ub rfl hr.units rfl T.gm rfl T.aad (gj (gQ (kO mQ ["_law_note"] [none]) rfl (fq (pv 4)) (λ_ _ _ _=>by exact (gS 0 Ma)) (λ_ _ _ _=>by exact lM) (λ_ _ _ _=>by exact (sy (XY K rfl) (pv 0) C8 (pK az)))))) (lS T.gm (pv 4)))))) oB bz) (ao (fS (fq (pv 4)) (PF (n:=3) rfl (m5 (gT 6 mQ) (m5 (gT 7 mQ) (m5 (gT 8 mQ) GN)))) (ao (cy (PW.pt (C3 (iL (mZ (cG (CP T) hr T.A5 (gj (pv 6))))) (C3 (iL (mZ (cG (CP T) hr T.A5 (gj (pv 7))))) (BO (iL (mZ (cG (CP T) hr T.A5 (gj (pv 8))))))))) oB bz) (ao (cy (PW.pt (C3 (iL (jj p7 oH az (pv 7) (lS T.gm (pv 2)))) (C3 (qT we (xT (xL (pv 2) (pv 7)) az) (pv 3)) (BO (qT rD (xT (xL (pv 2) (pv 7)) az) (pv 6)))))) oB bz) (ao (cy (PW.pt (C3 (iE i0 (pv 8) (pv 5) (by with_unfolding_all rfl)) (BO (iE i0 (pv 6) (sy Em (xL (pv 1) (pv 8)) C8 (pK az)) (by with_unfolding_all rfl))))) oB bz) (bA (cy (iE i0 (xT (xL (pv 2) (pv 7)) az) (cG (UD T) hr T.NU (Xr (pv 1) (pv 5) (pv 6) (pv 8))) (by with_unfolding_all rfl)) oB bz)))))) oB))))),?_⟩
  left
  have Xp:=o.Xp;have vX:cl.length<=20:=by have:=sd.bd.vX;rw[sd.hm,ah] at this;exact this
  have eqp:qp.length=cl.length:=by rw[Xd.len,ah]
  obtain⟨loc,dxx,q,hp,O,hF,hT⟩:=id W.c7;have b5:=O.get .c7 _ rfl;rw[hp] at b5;have tb:=sd.bd.tb g;have nb:=sd.nb g;refine bW λNx f=>?_;refine⟨_,rfl,p,_,_,rfl,b5,rfl,_,rfl,F,p,tp,ns.length,g,st,rfl,W.c7,hg,∅,λl m us H1 s1 Py hl ht pm so=>f _ _ ?_⟩;refine bW λNx f=>?_;refine⟨_,rfl,p,_,_,rfl,s1 _ _ b5,rfl,_,rfl,F,p,tp,ln,lr,ns,rs,st,o,g,rfl,W.mono s1,sd.ok,hg,λlo os Y s WL hlo hO h12=>f _ _ ?_⟩;have nts:∀t∈us,∃h c r:Nat,t=((h:Int),(c:Int),(r:Int))/\Nt ns rs os cl g h c r:=λt h=>sd.nt o hg hO t (pm.mem_iff.mp h);have lus:us.length<=36:=by rw[pm.length_eq];lia
  have oe:gh us:=((pm.map λt:T3=>(t.1,t.2.1)).nodup_iff).mpr tb.2;have hl2:=s _ _ hl;have ht2:=ht.mono s;have YM:=s1.trans s;have elq:m.length=us.length:=ht2.1;refine bW λNx f=>?_;refine⟨_,rfl,l,_,_,_,rfl,bS.of hl2,rfl,_,rfl,eG ?_⟩;have R:=bS.of (K:=K) hl2;refine⟨_,rfl,l,rfl,⟨_,R⟩,λacc S=>?_⟩;refine gR (n:=(m.map V.ref).length) (λi ys _=>∃Z:List Bool,ys=Z.map V.bl/\Z.length=i/\Z.all id=true) S (xB R) (m7 R) ⟨[],rfl,rfl,rfl⟩ ?_ ?_
  ·rintro j ys H4 hj X U ⟨Z,rfl,RB,hba⟩ x H5 ⟨rfl,u⟩
   have u:=u _ (X.seq R);have G:j<m.length:=by rw[ah] at hj;exact hj
   rw[aj,aa G] at u;cases u;have M:=X.dj (ht2.2 j m[j] (us[j]'∅) (aa G) (aa ∅));refine⟨_,rfl,_,_,_,_,rfl,M,rfl,true,rfl,?_⟩;rw[ee rfl];refine⟨_,rfl,_,_,rfl,.inr M,rfl,?_⟩;exact fj S hj X U (by rw[ah,RB];exact bX ∅) ⟨Z++[true],-_,by simp[RB],by simp[hba]⟩
  rintro ys H4 X U ⟨Z,rfl,RB,hba⟩;refine⟨acc,Z,rfl,bS.of U,_,rfl,?_⟩;rw[hba];refine eG (f _ _ ?_);have Kc:=X _ _ hl2;have ht4:=ht2.mono X;have afK:=X _ _ hlo;have s04:=YM.trans X;refine bW λNx f=>?_;refine⟨_,rfl,_,rfl,l,m,us,rfl,bS.of Kc,ht4,∅,λl5 qs5 d hl5 pm5 so5 ht5=>?_⟩;obtain rfl:=LM pm5 so5 so;have u5:=aD.new (o:=.lst (qs5.map V.ref)) hl5;have g5:=au (H:=H4) (a:=l5) (o:=.lst (qs5.map V.ref));generalize upd H4 l5 (.lst (qs5.map V.ref))=H5 at u5 g5;have rB:=u5 _ _ Kc;have ht6:=ht4.mono u5;have d5:(PyData.list (d.map Xy)).depth<=64:=by
   show PyData.depthAll (d.map Xy)+1<=64
   have:=Ln d
   lia
  refine⟨.list (d.map Xy),.list (d.map Xy),⟨l,_,rfl,bS.of rB,JA ht6⟩,⟨l5,_,rfl,bS.of g5,JA (ht5.mono u5)⟩,Eb d,Eb d,bQ (cC (aF (gA _ _) d5) _) hr.units,_,rfl,?_⟩;rw[SeqAt.eqv_refl (.list (d.map Xy)) (Eb d)];refine eG ?_;have I:=bS.of (K:=K) rB;refine⟨_,rfl,l,rfl,⟨_,I⟩,λaje Xh=>?_⟩;refine gR (n:=(m.map V.ref).length) (λi ys H7=>∃ds:List Addr,ys=ds.map V.ref/\xM K H7 ds ((d.take i).map λt=>(t.1,t.2.1))) Xh (xB I) (m7 I) ⟨[],rfl,rfl,λi q t e=>by simp at e⟩ ?_ ?_
  ·rintro j ys H7 hj s7 U ⟨ds,rfl,C⟩ x H8 ⟨rfl,u⟩
   have u:=u _ (s7.seq I);have G:j<m.length:=by rw[ah] at hj;exact hj
   rw[aj,aa G] at u;cases u;have M:=s7.dj (ht6.2 j m[j] (d[j]'∅) (aa G) (aa ∅));have nw:¬(HT.kg (iV (d[j]'∅)).length 0 none=0/\HT.kg (iV (d[j]'∅)).length (iV (d[j]'∅)).length (some 2)=(iV (d[j]'∅)).length):=λz=>eL z.2 (by show HT.kg 3 3 (some 2)≠3;decide);refine⟨_,rfl,_,rfl,m[j],_,rfl,M,nw,λz3 k9=>?_⟩;have ct:El (iV (d[j]'∅)) none (some 2)=n7 ((d[j]'∅).1,(d[j]'∅).2.1):=rfl;rw[ct];have u8:=aD.new (o:=.tup (n7 ((d[j]'∅).1,(d[j]'∅).2.1))) k9;have g8:=au (H:=H8) (a:=z3) (o:=.tup (n7 ((d[j]'∅).1,(d[j]'∅).2.1)));generalize upd H8 z3 (.tup (n7 ((d[j]'∅).1,(d[j]'∅).2.1)))=H9 at u8 g8;have e9:((d.take (j+1)).map λt=>(t.1,t.2.1))=((d.take j).map λt=>(t.1,t.2.1))++[((d[j]'∅).1,(d[j]'∅).2.1)]:=by
    rw[oF,aa ∅,aO];rfl
   have edl:ds.length=j:=by rw[C.1,ah,bV];lia
   refine fj Xh hj (s7.trans u8) (u8 _ _ U) (by rw[ah,edl];exact bX ∅) ⟨ds++[z3],-_,?_⟩;rw[e9];exact Xf (Xg (C.mono u8) (cN.of g8)) (u8 _ _ U)
  rintro ys H7 s7 U ⟨ds,rfl,C⟩;rw[ah,elq,fP] at C;refine⟨aje,ds,_,rfl,bS.of U,C,oe,λt ht=>?_,by rw[ah];lia,?_⟩
  ·obtain⟨x,u,rfl⟩:=aV.mp ht
   obtain⟨h,c,r,rfl,n⟩:=nts x u
   have:=n.hh;have:=n.hc
   refine⟨⟨?_,?_⟩,?_,?_⟩ <;> dsimp only <;> lia
  refine⟨_,rfl,l,_,rfl,.inl (s7.seq I),rfl,_,rfl,?_⟩;rw[e8 (show V.int (((d.map λt=>(t.1,t.2.1)).length:Nat):Int)=V.int (((m.map V.ref).length:Nat):Int) by rw[ah,ah,elq])];refine eG (f _ _ ?_);have J:=u5.trans s7;have QX:=J _ _ Kc;have ht8:=ht4.mono J;have afM:=J _ _ afK;have s08:=s04.trans J;have F8:=Fo.of hO;refine bW λNx f=>?_;refine⟨_,rfl,l,rfl,⟨_,bS.of QX⟩,wo (K:=K) (a:=l) (xs:=m.map V.ref) (λi σ Y=>aD H7 Y/\∃v6 v7 v8:Option V,σ=[some (.ref p),some (.ref b0),some (.ref pl),some (.int g),some (.ref l),some (.ref lo),v6,v7,v8]) ⟨aD.refl _,_,_,_,rfl⟩ (λi σ Y _ z=>z.1.seq (bS.of QX)) ?_ ?_⟩
  ·rintro i y σ Y Nz hNz hi ⟨s,v6,v7,v8,rfl⟩
   have hil:i<m.length:=by
    have:=(ai.mp hi).1
    rw[ah] at this;exact this
   rw[aj,aa hil] at hi;cases hi;have hq:=s.dj (ht8.2 i m[i] (d[i]'∅) (aa hil) (aa ∅));obtain⟨h,c,r,ex,n⟩:=nts (d[i]'∅) (aK _);rw[ex] at hq;generalize m[i]=q0 at hq;refine⟨q0,_,rfl,hq,rfl,_,_,rfl,_,_,rfl,_,_,rfl,rfl,?_⟩;have B:=s08.trans s;have L:=B.seq hP;have hcl:=n.hc;have YY:cl.getD c (0,0)=cl[c]:=by rw[ak,aa hcl];rfl
   have nG:=n.hg;have nN:=n.ne;have nR:=n.rw_;rw[YY] at nG nN nR;have ZF:Eo (qp.map V.ref) (c:Int)=some (.ref (qp[c]'∅)):=dM (by rw[aj,aa];rfl);have N:=B.dj (Xd.at' c (qp[c]'∅) [.int cl[c].1,.int cl[c].2] (aa _) (by rw[aj,aa hcl];rfl));generalize qp[c]'∅=qc at ZF N;refine bW λNx f=>?_;refine⟨_,rfl,_,rfl,_,rfl,eG ⟨_,rfl,_,rfl,_,rfl,eG ⟨_,rfl,_,rfl,_,rfl,eG (f _ _ ?_)⟩⟩⟩;refine bW λNx f=>?_;refine⟨_,rfl,_,_,rfl,rfl,_,rfl,?_⟩;rw[e8 (show (0:Int)<=(c:Int) by lia)];refine fK ⟨_,rfl,pl,_,rfl,.inl L,_,_,rfl,rfl,_,rfl,?_⟩;rw[ah,e8 (show (c:Int)<(qp.length:Int) by lia)];refine eG ?_;refine⟨_,rfl,_,rfl,pl,_,_,_,rfl,rfl,L,ZF,qc,_,1,_,rfl,rfl,N,rfl,_,rfl,rfl,_,rfl,?_⟩;rw[e8 (show V.int (cl[c].2:Nat)=V.int (g:Nat) by rw[nG])];refine eG ?_;refine⟨_,rfl,_,rfl,pl,_,_,_,rfl,rfl,L,ZF,qc,_,0,_,rfl,rfl,N,rfl,_,rfl,rfl,_,rfl,?_⟩;rw[ff (show ¬V.int (cl[c].1:Nat)=V.int (h:Nat) from λz=>nN (by have:=V.int.inj z;lia))];refine eG (f _ _ ?_);have afO:=s _ _ afM;rw[eT] at afO;refine bW λNx f=>?_;refine⟨_,rfl,_,rfl,lo,_,rfl,.inl (bS.of afO),rfl,mL _,_,rfl,?_⟩
   try dsimp only
   rw[ee rfl,kN,e8 (iG n.hr)];refine eG ?_;have hrl:=F8.lt r n.hr;obtain⟨A,hL,XS⟩:=id hB;have Tg:A.length=rs.length:=by rw[XS.len,ah]
   have hpt:=B.dj (XS.at' r (A[r]'∅) (rs[r]).vs (aa _) (by rw[aj,aa hrl];rfl));have afQ:Eo (A.map V.ref) (r:Int)=some (.ref (A[r]'∅)):=dM (by rw[aj,aa];rfl);generalize A[r]'∅=pt at afQ hpt;have nw:¬(HT.kg (rs[r]).vs.length 0 none=0/\HT.kg (rs[r]).vs.length (rs[r]).vs.length (some 2)=(rs[r]).vs.length):=λz=>eL z.2 (by show HT.kg 5 5 (some 2)≠5;decide);have ct:El (rs[r]).vs none (some 2)=[V.int rs[r].a,V.int rs[r].b]:=rfl;refine⟨_,rfl,_,rfl,_,rfl,b0,_,_,_,rfl,rfl,bS.of (B _ _ hL),afQ,_,rfl,pt,_,rfl,hpt,nw,λz3 k9=>?_⟩;rw[ct];have u7:=aD.new (o:=.tup [V.int rs[r].a,V.int rs[r].b]) k9;have hz7:=au (H:=Y) (a:=z3) (o:=.tup [V.int rs[r].a,V.int rs[r].b]);generalize upd Y z3 (.tup [V.int rs[r].a,V.int rs[r].b])=H9 at u7 hz7;refine⟨z3,_,rfl,.inr (cN.of hz7),rfl,rfl,_,rfl,?_⟩
   try dsimp only
   rw[ee rfl,LH];have ei:(decide ((h:Int)=rs[r].a) || decide ((h:Int)=rs[r].b))=isAt rs (h:Int) r:=by unfold isAt;rw[aa hrl]
   rw[ei,n.at_];refine eG (f _ _ ?_);have s89:=B.trans u7;refine⟨_,rfl,_,rfl,pl,_,_,_,rfl,rfl,u7.seq L,ZF,qc,_,0,_,rfl,rfl,u7.dj N,rfl,_,rfl,_,rfl,_,rfl,_,rfl,b0,lo,ns,rs,os,h,r,rfl,hB.keep (λo z=>s89 _ _ z) (λb x=>s89.dj),bS.of (u7 _ _ (s _ _ afM)),F8,n.hr,n.at_,n.hh,o.jw,Xp,λl9 Xo xs u10 Xi hall=>?_⟩;rw[eT] at Xi;refine⟨l9,_,rfl,.inl (bS.of Xi),rfl,mL _,_,rfl,?_⟩
   try dsimp only
   rw[ee rfl,kN,e8 (iG (hall _ nR))];refine eG (hNz _ _ ⟨s.trans (u7.trans u10),_,_,_,rfl⟩)
  ·rintro σ Y ⟨s,v6,v7,v8,rfl⟩
   exact f _ _ (k Y (s08.trans s))
theorem ZG(rs:List R5):(rs.map λr=>bD r.d.toNat true).map stand=rs.map λr=>aq r.d.toNat:=by
 rw[cF];exact cQ λr _=>Qg _
theorem Xj{n:Nat}{rs:List R5}(ok:∀r∈rs,r.Ok n):n6 rs (rs.map λr=>bD r.d.toNat true):=by
 refine⟨ah _,λi r b c a=>?_⟩;rw[aj,c] at a;cases a;rw[List.length_replicate]
 have:=(ok r (aG c)).d1
 lia
theorem afR{ns:List Int}{rs:List R5}{cl:List (Nat×Nat)}(o:cE ns rs)(j:cl.length<=20)(b:∀c∈cl,c.1<ns.length/\c.2<3):SD ns rs (rs.map λr=>bD r.d.toNat true) cl 0 (S0 ns rs cl):=by
 refine⟨⟨ah _,λw a=>?_,λg _ i e=>⟨?_,Int.le_refl _,⟨Int.le_refl _,by show (0:Int)<(ns.length:Int);lia⟩,.inl rfl⟩⟩,⟨?_,?_,λg f=>?_,λh k=>?_,?_,λw a=>?_,aR _,λl z=>(by cases z),aR _,λc z=>(by cases z),λg=>⟨aR _,lH⟩⟩,(ZG rs).symm,Xj o.ok,rfl,rfl⟩
 ·obtain⟨r,m,rfl⟩:=aV.mp a
  rw[bx]
  have:=(o.ok r m).d4
  lia
 ·show 0<=ns.getD i 0
  rw[ak,aa e];exact o.pos _ (aK e)
 ·show (cl.map _).length=(cl.map _).length
  rw[ah,ah]
 ·show (cl.map _).length<=20
  rw[ah];exact j
 ·obtain⟨c,z,rfl⟩:=aV.mp f
  exact (b c z).2
 ·obtain⟨c,z,rfl⟩:=aV.mp k
  exact (b c z).1
 ·show (cl.map _).length=(cl.map _).length
  rw[ah,ah]
 ·obtain⟨c,z,rfl⟩:=aV.mp a
  exact aR _
theorem ac4{ns:List Int}{rs:List R5}{cl:List (Nat×Nat)}(o:cE ns rs)(a:cl.length<=20)(b:∀c∈cl,c.1<ns.length/\c.2<3):xr ns rs (rs.map λr=>bD r.d.toNat true) cl 0 (S0 ns rs cl):=⟨afR o a b,λ_=>afy,aR _,av _,λ_=>av _⟩
inductive Xk(K:af)(vs:List V)(H:Hp)(Q:VK)(E:XK):Prop
 |mk (a:Addr) (ns:List Int):vs=[.ref a]->bS K H a (ns.map V.int)->ns.length<=63->(∀H',Q (.bl true) H')->Xk K vs H Q E
theorem ac5{t:Ad}(T:Txt K mg t):ck P w K mg base iC 10 t.NQ t.NR ["_law_script"]  (Xk K):=by
 refine T.Wl.F.jE sM λH Q E R h=>?_
 ·obtain⟨a,cs,rfl,hS,hlen,k⟩:=h
  refine⟨_,(ao (sS 1 sM (be f9 az (be cP (cG (fE T) R T.fN (mP (pv 0) az)) az))) (ao (sS 2 sM (be cP (cG (fE T) R T.fN (mP (pv 0) az)) az)) (ao (sS 3 sM (cG (Q0 T) R T.KZ (KP (pv 0) (pv 1) (pv 2)))) (ao (sS 4 sM (cG (MC T) R T.FO (KP (pv 0) (pv 1) (pv 2)))) (ao (sS 5 sM (cI T.Dz (Ke T) R T.aeI (mP (cI T.Br (Jc T) R T.ab2 (mP (cG (QZ T) R T.KY (mP (pv 0) (pv 1))) (iM ic (by rfl) T.vA boot_list (gj (pv 3))))) (iM ic (by rfl) T.vA boot_list (gj (pv 4)))))) (ao (BU (i:=6) sM.nd rfl (Or.inl rfl) (kO sM ["_law_rope"] [none]) rfl (fq (pv 3)) (λ_ _ _ _=>by exact (gS 0 Ud)) (λ_ _ _ _=>by exact lM) (λ_ _ _ _=>by exact (be abi (gE (gj MP)) (yT K (pv 0) az)))) (ao (sS 7 sM (iM ic (by rfl) T.vA boot_list (gj (pv 4)))) (ao (cy (qT rD (be cP (be dF (cG (fE T) R T.fN (mP (pv 0) az)) az) az) az) (oE (cG (Pq T) R T.Ii (KP (pv 5) (pv 1) (pv 2)))) bz) (ao (fS (fq (be Vs (gE (mP az az)) (sy XR (pv 0) (pK az) (pK az)))) (gT 8 sM) (ao (dS (cG (UB T) R T.NT (aN7 (pv 5) (pv 1) (pv 2) (pv 3) (pv 6) (pv 7) (pv 8)))) (bA (fS (gu rfl T.jH (gj az)) (gT 9 sM) (bA (cy (iL (mZ (cG (UE T) R T.NV (Xr (pv 5) (pv 3) (pv 7) (pv 9))))) oB bz)))))) oB))))))))),?_⟩
  left
  refine bW λNx G=>?_;refine⟨_,rfl,a,cs,0,rfl,hS,!_,_,_,rfl,rfl,(by show (0:Int)<10;decide),_,_,rfl,rfl,?_⟩;obtain⟨n,hn,Y,Xl⟩:∃n:Nat,1+cs.getD (0:Int).toNat 0%10=(n:Int)/\1<=n/\n<=10:=by
   have h1:=bO (cs.getD (0:Int).toNat 0) (show (10:Int)≠0 by decide);have h2:=bR (cs.getD (0:Int).toNat 0) (show (0:Int)<10 by decide);exact⟨(1+cs.getD (0:Int).toNat 0%10).toNat,∅,∅,∅⟩
  show gU 1 (V.int (1+cs.getD (0:Int).toNat 0%10)) _ _ _;rw[hn];refine G _ _ ?_;refine bW λNx G=>?_;refine⟨_,rfl,a,cs,1,rfl,hS,!_,_,_,rfl,rfl,(by show (0:Int)<3;decide),?_⟩;obtain⟨g,hge,hg⟩:∃g:Nat,cs.getD (1:Int).toNat 0%3=(g:Int)/\g<3:=uR _ (!_);show gU 2 (V.int (cs.getD (1:Int).toNat 0%3)) _ _ _;rw[hge];refine G _ _ ?_;refine bW λNx G=>?_;refine⟨_,rfl,_,rfl,_,rfl,a,cs,n,g,rfl,hS,Y,Xl,hg,λb0 H1 rs s1 hb0 hR1 l14 ok=>G _ _ ?_⟩;refine bW λNx G=>?_;refine⟨_,rfl,_,rfl,_,rfl,a,cs,n,g,rfl,s1.seq hS,Y,Xl,hg,λcb qs U cl u ajf hcb hcq hc1 YV afS=>G _ _ ?_⟩;have s12:=s1.trans u;refine bW λNx G=>?_;refine⟨_,rfl,_,rfl,a,cs,n,rfl,s12.seq hS,Y,Xl,λa0 H3 ns s3 ha0 hA3 eln nd nn=>?_⟩;subst eln;have Uq:=s12.trans s3;obtain⟨X,hB1,afT⟩:=hR1;have D:=(u.trans s3) _ _ hB1;have Xm:dI K H3 X (rs.map R5.vs):=afT.mono λb x=>(u.trans s3).dj;have ac7:=s3 _ _ hcb;have ac8:dI K H3 qs (Zw cl):=hcq.mono λb x=>s3.dj;have hS3:=Uq.seq hS;have tok:cE ns rs:=⟨nd,ok,Y,Xl,∅,nn⟩;have hw4:∀r∈rs,1<=r.d/\r.d<=4:=λr M=>⟨(ok r M).d1,(ok r M).d4⟩;have he7:∀r∈rs,1<=r.e/\r.e<=7:=λr M=>⟨(ok r M).e1,(ok r M).e7⟩;refine⟨_,rfl,b0,_,rfl,.inl (bS.of D),λI h2=>?_⟩;have t2:=aD.new (o:=.lst (X.map V.ref)) h2;have hl2:=au (H:=H3) (a:=I) (o:=.lst (X.map V.ref));generalize upd H3 I (.lst (X.map V.ref))=H4 at t2 hl2;refine λL dx np vB nep=>?_;have t7:aD H4 (upd (upd H4 dx (.own L)) L (.ins t.bh dx [])):=(aD.new vB).trans (aD.new (by rw[aC (bM nep)];exact np));refine⟨L,dx,a0,I,ns,rs,rfl,au,bS.of (t7 _ _ (t2 _ _ hA3)),⟨I,_,rfl,bS.of (t7 _ _ hl2),LP.Z5 (l:=I) (Xm.mono λb x=>(t2.trans t7).dj)⟩,Y,Xl,nn,nd,∅,ok,λln lr H5 hln hlr hT kp=>⟨rfl,?_⟩⟩;have t5:aD H3 H5:=t2.trans λb o e=>kp b o (t7 b o e) (aJ e np);refine⟨_,rfl,cb,_,rfl,.inl (bS.of (t5 _ _ ac7)),λl3 h3=>?_⟩;have t6:=aD.new (o:=.lst (qs.map V.ref)) h3;have hl3:=au (H:=H5) (a:=l3) (o:=.lst (qs.map V.ref));have hT6:=hT.mono t6;have t36:=t5.trans t6;generalize upd H5 l3 (.lst (qs.map V.ref))=H6 at t6 hl3 hT6 t36;refine λp Ed npp vB nep=>?_;have t7:aD H6 (upd (upd H6 Ed (.own p)) p (.ins t.cH Ed [])):=(aD.new vB).trans (aD.new (by rw[aC (bM nep)];exact npp));refine⟨p,Ed,L,ln,lr,l3,ns,rs,qs,cl,rfl,au,hT6.mono t7,∅,∅,hw4,bS.of (t7 _ _ hl3),ac8.mono λb x=>(t36.trans t7).dj,YV,afS,λF H7 N kp fr=>⟨rfl,G _ _ ?_⟩⟩;have S7:aD H6 (Off H7 F):=V5 t7 npp kp fr;have hT7:=hT6.mono S7;have V4:=t36.trans S7;have s37:=V4.trans cZ;have hB7:=s37 _ _ D;have afX:dI K H7 X (rs.map R5.vs):=Xm.mono λb x=>s37.dj;have Tg:X.length=rs.length:=by rw[Xm.len,ah]
  refine bW λNx G=>?_;refine⟨_,rfl,b0,rfl,⟨_,bS.of hB7⟩,λW hls=>?_⟩;have hq7:=bS.of (K:=K) hB7;refine gR (n:=(X.map V.ref).length) (λi c H8=>∃A:List Addr,c=A.map V.ref/\A.length=i/\A.Nodup/\∀(j:Nat) l r,A[j]?=some l->rs[j]?=some r->H8 l=some (.lst ((bD r.d.toNat true).map V.bl))/\l≠W/\H7 l=none) hls (xB hq7) (m7 hq7) ⟨[],rfl,rfl,lH,λj l r e=>by simp at e⟩ ?_ ?_
  ·rintro i c H8 hi s8 hy ⟨A,rfl,el,hnd,Pw⟩ x H9 ⟨rfl,hx⟩
   have hx:=hx _ (s8.seq hq7);have hi':i<X.length:=by rw[ah] at hi;exact hi
   have Gf:rs[i]?=some rs[i]:=aa ∅;have hq:=afX.at' i X[i] (rs[i]).vs (aa hi') (by rw[aj,Gf];rfl);rw[aj,aa hi'] at hx;cases hx;have w4:=hw4 _ (aG Gf);refine⟨z0,λl1 h1=>?_⟩;have s9:=aD.new (o:=.lst [.bl true]) h1;refine⟨_,rfl,X[i],_,_,_,rfl,rfl,(s8.trans s9).dj hq,rfl,l1,rs[i].d,_,rfl,rfl,au,∅,∅,(by show 1*rs[i].d.toNat<=sizeLine;exact iB (bX ∅)),λI h2=>?_⟩;rw[TW.abB];have RD:=s9.trans (aD.new (o:=.lst ((bD rs[i].d.toNat true).map V.bl)) h2);have Xi:=au (H:=upd H9 l1 (.lst [.bl true])) (a:=I) (o:=.lst ((bD rs[i].d.toNat true).map V.bl));have afY:=RD _ _ hy;have nl2:I≠W:=(aJ (s9 _ _ hy) h2).symm;have hn8:H9 I=none:=s9.free h2;have hn7:H7 I=none:=s8.free hn8;generalize upd (upd H9 l1 (.lst [.bl true])) I (.lst ((bD rs[i].d.toNat true).map V.bl))=Xo at RD Xi afY;refine fj hls hi (s8.trans RD) afY (by rw[ah,el];exact bX ∅) ⟨A++[I],by rw[aO];rfl,by rw[ay,el];rfl,?_,λj l' r e1 e2=>?_⟩
   ·rw[jO]
    refine⟨hnd,-_,λx hx y hy'=>?_⟩
    have:y=I:=by simpa using hy'
    subst this;obtain⟨j,s⟩:=gY hx;have f:=(ai.mp s).1;exact aJ (Pw j x _ s (aa ∅)).1 hn8
   ·rcases AS e1 with e1|⟨rfl,rfl⟩
    ·obtain⟨z1,z2⟩:=Pw j l' r e1 e2
     exact⟨by rw[aC z2.1];exact RD _ _ z1,z2⟩
    ·rw[el,Gf] at e2
     cases e2;exact⟨by rw[aC nl2];exact Xi,nl2,hn7⟩
  rintro c H8 s8 hy ⟨A,rfl,el,hnd,Pw⟩;refine G _ _ ?_;rw[ah] at el;have nF:∀b,H7 b=none->¬F b:=λb e z=>by
   obtain⟨o,h⟩:=N.there z;rw[e] at h;cases h
  have new:∀l∈A,H7 l=none/\l≠W:=λl hl=>by
   obtain⟨j,s⟩:=gY hl;have f:=(ai.mp s).1;exact⟨(Pw j l _ s (aa ∅)).2.2,(Pw j l _ s (aa ∅)).2.1⟩
  have RC:Z1 (Off H8 F) W A (rs.map λr=>bD r.d.toNat true):=by
   refine⟨xG (nF W hls) hy,by rw[ah];lia,hnd,λi l b e1 e2=>?_⟩;rw[aj] at e2;cases e3:rs[i]? with
   |none=>rw[e3] at e2;cases e2
   |some r =>
    rw[e3] at e2;cases e2;exact xG (nF l (Pw i l r e1 e3).2.2) (Pw i l r e1 e3).1
  have N8:=N.mono s8;have S78:=ig (F:=F) s8;have hT8:=hT7.mono S78;have S38:=V4.trans S78;have s38:=S38.trans cZ;refine bW λNx G=>?_;refine⟨_,rfl,cb,_,rfl,.inl (bS.of (s38 _ _ ac7)),λm B=>G _ _ ?_⟩;have s9:=aD.new (o:=.lst (qs.map V.ref)) B;have ac9:=au (H:=H8) (a:=m) (o:=.lst (qs.map V.ref));generalize upd H8 m (.lst (qs.map V.ref))=H9 at s9 ac9;have N9:=N8.mono s9;have U4:=ig (F:=F) s9;have S39:=S38.trans U4;have S79:=S78.trans U4;have Rf:=s8.free B;have JB:∀{b o},Off H7 F b=some o->∀l,H7 l=none->l≠b:=λ{b o} e l hl z=>by
   have:=cZ _ _ e
   rw[<- z,hl] at this;cases this
  have nb:∀b o,Off H7 F b=some o->b∉A/\b≠m:=λb o e=>⟨λz=>JB e b (new b z).1 rfl,λz=>JB e m Rf z.symm⟩;obtain⟨⟨dt,htp⟩,hln,_,hlr,_⟩:=id hT7;have ada:=V4 _ _ D;have dx9:DX K t.bh (Off H9 F) L ln lr b0 W A m ns rs (rs.map λr=>bD r.d.toNat true) cl:=by
   refine⟨hT8.mono U4,⟨X,S39 _ _ D,Xm.mono λb x=>S39.dj⟩,RC.mono U4,⟨qs,xG (nF m Rf) ac9,ac8.mono λb x=>S39.dj⟩,λl hl=>?_,⟨JB htp m Rf,JB hln m Rf,JB hlr m Rf,JB ada m Rf,(aJ (cZ _ _ RC.at_) B).symm⟩⟩;obtain⟨z1,z2⟩:=new l hl;obtain⟨j,s⟩:=gY hl;have f:=(ai.mp s).1;rw[RC.len] at f;exact⟨JB htp l z1,JB hln l z1,JB hlr l z1,JB ada l z1,z2,aJ (cZ _ _ (RC.it j l _ s (aa f))) B⟩
  have Iw:=ac4 tok YV afS;have hS7:bS K (Off H7 F) a (cs.map V.int):=V4.seq hS3;generalize S0 ns rs cl=st at N9 Iw;generalize (rs.map λr=>bD r.d.toNat true)=bs at dx9 Iw;have hS9:bS K (Off H9 F) a (cs.map V.int):=S79.seq hS7
  try dsimp only
  refine rK (λZ U=>∃(u:NS) (J:Addr->Prop),cY K (nc t) U J p L ns.length u/\xr ns rs bs cl 0 u/\aD (Off H9 F) (Off U J)/\Z=[some (.ref a),some (.int (ns.length:Nat)),some (.int g),some (.ref b0),some (.ref cb),some (.ref p),some (.ref W),some (.ref m),none,none]) ?_ (λN' hN=>?_)
  rotate_left
  ·refine⟨_,rfl,a,cs,1,rfl,cZ.seq hS9,!_,_,_,rfl,rfl,⟨!_,!_⟩,_,_,rfl,rfl,(by show (0:Int)<2;decide),rfl,_,rfl,iY (λe=>?_) (λe=>?_)⟩
   ·refine⟨_,rfl,_,rfl,_,rfl,F,p,L,ln,lr,ns,rs,bs,cl,0,st,g,rfl,tok,dx9.ni.nw N9 (λb z=>z),Iw,hg,λu J U W2 Je st2=>?_⟩
    exact hN _ _ ⟨u,J,W2.c7,Je,kQ st2,rfl⟩
   ·exact hN _ _ ⟨st,F,N9,Iw,aD.refl _,rfl⟩
  rintro Z Xo ⟨RD,S,N10,ajn,o10,rfl⟩;have adb:=dx9.mono o10;have af3:=cZ.seq (o10.seq hS9);refine⟨fO,λl1 hl1=>?_⟩;have u1:=aD.new (o:=.lst [V.int 6,V.int 7]) hl1;have ade:=au (H:=Xo) (a:=l1) (o:=.lst [V.int 6,V.int 7]);generalize upd Xo l1 (.lst [V.int 6,V.int 7])=Zy at u1 ade;obtain⟨c,eys,lys⟩:∃c:List Int,El (cs.map V.int) (some 30) (some 90)=c.map V.int/\c.length<=33:=by
   refine⟨(cs.drop (HT.kg cs.length 0 (some 30))).take (HT.kg cs.length cs.length (some 90)-HT.kg cs.length 0 (some 30)),?_,?_⟩
   ·unfold El
    rw[ah,List.map_take,List.map_drop]
   ·rw[show (30:Int)=((30:Nat):Int) from rfl,HT.XM,bV,kL]
    lia
  refine⟨_,rfl,_,rfl,_,rfl,a,_,rfl,u1.seq af3,λl4 Kc=>?_⟩;rw[eys];have u2:=aD.new (o:=.lst (c.map V.int)) Kc;have adf:=au (H:=Zy) (a:=l4) (o:=.lst (c.map V.int));generalize upd Zy l4 (.lst (c.map V.int))=gP at u2 adf;refine⟨l1,l4,_,_,rfl,rfl,u2 _ _ ade,adf,(by rw[ah];exact iB (bX (by show 2+c.length<=1000;lia))),λlq Rp=>?_⟩;have u3:=aD.new (o:=.lst ([V.int 6,V.int 7]++c.map V.int)) Rp;have adg:=au (H:=gP) (a:=lq) (o:=.lst ([V.int 6,V.int 7]++c.map V.int));generalize upd gP lq (.lst ([V.int 6,V.int 7]++c.map V.int))=Y6 at u3 adg;have u13:=u1.trans (u2.trans u3);have N13:=N10.mono u13;have ajq:=adb.mono (ig (F:=S) u13);have nFq:¬S lq:=λz=>by
   obtain⟨o,h⟩:=(N10.mono (u1.trans u2)).there z;rw[Rp] at h;cases h
  have ZH:=adb.mono (ig (F:=S) (u1.trans u2));have nlq:lq∉A:=λz=>by
   obtain⟨j,s⟩:=gY z;have f:=(ai.mp s).1;rw[ZH.sts.len] at f;exact aJ (cZ _ _ (ZH.sts.it j lq _ s (aa f))) Rp rfl
  have npq:lq≠m:=λz=>by
   obtain⟨qp,h1,_⟩:=ZH.tY;exact aJ (cZ _ _ h1) Rp z.symm
  have af5:Off Y6 S lq=some (.lst ((6::7::c).map V.int)):=xG nFq adg;refine⟨lq,rfl,⟨_,bS.of (cZ _ _ af5)⟩,wc (K:=K) (a:=lq) (xs:=(6::7::c).map V.int) (λj Z U=>∃(u:NS) (J:Addr->Prop) (C:List (List Bool)) (v:List (Nat×Nat)) (v8 v9:Option V),cY K (nc t) U J p L ns.length u/\DX K t.bh (Off U J) L ln lr b0 W A m ns rs C v/\xr ns rs C v (100*j) u/\v.length=cl.length/\Off U J lq=some (.lst ((6::7::c).map V.int))/\Z=[some (.ref a),some (.int (ns.length:Nat)),some (.int g),some (.ref b0),some (.ref cb),some (.ref p),some (.ref W),some (.ref m),v8,v9])
   ⟨RD,S,bs,cl,_,_,N13,ajq,ajn,rfl,af5,rfl⟩ (λj Z U _ z=>?_) ?_ ?_⟩
  ·obtain⟨u,J,C,v,v8,v9,_,_,_,_,h5,_⟩:=z
   exact bS.of (cZ _ _ h5)
  ·rintro j y Z U s ⟨u,J,C,v,v8,v9,N2,Y3,Je,YY,hq2,rfl⟩
   have f:j<(6::7::c).length:=by
    have:=(ai.mp s).1
    rw[ah] at this;exact this
   rw[aj,aa f] at s;cases s;have anK:j<=34:=by
    have:(6::7::c).length=c.length+1+1:=rfl
    lia
   generalize (6::7::c)[j]=cell;refine⟨_,rfl,_,rfl,_,rfl,_,rfl,_,rfl,_,rfl,_,rfl,J,p,L,ln,lr,b0,W,A,m,ns,rs,C,v,100*j,u,g,cell,rfl,tok,N2,Y3,Je,∅,hg,∅,λs3 bs3 cl3 F3 H3 N3 R9 sd3 anL ry=>?_⟩;have hq3:=ry _ _ hq2 nlq npq;have W3:NW K (nc t) t.bh H3 F3 p L ln lr ns rs s3:=R9.ni.nw N3 λb z=>z;obtain⟨loc,dxx,q,hp,O,hF,hT⟩:=id N3;have b5:=O.get .c7 _ rfl;rw[hp] at b5;have D:=R9.om.keep (λo z=>cZ _ _ z) (λb x=>cZ.dj);obtain⟨qp,ZA,ZC⟩:=R9.tY;have B:=cZ _ _ ZA;have Xd:=ZC.mono λb x z=>cZ.dj z;refine⟨3,rfl,!_,!_,se (n:=3) (λi Z H4=>aD H3 H4/\∃v9:Option V,Z=[some (.ref a),some (.int (ns.length:Nat)),some (.int g),some (.ref b0),some (.ref cb),some (.ref p),some (.ref W),some (.ref m),some (.int cell),v9]) ⟨aD.refl _,_,rfl⟩ ?_ ?_⟩
   ·rintro i Z H4 hi ⟨s4,v9,rfl⟩
    rw[gB];refine⟨_,rfl,_,rfl,_,rfl,_,rfl,F3,p,L,ln,lr,b0,m,qp,ns,rs,bs3,cl3,_,s3,i,rfl,tok,W3.mono s4,sd3,D.keep (λo z=>s4 _ _ z) (λb x=>s4.dj),bS.of (s4 _ _ B),Xd.mono λb x=>s4.dj,∅,hi,λH5 s5=>?_⟩;exact⟨_,rfl,eG ⟨s4.trans s5,_,rfl⟩⟩
   ·rintro Z H4 ⟨s4,v9,rfl⟩
    exact⟨s3,F3,bs3,cl3,_,_,N3.mono s4,R9.mono (ig s4),sd3,∅,ig s4 _ _ hq3,rfl⟩
  ·rintro Z U ⟨u,J,C,v,v8,v9,N2,Y3,Je,YY,hq2,rfl⟩
   exact k _
end
theorem walk{l:PySem.W.OpenLaw}{q:Program}{b:List Str}{XP:(Str->Option Value)->Heap->Prop}{p:World->Heap->Prop}{d:DefRec}{K:Params->af}(r:l.most=some 63)(j:d.params.defaults=[])(m:d.name = "law")
 (u:∀(w:World) (h:Heap),p w h->(K w.params).In h)
 (F:∀(w:World) (i:Str->Option Value) (h:Heap),(K w.params).In h->h.Ns mainGlobals i->∃t,Txt (K w.params) i t) :
 PySem.W.WalkO q b XP p l.row.toRowW d [] (λf vs=>PySem.call f vs) :=
 L2.XT (n:=63) (k:=10) (x:="_law_script") (CX:=λ_=>iC) (sp:=λw=>Xk (K w.params)) r (!_) j ⟨rfl,!_,!_⟩ u
  (λw i D h B G c=>by
   obtain⟨t,T⟩:=F w i h B G;rw[m] at c;have e:=c.symm.trans T.Wl.g;cases e;refine⟨t.NR,λs v=>?_,λo _ _=>ac5 T⟩;obtain⟨_,_,_,_,_,_,_,_,_,e,_⟩:=T.Wl.F.ex;rw[e];exact .of_eq rfl)
  (λ_ _ a y C _ A=>⟨a,y,rfl,A,C,λ_=>rfl⟩) λ_ _ _ _ _ z=>z
end fc
end
structure PySem.W.Fast:Prop where(tw5354723947971478815 tw15486093545767534318 tw1082960324131083318 tw9115350616332775217 tw2650635632177624888 tw7212052423672443600 tw15225725545087081432 tw11009814937860134720 tw9273555342971280239 tw15461917449763069772 tw17588242799333146295 tw4287883684484880080 tw14384814477349103747 tw15171785238235186207 tw9396628000832617413 tw12395108961485264148 tw18100689173401565684 tw5042028030470300476 tw9972640744308169064 tw11800105907255747411 tw2247136241064033572 tw3297974800414006769 tw1746375454152601290 tw16899999222071908311 tw14212667692479567241 tw14971753298165174115 tw15189695610972138507 tw3563142977311068069 tw4552902461204540346 tw6737319828403999250 tw10299223638837771621 tw13210479212006562045 tw12961007882970349642 tw15577106071304284614 tw5539053475861309773 tw5481996811315169605 tw17565255324994778013 tw2688899806113017730 tw13975911339739784272 tw2102145689096497914 tw12483147698505494651 tw16196714243025547236 tw7078765782568493403 tw6169579671149843322 tw12736944403875045635 tw8103420381438587340 tw17421059010066297292 tw1145376530100729126 tw8649363070436097640 tw17715738886984047615 tw18039649247699089761 tw6352918843861906482 tw1114089962863310398 tw3332041646621861680 tw11151701670808949696 tw6700642313878570897 tw7182442838960892314 tw6336552181231631108 tw1755724699118170882 tw17300886604086865992 tw3354626375301568111 tw16035770591085816605 tw3335312396482242928 tw5330999267709088082 tw8126907478143084676 tw12651457189661422897 tw2723321480219769193 tw1946896063877732019 tw17925331351019507587 tw4262150475688770958 tw11280142514110396770 tw5659950460746133579 tw14454136467936786920 tw9836585346671513142 tw9512995418192253562 tw5106882464932936198 tw17406095477287919939 tw3850819193954203111 tw6518109788308569076 tw12621487758090677444 tw6053624499392634574 tw16441054689925804974 tw4118505537096747654 tw7015187027555446982 tw15639513144182064247 tw16792281748397791672 tw15451569948574062702 tw17113313730704307434 tw7678313969250652583 tw6148837502319699903 tw16343517262855986345 tw11274650078010748881 tw4539648349525619942 tw10136761981685578842 tw11256912615554065805 tw3830076243803123063 tw9041712382317149507 tw771885651730162837 tw10762598356715530676 tw4318158370348533690 tw11471525242438626305 tw17277916982605254626 tw3721617807196884929 tw17103656248459352242 tw6390068341659121947 tw12868612476914444420 tw1589135410025365362 tw10576595211237456965 tw12051581920078198605 tw17957214467365906716 tw2769478843140933737 tw7512243643059825959 tw12831616927121628020 tw206837576834016157 tw17307267940233690310 tw1062658879955477601 tw6812269280745856526 tw14004768126083911831 tw13239375733710902538 tw6130913790408391132 tw2410175375872384517 tw5672068682266268960 tw3166923164483235810 tw15322927142422602357 tw9585045818036869062 tw12500581663596306108 tw17610022624087382515 tw1019821699054283981 tw1438965336269429348 tw17046207518888905427 tw3737515191815775706 tw13106207962209500334 tw15366780257949471904 tw15252553536397447851 tw17785060260423762013 tw5152514680201716034 tw2969693015385313964 tw7987333508532045996 tw2130591429208237237 tw11603579200825423784 tw12649624290538004566 tw7499509760459952752 tw7240074763785298387 tw16856481319239409638 tw4085411901194032919 tw11183749176171267140 tw15544407296135698269 tw388710569651806513 tw15404014009427127546 tw18220838619266648221 tw9469976852867647068 tw11408313485540255149 tw7016032316838639328 tw5038180509197787136 tw16609981961547200361 tw11906515463024727369 tw4047884352885261284 tw7449328763297217180 tw13851530214869009308 tw6319513972513746519 tw16338245203449185339 tw12666633513076410432 tw4879907428660113841 tw11891227129399450662 tw9247155176647594417 tw11694107859033156678 tw111913124388950801 tw86051972798823909 tw7586803638620156849 tw10959567981180839580 tw14137372236168922671 tw14599676414132665919 tw8050902884113972902 tw9429792763292145140 tw8050990291159016286 tw11300889866524233216 tw549515501800873624 tw12769514337405851681 tw15359654828772144832 tw8319727134075569661 tw15383250747086443233 tw16829416625666691142 tw16300956328356125559 tw12077962740943059864 tw13748705860997731396 tw1649177131244693613 tw13245540838002442615 tw2637042537482276325 tw12393429868607235400 tw13596846864197210067 tw2118716893313384345 tw6708466943489988949 tw7562847826104380082 tw14626619464474368685 tw12243821459868219634 tw16778352793264558353 tw10644778760977870492 tw15495629679305068144 tw8980663386511786549 tw12279163814203743828 tw3741817573540832777 tw10242650473078575038 tw2939957506700742716 tw11100977723100640601 tw17076655529123286572 tw15023605844602696462 tw14706373309284580155 tw16341738608550824508 tw14389714832981104743 tw1547265292055231345 tw10020341529978283367 tw3396122545122199914 tw17096438562704001813 tw4703899157004531298 tw12308103022855495100 tw12251737446053118326 tw1277933188590223009 tw2283368309251493976 tw14454172112536586132 tw15295282120254959481 tw11903457472408589929 tw13782079382951125634 tw17938479938484835087 tw1754604066721752875 tw8840080175722815897 tw18154984182086192188 tw14935162862594517284 tw16081522732072963062 tw6928149895010893553 tw13479029849154944897 tw11483742664556044011 tw6059507799675226942 tw9153433157096379332 tw3695548325517187246 tw4732116017980932555 tw16372992659183299662 tw353707228124298414 tw15044942192020800813 tw7462419168174048924 tw4831230362250200245 tw12975542230527841123 tw6905514887795178123 tw3020324333916328324 tw3357014042936977508 tw780078189408229532 tw2844440754758536977 tw12462145526520324000 tw9185945847433120360 tw4950015814792459181 tw4017951304530995146 tw2014833856890577289 tw17491752405070064520 tw14355936494223540319 tw9438116095037430696 tw17959601735863923636 tw15926081326349311983 tw14004639139900169995 tw17517757458237676153 tw12220988203042085445 tw15041140025675874796 tw3549130336047970132 tw13679026581233588961 tw12387422410389235260 tw12658971359791794768 tw12451332956211469095 tw7987155405298598435 tw2277086141453669947 tw1399620507185856246 tw5320126335642642617 tw571336414161312706 tw15827205125910907449 tw14174587823165700338 tw10591511568579667695 tw15143323557272241125 tw13922902552879098033 tw17781073960306274149 tw9599743933033157421 tw18109436240202183558 tw8177801511806019741 tw13101384005833013746 tw8572704927814884604 tw2437311553902489017 tw15858876428190469402 tw11524214952187686477 tw12243529928183793895 tw13955371676207968114 tw13666400130907953098 tw10379035148170621716 tw8205695061181098516 tw5920062637385808594 tw7842737962755962132 tw6079136689756746337 tw16696053075358958023 tw11490584647896497410 tw9776967555116931099 tw9384203063320237334 tw801698041887481412 tw7200561328239650724 tw16931034925881590695 tw16281523504769083163 tw15461961672300898260 tw11158151034612483333 tw11332817455350759272 tw16062838694371153641 tw12243802412711631859 tw2150585155169779894 tw701015987948418533 tw17440043662158688073 tw6581514416805856037 tw6215834119558830371 tw9873841314828348322 tw9458105887838846405 tw11097993285281544708 tw10807961918500954714 tw17099453403630738173 tw610444552591882844 tw14372591475906372068 tw12072110324776474519 tw12035341911156541209 tw6414577934228765045 tw3179595827121099254 tw15489608387192956956 tw10048396010330370169 tw6824764679494397149 tw2886950896358073935 tw17653916446793356349 tw7535638154325182209 tw13072280020085749044 tw1292563493725760631 tw11657327678017995589 tw9436468926546372046 tw2818880048920730669 tw18096306383479673995 tw5853958993346559035 tw13721939823420981009 tw10633197672975826095 tw15687031764211837421 tw281728034294073328 tw12269700368541269876 tw15370681238173628718 tw10023063926712480398 tw15202745343062469117 tw15758043615757228016 tw10493013040867565393 tw9929850469040318494 tw9791951345235908411 tw9409604238785279750 tw9089316685390993086 tw9000346912233667900 tw8836652951367677 tw8198344829846480729 tw7655011397854503122 tw7344597942451616032 tw6850836861057209321 tw6726617500603199972 tw6467106454424966405 tw6421427949019091645 tw6198649859109215804 tw5759417037845107284 tw5462906718961150155 tw5268249818728964496 tw52198710826631815 tw4332491619668598352 tw3980907133480401474 tw3197029521444256225 tw2060422422604815183 tw18046886550336145873 tw17719423621150608795 tw16879252390552617623 tw16312845516194176977 tw16076338719171361339 tw15329297452280789616 tw14696136716628565855 tw14227419708971879620 tw13992968294325836295 tw1345484687617608988 tw12945462873435310232 tw10600668324097838276 tw10069607618485300962 tw8962476264612209790 tw1017714645522828280 tw5937010559614642711 tw5585861168396024142 tw9900091370944481747 tw8211244727432020693 tw4470479916531252577 tw4046168579434926128 tw3146119834928201648 tw3132405406406866669 tw1919686971805682691 tw1603891366813643715 tw1360088662296770610 tw12972442882837095667 tw11138047407313120026 tw393931812170823207 tw10133207180800681161 tw12216876736372886900 tw7334896486731185635 tw7169734302736343982 tw61294439137311938 tw416999282416733516 tw1814689061738326088 tw18051908061880381894 tw17587653327204604267 tw16503408540625752520 tw15252654898155283137 tw11762198787454325204 tw8820742519898333754 tw14298249922405915925 tw11234795189969596063 tw10969146499190360875 tw6078211357782039782 tw1722092186299795657 tw984104227638930225 tw876273995394823223 tw8309727146159400875 tw7925458384198413507 tw7778359315714191274 tw771652836963480272 tw5379278560474840398 tw4345909729385985835 tw2343417558550231680 tw1984951956813994192 tw17906935648004407903 tw16734921287081448545 tw16323569416163250276 tw15852490938572912609 tw15766064593756042132 tw15305053832277695023 tw15076144444932459174 tw13216837794664761243 tw13142251070367700623 tw12667002550934282760 tw12461704068939158923 tw11091598784454873676 tw15442506324319195339 tw2000827867313750062 tw13374647809373675586 tw13253460404122565567 tw6446382604534147002 tw16534874305807776783 tw7030450340648190255 tw12684013941910967762 tw3781115090489515828:True)
open PySem PySem.W PyProof.Rows
set_option maxRecDepth 100000 in
set_option maxHeartbeats 0 in
theorem PySem.Challenge.cw_knotless_k45_whole_notes_lead_holds : PySem.Challenge.rw_knotless_k45_whole_notes_lead.Holds := by
 w_on;o_law;k_head;(case hw=>w_witness2)
 k_fill
 refine fc.walk (l:=PySem.Challenge.rw_knotless_k45_whole_notes_lead) rfl rfl rfl (fun w h Y=>PySem.W.kIn_of Y) ?F
 case F =>
  intro w mg h KX G
  refine' fc.ab5 KX G ?E1 ?Iz ?IA ?E2 ?Ml ?Ct ?Mm ?QE ?vC ?yo ?yp ?yq ?vD ?E3 ?Cu ?qO ?tL ?tM ?qP ?tN ?vE ?vF ?tO ?vG ?E4 ?Mn ?Wo ?Wp ?Mp ?E5 ?Mq ?vH ?Ah ?Ai ?qQ ?tP ?Aj ?vI ?vJ ?yr ?Ak ?o8 ?tQ ?vK ?mF ?mG ?tR ?Cv ?vL ?qR ?yt ?Cw ?Cy ?Al ?Am ?yu ?Cz ?CA ?E6 ?CB ?CC ?CD ?CF ?CG ?yv ?An ?yw ?vM ?vN ?vO ?vP ?pZ ?tS ?vQ ?qS ?pe ?CH ?oq ?qU ?iW ?ou ?mH ?pq ?yx ?qV ?Ao ?E7 ?E8 ?E9 ?Aq ?CI ?CJ ?QF ?IB ?IC ?ID ?Wq ?Ar ?pA ?yy ?DF ?qW ?As ?DG ?qX ?Au ?Av ?pB ?qY ?vR ?oz ?qZ ?IE ?kH ?kI ?yz ?yC ?wU ?rz ?mJ ?IF ?yD ?Oc ?Aw ?tT ?j9 ?yE ?yF ?vS ?vU ?tU ?vV ?tV ?tW ?rA ?IG ?pC ?pD ?pF ?Fb ?Fc ?CK ?CL ?vW ?yG ?yH ?yI ?tX ?yJ ?yK ?Wr ?yM ?Ws ?QG ?QH ?Mr ?Ms ?Ax ?Wt ?Wu ?Wv ?II
  case E1|Iz|IA|E2|Ml|Ct|Mm|QE | CC|CD|CF|CG|yv|An | vM|vN|vO|vP|pZ|tS | pA|yy | qW|As | qX|Au | pB|qY|vR|oz|qZ | kH|kI|yz|yC | rz|mJ | yD | Aw|tT|j9|yE|yF|vS|vU|tU|vV|tV|tW|rA|IG|pC|pD|pF|Fb | CK | vW|yG|yH|yI|tX|yJ|yK|Wr|yM|Ws|QG|QH|Mr|Ms|Ax|Wt|Wu|Wv|II=>k_is
  case vC|yo|yp|yq|vD | qO|tL|tM|qP|tN|vE|vF|tO|vG | vH|Ah|Ai|qQ|tP|Aj | o8|tQ|vK|mF|mG|tR | qR|yt|Cw|Cy|Al|Am|yu|Cz|CA|E6|CB | yw | vQ|qS|pe|CH|oq|qU|iW|ou|mH|pq=>exact L2.lZ (by k_is) (by k_is) (by k_is) (by k_is) (by k_is)
  case E3|Cu | E4|Mn|Wo|Wp|Mp|E5|Mq | vI|vJ|yr|Ak | Cv|vL | yx|qV|Ao|E7|E8|E9|Aq|CI|CJ|QF|IB|IC|ID|Wq=>exact L2.xy KX G (by k_is) (by k_is) (by k_is) (by k_is)
  case Ar | DF | DG | Av | IE | wU | IF | Oc=>exact L2.Z7 (by k_is) (by k_is) (by k_is) (by k_is) (by k_is) (by k_is)
  case Fc | CL=>exact⟨by k_exc,by k_is,by k_is,by k_is,by k_is,by k_is,by k_is,by k_is,by k_is⟩
#print axioms PySem.Challenge.cw_knotless_k45_whole_notes_lead_holds
