import PyProof.Rows.All
import Wide.All
import OpenK.AllK
import Wide.FinOn
import Lean
import PyProof.EqAt
import PyProof.EqKinds
import PyProof.TupleCall
import PySem.Challenge.RW_knotless_k39_desk_answers
set_option Elab.async false
noncomputable section
universe u v
section
local macro_rules|`(∅)=>`(by lia)
local macro_rules|`(!_)=>`(by decide)
local macro_rules|`(-_)=>`(by simp)
theorem Ou:1<=PySem.sizeLine:=!_
theorem ff:2<=PySem.sizeLine:=!_
theorem ur:3<=PySem.sizeLine:=!_
theorem aaU:4<=PySem.sizeLine:=!_
theorem aa7:5<=PySem.sizeLine:=!_
def b3:=@if_pos.{u}
def eH:=@if_neg.{u}
def eO:=@decide_eq_true
def e8:=@decide_eq_false
def fT:=@of_decide_eq_true
def eL:=@absurd.{v}
def fy:=@congrArg.{u,v}
open List renaming getElem?_eq_getElem -> aa, length_map -> ah, getElem?_eq_some_iff -> ai, getD_eq_getElem?_getD -> aj, getElem?_map -> ak, range -> au, length_append -> aA, getElem_mem -> aD, mem_map -> aF, mem_of_getElem? -> aI, mem_cons_self -> aL, mem_cons_of_mem -> aM, map_append -> aU, mem_cons -> aV, size_toArray -> aW, mem_singleton -> aX, length_set -> bg, mem_append -> bx, length_range -> bz, map_cons -> bA, replicate -> bB, length_filter_le -> bD, length_cons -> bH, getElem?_append_left -> bM, map_map -> bP, length_take -> bU, getElem?_append_right -> bW, mem_filter -> bZ, mem_range -> cT, map_congr_left -> cU, filter_cons_of_pos -> dc, filter_cons_of_neg -> dg, mem_or_eq_of_mem_set -> dM, mem_append_right -> er, filterMap_cons -> eu, getElem?_set -> eV, append_assoc -> eW, range_succ -> fB, foldl_cons -> fC, append_nil -> fD, lookup_cons -> fL, length_pos_iff -> gE, getElem?_range -> gF, filter_append -> iy, ext_getElem -> iA, getElem?_of_mem -> iD, nodup_nil -> iU, replicate_succ -> iX, nodup_cons -> iY, take_of_length_le -> jg, take_length -> jB, getElem?_eq_none -> jG, take_succ_eq_append_getElem -> j3, map_set -> lB, sum_cons -> lE, all_eq_true -> lM, getElem_range -> nB, getElem?_concat_length -> nN, take_add_one -> pG, length_drop -> rR, getElem_map -> rS, lookup -> rU, nil_append -> uA, length_nil -> uB, find?_cons -> uC, nodup_append -> xA, flatten_cons -> xB, any_eq_true -> zY
open PySem.W renaming Frag -> af, findIn -> aH, nsIn -> bw, mg_of -> bR, mg_none_of -> c7, keepIn -> dJ, fnOf -> fm, kia_one -> gi, emptyDict -> gC, codeIn -> jY, instObj -> ki, callWith_K -> uv, hasDictIn -> xx, plainGet -> zX
open Nat renaming le_trans -> ay, le_refl -> aB, zero_le -> be, lt_of_le_of_lt -> bq, add_le_add_left -> bI, lt_of_lt_of_le -> bK, ne_of_lt -> bT, min_le_left -> cQ, le_succ -> gD, le_of_lt -> g4, toDigits -> jE, lt_irrefl -> jF, le_succ_of_le -> kj, sub_self -> lA, add_le_add_right -> pS, le_add_right -> rQ, toDigits_of_lt_base -> uy, not_lt_zero -> uz
open Bool renaming false_ne_true -> aO, and_eq_true -> dF, eq_iff_iff -> ku
open Option.some renaming inj -> aR
open Option renaming some_ne_none -> aS, map_some -> ux
open PySem.F renaming plainAttrs_list -> bJ, type_list_append -> bN, slot_list_append -> bO, plainAttrs_str -> bY, type_str_join -> d9, slot_str_join -> ee
open Ne renaming symm -> cu
open Int renaming zero_add -> eB, emod_nonneg -> eE, emod_lt_of_pos -> fq, eq_ofNat_of_zero_le -> iR, toNat_natCast -> ko
open Array renaming length_toList -> fO, getElem?_eq_some_iff -> pJ
open Sum renaming inl -> gZ, inr -> pR
open List.cons renaming inj -> jH
open ForInStep renaming yield -> kq
open False renaming elim -> kr
open True renaming intro -> pF
open PySem.Builtin.Str renaming strKind -> qZ
open PySem renaming mem_of_lookup -> rT
open PySem.W.KAf renaming starts_left -> uw
open PyProof.Rows renaming slot_tuple_getitem -> xy
set_option linter.all false
set_option maxRecDepth 100000
namespace L2
open PySem PySem.Spec PyProof.Rows
abbrev Key:=Sum Int Str
noncomputable def Qt:Key->Value->Bool
 |.inl k,v=>Value.isInt k v
 |.inr x,v=>Value.isStrOf x v
noncomputable def amK(w:World):Key->Int
 |.inl k=>hashInt k
 |.inr x=>hashStr w x
theorem iE:∀{k:Key} {v:Value},Qt k v=true->(∃i t,k=gZ i/\v=Value.int i t)∨(∃x t,k=pR x/\v=Value.str x t)
 |.inl i,v,h=>by
  obtain⟨t,e⟩:=Value.isInt_shape (k:=i) (v:=v) h;exact .inl ⟨i,t,rfl,e⟩
 |.inr x,v,h=>by
  obtain⟨t,e⟩:=Value.isStrOf_shape (x:=x) (v:=v) h;exact .inr ⟨x,t,rfl,e⟩
theorem ZK(i:Int)(t:Tok):Qt (.inl i) (.int i t)=true:=by simp[Qt,Value.isInt]
theorem IK(x:Str)(t:Tok):Qt (.inr x) (.str x t)=true:=by simp[Qt,Value.isStrOf]
theorem agV(a b:Int):decide ((gZ a:Key)=gZ b)=(a==b):=by
 by_cases e:a=b
 ·subst e;simp
 ·have h:¬(gZ a:Key)=gZ b:=λq=>e (Sum.inl.inj q)
  rw[e8 h];exact (beq_eq_false_iff_ne.mpr e).symm
theorem agW(a b:Str):decide ((pR a:Key)=pR b)=decide (a=b):=by
 by_cases e:a=b
 ·subst e;simp
 ·have h:¬(pR a:Key)=pR b:=λq=>e (Sum.inr.inj q)
  rw[e8 h,e8 e]
theorem agX(a:Int)(b:Str):decide ((gZ a:Key)=pR b)=false:=e8 (λq=>nomatch q)
theorem agY(a:Str)(b:Int):decide ((pR a:Key)=gZ b)=false:=e8 (λq=>nomatch q)
noncomputable def gn(prog:Program)(w:World):PySem.KeyKind prog w Key where
 is:=Qt
 hash:=amK w
 inj:=λv a b ha hb=>by
  rcases iE ha with ⟨i,t,rfl,rfl⟩|⟨x,t,rfl,rfl⟩
  ·rcases iE hb with ⟨j,u,rfl,e⟩|⟨y,u,rfl,e⟩
   ·injection e with e1 _;rw[e1]
   ·exact nomatch e
  ·rcases iE hb with ⟨j,u,rfl,e⟩|⟨y,u,rfl,e⟩
   ·exact nomatch e
   ·injection e with e1 _;rw[e1]
 byValue:=λk v h=>by
  rcases iE h with ⟨i,t,rfl,rfl⟩|⟨x,t,rfl,rfl⟩ <;> rfl
 pyHash:=λhv h=>by
  rcases iE hv with ⟨i,t,rfl,rfl⟩|⟨x,t,rfl,rfl⟩
  ·exact wpAny_pyHash_int h
  ·exact wpAny_pyHash_str h
 eqBool:=λhu hv h=>by
  rcases iE hu with ⟨i,t,rfl,rfl⟩|⟨x,t,rfl,rfl⟩
  ·rcases iE hv with ⟨j,u,rfl,rfl⟩|⟨y,u,rfl,rfl⟩
   ·rw[agV] at h;exact wpAny_eqBool_int h
   ·rw[agX] at h;exact SeqAt.EqAt.int_str i t y u _ _ _ _ h
  ·rcases iE hv with ⟨j,u,rfl,rfl⟩|⟨y,u,rfl,rfl⟩
   ·rw[agY] at h;exact SeqAt.EqAt.str_int x t j u _ _ _ _ h
   ·rw[agW] at h;exact wpAny_eqBool_str h
 «strs»:=λk x t v h=>by
  rcases iE h with ⟨i,u,rfl,e⟩|⟨y,u,rfl,e⟩
  ·exact nomatch e
  ·injection e with e1 _
   subst e1;cases v <;> rfl
theorem Ur(prog:Program)(w:World)(i:Int)(t:Tok):(gn prog w).is (.inl i) (.int i t)=true:=ZK i t
theorem Us(prog:Program)(w:World)(x:Str)(t:Tok):(gn prog w).is (.inr x) (.str x t)=true:=IK x t
inductive V where
 |dH|bl (b:Bool)|int (i:Int)|str (x:Str)|Ye (b:Array UInt8)|Nn (b:UInt64)|ref (a:Addr)|ty (n:String)
 deriving DecidableEq
def RelV:V->Value->Prop
 |.dH,u=>u=Value.none
 |.bl b,u=>u=Value.bool b
 |.int i,u=>∃t,u=Value.int i t
 |.str x,u=>∃t,u=Value.str x t
 |.Ye b,u=>∃t,u=Value.bytes b t
 |.Nn b,u=>∃t,u=Value.float b t
 |.ref a,u=>u=Value.ref a
 |.ty n,u=>u=Value.type n
abbrev b6:List V->List Value->Prop:=Paired RelV
theorem b6.length{xs:List V}{us:List Value}(r:b6 xs us):xs.length=us.length:=Paired.length r
theorem b6.get:∀{xs:List V} {us:List Value} {i:Nat} {x:V},b6 xs us->xs[i]?=some x->∃u,us[i]?=some u/\RelV x u
 |_,_,_,_,.nil,e=>by simp at e
 |_,_,0,_,.cons r _,e=>by simp at e;subst e;exact⟨_,rfl,r⟩
 |_,_,i+1,x,.cons _ t,e=>by
  obtain⟨u,a,b⟩:=b6.get (i:=i) (x:=x) t (by simpa using e);exact⟨u,by simpa using a,b⟩
theorem b6.set{x:V}{u:Value}(r:RelV x u):∀{xs:List V} {us:List Value} (i:Nat),b6 xs us->b6 (xs.set i x) (us.set i u)
 |_,_,_,.nil=>.nil
 |_,_,0,.cons _ t=>.cons r t
 |_,_,i+1,.cons q t=>.cons q (b6.set r i t)
theorem b6.append:∀{xs a:List V} {us ws:List Value},b6 xs us->b6 a ws->b6 (xs++a) (us++ws)
 |_,_,_,_,.nil,s=>s
 |_,_,_,_,.cons r t,s=>.cons r (b6.append t s)
theorem b6.take:∀{xs:List V} {us:List Value} (n:Nat),b6 xs us->b6 (xs.take n) (us.take n)
 |_,_,0,_=>.nil
 |_,_,_+1,.nil=>.nil
 |_,_,n+1,.cons r t=>.cons r (b6.take n t)
theorem b6.drop:∀{xs:List V} {us:List Value} (n:Nat),b6 xs us->b6 (xs.drop n) (us.drop n)
 |_,_,0,r=>r
 |_,_,_+1,.nil=>.nil
 |_,_,n+1,.cons _ t=>b6.drop n t
def BK:Option V->Option Value->Prop
 |some v,some u=>RelV v u
 |none,none=>True
 |_,_=>False
def KV{κ:Type}:List (κ×V)->List (κ×Value)->Prop:=Paired λ(p:κ×V) (q:κ×Value)=>p.1=q.1/\RelV p.2 q.2
noncomputable def kV:Key->V
 |.inl i=>.int i
 |.inr x=>.str x
inductive HO where
 |lst (xs:List V)
 |tup (xs:List V)
 |dK (kvs:List (Key×V))|dT (kvs:List (List Key×V))
 |set (S:Int->Bool) (n:Nat)
 |ins (C dx:Addr) (fs:List (Str×V))
 |own (x:Addr)
 |xd (fs:List (Str×V))
 |met (f x:Addr)
 |ZL (lo hi:Int)
 |Ut (o:Obj) (u:HO)
 |wg (ps:Array Value)
 |ext (φ:Heap->Prop)
abbrev Hp:=Addr->Option HO
noncomputable def upd(H:Hp)(a:Addr)(o:HO):Hp:=λb=>if b=a then some o else H b
theorem aq{H:Hp}{a:Addr}{o:HO}:upd H a o a=some o:=by unfold upd;rw[b3 rfl]
theorem aK{H:Hp}{a b:Addr}{o:HO}(h:b≠a):upd H a o b=H b:=by unfold upd;rw[eH h]
theorem RU{H:Hp}{a:Addr}{o u:HO}:upd (upd H a o) a u=upd H a u:=by
 funext b;unfold upd;split <;> rfl
theorem pK{H:Hp}{a b:Addr}{o u:HO}(h:H a=some o)(h':H b=some u)(d:o≠u):a≠b:=by
 intro e;subst e;rw[h] at h';exact d (aR h')
theorem aJ{H:Hp}{a b:Addr}{o:HO}(h:H a=some o)(h':H b=none):a≠b:=by
 intro e;subst e;rw[h] at h';cases h'
section
variable(P:Program)(w:World)
def gJ(H:Hp)(h:Heap)(a:Addr):HO->Prop
 |.lst xs=>xs.length<=sizeLine/\∃(its:List Value) (n:Nat),b6 xs its/\h.get? a=some {cls:=.type "list",data:=.seq its.toArray n}
 |.tup xs=>xs.length<=sizeLine/\∃its:List Value,b6 xs its/\IsTup h a its.toArray
 |.dK kvs=>kvs.length<=sizeLine/\(a==sysModules)=false/\∃vs,KV kvs vs/\h.DictOf (gn P w) a vs
 |.dT kvs=>kvs.length<=sizeLine/\(a==sysModules)=false/\∃xs:List (List Key×Addr×Value),
  Paired (λ(p:List Key×V) (q:List Key×Addr×Value)=>p.1=q.1/\H q.2.1=some (.tup (p.1.map kV))/\RelV p.2 q.2.2) kvs xs /\
  ∃o es ep,h.get? a=some o/\o.ExactDict/\o.data=.dict es ep/\es.toList=xs.map (entryOfKey (tupleKind (gn P w)))/\(xs.map (·.1)).Nodup
 |.set S n=>h.SetOf (intKind P w) a S n
 |.ins C dx fs=>H dx=some (.own a)/\fs.length<=1000/\dx≠a/\h.get? a=some (ki C dx) /\
  ∃mA,h.Ns1 dx mA/\(∀f,BK (fs.lookup f) (mA f))/\PySem.Within mA (fs.map (·.1))
 |.own _=>∃o,h.get? a=some o
 |.xd fs=>∃mA,h.Ns1 a mA/\∀f,BK (fs.lookup f) (mA f)
 |.ZL lo hi=>∃t u v,h.get? a=some {cls:=.type "range",data:=.fields #[.int lo t,.int hi u,.int 1 v]}
 |.Ut o u=>h.get? a=some o/\gJ H h a u
 |.wg ps=>h.get? a=some {cls:=.none,data:=.fields ps}
 |.met f x=>h.get? a=some (PySem.W.methodObj (.ref f) (.ref x))
 |.ext φ=>φ h/\(∃o,h.get? a=some o)/\∀h1 h2:Heap,φ h1->(∀o,h1.get? a=some o->h2.get? a=some o)->φ h2
def BN(H:Hp)(h:Heap):Prop:=∀a o,H a=some o->gJ P w H h a o
end
section
variable{P:Program}{w:World}{H H':Hp}{h h':Heap}{a:Addr}{o:HO}
theorem gJ.lt(x:gJ P w H h a o):a<h.objs.size:=by
 cases o with
 |lst d=>obtain⟨_,_,_,_,e⟩:=x;exact Heap.lt_size e
 |tup d=>obtain⟨_,_,_,p⟩:=x;exact p.lt
 |dK b=>obtain⟨_,_,_,_,o,_,_,e,_⟩:=x;exact Heap.lt_size e
 |dT b=>obtain⟨_,_,_,_,o,_,_,e,_⟩:=x;exact Heap.lt_size e
 |set S n=>obtain⟨o,_,_,_,e,_⟩:=x;exact Heap.lt_size e
 |ins C k c=>obtain⟨_,_,_,e,_⟩:=x;exact Heap.lt_size e
 |own y=>obtain⟨_,e⟩:=x;exact Heap.lt_size e
 |xd c=>obtain⟨_,⟨_,_,_,e,_⟩,_⟩:=x;exact Heap.lt_size e
 |ZL lo i=>obtain⟨_,_,_,e⟩:=x;exact Heap.lt_size e
 |Ut ob u=>obtain⟨e,_⟩:=x;exact Heap.lt_size e
 |wg g=>exact Heap.lt_size (show h.get? a=some _ from x)
 |met f y=>exact Heap.lt_size (show h.get? a=some _ from x)
 |ext j=>obtain⟨_,⟨_,e⟩,_⟩:=x;exact Heap.lt_size e
theorem Paired.ag0{c d:Type}{F G:c->d->Prop}:∀{l₁:List c} {l₂:List d},Paired F l₁ l₂->(∀a b,F a b->G a b)->Paired G l₁ l₂
 |_,_,.nil,_=>.nil
 |_,_,.cons r t,f=>.cons (f _ _ r) (Paired.ag0 t f)
theorem gJ.stay(x:gJ P w H h a o)(k:∀b u,(b=a∨H b=some (.own a))->h.get? b=some u->h'.get? b=some u)
 (G:∀b,H b=some (.own a)->H' b=some (.own a)) (I:∀b xs,H b=some (.tup xs)->H' b=some (.tup xs)):gJ P w H' h' a o:=by
 induction o with
 |lst xs=>obtain⟨z,j,n,r,e⟩:=x;exact⟨z,j,n,r,k _ _ (.inl rfl) e⟩
 |tup xs=>obtain⟨z,j,r,ob,e,c⟩:=x;exact⟨z,j,r,ob,k _ _ (.inl rfl) e,c⟩
 |dK m=>obtain⟨z,y,F,r,ob,g,i,e,c⟩:=x;exact⟨z,y,F,r,ob,g,i,k _ _ (.inl rfl) e,c⟩
 |dT m =>
  obtain⟨z,y,xs,r,ob,g,i,e,c⟩:=x;exact⟨z,y,xs,Paired.ag0 r λp q z=>⟨z.1,I _ _ z.2.1,z.2.2⟩,ob,g,i,k _ _ (.inl rfl) e,c⟩
 |set S n=>obtain⟨ob,g,i,t,e,c⟩:=x;exact⟨ob,g,i,t,k _ _ (.inl rfl) e,c⟩
 |ins C M D =>
  obtain⟨d,z,J,e,s,⟨l,g,i,B,c⟩,r⟩:=x;exact⟨G _ d,z,J,k _ _ (.inl rfl) e,s,⟨l,g,i,k _ _ (.inr d) B,c⟩,r⟩
 |own y=>obtain⟨ob,e⟩:=x;exact⟨ob,k _ _ (.inl rfl) e⟩
 |xd D=>obtain⟨s,⟨l,g,i,e,c⟩,r⟩:=x;exact⟨s,⟨l,g,i,k _ _ (.inl rfl) e,c⟩,r⟩
 |ZL lo K=>obtain⟨t,u,v,e⟩:=x;exact⟨t,u,v,k _ _ (.inl rfl) e⟩
 |Ut ob u E=>obtain⟨e,q⟩:=x;exact⟨k _ _ (.inl rfl) e,E q⟩
 |wg A =>
  have e:h.get? a=some {cls:=.none,data:=.fields A}:=x;show h'.get? a=some {cls:=.none,data:=.fields A};exact k a _ (.inl rfl) e
 |met f y =>
  have e:h.get? a=some (PySem.W.methodObj (.ref f) (.ref y)):=x;show h'.get? a=some (PySem.W.methodObj (.ref f) (.ref y));exact k a _ (.inl rfl) e
 |ext L=>obtain⟨p,⟨o,e⟩,st⟩:=x;exact⟨st _ _ p λo q=>k _ _ (.inl rfl) q,⟨o,k _ _ (.inl rfl) e⟩,st⟩
theorem BN.lt(x:BN P w H h)(e:H a=some o):a<h.objs.size:=(x a o e).lt
theorem BN.fresh(x:BN P w H h)(e:h.objs.size<=a):H a=none:=by
 cases q:H a with
 |none=>rfl
 |some u=>exact eL (bK (x.lt q) e) (jF _)
theorem BN.kept(x:BN P w H h)(k:∀b u,h.get? b=some u->h'.get? b=some u):BN P w H h':=λa o e =>
 (x a o e).stay (λb u _ q=>k b u q) (λ_ q=>q) λ_ _ q=>q
theorem BN.laid(x:BN P w H h)(k:∀b u,h.get? b=some u->h'.get? b=some u)(i:h.objs.size<=a)(d:gJ P w (upd H a o) h' a o):BN P w (upd H a o) h':=λb u e=>by
 have f:=x.fresh i;by_cases g:b=a
 ·subst g;rw[aq] at e;cases e;exact d
 ·rw[aK g] at e
  exact (x b u e).stay (λc v _ q=>k c v q) (λc q=>by rw[aK (aJ q f)];exact q) λc j q=>by rw[aK (aJ q f)];exact q
end
def Rd(H:Hp)(a:Addr)(u:HO):Prop:=H a=some u∨∃o,H a=some (.Ut o u)
theorem Rd.ok{P:Program}{w:World}{H:Hp}{h:Heap}{a:Addr}{u:HO}(r:Rd H a u)(x:BN P w H h):gJ P w H h a u:=by
 rcases r with r|⟨o,r⟩
 ·exact x a u r
 ·obtain⟨_,q⟩:=x a _ r
  exact q
def Mut:Option HO->Prop
 |some (.lst _)=>True
 |some (.dK _)=>True
 |some (.dT _)=>True
 |some (.set _ _)=>True
 |some (.ins _ _ _)=>True
 |some (.ext _)=>True
 |_=>False
section
variable{P:Program}{w:World}{H:Hp}{h h':Heap}{x e:Addr}{o':HO}
theorem BN.write(ok:BN P w H h)(g:Mut (H x))(o:e=x∨H e=some (.own x))(k:∀b u,b≠e->h.get? b=some u->h'.get? b=some u)(m:∃u,h'.get? e=some u)
 (l:gJ P w (upd H x o') h' x o'):BN P w (upd H x o') h':=λb u q=>by
 have d:∀c y,H c=some (.own y)->c≠x:=λc y r z=>by subst z;rw[r] at g;exact g
 have j:∀c i,H c=some (.tup i)->c≠x:=λc i r z=>by subst z;rw[r] at g;exact g
 by_cases f:b=x
 ·subst f;rw[aq] at q;cases q;exact l
 ·rw[aK f] at q
  by_cases a:b=e
  ·have n:H b=some (.own x):=by
    rcases o with z|z
    ·exact eL (a.trans z) f
    ·rw[a];exact z
   rw[q] at n;cases n;obtain⟨v,p⟩:=m;exact⟨v,by rw[a];exact p⟩
  ·refine (ok b u q).stay (λc v hc r=>k c v ?_ r) (λc r=>by rw[aK (d c b r)];exact r) λc i r=>by rw[aK (j c i r)];exact r
   rcases hc with rfl|hc
   ·exact a
   ·rintro rfl
    rcases o with z|z
    ·exact d c b hc z
    ·rw[hc] at z;cases z;exact f rfl
end
structure Un(fs ex:List Addr)(H H':Hp)(h h':Heap):Prop where
 keep:∀b o,h.get? b=some o->H b=none->b∉fs->b∉ex->h'.get? b=some o
 slot:∀b o,h.get? b=some o->H b=none->b∈fs->b∉ex->∃sl,h'.get? b=some {o with slots:=sl}
 free:∀b o,h.get? b=some o->H b=none->b∉ex->H' b=none
 there:∀b o,h.get? b=some o->b∉ex->∃o',h'.get? b=some o'
 tups:∀b xs,H b=some (.tup xs)->H' b=some (.tup xs)
 G3:∀b o u,H b=some (.Ut o u)->H' b=some (.Ut o u)
 IL:∀b ps,H b=some (.wg ps)->∃more,H' b=some (.wg (ps++more))
section
variable{fs fs' ex ex':List Addr}{H H1 H2:Hp}{h h1 h2 h':Heap}{a x e:Addr}{o:HO}
theorem Un.any(u:Un fs ex H H1 h h1){b:Addr}{ob:Obj}(q:h.get? b=some ob)(n:H b=none)(c:b∉ex):∃d,h1.get? b=some {ob with slots:=d}:=by
 by_cases a:b∈fs
 ·exact u.slot b ob q n a c
 ·exact⟨ob.slots,u.keep b ob q n a c⟩
theorem Un.trans(a:Un fs ex H H1 h h1)(b:Un fs ex H1 H2 h1 h2):Un fs ex H H2 h h2 where
 keep:=λc ob q n g d=>b.keep c ob (a.keep c ob q n g d) (a.free c ob q n d) g d
 slot:=λc ob q n g d=>by
  obtain⟨p,e⟩:=a.slot c ob q n g d;obtain⟨k,i⟩:=b.slot c _ e (a.free c ob q n d) g d;exact⟨k,i⟩
 free:=λc ob q n d=>by
  obtain⟨j,e⟩:=a.there c ob q d;exact b.free c j e (a.free c ob q n d) d
 there:=λc ob q d=>by
  obtain⟨j,e⟩:=a.there c ob q d;exact b.there c j e d
 tups:=λc f q=>b.tups c f (a.tups c f q)
 G3:=λc ob f q=>b.G3 c ob f (a.G3 c ob f q)
 IL:=λc m q=>by
  obtain⟨l,e⟩:=a.IL c m q;obtain⟨o,i⟩:=b.IL c _ e;exact⟨l++o,by rw[i,Array.append_assoc]⟩
theorem Un.kept(k:∀b u,h.get? b=some u->h'.get? b=some u):Un fs ex H H h h' :=
 ⟨λb ob q _ _ _=>k b ob q,λb ob q _ _ _=>⟨ob.slots,k b ob q⟩,λ_ _ _ n _=>n,λb ob q _=>⟨ob,k b ob q⟩,λ_ _ q=>q,λ_ _ _ q=>q,λ_ a q=>⟨#[],by rw[q];simp⟩⟩
theorem Un.refl:Un fs ex H H h h:=Un.kept λ_ _ q=>q
theorem Un.laid(k:∀b u,h.get? b=some u->h'.get? b=some u)(d:h.objs.size<=a)(c:H a=none):Un fs ex H (upd H a o) h h' where
 keep:=λb u q _ _ _=>k b u q
 slot:=λb u q _ _ _=>⟨u.slots,k b u q⟩
 free:=λb u q n _=>by rw[aK (bT (bK (Heap.lt_size q) d))];exact n
 there:=λb u q _=>⟨u,k b u q⟩
 tups:=λb e q=>by rw[aK (aJ q c)];exact q
 G3:=λb u e q=>by rw[aK (aJ q c)];exact q
 IL:=λb f q=>⟨#[],by rw[aK (aJ q c),q];simp⟩
theorem Un.write(c:Mut (H x))(l:e=x∨H e=some (.own x))(k:∀b u,b≠e->h.get? b=some u->h'.get? b=some u)(d:∃u,h'.get? e=some u):Un fs ex H (upd H x o) h h':=by
 have g:∀b,H b=none->b≠x:=λb n z=>by subst z;rw[n] at c;exact c
 have i:∀b,H b=none->b≠e:=λb n z=>by
  subst z;rcases l with r|r
  ·exact g b n r
  ·rw[n] at r;cases r
 have f:∀b u,H b=some u->¬Mut (some u)->b≠x:=λb u q m z=>by subst z;rw[q] at c;exact m c
 refine⟨λb u q n _ _=>k b u (i b n) q,λb u q n _ _=>⟨u.slots,k b u (i b n) q⟩,λb u q n _=>by rw[aK (g b n)];exact n,λb u q _=>?_,
  λb j q=>by rw[aK (f b _ q λz=>z)];exact q,λb u j q=>by rw[aK (f b _ q λz=>z)];exact q,λb p q=>⟨#[],by rw[aK (f b _ q λz=>z),q];simp⟩⟩
 by_cases a:b=e
 ·subst a;exact d
 ·exact⟨u,k b u a q⟩
end
noncomputable def trk(h:Heap)(H:Hp):List Addr:=(au h.objs.size).filter λa=>(H a).isSome
noncomputable def RV(h:Heap)(H:Hp):Heap:=PySem.W.hideAll h (trk h H)
theorem ZM(h:Heap)(H:Hp):(RV h H).objs.size=h.objs.size:=PySem.W.hideAll_size _ _
theorem abj{h:Heap}{H:Hp}{b:Addr}{o:Obj}(e:h.get? b=some o)(n:H b=none):(RV h H).get? b=some o :=
 PySem.W.hideAll_get _ e λa=>by
  have q:(H b).isSome=true:=(bZ.mp a).2;rw[n] at q;simp at q
theorem ad8{h:Heap}{H:Hp}{b:Addr}{o:Obj}(e:(RV h H).get? b=some o):h.get? b=some o/\H b=none:=by
 have a:h.get? b=some o:=PySem.W.of_hideAll (trk h H) e;refine⟨a,?_⟩;cases q:H b with
 |none=>rfl
 |some x =>
  have c:b∈trk h H:=bZ.mpr ⟨cT.mpr (Heap.lt_size a),by simp[q]⟩;have z:(RV h H).get? b=none:=PySem.W.hideAll_none (trk h H) c;rw[z] at e;cases e
noncomputable def ad9(g h:Heap)(L:Addr):List (Addr×Obj):=(au h.objs.size).filterMap λa=>if a=L∨(g.get? a).isSome=true then none else (h.get? a).map λo=>(a,o)
noncomputable def rest(g h:Heap)(L d:Addr):List (Addr×Obj):=(ad9 g h L).filter λp=>decide (p.1≠d)
structure Mod(K:af)(mg:Str->Option Value)(base:Heap):Prop where
 z0:K.In base
 glob:base.Ns mainGlobals mg
 blt:∃mb,base.Ns builtinsNs mb/\∀x:Str,x≠"__name__" -> mb x=bootBuiltins x
 nolimit:base.NoLimit
structure Cx where
 prog:Program
 w:World
 K:af
 mg:Str->Option Value
 base:Heap
 A:Around
 N:List Str
 s₀:Shared
 H₀:Hp
 env:Env
 outer:List Env
 stack:List Env
 ex:List Addr
 fn:Str->Bool
 calm:Bool
 pn:List (Addr×Obj)
 xe:Value->Shared->Prop
noncomputable def frs(l:List Env):List Addr:=l.filterMap (·.frame)
noncomputable abbrev Cx.fs(X:Cx):List Addr:=frs X.outer
def Vis(sc:Scope)(x:Str):Prop:=sc.names.lookup x=some .local∨sc.names.lookup x=some .cell∨sc.names.lookup x=some .free
def Loc(sc:Scope)(x:Str):Prop:=sc.names.lookup x=some .local∨sc.names.lookup x=some .cell
def Look(env:Env)(h:Heap)(m:Str->Option Value)(x:Str)(u:Value):Prop :=
 (env.kindOf x=some .local/\m x=some u)∨((env.kindOf x=some .cell∨env.kindOf x=some .free)/\∃c,env.cells.lookup x=some c/\h.IsCell c (some u))
structure Cx.Ok(X:Cx):Prop where
 mod:Mod X.K X.mg X.base
 kind:X.env.scope.kind=.function
 glob:X.env.globals=mainGlobals
 blt:X.env.builtins=builtinsNs
 above:X.s₀.heap.objs.size<=X.env.locals
 inj:∀x y c,X.env.cells.lookup x=some c->X.env.cells.lookup y=some c->x=y
 has:∀x,(X.env.kindOf x=some .cell∨X.env.kindOf x=some .free)->∃c,X.env.cells.lookup x=some c
 Z7:∀x c,X.fn x=true->X.env.cells.lookup x=some c->X.s₀.heap.objs.size<=c
 hd:X.calm=true->X.A.handled=none
 frames:X.A.frames=some X.stack
 stk:X.stack=X.outer∨(X.stack=X.env::X.outer/\X.env.frame=some X.env.locals)
 exf:∀b∈X.ex,b≠X.env.locals/\∀x c,X.env.cells.lookup x=some c->c≠b
 bs:∀b o,X.base.get? b=some o->X.s₀.heap.get? b=some o/\X.H₀ b=none
 nT:X.base.objs.size<=X.s₀.heap.objs.size
 ZN:∀b o,X.base.get? b=some o->b∉X.ex
 abk:∀b∈X.ex,b∉X.fs
 G4:X.s₀.heap.FunFrames X.base X.outer
 Df:∀b∈X.fs,X.H₀ b=none
structure Inv(X:Cx)(pins:List (Addr×Obj))(σ:List (Option V))(H:Hp)(s:Shared):Prop where
 ok:X.Ok
 os:s.os=X.s₀.os
 bare:AllBare s.gens
 base:Un X.fs X.ex X.H₀ H X.s₀.heap s.heap
 loc:∃m,s.heap.Ns X.env.locals m/\∀(i:Nat) (x:Str) (v:V),X.N[i]?=some x->σ[i]?=some (some v)->Vis X.env.scope x->∃u,RelV v u/\Look X.env s.heap m x u
 cell:∀x c,X.env.cells.lookup x=some c->∃v,s.heap.IsCell c v
 free:H X.env.locals=none
 za:∀x c,X.env.cells.lookup x=some c->H c=none
 pin:∀p∈X.pn++pins,s.heap.get? p.1=some p.2/\H p.1=none/\p.1≠X.env.locals/\p.1∉X.fs/\∀v,p.2.data≠.cell v
 hok:BN X.prog X.w H s.heap
 len:σ.length=X.N.length
section
variable{X:Cx}{pins:List (Addr×Obj)}{σ:List (Option V)}{H H':Hp}{s:Shared}{h':Heap}
theorem Cx.Ok.amN(ok:X.Ok){b:Addr}{o:Obj}(e:X.base.get? b=some o):b∉X.fs:=λa=>by
 have:=(ok.G4.mem a).1
 rw[e] at this;cases this
theorem Inv.bs(I:Inv X pins σ H s):∀b o,X.base.get? b=some o->s.heap.get? b=some o/\H b=none:=λb o e =>
 ⟨I.base.keep b o (I.ok.bs b o e).1 (I.ok.bs b o e).2 (I.ok.amN e) (I.ok.ZN b o e),I.base.free b o (I.ok.bs b o e).1 (I.ok.bs b o e).2 (I.ok.ZN b o e)⟩
theorem Inv.bk(I:Inv X pins σ H s):∀b o,X.base.get? b=some o->s.heap.get? b=some o:=λb o e=>(I.bs b o e).1
theorem Inv.mod(I:Inv X pins σ H s):Mod X.K X.mg X.base:=I.ok.mod
theorem Inv.EH(I:Inv X pins σ H s):X.K.In s.heap:=I.ok.mod.z0.keeps I.bk
theorem Inv.lt(I:Inv X pins σ H s):X.env.locals<s.heap.objs.size:=let ⟨_,a,_⟩:=I.loc;a.lt
theorem Inv.sz(I:Inv X pins σ H s):X.s₀.heap.objs.size<=s.heap.objs.size:=ay I.ok.above (g4 I.lt)
theorem Inv.amO(I:Inv X pins σ H s){a:Addr}(h:s.heap.objs.size<=a):a∉X.fs:=λc=>by
 obtain⟨_,o,b,_⟩:=I.ok.G4.mem c;exact eL (bK (Heap.lt_size b) (ay I.sz h)) (jF _)
theorem Inv.Nr(I:Inv X pins σ H s):∀x c,X.env.cells.lookup x=some c->c≠X.env.locals:=λx c e z=>by
 obtain⟨v,o,f,d⟩:=I.cell x c e;obtain⟨m,⟨g,h,i,b,a,_⟩,_⟩:=I.loc;rw[z,b] at f;cases f;rw[a] at d;cases d
theorem Inv.G4(I:Inv X pins σ H s):s.heap.FunFrames X.base X.outer:=by
 have f:∀(l:List Env),(∀b∈frs l,b∈X.fs)->X.s₀.heap.FunFrames X.base l->s.heap.FunFrames X.base l:=by
  intro l;induction l with
  |nil=>intro _ _;trivial
  |cons i r j =>
   intro g p;obtain⟨m,⟨L,o,a,q,k,h⟩,n⟩:=p;have d:L∈X.fs:=g L (by unfold frs;rw[eu,a];exact aL);obtain⟨t,e⟩:=I.base.slot L o k (I.ok.Df L d) d λz=>I.ok.abk L z d;exact⟨m,⟨L,_,a,q,e,h⟩,j (λb c=>g b (by unfold frs;rw[eu,a];exact aM _ c)) n⟩
 exact f X.outer (λ_ c=>c) I.ok.G4
theorem Inv.stack(I:Inv X pins σ H s):s.heap.FunFrames X.base X.stack:=by
 rcases I.ok.stk with e|⟨e,a⟩
 ·rw[e];exact I.G4
 ·rw[e]
  obtain⟨m,b,_⟩:=I.loc;refine .cons (by rw[I.ok.kind];decide) a b ?_ I.G4;exact Heap.get?_none_of_le (ay I.ok.nT I.ok.above)
theorem Inv.IM(I:Inv X pins σ H s):∀b∈frs X.stack,b∈X.env.locals::X.fs:=λb a=>by
 rcases I.ok.stk with e|⟨e,c⟩
 ·rw[e] at a;exact aM _ a
 ·rw[e] at a
  unfold frs at a;rw[eu,c] at a;exact a
theorem Inv.RW(I:Inv X pins σ H s):∀b∈frs X.stack,H b=none:=λb hb=>by
 rcases aV.mp (I.IM b hb) with e|hb
 ·rw[e];exact I.free
 ·obtain⟨_,o,a,_⟩:=I.ok.G4.mem hb
  exact I.base.free b o a (I.ok.Df b hb) λz=>I.ok.abk b z hb
theorem Inv.step{g':Array GenState}{t':Nat}{d':Drawn}{ch:List Addr}(I:Inv X pins σ H s)
 (h:∀b∈ch,(b∈X.ex∨X.s₀.heap.objs.size<=b)/\b≠X.env.locals/\(∀x c,X.env.cells.lookup x=some c->c≠b)/\∀p∈X.pn++pins,p.1≠b)
 (keep:∀b o,b≠X.env.locals->b∉X.fs->b∉ch->s.heap.get? b=some o->H b=none->h'.get? b=some o)
 (slot:∀b o,b≠X.env.locals->b∈X.fs->b∉ch->s.heap.get? b=some o->H b=none->∃M,h'.get? b=some {o with slots:=M}) (free:∀b o,b∉ch->s.heap.get? b=some o->H b=none->H' b=none)
 (there:∀b o,b∉ch->s.heap.get? b=some o->∃F,h'.get? b=some F)
 (tups:∀b y,H b=some (.tup y)->H' b=some (.tup y)) (G3:∀b o u,H b=some (.Ut o u)->H' b=some (.Ut o u)) (IL:∀b G,H b=some (.wg G)->∃E,H' b=some (.wg (G++E)))
 (Q:∀m,s.heap.Ns X.env.locals m->h'.Ns X.env.locals m) (J:BN X.prog X.w H' h') (S:AllBare g') :
 Inv X pins σ H' {s with heap:=h',gens:=g',drawn:=d',toks:=t'}:=by
 have D:∀b o,X.s₀.heap.get? b=some o->b≠X.env.locals:=λb o e=>bT (bK (Heap.lt_size e) I.ok.above);have j:∀b o,X.s₀.heap.get? b=some o->b∉X.ex->b∉ch:=λb o e a A=>by
  rcases (h b A).1 with z|z
  ·exact a z
  ·exact eL (bK (Heap.lt_size e) z) (jF _)
 have f:∀x c,X.env.cells.lookup x=some c->∀v,s.heap.IsCell c v->h'.IsCell c v:=λx c e v ⟨o,B,L⟩=>by
  have g:c∉ch:=λz=>(h c z).2.2.1 x c e rfl;by_cases P:c∈X.fs
  ·obtain⟨M,q⟩:=slot c o (I.Nr x c e) P g B (I.za x c e)
   exact⟨_,q,L⟩
  ·exact⟨o,keep c o (I.Nr x c e) P g B (I.za x c e),L⟩
 refine⟨I.ok,I.os,S,⟨λb o e n A a=>?_,λb o e n A a=>?_,λb o e n a=>?_,λb o e a=>?_,λb y e=>tups b y (I.base.tups b y e),λb o y e=>G3 b o y (I.base.G3 b o y e),λb G e=>?_⟩,?_,λx c e=>?_,?_,λx c e=>?_,λp N=>?_,J,I.len⟩
 ·exact keep b o (D b o e) A (j b o e a) (I.base.keep b o e n A a) (I.base.free b o e n a)
 ·obtain⟨M,t⟩:=I.base.slot b o e n A a
  obtain⟨K,C⟩:=slot b _ (D b o e) A (j b o e a) t (I.base.free b o e n a);exact⟨K,C⟩
 ·obtain⟨F,t⟩:=I.base.there b o e a
  exact free b F (j b o e a) t (I.base.free b o e n a)
 ·obtain⟨F,t⟩:=I.base.there b o e a
  exact there b F (j b o e a) t
 ·obtain⟨U,t⟩:=I.base.IL b G e
  obtain⟨W,C⟩:=IL b _ t;exact⟨U++W,by rw[C,Array.append_assoc]⟩
 ·obtain⟨m,R,V⟩:=I.loc
  refine⟨m,Q m R,λi x v t C T=>?_⟩;obtain⟨u,r,l⟩:=V i x v t C T;refine⟨u,r,?_⟩;rcases l with l|⟨k,c,e,z⟩
  ·exact .inl l
  ·exact .inr ⟨k,c,e,f x c e _ z⟩
 ·obtain⟨v,z⟩:=I.cell x c e
  exact⟨v,f x c e v z⟩
 ·obtain⟨m,⟨o,_,_,B,_⟩,_⟩:=I.loc
  exact free _ o (λz=>(h _ z).2.1 rfl) B I.free
 ·obtain⟨v,o,B,L⟩:=I.cell x c e
  exact free c o (λz=>(h c z).2.2.1 x c e rfl) B (I.za x c e)
 ·obtain⟨e,n,O,nf,d⟩:=I.pin p N
  have g:p.1∉ch:=λz=>(h p.1 z).2.2.2 p N rfl;exact⟨keep p.1 p.2 O nf g e n,free p.1 p.2 g e n,O,nf,d⟩
theorem Inv.un{t':Nat}(I:Inv X pins σ H s)(u:Un X.fs [] H H' s.heap h')(c:BN X.prog X.w H' h'):Inv X pins σ H' {s with heap:=h',toks:=t'}:=by
 obtain⟨m,⟨o,l,q,h,r⟩,_⟩:=id I.loc;obtain⟨p,k⟩:=u.any h I.free (-_);exact I.step (g':=s.gens) (d':=s.drawn) (ch:=[]) (λ_ z=>nomatch z) (λb o _ f _ e n=>u.keep b o e n f (-_)) (λb o _ f _ e n=>u.slot b o e n f (-_)) (λb o _ e n=>u.free b o e n (-_)) (λb o _ e=>u.there b o e (-_)) u.tups u.G3 u.IL (λv i=>by
  obtain⟨t,d,g,a,j⟩:=i;rw[h] at a;cases a;exact⟨_,d,g,k,j⟩) c I.bare
theorem Inv.call{g':Array GenState}{t':Nat}{d':Drawn}{ch:List Addr}(I:Inv X pins σ H s)(u:Un (frs X.stack) ch H H' s.heap h')(g:BN X.prog X.w H' h')(l:AllBare g')
 (d:∀b∈ch,(b∈X.ex∨X.s₀.heap.objs.size<=b)/\b≠X.env.locals/\(∀x c,X.env.cells.lookup x=some c->c≠b)/\∀p∈X.pn++pins,p.1≠b) :
 Inv X pins σ H' {s with heap:=h',gens:=g',drawn:=d',toks:=t'}:=by
 obtain⟨m,⟨o,y,B,k,r⟩,_⟩:=id I.loc;obtain⟨A,j⟩:=u.any k I.free λz=>(d _ z).2.1 rfl;exact I.step (ch:=ch) d (λb o j q a e n=>u.keep b o e n (λz=>(aV.mp (I.IM b z)).elim j q) a) (λb o _ _ a e n=>u.any e n a) (λb o a e n=>u.free b o e n a) (λb o a e=>u.there b o e a) u.tups u.G3 u.IL (λD t=>by
  obtain⟨C,h,i,f,v⟩:=t;rw[k] at f;cases f;exact⟨_,h,i,j,v⟩) g l
theorem Inv.turned{t':Nat}{a:Addr}(I:Inv X pins σ H s)(k:∀b o,b≠a->s.heap.get? b=some o->h'.get? b=some o)(i:H a=none)(g:a≠X.env.locals)
 (j:a∈X.ex∨X.s₀.heap.objs.size<=a) (y:∀x c,X.env.cells.lookup x=some c->c≠a) (B:∀p∈X.pn++pins,p.1≠a):Inv X pins σ H {s with heap:=h',toks:=t'}:=by
 have f:∀b u,H b=some u->b≠a:=λb u e z=>by rw[z,i] at e;cases e
 refine I.step (g':=s.gens) (d':=s.drawn) (ch:=[a]) (λb t=>?_) (λb o _ _ d e _=>k b o (λz=>d (by simp[z])) e) (λb o _ _ d e _=>⟨o.slots,k b o (λz=>d (by simp[z])) e⟩) (λ_ _ _ _ n=>n)
  (λb o d e=>⟨o,k b o (λz=>d (by simp[z])) e⟩) (λ_ _ e=>e) (λ_ _ _ e=>e) (λb C e=>⟨#[],by rw[e];simp⟩) (λm A=>?_) (λb u e=>?_) I.bare
 ·have e:b=a:=by simpa using t
  subst e;exact⟨j,g,y,B⟩
 ·obtain⟨o,h,l,w,r⟩:=A
  exact⟨o,h,l,k _ o (cu g) w,r⟩
 ·refine (I.hok b u e).stay (λc v d q=>k c v ?_ q) (λ_ q=>q) λ_ _ q=>q
  rcases d with z|z
  ·rw[z];exact f b u e
  ·exact f c _ z
theorem Inv.tok(I:Inv X pins σ H s)(t:Nat):Inv X pins σ H {s with toks:=t}:=I.un (h':=s.heap) (t':=t) Un.refl I.hok
theorem Inv.kept{t':Nat}(I:Inv X pins σ H s)(k:∀b u,s.heap.get? b=some u->h'.get? b=some u):Inv X pins σ H {s with heap:=h',toks:=t'}:=I.un (Un.kept k) (I.hok.kept k)
theorem Inv.laid{a:Addr}{o:HO}{t':Nat}(I:Inv X pins σ H s)(k:∀b u,s.heap.get? b=some u->h'.get? b=some u)(c:s.heap.objs.size<=a)(d:gJ X.prog X.w (upd H a o) h' a o) :
 Inv X pins σ (upd H a o) {s with heap:=h',toks:=t'}:=I.un (Un.laid k c (I.hok.fresh c)) (I.hok.laid k c d)
theorem Inv.write{x e:Addr}{o:HO}{t':Nat}(I:Inv X pins σ H s)(d:Mut (H x))(f:e=x∨H e=some (.own x))(k:∀b u,b≠e->s.heap.get? b=some u->h'.get? b=some u)(a:∃u,h'.get? e=some u)
 (c:gJ X.prog X.w (upd H x o) h' x o):Inv X pins σ (upd H x o) {s with heap:=h',toks:=t'}:=I.un (Un.write d f k a) (I.hok.write d f k a c)
theorem Inv.Yg{a:List (Addr×Obj)}(I:Inv X pins σ H s)(h:∀p∈a,s.heap.get? p.1=some p.2/\H p.1=none/\p.1≠X.env.locals/\p.1∉X.fs/\∀v,p.2.data≠.cell v):Inv X a σ H s :=
 ⟨I.ok,I.os,I.bare,I.base,I.loc,I.cell,I.free,I.za,λp b=>(bx.mp b).elim (λz=>I.pin p (List.mem_append_left _ z)) (h p),I.hok,I.len⟩
theorem Uu{N:List Str}(d:N.Nodup){i j:Nat}{x:Str}(a:N[i]?=some x)(b:N[j]?=some x):i=j:=by
 obtain⟨f,e⟩:=ai.mp a;obtain⟨g,c⟩:=ai.mp b;exact (List.getElem_inj d).mp (e.trans c.symm)
theorem Qv{M:Model}{A:Around}{E:Value->Shared->Prop}{i:Nat}{x:Str}{v:V}{u:Value}{Q:Unit->Shared->Prop}(I:Inv X pins σ H s)(hN:X.N.Nodup)(P:X.N[i]?=some x)(t:Loc X.env.scope x)(r:RelV v u)
 (h:∀s',Inv X pins (σ.set i (some v)) H s'->(∃a,Heap.SameBut a s.heap s'.heap/\(a=X.env.locals∨X.env.cells.lookup x=some a))->Q () s') (hf:X.fn x=true∨X.env.scope.names.lookup x=some .local:=by first|exact .inl rfl|exact .inr rfl|assumption):wpAny M A (storeName X.env x u) Q E s:=by
 obtain⟨m,hn,hl⟩:=id I.loc;have R:(X.env.scope.kind==.class || (X.env.scope.kind==.module&&X.env.locals != X.env.globals))=false:=by rw[I.ok.kind];rfl
 have K:i<σ.length:=by rw[I.len];exact (ai.mp P).1
 have Nr:=I.Nr;have g:∀{a:Addr} {h':Heap},(∃o,s.heap.get? a=some o/\H a=none)->Heap.SameBut a s.heap h'->BN X.prog X.w H h':=λ{a h'} ha f b ob e=>by
  obtain⟨_,_,B⟩:=ha;refine (I.hok b ob e).stay (λc T hc q=>(f.2 c ?_).trans q) (λ_ q=>q) λ_ _ q=>q;rintro rfl;rcases hc with rfl|hc
  ·rw[B] at e;cases e
  ·rw[B] at hc;cases hc
 rcases t with hk|hk
 ·refine wpAny_storeName_local hk hn (λh' Y f=>?_) R
  obtain⟨oL,_,_,W,_⟩:=id hn;refine h _ ⟨I.ok,I.os,I.bare,⟨λb o e n G t=>?_,λb o e n G t=>?_,I.base.free,λb o e t=>?_,I.base.tups,I.base.G3,I.base.IL⟩,⟨_,Y,λj y v' l C e3=>?_⟩,λy c e=>?_,I.free,I.za,λp hp=>?_,g ⟨oL,W,I.free⟩ f,by simpa using I.len⟩ ⟨_,f,.inl rfl⟩
  ·exact (f.2 b (bT (bK (Heap.lt_size e) I.ok.above))).trans (I.base.keep b o e n G t)
  ·obtain⟨Z,l⟩:=I.base.slot b o e n G t
   exact⟨Z,(f.2 b (bT (bK (Heap.lt_size e) I.ok.above))).trans l⟩
  ·obtain⟨o',l⟩:=I.base.there b o e t
   exact⟨o',(f.2 b (bT (bK (Heap.lt_size e) I.ok.above))).trans l⟩
  ·by_cases D:j=i
   ·subst D
    rw[P] at l;cases l;rw[List.getElem?_set_self K] at C;cases C;exact⟨u,r,.inl ⟨hk,-_⟩⟩
   ·rw[List.getElem?_set_ne (cu D)] at C
    obtain⟨u',r',q⟩:=hl j y v' l C e3;refine⟨u',r',?_⟩;rcases q with ⟨k,e⟩|⟨k,c,e,z⟩
    ·refine .inl ⟨k,?_⟩
     have:y≠x:=λe=>D (Uu hN l (e▸P))
     simp[this,e]
    ·exact .inr ⟨k,c,e,z.sameBut f (Nr y c e)⟩
  ·obtain⟨T,z⟩:=I.cell y c e
   exact⟨T,z.sameBut f (Nr y c e)⟩
  ·obtain⟨e,n,U,nf,d⟩:=I.pin p hp
   exact⟨(f.2 p.1 U).trans e,n,U,nf,d⟩
 ·have F:X.fn x=true:=by
   rcases hf with z|z
   ·exact z
   ·rw[z] at hk;cases hk
  obtain⟨c,hc⟩:=I.ok.has x (.inl hk);obtain⟨T,z⟩:=I.cell x c hc;refine wpAny_storeName_cell I.ok.kind hk hc z (λh' O f=>?_);obtain⟨oc,L,amQ⟩:=id z;refine h {s with heap:=h'} ⟨I.ok,I.os,I.bare,⟨λb o e n G t=>?_,λb o e n G t=>?_,I.base.free,λb o e t=>?_,I.base.tups,I.base.G3,I.base.IL⟩,⟨m,hn.sameBut f (cu (Nr x c hc)),λj y v' l C e3=>?_⟩,λy S e=>?_,I.free,I.za,λp hp=>?_,g ⟨oc,L,I.za x c hc⟩ f,by simpa using I.len⟩ ⟨c,f,.inr hc⟩
  ·exact (f.2 b (bT (bK (Heap.lt_size e) (I.ok.Z7 x c F hc)))).trans (I.base.keep b o e n G t)
  ·obtain⟨Z,l⟩:=I.base.slot b o e n G t
   exact⟨Z,(f.2 b (bT (bK (Heap.lt_size e) (I.ok.Z7 x c F hc)))).trans l⟩
  ·obtain⟨o',l⟩:=I.base.there b o e t
   exact⟨o',(f.2 b (bT (bK (Heap.lt_size e) (I.ok.Z7 x c F hc)))).trans l⟩
  ·by_cases D:j=i
   ·subst D
    rw[P] at l;cases l;rw[List.getElem?_set_self K] at C;cases C;exact⟨u,r,.inr ⟨.inl hk,c,hc,O⟩⟩
   ·rw[List.getElem?_set_ne (cu D)] at C
    obtain⟨u',r',q⟩:=hl j y v' l C e3;refine⟨u',r',?_⟩;rcases q with q|⟨k,S,e,z'⟩
    ·exact .inl q
    ·refine .inr ⟨k,S,e,z'.sameBut f ?_⟩
     rintro rfl;exact D (Uu hN l (I.ok.inj _ _ _ e hc▸P))
  ·by_cases J:S=c
   ·subst J;exact⟨_,O⟩
   ·obtain⟨w2,z2⟩:=I.cell y S e
    exact⟨w2,z2.sameBut f J⟩
  ·obtain⟨e,n,U,nf,d⟩:=I.pin p hp
   refine⟨(f.2 p.1 ?_).trans e,n,U,nf,d⟩;intro q;rw[q,L] at e;have q':oc=p.2:=aR e;exact d T (by rw[<- q'];exact amQ)
theorem LO{M:Model}{A:Around}{E:Value->Shared->Prop}{i:Nat}{x:Str}{v:V}{u:Value}{Q:Unit->Shared->Prop}(I:Inv X pins σ H s)(d:X.N.Nodup)(b:X.N[i]?=some x)(e:Loc X.env.scope x)(r:RelV v u)
 (h:∀s',Inv X pins (σ.set i (some v)) H s'->Q () s') (c:X.fn x=true∨X.env.scope.names.lookup x=some .local:=by first|exact .inl rfl|exact .inr rfl|assumption):wpAny M A (storeName X.env x u) Q E s :=
 Qv I d b e r (λs' a _=>h s' a) c
theorem Inv.afW{s':Shared}{ch:List Addr}(I:Inv X pins σ H s)(g:s'.os=s.os)(u:Un (frs X.stack) ch H H' s.heap s'.heap)(a:BN X.prog X.w H' s'.heap)(h:AllBare s'.gens)
 (d:∀b∈ch,(b∈X.ex∨X.s₀.heap.objs.size<=b)/\b≠X.env.locals/\(∀x c,X.env.cells.lookup x=some c->c≠b)/\∀p∈X.pn++pins,p.1≠b):Inv X pins σ H' s':=by
 obtain⟨h',g',d',t',f⟩:=s';have e:f=s.os:=g;subst e;exact I.call (g':=g') (t':=t') (d':=d') u a h d
end
abbrev XK:=Value->Option Addr->Hp->Prop
abbrev St:=List (Option V)
abbrev VK:=V->Hp->Prop
abbrev TE:=St->Hp->VK->Prop
abbrev TT:=St->Hp->(Bool->Hp->Prop)->Prop
abbrev TA:=St->Hp->(List V->Hp->Prop)->Prop
structure Ends where
 nx:St->Hp->Prop
 rt:VK
 bk:St->Hp->Prop:=λ_ _=>False
 ct:St->Hp->Prop:=λ_ _=>False
abbrev TS:=Ends->St->Hp->Prop
inductive EP(X:Cx)(pins:List (Addr×Obj))(σ:St)(Q:VK)(u:Value)(s':Shared):Prop
 |mk (v:V) (H':Hp) (a:Inv X pins σ H' s') (b:RelV v u) (c:Q v H'):EP X pins σ Q u s'
inductive TP(X:Cx)(pins:List (Addr×Obj))(σ:St)(Q:Bool->Hp->Prop)(b:Bool)(s':Shared):Prop
 |mk (H':Hp) (a:Inv X pins σ H' s') (c:Q b H'):TP X pins σ Q b s'
inductive AP(X:Cx)(pins:List (Addr×Obj))(σ:St)(Q:List V->Hp->Prop)(us:List Value)(s':Shared):Prop
 |mk (vs:List V) (H':Hp) (a:Inv X pins σ H' s') (b:b6 vs us) (c:Q vs H'):AP X pins σ Q us s'
def SP(X:Cx)(pins:List (Addr×Obj))(D:Ends)(f:Flow)(s':Shared):Prop :=
 match f with
 |.next=>∃σ' H',Inv X pins σ' H' s'/\D.nx σ' H'
 |.brk=>∃σ' H',Inv X pins σ' H' s'/\D.bk σ' H'
 |.cont=>∃σ' H',Inv X pins σ' H' s'/\D.ct σ' H'
 |.ret u=>∃v σ' H',Inv X pins σ' H' s'/\RelV v u/\D.rt v H'
def PE(X:Cx)(e:Expr)(t:TE):Prop :=
 ∀(pins:List (Addr×Obj)) (s:Shared) (σ:St) (H:Hp) (Q:VK),Inv X pins σ H s->t σ H Q->wpAny (model X.prog X.w) X.A (eval e X.env) (EP X pins σ Q) X.xe s
def PT(X:Cx)(e:Expr)(t:TT):Prop :=
 ∀(pins:List (Addr×Obj)) (s:Shared) (σ:St) (H:Hp) (Q:Bool->Hp->Prop),Inv X pins σ H s->t σ H Q->wpAny (model X.prog X.w) X.A (isTrue e X.env (eval e X.env)) (TP X pins σ Q) X.xe s
def PW(X:Cx)(e:Expr)(t:TT):Prop :=
 ∀(whole:Sem Value) (pins:List (Addr×Obj)) (s:Shared) (σ:St) (H:Hp) (Q:Bool->Hp->Prop),Inv X pins σ H s->t σ H Q->wpAny (model X.prog X.w) X.A (isTrue e X.env whole) (TP X pins σ Q) X.xe s
theorem PW.pt{X:Cx}{e:Expr}{t:TT}(h:PW X e t):PT X e t:=h _
def PA(X:Cx)(es:List Expr)(t:TA):Prop :=
 ∀(pos:Pos) (pins:List (Addr×Obj)) (s:Shared) (σ:St) (H:Hp) (Q:List V->Hp->Prop),Inv X pins σ H s->t σ H Q->wpAny (model X.prog X.w) X.A (spliced (backTo pos (starEach es X.env))) (AP X pins σ Q) X.xe s
def PS(X:Cx)(st:Stmt)(t:TS):Prop :=
 ∀(pins:List (Addr×Obj)) (s:Shared) (σ:St) (H:Hp) (D:Ends),Inv X pins σ H s->t D σ H->wpAny (model X.prog X.w) X.A (exec st X.env) (SP X pins D) X.xe s
def iQ(X:Cx)(st:List Stmt)(t:TS):Prop :=
 ∀(pins:List (Addr×Obj)) (s:Shared) (σ:St) (H:Hp) (D:Ends),Inv X pins σ H s->t D σ H->wpAny (model X.prog X.w) X.A (execs st X.env) (SP X pins D) X.xe s
theorem gW{b:Type}{t:Sem b}{Q c:b->Shared->Prop}{M:Model}{A:Around}{E:Value->Shared->Prop}{s:Shared}(h:wpAny M A t Q E s)(d:∀a s,Q a s->c a s):wpAny M A t c E s:=wpAny_mono h d λ_ _ x=>x
section
variable{X:Cx}
inductive IP(i:Nat)(σ:St)(H:Hp)(Q:VK):Prop
 |mk (v:V) (a:σ[i]?=some (some v)) (b:Q v H):IP i σ H Q
def tC(v:V):TE:=λ_ H Q=>Q v H
theorem ag3{i:Nat}{x:Str}{j:Pos}(n:X.N[i]?=some x)(w:Vis X.env.scope x)(g:(x==("__debug__" : Str))=false:=by decide)(f:(x==("__classdict__" : Str))=false:=by decide):PE X (.Name x j) (IP i):=by
 intro d s p H Q I h;obtain⟨v,e,h⟩:=h;obtain⟨m,o,t⟩:=I.loc;obtain⟨u,r,l⟩:=t i x v n e w;have b:EP X d p Q u s:=⟨v,H,I,r,h⟩;rcases l with ⟨hk,q⟩|⟨hk,c,k,a⟩
 ·exact wpAny_Name (wpAny_loadName_local I.ok.kind hk o q b) g
 ·rcases hk with hk|hk
  ·exact wpAny_Name (wpAny_loadName_cell I.ok.kind hk k a b) g
  ·exact wpAny_Name (wpAny_loadName_free I.ok.kind hk k a b f) g
theorem az{i j pos}:PE X (.Constant (.int i) j pos) (tC (.int i)):=λ_ _ _ H _ I h=>wpAny_Constant_int ⟨.int i,H,I.tok _,⟨_,rfl⟩,h⟩
theorem Qw{b j pos}:PE X (.Constant (.bool b) j pos) (tC (.bl b)):=λ_ _ _ H _ I h=>Constant_bool ⟨.bl b,H,I,rfl,h⟩
theorem lF{j pos}:PE X (.Constant .none j pos) (tC .dH):=λ_ _ _ H _ I h=>Constant_none ⟨.dH,H,I,rfl,h⟩
theorem bu{x j pos}:PE X (.Constant (.str x) j pos) (tC (.str x)):=λ_ _ _ H _ I h=>Calls.Constant_str ⟨.str x,H,I.tok _,⟨_,rfl⟩,h⟩
def Gl(X:Cx)(x:Str):Prop:=X.env.kindOf x=some .globalImplicit
theorem G5{E:Value->Shared->Prop}{a:List (Addr×Obj)}{s:Shared}{c:St}{H:Hp}{x:Str}{u:Value}{b:Pos}{Q:Value->Shared->Prop}(I:Inv X a c H s)(e:Gl X x)(f:X.mg x=some u)(h:Q u s)
 (d:(x==("__debug__" : Str))=false:=by decide):wpAny (model X.prog X.w) X.A (eval (.Name x b) X.env) Q E s :=
 Calls.Name_function_global I.ok.kind e (Calls.loadGlobal_global (by rw[I.ok.glob];exact I.mod.glob.keeps I.bk) f h) d
theorem LP{E:Value->Shared->Prop}{a:List (Addr×Obj)}{s:Shared}{f:St}{H:Hp}{x:Str}{u:Value}{b:Pos}{Q:Value->Shared->Prop}(I:Inv X a f H s)(c:Gl X x)(i:X.mg x=none)(j:bootBuiltins x=some u)(h:Q u s)
 (k:x≠"__name__" := by decide) (d:(x==("__debug__" : Str))=false:=by decide):wpAny (model X.prog X.w) X.A (eval (.Name x b) X.env) Q E s:=by
 obtain⟨l,e,g⟩:=I.mod.blt;exact Calls.Name_function_global I.ok.kind c (Calls.loadGlobal_builtin (by rw[I.ok.glob];exact I.mod.glob.keeps I.bk) i (by rw[I.ok.blt];exact e.keeps I.bk) ((g x k).trans j) h) d
theorem iu{x:Str}{v:V}{u:Value}{a:Pos}(c:Gl X x)(d:X.mg x=some u)(r:RelV v u)(b:(x==("__debug__" : Str))=false:=by decide):PE X (.Name x a) (tC v) :=
 λ_ _ _ H _ I h=>G5 I c d ⟨v,H,I,r,h⟩ b
theorem aea{x:Str}{v:V}{u:Value}{a:Pos}(c:Gl X x)(d:X.mg x=none)(f:bootBuiltins x=some u)(r:RelV v u)(e:x≠"__name__" := by decide)(b:(x==("__debug__" : Str))=false:=by decide):PE X (.Name x a) (tC v) :=
 λ_ _ _ H _ I h=>LP I c d f ⟨v,H,I,r,h⟩ e b
variable{a b:Expr}{ta tb:TE}{pos:Pos}
def PC(X:Cx)(op:CmpOp)(a b:Expr)(t:TE):Prop :=
 ∀(pins:List (Addr×Obj)) (s:Shared) (σ:St) (H:Hp) (Q:VK),Inv X pins σ H s->t σ H Q ->
  wpAny (model X.prog X.w) X.A (eval a X.env) (λv s₁=>wpAny (model X.prog X.w) X.A (eval b X.env) (λu s₂=>wpAny (model X.prog X.w) X.A (compareOp op v u) (EP X pins σ Q) X.xe s₂) X.xe s₁) X.xe s
inductive BlR(Q:Bool->Hp->Prop)(x:V)(H1:Hp):Prop
 |mk (c:Bool) (a:x=.bl c) (b:Q c H1):BlR Q x H1
def tB(t:TE):TT:=λσ H Q=>t σ H (BlR Q)
theorem abl{op:CmpOp}{t:TE}(h:PC X op a b t)(f:behindInMarks op b=false:=by first|exact ajF _ (!_) (!_)|rfl):PT X (.Compare a [op] [b] pos) (tB t):=by
 intro e s l H Q I g;refine wpAny_isTrue_Compare1 (gW (h e s l H _ I g) λv o f=>gW f λu p m=>gW m λc r ⟨x,j,k,n,i⟩=>?_) f;obtain⟨d,rfl,q⟩:=i;cases n;exact wpAny_truthy_bool ⟨j,k,q⟩
theorem mW{e:Expr}{t:TE}(h:PE X e t)(l:∀a,isTrue e X.env a=(do let v <- a;standAt e.pos;holding [v] (truthy v)):=by intro _;rfl):PT X e (tB t):=by
 intro b s j H Q I c;refine isTrue_plain (gW (h b s j H _ I c) λv m ⟨x,g,i,k,f⟩=>?_) (l _);obtain⟨d,rfl,q⟩:=f;cases k;exact wpAny_truthy_bool ⟨g,i,q⟩
variable{tA tB':TT}{rest:List Expr}
def amS(t u:TT):TT:=λσ H Q=>t σ H λc H1=>if c=true then u σ H1 Q else Q false H1
def tOr(t u:TT):TT:=λσ H Q=>t σ H λc H1=>if c=true then Q true H1 else u σ H1 Q
def amT(t:TT):TT:=λσ H Q=>t σ H λc H1=>Q (!c) H1
theorem nO(f:PT X a tA):PW X (.BoolOp .And [a] pos) tA:=by
 intro g b s d H Q I h;refine isTrue_and (gW (f b s d H Q I h) λc i e=>?_);cases c with
 |true=>exact isTrue_and_nil e
 |false=>exact e
theorem LQ(f:PT X a tA):PW X (.BoolOp .Or [a] pos) tA:=by
 intro g b s d H Q I h;refine isTrue_or (gW (f b s d H Q I h) λc i e=>?_);cases c with
 |false=>exact isTrue_or_nil e
 |true=>exact e
theorem uD(k:PT X a tA)(m:PW X (.BoolOp .And (b::rest) pos) tB'):PW X (.BoolOp .And (a::b::rest) pos) (amS tA tB'):=by
 intro j d s i H Q I h;refine isTrue_and (gW (k d s i H _ I h) λc l ⟨f,g,e⟩=>?_);cases c with
 |true=>exact m j d l i f Q g e
 |false=>exact⟨f,g,e⟩
theorem Uv(k:PT X a tA)(m:PW X (.BoolOp .Or (b::rest) pos) tB'):PW X (.BoolOp .Or (a::b::rest) pos) (tOr tA tB'):=by
 intro j d s i H Q I h;refine isTrue_or (gW (k d s i H _ I h) λc l ⟨f,g,e⟩=>?_);cases c with
 |true=>exact⟨f,g,e⟩
 |false=>exact m j d l i f Q g e
theorem kB(g:PT X a tA):PT X (.UnaryOp .Not a pos) (amT tA):=by
 intro b s e H Q I h;exact isTrue_not (gW (g b s e H (λc d=>Q (!c) d) I h) λ_ _ ⟨d,i,f⟩=>⟨d,i,f⟩)
def ajG(ta tb:TE):TE:=λσ H Q=>ta σ H λx H1=>∃c,x=.bl c/\if c=true then tb σ H1 Q else Q (.bl false) H1
def ajH(ta:TE):TE:=λσ H Q=>ta σ H λx H1=>∃c,x=.bl c/\Q (.bl (!c)) H1
theorem ag4{op}{t:TE}(h:PE X a t):PE X (.BoolOp op [a] pos) t:=λb s c H Q I d=>BoolOp_one (h b s c H Q I d)
theorem abm(j:PE X a ta)(l:PE X (.BoolOp .And (b::rest) pos) tb):PE X (.BoolOp .And (a::b::rest) pos) (ajG ta tb):=by
 intro d s i H Q I h;refine BoolOp_and (gW (j d s i H _ I h) λv k ⟨x,f,g,m,e⟩=>?_);obtain⟨c,rfl,e⟩:=e;cases m;refine wpAny_truthy_bool ?_;cases c with
 |true=>exact l d k i f Q g e
 |false=>exact⟨.bl false,f,g,rfl,e⟩
theorem ag5(i:PE X a ta):PE X (.UnaryOp .Not a pos) (ajH ta):=by
 intro b s f H Q I h;refine UnaryOp_ (gW (i b s f H _ I h) λv k ⟨x,g,j,e,d⟩=>?_);obtain⟨c,rfl,d⟩:=d;cases e;exact not_of (wpAny_truthy_bool ⟨.bl (!c),g,j,rfl,d⟩)
def tIf(t:TT)(ta tb:TE):TE:=λσ H Q=>t σ H λc H1=>if c=true then ta σ H1 Q else tb σ H1 Q
theorem jI{c:Expr}(l:PT X c tA)(m:PE X a ta)(n:PE X b tb):PE X (.IfExp c a b pos) (tIf tA ta tb):=by
 intro e s f H Q I h;refine wpAny_IfExp (gW (l e s f H _ I h) λd j ⟨i,k,g⟩=>?_);cases d with
 |true=>exact m e j f i Q k g
 |false=>exact n e j f i Q k g
end
def bC(K:af)(H:Hp)(a:Addr)(xs:List V):Prop :=
 Rd H a (.lst xs) ∨
  ∃(o:Obj) (its:Array Value) (n:Nat),K.lookup a=some o/\o.cls=.type "list" /\ o.dict=none/\o.data=.seq its n/\its.size<=sizeLine/\b6 xs its.toList
def cR(K:af)(H:Hp)(a:Addr)(xs:List V):Prop :=
 Rd H a (.tup xs) ∨
  ∃(o:Obj) (its:Array Value) (n:Nat),K.lookup a=some o/\o.cls=.type "tuple" /\ o.data=.seq its n/\its.size<=sizeLine/\b6 xs its.toList
noncomputable def amU:Value->Option V
 |.none=>some .dH
 |.bool b=>some (.bl b)
 |.int i _=>some (.int i)
 |.str x _=>some (.str x)
 |.bytes b _=>some (.Ye b)
 |.float b _=>some (.Nn b)
 |.ref a=>some (.ref a)
 |.type n=>some (.ty n)
 |_=>none
theorem RelV.abs{x:V}{u:Value}(r:RelV x u):amU u=some x:=by
 cases x with
 |dH=>cases r;rfl
 |bl _=>cases r;rfl
 |int _=>obtain⟨t,rfl⟩:=r;rfl
 |str _=>obtain⟨t,rfl⟩:=r;rfl
 |Ye _=>obtain⟨t,rfl⟩:=r;rfl
 |Nn _=>obtain⟨t,rfl⟩:=r;rfl
 |ref _=>cases r;rfl
 |ty _=>cases r;rfl
theorem RelV.inj{x y:V}{u:Value}(r:RelV x u)(q:RelV y u):x=y:=aR (r.abs.symm.trans q.abs)
theorem b6.inj:∀{xs a:List V} {us:List Value},b6 xs us->b6 a us->xs=a
 |_,_,_,.nil,.nil=>rfl
 |_,_,_,.cons r t,.cons b t'=>by rw[r.inj b,b6.inj t t']
section
variable{X:Cx}{pins:List (Addr×Obj)}{σ:St}{H:Hp}{s:Shared}{a:Addr}{xs ys:List V}
theorem bC.of{K:af}(h:H a=some (.lst xs)):bC K H a xs:=.inl (.inl h)
theorem cR.of{K:af}(h:H a=some (.tup xs)):cR K H a xs:=.inl (.inl h)
theorem Inv.list(I:Inv X pins σ H s)(h:bC X.K H a xs):∃b:List Value,b6 xs b/\PlainL s.heap a b.toArray/\xs.length<=sizeLine:=by
 rcases h with h|⟨o,b,n,f,g,c,d,i,r⟩
 ·obtain⟨z,b,n,r,e⟩:=h.ok I.hok
  exact⟨b,r,⟨_,n,e,rfl,rfl,rfl⟩,z⟩
 ·refine⟨b.toList,r,⟨o,n,I.EH a o f,g,c,by simpa using d⟩,?_⟩
  have e:=r.length;simp only[fO] at e;lia
theorem Inv.tuple(I:Inv X pins σ H s)(h:cR X.K H a xs):∃b:List Value,b6 xs b/\IsTup s.heap a b.toArray/\xs.length<=sizeLine:=by
 rcases h with h|⟨o,b,n,d,f,c,g,r⟩
 ·obtain⟨z,b,r,p⟩:=h.ok I.hok
  exact⟨b,r,p,z⟩
 ·refine⟨b.toList,r,⟨o,I.EH a o d,f,n,by simpa using c⟩,?_⟩
  have e:=r.length;simp only[fO] at e;lia
theorem Inv.Uw(I:Inv X pins σ H s)(h:bC X.K H a xs)(h':bC X.K H a ys):xs=ys:=by
 obtain⟨c,r,⟨o,n,e,_,_,d⟩,_⟩:=I.list h;obtain⟨b,i,⟨j,k,f,_,_,g⟩,_⟩:=I.list h';rw[e] at f;cases f;rw[d] at g;injection g with d1 _
 have:c=b:=by simpa using fy Array.toList d1
 subst this;exact r.inj i
theorem Inv.ZO(I:Inv X pins σ H s)(h:cR X.K H a xs)(h':cR X.K H a ys):xs=ys:=by
 obtain⟨c,r,⟨o,e,_,n,d⟩,_⟩:=I.tuple h;obtain⟨b,i,⟨j,f,_,k,g⟩,_⟩:=I.tuple h';rw[e] at f;cases f;rw[d] at g;injection g with d1 _
 have:c=b:=by simpa using fy Array.toList d1
 subst this;exact r.inj i
end
noncomputable abbrev Cx.O7(X:Cx)(E:Value->Shared->Prop):Cx:={X with xe:=E}
noncomputable abbrev Cx.wj(X:Cx):Cx:=X.O7 λ_ _=>False
theorem Cx.Ok.O7{X:Cx}(ok:X.Ok)(E:Value->Shared->Prop):(X.O7 E).Ok :=
 ⟨ok.mod,ok.kind,ok.glob,ok.blt,ok.above,ok.inj,ok.has,ok.Z7,ok.hd,ok.frames,ok.stk,ok.exf,ok.bs,ok.nT,ok.ZN,ok.abk,ok.G4,ok.Df⟩
theorem Cx.Ok.BO{X:Cx}{E:Value->Shared->Prop}(ok:(X.O7 E).Ok):X.Ok :=
 ⟨ok.mod,ok.kind,ok.glob,ok.blt,ok.above,ok.inj,ok.has,ok.Z7,ok.hd,ok.frames,ok.stk,ok.exf,ok.bs,ok.nT,ok.ZN,ok.abk,ok.G4,ok.Df⟩
section
variable{X:Cx}{pins:List (Addr×Obj)}{σ:St}{H:Hp}{s:Shared}{E:Value->Shared->Prop}
theorem Inv.O7(I:Inv X pins σ H s)(E:Value->Shared->Prop):Inv (X.O7 E) pins σ H s:=⟨I.ok.O7 E,I.os,I.bare,I.base,I.loc,I.cell,I.free,I.za,I.pin,I.hok,I.len⟩
theorem Inv.BO(I:Inv (X.O7 E) pins σ H s):Inv X pins σ H s:=⟨I.ok.BO,I.os,I.bare,I.base,I.loc,I.cell,I.free,I.za,I.pin,I.hok,I.len⟩
theorem SP.BO{D:Ends}{f:Flow}{s':Shared}(h:SP (X.O7 E) pins D f s'):SP X pins D f s':=by
 cases f with
 |next=>obtain⟨a,b,I,q⟩:=h;exact⟨a,b,I.BO,q⟩
 |brk=>obtain⟨a,b,I,q⟩:=h;exact⟨a,b,I.BO,q⟩
 |cont=>obtain⟨a,b,I,q⟩:=h;exact⟨a,b,I.BO,q⟩
 |ret u=>obtain⟨v,a,b,I,r,q⟩:=h;exact⟨v,a,b,I.BO,r,q⟩
theorem iQ.wj{st:List Stmt}{t:TS}(h:iQ X.wj st t):iQ X st t:=λpins s σ H D I a =>
 wpAny_mono (h pins s σ H D (I.O7 _) a) (λ_ _ q=>q.BO) λ_ _ z=>kr z
end
section
variable{X:Cx}{st:Stmt}{rest:List Stmt}{t u:TS}{e:Expr}{te:TE}{pos:Pos}
def LR:TS:=λD σ H=>D.nx σ H
def aeb(t u:TS):TS:=λD σ H=>t {D with nx:=u D} σ H
theorem br:iQ X [] LR:=λ_ _ a H _ I h=>wpAny_execs_nil ⟨a,H,I,h⟩
theorem ao(c:PS X st t)(i:iQ X rest u):iQ X (st::rest) (aeb t u):=by
 intro a s e H D I h;refine wpAny_execs_cons (gW (c a s e H {D with nx:=u D} I h) λf d q=>?_);cases f with
 |next =>
  obtain⟨b,j,g,q⟩:=q;exact i a d b j D g q
 |ret v=>exact q
 |brk=>exact q
 |cont=>exact q
theorem bQ(c:PS X st t):iQ X [st] t:=by
 intro a s b H D I h;refine wpAny_execs_cons (gW (c a s b H D I h) λf d q=>?_);cases f with
 |next=>exact wpAny_execs_nil q
 |ret v=>exact q
 |brk=>exact q
 |cont=>exact q
theorem Inv.quiet{a:List (Addr×Obj)}{b:St}{H:Hp}{s:Shared}(I:Inv X a b H s):interactive X.env=false:=by simp[interactive,I.ok.kind]
def afY(te:TE):TS:=λD σ H=>te σ H λ_ H1=>D.nx σ H1
theorem dN(g:PE X e te)(d:swapsWith e none pos.line X.env=pure false:=by rfl):PS X (.Expr e pos) (afY te):=by
 intro a s b H D I h;exact wpAny_Expr_any (gW (g a s b H _ I h) λv k ⟨x,f,i,j,c⟩=>⟨b,f,i,c⟩) I.quiet d
def aec(te:TE):TS:=λD σ H=>te σ H D.rt
theorem abn(g:PE X e te):PS X (.Return (some e) pos) (aec te):=by
 intro a s b H D I h;exact wpAny_Return_some (gW (g a s b H _ I h) λv j ⟨x,f,i,c,d⟩=>⟨x,b,f,i,c,d⟩)
def ag6(c:TT)(t u:TS):TS:=λD σ H=>c σ H λb H1=>if b=true then t D σ H1 else u D σ H1
theorem b4{c:Expr}{a b:List Stmt}{g:TT}(o:PT X c g)(m:iQ X a t)(n:iQ X b u):PS X (.If c a b pos) (ag6 g t u):=by
 intro e s f H D I h;refine wpAny_If (gW (o e s f H _ I h) λd k ⟨j,l,i⟩=>?_);cases d with
 |true=>exact m e k f j D l i
 |false=>exact n e k f j D l i
def ag7:TS:=λ_ _ _=>False
theorem cH{a:List Stmt}:iQ X a ag7:=λ_ _ _ _ _ _ h=>h.elim
end
abbrev TG:=V->St->Hp->(St->Hp->Prop)->Prop
abbrev O3:=List V->St->Hp->(St->Hp->Prop)->Prop
def PG(X:Cx)(target:Expr)(t:TG):Prop :=
 ∀(pins:List (Addr×Obj)) (s:Shared) (σ:St) (H:Hp) (v:V) (u:Value) (Q:St->Hp->Prop),Inv X pins σ H s->RelV v u->t v σ H Q ->
  wpAny (model X.prog X.w) X.A (assign target X.env u) (λ_ s'=>∃σ' H',Inv X pins σ' H' s'/\Q σ' H') X.xe s
def kT(X:Cx)(ts:List Expr)(t:O3):Prop :=
 ∀(pins:List (Addr×Obj)) (s:Shared) (σ:St) (H:Hp) (vs:List V) (us:List Value) (Q:St->Hp->Prop),Inv X pins σ H s->b6 vs us->t vs σ H Q ->
  wpAny (model X.prog X.w) X.A (assignInOrder ((assignEach ts X.env).map (·.2)) us) (λ_ s'=>∃σ' H',Inv X pins σ' H' s'/\Q σ' H') X.xe s
abbrev ag9:=V->V->V->Hp->(Hp->Prop)->Prop
def ajI(X:Cx)(t:ag9):Prop :=
 ∀(pins:List (Addr×Obj)) (s:Shared) (σ:St) (H:Hp) (o i v:V) (ov iv u:Value) (Q:Hp->Prop),Inv X pins σ H s->RelV o ov->RelV i iv->RelV v u->t o i v H Q ->
  wpAny (model X.prog X.w) X.A (setItem ov iv u) (λ_ s'=>∃H',Inv X pins σ H' s'/\Q H') X.xe s
abbrev TIp:=V->V->Hp->VK->Prop
def PIp(X:Cx)(op:Operator)(t:TIp):Prop :=
 ∀(pins:List (Addr×Obj)) (s:Shared) (σ:St) (H:Hp) (x y:V) (v u:Value) (Q:VK),Inv X pins σ H s->RelV x v->RelV y u->t x y H Q ->
  wpAny (model X.prog X.w) X.A (inplaceOp op v u) (EP X pins σ Q) X.xe s
section
variable{X:Cx}{pos:Pos}
def gp(i:Nat):TG:=λv σ H Q=>Q (σ.set i (some v)) H
theorem Yh{i:Nat}{x:Str}(d:X.N.Nodup)(c:X.N[i]?=some x)(f:Loc X.env.scope x)(e:X.fn x=true∨X.env.scope.names.lookup x=some .local:=by first|exact .inl rfl|exact .inr rfl|assumption):PG X (.Name x pos) (gp i):=by
 intro a s j H v u Q I r h;exact wpAny_assign_Name (LO I d c f r (λg b=>⟨_,H,b,h⟩) e)
def amV:O3:=λvs σ H Q=>vs=[]/\Q σ H
inductive afZ(t:TG)(u:O3)(vs:List V)(σ:St)(H:Hp)(Q:St->Hp->Prop):Prop
 |mk (v:V) (r:List V) (a:vs=v::r) (b:t v σ H λσ' H'=>u r σ' H' Q):afZ t u vs σ H Q
theorem Yi:kT X [] amV:=by
 intro a s b H c d Q I r h;obtain⟨e,h⟩:=h;subst e;cases r;exact assignInOrder_nil ⟨b,H,I,h⟩
theorem G6{e:Expr}{b:List Expr}{t:TG}{u:O3}(f:PG X e t)(n:kT X b u)
 (g:(assignEach (e::b) X.env).map (·.2)=assign e X.env::(assignEach b X.env).map (·.2):=by rfl):kT X (e::b) (afZ t u):=by
 intro a s m H w q Q I r h;obtain⟨v,p,o,h⟩:=h;subst o;cases r with
 |cons r k =>
  rw[g];refine assignInOrder_cons (gW (f a s m H _ _ _ I r h) λ_ j ⟨c,i,l,d⟩=>?_);exact n a j c i _ _ Q l k d
inductive aha(K:af)(n:Nat)(t:O3)(v:V)(σ:St)(H:Hp)(Q:St->Hp->Prop):Prop
 |mk (a:Addr) (xs:List V) (h1:v=.ref a) (h2:cR K H a xs) (h3:xs.length=n) (h4:t xs σ H Q):aha K n t v σ H Q
theorem abo{d:List Expr}{k:Nat}{t:O3}{n:Nat}(C:X.calm=true)(h:kT X d t)
 (l:(assignEach d X.env).length=n:=by rfl) (g:(assignEach d X.env).findIdx? (·.1)=none:=by rfl):PG X (.Tuple d k pos) (aha X.K n t):=by
 intro c s j H v u Q I r f;obtain⟨a,w,A,y,z,f⟩:=f;subst A;cases r;obtain⟨p,i,x,D⟩:=I.tuple y;refine assign_Tuple_tuple (I.ok.hd C) x (by simp[l,<- z,i.length]) g λB m=>?_;have q:Inv X c j H {s with heap:=B}:=I.kept (t':=s.toks) λb o e=>m b o (bT (Heap.lt_size e)) e;exact h c _ j H w _ Q q (by simpa using i) f
def amW(to ti:TE)(t:ag9):TG:=λv σ H Q=>to σ H λo H1=>ti σ H1 λi H2=>t o i v H2 λH3=>Q σ H3
theorem LU{o i:Expr}{to e:TE}{t:ag9}(C:PE X o to)(A:PE X i e)(j:ajI X t)
 (m:∀v,assign (.Subscript o i pos) X.env v=(do
  let b <- holding [v] (eval o X.env);let c <- holding [v,b] (eval i X.env)
  standAt pos
  holding [v,b,c] (setItem b c v)
  release [v,b,c] []):=by intro _;rfl):PG X (.Subscript o i pos) (amW to e t):=by
 intro a s d H v u Q I r h;rw[m];refine wpAny_bind (wpAny_holding (gW (C a s d H _ I h) λb n ⟨x,l,p,E,g⟩=>?_));refine wpAny_bind (wpAny_holding (gW (A a n d l _ p g) λc D ⟨y,B,f,F,k⟩=>?_));refine wpAny_bind (wpAny_standAt (wpAny_bind (wpAny_holding (gW (j a D d B x y v b c u _ f E F r k) λ_ G ⟨q,w,z⟩=>?_))));exact wpAny_release ⟨d,q,w,z⟩
def aed(te:TE)(g:TG):TS:=λD σ H=>te σ H λx H1=>g x σ H1 D.nx
theorem IQ{b e:Expr}{c:TE}{g:TG}(r:PE X e c)(f:PG X b g)(l:swapsWithSole [b] e pos.line X.env=pure false:=by rfl)(i:swappedStores [b] e X.env=pure none:=by rfl)
 (k:(assignEach [b] X.env).map (·.2)=[assign b X.env]:=by rfl):PS X (.Assign [b] e pos) (aed c g):=by
 intro a s d H D I h;refine wpAny_Assign_stores (gW (r a s d H _ I h) λv n ⟨x,m,o,p,j⟩=>?_) l i;rw[k];exact gW (f a n d m x v _ o p j) λ_ t q=>q
theorem ahb{i:Nat}{x:Str}{e:Expr}{c:TE}{a:Pos}(d:X.N.Nodup)(p:X.N[i]?=some x)(f:Loc X.env.scope x)(r:PE X e c)(l:swapsWith e (some (.Name x a)) pos.line X.env=pure false:=by rfl)(k:X.fn x=true∨X.env.scope.names.lookup x=some .local:=by first|exact .inl rfl|exact .inr rfl|assumption) :
 PS X (.Assign [.Name x a] e pos) (aed c (gp i)):=by
 intro b s o H D I h;refine wpAny_Assign_Name (gW (r b s o H _ I h) λv t ⟨y,m,n,q,j⟩=>?_) l;exact LO n d p f q (λu g=>⟨_,m,g,j⟩) k
def amX(i:Nat)(te:TE)(ti:TIp):TS:=λD σ H=>∃x,σ[i]?=some (some x)/\te σ H λy H1=>ti x y H1 λz H2=>D.nx (σ.set i (some z)) H2
theorem RX{i:Nat}{x:Str}{e:Expr}{o:TE}{op:Operator}{B:TIp}{f:Pos}(C:X.N.Nodup)(q:X.N[i]?=some x)(j:Loc X.env.scope x)(Y:PE X e o)(R:PIp X op B)(J:X.fn x=true∨X.env.scope.names.lookup x=some .local:=by first|exact .inl rfl|exact .inr rfl|assumption) :
 PS X (.AugAssign (.Name x f) op e pos) (amX i o B):=by
 intro a s p H D I h;obtain⟨v,W,h⟩:=h;obtain⟨m,E,V⟩:=I.loc;have n:Vis X.env.scope x:=by rcases j with k|k;exact .inl k;exact .inr (.inl k)
 obtain⟨u,r,l⟩:=V i x v q W n;refine wpAny_AugAssign_Name ?_;have t:wpAny (model X.prog X.w) X.A (eval e X.env) (λw g=>wpAny (model X.prog X.w) X.A (inplaceOp op u w) (λr d=>wpAny (model X.prog X.w) X.A (storeName X.env x r) (λ_=>SP X a D .next) X.xe d) X.xe g) X.xe s:=by
  refine gW (Y a s p H _ I h) λw M ⟨y,L,O,T,G⟩=>?_;refine gW (R a M p L v y u w _ O r T G) λz s2 ⟨zv,Q,F,U,K⟩=>?_;exact LO F C q j U (λs3 P=>⟨_,Q,P,K⟩) J
 rcases l with ⟨hk,S⟩|⟨hk,c,Z,b⟩
 ·exact wpAny_loadName_local I.ok.kind hk E S t
 ·rcases hk with hk|hk
  ·exact wpAny_loadName_cell I.ok.kind hk Z b t
  ·rcases j with k|k
   ·have:X.env.scope.names.lookup x=some .free:=hk
    rw[k] at this;cases this
   ·have:X.env.scope.names.lookup x=some .free:=hk
    rw[k] at this;cases this
def ipI(f:Int->Int->Int):TIp:=λx y H Q=>∃i j,x=.int i/\y=.int j/\Q (.int (f i j)) H
theorem RY:PIp X .Add (ipI λi j=>i+j):=by
 intro a s g H x y v u Q I c d h;obtain⟨i,j,e,b,q⟩:=h;subst e;subst b;obtain⟨t,rfl⟩:=c;obtain⟨f,rfl⟩:=d;exact iadd_int ⟨.int _,H,I.tok _,⟨_,rfl⟩,q⟩
def abp(c:TT)(tb:TS):TS:=λD σ H=>∃W:Nat->St->Hp->Prop,(∃m,W m σ H)/\∀m σ H,W m σ H ->
 c σ H λb H1=>if b=true then ∃N:St->Hp->Prop,(∀σ' H',N σ' H'->∃m',m'<m/\W m' σ' H')/\tb {D with nx:=N,ct:=N,bk:=D.nx} σ H1 else D.nx σ H1
theorem Ux{c:Expr}{g:List Stmt}{x:TT}{y:TS}(E:PassesOwn (model X.prog X.w) X.A X.env X.xe)(S:PT X c x)(M:iQ X g y):PS X (.While c g [] pos) (abp x y):=by
 intro a s P H D I h;obtain⟨W,⟨K,G⟩,i⟩:=h;refine wpAny_While (codeAny_whileLoop (λn R=>∃k F,Inv X a k F R/\W n k F) ?_ K ⟨P,H,I,G⟩);rintro n L ⟨e,B,O,J⟩;refine wpAny_passesOwn E (gW (S a L e B _ O (i n e B J)) λb Q ⟨C,z,l⟩=>?_);cases b with
 |true =>
  obtain⟨N,u,l⟩:=l;rw[b3 rfl];refine wpAny_passesOwn E (gW (M a Q e C _ z l) λf T m=>?_);cases f with
  |next =>
   obtain⟨d,j,o,r⟩:=m;obtain⟨t,q,p⟩:=u d j r;exact⟨t,q,d,j,o,p⟩
  |cont =>
   obtain⟨d,j,o,r⟩:=m;obtain⟨t,q,p⟩:=u d j r;exact⟨t,q,d,j,o,p⟩
  |brk=>exact m
  |ret v=>exact m
 |false =>
  rw[eH aO];exact wpAny_execs_nil ⟨e,C,z,l⟩
end
structure It where
 go:Nat->Hp->Prop
 Qx:Nat->Hp->V->Hp->Prop
 stop:Nat->Hp->Prop
def G7(X:Cx)(pins:List (Addr×Obj))(H:Hp)(b:Addr):Prop :=
 H b=none/\b≠X.env.locals/\b∉X.fs/\(b∈X.ex∨X.s₀.heap.objs.size<=b)/\(∀x c,X.env.cells.lookup x=some c->c≠b)/\∀p∈X.pn++pins,p.1≠b
theorem Inv.abq{X:Cx}{a:List (Addr×Obj)}{g:St}{H f:Hp}{s:Shared}{b:Addr}(I:Inv X a g H s)(d:s.heap.objs.size<=b)(i:f b=none):G7 X a f b:=by
 refine⟨i,Nat.ne_of_gt (bK I.lt d),I.amO d,.inr (ay I.sz d),λx c e z=>?_,λp h z=>?_⟩
 ·obtain⟨v,q⟩:=I.cell x c e
  exact eL (bK q.lt (by rw[z];exact d)) (jF _)
 ·exact eL (bK (Heap.lt_size (I.pin p h).1) (by rw[z];exact d)) (jF _)
structure Turn(P:Program)(w:World)(K:af)(tg:Expr)(J:It)(fp:List Addr)(it:Addr)(tn:Nat->Heap->Prop):Prop where
 mem:it∈fp
 obj:∀i h,tn i h->∀b∈fp,∃o,h.get? b=some o/\∀v,o.data≠.cell v
 keep:∀i h h',tn i h->(∀b∈fp,∀o,h.get? b=some o->h'.get? b=some o)->tn i h'
 item:∀(X:Cx),X.prog=P->X.w=w->X.K=K->X.calm=true->∀(i:Nat) (pins:List (Addr×Obj)) (s:Shared) (σ:St) (H:Hp) (E:Value->Shared->Prop),Inv X pins σ H s->(∀b∈fp,G7 X pins H b)->tn i s.heap->J.go i H ->
  wpAny (model P w) X.A (pyNext (.ref it)) (λr s1=>∃u,r=some u /\
   wpAny (model P w) X.A (letOwnedTupleGo tg (.ref it) u) (λ_ s2=>∃x H',Inv X pins σ H' s2/\RelV x u/\J.Qx i H x H'/\tn (i+1) s2.heap/\∀b∈fp,H' b=none) E s1) E s
 done:∀(X:Cx),X.prog=P->X.w=w->X.K=K->X.calm=true->∀(i:Nat) (pins:List (Addr×Obj)) (s:Shared) (σ:St) (H:Hp) (E:Value->Shared->Prop),Inv X pins σ H s->(∀b∈fp,G7 X pins H b)->tn i s.heap->J.stop i H ->
  wpAny (model P w) X.A (pyNext (.ref it)) (λr s1=>r=none/\Inv X pins σ H s1) E s
 self:∀(A:Around) (i:Nat) (s:Shared) (Q:Value->Shared->Prop) (E:Value->Shared->Prop),tn i s.heap->Q (.ref it) s->wpAny (model P w) A (pyIter (.ref it)) Q E s
abbrev TI:=St->Hp->(It->Hp->Prop)->Prop
def PIE(X:Cx)(pins:List (Addr×Obj))(σ:St)(tg:Expr)(R:It->Hp->Prop)(itv:Value)(s2:Shared):Prop :=
 ∃(it:Addr) (fp:List Addr) (tn:Nat->Heap->Prop) (J:It) (H':Hp),itv=.ref it/\Inv X pins σ H' s2/\Turn X.prog X.w X.K tg J fp it tn/\tn 0 s2.heap/\(∀b∈fp,G7 X pins H' b)/\R J H'
def PI(X:Cx)(tg iter:Expr)(wi:TI):Prop :=
 ∀(pins:List (Addr×Obj)) (s:Shared) (σ:St) (H:Hp) (R:It->Hp->Prop),Inv X pins σ H s->wi σ H R ->
  wpAny (model X.prog X.w) X.A (eval iter X.env) (λv s1=>wpAny (model X.prog X.w) X.A (pyIter v) (PIE X pins σ tg R) X.xe s1) X.xe s
theorem Yj{M:Model}{A:Around}{E:Value->Shared->Prop}{s:Shared}{c:Expr}{b:Addr}{u:Value}{o:Obj}{n:String}{vs:Array Value}{Q:Unit->Shared->Prop}(e:s.heap.get? b=some o)(g:o.cls=.type n)(d:o.data=.fields vs)
 (f:["enumerate","zip","dict_itemiterator","dict_reverseitemiterator","odict_iterator","itertools.zip_longest","itertools.pairwise"].contains n=false) (a:Q () s):wpAny M A (letOwnedTupleGo c (.ref b) u) Q E s:=by
 unfold letOwnedTupleGo;cases c <;> first
  |exact wpAny_pure a
  | (cases u <;> first
   |exact wpAny_pure a
   | (refine wpAny_bind (wpAny_load e ?_)
      rw[g,d];show wpAny M A (if (["enumerate","zip","dict_itemiterator","dict_reverseitemiterator","odict_iterator","itertools.zip_longest","itertools.pairwise"].contains n&&vs[0]?==some (rawInt _))=true then _ else _) Q E s;rw[eH (by intro h;rw[f,Bool.false_and] at h;cases h)];exact wpAny_pure a))
noncomputable def RZ(K:af)(a:Addr):It :=
 ⟨λi H=>∃xs x,bC K H a xs/\xs[i]?=some x,λi H x H'=>H'=H/\∀xs,bC K H a xs->xs[i]?=some x,λi H=>∃xs,bC K H a xs/\xs.length<=i⟩
noncomputable def Itt(K:af)(a:Addr):It :=
 ⟨λi H=>∃xs x,cR K H a xs/\xs[i]?=some x,λi H x H'=>H'=H/\∀xs,cR K H a xs->xs[i]?=some x,λi H=>∃xs,cR K H a xs/\xs.length<=i⟩
noncomputable def JF(lo:Int)(n:Nat):It:=⟨λi _=>i<n,λi H x H'=>H'=H/\x=.int (lo+i),λi _=>n<=i⟩
theorem ZP{P:Program}{w:World}{K:af}{tg:Expr}(a j:Addr):Turn P w K tg (RZ K a) [j] j (λi h=>h.IsListIter j a i) where
 mem:=-_
 obj:=λi h st b g=>by
  have e:b=j:=by simpa using g
  subst e;obtain⟨o,e,c,d⟩:=st;exact⟨o,e,λv z=>by rw[d] at z;cases z⟩
 keep:=λi h q st k=>st.at λo e=>k j (-_) o e
 item:=by
  intro X D A F O i f s N H E I m st r;subst D A F;obtain⟨Y,x,n,t⟩:=r;obtain⟨C,G,p,V⟩:=I.list n;obtain⟨u,S,Z⟩:=G.get t;obtain⟨L,M,R,y,J,B⟩:=m j (-_);refine wpAny_pyNext_list_item st p.isList (x:=u) (by simpa using S) λq l Q=>?_;have W:Inv X f N H {s with heap:=q}:=I.turned (t':=s.toks) (λb o g e=>(Q.2 b g).trans e) L M y J B;obtain⟨o,e,c,d⟩:=id l;exact⟨u,rfl,Yj (s:={s with heap:=q}) e c d (!_) ⟨x,H,W,Z,⟨rfl,λys T=>by rw[I.Uw T n];exact t⟩,l,λb g=>(m b g).1⟩⟩
 done:=by
  intro X D A F O i f s N H E I m st r;subst D A F;obtain⟨Y,n,t⟩:=r;obtain⟨C,G,p,V⟩:=I.list n;obtain⟨L,M,R,y,J,B⟩:=m j (-_);have hl:=G.length;exact wpAny_pyNext_list_end (I.ok.hd O) st p.isList (by simp;lia) λq U=>⟨rfl,I.turned (t':=s.toks) (λb o g e=>U b o g e) L M y J B⟩
 self:=λ_ _ _ _ _ st h=>wpAny_pyIter_listiter st h
theorem WI{P:Program}{w:World}{K:af}{tg:Expr}(a l:Addr):Turn P w K tg (Itt K a) [l] l (λi h=>h.IsTupleIter l a i) where
 mem:=-_
 obj:=λi h st b j=>by
  have e:b=l:=by simpa using j
  subst e;obtain⟨o,e,c,d⟩:=st;exact⟨o,e,λv z=>by rw[d] at z;cases z⟩
 keep:=λi h r st k=>st.at λo e=>k l (-_) o e
 item:=by
  intro X D B F O i f s N H E I n st t;subst D B F;obtain⟨Y,x,q,y⟩:=t;obtain⟨g,G,p,V⟩:=I.tuple q;obtain⟨u,S,Z⟩:=G.get y;obtain⟨L,M,R,A,J,C⟩:=n l (-_);refine wpAny_pyNext_tuple_item st (show s.heap.IsTuple a g.toArray from p) (x:=u) (by simpa using S) λr m Q=>?_;have W:Inv X f N H {s with heap:=r}:=I.turned (t':=s.toks) (λb o j e=>(Q.2 b j).trans e) L M A J C;obtain⟨o,e,c,d⟩:=id m;exact⟨u,rfl,Yj (s:={s with heap:=r}) e c d (!_) ⟨x,H,W,Z,⟨rfl,λys T=>by rw[I.ZO T q];exact y⟩,m,λb j=>(n b j).1⟩⟩
 done:=by
  intro X D B F O i f s N H E I n st t;subst D B F;obtain⟨Y,q,y⟩:=t;obtain⟨g,G,p,V⟩:=I.tuple q;obtain⟨L,M,R,A,J,C⟩:=n l (-_);have hl:=G.length;exact wpAny_pyNext_tuple_end (I.ok.hd O) st (show s.heap.IsTuple a g.toArray from p) (by simp;lia) λr U=>⟨rfl,I.turned (t':=s.toks) (λb o j e=>U b o j e) L M A J C⟩
 self:=λ_ _ _ _ _ st h=>wpAny_pyIter_tupleiter st h
theorem WJ{P:Program}{w:World}{K:af}{N:Expr}(c:Addr)(lo:Int)(n:Nat):Turn P w K N (JF lo n) [c] c (λi h=>IsRangeIter h c (lo+(i:Nat)*1) ((n:Int)-(i:Nat)) 1) where
 mem:=-_
 obj:=λi h st b d=>by
  have e:b=c:=by simpa using d
  subst e;exact⟨_,st,λv z=>by
   have M:Data.fields _=Data.cell v:=z;cases M⟩
 keep:=λi h j st k=>k c (-_) _ st
 item:=by
  intro X r p u B i a s C H E I g st l;subst r p u;obtain⟨y,A,G,m,x,q⟩:=g c (-_);have W:=Walks.range (prog:=X.prog) (w:=X.w) (I.ok.hd B) c lo 1 n;refine W.item i s _ _ l st λv j D O f F=>?_;obtain⟨t,rfl⟩:=O;have L:Inv X a C H {s with heap:=j,toks:=D}:=I.turned (λb o d e=>F b o (by simpa using d) e) y A m x q;refine⟨_,rfl,Yj (s:={s with heap:=j,toks:=D}) (n:="range_iterator") f rfl rfl (!_) ⟨.int (lo+i),H,L,⟨t,?_⟩,⟨rfl,rfl⟩,f,λb d=>(g b d).1⟩⟩;rw[Int.mul_one]
 done:=by
  intro X r p u B i a s C H E I g st l;subst r p u;obtain⟨y,A,G,m,x,q⟩:=g c (-_);exact wpAny_pyNext_range_end (I.ok.hd B) st (by have:n<=i:=l;lia) λj J=>⟨rfl,I.turned (t':=s.toks) (λb o d e=>J b o d e) y A m x q⟩
 self:=λ_ _ _ _ _ st h=>wpAny_pyIter_rangeiter st h
section
variable{X:Cx}{tg:Expr}
inductive af1(K:af)(R:It->Hp->Prop)(x:V)(H1:Hp):Prop
 |mk (a:Addr) (h1:x=.ref a) (h2:∃xs,bC K H1 a xs) (h3:R (RZ K a) H1):af1 K R x H1
def ajJ(K:af)(tl:TE):TI:=λσ H R=>tl σ H (af1 K R)
def ajK(K:af)(tl:TE):TI:=λσ H R=>tl σ H λx H1=>∃a,x=.ref a/\(∃xs,cR K H1 a xs)/\R (Itt K a) H1
theorem dB{l:Expr}{g:TE}(hl:PE X l g):PI X tg l (ajJ X.K g):=by
 intro c s n H R I h;refine gW (hl c s n H _ I h) λv d ⟨x,k,f,r,i⟩=>?_;obtain⟨a,e,⟨y,t⟩,q⟩:=i;subst e;cases r;obtain⟨j,w,p,u⟩:=f.list t;refine wpAny_pyIter_list p.isList ?_;refine⟨d.heap.objs.size,[d.heap.objs.size],_,_,k,rfl,f.kept (t':=d.toks) λb o e=>Heap.get?_push_of_some _ e,ZP a _,⟨_,Heap.get?_push_size _ rfl,rfl,rfl⟩,λb m=>?_,q⟩;have e:b=d.heap.objs.size:=by simpa using m
 subst e;exact f.abq (aB _) (f.hok.fresh (aB _))
theorem R0{l:Expr}{i:TE}(hl:PE X l i):PI X tg l (ajK X.K i):=by
 intro c s n H R I h;refine gW (hl c s n H _ I h) λv d ⟨x,k,f,r,j⟩=>?_;obtain⟨a,e,⟨y,t⟩,q⟩:=j;subst e;cases r;obtain⟨g,w,p,u⟩:=f.tuple t;refine wpAny_pyIter_tuple (show d.heap.IsTuple a g.toArray from p) ?_;refine⟨d.heap.objs.size,[d.heap.objs.size],_,_,k,rfl,f.kept (t':=d.toks) λb o e=>Heap.get?_push_of_some _ e,WI a _,⟨_,Heap.get?_push_size _ rfl,rfl,rfl⟩,λb m=>?_,q⟩;have e:b=d.heap.objs.size:=by simpa using m
 subst e;exact f.abq (aB _) (f.hok.fresh (aB _))
theorem abr{c:List (Addr×Obj)}{f:St}{H:Hp}{s:Shared}{R:It->Hp->Prop}{E:Value->Shared->Prop}{lo a:Int}{t u v:Tok}{tk:Nat}(I:Inv X c f H s)(h:-(2^62)<=lo)(j:lo<2^62)(l:-(2^62)<=a)(k:a<2^62)
 (q:R (JF lo (a-lo).toNat) H):wpAny (model X.prog X.w) X.A (pyIter (.ref s.heap.objs.size)) (PIE X c f tg R) E {s with heap:=s.heap.push {cls:=.type "range",data:=.fields #[.int lo t,.int a u,.int 1 v]},toks:=tk}:=by
 refine wpAny_pyIter_range (IsRange.new ..) (small_one h j l k) ?_;have d:Inv X c f H {s with heap:=s.heap.push {cls:=.type "range",data:=.fields #[.int lo t,.int a u,.int 1 v]},toks:=tk}:=I.kept λb o e=>Heap.get?_push_of_some _ e;refine⟨(s.heap.push {cls:=.type "range",data:=.fields #[.int lo t,.int a u,.int 1 v]}).objs.size,[(s.heap.push {cls:=.type "range",data:=.fields #[.int lo t,.int a u,.int 1 v]}).objs.size],_,_,H,rfl,
  d.kept (t':=tk) λb o e=>Heap.get?_push_of_some _ e,WJ _ lo (a-lo).toNat,?_,λb i=>?_,q⟩
 ·have m:lo+((0:Nat):Int)*1=lo:=-_
  have g:(((a-lo).toNat:Nat):Int)-((0:Nat):Int)=Builtin.Range.rangeSize lo a 1:=by rw[rangeSize_one];split <;> lia
  show IsRangeIter _ _ (lo+((0:Nat):Int)*1) ((((a-lo).toNat:Nat):Int)-((0:Nat):Int)) 1;rw[m,g];exact Heap.get?_push_size _ rfl
 ·have e:b=(s.heap.push {cls:=.type "range",data:=.fields #[.int lo t,.int a u,.int 1 v]}).objs.size:=by simpa using i
  subst e;exact d.abq (aB _) (d.hok.fresh (aB _))
inductive af2(R:It->Hp->Prop)(vs:List V)(H1:Hp):Prop
 |mk (j:Int) (h1:vs=[.int j]) (h2:-(2^62)<=j) (h3:j<2^62) (h4:R (JF 0 j.toNat) H1):af2 R vs H1
def ajL(ta:TA):TI:=λσ H R=>ta σ H (af2 R)
theorem gX{a:Expr}{f:TA}{p c:Pos}(g:Gl X "range")(u:X.mg "range" = none)(l:PA X [a] f)(i:starEach [a] X.env=[(false,eval a X.env)]:=by rfl):PI X tg (.Call (.Name "range" p) [a] [] c) (ajL f):=by
 intro b s o H R I h;refine Call_ (LP I g u boot_range (PyProof.Rows.callWith_type1 (gW (l c b s o H _ I h) λw y ⟨z,x,n,v,d⟩=>?_) i rfl));obtain⟨j,e,d,k,q⟩:=d;subst e;cases v with
 |cons r m =>
  cases m;obtain⟨t,rfl⟩:=r;exact call_range_1 (abr n ∅ ∅ d k (by simpa using q))
def ajM(wi:TI)(g:TG)(tb:TS):TS:=λD σ H=>wi σ H λJ H1=>∃W:Nat->Nat->St->Hp->Prop,(∃m,W 0 m σ H1)/\∀i m σ H,W i m σ H ->
 (J.stop i H/\D.nx σ H)∨(J.go i H/\∃N:St->Hp->Prop,(∀σ' H',N σ' H'->∃m',m'<m/\W (i+1) m' σ' H')/\∀x H',J.Qx i H x H'->g x σ H' λσ2 H2=>tb {D with nx:=N,ct:=N,bk:=D.nx} σ2 H2)
noncomputable def LV(fp:List Addr)(h:Heap):List (Addr×Obj):=fp.filterMap λb=>(h.get? b).map λo=>(b,o)
theorem FO{fp:List Addr}{h:Heap}{b:Addr}{o:Obj}(a:b∈fp)(e:h.get? b=some o):(b,o)∈LV fp h:=List.mem_filterMap.mpr ⟨b,a,by rw[e];rfl⟩
theorem ZQ{fp:List Addr}{h:Heap}{p:Addr×Obj}(a:p∈LV fp h):p.1∈fp/\h.get? p.1=some p.2:=by
 obtain⟨b,d,e⟩:=List.mem_filterMap.mp a;cases q:h.get? b with
 |none=>rw[q] at e;cases e
 |some o =>
  rw[q] at e;have c:(b,o)=p:=aR e;subst c;exact⟨d,q⟩
theorem Inv.pinned{a:List (Addr×Obj)}{f:St}{H:Hp}{s:Shared}{fp:List Addr}(I:Inv X a f H s)(i:∀b∈fp,G7 X a H b)(k:∀b∈fp,∃o,s.heap.get? b=some o/\∀v,o.data≠.cell v):Inv X (a++LV fp s.heap) f H s :=
 I.Yg λp j=>(bx.mp j).elim (λz=>I.pin p (er _ z)) λz=>by
  obtain⟨c,e⟩:=ZQ z;obtain⟨l,m,h,_⟩:=i p.1 c;obtain⟨o,g,d⟩:=k p.1 c;rw[e] at g;cases g;exact⟨e,l,m,h,d⟩
theorem Inv.G8{a pl:List (Addr×Obj)}{b:St}{H:Hp}{s:Shared}(I:Inv X (a++pl) b H s):Inv X a b H s:=I.Yg λp c=>I.pin p (er _ (List.mem_append_left _ c))
theorem ahc{l:Expr}{B:List Stmt}{wi:TI}{g:TG}{tb:TS}{Z:Pos}(M:PassesOwn (model X.prog X.w) X.A X.env X.xe)(hc:X.calm=true)(hi:PI X tg l wi)(hg:PG X tg g)(p:iQ X B tb)
 (hs:∀x,foldedSetIterable l X.env x=pure x:=by intro _;rfl):PS X (.For tg l B [] Z) (ajM wi g tb):=by
 intro a s σ H D I h;refine wpAny_For (gW (hi a s σ H _ I h) λv s1 h1=>gW h1 λitv s2 h2=>?_) hs;obtain⟨it,L,tn,J,H2,e,I2,T,st2,f2,W,⟨m0,w0⟩,F⟩:=h2;subst e;have q:∀{z:Hp},(∀b∈L,z b=none)->∀b∈L,G7 X a z b:=λhn b p=>⟨hn b p,(f2 b p).2⟩;refine codeAny_forLoop_any (λn s'=>∃i t z,Inv X a t z s'/\tn i s'.heap/\(∀b∈L,z b=none)/\W i n t z) ?_ m0 ⟨0,σ,H2,I2,st2,λb p=>(f2 b p).1,w0⟩;rintro n s3 ⟨i,j,P,I3,K,G,w3⟩;rcases F i n j P w3 with ⟨E,qn⟩|⟨go,N,hN,step⟩
 ·refine wpAny_passesOwn M (gW (T.done X rfl rfl rfl hc i a s3 j P X.xe I3 (q G) K E) λr s4 ⟨U,I4⟩=>?_)
  subst U;exact wpAny_execs_nil ⟨j,P,I4,qn⟩
 ·refine wpAny_passesOwn M (gW (T.item X rfl rfl rfl hc i a s3 j P X.xe I3 (q G) K go) λr s4 ⟨u,U,h4⟩=>?_)
  subst U;refine wpAny_passesOwn M (gW h4 λ_ s5 ⟨x,H5,I5,r5,y5,Y,Q⟩=>?_);have S:=I5.pinned (q Q) (T.obj _ _ Y);refine wpAny_passesOwn M (gW (hg _ s5 j H5 x u _ S r5 (step x H5 y5)) λ_ s6 ⟨R,H6,I6,q6⟩=>?_);refine wpAny_passesOwn M (gW (p _ s6 R H6 _ I6 q6) λf V C=>?_);have again:∀{c:St} {k:Hp},Inv X (a++LV L s5.heap) c k V->N c k->∃m,m<n/\∃i t z,Inv X a t z V/\tn i V.heap/\(∀b∈L,z b=none)/\W i m t z:=λ{c k} y O=>by
   obtain⟨m',hm,w7⟩:=hN c k O;refine⟨m',hm,i+1,c,k,y.G8,T.keep _ _ _ Y λb p o e=>(y.pin (b,o) (er _ (er _ (FO p e)))).1,λb p=>?_,w7⟩;obtain⟨o,e,d⟩:=T.obj _ _ Y b p;exact (y.pin (b,o) (er _ (er _ (FO p e)))).2.1
  cases f with
  |next=>obtain⟨c,k,y,O⟩:=C;exact again y O
  |cont=>obtain⟨c,k,y,O⟩:=C;exact again y O
  |brk=>obtain⟨c,k,y,C⟩:=C;exact⟨c,k,y.G8,C⟩
  |ret v=>obtain⟨x7,c,k,y,r7,C⟩:=C;exact⟨x7,c,k,y.G8,r7,C⟩
end
theorem uE{K:af}{a:Addr}{xs:List V}{g:TG}{l:TS}{D:Ends}{b:St}{H:Hp}(c:Nat->St->Hp->Prop)(u:c 0 b H)(hl:∀i b H,i<=xs.length->c i b H->bC K H a xs)
 (r:∀i x b H,xs[i]?=some x->c i b H->g x b H λh k=>l {D with nx:=c (i+1),ct:=c (i+1),bk:=D.nx} h k) (o:∀b H,c xs.length b H->D.nx b H) :
 ∃W:Nat->Nat->St->Hp->Prop,(∃m,W 0 m b H)/\∀i m b H,W i m b H ->
  ((RZ K a).stop i H/\D.nx b H)∨((RZ K a).go i H/\∃N:St->Hp->Prop,(∀d f,N d f->∃n,n<m/\W (i+1) n d f)/\∀x f,(RZ K a).Qx i H x f->g x b f λh k=>l {D with nx:=N,ct:=N,bk:=D.nx} h k):=by
 refine⟨λi m b H=>m=xs.length-i/\i<=xs.length/\c i b H,⟨xs.length,-_,be _,u⟩,?_⟩;rintro i m b H ⟨rfl,s,p⟩;have q:=hl i b H s p;by_cases j:i<xs.length
 ·refine .inr ⟨⟨xs,xs[i],q,by simp[j]⟩,c (i+1),λd f t=>⟨xs.length-(i+1),∅,rfl,j,t⟩,λx f y=>?_⟩
  obtain⟨e,y⟩:=y;subst e;exact r i x b _ (y xs q) p
 ·have e:i=xs.length:=∅
  subst e;exact .inl ⟨⟨xs,q,aB _⟩,o b H p⟩
theorem DX{lo:Int}{n:Nat}{g:TG}{k:TS}{D:Ends}{a:St}{H:Hp}(b:Nat->St->Hp->Prop)(s:b 0 a H)
 (q:∀i a H,i<n->b i a H->g (.int (lo+i)) a H λh j=>k {D with nx:=b (i+1),ct:=b (i+1),bk:=D.nx} h j) (o:∀a H,b n a H->D.nx a H) :
 ∃W:Nat->Nat->St->Hp->Prop,(∃m,W 0 m a H)/\∀i m a H,W i m a H ->
  ((JF lo n).stop i H/\D.nx a H)∨((JF lo n).go i H/\∃N:St->Hp->Prop,(∀d f,N d f->∃l,l<m/\W (i+1) l d f)/\∀x f,(JF lo n).Qx i H x f->g x a f λh j=>k {D with nx:=N,ct:=N,bk:=D.nx} h j):=by
 refine⟨λi m a H=>m=n-i/\i<=n/\b i a H,⟨n,-_,be _,s⟩,?_⟩;rintro i m a H ⟨rfl,t,p⟩;by_cases c:i<n
 ·refine .inr ⟨c,b (i+1),λd f r=>⟨n-(i+1),∅,rfl,c,r⟩,λx f y=>?_⟩
  obtain⟨e,y⟩:=y;subst e y;exact q i a _ c p
 ·have e:i=n:=∅
  subst e;exact .inl ⟨aB _,o a H p⟩
abbrev R2:=V->V->Hp->VK->Prop
def BG(X:Cx)(f:Value->Value->Sem Value)(r:R2):Prop :=
 ∀(pins:List (Addr×Obj)) (s:Shared) (σ:St) (H:Hp) (x y:V) (v u:Value) (Q:VK),Inv X pins σ H s->RelV x v->RelV y u->r x y H Q ->
  wpAny (model X.prog X.w) X.A (f v u) (EP X pins σ Q) X.xe s
def nP(X:Cx)(f:Value)(r:List V->Hp->VK->Prop):Prop :=
 ∀(pins:List (Addr×Obj)) (s:Shared) (σ:St) (H:Hp) (xs:List V) (us:List Value) (Q:VK),Inv X pins σ H s->b6 xs us->r xs H Q ->
  wpAny (model X.prog X.w) X.A (call f us) (EP X pins σ Q) X.xe s
def amY(X:Cx)(r:V->Hp->(Bool->Hp->Prop)->Prop):Prop :=
 ∀(pins:List (Addr×Obj)) (s:Shared) (σ:St) (H:Hp) (x:V) (v:Value) (Q:Bool->Hp->Prop),Inv X pins σ H s->RelV x v->r x H Q ->
  wpAny (model X.prog X.w) X.A (truthy v) (TP X pins σ Q) X.xe s
def ZR(r:R2)(ta tb:TE):TE:=λσ H Q=>ta σ H λx H1=>tb σ H1 λy H2=>r x y H2 Q
inductive rI(C:Int->Int->Prop)(g:Int->Int->V)(x y:V)(H:Hp)(Q:VK):Prop
 |mk (i j:Int) (h1:x=.int i) (h2:y=.int j) (h3:C i j) (h4:Q (g i j) H):rI C g x y H Q
inductive nk(g:Int->Int->V)(x y:V)(H:Hp)(Q:VK):Prop
 |mk (i j:Int) (h1:x=.int i) (h2:y=.int j) (h3:Q (g i j) H):nk g x y H Q
section
variable{X:Cx}{a b c:Expr}{ta tb tc:TE}{pos:Pos}
theorem ahd(p:PE X a ta)(r:PE X b tb){c:List (Addr×Obj)}{s:Shared}{d:St}{H:Hp}{R:V->V->Hp->Prop}(I:Inv X c d H s)
 (h:ta d H λx k=>tb d k λy e=>R x y e) {Q:Value->Shared->Prop} {f:Value->Value->Sem Value}
 (n:∀v u j x y e,Inv X c d e j->RelV x v->RelV y u->R x y e->wpAny (model X.prog X.w) X.A (f v u) Q X.xe j) :
 wpAny (model X.prog X.w) X.A (eval a X.env) (λv i=>wpAny (model X.prog X.w) X.A (eval b X.env) (λu g=>wpAny (model X.prog X.w) X.A (f v u) Q X.xe g) X.xe i) X.xe s:=by
 refine gW (p c s d H _ I h) λv q ⟨x,k,t,z,m⟩=>?_;refine gW (r c q d k _ t m) λu j ⟨y,e,l,B,o⟩=>?_;exact n v u j x y e l z B o
theorem bG{op:Operator}{r:R2}(j:BG X (binaryOp op) r)(e:PE X a ta)(f:PE X b tb):PE X (.BinOp a op b pos) (ZR r ta tb):=by
 intro c s g H Q I h;exact wpAny_BinOp (ahd e f I h λv u k x y i d m l q=>j c k g i x y v u Q d m l q)
theorem opI{f:Value->Value->Sem Value}{C:Int->Int->Prop}{g:Int->Int->Int}
 (rule:∀(i j:Int) (t u:Tok) (s:Shared) (Q:Value->Shared->Prop) (E:Value->Shared->Prop),C i j->Q (.int (g i j) s.toks) {s with toks:=s.toks+1}->wpAny (model X.prog X.w) X.A (f (.int i t) (.int j u)) Q E s) :
 BG X f (rI C λi j=>.int (g i j)):=by
 intro a s k H x y v u Q I d c h;obtain⟨i,j,rfl,rfl,e,q⟩:=h;obtain⟨t,rfl⟩:=d;obtain⟨b,rfl⟩:=c;exact rule i j t b s _ _ e ⟨.int (g i j),H,I.tok _,⟨_,rfl⟩,q⟩
theorem ahe{f:Value->Value->Sem Value}{g:Int->Int->Int}
 (rule:∀(i j:Int) (t u:Tok) (s:Shared) (Q:Value->Shared->Prop) (E:Value->Shared->Prop),Q (.int (g i j) s.toks) {s with toks:=s.toks+1}->wpAny (model X.prog X.w) X.A (f (.int i t) (.int j u)) Q E s) :
 BG X f (nk λi j=>.int (g i j)):=by
 intro a s e H x y v u Q I d c h;obtain⟨i,j,rfl,rfl,q⟩:=h;obtain⟨t,rfl⟩:=d;obtain⟨b,rfl⟩:=c;exact rule i j t b s _ _ ⟨.int (g i j),H,I.tok _,⟨_,rfl⟩,q⟩
theorem aee{f:Value->Value->Sem Value}{g:Int->Int->Bool}
 (rule:∀(i j:Int) (t u:Tok) (s:Shared) (Q:Value->Shared->Prop) (E:Value->Shared->Prop),Q (.bool (g i j)) s->wpAny (model X.prog X.w) X.A (f (.int i t) (.int j u)) Q E s) :
 BG X f (nk λi j=>.bl (g i j)):=by
 intro a s e H x y v u Q I d c h;obtain⟨i,j,rfl,rfl,q⟩:=h;obtain⟨t,rfl⟩:=d;obtain⟨b,rfl⟩:=c;exact rule i j t b s _ _ ⟨.bl (g i j),H,I,rfl,q⟩
def amZ(i j:Int):Prop:=0<j/\j<1073741824
def am0(i j:Int):Prop:=0<=j/\j<=1000000/\i.natAbs<2^64
def ahf(i j:Int):Prop:=(-(2^64)<i/\i<2^64)∨(-(2^64)<j/\j<2^64)
theorem ahf.ok{i j:Int}(h:ahf i j):IntMulOk i j:=by
 rcases h with ⟨a,b⟩|⟨a,b⟩
 ·exact .of_left (intBits_le_64 a b)
 ·exact .of_right (intBits_le_64 a b)
theorem jl:BG X (binaryOp .Add) (nk λi j=>.int (i+j)):=ahe λ_ _ _ _ _ _ _ q=>add_int q
theorem abu:BG X (binaryOp .Sub) (nk λi j=>.int (i-j)):=ahe λ_ _ _ _ _ _ _ q=>sub_int q
theorem FP:BG X (binaryOp .Mult) (rI ahf λi j=>.int (i*j)):=opI λ_ _ _ _ _ _ _ a q=>mul_int q a.ok
theorem fE:BG X (binaryOp .FloorDiv) (rI amZ λi j=>.int (i/j)):=opI λi j _ _ _ _ _ a q=>by
 have b:(0:Int)<j:=a.1;have c:j<1073741824:=a.2;exact floordiv_int ∅ (by rw[Int.fdiv_eq_ediv_of_nonneg i ∅];exact q) (.inl (PyProof.noPylong_small ∅))
theorem dh:BG X (binaryOp .Mod) (rI (λ_ j=>0<j) λi j=>.int (i%j)):=opI λi j _ _ _ _ _ a q=>by
 have b:(0:Int)<j:=a;exact mod_int' ∅ (by rw[Int.fmod_eq_emod_of_nonneg i ∅];exact q)
theorem abv:BG X (binaryOp .Pow) (rI am0 λi j=>.int (i^j.toNat)):=opI λ_ _ _ _ _ _ _ a q=>pow_int_small a.1 a.2.1 a.2.2 q
theorem ahg:BG X (binaryOp .BitAnd) (nk λi j=>.int (Builtin.bitAnd i j)):=ahe λ_ _ _ _ _ _ _ q=>and_int q
end
noncomputable def ahh:V->V->Bool
 |.dH,.dH=>true|.dH,.int _=>true|.int _,.dH=>true|.dH,.bl _=>true|.bl _,.dH=>true|.dH,.str _=>true|.str _,.dH=>true
 |.int _,.int _=>true|.bl _,.bl _=>true|.str _,.str _=>true|.Ye _,.Ye _=>true
 |.int _,.str _=>true|.str _,.int _=>true|.bl _,.str _=>true|.str _,.bl _=>true
 |_,_=>false
inductive rEq(x y:V)(H:Hp)(Q:VK):Prop
 |mk (a:ahh x y=true) (b:Q (.bl (decide (x=y))) H):rEq x y H Q
inductive rNe(x y:V)(H:Hp)(Q:VK):Prop
 |mk (a:ahh x y=true) (b:Q (.bl (!decide (x=y))) H):rNe x y H Q
theorem Yk{i j:Int}:decide (V.int i=V.int j)=(i==j):=by
 rw[ku];simp
theorem abw{i j:Bool}:decide (V.bl i=V.bl j)=(i==j):=by
 rw[ku];simp
theorem Yl{i j:Str}:decide (V.str i=V.str j)=(i==j):=by
 rw[ku];simp
theorem Ym{i j:Array UInt8}:decide (V.Ye i=V.Ye j)=(i.toList==j.toList):=by
 rw[ku];cases i;cases j;simp
section
variable{X:Cx}{a b c:Expr}{ta tb tc:TE}{pos:Pos}
theorem dX{a:List (Addr×Obj)}{b:St}{H:Hp}{s:Shared}{Q:VK}{k c:Bool}(I:Inv X a b H s)(q:Q (.bl k) H)(e:k=c):EP X a b Q (.bool c) s:=by
 subst e;exact⟨.bl k,H,I,rfl,q⟩
theorem lD:BG X (compareOp .Eq) rEq:=by
 intro e s f H x y v u Q I d a h;obtain⟨c,q⟩:=h;cases x with
 |dH =>
  cases d;cases y with
  |dH=>cases a;exact PySem.EqNone.eq_none_none (dX I q (-_))
  |bl j=>cases a;exact PySem.EqNone.eq_none_bool (dX I q (-_))
  |int j=>obtain⟨b,rfl⟩:=a;exact PySem.EqNone.eq_none_int (dX I q (-_))
  |str j=>obtain⟨b,rfl⟩:=a;exact PySem.EqNone.eq_none_str (dX I q (-_))
  |_=>exact eL (show false=true from c) aO
 |bl i =>
  cases d;cases y with
  |dH=>cases a;exact PySem.EqNone.eq_bool_none (dX I q (-_))
  |bl j=>cases a;exact eq_bool (dX I q abw)
  |str j=>obtain⟨b,rfl⟩:=a;exact PySem.EqMixed.eq_bool_str (dX I q (-_))
  |_=>exact eL (show false=true from c) aO
 |int i =>
  obtain⟨t,rfl⟩:=d;cases y with
  |dH=>cases a;exact PySem.EqNone.eq_int_none (dX I q (-_))
  |int j=>obtain⟨b,rfl⟩:=a;exact eq_int (dX I q Yk)
  |str j=>obtain⟨b,rfl⟩:=a;exact PySem.EqMixed.eq_int_str (dX I q (-_))
  |_=>exact eL (show false=true from c) aO
 |str i =>
  obtain⟨t,rfl⟩:=d;cases y with
  |dH=>cases a;exact PySem.EqNone.eq_str_none (dX I q (-_))
  |bl j=>cases a;exact PySem.EqMixed.eq_str_bool (dX I q (-_))
  |int j=>obtain⟨b,rfl⟩:=a;exact PySem.EqMixed.eq_str_int (dX I q (-_))
  |str j=>obtain⟨b,rfl⟩:=a;exact eq_str (dX I q Yl)
  |_=>exact eL (show false=true from c) aO
 |Ye i =>
  obtain⟨t,rfl⟩:=d;cases y with
  |Ye j=>obtain⟨b,rfl⟩:=a;exact PySem.W.eq_bytes (dX I q Ym)
  |_=>exact eL (show false=true from c) aO
 |_=>cases y <;> exact eL (show false=true from c) aO
theorem wC:BG X (compareOp .NotEq) rNe:=by
 intro e s f H x y v u Q I d a h;obtain⟨c,q⟩:=h;cases x with
 |dH =>
  cases d;cases y with
  |dH=>cases a;exact PySem.EqNone.ne_none_none (dX I q (-_))
  |bl j=>cases a;exact PySem.EqNone.ne_none_bool (dX I q (-_))
  |int j=>obtain⟨b,rfl⟩:=a;exact PySem.EqNone.ne_none_int (dX I q (-_))
  |str j=>obtain⟨b,rfl⟩:=a;exact PySem.EqNone.ne_none_str (dX I q (-_))
  |_=>exact eL (show false=true from c) aO
 |bl i =>
  cases d;cases y with
  |dH=>cases a;exact PySem.EqNone.ne_bool_none (dX I q (-_))
  |bl j=>cases a;exact ne_bool (dX I q (fy not abw))
  |str j=>obtain⟨b,rfl⟩:=a;exact PySem.EqMixed.ne_bool_str (dX I q (-_))
  |_=>exact eL (show false=true from c) aO
 |int i =>
  obtain⟨t,rfl⟩:=d;cases y with
  |dH=>cases a;exact PySem.EqNone.ne_int_none (dX I q (-_))
  |int j=>obtain⟨b,rfl⟩:=a;exact ne_int (dX I q (fy not Yk))
  |str j=>obtain⟨b,rfl⟩:=a;exact PySem.EqMixed.ne_int_str (dX I q (-_))
  |_=>exact eL (show false=true from c) aO
 |str i =>
  obtain⟨t,rfl⟩:=d;cases y with
  |dH=>cases a;exact PySem.EqNone.ne_str_none (dX I q (-_))
  |bl j=>cases a;exact PySem.EqMixed.ne_str_bool (dX I q (-_))
  |int j=>obtain⟨b,rfl⟩:=a;exact PySem.EqMixed.ne_str_int (dX I q (-_))
  |str j=>obtain⟨b,rfl⟩:=a;exact ne_str (dX I q (fy not Yl))
  |_=>exact eL (show false=true from c) aO
 |Ye i =>
  obtain⟨t,rfl⟩:=d;cases y with
  |Ye j=>obtain⟨b,rfl⟩:=a;exact PySem.W.ne_bytes (dX I q (fy not Ym))
  |_=>exact eL (show false=true from c) aO
 |_=>cases y <;> exact eL (show false=true from c) aO
theorem tE:BG X (compareOp .Lt) (nk λi j=>.bl (decide (i<j))):=aee λ_ _ _ _ _ _ _ q=>lt_int q
theorem nQ:BG X (compareOp .LtE) (nk λi j=>.bl (decide (i<=j))):=aee λ_ _ _ _ _ _ _ q=>le_int q
theorem Yn:BG X (compareOp .Gt) (nk λi j=>.bl (decide (j<i))):=aee λ_ _ _ _ _ _ _ q=>gt_int q
theorem ajO:BG X (compareOp .GtE) (nk λi j=>.bl (decide (j<=i))):=aee λ_ _ _ _ _ _ _ q=>ge_int q
theorem ZS:BG X (compareOp .In) (λx y H Q=>∃i j,x=.str i/\y=.str j/\Q (.bl (!(Builtin.Str.occurrences j i 0 j.length 1).isEmpty)) H):=by
 intro a s e H x y v u Q I c b h;obtain⟨i,j,rfl,rfl,q⟩:=h;obtain⟨t,rfl⟩:=c;obtain⟨d,rfl⟩:=b;exact in_str (dX I q rfl)
theorem R1:BG X (compareOp .Is) (λx y H Q=>y=.dH/\Q (.bl (decide (x=.dH))) H):=by
 intro a s d H x y v u Q I b c h;obtain⟨rfl,q⟩:=h;cases c;refine is_none_gen (dX I q ?_);cases x <;> first
  | (cases b;rfl)
  | (obtain⟨t,rfl⟩:=b;rfl)
theorem R3:BG X (compareOp .IsNot) (λx y H Q=>y=.dH/\Q (.bl (!decide (x=.dH))) H):=by
 intro a s d H x y v u Q I b c h;obtain⟨rfl,q⟩:=h;cases c;refine isnot_none_gen (dX I q ?_);cases x <;> first
  | (cases b;rfl)
  | (obtain⟨t,rfl⟩:=b;rfl)
theorem abx(b:Expr){op:CmpOp}(h:op≠.In:=by decide)(c:op≠.NotIn:=by decide):behindInMarks op b=false:=by
 have d:(op==CmpOp.In)=false:=by cases op <;> first|rfl|exact eL rfl h
 have a:(op==CmpOp.NotIn)=false:=by cases op <;> first|rfl|exact eL rfl c
 cases b <;> simp[behindInMarks,d,a]
theorem Yo{op:CmpOp}{r:R2}(j:BG X (compareOp op) r)(e:PE X a ta)(f:PE X b tb)(l:behindInMarks op b=false):PE X (.Compare a [op] [b] pos) (ZR r ta tb):=by
 intro c s g H Q I h;exact wpAny_Compare1 (ahd e f I h λv u k x y i d n m q=>j c k g i x y v u Q d n m q) l
def Yp(t:TE):TT:=λσ H Q=>t σ H (BlR Q)
theorem nR{op:CmpOp}{r:R2}(B:BG X (compareOp op) r)(m:PE X a ta)(o:PE X b tb)(D:behindInMarks op b=false):PT X (.Compare a [op] [b] pos) (Yp (ZR r ta tb)):=by
 intro d s f H Q I h;refine wpAny_isTrue_Compare1 (gW (m d s f H _ I h) λv n ⟨x,l,p,E,i⟩=>gW (o d n f l _ p i) λu C ⟨y,A,g,F,j⟩ =>
  gW (B d C f A x y v u _ g E F j) λc J ⟨z,q,t,G,k,e,w⟩=>?_) D
 subst e;cases G;exact wpAny_truthy_bool ⟨q,t,w⟩
def aby(r r':R2)(ta tb tc:TE):TE:=λσ H Q=>ta σ H λx H1=>tb σ H1 λy H2=>r x y H2 λz H3=>∃k,z=.bl k /\
 (if k=true then tc σ H3 λw' H4=>r' y w' H4 Q else Q (.bl false) H3)
theorem Uy{op g:CmpOp}{r o:R2}(L:BG X (compareOp op) r)(j:BG X (compareOp g) o)(D:PE X a ta)(G:PE X b tb)(W:PE X c tc)
 (P:lastMarks [op,g] [b,c]=false:=by with_unfolding_all rfl):PE X (.Compare a [op,g] [b,c] pos) (aby r o ta tb tc):=by
 intro f s i H Q I h;refine Compare_chain (gW (D f s i H _ I h) λv C ⟨x,B,F,S,t⟩=>chain_link (gW (G f C i B _ F t) λu M ⟨y,J,q,p,A⟩ =>
  gW (L f M i J x y v u _ q S p A) λd U ⟨z,l,m,V,k,e,n⟩=>?_)) P
 subst e;cases V;refine wpAny_truthy_bool ?_;cases k with
 |false=>exact ite_ff ⟨.bl false,l,m,rfl,n⟩
 |true=>exact ite_tt (chain_last (gW (W f U i l _ m n) λK E ⟨R,N,T,w,O⟩=>j f E i N y R u K Q T p w O))
theorem iZ{op g:CmpOp}{r o:R2}(P:BG X (compareOp op) r)(j:BG X (compareOp g) o)(G:PE X a ta)(L:PE X b tb)(hc:PE X c tc)
 (V:lastMarks [op,g] [b,c]=false:=by with_unfolding_all rfl):PT X (.Compare a [op,g] [b,c] pos) (Yp (aby r o ta tb tc)):=by
 intro f s i H Q I h;refine isTrue_chain (gW (G f s i H _ I h) λv F ⟨x,E,K,Z,A⟩=>test_link (gW (L f F i E _ K A) λu R ⟨y,M,w,p,D⟩ =>
  gW (P f R i M x y v u _ w Z p D) λd s3 ⟨z,l,m,r3,k,e,n⟩=>?_)) V
 subst e;cases r3;refine wpAny_truthy_bool ?_;cases k with
 |false =>
  obtain⟨k',O,B⟩:=n;cases O;exact ite_ff ⟨l,m,B⟩
 |true =>
  refine ite_tt (test_last (gW (hc f s3 i l _ m n) λN J ⟨W,S,I4,C,T⟩=>gW (j f J i S y W u N _ I4 p C T) λd' s5 ⟨z2,U,Y,t,k2,q,q5⟩=>?_));subst q;cases t;exact wpAny_truthy_bool ⟨U,Y,q5⟩
def ahi(K:af)(x:V)(H:Hp)(k:Bool):Prop :=
 match x with
 |.dH=>k=false
 |.bl b=>k=b
 |.int i=>k=(i != 0)
 |.str y=>y.length<=sizeLine/\k=((y.length:Int) != 0)
 |.Ye y=>y.size<=sizeLine/\k=((y.size:Int) != 0)
 |.ref p=>(∃xs,bC K H p xs/\k=!xs.isEmpty)∨(∃xs,cR K H p xs/\k=!xs.isEmpty)∨∃kvs,H p=some (.dK kvs)/\k=!kvs.isEmpty
 |_=>False
theorem WK{a:Type}{kvs:List (a×V)}{vs:List (a×Value)}(r:KV kvs vs):(!vs.isEmpty)=!kvs.isEmpty:=by
 cases r <;> rfl
theorem LW{xs:List V}{a:List Value}(r:b6 xs a):(!a.toArray.isEmpty)=!xs.isEmpty:=by
 cases r <;> simp
theorem FQ:(sizeLine:Nat)<2^63:=by rw[sizeLine_eq];decide
theorem ahj:amY X (λx H Q=>∃k,ahi X.K x H k/\Q k H):=by
 intro u s D H x v Q I g h;obtain⟨k,e,q⟩:=h;have E:=FQ;have C:sizeLine=16777216:=sizeLine_eq;cases x with
 |dH =>
  cases g;have a:k=false:=e;subst a;exact truthy_none ⟨H,I,q⟩
 |bl b =>
  cases g;have a:k=b:=e;subst a;exact wpAny_truthy_bool ⟨H,I,q⟩
 |int i =>
  obtain⟨t,rfl⟩:=g;have a:k=(i != 0):=e;subst a;exact PySem.P.truthy_int ⟨H,I,q⟩
 |str y =>
  obtain⟨t,rfl⟩:=g;obtain⟨A,a⟩:y.length<=sizeLine/\k=((y.length:Int) != 0):=e;subst a;exact PySem.P.truthy_str ∅ ⟨H,I.tok _,q⟩
 |Ye y =>
  obtain⟨t,rfl⟩:=g;obtain⟨A,a⟩:y.size<=sizeLine/\k=((y.size:Int) != 0):=e;subst a;exact PySem.W.truthy_bytes ∅ ⟨H,I.tok _,q⟩
 |ref p =>
  cases g;have a:(∃f,bC X.K H p f/\k=!f.isEmpty)∨(∃f,cR X.K H p f/\k=!f.isEmpty)∨∃c,H p=some (.dK c)/\k=!c.isEmpty:=e;rcases a with ⟨f,j,a⟩|⟨f,j,a⟩|⟨c,j,a⟩
  ·subst a
   obtain⟨o,r,n,z⟩:=I.list j;have d:=r.length;exact wpAny_truthy_list n.isList (by simp only[aW];lia) ⟨H,I.tok _,by rw[LW r];exact q⟩
  ·subst a
   obtain⟨o,r,n,z⟩:=I.tuple j;have d:=r.length;exact truthy_tuple n (by simp only[aW];lia) ⟨H,I.tok _,by rw[LW r];exact q⟩
  ·subst a
   obtain⟨z,B,l,r,m⟩:c.length<=sizeLine/\(p==sysModules)=false/\∃l,KV c l/\s.heap.DictOf (gn X.prog X.w) p l:=I.hok p _ j;have d:c.length=l.length:=Paired.length r;exact wpAny_truthy_dict B m ∅ ⟨H,I.tok _,by rw[WK r];exact q⟩
 |_=>exact (show False from e).elim
theorem abz(i:PE X a ta)(n:∀b,isTrue a X.env b=(do let v <- b;standAt a.pos;holding [v] (truthy v))) :
 PT X a (λd H Q=>ta d H λx e=>∃k,ahi X.K x e k/\Q k e):=by
 intro c s d H Q I h;exact isTrue_plain (gW (i c s d H _ I h) λv j ⟨x,g,l,m,f⟩=>ahj c j d g x v Q l m f) (n _)
theorem vals1{x:V}{us:List Value}(r:b6 [x] us):∃u,us=[u]/\RelV x u:=by
 cases r with
 |cons a b=>cases b;exact⟨_,rfl,a⟩
theorem Qz:nP X (.type "int") (λxs H Q=>(∃i,xs=[.int i]/\Q (.int i) H)∨∃k,xs=[.bl k]/\Q (.int (if k then 1 else 0)) H):=by
 intro a s c H xs d Q I r h;rcases h with ⟨i,rfl,q⟩|⟨k,rfl,q⟩
 ·obtain⟨u,rfl,t,rfl⟩:=vals1 r
  exact call_int_int ⟨.int i,H,I,⟨_,rfl⟩,q⟩
 ·obtain⟨u,rfl,b⟩:=vals1 r
  cases b;exact call_int_bool ⟨.int (if k then 1 else 0),H,I.tok _,⟨_,rfl⟩,q⟩
theorem fZ:nP X (.type "str") (λxs H Q=>∃i,xs=[.int i]/\i.natAbs.log2<1920/\Q (.str (toString i)) H):=by
 intro a s c H xs d Q I r h;obtain⟨i,rfl,b,q⟩:=h;obtain⟨u,rfl,t,rfl⟩:=vals1 r;exact PySem.P.str_of_int b ⟨.str _,H,I.tok _,⟨_,rfl⟩,q⟩
end
structure WL(h:Heap)(x dx C:Addr)(mA:Str->Option Value):Prop where
 obj:h.get? x=some (ki C dx)
 ns:h.Ns1 dx mA
 ne:dx≠x
theorem QA{h:Heap}{g:Addr}{f:Str->Option Value}(n:h.Ns1 g f):∃d,h.get? g=some d/\∀name,PySem.W.lookIn name d=some (f name):=by
 obtain⟨o,c,r,k,j,l,_,p⟩:=n;refine⟨o,k,λname=>?_⟩;have e:=p name;unfold nsFind findBy at e;rw[<- Array.find?_toList] at e;unfold PySem.W.lookIn;rw[j];dsimp only;split
 ·rename_i y q
  rw[q] at e;exact fy some e
 ·rename_i q
  rw[q] at e;have a:c.toList.any (·.refKey)=false:=by
   rw[List.any_eq_false];intro y i;obtain⟨z,t,b⟩:=l y (Array.mem_toList_iff.mp i);simp[DictEntry.refKey,b]
  have m:¬c.toList.any (·.refKey)=true:=by rw[a];exact aO
  rw[eH m];exact fy some e
theorem WL.look{h:Heap}{x c C:Addr}{b:Str->Option Value}(I:WL h x c C b):∃a,PySem.W.InstAt h x (ki C c) C (some a)/\∀name,PySem.W.lookIn name a=some (b name) :=
 let ⟨a,d,e⟩:=QA I.ns
 ⟨a,⟨I.obj,rfl,rfl,d⟩,e⟩
section
variable{prog:Program}{w:World}{A:Around}{E:Value->Shared->Prop}{s:Shared}{K:af}{x dx C f:Addr}{mA:Str->Option Value}{name:Str}{v:Value}
theorem get_map{a:Bool}{Q:Value->Shared->Prop}(X:K.In s.heap)(I:WL s.heap x dx C mA)(c:zX K C name=true)(g:xx K C=true)
 (f:aH K (.ref C) name=some none) (e:mA name=some v) (b:PySem.W.handedIn v=true) (h:Q v {s with toks:=s.toks+1}) :
 wpAny (model prog w) A (getAttr (.ref x) name a) Q E s:=by
 obtain⟨i,J,d⟩:=I.look;exact PySem.W.get_value X J (PySem.W.plainGet_of c).1 (PySem.W.findObj_own g f rfl (by rw[d,e])) b h
theorem abA{pl:Sem Bool}{Q:Value×List Value->Shared->Prop}(X:K.In s.heap)(I:WL s.heap x dx C mA)(a:zX K C name=true)
 (c:aH K (.ref C) name=some (some (.ref f))) (b:PySem.W.isFn K (.ref f)=true) (g:mA name=none) (h:Q (.ref f,[.ref x]) s) :
 wpAny (model prog w) A (getMethod (.ref x) name pl) Q E s:=by
 obtain⟨d,J,e⟩:=I.look;exact PySem.W.method_fn X J (PySem.W.plainGet_of a).1 (PySem.W.plainGet_of a).2 c (beq_iff_eq.mp b) (by show (PySem.W.lookIn name d).map (·.isSome)=some false;rw[e,g];rfl) h
theorem aef{ns:List Str}{Q:Unit->Shared->Prop}(X:K.In s.heap)(I:WL s.heap x dx C mA)
 (n:aH K (.ref C) "__setattr__" = some (some (.builtin "object.__setattr__"))) (o:PySem.W.plainOver K C=true) (p:PySem.W.takerIn K C name=some none) (j:xx K C=true)
 (m:PySem.Within mA ns) (hsz:ns.length<=sizeLine)
 (h:∀h',WL h' x dx C (λy=>if y=name then some v else mA y)->Heap.SameBut dx s.heap h'->Q () {s with heap:=h',toks:=s.toks+2}) :
 wpAny (model prog w) A (setAttr (.ref x) name v) Q E s:=by
 obtain⟨z,J,D⟩:=I.look;refine PySem.W.set_plain X J n (PySem.W.osa_open (s:={s with toks:=s.toks+1}) (r:=none) X J o p λb=>?_);obtain⟨u,t,i⟩:=PySem.W.any_some j;have l:s.heap.get? x=some ⟨.ref C,some dx,.plain,#[]⟩:=I.obj;refine wpAny_bind (wpAny_pure (wpAny_bind (wpAny_bind (wpAny_loadPart l (wpAny_bind (PySem.W.Looks.here (s:={s with toks:=s.toks+1}) (PySem.W.looks_clsIn X t) ?_))))));rw[i];refine wpAny_pure (a:=some dx) (wpAny_bind (wpAny_pure (wpAny_bind ?_)));refine wpAny_nsSet1 (s:={s with toks:=s.toks+1}) I.ns λh' d c=>?_;obtain⟨B,k,q,f,g,e⟩:=d.count (PySem.Within.cons name v m);refine wpAny_bind (wpAny_lookBehind f (by rw[g];exact pastItsLine_dict (ay e (by rw[bH];lia))) ?_);exact wpAny_pure (h _ ⟨(c.2 _ (cu I.ne)).trans I.obj,d,I.ne⟩ c)
theorem abB{R:Result->Shared->Prop}{vs:List Value}{b:List (Str×Value)}(X:K.In s.heap)(i:PySem.W.makesIn K C=true)
 (e:aH K (.ref C) "__init__" = some (some (.ref f))) (c:PySem.W.typeIn K (.ref f)=some (.type "function"))
 (h:codeAny (model prog w) (A.under (.builtin "type.__call__" ⟨.ref C::vs,b⟩)) (.call (.ref f) ⟨.ref (s.heap.objs.size+1)::vs,b⟩) (PySem.W.InitBack (s.heap.objs.size+1) R)
  {s with heap:=(s.heap.push gC).push (ki C s.heap.objs.size)}) :
 codeAny (model prog w) A (.call (.ref C) ⟨vs,b⟩) R s:=by
 obtain⟨j,g,d,t,os⟩:=s;exact PySem.W.make_core (PySem.W.makes_of X i) (PySem.W.looks_findIn X e) (λa=>PySem.W.bind_fn X a c) (.inl rfl) h
end
noncomputable def zb(f:Str)(v:V):List (Str×V)->List (Str×V)
 |[]=>[(f,v)]
 | (g,x)::r=>if g=f then (g,v)::r else (g,x)::zb f v r
theorem Kg(f g:Str)(v:V):∀c:List (Str×V),(zb f v c).lookup g=if g=f then some v else c.lookup g
 |[]=>by
  show rU g [(f,v)]=_;by_cases h:g=f
  ·have a:(g==f)=true:=beq_iff_eq.mpr h
   simp only[rU,a,b3 h]
  ·have a:(g==f)=false:=beq_eq_false_iff_ne.mpr h
   simp only[rU,a,eH h]
 | (k,x)::r=>by
  have d:=Kg f g v r;rw[show zb f v ((k,x)::r)=(if k=f then (k,v)::r else (k,x)::zb f v r) from rfl];by_cases b:k=f
  ·rw[b3 b]
   by_cases h:g=k
   ·have a:(g==k)=true:=beq_iff_eq.mpr h
    simp only[rU,a,b3 (h.trans b)]
   ·have a:(g==k)=false:=beq_eq_false_iff_ne.mpr h
    simp only[rU,a,eH (λe:g=f=>h (e.trans b.symm))]
  ·rw[eH b]
   by_cases h:g=k
   ·have a:(g==k)=true:=beq_iff_eq.mpr h
    simp only[rU,a,eH (λe:g=f=>b (h.symm.trans e))]
   ·have a:(g==k)=false:=beq_eq_false_iff_ne.mpr h
    simp only[rU,a];exact d
theorem IS(f:Str)(v:V):∀a:List (Str×V),f∈(zb f v a).map (·.1)/\∀g,g∈a.map (·.1)->g∈(zb f v a).map (·.1)
 |[]=>⟨by simp[zb],λg h=>by simp at h⟩
 | (k,x)::r=>by
  obtain⟨c,d⟩:=IS f v r;rw[show zb f v ((k,x)::r)=(if k=f then (k,v)::r else (k,x)::zb f v r) from rfl];by_cases b:k=f
  ·rw[b3 b]
   subst b;exact⟨-_,λg h=>by simpa using h⟩
  ·rw[eH b]
   refine⟨?_,λg h=>?_⟩
   ·rw[bA]
    exact aM _ c
   ·rw[bA] at h ⊢
    rcases aV.mp h with e|e
    ·exact aV.mpr (.inl e)
    ·exact aM _ (d g e)
theorem Kh(f:Str)(v:V):∀a:List (Str×V),(zb f v a).length<=a.length+1
 |[]=>by simp[zb]
 | (k,x)::r=>by
  have c:=Kh f v r;rw[show zb f v ((k,x)::r)=(if k=f then (k,v)::r else (k,x)::zb f v r) from rfl];by_cases b:k=f
  ·rw[b3 b,bH,bH];lia
  ·rw[eH b,bH,bH];lia
theorem BK.some_of{v:V}{o:Option Value}(r:BK (some v) o):∃u,o=some u/\RelV v u:=by
 cases o with
 |none=>exact (show False from r).elim
 |some u=>exact⟨u,rfl,r⟩
theorem BK.none_of{o:Option Value}(r:BK none o):o=none:=by
 cases o with
 |none=>rfl
 |some u=>exact (show False from r).elim
theorem ZT{v:V}{u:Value}(r:RelV v u):PySem.W.handedIn u=true:=by
 cases v with
 |dH=>cases (show u=Value.none from r);rfl
 |bl b=>cases (show u=Value.bool b from r);rfl
 |int i=>obtain⟨t,e⟩:=(show ∃t,u=Value.int i t from r);cases e;rfl
 |str x=>obtain⟨t,e⟩:=(show ∃t,u=Value.str x t from r);cases e;rfl
 |Ye b=>obtain⟨t,e⟩:=(show ∃t,u=Value.bytes b t from r);cases e;rfl
 |Nn b=>obtain⟨t,e⟩:=(show ∃t,u=Value.float b t from r);cases e;rfl
 |ref a=>cases (show u=Value.ref a from r);rfl
 |ty n=>cases (show u=Value.type n from r);rfl
section
variable{P:Program}{w:World}{H H':Hp}{h h':Heap}{a C dx:Addr}{fs fs':List (Str×V)}
theorem Lz(c:BN P w H h)(e:H a=some (.ins C dx fs)):∃b,WL h a dx C b/\(∀f,BK (fs.lookup f) (b f))/\PySem.Within b (fs.map (·.1))/\fs.length<=1000/\H dx=some (.own a):=by
 obtain⟨d,z,g,ob,b,n,r,q⟩:=(show gJ P w H h a (.ins C dx fs) from c a _ e);exact⟨b,⟨ob,n,g⟩,r,q,z,d⟩
end
structure LY(K:af)(C:Addr):Prop where
 pg:zX K C Str.empty=true
 hd:xx K C=true
 po:PySem.W.plainOver K C=true
 sa:aH K (.ref C) "__setattr__" = some (some (.builtin "object.__setattr__"))
theorem LY.get{K:af}{C:Addr}(c:LY K C)(f:Str):zX K C f=true:=c.pg
def dm(K:af)(C:Addr)(f:Str):Prop:=aH K (.ref C) f=some none
theorem dm.ajP{K:af}{C:Addr}{f:Str}(n:dm K C f):PySem.W.takerIn K C f=some none:=by
 unfold PySem.W.takerIn;rw[show aH K (.ref C) f=some none from n];rfl
structure R4(K:af)(C:Addr)(m:Str)(f:Addr):Prop where
 at_:aH K (.ref C) m=some (some (.ref f))
 fn:PySem.W.isFn K (.ref f)=true
 kp:dJ K (.ref f)=true
section
variable{X:Cx}{pins:List (Addr×Obj)}{σ:St}{H:Hp}{s:Shared}{a C dx:Addr}{fs:List (Str×V)}{f:Str}{v:V}{A:Around}{E:Value->Shared->Prop}
theorem WM{b:Bool}{Q:Value->Shared->Prop}(I:Inv X pins σ H s)(e:H a=some (.ins C dx fs))(c:LY X.K C)(n:dm X.K C f)(l:fs.lookup f=some v)
 (h:∀u s',Inv X pins σ H s'->RelV v u->Q u s'):wpAny (model X.prog X.w) A (getAttr (.ref a) f b) Q E s:=by
 obtain⟨g,O,r,_,_,_⟩:=Lz I.hok e;obtain⟨u,i,d⟩:=BK.some_of (v:=v) (o:=g f) (by rw[<- l];exact r f);exact get_map I.EH O (c.get f) c.hd n i (ZT d) (h u _ (I.tok _) d)
theorem LZ{m:Str}{g:Addr}{pl:Sem Bool}{Q:Value×List Value->Shared->Prop}(I:Inv X pins σ H s)(e:H a=some (.ins C dx fs))(c:LY X.K C)(k:R4 X.K C m g)(l:fs.lookup m=none)
 (h:Q (.ref g,[.ref a]) s):wpAny (model X.prog X.w) A (getMethod (.ref a) m pl) Q E s:=by
 obtain⟨b,O,r,_,_,_⟩:=Lz I.hok e;have d:b m=none:=BK.none_of (by rw[<- l];exact r m);exact abA I.EH O (c.get m) k.at_ k.fn d h
theorem WN{y:V}{u:Value}{Q:Unit->Shared->Prop}(I:Inv X pins σ H s)(e:H a=some (.ins C dx fs))(c:LY X.K C)(n:dm X.K C f)(hl:fs.length<1000)(B:RelV y u)
 (h:∀s',Inv X pins σ (upd H a (.ins C dx (zb f y fs))) s'->Q () s'):wpAny (model X.prog X.w) A (setAttr (.ref a) f u) Q E s:=by
 obtain⟨k,O,r,i,_,j⟩:=Lz I.hok e;have p:(fs.map (·.1)).length<=sizeLine:=by rw[ah,sizeLine_eq];lia
 refine aef I.EH O c.sa c.po n.ajP c.hd i p λD d l=>h _ ?_;have hd:∃o,D.get? dx=some o:=let ⟨o,_,_,v,_⟩:=d.ns;⟨o,v⟩;refine I.write (x:=a) (e:=dx) (by rw[e];exact pF) (.inr j) (λb q t z=>(l.2 b t).trans z) hd ?_;refine⟨by rw[aK O.ne];exact j,?_,O.ne,d.obj,_,d.ns,λg=>?_,λg m=>?_⟩
 ·have:=Kh f y fs;lia
 ·show BK ((zb f y fs).lookup g) (if g=f then some u else k g)
  rw[Kg];by_cases q:g=f
  ·rw[b3 q,b3 q];exact B
  ·rw[eH q,eH q];exact r g
 ·by_cases q:g=f
  ·rw[q];exact (IS f y fs).1
  ·refine (IS f y fs).2 g (i g λz=>m ?_)
   show (if g=f then some u else k g)=none;rw[eH q];exact z
theorem Inv.made(I:Inv X pins σ H s):Inv X pins σ (upd (upd H s.heap.objs.size (.own (s.heap.objs.size+1))) (s.heap.objs.size+1) (.ins C s.heap.objs.size []))
 {s with heap:=(s.heap.push gC).push (ki C s.heap.objs.size)}:=by
 have c:(s.heap.push gC).get? s.heap.objs.size=some gC:=Heap.get?_push_size s.heap rfl;have f:((s.heap.push gC).push (ki C s.heap.objs.size)).get? (s.heap.objs.size+1)=some (ki C s.heap.objs.size):=by
  have:=Heap.get?_push_size (s.heap.push gC) (o:=ki C s.heap.objs.size) rfl
  rwa [Heap.size_push] at this
 have i:(s.heap.push gC).Ns s.heap.objs.size (λ_=>none):=⟨gC,#[],_,c,rfl,(λe j=>eL j (-_)),λ_=>rfl⟩;have h:=I.laid (a:=s.heap.objs.size) (o:=.own (s.heap.objs.size+1)) (h':=s.heap.push gC) (t':=s.toks) (λb u q=>Heap.get?_push_of_some _ q) (aB _) ⟨_,c⟩;refine h.laid (a:=s.heap.objs.size+1) (o:=.ins C s.heap.objs.size []) (t':=s.toks) (λb u q=>Heap.get?_push_of_some _ q) (Nat.le_of_eq (Heap.size_push _ _)) ?_;have d:s.heap.objs.size≠s.heap.objs.size+1:=bT (Nat.lt_succ_self _);refine⟨by rw[aK d,aq],be _,d,f,λ_=>none,(Heap.Ns1.of_empty i).at λo q=>Heap.get?_push_of_some _ q,λ_=>pF,λy g=>eL rfl g⟩
theorem aeg{prog:Program}{w:World}{env:Env}{e:Expr}{f:Str}{b:Pos}{s:Shared}{Q:Value->Shared->Prop}(c:attributeBase e f env (eval e env)=eval e env)
 (h:wpAny (model prog w) A (eval e env) (λo a=>wpAny (model prog w) A (getAttr o f true) Q E a) E s):wpAny (model prog w) A (eval (.Attribute e f b) env) Q E s :=
 Attribute_any_ h (by rw[arm_eval_Attribute,c])
end
inductive ajQ(K:af)(f:Str)(Q:VK)(x:V)(H1:Hp):Prop
 |mk (a C dx:Addr) (fs:List (Str×V)) (v:V) (h1:x=.ref a) (h2:H1 a=some (.ins C dx fs)) (h3:LY K C) (h4:dm K C f) (h5:fs.lookup f=some v) (h6:Q v H1):ajQ K f Q x H1
def L0(K:af)(ta:TE)(f:Str):TE:=λσ H Q=>ta σ H (ajQ K f Q)
def am1(K:af)(ta tv:TE)(f:Str):TS:=λD σ H=>tv σ H λy H1=>ta σ H1 λx H2=>∃a C dx fs,x=.ref a/\H2 a=some (.ins C dx fs)/\LY K C/\dm K C f/\fs.length<1000 /\
 D.nx σ (upd H2 a (.ins C dx (zb f y fs)))
section
variable{X:Cx}{o e value:Expr}{f:Str}{pos pos' tpos:Pos}{ta tv:TE}
theorem aT(r:PE X e ta)(j:attributeBase e f X.env (eval e X.env)=eval e X.env):PE X (.Attribute e f pos) (L0 X.K ta f):=by
 intro b s m H Q I h;refine aeg j (gW (r b s m H _ I h) λu y ⟨x,i,k,t,a,C,B,w,v,p,d,c,n,l,q⟩=>?_);subst p;obtain rfl:u=Value.ref a:=t;exact WM k d c n l λA z g o=>⟨v,i,g,o,q⟩
theorem fU(p:PE X o ta)(A:PE X value tv)(i:swapsWith value (some (.Attribute o f pos')) pos.line X.env=pure false):PS X (.Assign [.Attribute o f pos'] value pos) (am1 X.K ta tv f):=by
 intro b s d H D I h;refine plainObj_wpAny_Assign_Attribute (gW (A b s d H _ I h) λu r ⟨y,m,t,z,q⟩=>gW (p b r d m _ t q) λk G ⟨x,F,g,B,a,C,L,E,w,e,c,n,l,j⟩=>?_) i;subst w;obtain rfl:k=Value.ref a:=B;exact WN g e c n l z λJ v=>⟨d,_,v,j⟩
end
section
variable{X:Cx}{pins:List (Addr×Obj)}{σ:St}{H:Hp}{s:Shared}{A:Around}{E:Value->Shared->Prop}{Q:Value->Shared->Prop}{c:Value}{b:Bool}
inductive IT(K:af)(H:Hp):V->Value->Prop where
 |dH:IT K H .dH (.type "NoneType")
 |bl (x:Bool):IT K H (.bl x) (.type "bool")
 |int (i:Int):IT K H (.int i) (.type "int")
 |str (x:Str):IT K H (.str x) (.type "str")
 |Nn (x:UInt64):IT K H (.Nn x) (.type "float")
 |lst {a:Addr} {xs:List V} (e:H a=some (.lst xs)):IT K H (.ref a) (.type "list")
 |Ut {a:Addr} {o:Obj} {xs:List V} (e:H a=some (.Ut o (.lst xs))):IT K H (.ref a) (.type "list")
 |tup {a:Addr} {xs:List V} (e:H a=some (.tup xs)):IT K H (.ref a) (.type "tuple")
 |dK {a:Addr} {kvs:List (Key×V)} (e:H a=some (.dK kvs)):IT K H (.ref a) (.type "dict")
 |dT {a:Addr} {kvs:List (List Key×V)} (e:H a=some (.dT kvs)):IT K H (.ref a) (.type "dict")
 |ins {a C dx:Addr} {fs:List (Str×V)} (e:H a=some (.ins C dx fs)) (cl:LY K C) (ha:aH K (.ref C) "__class__" = some (some (.builtin "object.__class__")))
  (hn:PySem.W.specialIn K (.builtin "object.__class__") "__get__" = some (some (.builtin "getset_descriptor.__get__"))) (htk:PySem.W.takesIn K (.builtin "object.__class__")=some true)
  (hm:PySem.W.mroIn K C (.type "object")=some true):IT K H (.ref a) (.ref C)
theorem ZU{x:V}{u t:Value}(I:Inv X pins σ H s)(f:RelV x u)(D:IT X.K H x t)(e:PySem.W.kitOne X.K t c=some b)(h:∀tk,Q (.bool b) {s with toks:=tk}) :
 wpAny (model X.prog X.w) A (call (.builtin "isinstance") [u,c]) Q E s:=by
 cases D with
 |dH=>cases (show u=Value.none from f);exact gi PySem.W.kitx_none I.EH pF e (λz=>nomatch z) h
 |bl y=>cases (show u=Value.bool y from f);exact gi PySem.W.kitx_bool I.EH pF e (λz=>nomatch z) h
 |int i=>obtain⟨t,q⟩:=(show ∃t,u=Value.int i t from f);cases q;exact gi PySem.W.kitx_int I.EH pF e (λz=>nomatch z) h
 |str y=>obtain⟨t,q⟩:=(show ∃t,u=Value.str y t from f);cases q;exact gi PySem.W.kitx_str I.EH pF e (λz=>nomatch z) h
 |Nn y=>obtain⟨t,q⟩:=(show ∃t,u=Value.float y t from f);cases q;exact gi PySem.W.kitx_float I.EH pF e (λz=>nomatch z) h
 |@lst a k d =>
  cases (show u=Value.ref a from f);obtain⟨_,_,n,_,g⟩:=(show gJ X.prog X.w H s.heap a (.lst k) from I.hok a _ d);exact gi PySem.W.kitx_list I.EH ⟨_,g,rfl⟩ e (λz=>nomatch z) h
 |@Ut a ob k d =>
  cases (show u=Value.ref a from f);obtain⟨_,_,_,n,_,g⟩:=(show gJ X.prog X.w H s.heap a (.Ut ob (.lst k)) from I.hok a _ d);exact gi PySem.W.kitx_list I.EH ⟨_,g,rfl⟩ e (λz=>nomatch z) h
 |@tup a k d =>
  cases (show u=Value.ref a from f);obtain⟨_,_,_,p⟩:=(show gJ X.prog X.w H s.heap a (.tup k) from I.hok a _ d);obtain⟨o,g,l,_⟩:=p;exact gi PySem.W.kitx_tuple I.EH ⟨o,g,l⟩ e (λz=>nomatch z) h
 |@dK a j d =>
  cases (show u=Value.ref a from f);obtain⟨_,_,N,_,p⟩:=(show gJ X.prog X.w H s.heap a (.dK j) from I.hok a _ d);obtain⟨o,r,B,g,l,_⟩:=p;exact gi PySem.W.kitx_dict I.EH ⟨o,g,l.1⟩ e (λz=>nomatch z) h
 |@dT a j d =>
  cases (show u=Value.ref a from f);obtain⟨_,_,k,_,o,r,B,g,l,_⟩:=(show gJ X.prog X.w H s.heap a (.dT j) from I.hok a _ d);exact gi PySem.W.kitx_dict I.EH ⟨o,g,l.1⟩ e (λz=>nomatch z) h
 |@ins a C R L d cl v G m F =>
  cases (show u=Value.ref a from f);obtain⟨P,O,_⟩:=Lz I.hok d;obtain⟨M,J,_⟩:=O.look;exact gi (PySem.W.kitx_own (cl.get _) cl.hd v G m F) I.EH J e (λz=>nomatch z) h
end
structure kh(k:Nat)(A:Around):Prop where
 hd:A.handled=none
 dp:A.depth+3*k+5<recursionLimit
 un:A.units+16*k+200<cLine
theorem kh.mono{j k:Nat}{A:Around}(r:kh k A)(h:j<=k):kh j A:=⟨r.hd,by have:=r.dp;lia,by have:=r.un;lia⟩
theorem kh.deeper{k:Nat}{A:Around}(r:kh (k+1) A)(env:Env):kh k (A.deeper env) :=
 ⟨r.hd,by have:=r.dp;show A.depth+1+3*k+5<_;lia,by have:=r.un;show A.units+3+16*k+200<_;lia⟩
theorem WO{A:Around}{C:Addr}{us:List Value}{a:List (Str×Value)}:(A.under (.builtin "type.__call__" ⟨.ref C::us,a⟩)).depth=A.depth+1:=by
 first|rfl|simp[Around.under,Code.weight,Code.isCreation,Code.isGuard,Code.isCaller,Code.frames,Code.isFrame,guardIds]
theorem WQ{A:Around}{C:Addr}{us:List Value}{a:List (Str×Value)}:(A.under (.builtin "type.__call__" ⟨.ref C::us,a⟩)).units=A.units+1:=by
 first|rfl|simp[Around.under,Code.cUnits,Code.frames,Code.isFrame]
theorem kh.make{k:Nat}{A:Around}(r:kh (k+1) A)(C:Addr)(us:List Value)(a:List (Str×Value)):kh k (A.under (.builtin "type.__call__" ⟨.ref C::us,a⟩)) :=
 ⟨r.hd,by have:=r.dp;rw[WO];lia,by have:=r.un;rw[WQ];lia⟩
theorem kh.depth{k:Nat}{A:Around}(r:kh k A):A.depth<recursionLimit:=by have:=r.dp;lia
theorem kh.units{k:Nat}{A:Around}(r:kh k A):A.units+64<cLine:=by have:=r.un;lia
def FT:TA:=λ_ H Q=>Q [] H
def i0(ta:TE)(tr:TA):TA:=λσ H Q=>ta σ H λx H1=>tr σ H1 λxs H2=>Q (x::xs) H2
section
variable{X:Cx}{e:Expr}{es:List Expr}{te:TE}{t:TA}{pos:Pos}
theorem fF:PA X [] FT:=λ_ _ _ _ H Q I h=>Calls.spliced_nil ⟨[],H,I,.nil,h⟩
theorem aeh(j:PE X e te)(p:PA X es t)(f:starEach (e::es) X.env=(false,eval e X.env)::starEach es X.env:=by rfl):PA X (e::es) (i0 te t):=by
 intro pos a s b H Q I h;rw[f];show wpAny _ _ (spliced ((false,eval e X.env)::backTo pos (starEach es X.env))) _ _ s;refine Calls.spliced_cons (gW (j a s b H _ I h) λu k ⟨x,i,l,o,d⟩=>?_);exact gW (p pos a k b i _ l d) λr v ⟨n,m,c,q,g⟩=>⟨x::n,m,c,.cons o q,g⟩
def am2(t:TA):TE:=λσ H Q=>t σ H λxs H1=>xs.length<=sizeLine/\∀p,H1 p=none->Q (.ref p) (upd H1 p (.tup xs))
def ajR(t:TA):TE:=λσ H Q=>t σ H λxs H1=>xs.length<=sizeLine/\∀p,H1 p=none->Q (.ref p) (upd H1 p (.lst xs))
theorem dG{x1}(h:PA X es t):PE X (.Tuple es x1 pos) (am2 t):=by
 intro a s j H Q I l;refine wpAny_Tuple_spliced (gW (h pos a s j H _ I l) λg c ⟨k,d,f,r,z,q⟩=>⟨by rw[<- r.length];exact z,?_⟩);have i:d c.heap.objs.size=none:=f.hok.fresh (aB _);refine⟨.ref c.heap.objs.size,upd d c.heap.objs.size (.tup k),f.laid (t':=c.toks) (λb u e=>Heap.get?_push_of_some _ e) (aB _) ?_,rfl,q _ i⟩;exact⟨z,g,r,⟨_,Heap.get?_push_size _ rfl,rfl,_,rfl⟩⟩
theorem dY(h:PA X es t):PE X (.List es pos) (ajR t):=by
 intro a s j H Q I l;refine wpAny_List_spliced (gW (h pos a s j H _ I l) λg c ⟨k,d,f,r,z,q⟩=>⟨by rw[<- r.length];exact z,?_⟩);have i:d c.heap.objs.size=none:=f.hok.fresh (aB _);refine⟨.ref c.heap.objs.size,upd d c.heap.objs.size (.lst k),f.laid (t':=c.toks) (λb u e=>Heap.get?_push_of_some _ e) (aB _) ?_,rfl,q _ i⟩;exact⟨z,g,0,r,Heap.get?_push_size _ rfl⟩
end
abbrev Sp:=List V->Hp->VK->XK->Prop
abbrev ZV:=List Env->Hp->Shared->XK->Value->Shared->Prop
structure WR(P:Program)(w:World)(K:af)(mg:Str->Option Value)(base:Heap)(A:Around)(outer:List Env)(s:Shared)(H:Hp):Prop where
 frames:A.frames=some outer
 mod:Mod K mg base
 bs:∀b o,base.get? b=some o->s.heap.get? b=some o/\H b=none
 nT:base.objs.size<=s.heap.objs.size
 G4:s.heap.FunFrames base outer
 Df:∀b∈frs outer,H b=none
 hok:BN P w H s.heap
 bare:AllBare s.gens
def CE(outer:List Env)(P:Program)(w:World)(H:Hp)(s:Shared)(Q:VK)(u:Value)(s':Shared):Prop :=
 ∃v H',s'.os=s.os/\AllBare s'.gens/\Un (frs outer) [] H H' s.heap s'.heap/\BN P w H' s'.heap/\RelV v u/\Q v H'
def CR(CX:ZV)(outer:List Env)(P:Program)(w:World)(H:Hp)(s:Shared)(Q:VK)(E:XK)(r:Result)(s':Shared):Prop :=
 match r with
 |.ok (.ret u)=>CE outer P w H s Q u s'
 |.ok _=>False
 |.error e=>CX outer H s E e s'
structure bL(P:Program)(w:World)(K:af)(mg:Str->Option Value)(base:Heap)(CX:ZV)(k:Nat)(f:Addr)(fd:FuncData)(ps:List Str)(sp:Sp):Prop where
 len:∀vs H Q E,sp vs H Q E->vs.length=ps.length
 run:∀(A:Around) (outer:List Env) (s:Shared) (H:Hp) (args:Args) (us:List Value) (vs:List V) (Q:VK) (E:XK),kh k A->WR P w K mg base A outer s H->BindsTo s fd args (ps.zip us)->b6 vs us->sp vs H Q E ->
  codeAny (model P w) A (.call (.ref f) args) (CR CX outer P w H s Q E) s
theorem WR.make{P:Program}{w:World}{K:af}{b:Str->Option Value}{base:Heap}{A:Around}{a:List Env}{s:Shared}{H:Hp}(e:WR P w K b base A a s H)(C:Addr)(us:List Value)(c:List (Str×Value)) :
 WR P w K b base (A.under (.builtin "type.__call__" ⟨.ref C::us,c⟩)) a s H:=⟨by first|exact e.frames|(simpa [Around.under,Code.envs,Code.isFrame,pushEnvs] using e.frames),e.mod,e.bs,e.nT,e.G4,e.Df,e.hok,e.bare⟩
section
variable{X:Cx}{pins:List (Addr×Obj)}{σ:St}{H:Hp}{s s':Shared}
theorem Inv.ajS(I:Inv X pins σ H s):WR X.prog X.w X.K X.mg X.base X.A X.stack s H :=
 ⟨I.ok.frames,I.ok.mod,I.bs,ay I.ok.nT I.sz,I.stack,I.RW,I.hok,I.bare⟩
theorem Inv.after{Q:VK}{u:Value}(I:Inv X pins σ H s)(h:CE X.stack X.prog X.w H s Q u s'):EP X pins σ Q u s':=by
 obtain⟨v,i,os,a,j,c,r,q⟩:=h;obtain⟨f,g,d,t,e⟩:=s';obtain rfl:e=s.os:=os;exact⟨v,i,I.call (h':=f) (g':=g) (d':=d) (t':=t) (ch:=[]) j c a (λb z=>eL z (-_)),r,q⟩
end
def abC(sp:Sp)(EI:List V)(E:XK)(t:TA):TE:=λσ H Q=>t σ H λvs H1=>sp (vs++EI) H1 Q E
inductive af3(C:Addr)(m:Str)(sp:Sp)(EI:List V)(E:XK)(t:TA)(σ:St)(Q:VK)(x:V)(H1:Hp):Prop
 |mk (a dx:Addr) (fs:List (Str×V)) (h1:x=.ref a) (h2:H1 a=some (.ins C dx fs)) (h3:fs.lookup m=none) (h4:t σ H1 λvs H2=>sp (x::(vs++EI)) H2 Q E):af3 C m sp EI E t σ Q x H1
def Kl(C:Addr)(m:Str)(sp:Sp)(EI:List V)(E:XK)(ta:TE)(t:TA):TE:=λσ H Q=>ta σ H (af3 C m sp EI E t σ Q)
def abD(C:Addr)(sp:Sp)(EI:List V)(E:XK)(t:TA):TE:=λσ H Q=>t σ H λvs H1=>∀x dx,H1 x=none->H1 dx=none->dx≠x ->
 sp (.ref x::(vs++EI)) (upd (upd H1 dx (.own x)) x (.ins C dx [])) (λv H2=>v=.dH/\Q (.ref x) H2) E
def Binds(K:af)(fd:FuncData)(ps:List Str)(ds:List Value):Prop :=
 ∀(s:Shared) (us:List Value),K.In s.heap->(us++ds).length=ps.length->BindsTo s fd ⟨us,[]⟩ (ps.zip (us++ds))
theorem Binds.all{K:af}{a:FuncData}{ps:List Str}(h:∀us:List Value,us.length=ps.length->bindArgs a ⟨us,[]⟩=pure (ps.zip us)):Binds K a ps []:=λs us _ b=>by
 rw[fD] at b ⊢;exact .of_eq (h us b)
def uF(CX:ZV)(X:Cx)(E:XK):Prop:=∀(pins:List (Addr×Obj)) (σ:St) (H:Hp) (s:Shared) (e:Value) (s':Shared),Inv X pins σ H s->CX X.stack H s E e s'->X.xe e s'
section
variable{X:Cx}{CX:ZV}{k:Nat}{f C:Addr}{fd:FuncData}{ps:List Str}{sp:Sp}{EI:List V}{ds:List Value}{E:XK}{x m:Str}{p pos apos:Pos}{e o:Expr}{es:List Expr}{ta:TE}{t:TA}
theorem L1{a:List (Addr×Obj)}{c:St}{H:Hp}{s:Shared}{Q:VK}{us:List Value}{vs:List V}(F:bL X.prog X.w X.K X.mg X.base CX k f fd ps sp)(n:kh k X.A)(l:Binds X.K fd ps ds)(j:b6 EI ds)(i:uF CX X E)
 (I:Inv X a c H s) (r:b6 vs us) (h:sp (vs++EI) H Q E):wpAny (model X.prog X.w) X.A (call (.ref f) us) (EP X a c Q) X.xe s:=by
 have d:b6 (vs++EI) (us++ds):=r.append j;have o:(us++ds).length=ps.length:=by rw[<- d.length];exact F.len _ _ _ _ h
 refine wpAny_call (codeAny_mono (F.run X.A X.stack s H ⟨us,[]⟩ (us++ds) (vs++EI) Q E n I.ajS (l s us I.EH o) d h) λr m b=>?_);cases r with
 |error e=>exact i a c H s e m I b
 |ok g =>
  cases g with
  |ret u=>exact I.after b
  |next=>exact kr b
  |brk=>exact kr b
  |cont=>exact kr b
theorem DY(F:bL X.prog X.w X.K X.mg X.base CX k f fd ps sp)(v:kh k X.A)(g:Gl X x)(u:X.mg x=some (.ref f))(o:dJ X.K (.ref f)=true)(m:Binds X.K fd ps ds)(j:b6 EI ds)(i:uF CX X E)
 (l:PA X (e::es) t) (c:(x==("__debug__" : Str))=false:=by decide) (y:starEach (e::es) X.env=(false,eval e X.env)::starEach es X.env:=by rfl) (b:(backTo pos (starEach es X.env)).any (·.1)=false:=by rfl) :
 PE X (.Call (.Name x p) (e::es) [] pos) (abC sp EI E t):=by
 intro a s n H Q I h;refine wpAny_Call_Name_kw (G5 I g u ?_ c);refine uv (h₀:=X.base) I.ok.mod.z0 o (gW (l pos a s n H _ I h) λz C ⟨D,B,d,r,q⟩=>⟨d.EH,?_⟩) y b;exact L1 F v m j i d r q
theorem j4{pl:Sem Bool}(P:PE X o ta)(c:LY X.K C)(hm:R4 X.K C m f)(F:bL X.prog X.w X.K X.mg X.base CX k f fd ps sp)(N:kh k X.A)(L:Binds X.K fd ps ds)(z:b6 EI ds)(y:uF CX X E)(J:PA X (e::es) t)
 (g:starEach (e::es) X.env=(false,eval e X.env)::starEach es X.env:=by rfl) (d:(backTo pos (starEach es X.env)).any (·.1)=false:=by rfl)
 (M:eval (.Call (.Attribute o m apos) (e::es) [] pos) X.env=(do
  let j <- eval o X.env
  standAt apos.atName
  let (f,first) <- holding [j] (getMethod j m pl)
  callWith pos f first (backTo pos (starEach (e::es) X.env)) (backToKw pos (keywordEach [] X.env))):=by rfl) :
 PE X (.Call (.Attribute o m apos) (e::es) [] pos) (Kl C m sp EI E ta t):=by
 intro b s p H Q I h;refine PySem.W.methodCall_KW (pl:=pl) (gW (P b s p H _ I h) λu G ⟨x,D,n,R,a,V,S,O,v,l,q⟩=>?_) M;subst O;obtain rfl:u=Value.ref a:=R;refine LZ n v c hm l ?_;refine uv (first:=[.ref a]) (h₀:=X.base) I.ok.mod.z0 hm.kp (gW (J pos b G p D _ n q) λus U ⟨vs,T,i,r,B⟩=>⟨i.EH,?_⟩) g d;exact L1 (us:=.ref a::us) (vs:=.ref a::vs) F N L z y i (.cons rfl r) B
theorem iF{pl:Sem Bool}(y:PE X o ta)(c:LY X.K C)(hm:R4 X.K C m f)(F:bL X.prog X.w X.K X.mg X.base CX k f fd ps sp)(t:kh k X.A)(n:Binds X.K fd ps ds)(j:b6 EI ds)(i:uF CX X E)
 (r:eval (.Call (.Attribute o m apos) [] [] pos) X.env=(do
  let e <- eval o X.env
  standAt apos.atName
  let (f,first) <- holding [e] (getMethod e m pl)
  callWith pos f first (backTo pos (starEach [] X.env)) (backToKw pos (keywordEach [] X.env))):=by rfl) :
 PE X (.Call (.Attribute o m apos) [] [] pos) (Kl C m sp EI E ta FT):=by
 intro b s p H Q I h;refine PySem.W.methodCall_KW (pl:=pl) (gW (y b s p H _ I h) λu G ⟨x,D,d,z,a,J,B,v,g,l,q⟩=>?_) r;subst v;obtain rfl:u=Value.ref a:=z;refine LZ d g c hm l ?_;exact PySem.W.callWith_K0 (first:=[.ref a]) d.EH hm.kp (L1 (us:=[.ref a]) (vs:=[.ref a]) F t n j i d (.cons rfl .nil) q)
structure Mk(K:af)(C f:Addr):Prop where
 makes:PySem.W.makesIn K C=true
 init:aH K (.ref C) "__init__" = some (some (.ref f))
 fn:PySem.W.isFn K (.ref f)=true
 kp:dJ K (.ref C)=true
theorem Uz{a:List (Addr×Obj)}{g:St}{H:Hp}{s:Shared}{Q:VK}{us:List Value}{vs:List V}(M:Mk X.K C f)(F:bL X.prog X.w X.K X.mg X.base CX k f fd ps sp)(G:kh (k+1) X.A)(p:Binds X.K fd ps ds)(n:b6 EI ds)
 (m:uF CX X E) (I:Inv X a g H s) (r:b6 vs us)
 (h:∀x d,H x=none->H d=none->d≠x->sp (.ref x::(vs++EI)) (upd (upd H d (.own x)) x (.ins C d [])) (λv z=>v=.dH/\Q (.ref x) z) E) :
 wpAny (model X.prog X.w) X.A (call (.ref C) us) (EP X a g Q) X.xe s:=by
 have i:=h (s.heap.objs.size+1) s.heap.objs.size (I.hok.fresh (gD _)) (I.hok.fresh (aB _)) (bT (Nat.lt_succ_self _));have c:=Inv.made (C:=C) I;have j:b6 (V.ref (s.heap.objs.size+1)::(vs++EI)) (Value.ref (s.heap.objs.size+1)::(us++ds)):=.cons rfl (r.append n);have J:(Value.ref (s.heap.objs.size+1)::us++ds).length=ps.length:=by
  have e:=j.length;rw[F.len _ _ _ _ i] at e;exact e.symm
 refine wpAny_call (abB (f:=f) I.EH M.makes M.init (beq_iff_eq.mp M.fn) (codeAny_mono (F.run _ X.stack _ _ ⟨Value.ref (s.heap.objs.size+1)::us,[]⟩ (Value.ref (s.heap.objs.size+1)::(us++ds)) _ _ E (G.make C us [])
  (c.ajS.make C us []) (p _ (Value.ref (s.heap.objs.size+1)::us) c.EH J) j i) λr D b=>?_))
 cases r with
 |error e=>exact m a g _ _ e D c b
 |ok l =>
  cases l with
  |ret u =>
   obtain⟨v,B,y,q,o,t⟩:=c.after b;subst o;exact⟨q,⟨V.ref (s.heap.objs.size+1),B,y,rfl,t⟩⟩
  |next=>exact kr b
  |brk=>exact kr b
  |cont=>exact kr b
theorem Yq(M:Mk X.K C f)(F:bL X.prog X.w X.K X.mg X.base CX k f fd ps sp)(u:kh (k+1) X.A)(g:Gl X x)(o:X.mg x=some (.ref C))(m:Binds X.K fd ps ds)(j:b6 EI ds)(i:uF CX X E)
 (l:PA X (e::es) t) (c:(x==("__debug__" : Str))=false:=by decide) (v:starEach (e::es) X.env=(false,eval e X.env)::starEach es X.env:=by rfl) (b:(backTo pos (starEach es X.env)).any (·.1)=false:=by rfl) :
 PE X (.Call (.Name x p) (e::es) [] pos) (abD C sp EI E t):=by
 intro a s n H Q I h;refine wpAny_Call_Name_kw (G5 I g o ?_ c);refine uv (h₀:=X.base) I.ok.mod.z0 M.kp (gW (l pos a s n H _ I h) λy B ⟨D,z,d,r,q⟩=>⟨d.EH,?_⟩) v b;exact Uz M F u m j i d r q
theorem abE(M:Mk X.K C f)(F:bL X.prog X.w X.K X.mg X.base CX k f fd ps sp)(c:kh (k+1) X.A)(e:Gl X x)(j:X.mg x=some (.ref C))(g:Binds X.K fd ps ds)(d:b6 EI ds)(i:uF CX X E)
 (a:(x==("__debug__" : Str))=false:=by decide):PE X (.Call (.Name x p) [] [] pos) (abD C sp EI E FT):=by
 intro b s l H Q I h;refine wpAny_Call_Name_kw (G5 I e j ?_ a);exact PySem.W.callWith_K0 I.EH M.kp (Uz (us:=[]) M F c g d i I .nil h)
end
structure aE(N P:List Str)(sc:Scope):Prop where
 kind:sc.kind=.function
 co:sc.isCoroutine=false
 gen:sc.isGenerator=false
 nd:N.Nodup
 pre:N.take P.length=P
 par:∀x∈P,sc.names.lookup x=some .local∨sc.names.lookup x=some .cell
 ahk:∀y∈sc.names,y.2≠.free
theorem QB{kindOf:Str->Option NameKind}{x:Str}:∀{a:List (Str×Value)} {m:Str->Option Value},(∀v,(x,v)∉a)->bindL kindOf a m x=m x
 |[],_,_=>rfl
 | (n,v)::r,m,h=>by
  unfold bindL;rw[QB λw b=>h w (aM _ b)];split
  ·have:x≠n:=by rintro rfl;exact h v aL
   simp[this]
  ·rfl
theorem QC{kindOf:Str->Option NameKind}{x:Str}:∀{a:List (Str×Value)} {m:Str->Option Value},(∀v,(x,v)∉a)->bindC kindOf a m x=m x
 |[],_,_=>rfl
 | (n,v)::r,m,h=>by
  unfold bindC;rw[QC λw b=>h w (aM _ b)];split
  ·rfl
  ·have:x≠n:=by rintro rfl;exact h v aL
   simp[this]
theorem QD{kindOf:Str->Option NameKind}{x:Str}{v:Value}:∀{P:List Str} {vs:List Value} {i:Nat} {m:Str->Option Value},P.Nodup->P[i]?=some x->vs[i]?=some v->kindOf x=some .local ->
 bindL kindOf (P.zip vs) m x=some v
 |[],_,_,_,_,h,_,_=>by simp at h
 |_::_,[],_,_,_,_,h,_=>by simp at h
 |p::P,w::vs,0,m,nd,a,b,c=>by
  simp at a b;subst a;subst b;show bindL kindOf ((p,w)::P.zip vs) m p=_;unfold bindL;rw[QB λv d=>(iY.mp nd).1 (List.of_mem_zip d).1,b3 c];simp
 |p::P,w::vs,i+1,m,nd,a,b,c=>by
  show bindL kindOf ((p,w)::P.zip vs) m x=_;unfold bindL;exact QD (i:=i) (iY.mp nd).2 (by simpa using a) (by simpa using b) c
theorem QE{kindOf:Str->Option NameKind}{x:Str}{v:Value}:∀{P:List Str} {vs:List Value} {i:Nat} {m:Str->Option Value},P.Nodup->P[i]?=some x->vs[i]?=some v->kindOf x≠some .local ->
 bindC kindOf (P.zip vs) m x=some v
 |[],_,_,_,_,h,_,_=>by simp at h
 |_::_,[],_,_,_,_,h,_=>by simp at h
 |p::P,w::vs,0,m,nd,a,b,c=>by
  simp at a b;subst a;subst b;show bindC kindOf ((p,w)::P.zip vs) m p=_;unfold bindC;rw[QC λv d=>(iY.mp nd).1 (List.of_mem_zip d).1,eH c];simp
 |p::P,w::vs,i+1,m,nd,a,b,c=>by
  show bindC kindOf ((p,w)::P.zip vs) m x=_;unfold bindC;exact QE (i:=i) (iY.mp nd).2 (by simpa using a) (by simpa using b) c
noncomputable def start(N:List Str)(vs:List V):St:=vs.map some++bB (N.length-vs.length) none
noncomputable def pT(CX:ZV)(P:Program)(w:World)(K:af)(mg:Str->Option Value)(base:Heap)(N:List Str)(qual:Str)(scope:Scope)(f:Addr)(cd:Value)(A:Around)(outer:List Env)(s:Shared)(H:Hp)(E:XK):Cx where
 prog:=P
 w:=w
 K:=K
 mg:=mg
 base:=base
 A:=A.deeper (envOfC qual scope s.heap.objs.size f cd)
 N:=N
 s₀:=s
 H₀:=H
 env:=envOfC qual scope s.heap.objs.size f cd
 outer:=outer
 stack:=envOfC qual scope s.heap.objs.size f cd::outer
 ex:=[]
 calm:=true
 fn:=λ_=>true
 pn:=[]
 xe:=λe s'=>wpAny (model P w) (A.deeper (envOfC qual scope s.heap.objs.size f cd)) (leaving (envOfC qual scope s.heap.objs.size f cd) e) (λ_ s''=>CX outer H s E e s'') (λe' s''=>CX outer H s E e' s'') s'
theorem UA{a:Scope}{n:Nat}{x:Str}(h:a.names.lookup x=some .cell):∃c,(cellsFrom n a.names []).lookup x=some c:=by
 have q:=PySem.W.cellsFrom_some a.names n [] (.inl h);exact Option.isSome_iff_exists.mp q
theorem ZW{CX:ZV}{P:Program}{w:World}{K:af}{F:Str->Option Value}{base:Heap}{N ps:List Str}{g:Str}{scope:Scope}{f:Addr}{B:Value}{A:Around}{d:List Env}{s I:Shared}{H:Hp}{E:XK}{us:List Value}{vs:List V}
 (S:aE N ps scope) (L:A.handled=none) (l:WR P w K F base A d s H) (hl:vs.length=ps.length) (r:b6 vs us)
 (x:InCallC s s.heap.objs.size (bindL (envOfC g scope s.heap.objs.size f B).kindOf (ps.zip us) λ_=>none) (cellsFrom (s.heap.objs.size+1) scope.names []) (bindC (envOfC g scope s.heap.objs.size f B).kindOf (ps.zip us) λ_=>none) I) :
 Inv (pT CX P w K F base N g scope f B A d s H E) [] (start N vs) H I:=by
 have O:ps.length<=N.length:=by have:=fy List.length S.pre;rw[bU] at this;lia
 obtain⟨C,R,rfl,J⟩:=x.done;have m:∀b:Addr,b∉(pT CX P w K F base N g scope f B A d s H E).ex:=λb z=>eL (show b∈([]:List Addr) from z) (-_);refine⟨⟨l.mod,S.kind,rfl,rfl,aB _,λy z c C j=>?_,λy hy=>?_,λy c _ h=>?_,λ_=>L,Around.frames_deeper l.frames,.inr ⟨rfl,rfl⟩,λb z=>eL z (m b),l.bs,l.nT,λb _ _=>m b,λb z=>eL z (m b),l.G4,l.Df⟩,
  rfl,l.bare,Un.kept J,⟨_,x.toInCall.ns,λi y v C j T=>?_⟩,λy c h=>⟨_,x.cell y c h⟩,l.hok.fresh (aB _),λy c h=>?_,λp t=>eL (show p∈([]:List (Addr×Obj)) from t) (-_),l.hok.kept J,?_⟩
 ·exact name_of_addr x.apart (rT C) (rT j)
 ·have hy:scope.names.lookup y=some .cell∨scope.names.lookup y=some .free:=hy
  rcases hy with hy|hy
  ·exact UA hy
  ·exact eL rfl (S.ahk _ (rT hy))
 ·exact g4 (x.above y c (rT h))
 ·have D:i<vs.length:=by
   unfold start at j;by_cases D:i<vs.length
   ·exact D
   ·rw[bW (by simpa using D)] at j
    rw[List.getElem?_replicate] at j;split at j <;> cases j
  have M:vs[i]?=some v:=by
   unfold start at j;rw[bM (by simpa using D),ak] at j;cases e:vs[i]? with
   |none=>rw[e] at j;cases j
   |some a=>rw[e] at j;cases j;rfl
  obtain⟨u,G,Q⟩:=r.get M;have t:ps[i]?=some y:=by
   rw[<- S.pre,List.getElem?_take_of_lt ∅];exact C
  have o:ps.Nodup:=by rw[<- S.pre];exact S.nd.sublist (List.take_sublist _ _)
  refine⟨u,Q,?_⟩;rcases S.par y (aI t) with k|k
  ·exact .inl ⟨k,QD o t G k⟩
  ·obtain⟨c,e⟩:=UA (n:=s.heap.objs.size+1) k
   refine .inr ⟨.inl k,c,e,?_⟩;have q:=x.cell y c e;rw[QE o t G (by show scope.names.lookup y≠_;rw[k];decide)] at q;exact q
 ·exact l.hok.fresh (g4 (x.above y c (rT h)))
 ·unfold start
  show _=N.length;rw[aA,ah,List.length_replicate];lia
theorem abF{CX:ZV}{P:Program}{w:World}{K:af}{G:Str->Option Value}{base:Heap}{k:Nat}{f:Addr}{name c:Str}{g:Arguments}{h:List Stmt}{scope:Scope}{dV kV B pm d ct oc:Value}{an od:Option Addr}
 {U:Array (Option Value)} {N ps:List Str} {sp:Sp} (lk:K.lookup f=some ⟨oc,od,.func (fm name c g h scope dV kV B pm an d ct),U⟩) (O:jY K d c=true) (S:aE N ps scope)
 (C:∀vs H Q E,sp vs H Q E->vs.length=ps.length)
 (m:∀(A:Around) (a:List Env) (s:Shared) (H:Hp) (vs:List V) (Q:VK) (E:XK),kh k (A.deeper (envOfC c scope s.heap.objs.size f d))->sp vs H Q E ->
  ∃t,iQ (pT CX P w K G base N c scope f d A a s H E) h t/\t {nx:=λ_ j=>Q .dH j,rt:=Q} (start N vs) H) :
 bL P w K G base CX (k+1) f (fm name c g h scope dV kV B pm an d ct) ps sp:=by
 refine⟨C,λA a s H Y us vs Q E M D hb r F=>?_⟩;have hl:=C _ _ _ _ F;have X:K.In s.heap:=D.mod.z0.keeps λb o e=>(D.bs b o e).1;have R:s.heap.NoLimit:=D.mod.nolimit.keeps λb o e=>(D.bs b o e).1;have l:∀y∈ps.zip us,scope.names.lookup y.1=some .local∨(scope.names.lookup y.1=some .cell/\((cellsFrom (s.heap.objs.size+1) scope.names []).lookup y.1).isSome=true):=λ⟨n,v⟩ hy=>by
  rcases S.par n (List.of_mem_zip hy).1 with q|q
  ·exact .inl q
  ·exact .inr ⟨q,PySem.W.cellsFrom_some _ _ _ (.inl q)⟩
 refine codeAny_call_function M.depth (X _ _ lk) rfl S.co S.gen rfl (PySem.W.codeRec_of X O) (hb _ _ _ _ ?_);refine wpAny_newFunctionEnv_cells S.kind l λenv he Z x=>?_;subst he;refine⟨R.keeps x.toInCall.keep,codeAny_func ?_⟩;obtain⟨t,ht,hq⟩:=m A a s H vs Q E (M.deeper _) F;have I:Inv (pT CX P w K G base N c scope f d A a s H E) [] (start N vs) H Z:=ZW S M.hd D hl r x;refine wpAny_mono (ht [] Z (start N vs) H _ I hq) (λfl L p=>?_) λe L p=>p;have z:∀{i:St} {j:Hp} {v:V} {u:Value},Inv (pT CX P w K G base N c scope f d A a s H E) [] i j L->RelV v u->Q v j->CE a P w H s Q u L :=
  λ{i j v u} J T q=>⟨v,j,J.os,J.bare,J.base,J.hok,T,q⟩
 cases fl with
 |ret u =>
  obtain⟨v,i,j,J,T,q⟩:=p;exact z J T q
 |next =>
  obtain⟨i,j,J,q⟩:=p;exact z (v:=V.dH) (u:=Value.none) J rfl q
 |brk =>
  obtain⟨_,_,_,q⟩:=p;exact kr q
 |cont =>
  obtain⟨_,_,_,q⟩:=p;exact kr q
section
variable{X:Cx}{x:Str}{p pos:Pos}{e:Expr}{es:List Expr}{t:TA}{id T:String}{r:List V->Hp->VK->Prop}
def tCB(r:List V->Hp->VK->Prop)(t:TA):TE:=λσ H Q=>t σ H λvs H1=>r vs H1 Q
theorem UB(y:nP X (.builtin id) r)(f:Gl X x)(o:X.mg x=none)(u:bootBuiltins x=some (.builtin id))(k:PA X (e::es) t)(w:x≠"__name__" := by decide)(c:(x==("__debug__" : Str))=false:=by decide)
 (v:starEach (e::es) X.env=(false,eval e X.env)::starEach es X.env:=by rfl) (b:(backTo pos (starEach es X.env)).any (·.1)=false:=by rfl):PE X (.Call (.Name x p) (e::es) [] pos) (tCB r t):=by
 intro a s d H Q I h;refine wpAny_Call_Name_kw (LP I f o u ?_ w c);exact PyProof.Rows.callWith_builtin1 (gW (k pos a s d H _ I h) λg l ⟨n,j,m,q,i⟩=>y a l d j n g Q m q i) v b
theorem bS(y:nP X (.type T) r)(f:Gl X x)(o:X.mg x=none)(u:bootBuiltins x=some (.type T))(k:PA X (e::es) t)(w:x≠"__name__" := by decide)(c:(x==("__debug__" : Str))=false:=by decide)
 (v:starEach (e::es) X.env=(false,eval e X.env)::starEach es X.env:=by rfl) (b:(backTo pos (starEach es X.env)).any (·.1)=false:=by rfl):PE X (.Call (.Name x p) (e::es) [] pos) (tCB r t):=by
 intro a s d H Q I h;refine wpAny_Call_Name_kw (LP I f o u ?_ w c);exact PyProof.Rows.callWith_type1 (gW (k pos a s d H _ I h) λg l ⟨n,j,m,q,i⟩=>y a l d j n g Q m q i) v b
end
end L2
namespace HT
open PySem PyProof.Rows
theorem UC(A:Around)(s:Shared)(a:Int)(t:Tok)(c:Int)(u:Tok):∃e,SeqAt.EqAt A s (.int a t) (.int c u) e/\(e=true↔a=c) :=
 ⟨(a==c),SeqAt.EqAt.int_int a t c u,-_⟩
theorem abG(A:Around)(s:Shared)(a:Int)(t:Tok)(c:Int)(u:Tok)(prog:Program)(w:World)(E:Value->Shared->Prop)(Q:Value->Shared->Prop)(h:Q (.bool (decide (a<c))) s) :
 wpAny (model prog w) A (richCompare .Lt (.int a t) (.int c u)) Q E s :=
 (PyProof.Rows.lt_int h:wpAny (model prog w) A (compareOp .Lt (.int a t) (.int c u)) Q E s)
section
open PySem.SeqAt
open PySem.AutoSeq1 (wpAny_loadPart')
open PySem.MeetsSeq PySem.MeetsSeq2 PySem.MeetsSeq3
end
section
variable{prog:Program}{w:World}{A:Around}{E:Value->Shared->Prop}{s:Shared}
noncomputable def nM(n d:Nat):Option Int->Nat
 |none=>d
 |some v=>if v<0 then (v+(n:Int)).toNat else min v.toNat n
theorem R6(n d k:Nat):nM n d (some (k:Int))=min k n:=by
 show (if (k:Int)<0 then ((k:Int)+(n:Int)).toNat else min (k:Int).toNat n)=min k n;rw[eH ∅,ko]
theorem ahl(n d:Nat)(b:d<=n)(o:Option Int):nM n d o<=n:=by
 cases o with
 |none=>exact b
 |some v =>
  show (if v<0 then (v+(n:Int)).toNat else min v.toNat n)<=n;by_cases a:v<0
  ·rw[b3 a];lia
  ·rw[eH a];exact Nat.min_le_right _ _
theorem Yr(v:Int)(n d:Nat):(if v<0 then max (v+(n:Int)) 0 else min v (n:Int))=((nM n d (some v):Nat):Int):=by
 show (if v<0 then max (v+(n:Int)) 0 else min v (n:Int))=(((if v<0 then (v+(n:Int)).toNat else min v.toNat n):Nat):Int);by_cases a:v<0
 ·simp only[b3 a];lia
 ·simp only[eH a];lia
theorem WS(lo a:Option Int)(n:Nat):Builtin.Slice.sliceAdjust lo a 1 (n:Int)=(((nM n 0 lo:Nat):Int),((nM n n a:Nat):Int)):=by
 have b:¬((1:Int)<0):=∅
 unfold Builtin.Slice.sliceAdjust;simp only[b,if_false];refine Prod.ext ?_ ?_
 ·cases lo with
  |none=>rfl
  |some v=>exact Yr v n 0
 ·cases a with
  |none=>rfl
  |some v=>exact Yr v n n
theorem WT(i j:Nat):Builtin.Slice.slicePlaces (i:Int) (j:Int) 1=j-i:=by
 unfold Builtin.Slice.slicePlaces;have a:(1:Int) > 0:=∅
 simp only[a,if_true,Int.ediv_one];split <;> lia
theorem L3{v:Value}{o:Option Int}{Q:Option Int->Shared->Prop}(p:IsPart v o)(h:Q o s):wpAny (model prog w) A (Builtin.Slice.slicePartIndex v) Q E s:=by
 cases p with
 |none=>exact slicePart_none h
 |int i t=>exact slicePart_int h
theorem IU{f:Addr}{d e:Value}{lo c:Option Int}{n:Nat}{Q:Int×Int×Nat->Shared->Prop}(i:s.heap.IsSliceOf f d e .none)(pl:IsPart d lo)(g:IsPart e c)
 (h:Q (((nM n 0 lo:Nat):Int),1,nM n n c-nM n 0 lo) s):wpAny (model prog w) A (Builtin.Slice.sliceApplied (.ref f) (pure (n:Int))) Q E s:=by
 obtain⟨os,a,j,b⟩:=id i;unfold Builtin.Slice.sliceApplied Builtin.Slice.sliceFields;refine wpAny_bind (wpAny_bind (wpAny_field a b (x:=d) rfl (wpAny_bind (wpAny_field a b (x:=e) rfl (wpAny_bind (wpAny_field a b (x:=.none) rfl (wpAny_pure ?_)))))));refine wpAny_bind (slicePart_none ?_);show wpAny _ _ (if ((1:Int)==0)=true then _ else _) _ _ s;rw[eH (!_)];refine wpAny_bind (L3 pl (wpAny_bind (L3 g (wpAny_bind (wpAny_pure ?_)))));show wpAny _ _ (match Builtin.Slice.sliceAdjust lo c 1 (n:Int) with|(lo,c)=>pure (lo,(1:Int),Builtin.Slice.slicePlaces lo c 1)) _ _ s;rw[WS lo c n];show wpAny _ _ (pure (((nM n 0 lo:Nat):Int),(1:Int),Builtin.Slice.slicePlaces ((nM n 0 lo:Nat):Int) ((nM n n c:Nat):Int) 1)) _ _ s;rw[WT];exact wpAny_pure h
theorem abH(xs:Array Value)(i k:Nat):((au k).filterMap λ(m:Nat)=>xs[((i:Int)+(m:Int)*1).toNat]?).toArray=((xs.toList.drop i).take k).toArray:=by
 have e:(λ(m:Nat)=>xs[((i:Int)+(m:Int)*1).toNat]?)=λm=>xs[i+m]?:=by
  funext m
  have:((i:Int)+(m:Int)*1).toNat=i+m:=∅
  rw[this]
 rw[e]
 have:=pick_run xs i k
 rw[List.filterMap_map] at this;have a:((λx=>xs[x]?)∘λx=>i+x)=λm=>xs[i+m]?:=rfl;rw[a] at this;rw[this]
theorem G9{t e:Addr}{items:Array Value}{j k:Value}{lo a:Option Int}{Q:Value->Shared->Prop}(c:IsTup s.heap t items)(l:s.heap.IsSliceOf e j k .none)(pl:IsPart j lo)(p:IsPart k a)
 (n:¬(nM items.size 0 lo=0/\nM items.size items.size a=items.size))
 (h:Q (.ref s.heap.objs.size) {s with heap:=s.heap.push {cls:=.type "tuple",data:=.seq ((items.toList.drop (nM items.size 0 lo)).take (nM items.size items.size a-nM items.size 0 lo)).toArray}})
 (o:items.size<=sizeLine):wpAny (model prog w) A (getItem (.ref t) (.ref e)) Q E s:=by
 have b:sizeOk (.seq ((items.toList.drop (nM items.size 0 lo)).take (nM items.size items.size a-nM items.size 0 lo)).toArray):=by
  show ((items.toList.drop (nM items.size 0 lo)).take (nM items.size items.size a-nM items.size 0 lo)).toArray.size<=sizeLine;rw[aW,bU,rR,fO];lia
 have u:nM items.size items.size a<=items.size:=ahl _ _ (aB _) a;obtain⟨os,g,i,r⟩:=id l;have f:s.TypeIs (.ref e) "slice" := ⟨os,g,i⟩;unfold getItem
 try with_reducible refine wpAny_holding ?_
 first|refine wpAny_bind (wpAny_pure ?_)|skip
 refine wpAny_bind (wpAny_sequenceKey c.typeIs (!_) ?_);refine wpAny_bind (wpAny_callSpecial?_slot (name:=Str.ofString "__getitem__") c.typeIs xy
  (wpAny_call_entry xy c.typeIs entry_tuple_getitem ?_ (args_tuple_getitem _ _)))
 show wpAny _ _ (Builtin.Tuple.tupleItemsOf (.ref t) >>= _) _ _ s;refine wpAny_bind (tupleItemsOf_ c ?_);refine wpAny_bind (wpAny_typeOf f ?_);rw[b3 (!_)];refine wpAny_bind (IU l pl p ?_);have d:¬((((nM items.size 0 lo:Nat):Int)==0&&(1:Int)==1&&(nM items.size items.size a-nM items.size 0 lo)==items.size)=true):=by
  intro q;rw[dF,dF] at q;have v:((nM items.size 0 lo:Nat):Int)=0:=eq_of_beq q.1.1;have x:nM items.size items.size a-nM items.size 0 lo=items.size:=eq_of_beq q.2;exact n ⟨∅,∅⟩
 show wpAny _ _ (if (((nM items.size 0 lo:Nat):Int)==0&&(1:Int)==1&&(nM items.size items.size a-nM items.size 0 lo)==items.size)=true then _ else _) _ _ s;rw[eH d,abH]
 first
  |exact wpAny_bind (m:=Builtin.Tuple.tupleExact _) (wpAny_newObj_type (wpAny_pure ⟨_,rfl,wpAny_pure h⟩) b)
  |exact wpAny_bind (m:=Builtin.Tuple.tupleExact _) (wpAny_newObj_type (wpAny_bind (wpAny_pure (wpAny_pure ⟨_,rfl,wpAny_pure h⟩))) b)
  |exact wpAny_bind (wpAny_bind (m:=Builtin.Tuple.tupleExact _) (wpAny_newObj_type (wpAny_pure (wpAny_pure ⟨_,rfl,wpAny_pure h⟩)) b))
  |exact wpAny_bind (wpAny_bind (m:=Builtin.Tuple.tupleExact _) (wpAny_newObj_type (wpAny_pure ⟨_,rfl,wpAny_pure h⟩) b))
end
end HT
namespace L2
open PySem PySem.Spec PyProof.Rows
abbrev TO:=St->Hp->(Option Int->Hp->Prop)->Prop
def PO(X:Cx)(e:Option Expr)(t:TO):Prop :=
 ∀(pins:List (Addr×Obj)) (s:Shared) (σ:St) (H:Hp) (Q:Option Int->Hp->Prop),Inv X pins σ H s->t σ H Q ->
  wpAny (model X.prog X.w) X.A (evalPart e X.env) (λu s'=>∃o H',Inv X pins σ H' s'/\IsPart u o/\Q o H') X.xe s
def aei:TO:=λ_ H Q=>Q none H
inductive af4(Q:Option Int->Hp->Prop)(x:V)(H1:Hp):Prop
 |mk (i:Int) (a:x=.int i) (b:Q (some i) H1):af4 Q x H1
def ajU(t:TE):TO:=λσ H Q=>t σ H (af4 Q)
theorem intsAre_of{ns:List Int}:∀{us:List Value},b6 (ns.map V.int) us->IntsAre us ns:=by
 induction ns with
 |nil=>intro us r;rw[List.map_nil] at r;cases r;exact .nil
 |cons n ns c =>
  intro us r;rw[bA] at r;cases r with
  |cons a b =>
   obtain⟨t,e⟩:=a;subst e;exact .cons n t (c b)
section
variable{X:Cx}{e:Expr}{te:TE}{lo hi:Option Expr}{tl th:TO}{pos p2:Pos}
theorem wD:PO X none aei:=by
 intro a s b H Q I h;rw[evalPart_none];exact wpAny_pure ⟨none,H,I,.none,h⟩
theorem mG(h:PE X e te):PO X (some e) (ajU te):=by
 intro a s g H Q I b;rw[evalPart_some];refine gW (h a s g H _ I b) λu k ⟨x,d,f,j,c⟩=>?_;obtain⟨i,rfl,q⟩:=c;obtain⟨t,rfl⟩:=j;exact⟨some i,d,f,.int i t,q⟩
def SlR(X:Cx)(r:V->Option Int->Option Int->Hp->VK->Prop):Prop :=
 ∀(pins:List (Addr×Obj)) (s:Shared) (σ:St) (H:Hp) (x:V) (v vl vu:Value) (lo hi:Option Int) (sl:Addr) (Q:VK),Inv X pins σ H s->RelV x v->s.heap.IsSliceOf sl vl vu .none->IsPart vl lo->IsPart vu hi->r x lo hi H Q ->
  ∃T id,typeLookup (.type T) "__getitem__" = pure (some (.builtin id))/\s.TypeIs v T/\wpAny (model X.prog X.w) X.A (getItem v (.ref sl)) (EP X pins σ Q) X.xe s
def tSl(r:V->Option Int->Option Int->Hp->VK->Prop)(te:TE)(tl th:TO):TE:=λσ H Q=>te σ H λx H1=>tl σ H1 λl H2=>th σ H2 λu H3=>r x l u H3 Q
theorem lN{r:V->Option Int->Option Int->Hp->VK->Prop}(L:SlR X r)(N:PE X e te)(hl:PO X lo tl)(k:PO X hi th):PE X (.Subscript e (.Slice lo hi none p2) pos) (tSl r te tl th):=by
 intro a s d H Q I h;refine Subscript_ (gW (N a s d H _ I h) λv z ⟨x,y,B,K,p⟩=>?_);refine wpAny_Slice (gW (hl a z d y _ B p) λf G ⟨l,F,o,n,t⟩=>gW (k a G d F _ o t) λg c ⟨u,i,C,E,D⟩=>?_);rw[evalPart_none];refine wpAny_pure ?_;have M:Inv X a d i {c with heap:=c.heap.push {cls:=.type "slice",data:=.fields #[f,g,.none]}}:=C.kept (t':=c.toks) λb ob q=>Heap.get?_push_of_some _ q;obtain⟨T,id,m,J,j⟩:=L a {c with heap:=c.heap.push {cls:=.type "slice",data:=.fields #[f,g,.none]}} d i x v f g l u c.heap.objs.size Q M K (Heap.IsSliceOf.new ..) n E D;show wpAny (model X.prog X.w) X.A (subscriptTail e (.Slice lo hi none p2) v (.ref c.heap.objs.size)) (EP X a d Q) X.xe {c with heap:=c.heap.push {cls:=.type "slice",data:=.fields #[f,g,.none]}};exact tail_any (ops:=[.ref c.heap.objs.size,v]) J m j (by with_unfolding_all rfl)
noncomputable def Ez(xs:List V)(lo hi:Option Int):List V:=(xs.drop (HT.nM xs.length 0 lo)).take (HT.nM xs.length xs.length hi-HT.nM xs.length 0 lo)
theorem Km(xs:List V)(lo hi:Option Int):(Ez xs lo hi).length<=xs.length:=by
 unfold Ez;rw[bU,rR];lia
def am4(K:af):V->Option Int->Option Int->Hp->VK->Prop:=λx lo hi H Q=>∃a xs,x=.ref a/\cR K H a xs /\
 ¬(HT.nM xs.length 0 lo=0/\HT.nM xs.length xs.length hi=xs.length)/\∀p,H p=none->Q (.ref p) (upd H p (.tup (Ez xs lo hi)))
theorem WU:SlR X (am4 X.K):=by
 intro f s y H x v t u lo hi w Q I p m k n h;obtain⟨a,d,rfl,j,l,q⟩:=h;cases p;obtain⟨e,r,i,g⟩:=I.tuple j;have c:e.toArray.size=d.length:=by rw[aW];exact r.length.symm
 refine⟨"tuple",_,xy.lookup,i.typeIs,?_⟩;refine HT.G9 i m k n (by rw[c];exact l) ?_ (by rw[c];exact g);rw[c];refine⟨.ref s.heap.objs.size,_,I.laid (t':=s.toks) (o:=.tup (Ez d lo hi)) (λb ob q=>Heap.get?_push_of_some _ q) (aB _) ?_,rfl,q _ (I.hok.fresh (aB _))⟩;exact⟨ay (Km d lo hi) g,_,(r.drop (HT.nM d.length 0 lo)).take (HT.nM d.length d.length hi-HT.nM d.length 0 lo),IsTup.new _ _⟩
end
noncomputable def su(n:Nat)(i:Int):Option Nat:=if 0<=i then (if i<n then some i.toNat else none) else if -(n:Int)<=i then some (i+n).toNat else none
noncomputable def Kn{α:Type}(xs:List α)(i:Int):Option α:=(su xs.length i).bind λj=>xs[j]?
theorem R7{n:Nat}{i:Int}{j:Nat}(h:su n i=some j):seqIndex? i n=some j/\j<n/\-(n:Int)<=i/\i<n:=by
 unfold su at h;by_cases b:0<=i
 ·rw[b3 b] at h
  by_cases a:i<n
  ·rw[b3 a] at h
   have e:i.toNat=j:=aR h;exact⟨by rw[seqIndex_of b a,e],∅,∅,a⟩
  ·rw[eH a] at h;cases h
 ·rw[eH b] at h
  by_cases a:-(n:Int)<=i
  ·rw[b3 a] at h
   have e:(i+n).toNat=j:=aR h;exact⟨by rw[seqIndex_neg ∅ a,e],∅,a,∅⟩
  ·rw[eH a] at h;cases h
theorem R8{a:Type}{xs:List a}{i:Int}{v:a}(h:Kn xs i=some v):∃j,seqIndex? i xs.length=some j/\xs[j]?=some v/\j<xs.length/\-(xs.length:Int)<=i/\i<xs.length:=by
 unfold Kn at h;cases e:su xs.length i with
 |none=>rw[e] at h;cases h
 |some j =>
  rw[e] at h;obtain⟨c,f,d,b⟩:=R7 e;exact⟨j,c,h,f,d,b⟩
theorem dD{a:Type}{xs:List a}{j:Nat}{v:a}(h:xs[j]?=some v):Kn xs (j:Int)=some v:=by
 have b:j<xs.length:=(ai.mp h).1;have e:su xs.length (j:Int)=some j:=by
  unfold su;rw[b3 ∅,b3 ∅];simp
 unfold Kn;rw[e];exact h
def Hf(b:Expr):Prop:=∀o i,subscripted b false o i=operate [o,i] (getItem o i)
def IxR(X:Cx)(r:R2):Prop :=
 ∀(value slice:Expr) (pins:List (Addr×Obj)) (s:Shared) (σ:St) (H:Hp) (x y:V) (v u:Value) (Q:VK),Inv X pins σ H s->RelV x v->RelV y u->r x y H Q ->
  subscripted slice false v u=operate [v,u] (getItem v u)->wpAny (model X.prog X.w) X.A (subscriptTail value slice v u) (EP X pins σ Q) X.xe s
def O4(X:Cx)(id:String)(r:V->List V->Hp->VK->Prop):Prop :=
 ∀(pins:List (Addr×Obj)) (s:Shared) (σ:St) (H:Hp) (x:V) (xs:List V) (v:Value) (us:List Value) (Q:VK),Inv X pins σ H s->RelV x v->b6 xs us->r x xs H Q ->
  wpAny (model X.prog X.w) X.A (call (.builtin id) (v::us)) (EP X pins σ Q) X.xe s
section
variable{X:Cx}{a b:Expr}{ta tb:TE}{pos:Pos}
theorem UD{r:R2}(l:IxR X r)(f:PE X a ta)(g:PE X b tb)(e:Hf b):PE X (.Subscript a b pos) (ZR r ta tb):=by
 intro c s i H Q I h;exact Subscript_ (ahd f g I h λv u k x y j d n m q=>l a b c k i j x y v u Q d n m q (e _ _))
inductive ZX(K:af)(x y:V)(H:Hp)(Q:VK):Prop
 |mk (p:Addr) (xs:List V) (i:Int) (v:V) (h1:x=.ref p) (h2:y=.int i) (h3:bC K H p xs) (h4:Kn xs i=some v) (h5:Q v H):ZX K x y H Q
inductive UE(K:af)(x y:V)(H:Hp)(Q:VK):Prop
 |mk (p:Addr) (xs:List V) (i:Int) (v:V) (h1:x=.ref p) (h2:y=.int i) (h3:cR K H p xs) (h4:Kn xs i=some v) (h5:Q v H):UE K x y H Q
def am5:R2:=λx y H Q=>∃z i c,x=.str z/\y=.int i/\z.length<=sizeLine/\Kn z.cps.toList i=some c/\Q (.str ⟨#[c]⟩) H
theorem Yt:IxR X (ZX X.K):=by
 intro f l a s n H x y v u Q I M G h m;obtain⟨p,P,i,z,rfl,rfl,F,L,q⟩:=h;cases M;obtain⟨t,rfl⟩:=G;obtain⟨k,r,e,O⟩:=I.list F;obtain⟨j,c,C,R,D,B⟩:=R8 L;obtain⟨w,o,g⟩:=r.get C;have J:=r.length;have N:=FQ;have b:EP X a n Q w s:=⟨z,H,I,g,q⟩;by_cases A:0<=i
 ·have d:i.toNat=j:=by
   rw[seqIndex_of A B] at c;exact aR c
  exact item_listR e.isList A ∅ (by rw[d];simpa using o) b m
 ·have d:(i+(k.toArray.size:Int)).toNat=j:=by
   rw[seqIndex_neg ∅ D] at c;rw[aW,<- J];exact aR c
  exact subscriptTail_builtinR (x:=w) e.isList.typeIs slot_list_getitem.lookup
   (wpAny_getItem_list_neg (Q:=λr E=>r=w/\EP X a n Q r E) e.isList ∅ (by rw[aW] <;> lia) ∅ (by rw[d];simpa using o) ⟨rfl,b⟩) m
theorem abI:IxR X (UE X.K):=by
 intro b d a s g H x y v u Q I F C h m;obtain⟨p,M,i,z,rfl,rfl,B,E,q⟩:=h;cases F;obtain⟨t,rfl⟩:=C;obtain⟨k,r,f,L⟩:=I.tuple B;obtain⟨j,l,o,O,N,J⟩:=R8 E;obtain⟨w,n,c⟩:=r.get o;have D:=r.length;have G:=FQ;have e:EP X a g Q w s:=⟨z,H,I,c,q⟩;exact subscriptTail_builtinR (x:=w) f.typeIs slot_tuple_getitem.lookup
  (getItem_tuple (j:=j) (Q:=λr A=>r=w/\EP X a g Q r A) f ∅ ∅ (by rw[aW,<- D];exact l) (by simpa using n) ⟨rfl,e⟩) m
theorem ahn:IxR X am5:=by
 intro a b e s D H x y v u Q I w n h k;obtain⟨z,i,c,rfl,rfl,C,r,q⟩:=h;obtain⟨t,rfl⟩:=w;obtain⟨B,rfl⟩:=n;obtain⟨j,d,l,E,m,g⟩:=R8 r;have o:z.cps.toList.length=z.length:=by simp[Str.length]
 rw[o] at d m g;have A:=FQ;exact tail_any (typeIs_str s z t) slot_str_getitem.lookup (getItem_str (c:=c) (by
  have p:decide (i < -(2^63:Int))=false:=e8 ∅;have f:decide (i≥2^63)=false:=e8 ∅;rw[p,f,Bool.or_false]) (by rw[d];simpa using l) ⟨.str ⟨#[c]⟩,H,I.tok _,⟨_,rfl⟩,q⟩) k
theorem WV(a:List Value)(n j:Nat)(u:Value):Obj.mapSeq (·.setIfInBounds j u) {cls:=.type "list",data:=.seq a.toArray n}={cls:=.type "list",data:=.seq (a.set j u).toArray n}:=by
 simp[Obj.mapSeq]
theorem Inv.lst{b:List (Addr×Obj)}{c:St}{H:Hp}{s:Shared}{p:Addr}{xs:List V}(I:Inv X b c H s)(h:H p=some (.lst xs)) :
 ∃(a:List Value) (n:Nat),b6 xs a/\s.heap.get? p=some {cls:=.type "list",data:=.seq a.toArray n}/\xs.length<=sizeLine:=by
 obtain⟨z,a,n,r,e⟩:=I.hok p _ h;exact⟨a,n,r,e,z⟩
theorem Inv.aho{a:List (Addr×Obj)}{j:St}{H:Hp}{s:Shared}{p:Addr}{xs d:List V}{c its':List Value}{n g:Nat}{f:Obj->Obj}(I:Inv X a j H s)(h:H p=some (.lst xs))
 (m:s.heap.get? p=some {cls:=.type "list",data:=.seq c.toArray n}) (i:f {cls:=.type "list",data:=.seq c.toArray n}={cls:=.type "list",data:=.seq its'.toArray g}) (r:b6 d its') (k:d.length<=sizeLine) (t:Nat) :
 Inv X a j (upd H p (.lst d)) {s with heap:=s.heap.update p f,toks:=t}:=by
 have e:(s.heap.update p f).get? p=some {cls:=.type "list",data:=.seq its'.toArray g}:=by
  rw[Heap.get?_update_self f m (by rw[i] <;> rfl),i]
 refine I.write (x:=p) (e:=p) (by rw[h];trivial) (.inl rfl) (λb u l q=>(Heap.get?_update_other _ _ (cu l)).trans q) ⟨_,e⟩ ?_;exact⟨k,its',g,r,e⟩
def ajV:V->V->V->Hp->(Hp->Prop)->Prop:=λo i v H Q=>∃p xs k j,o=.ref p/\i=.int k/\H p=some (.lst xs)/\su xs.length k=some j/\Q (upd H p (.lst (xs.set j v)))
theorem set_list:ajI X ajV:=by
 intro b s D H o i v G J u Q I C y B h;obtain⟨p,E,k,j,rfl,rfl,l,z,q⟩:=h;cases C;obtain⟨t,rfl⟩:=y;obtain⟨a,n,r,d,A⟩:=I.lst l;obtain⟨c,K,w,m⟩:=R7 z;have f:=r.length;have F:=FQ;have g:Inv X b D (upd H p (.lst (E.set j v))) {s with heap:=s.heap.update p (Obj.mapSeq (·.setIfInBounds j u))} :=
  I.aho l d (WV a n j u) (r.set B j) (by rw[bg];exact A) s.toks
 by_cases x:0<=k
 ·have e:k.toNat=j:=by
   rw[seqIndex_of x m] at c;exact aR c
  exact PySem.W.ki_setAt d x ∅ (by rw[aW,<- f];exact m) (by rw[e];exact⟨_,g,q⟩)
 ·have e:(k+(a.toArray.size:Int)).toNat=j:=by
   rw[seqIndex_neg ∅ w] at c;rw[aW,<- f];exact aR c
  exact PySem.W.ki_setBack d ∅ (by rw[aW,<- f];exact w) ∅ (by rw[e];exact⟨_,g,q⟩)
theorem R9(lo a:Option Int)(n:Nat):(sliceBounds lo a none n).1=((HT.nM n 0 lo:Nat):Int)/\(sliceBounds lo a none n).2.1=((HT.nM n n a:Nat):Int)/\(sliceBounds lo a none n).2.2=1:=by
 refine⟨?_,?_,rfl⟩
 ·cases lo with
  |none=>simp[sliceBounds,HT.nM]
  |some i =>
   simp only[sliceBounds,HT.nM,Option.getD_none,show (1:Int) > 0 by decide,if_true];by_cases h:i<0
   ·simp only[h,if_true] <;> lia
   ·simp only[h,if_false] <;> lia
 ·cases a with
  |none=>simp[sliceBounds,HT.nM]
  |some i =>
   simp only[sliceBounds,HT.nM,Option.getD_none,show (1:Int) > 0 by decide,if_true];by_cases h:i<0
   ·simp only[h,if_true] <;> lia
   ·simp only[h,if_false] <;> lia
theorem O9(a:List Value)(lo b:Option Int):slicePick a.toArray lo b none=((a.drop (HT.nM a.length 0 lo)).take (HT.nM a.length a.length b-HT.nM a.length 0 lo)).toArray:=by
 obtain⟨c,e,d⟩:=R9 lo b a.toArray.size;unfold slicePick;rw[c,e,d];simp only[sliceRange_one,pick_run,aW] <;> rfl
def am6(K:af):V->Option Int->Option Int->Hp->VK->Prop:=λx lo hi H Q=>∃a xs,x=.ref a/\bC K H a xs/\∀p,H p=none->Q (.ref p) (upd H p (.lst (Ez xs lo hi)))
theorem zZ:SlR X (am6 X.K):=by
 intro f s y H x v t u lo e w Q I p l j n h;obtain⟨a,c,rfl,i,q⟩:=h;cases p;obtain⟨k,r,g,m⟩:=I.list i;have d:=r.length;refine⟨"list",_,slot_list_getitem.lookup,g.isList.typeIs,?_⟩;refine wpAny_getItem_list_slice g.isList l j n .none (-_) ?_ (by rw[aW] <;> lia);rw[O9,<- d];refine⟨.ref s.heap.objs.size,_,I.laid (t':=s.toks) (o:=.lst (Ez c lo e)) (λb ob q=>Heap.get?_push_of_some _ q) (aB _) ?_,rfl,q _ (I.hok.fresh (aB _))⟩;exact⟨ay (Km c lo e) m,_,0,(r.drop (HT.nM c.length 0 lo)).take (HT.nM c.length c.length e-HT.nM c.length 0 lo),Heap.get?_push_size _ rfl⟩
noncomputable def BP:V->Bool
 |.dH=>true
 |.bl _=>true
 |.int _=>true
 |.str _=>true
 |_=>false
noncomputable def ZY:V->V->Bool
 |.dH,.dH=>true
 |.bl a,.bl b=>a==b
 |.bl a,.int b=>(if a then 1 else 0)==b
 |.int a,.bl b=>a==(if b then 1 else 0)
 |.int a,.int b=>a==b
 |.str a,.str b=>a==b
 |_,_=>false
theorem ahp{A:Around}{s:Shared}{y x:V}{u v:Value}(f:RelV y u)(c:RelV x v)(g:BP y=true)(e:BP x=true):SeqAt.EqAt A s u v (ZY y x):=by
 cases y with
 |dH =>
  cases f;cases x with
  |dH=>cases c;exact SeqAt.EqAt.same _
  |bl b=>cases c;exact SeqAt.EqAt.none_bool b
  |int b=>obtain⟨t,rfl⟩:=c;exact SeqAt.EqAt.none_int b t
  |str b=>obtain⟨t,rfl⟩:=c;exact SeqAt.EqAt.none_str b t
  |_=>exact eL (show false=true from e) aO
 |bl a =>
  cases f;cases x with
  |dH=>cases c;exact SeqAt.EqAt.bool_none a
  |bl b=>cases c;exact SeqAt.EqAt.bool_bool a b
  |int b=>obtain⟨t,rfl⟩:=c;exact SeqAt.EqAt.bool_int a b t
  |str b=>obtain⟨t,rfl⟩:=c;exact SeqAt.EqAt.bool_str a b t
  |_=>exact eL (show false=true from e) aO
 |int a =>
  obtain⟨d,rfl⟩:=f;cases x with
  |dH=>cases c;exact SeqAt.EqAt.int_none a d
  |bl b=>cases c;exact SeqAt.EqAt.int_bool a d b
  |int b=>obtain⟨t,rfl⟩:=c;exact SeqAt.EqAt.int_int a d b t
  |str b=>obtain⟨t,rfl⟩:=c;exact SeqAt.EqAt.int_str a d b t
  |_=>exact eL (show false=true from e) aO
 |str a =>
  obtain⟨d,rfl⟩:=f;cases x with
  |dH=>cases c;exact SeqAt.EqAt.str_none a d
  |bl b=>cases c;exact SeqAt.EqAt.str_bool a d b
  |int b=>obtain⟨t,rfl⟩:=c;exact SeqAt.EqAt.str_int a d b t
  |str b=>obtain⟨t,rfl⟩:=c;exact SeqAt.EqAt.str_str a d b t
  |_=>exact eL (show false=true from e) aO
 |_=>exact eL (show false=true from g) aO
noncomputable def WW(x:V)(u:Value):Bool:=match u with
 |.none=>ZY .dH x
 |.bool b=>ZY (.bl b) x
 |.int i _=>ZY (.int i) x
 |.str z _=>ZY (.str z) x
 |_=>false
theorem abJ{x y:V}{u:Value}(r:RelV y u)(f:BP y=true):WW x u=ZY y x:=by
 cases y with
 |dH=>cases r;rfl
 |bl b=>cases r;rfl
 |int i=>obtain⟨t,rfl⟩:=r;rfl
 |str z=>obtain⟨t,rfl⟩:=r;rfl
 |_=>exact eL (show false=true from f) aO
theorem Hg{x:V}:∀{xs:List V} {us:List Value},b6 xs us->xs.all BP=true->us.any (WW x)=xs.any λy=>ZY y x
 |_,_,.nil,_=>rfl
 |y::xs,u::us,.cons r t,f=>by
  rw[List.all_cons,dF] at f;rw[List.any_cons,List.any_cons,abJ r f.1,Hg t f.2]
theorem BQ{A:Around}{s:Shared}{x:V}{v:Value}(b:RelV x v)(a:BP x=true):∀{xs:List V} {us:List Value},b6 xs us->xs.all BP=true->∀u∈us,SeqAt.EqAt A s u v (WW x u)
 |_,_,.nil,_=>λu hu=>by cases hu
 |y::xs,u::us,.cons r t,f=>λc hu=>by
  rw[List.all_cons,dF] at f;rcases aV.mp hu with rfl|hu
  ·rw[abJ r f.1];exact ahp r b f.1 a
  ·exact BQ b a t f.2 c hu
noncomputable def Uo(x:V)(xs:List V):Bool:=xs.any λy=>ZY y x
inductive rIn(K:af)(neg:Bool)(x y:V)(H:Hp)(Q:VK):Prop
 |mk (p:Addr) (xs:List V) (h1:y=.ref p) (h2:bC K H p xs∨cR K H p xs) (h3:BP x=true) (h4:xs.all BP=true) (h5:Q (.bl (if neg then !Uo x xs else Uo x xs)) H):rIn K neg x y H Q
theorem zc:BG X (compareOp .In) (rIn X.K false):=by
 intro f s k H x y v u Q I g j h;obtain⟨p,l,rfl,hq,e,b,q⟩:=h;cases j;rcases hq with hq|hq
 ·obtain⟨a,r,c,i⟩:=I.list hq
  refine SeqAt.in_listAt (WW x) c.isList (λw d=>BQ g e r b w (by simpa using d)) ⟨.bl _,H,I,rfl,?_⟩;rw[show a.toArray.any (WW x)=a.any (WW x) by simp,Hg r b];exact q
 ·obtain⟨a,r,c,i⟩:=I.tuple hq
  refine SeqAt.in_tupleAt (WW x) c (λw d=>BQ g e r b w (by simpa using d)) ⟨.bl _,H,I,rfl,?_⟩;rw[show a.toArray.any (WW x)=a.any (WW x) by simp,Hg r b];exact q
theorem tM:BG X (compareOp .NotIn) (rIn X.K true):=by
 intro f s k H x y v u Q I g j h;obtain⟨p,l,rfl,hq,e,b,q⟩:=h;cases j;rcases hq with hq|hq
 ·obtain⟨a,r,c,i⟩:=I.list hq
  refine SeqAt.notIn_listAt (WW x) c.isList (λw d=>BQ g e r b w (by simpa using d)) ⟨.bl _,H,I,rfl,?_⟩;rw[show a.toArray.any (WW x)=a.any (WW x) by simp,Hg r b];exact q
 ·obtain⟨a,r,c,i⟩:=I.tuple hq
  refine SeqAt.notIn_tupleAt (WW x) c (λw d=>BQ g e r b w (by simpa using d)) ⟨.bl _,H,I,rfl,?_⟩;rw[show a.toArray.any (WW x)=a.any (WW x) by simp,Hg r b];exact q
theorem Sa:nP X (.builtin "len") (λxs H Q=>∃p b,xs=[.ref p]/\(bC X.K H p b∨cR X.K H p b)/\Q (.int b.length) H):=by
 intro f s l H xs k Q I r h;obtain⟨p,b,rfl,hq,q⟩:=h;obtain⟨u,rfl,i⟩:=vals1 r;cases i;have j:=FQ;rcases hq with hq|hq
 ·obtain⟨d,e,c,g⟩:=I.list hq
  have a:=e.length;exact Calls.call_len_list c.isList (by simp only[aW] <;> lia) ⟨.int b.length,H,I.tok _,⟨s.toks+1,by rw[aW,a]⟩,q⟩
 ·obtain⟨d,e,c,g⟩:=I.tuple hq
  have a:=e.length;exact len_tuple c (by simp only[aW] <;> lia) ⟨.int b.length,H,I.tok _,⟨s.toks+1,by rw[aW,a]⟩,q⟩
theorem Sb:nP X (.builtin "len") (λxs H Q=>∃z,xs=[.str z]/\z.length<=sizeLine/\Q (.int z.length) H):=by
 intro a s b H xs c Q I r h;obtain⟨z,rfl,d,q⟩:=h;obtain⟨u,rfl,t,rfl⟩:=vals1 r;have e:=FQ;exact len_str ∅ ⟨.int z.length,H,I.tok _,⟨_,rfl⟩,q⟩
theorem fG:nP X (.type "list") (λxs H Q=>∃p f,xs=[.ref p]/\(bC X.K H p f∨cR X.K H p f)/\∀l,H l=none->Q (.ref l) (upd H l (.lst f))):=by
 intro i s B H xs D Q I r h;obtain⟨p,f,rfl,hq,q⟩:=h;obtain⟨u,rfl,C⟩:=vals1 r;cases C;have m:∀(a:List Value),b6 f a->f.length<=sizeLine->∀(c:Heap) (d:Nat),(∀b A,s.heap.get? b=some A->c.get? b=some A) ->
  c.get? s.heap.objs.size=some {cls:=.type "list",dict:=none,data:=.seq a.toArray d,slots:=#[]}->EP X i B Q (.ref s.heap.objs.size) {s with heap:=c}:=λa g j c d t e =>
  ⟨.ref s.heap.objs.size,_,I.laid (t':=s.toks) t (aB _) (show gJ X.prog X.w _ c _ (.lst f) from ⟨j,a,d,g,e⟩),rfl,q _ (I.hok.fresh (aB _))⟩
 rcases hq with hq|hq
 ·obtain⟨a,g,v,j⟩:=I.list hq
  have k:=g.length;obtain⟨o,y,z,n,x⟩:=v.isList;exact call_list_seq p (.inl rfl) y z x (λc d t e=>m a g j c d t e) (by simp only[aW] <;> lia)
 ·obtain⟨a,g,v,j⟩:=I.tuple hq
  have k:=g.length;obtain⟨o,y,z,n,x⟩:=v;exact call_list_seq p (.inr rfl) y z x (λc d t e=>m a g j c d t e) (by simp only[aW] <;> lia)
theorem EJ:nP X (.type "tuple") (λxs H Q=>∃p d,xs=[.ref p]/\((bC X.K H p d/\∀l,H l=none->Q (.ref l) (upd H l (.tup d)))∨(cR X.K H p d/\Q (.ref p) H))):=by
 intro a s t H xs z Q I r h;obtain⟨p,d,rfl,h⟩:=h;obtain⟨u,rfl,y⟩:=vals1 r;cases y;rcases h with ⟨i,q⟩|⟨i,q⟩
 ·obtain⟨c,j,g,k⟩:=I.list i
  have n:=j.length;refine call_tuple_list g.isList (λf x=>?_) (by simp only[aW] <;> lia);have m:Inv X a t H {s with heap:=f}:=I.kept (t':=s.toks) x;have v:Inv X a t (upd H f.objs.size (.tup d)) {s with heap:=f.push {cls:=.type "tuple",data:=.seq c.toArray}} :=
   m.laid (t':=s.toks) (λb o e=>Heap.get?_push_of_some _ e) (aB _) (show gJ X.prog X.w _ _ _ (.tup d) from ⟨k,c,j,IsTup.new _ _⟩)
  exact⟨.ref f.objs.size,_,v,rfl,q _ (m.hok.fresh (aB _))⟩
 ·obtain⟨c,j,g,k⟩:=I.tuple i
  exact call_tuple_same g ⟨.ref p,H,I,rfl,q⟩
def tyV(K:af)(T:String)(x:V)(H:Hp):Prop:=match x with
 |.str _=>T = "str"
 |.int _=>T = "int"
 |.ref p=>(T = "list" /\ ∃xs,bC K H p xs)∨(T = "tuple" /\ ∃o,K.lookup p=some o/\o.cls=.type "tuple" /\ o.dict=none) ∨
  (T = "dict" /\ ((∃kvs,H p=some (.dK kvs))∨∃kvs,H p=some (.dT kvs)))∨(T = "set" /\ ∃S n,H p=some (.set S n))
 |_=>False
theorem ahq{f:List (Addr×Obj)}{q:St}{H:Hp}{s:Shared}{T:String}{x:V}{v:Value}(I:Inv X f q H s)(r:RelV x v)(g:tyV X.K T x H) :
 s.TypeIs v T/\∀a,v=.ref a->∃ob,s.heap.get? a=some ob/\ob.dict=none:=by
 cases x with
 |str z =>
  obtain⟨t,rfl⟩:=r;cases (show T = "str" from g);exact⟨typeIs_str s z t,λ_ e=>nomatch e⟩
 |int i =>
  obtain⟨t,rfl⟩:=r;cases (show T = "int" from g);exact⟨typeIs_int s i t,λ_ e=>nomatch e⟩
 |ref p =>
  cases r;rcases g with ⟨rfl,y,u⟩|⟨rfl,o,b,w,j⟩|⟨rfl,b⟩|⟨rfl,S,n,b⟩
  ·obtain⟨m,_,l,_⟩:=I.list u
   refine⟨l.isList.typeIs,λa e=>?_⟩;cases e;obtain⟨o,n,e,c,j,_⟩:=l;exact⟨o,e,j⟩
  ·refine⟨⟨o,I.EH p o b,w⟩,λa e=>?_⟩
   cases e;exact⟨o,I.EH _ o b,j⟩
  ·have z:∃o,s.heap.get? p=some o/\o.ExactDict:=by
    rcases b with ⟨k,b⟩|⟨k,b⟩
    ·obtain⟨_,_,_,_,o,_,_,e,d,_⟩:=I.hok p _ b
     exact⟨o,e,d⟩
    ·obtain⟨_,_,_,_,o,_,_,e,d,_⟩:=I.hok p _ b
     exact⟨o,e,d⟩
   obtain⟨o,e,d⟩:=z;refine⟨⟨o,e,d.1⟩,λa h=>?_⟩;cases h;exact⟨o,e,d.2.1⟩
  ·obtain⟨o,_,_,_,e,d,_⟩:=I.hok p _ b
   refine⟨⟨o,e,d.1⟩,λa h=>?_⟩;cases h;exact⟨o,e,d.2.1⟩
 |_=>exact kr g
def tBM(K:af)(T:String)(r:V->List V->Hp->VK->Prop)(to:TE)(t:TA):TE:=λσ H Q=>to σ H λx H1=>tyV K T x H1/\t σ H1 λxs H2=>r x xs H2 Q
variable{o e:Expr}{es:List Expr}{to:TE}{t:TA}{name:Str}{apos cpos:Pos}{T id:String}{r:V->List V->Hp->VK->Prop}
theorem jJ(pa:PlainAttrs T)(g:Slot T name id)(j:typeOf (.builtin id)=pure (.type "method_descriptor"))(L:O4 X id r)(F:PE X o to)(A:PA X (e::es) t)
 (d:attributeBase o name X.env (eval o X.env)=eval o X.env:=by rfl)
 (f:((backTo cpos (starEach (e::es) X.env)).all (λx=>!x.1)&&(backToKw cpos (keywordEach [] X.env)).all (λx=>x.1.isSome)
  && decide ((e::es).length+([]:List Keyword).length+(if ([]:List Keyword).isEmpty then 0 else 1)<30))=true:=by rfl)
 (c:(apos.endLine==cpos.line)=true:=by rfl) (w:starEach (e::es) X.env=(false,eval e X.env)::starEach es X.env:=by rfl) (b:(backTo cpos (starEach es X.env)).any (·.1)=false:=by rfl) :
 PE X (.Call (.Attribute o name apos) (e::es) [] cpos) (tBM X.K T r to t):=by
 intro a s i H Q I h;refine wpAny_Call_method_late d f c rfl (gW (F a s i H _ I h) λv B ⟨x,z,k,m,C,q⟩=>?_);obtain⟨u,J⟩:=ahq k m C;refine⟨T,id,pa,g,j,u,J,?_⟩;have l:=A cpos a B i z _ k q;rw[w] at l ⊢;refine Calls.callWith_builtin (by show (false || (backTo cpos (starEach es X.env)).any (·.1))=false;rw[b] <;> rfl) (Calls.evalArgs_plain ?_);exact gW l λn G ⟨D,E,p,M,y⟩=>L a G i E x D v n Q p m M y
end
def MtM(X:Cx)(id:String)(r:V->List V->Hp->VK->Prop):Prop :=
 ∀(pins:List (Addr×Obj)) (s:Shared) (σ:St) (H:Hp) (x:V) (xs:List V) (v:Value) (us:List Value) (Q:VK),Inv X pins σ H s->RelV x v->b6 xs us->r x xs H Q ->
  wpAny (model X.prog X.w) X.A (call (.builtin id) (v::us)) (EP X pins σ Q) X.xe s
theorem b6.one:∀{x:V} {us:List Value},b6 [x] us->∃u,us=[u]/\RelV x u
 |_,_,.cons r .nil=>⟨_,rfl,r⟩
theorem b6.two:∀{x y:V} {us:List Value},b6 [x,y] us->∃u v,us=[u,v]/\RelV x u/\RelV y v
 |_,_,_,.cons r (.cons q .nil)=>⟨_,_,rfl,r,q⟩
theorem b6.zero:∀{us:List Value},b6 [] us->us=[]
 |_,.nil=>rfl
theorem b6.eraseIdx:∀{xs:List V} {us:List Value} (i:Nat),b6 xs us->b6 (xs.eraseIdx i) (us.eraseIdx i)
 |_,_,_,.nil=>.nil
 |_,_,0,.cons _ t=>t
 |_,_,i+1,.cons r t=>.cons r (b6.eraseIdx i t)
theorem b6.rep{xs:List V}{us:List Value}(h:b6 xs us):∀k:Nat,b6 (bB k xs).flatten (bB k us).flatten
 |0=>.nil
 |k+1=>by
  rw[iX,iX,xB,xB];exact b6.append h (b6.rep h k)
theorem QF{a:Type}:∀(l:List a) (i:Nat),(l.eraseIdx i).length<=l.length
 |[],_=>aB _
 |_::_,0=>gD _
 |_::r,i+1=>Nat.succ_le_succ (QF r i)
theorem foldl_rep(a:List Value):∀(k:Nat) (b:List Value),
 List.foldl (λf c=>f++c) b.toArray (bB k a.toArray)=(b++(bB k a).flatten).toArray
 |0,b=>-_
 |k+1,b=>by
  have e:b.toArray++a.toArray=(b++a).toArray:=-_
  have d:(b++a)++(bB k a).flatten=b++(bB (k+1) a).flatten:=by
   rw[iX,xB,eW]
  rw[<- d,<- foldl_rep a k (b++a),<- e,iX,fC]
section
variable{X:Cx}{pins:List (Addr×Obj)}{σ:St}{H:Hp}{s:Shared}{l b:Addr}{xs ys zs:List V}
theorem Inv.ajW{a its':List Value}{n:Nat}{f:Array Value->Array Value}{t':Nat}(I:Inv X pins σ H s)(i:H l=some (.lst xs))
 (e:s.heap.get? l=some {cls:=.type "list",data:=.seq a.toArray n}) (c:f a.toArray=its'.toArray) (h:b6 ys its') (d:ys.length<=sizeLine) :
 Inv X pins σ (upd H l (.lst ys)) {s with heap:=s.heap.update l (Obj.mapSeq f),toks:=t'}:=by
 have q:=PySem.IsL.update e f;rw[c] at q;refine I.write (x:=l) (e:=l) (by rw[i];exact trivial) (.inl rfl) (λj u g b=>(Heap.get?_update_other s.heap (Obj.mapSeq f) (cu g)).trans b) ⟨_,q⟩ ?_;exact⟨d,its',_,h,q⟩
theorem Inv.ajX{a:List Value}{t':Nat}(I:Inv X pins σ H s)(b:b6 ys a)(c:ys.length<=sizeLine) :
 Inv X pins σ (upd H s.heap.objs.size (.lst ys)) {s with heap:=s.heap.push {cls:=.type "list",data:=.seq a.toArray},toks:=t'} :=
 I.laid (λ_ _ q=>Heap.get?_push_of_some _ q) (aB _) ⟨c,a,0,b,Heap.get?_push_size _ rfl⟩
theorem Inv.fresh(I:Inv X pins σ H s):H s.heap.objs.size=none:=I.hok.fresh (aB _)
theorem Inv.abK(I:Inv X pins σ H s)(b:H l=some (.lst xs)):xs.length<=sizeLine/\∃(a:List Value) (n:Nat),b6 xs a/\xs.length=a.length/\s.heap.get? l=some {cls:=.type "list",data:=.seq a.toArray n}:=by
 obtain⟨z,a,n,r,e⟩:=I.hok l _ b;exact⟨z,a,n,r,r.length,e⟩
theorem abL{n:Nat}(h:n<=sizeLine):Builtin.List.listTooLong n=false:=by
 unfold Builtin.List.listTooLong;exact e8 ∅
end
section
variable{X:Cx}
inductive Yu(x:V)(vs:List V)(H:Hp)(Q:VK):Prop
 |mk (l:Addr) (xs:List V) (y:V) (h1:x=.ref l) (h2:vs=[y]) (h3:H l=some (.lst xs)) (h4:xs.length<sizeLine) (h5:Q .dH (upd H l (.lst (xs++[y])))):Yu x vs H Q
theorem gq:MtM X "list.append" Yu:=by
 intro b s m H x k v i Q I d f h;obtain⟨l,o,y,rfl,rfl,c,j,q⟩:=h;cases d;obtain⟨u,rfl,g⟩:=f.one;obtain⟨z,a,n,r,p,e⟩:=I.abK c;refine call_meets F.slot_list_append ⟨_,e,rfl⟩ F.entry_list_append (F.args_list_append_2 _ _) (PySem.list_append l a.toArray n u (by rw[aW];lia)) ⟨e,?_⟩;refine⟨.dH,_,I.ajW (its':=a++[u]) c e (-_) (r.append (.cons g .nil)) ?_,rfl,q⟩;rw[aA,List.length_singleton];lia
def ahr:V->List V->Hp->VK->Prop:=λx vs H Q=>∃l xs i k y,x=.ref l/\vs=[.int i]/\H l=some (.lst xs)/\-(2^63)<=i/\i<2^63/\seqIndex? i xs.length=some k/\xs[k]?=some y/\Q y (upd H l (.lst (xs.eraseIdx k)))
theorem abM:MtM X "list.pop" ahr:=by
 intro c s J H x G v E Q I D m h;obtain⟨l,A,i,k,y,rfl,rfl,d,j,p,o,f,q⟩:=h;cases D;obtain⟨u,rfl,B⟩:=m.one;obtain⟨t,rfl⟩:=B;obtain⟨z,a,n,r,C,e⟩:=I.abK d;obtain⟨w,g,b⟩:=r.get f;refine call_meets F.slot_list_pop ⟨_,e,rfl⟩ F.entry_list_pop (F.args_list_pop_2 _ _)
  (MeetsSeq.list_pop_at l a.toArray n i t k w (fitsIndex_both j p) (by rw[aW,<- C];exact o) (by rw[<- Array.getElem?_toList];exact g) (by rw[aW];lia)) ⟨e,?_⟩
 refine⟨y,_,I.ajW (its':=a.eraseIdx k) d e ?_ (r.eraseIdx k) ?_,b,q⟩
 ·show a.toArray.eraseIdxIfInBounds k=(a.eraseIdx k).toArray
  rw[List.eraseIdxIfInBounds_toArray]
 ·have:=QF A k
  lia
def am7:R2:=λx y H Q=>∃l b xs zs,x=.ref l/\y=.ref b/\H l=some (.lst xs)/\H b=some (.lst zs)/\xs.length+zs.length<=sizeLine/\∀p,H p=none->Q (.ref p) (upd H p (.lst (xs++zs)))
theorem L5:BG X (binaryOp .Add) am7:=by
 intro d s B H x y v u Q I p o h;obtain⟨l,b,C,E,rfl,rfl,k,i,A,q⟩:=h;cases p;cases o;obtain⟨z,c,n,r,D,e⟩:=I.abK k;obtain⟨t,a,w,m,j,g⟩:=I.abK i;refine PySem.P.add_list e g ?_ (by rw[aW,aW];lia);have f:c.toArray++a.toArray=(c++a).toArray:=-_
 rw[f];exact⟨.ref _,_,I.ajX (t':=s.toks) (r.append m) (by rw[aA];lia),rfl,q _ I.fresh⟩
def am8:R2:=λx y H Q=>∃l k xs,x=.ref l/\y=.int k/\H l=some (.lst xs)/\-(2^63)<=k/\k<2^63/\xs.length*k.toNat<=sizeLine /\
 ∀p,H p=none->Q (.ref p) (upd H p (.lst (bB k.toNat xs).flatten))
theorem len_rep{a:Type}(xs:List a)(k:Nat):(bB k xs).flatten.length=k*xs.length:=by
 induction k with
 |zero=>simp
 |succ k b=>rw[iX,xB,aA,b,Nat.succ_mul,Nat.add_comm]
theorem ahs:BG X (binaryOp .Mult) am8:=by
 intro p s L H x y v u Q I K G h;obtain⟨l,k,M,rfl,rfl,B,A,C,w,q⟩:=h;cases K;obtain⟨t,rfl⟩:=G;obtain⟨z,b,n,r,J,e⟩:=I.abK B;have d:b.toArray.size*k.toNat<=sizeLine:=by rw[aW,<- J];exact w
 have f:¬b.toArray.size*k.toNat > (2^63-1)/8:=by
  have:(sizeLine:Nat)<=(2^63-1)/8:=!_
  lia
 have c:¬(!Builtin.List.listFitsIndex k)=true:=by
  rw[fitsIndex_both A C];exact aO
 have j:¬Builtin.List.listTooLong (b.toArray.size*k.toNat)=true:=by
  rw[abL d];exact aO
 have g:List.foldl (λo i=>o++i) #[] (bB (if b.toArray.isEmpty=true then 0 else k.toNat) b.toArray)=(bB k.toNat b).flatten.toArray:=by
  have E:∀m:Nat,List.foldl (λo i=>o++i) #[] (bB m b.toArray)=(bB m b).flatten.toArray:=λm=>by
   have:=foldl_rep b m []
   rw[uA] at this;exact this
  rw[E];cases b with
  |nil=>simp
  |cons a N=>rw[eH (-_)]
 refine wpAny_binaryOp_repeat_ref (T:="list") (U:="int") (!_) ⟨_,e,rfl⟩ (λD=>typeIs_int D k t) noFill_list_mul F.fills_int_mul F.slot_int_rmul repeat_list F.slot_int_index.lookup
  (call_meets F.slot_int_rmul (typeIs_int s k t) F.entry_int_rmul (F.args_int_rmul_2 _ _) (int___rmul___int_list k t l b.toArray n)
   ⟨e,rfl,⟨_,e,rfl⟩,call_meets F.slot_list_mul ⟨_,e,rfl⟩ F.entry_list_mul (F.args_list_mul_2 _ _) (AutoListH.list___mul___list_int_3 l b.toArray n k t c f j) ⟨e,?_⟩⟩)
 rw[g];exact⟨.ref _,_,I.ajX (t':=s.toks) (r.rep k.toNat) (by rw[len_rep,Nat.mul_comm];exact w),rfl,q _ I.fresh⟩
end
section
variable{κ:Type}[DecidableEq κ]
noncomputable def BR(kvs:List (κ×V))(k:κ):Option V:=(kvs.find? λkv=>decide (kv.1=k)).map (·.2)
noncomputable def putK(kvs:List (κ×V))(k:κ)(v:V):List (κ×V) :=
 if (kvs.any λkv=>decide (kv.1=k))=true then kvs.map (λkv=>if kv.1=k then (kv.1,v) else kv) else kvs++[(k,v)]
theorem BS{p:κ×V}{r:List (κ×V)}{k:κ}(e:p.1=k):BR (p::r) k=some p.2:=by simp[BR,uC,e]
theorem BU{p:κ×V}{r:List (κ×V)}{k:κ}(e:¬p.1=k):BR (p::r) k=BR r k:=by simp[BR,uC,e]
theorem UG(k:κ):∀kvs:List (κ×V),(kvs.any λa=>decide (a.1=k))=(BR kvs k).isSome
 |[]=>rfl
 |p::r=>by
  rw[List.any_cons];by_cases e:p.1=k
  ·simp only[BS e,eO e,Bool.true_or,Option.isSome_some]
  ·rw[BU e,e8 e,Bool.false_or];exact UG k r
theorem Ko(kvs:List (κ×V))(k:κ)(v:V):(putK kvs k v).length<=kvs.length+1:=by
 unfold putK;split
 ·rw[ah];lia
 ·rw[aA,bH,uB];lia
theorem BK.DZ{o:Option V}{u:Option Value}(r:BK o u):o.isSome=u.isSome:=by
 cases o with
 |none=>cases u with
  |none=>rfl
  |some _=>exact (show False from r).elim
 |some _=>cases u with
  |none=>exact (show False from r).elim
  |some _=>rfl
theorem BK.getD{o:Option V}{u:Option Value}{d:V}{d':Value}(r:BK o u)(a:RelV d d'):RelV (o.getD d) (u.getD d'):=by
 cases o with
 |none=>cases u with
  |none=>exact a
  |some _=>exact (show False from r).elim
 |some _=>cases u with
  |none=>exact (show False from r).elim
  |some _=>exact r
theorem KV.val{kvs:List (κ×V)}{vs:List (κ×Value)}(r:KV kvs vs)(k:κ):BK (BR kvs k) (valueAt vs k):=by
 unfold KV at r;induction r with
 |nil=>exact pF
 |@cons p q i c h t f =>
  obtain⟨d,g⟩:=h;by_cases e:p.1=k
  ·have a:q.1=k:=d.symm.trans e
   have b:valueAt (q::c) k=some q.2:=by simp[valueAt,uC,a]
   rw[BS e,b];exact g
  ·have a:¬q.1=k:=λz=>e (d.trans z)
   have b:valueAt (q::c) k=valueAt c k:=by simp[valueAt,uC,a]
   rw[BU e,b];exact f
theorem KV.any{kvs:List (κ×V)}{vs:List (κ×Value)}(r:KV kvs vs)(k:κ):(kvs.any λa=>decide (a.1=k))=vs.any λa=>decide (a.1=k):=by
 unfold KV at r;induction r with
 |nil=>rfl
 |cons h t b=>rw[List.any_cons,List.any_cons,b,h.1]
theorem KV.repl{kvs:List (κ×V)}{vs:List (κ×Value)}(r:KV kvs vs)(k:κ){y:V}{u:Value}(f:RelV y u) :
 KV (kvs.map λa=>if a.1=k then (a.1,y) else a) (vs.map λa=>if a.1=k then (a.1,u) else a):=by
 unfold KV at r ⊢;induction r with
 |nil=>exact .nil
 |@cons p q g i h t c =>
  rw[bA,bA];refine .cons ?_ c;obtain⟨b,d⟩:=h;by_cases e:p.1=k
  ·rw[b3 e,b3 (b.symm.trans e)];exact⟨b,f⟩
  ·rw[eH e,eH (λz=>e (b.trans z))];exact⟨b,d⟩
theorem KV.put{kvs:List (κ×V)}{vs:List (κ×Value)}(r:KV kvs vs)(k:κ){y:V}{u:Value}(a:RelV y u):KV (putK kvs k y) (stored vs k u):=by
 unfold putK stored;rw[r.any k];by_cases e:(vs.any λb=>decide (b.1=k))=true
 ·rw[b3 e,b3 e];exact r.repl k a
 ·rw[eH e,eH e];exact Paired.snoc r ⟨rfl,a⟩
theorem KV.length{kvs:List (κ×V)}{vs:List (κ×Value)}(r:KV kvs vs):kvs.length=vs.length:=Paired.length r
end
theorem QG{P:Program}{w:World}{k:Key}{u:Value}(r:RelV (kV k) u):(gn P w).is k u=true:=by
 cases k with
 |inl i=>obtain⟨t,e⟩:=(show ∃t,u=Value.int i t from r);subst e;exact Ur P w i t
 |inr x=>obtain⟨t,e⟩:=(show ∃t,u=Value.str x t from r);subst e;exact Us P w x t
theorem QH{P:Program}{w:World}:∀{a:List Key} {us:List Value},b6 (a.map kV) us->ItemsAre (gn P w) a us
 |[],_,r=>by rw[List.map_nil] at r;cases r;exact .nil
 |k::a,_,r=>by
  rw[bA] at r;cases r with
  |cons h t=>exact .cons (QG h) (QH t)
abbrev KT(H:Hp):List (List Key×V)->List (List Key×Addr×Value)->Prop:=Paired λp q=>p.1=q.1/\H q.2.1=some (.tup (p.1.map kV))/\RelV p.2 q.2.2
theorem KT.val{H:Hp}{kvs:List (List Key×V)}{xs:List (List Key×Addr×Value)}(r:KT H kvs xs)(k:List Key):BK (BR kvs k) ((atKey xs k).map (·.2)):=by
 induction r with
 |nil=>exact pF
 |@cons p q i c h t f =>
  obtain⟨d,_,g⟩:=h;by_cases e:p.1=k
  ·have a:q.1=k:=d.symm.trans e
   have b:atKey (q::c) k=some q.2:=by simp[atKey,uC,a]
   rw[BS e,b];exact g
  ·have a:¬q.1=k:=λz=>e (d.trans z)
   have b:atKey (q::c) k=atKey c k:=by simp[atKey,uC,a]
   rw[BU e,b];exact f
theorem KT.repl{H:Hp}{kvs:List (List Key×V)}{xs:List (List Key×Addr×Value)}(r:KT H kvs xs)(k:List Key){y:V}{u:Value}(g:RelV y u) :
 KT H (kvs.map λb=>if b.1=k then (b.1,y) else b) (xs.map (putAt k u)):=by
 induction r with
 |nil=>exact .nil
 |@cons p q i j h t d =>
  rw[bA,bA];refine .cons ?_ d;obtain⟨a,c,f⟩:=h;unfold putAt;by_cases e:p.1=k
  ·rw[b3 e,b3 (a.symm.trans e)];exact⟨a,c,g⟩
  ·rw[eH e,eH (λz=>e (a.trans z))];exact⟨a,c,f⟩
theorem KT.put{H:Hp}{kvs:List (List Key×V)}{xs:List (List Key×Addr×Value)}(r:KT H kvs xs)(k:List Key){b:Addr}{y:V}{u:Value}(d:H b=some (.tup (k.map kV)))(a:RelV y u) :
 KT H (putK kvs k y) (storedH xs k b u):=by
 have e:(kvs.any λc=>decide (c.1=k))=(atKey xs k).isSome:=by
  rw[UG,(r.val k).DZ,Option.isSome_map]
 unfold putK storedH;rw[e];by_cases q:(atKey xs k).isSome=true
 ·rw[b3 q,b3 q];exact r.repl k a
 ·rw[eH q,eH q];exact Paired.snoc r ⟨rfl,d,a⟩
theorem KT.keeps{H c:Hp}{kvs:List (List Key×V)}{xs:List (List Key×Addr×Value)}(r:KT H kvs xs)(d:∀b a,H b=some (.tup a)->c b=some (.tup a)):KT c kvs xs :=
 Paired.ag0 r λ_ _ z=>⟨z.1,d _ _ z.2.1,z.2.2⟩
section
variable{P:Program}{w:World}{H:Hp}{h:Heap}{a:Addr}
theorem af5{u:HO}(ok:BN P w H h)(e:Rd H a u):gJ P w H h a u:=e.ok ok
theorem Yv{kvs:List (Key×V)}(ok:BN P w H h)(e:Rd H a (.dK kvs)):kvs.length<=sizeLine/\(a==sysModules)=false/\∃vs,KV kvs vs/\h.DictOf (gn P w) a vs :=
 show gJ P w H h a (.dK kvs) from af5 ok e
theorem ajZ{kvs:List (Key×V)}(ok:BN P w H h)(e:H a=some (.dK kvs)):kvs.length<=sizeLine/\(a==sysModules)=false/\∃vs,KV kvs vs/\h.DictOf (gn P w) a vs:=Yv ok (.inl e)
theorem Sd{c:List Key}(ok:BN P w H h)(e:H a=some (.tup (c.map kV))):(tupleKind (gn P w)).is h c a:=by
 obtain⟨_,b,r,o,d,g,n,f⟩:=(show gJ P w H h a (.tup (c.map kV)) from ok a _ e);exact⟨o,b.toArray,n,d,g,f,by simpa using QH r⟩
theorem Yw{kvs:List (List Key×V)}(ok:BN P w H h)(e:Rd H a (.dT kvs)):kvs.length<=sizeLine/\(a==sysModules)=false /\
 ∃xs,KT H kvs xs/\h.DictOfH (tupleKind (gn P w)) a xs:=by
 obtain⟨z,y,xs,r,o,d,j,g,k,s,n,f⟩:=(show gJ P w H h a (.dT kvs) from af5 ok e);refine⟨z,y,xs,r,o,d,j,g,k,s,n,λx hx=>?_,f⟩;have b:∀{l:List (List Key×V)} {m:List (List Key×Addr×Value)},KT H l m->∀x∈m,(tupleKind (gn P w)).is h x.1 x.2.1:=by
  intro l m q;induction q with
  |nil=>intro x hx;exact nomatch hx
  |@cons p q u v c t i =>
   intro x hx;rcases aV.mp hx with e|hx
   ·subst e
    exact Sd ok (by rw[<- c.1];exact c.2.1)
   ·exact i x hx
 exact b r x hx
theorem aj0{kvs:List (List Key×V)}(ok:BN P w H h)(e:H a=some (.dT kvs)):kvs.length<=sizeLine/\(a==sysModules)=false /\
 ∃xs,KT H kvs xs/\h.DictOfH (tupleKind (gn P w)) a xs:=Yw ok (.inl e)
end
def Pa(H:Hp)(a:Addr)(y:V)(r:Option V):Prop :=
 (∃kvs k,Rd H a (.dK kvs)/\y=kV k/\r=BR kvs k)∨∃kvs k b,Rd H a (.dT kvs)/\y=.ref b/\H b=some (.tup (k.map kV))/\r=BR kvs k
def UH(H:Hp)(a:Addr)(y v:V)(H':Hp):Prop :=
 (∃kvs k,H a=some (.dK kvs)/\y=kV k/\kvs.length<sizeLine/\H'=upd H a (.dK (putK kvs k v))) ∨
 ∃kvs k b,H a=some (.dT kvs)/\y=.ref b/\H b=some (.tup (k.map kV))/\kvs.length<sizeLine/\H'=upd H a (.dT (putK kvs k v))
theorem Pa.k{H:Hp}{a:Addr}{kvs:List (Key×V)}{k:Key}(e:H a=some (.dK kvs)):Pa H a (kV k) (BR kvs k):=.inl ⟨kvs,k,.inl e,rfl,rfl⟩
theorem Pa.t{H:Hp}{a b:Addr}{kvs:List (List Key×V)}{k:List Key}(e:H a=some (.dT kvs))(c:H b=some (.tup (k.map kV))):Pa H a (.ref b) (BR kvs k):=.inr ⟨kvs,k,b,.inl e,rfl,c,rfl⟩
theorem UH.k{H:Hp}{a:Addr}{kvs:List (Key×V)}{k:Key}{v:V}(e:H a=some (.dK kvs))(hl:kvs.length<sizeLine):UH H a (kV k) v (upd H a (.dK (putK kvs k v))):=.inl ⟨kvs,k,e,rfl,hl,rfl⟩
theorem UH.t{H:Hp}{a b:Addr}{kvs:List (List Key×V)}{k:List Key}{v:V}(e:H a=some (.dT kvs))(c:H b=some (.tup (k.map kV)))(hl:kvs.length<sizeLine) :
 UH H a (.ref b) v (upd H a (.dT (putK kvs k v))):=.inr ⟨kvs,k,b,e,rfl,c,hl,rfl⟩
section
variable{X:Cx}{pins:List (Addr×Obj)}{σ:St}{H:Hp}{s:Shared}{a:Addr}{y v:V}{u r:Value}{o:Option V}{A:Around}{E:Value->Shared->Prop}
theorem Inv.big(I:Inv X pins σ H s):sysModules<s.heap.objs.size:=by
 have h:mainGlobals<s.heap.objs.size:=(I.mod.glob.keeps I.bk).lt;exact Nat.lt_trans (!_) h
theorem am9{Q:Value->Shared->Prop}(m:A.units+1<cLine)(I:Inv X pins σ H s)(g:Pa H a y o)(j:RelV y u)(h:∀s',Inv X pins σ H s'->Q (.bool o.isSome) s') :
 wpAny (model X.prog X.w) A (compareOp .In u (.ref a)) Q E s:=by
 rcases g with ⟨f,k,e,i,l⟩|⟨f,k,b,e,i,n,l⟩
 ·subst i
  obtain⟨z,d,p,rel,c⟩:=Yv I.hok e;refine wpAny_in_of (QG j) d c.mapOf ?_;rw[<- (rel.val k).DZ,<- l];exact h _ (I.tok _)
 ·subst i
  cases (show u=Value.ref b from j);obtain⟨z,d,r,rel,c⟩:=Yw I.hok e;refine wpAny_in_heap (tupleKind_room_in1 m) (Sd I.hok n) d c ?_;have q:=(rel.val k).DZ;rw[Option.isSome_map] at q;rw[<- q,<- l];exact h _ (I.tok _)
theorem Yx{h':Heap}{t':Nat}{ob:HO}(I:Inv X pins σ H s)(d:Mut (H a))(f:Heap.SameBut a s.heap h')(g:∃q,h'.get? a=some q)(c:gJ X.prog X.w (upd H a ob) h' a ob) :
 Inv X pins σ (upd H a ob) {s with heap:=h',toks:=t'} :=
 I.write (x:=a) (e:=a) d (.inl rfl) (λb q h z=>(f.2 b h).trans z) g c
theorem aht{P:Program}{w:World}{c:Hp}{h':Heap}{kvs:List (Key×V)}{vs:List (Key×Value)}(z:kvs.length<=sizeLine)(d:(a==sysModules)=false)(b:KV kvs vs)(dd:h'.DictOf (gn P w) a vs) :
 gJ P w c h' a (.dK kvs):=⟨z,d,vs,b,dd⟩
theorem ZZ{F:Hp}{Q:Unit->Shared->Prop}(L:A.units+1<cLine)(I:Inv X pins σ H s)(g:UH H a y v F)(G:RelV y u)(C:RelV v r)(h:∀s',Inv X pins σ F s'->Q () s') :
 wpAny (model X.prog X.w) A (setItem (.ref a) u r) Q E s:=by
 rcases g with ⟨d,k,e,x,l,o⟩|⟨d,k,b,e,x,B,l,o⟩
 ·subst x o
  obtain⟨z,m,O,rel,j⟩:=ajZ I.hok e;have p:O.length<=sizeLine:=by rw[<- rel.length];exact z
  have t:(putK d k v).length<=sizeLine:=by have:=Ko d k v;lia
  refine wpAny_setItem_pairs (hsz:=p) (QG G) j λJ f n=>h _ ?_;have U:∃q,J.get? a=some q:=let ⟨q,_,_,i,_⟩:=f;⟨q,i⟩;exact Yx I (by rw[e];exact pF) n U (aht t m (rel.put k C) f)
 ·subst x o
  cases (show u=Value.ref b from G);obtain⟨z,m,R,rel,j⟩:=aj0 I.hok e;have p:R.length<=sizeLine:=by rw[<- Paired.length rel];exact z
  have t:(putK d k v).length<=sizeLine:=by have:=Ko d k v;lia
  refine wpAny_setItem_heap (hsz:=p) (tupleKind_room_in1 L) (Sd I.hok B) j λJ f n=>h _ ?_;obtain⟨q,K,N,i,P,T,S,_,M⟩:=f;refine Yx I (by rw[e];exact pF) n ⟨q,i⟩ ⟨t,m,_,(rel.put k B C).keeps λc V D=>?_,q,K,N,i,P,T,S,M⟩;rw[aK (pK D e (λz=>nomatch z))];exact D
end
def aj1(i:Expr):Prop:=∀ov iv,subscripted i false ov iv=operate [ov,iv] (getItem ov iv)
theorem aek{prog:Program}{w:World}{A:Around}{E:Value->Shared->Prop}{s:Shared}{env:Env}{b a:Expr}{l:Pos}{T id:String}{Q:Value->Shared->Prop}
 (hl:typeLookup (.type T) "__getitem__" = pure (some (.builtin id))) (n:aj1 a)
 (h:wpAny (model prog w) A (eval b env) (λo f=>wpAny (model prog w) A (eval a env) (λi c=>c.TypeIs o T/\wpAny (model prog w) A (getItem o i) Q E c) E f) E s) :
 wpAny (model prog w) A (eval (.Subscript b a l) env) Q E s:=by
 refine Subscript_ (wpAny_mono h (λo f j=>wpAny_mono j (λi c d=>?_) λ_ _ x=>x) λ_ _ x=>x);obtain⟨m,d⟩:=d;unfold subscriptTail;refine wpAny_bind ?_;rw[getitemInPython_of_ne m.not_modules];refine wpAny_bind (wpAny_specialOf m hl ?_);have g:wpAny (model prog w) A (subscripted a false o i) (λr e=>wpAny (model prog w) A (letTemporaryGo b o r >>= λ_=>pure r) Q E e) E c:=by
  rw[n o i];exact wpAny_operating (wpAny_mono d (λr e k=>wpAny_bind (wpAny_letTemporaryGo (wpAny_pure k))) λ_ _ x=>x)
 first
  |exact wpAny_pure (wpAny_bind g)
  |exact wpAny_bind (wpAny_pure (wpAny_bind g))
  |exact wpAny_bind g
def ana(ty td:TE):TE:=λσ H Q=>ty σ H λy H1=>td σ H1 λx H2=>∃a o,x=.ref a/\Pa H2 a y o/\Q (.bl o.isSome) H2
def aj2(td ty tv:TE):TS:=λD σ H=>tv σ H λv H1=>td σ H1 λx H2=>ty σ H2 λy H3=>∃a H4,x=.ref a/\UH H3 a y v H4/\D.nx σ H4
section
variable{X:Cx}{o i e value:Expr}{pos pos' tpos:Pos}{td ty tv:TE}
theorem ahu(d:X.A.units+1<cLine)(q:PE X i ty)(t:PE X o td):PC X .In i o (ana ty td):=by
 intro b s c H Q I h;refine gW (q b s c H _ I h) λB m ⟨y,l,n,w,f⟩=>gW (t b m c l _ n f) λu C ⟨x,r,e,z,a,k,v,g,j⟩=>?_;subst v;obtain rfl:u=Value.ref a:=z;exact am9 d e g w λD p=>⟨.bl k.isSome,r,p,rfl,j⟩
theorem Yy(d:X.A.units+1<cLine)(B:PE X o td)(w:PE X i ty)(K:PE X value tv)(j:swapsWith value (some (.Subscript o i pos')) pos.line X.env=pure false) :
 PS X (.Assign [.Subscript o i pos'] value pos) (aj2 td ty tv):=by
 intro b s c H D I h;refine wpAny_Assign_Subscript (gW (K b s c H _ I h) λr m ⟨v,l,n,p,f⟩=>gW (B b m c l _ n f) λu C ⟨x,z,e,L,k⟩=>gW (w b C c z _ e k) λO P ⟨y,N,q,J,a,E,G,g,t⟩=>?_) j;subst G;obtain rfl:u=Value.ref a:=L;exact ZZ d q g J p λM F=>⟨c,E,F,t⟩
end
theorem abN{P:Program}{w:World}{H:Hp}(h:Heap)(a:sysModules<h.objs.size):gJ P w H (h.push {cls:=.type "dict",data:=.dict #[]}) h.objs.size (.dK []) :=
 ⟨be _,beq_eq_false_iff_ne.mpr (cu (bT a)),[],.nil,Heap.DictOf.new h⟩
theorem abO{P:Program}{w:World}{H:Hp}(h:Heap)(a:sysModules<h.objs.size):gJ P w H (h.push {cls:=.type "dict",data:=.dict #[]}) h.objs.size (.dT []) :=
 ⟨be _,beq_eq_false_iff_ne.mpr (cu (bT a)),[],.nil,_,#[],0,Heap.get?_push_size _ rfl,⟨rfl,rfl,rfl⟩,rfl,rfl,iU⟩
def ahv:TE:=λ_ H Q=>∀p,H p=none->Q (.ref p) (upd H p (.dK []))
def ahw:TE:=λ_ H Q=>∀p,H p=none->Q (.ref p) (upd H p (.dT []))
section
variable{X:Cx}{pos:Pos}
theorem abP:PE X (.Dict [] [] pos) ahv:=λb s c H Q I h =>
 wpAny_Dict_empty ⟨.ref s.heap.objs.size,_,I.laid (a:=s.heap.objs.size) (o:=.dK []) (t':=s.toks) (λ_ _ q=>Heap.get?_push_of_some _ q) (aB _) (abN s.heap I.big),rfl,h _ (I.hok.fresh (aB _))⟩
theorem UI:PE X (.Dict [] [] pos) ahw:=λb s c H Q I h =>
 wpAny_Dict_empty ⟨.ref s.heap.objs.size,_,I.laid (a:=s.heap.objs.size) (o:=.dT []) (t':=s.toks) (λ_ _ q=>Heap.get?_push_of_some _ q) (aB _) (abO s.heap I.big),rfl,h _ (I.hok.fresh (aB _))⟩
end
structure M1(X:Cx)(o:Expr)(m:Str)(apos:Pos)(e:Expr)(cpos:Pos):Prop where
 base:attributeBase o m X.env (eval o X.env)=eval o X.env
 few:((backTo cpos (starEach [e] X.env)).all (λx=>!x.1)&&(backToKw cpos (keywordEach [] X.env)).all (λx=>x.1.isSome)
  && decide (([e]:List Expr).length+([]:List Keyword).length+(if ([]:List Keyword).isEmpty then 0 else 1)<30))=true
 line:(apos.endLine==cpos.line)=true
 trees:backTo cpos (starEach [e] X.env)=[(false,eval e X.env)]
def IsD(H:Hp)(a:Addr):Prop:=(∃kvs,Rd H a (.dK kvs))∨∃kvs,Rd H a (.dT kvs)
theorem ahx{X:Cx}{f:List (Addr×Obj)}{k:St}{H:Hp}{s:Shared}{a:Addr}(I:Inv X f k H s)(d:IsD H a) :
 s.TypeIs (.ref a) "dict" /\ (∀b,Value.ref a=.ref b->∃ob,s.heap.get? b=some ob/\ob.dict=none)/\(a==sysModules)=false:=by
 rcases d with ⟨i,e⟩|⟨i,e⟩
 ·obtain⟨_,g,l,_,c⟩:=Yv I.hok e
  refine⟨c.typeIs,λb q=>?_,g⟩;cases q;obtain⟨ob,_,_,h,j,_⟩:=c;exact⟨ob,h,j.2.1⟩
 ·obtain⟨_,g,m,_,c⟩:=Yw I.hok e
  refine⟨c.typeIs,λb q=>?_,g⟩;cases q;obtain⟨ob,_,_,h,j,_⟩:=c;exact⟨ob,h,j.2.1⟩
section
variable{X:Cx}{pins:List (Addr×Obj)}{σ:St}{H:Hp}{s:Shared}{a:Addr}{y d:V}{u r:Value}{o:Option V}{A:Around}{E:Value->Shared->Prop}
theorem ahy{Q:Value->Shared->Prop}(m:A.units+1<cLine)(I:Inv X pins σ H s)(g:Pa H a y o)(j:RelV y u)(h:∀w' s',Inv X pins σ H s'->RelV (o.getD .dH) w'->Q w' s') :
 wpAny (model X.prog X.w) A (call (.builtin "dict.get") [.ref a,u]) Q E s:=by
 rcases g with ⟨f,k,e,i,l⟩|⟨f,k,b,e,i,n,l⟩
 ·subst i
  obtain⟨z,d,q,rel,c⟩:=Yv I.hok e;refine call_meetsIn PySem.F.slot_dict_get c.typeIs PySem.F.entry_dict_get (PySem.F.args_dict_get_2 _ _) (meets_dict_get (gn X.prog X.w) a (QG j) d) ⟨_,c.mapOf,h _ _ (I.tok _) ?_⟩;rw[l];exact (rel.val k).getD rfl
 ·subst i
  cases (show u=Value.ref b from j);obtain⟨z,d,p,rel,c⟩:=Yw I.hok e;refine call_meetsIn PySem.F.slot_dict_get c.typeIs PySem.F.entry_dict_get (PySem.F.args_dict_get_2 _ _) (meetsH_dict_get (tupleKind (gn X.prog X.w)) a b d) ⟨tupleKind_room_in1 m,k,p,Sd I.hok n,c,h _ _ (I.tok _) ?_⟩;rw[l];exact (rel.val k).getD rfl
end
def ahz(td ty:TE):TE:=λσ H Q=>td σ H λx H1=>∃a,x=.ref a/\IsD H1 a/\ty σ H1 λy H2=>∃o,Pa H2 a y o/\Q (o.getD .dH) H2
section
variable{X:Cx}{o e f:Expr}{apos cpos:Pos}{td ty tx:TE}
theorem abQ(j:X.A.units+1<cLine)(v:PE X o td)(C:PE X e ty)(m:M1 X o "get" apos e cpos):PE X (.Call (.Attribute o "get" apos) [e] [] cpos) (ahz td ty):=by
 intro b s i H Q I h;refine wpAny_Call_method m.base m.few m.line PySem.F.plainAttrs_dict PySem.F.slot_dict_get PySem.F.type_dict_get (gW (v b s i H _ I h) λu q ⟨x,p,f,D,a,z,d,l⟩=>?_);subst z;obtain rfl:u=Value.ref a:=D;obtain⟨w,E,_⟩:=ahx f d;refine⟨w,E,?_⟩;rw[m.trees];refine Calls.callWith_builtin rfl (Calls.evalArgs_plain (Calls.spliced_cons (gW (C b q i p _ f l) λJ L ⟨y,t,k,B,G,g,n⟩=>Calls.spliced_nil ?_)));exact ahy j k g B λK M r c=>⟨_,t,r,c,n⟩
end
end L2
namespace Att
open PySem PySem.W PySem.Calls PyProof.Rows
theorem La{P:Params}{h:Heap}:∀(ns:List Int) (vs:List Value),WellAll P h vs (ns.map WData.int)->IntsAre vs ns:=by
 intro ns;induction ns with
 |nil =>
  intro vs w;rw[List.map_nil] at w;cases w;exact .nil
 |cons n ns c =>
  intro vs w;rw[bA] at w;cases w with
  |cons a b =>
   cases a;exact .cons _ _ (c _ b)
theorem Z0{l:OpenLaw}{n:Nat}(x:l.most=some n){P:Params}{h:Heap}{args:List WData}{c:List Value}
 (b:l.row.toRowW.claim.pre args=true) (k:WellAll P h c args) :
 ∃a vs ns,c=[Value.ref a]/\args=[WData.list (ns.map WData.int)]/\h.get? a=some {cls:=.type "list",data:=.seq vs.toArray}/\IntsAre vs ns/\ns.length<=n:=by
 have j:WShape.hasAll [] args [.list .int]=true:=(pre_splitW b).1;have m:l.pre.holds [] {args:=args}=true:=(pre_splitW b).2;obtain⟨d,r,rfl,p,u⟩:=hasAllW_cons j;obtain rfl:=hasAllW_nil u;obtain⟨y,rfl,w⟩:=hasW_list p;obtain⟨ns,rfl⟩:=items_int w;have f:ns.length<=n:=by
  unfold OpenLaw.pre at m;have i:(WTm.not (.lt (.lit (.int (n:Int))) (.len (.arg 0)))).holds [] {args:=[.list (ns.map .int)]}=true:=by
   have i:=(holds_andW m).1;rw[x] at i;exact i
  have g:=condW_of i (w_not (w_lt w_lit (w_len_list (w_arg rfl))));rw[ah] at g;refine Nat.le_of_not_lt λq=>?_;have s:(n:Int)<((ns.length:Nat):Int):=∅
  first
   | (rw[eO s] at g;exact eL g (!_))
   | (simp at g;lia)
 cases k with
 |cons o v =>
  cases v;cases o with
  |list t e=>exact⟨_,_,ns,rfl,rfl,t,La ns _ e,f⟩
theorem Z1(l:OpenLaw)(args:List WData):l.row.toRowW.claim.post args (.bool true) args=true :=
 postW_of (r:=l.row.toRowW) (X:=(true==true))
  (show WShape.has [] (.bool true) .bool=true by first|rfl|decide|simp[WShape.has,WShape.arms,WShape.armsAll])
  (show (WTm.eq .res (.lit (.bool true))).value [] {args:=args,res:=some (.bool true),after:=args}=some (.bool (true==true)) from w_eq_bool (w_res rfl) w_lit) rfl
theorem UJ{l:OpenLaw}{n:Nat}{q:Program}{e:List Str}{XP:(Str->Option Value)->Heap->Prop}{E:World->Heap->Prop}{d:DefRec}
 (J:l.most=some n) (y:d.params.defaults=[])
 (call:∀(w:World) (c b:Shared) (s u:Str->Option Value) (j:Addr) (o:Obj) (z p h:Value) (a:Addr) (vs:List Value) (ns:List Int),
  Ground q e [] XP w c s u b.heap->E w b.heap ->
  b.heap.get? j=some o->o.data=.func (docDef d.name d.params d.body d.scope z p h)->b.heap.CodeRec p d.name->s d.name=some (.ref j) ->
  b.heap.get? a=some {cls:=.type "list",data:=.seq vs.toArray}->IntsAre vs ns->ns.length<=n->b.gens=#[] ->
  codeAny (model l.prog w) callerA (.call (.ref j) ⟨[.ref a],[]⟩) (λr t=>r=.ok (.ret (.bool true))/\OldK b.heap t.heap/\t.os=b.os/\AllBare t.gens) b) :
 WalkO q e XP E l.row.toRowW d [] (λf vs=>PySem.call f vs):=by
 intro w c b s u G Y j o z p h dV kV L K v B x H C F S i D O A I;obtain rfl:dV=.none:=Dflts.none B y;obtain rfl:kV=.none:=Dflts.noKw B;obtain⟨a,vs,ns,rfl,rfl,k,g,m⟩:=Z0 J i A;refine enter_call (codeAny_mono (call w c b s u j o z p h a vs ns G Y L (fd_plain K) v x k g m H) λr t Q=>?_);obtain⟨rfl,M,R,P⟩:=Q;exact⟨.inl ⟨.bool true,.bool true,[],rfl,λ_=>rfl,.bool true,Z1 l _,λ_=>⟨List.Pairwise.nil,λ_ N=>(nomatch N)⟩⟩,M,R,P⟩
end Att
namespace L2
open PySem PySem.Spec PyProof.Rows
theorem QI:∀{vs:List Value} {ns:List Int},IntsAre vs ns->b6 (ns.map V.int) vs
 |_,_,.nil=>.nil
 |_,_,.cons n t h=>.cons ⟨t,rfl⟩ (QI h)
def ahA(H:Hp):Prop:=∀b,H b=none∨∃o xs,H b=some (.Ut o (.lst xs))
theorem abR{P:Program}{w:World}{K:af}{E O:Str->Option Value}{CX:ZV}{k:Nat}{J a:Addr}{fd:FuncData}{x:Str}{sp:Sp}{c:Shared}{vs:List Value}{ns:List Int}
 (W:K.In c.heap) (p:c.heap.Ns mainGlobals E) (f:c.heap.Ns builtinsNs O) (N:∀x:Str,x≠"__name__" -> O x=bootBuiltins x) (G:c.heap.NoLimit) (hg:c.gens=#[])
 (I:c.heap.get? a=some {cls:=.type "list",data:=.seq vs.toArray}) (hi:IntsAre vs ns) (hl:ns.length<=sizeLine) (hr:kh k callerA)
 (F:∀base:Heap,K.In base->base.Ns mainGlobals E->bL P w K E base CX k J fd [x] sp) (l:∀(s:Shared) (u:Value),BindsTo s fd ⟨[u],[]⟩ [(x,u)])
 (S:∀H:Hp,ahA H->bC K H a (ns.map V.int)->sp [.ref a] H (λv _=>v=.bl true) λ_ _ _=>False)
 (Q:∀H e g,CX [] H c (λ_ _ _=>False) e g->False) :
 codeAny (model P w) callerA (.call (.ref J) ⟨[.ref a],[]⟩) (λr g=>r=.ok (.ret (.bool true))/\OldK c.heap g.heap/\g.os=c.os/\AllBare g.gens) c:=by
 have rv:=QI hi;have M:=hi.length;have j:∀H:Hp,ahA H->bC K H a (ns.map V.int)->BN P w H c.heap->(∀b,H b≠none->b=a)->(H a≠none->K.lookup a=none) ->
  codeAny (model P w) callerA (.call (.ref J) ⟨[.ref a],[]⟩) (λr g=>r=.ok (.ret (.bool true))/\OldK c.heap g.heap/\g.os=c.os/\AllBare g.gens) c:=by
  intro H Z hS C X hK;have Y:∀{b:Addr} {o:Obj},c.heap.get? b=some o->H b=none->(RV c.heap H).get? b=some o:=λe n=>abj e n;have T:∀{b:Addr} {o:Obj} {A:Array DictEntry} {t:Nat},c.heap.get? b=some o->o.data=.dict A t->H b=none:=λ{b o A t} e d=>by
   cases q:H b with
   |none=>rfl
   |some u =>
    have L:b=a:=X b (by rw[q];simp);subst L;rw[I] at e;cases e;have d':Data.seq vs.toArray _=Data.dict A t:=d;cases d'
  have i:∀{b:Addr} {m:Str->Option Value},c.heap.Ns b m->(RV c.heap H).Ns b m:=λ{b m} ⟨o,A,t,e,d,r⟩=>⟨o,A,t,Y e (T e d),d,r⟩;have D:K.In (RV c.heap H):=λb o e=>Y (W b o e) (by
   cases q:H b with
   |none=>rfl
   |some u =>
    have L:b=a:=X b (by rw[q];simp);subst L;rw[hK (by rw[q];simp)] at e;cases e)
  have hM:Mod K E (RV c.heap H):=⟨D,i p,⟨O,i f,N⟩,let ⟨mc,h1,h2⟩:=G;⟨mc,i h1,h2⟩⟩;have e0:WR P w K E (RV c.heap H) callerA [] c H:=⟨rfl,hM,λb o e=>ad8 e,Nat.le_of_eq (ZM _ _),trivial,λb f=>eL (show b∈([]:List Addr) from f) (-_),C,.of_eq hg⟩;refine codeAny_mono ((F _ D (i p)).run callerA [] c H ⟨[.ref a],[]⟩ [.ref a] [.ref a] _ _ hr e0 (l c (.ref a)) (.cons rfl .nil) (S H Z hS)) λr g h=>?_;cases r with
  |error e=>exact (Q H e g h).elim
  |ok fl =>
   cases fl with
   |next=>exact kr h
   |brk=>exact kr h
   |cont=>exact kr h
   |ret u =>
    obtain⟨v,H',os,y,un,U,r',q⟩:=h;have q':v=.bl true:=q;subst q';obtain rfl:u=Value.bool true:=r';refine⟨rfl,OldK.of_keep λb o e=>?_,os,y⟩;cases q:H b with
    |none=>exact un.keep b o e q (by intro z;exact eL (show b∈([]:List Addr) from z) (-_)) (-_)
    |some u =>
     rcases Z b with z|⟨ob,xs,z⟩
     ·rw[q] at z;cases z
     ·have z2:=un.G3 b ob _ z
      obtain⟨e1,_⟩:=C b _ z;obtain⟨e2,_⟩:=U b _ z2;rw[e] at e1;cases e1;exact e2
 cases R:K.lookup a with
 |some o =>
  have e:=W a o R;rw[I] at e;cases e;refine j (λ_=>none) (λ_=>.inl rfl) (.inr ⟨_,vs.toArray,_,R,rfl,rfl,rfl,by rw[aW,M];exact hl,by simpa using rv⟩) (λb u z=>by have B:(none:Option HO)=some u:=z;cases B) (λb z=>eL rfl z) λz=>eL rfl z
 |none =>
  refine j (λb=>if b=a then some (.Ut {cls:=.type "list",data:=.seq vs.toArray} (.lst (ns.map V.int))) else none) (λb=>?_) (.inl (.inr ⟨{cls:=.type "list",data:=.seq vs.toArray},b3 rfl⟩)) (λb u z=>?_) (λb z=>?_) λ_=>R
  ·by_cases f:b=a
   ·exact .inr ⟨_,_,b3 f⟩
   ·exact .inl (eH f)
  ·by_cases f:b=a
   ·have B:=(b3 f).symm.trans z
    cases B;subst f;exact⟨I,by rw[ah];exact hl,vs,_,rv,I⟩
   ·have B:=(eH f).symm.trans z
    cases B
  ·by_cases f:b=a
   ·exact f
   ·exact eL (eH f) z
theorem ael{l:PySem.W.OpenLaw}{n k:Nat}{q:Program}{j:List Str}{XP:(Str->Option Value)->Heap->Prop}{J:World->Heap->Prop}{d:DefRec}{K:Params->af}{CX:World->ZV}{sp:World->Sp}{x:Str}
 (X:l.most=some n) (y:n<=sizeLine) (A:d.params.defaults=[]) (S:kh k callerA)
 (U:∀(w:World) (h:Heap),J w h->(K w.params).In h)
 (F:∀(w:World) (m:Str->Option Value) (t:Addr) (h:Heap),(K w.params).In h->h.Ns mainGlobals m->m d.name=some (.ref t) ->
  ∃C:FuncData,(∀(s:Shared) (u:Value),BindsTo s C ⟨[u],[]⟩ [(x,u)]) /\
   ∀base:Heap,(K w.params).In base->base.Ns mainGlobals m->bL l.prog w (K w.params) m base (CX w) k t C [x] (sp w))
 (D:∀(w:World) (H:Hp) (a:Addr) (ns:List Int),ns.length<=n->ahA H->bC (K w.params) H a (ns.map V.int)->sp w [.ref a] H (λv _=>v=.bl true) λ_ _ _=>False)
 (B:∀(w:World) (H:Hp) (s:Shared) (e:Value) (s':Shared),CX w [] H s (λ_ _ _=>False) e s'->False) :
 PySem.W.WalkO q j XP J l.row.toRowW d [] (λf vs=>PySem.call f vs):=by
 refine Att.UJ X A λw I r m Z t o pm cd Q a vs ns G Y ho hd L z p i c M=>?_;have E:=U w _ Y;obtain⟨C,O,N⟩:=F w m t _ E G.T.g z;exact abR E G.T.g G.T.b G.T.builtins G.T.nolimit M p i (ay c y) S N O (λH P R=>D w H a ns c P R) λH e s'=>B w H r e s'
noncomputable def inClass(s:Stmt)(j:Nat):Stmt:=match s with
 |.ClassDef _ _ _ body _ _ _ _ _ _ _=>body.getD j (.Pass ⟨0,0,0,0⟩)
 |_=>.Pass ⟨0,0,0,0⟩
noncomputable def j5(s:Stmt):Arguments:=match s with
 |.FunctionDef _ a _ _ _ _ _ _ _ _=>a
 |_=>{posonlyargs:=[],args:=[],vararg:=none,kwonlyargs:=[],kw_defaults:=[],kwarg:=none,defaults:=[]}
noncomputable def gu(s:Stmt):List Stmt:=match s with
 |.FunctionDef _ _ b _ _ _ _ _ _ _=>b
 |_=>[]
noncomputable def av(s:Stmt):Scope:=match s with
 |.FunctionDef _ _ _ _ _ _ sc _ _ _=>sc
 |_=>{kind:=.function,names:=[],isGenerator:=false,isCoroutine:=false}
abbrev fP:ZV:=λ_ _ _ _ _ _=>False
abbrev E0:XK:=λ_ _ _=>False
theorem iz{X:Cx}:uF fP X E0:=λ_ _ _ _ _ _ _ h=>h.elim
structure WC(K:af)(x qual:Str)(st:Stmt)(f:Addr)(fd:FuncData):Prop where
 ex:∃(oc:Value) (od:Option Addr) (kV doc pm:Value) (an:Option Addr) (cdv ct:Value) (osl:Array (Option Value)),
  fd=fm x qual (j5 st) (gu st) (av st) .none kV doc pm an cdv ct/\K.lookup f=some ⟨oc,od,.func fd,osl⟩/\jY K cdv qual=true
 kp:dJ K (.ref f)=true
section
variable{P:Program}{w:World}{K:af}{mg:Str->Option Value}{base:Heap}
theorem WC.ok{x b:Str}{st:Stmt}{f:Addr}{j:FuncData}{N ps:List Str}{k:Nat}{sp:Sp}(F:WC K x b st f j)(S:aE N ps (av st))(g:∀vs H Q E,sp vs H Q E->vs.length=ps.length)
 (d:∀(c:Value) (A:Around) (a:List Env) (s:Shared) (H:Hp) (vs:List V) (Q:VK) (E:XK),kh k (A.deeper (envOfC b (av st) s.heap.objs.size f c))->sp vs H Q E ->
  ∃t,iQ (pT fP P w K mg base N b (av st) f c A a s H E).wj (gu st) t/\t {nx:=λ_ n=>Q .dH n,rt:=Q} (start N vs) H):bL P w K mg base fP (k+1) f j ps sp:=by
 obtain⟨p,r,kV,m,u,y,c,v,l,rfl,lk,e⟩:=F.ex;refine abF lk e S g λA a s H vs Q E o i=>?_;obtain⟨t,h,q⟩:=d c A a s H vs Q E o i;exact⟨t,h.wj,q⟩
theorem WC.binds{x a:Str}{st:Stmt}{f:Addr}{g:FuncData}{ps:List Str}(F:WC K x a st f g)
 (h:∀(kV b d:Value) (e:Option Addr) (c ct:Value) (us:List Value),us.length=ps.length->bindArgs (fm x a (j5 st) (gu st) (av st) .none kV b d e c ct) ⟨us,[]⟩=pure (ps.zip us)):Binds K g ps []:=by
 obtain⟨k,l,kV,b,d,e,c,ct,j,rfl,lk,i⟩:=F.ex;exact .all (h kV b d e c ct)
theorem abS{x a:Str}{st:Stmt}{f:Addr}{j:Value}{i h:Option Addr}{e:Array (Option Value)}{kV d g b ct:Value}(l:K.lookup f=some ⟨j,i,.func (fm x a (j5 st) (gu st) (av st) .none kV d g h b ct),e⟩)
 (c:jY K b a=true) (k:dJ K (.ref f)=true):WC K x a st f (fm x a (j5 st) (gu st) (av st) .none kV d g h b ct):=⟨⟨j,i,kV,d,g,h,b,ct,e,rfl,l,c⟩,k⟩
end
theorem UK{A:Around}{k:Nat}(a:kh k A):A.units+1<cLine:=bq (bI (by decide:1<=64) _) a.units
theorem bX{n:Nat}(h:n<=1000):n<sizeLine:=bq h (!_)
section
variable{X:Cx}
theorem pv(i:Nat){x:Str}{a:Pos}(d:X.N[i]?=some x:=by rfl)(e:Vis X.env.scope x:=by first|exact Or.inl rfl|exact Or.inr (Or.inl rfl)|exact Or.inr (Or.inr rfl))(c:(x==("__debug__" : Str))=false:=by decide)
 (b:(x==("__classdict__" : Str))=false:=by decide):PE X (.Name x a) (IP i):=ag3 d e c b
end
theorem dO{A B:Prop}(h:B):if false=true then A else B:=by
 rw[eH aO];exact h
theorem dZ{A B:Prop}(h:A):if true=true then A else B:=by
 rw[b3 rfl];exact h
theorem jh{c A B:Prop}[Decidable c](a:c->A)(b:¬c->B):if c then A else B:=by
 by_cases h:c
 ·rw[b3 h]
  exact a h
 ·rw[eH h]
  exact b h
def aC(H H':Hp):Prop:=∀b o,H b=some o->H' b=some o
theorem aC.refl(H:Hp):aC H H:=λ_ _ h=>h
theorem aC.trans{H e d:Hp}(a:aC H e)(b:aC e d):aC H d:=λc o h=>b c o (a c o h)
theorem aC.free{H a:Hp}(e:aC H a){l:Addr}(h:a l=Option.none):H l=Option.none:=by
 cases q:H l with
 |none=>rfl
 |some o =>
  rw[e l o q] at h;cases h
theorem aC.seq{K:af}{H b:Hp}{a:Addr}{xs:List V}(e:aC H b)(h:bC K H a xs):bC K b a xs:=by
 rcases h with (h|⟨o,h⟩)|h
 ·exact .inl (.inl (e _ _ h))
 ·exact .inl (.inr ⟨o,e _ _ h⟩)
 ·exact .inr h
theorem Z2{env:Env}{x:Str}{c:Addr}(h:env.cells.lookup x=some c):cellOf env x=pure c:=by
 unfold cellOf;rw[h]
noncomputable def nS(env:Env):List (Str×NameKind)->List (Str×Addr)->List (Str×Addr)
 |[],cs=>cs
 | (n,k)::r,cs=>nS env r (if k==.free then (n,(env.cells.lookup n).getD 0)::cs else cs)
theorem Se{env:Env}:∀(ns:List (Str×NameKind)) (cs:List (Str×Addr)),(∀n,(n,NameKind.free)∈ns->∃c,env.cells.lookup n=some c) ->
 (forIn (m:=Sem) ns cs λx r=>match x with
  | (a,d)=>if (d==NameKind.free)=true then do let c <- cellOf env a;pure (kq ((a,c)::r)) else pure (kq r))=pure (nS env ns cs)
 |[],cs,_=>rfl
 | (n,k)::r,cs,h=>by
  rw[List.forIn_cons];by_cases b:(k==NameKind.free)=true
  ·have g:k=.free:=by simpa using b
   obtain⟨c,e⟩:=h n (by rw[g];exact aL);simp only[b,if_true,Z2 e];have q:=Se r ((n,c)::cs) λm f=>h m (aM _ f);show (forIn (m:=Sem) r ((n,c)::cs) _)=pure (nS env r (if (k==.free)=true then (n,(env.cells.lookup n).getD 0)::cs else cs));rw[b3 b,e];exact q
  ·simp only[b]
   have q:=Se r cs λm f=>h m (aM _ f);show (forIn (m:=Sem) r cs _)=pure (nS env r (if (k==.free)=true then (n,(env.cells.lookup n).getD 0)::cs else cs));rw[eH b];exact q
theorem EK{scope:Scope}{env:Env}(h:∀n,(n,NameKind.free)∈scope.names->∃c,env.cells.lookup n=some c):closureFor scope env=pure (nS env scope.names []):=by
 have e:=Se scope.names [] h;unfold closureFor;show (forIn (m:=Sem) scope.names [] (λx r=>match x with
  | (a,b)=>if (b==NameKind.free)=true then do let c <- cellOf env a;pure (kq ((a,c)::r)) else pure (kq r)) >>= λs=>pure s)=_
 rw[e];rfl
theorem mX{env:Env}{x:Str}{c:Addr}:∀(ns:List (Str×NameKind)) (cs:List (Str×Addr)),(∀n,(n,NameKind.free)∈ns->∃c,env.cells.lookup n=some c)->(cs.lookup x=some c->env.cells.lookup x=some c) ->
 (nS env ns cs).lookup x=some c->env.cells.lookup x=some c
 |[],_,_,a,h=>a h
 | (n,k)::r,cs,g,a,h=>by
  unfold nS at h;refine mX r _ (λm j=>g m (aM _ j)) (λq=>?_) h;by_cases f:(k==NameKind.free)=true
  ·have i:k=.free:=by simpa using f
   subst i;obtain⟨d,e⟩:=g n aL;rw[b3 f,e,fL] at q;by_cases b:(x==n)=true
   ·have l:x=n:=by simpa using b
    rw[b] at q;subst l;rw[e];exact q
   ·simp only[b] at q
    exact a q
  ·rw[eH f] at q
   exact a q
theorem FU{env:Env}{x:Str}:∀(ns:List (Str×NameKind)) (cs:List (Str×Addr)),((cs.lookup x).isSome=true∨(x,NameKind.free)∈ns)->((nS env ns cs).lookup x).isSome=true
 |[],_,h=>h.elim id λz=>eL z (-_)
 | (n,k)::r,cs,h=>by
  unfold nS;refine FU r _ ?_;rcases h with h|h
  ·refine .inl ?_
   split
   ·rw[fL]
    split
    ·rfl
    ·exact h
   ·exact h
  ·rcases aV.mp h with e|h
   ·cases e
    refine .inl ?_;rw[b3 (show (NameKind.free==NameKind.free)=true from rfl),fL];simp
   ·exact .inr h
noncomputable def jK(cap:List (Option Nat))(σ:St):St:=cap.map λo=>o.bind λj=>(σ[j]?).join
noncomputable def mY(X:Cx)(scope:Scope)(N':List Str)(fp:List Addr)(pins:List (Addr×Obj))(s₃:Shared)(anf:Hp):Cx where
 prog:=X.prog
 w:=X.w
 K:=X.K
 mg:=X.mg
 base:=X.base
 A:=X.A
 N:=N'
 s₀:=s₃
 H₀:=anf
 env:=compEnvC scope (nS X.env scope.names []) s₃.heap.objs.size X.env
 outer:=X.stack
 stack:=X.stack
 ex:=fp
 fn:=λ_=>false
 calm:=X.calm
 pn:=X.pn++pins
 xe:=λ_ _=>False
structure jm(X:Cx)(scope:Scope)(N':List Str)(cap:List (Option Nat)):Prop where
 kind:scope.kind=.function
 WX:∀y∈scope.names,y.2≠.cell
 loc:∀y∈scope.names,y.2=.local->scope.names.lookup y.1=some .local
 fr:∀y∈scope.names,y.2=.free->X.env.kindOf y.1=some .cell
 frl:∀y∈scope.names,y.2=.free->scope.names.lookup y.1=some .free
 nd:N'.Nodup
 len:cap.length=N'.length
 cap:∀(i j:Nat) (x:Str),cap[i]?=some (some j)->N'[i]?=some x->X.N[j]?=some x/\(x,NameKind.free)∈scope.names
section
variable{X:Cx}{scope:Scope}{N':List Str}{cap:List (Option Nat)}{fp:List Addr}{pins:List (Addr×Obj)}{s:Shared}{σ:St}{H:Hp}
theorem jm.clos(S:jm X scope N' cap)(ok:X.Ok):∀n,(n,NameKind.free)∈scope.names->∃c,X.env.cells.lookup n=some c:=λn a=>ok.has n (.inl (S.fr _ a rfl))
theorem z4{env:Env}{x:Str}:∀{names:List (Str×NameKind)} {k:NameKind},
 (names.map λ(n,k)=>if (k==NameKind.free&&env.scope.kind==.function&&env.kindOf n==some .cell) then (n,NameKind.cell) else (n,k)).lookup x=some k->k=.cell∨k=.free->(∀y∈names,y.2≠.cell)->(x,NameKind.free)∈names
 |[],_,h,_,_=>by simp at h
 | (n,q)::r,k,h,hk,d=>by
  have h':rU x ((if (q==NameKind.free&&env.scope.kind==.function&&env.kindOf n==some .cell)=true then (n,NameKind.cell) else (n,q))::(r.map λ(n,k)=>if (k==NameKind.free&&env.scope.kind==.function&&env.kindOf n==some .cell) then (n,NameKind.cell) else (n,k)))=some k:=h;by_cases b:(x==n)=true
  ·have g:x=n:=by simpa using b
   subst g;by_cases c:(q==NameKind.free&&env.scope.kind==.function&&env.kindOf x==some .cell)=true
   ·have:q=.free:=by
     rw[dF,dF] at c
     simpa using c.1.1
    subst this;exact aL
   ·rw[eH c,fL,b] at h'
    have e:q=k:=aR h';subst e;rcases hk with hk|hk
    ·exact eL hk (d _ aL)
    ·rw[hk];exact aL
  ·have a:(x==n)=false:=by simpa using b
   refine aM _ (z4 (env:=env) (k:=k) ?_ hk λy f=>d y (aM _ f));split at h'
   ·rw[fL,a] at h';exact h'
   ·rw[fL,a] at h';exact h'
theorem Hh{env:Env}{x:Str}(c:env.scope.kind=.function)(b:env.kindOf x=some .cell):∀{names:List (Str×NameKind)},names.lookup x=some .free ->
 (names.map λ(n,k)=>if (k==NameKind.free&&env.scope.kind==.function&&env.kindOf n==some .cell) then (n,NameKind.cell) else (n,k)).lookup x=some .cell
 |[],h=>by simp at h
 | (n,k)::r,h=>by
  show rU x ((if (k==NameKind.free&&env.scope.kind==.function&&env.kindOf n==some .cell)=true then (n,NameKind.cell) else (n,k))::_)=_;cases a:x==n with
  |true =>
   have e:x=n:=by simpa using a
   subst e;simp only[fL,a] at h;have f:k=.free:=aR h;subst f;rw[b3 (by rw[c,b];rfl),fL,a]
  |false =>
   simp only[fL,a] at h;have d:=Hh c b h;split
   ·rw[fL,a];exact d
   ·rw[fL,a];exact d
theorem jm.ok(S:jm X scope N' cap)(I:Inv X pins σ H s)(d:∀b∈fp,G7 X pins H b)(f:∀b∈fp,∃o,s.heap.get? b=some o):(mY X scope N' fp pins s H).Ok where
 mod:=I.ok.mod
 kind:=S.kind
 glob:=I.ok.glob
 blt:=I.ok.blt
 above:=aB _
 inj:=λx y c g j=>I.ok.inj x y c (mX _ _ (S.clos I.ok) (λz=>by simp at z) g) (mX _ _ (S.clos I.ok) (λz=>by simp at z) j)
 has:=λx hx=>by
  have k:(x,NameKind.free)∈scope.names:=by
   rcases hx with hx|hx
   ·exact z4 (env:=X.env) hx (.inl rfl) S.WX
   ·exact z4 (env:=X.env) hx (.inr rfl) S.WX
  exact Option.isSome_iff_exists.mp (FU scope.names [] (.inr k))
 Z7:=λx c h=>by cases h
 hd:=I.ok.hd
 frames:=I.ok.frames
 stk:=.inl rfl
 exf:=λb a=>by
  obtain⟨o,e⟩:=f b a;refine⟨bT (Heap.lt_size e),λx c h=>(d b a).2.2.2.2.1 x c (mX _ _ (S.clos I.ok) (λz=>by simp at z) h)⟩
 bs:=I.bs
 nT:=ay I.ok.nT I.sz
 ZN:=λb o e a=>by
  rcases (d b a).2.2.2.1 with z|z
  ·exact I.ok.ZN b o e z
  ·exact eL (bK (Heap.lt_size e) (ay I.ok.nT z)) (jF _)
 abk:=λb a i=>by
  rcases aV.mp (I.IM b i) with z|z
  ·exact (d b a).2.1 z
  ·exact (d b a).2.2.1 z
 G4:=I.stack
 Df:=I.RW
theorem jm.look(S:jm X scope N' cap)(I:Inv X pins σ H s){f:Heap}{m:Str->Option Value}(g:∀x c v,X.env.cells.lookup x=some c->s.heap.IsCell c v->f.IsCell c v)(i:Nat)(x:Str)(v:V)(F:N'[i]?=some x)(G:(jK cap σ)[i]?=some (some v)) :
 ∃u,RelV v u/\Look (compEnvC scope (nS X.env scope.names []) s.heap.objs.size X.env) f m x u:=by
 have K:∀x c,(nS X.env scope.names []).lookup x=some c->X.env.cells.lookup x=some c:=λx c h=>mX _ _ (S.clos I.ok) (λz=>by simp at z) h;have d:((cap[i]?).map λo=>o.bind λj=>(σ[j]?).join)=some (some v):=by
  have:=G
  unfold jK at this;rw[ak] at this;exact this
 cases t:cap[i]? with
 |none=>rw[t] at d;cases d
 |some o =>
  cases o with
  |none=>rw[t] at d;cases d
  |some j =>
   rw[t] at d;obtain⟨E,b⟩:=S.cap i j x t F;have n:(σ[j]?).join=some v:=aR d;have L:σ[j]?=some (some v):=by
    cases w:σ[j]? with
    |none=>rw[w] at n;cases n
    |some y =>
     cases y with
     |none=>rw[w] at n;cases n
     |some z =>
      rw[w] at n;have e:z=v:=aR n;rw[e]
   have a:=S.fr _ b rfl;obtain⟨M,J,B⟩:=I.loc;obtain⟨u,r,l⟩:=B j x v E L (.inr (.inl a));refine⟨u,r,?_⟩;rcases l with ⟨C,_⟩|⟨C,c,D,k⟩
   ·have z:X.env.kindOf x=some .cell:=a
    rw[C] at z;cases z
   ·obtain⟨q,p⟩:=Option.isSome_iff_exists.mp (FU (env:=X.env) (x:=x) scope.names [] (.inr b))
    have A:q=c:=by
     have:=K x q p
     rw[D] at this;exact (aR this).symm
    subst A;exact .inr ⟨.inl (Hh I.ok.kind a (S.frl _ b rfl)),q,p,g x q _ D k⟩
theorem jm.start(S:jm X scope N' cap)(I:Inv X pins σ H s)(w:∀b∈fp,G7 X pins H b)(r:∀b∈fp,∃o,s.heap.get? b=some o){a:Heap}{tk:Nat}{m:Str->Option Value}(k:a.Ns s.heap.objs.size m)
 (j:∀b o,s.heap.get? b=some o->a.get? b=some o):Inv (mY X scope N' fp pins s H) [] (jK cap σ) H {s with heap:=a,toks:=tk}:=by
 have t:∀x c,(nS X.env scope.names []).lookup x=some c->X.env.cells.lookup x=some c:=λx c h=>mX _ _ (S.clos I.ok) (λz=>by simp at z) h;have f:∀{c:Addr} {v:Option Value},s.heap.IsCell c v->a.IsCell c v:=λ{c v} ⟨o,e,d⟩=>⟨o,j c o e,d⟩;refine⟨S.ok I w r,rfl,I.bare,Un.kept j,⟨m,k,λi x v u A C=>S.look I (λ_ _ _ _ z=>f z) i x v u A⟩,λx c h=>?_,I.hok.fresh (aB _),λx c h=>I.za x c (t x c h),λp y=>?_,I.hok.kept j,?_⟩
 ·obtain⟨v,z⟩:=I.cell x c (t x c h)
  exact⟨v,f z⟩
 ·have g:p∈(X.pn++pins)++[]:=y
  have l:p∈X.pn++pins:=by rw[fD] at g;exact g
  obtain⟨e,n,B,nf,d⟩:=I.pin p l;refine⟨j _ _ e,n,bT (Heap.lt_size e),λz=>?_,d⟩;rcases aV.mp (I.IM p.1 z) with q|q
  ·exact B q
  ·exact nf q
 ·unfold jK
  rw[ah];exact S.len
theorem jm.again(S:jm X scope N' cap)(I:Inv X pins σ H s)(p:∀b∈fp,G7 X pins H b){f:St}{h:Hp}{g:Shared}(a:Inv (mY X scope N' fp pins s H) [] f h g):Inv (mY X scope N' fp pins s H) [] (jK cap σ) h g:=by
 obtain⟨m,l,_⟩:=a.loc;refine⟨a.ok,a.os,a.bare,a.base,⟨m,l,λi x v n t z=>S.look I (λy c u j k=>?_) i x v n t⟩,a.cell,a.free,a.za,a.pin,a.hok,?_⟩
 ·obtain⟨o,e,d⟩:=k
  obtain⟨w,q⟩:=a.base.any e (I.za y c j) λr=>(p c r).2.2.2.2.1 y c j rfl;exact⟨_,q,d⟩
 ·unfold jK
  rw[ah];exact S.len
theorem jm.back{h j:Hp}{d s3 s':Shared}{r:St}{i:Addr}{a:Heap}(S:jm X scope N' cap)(s:Inv X pins σ h d)(C:∀b∈fp,G7 X pins h b){o:HO}
 (G:s3.heap.objs.size=d.heap.objs.size+1) (k3:∀b u,d.heap.get? b=some u->s3.heap.get? b=some u) (t:i=d.heap.objs.size) (y:s3.os=d.os)
 (m:Inv (mY X scope N' fp pins s3 (upd h i o)) [] r j s') (p:Heap.SameBut s3.heap.objs.size s'.heap a):Inv X pins σ j {s' with heap:=a}:=by
 have E:Un (frs X.stack) fp h (upd h i o) d.heap s3.heap:=Un.laid k3 (by rw[t];exact aB _) (s.hok.fresh (by rw[t];exact aB _));have g:Un (frs X.stack) fp h j d.heap s'.heap:=E.trans m.base;have f:∀b ob,d.heap.get? b=some ob->b≠s3.heap.objs.size:=λb ob e=>by
  have:=Heap.lt_size e
  rw[G];exact bT (Nat.lt_succ_of_lt this)
 have x:j s3.heap.objs.size=none:=m.free;have H:Un (frs X.stack) fp h j d.heap a :=
  ⟨λb ob e n l k=>(p.2 b (f b ob e)).trans (g.keep b ob e n l k),λb ob e n l k=>by
   obtain⟨D,q⟩:=g.slot b ob e n l k;exact⟨D,(p.2 b (f b ob e)).trans q⟩,g.free,λb ob e k=>by
   obtain⟨I,q⟩:=g.there b ob e k;exact⟨I,(p.2 b (f b ob e)).trans q⟩,g.tups,g.G3,g.IL⟩
 have hok:BN X.prog X.w j a:=λb ob e=>(m.hok b ob e).stay (λc v K q=>(p.2 c (by
  rintro rfl;rcases K with z|z
  ·rw[<- z,x] at e;cases e
  ·rw[x] at z;cases z)).trans q) (λ_ q=>q) λ_ _ q=>q
 refine s.afW (s':={s' with heap:=a}) (ch:=fp) (m.os.trans y) H hok m.bare λb l=>?_;obtain⟨_,J,_,A,F,B⟩:=C b l;exact⟨A,J,F,B⟩
def kU(X:Cx)(ifs:List Expr)(t:TT):Prop :=
 ∀(pins:List (Addr×Obj)) (s:Shared) (σ:St) (H:Hp) (Q:Bool->Hp->Prop),Inv X pins σ H s->t σ H Q ->
  wpAny (model X.prog X.w) X.A (forIn ifs true λc r=>if r=true then do let ok <- isTrue c X.env (eval c X.env);pure (kq ok) else pure (kq r)) (TP X pins σ Q) X.xe s
def aj3:TT:=λ_ H Q=>Q true H
theorem eK:kU X [] aj3:=λ_ _ _ H _ I h=>wpAny_tests_nil ⟨H,I,h⟩
theorem tN{c:Expr}{t:TT}(h:PT X c t):kU X [c] t:=λpins s σ H Q I a=>wpAny_tests_one (h pins s σ H Q I a)
def af7(wi:TI)(cap:List (Option Nat))(g:TG)(tc:TT)(te:TE):TE:=λσ H Q=>wi σ H λJ H1=>∀acc,H1 acc=none->∃W:Nat->Nat->Hp->Prop,(∃m,W 0 m (upd H1 acc (.lst [])))/\∀i m H,W i m H ->
 (J.stop i H/\Q (.ref acc) H)∨(J.go i H/\∀x H',J.Qx i H x H'->g x (jK cap σ) H' λσ2 H2=>tc σ2 H2 λb H3=>if b=true then te σ2 H3 λy H4=>∃xs,H4 acc=some (.lst xs)/\xs.length<sizeLine /\
  ∃m',m'<m/\W (i+1) m' (upd H4 acc (.lst (xs++[y]))) else ∃m',m'<m/\W (i+1) m' H3)
theorem Z4{o a f:PySem.Expr}{q:List PySem.Expr}{scope:Scope}{C:Pos}{E t:Value}{env:Env}{prog:Program}{w:World}{A:Around}{s:Shared}{R:Result->Shared->Prop}(I:Nat->Shared->Prop)
 (y:∀n s,I n s->wpAny (model prog w) A (pyNext E) (λr d=>match r with
  |none=>R (.ok .next) d
  |some v=>wpAny (model prog w) A (letOwnedTupleGo a E v) (λ_ e=>wpAny (model prog w) A (assign a env v) (λ_ g =>
   wpAny (model prog w) A (forIn q true λc r=>if r=true then do let ok <- isTrue c env (eval c env);pure (kq ok) else pure (kq r)) (λok b=>if ok=true then wpAny (model prog w) A (eval o env) (λx l =>
    wpAny (model prog w) A (call (.builtin "list.append") [t,x]) (λ_ j=>∃m,m<n/\I m j) (λ_ _=>False) l) (λ_ _=>False) b
    else ∃m,m<n/\I m b) (λ_ _=>False) g)
   (λ_ _=>False) e) (λ_ _=>False) d) (λ_ _=>False) s)
 (n:Nat) (h:I n s):codeAny (model prog w) A (.compLoop (.ListComp o [⟨a,f,q,0⟩] scope C) 0 E t env) R s:=by
 refine codeAny_loop rfl I (λn s G=>?_) n h;show wpAny _ A ((compTurn (.ListComp o [⟨a,f,q,0⟩] scope C) 0 E t env).onRaise (λx=>do noteFrame x env;theTreesLotGoes x)) _ _ s;refine wpAny_noted ?_;rw[compTurn_list];refine wpAny_bind (wpAny_standAt (wpAny_bind (wpAny_mono (y n s G) (λr d i=>?_) λ_ _ z=>z.elim)));cases r with
 |none=>exact wpAny_pure i
 |some v =>
  refine wpAny_bind (wpAny_mono i (λ_ e p=>?_) λ_ _ z=>z.elim);refine wpAny_bind (wpAny_mono p (λ_ g u=>?_) λ_ _ z=>z.elim);refine wpAny_bind (wpAny_mono u (λF b k=>?_) λ_ _ z=>z.elim);cases F with
  |false=>exact wpAny_pure ⟨rfl,k⟩
  |true=>exact wpAny_bind (wpAny_bind (wpAny_mono k (λx l B=>wpAny_bind (wpAny_mono B (λ_ j D=>wpAny_pure (wpAny_pure ⟨rfl,D⟩)) λ_ _ z=>z.elim)) λ_ _ z=>z.elim))
theorem L6{U tg F:Expr}{O:List Expr}{pos:Pos}{g:TG}{tc:TT}{te:TE}{Q:VK}{a:Shared}{D:Hp}{it:Addr}{tn:Nat->Heap->Prop}{J:It}{E:Value->Shared->Prop}{RR:Value->Addr->Result->Shared->Prop}
 (S:jm X scope N' cap) (hc:X.calm=true) (hg:∀fp pins s H,PG (mY X scope N' fp pins s H) tg g) (hts:∀fp pins s H,kU (mY X scope N' fp pins s H) O tc) (he:∀fp pins s H,PE (mY X scope N' fp pins s H) U te)
 (I2:Inv X pins σ D a) (T:Turn X.prog X.w X.K tg J fp it tn) (st2:tn 0 a.heap) (Y:∀b∈fp,G7 X pins D b)
 (h:∀k,D k=none->∃W:Nat->Nat->Hp->Prop,(∃m,W 0 m (upd D k (.lst [])))/\∀i m H,W i m H ->
  (J.stop i H/\Q (.ref k) H)∨(J.go i H/\∀x j,J.Qx i H x j->g x (jK cap σ) j λσ2 D=>tc σ2 D λb H3=>if b=true then te σ2 H3 λy H4=>∃xs,H4 k=some (.lst xs)/\xs.length<sizeLine /\
   ∃t,t<m/\W (i+1) t (upd H4 k (.lst (xs++[y]))) else ∃t,t<m/\W (i+1) t H3))
 (hRR:∀C s' j,(∃m,s'.heap.Ns C m)->(∀N,Heap.SameBut C s'.heap N->Inv X pins σ j {s' with heap:=N})->Q (.ref a.heap.objs.size) j->j C=none->a.heap.objs.size<C ->
  RR (.ref a.heap.objs.size) C (.ok .next) s') :
 wpAny (model X.prog X.w) X.A (newList []) (λk s₃=>wpAny (model X.prog X.w) X.A (newFunctionEnv scope X.env.globals (nS X.env scope.names []) [] X.env.qual none .none (some X.env)) (λG s₄ =>
  codeAny (model X.prog X.w) X.A (.compStart (.ListComp U [⟨tg,F,O,0⟩] scope pos) 0 (.ref it) k {G with scope:=relabel scope X.env}) (RR k G.locals) s₄) E s₃) E a:=by
 refine wpAny_newObj_type (wpAny_newFunctionEnv S.WX (by intro y hy;simp at hy) (λv WY WZ=>?_) S.kind);dsimp only at WY WZ ⊢;have hfr:D a.heap.objs.size=none:=I2.hok.fresh (aB _);generalize R:a.heap.push {cls:=.type "list",dict:=none,data:=.seq ([]:List Value).toArray}=h3 at WY WZ ⊢;have e3:h3.objs.size=a.heap.objs.size+1:=by rw[<- R,Heap.size_push]
 have k3:∀b u,a.heap.get? b=some u->h3.get? b=some u:=λb u e=>by rw[<- R];exact Heap.get?_push_of_some _ e
 have I3:Inv X pins σ (upd D a.heap.objs.size (.lst [])) {a with heap:=h3,toks:=a.toks}:=by
  refine I2.laid (t':=a.toks) k3 (aB _) ?_;exact⟨be _,[],0,.nil,by rw[<- R];exact Heap.get?_push_size _ rfl⟩
 have f3:∀b∈fp,G7 X pins (upd D a.heap.objs.size (.lst [])) b:=λb f=>by
  obtain⟨o,e,_⟩:=T.obj _ _ st2 b f;exact⟨by rw[aK (bT (Heap.lt_size e))];exact (Y b f).1,(Y b f).2⟩
 have ex3:∀b∈fp,∃o,h3.get? b=some o:=λb f=>by
  obtain⟨o,e,_⟩:=T.obj _ _ st2 b f;exact⟨o,k3 b o e⟩
 have kp:∀b o,h3.get? b=some o->v.get? b=some o:=λb o e=>WZ.extBut b o (bT (Heap.lt_size e)) (Heap.get?_push_of_some _ e);have I4:=S.start (fp:=fp) (tk:=a.toks+([]:List (Str×Value)).length) I3 f3 ex3 WY kp;have EA:tn 0 v:=T.keep _ _ _ st2 λb _ o e=>kp b o (k3 b o e);obtain⟨W,⟨m0,w0⟩,turn⟩:=h a.heap.objs.size hfr;let L:=mY X scope N' fp pins {a with heap:=h3,toks:=a.toks} (upd D a.heap.objs.size (.lst []));have B:∀{Qu:List (Addr×Obj)} {j:Hp},(∀p∈Qu,p.1∉fp)->(∀b∈fp,j b=none)->∀b∈fp,G7 L Qu j b:=λ{Qu j} hpn hn b f=>by
  obtain⟨o,e⟩:=ex3 b f;refine⟨hn b f,bT (Heap.lt_size e),λz=>?_,.inl f,λx c hx=>(f3 b f).2.2.2.2.1 x c (mX _ _ (S.clos I2.ok) (λz=>by simp at z) hx),λp hp=>?_⟩
  ·rcases aV.mp (I2.IM b z) with q|q
   ·exact (Y b f).2.1 q
   ·exact (Y b f).2.2.1 q
  ·rcases bx.mp hp with q|q
   ·exact (Y b f).2.2.2.2.2 p q
   ·exact λz=>hpn p q (z▸f)
 have I:codeAny (model X.prog X.w) X.A (.compLoop (.ListComp U [⟨tg,F,O,0⟩] scope pos) 0 (.ref it) (.ref a.heap.objs.size) L.env) (RR (.ref a.heap.objs.size) h3.objs.size) {a with heap:=v,toks:=a.toks+([]:List (Str×Value)).length}:=by
  refine Z4 (λn s'=>∃i j,Inv L [] (jK cap σ) j s'/\tn i s'.heap/\(∀b∈fp,j b=none)/\W i n j) ?_ m0 ⟨0,_,I4,EA,λb f=>(f3 b f).1,w0⟩;rintro n s5 ⟨i,H5,I5,Qy,Z,w5⟩;rcases turn i n H5 w5 with ⟨stop,qn⟩|⟨go,step⟩
  ·refine wpAny_mono (T.done L rfl rfl rfl hc i [] s5 (jK cap σ) H5 (λ_ _=>False) I5 (B (λ_ z=>eL z (-_)) Z) Qy stop) (λr s6 ⟨hr,I6⟩=>?_) λ_ _ z=>z
   subst hr;refine hRR _ s6 H5 ?_ (λN sb=>S.back I2 Y (s3:={a with heap:=h3,toks:=a.toks}) e3 k3 rfl rfl I6 sb) qn I6.free (by rw[e3];exact Nat.lt_succ_self _);obtain⟨m,hn,_⟩:=I6.loc;exact⟨m,hn⟩
  ·refine wpAny_mono (T.item L rfl rfl rfl hc i [] s5 (jK cap σ) H5 (λ_ _=>False) I5 (B (λ_ z=>eL z (-_)) Z) Qy go) (λr s6 ⟨u,hr,h6⟩=>?_) λ_ _ z=>z
   subst hr;refine wpAny_mono h6 (λ_ s7 ⟨x,H7,I7,r7,y7,M,fr7⟩=>?_) λ_ _ z=>z;have I7':=I7.pinned (B (λ_ z=>eL z (-_)) fr7) (T.obj _ _ M);have again:∀{l:St} {P:Hp} {V:Shared},Inv L ([]++LV fp s7.heap) l P V->(∃t,t<n/\W (i+1) t P)->∃m,m<n/\∃i j,Inv L [] (jK cap σ) j V/\tn i V.heap/\(∀b∈fp,j b=none)/\W i m j:=λ{l P V} I8 n8=>by
    obtain⟨t,hm,w8⟩:=n8;have pn:∀b∈fp,∃o,s7.heap.get? b=some o/\V.heap.get? b=some o/\P b=none:=λb f=>by
     obtain⟨o,e,d⟩:=T.obj _ _ M b f;have q:=I8.pin (b,o) (er _ (er _ (FO f e)));exact⟨o,e,q.1,q.2.1⟩
    refine⟨t,hm,i+1,P,S.again I3 f3 I8.G8,T.keep _ _ _ M λb f o e=>?_,λb f=>?_,w8⟩
    ·obtain⟨o',e',q,_⟩:=pn b f
     rw[e] at e';cases e';exact q
    ·obtain⟨_,_,_,q⟩:=pn b f
     exact q
   refine wpAny_mono (hg fp pins _ _ _ s7 (jK cap σ) H7 x u _ I7' r7 (step x H7 y7)) (λ_ V ⟨l,P,I8,q8⟩=>?_) λ_ _ z=>z;refine wpAny_mono (hts fp pins _ _ _ V l P _ I8 q8) (λb s9 ⟨H9,I9,q9⟩=>?_) λ_ _ z=>z;cases b with
   |false=>exact again I9 q9
   |true =>
    refine wpAny_mono (he fp pins _ _ _ s9 l H9 _ I9 q9) (λu mu ⟨y,Z5,I10,r10,xs,hx,hl,q10⟩=>?_) λ_ _ z=>z;refine wpAny_mono (gq (X:=L) _ mu l Z5 (.ref a.heap.objs.size) [y] (.ref a.heap.objs.size) [u] (λ_ j=>∃t,t<n/\W (i+1) t j) I10 rfl (.cons r10 .nil) ⟨_,xs,y,rfl,rfl,hx,hl,q10⟩) (λ_ n7 ⟨_,H11,I11,_,q11⟩=>again I11 q11) λ_ _ z=>z
 exact codeAny_compStart_list I (T.self _ 0 _ _ _ EA I)
theorem dP{b j a:Expr}{c:List Expr}{i:Pos}{o:TI}{g:TG}{l:TT}{n:TE}(S:jm X scope N' cap)(O:X.calm=true)(D:PI X j a o)(r:∀fp pins s H,PG (mY X scope N' fp pins s H) j g)
 (f:∀fp pins s H,kU (mY X scope N' fp pins s H) c l) (L:∀fp pins s H,PE (mY X scope N' fp pins s H) b n) (z:∀x,foldedSetIterable a X.env x=pure x:=by intro _;rfl) :
 PE X (.ListComp b [⟨j,a,c,0⟩] scope i) (af7 o cap g l n):=by
 intro pins s σ H Q I h;rw[eval_ListComp];refine wpAny_comprehension_free (use:=none) rfl z (EK (S.clos I.ok)) S.kind S.loc (gW (D pins s σ H _ I h) λv R y=>gW y λt E F=>?_);obtain⟨V,fp,P,J,U,e,u,T,st2,q,B⟩:=F;subst e;refine L6 (RR:=λk C=>compPost (model X.prog X.w) X.A X.xe none (EP X pins σ Q) k C) S O r f L u T st2 q B ?_;intro C W G ⟨m,N⟩ M K _ _;exact⟨m,N,λd p=>⟨.ref E.heap.objs.size,G,M d p,rfl,K⟩⟩
theorem mZ{k B d:Expr}{j:List Expr}{t:Pos}{Z:TI}{g:TG}{W:TT}{Y:TE}{i:Nat}{x:Str}{f l:Pos}(hN:X.N.Nodup)(M:X.N[i]?=some x)(hx:Loc X.env.scope x)(S:jm X scope N' cap)(hc:X.calm=true)
 (hi:PI X B d Z) (hg:∀fp pins s H,PG (mY X scope N' fp pins s H) B g)
 (R:∀fp pins s H,kU (mY X scope N' fp pins s H) j W) (he:∀fp pins s H,PE (mY X scope N' fp pins s H) k Y) (hs:∀x,foldedSetIterable d X.env x=pure x:=by intro _;rfl)
 (U:swapsWith (.ListComp k [⟨B,d,j,0⟩] scope t) (some (.Name x f)) l.line X.env=pure true:=by rfl) (hf:X.fn x=true∨X.env.scope.names.lookup x=some .local:=by first|exact .inl rfl|exact .inr rfl|assumption) :
 PS X (.Assign [.Name x f] (.ListComp k [⟨B,d,j,0⟩] scope t) l) (aed (af7 Z cap g W Y) (gp i)):=by
 intro pins s σ H D I h;rw[exec_Assign_Name_used _ _ _ _ U];refine wpAny_bind (wpAny_standAt (wpAny_bind ?_));show wpAny _ X.A (do let _ <- comprehension (.ListComp k [⟨B,d,j,0⟩] scope t) scope X.env _ (newList []) false (eval d X.env) (some (assign (.Name x f) X.env))) _ _ s;refine wpAny_bind (wpAny_mono (wpAny_comprehension_free (use:=some (assign (.Name x f) X.env)) (Q:=λ_ n=>SP X pins D .next n) rfl hs (EK (S.clos I.ok)) S.kind S.loc
  (gW (hi pins s σ H _ I h) λv s1 h1=>gW h1 λitv O h2=>?_)) (λ_ n F=>wpAny_pure (wpAny_pure F)) λ_ _ e=>e)
 obtain⟨it,fp,tn,J,H2,e,r,T,st2,f2,hW⟩:=h2;subst e;refine L6 (RR:=λG C=>compPost (model X.prog X.w) X.A X.xe (some (assign (.Name x f) X.env)) (λ_ n=>SP X pins D .next n) G C) (Q:=λx H1=>gp i x σ H1 D.nx) S hc hg R he r T st2 f2 hW ?_;intro C n H' ⟨m,hn⟩ hI F hC u;have I':Inv X pins σ H' n:=hI n.heap (.refl ..);show wpAny _ _ (assign (.Name x f) X.env (.ref O.heap.objs.size)) _ _ n;refine wpAny_assign_Name (Qv (v:=.ref O.heap.objs.size) I' hN M hx rfl (λs6 I6 ⟨a,sb,ha⟩=>?_) hf);have E:∀b,b<O.heap.objs.size->b≠C:=λb K=>bT (Nat.lt_trans K u);have P:a≠C:=by
  rcases ha with z|z
  ·rw[z];exact E _ r.lt
  ·obtain⟨_,q⟩:=r.cell x a z
   exact E _ q.lt
 refine⟨m,hn.sameBut sb (cu P),λh' L=>⟨_,H',I6.turned (t':=s6.toks) (λb o K e=>(L.2 b K).trans e) hC (cu (E _ r.lt)) (.inr (ay r.sz (g4 u))) (λy c V=>?_) (λp hp=>?_),F⟩⟩
 ·obtain⟨_,q⟩:=r.cell y c V
  exact E _ q.lt
 ·exact E _ (Heap.lt_size (r.pin p hp).1)
end
section
variable{X:Cx}
noncomputable def Ite(K:af)(a:Addr):It :=
 ⟨λi H=>∃xs x,bC K H a xs/\xs[i]?=some x,λi H x H'=>∃p v,H p=none/\x=.ref p/\H'=upd H p (.tup [.int (i:Nat),v])/\∀xs,bC K H a xs->xs[i]?=some v,λi H=>∃xs,bC K H a xs/\xs.length<=i⟩
theorem Z6{P:Program}{w:World}{K:af}{F:List Expr}{x1}{pos:Pos}(a e f:Addr)(G:e≠f) :
 Turn P w K (.Tuple F x1 pos) (Ite K a) [e,f] e (λi h=>∃old,IsEnum h e f (i:Nat) old/\h.IsListIter f a i) where
 mem:=-_
 obj:=λi h ⟨old,st,A⟩ b hb=>by
  rcases aV.mp hb with z|hb
  ·subst z
   exact⟨_,st,λv z=>by
    have z':Data.fields _=Data.cell v:=z;cases z'⟩
  ·have z:b=f:=by simpa using hb
   subst z;obtain⟨o,e,c,d⟩:=A;exact⟨o,e,λv z=>by rw[d] at z;cases z⟩
 keep:=λi h h' ⟨old,st,A⟩ k=>⟨old,k e (-_) _ st,A.at λo q=>k f (-_) o q⟩
 item:=by
  intro X Z U hK g i y s σ H E I t ⟨old,st,A⟩ W;subst Z U hK;obtain⟨xs,x,J,T⟩:=W;obtain⟨Y,rv,p,hz⟩:=I.list J;obtain⟨u,hu,ru⟩:=rv.get T;refine wpAny_pyNext_enum_item st A p.isList (x:=u) (by simpa using hu) G λh' eo N tu sz kp=>?_;refine⟨_,rfl,wpAny_letOwnedTupleGo_enum eo λD e2 B=>?_⟩;have j:H s.heap.objs.size=none:=I.hok.fresh (aB _);have nE:∀b o,H b=some o->b≠e:=λb o q z=>by rw[z,(t e (-_)).1] at q;cases q
  have nI:∀b o,H b=some o->b≠f:=λb o q z=>by rw[z,(t f (-_)).1] at q;cases q
  have l:∀b o,b≠e->b≠f->s.heap.get? b=some o->D.get? b=some o:=λb o h1 h3 q=>(B.2 b h1).trans (kp b o h1 h3 q);have hes:e<s.heap.objs.size:=Heap.lt_size st;have Q:D.get? s.heap.objs.size=some {cls:=.type "tuple",data:=.seq #[.int (i:Nat) s.toks,u]}:=(B.2 _ (Nat.ne_of_gt hes)).trans tu;have L:D.IsListIter f a (i+1):=N.at λo q=>(B.2 f (cu G)).trans q;have C:∀b,b∉[e,f]->b≠e/\b≠f:=λb hb=>⟨λz=>hb (by simp[z]),λz=>hb (by simp[z])⟩;have O:∀b∈[e,f],upd H s.heap.objs.size (.tup [.int (i:Nat),x]) b=none:=λb hb=>by
   obtain⟨o,q,_⟩:∃o,s.heap.get? b=some o/\True:=by
    rcases aV.mp hb with z|hb
    ·subst z;exact⟨_,st,trivial⟩
    ·have z:b=f:=by simpa using hb
     subst z;obtain⟨o,q,_⟩:=A;exact⟨o,q,trivial⟩
   rw[aK (bT (Heap.lt_size q))];exact (t b hb).1
  have I1:Inv X y σ (upd H s.heap.objs.size (.tup [.int (i:Nat),x])) {s with heap:=D,toks:=s.toks+1}:=by
   refine I.step (g':=s.gens) (d':=s.drawn) (ch:=[e,f]) (λb hb=>?_) (λb o _ _ g q _=>l b o (C b g).1 (C b g).2 q) (λb o _ _ g q _=>⟨o.slots,l b o (C b g).1 (C b g).2 q⟩)
    (λb o _ q n=>by rw[aK (bT (Heap.lt_size q))];exact n) (λb o g q=>⟨o,l b o (C b g).1 (C b g).2 q⟩) (λb xs q=>by rw[aK (aJ q j)];exact q) (λb o u q=>by rw[aK (aJ q j)];exact q)
    (λb ps q=>⟨#[],by rw[aK (aJ q j),q];simp⟩) (λm hm=>?_) (λb o q=>?_) I.bare
   ·obtain⟨_,f1,_,M,S,V⟩:=t b hb
    exact⟨M,f1,S,V⟩
   ·obtain⟨o,es,ep,ho,r⟩:=hm
    exact⟨o,es,ep,l _ o (cu (t e (-_)).2.1) (cu (t f (-_)).2.1) ho,r⟩
   ·by_cases hb:b=s.heap.objs.size
    ·subst hb
     rw[aq] at q;cases q;exact⟨by show 2<=sizeLine;decide,[.int (i:Nat) s.toks,u],.cons ⟨_,rfl⟩ (.cons ru .nil),⟨_,Q,rfl,_,rfl⟩⟩
    ·rw[aK hb] at q
     refine (I.hok b o q).stay (λc v g r=>l c v ?_ ?_ r) (λc r=>by rw[aK (aJ r j)];exact r) λc xs r=>by rw[aK (aJ r j)];exact r
     ·rcases g with z|z
      ·rw[z];exact nE b o q
      ·exact nE c _ z
     ·rcases g with z|z
      ·rw[z];exact nI b o q
      ·exact nI c _ z
  refine⟨.ref s.heap.objs.size,_,I1,rfl,⟨_,x,j,rfl,rfl,λys hy=>by rw[I.Uw hy J];exact T⟩,⟨u,?_,L⟩,O⟩;have R:IsEnum D e f ((i:Int)+1) u:=e2;show IsEnum D e f (((i+1:Nat):Int)) u;rw[Int.natCast_add];exact R
 done:=by
  intro X Z U hK g i y s σ H E I t ⟨old,st,A⟩ W;subst Z U hK;obtain⟨xs,J,T⟩:=W;obtain⟨Y,rv,p,hz⟩:=I.list J;obtain⟨f0,f1,f2,M,S,V⟩:=t f (-_);have hl:=rv.length;exact wpAny_pyNext_enum_end (I.ok.hd g) st A p.isList (by simp;lia) λh' eb=>⟨rfl,I.turned (t':=s.toks) (λb o hb q=>eb b o hb q) f0 f1 M S V⟩
 self:=λ_ _ _ _ _ ⟨_,st,_⟩ h=>wpAny_pyIter_enum st h
def aj5(K:af)(ta:TA):TI:=λσ H R=>ta σ H λvs H1=>∃a xs,vs=[.ref a]/\bC K H1 a xs/\R (Ite K a) H1
theorem aen{l:Expr}{m:TA}{p i:Pos}{g:List Expr}{x1}{f:Pos}(u:Gl X "enumerate")(E:X.mg "enumerate" = none)(J:PA X [l] m)(B:starEach [l] X.env=[(false,eval l X.env)]:=by rfl) :
 PI X (.Tuple g x1 f) (.Call (.Name "enumerate" p) [l] [] i) (aj5 X.K m):=by
 intro c s o H R I h;refine Call_ (LP I u E boot_enumerate (PyProof.Rows.callWith_type1 (gW (J i c s o H _ I h) λN d ⟨Q,k,j,F,y⟩=>?_) B rfl));obtain⟨a,S,e,G,q⟩:=y;subst e;cases F with
 |cons r C =>
  cases C;cases r;obtain⟨A,P,w,O⟩:=j.list G;refine call_enumerate_list w.isList λL t v M D=>wpAny_pyIter_enum t ?_;have x:Inv X c o k {d with heap:=L,toks:=d.toks}:=j.kept D;have n:∀b,d.heap.objs.size<=b->G7 X c k b:=λb hb=>j.abq hb (j.hok.fresh hb);refine⟨d.heap.objs.size+1,[d.heap.objs.size+1,d.heap.objs.size],_,_,k,rfl,x,Z6 a _ _ (Nat.succ_ne_self _),⟨.none,t,v⟩,λb hb=>?_,q⟩;rcases aV.mp hb with z|hb
  ·subst z;exact n _ ∅
  ·have z:b=d.heap.objs.size:=by simpa using hb
   subst z;exact n _ ∅
end
theorem aC.cV{K:af}{H b:Hp}{a:Addr}{xs:List V}(e:aC H b)(h:cR K H a xs):cR K b a xs:=by
 rcases h with (h|⟨o,h⟩)|h
 ·exact .inl (.inl (e _ _ h))
 ·exact .inl (.inr ⟨o,e _ _ h⟩)
 ·exact .inr h
theorem aC.new{H:Hp}{p:Addr}{o:HO}(h:H p=none):aC H (upd H p o):=λb u e=>by rw[aK (aJ e h)];exact e
theorem aC.out{a H:Hp}{p:Addr}{o:HO}(s:aC a H)(h:a p=none):aC a (upd H p o):=λb u e=>by rw[aK (aJ e h)];exact s b u e
mutual
def Rep(K:af)(H:Hp):PyData->V->Prop
 |.none,v=>v=.dH
 |.bool b,v=>v=.bl b
 |.int i,v=>v=.int i
 |.str x,v=>v=.str x
 |.list ds,v=>∃a vs,v=.ref a/\bC K H a vs/\cW K H ds vs
 |.tuple ds,v=>∃a vs,v=.ref a/\cR K H a vs/\cW K H ds vs
 |.dict _,_=>False
def cW(K:af)(H:Hp):List PyData->List V->Prop
 |[],vs=>vs=[]
 |d::ds,vs=>∃v r,vs=v::r/\Rep K H d v/\cW K H ds r
end
section
variable{K:af}{H H':Hp}
mutual
theorem Rep.mono(s:aC H H'):∀{d:PyData} {v:V},Rep K H d v->Rep K H' d v
 |.none,_,h=>h
 |.bool _,_,h=>h
 |.int _,_,h=>h
 |.str _,_,h=>h
 |.list ds,_,⟨a,vs,e,q,r⟩=>⟨a,vs,e,s.seq q,cW.mono s r⟩
 |.tuple ds,_,⟨a,vs,e,q,r⟩=>⟨a,vs,e,s.cV q,cW.mono s r⟩
 |.dict _,_,h=>h
theorem cW.mono(s:aC H H'):∀{ds:List PyData} {vs:List V},cW K H ds vs->cW K H' ds vs
 |[],_,h=>h
 |_::_,_,⟨v,r,e,q,t⟩=>⟨v,r,e,q.mono s,cW.mono s t⟩
end
theorem cW.length:∀{ds:List PyData} {vs:List V},cW K H ds vs->vs.length=ds.length
 |[],_,h=>by rw[h];rfl
 |_::_,_,⟨v,r,e,_,t⟩=>by rw[e,bH,bH,cW.length t]
theorem cW.get:∀{ds:List PyData} {vs:List V} {i:Nat} {d:PyData},cW K H ds vs->ds[i]?=some d->∃v,vs[i]?=some v/\Rep K H d v
 |[],_,_,_,_,e=>by simp at e
 |x::ds,_,0,d,⟨v,r,e,q,t⟩,h=>by
  subst e;have z:x=d:=by simpa using h
  subst z;exact⟨v,rfl,q⟩
 |_::ds,_,i+1,d,⟨v,r,e,q,t⟩,h=>by
  subst e;obtain⟨y,a,b⟩:=cW.get (i:=i) (d:=d) t (by simpa using h);exact⟨y,by simpa using a,b⟩
theorem rj:∀ns:List Int,cW K H (ns.map PyData.int) (ns.map V.int)
 |[]=>rfl
 |n::ns=>⟨.int n,_,rfl,rfl,rj ns⟩
theorem BV:∀{ns:List Int} {vs:List V},cW K H (ns.map PyData.int) vs->vs=ns.map V.int
 |[],_,h=>h
 |n::ns,_,⟨v,r,e,q,t⟩=>by
  have q':v=.int n:=q;rw[e,q',BV t];rfl
theorem Rep.QJ{ns:List Int}{a:Addr}(h:cR K H a (ns.map V.int)):Rep K H (.tuple (ns.map .int)) (.ref a):=⟨a,_,rfl,h,rj ns⟩
theorem Rep.BW{ns:List Int}{v:V}(h:Rep K H (.tuple (ns.map .int)) v):∃a,v=.ref a/\cR K H a (ns.map V.int):=by
 obtain⟨a,b,e,q,r⟩:=h;rw[BV r] at q;exact⟨a,e,q⟩
end
section
variable{X:Cx}{pins:List (Addr×Obj)}{σ:St}{H:Hp}{s:Shared}
mutual
theorem Rep.reads(I:Inv X pins σ H s):∀{d:PyData} {v:V} {u:Value},Rep X.K H d v->RelV v u->∃k,Reads s.heap u d k
 |.none,_,_,h,r=>by cases h;cases r;exact⟨_,.none⟩
 |.bool b,_,_,h,r=>by cases h;cases r;exact⟨_,.bool b⟩
 |.int i,_,_,h,r=>by cases h;obtain⟨t,rfl⟩:=r;exact⟨_,.int i t⟩
 |.str x,_,_,h,r=>by cases h;obtain⟨t,rfl⟩:=r;exact⟨_,.str x t⟩
 |.list p,_,_,⟨a,w,e,q,t⟩,r=>by
  subst e;cases r;obtain⟨g,j,⟨o,n,m,c,y,l⟩,_⟩:=I.list q;obtain⟨k,f⟩:=cW.reads I t j;exact⟨_,.list m c l (by simpa using f)⟩
 |.tuple p,_,_,⟨a,w,e,q,t⟩,r=>by
  subst e;cases r;obtain⟨g,j,⟨o,m,c,n,l⟩,_⟩:=I.tuple q;obtain⟨k,f⟩:=cW.reads I t j;exact⟨_,.tuple m c l (by simpa using f)⟩
 |.dict _,_,_,h,_=>h.elim
theorem cW.reads(I:Inv X pins σ H s):∀{ds:List PyData} {vs:List V} {us:List Value},cW X.K H ds vs->b6 vs us->∃a,ReadsAll s.heap us ds a
 |[],_,_,h,r=>by cases h;cases r;exact⟨_,.nil⟩
 |_::_,_,_,⟨v,w',e,q,t⟩,r=>by
  subst e;cases r with
  |cons d f =>
   obtain⟨a,b⟩:=q.reads I d;obtain⟨g,c⟩:=cW.reads I t f;exact⟨_,.cons b c⟩
end
end
section
variable{X:Cx}
def ani(K:af)(u:Nat):R2:=λx y H Q=>∃da db,Rep K H da x/\Rep K H db y/\da.canLay0=true/\db.canLay0=true/\u+min da.depth db.depth<cLine/\Q (.bl (PyData.eqv da db)) H
def aj6(K:af)(u:Nat):R2:=λx y H Q=>∃da db,Rep K H da x/\Rep K H db y/\da.canLay0=true/\db.canLay0=true/\u+min da.depth db.depth<cLine/\Q (.bl (!PyData.eqv da db)) H
theorem z5:BG X (compareOp .Eq) (ani X.K X.A.units):=by
 intro a s n H x y v u Q I e i ⟨m,k,f,g,c,j,b,q⟩;obtain⟨o,d⟩:=f.reads I e;obtain⟨l,h⟩:=g.reads I i;exact SeqAt.compareEq_reads d h c j b ⟨.bl _,H,I,rfl,q⟩
theorem FW:BG X (compareOp .NotEq) (aj6 X.K X.A.units):=by
 intro a s n H x y v u Q I e i ⟨m,k,f,g,c,j,b,q⟩;obtain⟨o,d⟩:=f.reads I e;obtain⟨l,h⟩:=g.reads I i;exact SeqAt.compareNe_reads d h c j b ⟨.bl _,H,I,rfl,q⟩
theorem abU:nP X (.builtin "isinstance") (λxs H Q=>∃x n t b,xs=[x,.ty n]/\IT X.K H x t/\PySem.W.kitOne X.K t (.type n)=some b/\Q (.bl b) H):=by
 intro c s h H xs g Q I r ⟨x,n,t,b,e,ty,k,q⟩;subst e;obtain⟨u,i,e,f,a⟩:=b6.two r;subst e;cases a;exact ZU I f ty k λd=>⟨.bl _,H,I.tok d,rfl,q⟩
theorem Z8(v:X.calm=true):nP X (.type "set") (λxs H Q=>∃(a:Addr) (ns:List Int),xs=[.ref a]/\bC X.K H a (ns.map V.int)/\ns.length+1<scanBound /\
 ∀p,H p=none->Q (.ref p) (upd H p (.set (λf=>(firstMet (λi=>ns.getD i 0) ns.length).any (·==f)) (firstMet (λi=>ns.getD i 0) ns.length).length))):=by
 intro g s y H xs w Q I r ⟨a,ns,e,t,l,q⟩;subst e;obtain⟨u,e,n⟩:=b6.one r;subst e;cases n;obtain⟨d,h,p,x⟩:=I.list t;have k:=h.length;rw[ah] at k;have c:d.toArray.size=ns.length:=by simp[k]
 refine call_set_list (I.ok.hd v) p.isList (ns:=ns) (by simpa using intsAre_of h) (by rw[c];exact l) λA z j m=>?_;rw[c] at j;exact⟨.ref s.heap.objs.size,_,I.laid (o:=.set (λf=>(firstMet (λi=>ns.getD i 0) ns.length).any (·==f)) (firstMet (λi=>ns.getD i 0) ns.length).length) (λb o e=>m b o (Heap.lt_size e) e) (aB _) j,rfl,q _ (I.hok.fresh (aB _))⟩
theorem Z9:nP X (.builtin "len") (λxs H Q=>∃(a:Addr) (S:Int->Bool) (n:Nat),xs=[.ref a]/\H a=some (.set S n)/\Q (.int n) H):=by
 intro b s x H xs m Q I r ⟨a,S,n,e,j,q⟩;subst e;obtain⟨u,e,i⟩:=b6.one r;subst e;cases i;obtain⟨o,d,p,t,k,c,h,y,v,l,g,f⟩:=(show s.heap.SetOf (intKind X.prog X.w) a S n from I.hok a _ j);subst f;refine call_len_set k c h g ?_ ⟨.int _,H,I.tok _,⟨_,rfl⟩,q⟩
 have:d.size<2^62:=bK l (!_)
 lia
theorem aaa(C:X.calm=true):nP X (.builtin "min") (λxs H Q=>∃(a:Addr) (ns:List Int),xs=[.ref a]/\bC X.K H a (ns.map V.int)/\0<ns.length/\∀m,m∈ns->(∀n∈ns,m<=n)->Q (.int m) H):=by
 intro g s G H xs D Q I r ⟨a,ns,e,A,f,q⟩;subst e;obtain⟨u,e,z⟩:=b6.one r;subst e;cases z;obtain⟨d,w,p,F⟩:=I.list A;have i:IntsAre d ns:=intsAre_of w;have l:=p.isList;obtain⟨xs,e⟩:=i.allInts.items;have b:ns=xs.toList.map (·.1):=by
  rw[<- i.numsOf,<- nums_intItems,<- e]
 have c:0<xs.size:=by
  have k:=f;rw[b,ah,fO] at k;exact k
 rw[e] at l;refine min_intList (I.ok.hd C) l c λv L J B x=>?_;obtain⟨t,rfl⟩:=intItems_at B;obtain⟨E,y⟩:=argBest_lt (numAt xs) (xs.size-1);refine⟨.int _,H,I.kept x,⟨t,rfl⟩,q _ ?_ λa h=>?_⟩
 ·rw[b,numAt_eq];exact getD_mem (by rw[ah,fO];lia)
 ·rw[b] at h
  obtain⟨j,o,rfl⟩:=mem_getD h;rw[ah,fO] at o;rw[<- numAt_eq];exact y j ∅
end
noncomputable def D3(scope dsc:Scope)(N0 N2:List Str)(cap:List (Option Nat)):Bool :=
 (scope.kind==.function)&&(scope.names.all λy=>y.2 != .cell)&&(scope.names.all λy=>y.2 != .local || scope.names.lookup y.1==some .local) &&
 (scope.names.all λy=>y.2 != .free || dsc.names.lookup y.1==some .cell)&&(scope.names.all λy=>y.2 != .free || scope.names.lookup y.1==some .free)&&decide N2.Nodup&&(cap.length==N2.length) &&
 ((au cap.length).all λi=>match cap[i]?,N2[i]? with
   |some (some j),some x=>N0[j]?==some x&&scope.names.any (λy=>y.1==x&&y.2==.free)
   |_,_=>true)
theorem QK{X:Cx}{scope c:Scope}{f k:List Str}{b:List (Option Nat)}(s:X.env.scope=c)(r:X.N=f)(h:D3 scope c f k b=true):jm X scope k b:=by
 unfold D3 at h;simp only[dF] at h;obtain⟨⟨⟨⟨⟨⟨⟨t,l⟩,n⟩,m⟩,d⟩,w⟩,u⟩,g⟩:=h;rw[lM] at l n m d g;refine⟨by simpa using t,λy a e=>?_,λy a e=>?_,λy a e=>?_,λy a e=>?_,fT w,by simpa using u,λi j x o p=>?_⟩
 ·have:=l y a;rw[e] at this;exact eL this (!_)
 ·have:=n y a;rw[e] at this;simpa using this
 ·have:=m y a
  rw[e] at this;show X.env.scope.names.lookup y.1=some .cell;rw[s]
  simpa using this
 ·have:=d y a;rw[e] at this;simpa using this
 ·have v:i<b.length:=(ai.mp o).1
  have q:=g i (cT.mpr v);rw[o,p] at q;simp only[dF] at q;refine⟨by rw[r];simpa using q.1,?_⟩;obtain⟨y,a,z⟩:=zY.mp q.2;simp only[dF] at z;have B:y.1=x:=by simpa using z.1
  have A:y.2=.free:=by simpa using z.2
  rw[<- B,<- A];exact a
def CW(H1:Hp)(acc:Addr)(n:Nat)(P:Nat->List V->Hp->Prop):Nat->Nat->Hp->Prop :=
 λi m H=>m=n-i/\i<=n/\aC H1 H/\∃ys,H acc=some (.lst ys)/\P i ys H
theorem gG{J:It}{n:Nat}{r:List (Option Nat)}{g:TG}{w:TT}{z:TE}{B:St}{A:Hp->Prop}{f:Hp}{a:Addr}(P:Nat->List V->Hp->Prop)(o:f a=none)
 (go:∀i H,i<n->aC f H->J.go i H) (stop:∀H,aC f H->J.stop n H) (C:P 0 [] (upd f a (.lst [])))
 (step:∀i h H,i<n->aC f H->H a=some (.lst h)->P i h H->∀x q,J.Qx i H x q->g x (jK r B) q λc u=>w c u λb k=>if b=true then z c k λy l=>∃xs,l a=some (.lst xs)/\xs.length<sizeLine /\
  ∃d,d<n-i/\CW f a n P (i+1) d (upd l a (.lst (xs++[y]))) else ∃d,d<n-i/\CW f a n P (i+1) d k)
 (t:∀h H,aC f H->H a=some (.lst h)->P n h H->A H) :
 ∃W:Nat->Nat->Hp->Prop,(∃m,W 0 m (upd f a (.lst [])))/\∀i m H,W i m H ->
  (J.stop i H/\A H)∨(J.go i H/\∀x q,J.Qx i H x q->g x (jK r B) q λc u=>w c u λb k=>if b=true then z c k λy l=>∃xs,l a=some (.lst xs)/\xs.length<sizeLine /\
   ∃d,d<m/\W (i+1) d (upd l a (.lst (xs++[y]))) else ∃d,d<m/\W (i+1) d k):=by
 refine⟨CW f a n P,⟨n,rfl,be _,aC.new o,[],aq,C⟩,?_⟩;rintro i m H ⟨rfl,D,s,h,v,p⟩;by_cases j:i<n
 ·exact .inr ⟨go i H j s,step i h H j s v p⟩
 ·have e:i=n:=∅
  subst e;exact .inl ⟨stop H s,t h H s v p⟩
theorem fH{e b:Hp}{a:Addr}{n i:Nat}{P:Nat->List V->Hp->Prop}{c:List V}{y:V}(d:e a=none)(g:i<n)(s:aC e b)(h:b a=some (.lst c))(hl:c.length<sizeLine)(p:P (i+1) (c++[y]) (upd b a (.lst (c++[y])))) :
 ∃xs,b a=some (.lst xs)/\xs.length<sizeLine/\∃f,f<n-i/\CW e a n P (i+1) f (upd b a (.lst (xs++[y]))) :=
 ⟨c,h,hl,n-(i+1),∅,rfl,g,s.out d,_,aq,p⟩
theorem kW{e b:Hp}{a:Addr}{n i:Nat}{P:Nat->List V->Hp->Prop}{c:List V}(f:i<n)(s:aC e b)(g:b a=some (.lst c))(p:P (i+1) c b):∃d,d<n-i/\CW e a n P (i+1) d b :=
 ⟨n-(i+1),∅,rfl,f,s,_,g,p⟩
theorem m5{K:af}{a:Addr}{xs:List V}{b:Hp}(h:bC K b a xs):∀i H,i<xs.length->aC b H->(RZ K a).go i H:=λi H c s=>⟨xs,xs[i],s.seq h,by simp[c]⟩
theorem g5{K:af}{a:Addr}{xs:List V}{b:Hp}(h:bC K b a xs):∀H,aC b H->(RZ K a).stop xs.length H:=λH s=>⟨xs,s.seq h,aB _⟩
theorem ahC{K:af}{a:Addr}{xs:List V}{b:Hp}(h:bC K b a xs):∀i H,i<xs.length->aC b H->(Ite K a).go i H:=λi H c s=>⟨xs,xs[i],s.seq h,by simp[c]⟩
theorem abV{K:af}{a:Addr}{xs:List V}{b:Hp}(h:bC K b a xs):∀H,aC b H->(Ite K a).stop xs.length H:=λH s=>⟨xs,s.seq h,aB _⟩
theorem BX{lo:Int}{n:Nat}{b:Hp}:∀i H,i<n->aC b H->(JF lo n).go i H:=λi H a s=>a
theorem rm{lo:Int}{n:Nat}{a:Hp}:∀H,aC a H->(JF lo n).stop n H:=λH s=>aB n
noncomputable def hide(H:Hp)(l:Addr):Hp:=λb=>if b=l then none else H b
theorem ahD{a:Type}{xs:List a}{i:Int}{v:a}(b:0<=i)(h:xs[i.toNat]?=some v):Kn xs i=some v:=by
 obtain⟨k,rfl⟩:=iR b;exact dD (by simpa using h)
theorem abW{ns:List Int}{i:Int}(b:0<=i)(h:i<ns.length):Kn (ns.map V.int) i=some (.int (ns.getD i.toNat 0)):=by
 have a:i.toNat<ns.length:=∅
 refine ahD b ?_;rw[ak,aj,aa a];rfl
section
variable{X:Cx}
theorem abX(K:af)(h:X.K=K):IxR X (ZX K):=by subst h;exact Yt
theorem aeo(K:af)(h:X.K=K):IxR X (UE K):=by subst h;exact abI
theorem L7(K:af)(h:X.K=K):BG X (compareOp .In) (rIn K false):=by subst h;exact zc
theorem LA(K:af)(h:X.K=K){e:Expr}{f:Str}{a:Pos}{b:TE}(c:PE X e b)(d:attributeBase e f X.env (eval e X.env)=eval e X.env):PE X (.Attribute e f a) (L0 K b f):=by subst h;exact aT c d
theorem aep(K:af)(h:X.K=K){a:List Expr}{k:Nat}{b:Pos}{t:O3}{n:Nat}(e:X.calm=true)(h':kT X a t)(d:(assignEach a X.env).length=n:=by rfl)
 (c:(assignEach a X.env).findIdx? (·.1)=none:=by rfl):PG X (.Tuple a k b) (aha K n t):=by subst h;exact abo e h' d c
noncomputable def gH:Expr->Bool
 |.Starred _ _=>false
 |_=>true
theorem UL{e:Expr}{a:List Expr}{env:Env}(h:gH e=true):starEach (e::a) env=(false,eval e env)::starEach a env:=by
 cases e <;> first|rfl|(exact Bool.noConfusion h)|simp[starEach]
theorem wB{e:Expr}{b:List Expr}{a:TE}{t:TA}(f:PE X e a)(c:PA X b t)(d:gH e=true:=by rfl):PA X (e::b) (i0 a t):=aeh f c (UL d)
theorem aeq{bs:List Bool}{us:List Value}(r:b6 (bs.map V.bl) us){i:Nat}{v:Value}(h:us[i]?=some v):v=.bool (bs.getD i true):=by
 have c:=r.length;rw[ah] at c;have d:i<us.length:=(ai.mp h).1;have e:(bs.map V.bl)[i]?=some (.bl (bs.getD i true)):=by
  rw[ak,aa ∅,aj,aa ∅];rfl
 obtain⟨u,a,b⟩:=r.get e;rw[h] at a;cases a;exact b
theorem range_all(bs:List Bool):((au bs.length).all λi=>bs.getD i true)=bs.all id:=by
 rw[ku,lM,lM];constructor
 ·intro h x b
  obtain⟨i,a,e⟩:=List.getElem_of_mem b
  have:=h i (cT.mpr a)
  rw[aj,aa a,e] at this;exact this
 ·intro h i a
  have a:=cT.mp a
  have:=h bs[i] (aD a)
  rw[aj,aa a];exact this
theorem UM(x:X.calm=true):nP X (.builtin "all") (λxs H Q=>∃(a:Addr) (bs:List Bool),xs=[.ref a]/\bC X.K H a (bs.map V.bl)/\Q (.bl (bs.all id)) H):=by
 intro f s C H xs y Q I r ⟨a,bs,e,w,q⟩;subst e;obtain⟨u,e,t⟩:=b6.one r;subst e;cases t;obtain⟨c,g,p,B⟩:=I.list w;have h:=g.length;rw[ah] at h;refine call_all_walk (wpAny_pyIter_list p.isList ?_);have d:a<s.heap.objs.size:=by obtain⟨o,n,e,_⟩:=p;exact Heap.lt_size e
 refine⟨s.heap.objs.size,_,_,_,_,_,λi=>bs.getD i true,rfl,Walks.list (A:=X.A.in1) (show X.A.in1.handled=none from I.ok.hd x) _ a (bT d) c.toArray,⟨⟨_,Heap.get?_push_size _ rfl,rfl,rfl⟩,p.isList.at λo e=>Heap.get?_push_of_some _ e⟩,?_,λD m l=>?_⟩
 ·intro i v s Q E k j
  have e:=aeq g (show c[i]?=some v by simpa using k);subst e;exact wpAny_truthy_bool j
 ·have e:(au c.toArray.size).all (λi=>bs.getD i true)=bs.all id:=by
   rw[show c.toArray.size=bs.length by simp[h]];exact range_all bs
  rw[e];exact⟨.bl _,H,I.kept (t':=m) λb o e=>l b o (by
   intro z
   have:b=s.heap.objs.size:=by simpa using z
   exact eL (Heap.lt_size e) (by rw[this];exact jF _)) (Heap.get?_push_of_some _ e),rfl,q⟩
end
end L2
namespace Gr
abbrev Ps:=List (Int×Int)
def D4(ps:Ps)(k:Nat)(x y:Int):Prop:=ps[k]?=some (x,y)∨ps[k]?=some (y,x)
theorem IW{a:Type}[DecidableEq a]:∀{xs B:List a},xs.Nodup->(∀x∈xs,x∈B)->xs.length<=B.length
 |[],_,_,_=>be _
 |x::xs,B,f,b=>by
  have d:=b x aL;have g:∀y∈xs,y∈B.erase x:=λy c=>by
   have h:y≠x:=λe=>(iY.mp f).1 (e▸c);exact (List.mem_erase_of_ne h).mpr (b y (aM _ c))
  have j:=IW (iY.mp f).2 g;have i:=List.length_erase_of_mem d;have k:0<B.length:=List.length_pos_of_mem d;rw[bH];lia
theorem L8{c:Type}{xs:List c}{x:c}(h:xs.Nodup)(f:x∉xs):(xs++[x]).Nodup:=by
 rw[xA];refine⟨h,-_,λa d b g=>?_⟩
 have:b=x:=by simpa using g
 rw[this];exact λe=>f (e▸d)
noncomputable def ends(ps:Ps):List Int:=ps.flatMap λp=>[p.1,p.2]
end Gr
namespace L2
open PySem Gr
noncomputable abbrev two(a b:Int):List V:=[.int a,.int b]
def abY(K:af)(ta:TE):TT:=λσ H Q=>ta σ H λx H'=>∃k,ahi K x H' k/\Q k H'
theorem IX{X:Cx}{a:Expr}{c:TE}(d:PE X a c)(e:∀b,isTrue a X.env b=(do let v <- b;standAt a.pos;holding [v] (truthy v))):PT X a (abY X.K c):=abz d e
theorem YB{c:TT}{j:TS}{D:Ends}{a:St}{H:Hp}(f:Nat->St->Hp->Prop)(k:Nat)(o:f k a H)
 (n:∀m a H,f m a H->c a H λb e=>if b=true then j {D with nx:=λd i=>∃h,h<m/\f h d i,ct:=λd i=>∃h,h<m/\f h d i,bk:=D.nx} a e else D.nx a e)
 (g:∀a H Q l,(∀b e,Q b e->l b e)->c a H Q->c a H l):abp c j D a H:=by
 refine⟨f,⟨k,o⟩,λm a H p=>g a H _ _ (λb e q=>?_) (n m a H p)⟩;cases b with
 |true=>exact⟨_,λd i z=>z,q⟩
 |false=>exact q
end L2
namespace L2
open PySem PySem.Spec PyProof.Rows
section
variable{X:Cx}
theorem UN:nP X (.type "range") (λxs H Q=>∃j:Int,xs=[.int j]/\∀p,H p=none->Q (.ref p) (upd H p (.ZL 0 j))):=by
 intro c s g H xs f Q I r ⟨j,e,q⟩;subst e;obtain⟨u,e,d⟩:=b6.one r;subst e;obtain⟨t,rfl⟩:=d;refine call_range_1 ⟨.ref s.heap.objs.size,_,I.laid (a:=s.heap.objs.size) (o:=.ZL 0 j) (λb o e=>Heap.get?_push_of_some _ e) (aB _) ?_,rfl,q _ (I.hok.fresh (aB _))⟩;exact⟨_,_,_,Heap.get?_push_size _ rfl⟩
theorem W0{a:Array Value}{n:Nat}(hl:a.size=n)(h:∀(i:Nat) (v:Value),a[i]?=some v->∃t,v=Value.int (0+(i:Int)*1) t):b6 ((au n).map λk=>V.int (k:Nat)) a.toList:=by
 have c:∀(b:List Value) (m:Nat),(∀(i:Nat) (v:Value),b[i]?=some v->∃t,v=Value.int ((m+i:Nat):Int) t)->b6 ((List.range' m b.length).map λk=>V.int (k:Nat)) b:=by
  intro b;induction b with
  |nil=>intro m _;exact .nil
  |cons u b f =>
   intro m d;rw[bH,List.range'_succ,bA];refine .cons (d 0 u rfl) (f (m+1) λi v e=>?_);obtain⟨t,q⟩:=d (i+1) v (by simpa using e);exact⟨t,by rw[q];congr 1;lia⟩
 have:=c a.toList 0 λi v e=>by
  obtain⟨t,q⟩:=h i v (by simpa using e);exact⟨t,by rw[q];congr 1;lia⟩
 rw[fO,hl,<- List.range_eq_range'] at this;exact this
theorem W7(C:X.calm=true):nP X (.type "list") (λxs H Q=>∃(p:Addr) (j:Nat),xs=[.ref p]/\H p=some (.ZL 0 j)/\j<=1000/\∀l,H l=none->Q (.ref l) (upd H l (.lst ((au j).map λk=>.int (k:Nat))))):=by
 intro f s E H xs D Q I r ⟨p,j,e,m,g,q⟩;subst e;obtain⟨u,e,A⟩:=b6.one r;subst e;cases A;obtain⟨t,u,v,z⟩:=(show gJ X.prog X.w H s.heap p (.ZL 0 j) from I.hok p _ m);refine call_list_range (I.ok.hd C) (n:=j) z (small_one ∅ ∅ ∅ ∅) (by rw[rangeSize_one];split <;> lia) ∅ λG F b h x y i=>?_;obtain⟨c,d⟩:=i;have B:=W0 c d;refine⟨.ref s.heap.objs.size,_,I.laid (a:=s.heap.objs.size) (o:=.lst ((au j).map λk=>.int (k:Nat))) x (aB _) ⟨?_,b.toList,h,B,by simpa using y⟩,rfl,q _ (I.hok.fresh (aB _))⟩;rw[ah,bz];exact g4 (bX g)
end
end L2
namespace Gr
end Gr
namespace L2
open PySem PySem.Spec PyProof.Rows
def vV(h:Heap)(e T:Addr)(cls fl:Value):Prop :=
 ∃oe vs oT ts,h.get? e=some oe/\oe.cls=cls/\oe.dict=none/\oe.data=.fields vs/\vs[1]?=some (.ref T)/\T≠e/\h.get? T=some oT/\oT.data=.fields ts/\ts[3]?=some fl
structure QL(F R:List Addr)(h h':Heap):Prop where
 keep:∀b o,b∉F->b∉R->h.get? b=some o->h'.get? b=some o
 slot:∀b o,b∈F->b∉R->h.get? b=some o->∃sl,h'.get? b=some {o with slots:=sl}
theorem QL.mono{F R d:List Addr}{h h':Heap}(t:QL F R h h')(f:∀b∈R,b∈d):QL F d h h' :=
 ⟨λb o a c e=>t.keep b o a (λz=>c (f b z)) e,λb o a c e=>t.slot b o a (λz=>c (f b z)) e⟩
theorem QL.trans{F R:List Addr}{h i j:Heap}(a:QL F R h i)(b:QL F R i j):QL F R h j :=
 ⟨λc o d f e=>b.keep c o d f (a.keep c o d f e),λc o d f e=>by
  obtain⟨m,l⟩:=a.slot c o d f e;obtain⟨g,k⟩:=b.slot c _ d f l;exact⟨g,k⟩⟩
theorem QL.aj7{F:List Addr}{h:Heap}{a:Addr}{g:Obj->Obj}:QL F [a] h (h.update a g) :=
 ⟨λb o _ c e=>(Heap.get?_update_other _ _ (λz=>c (by simp[z]))).trans e,λb o _ c e=>⟨o.slots,(Heap.get?_update_other _ _ (λz=>c (by simp[z]))).trans e⟩⟩
theorem aab{f:Array Value->Array Value}{o:Obj}:(Obj.mapFields f o).dict=o.dict:=by
 obtain⟨c,d,a,b⟩:=o;cases a <;> rfl
section
variable{M:Model}{A:Around}{E:Value->Shared->Prop}{s:Shared}{base:Heap}{env:Env}{outer:List Env}{L e:Addr}
theorem Ma(hl:s.heap.FunFrames base (env::outer)){c:Obj}{vs:Array Value}(f:s.heap.get? e=some c)(d:c.data=.fields vs):e∉frs (env::outer):=λg=>by
 obtain⟨_,o,b,a⟩:=hl.mem g;rw[f] at b;cases b;exact a vs d
theorem QM{f:Obj}{vs:Array Value}{a:Value}{y:Bool}{Q:Unit->Shared->Prop}(r:A.frames=some (env::outer))(hl:s.heap.FunFrames base (env::outer))(C:env.frame=some L)
 (x:s.heap.get? e=some f) (v:f.dict=none) (l:f.data=.fields vs) (hsz:1<vs.size)
 (h:∀h',vV h' e s.heap.objs.size f.cls (rawInt L)->QL (frs (env::outer)) [e] s.heap h'->Q () {s with heap:=h'}) :
 wpAny M A (do let G <- frameOf env;let j <- entryPlaceOf L y;let B <- EntryCells.newEntry a G .none (rawInt L) .none j;setField (.ref e) 1 B) Q E s:=by
 have u:=Ma hl x l;refine wpAny_bind (wpAny_frameOf_fun r hl C λg1 F=>?_);obtain⟨p,d,t⟩:=F;refine wpAny_bind (wpAny_entryPlaceOf λj c=>?_);unfold EntryCells.newEntry newFields;refine wpAny_bind (wpAny_newObj_type ?_ (c.sizeOk5 _ _ _ _ _));have m:g1.get? e=some f:=(d e u).trans x;have i:g1.objs.size≠e:=Nat.ne_of_gt (Heap.lt_size m);refine wpAny_setField (Heap.get?_push_of_some _ m) l hsz (h _ ?_ ?_)
 ·have g:=Obj.data_mapFields l (·.setIfInBounds 1 (Value.ref g1.objs.size))
  have qT:=(Heap.get?_update_other _ (Obj.mapFields (·.setIfInBounds 1 (Value.ref g1.objs.size))) (cu i)).trans (Heap.get?_push_size g1 (o:={cls:=.type "traceback",dict:=none,data:=.fields ([a,.ref L,.none,rawInt L,.none]++(if j.isEmpty then bB 6 Value.none else j)).toArray}) rfl);rw[<- p];refine⟨_,_,_,_,Heap.get?_update_self _ (Heap.get?_push_of_some _ m) (Obj.isFreed_of_fields g),Obj.cls_mapFields _ _,?_,g,?_,i,qT,rfl,?_⟩
  ·rw[aab]
   exact v
  ·simp[hsz]
  ·rcases c with rfl|⟨_,_,_,_,_,_,_,rfl⟩ <;> simp
 ·refine⟨λb o w n k=>?_,λb o w n k=>?_⟩
  ·rw[Heap.get?_update_other _ _ (λz=>n (by simp[z]))]
   exact Heap.get?_push_of_some _ ((d b w).trans k)
  ·obtain⟨D,q⟩:=t b o k
   refine⟨D,?_⟩;rw[Heap.get?_update_other _ _ (λz=>n (by simp[z]))];exact Heap.get?_push_of_some _ q
theorem W8{a:Obj}{vs:Array Value}{Q:Unit->Shared->Prop}(b:A.frames=some (env::outer))(hl:s.heap.FunFrames base (env::outer))(g:env.frame=some L)
 (i:s.heap.get? e=some a) (c:a.dict=none) (d:a.data=.fields vs) (f:vs[1]?=some .none)
 (h:∀h',vV h' e s.heap.objs.size a.cls (rawInt L)->QL (frs (env::outer)) [e] s.heap h'->Q () {s with heap:=h'}):wpAny M A (noteFrame (.ref e) env) Q E s:=by
 unfold noteFrame;simp only[g];refine wpAny_bind (wpAny_field i d f ?_);rw[eH (!_)];exact QM b hl g i c d (pJ.mp f).1 h
theorem aac{T:Addr}{cls:Value}{Q:Unit->Shared->Prop}(j:A.frames=some (env::outer))(hl:s.heap.FunFrames base (env::outer))(n:env.frame=some L)(r:vV s.heap e T cls .none)
 (h:∀h',vV h' e s.heap.objs.size cls (rawInt L)->QL (frs (env::outer)) [e,T] s.heap h'->Q () {s with heap:=h'}):wpAny M A (noteFrame (.ref e) env) Q E s:=by
 obtain⟨x,F,D,y,q,w,k,l,m,C,f,c,p⟩:=r;subst w;unfold noteFrame;simp only[n];refine wpAny_bind (wpAny_field q l m ?_);rw[b3 (-_)];refine wpAny_bind (wpAny_field f c p ?_);rw[eH (by simp[rawInt])];refine wpAny_bind (wpAny_setField f c (pJ.mp p).1 ?_);have B:=Ma (e:=T) hl f c;have i:(s.heap.update T (Obj.mapFields (·.setIfInBounds 3 Value.none))).objs.size=s.heap.objs.size:=Heap.size_after_update ..;have a:∀b,b≠T->(s.heap.update T (Obj.mapFields (·.setIfInBounds 3 Value.none))).get? b=s.heap.get? b:=λb d=>Heap.get?_update_other _ _ (cu d);refine QM (s:={s with heap:=s.heap.update T (Obj.mapFields (·.setIfInBounds 3 Value.none))}) (base:=base) j (hl.of_keeps λb o d g=>⟨o,(a b λz=>?_).trans d,rfl⟩) n ((a e (cu C)).trans q) k l (pJ.mp m).1 λh' u v=>?_
 ·rw[z,f] at d
  cases d;exact g y c
 ·have t:vV h' e s.heap.objs.size x.cls (rawInt L):=i▸u
  exact h h' t ((QL.aj7.mono (-_)).trans (v.mono (-_)))
theorem Kp{T:Addr}{cls m:Value}{Q:Unit->Shared->Prop}(f:vV s.heap e T cls m)(h:∀h',vV h' e T cls .none->(∀F,QL F [T] s.heap h')->h'.objs.size=s.heap.objs.size->Q () {s with heap:=h'}) :
 wpAny M A (setFlight (.ref e) none) Q E s:=by
 obtain⟨p,n,t,q,l,o,d,i,j,k,g,b,r⟩:=f;have c:3<q.size:=(pJ.mp r).1;unfold setFlight;refine wpAny_bind (wpAny_field l i j ?_);rw[b3 (-_)];refine wpAny_setField g b c (h _ ?_ (λF=>QL.aj7) (Heap.size_after_update ..));have a:=Obj.data_mapFields b (·.setIfInBounds 3 ((none:Option Addr).elim Value.none λf=>rawInt f));exact⟨p,n,_,_,(Heap.get?_update_other _ _ k).trans l,o,d,i,j,k,Heap.get?_update_self _ g (Obj.isFreed_of_fields a),a,by simp[c]⟩
end
theorem gJ.there{P:Program}{w:World}{H:Hp}{h:Heap}{a:Addr}:∀{o:HO},gJ P w H h a o->∃ob,h.get? a=some ob
 |.lst _,⟨_,_,_,_,e⟩=>⟨_,e⟩
 |.tup _,⟨_,_,_,o,e,_⟩=>⟨o,e⟩
 |.dK _,⟨_,_,_,_,o,_,_,e,_⟩=>⟨o,e⟩
 |.dT _,⟨_,_,_,_,o,_,_,e,_⟩=>⟨o,e⟩
 |.set _ _,⟨o,_,_,_,e,_⟩=>⟨o,e⟩
 |.ins _ _ _,⟨_,_,_,e,_⟩=>⟨_,e⟩
 |.own _,e=>e
 |.xd _,⟨_,n,_⟩=>let ⟨o,e,_⟩:=QA n;⟨o,e⟩
 |.met _ _,e=>⟨_,e⟩
 |.ZL _ _,⟨_,_,_,e⟩=>⟨_,e⟩
 |.Ut o _,⟨e,_⟩=>⟨o,e⟩
 |.wg _,e=>⟨_,e⟩
 |.ext _,⟨_,e,_⟩=>e
theorem BN.trn{P:Program}{w:World}{H:Hp}{h h':Heap}{F R:List Addr}(ok:BN P w H h)(t:QL F R h h')(c:∀b∈F,H b=none)(d:∀b∈R,H b=none):BN P w H h':=λa o e =>
 (ok a o e).stay (λb u hb q=>t.keep b u (λz=>by
  have:=c b z
  rcases hb with rfl|hb
  ·rw[e] at this;cases this
  ·rw[hb] at this;cases this) (λz=>by
  have:=d b z
  rcases hb with rfl|hb
  ·rw[e] at this;cases this
  ·rw[hb] at this;cases this) q) (λ_ q=>q) λ_ _ q=>q
def Rec(X:Cx)(pins:List (Addr×Obj))(H:Hp)(b:Addr):Prop :=
 H b=none/\b≠X.env.locals/\b∉X.fs/\X.s₀.heap.get? b=none/\(∀x c,X.env.cells.lookup x=some c->c≠b)/\∀p∈X.pn++pins,p.1≠b
section
variable{X:Cx}{pins:List (Addr×Obj)}{σ:St}{H H':Hp}{s:Shared}{h':Heap}
theorem Inv.aes(I:Inv X pins σ H s)(f:X.ex=[]){b:Addr}(h:H' b=none)(d:s.heap.get? b=none):Rec X pins H' b:=by
 refine⟨h,λz=>?_,λz=>?_,?_,λx c e z=>?_,λp g z=>?_⟩
 ·obtain⟨m,⟨o,_,_,a,_⟩,_⟩:=I.loc
  rw[<- z,d] at a;cases a
 ·obtain⟨_,o,a,_⟩:=I.G4.mem z
  rw[d] at a;cases a
 ·cases q:X.s₀.heap.get? b with
  |none=>rfl
  |some o =>
   obtain⟨i,e⟩:=I.base.there b o q (by rw[f];simp);rw[d] at e;cases e
 ·obtain⟨v,o,a,_⟩:=I.cell x c e
  rw[z,d] at a;cases a
 ·have:=(I.pin p g).1
  rw[z,d] at this;cases this
theorem Inv.UO(I:Inv X pins σ H s)(a:X.ex=[]):Rec X pins H s.heap.objs.size:=by
 refine I.aes a (I.hok.fresh (aB _)) ?_;cases q:s.heap.get? s.heap.objs.size with
 |none=>rfl
 |some o=>exact eL (Heap.lt_size q) (jF _)
theorem Inv.trn{R:List Addr}{t':Nat}(I:Inv X pins σ H s)(A:∀b∈R,Rec X pins H b)(t:QL (frs X.stack) R s.heap h'):Inv X pins σ H {s with heap:=h',toks:=t'}:=by
 have J:∀b∈frs X.stack,H b=none:=λb a=>I.RW b a;have g:∀b o,b∉R->s.heap.get? b=some o->∃y,h'.get? b=some {o with slots:=y}:=λb o D e=>by
  by_cases a:b∈frs X.stack
  ·exact t.slot b o a D e
  ·exact⟨o.slots,t.keep b o a D e⟩
 have B:∀b o,b≠X.env.locals->b∉X.fs->b∉R->s.heap.get? b=some o->h'.get? b=some o:=λb o T a D e =>
  t.keep b o (λz=>(aV.mp (I.IM b z)).elim T a) D e
 have F:∀b o,X.s₀.heap.get? b=some o->b≠X.env.locals:=λb o e=>bT (bK (Heap.lt_size e) I.ok.above);have h:∀b o,X.s₀.heap.get? b=some o->b∉R:=λb o e z=>by rw[(A b z).2.2.2.1] at e;cases e
 have f:∀x c,X.env.cells.lookup x=some c->∀v,s.heap.IsCell c v->h'.IsCell c v:=λx c e v ⟨o,G,N⟩=>by
  obtain⟨y,q⟩:=g c o (λz=>(A c z).2.2.2.2.1 x c e rfl) G;exact⟨_,q,N⟩
 refine⟨I.ok,I.os,I.bare,⟨λb o e n a w=>?_,λb o e n a w=>?_,I.base.free,λb o e w=>?_,I.base.tups,I.base.G3,I.base.IL⟩,?_,λx c e=>?_,I.free,I.za,λp K=>?_,I.hok.trn t J (λb a=>(A b a).1),I.len⟩
 ·exact B b o (F b o e) a (h b o e) (I.base.keep b o e n a w)
 ·obtain⟨y,C⟩:=I.base.slot b o e n a w
  obtain⟨E,j⟩:=g b _ (h b o e) C;exact⟨E,j⟩
 ·obtain⟨U,C⟩:=I.base.there b o e w
  obtain⟨y,j⟩:=g b _ (h b o e) C;exact⟨_,j⟩
 ·obtain⟨m,⟨o,M,O,G,r⟩,S⟩:=I.loc
  obtain⟨y,q⟩:=g _ o (λz=>(A _ z).2.1 rfl) G;refine⟨m,⟨_,M,O,q,r⟩,λi x v C j P=>?_⟩;obtain⟨u,Q,l⟩:=S i x v C j P;refine⟨u,Q,?_⟩;rcases l with l|⟨k,c,e,z⟩
  ·exact .inl l
  ·exact .inr ⟨k,c,e,f x c e _ z⟩
 ·obtain⟨v,z⟩:=I.cell x c e
  exact⟨v,f x c e v z⟩
 ·obtain⟨e,n,L,nf,d⟩:=I.pin p K
  exact⟨B p.1 p.2 L nf (λz=>(A p.1 z).2.2.2.2.2 p K rfl) e,n,L,nf,d⟩
end
def XP(X:Cx)(pins:List (Addr×Obj))(σ:St)(E:XK)(e:Value)(s':Shared):Prop :=
 ∃ea T cls H',e=.ref ea/\Inv X pins σ H' s'/\vV s'.heap ea T cls .none/\Rec X pins H' ea/\Rec X pins H' T/\E cls none H'
def II(P:Program)(w:World):ZV:=λouter H s E e s' =>
 ∃ea T cls H',e=.ref ea/\s'.os=s.os/\AllBare s'.gens/\Un (frs outer) [] H H' s.heap s'.heap/\BN P w H' s'.heap/\vV s'.heap ea T cls .none/\s.heap.get? ea=none/\s.heap.get? T=none/\H' ea=none/\H' T=none/\E cls none H'
theorem aka{X:Cx}{a:List (Addr×Obj)}{i:St}{H:Hp}{s s':Shared}{E:XK}{e:Value}(I:Inv X a i H s)(d:X.ex=[])(h:II X.prog X.w X.stack H s E e s'):XP X a i E e s':=by
 obtain⟨k,T,g,p,t,os,c,r,f,j,n,l,m,o,q⟩:=h;exact⟨k,T,g,p,t,I.afW (ch:=[]) os r f c (λb z=>eL z (-_)),j,I.aes d m n,I.aes d o l,q⟩
theorem abZ{X:Cx}{a:List (Addr×Obj)}{d:St}{H:Hp}{s:Shared}{R:List Addr}{h':Heap}(I:Inv X a d H s)(c:X.ex=[])(e:∀b∈R,Rec X a H b)(t:QL (frs X.stack) R s.heap h'):Un X.fs [] X.H₀ H X.s₀.heap h':=by
 have:=(I.trn (t':=s.toks) e t).base
 rw[c] at this;exact this
section
variable{P:Program}{w:World}{K:af}{mg:Str->Option Value}{base:Heap}{N:List Str}{qual:Str}{scope:Scope}{f:Addr}{cd:Value}{A:Around}{outer:List Env}{s0:Shared}{H0:Hp}{E:XK}
theorem akb{a:List (Addr×Obj)}{p:St}{e:Value}{s:Shared}(h:XP (pT (II P w) P w K mg base N qual scope f cd A outer s0 H0 E) a p E e s):(pT (II P w) P w K mg base N qual scope f cd A outer s0 H0 E).xe e s:=by
 obtain⟨d,T,g,m,rfl,I,n,j,t,q⟩:=h;show wpAny _ _ (leaving _ (.ref d)) _ _ s;unfold leaving;refine wpAny_bind (aac (base:=base) I.ok.frames I.stack rfl n λB v u=>?_);refine Kp v λr o x y=>?_;have i:=I.UO rfl;have l:∀b∈[d,T,s.heap.objs.size],Rec (pT (II P w) P w K mg base N qual scope f cd A outer s0 H0 E) a m b:=by
  intro b k;simp only[aV,List.not_mem_nil,or_false] at k;rcases k with z|z|z
  ·rw[z];exact j
  ·rw[z];exact t
  ·rw[z];exact i
 have c:QL (frs (pT (II P w) P w K mg base N qual scope f cd A outer s0 H0 E).stack) [d,T,s.heap.objs.size] s.heap r:=(u.mono (-_)).trans ((x _).mono (-_));have J:=I.trn (t':=s.toks) l c;exact⟨d,_,g,m,rfl,I.os,I.bare,abZ I rfl l c,J.hok,o,j.2.2.2.1,i.2.2.2.1,j.1,i.1,q⟩
theorem YC:uF (II P w) (pT (II P w) P w K mg base N qual scope f cd A outer s0 H0 E) E:=λa c H s e b I h=>akb (aka I rfl h)
theorem WC.okX{x qual:Str}{st:Stmt}{f:Addr}{g:FuncData}{N ps:List Str}{k:Nat}{sp:Sp}(F:WC K x qual st f g)(S:aE N ps (av st))(d:∀vs H Q E,sp vs H Q E->vs.length=ps.length)
 (b:∀(a:Value) (A:Around) (outer:List Env) (s:Shared) (H:Hp) (vs:List V) (Q:VK) (E:XK),kh k (A.deeper (envOfC qual (av st) s.heap.objs.size f a))->sp vs H Q E ->
  ∃t,iQ (pT (II P w) P w K mg base N qual (av st) f a A outer s H E) (gu st) t/\t {nx:=λ_ j=>Q .dH j,rt:=Q} (start N vs) H):bL P w K mg base (II P w) (k+1) f g ps sp:=by
 obtain⟨m,n,kV,i,o,q,a,p,h,rfl,lk,c⟩:=F.ex;exact abF lk c S d λA outer s H vs Q E l e=>b a A outer s H vs Q E l e
end
theorem UP{P:Program}{w:World}{X:Cx}:uF (II P w) X E0:=λ_ _ _ _ _ _ _ h=>by
 obtain⟨_,_,_,_,_,_,_,_,_,_,_,_,_,_,q⟩:=h;exact q.elim
abbrev akd:List Value:=[.type "ValueError",.type "Exception",.type "BaseException",.type "object"]
structure ab0(K:af)(C:Addr):Prop where
 ex:PySem.W.excIn K C akd "ValueError.__new__" = true
 ga:aH K (.ref C) "__getattribute__" = some (some (.builtin "BaseException.__getattribute__"))
 gb:aH K (.ref C) "__getattr__" = some none
 hd:xx K C=true
 ca:aH K (.ref C) "__class__" = some (some (.builtin "object.__class__"))
 cg:PySem.W.specialIn K (.builtin "object.__class__") "__get__" = some (some (.builtin "getset_descriptor.__get__"))
 ct:PySem.W.takesIn K (.builtin "object.__class__")=some true
 mo:PySem.W.mroIn K C (.type "object")=some true
 mb:PySem.W.mroIn K C (.type "BaseException")=some true
theorem aet{K:af}{h:Heap}{C:Addr}{a:List Value}{j:String}(X:K.In h)(q:PySem.W.excIn K C a j=true) :
 ∃bm N nm b bs e sn d ab col dd k0 k1 k2 k3 k5 k,h.get? C=some (excClassObj nm b C N bs bm e sn d ab col dd k0 k1 k2 k3 k5 j)/\h.Ns N k/\k "__init__" = none/\OwnTail h a bm/\bm.contains (.type "BaseException")=a.contains (.type "BaseException"):=by
 unfold PySem.W.excIn at q;split at q
 ·rename_i dd r i t
  obtain⟨nm,bs,u,f,b,e,sn,d,ab,col,s⟩:=r;obtain⟨i⟩:=i;split at q
  ·rename_i D bm k0 k1 k2 k3 n k5 m g
   simp only[dF,beq_iff_eq,Bool.not_eq_true'] at q;obtain⟨⟨⟨⟨⟨w,p⟩,l⟩,v⟩,c⟩,o⟩:=q;dsimp only at m g l c o;subst w p m g l;have T:=PySem.W.tail_of_in X v;exact⟨bm,f,nm,b,bs,e,sn,d,ab,col,dd,k0,k1,k2,k3,k5,h.nsMap f,X _ _ t,.of_isNs (PySem.W.isNs_of_in X c),PySem.W.nsMap_none_of_in X c o,T,T.hasType rfl⟩
  ·cases q
 ·cases q
section
variable{P:Program}{w:World}{K:af}{mg:Str->Option Value}{base:Heap}{N:List Str}{qual:Str}{scope:Scope}{f:Addr}{cd:Value}{A:Around}{outer:List Env}{s0:Shared}{H0:Hp}{E:XK}
theorem raised{a:List (Addr×Obj)}{l:St}{H:Hp}{s:Shared}{h':Heap}{e C:Addr}{vs:List Value}(I:Inv (pT (II P w) P w K mg base N qual scope f cd A outer s0 H0 E) a l H s)(hm:Heap.MadeExcOf s.heap h' e (.ref C) vs)
 (q:E (.ref C) none H):(pT (II P w) P w K mg base N qual scope f cd A outer s0 H0 E).xe (.ref e) {s with heap:=h'}:=by
 have i:H e=none:=by
  cases z:H e with
  |none=>rfl
  |some o =>
   obtain⟨ob,j⟩:=(I.hok e o z).there;rw[hm.new] at j;cases j
 have h:=I.aes rfl i hm.new;have d:Inv (pT (II P w) P w K mg base N qual scope f cd A outer s0 H0 E) a l H {s with heap:=h'}:=I.kept (t':=s.toks) hm.keeps;obtain⟨t,v,_,_⟩:=hm.there;show wpAny _ _ (leaving _ (.ref e)) _ _ _;unfold leaving;refine wpAny_bind (W8 (base:=base) d.ok.frames d.stack rfl v rfl rfl rfl λB u r=>?_);refine Kp u λp n x y=>?_;have g:=d.UO rfl;have m:∀b∈[e,h'.objs.size],Rec (pT (II P w) P w K mg base N qual scope f cd A outer s0 H0 E) a H b:=by
  intro b k;simp only[aV,List.not_mem_nil,or_false] at k;rcases k with z|z
  ·rw[z];exact h
  ·rw[z];exact g
 have c:QL (frs (pT (II P w) P w K mg base N qual scope f cd A outer s0 H0 E).stack) [e,h'.objs.size] h' p:=(r.mono (-_)).trans ((x _).mono (-_));have J:=d.trn (t':=s.toks) m c;exact⟨e,_,.ref C,H,rfl,I.os,I.bare,abZ d rfl m c,J.hok,n,h.2.2.2.1,g.2.2.2.1,h.1,g.1,q⟩
theorem Hi{x:Str}{C:Addr}{a:Expr}{O b k:Pos}{n:TE}(r:Gl (pT (II P w) P w K mg base N qual scope f cd A outer s0 H0 E) x)(Q:mg x=some (.ref C))(z:ab0 K C)(u:A.handled=none)
 (J:PE (pT (II P w) P w K mg base N qual scope f cd A outer s0 H0 E) a n) (l:(x==("__debug__" : Str))=false:=by decide)
 (m:backTo b (starEach [a] (pT (II P w) P w K mg base N qual scope f cd A outer s0 H0 E).env)=[(false,eval a (pT (II P w) P w K mg base N qual scope f cd A outer s0 H0 E).env)]:=by rfl) :
 PS (pT (II P w) P w K mg base N qual scope f cd A outer s0 H0 E) (.Raise (some (.Call (.Name x O) [a] [] b)) none k) (λ_ j H=>n j H λ_ o=>E (.ref C) none o):=by
 intro c s j H D I h;obtain⟨bm,t,nm,B,bs,S,sn,M,ab,col,dd,k0,k1,k2,k3,k5,W,R,p,i,T,L⟩:=aet I.ok.mod.z0 z.ex;refine wpAny_Raise_call_subT (C:=C) (nm:=nm) (q:=B) (N:=t) (bs:=bs) (bm:=bm) (hdct:=S) (sn:=sn) (sub:=M) (ab:=ab) (col:=col) (dd:=dd) (k0:=k0) (k1:=k1) (k2:=k2) (k3:=k3) (k5:=k5) PySem.F.excBase_ValueError (by rw[L];decide) u (by rw[m];rfl) i (G5 I r Q ⟨rfl,?_⟩ l);rw[m];refine Calls.evalArgs_plain (Calls.spliced_cons (gW (J c s j H _ I h) λv U ⟨y,o,d,X,G⟩=>Calls.spliced_nil ?_));exact⟨rfl,by show 1<=sizeLine;decide,d.bk _ _ R,p.keeps d.bk,T.keeps d.bk,λV e g=>raised d g G⟩
end
section
variable{X:Cx}{e:Expr}{es:List Expr}{pos:Pos}{te:TE}
abbrev TJ:=St->Hp->Str->VK->Prop
def PJ(X:Cx)(es:List Expr)(t:TJ):Prop :=
 ∀(pins:List (Addr×Obj)) (s:Shared) (σ:St) (H:Hp) (out:Str) (Q:VK),Inv X pins σ H s->t σ H out Q->wpAny (model X.prog X.w) X.A (joinParts out (evalEach es X.env)) (EP X pins σ Q) X.xe s
theorem pU:PJ X [] (λ_ H out Q=>out.length<=sizeLine/\Q (.str out) H):=λa s c H out Q I ⟨b,q⟩=>joinParts_nil ⟨.str out,H,I.tok _,⟨_,rfl⟩,q⟩ b
theorem ck{t:TJ}(l:PE X e te)(k:PJ X es t):PJ X (e::es) (λc H b Q=>te c H λv d=>∃y,v=.str y/\(b++y).length<=sizeLine/\t c d (b++y) Q):=by
 intro a s c H b Q I h;refine joinParts_cons (gW (l a s c H _ I h) λu i ⟨v,d,j,r,y,f,g,q⟩=>?_);subst f;obtain⟨m,rfl⟩:=r;exact⟨g,k a i c d _ Q j q⟩
theorem kX{c:Expr}{t:TJ}(h:PJ X (e::c::es) t):PE X (.JoinedStr (e::c::es) pos) (λb H Q=>t b H Str.empty Q):=λa s b H Q I q=>JoinedStr_many (h a s b H _ Q I q)
theorem gI(j:PE X e te):PE X (.FormattedValue e (-1) none pos) (λc H Q=>te c H λv b=>∃i:Int,v=.int i/\i.natAbs.log2<1920/\Q (.str (toString i)) b):=by
 intro a s c H Q I h;refine FormattedValue_plain (gW (j a s c H _ I h) λu k ⟨v,b,g,r,i,d,f,q⟩=>?_);subst d;obtain⟨l,rfl⟩:=r;exact formatField_int_small f ⟨.str _,b,g.tok _,⟨_,rfl⟩,q⟩
end
end L2
namespace RM
structure Row where
 hd:Int
 co:Int
 ho:Int
 by_:Int
deriving DecidableEq
theorem Row.ext'{r s:Row}(b:r.hd=s.hd)(d:r.co=s.co)(c:r.ho=s.ho)(a:r.by_=s.by_):r=s:=by
 cases r;cases s;simp_all
def lt(r s:Row):Prop:=r.hd<s.hd∨(r.hd=s.hd/\(r.co<s.co∨(r.co=s.co/\(r.ho<s.ho∨(r.ho=s.ho/\r.by_<s.by_)))))
instance (r s:Row):Decidable (lt r s):=by unfold lt;infer_instance
def le(r s:Row):Prop:=¬lt s r
instance (r s:Row):Decidable (le r s):=by unfold le;infer_instance
theorem le_refl(r:Row):le r r:=by unfold le lt;lia
theorem ahF{a b c:Int}{j i f:Prop}(h:¬j->¬i->¬f)(g:¬(b<a∨(b=a/\j)))(k:¬(c<b∨(c=b/\i))):¬(c<a∨(c=a/\f)):=by
 have l:a<=b:=Int.not_lt.mp λy=>g (.inl y);have d:b<=c:=Int.not_lt.mp λy=>k (.inl y);intro z;rcases z with z|⟨z,n⟩
 ·exact Int.not_lt.mpr (Int.le_trans l d) z
 ·subst z
  have e:=Int.le_antisymm l d;subst e;exact h (λy=>g (.inr ⟨rfl,y⟩)) (λy=>k (.inr ⟨rfl,y⟩)) n
theorem le_trans{r s t:Row}(c:le r s)(d:le s t):le r t :=
 ahF (ahF (ahF λa b=>Int.not_lt.mpr (Int.le_trans (Int.not_lt.mp a) (Int.not_lt.mp b)))) c d
theorem le_antisymm{r s:Row}(a:le r s)(b:le s r):r=s:=by
 unfold le lt at *;exact Row.ext' ∅ ∅ ∅ ∅
theorem agc{r s:Row}(h:lt r s):le r s:=by unfold le lt at *;lia
structure Net where
 n:Nat
 nm:Nat->Int
 a:Nat->Nat
 b:Nat->Nat
 c:Nat->Int
 live:List Nat
 inj:∀i j,i<n->j<n->nm i=nm j->i=j
 ab:∀k∈live,a k<n/\b k<n/\a k≠b k
 c1:∀k∈live,1<=c k
section
variable(N:Net)
def LB(k h g:Nat):Prop:=k∈N.live/\((N.a k=h/\N.b k=g)∨(N.b k=h/\N.a k=g))
noncomputable def own(h:Nat):Row:=⟨N.nm h,0,0,-1⟩
noncomputable def over(k:Nat)(r:Row):Row:=⟨r.hd,r.co+N.c k,r.ho+1,k⟩
end
variable{N:Net}
theorem LB.symm{k h g:Nat}(e:LB N k h g):LB N k g h:=⟨e.1,e.2.elim (λz=>.inr ⟨z.2,z.1⟩) λz=>.inl ⟨z.2,z.1⟩⟩
theorem LB.lt{k h g:Nat}(e:LB N k h g):h<N.n/\g<N.n/\h≠g:=by
 obtain⟨d,e⟩:=e;obtain⟨a,c,b⟩:=N.ab k d;rcases e with ⟨rfl,rfl⟩|⟨rfl,rfl⟩
 ·exact⟨a,c,b⟩
 ·exact⟨c,a,cu b⟩
theorem LB.cost{k h g:Nat}(e:LB N k h g):1<=N.c k:=N.c1 k e.1
structure zd(cut:Int)(R:Nat->Row)(h:Nat)(d:Row):Prop where
 one:d=own N h∨∃k g,LB N k h g/\(R g).ho+1<cut/\d=over N k (R g)
 own:le d (RM.own N h)
 all:∀k g,LB N k h g->(R g).ho+1<cut->le d (over N k (R g))
theorem zd.uniq{cut:Int}{R:Nat->Row}{h:Nat}{d e:Row}(p:zd (N:=N) cut R h d)(q:zd (N:=N) cut R h e):d=e:=by
 apply le_antisymm
 ·rcases q.one with z|⟨k,g,a,c,z⟩
  ·rw[z];exact p.own
  ·rw[z];exact p.all k g a c
 ·rcases p.one with z|⟨k,g,a,c,z⟩
  ·rw[z];exact q.own
  ·rw[z];exact q.all k g a c
def Rest(N:Net)(S:Nat->Row):Prop:=∀h,h<N.n->zd (N:=N) N.n S h (S h)
def Sane(N:Net)(R:Nat->Row):Prop:=∀h,h<N.n->0<=(R h).ho/\(R h).ho<N.n
noncomputable def upd(R:Nat->Row)(h:Nat)(d:Row):Nat->Row:=λx=>if x=h then d else R x
structure pV(N:Net)(R:Nat->Row)(k h g:Nat):Prop where
 D4:LB N k h g
 cut:(R g).ho+1<N.n
 eq:R h=over N k (R g)
theorem LB.far{k h g g':Nat}(a:LB N k h g)(c:LB N k h g'):g=g':=by
 obtain⟨b,e⟩:=a;obtain⟨_,d⟩:=c
 have:=(N.ab k b).2.2
 lia
section
variable{R:Nat->Row}{k h g:Nat}
theorem pV.ho(t:pV N R k h g):(R h).ho=(R g).ho+1:=by rw[t.eq];rfl
theorem pV.by(t:pV N R k h g):(R h).by_=k:=by rw[t.eq];rfl
theorem pV.uniq{a g':Nat}(t:pV N R k h g)(u:pV N R a h g'):k=a/\g=g':=by
 have b:=t.by;have c:=u.by;have e:k=a:=∅
 subst e;exact⟨rfl,t.D4.far u.D4⟩
theorem pV.one{h' g':Nat}(t:pV N R k h g)(u:pV N R k h' g'):h=h'/\g=g':=by
 obtain⟨f,e⟩:=t.D4;obtain⟨_,b⟩:=u.D4;have d:=t.ho;have i:=u.ho;have a:h=h'∨(h=g'/\g=h'):=by
  rcases e with ⟨rfl,rfl⟩|⟨rfl,rfl⟩ <;> rcases b with ⟨rfl,rfl⟩|⟨rfl,rfl⟩ <;> simp
 rcases a with a|⟨a,c⟩
 ·subst a
  exact⟨rfl,t.D4.far u.D4⟩
 ·subst a c
  lia
end
end RM
namespace RM
variable{N:Net}
end RM
namespace L2
open PySem PySem.Spec PyProof.Rows
inductive UQ:List Value->List Value->Bool->Prop
 |nil:UQ [] [] false
 |ne {a c:Int} {t u:Tok} {vs ws:List Value} (h:a≠c):UQ (.int a t::vs) (.int c u::ws) (decide (a<c))
 |eq {a:Int} {t u:Tok} {vs ws:List Value} {r:Bool} (h:UQ vs ws r):UQ (.int a t::vs) (.int a u::ws) r
section
open PySem.SeqAt
open PySem.AutoSeq1 (wpAny_loadPart')
open PySem.MeetsSeq PySem.MeetsSeq2 PySem.MeetsSeq3
theorem W9(l b:Addr)(items f:Array Value)(n H:Nat)(dd F:Option Addr)(I B:Array (Option Value))(r:Bool)(L:UQ items.toList f.toList r)(hsz:items.size=f.size) :
 Meets (Builtin.«tuple.__lt__» ⟨[.ref l,.ref b],[]⟩)
  (λ_ R s=>s.heap.get? l=some {cls:=.type "tuple",dict:=dd,data:=.seq items n,slots:=I}/\s.heap.get? b=some {cls:=.type "tuple",dict:=F,data:=.seq f H,slots:=B} /\
   R (.ok (.ret (.bool r))) s) :=
 .of_wp λj w A R s h=>by
  obtain⟨v,g,d,z,os⟩:=s;obtain⟨N,K,h⟩:=h;have Q:=AutoSeq1.sub_tuple_tuple
  wp_walk using wpAny_loadPart' N,wpAny_loadPart' K,wpAny_forIn_list _ (λrest b D=>b.1=none/\D=⟨v,g,d,z,os⟩/\∃(p q:List Value),rest=p.zip q/\UQ p q r) _
  case turn =>
   rintro⟨y,x⟩ rest b D ⟨o,rfl,p,q,k,m⟩;cases m with
   |nil=>rw[List.zip_nil_left] at k;cases k
   |@ne a c t u p q E =>
    rw[List.zip_cons_cons] at k;injection k with hyx hrest
    injection hyx with hy m
    subst hy m;obtain⟨e,G,i⟩:=HT.UC A.in1 ⟨v,g,d,z,os⟩ a t c u;refine wpAny_bind (G j w _ _ ?_);cases e with
    |true=>exact eL (i.mp rfl) E
    |false =>
     have J:=HT.abG A.in1 ⟨v,g,d,z,os⟩ a t c u j w
     wp_walk using J
     exact⟨_,rfl,by simpa using h⟩
   |@eq a t u p q S C =>
    rw[List.zip_cons_cons] at k;injection k with hyx hrest
    injection hyx with hy m
    subst hy m;obtain⟨e,G,i⟩:=HT.UC A.in1 ⟨v,g,d,z,os⟩ a t a u;refine wpAny_bind (G j w _ _ ?_);cases e with
    |true =>
     wp_walk
     exact⟨rfl,rfl,_,_,hrest,C⟩
    |false=>exact eL (i.mpr rfl) aO
  case fin =>
   rintro⟨O,P⟩ D ⟨o,rfl,p,q,k,m⟩;simp only at o;subst o;cases m with
   |nil =>
    have M:decide (items.size<f.size)=false:=e8 ∅;rw[<- M] at h
    wp_walk
    exact⟨_,rfl,by simpa [Builtin.Tuple.tupleCompareSizes] using h⟩
   |ne=>rw[List.zip_cons_cons] at k;cases k
   |eq=>rw[List.zip_cons_cons] at k;cases k
  case h =>
   exact⟨rfl,rfl,items.toList,f.toList,rfl,L⟩
end
theorem aeu{prog:Program}{w:World}{A:Around}{E:Value->Shared->Prop}{s:Shared}{l b:Addr}{items a:Array Value}{r:Bool}{Q:Value->Shared->Prop}(hl:IsTup s.heap l items)(y:IsTup s.heap b a)(z:UQ items.toList a.toList r)(hsz:items.size=a.size)
 (p:A.units<cLine) (h:Q (.bool r) s):wpAny (model prog w) A (compareOp .Lt (.ref l) (.ref b)) Q E s:=by
 obtain⟨⟨q,t,k,v⟩,j,m,n,i⟩:=id hl;obtain⟨⟨o,g,data2,f⟩,c,e,u,d⟩:=id y;simp only at m i e d;subst m i e d;exact richCompare_meets_room (op:=.Lt) ⟨_,j,rfl⟩ ⟨_,c,rfl⟩ PySem.F.slot_tuple_lt PySem.F.entry_tuple_lt (PySem.F.args_tuple_lt_2 _ _) (W9 l b items a n u t g v f r z hsz)
  ⟨j,c,show Value.bool r≠Value.notImplemented/\Q (.bool r) s from ⟨(λx=>nomatch x),h⟩⟩ p
inductive Mb:List V->List V->Bool->Prop
 |nil:Mb [] [] false
 |ne {a c:Int} {vs ws:List V} (h:a≠c):Mb (.int a::vs) (.int c::ws) (decide (a<c))
 |eq {a:Int} {vs ws:List V} {r:Bool} (h:Mb vs ws r):Mb (.int a::vs) (.int a::ws) r
theorem Mb.vals{vs ws:List V}{r:Bool}(h:Mb vs ws r):∀{us a:List Value},b6 vs us->b6 ws a->UQ us a r:=by
 induction h with
 |nil=>intro us a b c;cases b;cases c;exact .nil
 |ne h =>
  intro us a b c;cases b with
  |cons d _ =>
   cases c with
   |cons e _ =>
    obtain⟨t,rfl⟩:=d;obtain⟨u,rfl⟩:=e;exact .ne h
 |eq _ f =>
  intro us a b c;cases b with
  |cons d g =>
   cases c with
   |cons e i =>
    obtain⟨t,rfl⟩:=d;obtain⟨u,rfl⟩:=e;exact .eq (f g i)
section
variable{X:Cx}
def ank(K:af):R2:=λx y H Q=>∃a b xs ys r,x=.ref a/\y=.ref b/\cR K H a xs/\cR K H b ys/\xs.length=ys.length/\Mb xs ys r/\Q (.bl r) H
theorem ahG(g:X.A.units<cLine):BG X (compareOp .Lt) (ank X.K):=by
 intro d s w H x y v u Q I p n h;obtain⟨a,b,B,z,r,rfl,rfl,l,m,o,j,q⟩:=h;cases p;cases n;obtain⟨k,e,t,_⟩:=I.tuple l;obtain⟨c,f,i,_⟩:=I.tuple m;exact aeu t i (j.vals e f) (by rw[aW,aW,<- e.length,<- f.length];exact o) g ⟨.bl r,H,I,rfl,q⟩
end
end L2
namespace RM
open PySem L2
noncomputable def jC(b:Int):V:=if b<0 then .dH else .int b
noncomputable abbrev cC(r:Row):List V:=[.int r.hd,.int r.co,.int r.ho,jC r.by_]
theorem bh{b:Int}(h:b<0):jC b=.dH:=b3 h
theorem aZ{b:Int}(h:0<=b):jC b=.int b:=eH ∅
end RM
namespace L2
open PySem PySem.Spec PyProof.Rows
end L2
namespace L2
open PySem PySem.Spec PyProof.Rows RM
end L2
namespace L2
open PySem PySem.Spec PyProof.Rows
section
variable{X:Cx}
def anl(K:af):R2:=λx y H Q=>∃da db,Rep K H da x/\Rep K H db y/\da.canLay0=true/\db.canLay0=true/\da.depth<=64/\Q (.bl (PyData.eqv da db)) H
theorem YD(K:af)(j:X.K=K)(b:X.A.units+64<cLine):BG X (compareOp .Eq) (anl K):=by
 subst j;intro a s k H x y v u Q I g l ⟨f,e,h,i,c,m,d,q⟩;exact z5 a s k H x y v u Q I g l ⟨f,e,h,i,c,m,bq (bI (ay (cQ _ _) d) _) b,q⟩
end
end L2
namespace RM
open PySem L2
noncomputable def kF(b:Int):PyData:=if b<0 then .none else .int b
noncomputable def FY(r:Row):PyData:=.tuple [.int r.hd,.int r.co,.int r.ho,kF r.by_]
theorem aev{K:af}{H:Hp}(b:Int):Rep K H (kF b) (jC b):=by
 unfold kF jC;by_cases h:b<0
 ·rw[b3 h,b3 h];rfl
 ·rw[eH h,eH h];rfl
theorem uG{K:af}{H:Hp}{p:Addr}{r:Row}(h:cR K H p (cC r)):Rep K H (FY r) (.ref p) :=
 ⟨p,_,rfl,h,_,_,rfl,rfl,_,_,rfl,rfl,_,_,rfl,rfl,_,_,rfl,aev _,rfl⟩
theorem uH(r:Row):(FY r).canLay0=true:=by
 show (true&&(true&&(true&&((kF r.by_).canLay0&&true))))=true;unfold kF;split <;> rfl
theorem IY(r:Row):(FY r).depth=1:=by
 show max 0 (max 0 (max 0 (max (kF r.by_).depth 0)))+1=1;unfold kF;split <;> rfl
theorem Mc{r s:Row}(g:-1<=r.by_)(i:-1<=s.by_):PyData.eqv (FY r) (FY s)=decide (r=s):=by
 have e:PyData.eqv (FY r) (FY s)=((r.hd==s.hd)&&((r.co==s.co)&&((r.ho==s.ho)&&(PyData.eqv (kF r.by_) (kF s.by_)&&true)))):=rfl;rw[e];have f:PyData.eqv (kF r.by_) (kF s.by_)=decide (r.by_=s.by_):=by
  unfold kF;by_cases a:r.by_<0 <;> by_cases c:s.by_<0
  ·rw[b3 a,b3 c]
   exact (eO ∅).symm
  ·rw[b3 a,eH c]
   exact (e8 ∅).symm
  ·rw[eH a,b3 c]
   exact (e8 ∅).symm
  ·rw[eH a,eH c]
   show (r.by_==s.by_)=_;by_cases b:r.by_=s.by_
   ·rw[eO b,b];exact beq_self_eq_true _
   ·rw[e8 b];exact beq_eq_false_iff_ne.mpr b
 rw[f];by_cases h:r=s
 ·subst h
  simp
 ·rw[e8 h]
  have:¬(r.hd=s.hd/\r.co=s.co/\r.ho=s.ho/\r.by_=s.by_):=λz=>h (Row.ext' z.1 z.2.1 z.2.2.1 z.2.2.2)
  simp only[Bool.and_true];by_cases a:r.hd=s.hd
  ·by_cases c:r.co=s.co
   ·by_cases b:r.ho=s.ho
    ·have d:¬r.by_=s.by_:=λz=>this ⟨a,c,b,z⟩
     simp[d]
    ·simp[b]
   ·simp[c]
  ·simp[a]
end RM
namespace L2
open PySem PySem.Spec PyProof.Rows
end L2
namespace RM
open PySem L2
theorem aew{r s:Row}(h:r.hd=s.hd->r.co=s.co->r.ho=s.ho->¬lt r s):Mb [.int r.hd,.int r.co,.int r.ho] [.int s.hd,.int s.co,.int s.ho] (decide (lt r s)):=by
 obtain⟨i,j,m,o⟩:=r;obtain⟨n,l,k,p⟩:=s;dsimp only at h;have a:∀{b g:Bool} {vs ws},Mb vs ws b->b=g->Mb vs ws g:=λh e=>e▸h;by_cases c:i=n
 ·subst c
  by_cases f:j=l
  ·subst f
   by_cases d:m=k
   ·subst d
    exact a (.eq (.eq (.eq .nil))) (e8 (h rfl rfl rfl)).symm
   ·exact a (.eq (.eq (.ne d))) (by unfold lt;simp[d])
  ·exact a (.eq (.ne f)) (by unfold lt;simp[f])
 ·exact a (.ne c) (by unfold lt;simp[c])
end RM
namespace L2
open PySem PySem.Spec PyProof.Rows
end L2
set_option maxHeartbeats 4000000
namespace TW
open PySem L2 PyProof.Rows
open RM (cC jC bh aZ)
seal L2.PE L2.PA L2.PT L2.PW L2.PS L2.iQ L2.PG L2.kT L2.PI L2.kU
structure ab1(n:Int)(a b c d e:Int):Prop where
 a0:0<=a
 a1:a<n
 b0:0<=b
 b1:b<n
 ab:a≠b
 c1:1<=c
 d1:1<=d
 d4:d<=4
 e1:1<=e
 e7:e<=7
noncomputable abbrev ake(a b c d e:Int):List V:=[.int a,.int b,.int c,.int d,.int e]
structure R5 where
 a:Int
 b:Int
 c:Int
 d:Int
 e:Int
noncomputable abbrev R5.vs(r:R5):List V:=ake r.a r.b r.c r.d r.e
noncomputable abbrev R5.ns(r:R5):List Int:=[r.a,r.b,r.c,r.d,r.e]
noncomputable def R5.D(r:R5):PyData:=.tuple (r.ns.map .int)
abbrev R5.Ok(n:Int)(r:R5):Prop:=ab1 n r.a r.b r.c r.d r.e
def Me(K:af)(H:Hp)(l:Addr)(rs:List R5):Prop:=Rep K H (.list (rs.map R5.D)) (.ref l)
section
variable{K:af}{H H':Hp}{l:Addr}{rs:List R5}
theorem Me.mono(s:aC H H')(h:Me K H l rs):Me K H' l rs:=Rep.mono s h
theorem Me.at(h:Me K H l rs):∃vs,bC K H l vs/\vs.length=rs.length/\∀(i:Nat) r,rs[i]?=some r->∃p,vs[i]?=some (.ref p)/\cR K H p r.vs:=by
 obtain⟨a,vs,e,q,r⟩:=h;cases e;refine⟨vs,q,by rw[r.length,ah],λi x g=>?_⟩;obtain⟨v,b,f⟩:=r.get (i:=i) (d:=x.D) (by rw[ak,g];rfl);obtain⟨p,e,c⟩:=Rep.BW (ns:=x.ns) f;subst e;exact⟨p,b,c⟩
end
theorem Mf:∀(ns:List Int),ns.Nodup->(firstMet (λi=>ns.getD i 0) ns.length).length=ns.length:=by
 intro ns g;have e:(au ns.length).map (λi=>ns.getD i 0)=ns:=by
  apply iA
  ·simp
  ·intro i d m
   simp at d;simp[aj,d]
 have c:∀(b a:List Int),(a++b).Nodup->b.foldl step_dedup a=a++b:=by
  intro b;induction b with
  |nil=>intro a _;simp
  |cons x b l =>
   intro a h;have k:x∉a:=λf=>by
    rw[xA] at h;exact h.2.2 x f x (-_) rfl
   have j:step_dedup a x=a++[x]:=by
    unfold step_dedup;simp[k]
   rw[fC,j,l _ (by simpa using h)];simp
 unfold firstMet;rw[e,c ns [] (by simpa using g)];simp
theorem dS{f:Str}{v:V}:∀{a:List (Str×V)} {names:List Str},a.map (·.1)=names->names.contains f=false->zb f v a=a++[(f,v)]
 |[],_,_,_=>rfl
 | (g,u)::r,_,e,h=>by
  subst e;rw[bA,List.contains_cons,Bool.or_eq_false_iff] at h;have b:¬g=f:=λz=>by
   have:=h.1
   rw[z] at this;simp at this
  show (if g=f then (g,v)::r else (g,u)::zb f v r)=_;rw[eH b,dS rfl h.2];rfl
theorem D5{K:af}{H d:Hp}{p C f:Addr}{e:List (Str×V)}{a:Addr}{xs:List V}(k:∀b o,H b=some o->b≠p->d b=some o)(c:H p=some (.ins C f e))(h:bC K H a xs):bC K d a xs:=by
 rcases h with (h|⟨o,h⟩)|h
 ·exact .inl (.inl (k _ _ h (pK h c (by intro z;cases z))))
 ·exact .inl (.inr ⟨o,k _ _ h (pK h c (by intro z;cases z))⟩)
 ·exact .inr h
theorem aex{K:af}{H d:Hp}{p C f:Addr}{e:List (Str×V)}{a:Addr}{xs:List V}(k:∀b o,H b=some o->b≠p->d b=some o)(c:H p=some (.ins C f e))(h:cR K H a xs):cR K d a xs:=by
 rcases h with (h|⟨o,h⟩)|h
 ·exact .inl (.inl (k _ _ h (pK h c (by intro z;cases z))))
 ·exact .inl (.inr ⟨o,k _ _ h (pK h c (by intro z;cases z))⟩)
 ·exact .inr h
mutual
theorem aey{K:af}{H f:Hp}{p C i:Addr}{g:List (Str×V)}(k:∀b o,H b=some o->b≠p->f b=some o)(c:H p=some (.ins C i g)):∀{d:PyData} {v:V},Rep K H d v->Rep K f d v
 |.none,_,h=>h
 |.bool _,_,h=>h
 |.int _,_,h=>h
 |.str _,_,h=>h
 |.list ds,_,⟨a,vs,e,q,r⟩=>⟨a,vs,e,D5 k c q,kC k c r⟩
 |.tuple ds,_,⟨a,vs,e,q,r⟩=>⟨a,vs,e,aex k c q,kC k c r⟩
 |.dict _,_,h=>h
theorem kC{K:af}{H c:Hp}{p C f:Addr}{d:List (Str×V)}(k:∀b o,H b=some o->b≠p->c b=some o)(a:H p=some (.ins C f d)):∀{ds:List PyData} {vs:List V},cW K H ds vs->cW K c ds vs
 |[],_,h=>h
 |_::_,_,⟨v,r,e,q,t⟩=>⟨v,r,e,aey k a q,kC k a t⟩
end
noncomputable abbrev anm(ln lr:Addr)(n m:Nat):List (Str×V):=[("house_names",.ref ln),("rope_tuples",.ref lr),("size",.int n),("many",.int m)]
structure cy(K:af)(C:Addr)(H:Hp)(p ln lr:Addr)(ns:List Int)(rs:List R5):Prop where
 ob:∃dx,H p=some (.ins C dx (anm ln lr ns.length rs.length))
 nl:H ln=some (.lst (ns.map V.int))
 rl:∃vs,H lr=some (.lst vs)/\cW K H (rs.map R5.D) vs
section
variable{K:af}{C:Addr}{H H':Hp}{p ln lr:Addr}{ns:List Int}{rs:List R5}
theorem cy.mono(s:aC H H')(h:cy K C H p ln lr ns rs):cy K C H' p ln lr ns rs:=by
 obtain⟨⟨f,c⟩,e,a,d,b⟩:=h;exact⟨⟨f,s _ _ c⟩,s _ _ e,a,s _ _ d,b.mono s⟩
end
theorem Sf(a x:Int):ZY (.int a) (.int x)=decide (x=a):=by
 show (a==x)=decide (x=a);by_cases e:x=a
 ·rw[eO e,e];exact beq_self_eq_true a
 ·rw[e8 e];exact beq_eq_false_iff_ne.mpr (cu e)
theorem ze(x:Int)(xs:List Int):Uo (.int x) (xs.map V.int)=decide (x∈xs):=by
 unfold Uo;induction xs with
 |nil=>simp
 |cons y c d =>
  rw[bA,List.any_cons,d,Sf];by_cases a:x=y
  ·subst a;simp
  ·by_cases b:x∈c
   ·simp[a,b]
   ·simp[a,b]
theorem zf(xs:List Int):(xs.map V.int).all BP=true:=by
 rw[lM];intro v a;obtain⟨x,_,rfl⟩:=aF.mp a;rfl
noncomputable def above(xs:List Int)(x:Int):Nat:=(xs.filter λy=>decide (x<=y)).length
theorem Mg{K:af}{a:Addr}{xs:List V}{b:Hp}(h:cR K b a xs):∀i H,i<xs.length->aC b H->(Itt K a).go i H:=λi H c s=>⟨xs,xs[i],s.cV h,by simp[c]⟩
theorem BY{K:af}{a:Addr}{xs:List V}{b:Hp}(h:cR K b a xs):∀H,aC b H->(Itt K a).stop xs.length H:=λH s=>⟨xs,s.cV h,aB _⟩
structure z6(n m:Nat)(r:RM.Row):Prop where
 hd:0<=r.hd
 co:0<=r.co
 ho:0<=r.ho/\r.ho<n
 by_:r.by_=-1∨(0<=r.by_/\r.by_<m)
noncomputable abbrev bE(ks:List Nat):List V:=ks.map λk=>V.int (k:Nat)
theorem jn(a:List Nat)(k:Nat):bE (a++[k])=bE a++[V.int (k:Nat)]:=by
 unfold bE;rw[aU];rfl
theorem aez{K:af}{H:Hp}{q a:Addr}{xs c:List V}{o:HO}(b:H q=some (.lst xs))(h:cR K H a c):cR K (upd H q o) a c:=by
 rcases h with (h|⟨ob,h⟩)|h
 ·exact .inl (.inl (by rw[aK (pK h b (by intro z;cases z))];exact h))
 ·exact .inl (.inr ⟨ob,by rw[aK (pK h b (by intro z;cases z))];exact h⟩)
 ·exact .inr h
noncomputable def bf(ns:List Int)(rs:List R5)(live:List Nat)(nd:ns.Nodup)(ok:∀r∈rs,r.Ok ns.length)(hl:∀k∈live,k<rs.length):RM.Net where
 n:=ns.length
 nm i:=ns.getD i 0
 a k:=((rs[k]?).map λr=>r.a.toNat).getD 0
 b k:=((rs[k]?).map λr=>r.b.toNat).getD 0
 c k:=((rs[k]?).map λr=>r.c).getD 0
 live:=live
 inj i j hi hj e:=by
  have e1:ns.getD i 0=ns[i]:=by simp[aj,hi]
  have e2:ns.getD j 0=ns[j]:=by simp[aj,hj]
  have e:ns[i]=ns[j]:=by rw[<- e1,<- e2];exact e
  exact (List.getElem?_inj hi nd).mp (by rw[aa hi,aa hj,e])
 ab k hk:=by
  have h:=hl k hk;have o:=ok _ (aD h);simp only[aa h,ux,Option.getD_some];have h1:=o.a0;have h2:=o.a1;have h3:=o.b0;have h4:=o.b1;have h5:=o.ab;exact⟨∅,∅,∅⟩
 c1 k hk:=by
  have h:=hl k hk;have o:=ok _ (aD h);simp only[aa h,ux,Option.getD_some];exact o.c1
def xC(K:af)(H:Hp)(l:Addr)(n:Nat)(R:Nat->RM.Row):Prop:=∃ps:List Addr,bC K H l (ps.map V.ref)/\ps.length=n/\∀(i:Nat) p,ps[i]?=some p->cR K H p (cC (R i))
theorem xC.mono{K:af}{H a:Hp}{l:Addr}{n:Nat}{R:Nat->RM.Row}(s:aC H a)(h:xC K H l n R):xC K a l n R:=by
 obtain⟨b,c,f,d⟩:=h;exact⟨b,s.seq c,f,λi p e=>s.cV (d i p e)⟩
theorem nU:∀ns:List Int,PyData.canLayAll0 (ns.map .int)=true
 |[]=>rfl
 |n::ns=>by
  show (PyData.canLay0 (.int n)&&PyData.canLayAll0 (ns.map .int))=true;rw[nU ns];rfl
theorem D6:∀ns:List Int,PyData.depthAll (ns.map .int)=0
 |[]=>rfl
 |n::ns=>by
  show max (PyData.depth (.int n)) (PyData.depthAll (ns.map .int))=0;rw[D6 ns];rfl
theorem Mh(xs:List V)(i:Nat):Ez xs (some (i:Int)) none=xs.drop i:=by
 unfold Ez;rw[HT.R6];show (xs.drop (min i xs.length)).take (xs.length-min i xs.length)=_;by_cases h:i<=xs.length
 ·rw[Nat.min_eq_left h,jg (by rw[rR];exact aB _)]
 ·rw[Nat.min_eq_right ∅,List.drop_of_length_le (aB _),List.drop_of_length_le ∅]
  simp
section
variable{ns:List Int}{rs:List R5}{live:List Nat}{nd:ns.Nodup}{ok:∀r∈rs,r.Ok ns.length}{hl:∀k∈live,k<rs.length}
def xD(n m:Nat)(R:Nat->RM.Row):Prop:=∀i,i<n->z6 n m (R i)
theorem xD.aeA{m:Nat}{R:Nat->RM.Row}(h:xD ns.length m R):RM.Sane (bf ns rs live nd ok hl) R:=λi a=>(h i a).ho
theorem YE{R:Nat->RM.Row}{h:Nat}{d:RM.Row}(j:xD ns.length rs.length R)(b:h<ns.length)(l:∀x∈ns,0<=x)(i:RM.zd (N:=bf ns rs live nd ok hl) ns.length R h d):z6 ns.length rs.length d:=by
 rcases i.one with e|⟨k,g,a,c,e⟩
 ·rw[e]
  have m:(bf ns rs live nd ok hl).nm h=ns[h]:=by show ns.getD h 0=_;simp[aj,b]
  refine⟨?_,Int.le_refl _,⟨Int.le_refl _,?_⟩,.inl rfl⟩
  ·show 0<=(bf ns rs live nd ok hl).nm h
   rw[m];exact l _ (aD b)
  ·show (0:Int)<ns.length
   lia
 ·have f:=j g a.lt.2.1
  have o:=a.cost;have n:k<rs.length:=hl k a.1;rw[e];refine⟨f.hd,?_,⟨?_,c⟩,.inr ⟨?_,?_⟩⟩
  ·show 0<=(R g).co+(bf ns rs live nd ok hl).c k
   have:=f.co
   lia
  ·show 0<=(R g).ho+1
   have:=f.ho.1
   lia
  ·show (0:Int)<=(k:Nat);lia
  ·show ((k:Nat):Int)<(rs.length:Nat);lia
end
theorem z6.by1{n m:Nat}{r:RM.Row}(h:z6 n m r):-1<=r.by_:=by have:=h.by_;lia
noncomputable def isAt(rs:List R5)(h:Int)(i:Nat):Bool:=match rs[i]? with|some r=>decide (h=r.a) || decide (h=r.b)|none=>false
noncomputable def lC(rs:List R5)(h:Int)(n:Nat):List Nat:=(au n).filter (isAt rs h)
theorem UR(rs:List R5)(h:Int)(n:Nat):lC rs h (n+1)=lC rs h n++(if isAt rs h n then [n] else []):=by
 unfold lC;rw[fB,iy];congr 1;by_cases a:isAt rs h n=true
 ·rw[b3 a];simp[a]
 ·rw[eH a];simp[a]
theorem aeB(rs:List R5)(h:Int)(n:Nat):(lC rs h n).length<=n:=by
 have:=bD (isAt rs h) (au n)
 rw[bz] at this;exact this
theorem ahH(x a b:Int):Uo (V.int x) [V.int a,V.int b]=(decide (x=a) || decide (x=b)):=by
 show (ZY (.int a) (.int x) || (ZY (.int b) (.int x) || false))=_;rw[Sf,Sf,Bool.or_false]
theorem fV(a:List Nat):bE a=(a.map λk:Nat=>(k:Int)).map V.int:=by
 unfold bE;rw[bP];rfl
theorem zg(x:Nat)(xs:List Nat):Uo (.int (x:Nat)) (bE xs)=decide (x∈xs):=by
 rw[fV,ze];by_cases h:x∈xs
 ·rw[eO h]
  exact eO (aF.mpr ⟨x,h,rfl⟩)
 ·rw[e8 h]
  refine e8 λz=>h ?_;obtain⟨y,a,e⟩:=aF.mp z
  have:y=x:=∅
  exact this▸a
theorem nC(xs:List Nat):(bE xs).all BP=true:=by rw[fV];exact zf _
theorem ab2(rs:List R5)(h:Int)(n:Nat):(lC rs h n).Pairwise (·<·):=List.Pairwise.filter _ List.pairwise_lt_range
theorem aeC{a:List Nat}(h:a.Pairwise (·<·)){j:Nat}(d:j<a.length){k:Nat}(c:k∈a.take j):k<a[j]:=by
 obtain⟨i,b,e⟩:=List.getElem_of_mem c;rw[bU] at b;rw[List.getElem_take] at e;rw[<- e];exact List.pairwise_iff_getElem.mp h i j ∅ d ∅
theorem D7{rs:List R5}{h:Int}{n k:Nat}:k∈lC rs h n↔k<n/\isAt rs h k=true:=by
 unfold lC;rw[bZ,cT]
section
variable{ns:List Int}{rs:List R5}{live:List Nat}{nd:ns.Nodup}{ok:∀r∈rs,r.Ok ns.length}{hl:∀k∈live,k<rs.length}
noncomputable def jL(r:R5)(h:Nat):Nat:=(if (h:Int)=r.a then r.b else r.a).toNat
theorem wF{k h g:Nat}(f:k∈live):RM.LB (bf ns rs live nd ok hl) k h g↔isAt rs (h:Int) k=true/\g=jL (rs[k]'(hl k f)) h:=by
 have d:=hl k f;have o:=ok _ (aD d);have i:rs[k]?=some rs[k]:=aa d;have j:(bf ns rs live nd ok hl).a k=rs[k].a.toNat:=by show ((rs[k]?).map λr=>r.a.toNat).getD 0=_;rw[i];rfl
 have l:(bf ns rs live nd ok hl).b k=rs[k].b.toNat:=by show ((rs[k]?).map λr=>r.b.toNat).getD 0=_;rw[i];rfl
 unfold RM.LB isAt jL;rw[j,l,i];dsimp only;generalize rs[k]=r at o;have m:=o.a0;have p:=o.b0;have n:=o.ab;constructor
 ·rintro⟨_,⟨e,c⟩|⟨e,c⟩⟩
  ·have z:(h:Int)=r.a:=∅
   rw[b3 z];exact⟨by simp[z],c.symm⟩
  ·have z:(h:Int)=r.b:=∅
   rw[eH ∅];exact⟨by simp[z],c.symm⟩
 ·rintro⟨e,c⟩
  refine⟨f,?_⟩;have e:(h:Int)=r.a∨(h:Int)=r.b:=by simpa using e
  by_cases z:(h:Int)=r.a
  ·rw[b3 z] at c
   exact .inl ⟨∅,c.symm⟩
  ·rw[eH z] at c
   exact .inr ⟨∅,c.symm⟩
end
theorem Hj{a:Type}{xs:List a}{x y:a}{j:Nat}(h:(xs++[x])[j]?=some y):xs[j]?=some y∨(j=xs.length/\y=x):=by
 by_cases b:j<xs.length
 ·rw[bM b] at h
  exact .inl h
 ·have:=(ai.mp h).1
  rw[aA] at this;have e:j=xs.length:=by have:j<xs.length+1:=this;lia
  subst e;rw[bW (aB _),lA] at h;cases h;exact .inr ⟨rfl,rfl⟩
theorem D8{n i:Nat}(h:i<n):su n (i:Int)=some i:=by
 unfold su;rw[b3 ∅,b3 ∅];simp
section
variable{ns:List Int}{rs:List R5}{live:List Nat}{nd:ns.Nodup}{ok:∀r∈rs,r.Ok ns.length}{hl:∀k∈live,k<rs.length}
theorem akg{k:Nat}(h:k<rs.length):(bf ns rs live nd ok hl).c k=rs[k].c:=by
 show ((rs[k]?).map λr=>r.c).getD 0=_;rw[aa h];rfl
end
end TW
namespace TW
open PySem L2 PyProof.Rows
theorem cJ{a b:TS}{D:Ends}{e:L2.St}{H:Hp}(h:∀N:L2.St->Hp->Prop,(∀c d,b D c d->N c d)->a {D with nx:=N} e H):aeb a b D e H:=h _ λ_ _ x=>x
theorem Sg{K:af}{H:Hp}{Q:VK}{p:Addr}{xs:List V}{i:Int}{v:V}(h:bC K H p xs)(e:Kn xs i=some v)(k:Q v H):ZX K (.ref p) (.int i) H Q:=⟨p,xs,i,v,rfl,rfl,h,e,k⟩
theorem aeD{K:af}{a:L2.St}{H:Hp}{Q:VK}{p:Addr}{xs:List V}{i:Int}{v:V}(h:cR K H p xs)(e:Kn xs i=some v)(k:Q v H):tC (.int i) a H λy b=>UE K (.ref p) y b Q:=⟨p,xs,i,v,rfl,rfl,h,e,k⟩
theorem qu{c:TT}{t u r:TS}{D:Ends}{a:L2.St}{H:Hp}(J:L2.St->Hp->Prop)(b:∀a H,J a H->r D a H)(h:∀N:L2.St->Hp->Prop,(∀a H,J a H->N a H)->ag6 c t u {D with nx:=N} a H):aeb (ag6 c t u) r D a H:=h _ b
theorem IZ{K:af}{a:Addr}{xs:List V}{g:TG}{j:TS}{D:Ends}{b:L2.St}{H:Hp}(f:Nat->L2.St->Hp->Prop)(q:f 0 b H)(hl:∀i b H,i<=xs.length->f i b H->bC K H a xs)
 (n:∀i x b H (N:L2.St->Hp->Prop),(∀c d,f (i+1) c d->N c d)->xs[i]?=some x->f i b H->g x b H λe h=>j {D with nx:=N,ct:=N,bk:=D.nx} e h) (l:∀b H,f xs.length b H->D.nx b H) :
 ∃W:Nat->Nat->L2.St->Hp->Prop,(∃m,W 0 m b H)/\∀i m b H,W i m b H ->
  ((RZ K a).stop i H/\D.nx b H)∨((RZ K a).go i H/\∃N:L2.St->Hp->Prop,(∀c d,N c d->∃k,k<m/\W (i+1) k c d)/\∀x d,(RZ K a).Qx i H x d->g x b d λe h=>j {D with nx:=N,ct:=N,bk:=D.nx} e h) :=
 uE f q hl (λi x b H o p=>n i x b H _ (λ_ _ x=>x) o p) l
end TW
namespace TW
open PySem L2 PyProof.Rows
open RM (cC jC bh aZ)
seal L2.PE L2.PA L2.PT L2.PW L2.PS L2.iQ L2.PG L2.kT L2.PI L2.kU
section
open Classical
noncomputable def BZ(N:RM.Net)(R:Nat->RM.Row)(h:Nat):Option (Nat×Nat) :=
 if e:∃p:Nat×Nat,RM.pV N R p.1 h p.2 then some (choose e) else none
end
theorem wG{N:RM.Net}{R:Nat->RM.Row}{h k g:Nat}:BZ N R h=some (k,g)↔RM.pV N R k h g:=by
 unfold BZ;constructor
 ·intro e
  split at e
  ·rename_i q
   have:=Classical.choose_spec q
   rw[aR e] at this;exact this
  ·cases e
 ·intro t
  have q:∃p:Nat×Nat,RM.pV N R p.1 h p.2:=⟨(k,g),t⟩;rw[dif_pos q];have u:=Classical.choose_spec q;obtain⟨b,a⟩:=u.uniq t;exact fy some (Prod.ext b a)
theorem US{N:RM.Net}{R:Nat->RM.Row}{h:Nat}(q:∀k g,¬RM.pV N R k h g):BZ N R h=none:=by
 cases e:BZ N R h with
 |none=>rfl
 |some p=>exact eL (wG.mp e) (q p.1 p.2)
def xE(K:af)(H:Hp)(v:V):Option (Nat×Nat)->Prop
 |none=>v=.dH
 |some p=>∃t,v=.ref t/\cR K H t [.int (p.1:Nat),.int (p.2:Nat)]
theorem xE.mono{K:af}{H a:Hp}{v:V}{o:Option (Nat×Nat)}(s:aC H a)(h:xE K H v o):xE K a v o:=by
 cases o with
 |none=>exact h
 |some p =>
  obtain⟨t,e,q⟩:=h;exact⟨t,e,s.cV q⟩
theorem xE.lst{K:af}{H:Hp}{v:V}{o:Option (Nat×Nat)}{l:Addr}{xs:List V}{ob:HO}(hl:H l=some (.lst xs))(h:xE K H v o):xE K (upd H l ob) v o:=by
 cases o with
 |none=>exact h
 |some p =>
  obtain⟨t,e,q⟩:=h;exact⟨t,e,aez hl q⟩
def ahI(K:af)(H:Hp)(l:Addr)(n:Nat)(u:Nat->Option (Nat×Nat)):Prop:=∃vs:List V,H l=some (.lst vs)/\vs.length=n/\∀(i:Nat) v,vs[i]?=some v->xE K H v (u i)
section
variable{ns:List Int}{rs:List R5}{live:List Nat}{nd:ns.Nodup}{ok:∀r∈rs,r.Ok ns.length}{hl:∀k∈live,k<rs.length}
theorem ab3{R:Nat->RM.Row}{k h:Nat}(a:k∈live):(∃g,RM.pV (bf ns rs live nd ok hl) R k h g)↔isAt rs (h:Int) k=true/\(R (jL (rs[k]'(hl k a)) h)).ho+1<ns.length/\R h=RM.over (bf ns rs live nd ok hl) k (R (jL (rs[k]'(hl k a)) h)):=by
 constructor
 ·rintro⟨g,t⟩
  obtain⟨b,c⟩:=(wF a).mp t.D4;subst c;exact⟨b,t.cut,t.eq⟩
 ·rintro⟨b,c,d⟩
  exact⟨_,(wF a).mpr ⟨b,rfl⟩,c,d⟩
theorem ahJ{R:Nat->RM.Row}{k h g:Nat}(t:RM.pV (bf ns rs live nd ok hl) R k h g):g=jL (rs[k]'(hl k t.D4.1)) h:=((wF t.D4.1).mp t.D4).2
theorem Xa{k h:Nat}(a:k<rs.length)(ok:∀r∈rs,r.Ok ns.length):jL rs[k] h<ns.length:=by
 have o:=ok _ (aD a);have c:=o.a0;have e:=o.a1;have d:=o.b0;have b:=o.b1;unfold jL;split <;> lia
theorem YF{k h:Nat}(c:k<rs.length)(ok:∀r∈rs,r.Ok ns.length):(if (h:Int)=rs[k].a then rs[k].b else rs[k].a)=((jL rs[k] h:Nat):Int):=by
 have o:=ok _ (aD c);have d:=o.a0;have e:=o.b0;unfold jL;split <;> lia
end
theorem aeE(xs:List Nat):Uo .dH (bE xs)=false:=by
 unfold Uo;rw[Bool.eq_false_iff];intro h;obtain⟨x,a,e⟩:=zY.mp h;obtain⟨y,_,rfl⟩:=aF.mp a;cases e
end TW
namespace L2
open PySem PySem.Spec PyProof.Rows
theorem Sh{us:List Value}{ns:List Int}(h:IntsAre us ns):b6 (ns.map V.int) us:=by
 induction h with
 |nil=>exact .nil
 |cons n t _ a=>exact .cons ⟨t,rfl⟩ a
section
variable{X:Cx}
def aeF(K:af):List V->Hp->VK->Prop:=λxs H Q=>∃(a:Addr) (ns:List Int),xs=[.ref a]/\bC K H a (ns.map V.int)/\ns.length<64/\∀l (ns':List Int),H l=none->ns'.Perm ns->ns'.Pairwise (·<=·)->Q (.ref l) (upd H l (.lst (ns'.map V.int)))
theorem Kq:nP X (.builtin "sorted") (aeF X.K):=by
 intro f s y H z w Q I r ⟨a,j,e,t,k,q⟩;subst e;obtain⟨u,e,n⟩:=b6.one r;subst e;cases n;obtain⟨c,l,p,x⟩:=I.list t;have h:IntsAre c j:=intsAre_of l;have g:=IntsAre.length h;refine sorted_ints (vs:=c) p.isList h ∅ λout d i a2 m=>?_;obtain⟨e,v⟩:=sortedAll_at s.heap c out;refine⟨.ref (s.heap.objs.size+1),_,I.laid (a:=s.heap.objs.size+1) (o:=.lst (d.map V.int)) (t':=s.toks) (λb o e=>sortedAll_old e) (gD _) ⟨?_,out.toList,e,Sh i,?_⟩,rfl,q _ d (I.hok.fresh (gD _)) a2 m⟩
 ·rw[ah,a2.length_eq]
  exact g4 (bX ∅)
 ·rw[v]
end
end L2
namespace TW
open PySem L2 PyProof.Rows
open RM (cC jC bh aZ)
seal L2.PE L2.PA L2.PT L2.PW L2.PS L2.iQ L2.PG L2.kT L2.PI L2.kU
theorem QN:∀{xs c:List Nat},xs.Pairwise (·<·)->c.Pairwise (·<·)->(∀k,k∈xs↔k∈c)->xs=c
 |[],[],_,_,_=>rfl
 |[],y::c,_,_,h=>eL ((h y).mpr aL) (-_)
 |x::xs,[],_,_,h=>eL ((h x).mp aL) (-_)
 |x::xs,y::c,f,d,h=>by
  have a:=List.pairwise_cons.mp f;have b:=List.pairwise_cons.mp d;have e:x=y:=by
   rcases aV.mp ((h x).mp aL) with z|z
   ·exact z
   ·rcases aV.mp ((h y).mpr aL) with w|w
    ·exact w.symm
    ·have:=b.1 x z
     have:=a.1 y w
     lia
  subst e;rw[QN a.2 b.2 λk=>?_];constructor
  ·intro z
   rcases aV.mp ((h k).mp (aM _ z)) with w|w
   ·have:=a.1 k z;lia
   ·exact w
  ·intro z
   rcases aV.mp ((h k).mpr (aM _ z)) with w|w
   ·have:=b.1 k z;lia
   ·exact w
theorem pV.lt{N:RM.Net}{R:Nat->RM.Row}{k h g:Nat}(t:RM.pV N R k h g):h<N.n/\g<N.n:=⟨t.D4.lt.1,t.D4.lt.2.1⟩
def ji(N:RM.Net)(R:Nat->RM.Row)(os:List Nat):Prop:=os.Pairwise (·<·)/\∀k,k∈os↔∃h g,RM.pV N R k h g
theorem ji.uniq{N:RM.Net}{R:Nat->RM.Row}{xs c:List Nat}(a:ji N R xs)(b:ji N R c):xs=c:=QN a.1 b.1 λk=>(a.2 k).trans (b.2 k).symm
theorem UT{i:List Nat}{c:List Int}(p:c.Perm (i.map λk:Nat=>(k:Int)))(s:c.Pairwise (·<=·))(nd:i.Nodup):∃os:List Nat,c.map V.int=bE os/\os.Pairwise (·<·)/\(∀k,k∈os↔k∈i)/\os.length=i.length:=by
 have j:∀m∈c,∃k:Nat,m=(k:Int)/\k∈i:=λm g=>by
  obtain⟨k,f,e⟩:=aF.mp (p.mem_iff.mp g);exact⟨k,e.symm,f⟩
 have t:(c.map Int.toNat).map (λk:Nat=>(k:Int))=c:=by
  rw[bP]
  conv=>rhs;rw[<- List.map_id c]
  apply cU;intro m g;obtain⟨k,e,_⟩:=j m g;rw[e];rfl
 have l:c.Nodup:=by
  refine p.nodup_iff.mpr ?_;unfold List.Nodup;rw[List.pairwise_map];exact nd.imp λh e=>h ∅
 refine⟨c.map Int.toNat,?_,?_,λk=>?_,by rw[ah,p.length_eq,ah]⟩
 ·rw[fV,t]
 ·rw[List.pairwise_map]
  have d:=List.pairwise_and_iff.mpr ⟨s,l⟩;refine List.Pairwise.imp_of_mem (λ{a b} q r h=>?_) d;obtain⟨x,w,_⟩:=j a q;obtain⟨y,n,_⟩:=j b r;have u:=h.1;have v:=h.2;lia
 ·constructor
  ·intro f
   obtain⟨m,g,e⟩:=aF.mp f;obtain⟨y,n,o⟩:=j m g;rw[n] at e
   have:y=k:=by rw[<- e];rfl
   exact this▸o
  ·intro f
   have:((k:Nat):Int)∈c:=p.mem_iff.mpr (aF.mpr ⟨k,f,rfl⟩)
   exact aF.mpr ⟨_,this,rfl⟩
end TW
namespace TW
open PySem L2 PyProof.Rows Gr
open RM (cC jC bh aZ)
section
variable{ns:List Int}{rs:List R5}{live:List Nat}{nd:ns.Nodup}{ok:∀r∈rs,r.Ok ns.length}{hl:∀k∈live,k<rs.length}
theorem Mi{R:Nat->RM.Row}{os:List Nat}(O:ji (bf ns rs live nd ok hl) R os):∀k∈os,k<rs.length:=λk a=>by
 obtain⟨h,g,t⟩:=(O.2 k).mp a;exact hl k t.D4.1
end
end TW
namespace L2
open PySem PySem.Calls PySem.Spec PyProof.Rows PyProof.V PySem.W
end L2
namespace Gr
end Gr
namespace TW
open PySem L2 PyProof.Rows Gr
end TW
namespace L2
open PySem PySem.Calls PySem.Spec PyProof.Rows PyProof.V PySem.W
end L2
namespace TW
open PySem L2 PyProof.Rows Gr
end TW
namespace TW
open PySem L2 PyProof.Rows
noncomputable def stand(b:List Bool):List Nat:=(au b.length).filter λk=>b.getD k false
theorem i6{b:List Bool}{k:Nat}:k∈stand b↔b[k]?=some true:=by
 unfold stand;rw[bZ,cT,aj];constructor
 ·rintro⟨a,c⟩
  rw[aa a] at c ⊢
  simpa using c
 ·intro h
  have a:=(ai.mp h).1;exact⟨a,by rw[h];rfl⟩
theorem uI(b:List Bool):(stand b).Pairwise (·<·):=List.Pairwise.filter _ List.pairwise_lt_range
theorem aad(b:List Bool):(stand b).length<=b.length:=by
 have:=bD (λk=>b.getD k false) (au b.length)
 rw[bz] at this;exact this
theorem Hl:∀{xs b:List Nat},xs.Pairwise (·<·)->b.Pairwise (·<·)->(∀k,k∈xs↔k∈b)->xs=b
 |[],[],_,_,_=>rfl
 |[],y::b,_,_,h=>eL ((h y).mpr (-_)) (-_)
 |x::xs,[],_,_,h=>eL ((h x).mp (-_)) (-_)
 |x::xs,y::b,d,c,h=>by
  rw[List.pairwise_cons] at d c;have e:x=y:=by
   have h1:=(h x).mp (-_);have h2:=(h y).mpr (-_);rw[aV] at h1 h2;rcases h1 with h1|h1
   ·exact h1
   ·rcases h2 with h2|h2
    ·exact h2.symm
    ·have:=d.1 _ h2
     have:=c.1 _ h1
     lia
  subst e;rw[Hl d.2 c.2 λk=>?_];constructor
  ·intro a
   rcases aV.mp ((h k).mp (aM _ a)) with rfl|z
   ·exact eL (d.1 _ a) (jF _)
   ·exact z
  ·intro a
   rcases aV.mp ((h k).mpr (aM _ a)) with rfl|z
   ·exact eL (c.1 _ a) (jF _)
   ·exact z
theorem Xb{b:List Bool}{k:Nat}:(stand b).filter (λj=>decide (j≠k))=stand (b.set k false):=by
 refine Hl (List.Pairwise.filter _ (uI b)) (uI _) λj=>?_;rw[bZ,i6,i6,eV];by_cases e:k=j
 ·subst e
  simp
 ·rw[eH e]
  simp[cu e]
theorem aae{b:List Bool}{k:Nat}{xs:List Nat}(f:b[k]?=some false)(d:xs.Perm (stand b++[k]))(g:xs.Pairwise (·<=·)):xs=stand (b.set k true):=by
 have l:(stand b++[k]).Nodup:=by
  rw[xA];refine⟨(uI b).imp λz=>bT z,-_,λx a y h=>?_⟩
  have:y=k:=by simpa using h
  subst this;intro e;subst e;rw[i6,f] at a;cases a
 have a:=(d.nodup_iff).mpr l;have i:xs.Pairwise (·<·):=(g.and a).imp λz=>Nat.lt_of_le_of_ne z.1 z.2;refine Hl i (uI _) λj=>?_;have c:=(ai.mp f).1;rw[d.mem_iff,bx,i6,i6,eV,aX];by_cases e:k=j
 ·subst e
  rw[b3 rfl,b3 c];simp
 ·rw[eH e]
  simp[cu e]
theorem Xc(n:Nat):stand (bB n true)=au n:=by
 refine Hl (uI _) List.pairwise_lt_range λj=>?_;rw[i6,List.getElem?_replicate,cT];by_cases h:j<n
 ·simp[h]
 ·simp[h]
theorem Si{w:List Nat}{xs:List Int}(b:xs.Perm (w.map λk:Nat=>(k:Int)))(d:xs.Pairwise (·<=·)):∃a:List Nat,xs=a.map (λk:Nat=>(k:Int))/\a.Perm w/\a.Pairwise (·<=·):=by
 have e:xs=(xs.map Int.toNat).map λk:Nat=>(k:Int):=by
  rw[bP];refine Eq.symm ((cU λx f=>?_).trans (List.map_id xs));obtain⟨k,_,rfl⟩:=aF.mp (b.mem_iff.mp f);rfl
 refine⟨xs.map Int.toNat,e,?_,?_⟩
 ·have:=b.map Int.toNat
  rw[bP] at this;have c:(Int.toNat∘λk:Nat=>(k:Int))=id:=rfl;rw[c,List.map_id] at this;exact this
 ·rw[List.pairwise_map]
  exact d.imp λz=>Int.toNat_le_toNat z
theorem ahK(k:Nat):(bB k [V.bl true]).flatten=(bB k true).map V.bl:=by
 induction k with
 |zero=>rfl
 |succ k a=>rw[iX,xB,a,iX];rfl
def T9(rs:List R5)(bs:List (List Bool)):Prop:=bs.length=rs.length/\∀(i:Nat) r b,rs[i]?=some r->bs[i]?=some b->(b.length:Int)=r.d
theorem T9.set{rs:List R5}{bs:List (List Bool)}{i k:Nat}{b:List Bool}{x:Bool}(h:T9 rs bs)(c:bs[i]?=some b):T9 rs (bs.set i (b.set k x)):=by
 refine⟨by rw[bg];exact h.1,λj r e d a=>?_⟩;rw[eV] at a;by_cases z:i=j
 ·subst z
  rw[b3 rfl,b3 (ai.mp c).1] at a;cases a;rw[bg];exact h.2 i r b d c
 ·rw[eH z] at a
  exact h.2 j r e d a
theorem T9.at{rs:List R5}{bs:List (List Bool)}{i:Nat}{r:R5}(h:T9 rs bs)(a:rs[i]?=some r):∃b,bs[i]?=some b/\(b.length:Int)=r.d:=by
 have:=(ai.mp a).1
 exact⟨_,aa (by have:=h.1;lia),h.2 i r _ a (aa (by have:=h.1;lia))⟩
structure wH(C:Addr)(H:Hp)(p tp lu:Addr)(ws:List (List Nat)):Prop where
 ob:∃dx,H p=some (.ins C dx [("town",.ref tp),("upright",.ref lu)])
 up:∃ls:List Addr,H lu=some (.lst (ls.map V.ref))/\ls.length=ws.length/\∀(i:Nat) l w,ls[i]?=some l->ws[i]?=some w->H l=some (.lst (bE w))
section
variable{C:Addr}{H H':Hp}{p tp lu:Addr}{ws:List (List Nat)}
theorem wH.mono(s:aC H H')(h:wH C H p tp lu ws):wH C H' p tp lu ws:=by
 obtain⟨⟨g,d⟩,j,f,e,c⟩:=h;exact⟨⟨g,s _ _ d⟩,j,s _ _ f,e,λi l w a b=>s _ _ (c i l w a b)⟩
theorem zh{w:List Nat}{ls:List Addr}{i:Nat}{l:Addr}(e:ls[i]?=some l):bE w≠ls.map V.ref:=by
 intro z;have a:(bE w)[i]?=some (V.ref l):=by rw[z,ak,e];rfl
 rw[ak] at a;cases b:w[i]? with
 |none=>rw[b] at a;cases a
 |some k=>rw[b] at a;cases a
theorem wH.ne(h:wH C H p tp lu ws):p≠lu:=by
 obtain⟨⟨c,a⟩,d,b,_⟩:=h;exact pK a b (by intro z;cases z)
theorem wH.put{i:Nat}{q:Addr}{w:List Nat}{ls:List Addr}(h:wH C H p tp lu ws)(e:H lu=some (.lst (ls.map V.ref)))(n:H q=some (.lst (bE w)))(t:i<ws.length)(k:∀b u,H b=some u->b≠lu->H' b=some u)(r:H' lu=some (.lst ((ls.map V.ref).set i (.ref q)))):wH C H' p tp lu (ws.set i w):=by
 have d:=h.ne;obtain⟨⟨E,s⟩,c,m,D,y⟩:=h;rw[e] at m;have z:=HO.lst.inj (aR m);have z:ls=c:=by
  have:=fy (List.map λv=>match v with|V.ref a=>a|_=>0) z
  rw[bP,bP] at this;have A:((λv=>match v with|V.ref a=>a|_=>0)∘V.ref)=(id:Addr->Addr):=rfl;rw[A,List.map_id,List.map_id] at this;exact this
 subst z;have o:i<ls.length:=∅
 have B:q≠lu:=by
  refine pK n e λz=>?_;exact zh (aa o) (HO.lst.inj z)
 refine⟨⟨E,k _ _ s d⟩,ls.set i q,by rw[r,lB],by rw[bg,bg,D],λj l x a b=>?_⟩;rw[eV] at a b;by_cases f:i=j
 ·subst f
  rw[b3 rfl,b3 o] at a;rw[b3 rfl,b3 t] at b;cases a;cases b;exact k _ _ n B
 ·rw[eH f] at a b
  have g:=y j l x a b;exact k _ _ g (pK g e λz=>zh a (HO.lst.inj z))
structure Up(H:Hp)(ls:Addr)(pH:List Addr)(bs:List (List Bool)):Prop where
 at_:H ls=some (.lst (pH.map V.ref))
 len:pH.length=bs.length
 nd:pH.Nodup
 it:∀(i:Nat) l b,pH[i]?=some l->bs[i]?=some b->H l=some (.lst (b.map V.bl))
theorem Up.mono{ls:Addr}{a:List Addr}{bs:List (List Bool)}(s:aC H H')(h:Up H ls a bs):Up H' ls a bs:=⟨s _ _ h.at_,h.len,h.nd,λi l b x y=>s _ _ (h.it i l b x y)⟩
theorem ab4{b:List Bool}{ls:List Addr}{i:Nat}{l:Addr}(e:ls[i]?=some l):b.map V.bl≠ls.map V.ref:=by
 intro z;have a:(b.map V.bl)[i]?=some (V.ref l):=by rw[z,ak,e];rfl
 rw[ak] at a;cases c:b[i]? with
 |none=>rw[c] at a;cases a
 |some k=>rw[c] at a;cases a
theorem Up.put{ls:Addr}{a:List Addr}{bs:List (List Bool)}{i:Nat}{l:Addr}{b:List Bool}(h:Up H ls a bs)(d:a[i]?=some l)(k:∀c u,H c=some u->c≠l->H' c=some u)(hl:H' l=some (.lst (b.map V.bl)))(g:ls≠l):Up H' ls a (bs.set i b):=by
 refine⟨k _ _ h.at_ g,by rw[bg,h.len],h.nd,λj n q x y=>?_⟩;have f:i<bs.length:=by rw[<- h.len];exact (ai.mp d).1
 rw[eV] at y;by_cases e:i=j
 ·subst e
  rw[b3 rfl,b3 f] at y;cases y;rw[d] at x;cases x;exact hl
 ·rw[eH e] at y
  refine k _ _ (h.it j n q x y) λz=>e ?_;subst z;have m:=ai.mp d;have p:=ai.mp x;obtain⟨r,a2⟩:=m;obtain⟨s,o⟩:=p;exact (List.getElem_inj h.nd).mp (a2.trans o.symm)
theorem cy.but{K:af}{C i q:Addr}{j:List (Str×V)}{tp c g:Addr}{ns:List Int}{rs:List R5}(h:cy K C H tp c g ns rs)(k:∀b o,H b=some o->b≠p->H' b=some o)(a:H p=some (.ins i q j))(r:tp≠p):cy K C H' tp c g ns rs:=by
 obtain⟨⟨d,l⟩,e,m,f,n⟩:=h;exact⟨⟨d,k _ _ l r⟩,k _ _ e (pK e a (by intro z;cases z)),m,k _ _ f (pK f a (by intro z;cases z)),kC k a n⟩
end
end TW
namespace L2
open PySem PySem.Spec PyProof.Rows
section
variable{X:Cx}
theorem aaf(K:af)(f:X.K=K){a:Expr}{c:TE}(d:PE X a c)(e:∀b,isTrue a X.env b=(do let v <- b;standAt a.pos;holding [v] (truthy v))):PT X a (abY K c):=by
 subst f;exact IX d e
end
end L2
namespace TW
open PySem L2 PyProof.Rows
noncomputable def QO(e:Int)(g:Nat):Bool:=decide (e/2^g%2=1)
theorem UU{e z:Int}{g:Nat}(f:1<=e)(d:e<=7)(a:([1,2,4]:List Int)[g]?=some z):(!decide (Builtin.bitAnd e z=0))=QO e g:=by
 have b:g=0∨g=1∨g=2:=by
  have:=(ai.mp a).1
  simp at this;lia
 have c:e=1∨e=2∨e=3∨e=4∨e=5∨e=6∨e=7:=∅
 rcases b with rfl|rfl|rfl <;> cases a <;> rcases c with rfl|rfl|rfl|rfl|rfl|rfl|rfl <;> decide +kernel
theorem aki{g:Nat}(h:g<3):∃z,([1,2,4]:List Int)[g]?=some z:=⟨_,aa (by simpa using h)⟩
noncomputable def isLive(rs:List R5)(ws:List (List Nat))(g i:Nat):Bool:=match rs[i]?,ws[i]? with|some r,some w=>(!w.isEmpty)&&QO r.e g|_,_=>false
noncomputable def Ca(rs:List R5)(ws:List (List Nat))(g n:Nat):List Nat:=(au n).filter (isLive rs ws g)
theorem Cb(rs:List R5)(ws:List (List Nat))(g n:Nat):Ca rs ws g (n+1)=Ca rs ws g n++(if isLive rs ws g n=true then [n] else []):=by
 unfold Ca;rw[fB,iy];congr 1;by_cases h:isLive rs ws g n=true
 ·rw[b3 h,List.filter_cons,b3 h];rfl
 ·rw[eH h,List.filter_cons,eH h];rfl
theorem Xd(rs:List R5)(ws:List (List Nat))(g n:Nat):(Ca rs ws g n).length<=n:=by
 have:=bD (isLive rs ws g) (au n)
 rw[bz] at this;exact this
end TW
namespace L2
open PySem PySem.Spec PyProof.Rows
structure agd(K:af)(C:Addr)(m:Str)(f:Addr):Prop where
 hg:PySem.W.specialIn K (.ref C) "__getattribute__" = some (some (.builtin "type.__getattribute__"))
 hr:PySem.W.readsIn K C (.type "type")=true
 md:PySem.W.findCls K (.ref C) (.type "type") m=some (.val (.ref f))
 kp:dJ K (.ref f)=true
section
variable{X:Cx}
theorem I0{e:Expr}{t u:TE}(c:PE X e t)(d:PE X e u):PE X e (λb H Q=>t b H Q∨u b H Q):=λa s b H Q I h=>h.elim (c a s b H Q I) (d a s b H Q I)
end
def akj(C:Addr)(sp:Sp)(EI:List V)(E:XK)(ta:TE)(t:TA):TE:=λσ H Q=>ta σ H λx H1=>x=.ref C/\t σ H1 λvs H2=>sp (vs++EI) H2 Q E
section
variable{X:Cx}{CX:ZV}{k:Nat}{f C:Addr}{fd:FuncData}{ps:List Str}{sp:Sp}{EI:List V}{ds:List Value}{E:XK}{x m:Str}{p pos apos:Pos}{e o:Expr}{es:List Expr}{ta:TE}{t:TA}
theorem Xe{pl:Sem Bool}(M:PE X o ta)(c:agd X.K C m f)
 (F:bL X.prog X.w X.K X.mg X.base CX k f fd ps sp) (hr:kh k X.A) (G:Binds X.K fd ps ds) (v:b6 EI ds) (n:uF CX X E) (B:PA X (e::es) t)
 (g:starEach (e::es) X.env=(false,eval e X.env)::starEach es X.env:=by rfl) (b:(backTo pos (starEach es X.env)).any (·.1)=false:=by rfl)
 (J:eval (.Call (.Attribute o m apos) (e::es) [] pos) X.env=(do
  let i <- eval o X.env
  standAt apos.atName
  let (f,first) <- holding [i] (getMethod i m pl)
  callWith pos f first (backTo pos (starEach (e::es) X.env)) (backToKw pos (keywordEach [] X.env))):=by rfl) :
 PE X (.Call (.Attribute o m apos) (e::es) [] pos) (akj C sp EI E ta t):=by
 intro a s j H Q I h;refine PySem.W.methodCall_KW (pl:=pl) (gW (M a s j H _ I h) λu D ⟨x,z,d,N,L,q⟩=>?_) J;subst L;obtain rfl:u=Value.ref C:=N;refine PySem.W.method_cls d.EH c.hg (PySem.W.cls_value d.EH c.hr c.md rfl ?_);have p:=d.tok (D.toks+1);refine uv (first:=[]) (h₀:=X.base) I.ok.mod.z0 c.kp (gW (B pos a _ j z _ p q) λus P ⟨vs,O,l,r,y⟩=>⟨l.EH,?_⟩) g b;exact L1 (us:=us) (vs:=vs) F hr G v n l r y
end
end L2
namespace TW
open PySem L2 PyProof.Rows
theorem rz{b:Bool}{A B:Prop}(e:b=false)(h:B):if b=true then A else B:=by subst e;exact dO h
theorem QS{b:Bool}{A B:Prop}(e:b=true)(h:A):if b=true then A else B:=by subst e;exact dZ h
inductive Kr(cL c1 cA:Addr)(H:Hp)(a:Addr)(s to:Int):Int->Prop
 |bare (dx:Addr) (h:H a=some (.ins cL dx [("sender",.int s)])):Kr cL c1 cA H a s to 0
 |one (dx:Addr) (h:H a=some (.ins c1 dx [("sender",.int s),("to",.int to)])):Kr cL c1 cA H a s to 1
 |all (dx:Addr) (h:H a=some (.ins cA dx [("sender",.int s)])):Kr cL c1 cA H a s to 2
section
variable{cL c1 cA:Addr}{H H':Hp}{a lh q:Addr}{s to k:Int}{xs:List V}
theorem Kr.mono(h:Kr cL c1 cA H a s to k)(e:aC H H'):Kr cL c1 cA H' a s to k:=by
 cases h with
 |bare b h=>exact .bare b (e _ _ h)
 |one b h=>exact .one b (e _ _ h)
 |all b h=>exact .all b (e _ _ h)
end
end TW
namespace L2
open PySem PySem.W PyProof.Rows
section
variable{n:Nat}{r:Nat->Int}{cmp:Nat->Nat->(Bool->Shared->Prop)->Shared->Prop}{s:Shared}
variable(hc:∀i j C,i<n->j<n->C (decide (r i<r j)) s->cmp i j C s)
include hc
end
end L2
namespace L2
open PySem PySem.W PySem.Spec PyProof.Rows
abbrev T3:=Int×Int×Int
end L2
namespace L2
end L2
namespace TW
open PySem L2 PyProof.Rows
noncomputable def nD(t:T3):List Key×V:=([.inl t.1,.inl t.2.1],.int t.2.2)
noncomputable abbrev keyOf(h c:Int):List Key:=[.inl h,.inl c]
def c5(ts:List T3):Prop:=(ts.map λt=>(t.1,t.2.1)).Nodup
noncomputable def uJ(ts:List T3)(h c:Int):Option Int:=(ts.find? λt=>decide (t.1=h/\t.2.1=c)).map λt=>t.2.2
noncomputable def put3(ts:List T3)(h c r:Int):List T3:=(ts.filter λt=>!decide (t.1=h/\t.2.1=c))++[(h,c,r)]
theorem QT{ts:List T3}(n:c5 ts){h c r:Int}:uJ ts h c=some r↔(h,c,r)∈ts:=by
 unfold uJ;constructor
 ·intro e
  cases f:ts.find? λt=>decide (t.1=h/\t.2.1=c) with
  |none=>rw[f] at e;cases e
  |some t =>
   rw[f] at e;cases e;have a:=List.find?_some f;have d:=List.mem_of_find?_eq_some f;have a:t.1=h/\t.2.1=c:=by simpa using a
   obtain⟨o,p,m⟩:=t;obtain⟨rfl,rfl⟩:=a;exact d
 ·intro e
  cases f:ts.find? λt=>decide (t.1=h/\t.2.1=c) with
  |none =>
   have:=List.find?_eq_none.mp f _ e
   simp at this
  |some t =>
   have a:=List.find?_some f;have d:=List.mem_of_find?_eq_some f;have a:t.1=h/\t.2.1=c:=by simpa using a
   obtain⟨i,k⟩:=iD e;obtain⟨j,b⟩:=iD d;have g:(ts.map λt=>(t.1,t.2.1))[i]?=some (h,c):=by rw[ak,k];rfl
   have l:(ts.map λt=>(t.1,t.2.1))[j]?=some (h,c):=by rw[ak,b,<- a.1,<- a.2];rfl
   have:i=j:=(List.getElem?_inj (ai.mp g).1 n).mp (g.trans l.symm)
   subst this;rw[k] at b;cases b;rfl
theorem ab5{ts:List T3}(n:c5 ts){h c r:Int}:c5 (put3 ts h c r):=by
 unfold c5 put3;rw[aU,xA];refine⟨?_,-_,λx f y b=>?_⟩
 ·exact List.Nodup.sublist ((List.filter_sublist).map _) n
 ·obtain⟨t,a,rfl⟩:=aF.mp f
  have d:=(bZ.mp a).2;have e:y=(h,c):=by simpa using b
  rw[e];intro z;have g:t.1=h/\t.2.1=c:=⟨(Prod.mk.inj z).1,(Prod.mk.inj z).2⟩;simp[g] at d
theorem pW(t:T3)(h c:Int):(nD t).1=keyOf h c↔t.1=h/\t.2.1=c:=by
 unfold nD keyOf;constructor
 ·intro e
  have b:=(jH e).1;have a:=(jH (jH e).2).1;exact⟨Sum.inl.inj b,Sum.inl.inj a⟩
 ·rintro⟨rfl,rfl⟩
  rfl
theorem Mj:∀(ts:List T3) (h c:Int),BR (ts.map nD) (keyOf h c)=(uJ ts h c).map V.int
 |[],h,c=>rfl
 |t::ts,h,c=>by
  rw[bA];by_cases e:t.1=h/\t.2.1=c
  ·rw[BS ((pW t h c).mpr e)]
   unfold uJ;rw[List.find?_cons_of_pos (by simp[e])];rfl
  ·rw[BU (λz=>e ((pW t h c).mp z)),Mj ts h c]
   unfold uJ;rw[List.find?_cons_of_neg (by rw[e8 e];exact aO)]
noncomputable def Ho(h c r:Int)(t:T3):T3:=if t.1=h/\t.2.1=c then (h,c,r) else t
theorem ab6(h c r:Int)(t:T3):((Ho h c r t).1,(Ho h c r t).2.1)=(t.1,t.2.1):=by
 unfold Ho;split
 ·rename_i e
  show (h,c)=(t.1,t.2.1);rw[e.1,e.2]
 ·rfl
theorem QU{h c r:Int}:∀{ts:List T3},c5 ts->(∃t∈ts,t.1=h/\t.2.1=c)->(ts.map (Ho h c r)).Perm (put3 ts h c r)
 |[],_,⟨_,h,_⟩=>by cases h
 |t::ts,n,f=>by
  have i:c5 ts:=(iY.mp n).2;have g:=(iY.mp n).1;unfold put3;by_cases e:t.1=h/\t.2.1=c
  ·have b:∀u∈ts,¬(u.1=h/\u.2.1=c):=λu hu z=>g (aF.mpr ⟨u,hu,Prod.ext (z.1.trans e.1.symm) (z.2.trans e.2.symm)⟩)
   have j:ts.map (Ho h c r)=ts:=by
    refine (cU λu hu=>?_).trans (List.map_id ts);unfold Ho;rw[eH (b u hu)];rfl
   have d:ts.filter (λu=>!decide (u.1=h/\u.2.1=c))=ts:=List.filter_eq_self.mpr λu hu=>by rw[e8 (b u hu)];rfl
   rw[bA,j,List.filter_cons,eH (by simp[e]),d];have a:Ho h c r t=(h,c,r):=by unfold Ho;rw[b3 e]
   rw[a];exact (List.perm_append_comm (l₁:=[(h,c,r)]) (l₂:=ts))
  ·have a:Ho h c r t=t:=by unfold Ho;rw[eH e]
   rw[bA,a,List.filter_cons,b3 (by rw[e8 e];rfl)];refine List.Perm.cons t (QU i ?_);obtain⟨u,hu,z⟩:=f;rcases aV.mp hu with rfl|hu
   ·exact eL z e
   ·exact⟨u,hu,z⟩
theorem D9{xs a:List T3}(b:xs.Perm a)(h c r:Int):(put3 xs h c r).Perm (put3 a h c r):=(b.filter _).append_right _
theorem Xf{ts i:List T3}{h c r:Int}(f:ts.Perm i)(n:c5 ts):∃b,putK (ts.map nD) (keyOf h c) (V.int r)=b.map nD/\b.Perm (put3 i h c r)/\c5 b:=by
 unfold putK;by_cases a:((ts.map nD).any λg=>decide (g.1=keyOf h c))=true
 ·rw[b3 a]
  refine⟨ts.map (Ho h c r),?_,?_,?_⟩
  ·rw[bP,bP]
   refine cU λt _=>?_;show (if (nD t).1=keyOf h c then ((nD t).1,V.int r) else nD t)=nD (Ho h c r t);unfold Ho;by_cases e:t.1=h/\t.2.1=c
   ·rw[b3 ((pW t h c).mpr e),b3 e,(pW t h c).mpr e]
    rfl
   ·rw[eH (λz=>e ((pW t h c).mp z)),eH e]
  ·refine (QU n ?_).trans (D9 f h c r)
   obtain⟨g,k,l⟩:=zY.mp a;obtain⟨t,d,rfl⟩:=aF.mp k;exact⟨t,d,(pW t h c).mp (fT l)⟩
  ·unfold c5
   rw[bP]
   have:((λt:T3=>(t.1,t.2.1))∘Ho h c r)=λt:T3=>(t.1,t.2.1):=funext λt=>ab6 h c r t
   rw[this];exact n
 ·rw[eH a]
  have m:∀t∈ts,¬(t.1=h/\t.2.1=c):=λt d z=>a (zY.mpr ⟨nD t,aF.mpr ⟨t,d,rfl⟩,eO ((pW t h c).mpr z)⟩);have e:put3 ts h c r=ts++[(h,c,r)]:=by
   unfold put3;rw[List.filter_eq_self.mpr λu j=>by rw[e8 (m u j)];rfl]
  refine⟨ts++[(h,c,r)],by rw[aU];rfl,e▸D9 f h c r,e▸ab5 n⟩
structure uK(C:Addr)(H:Hp)(p d:Addr)(ts:List T3):Prop where
 ob:∃dx,H p=some (.ins C dx [("kept",.ref d)])
 di:H d=some (.dT (ts.map nD))
theorem uK.mono{C:Addr}{H a:Hp}{p d:Addr}{ts:List T3}(s:aC H a)(h:uK C H p d ts):uK C a p d ts:=by
 obtain⟨⟨e,b⟩,c⟩:=h;exact⟨⟨e,s _ _ b⟩,s _ _ c⟩
def wI(u:HO):Prop:=∀xs,u≠.tup xs/\∀o,u≠.Ut o (.tup xs)
theorem m6{a:List V}:wI (.lst a):=λb=>⟨λe=>(by cases e),λo e=>(by cases e)⟩
theorem akk{kvs:List (List Key×V)}:wI (.dT kvs):=λa=>⟨λe=>(by cases e),λo e=>(by cases e)⟩
theorem lG{C b:Addr}{a:List (Str×V)}:wI (.ins C b a):=λc=>⟨λe=>(by cases e),λo e=>(by cases e)⟩
theorem cR.past{K:af}{H f:Hp}{z a:Addr}{u:HO}{xs:List V}(g:H z=some u)(d:wI u)(c:∀b v,H b=some v->b≠z->f b=some v)(h:cR K H a xs):cR K f a xs:=by
 rcases h with (h|⟨o,h⟩)|h
 ·exact .inl (.inl (c _ _ h λe=>by subst e;rw[g] at h;exact (d xs).1 (aR h)))
 ·exact .inl (.inr ⟨o,c _ _ h λe=>by subst e;rw[g] at h;exact (d xs).2 o (aR h)⟩)
 ·exact .inr h
theorem cK{H:Hp}{z:Addr}{o:HO}:∀b v,H b=some v->b≠z->(upd H z o) b=some v:=λb v e a=>by rw[aK a];exact e
noncomputable def two(f:Bool->Addr):List V:=[.ref (f false),.ref (f true)]
theorem Xg{H:Hp}{a b:Addr}{u v:HO}(d:H a=some u)(c:H b=some v)(n:u≠v):a≠b:=λe=>by
 subst e;rw[d] at c;exact n (aR c)
end TW
namespace L2
open PySem PySem.W PySem.Spec PyProof.Rows
end L2
namespace TW
open PySem L2 PyProof.Rows
theorem Ml{J:It}{n:Nat}{r:List (Option Nat)}{g:TG}{B:TT}{C:TE}{F:L2.St}{D:Hp->Prop}{k:Hp}{d:Addr}(G:Nat->V)(f:Nat->Option V)(j:k d=none)
 (go:∀i H,i<n->aC k H->J.go i H) (stop:∀H,aC k H->J.stop n H) (Qx:∀i H x a,i<n->aC k H->J.Qx i H x a->a=H/\x=G i) (L:n<=1000)
 (step:∀(i:Nat) (H:Hp) (R:V->Hp->Prop) (S:Hp->Prop),i<n->aC k H->(∀y a,aC H a->f i=some y->R y a)->(∀a,aC H a->f i=none->S a) ->
  g (G i) (jK r F) H λc w=>B c w λb l=>if b=true then C c l R else S l)
 (v:∀H,aC k H->H d=some (.lst ((au n).filterMap f))->D H) :
 ∃W:Nat->Nat->Hp->Prop,(∃m,W 0 m (upd k d (.lst [])))/\∀i m H,W i m H ->
  (J.stop i H/\D H)∨(J.go i H/\∀x a,J.Qx i H x a->g x (jK r F) a λc w=>B c w λb l=>if b=true then C c l λy A=>∃xs,A d=some (.lst xs)/\xs.length<sizeLine /\
   ∃q,q<m/\W (i+1) q (upd A d (.lst (xs++[y]))) else ∃q,q<m/\W (i+1) q l):=by
 have o:∀i,((au i).filterMap f).length<=i:=λi=>by
  have:=List.length_filterMap_le f (au i)
  rwa [bz] at this
 refine gG (n:=n) (λi z _=>z=(au i).filterMap f) j go stop rfl ?_ ?_
 ·rintro i z H p s t rfl x a K
  obtain⟨rfl,rfl⟩:=Qx i H x a p s K;have e:(au (i+1)).filterMap f=(au i).filterMap f++(f i).toList:=by
   rw[fB,List.filterMap_append];cases h:f i <;> simp[h]
  refine step i a _ _ p s (λy A E u=>?_) (λl I u=>?_)
  ·refine fH j p (s.trans E) (E _ _ t) (bX (ay (o i) (ay (g4 p) L))) ?_
   show _=(au (i+1)).filterMap f;rw[e,u];rfl
  ·refine kW p (s.trans I) (I _ _ t) ?_
   show _=(au (i+1)).filterMap f;rw[e,u];simp
 ·rintro z H s t rfl
  exact v H s t
theorem z7{a b:Type}:∀(xs:List a) (F:a->Option b),(au xs.length).filterMap (λi=>xs[i]?.bind F)=xs.filterMap F
 |[],F=>rfl
 |x::xs,F=>by
  have e:((λi:Nat=>(x::xs)[i]?.bind F)∘Nat.succ)=λi=>xs[i]?.bind F:=funext λi=>-_
  rw[bH,List.range_succ_eq_map,eu,List.filterMap_map,e,z7 xs F,eu];rfl
theorem aag{K:af}{l d:Addr}{xs:List Int}{q:List (Option Nat)}{g:TG}{z:TT}{A:TE}{C:L2.St}{B:Hp->Prop}{j:Hp}(F:Int->Option V)(o:j d=none)(hl:bC K j l (xs.map V.int))(L:xs.length<=1000)
 (step:∀(x:Int) (H:Hp) (R:V->Hp->Prop) (S:Hp->Prop),x∈xs->aC j H->(∀y a,aC H a->F x=some y->R y a)->(∀a,aC H a->F x=none->S a) ->
  g (.int x) (jK q C) H λc u=>z c u λb k=>if b=true then A c k R else S k)
 (t:∀H,aC j H->H d=some (.lst (xs.filterMap F))->B H) :
 ∃W:Nat->Nat->Hp->Prop,(∃m,W 0 m (upd j d (.lst [])))/\∀i m H,W i m H ->
  ((RZ K l).stop i H/\B H)∨((RZ K l).go i H/\∀x a,(RZ K l).Qx i H x a->g x (jK q C) a λc u=>z c u λb k=>if b=true then A c k λy D=>∃xs,D d=some (.lst xs)/\xs.length<sizeLine /\
    ∃p,p<m/\W (i+1) p (upd D d (.lst (xs++[y]))) else ∃p,p<m/\W (i+1) p k):=by
 have E:(xs.map V.int).length=xs.length:=ah _;refine Ml (n:=xs.length) (λi=>(xs.map V.int).getD i .dH) (λi=>xs[i]?.bind F) o (λi H f s=>m5 hl i H (by rw[E];exact f) s) (λH s=>by have:=g5 hl H s;rwa [E] at this) (λi H x a f s h=>?_) L (λi H R S f s I J=>?_) (λH s G=>t H s (by rw[<- z7];exact G))
 ·obtain⟨rfl,h⟩:=h
  have h:=h _ (s.seq hl);exact⟨rfl,by rw[aj,h];rfl⟩
 ·have e:(xs.map V.int).getD i .dH=V.int xs[i]:=by rw[aj,ak,aa f];rfl
  have w:xs[i]?=some xs[i]:=aa f;rw[e];refine step _ H R S (aD f) s (λy a v r=>I y a v ?_) (λa v r=>J a v ?_)
  ·show xs[i]?.bind F=_
   rw[w];exact r
  ·show xs[i]?.bind F=_
   rw[w];exact r
theorem aah(xs:List Int)(f:Int->Bool):xs.filterMap (λx=>if f x=true then some (V.int x) else none)=(xs.filter f).map V.int:=by
 induction xs with
 |nil=>rfl
 |cons x xs a =>
  by_cases h:f x=true
  ·rw[dc h,bA,<- a,eu];simp only[h,if_true]
  ·rw[dg h,<- a,eu];simp only[h];rfl
theorem uL{K:af}{l d:Addr}{xs:List Int}{n:List (Option Nat)}{g:TG}{t:TT}{u:TE}{w:L2.St}{v:Hp->Prop}{e:Hp}(f:Int->Bool)(j:e d=none)(hl:bC K e l (xs.map V.int))(E:xs.length<=1000)
 (step:∀(x:Int) (H:Hp) (R:V->Hp->Prop) (S:Hp->Prop),x∈xs->aC e H->(∀a,aC H a->f x=true->R (.int x) a)->(∀a,aC H a->f x=false->S a) ->
  g (.int x) (jK n w) H λc q=>t c q λb h=>if b=true then u c h R else S h)
 (p:∀H,aC e H->H d=some (.lst ((xs.filter f).map V.int))->v H) :
 ∃W:Nat->Nat->Hp->Prop,(∃m,W 0 m (upd e d (.lst [])))/\∀i m H,W i m H ->
  ((RZ K l).stop i H/\v H)∨((RZ K l).go i H/\∀x a,(RZ K l).Qx i H x a->g x (jK n w) a λc q=>t c q λb h=>if b=true then u c h λy z=>∃xs,z d=some (.lst xs)/\xs.length<sizeLine /\
    ∃k,k<m/\W (i+1) k (upd z d (.lst (xs++[y]))) else ∃k,k<m/\W (i+1) k h):=by
 refine aag (λx=>if f x=true then some (V.int x) else none) j hl E (λx H R S B s C D=>step x H R S B s (λa r o=>C _ a r (b3 o)) (λa r o=>D a r (eH (by rw[o];exact aO)))) (λH s A=>p H s (by rw[<- aah];exact A))
def age(u:HO):Prop:=∀xs,u≠.lst xs/\∀o,u≠.Ut o (.lst xs)
theorem ab7{C b:Addr}{a:List (Str×V)}:age (.ins C b a):=λc=>⟨λe=>(by cases e),λo e=>(by cases e)⟩
theorem bC.past{K:af}{H f:Hp}{z a:Addr}{u:HO}{xs:List V}(g:H z=some u)(d:age u)(c:∀b v,H b=some v->b≠z->f b=some v)(h:bC K H a xs):bC K f a xs:=by
 rcases h with (h|⟨o,h⟩)|h
 ·exact .inl (.inl (c _ _ h λe=>by subst e;rw[g] at h;exact (d xs).1 (aR h)))
 ·exact .inl (.inr ⟨o,c _ _ h λe=>by subst e;rw[g] at h;exact (d xs).2 o (aR h)⟩)
 ·exact .inr h
noncomputable def Ja(c:Option Int):V:=(c.map V.int).getD .dH
theorem Hq(i:Int)(c:Option Int):ahh (.int i) (Ja c)=true:=by cases c <;> rfl
theorem ab8(c:Option Int):BP (Ja c)=true:=by cases c <;> rfl
theorem Mm(xs:List Int):Uo .dH (xs.map V.int)=false:=by
 unfold Uo;rw[List.any_map,List.any_eq_false];intro x _;show ¬(ZY (.int x) .dH)=true;simp[ZY]
noncomputable def uM(c:Option Int)(r:Int):Bool:=!decide (V.int r=Ja c)
noncomputable def f5(ts:List T3)(so:Option Int)(nV:Int)(b9:Option Int)(os hs:List Int):List Int :=
 match so with
 |none=>os.filter (uM b9)
 |some to=>if to∈hs then [] else match uJ ts nV to with
  |some r=>if r∈os then [r].filter (uM b9) else os.filter (uM b9)
  |none=>os.filter (uM b9)
noncomputable def Mn(s to k c:Int):Bool:=if k=1 then decide (V.int c=V.int to) else if k=2 then !decide (V.int c=V.int s) else false
noncomputable def Ea(to k:Int):Option Int:=if k=1 then some to else none
theorem made{H:Hp}{x a C:Addr}{d:List (Str×V)}(e:H x=none)(c:H a=none)(b:a≠x):aC H (upd (upd (upd H a (.own x)) x (.ins C a [])) x (.ins C a d)):=by
 rw[RU];exact (aC.new c).trans (aC.new (by rw[aK (cu b)];exact e))
theorem neT{b:Bool}(h:¬b=true):b=false:=by
 cases b
 ·rfl
 ·exact eL rfl h
end TW
namespace TX
open PySem PySem.StrLaws PySem.Builtin PySem.Builtin.Str
noncomputable abbrev cs(x:Str):List Nat:=x.cps.toList
theorem Sj{x y:Str}(h:cs x=cs y):x=y:=Str.ext' (Array.toList_inj.mp h)
theorem rV(a b:Str):cs (a++b)=cs a++cs b:=by
 show (Str.append a b).cps.toList=_;simp[Str.append,cs]
theorem z8(x:Str):(cs x).length=x.length:=fO
noncomputable def inter(sep:List Nat):List (List Nat)->List Nat
 |[]=>[]
 |[p]=>p
 |p::q::r=>p++(sep++inter sep (q::r))
theorem wJ(a:Str):∀l:List Str,cs (Str.join a l)=inter (cs a) (l.map cs)
 |[]=>rfl
 |[x]=>rfl
 |x::y::r=>by
  show cs (x++a++Str.join a (y::r))=cs x++(cs a++inter (cs a) ((y::r).map cs));rw[rV,rV,wJ a (y::r),eW]
theorem cut{c:Nat}:∀{p q X Y:List Nat},c∉p->c∉q->p++c::X=q++c::Y->p=q/\X=Y
 |[],[],X,Y,_,_,h=>⟨rfl,(jH h).2⟩
 |[],b::q,X,Y,_,d,h=>eL (jH h).1 λe=>d (e▸aL ..)
 |a::p,[],X,Y,f,_,h=>eL (jH h).1 λe=>f (e▸aL ..)
 |a::p,b::q,X,Y,f,d,h=>by
  have g:=jH h;obtain⟨j,i⟩:=cut (λz=>f (aM _ z)) (λz=>d (aM _ z)) g.2;exact⟨by rw[g.1,j],i⟩
theorem QV{c:Nat}{t:List Nat}:∀{l m:List (List Nat)},l≠[]->m≠[]->(∀p∈l,c∉p)->(∀p∈m,c∉p)->inter (c::t) l=inter (c::t) m->l=m
 |[],_,h,_,_,_,_=>eL rfl h
 |_::_,[],_,h,_,_,_=>eL rfl h
 |[p],[q],_,_,_,_,h=>by rw[show p=q from h]
 |[p],q::q'::r,_,_,hl,_,h=>by
  have h:p=q++(c::t++inter (c::t) (q'::r)):=h;exact eL (by rw[h];simp) (hl p (aL ..))
 |p::d::r,[q],_,_,_,a,h=>by
  have h:p++(c::t++inter (c::t) (d::r))=q:=h;exact eL (by rw[<- h];simp) (a q (aL ..))
 |p::d::r,q::q'::s,_,_,hl,a,h=>by
  have h:p++c::(t++inter (c::t) (d::r))=q++c::(t++inter (c::t) (q'::s)):=h;obtain⟨g,e⟩:=cut (hl p (aL ..)) (a q (aL ..)) h;have f:=QV (-_) (-_) (λx b=>hl x (aM _ b)) (λx b=>a x (aM _ b)) (List.append_cancel_left e);rw[g,f]
theorem UW{c:Nat}{t:List Nat}(a:c∉t):∀{l:List (List Nat)} {k:Nat},(∀p∈l,c∉p)->(inter (c::t) l)[k]?=some c->((inter (c::t) l).drop k).take (t.length+1)=c::t
 |[],k,_,h=>by simp[inter] at h
 |[p],k,hl,h=>eL (aI h) (hl p (aL ..))
 |p::q::r,k,hl,h=>by
  have e:inter (c::t) (p::q::r)=p++(c::t++inter (c::t) (q::r)):=rfl;rw[e] at h ⊢;by_cases d:k<p.length
  ·rw[bM d] at h
   exact eL (aI h) (hl p (aL ..))
  ·rw[bW ∅] at h
   rw[List.drop_append,List.drop_eq_nil_of_le ∅,uA];generalize k-p.length=j at h;by_cases f:j<(c::t).length
   ·rw[bM f] at h
    cases j with
    |zero=>simp
    |succ j=>exact eL (aI (by simpa using h)) a
   ·rw[bW ∅] at h
    have:=UW a (λx b=>hl x (aM _ b)) h
    rw[List.drop_append,List.drop_eq_nil_of_le ∅,uA];exact this
theorem ab9(x y:Str):Txt.split x y≠[]:=by
 unfold Txt.split;split
 ·simp
 ·split
  ·simp
  ·rw[partsBetween_eq]
   obtain⟨p,r,e⟩:=partsFrom_ne x y.length 0 (occurrences x y 0 x.length (x.length+1));rw[e];simp
theorem Mp:∀{l m:List Str},l.map cs=m.map cs->l=m
 |[],[],_=>rfl
 |[],_::_,h=>by simp at h
 |_::_,[],h=>by simp at h
 |x::l,y::m,h=>by
  have a:=jH h;rw[Sj a.1,Mp a.2]
theorem Mq{y:Str}{c:Nat}{t:List Nat}{ws:List Str}(i:cs y=c::t)(d:ws≠[])(f:∀w∈ws,c∉cs w)(g:∀p∈Txt.split (Str.join y ws) y,c∉cs p):Txt.split (Str.join y ws) y=ws:=by
 have h:=fy cs (join_split (Str.join y ws) y);rw[wJ,wJ,i] at h;refine Mp (QV (c:=c) (t:=t) ?_ ?_ ?_ ?_ h)
 ·intro e
  exact ab9 _ _ (List.map_eq_nil_iff.mp e)
 ·intro e
  exact d (List.map_eq_nil_iff.mp e)
 ·intro p a
  obtain⟨q,b,rfl⟩:=aF.mp a;exact g q b
 ·intro p a
  obtain⟨q,b,rfl⟩:=aF.mp a;exact f q b
theorem QW{c:Nat}{ws:List Str}(b:ws≠[])(a:∀w∈ws,c∉cs w):Txt.split (Str.join ⟨#[c]⟩ ws) ⟨#[c]⟩=ws:=Mq (t:=[]) rfl b a (split_free _ c)
theorem Mr{x y:Str}{c:Nat}(g:∀k,(cs x)[k]?=some c->At x y x.length k){a b:Nat}(i:∀k,a<=k->k<b->¬At x y x.length k):c∉cs (strSub x a b):=by
 intro e;have e:c∈((cs x).drop a).take (b-a):=by rw[<- strSub_toList];exact e
 obtain⟨j,d⟩:=iD e;have f:j<b-a:=by
  have h:=(ai.mp d).1;rw[bU] at h;lia
 rw[List.getElem?_take_of_lt f,List.getElem?_drop] at d;exact i (a+j) ∅ ∅ (g _ d)
theorem Ks{x y:Str}{c:Nat}(g:∀k,(cs x)[k]?=some c->At x y x.length k):∀(b:List Nat) (a f:Nat),ChainG x y x.length a b f->(∀k,f<=k->¬At x y x.length k)->∀p∈partsFrom x y.length a b,c∉cs p
 |[],a,f,h,j,p,i=>by
  have e:f=a:=h;subst e;rw[aX.mp i];exact Mr g λk l _=>j k l
 |d::r,a,f,h,j,p,i=>by
  obtain⟨l,o,n,m⟩:=h;rcases aV.mp i with e|hp'
  ·rw[e]
   exact Mr g n
  ·exact Ks g r _ f m j p hp'
theorem aaj{y:Str}{c:Nat}{t:List Nat}{ws:List Str}(d:cs y=c::t)(B:c∉t)(j:qZ y=1)(v:ws≠[])(n:∀w∈ws,c∉cs w):Txt.split (Str.join y ws) y=ws:=by
 have g:∀k,(cs (Str.join y ws))[k]?=some c->At (Str.join y ws) y (Str.join y ws).length k:=λk h=>by
  have e:=wJ y ws;rw[d] at e;have G:=h;rw[e] at h;have m:=UW B (λp a=>by
   obtain⟨q,D,rfl⟩:=aF.mp a;exact n q D) h
  rw[<- e] at m;have E:y.length=t.length+1:=by rw[<- z8,d];rfl
  refine⟨?_,?_⟩
  ·have:=fy List.length m
   rw[bU,rR,z8] at this;simp only[bH] at this;lia
  ·rw[subAt_eq,E]
   show (List.take (t.length+1) (List.drop k (cs (Str.join y ws)))==cs y)=true;rw[m,d];exact beq_self_eq_true _
 refine Mq d v n λp a=>?_;have l:1<=y.length:=by rw[<- z8,d];simp
 have u:∀x:Str,¬qZ x<qZ y:=λx=>by
  rw[j];unfold qZ;split
  ·lia
  ·split <;> lia
 generalize Str.join y ws=x at g a;have b:(∀k,¬At x y x.length k)->∀p∈[x],c∉cs p:=λh p a=>by
  rw[aX.mp a];intro A;obtain⟨k,j⟩:=iD A;exact h k (g k j)
 obtain⟨f,i,o⟩:=occ_tight x y l;unfold Txt.split at a;split at a
 ·rename_i r
  rw[Bool.or_eq_true,decide_eq_true_eq,decide_eq_true_eq] at r;rcases r with h|h
  ·exact b (λk z=>by have:=z.1;lia) p a
  ·exact eL h (u x)
 ·split at a
  ·rename_i F
   have C:occurrences x y 0 x.length (x.length+1)=[]:=by simpa using F
   rw[C] at i;have s:f=0:=i;subst s;exact b (λk=>o k (be _)) p a
  ·rw[partsBetween_eq] at a
   exact Ks g _ _ f i o p a
end TX
namespace TX
open PySem PySem.StrLaws PySem.Builtin PySem.Builtin.Str PySem.NumText
noncomputable abbrev num(n:Int):Str:=Str.ofString (toString n)
theorem Ms(m:Nat):cs (num m)=(jE 10 m).map Char.toNat:=PySem.W.KIN.signs_num m
theorem Mt{m:Nat}(h:¬m<10):jE 10 m=jE 10 (m/10)++[Nat.digitChar (m%10)]:=by
 have a:m%10<10:=Nat.mod_lt m (!_);have t:jE 10 (m/10)++jE 10 (m%10)=jE 10 (10*(m/10)+m%10):=Nat.toDigits_append_toDigits (!_) ∅ a;rw[Nat.div_add_mod,uy a] at t;exact t.symm
theorem Sk:∀(k m:Nat),1<=k->m<10^k->(jE 10 m).length<=k
 |0,_,h,_=>eL h (!_)
 |k+1,m,_,h=>by
  by_cases a:m<10
  ·rw[uy a]
   show 1<=k+1;lia
  ·rw[Mt a,aA]
   have c:m/10<10^k:=by
    rw[Nat.pow_succ] at h;exact Nat.div_lt_of_lt_mul ∅
   have b:1<=k:=by
    cases k with
    |zero=>simp at h;lia
    |succ k=>lia
   exact Nat.succ_le_succ (Sk k _ b c)
theorem YG(m:Nat):jE 10 m≠[]:=by
 by_cases h:m<10
 ·rw[uy h];simp
 ·rw[Mt h];simp
theorem ace:∀d:Nat,d<10->(Nat.digitChar d).toNat=48->d=0:=!_
theorem acf(m:Nat):((jE 10 m).map Char.toNat)[0]?=some 48->m=0:=by
 induction m using Nat.strongRecOn with
 |_ m c =>
  intro h;by_cases a:m<10
  ·rw[uy a] at h
   exact ace m a (by simpa using h)
  ·rw[Mt a,aU] at h
   have b:0<((jE 10 (m/10)).map Char.toNat).length:=by
    rw[ah];exact gE.mpr (YG _)
   rw[bM b] at h
   have:=c (m/10) ∅ h
   lia
theorem aeG{c m:Nat}(h:c∈(jE 10 m).map Char.toNat):48<=c/\c<=57:=by
 obtain⟨b,a,e⟩:=aF.mp h;have r:=PyProof.Rows.digit_range (Nat.isDigit_of_mem_toDigits (!_) (!_) a);rw[<- e];exact r
abbrev Wr(n:Int):Prop:=0<=n/\n<10^60
theorem iV{n:Int}(h:Wr n):1<=(num n).length/\(num n).length<=60:=by
 obtain⟨m,rfl⟩:=iR h.1;have a:m<10^60:=by have:=h.2;exact_mod_cast this
 rw[<- z8,Ms,ah];exact⟨gE.mpr (YG _),Sk 60 m (!_) a⟩
theorem Hr{n:Int}(h:0<=n):∀c∈cs (num n),48<=c/\c<=57:=λc a=>by
 obtain⟨m,rfl⟩:=iR h;rw[Ms] at a;exact aeG a
theorem aci{n:Int}(h:0<=n)(e:(cs (num n))[0]?=some 48):n=0:=by
 obtain⟨m,rfl⟩:=iR h;rw[Ms] at e;rw[acf m e];rfl
theorem num_reads{n:Int}(h:Wr n):PySem.intText? (num n)=some n:=by
 have b:=iV h;obtain⟨m,rfl⟩:=iR h.1;have e:=intText_digits (x:=num m) (Hr ∅) (by
  intro z
  have:(cs (num m)).length=0:=by rw[show cs (num m)=[] from z];rfl
  rw[z8] at this;lia) ∅
 have a:digitsVal (num (m:Int)).cps.toList=m:=by
  have:=Ms m
  rw[show (num (m:Int)).cps.toList=_ from this];exact PySem.W.KIN.val_back m
 rw[a] at e;exact e
theorem Mu{n:Int}(h:0<=n){c:Nat}(a:c<48∨57<c):c∉cs (num n):=λz=>by
 have:=Hr h c z
 lia
theorem QX{n:Int}(h:0<=n):(num n).cps.all (·<128)=true:=by
 rw[<- Array.all_toList,lM];intro c a
 have:=Hr h c a
 exact eO ∅
end TX
namespace TX
open PySem PySem.StrLaws PySem.Builtin PySem.Builtin.Str
noncomputable abbrev tO:Str:=" "
noncomputable abbrev aak:Str:="; "
noncomputable def wordsOf(w:Str)(ns:List Int):List Str:=w::ns.map num
noncomputable def fh(w:Str)(ns:List Int):Str:=Txt.join tO (wordsOf w ns)
noncomputable def partsOf(nm:List Int)(rs cl:List (List Int)):List Str:=fh "names" nm::(rs.map (fh "rope")++cl.map (fh "caller"))
noncomputable def nW(nm:List Int)(rs cl:List (List Int)):Str:=Txt.join aak (partsOf nm rs cl)
theorem join_eq(s:Str)(l:List Str):Txt.join s l=Str.join s l:=glued_eq_join s l
theorem FZ{w:Str}{ns:List Int}(e:32∉cs w)(b:∀n∈ns,Wr n):Txt.split (fh w ns) tO=wordsOf w ns:=by
 unfold fh;rw[join_eq];refine QW (c:=32) (ws:=wordsOf w ns) (by simp[wordsOf]) λx d=>?_;rcases aV.mp d with rfl|h
 ·exact e
 ·obtain⟨n,a,rfl⟩:=aF.mp h
  exact Mu (b n a).1 (.inl (!_))
theorem QY{a:List Nat}{c:Nat}(b:c∉a):∀{l:List (List Nat)},(∀p∈l,c∉p)->c∉inter a l
 |[],_=>by simp[inter]
 |[p],h=>h p (aL ..)
 |p::q::r,h=>by
  show c∉p++(a++inter a (q::r));rw[bx,bx];rintro (z|z|z)
  ·exact h p (aL ..) z
  ·exact b z
  ·exact QY b (λx d=>h x (aM _ d)) z
theorem Cc{w:Str}{ns:List Int}(e:59∉cs w)(c:∀n∈ns,Wr n):59∉cs (fh w ns):=by
 unfold fh;rw[join_eq,wJ];refine QY (!_) λp b=>?_;obtain⟨x,d,rfl⟩:=aF.mp b;rcases aV.mp d with rfl|h
 ·exact e
 ·obtain⟨n,a,rfl⟩:=aF.mp h
  exact Mu (c n a).1 (.inr (!_))
theorem Xh{nm:List Int}{rs cl:List (List Int)}(b:∀n∈nm,Wr n)(e:∀r∈rs,∀n∈r,Wr n)(f:∀r∈cl,∀n∈r,Wr n):Txt.split (nW nm rs cl) aak=partsOf nm rs cl:=by
 unfold nW;rw[join_eq];refine aaj (c:=59) (t:=[32]) (by decide +kernel) (!_) (by decide +kernel) (by simp[partsOf]) λp d=>?_;rcases aV.mp d with rfl|h
 ·exact Cc (by decide +kernel) b
 ·rcases bx.mp h with h|h
  ·obtain⟨r,a,rfl⟩:=aF.mp h
   exact Cc (by decide +kernel) (e r a)
  ·obtain⟨r,a,rfl⟩:=aF.mp h
   exact Cc (by decide +kernel) (f r a)
theorem Cd{B:Nat}:∀{l:List Nat},(∀x∈l,x<=B)->l.sum<=l.length*B
 |[],_=>-_
 |x::l,h=>by
  have b:=h x (aL ..);have c:=Cd λy a=>h y (aM _ a);rw[lE,bH,Nat.succ_mul];lia
theorem QZ{w:Str}{ns:List Int}(e:w.length<=60)(g:∀n∈ns,Wr n):((wordsOf w ns).map (·.length)).sum+(wordsOf w ns).length*tO.length<=(ns.length+1)*61:=by
 have h:=Cd (B:=60) (l:=(wordsOf w ns).map (·.length)) λx d=>by
  obtain⟨y,c,rfl⟩:=aF.mp d;rcases aV.mp c with rfl|h
  ·exact e
  ·obtain⟨n,a,rfl⟩:=aF.mp h
   exact (iV (g n a)).2
 have b:(wordsOf w ns).length=ns.length+1:=by simp[wordsOf]
 have f:tO.length=1:=by decide +kernel
 rw[ah,b] at h;rw[b,f];lia
theorem acj{w:Str}{ns:List Int}(b:w.length<=60)(a:∀n∈ns,Wr n):(fh w ns).length<=(ns.length+1)*61:=by
 unfold fh;rw[join_eq];exact ay (join_length_le _ _) (QZ b a)
theorem aal{nm:List Int}{rs cl:List (List Int)}(g:∀n∈nm,Wr n)(m:∀r∈rs,∀n∈r,Wr n)(p:∀r∈cl,∀n∈r,Wr n)(j:nm.length<=12)(k:∀r∈rs,r.length<=12)(o:∀r∈cl,r.length<=12)(t:rs.length<=30)(s:cl.length<=30) :
 ((partsOf nm rs cl).map (·.length)).sum+(partsOf nm rs cl).length*aak.length<=100000:=by
 have a:∀{w:Str} {ns:List Int},w.length<=60->(∀n∈ns,Wr n)->ns.length<=12->(fh w ns).length<=800:=λ{w ns} f q c=>by
  have:=acj f q
  have:(ns.length+1)*61<=13*61:=Nat.mul_le_mul_right _ ∅
  lia
 have h:=Cd (B:=800) (l:=(partsOf nm rs cl).map (·.length)) λx e=>by
  obtain⟨y,d,rfl⟩:=aF.mp e;rcases aV.mp d with rfl|h
  ·exact a (by decide +kernel) g j
  ·rcases bx.mp h with h|h
   ·obtain⟨r,b,rfl⟩:=aF.mp h
    exact a (by decide +kernel) (m r b) (k r b)
   ·obtain⟨r,b,rfl⟩:=aF.mp h
    exact a (by decide +kernel) (p r b) (o r b)
 have c:(partsOf nm rs cl).length<=61:=by
  simp only[partsOf,bH,aA,ah];lia
 have i:aak.length=2:=by decide +kernel
 rw[ah] at h
 have:(partsOf nm rs cl).length*800<=61*800:=Nat.mul_le_mul_right _ c
 rw[i];lia
noncomputable def zj(nm:List Int)(rs cl:List (List Int)):List (List Str):=wordsOf "names" nm::(rs.map (wordsOf "rope")++cl.map (wordsOf "caller"))
theorem Ku{nm:List Int}{rs cl:List (List Int)}(b:∀n∈nm,Wr n)(d:∀r∈rs,∀n∈r,Wr n)(c:∀r∈cl,∀n∈r,Wr n):(partsOf nm rs cl).map (λp=>Txt.split p tO)=zj nm rs cl:=by
 unfold partsOf zj;rw[bA,aU,bP,bP,FZ (by decide +kernel) b];congr 1;congr 1
 ·exact cU λr a=>FZ (by decide +kernel) (d r a)
 ·exact cU λr a=>FZ (by decide +kernel) (c r a)
theorem ack{nm:List Int}{rs cl:List (List Int)}{i:Nat}(h:i<rs.length):(zj nm rs cl)[i+1]?=some (wordsOf "rope" rs[i]):=by
 unfold zj;rw[List.getElem?_cons_succ,bM (by rw[ah];exact h),ak,aa h];rfl
theorem acm{nm:List Int}{rs cl:List (List Int)}{j:Nat}(h:j<cl.length):(zj nm rs cl)[rs.length+j+1]?=some (wordsOf "caller" cl[j]):=by
 unfold zj;rw[List.getElem?_cons_succ,bW (by rw[ah];lia),ah,show rs.length+j-rs.length=j by lia,ak,aa h];rfl
theorem Sl(nm:List Int)(rs cl:List (List Int)):(zj nm rs cl).length=1+rs.length+cl.length:=by
 simp[zj];lia
end TX
namespace L2
open PySem PySem.W PySem.Spec PyProof.Rows
section
variable{X:Cx}
theorem Q0:∀(a:List Str) (t:Nat),b6 (a.map V.str) (strsFrom t a)
 |[],_=>.nil
 |y::a,t=>.cons ⟨t,rfl⟩ (Q0 a (t+1))
theorem Q2:∀{a:List Str} {us:List Value},b6 (a.map V.str) us->StrsAre us a
 |[],_,h=>by
  have:=h.zero
  subst this;exact .nil
 |y::a,us,h=>by
  cases h with
  |cons r t =>
   obtain⟨k,rfl⟩:=r;exact .cons y k (Q2 t)
theorem split_len(x y:Str):(Txt.split x y).length<=x.length+2:=by
 unfold Txt.split;split
 ·show 1<=_;lia
 ·split
  ·show 1<=_;lia
  ·rw[StrLaws.partsBetween_eq]
   have h:=StrLaws.occ_length_le x y 0 x.length (x.length+1);generalize Builtin.Str.occurrences x y 0 x.length (x.length+1)=b at h;have e:∀(b:List Nat) (a:Nat),(StrLaws.partsFrom x y.length a b).length=b.length+1:=λb=>by
    induction b with
    |nil=>intro a;rfl
    |cons c cs d=>intro a;show _+1=_;rw[d];rfl
   rw[e];lia
def ahM:V->List V->Hp->VK->Prop:=λx vs H Q=>∃z y,x=.str z/\vs=[.str y]/\(y.length==0)=false/\z.length<=100000/\∀l,H l=none->Q (.ref l) (upd H l (.lst ((Txt.split z y).map V.str)))
theorem Mv:O4 X "str.split" ahM:=by
 intro f s n H x E v B Q I A m h;obtain⟨z,y,rfl,rfl,j,D,q⟩:=h;obtain⟨t,rfl⟩:=A;obtain⟨u,rfl,p⟩:=m.one;obtain⟨i,rfl⟩:=p;have C:sizeLine=16777216:=!_
 have l:=split_len z y;have c:∀(a:List Value) (k:Nat),b6 ((Txt.split z y).map V.str) a->EP X f n Q (.ref s.heap.objs.size) {s with heap:=s.heap.push {cls:=.type "list",data:=.seq a.toArray},toks:=k}:=λa k r =>
  ⟨.ref s.heap.objs.size,_,I.laid (t':=k) (λb o e=>Heap.get?_push_of_some _ e) (aB _) (show gJ X.prog X.w _ _ _ (.lst ((Txt.split z y).map V.str)) from ⟨by rw[ah];lia,a,0,r,Heap.get?_push_size _ rfl⟩),rfl,q _ (I.hok.fresh (aB _))⟩
 cases d:(decide (z.length<y.length) || decide (Builtin.Str.strKind z<Builtin.Str.strKind y))
 ·cases g:(Builtin.Str.occurrences z y 0 z.length (z.length+1)).isEmpty
  ·have e:Txt.split z y=Builtin.Str.partsBetween z (Builtin.Str.occurrences z y 0 z.length (z.length+1)) y.length:=(eH (ne_true_of_eq_false d)).trans (eH (ne_true_of_eq_false g))
   refine call_meets F.slot_str_split (typeIs_str _ _ _) F.entry_str_split (F.args_str_split_2 _ _) (meets_str_split_sep z y t i d j g ∅ (by rw[<- e];lia)) ?_;exact c _ _ (by rw[<- e];exact Q0 _ _)
  ·have e:Txt.split z y=[z]:=(eH (ne_true_of_eq_false d)).trans (b3 g)
   refine call_meets F.slot_str_split (typeIs_str _ _ _) F.entry_str_split (F.args_str_split_2 _ _) (meets_str_split_not_found z y t i d j g) ?_;exact c [Value.str z t] s.toks (by rw[e];exact .cons ⟨t,rfl⟩ .nil)
 ·have e:Txt.split z y=[z]:=b3 d
  refine call_meets F.slot_str_split (typeIs_str _ _ _) F.entry_str_split (F.args_str_split_2 _ _) (meets_str_split_cannot_occur z y t i d) ?_;exact c [Value.str z t] s.toks (by rw[e];exact .cons ⟨t,rfl⟩ .nil)
def rJoin(K:af):V->List V->Hp->VK->Prop:=λx vs H Q=>∃z l ys,x=.str z/\vs=[.ref l]/\bC K H l (ys.map V.str)/\(ys.map (·.length)).sum+ys.length*z.length<=16777216/\Q (.str (Txt.join z ys)) H
theorem z9:O4 X "str.join" (rJoin X.K):=by
 intro a s p H x o v m Q I j f h;obtain⟨z,l,w,rfl,rfl,i,e,q⟩:=h;obtain⟨t,rfl⟩:=j;obtain⟨u,rfl,g⟩:=f.one;cases g;obtain⟨d,r,b,n⟩:=I.list i;exact join_list b.isList (Q2 r) e λc k=>⟨.str _,H,I.tok k,⟨c,rfl⟩,q⟩
theorem aam:nP X (.type "int") (λxs H Q=>∃z n,xs=[.str z]/\PySem.intText? z=some n/\z.length<=640/\Q (.int n) H):=by
 intro a s f H xs e Q I r h;obtain⟨z,n,rfl,b,c,q⟩:=h;obtain⟨u,rfl,d⟩:=vals1 r;obtain⟨t,rfl⟩:=d;exact KIN.call_text b c ⟨.int n,H,I.tok _,⟨_,rfl⟩,q⟩
noncomputable def Its(x:Str):It:=⟨λi _=>i<x.cps.size,λi H v H'=>H'=H/\∃c,x.cps[i]?=some c/\v=.str ⟨#[c]⟩,λi _=>x.cps.size<=i⟩
theorem acn{P:Program}{w:World}{K:af}{N:Expr}(j:Addr)(x:Str)(t:Tok):Turn P w K N (Its x) [j] j (λi h=>h.IsStrIter j "str_ascii_iterator" x t i) where
 mem:=-_
 obj:=λi h st b g=>by
  have e:b=j:=by simpa using g
  subst e;obtain⟨o,e,c,d⟩:=st;exact⟨o,e,λv z=>by rw[d] at z;cases z⟩
 keep:=λi h n st k=>by
  obtain⟨o,e,c,d⟩:=st;exact⟨o,k j (-_) _ e,c,d⟩
 item:=by
  intro X u q y F i f s D H E I m st a;subst u q y;have a:i<x.cps.size:=a;obtain⟨B,C,J,p,A,r⟩:=m j (-_);refine wpAny_pyNext_ascii_item st (c:=x.cps[i]) (by simp[a]) λn l G=>?_;have M:Inv X f D H {s with heap:=n,toks:=s.toks+1}:=I.turned (t':=s.toks+1) (λb o g e=>(G.2 b g).trans e) B C p A r;obtain⟨o,e,c,d⟩:=id l;exact⟨_,rfl,Yj (s:={s with heap:=n,toks:=s.toks+1}) e c d (!_) ⟨.str ⟨#[x.cps[i]]⟩,H,M,⟨_,rfl⟩,⟨rfl,x.cps[i],by simp[a],rfl⟩,l,λb g=>(m b g).1⟩⟩
 done:=by
  intro X u q y F i f s D H E I m st a;subst u q y;have a:x.cps.size<=i:=a;obtain⟨B,C,J,p,A,r⟩:=m j (-_);exact wpAny_pyNext_ascii_end (I.ok.hd F) st (Array.getElem?_eq_none a) λn L=>⟨rfl,I.turned (t':=s.toks) (λb o g e=>L b o g e) B C p A r⟩
 self:=λ_ _ _ _ _ st h=>wpAny_pyIter_striter_ascii st h
def ano(ts:TE):TI:=λσ H R=>ts σ H λv H1=>∃x:Str,v=.str x/\x.cps.all (·<128)=true/\R (Its x) H1
theorem ahN{l m:Expr}{ts:TE}(hl:PE X l ts):PI X m l (ano ts):=by
 intro a s j H R I h;refine gW (hl a s j H _ I h) λv c ⟨y,f,d,k,x,e,g,q⟩=>?_;subst e;obtain⟨t,rfl⟩:=k;refine wpAny_pyIter_ascii g ?_;refine⟨c.heap.objs.size,[c.heap.objs.size],_,_,f,rfl,d.kept (t':=c.toks) λb o e=>Heap.get?_push_of_some _ e,acn _ x t,⟨_,Heap.get?_push_size _ rfl,rfl,rfl⟩,λb i=>?_,q⟩;have e:b=c.heap.objs.size:=by simpa using i
 subst e;exact d.abq (aB _) (d.hok.fresh (aB _))
theorem ahO{x:Str}{b:Hp}:∀i H,i<x.cps.size->aC b H->(Its x).go i H:=λi H a s=>a
theorem acp{x:Str}{a:Hp}:∀H,aC a H->(Its x).stop x.cps.size H:=λH s=>aB _
theorem Sm(K:af)(l:X.K=K){o e:Expr}{c:List Expr}{to:TE}{t:TA}{name:Str}{apos a:Pos}{T id:String}{r:V->List V->Hp->VK->Prop}(pa:PlainAttrs T)(h:Slot T name id)(i:typeOf (.builtin id)=pure (.type "method_descriptor"))(n:O4 X id r)(m:PE X o to)(k:PA X (e::c) t)
 (f:attributeBase o name X.env (eval o X.env)=eval o X.env:=by rfl)
 (g:((backTo a (starEach (e::c) X.env)).all (λx=>!x.1)&&(backToKw a (keywordEach [] X.env)).all (λx=>x.1.isSome)&&decide ((e::c).length+([]:List Keyword).length+(if ([]:List Keyword).isEmpty then 0 else 1)<30))=true:=by rfl)
 (d:(apos.endLine==a.line)=true:=by rfl) (j:starEach (e::c) X.env=(false,eval e X.env)::starEach c X.env:=by rfl) (b:(backTo a (starEach c X.env)).any (·.1)=false:=by rfl) :
 PE X (.Call (.Attribute o name apos) (e::c) [] a) (tBM K T r to t):=by
 subst l;exact jJ pa h i n m k f g d j b
def anp(a b:TI):TI:=λσ H R=>a σ H R∨b σ H R
theorem ahP{l d:Expr}{a b:TI}(f:PI X d l a)(g:PI X d l b):PI X d l (anp a b):=λc s e H R I h=>h.elim (f c s e H R I) (g c s e H R I)
end
theorem UX{a c:Type}{f g:a->Option c}:∀{l:List a},(∀x∈l,f x=g x)->l.filterMap f=l.filterMap g
 |[],_=>rfl
 |x::l,h=>by
  rw[eu,eu,h x (aL ..),UX λy b=>h y (aM _ b)]
end L2
namespace TW
open PySem L2 PyProof.Rows
noncomputable abbrev fz(ws:List Str):List V:=ws.map V.str
theorem LC{K:af}{l c:Addr}{xs:List V}{q:List (Option Nat)}{g:TG}{v:TT}{w:TE}{A:L2.St}{z:Hp->Prop}{j:Hp}(f:Nat->Option V)(o:j c=none)(hl:bC K j l xs)(E:xs.length<=1000)
 (step:∀(i:Nat) (x:V) (H:Hp) (R:V->Hp->Prop) (S:Hp->Prop),xs[i]?=some x->aC j H->(∀y d,aC H d->f i=some y->R y d)->(∀d,aC H d->f i=none->S d) ->
  g x (jK q A) H λa u=>v a u λb k=>if b=true then w a k R else S k)
 (r:∀H,aC j H->H c=some (.lst ((au xs.length).filterMap f))->z H) :
 ∃W:Nat->Nat->Hp->Prop,(∃m,W 0 m (upd j c (.lst [])))/\∀i m H,W i m H ->
  ((RZ K l).stop i H/\z H)∨((RZ K l).go i H/\∀x d,(RZ K l).Qx i H x d->g x (jK q A) d λa u=>v a u λb k=>if b=true then w a k λy B=>∃xs,B c=some (.lst xs)/\xs.length<sizeLine /\
    ∃p,p<m/\W (i+1) p (upd B c (.lst (xs++[y]))) else ∃p,p<m/\W (i+1) p k):=by
 refine Ml (n:=xs.length) (λi=>xs.getD i .dH) f o (m5 hl) (g5 hl) (λi H x d t s h=>?_) E (λi H R S t s C D=>?_) r
 ·obtain⟨rfl,h⟩:=h
  have h:=h _ (s.seq hl);exact⟨rfl,by rw[aj,h];rfl⟩
 ·have e:xs.getD i .dH=xs[i]:=by rw[aj,aa t];rfl
  rw[e];exact step i _ H R S (aa t) s C D
theorem Aa{b c:Type}(xs:List b)(h:b->c):(au xs.length).filterMap (λi=>xs[i]?.map h)=xs.map h:=by
 have e:∀l:List b,l.filterMap (λx=>some (h x))=l.map h:=λl=>by
  induction l with
  |nil=>rfl
  |cons a l d=>rw[eu,d];rfl
 rw[<- e,<- z7 xs (λx=>some (h x))];refine UX λi _=>?_;cases xs[i]? <;> rfl
structure jo(K:af)(H:Hp)(qs:List Addr)(xss:List (List Int)):Prop where
 len:qs.length=xss.length
 at':∀(i:Nat) q xs,qs[i]?=some q->xss[i]?=some xs->cR K H q (xs.map V.int)
theorem jo.mono{K:af}{H d:Hp}{qs:List Addr}{c:List (List Int)}(s:aC H d)(h:jo K H qs c):jo K d qs c:=⟨h.len,λi q e a b=>s.cV (h.at' i q e a b)⟩
theorem jo.past{K:af}{H d:Hp}{z:Addr}{u:HO}{qs:List Addr}{c:List (List Int)}(g:H z=some u)(f:wI u)(e:∀b v,H b=some v->b≠z->d b=some v)(h:jo K H qs c):jo K d qs c :=
 ⟨h.len,λi q j a b=>cR.past g f e (h.at' i q j a b)⟩
theorem jo.nil{K:af}{H:Hp}:jo K H [] []:=⟨rfl,λi q a h=>by cases h⟩
theorem jo.snoc{K:af}{H:Hp}{qs:List Addr}{c:List (List Int)}{q:Addr}{xs:List Int}(h:jo K H qs c)(f:cR K H q (xs.map V.int)):jo K H (qs++[q]) (c++[xs]):=by
 refine⟨by rw[aA,aA,h.len];rfl,λi a u b d=>?_⟩;by_cases z:i<qs.length
 ·rw[bM z] at b
  rw[bM (h.len▸z)] at d;exact h.at' i a u b d
 ·have e:i=qs.length:=by
   have:=(ai.mp b).1
   rw[aA] at this
   have:i<qs.length+1:=this
   lia
  subst e;rw[nN] at b;rw[h.len,nN] at d;cases b;cases d;exact f
def TL(K:af)(H:Hp)(l:Addr)(xss:List (List Int)):Prop:=∃qs:List Addr,H l=some (.lst (qs.map V.ref))/\jo K H qs xss
theorem TL.mono{K:af}{H b:Hp}{l:Addr}{a:List (List Int)}(s:aC H b)(h:TL K H l a):TL K b l a:=by
 obtain⟨d,c,e⟩:=h;exact⟨d,s _ _ c,e.mono s⟩
theorem TL.past{K:af}{H d:Hp}{l z:Addr}{u:HO}{a:List (List Int)}(h:TL K H l a)(j:H z=some u)(g:wI u)(n:l≠z)(c:∀b v,H b=some v->b≠z->d b=some v):TL K d l a:=by
 obtain⟨f,e,i⟩:=h;exact⟨f,c _ _ e n,jo.past j g c i⟩
theorem TL.push{K:af}{H:Hp}{l q:Addr}{a:List (List Int)}{xs:List Int}{qs:List Addr}(c:H l=some (.lst (qs.map V.ref)))(d:jo K H qs a)(b:cR K H q (xs.map V.int)):TL K (upd H l (.lst (qs.map V.ref++[.ref q]))) l (a++[xs]) :=
 ⟨qs++[q],by rw[aq,aU];rfl,jo.past c m6 cK (d.snoc b)⟩
structure S1(H:Hp)(ps:List Addr)(wss:List (List Str)):Prop where
 len:ps.length=wss.length
 at':∀(i:Nat) p ws,ps[i]?=some p->wss[i]?=some ws->H p=some (.lst (fz ws))
theorem S1.mono{H d:Hp}{ps:List Addr}{c:List (List Str)}(s:aC H d)(h:S1 H ps c):S1 d ps c:=⟨h.len,λi p e a b=>s _ _ (h.at' i p e a b)⟩
theorem S1.snoc{H:Hp}{ps:List Addr}{b:List (List Str)}{p:Addr}{ws:List Str}(h:S1 H ps b)(f:H p=some (.lst (fz ws))):S1 H (ps++[p]) (b++[ws]):=by
 refine⟨by rw[aA,aA,h.len];rfl,λi a u c d=>?_⟩;by_cases z:i<ps.length
 ·rw[bM z] at c
  rw[bM (h.len▸z)] at d;exact h.at' i a u c d
 ·have e:i=ps.length:=by
   have:=(ai.mp c).1
   rw[aA] at this
   have:i<ps.length+1:=this
   lia
  subst e;rw[nN] at c;rw[h.len,nN] at d;cases c;cases d;exact f
theorem Eb{w:Str}{ns:List Int}:Kn (fz (TX.wordsOf w ns)) 0=some (.str w):=dD (j:=0) rfl
theorem wK(w:Str)(ns:List Int):Ez (fz (TX.wordsOf w ns)) (some 1) none=fz (ns.map TX.num):=by
 have:=Mh (fz (TX.wordsOf w ns)) 1
 rw[show ((1:Nat):Int)=1 from rfl] at this;rw[this];rfl
inductive Role where
 |b5|cN|c8|fM (i:Nat)|uN|rows (g:Nat)|jZ|book (g:Nat)|fQ (g:Nat)
 |aN|groups|iG|handed (c:Nat)|cz|bV (i:Nat)|letter (i:Nat)|done (i:Nat)|aG (i:Nat)|fj
 deriving DecidableEq
structure xF(H:Hp)(loc:Role->Addr)(ob:Role->Option HO):Prop where
 get:∀r o,ob r=some o->H (loc r)=some o
 inj:∀r q,ob r≠none->ob q≠none->loc r=loc q->r=q
noncomputable def iH(ob:Role->Option HO)(r:Role)(o:HO):Role->Option HO:=λq=>if q=r then some o else ob q
noncomputable def rW(loc:Role->Addr)(r:Role)(a:Addr):Role->Addr:=λq=>if q=r then a else loc q
theorem dQ{ob:Role->Option HO}{r:Role}{o:HO}:iH ob r o r=some o:=b3 rfl
theorem cO{ob:Role->Option HO}{r q:Role}{o:HO}(h:q≠r):iH ob r o q=ob q:=eH h
theorem fW{b:Role->Addr}{r:Role}{a:Addr}:rW b r a r=a:=b3 rfl
theorem fJ{b:Role->Addr}{r q:Role}{a:Addr}(h:q≠r):rW b r a q=b q:=eH h
def Fp(loc:Role->Addr)(ob:Role->Option HO)(b:Addr):Prop:=∃r,ob r≠none/\loc r=b
section
variable{H H':Hp}{loc:Role->Addr}{ob:Role->Option HO}
theorem xF.mono(h:xF H loc ob)(s:aC H H'):xF H' loc ob:=⟨λr o e=>s _ _ (h.get r o e),h.inj⟩
theorem xF.keep(h:xF H loc ob)(k:∀b o,H b=some o->Fp loc ob b->H' b=some o):xF H' loc ob :=
 ⟨λr o e=>k _ _ (h.get r o e) ⟨r,by rw[e];exact aS o,rfl⟩,h.inj⟩
theorem xF.set(h:xF H loc ob){r:Role}(a:ob r≠none)(o:HO):xF (upd H (loc r) o) loc (iH ob r o):=by
 have d:∀q,iH ob r o q≠none->ob q≠none:=λq b=>by
  by_cases e:q=r
  ·rw[e];exact a
  ·rw[cO e] at b;exact b
 refine⟨λq u e=>?_,λq c f g e=>h.inj q c (d q f) (d c g) e⟩;by_cases z:q=r
 ·subst z
  rw[dQ] at e;cases e;exact aq
 ·rw[cO z] at e
  rw[aK (λw=>z (h.inj q r (by rw[e];exact aS u) a w))];exact h.get q u e
theorem xF.new(h:xF H loc ob){p:Addr}(j:H p=none)(r:Role)(o:HO):xF (upd H p o) (rW loc r p) (iH ob r o):=by
 have g:∀q,q≠r->ob q≠none->loc q≠p:=λq k f e=>by
  cases i:ob q with
  |none=>exact f i
  |some u =>
   have:=h.get q u i
   rw[e,j] at this;cases this
 refine⟨λq u e=>?_,λq c b d e=>?_⟩
 ·by_cases z:q=r
  ·subst z
   rw[dQ] at e;cases e;rw[fW];exact aq
  ·rw[cO z] at e
   rw[fJ z,aK (g q z (by rw[e];exact aS u))];exact h.get q u e
 ·by_cases z:q=r
  ·by_cases a:c=r
   ·rw[z,a]
   ·rw[z,fW,fJ a] at e
    rw[cO a] at d;exact eL e.symm (g c a d)
  ·by_cases a:c=r
   ·rw[a,fW,fJ z] at e
    rw[cO z] at b;exact eL e (g q z b)
   ·rw[fJ z,fJ a] at e
    rw[cO z] at b;rw[cO a] at d;exact h.inj q c b d e
theorem xF.acq(h:xF H loc ob){p:Addr}{r:Role}{o:HO}{b:Addr}(d:Fp (rW loc r p) (iH ob r o) b):Fp loc ob b∨b=p:=by
 obtain⟨q,c,a⟩:=d;by_cases z:q=r
 ·rw[z,fW] at a
  exact .inr a.symm
 ·rw[cO z] at c
  rw[fJ z] at a;exact .inl ⟨q,c,a⟩
theorem Mw{r:Role}(d:ob r≠none){o:HO}{b:Addr}:Fp loc (iH ob r o) b↔Fp loc ob b:=by
 constructor
 ·rintro⟨q,a,c⟩
  refine⟨q,?_,c⟩;by_cases z:q=r
  ·rw[z];exact d
  ·rw[cO z] at a;exact a
 ·rintro⟨q,a,c⟩
  refine⟨q,?_,c⟩;by_cases z:q=r
  ·rw[z,dQ];exact aS o
  ·rw[cO z];exact a
end
inductive i7 where
 |post (h:Nat)|aeH (h r:Nat)|hand (h c:Nat)|send (h r w:Nat)|twice (h r:Nat)|Xi (h r:Nat)
noncomputable def i7.vs:i7->List V
 |.post h=>[.str "post",.int h]
 |.aeH h r=>[.str "come",.int h,.int r]
 |.hand h c=>[.str "hand",.int h,.int c]
 |.send h r w=>[.str "send",.int h,.int r,.int w]
 |.twice h r=>[.str "twice",.int h,.int r]
 |.Xi h r=>[.str "lost",.int h,.int r]
structure LS where
 s:Nat
 to:Nat
 kd:Int
 grp:Nat
 old:Bool
 done:List Nat
 aG:List i7
structure Cp where
 l:Nat
 r:Nat
 w:Nat
 h:Nat
noncomputable def Cp.vs(c:Cp):List V:=[.int c.l,.int c.r,.int c.w,.int c.h]
structure NS where
 ws:List (List Nat)
 R:Nat->Nat->RM.Row
 ts:Nat->List T3
 aN:List Nat
 groups:List Nat
 had:List (List Nat)
 ls:List LS
 cps:List Cp
structure TQ where
 rq:Nat->List Addr
 dq:Nat->List Addr
 cq:List Addr
structure NC where
 b5:Addr
 str:Addr
 book:Addr
 post:Addr
 arT:Addr
 let1:Addr
 akl:Addr
noncomputable def rX(c:NC)(dx:Addr)(l:LS):HO:=if l.kd=1 then .ins c.let1 dx [("sender",.int l.s),("to",.int l.to)] else .ins c.akl dx [("sender",.int l.s)]
noncomputable def desc(c:NC)(dx:Role->Addr)(tp:Addr)(loc:Role->Addr)(q:TQ)(s:NS):Role->Option HO
 |.b5=>some (.ins c.b5 (dx .b5) [("town",.ref tp),("strands",.ref (loc .cN)),("rows_by_group",.ref (loc .uN)),("books",.ref (loc .jZ)),("homes",.ref (loc .aN)),("groups",.ref (loc .groups)),("handed",.ref (loc .iG)),("letters",.ref (loc .cz)),("copies",.ref (loc .fj))])
 |.cN=>some (.ins c.str (dx .cN) [("town",.ref tp),("upright",.ref (loc .c8))])
 |.c8=>some (.lst ((au s.ws.length).map λi=>.ref (loc (.fM i))))
 |.fM i=>s.ws[i]?.map λw=>.lst (bE w)
 |.uN=>some (.lst ((au 3).map λg=>.ref (loc (.rows g))))
 |.rows g=>if g<3 then some (.lst ((q.rq g).map V.ref)) else none
 |.jZ=>some (.lst ((au 3).map λg=>.ref (loc (.book g))))
 |.book g=>if g<3 then some (.ins c.book (dx (.book g)) [("kept",.ref (loc (.fQ g)))]) else none
 |.fQ g=>if g<3 then some (.dT ((s.ts g).map nD)) else none
 |.aN=>some (.lst (bE s.aN))
 |.groups=>some (.lst (bE s.groups))
 |.iG=>some (.lst ((au s.had.length).map λi=>.ref (loc (.handed i))))
 |.handed i=>s.had[i]?.map λw=>.lst (bE w)
 |.cz=>some (.lst ((au s.ls.length).map λi=>.ref (loc (.bV i))))
 |.bV i=>s.ls[i]?.map λl=>.ins c.post (dx (.bV i)) [("letter",.ref (loc (.letter i))),("group",.int l.grp),("old",.bl l.old),("done_at",.ref (loc (.done i))),("deeds",.ref (loc (.aG i)))]
 |.letter i=>s.ls[i]?.map λl=>rX c (dx (.letter i)) l
 |.done i=>s.ls[i]?.map λl=>.dK (l.done.map λh:Nat=>(gZ (h:Int),.bl true))
 |.aG i=>s.ls[i]?.map λl=>.lst ((q.dq i).map V.ref)
 |.fj=>some (.lst (q.cq.map V.ref))
mutual
noncomputable def UY:PyData->Bool
 |.none=>true
 |.bool _=>true
 |.int _=>true
 |.str _=>true
 |.list _=>false
 |.tuple ds=>Jb ds
 |.dict _=>true
noncomputable def Jb:List PyData->Bool
 |[]=>true
 |d::ds=>UY d&&Jb ds
end
structure dU(K:af)(H:Hp)(qs:List Addr)(xs:List (List V)):Prop where
 len:qs.length=xs.length
 at':∀(i:Nat) q x,qs[i]?=some q->xs[i]?=some x->cR K H q x
theorem dU.mono{K:af}{H c:Hp}{qs:List Addr}{xs:List (List V)}(h:dU K H qs xs)(k:∀b x,cR K H b x->cR K c b x):dU K c qs xs:=⟨h.len,λi q x a b=>k _ _ (h.at' i q x a b)⟩
noncomputable def gA(n:Nat)(R:Nat->RM.Row):List (List V):=(au n).map λi=>RM.cC (R i)
structure nX(K:af)(H:Hp)(n:Nat)(q:TQ)(s:NS):Prop where
 rows:∀g,g<3->dU K H (q.rq g) (gA n (s.R g))
 aG:∀i l,s.ls[i]?=some l->dU K H (q.dq i) (l.aG.map i7.vs)
 cps:dU K H q.cq (s.cps.map Cp.vs)
theorem nX.mono{K:af}{H a:Hp}{n:Nat}{q:TQ}{s:NS}(h:nX K H n q s)(k:∀b x,cR K H b x->cR K a b x):nX K a n q s :=
 ⟨λg c=>(h.rows g c).mono k,λi l e=>(h.aG i l e).mono k,h.cps.mono k⟩
inductive cj(K:af)(c:NC)(H:Hp)(F:Addr->Prop)(p tp:Addr)(n:Nat)(s:NS):Prop
 |mk (loc dx:Role->Addr) (q:TQ):loc .b5=p->xF H loc (desc c dx tp loc q s)->(∀b,F b↔Fp loc (desc c dx tp loc q s) b)->nX K H n q s->cj K c H F p tp n s
structure Step(H:Hp)(F:Addr->Prop)(H':Hp)(F':Addr->Prop):Prop where
 kp:∀b o,H b=some o->¬F b->H' b=some o
 fr:∀b,F' b->F b∨H b=none
theorem Xj{c:NC}{n:Role->Addr}{m:Addr}{i:Role->Addr}{q:TQ}{s:NS}{r:Role}{o:HO}(h:desc c n m i q s r=some o):wI o:=by
 have b:∀{g:Type} {f:g->HO} {x:Option g},(∀a,wI (f a))->x.map f=some o->wI o:=λ{g f x} k e=>by
  cases x with
  |none=>cases e
  |some a=>cases e;exact k a
 have ins:∀{C d:Addr} {j:List (Str×V)},wI (.ins C d j):=lG;cases r <;> simp only[desc] at h
 all_goals first
  | (cases h;exact lG)
  | (cases h;exact m6)
  |exact b (λ_=>m6) h
  |exact b (λ_=>lG) h
  | (split at h
     ·cases h;first|exact m6|exact lG|exact akk
     ·cases h)
  | (refine b (λl=>?_) h;unfold rX;split <;> exact lG)
  | (refine b (λl=>?_) h;exact λp=>⟨λe=>(by cases e),λo e=>(by cases e)⟩)
section
variable{K:af}{c:NC}{CT:Addr}{H H':Hp}{F F':Addr->Prop}{p tp ln lr:Addr}{n:Nat}{s s':NS}{ns:List Int}{rs:List R5}
theorem cj.mono(h:cj K c H F p tp n s)(e:aC H H'):cj K c H' F p tp n s:=by
 obtain⟨a,j,q,f,i,g,d⟩:=h;exact⟨a,j,q,f,i.mono e,g,d.mono λb x=>e.cV⟩
theorem cj.UZ(h:cj K c H F p tp n s){b:Addr}{o:HO}(f:F b)(e:H b=some o):wI o:=by
 obtain⟨d,k,q,l,g,j,m⟩:=h;obtain⟨r,i,rfl⟩:=(j b).mp f;cases a:desc c k tp d q s r with
 |none=>exact eL a i
 |some u =>
  have:=g.get r u a
  rw[e] at this;cases this;exact Xj a
theorem cj.there(h:cj K c H F p tp n s){b:Addr}(j:F b):∃o,H b=some o:=by
 obtain⟨a,g,q,l,i,f,k⟩:=h;obtain⟨r,e,rfl⟩:=(f b).mp j;cases d:desc c g tp a q s r with
 |none=>exact eL d e
 |some u=>exact⟨u,i.get r u d⟩
theorem cj.tup(h:cj K c H F p tp n s)(a:∀b o,H b=some o->¬F b->H' b=some o){b:Addr}{x:List V}(e:cR K H b x):cR K H' b x:=by
 rcases e with (e|⟨o,e⟩)|e
 ·exact .inl (.inl (a _ _ e λz=>(h.UZ z e x).1 rfl))
 ·exact .inl (.inr ⟨o,a _ _ e λz=>(h.UZ z e x).2 o rfl⟩)
 ·exact .inr e
theorem cj.keep(h:cj K c H F p tp n s)(j:∀b o,H b=some o->F b->H' b=some o)(g:∀b x,cR K H b x->cR K H' b x):cj K c H' F p tp n s:=by
 obtain⟨a,l,q,i,k,d,f⟩:=h;exact⟨a,l,q,i,k.keep λb o e z=>j b o e ((d b).mpr z),d,f.mono g⟩
end
mutual
theorem Rep.tups{K:af}{H c:Hp}(g:∀b x,cR K H b x->cR K c b x):∀{d:PyData} {v:V},UY d=true->Rep K H d v->Rep K c d v
 |.none,_,_,h=>h
 |.bool _,_,_,h=>h
 |.int _,_,_,h=>h
 |.str _,_,_,h=>h
 |.list _,_,f,_=>by simp[UY] at f
 |.tuple ds,_,f,⟨a,vs,e,q,r⟩=>⟨a,vs,e,g _ _ q,cW.tups g f r⟩
 |.dict _,_,_,h=>h
theorem cW.tups{K:af}{H c:Hp}(a:∀b x,cR K H b x->cR K c b x):∀{ds:List PyData} {vs:List V},Jb ds=true->cW K H ds vs->cW K c ds vs
 |[],_,_,h=>h
 |d::ds,_,f,⟨v,r,e,q,t⟩=>by
  have f:(UY d&&Jb ds)=true:=f;rw[dF] at f;exact⟨v,r,e,Rep.tups a f.1 q,cW.tups a f.2 t⟩
end
theorem Mx:∀rs:List R5,Jb (rs.map R5.D)=true
 |[]=>rfl
 |r::rs=>by
  show (UY r.D&&Jb (rs.map R5.D))=true;rw[Mx rs];rfl
section
variable{K:af}{c:NC}{CT:Addr}{H H':Hp}{F F':Addr->Prop}{p tp ln lr:Addr}{n:Nat}{s s':NS}{ns:List Int}{rs:List R5}
theorem cy.keep(h:cy K CT H tp ln lr ns rs)(k1:∀b o,H b=some o->b=tp∨b=ln∨b=lr->H' b=some o)(d:∀b x,cR K H b x->cR K H' b x):cy K CT H' tp ln lr ns rs:=by
 obtain⟨⟨i,e⟩,g,a,f,c⟩:=h;exact⟨⟨i,k1 _ _ e (.inl rfl)⟩,k1 _ _ g (.inr (.inl rfl)),a,k1 _ _ f (.inr (.inr rfl)),cW.tups d (Mx rs) c⟩
structure NW(K:af)(c:NC)(CT:Addr)(H:Hp)(F:Addr->Prop)(p tp ln lr:Addr)(ns:List Int)(rs:List R5)(s:NS):Prop where
 b5:cj K c H F p tp ns.length s
 xG:cy K CT H tp ln lr ns rs
 o1:¬F tp
 o2:¬F ln
 o3:¬F lr
theorem NW.mono(h:NW K c CT H F p tp ln lr ns rs s)(e:aC H H'):NW K c CT H' F p tp ln lr ns rs s:=⟨h.b5.mono e,h.xG.mono e,h.o1,h.o2,h.o3⟩
theorem NW.done(h:NW K c CT H F p tp ln lr ns rs s)(st:Step H F H' F')(j:cj K c H' F' p tp ns.length s'):NW K c CT H' F' p tp ln lr ns rs s':=by
 have f:∀b x,cR K H b x->cR K H' b x:=λb x=>h.b5.tup st.kp;obtain⟨⟨m,a⟩,d,k,g,l⟩:=id h.xG;have nf:∀b o,H b=some o->¬F b->¬F' b:=λb o e i z=>by
  rcases st.fr b z with w|w
  ·exact i w
  ·rw[e] at w;cases w
 refine⟨j,h.xG.keep (λb o e q=>st.kp b o e ?_) f,nf _ _ a h.o1,nf _ _ d h.o2,nf _ _ g h.o3⟩;rcases q with rfl|rfl|rfl
 ·exact h.o1
 ·exact h.o2
 ·exact h.o3
theorem Step.refl'(e:aC H H'):Step H F H' F:=⟨λb o q _=>e _ _ q,λb z=>.inl z⟩
theorem Step.trans{c:Hp}{d:Addr->Prop}(a:Step H F H' F')(b:Step H' F' c d):Step H F c d:=by
 refine⟨λx o e nf=>b.kp x o (a.kp x o e nf) λz=>?_,λx z=>?_⟩
 ·rcases a.fr x z with w|w
  ·exact nf w
  ·rw[e] at w;cases w
 ·rcases b.fr x z with w|w
  ·exact a.fr x w
  ·by_cases q:F x
   ·exact .inl q
   ·refine .inr ?_
    cases f:H x with
    |none=>rfl
    |some o =>
     have:=a.kp x o f q
     rw[this] at w;cases w
end
theorem xF.join{H:Hp}{i j:Role->Addr}{k c:Role->Option HO}(a:xF H i k)(b:xF H j c)(l:∀r q,k r≠none->c q≠none->i r≠j q) :
 xF H (λr=>if (c r).isSome=true then j r else i r) (λr=>if (c r).isSome=true then c r else k r):=by
 have m:∀{r},(c r).isSome=true->c r≠none:=λ{r} h e=>by rw[e] at h;cases h
 refine⟨λr o e=>?_,λr q d f e=>?_⟩
 ·by_cases z:(c r).isSome=true
  ·rw[b3 z] at e ⊢
   exact b.get r o e
  ·rw[eH z] at e ⊢
   exact a.get r o e
 ·by_cases z:(c r).isSome=true
  ·by_cases g:(c q).isSome=true
   ·simp only[z,g,if_true] at d f e
    exact b.inj r q d f e
   ·simp only[z,g,if_true,if_false] at d f e
    exact eL e.symm (l q r (by simpa using f) (m z))
  ·by_cases g:(c q).isSome=true
   ·simp only[z,g,if_true,if_false] at d f e
    exact eL e (l r q (by simpa using d) (m g))
   ·simp only[z,g,if_false] at d f e
    exact a.inj r q (by simpa using d) (by simpa using f) e
structure Lb(H0 H:Hp)(p:Addr)(loc:Role->Addr)(ob:Role->Option HO):Prop where
 own:xF H loc ob
 np:loc .b5=p
 hn:ob .b5≠none
 kp:∀b o,H0 b=some o->b≠p->H b=some o
 fr:∀b,Fp loc ob b->b=p∨H0 b=none
section
variable{H0 H H':Hp}{p:Addr}{loc:Role->Addr}{ob:Role->Option HO}
theorem Lb.free(h:Lb H0 H p loc ob){a:Addr}(c:H a=none):H0 a=none:=by
 cases e:H0 a with
 |none=>rfl
 |some o =>
  by_cases z:a=p
  ·exfalso
   cases b:ob .b5 with
   |none=>exact h.hn b
   |some u =>
    have:=h.own.get .b5 u b
    rw[h.np,<- z,c] at this;cases this
  ·have:=h.kp a o e z
   rw[c] at this;cases this
theorem Lb.new(h:Lb H0 H p loc ob){a:Addr}(c:H a=none){r:Role}(d:r≠.b5)(o:HO):Lb H0 (upd H a o) p (rW loc r a) (iH ob r o):=by
 refine⟨h.own.new c r o,by rw[fJ (cu d)];exact h.np,by rw[cO (cu d)];exact h.hn,λb u e n=>?_,λb f=>?_⟩
 ·have:=h.kp b u e n
  rw[aK (aJ this c)];exact this
 ·rcases h.own.acq f with z|rfl
  ·exact h.fr b z
  ·exact .inr (h.free c)
theorem Lb.put(h:Lb H0 H p loc ob)(o:HO):Lb H0 (upd H p o) p loc (iH ob .b5 o):=by
 have e:=h.own.set (r:=.b5) h.hn o;rw[h.np] at e;refine⟨e,h.np,by rw[dQ];exact aS o,λb u q n=>?_,λb a=>h.fr b ((Mw h.hn).mp a)⟩;rw[aK n];exact h.kp b u q n
theorem xF.add{H H':Hp}{loc:Role->Addr}{ob:Role->Option HO}(h:xF H loc ob)(s:aC H H'){a:Addr}(d:H a=none){o:HO}(e:H' a=some o)(r:Role):xF H' (rW loc r a) (iH ob r o):=by
 have c:=h.new d r o;refine⟨λq u b=>?_,c.inj⟩;by_cases z:q=r
 ·subst z
  rw[dQ] at b;cases b;rw[fW];exact e
 ·rw[cO z] at b
  rw[fJ z];exact s _ _ (h.get q u b)
theorem Lb.add(h:Lb H0 H p loc ob)(s:aC H H'){a:Addr}(d:H a=none){o:HO}(e:H' a=some o){r:Role}(f:r≠.b5):Lb H0 H' p (rW loc r a) (iH ob r o):=by
 have c:=h.new d f o;exact⟨h.own.add s d e r,c.np,c.hn,λb u q n=>s _ _ (h.kp b u q n),c.fr⟩
theorem Lb.ahR(h:Lb H0 H p loc ob){r:Role}(a:ob r≠none)(f:r≠.b5)(o:HO):Lb H0 (upd H (loc r) o) p loc (iH ob r o):=by
 refine⟨h.own.set a o,h.np,by rw[cO (cu f)];exact h.hn,λb u e n=>?_,λb d=>h.fr b ((Mw a).mp d)⟩;have c:b≠loc r:=λz=>by
  rcases h.fr (loc r) ⟨r,a,rfl⟩ with w|w
  ·exact n (z.trans w)
  ·rw[z,w] at e;cases e
 rw[aK c];exact h.kp b u e n
theorem Lb.ext{loc':Role->Addr}{YH:Role->Option HO}(h:Lb H0 H p loc ob)(d:∀r,ob r=YH r)(c:∀r,ob r≠none->loc r=loc' r):Lb H0 H p loc' YH:=by
 have e:ob=YH:=funext d;subst e;refine⟨⟨λr o e=>?_,λr q a b e=>h.own.inj r q a b ?_⟩,?_,h.hn,h.kp,λb f=>?_⟩
 ·rw[<- c r (by rw[e];exact aS o)]
  exact h.own.get r o e
 ·rw[c r a,c q b]
  exact e
 ·rw[<- c .b5 h.hn]
  exact h.np
 ·obtain⟨r,a,e⟩:=f
  exact h.fr b ⟨r,a,(c r a).trans e⟩
theorem Lb.join{f:Role->Addr}{a:Role->Option HO}(h:Lb H0 H p loc ob)(b:xF H' f a)(g:a .b5=none)(fresh:∀r,a r≠none->H (f r)=none)(s:aC H H') :
 Lb H0 H' p (λr=>if (a r).isSome=true then f r else loc r) (λr=>if (a r).isSome=true then a r else ob r):=by
 refine⟨(h.own.mono s).join b λr q c d e=>?_,?_,?_,λb o e n=>s _ _ (h.kp b o e n),λx j=>?_⟩
 ·cases i:ob r with
  |none=>exact c i
  |some u =>
   have:=h.own.get r u i
   rw[e,fresh q d] at this;cases this
 ·show (if (a .b5).isSome=true then _ else _)=p
  rw[g];exact h.np
 ·show (if (a .b5).isSome=true then _ else _)≠none
  rw[g];exact h.hn
 ·obtain⟨r,c,d⟩:=j
  by_cases z:(a r).isSome=true
  ·simp only[z,if_true] at c d
   rw[<- d];exact .inr (h.free (fresh r c))
  ·simp only[z,if_false] at c d
   exact h.fr x ⟨r,by simpa using c,by simpa using d⟩
end
noncomputable def BH(ns:List Int)(i:Nat):RM.Row:=⟨ns.getD i 0,0,0,-1⟩
noncomputable def S0(ns:List Int)(rs:List R5)(cl:List (Nat×Nat)):NS where
 ws:=rs.map λr=>au r.d.toNat
 R:=λ_=>BH ns
 ts:=λ_=>[]
 aN:=cl.map (·.1)
 groups:=cl.map (·.2)
 had:=cl.map λ_=>[]
 ls:=[]
 cps:=[]
noncomputable def aan(C dx tp lu:Addr)(ls:List Addr)(ws:List (List Nat)):Role->Option HO
 |.cN=>some (.ins C dx [("town",.ref tp),("upright",.ref lu)])
 |.c8=>some (.lst (ls.map V.ref))
 |.fM i=>ws[i]?.map λw=>.lst (bE w)
 |_=>none
noncomputable def aeI(sp lu:Addr)(ls:List Addr):Role->Addr
 |.cN=>sp
 |.c8=>lu
 |.fM i=>ls.getD i 0
 |_=>0
theorem ahS{H:Hp}{C sp s n d:Addr}{ls:List Addr}{ws:List (List Nat)}(m:H sp=some (.ins C s [("town",.ref n),("upright",.ref d)]))(v:H d=some (.lst (ls.map V.ref)))(hl:ls.length=ws.length)
 (y:∀(i:Nat) l w,ls[i]?=some l->ws[i]?=some w->H l=some (.lst (bE w))) (nd:ls.Nodup) (B:d∉ls):xF H (aeI sp d ls) (aan C s n d ls ws):=by
 have b:∀{i:Nat},aan C s n d ls ws (.fM i)≠none->∃(a:i<ls.length),aeI sp d ls (.fM i)=ls[i]:=λ{i} h=>by
  have a:i<ls.length:=by
   rw[hl];by_cases z:i<ws.length
   ·exact z
   ·exact eL (show (ws[i]?.map λw=>HO.lst (bE w))=none by rw[jG ∅];rfl) h
  refine⟨a,?_⟩;show ls.getD i 0=ls[i];rw[aj,aa a];rfl
 have D:∀{i:Nat} (a:i<ls.length),∃w,H ls[i]=some (.lst (bE w)):=λ{i} a=>⟨ws[i]'(hl▸a),y i _ _ (aa a) (aa (hl▸a))⟩;have u:sp≠d:=Xg m v (λe=>by cases e);have t:∀{i:Nat} (a:i<ls.length),sp≠ls[i]:=λ{i} a=>by
  obtain⟨w,g⟩:=D a;exact Xg m g (λe=>by cases e)
 have x:∀{i:Nat} (a:i<ls.length),d≠ls[i]:=λ{i} a e=>B (e▸aD a);refine⟨λr o e=>?_,λr q k f e=>?_⟩
 ·cases r <;> first|(cases e;done)|skip
  case cN=>cases e;exact m
  case c8=>cases e;exact v
  case fM i =>
   obtain⟨a,c⟩:=b (i:=i) (by rw[e];exact aS o);have g:=aa (hl▸a:i<ws.length);have e:(ws[i]?.map λw=>HO.lst (bE w))=some o:=e;rw[g] at e;cases e;rw[c];exact y i _ _ (aa a) g
 ·cases r <;> first|exact eL rfl k|skip
  all_goals cases q <;> first|exact eL rfl f|rfl|skip
  case cN.c8=>exact eL e u
  case cN.fM i =>
   obtain⟨a,c⟩:=b f;exact eL (e.trans c) (t a)
  case c8.cN=>exact eL e.symm u
  case c8.fM i =>
   obtain⟨a,c⟩:=b f;exact eL (e.trans c) (x a)
  case fM.cN i =>
   obtain⟨a,c⟩:=b k;exact eL (e.symm.trans c) (t a)
  case fM.c8 i =>
   obtain⟨a,c⟩:=b k;exact eL (e.symm.trans c) (x a)
  case fM.fM i j =>
   obtain⟨a,c⟩:=b k;obtain⟨A,p⟩:=b f;rw[c,p] at e;have q:ls[i]?=ls[j]?:=by rw[aa a,aa A,e]
   have:=(List.getElem?_inj a nd).mp q
   rw[this]
structure cD(ns:List Int)(rs:List R5):Prop where
 nd:ns.Nodup
 ok:∀r∈rs,r.Ok ns.length
 n1:1<=ns.length
 Lc:ns.length<=10
 LD:rs.length<=20
 pos:∀x∈ns,0<=x
structure BI(ns:List Int)(rs:List R5)(s:NS):Prop where
 wl:s.ws.length=rs.length
 w4:∀w∈s.ws,w.length<=4
 fit:∀g,g<3->xD ns.length rs.length (s.R g)
noncomputable abbrev YI(rs:List R5)(ws:List (List Nat))(g:Nat):List Nat:=Ca rs ws g rs.length
theorem uO{rs:List R5}{ws:List (List Nat)}{g:Nat}:∀k∈YI rs ws g,k<rs.length:=λk a=>cT.mp (bZ.mp a).1
noncomputable def rY(ns:List Int)(rs:List R5)(o:cD ns rs)(ws:List (List Nat))(g:Nat):RM.Net:=bf ns rs (YI rs ws g) o.nd o.ok uO
section
variable{K:af}{c:NC}{CT:Addr}{H H':Hp}{loc dx:Role->Addr}{q:TQ}{p tp ln lr:Addr}{n:Nat}{s:NS}{ns:List Int}{rs:List R5}
theorem xF.strAt(O:xF H loc (desc c dx tp loc q s)):wH c.str H (loc .cN) tp (loc .c8) s.ws:=by
 refine⟨⟨dx .cN,O.get .cN _ rfl⟩,(au s.ws.length).map λi=>loc (.fM i),?_,by rw[ah,bz],λi l w b a=>?_⟩
 ·have:=O.get .c8 _ rfl
  rw[this,bP];rfl
 ·have d:=(ai.mp a).1
  rw[ak,gF d] at b;cases b;exact O.get (.fM i) _ (by show (s.ws[i]?.map _)=_;rw[a];rfl)
theorem xF.Xk(O:xF H loc (desc c dx tp loc q s)){g:Nat}(a:g<3):uK c.book H (loc (.book g)) (loc (.fQ g)) (s.ts g) :=
 ⟨⟨dx (.book g),O.get (.book g) _ (b3 a)⟩,O.get (.fQ g) _ (b3 a)⟩
theorem pX{f:Nat->V}{m g:Nat}(h:g<m):Kn ((au m).map f) (g:Int)=some (f g):=dD (by rw[ak,gF h];rfl)
theorem dU.Sn{l:Addr}{qs:List Addr}{R:Nat->RM.Row}(h:dU K H qs (gA n R))(hl:bC K H l (qs.map V.ref)):xC K H l n R:=by
 have e:qs.length=n:=by rw[h.len];simp[gA]
 refine⟨qs,hl,e,λi p a=>h.at' i p _ a ?_⟩;have b:=(ai.mp a).1;unfold gA;rw[ak,gF ∅];rfl
theorem rA{xs:List Nat}{i:Nat}(h:i<xs.length):Kn (bE xs) (i:Int)=some (.int (xs[i]:Nat)):=dD (by rw[ak,aa h];rfl)
end
noncomputable def eN{α:Type}(f:Nat->α)(i:Nat)(v:α):Nat->α:=λg=>if g=i then v else f g
theorem c6{a:Type}{f:Nat->a}{i:Nat}{v:a}:eN f i v i=v:=b3 rfl
theorem f6{a:Type}{f:Nat->a}{i g:Nat}{v:a}(h:g≠i):eN f i v g=f g:=eH h
theorem xF.ext{H:Hp}{c loc':Role->Addr}{ob YH:Role->Option HO}(h:xF H c ob)(f:∀r,ob r=YH r)(d:∀r,ob r≠none->c r=loc' r):xF H loc' YH/\∀b,Fp c ob b↔Fp loc' YH b:=by
 have e:ob=YH:=funext f;subst e;refine⟨⟨λr o e=>?_,λr q a b e=>h.inj r q a b ?_⟩,λb=>⟨λ⟨r,a,e⟩=>⟨r,a,(d r a).symm.trans e⟩,λ⟨r,a,e⟩=>⟨r,a,(d r a).trans e⟩⟩⟩
 ·rw[<- d r (by rw[e];exact aS o)]
  exact h.get r o e
 ·rw[d r a,d q b]
  exact e
section
variable{K:af}{c:NC}{H H':Hp}{F:Addr->Prop}{loc dx:Role->Addr}{q:TQ}{p tp:Addr}{n g:Nat}{s:NS}
theorem Xl(E:loc .b5=p)(O:xF H loc (desc c dx tp loc q s))(y:∀b,F b↔Fp loc (desc c dx tp loc q s) b)(h:nX K H n q s)(v:g<3){d' a:Addr}(m:H d'=none)
 (N:H' (loc (.book g))=some (.ins c.book a [("kept",.ref d')])) (S:H' d'=some (.dT [])) (G:∀b o,H b=some o->b≠loc (.book g)->H' b=some o) :
 ∃J,cj K c H' J p tp n {s with ts:=eN s.ts g []}/\Step H F H' J:=by
 have C:desc c dx tp loc q s (.book g)≠none:=by
  show (if g<3 then some _ else none)≠none;rw[b3 v];exact aS _
 have f:F (loc (.book g)):=(y _).mpr ⟨.book g,C,rfl⟩;have u:∀b o,H b=some o->¬F b->H' b=some o:=λb o e z=>G b o e λw=>z (w▸f);have t:cj K c H F p tp n s:=⟨loc,dx,q,E,O,y,h⟩;have D:=O.set C (.ins c.book a [("kept",.ref d')]);have A:d'≠loc (.book g):=λz=>by
  have:=t.there f
  obtain⟨o,e⟩:=this;rw[z,e] at m;cases m
 have B:(upd H (loc (.book g)) (.ins c.book a [("kept",.ref d')])) d'=none:=by rw[aK A];exact m
 have L:=D.new B (.fQ g) (.dT []);have M:xF H' (rW loc (.fQ g) d') (iH (iH (desc c dx tp loc q s) (.book g) (.ins c.book a [("kept",.ref d')])) (.fQ g) (.dT [])):=by
  refine L.keep λb o e _=>?_;by_cases z:b=d'
  ·rw[z,aq] at e
   cases e;rw[z];exact S
  ·rw[aK z] at e
   by_cases j:b=loc (.book g)
   ·rw[j,aq] at e
    cases e;rw[j];exact N
   ·rw[aK j] at e
    exact G b o e j
 obtain⟨P,T⟩:=M.ext (YH:=desc c (λr=>if r=.book g then a else dx r) tp (rW loc (.fQ g) d') q {s with ts:=eN s.ts g []}) (loc':=rW loc (.fQ g) d') (λr=>by
  cases r <;> first|rfl|skip
  ·rename_i k
   show iH (desc c dx tp loc q s) (.book g) _ (.book k)=(if k<3 then some (HO.ins c.book (if Role.book k=.book g then a else dx (.book k)) [("kept",.ref (rW loc (.fQ g) d' (.fQ k)))]) else none);by_cases z:k=g
   ·subst z
    rw[dQ,b3 v,b3 rfl,fW]
   ·have I:Role.book k≠.book g:=λe=>z (by cases e;rfl)
    have d:Role.fQ k≠.fQ g:=λe=>z (by cases e;rfl);rw[cO I,eH I,fJ d];rfl
  ·rename_i k
   show iH (iH (desc c dx tp loc q s) (.book g) _) (.fQ g) _ (.fQ k)=(if k<3 then some (HO.dT ((eN s.ts g [] k).map nD)) else none);by_cases z:k=g
   ·subst z
    rw[dQ,b3 v,c6];rfl
   ·have d:Role.fQ k≠.fQ g:=λe=>z (by cases e;rfl)
    rw[cO d,f6 z];rfl) (λr _=>rfl)
 refine⟨Fp _ _,⟨_,_,q,?_,P,λb=>Iff.rfl,⟨λk R=>(h.rows k R).mono λb x=>t.tup u,λi l e=>(h.aG i l e).mono λb x=>t.tup u,h.cps.mono λb x=>t.tup u⟩⟩,u,λb Q=>?_⟩
 ·rw[fJ (λz=>by cases z)]
  exact E
 ·rcases D.acq ((T b).mpr Q) with z|rfl
  ·exact .inl ((y b).mpr ((Mw C).mp z))
  ·exact .inr m
theorem aeJ(D:loc .b5=p)(O:xF H loc (desc c dx tp loc q s))(u:∀b,F b↔Fp loc (desc c dx tp loc q s) b)(h:nX K H n q s)(C:g<3){x:Nat}(U:x<n){a:Addr}{d:RM.Row}(N:cR K H a (RM.cC d)) :
 ∃I,cj K c (upd H (loc (.rows g)) (.lst (((q.rq g).map V.ref).set x (.ref a)))) I p tp n {s with R:=eN s.R g (RM.upd (s.R g) x d)}/\Step H F (upd H (loc (.rows g)) (.lst (((q.rq g).map V.ref).set x (.ref a)))) I:=by
 have y:desc c dx tp loc q s (.rows g)≠none:=by
  show (if g<3 then some _ else none)≠none;rw[b3 C];exact aS _
 have B:F (loc (.rows g)):=(u _).mpr ⟨.rows g,y,rfl⟩;have J:∀b o,H b=some o->¬F b->(upd H (loc (.rows g)) (.lst (((q.rq g).map V.ref).set x (.ref a)))) b=some o:=λb o e z=>by
  have M:b≠loc (.rows g):=λw=>z (w▸B);rw[aK M];exact e
 have Q:cj K c H F p tp n s:=⟨loc,dx,q,D,O,u,h⟩;have j:∀{b x},cR K H b x->_:=λ{b x} e=>Q.tup J (b:=b) (x:=x) e;have L:=O.set y (.lst (((q.rq g).map V.ref).set x (.ref a)));obtain⟨P,T⟩:=L.ext (YH:=desc c dx tp loc {q with rq:=eN q.rq g ((q.rq g).set x a)} {s with R:=eN s.R g (RM.upd (s.R g) x d)}) (loc':=loc) (λr=>by
  cases r <;> first|rfl|skip
  rename_i k;show iH (desc c dx tp loc q s) (.rows g) _ (.rows k)=(if k<3 then some (HO.lst ((eN q.rq g ((q.rq g).set x a) k).map V.ref)) else none);by_cases z:k=g
  ·subst z
   rw[dQ,b3 C,c6,lB]
  ·rw[cO (λe=>z (by cases e;rfl)),f6 z]
   rfl) (λr _=>rfl)
 refine⟨Fp _ _,⟨loc,dx,_,D,P,λb=>Iff.rfl,⟨λk E=>?_,λi l e=>(h.aG i l e).mono λb x=>j,h.cps.mono λb x=>j⟩⟩,J,λb S=>.inl ((u b).mpr ((Mw y).mp ((T b).mpr S)))⟩;show dU K _ (eN q.rq g ((q.rq g).set x a) k) (gA n (eN s.R g (RM.upd (s.R g) x d) k));by_cases z:k=g
 ·subst z
  rw[c6,c6];have G:=h.rows k E;have A:(q.rq k).length=n:=by rw[G.len];simp[gA]
  refine⟨by rw[bg,A];simp[gA],λi b v f t=>?_⟩;have m:=(ai.mp f).1;rw[bg,A] at m;unfold gA at t;rw[ak,gF m] at t;cases t;rw[eV] at f;by_cases w:x=i
  ·subst w
   rw[b3 rfl,b3 (by rw[A];exact m)] at f;cases f
   have:RM.upd (s.R k) x d x=d:=by unfold RM.upd;rw[b3 rfl]
   show cR K _ a (RM.cC (RM.upd (s.R k) x d x));rw[this];exact j N
  ·rw[eH w] at f
   have:RM.upd (s.R k) x d i=s.R k i:=by unfold RM.upd;rw[eH (cu w)]
   show cR K _ b (RM.cC (RM.upd (s.R k) x d i));rw[this];exact j (G.at' i b _ f (by unfold gA;rw[ak,gF m];rfl))
 ·rw[f6 z,f6 z]
  exact (h.rows k E).mono λb x=>j
end
section
variable{K:af}{c:NC}{H H':Hp}{F:Addr->Prop}{loc dx:Role->Addr}{q:TQ}{p tp:Addr}{n j:Nat}{s:NS}
theorem U0(D:loc .b5=p)(O:xF H loc (desc c dx tp loc q s))(u:∀b,F b↔Fp loc (desc c dx tp loc q s) b)(f:nX K H n q s)(L:j<s.ws.length){a:Addr}{w:List Nat}{ls:List Addr}(J:H (loc .c8)=some (.lst (ls.map V.ref)))(h:H a=none)
 (N:H' a=some (.lst (bE w))) (S:H' (loc .c8)=some (.lst ((ls.map V.ref).set j (.ref a)))) (E:∀b o,H b=some o->b≠loc .c8->H' b=some o) :
 ∃G,cj K c H' G p tp n {s with ws:=s.ws.set j w}/\Step H F H' G:=by
 have B:desc c dx tp loc q s .c8≠none:=aS _;have d:F (loc .c8):=(u _).mpr ⟨.c8,B,rfl⟩;have t:∀b o,H b=some o->¬F b->H' b=some o:=λb o e z=>E b o e λw=>z (w▸d);have m:cj K c H F p tp n s:=⟨loc,dx,q,D,O,u,f⟩;have A:ls.map V.ref=(au s.ws.length).map λi=>V.ref (loc (.fM i)):=by
  have:=O.get .c8 _ rfl
  rw[J] at this;exact HO.lst.inj (aR this)
 have C:=O.set B (.lst ((ls.map V.ref).set j (.ref a)));have v:a≠loc .c8:=λz=>by
  obtain⟨o,e⟩:=m.there d;rw[z,e] at h;cases h
 have y:(upd H (loc .c8) (.lst ((ls.map V.ref).set j (.ref a)))) a=none:=by rw[aK v];exact h
 have I:=C.new y (.fM j) (.lst (bE w));have M:xF H' (rW loc (.fM j) a) (iH (iH (desc c dx tp loc q s) .c8 (.lst ((ls.map V.ref).set j (.ref a)))) (.fM j) (.lst (bE w))):=by
  refine I.keep λb o e _=>?_;by_cases z:b=a
  ·rw[z,aq] at e
   cases e;rw[z];exact N
  ·rw[aK z] at e
   by_cases g:b=loc .c8
   ·rw[g,aq] at e
    cases e;rw[g];exact S
   ·rw[aK g] at e
    exact E b o e g
 obtain⟨P,T⟩:=M.ext (YH:=desc c dx tp (rW loc (.fM j) a) q {s with ws:=s.ws.set j w}) (loc':=rW loc (.fM j) a) (λr=>by
  cases r <;> first|rfl|skip
  ·show some (HO.lst ((ls.map V.ref).set j (.ref a)))=some (HO.lst ((au (s.ws.set j w).length).map λi=>V.ref (rW loc (.fM j) a (.fM i))))
   rw[A,bg];congr 2;refine iA (-_) λi W X=>?_;simp only[bg,ah,bz] at W;rw[List.getElem_set];by_cases z:j=i
   ·subst z
    simp[fW]
   ·have U:Role.fM i≠.fM j:=λe=>z (by cases e;rfl)
    simp[z,fJ U]
  ·rename_i i
   show iH (iH (desc c dx tp loc q s) .c8 _) (.fM j) _ (.fM i)=((s.ws.set j w)[i]?.map λw=>HO.lst (bE w));by_cases z:i=j
   ·subst z
    rw[dQ,eV,b3 rfl,b3 L];rfl
   ·rw[cO (λe=>z (by cases e;rfl)),eV,eH (cu z)]
    rfl) (λr _=>rfl)
 refine⟨Fp _ _,⟨_,dx,q,?_,P,λb=>Iff.rfl,⟨λk R=>(f.rows k R).mono λb x=>m.tup t,λi l e=>(f.aG i l e).mono λb x=>m.tup t,f.cps.mono λb x=>m.tup t⟩⟩,t,λb Q=>?_⟩
 ·rw[fJ (λz=>by cases z)]
  exact D
 ·rcases C.acq ((T b).mpr Q) with z|rfl
  ·exact .inl ((u b).mpr ((Mw B).mp z))
  ·exact .inr h
theorem Xm(m:loc .b5=p)(O:xF H loc (desc c dx tp loc q s))(j:∀b,F b↔Fp loc (desc c dx tp loc q s) b)(y:nX K H n q s){l:Addr}{qs:List Addr}{cps:List Cp}(hl:H l=some (.lst (qs.map V.ref)))(G:¬F l)(S:dU K H qs (cps.map Cp.vs)) :
 ∃I,cj K c (upd H p (.ins c.b5 (dx .b5) [("town",.ref tp),("strands",.ref (loc .cN)),("rows_by_group",.ref (loc .uN)),("books",.ref (loc .jZ)),("homes",.ref (loc .aN)),("groups",.ref (loc .groups)),("handed",.ref (loc .iG)),("letters",.ref (loc .cz)),("copies",.ref l)])) I p tp n {s with cps:=cps} /\
  (∀b o,H b=some o->b≠p->(upd H p (.ins c.b5 (dx .b5) [("town",.ref tp),("strands",.ref (loc .cN)),("rows_by_group",.ref (loc .uN)),("books",.ref (loc .jZ)),("homes",.ref (loc .aN)),("groups",.ref (loc .groups)),("handed",.ref (loc .iG)),("letters",.ref (loc .cz)),("copies",.ref l)])) b=some o)/\F p/\∀b,I b->F b∨b=l:=by
 generalize L:HO.ins c.b5 (dx .b5) [("town",.ref tp),("strands",.ref (loc .cN)),("rows_by_group",.ref (loc .uN)),("books",.ref (loc .jZ)),("homes",.ref (loc .aN)),("groups",.ref (loc .groups)),("handed",.ref (loc .iG)),("letters",.ref (loc .cz)),("copies",.ref l)]=o1;have u:desc c dx tp loc q s .b5≠none:=aS _;have f:F p:=(j _).mpr ⟨.b5,u,m⟩;have N:cj K c H F p tp n s:=⟨loc,dx,q,m,O,j,y⟩;have C:∀b o,H b=some o->b≠p->(upd H p o1) b=some o:=λb o e z=>by rw[aK z];exact e
 have D:∀{b x},cR K H b x->cR K (upd H p o1) b x:=λ{b x} e=>N.tup (λb o e z=>C b o e λw=>z (w▸f)) e;have A:=O.set u o1;rw[m] at A;have v:l≠p:=λz=>G (z▸f);have J:xF (upd H p o1) (rW loc .fj l) (iH (iH (desc c dx tp loc q s) .b5 o1) .fj (.lst (qs.map V.ref))):=by
  refine⟨λr o e=>?_,λr E a b e=>?_⟩
  ·by_cases z:r=.fj
   ·subst z
    rw[dQ] at e;cases e;rw[fW];exact C _ _ hl v
   ·rw[cO z] at e
    rw[fJ z];exact A.get r o e
  ·have g:∀{r:Role},r≠.fj->iH (desc c dx tp loc q s) .b5 o1 r≠none->loc r≠l:=λ{r} z h e=>by
    refine G ((j _).mpr ⟨r,?_,e⟩);by_cases w:r=.b5
    ·rw[w];exact u
    ·rw[cO w] at h;exact h
   by_cases z:r=.fj
   ·by_cases d:E=.fj
    ·rw[z,d]
    ·rw[z,fW,fJ d] at e
     rw[cO d] at b;exact eL e.symm (g d b)
   ·by_cases d:E=.fj
    ·rw[d,fW,fJ z] at e
     rw[cO z] at a;exact eL e (g z a)
    ·rw[fJ z,fJ d] at e
     rw[cO z] at a;rw[cO d] at b;exact A.inj r E a b e
 obtain⟨M,R⟩:=J.ext (YH:=desc c dx tp (rW loc .fj l) {q with cq:=qs} {s with cps:=cps}) (loc':=rW loc .fj l) (λr=>by
  subst L;cases r <;> rfl) (λr _=>rfl)
 refine⟨Fp _ _,⟨_,dx,_,?_,M,λb=>Iff.rfl,⟨λk Q=>(y.rows k Q).mono λb x=>D,λi l e=>(y.aG i l e).mono λb x=>D,S.mono λb x=>D⟩⟩,C,f,λb P=>?_⟩
 ·rw[fJ (λz=>by cases z)]
  exact m
 ·obtain⟨r,B,t⟩:=(R b).mpr P
  by_cases z:r=.fj
  ·rw[z,fW] at t
   exact .inr t.symm
  ·rw[fJ z] at t
   rw[cO z] at B;refine .inl ((j b).mpr ⟨r,?_,t⟩);by_cases w:r=.b5
   ·rw[w];exact u
   ·rw[cO w] at B;exact B
end
end TW
namespace TW
open PySem L2 PyProof.Rows
open Classical in
noncomputable def Off(H:Hp)(F:Addr->Prop):Hp:=λb=>if F b then none else H b
section
variable{K:af}{c:NC}{CT:Addr}{H H':Hp}{F F' F1 F2 G:Addr->Prop}{p tp ln lr:Addr}{n:Nat}{s:NS}{ns:List Int}{rs:List R5}
theorem cY{b:Addr}{o:HO}(h:Off H F b=some o):¬F b/\H b=some o:=by
 unfold Off at h;by_cases z:F b
 ·rw[b3 z] at h;cases h
 ·rw[eH z] at h;exact⟨z,h⟩
theorem iS{b:Addr}{o:HO}(z:¬F b)(h:H b=some o):Off H F b=some o:=by
 unfold Off;rw[eH z];exact h
theorem cE:aC (Off H F) H:=λb o e=>(cY e).2
theorem lO(st:Step H F H' F'):aC (Off H F) (Off H' F'):=λb o e=>by
 obtain⟨a,c⟩:=cY e;refine iS (λz=>?_) (st.kp b o c a);rcases st.fr b z with w|w
 ·exact a w
 ·rw[c] at w;cases w
theorem iI(e:aC H H'):aC (Off H F) (Off H' F):=lO (Step.refl' e)
theorem So{z:Addr}{o:HO}(a:¬F z):Off (upd H z o) F=upd (Off H F) z o:=by
 funext b;by_cases e:b=z
 ·subst e
  rw[aq];exact iS a aq
 ·rw[aK e]
  unfold Off;rw[aK e]
theorem cj.anr(h:cj K c H F p tp n s){b:Addr}{x:List V}(e:cR K H b x):cR K (Off H F) b x:=by
 rcases e with (e|⟨o,e⟩)|e
 ·exact .inl (.inl (iS (λz=>(h.UZ z e x).1 rfl) e))
 ·exact .inl (.inr ⟨o,iS (λz=>(h.UZ z e x).2 o rfl) e⟩)
 ·exact .inr e
theorem cy.nw(a:cy K CT (Off H G) tp ln lr ns rs)(N:cj K c H F p tp ns.length s)(sub:∀b,F b->G b):NW K c CT H F p tp ln lr ns rs s:=by
 obtain⟨⟨i,d⟩,f,g,e,h⟩:=id a;exact⟨N,a.mono cE,λz=>(cY d).1 (sub _ z),λz=>(cY f).1 (sub _ z),λz=>(cY e).1 (sub _ z)⟩
end
noncomputable abbrev EB(H:Hp)(F1 F2:Addr->Prop):Hp:=Off H λb=>F1 b∨F2 b
inductive acu(K:af)(H:Hp)(l:Addr)(rs:List R5):Prop
 |mk (qs:List Addr):H l=some (.lst (qs.map V.ref))->dU K H qs (rs.map R5.vs)->acu K H l rs
theorem acu.acv{K:af}{H:Hp}{l:Addr}:∀{rs:List R5} {qs:List Addr},dU K H qs (rs.map R5.vs)->cW K H (rs.map R5.D) (qs.map V.ref)
 |[],[],_=>rfl
 |[],_::_,h=>by cases h.len
 |_::_,[],h=>by cases h.len
 |r::rs,q::qs,h=>⟨.ref q,qs.map V.ref,rfl,Rep.QJ (ns:=r.ns) (h.at' 0 q _ rfl rfl),acu.acv (l:=l) ⟨Nat.succ.inj h.len,λi p x a b=>h.at' (i+1) p x a b⟩⟩
theorem LF{F G:Addr->Prop}{H:Hp}(h:∀b,F b->G b):aC (Off H G) (Off H F):=λb o e=>iS (λz=>(cY e).1 (h b z)) (cY e).2
theorem U1{H a d:Hp}{F:Addr->Prop}{p:Addr}(t:aC H a)(c:H p=none)(f:∀b o,a b=some o->b≠p->d b=some o)(g:∀b,F b->b=p∨a b=none):aC H (Off d F):=λb o e=>iS (λz=>by
 rcases g b z with rfl|w
 ·rw[e] at c;cases c
 ·rw[t _ _ e] at w;cases w) (f b o (t b o e) (aJ e c))
end TW
namespace L2
open PySem PySem.Spec PyProof.Rows
structure Sq(K:af)(x qual:Str)(st:Stmt)(f:Addr)(fd:FuncData)(dv:Value):Prop where
 ex:∃(oc:Value) (od:Option Addr) (T:Addr) (o:Obj) (n:Nat) (kV doc pm:Value) (an:Option Addr) (cdv ct:Value) (osl:Array (Option Value)),
  fd=fm x qual (j5 st) (gu st) (av st) (.ref T) kV doc pm an cdv ct/\K.lookup f=some ⟨oc,od,.func fd,osl⟩/\jY K cdv qual=true/\K.lookup T=some o/\o.data=.seq #[dv] n
 kp:dJ K (.ref f)=true
section
variable{P:Program}{w:World}{K:af}{mg:Str->Option Value}{base:Heap}
theorem Sq.ok{x b:Str}{st:Stmt}{f:Addr}{j:FuncData}{l:Value}{N ps:List Str}{k:Nat}{sp:Sp}(F:Sq K x b st f j l)(S:aE N ps (av st))(g:∀vs H Q E,sp vs H Q E->vs.length=ps.length)
 (d:∀(c:Value) (A:Around) (a:List Env) (s:Shared) (H:Hp) (vs:List V) (Q:VK) (E:XK),kh k (A.deeper (envOfC b (av st) s.heap.objs.size f c))->sp vs H Q E ->
  ∃t,iQ (pT fP P w K mg base N b (av st) f c A a s H E).wj (gu st) t/\t {nx:=λ_ r=>Q .dH r,rt:=Q} (start N vs) H):bL P w K mg base fP (k+1) f j ps sp:=by
 obtain⟨v,y,T,o,n,kV,p,z,C,c,B,m,rfl,lk,e,_⟩:=F.ex;refine abF lk e S g λA a s H vs Q E u i=>?_;obtain⟨t,h,q⟩:=d c A a s H vs Q E u i;exact⟨t,h.wj,q⟩
theorem Sq.binds{x a:Str}{st:Stmt}{f:Addr}{i:FuncData}{g:Value}{ps:List Str}{ds:List Value}{m:Nat}(F:Sq K x a st f i g)(y:m+ds.length=ps.length)
 (h:∀(T:Addr) (kV b d:Value) (e:Option Addr) (c ct:Value) (us:List Value),us.length=m ->
  ∃k,bindArgs (fm x a (j5 st) (gu st) (av st) (.ref T) kV b d e c ct) ⟨us,[]⟩=seqItems? (.ref T) >>= k/\k (some #[g])=pure (ps.zip (us++ds))):Binds K i ps ds:=by
 obtain⟨v,w,T,o,n,kV,b,d,e,c,ct,q,rfl,lk,j,lt,r⟩:=F.ex;intro s us p u;obtain⟨k,l,t⟩:=h T kV b d e c ct us (by rw[aA] at u;lia);exact PySem.W.binds_K p rfl lt r l t
theorem YJ{x a:Str}{st:Stmt}{f T:Addr}{o:Obj}{n:Nat}{m:Value}{i:Value}{j h:Option Addr}{e:Array (Option Value)}{kV d g b ct:Value}(l:K.lookup f=some ⟨i,j,.func (fm x a (j5 st) (gu st) (av st) (.ref T) kV d g h b ct),e⟩)
 (c:jY K b a=true) (k:dJ K (.ref f)=true) (lt:K.lookup T=some o) (p:o.data=.seq #[m] n):Sq K x a st f (fm x a (j5 st) (gu st) (av st) (.ref T) kV d g h b ct) m:=⟨⟨i,j,T,o,n,kV,d,g,h,b,ct,e,rfl,l,c,lt,p⟩,k⟩
end
end L2
namespace TW
open PySem L2 PyProof.Rows
structure j0(K:af)(c:NC)(H:Hp)(F:Addr->Prop)(loc dx:Role->Addr)(q:TQ)(p tp:Addr)(n:Nat)(s:NS):Prop where
 hp:loc .b5=p
 own:xF H loc (desc c dx tp loc q s)
 fp:∀b,F b↔Fp loc (desc c dx tp loc q s) b
 tup:nX K H n q s
section
variable{K:af}{c:NC}{H H':Hp}{F:Addr->Prop}{loc dx:Role->Addr}{q:TQ}{p tp:Addr}{n:Nat}{s:NS}
theorem j0.b5(h:j0 K c H F loc dx q p tp n s):cj K c H F p tp n s:=⟨loc,dx,q,h.hp,h.own,h.fp,h.tup⟩
theorem j0.mono(h:j0 K c H F loc dx q p tp n s)(e:aC H H'):j0 K c H' F loc dx q p tp n s:=⟨h.hp,h.own.mono e,h.fp,h.tup.mono λb x=>e.cV⟩
theorem Ab(X:j0 K c H F loc dx q p tp n s){r:Role}(f:desc c dx tp loc q s r≠none){o:HO}{q':TQ}{s':NS}
 (t:∀x,iH (desc c dx tp loc q s) r o x=desc c dx tp loc q' s' x) (d:(∀b x,cR K H b x->cR K (upd H (loc r) o) b x)->nX K (upd H (loc r) o) n q' s') :
 j0 K c (upd H (loc r) o) F loc dx q' p tp n s'/\Step H F (upd H (loc r) o) F:=by
 obtain⟨h,O,a,j⟩:=X;have g:F (loc r):=(a _).mpr ⟨r,f,rfl⟩;have l:cj K c H F p tp n s:=⟨loc,dx,q,h,O,a,j⟩;have i:∀b u,H b=some u->¬F b->(upd H (loc r) o) b=some u:=λb u e z=>cK b u e λw=>z (w▸g);obtain⟨k,m⟩:=(O.set f o).ext (YH:=desc c dx tp loc q' s') (loc':=loc) t (λx _=>rfl);exact⟨⟨h,k,λb=>(a b).trans ((Mw f).symm.trans (m b)),d λb x=>l.tup i⟩,i,λb z=>.inl z⟩
theorem iB{ls:List LS}{i k:Nat}{a:LS}(b:i<ls.length):(ls.set i a)[k]?=if k=i then some a else ls[k]?:=by
 rw[eV];by_cases z:i=k
 ·subst z
  rw[b3 rfl,b3 b,b3 rfl]
 ·rw[eH z,eH (cu z)]
noncomputable def nG(c:NC)(dx:Role->Addr)(loc:Role->Addr)(i:Nat)(l:LS):HO:=.ins c.post (dx (.bV i)) [("letter",.ref (loc (.letter i))),("group",.int l.grp),("old",.bl l.old),("done_at",.ref (loc (.done i))),("deeds",.ref (loc (.aG i)))]
theorem aeK(X:j0 K c H F loc dx q p tp n s){i:Nat}{l:LS}(hl:s.ls[i]?=some l) :
 j0 K c (upd H (loc (.bV i)) (nG c dx loc i {l with old:=true})) F loc dx q p tp n {s with ls:=s.ls.set i {l with old:=true}}/\Step H F (upd H (loc (.bV i)) (nG c dx loc i {l with old:=true})) F:=by
 have a:=(ai.mp hl).1;refine Ab X (r:=.bV i) (q':=q) (by show (s.ls[i]?.map _)≠none;rw[hl];exact aS _) (λx=>?_) (λb=>⟨λg f=>(X.tup.rows g f).mono b,λk d e=>?_,X.tup.cps.mono b⟩)
 ·cases x <;> first|rfl|skip
  ·show some _=some (HO.lst ((au (s.ls.set i _).length).map _))
   rw[bg]
  all_goals rename_i k
  ·show iH (desc c dx tp loc q s) (.bV i) _ (.bV k)=((s.ls.set i _)[k]?.map λl=>nG c dx loc k l)
   rw[iB a];by_cases z:k=i
   ·subst z
    rw[dQ,b3 rfl];rfl
   ·rw[cO (λe=>z (by cases e;rfl)),eH z]
    rfl
  ·show (s.ls[k]?.map λl=>rX c (dx (.letter k)) l)=((s.ls.set i _)[k]?.map λl=>rX c (dx (.letter k)) l)
   rw[iB a];by_cases z:k=i
   ·subst z
    rw[b3 rfl,hl];rfl
   ·rw[eH z]
  ·show (s.ls[k]?.map λl=>HO.dK (l.done.map λh:Nat=>(gZ (h:Int),.bl true)))=((s.ls.set i _)[k]?.map λl=>HO.dK (l.done.map λh:Nat=>(gZ (h:Int),.bl true)))
   rw[iB a];by_cases z:k=i
   ·subst z
    rw[b3 rfl,hl];rfl
   ·rw[eH z]
  ·show (s.ls[k]?.map λ_=>HO.lst ((q.dq k).map V.ref))=((s.ls.set i _)[k]?.map λ_=>HO.lst ((q.dq k).map V.ref))
   rw[iB a];by_cases z:k=i
   ·subst z
    rw[b3 rfl,hl];rfl
   ·rw[eH z]
 ·have e:(s.ls.set i _)[k]?=some d:=e
  rw[iB a] at e;by_cases z:k=i
  ·subst z
   rw[b3 rfl] at e;cases e;exact (X.tup.aG k l hl).mono b
  ·rw[eH z] at e
   exact (X.tup.aG k d e).mono b
theorem acw(X:j0 K c H F loc dx q p tp n s){i:Nat}{l:LS}(hl:s.ls[i]?=some l)(ds:List Nat) :
 j0 K c (upd H (loc (.done i)) (.dK (ds.map λh:Nat=>(gZ (h:Int),.bl true)))) F loc dx q p tp n {s with ls:=s.ls.set i {l with done:=ds}}/\Step H F (upd H (loc (.done i)) (.dK (ds.map λh:Nat=>(gZ (h:Int),.bl true)))) F:=by
 have a:=(ai.mp hl).1;refine Ab X (r:=.done i) (q':=q) (by show (s.ls[i]?.map _)≠none;rw[hl];exact aS _) (λx=>?_) (λb=>⟨λg f=>(X.tup.rows g f).mono b,λk d e=>?_,X.tup.cps.mono b⟩)
 ·cases x <;> first|rfl|skip
  ·show some _=some (HO.lst ((au (s.ls.set i _).length).map _))
   rw[bg]
  all_goals rename_i k
  ·show (s.ls[k]?.map λl=>nG c dx loc k l)=((s.ls.set i _)[k]?.map λl=>nG c dx loc k l)
   rw[iB a];by_cases z:k=i
   ·subst z
    rw[b3 rfl,hl];rfl
   ·rw[eH z]
  ·show (s.ls[k]?.map λl=>rX c (dx (.letter k)) l)=((s.ls.set i _)[k]?.map λl=>rX c (dx (.letter k)) l)
   rw[iB a];by_cases z:k=i
   ·subst z
    rw[b3 rfl,hl];rfl
   ·rw[eH z]
  ·show iH (desc c dx tp loc q s) (.done i) _ (.done k)=((s.ls.set i _)[k]?.map λl=>HO.dK (l.done.map λh:Nat=>(gZ (h:Int),.bl true)))
   rw[iB a];by_cases z:k=i
   ·subst z
    rw[dQ,b3 rfl];rfl
   ·rw[cO (λe=>z (by cases e;rfl)),eH z]
    rfl
  ·show (s.ls[k]?.map λ_=>HO.lst ((q.dq k).map V.ref))=((s.ls.set i _)[k]?.map λ_=>HO.lst ((q.dq k).map V.ref))
   rw[iB a];by_cases z:k=i
   ·subst z
    rw[b3 rfl,hl];rfl
   ·rw[eH z]
 ·have e:(s.ls.set i _)[k]?=some d:=e
  rw[iB a] at e;by_cases z:k=i
  ·subst z
   rw[b3 rfl] at e;cases e;exact (X.tup.aG k l hl).mono b
  ·rw[eH z] at e
   exact (X.tup.aG k d e).mono b
theorem Ce(X:j0 K c H F loc dx q p tp n s){i:Nat}{l:LS}(hl:s.ls[i]?=some l){a:Addr}{d:i7}(A:cR K H a d.vs) :
 j0 K c (upd H (loc (.aG i)) (.lst ((q.dq i).map V.ref++[.ref a]))) F loc dx {q with dq:=eN q.dq i (q.dq i++[a])} p tp n {s with ls:=s.ls.set i {l with aG:=l.aG++[d]}}/\Step H F (upd H (loc (.aG i)) (.lst ((q.dq i).map V.ref++[.ref a]))) F:=by
 have m:=(ai.mp hl).1;refine Ab X (r:=.aG i) (q':={q with dq:=eN q.dq i (q.dq i++[a])}) (by show (s.ls[i]?.map _)≠none;rw[hl];exact aS _) (λx=>?_) (λo=>⟨λg w=>(X.tup.rows g w).mono o,λk v e=>?_,X.tup.cps.mono o⟩)
 ·cases x <;> first|rfl|skip
  ·show some _=some (HO.lst ((au (s.ls.set i _).length).map _))
   rw[bg]
  all_goals rename_i k
  ·show (s.ls[k]?.map λl=>nG c dx loc k l)=((s.ls.set i _)[k]?.map λl=>nG c dx loc k l)
   rw[iB m];by_cases z:k=i
   ·subst z
    rw[b3 rfl,hl];rfl
   ·rw[eH z]
  ·show (s.ls[k]?.map λl=>rX c (dx (.letter k)) l)=((s.ls.set i _)[k]?.map λl=>rX c (dx (.letter k)) l)
   rw[iB m];by_cases z:k=i
   ·subst z
    rw[b3 rfl,hl];rfl
   ·rw[eH z]
  ·show (s.ls[k]?.map λl=>HO.dK (l.done.map λh:Nat=>(gZ (h:Int),.bl true)))=((s.ls.set i _)[k]?.map λl=>HO.dK (l.done.map λh:Nat=>(gZ (h:Int),.bl true)))
   rw[iB m];by_cases z:k=i
   ·subst z
    rw[b3 rfl,hl];rfl
   ·rw[eH z]
  ·show iH (desc c dx tp loc q s) (.aG i) _ (.aG k)=((s.ls.set i _)[k]?.map λ_=>HO.lst ((eN q.dq i (q.dq i++[a]) k).map V.ref))
   rw[iB m];by_cases z:k=i
   ·subst z
    rw[dQ,b3 rfl,c6,aU];rfl
   ·rw[cO (λe=>z (by cases e;rfl)),eH z,f6 z]
    rfl
 ·show dU K _ (eN q.dq i (q.dq i++[a]) k) _
  have e:(s.ls.set i _)[k]?=some v:=e;rw[iB m] at e;by_cases z:k=i
  ·subst z
   rw[b3 rfl] at e;cases e;rw[c6];show dU K _ _ ((l.aG++[d]).map i7.vs);rw[aU];have t:=(X.tup.aG k l hl).mono o;refine⟨by rw[aA,aA,t.len];rfl,λj b x u f=>?_⟩;rcases Hj u with u|⟨rfl,rfl⟩
   ·have y:=(ai.mp u).1
    rw[bM (by rw[<- t.len];exact y)] at f;exact t.at' j b x u f
   ·rw[t.len,bW (aB _)] at f
    rw[lA] at f;cases f;exact o _ _ A
  ·rw[eH z] at e
   rw[f6 z];exact (X.tup.aG k v e).mono o
theorem YK(X:j0 K c H F loc dx q p tp n s){qs:List Addr}{cps:List Cp}(b:dU K H qs (cps.map Cp.vs)) :
 j0 K c (upd H (loc .fj) (.lst (qs.map V.ref))) F loc dx {q with cq:=qs} p tp n {s with cps:=cps}/\Step H F (upd H (loc .fj) (.lst (qs.map V.ref))) F :=
 Ab X (r:=.fj) (q':={q with cq:=qs}) (aS _) (λx=>by cases x <;> rfl) (λa=>⟨λg d=>(X.tup.rows g d).mono a,λk l e=>(X.tup.aG k l e).mono a,b.mono a⟩)
theorem acy(X:j0 K c H F loc dx q p tp n s)(b:List Nat) :
 j0 K c (upd H (loc .aN) (.lst (bE b))) F loc dx q p tp n {s with aN:=b}/\Step H F (upd H (loc .aN) (.lst (bE b))) F :=
 Ab X (r:=.aN) (q':=q) (aS _) (λx=>by cases x <;> rfl) (λa=>⟨λg d=>(X.tup.rows g d).mono a,λk l e=>(X.tup.aG k l e).mono a,X.tup.cps.mono a⟩)
theorem acz(X:j0 K c H F loc dx q p tp n s){i:Nat}(d:i<s.had.length)(a:List Nat) :
 j0 K c (upd H (loc (.handed i)) (.lst (bE a))) F loc dx q p tp n {s with had:=s.had.set i a}/\Step H F (upd H (loc (.handed i)) (.lst (bE a))) F:=by
 refine Ab X (r:=.handed i) (q':=q) (by show (s.had[i]?.map _)≠none;rw[aa d];exact aS _) (λx=>?_) (λb=>⟨λg f=>(X.tup.rows g f).mono b,λk l e=>(X.tup.aG k l e).mono b,X.tup.cps.mono b⟩);cases x <;> first|rfl|skip
 ·show some _=some (HO.lst ((au (s.had.set i _).length).map _))
  rw[bg]
 ·rename_i k
  show iH (desc c dx tp loc q s) (.handed i) _ (.handed k)=((s.had.set i a)[k]?.map λw=>HO.lst (bE w));rw[eV];by_cases z:k=i
  ·subst z
   rw[dQ,b3 rfl,b3 d];rfl
  ·rw[cO (λe=>z (by cases e;rfl)),eH (cu z)]
   rfl
end
theorem uP{a:Type}{xs:List a}{i:Nat}{x:a}(h:xs[i]?=some x):xs.set i x=xs:=by
 obtain⟨b,rfl⟩:=ai.mp h;exact List.set_getElem_self b
noncomputable def BJ(c:NC)(EL Ss la da ea:Addr)(n:Nat)(l:LS):Role->Option HO
 |.bV i=>if i=n then some (.ins c.post EL [("letter",.ref la),("group",.int l.grp),("old",.bl l.old),("done_at",.ref da),("deeds",.ref ea)]) else none
 |.letter i=>if i=n then some (rX c Ss l) else none
 |.done i=>if i=n then some (.dK (l.done.map λh:Nat=>(gZ (h:Int),.bl true))) else none
 |.aG i=>if i=n then some (.lst []) else none
 |_=>none
noncomputable def newL(pa la da ea:Addr):Role->Addr
 |.bV _=>pa
 |.letter _=>la
 |.done _=>da
 |.aG _=>ea
 |_=>0
section
variable{K:af}{c:NC}{H H':Hp}{F:Addr->Prop}{loc dx:Role->Addr}{q:TQ}{p tp:Addr}{n:Nat}{s:NS}
theorem ahT{EL Ss pa la da ea:Addr}{l:LS}(t:H pa=some (.ins c.post EL [("letter",.ref la),("group",.int l.grp),("old",.bl l.old),("done_at",.ref da),("deeds",.ref ea)]))(v:H la=some (rX c Ss l))(x:H da=some (.dK (l.done.map λh:Nat=>(gZ (h:Int),.bl true))))(w:H ea=some (.lst []))
 (k:pa≠la) (j:pa≠da) (p:pa≠ea) (s:la≠da) (q:la≠ea) (m:da≠ea):xF H (newL pa la da ea) (BJ c EL Ss la da ea n l):=by
 have d:∀{i:Nat} {o:HO} {g:HO},(if i=n then some o else none)=some g->o=g/\i=n:=λ{i o g} e=>by
  by_cases z:i=n
  ·rw[b3 z] at e;cases e;exact⟨rfl,z⟩
  ·rw[eH z] at e;cases e
 have f:∀{i:Nat} {o:HO},(if i=n then some o else none)≠none->i=n:=λ{i o} e=>by
  by_cases z:i=n
  ·exact z
  ·rw[eH z] at e;exact eL rfl e
 refine⟨λr o e=>?_,λr u a b e=>?_⟩
 ·cases r <;> first|(cases e;done)|skip
  ·rw[<- (d e).1];exact t
  ·rw[<- (d e).1];exact v
  ·rw[<- (d e).1];exact x
  ·rw[<- (d e).1];exact w
 ·cases r <;> first|exact eL rfl a|skip
  all_goals cases u <;> first|exact eL rfl b|skip
  all_goals first
   | (rw[f a,f b];done)
   |exact eL e k
   |exact eL e.symm k
   |exact eL e j
   |exact eL e.symm j
   |exact eL e p
   |exact eL e.symm p
   |exact eL e s
   |exact eL e.symm s
   |exact eL e q
   |exact eL e.symm q
   |exact eL e m
   |exact eL e.symm m
theorem acA(D:loc .b5=p)(O:xF H loc (desc c dx tp loc q s))(m:∀b,F b↔Fp loc (desc c dx tp loc q s) b)(j:nX K H n q s){EL Ss pa la da ea:Addr}{l:LS}(M:l.aG=[])
 (P:H pa=some (.ins c.post EL [("letter",.ref la),("group",.int l.grp),("old",.bl l.old),("done_at",.ref da),("deeds",.ref ea)])) (X:H la=some (rX c Ss l)) (h3:H da=some (.dK (l.done.map λh:Nat=>(gZ (h:Int),.bl true)))) (h4:H ea=some (.lst []))
 (U:pa≠la) (L:pa≠da) (d3:pa≠ea) (d4:la≠da) (d5:la≠ea) (Y:da≠ea) (n1:¬F pa) (n2:¬F la) (n3:¬F da) (n4:¬F ea) :
 ∃E,cj K c (upd H (loc .cz) (.lst (((au s.ls.length).map λi=>.ref (loc (.bV i)))++[.ref pa]))) E p tp n {s with ls:=s.ls++[l]} /\
  (∀b o,H b=some o->¬F b->(upd H (loc .cz) (.lst (((au s.ls.length).map λi=>.ref (loc (.bV i)))++[.ref pa]))) b=some o)/\∀b,E b->F b∨b=pa∨b=la∨b=da∨b=ea:=by
 have t:=ahT (n:=s.ls.length) (c:=c) P X h3 h4 U L d3 d4 d5 Y;have R:cj K c H F p tp n s:=⟨loc,dx,q,D,O,m,j⟩;have y:desc c dx tp loc q s .cz≠none:=aS _;have A:F (loc .cz):=(m _).mpr ⟨.cz,y,rfl⟩;have B:∀r,BJ c EL Ss la da ea s.ls.length l r≠none->¬F (newL pa la da ea r):=λr h=>by
  cases r <;> first|exact eL rfl h|assumption
 have G:∀b o,H b=some o->¬F b->(upd H (loc .cz) (.lst (((au s.ls.length).map λi=>.ref (loc (.bV i)))++[.ref pa]))) b=some o:=λb u e z=>cK b u e λw=>z (w▸A);have v:∀b x,cR K H b x->cR K _ b x:=λb x=>R.tup G;have J:=O.join t λr N a b e=>B N b (e▸(m _).mpr ⟨r,a,rfl⟩);have S:=J.set (r:=.cz) y (.lst (((au s.ls.length).map λi=>V.ref (loc (.bV i)))++[.ref pa]));have d:∀{k:Nat},k≠s.ls.length->(s.ls++[l])[k]?=s.ls[k]?:=λ{k} z=>by
  by_cases w:k<s.ls.length
  ·exact bM w
  ·rw[jG (by rw[aA];show s.ls.length+1<=k;lia),jG ∅]
 have f:(s.ls++[l])[s.ls.length]?=some l:=by rw[bW (aB _),lA];rfl
 obtain⟨Q,Z⟩:=S.ext (YH:=desc c (λr=>if r=.bV s.ls.length then EL else if r=.letter s.ls.length then Ss else dx r) tp (λr=>if (BJ c EL Ss la da ea s.ls.length l r).isSome=true then newL pa la da ea r else loc r) {q with dq:=eN q.dq s.ls.length []} {s with ls:=s.ls++[l]})
  (loc':=λr=>if (BJ c EL Ss la da ea s.ls.length l r).isSome=true then newL pa la da ea r else loc r) (λr=>by
   cases r <;> first|rfl|skip
   ·
    show some _=some (HO.lst ((au (s.ls++[l]).length).map _));rw[aA];show _=some (HO.lst ((au (s.ls.length+1)).map _));rw[fB,aU];congr 2;congr 1
    ·refine cU λi W=>?_
     have z:i≠s.ls.length:=by have:=cT.mp W;lia
     simp[BJ,z]
    ·simp[BJ,newL]
   all_goals rename_i k
   all_goals by_cases z:k=s.ls.length
   all_goals first|subst z|skip
   all_goals rw[cO (λe=>by cases e)]
   ·simp[BJ,newL,desc,f]
   ·have:=d z
    simp[BJ,newL,desc,z,this]
   ·simp[BJ,newL,desc,f]
   ·have:=d z
    simp[BJ,newL,desc,z,this]
   ·simp[BJ,newL,desc,f]
   ·have:=d z
    simp[BJ,newL,desc,z,this]
   ·simp[BJ,newL,desc,f,c6]
   ·have:=d z
    simp[BJ,newL,desc,z,this,f6 z]) (λr _=>rfl)
 refine⟨Fp _ _,⟨λr=>if (BJ c EL Ss la da ea s.ls.length l r).isSome=true then newL pa la da ea r else loc r,_,_,D,Q,λb=>Iff.rfl,⟨λg I=>(j.rows g I).mono v,λk C e=>?_,j.cps.mono v⟩⟩,G,λb T=>?_⟩
 ·have e:(s.ls++[l])[k]?=some C:=e
  show dU K _ (eN q.dq s.ls.length [] k) _;by_cases z:k=s.ls.length
  ·subst z
   rw[f] at e;cases e;rw[c6,M];exact⟨rfl,λi b x e=>by cases e⟩
  ·rw[d z] at e
   rw[f6 z];exact (j.aG k C e).mono v
 ·obtain⟨r,a,e⟩:=(Mw (ob:=λr=>if (BJ c EL Ss la da ea s.ls.length l r).isSome=true then BJ c EL Ss la da ea s.ls.length l r else desc c dx tp loc q s r) (r:=.cz) y).mp ((Z b).mpr T)
  by_cases z:(BJ c EL Ss la da ea s.ls.length l r).isSome=true
  ·simp only[z,if_true] at e
   subst e;right;cases r <;> first|(cases z;done)|skip
   ·exact .inl rfl
   ·exact .inr (.inl rfl)
   ·exact .inr (.inr (.inl rfl))
   ·exact .inr (.inr (.inr rfl))
  ·simp only[z,if_false] at a e
   exact .inl ((m b).mpr ⟨r,by simpa using a,by simpa using e⟩)
end
theorem YL(a b x y:Int):PyData.eqv (.tuple (([a,b]:List Int).map .int)) (.tuple (([x,y]:List Int).map .int))=decide (a=x/\b=y):=by
 show (PyData.eqv (.int a) (.int x)&&(PyData.eqv (.int b) (.int y)&&true))=_;show ((a==x)&&((b==y)&&true))=_;rw[Bool.and_true,ku];simp
section
variable{K:af}{c:NC}{H H':Hp}{F:Addr->Prop}{loc dx:Role->Addr}{q:TQ}{p tp:Addr}{n:Nat}{s:NS}
theorem j0.past(X:j0 K c H F loc dx q p tp n s){z:Addr}{u:HO}(f:H z=some u)(d:wI u)(g:¬F z)(a:∀b v,H b=some v->b≠z->H' b=some v):j0 K c H' F loc dx q p tp n s :=
 ⟨X.hp,X.own.keep λb o e y=>a b o e λw=>g (w▸(X.fp b).mpr y),X.fp,X.tup.mono λb x=>cR.past f d a⟩
end
noncomputable def nu(i x:Nat)(c:Cp):Bool:=decide (c.r=i/\c.w=x)
noncomputable def cS(s:NS)(i:Nat)(d:i7):NS:=match s.ls[i]? with|some l=>{s with ls:=s.ls.set i {l with aG:=l.aG++[d]}}|none=>s
theorem fK{s:NS}{i:Nat}{d:i7}{l:LS}(h:s.ls[i]?=some l):cS s i d={s with ls:=s.ls.set i {l with aG:=l.aG++[d]}}:=by
 unfold cS;rw[h]
noncomputable def pL(i x:Nat)(s:NS)(c:Cp):NS:=if nu i x c=true then cS s c.l (.Xi c.h i) else s
noncomputable def jj(s:NS)(i x:Nat)(m:Nat):NS:=(s.cps.take m).foldl (pL i x) s
noncomputable def pM(s:NS)(i x:Nat):NS:={jj s i x s.cps.length with cps:=s.cps.filter λc=>!nu i x c}
theorem U3{s:NS}{i:Nat}{d:i7}:(cS s i d).ls.length=s.ls.length:=by
 unfold cS;cases s.ls[i]? with
 |none=>rfl
 |some l=>exact bg
theorem aao{i x:Nat}{s:NS}{c:Cp}:(pL i x s c).ls.length=s.ls.length:=by
 unfold pL;split
 ·exact U3
 ·rfl
theorem U4{s:NS}{i:Nat}{d:i7}:(cS s i d).cps=s.cps:=by
 unfold cS;cases s.ls[i]? <;> rfl
theorem aap{i x:Nat}{s:NS}{c:Cp}:(pL i x s c).cps=s.cps:=by
 unfold pL;split
 ·exact U4
 ·rfl
theorem Q3{i x:Nat}:∀{cs:List Cp} {s:NS},(cs.foldl (pL i x) s).ls.length=s.ls.length
 |[],_=>rfl
 |c::cs,s=>by rw[fC,Q3,aao]
theorem Q4{i x:Nat}:∀{cs:List Cp} {s:NS},(cs.foldl (pL i x) s).cps=s.cps
 |[],_=>rfl
 |c::cs,s=>by rw[fC,Q4,aap]
theorem Ac{s:NS}{i x:Nat}:jj s i x 0=s:=by unfold jj;rw[List.take_zero];rfl
theorem Ae{s:NS}{i x m:Nat}(h:m<s.cps.length):jj s i x (m+1)=pL i x (jj s i x m) s.cps[m]:=by
 unfold jj;rw[j3 h,List.foldl_append];rfl
theorem Q5{s:NS}{i x m:Nat}:(jj s i x m).ls.length=s.ls.length:=Q3
theorem aaq{s:NS}{i x m:Nat}:(jj s i x m).cps=s.cps:=Q4
theorem Q6{a:Type}{f:a->Bool}{xs:List a}{i:Nat}(b:i<xs.length):(xs.take (i+1)).filter f=(xs.take i).filter f++if f xs[i]=true then [xs[i]] else []:=by
 rw[j3 b,iy];congr 1;cases e:f xs[i]
 ·rw[eH (!_),dg (by rw[e];decide)];rfl
 ·rw[b3 rfl,dc e];rfl
theorem dU.snoc{K:af}{H:Hp}{qs:List Addr}{xs:List (List V)}{a:Addr}{x:List V}(h:dU K H qs xs)(e:cR K H a x):dU K H (qs++[a]) (xs++[x]):=by
 refine⟨by rw[aA,aA,h.len];rfl,λj b y d c=>?_⟩;rcases Hj d with d|⟨rfl,rfl⟩
 ·have f:=(ai.mp d).1
  rw[bM (by rw[<- h.len];exact f)] at c;exact h.at' j b y d c
 ·rw[h.len,bW (aB _),lA] at c
  cases c;exact e
end TW
namespace RM
variable{N:Net}{S:Nat->Row}
end RM
namespace Gr
end Gr
namespace L2
open PySem PySem.Spec PyProof.Rows
section
variable{X:Cx}{pos:Pos}
theorem sS(i:Nat){x:Str}{e:Expr}{b:TE}{a:Pos}{ps:List Str}{g:Scope}(S:aE X.N ps g)(h:PE X e b)(c:X.N[i]?=some x:=by rfl)(j:Loc X.env.scope x:=by first|exact Or.inl rfl|exact Or.inr rfl)(f:swapsWith e (some (.Name x a)) pos.line X.env=pure false:=by rfl)(d:X.fn x=true∨X.env.scope.names.lookup x=some .local:=by first|exact .inl rfl|exact .inr rfl|assumption) :
 PS X (.Assign [.Name x a] e pos) (aed b (gp i)):=ahb S.nd c j h f d
theorem gS(i:Nat){x:Str}(c:X.N.Nodup)(a:X.N[i]?=some x:=by rfl)(d:Loc X.env.scope x:=by first|exact Or.inl rfl|exact Or.inr rfl)(b:X.fn x=true∨X.env.scope.names.lookup x=some .local:=by first|exact .inl rfl|exact .inr rfl|assumption):PG X (.Name x pos) (gp i):=Yh c a d b
theorem gT(i:Nat){x:Str}{ps:List Str}{c:Scope}(S:aE X.N ps c)(a:X.N[i]?=some x:=by rfl)(d:Loc X.env.scope x:=by first|exact Or.inl rfl|exact Or.inr rfl)(b:X.fn x=true∨X.env.scope.names.lookup x=some .local:=by first|exact .inl rfl|exact .inr rfl|assumption):PG X (.Name x pos) (gp i):=Yh S.nd a d b
theorem oR{e:Expr}{a:TE}(b:PE X e a):iQ X [.Return (some e) pos] (aec a):=bQ (abn b)
theorem oB{b j pos'}:iQ X [.Return (some (.Constant (.bool b) j pos')) pos] (aec (tC (.bl b))):=bQ (abn Qw)
theorem oE{e:Expr}{a:TE}(b:PE X e a)(c:swapsWith e none pos.line X.env=pure false:=by rfl):iQ X [.Expr e pos] (afY a):=bQ (dN b c)
theorem cX{a:Expr}{b:TE}(d:PE X a b)(c:gH a=true:=by rfl):PA X [a] (i0 b FT):=(wB d fF c)
theorem jD{b a:Expr}{c d:TE}(e:PE X b c)(g:PE X a d)(h:gH b=true:=by rfl)(f:gH a=true:=by rfl):PA X [b,a] (i0 c (i0 d FT)):=(wB e (wB g fF f) h)
theorem Jc{b a c:Expr}{e f d:TE}(g:PE X b e)(k:PE X a f)(h:PE X c d)(l:gH b=true:=by rfl)(j:gH a=true:=by rfl)(i:gH c=true:=by rfl):PA X [b,a,c] (i0 e (i0 f (i0 d FT))):=(wB g (wB k (wB h fF i) j) l)
theorem u9{b a d c:Expr}{f g e h:TE}(j:PE X b f)(n:PE X a g)(k:PE X d e)(i:PE X c h)(o:gH b=true:=by rfl)(m:gH a=true:=by rfl)(l:gH d=true:=by rfl)(p:gH c=true:=by rfl):PA X [b,a,d,c] (i0 f (i0 g (i0 e (i0 h FT)))):=(wB j (wB n (wB k (wB i fF p) l) m) o)
theorem aN5{e a d c b:Expr}{g i f j h:TE}(l:PE X e g)(q:PE X a i)(s:PE X d f)(r:PE X c j)(k:PE X b h)(m:gH e=true:=by rfl)(p:gH a=true:=by rfl)(t:gH d=true:=by rfl)(n:gH c=true:=by rfl)(o:gH b=true:=by rfl):PA X [e,a,d,c,b] (i0 g (i0 i (i0 f (i0 j (i0 h FT))))):=(wB l (wB q (wB s (wB r (wB k fF o) n) t) p) m)
theorem aN6{e a d c b f:Expr}{i k h l j g:TE}(o:PE X e i)(u:PE X a k)(w:PE X d h)(v:PE X c l)(n:PE X b j)(s:PE X f g)(p:gH e=true:=by rfl)(t:gH a=true:=by rfl)(x:gH d=true:=by rfl)(q:gH c=true:=by rfl)(r:gH b=true:=by rfl)(m:gH f=true:=by rfl):PA X [e,a,d,c,b,f] (i0 i (i0 k (i0 h (i0 l (i0 j (i0 g FT)))))):=(wB o (wB u (wB w (wB v (wB n (wB s fF m) r) q) x) t) p)
theorem kO{N ps:List Str}{a scope:Scope}(S:aE N ps a)(c:List Str)(b:List (Option Nat))(d:X.env.scope=a:=by rfl)(e:X.N=N:=by rfl)(h:D3 scope a N c b=true:=by decide +kernel):jm X scope c b:=QK d e h
end
section
variable{X:Cx}{a b tg iter:Expr}{ta tb:TE}{pos:Pos}{op:CmpOp}{r:R2}{body:List Stmt}{wi:TI}{g:TG}{ts:TS}
theorem xL(d:PE X a ta)(e:PE X b tb)(c:Hf b:=by exact λ_ _=>rfl):PE X (.Subscript a b pos) (ZR (ZX X.K) ta tb):=UD Yt d e c
theorem xT(d:PE X a ta)(e:PE X b tb)(c:Hf b:=by exact λ_ _=>rfl):PE X (.Subscript a b pos) (ZR (UE X.K) ta tb):=UD abI d e c
theorem yL(K:af)(d:PE X a ta)(e:PE X b tb)(f:X.K=K:=by rfl)(c:Hf b:=by exact λ_ _=>rfl):PE X (.Subscript a b pos) (ZR (ZX K) ta tb):=UD (abX K f) d e c
theorem yT(K:af)(d:PE X a ta)(e:PE X b tb)(f:X.K=K:=by rfl)(c:Hf b:=by exact λ_ _=>rfl):PE X (.Subscript a b pos) (ZR (UE K) ta tb):=UD (aeo K f) d e c
theorem qE(c:BG X (compareOp op) r)(f:PE X a ta)(g:PE X b tb)(d:op≠.In:=by decide)(e:op≠.NotIn:=by decide):PE X (.Compare a [op] [b] pos) (ZR r ta tb):=Yo c f g (abx b d e)
theorem qT(c:BG X (compareOp op) r)(f:PE X a ta)(g:PE X b tb)(d:op≠.In:=by decide)(e:op≠.NotIn:=by decide):PT X (.Compare a [op] [b] pos) (Yp (ZR r ta tb)):=nR c f g (abx b d e)
theorem fS(a:PI X tg iter wi)(d:PG X tg g)(e:iQ X body ts)(b:PassesOwn (model X.prog X.w) X.A X.env X.xe:=by exact PassesOwn.never)(f:X.calm=true:=by rfl)(c:∀x,foldedSetIterable iter X.env x=pure x:=by intro _;rfl):PS X (.For tg iter body [] pos) (ajM wi g ts):=ahc b f a d e c
end
section
variable{X:Cx}{x:Str}{p pos:Pos}{e:Expr}{es:List Expr}{te:TE}{t:TA}{id:String}{r:List V->Hp->VK->Prop}
theorem cB(j:nP X (.builtin id) r)(i:X.mg x=none)(f:bootBuiltins x=some (.builtin id))(g:PA X (e::es) t)(c:Gl X x:=by rfl)(d:x≠"__name__" := by decide)(a:(x==("__debug__" : Str))=false:=by decide)
 (h:starEach (e::es) X.env=(false,eval e X.env)::starEach es X.env:=by rfl) (b:(backTo pos (starEach es X.env)).any (·.1)=false:=by rfl):PE X (.Call (.Name x p) (e::es) [] pos) (tCB r t):=UB j c i f g d a h b
theorem lS(h:X.mg "len" = none)(f:PE X e te)(d:Gl X "len" := by rfl)(a:gH e=true:=by rfl)(g:starEach [e] X.env=(false,eval e X.env)::starEach [] X.env:=by rfl)(c:(backTo pos (starEach [] X.env)).any (·.1)=false:=by rfl) :
 PE X (.Call (.Name "len" p) [e] [] pos) (tCB (λi H Q=>∃p b,i=[.ref p]/\(bC X.K H p b∨cR X.K H p b)/\Q (.int b.length) H) (i0 te FT)):=UB Sa d h PySem.boot_len (wB f fF a) (!_) (!_) g c
end
theorem gm{N P:List Str}{a:Scope}(d:a.kind=.function:=by rfl)(g:a.isCoroutine=false:=by rfl)(f:a.isGenerator=false:=by rfl)(b:N.Nodup:=by decide +kernel)(h:N.take P.length=P:=by rfl)(e:∀x∈P,a.names.lookup x=some .local∨a.names.lookup x=some .cell:=by decide +kernel)(c:∀y∈a.names,y.2≠.free:=by decide +kernel):aE N P a:=⟨d,g,f,b,h,e,c⟩
structure fX(K:af)(mg:Str->Option Value)(x key:Str)(st:Stmt)(f:Addr)(d:FuncData)(ps:List Str):Prop where
 F:WC K x key st f d
 B:Binds K d ps []
 g:mg x=some (.ref f)
structure iJ(K:af)(C:Addr)(x key:Str)(st:Stmt)(f:Addr)(d:FuncData)(ps:List Str):Prop where
 F:WC K x key st f d
 B:Binds K d ps []
 m:R4 K C x f
structure Su(K:af)(C:Addr)(key:Str)(st:Stmt)(f:Addr)(d:FuncData)(ps:List Str):Prop where
 F:WC K "__init__" key st f d
 B:Binds K d ps []
 M:Mk K C f
def EG(K:af)(mg:Str->Option Value)(x key:Str)(st:Stmt)(f:Addr):Prop:=∃d,WC K x key st f d/\mg x=some (.ref f)
def EM(K:af)(C:Addr)(x key:Str)(st:Stmt)(f:Addr):Prop:=∃d,WC K x key st f d/\R4 K C x f
structure EC(K:af)(C:Addr):Prop where
 c:LY K C
 qc:PySem.W.makesIn K C=true
 kc:dJ K (.ref C)=true
section
variable{K:af}{h:Heap}{mg:Str->Option Value}{x key:Str}{st:Stmt}{C f:Addr}{oc:Value}{od an:Option Addr}{osl:Array (Option Value)}{kV doc pm cdv ct:Value}
theorem Z3(X:K.In h)(G:h.Ns mainGlobals mg)(a:bw K mainGlobals x=some (some (.ref f)))(l:K.lookup f=some ⟨oc,od,.func (fm x key (j5 st) (gu st) (av st) .none kV doc pm an cdv ct),osl⟩)(c:jY K cdv key=true)(k:dJ K (.ref f)=true):EG K mg x key st f:=⟨_,abS l c k,bR X G a⟩
theorem E1(a:aH K (.ref C) x=some (some (.ref f)))(i:PySem.W.isFn K (.ref f)=true)(l:K.lookup f=some ⟨oc,od,.func (fm x key (j5 st) (gu st) (av st) .none kV doc pm an cdv ct),osl⟩)(c:jY K cdv key=true)(k:dJ K (.ref f)=true):EM K C x key st f:=⟨_,abS l c k,⟨a,i,k⟩⟩
theorem t7(b:zX K C Str.empty=true)(e:xx K C=true)(d:PySem.W.plainOver K C=true)(a:aH K (.ref C) "__setattr__" = some (some (.builtin "object.__setattr__")))(f:PySem.W.makesIn K C=true)(c:dJ K (.ref C)=true):EC K C:=⟨⟨b,e,d,a⟩,f,c⟩
end
section
variable{X:Cx}{k k':Nat}{f C:Addr}{fd:FuncData}{ps:List Str}{sp:Sp}{x m key:Str}{st:Stmt}{p pos apos:Pos}{e o:Expr}{es:List Expr}{ta:TE}{t:TA}
theorem cG(F:bL X.prog X.w X.K X.mg X.base fP k f fd ps sp)(h:kh k' X.A)(c:fX X.K X.mg x key st f fd ps)(j:PA X (e::es) t)(d:k<=k':=by decide)(i:Gl X x:=by rfl)
 (a:(x==("__debug__" : Str))=false:=by decide) (l:starEach (e::es) X.env=(false,eval e X.env)::starEach es X.env:=by rfl) (b:(backTo pos (starEach es X.env)).any (·.1)=false:=by rfl) :
 PE X (.Call (.Name x p) (e::es) [] pos) (abC sp [] E0 t):=DY F (h.mono d) i c.g c.F.kp c.B .nil iz j a l b
theorem cM{pl:Sem Bool}(i:PE X o ta)(c:LY X.K C)(u:iJ X.K C m key st f fd ps)(F:bL X.prog X.w X.K X.mg X.base fP k f fd ps sp)(l:kh k' X.A)(h:PA X (e::es) t)(b:k<=k':=by decide)
 (d:starEach (e::es) X.env=(false,eval e X.env)::starEach es X.env:=by rfl) (a:(backTo pos (starEach es X.env)).any (·.1)=false:=by rfl)
 (j:eval (.Call (.Attribute o m apos) (e::es) [] pos) X.env=(do
  let g <- eval o X.env
  standAt apos.atName
  let (f,first) <- holding [g] (getMethod g m pl)
  callWith pos f first (backTo pos (starEach (e::es) X.env)) (backToKw pos (keywordEach [] X.env))):=by rfl) :
 PE X (.Call (.Attribute o m apos) (e::es) [] pos) (Kl C m sp [] E0 ta t):=j4 i c u.m F (l.mono b) u.B .nil iz h d a j
theorem cI(u:Su X.K C key st f fd ps)(F:bL X.prog X.w X.K X.mg X.base fP k f fd ps sp)(d:kh k' X.A)(j:X.mg x=some (.ref C))(h:PA X (e::es) t)(c:k+1<=k':=by decide)(g:Gl X x:=by rfl)
 (a:(x==("__debug__" : Str))=false:=by decide) (i:starEach (e::es) X.env=(false,eval e X.env)::starEach es X.env:=by rfl) (b:(backTo pos (starEach es X.env)).any (·.1)=false:=by rfl) :
 PE X (.Call (.Name x p) (e::es) [] pos) (abD C sp [] E0 t):=Yq u.M F (d.mono c) g j u.B .nil iz h a i b
end
section
variable{P:Program}{w:World}{K:af}{mg:Str->Option Value}{base:Heap}
theorem WC.gB{x a:Str}{st:Stmt}{f:Addr}{e:FuncData}{N ps:List Str}{k:Nat}{sp:Sp}(F:WC K x a st f e)(S:aE N ps (av st))
 (g:∀{c:Value} {A:Around} {b:List Env} {s:Shared} {vs:List V} (H:Hp) (Q:VK) (E:XK),kh k (A.deeper (envOfC a (av st) s.heap.objs.size f c))->sp vs H Q E ->
  ∃t,iQ (pT fP P w K mg base N a (av st) f c A b s H E).wj (gu st) t/\t {nx:=λ_ i=>Q .dH i,rt:=Q} (start N vs) H) (d:∀vs H Q E,sp vs H Q E->vs.length=ps.length:=by intro _ _ _ _ h;cases h;subst_vars;rfl):bL P w K mg base fP (k+1) f e ps sp:=F.ok S d λ_ _ _ _ H _ Q E j h=>g H Q E j h
theorem WC.aar{x a:Str}{st:Stmt}{f:Addr}{e:FuncData}{N ps:List Str}{k:Nat}{sp:Sp}(F:WC K x a st f e)(S:aE N ps (av st))
 (g:∀{c:Value} {A:Around} {b:List Env} {s:Shared} {vs:List V} (H:Hp) (Q:VK) (E:XK),kh k (A.deeper (envOfC a (av st) s.heap.objs.size f c))->sp vs H Q E ->
  ∃t,iQ (pT (II P w) P w K mg base N a (av st) f c A b s H E) (gu st) t/\t {nx:=λ_ i=>Q .dH i,rt:=Q} (start N vs) H) (d:∀vs H Q E,sp vs H Q E->vs.length=ps.length:=by intro _ _ _ _ h;cases h;subst_vars;rfl):bL P w K mg base (II P w) (k+1) f e ps sp:=F.okX S d λ_ _ _ _ H _ Q E j h=>g H Q E j h
theorem Sq.gB{x a:Str}{st:Stmt}{f:Addr}{e:FuncData}{i:Value}{N ps:List Str}{k:Nat}{sp:Sp}(F:Sq K x a st f e i)(S:aE N ps (av st))
 (g:∀{c:Value} {A:Around} {b:List Env} {s:Shared} {vs:List V} (H:Hp) (Q:VK) (E:XK),kh k (A.deeper (envOfC a (av st) s.heap.objs.size f c))->sp vs H Q E ->
  ∃t,iQ (pT fP P w K mg base N a (av st) f c A b s H E).wj (gu st) t/\t {nx:=λ_ j=>Q .dH j,rt:=Q} (start N vs) H) (d:∀vs H Q E,sp vs H Q E->vs.length=ps.length:=by intro _ _ _ _ h;cases h;subst_vars;rfl):bL P w K mg base fP (k+1) f e ps sp:=F.ok S d λ_ _ _ _ H _ Q E l h=>g H Q E l h
end
end L2
namespace L2
open PySem PySem.W PySem.Spec PyProof.Rows
end L2
namespace L2
open PySem PySem.W PySem.Spec PySem.Calls PyProof.Rows
end L2
namespace L2
open PySem PySem.Spec PyProof.Rows
end L2
namespace L2
open PySem PySem.Spec PyProof.Rows PySem.Builtin PySem.Builtin.Str
end L2
namespace TX
open PySem PySem.Builtin PySem.Builtin.Str
end TX
namespace TX
open PySem PySem.StrLaws PySem.Builtin PySem.Builtin.Str
noncomputable def told(x:Str):List (List Str):=(Txt.split x aak).map λp=>Txt.split p tO
end TX
namespace ST
open PySem
end ST
namespace ST
open PySem PyProof.Rows
end ST
namespace L2
open PySem PySem.Spec PyProof.Rows ST
end L2
namespace ST
open PySem PyProof.Rows
end ST
namespace L2
open PySem PySem.Spec PyProof.Rows ST
end L2
namespace L2
open PySem PySem.W PySem.Spec PyProof.Rows TW
section
variable{X:Cx}{pins:List (Addr×Obj)}{σ:St}{H:Hp}{s:Shared}
open Classical in
open Classical in
end
def DcK(K:af)(w:World)(a:Addr)(kvs:List (Key×V)):Prop :=
 (a==sysModules)=false/\∀(P:Program) (h:Heap),K.In h->∃vs,KV kvs vs/\h.DictOf (gn P w) a vs
inductive Ent(w:World):List DictEntry->List (Str×V)->Prop
 |nil:Ent w [] []
 |cons {x:Str} {t:Tok} {hs:Int} {u:Value} {v:V} {es:List DictEntry} {kvs:List (Str×V)} (hh:hs=hashStr w x) (r:RelV v u) (h:Ent w es kvs):Ent w (⟨hs,.str x t,u⟩::es) ((x,v)::kvs)
theorem Ent.ok{w:World}(P:Program):∀{a:List DictEntry} {kvs:List (Str×V)},Ent w a kvs->∃vs:List (Key×Value),KV (kvs.map λp=>((pR p.1:Key),p.2)) vs/\vs.map (·.1)=kvs.map (λp=>pR p.1)/\Pairs (gn P w) a vs/\∀e∈a,∃k,(gn P w).is k e.key=true/\e.hash=(gn P w).hash k
 |_,_,.nil=>⟨[],.nil,rfl,.nil,λe z=>by cases z⟩
 |_,_,.cons (x:=x) (t:=t) (u:=u) hh r h=>by
  obtain⟨vs,b,c,f,d⟩:=h.ok P;refine⟨(pR x,u)::vs,.cons ⟨rfl,r⟩ b,by rw[bA,bA,c],.cons (IK x t) rfl f,λe z=>?_⟩;rcases aV.mp z with rfl|z
  ·exact⟨pR x,IK x t,hh⟩
  ·exact d e z
theorem ahU{K:af}{w:World}{a:Addr}{d:List DictEntry}{f:Nat}{kvs:List (Str×V)}(l:K.lookup a=some {cls:=.type "dict",data:=.dict d.toArray f})(i:(a==sysModules)=false)(h:Ent w d kvs)(n:(kvs.map (·.1)).Nodup):DcK K w a (kvs.map λp=>((pR p.1:Key),p.2)):=by
 refine⟨i,λP r g=>?_⟩;obtain⟨k,j,m,q,o⟩:=h.ok P;refine⟨k,j,_,_,f,g _ _ l,⟨rfl,rfl,rfl⟩,rfl,λe z=>o e (by simpa using z),q,?_⟩;rw[m]
 have:(kvs.map λp=>(pR p.1:Key))=(kvs.map (·.1)).map pR:=by rw[bP];rfl
 rw[this];exact List.Pairwise.map _ (λa b c e=>c (Sum.inr.inj e)) n
noncomputable abbrev ahV(l:List (Str×V)):List (Key×V):=l.map λp=>((pR p.1:Key),p.2)
def Hs(K:af)(p:Addr)(n:Int)(f:Addr):Prop:=∀H,cR K H p [.int n,.ref f]
theorem twE{K:af}{p f:Addr}{n:Int}{a:Option Addr}{m:Nat}{t:Tok}{b:Array (Option Value)}(l:K.lookup p=some ⟨.type "tuple",a,.seq #[.int n t,.ref f] m,b⟩):Hs K p n f:=λH=>.inr ⟨_,_,_,l,rfl,rfl,ff,.cons ⟨_,rfl⟩ (.cons rfl .nil)⟩
section
variable{X:Cx}{o i e fe:Expr}{es:List Expr}{pos:Pos}{td ty ta:TE}{t:TA}{a f:Addr}{kvs:List (Key×V)}
def ant(a:Addr)(kvs:List (Key×V))(td ty:TE):TE:=λσ H Q=>td σ H λx H1=>ty σ H1 λy H2=>∃k v,x=.ref a/\y=kV k/\BR kvs k=some v/\Q v H2
def anu(a:Addr)(kvs:List (Key×V))(ty td:TE):TE:=λσ H Q=>ty σ H λy H1=>td σ H1 λx H2=>∃k,x=.ref a/\y=kV k/\Q (.bl (!(BR kvs k).isSome)) H2
theorem acB(D:DcK X.K X.w a kvs)(C:PE X o td)(A:PE X i ty)(m:aj1 i):PE X (.Subscript o i pos) (ant a kvs td ty):=by
 intro b s f H Q I h;refine aek PySem.F.slot_dict_getitem.lookup m (gW (C b s f H _ I h) λu q ⟨x,p,r,L,j⟩=>gW (A b q f p _ r j) λM E ⟨y,B,e,J,k,v,G,t,l,n⟩=>?_);subst G t;obtain rfl:u=Value.ref a:=L;obtain⟨z,rel,d⟩:=D.2 X.prog E.heap e.EH;obtain⟨N,g,c⟩:=BK.some_of (v:=v) (o:=valueAt z k) (by rw[<- l];exact rel.val k);exact⟨d.typeIs,wpAny_getItem_of (QG J) d.mapOf g ⟨v,B,e.tok _,c,n⟩⟩
theorem Xn(D:DcK X.K X.w a kvs)(p:PE X i ty)(r:PE X o td):PC X .NotIn i o (anu a kvs ty td):=by
 intro b s d H Q I h;refine gW (p b s d H _ I h) λC l ⟨y,j,m,z,f⟩=>gW (r b l d j _ m f) λu t ⟨x,q,c,A,k,v,n,g⟩=>?_;subst v n;obtain rfl:u=Value.ref a:=A;obtain⟨B,rel,e⟩:=D.2 X.prog t.heap c.EH;refine wpAny_notIn_of (QG z) D.1 e.mapOf ?_;rw[<- (rel.val k).DZ];exact⟨.bl _,q,c.tok _,rfl,g⟩
theorem Jd:nP X (.type "str") (λxs H Q=>(∃i,xs=[.int i]/\i.natAbs.log2<1920/\Q (.str (toString i)) H)∨∃z,xs=[.str z]/\Q (.str z) H):=by
 intro a s b H xs c Q I r h;rcases h with h|⟨z,rfl,q⟩
 ·exact fZ a s b H xs c Q I r h
 ·obtain⟨u,rfl,t,rfl⟩:=vals1 r
  exact PySem.P.str_of_str ⟨.str z,H,I,⟨t,rfl⟩,q⟩
theorem Pc:O4 X "str.startswith" (λx vs H Q=>∃z y,x=.str z/\vs=[.str y]/\Q (.bl (Txt.startswith z y)) H):=by
 intro a s f H x vs v e Q I d b h;obtain⟨z,y,rfl,rfl,q⟩:=h;obtain⟨t,rfl⟩:=d;obtain⟨u,rfl,c⟩:=b.one;obtain⟨g,rfl⟩:=c;exact SC.startswith ⟨.bl _,H,I,rfl,q⟩
theorem Q7:∀{bs:List Bool} {us:List Value},b6 (bs.map V.bl) us->∀y∈us,∃b,y=Value.bool b
 |[],_,.nil,y,z=>by cases z
 |b::bs,_,.cons r t,y,z=>by
  rcases aV.mp z with rfl|z
  ·exact⟨b,r⟩
  ·exact Q7 t y z
theorem Kv(k:Bool):∀{bs:List Bool} {us:List Value},b6 (bs.map V.bl) us->us.countP (isBoolOf k)=bs.count k
 |[],_,.nil=>rfl
 |b::bs,_,.cons r t=>by
  cases (show _=Value.bool b from r);rw[List.countP_cons,List.count_cons,Kv k t];rfl
def aeO(K:af):V->List V->Hp->VK->Prop:=λx vs H Q=>∃(l:Addr) (bs:List Bool) (k:Bool),x=.ref l/\vs=[.bl k]/\bC K H l (bs.map V.bl)/\Q (.int (bs.count k:Nat)) H
theorem aas:O4 X "list.count" (aeO X.K):=by
 intro d s G H x E v B Q I A t h;obtain⟨l,C,k,rfl,rfl,z,q⟩:=h;cases A;obtain⟨u,rfl,w⟩:=t.one;cases w;obtain⟨a,r,m,D⟩:=I.list z;obtain⟨⟨j,o,f,p⟩,e,g,n,c⟩:=id m.isList;simp only at g c;subst g c;refine call_meets PySem.F.slot_list_count ⟨_,e,rfl⟩ PySem.F.entry_list_count (PySem.F.args_list_count_2 _ _) (PySem.SeqAt.list_countAt l a.toArray n o p (.bool k) (isBoolOf k)) ⟨e,λy i=>?_,?_⟩
 ·obtain⟨b,rfl⟩:=Q7 r y (by simpa using i)
  exact PySem.SeqAt.EqAt.bool_bool b k
 ·rw[show a.toArray.toList=a from rfl,Kv k r]
  exact⟨.int _,H,I.tok _,⟨_,rfl⟩,q⟩
end
def Runs(X:Cx)(q:Addr×Sp):Prop:=dJ X.K (.ref q.1)=true/\∀(pins:List (Addr×Obj)) (σ:St) (H:Hp) (s:Shared) (Q:VK) (us:List Value) (vs:List V),Inv X pins σ H s->b6 vs us->q.2 vs H Q E0->wpAny (model X.prog X.w) X.A (call (.ref q.1) us) (EP X pins σ Q) X.xe s
inductive Ec(X:Cx):List (Addr×Sp)->Prop
 |nil:Ec X []
 |cons {q:Addr×Sp} {qs:List (Addr×Sp)}:Runs X q->Ec X qs->Ec X (q::qs)
theorem Ec.of{X:Cx}{qs:List (Addr×Sp)}(h:Ec X qs):∀q∈qs,Runs X q:=by
 induction h with
 |nil=>intro q z;cases z
 |cons r _ a =>
  intro q z;rcases aV.mp z with rfl|z
  ·exact r
  ·exact a q z
theorem j6{X:Cx}{k e:Nat}{f:Addr}{g:FuncData}{ps:List Str}{sp:Sp}{x a:Str}{st:Stmt}(F:bL X.prog X.w X.K X.mg X.base fP k f g ps sp)(i:kh e X.A)(c:fX X.K X.mg x a st f g ps)(b:k<=e:=by decide):Runs X (f,sp) :=
 ⟨c.F.kp,λd m H s Q j l I r h=>L1 (EI:=[]) F (i.mono b) c.B .nil iz I r (by rw[fD];exact h)⟩
def ahW(fs:List (Addr×Sp))(ta:TE)(t:TA):TE:=λσ H Q=>ta σ H λx H1=>∃q,q∈fs/\x=.ref q.1/\t σ H1 λvs H2=>q.2 vs H2 Q E0
theorem acC{X:Cx}{d e:Expr}{c:List Expr}{a:Pos}{j:TE}{t:TA}{k:List (Addr×Sp)}(L:PE X d j)(w:PA X (e::c) t)(n:Ec X k)(p:starEach (e::c) X.env=(false,eval e X.env)::starEach c X.env:=by rfl)(g:(backTo a (starEach c X.env)).any (·.1)=false:=by rfl)
 (f:eval (.Call d (e::c) [] a) X.env=(do
  let K <- eval d X.env
  callWith a K [] (backTo a (starEach (e::c) X.env)) (backToKw a (keywordEach [] X.env))):=by rfl):PE X (.Call d (e::c) [] a) (ahW k j t):=by
 intro b s i H Q I h;rw[f];refine wpAny_bind (gW (L b s i H _ I h) λu y ⟨x,v,A,M,q,G,J,z⟩=>?_);subst J;obtain rfl:u=Value.ref q.1:=M;obtain⟨D,F⟩:=n.of q G;refine uv (first:=[]) (h₀:=X.base) I.ok.mod.z0 D (gW (w a b y i v _ A z) λm E ⟨B,C,l,r,o⟩=>⟨l.EH,?_⟩) p g;exact F b i C E Q m B l r o
end L2
namespace eX
open PySem L2
noncomputable def top (i:Nat):Stmt:=PySem.Challenge.pw_knotless_k39_desk_answers.main.body.getD i (.Pass ⟨0,0,0,0⟩)
noncomputable abbrev xH:Stmt:=(inClass (top 12) 0)
noncomputable abbrev Af:Stmt:=(inClass (top 12) 1)
noncomputable abbrev Ag:Stmt:=(inClass (top 12) 2)
noncomputable abbrev xJ:Stmt:=(inClass (top 12) 4)
noncomputable abbrev Je:Stmt:=(top 14)
noncomputable abbrev F0:Stmt:=(top 15)
noncomputable abbrev rZ:Stmt:=(inClass (top 17) 0)
noncomputable abbrev uQ:Stmt:=(inClass (top 17) 1)
noncomputable abbrev uR:Stmt:=(inClass (top 17) 2)
noncomputable abbrev r6:Stmt:=(inClass (top 17) 3)
noncomputable abbrev uS:Stmt:=(inClass (top 18) 0)
noncomputable abbrev xK:Stmt:=(inClass (top 18) 1)
noncomputable abbrev xM:Stmt:=(inClass (top 18) 2)
noncomputable abbrev uT:Stmt:=(inClass (top 18) 3)
noncomputable abbrev xN:Stmt:=(inClass (top 19) 0)
noncomputable abbrev Jf:Stmt:=(top 21)
noncomputable abbrev Sv:Stmt:=(top 22)
noncomputable abbrev acD:Stmt:=(top 23)
noncomputable abbrev Jg:Stmt:=(top 24)
noncomputable abbrev acE:Stmt:=(top 27)
noncomputable abbrev Sw:Stmt:=(top 28)
noncomputable abbrev Jh:Stmt:=(top 30)
noncomputable abbrev Sx:Stmt:=(top 31)
noncomputable abbrev xO:Stmt:=(inClass (top 38) 0)
noncomputable abbrev Cf:Stmt:=(inClass (top 38) 1)
noncomputable abbrev Cg:Stmt:=(inClass (top 38) 2)
noncomputable abbrev r8:Stmt:=(inClass (top 38) 3)
noncomputable abbrev uU:Stmt:=(inClass (top 38) 4)
noncomputable abbrev Ci:Stmt:=(inClass (top 38) 5)
noncomputable abbrev xP:Stmt:=(top 39)
noncomputable abbrev xQ:Stmt:=(top 40)
noncomputable abbrev Ah:Stmt:=(top 41)
noncomputable abbrev Cj:Stmt:=(top 42)
noncomputable abbrev pY:Stmt:=(inClass (top 44) 0)
noncomputable abbrev uV:Stmt:=(inClass (top 44) 1)
noncomputable abbrev xR:Stmt:=(inClass (top 44) 2)
noncomputable abbrev m7:Stmt:=(inClass (top 44) 3)
noncomputable abbrev m8:Stmt:=(inClass (top 44) 4)
noncomputable abbrev uW:Stmt:=(inClass (top 44) 5)
noncomputable abbrev F7:Stmt:=(top 45)
noncomputable abbrev xS:Stmt:=(top 46)
noncomputable abbrev r9:Stmt:=(inClass (top 49) 0)
noncomputable abbrev Ai:Stmt:=(inClass (top 50) 0)
noncomputable abbrev Ga:Stmt:=(inClass (top 50) 1)
noncomputable abbrev Gb:Stmt:=(inClass (top 50) 2)
noncomputable abbrev Ck:Stmt:=(inClass (top 50) 3)
noncomputable abbrev xU:Stmt:=(inClass (top 50) 5)
noncomputable abbrev Aj:Stmt:=(inClass (top 50) 6)
noncomputable abbrev Gc:Stmt:=(inClass (top 50) 7)
noncomputable abbrev Gd:Stmt:=(inClass (top 50) 8)
noncomputable abbrev Ji:Stmt:=(inClass (top 50) 9)
noncomputable abbrev Jj:Stmt:=(inClass (top 50) 11)
noncomputable abbrev Ge:Stmt:=(inClass (top 50) 12)
noncomputable abbrev jq:Stmt:=(inClass (top 50) 13)
noncomputable abbrev Ak:Stmt:=(inClass (top 50) 14)
noncomputable abbrev f9:Stmt:=(inClass (top 50) 15)
noncomputable abbrev Cm:Stmt:=(inClass (top 50) 16)
noncomputable abbrev xV:Stmt:=(inClass (top 50) 17)
noncomputable abbrev se:Stmt:=(inClass (top 50) 18)
noncomputable abbrev pZ:Stmt:=(inClass (top 50) 19)
noncomputable abbrev Gf:Stmt:=(inClass (top 50) 20)
noncomputable abbrev nY:Stmt:=(inClass (top 50) 21)
noncomputable abbrev sf:Stmt:=(inClass (top 50) 22)
noncomputable abbrev i8:Stmt:=(inClass (top 50) 23)
noncomputable abbrev nZ:Stmt:=(inClass (top 50) 24)
noncomputable abbrev m9:Stmt:=(inClass (top 50) 25)
noncomputable abbrev p5:Stmt:=(inClass (top 50) 26)
noncomputable abbrev Al:Stmt:=(top 51)
noncomputable abbrev sj:Stmt:=(top 52)
noncomputable abbrev xW:Stmt:=(top 58)
noncomputable abbrev uX:Stmt:=(top 59)
noncomputable abbrev Cn:Stmt:=(top 60)
noncomputable abbrev Am:Stmt:=(top 61)
noncomputable abbrev Jk:Stmt:=(top 63)
noncomputable abbrev My:Stmt:=(top 64)
noncomputable abbrev xX:Stmt:=(top 65)
noncomputable abbrev uY:Stmt:=(top 66)
noncomputable abbrev xY:Stmt:=(top 67)
noncomputable abbrev An:Stmt:=(top 68)
noncomputable abbrev xZ:Stmt:=(top 69)
noncomputable abbrev x6:Stmt:=(top 70)
noncomputable abbrev Ao:Stmt:=(top 71)
noncomputable abbrev x8:Stmt:=(top 72)
noncomputable abbrev x9:Stmt:=(top 73)
noncomputable abbrev ya:Stmt:=(top 74)
noncomputable abbrev Aq:Stmt:=(top 75)
noncomputable abbrev sq:Stmt:=(top 76)
noncomputable abbrev Ar:Stmt:=(top 77)
noncomputable abbrev uZ:Stmt:=(top 78)
noncomputable abbrev yb:Stmt:=(inClass (top 80) 0)
noncomputable abbrev Gg:Stmt:=(inClass (top 80) 1)
noncomputable abbrev yc:Stmt:=(top 81)
noncomputable abbrev Co:Stmt:=(top 83)
noncomputable abbrev Mz:Stmt:=(top 84)
noncomputable abbrev MA:Stmt:=(top 85)
noncomputable abbrev MB:Stmt:=(top 86)
noncomputable abbrev Jl:Stmt:=(top 87)
noncomputable abbrev MC:Stmt:=(top 88)
noncomputable abbrev MD:Stmt:=(top 89)
noncomputable abbrev ME:Stmt:=(top 90)
noncomputable abbrev MF:Stmt:=(top 91)
noncomputable abbrev Sy:Stmt:=(top 92)
noncomputable abbrev Jm:Stmt:=(top 93)
noncomputable abbrev Cq:Stmt:=(top 94)
noncomputable abbrev MG:Stmt:=(top 95)
noncomputable abbrev acF:Stmt:=(top 96)
theorem MH:aE ["self"] ["self"] (av xH):=gm
theorem Pd:aE ["self","house","caller","rope"] ["self","house","caller","rope"] (av Af):=gm
theorem Pe:aE ["self","house","caller"] ["self","house","caller"] (av Ag):=gm
theorem MI:aE ["self"] ["self"] (av xJ):=gm
theorem Gh:aE ["book","letter","house","came","open_here","here","handed"] ["book","letter","house","came","open_here","here"] (av Je):=gm
theorem Pf:(["caller","letter"]:List Str).Nodup:=by decide +kernel
theorem wL:aE ["book","sought","house","came","open_here","here","noted","leading"] ["book","sought","house","came","open_here","here"] (av F0):=gm
theorem MJ:(["rope","came"]:List Str).Nodup:=by decide +kernel
theorem Jo:aE ["self","sender"] ["self","sender"] (av rZ):=gm
theorem Ld:aE ["self","caller"] ["self","caller"] (av uQ):=gm
theorem Le:aE ["self"] ["self"] (av uR):=gm
theorem Jp:aE ["self"] ["self"] (av r6):=gm
theorem Lf:aE ["self","sender","to"] ["self","sender","to"] (av uS):=gm
theorem MK:aE ["self","caller"] ["self","caller"] (av xK):=gm
theorem ML:aE ["self"] ["self"] (av xM):=gm
theorem Lg:aE ["self"] ["self"] (av uT):=gm
theorem MM:aE ["self","caller"] ["self","caller"] (av xN):=gm
theorem Xo:aE ["town","house"] ["town","house"] (av Jf):=gm
theorem U5:aE ["town","row","rope","hops"] ["town","row","rope"] (av Sv):=gm
theorem MN:aE ["town","live","rows","house","least","rope","made"] ["town","live","rows","house"] (av acD):=gm
theorem MO:aE ["town","live","rows"] ["town","live","rows"] (av Jg):=gm
theorem Pg:(["house","live","rows","town"]:List Str).Nodup:=by decide +kernel
theorem acG:aE ["town","live","rows"] ["town","live","rows"] (av acE):=gm
theorem aat:(["house","live","rows","town"]:List Str).Nodup:=by decide +kernel
theorem U6:aE ["town","live","rows"] ["town","live","rows"] (av Sw):=gm
theorem U7:(["up"]:List Str).Nodup:=by decide +kernel
theorem Gi:aE ["town","live","rows","house","joined"] ["town","live","rows","house"] (av Jh):=gm
theorem Pj:(["rope","joined"]:List Str).Nodup:=by decide +kernel
theorem MP:aE ["town","live","rows","house","rope","other"] ["town","live","rows","house"] (av Sx):=gm
theorem MQ:aE ["self","names","ropes"] ["self","names","ropes"] (av xO):=gm
theorem Sz:aE ["self","house"] ["self","house"] (av Cf):=gm
theorem SA:aE ["self","number"] ["self","number"] (av Cg):=gm
theorem zk:aE ["self","house"] ["self","house"] (av r8):=gm
theorem tF:(["number","rope","house"]:List Str).Nodup:=by decide +kernel
theorem Bk:aE ["self","rope","house","ends"] ["self","rope","house"] (av uU):=gm
theorem SE:aE ["self","rope","group"] ["self","rope","group"] (av Ci):=gm
theorem MR:aE ["names"] ["names"] (av xP):=gm
theorem Cr:aE ["size","ropes","rope"] ["size","ropes"] (av xQ):=gm
theorem Pk:aE ["size","rope"] ["size","rope"] (av Ah):=gm
theorem SG:aE ["size","one","other"] ["size","one","other"] (av Cj):=gm
theorem wM:aE ["self","town"] ["self","town"] (av pY):=gm
theorem Cs:(["rope","town"]:List Str).Nodup:=by decide +kernel
theorem sr:aE ["self","rope","wire","ahead"] ["self","rope","wire"] (av uV):=gm
theorem Gj:(["each","wire"]:List Str).Nodup:=by decide +kernel
theorem Ct:aE ["self","rope","wire","ahead"] ["self","rope","wire"] (av xR):=gm
theorem ED:aE ["self","rope"] ["self","rope"] (av m7):=gm
theorem tG:aE ["self","rope","number","stand"] ["self","rope","number"] (av m8):=gm
theorem Bl:aE ["self","group"] ["self","group"] (av uW):=gm
theorem Gk:(["rope","group","self"]:List Str).Nodup:=by decide +kernel
theorem U8:aE ["town","rope"] ["town","rope"] (av F7):=gm
theorem MS:aE ["group"] ["group"] (av xS):=gm
theorem Jq:aE ["self","letter","group"] ["self","letter","group"] (av r9):=gm
theorem jU:aE ["self","town","callers"] ["self","town","callers"] (av Ai):=gm
theorem Jr:(["bit","town"]:List Str).Nodup:=by decide +kernel
theorem Js:(["bit"]:List Str).Nodup:=by decide +kernel
theorem Jt:(["caller"]:List Str).Nodup:=by decide +kernel
theorem Ju:(["caller"]:List Str).Nodup:=by decide +kernel
theorem Jv:(["caller"]:List Str).Nodup:=by decide +kernel
theorem U9:aE ["self","group"] ["self","group"] (av Ga):=gm
theorem Va:aE ["self","group"] ["self","group"] (av Gb):=gm
theorem SH:aE ["self","group"] ["self","group"] (av Ck):=gm
theorem MT:aE ["self","group"] ["self","group"] (av xU):=gm
theorem Po:aE ["self","house","group"] ["self","house","group"] (av Aj):=gm
theorem Cu:aE ["self","house","group","ahead","row"] ["self","house","group"] (av Gc):=gm
theorem Kw:aE ["self","rope","wire","ended"] ["self","rope","wire"] (av Gd):=gm
theorem MU:aE ["self","rope","wire","began"] ["self","rope","wire"] (av Ji):=gm
theorem Xp:aE ["self","caller"] ["self","caller"] (av Jj):=gm
theorem Vb:aE ["self","caller","house"] ["self","caller","house"] (av Ge):=gm
theorem wN:aE ["self","sender","to","letter","number","house"] ["self","sender","to"] (av jq):=gm
theorem Pp:aE ["self"] ["self"] (av Ak):=gm
theorem g6:aE ["self","at","landed","number","rope","house","posted","fate"] ["self","at"] (av f9):=gm
theorem SI:aE ["self","letter"] ["self","letter"] (av Cm):=gm
theorem MV:aE ["self","posted","rope","house"] ["self","posted","rope","house"] (av xV):=gm
theorem e9:aE ["self","number","house","came","posted","group","open_here","here","found","caller","rope"] ["self","number","house","came"] (av se):=gm
theorem n6:aE ["self","house","group","there"] ["self","house","group"] (av pZ):=gm
theorem Cv:(["caller","self","there"]:List Str).Nodup:=by decide +kernel
theorem Cw:aE ["self","number","house","rope","posted","wire"] ["self","number","house","rope"] (av Gf):=gm
theorem ng:aE ["self","rope","wire","left","flown"] ["self","rope","wire"] (av nY):=gm
theorem zl:aE ["self","group","posted"] ["self","group"] (av sf):=gm
theorem lP:aE ["self","rope","group"] ["self","rope"] (av i8):=gm
theorem Gm:aE ["self","house"] ["self","house"] (av nZ):=gm
theorem EE:aE ["self","caller"] ["self","caller"] (av m9):=gm
theorem Ht:aE ["self","sender","to"] ["self","sender","to"] (av p5):=gm
theorem EN:aE ["town"] ["town"] (av Al):=gm
theorem Jw:(["house","town"]:List Str).Nodup:=by decide +kernel
theorem zm:aE ["town","callers","caller"] ["town","callers"] (av sj):=gm
theorem Cy:aE ["word"] ["word"] (av xW):=gm
theorem Hu:(["sign"]:List Str).Nodup:=by decide +kernel
theorem Bm:aE ["words","many"] ["words","many"] (av uX):=gm
theorem Gn:(["word"]:List Str).Nodup:=by decide +kernel
theorem jr:aE ["text","told","names","ropes","callers","words"] ["text"] (av Cn):=gm
theorem Lh:(["part"]:List Str).Nodup:=by decide +kernel
theorem EO:aE ["words"] ["words"] (av Am):=gm
theorem Jx:(["word"]:List Str).Nodup:=by decide +kernel
theorem Xq:aE ["told"] ["told"] (av Jk):=gm
theorem Q8:aE ["numbers"] ["numbers"] (av My):=gm
theorem SJ:(["number"]:List Str).Nodup:=by decide +kernel
theorem MW:aE ["net","numbers"] ["net","numbers"] (av xX):=gm
theorem sy:aE ["net","numbers","changed"] ["net","numbers"] (av uY):=gm
theorem Gp:(["house","net","numbers"]:List Str).Nodup:=by decide +kernel
theorem MX:aE ["net","numbers"] ["net","numbers"] (av xY):=gm
theorem Pq:aE ["net","numbers"] ["net","numbers"] (av An):=gm
theorem MY:aE ["net","numbers"] ["net","numbers"] (av xZ):=gm
theorem MZ:aE ["net","numbers"] ["net","numbers"] (av x6):=gm
theorem Pr:aE ["net","numbers"] ["net","numbers"] (av Ao):=gm
theorem M0:aE ["net","numbers"] ["net","numbers"] (av x8):=gm
theorem M2:aE ["net","numbers"] ["net","numbers"] (av x9):=gm
theorem M3:aE ["net","numbers"] ["net","numbers"] (av ya):=gm
theorem yd:aE ["net","numbers","arrived"] ["net","numbers"] (av Aq):=gm
theorem Jy:aE ["net","numbers"] ["net","numbers"] (av sq):=gm
theorem Pu:aE ["net","numbers"] ["net","numbers"] (av Ar):=gm
theorem Bo:aE ["net","numbers"] ["net","numbers"] (av uZ):=gm
theorem Gq:(["deed"]:List Str).Nodup:=by decide +kernel
theorem Cz:aE ["self","text","told"] ["self","text"] (av yb):=gm
theorem CA:aE ["self","row","words","wanted"] ["self","row"] (av Gg):=gm
theorem M4:aE ["words","many"] ["words","many"] (av yc):=gm
theorem SM:aE ["_law_script","_law_k"] ["_law_script","_law_k"] (av Co):=gm
theorem zo:aE ["_law_cell","_law_size","_law_one","_law_other"] ["_law_cell","_law_size"] (av Mz):=gm
theorem gY:aE ["_law_script","_law_size","_law_seed","_law_names","_law_k","_law_name","_law_ropes","_law_many","_law_callers","_law_cell"] ["_law_script"] (av MA):=gm
theorem SN:(["_law_k","_law_script","_law_size"]:List Str).Nodup:=by decide +kernel
theorem um:aE ["_law_told","_law_pieces"] ["_law_told"] (av MB):=gm
theorem SO:(["_law_name"]:List Str).Nodup:=by decide +kernel
theorem SQ:(["_law_rope_here"]:List Str).Nodup:=by decide +kernel
theorem SR:(["_law_number"]:List Str).Nodup:=by decide +kernel
theorem SS:(["_law_pair"]:List Str).Nodup:=by decide +kernel
theorem M5:aE ["_law_things"] ["_law_things"] (av Jl):=gm
theorem Pw:(["_law_thing"]:List Str).Nodup:=by decide +kernel
theorem aau:aE ["_law_truth","_law_yes","_law_no"] ["_law_truth","_law_yes","_law_no"] (av MC):=gm
theorem p6:aE ["_law_cell","_law_net","_law_size","_law_group","_law_house","_law_kind","_law_many","_law_at"] ["_law_cell","_law_net","_law_size"] (av MD):=gm
theorem Ed:aE ["_law_cell","_law_net","_law_strung","_law_rope_here","_law_wire_here","_law_stood"] ["_law_cell","_law_net","_law_strung"] (av ME):=gm
theorem zp:aE ["_law_cell","_law_net","_law_callers","_law_sender","_law_others","_law_to"] ["_law_cell","_law_net","_law_callers"] (av MF):=gm
theorem SV:(["_law_at","_law_callers","_law_sender"]:List Str).Nodup:=by decide +kernel
theorem M6:aE ["_law_net","_law_many"] ["_law_net"] (av Sy):=gm
theorem Gs:aE ["_law_net","_law_number","_law_steps"] ["_law_net","_law_number"] (av Jm):=gm
theorem Px:(["_law_step"]:List Str).Nodup:=by decide +kernel
theorem Py:(["_law_thing"]:List Str).Nodup:=by decide +kernel
theorem n9:aE ["_law_cell","_law_net","_law_callers","_law_posted","_law_kind","_law_more","_law_place","_law_caller"] ["_law_cell","_law_net","_law_callers","_law_posted"] (av Cq):=gm
theorem zq:aE ["_law_cell","_law_net","_law_told","_law_strung","_law_posted","_law_kind","_law_more","_law_caller","_law_house"] ["_law_cell","_law_net","_law_told","_law_strung","_law_posted"] (av MG):=gm
theorem sA:aE ["_law_script","_law_told","_law_desk","_law_net","_law_strung","_law_posted","_law_cell","_law_row","_law_ought","_law_found"] ["_law_script"] (av acF):=gm
theorem aav:(["_law_rope_here"]:List Str).Nodup:=by decide +kernel
set_option genInjectivity false in
structure Ad where
 (lQ oh oi lR zu u0 eS kD g7 gy kE lT lU kG lV zw Hv Vc p7 Vd As zx Hw lW rB rC jM kH rD lX lY oj rE i9 kI lZ g8 g9 kJ vc mh jN om vd ve rF mj oq vf vg zy zA vh ou rG mq jO ja vj iK jP fc iL ia jb ow jQ mw kK rH oz zB CB gK gj gM iM gO gP iN gQ gR gU iO fN iP gk mz vm mC rJ CC CF CG zC CH CI CJ CK Hy zD rK CL Ve:Addr)
 (qv tP tQ qw Ef Au mH oA oF mJ oG qx qy oH qz Eg LG YM Eh YN LH Ei LI qA wO wQ mK oJ wR qB qC tR wU kY oK qD jt ju oM Av qF mL tS Aw Ax wV qG tT Ay Az Ej Ek AA tU wW qH mO kZ AB j7 mP gv j8 jv k6 tV mQ qI oN wX tW El Hz qJ oO qK tX qL qM tY qN qO qP tZ mR t9 oQ qQ AD qR wY HA HB HC Em HD HE HF HG LJ Eo wZ HH Vf:FuncData)
 jw:Addr
 AE:FuncData
 gf:Addr
 qS:FuncData
 jV:Tok
 jc:Addr
 gw:Addr
 jx:Addr
 jR:Addr
 aP:Addr
 cP:Addr
 fY:Addr
 cF:Addr
 sC:Addr
 zE:Addr
 Ep:Addr
 qU:Tok
 ua:Tok
 uc:Tok
 ud:Tok
 oS:Tok
 eT:Addr
 Er:Tok
 oU:Tok
 oV:Tok
 k7:Tok
 (nH CM w6 CN Ky CO CP Kz CQ CS CU KA rL KC w9:Addr)
structure Txt(K:af)(mg:Str->Option Value)(w:World)(t:Ad):Prop where
 ye:Su K t.fY "Book.__init__" xH t.lQ t.qv ["self"]
 HJ:iJ K t.fY "learn" "Book.learn" Af t.oh t.tP ["self","house","caller","rope"]
 HK:iJ K t.fY "known" "Book.known" Ag t.oi t.tQ ["self","house","caller"]
 yf:iJ K t.fY "forget" "Book.forget" xJ t.lR t.qw ["self"]
 Q9:fX K mg "targets" "targets" Je t.zu t.Ef ["book","letter","house","came","open_here","here"]
 M7:fX K mg "ropes_on" "ropes_on" F0 t.u0 t.Au ["book","sought","house","came","open_here","here"]
 sD:Su K t.jc "Letter.__init__" rZ t.eS t.mH ["self","sender"]
 CV:iJ K t.jc "meant" "Letter.meant" uQ t.kD t.oA ["self","caller"]
 oW:iJ K t.jc "seeks" "Letter.seeks" uR t.g7 t.oF ["self"]
 mS:iJ K t.jc "number" "Letter.number" r6 t.gy t.mJ ["self"]
 CY:Su K t.gw "ToOne.__init__" uS t.kE t.oG ["self","sender","to"]
 ER:iJ K t.gw "meant" "ToOne.meant" xK t.lT t.qx ["self","caller"]
 yg:iJ K t.gw "seeks" "ToOne.seeks" xM t.lU t.qy ["self"]
 vn:iJ K t.gw "number" "ToOne.number" uT t.kG t.oH ["self"]
 ES:iJ K t.jx "meant" "ToAll.meant" xN t.lV t.qz ["self","caller"]
 Jz:fX K mg "own_row" "own_row" Jf t.zw t.Eg ["town","house"]
 SW:fX K mg "offer" "offer" Sv t.Hv t.LG ["town","row","rope"]
 acH:fX K mg "due" "due" acD t.Vc t.YM ["town","live","rows","house"]
 JA:fX K mg "resting" "resting" Jg t.p7 t.Eh ["town","live","rows"]
 agh:fX K mg "ups" "ups" acE t.Vd t.YN ["town","live","rows"]
 HL:fX K mg "opens" "opens" Sw t.As t.LH ["town","live","rows"]
 Ra:fX K mg "open_at" "open_at" Jh t.zx t.Ei ["town","live","rows","house"]
 YO:fX K mg "up_of" "up_of" Sx t.Hw t.LI ["town","live","rows","house"]
 yh:Su K t.aP "Town.__init__" xO t.lW t.qA ["self","names","ropes"]
 KD:iJ K t.aP "name" "Town.name" Cf t.rB t.wO ["self","house"]
 CZ:iJ K t.aP "rope" "Town.rope" Cg t.rC t.wQ ["self","number"]
 mT:iJ K t.aP "ropes_at" "Town.ropes_at" r8 t.jM t.mK ["self","house"]
 oX:iJ K t.aP "far_end" "Town.far_end" uU t.kH t.oJ ["self","rope","house"]
 C0:iJ K t.aP "lets" "Town.lets" Ci t.rD t.wR ["self","rope","group"]
 ET:fX K mg "check_names" "check_names" xP t.lX t.qB ["names"]
 EU:fX K mg "check_ropes" "check_ropes" xQ t.lY t.qC ["size","ropes"]
 HM:fX K mg "check_rope" "check_rope" Ah t.oj t.tR ["size","rope"]
 KE:fX K mg "joins_two" "joins_two" Cj t.rE t.wU ["size","one","other"]
 zF:Su K t.cP "Strands.__init__" pY t.i9 t.kY ["self","town"]
 vo:iJ K t.cP "fall" "Strands.fall" uV t.kI t.oK ["self","rope","wire"]
 yi:iJ K t.cP "lay" "Strands.lay" xR t.lZ t.qD ["self","rope","wire"]
 eY:iJ K t.cP "standing" "Strands.standing" m7 t.g8 t.jt ["self","rope"]
 nh:iJ K t.cP "wire_for" "Strands.wire_for" m8 t.g9 t.ju ["self","rope","number"]
 vp:iJ K t.cP "live" "Strands.live" uW t.kJ t.oM ["self","group"]
 Gu:fX K mg "wires_of" "wires_of" F7 t.vc t.Av ["town","rope"]
 iT:fX K mg "check_group" "check_group" xS t.mh t.qF ["group"]
 Bp:Su K t.jR "Posted.__init__" r9 t.jN t.mL ["self","letter","group"]
 AF:Su K t.cF "Net.__init__" Ai t.om t.tS ["self","town","callers"]
 ni:iJ K t.cF "rows" "Net.rows" Ga t.vd t.Aw ["self","group"]
 vq:iJ K t.cF "live" "Net.live" Gb t.ve t.Ax ["self","group"]
 xg:iJ K t.cF "opens" "Net.opens" Ck t.rF t.wV ["self","group"]
 yj:iJ K t.cF "resting" "Net.resting" xU t.mj t.qG ["self","group"]
 AG:iJ K t.cF "row_at" "Net.row_at" Aj t.oq t.tT ["self","house","group"]
 vt:iJ K t.cF "call" "Net.call" Gc t.vf t.Ay ["self","house","group"]
 Gv:iJ K t.cF "fall" "Net.fall" Gd t.vg t.Az ["self","rope","wire"]
 JB:iJ K t.cF "lay" "Net.lay" Ji t.zy t.Ej ["self","rope","wire"]
 JC:iJ K t.cF "had" "Net.had" Jj t.zA t.Ek ["self","caller"]
 Gw:iJ K t.cF "move" "Net.move" Ge t.vh t.AA ["self","caller","house"]
 vv:Sq K "post" "Net.post" jq t.jw t.AE (.none)
 Xr:Binds K t.AE ["self","sender","to"] [.none]
 M8:Binds K t.AE ["self","sender","to"] []
 Gx:R4 K t.cF "post" t.jw
 dR:iJ K t.cF "flying" "Net.flying" Ak t.ou t.tU ["self"]
 mD:Sq K "pass_on" "Net.pass_on" f9 t.gf t.qS (.int 0 t.jV)
 Pz:Binds K t.qS ["self","at"] [.int 0 t.jV]
 yk:Binds K t.qS ["self","at"] []
 qV:R4 K t.cF "pass_on" t.gf
 C1:iJ K t.cF "story" "Net.story" Cm t.rG t.wW ["self","letter"]
 EV:iJ K t.cF "fate_of" "Net.fate_of" xV t.mq t.qH ["self","posted","rope","house"]
 sE:iJ K t.cF "do_letter" "Net.do_letter" se t.jO t.mO ["self","number","house","came"]
 zG:iJ K t.cF "callers_at" "Net.callers_at" pZ t.ja t.kZ ["self","house","group"]
 M9:iJ K t.cF "send" "Net.send" Gf t.vj t.AB ["self","number","house","rope"]
 xh:iJ K t.cF "lose_copies" "Net.lose_copies" nY t.iK t.j7 ["self","rope","wire"]
 mU:iJ K t.cF "take_news" "Net.take_news" sf t.jP t.mP ["self","group"]
 jd:iJ K t.cF "take_news_of_rope" "Net.take_news_of_rope" i8 t.fc t.gv ["self","rope"]
 oY:iJ K t.cF "check_house" "Net.check_house" nZ t.iL t.j8 ["self","house"]
 ic:iJ K t.cF "check_caller" "Net.check_caller" m9 t.ia t.jv ["self","caller"]
 zH:iJ K t.cF "check_pair" "Net.check_pair" p5 t.jb t.k6 ["self","sender","to"]
 HN:fX K mg "first_rows" "first_rows" Al t.ow t.tV ["town"]
 Bq:fX K mg "check_callers" "check_callers" sj t.jQ t.mQ ["town","callers"]
 qW:fX K mg "read_number" "read_number" xW t.mw t.qI ["word"]
 oZ:fX K mg "read_numbers" "read_numbers" uX t.kK t.oN ["words","many"]
 KG:fX K mg "read_town" "read_town" Cn t.rH t.wX ["text"]
 HP:fX K mg "read_names" "read_names" Am t.oz t.tW ["words"]
 uo:fX K mg "written" "written" Jk t.zB t.El ["told"]
 C2:fX K mg "listed" "listed" My t.CB t.Hz ["numbers"]
 EW:fX K mg "answer_call" "answer_call" xX t.gK t.qJ ["net","numbers"]
 C3:fX K mg "answer_round" "answer_round" uY t.gj t.oO ["net","numbers"]
 EX:fX K mg "answer_rest" "answer_rest" xY t.gM t.qK ["net","numbers"]
 HQ:fX K mg "answer_row" "answer_row" An t.iM t.tX ["net","numbers"]
 EY:fX K mg "answer_open" "answer_open" xZ t.gO t.qL ["net","numbers"]
 EZ:fX K mg "answer_fall" "answer_fall" x6 t.gP t.qM ["net","numbers"]
 HR:fX K mg "answer_lay" "answer_lay" Ao t.iN t.tY ["net","numbers"]
 E3:fX K mg "answer_move" "answer_move" x8 t.gQ t.qN ["net","numbers"]
 E4:fX K mg "answer_post" "answer_post" x9 t.gR t.qO ["net","numbers"]
 E5:fX K mg "answer_pass" "answer_pass" ya t.gU t.qP ["net","numbers"]
 HS:fX K mg "answer_run" "answer_run" Aq t.iO t.tZ ["net","numbers"]
 Br:fX K mg "answer_flying" "answer_flying" sq t.fN t.mR ["net","numbers"]
 HU:fX K mg "answer_had" "answer_had" Ar t.iP t.t9 ["net","numbers"]
 C4:fX K mg "answer_story" "answer_story" uZ t.gk t.oQ ["net","numbers"]
 E6:Su K t.sC "Desk.__init__" yb t.mz t.qQ ["self","text"]
 Na:iJ K t.sC "say" "Desk.say" Gg t.vm t.AD ["self","row"]
 E7:fX K mg "read_behind" "read_behind" yc t.mC t.qR ["words","many"]
 rM:fX K mg "_law_cell_at" "_law_cell_at" Co t.rJ t.wY ["_law_script","_law_k"]
 Vg:fX K mg "_law_rope" "_law_rope" Mz t.CC t.HA ["_law_cell","_law_size"]
 Vh:fX K mg "_law_town" "_law_town" MA t.CF t.HB ["_law_script"]
 Vi:fX K mg "_law_text" "_law_text" MB t.CG t.HC ["_law_told"]
 Es:fX K mg "_law_shown" "_law_shown" Jl t.zC t.Em ["_law_things"]
 C5:fX K mg "_law_word" "_law_word" MC t.CH t.HD ["_law_truth","_law_yes","_law_no"]
 Vj:fX K mg "_law_rows" "_law_rows" MD t.CI t.HE ["_law_cell","_law_net","_law_size"]
 Vk:fX K mg "_law_wire" "_law_wire" ME t.CJ t.HF ["_law_cell","_law_net","_law_strung"]
 Vl:fX K mg "_law_post" "_law_post" MF t.CK t.HG ["_law_cell","_law_net","_law_callers"]
 YQ:fX K mg "_law_run" "_law_run" Sy t.Hy t.LJ ["_law_net"]
 Rb:fX K mg "_law_story" "_law_story" Jm t.zD t.Eo ["_law_net","_law_number"]
 KH:fX K mg "_law_letters" "_law_letters" Cq t.rK t.wZ ["_law_cell","_law_net","_law_callers","_law_posted"]
 Vm:fX K mg "_law_deed" "_law_deed" MG t.CL t.HH ["_law_cell","_law_net","_law_told","_law_strung","_law_posted"]
 acI:fX K mg "law" "law" acF t.Ve t.Vf ["_law_script"]
 Nb:LY K t.jc
 acJ:mg "Letter" = some (.ref t.jc)
 abc:dm K t.jc "sender"
 agi:dm K t.jc "to"
 qX:LY K t.gw
 aeP:mg "ToOne" = some (.ref t.gw)
 vz:dm K t.gw "sender"
 AH:dm K t.gw "to"
 AI:LY K t.jx
 aeQ:mg "ToAll" = some (.ref t.jx)
 o4:dm K t.jx "sender"
 ahX:dm K t.jx "to"
 c9:LY K t.jR
 acK:mg "Posted" = some (.ref t.jR)
 iC:dm K t.jR "letter"
 kL:dm K t.jR "group"
 AJ:dm K t.jR "old"
 qb:dm K t.jR "done_at"
 ie:dm K t.jR "deeds"
 fk:LY K t.aP
 acL:mg "Town" = some (.ref t.aP)
 vA:dm K t.aP "house_names"
 ig:dm K t.aP "rope_tuples"
 jk:dm K t.aP "size"
 xj:dm K t.aP "many"
 d7:LY K t.cP
 aaw:mg "Strands" = some (.ref t.cP)
 kM:dm K t.cP "town"
 gx:dm K t.cP "upright"
 Gy:LY K t.fY
 ahY:mg "Book" = some (.ref t.fY)
 xm:dm K t.fY "kept"
 aY:LY K t.cF
 agj:mg "Net" = some (.ref t.cF)
 jy:dm K t.cF "town"
 mE:dm K t.cF "strands"
 lH:dm K t.cF "rows_by_group"
 xo:dm K t.cF "books"
 kP:dm K t.cF "homes"
 k8:dm K t.cF "groups"
 AK:dm K t.cF "handed"
 eF:dm K t.cF "letters"
 jz:dm K t.cF "copies"
 Xs:LY K t.sC
 ahZ:mg "Desk" = some (.ref t.sC)
 Nc:dm K t.sC "net"
 C6:mg "opens_opens" = some (.ref t.As)
 Li:mg "resting_rows" = some (.ref t.p7)
 PB:R4 K t.jx "seeks" t.g7
 Nd:R4 K t.jx "number" t.gy
 aeR:Mk K t.jx t.eS
 JD:agd K t.jc "__init__" t.eS
 Ng:mg "NoWire" = some (.ref t.zE)
 Nh:ab0 K t.zE
 aax:mg "NoGroup" = some (.ref t.Ep)
 aay:ab0 K t.Ep
 PD:mg "MOST_HOUSES" = some (.int 10 t.qU)
 SX:mg "MOST_ROPES" = some (.int 20 t.ua)
 SY:mg "MOST_WIRES" = some (.int 4 t.uc)
 S5:mg "ALL_GROUPS" = some (.int 7 t.ud)
 Ni:mg "MOST_CALLERS" = some (.int 20 t.oS)
 k9:mg "GROUP_BITS" = some (.ref t.eT)
 gh:∀H,cR K H t.eT [.int 1,.int 2,.int 4]
 aaz:mg "FIGURES" = some (.str "0123456789" t.Er)
 Nj:mg "MOST_FIGURES" = some (.int 60 t.oU)
 Nk:mg "ROPE_NUMBERS" = some (.int 5 t.oV)
 JE:mg "CALLER_NUMBERS" = some (.int 2 t.k7)
 Rc:mg "ANSWERS" = some (.ref t.nH)
 Rf:DcK K w t.nH (ahV [("call",.ref t.CM),("round",.ref t.w6),("rest",.ref t.CN),("row",.ref t.Ky),("open",.ref t.CO),("fall",.ref t.CP),("lay",.ref t.Kz),("move",.ref t.CQ),("post",.ref t.CS),("pass",.ref t.CU),("run",.ref t.KA),("flying",.ref t.rL),("had",.ref t.KC),("story",.ref t.w9)])
 s_call:Hs K t.CM 2 t.gK
 aeS:Hs K t.w6 1 t.gj
 ah0:Hs K t.CN 1 t.gM
 s_row:Hs K t.Ky 2 t.iM
 ah1:Hs K t.CO 1 t.gO
 ah2:Hs K t.CP 2 t.gP
 akr:Hs K t.Kz 2 t.iN
 ah3:Hs K t.CQ 2 t.gQ
 ah4:Hs K t.CS 2 t.gR
 ah5:Hs K t.CU 1 t.gU
 aks:Hs K t.KA 0 t.iO
 acM:Hs K t.rL 0 t.fN
 akt:Hs K t.KC 1 t.iP
 aeT:Hs K t.w9 1 t.gk
 fR:mg "len" = none
 S6:mg "isinstance" = none
 acN:mg "int" = none
 sF:mg "list" = none
 YR:mg "tuple" = none
 j9:mg "range" = none
 Vn:mg "enumerate" = none
 aku:mg "min" = none
 akv:mg "set" = none
 zI:mg "str" = none
 agk:mg "all" = none
 Vo:mg "sorted" = none
theorem PF{a:Type}{M:List a->Prop}(h:∀b,M [b]):∀us:List a,us.length=1->M us
 |[_],_=>h _
theorem uq{a:Type}{M:List a->Prop}(h:∀c b,M [c,b]):∀us:List a,us.length=2->M us
 |[_,_],_=>h _ _
theorem IJ{a:Type}{M:List a->Prop}(h:∀d c b,M [d,c,b]):∀us:List a,us.length=3->M us
 |[_,_,_],_=>h _ _ _
theorem E2{a:Type}{M:List a->Prop}(h:∀e c b d,M [e,c,b,d]):∀us:List a,us.length=4->M us
 |[_,_,_,_],_=>h _ _ _ _
theorem el5{a:Type}{M:List a->Prop}(h:∀f c b d e,M [f,c,b,d,e]):∀us:List a,us.length=5->M us
 |[_,_,_,_,_],_=>h _ _ _ _ _
theorem el6{a:Type}{M:List a->Prop}(h:∀g c b e f d,M [g,c,b,e,f,d]):∀us:List a,us.length=6->M us
 |[_,_,_,_,_,_],_=>h _ _ _ _ _ _
theorem ah6{w:World}{K:af}{h:Heap}{a:Str->Option Value}(X:K.In h)(G:h.Ns mainGlobals a){lQ oh oi lR zu u0 u kD g7 gy kE lT lU kG lV zw Hv Vc p7 Vd As zx Hw lW rB rC jM kH rD lX lY oj rE i9 kI lZ g8 g9 kJ vc mh jN om vd ve rF mj oq vf vg zy zA vh ou rG mq jO ja vj iK jP fc iL ia jb ow jQ mw kK rH oz zB CB gK gj E R gO gP v gQ gR gU S fN iP gk mz vm mC rJ CC CF CG zC CH CI CJ CK Hy zD rK CL Ve:Addr}
 {Vp KI KJ KL C7 KN:Value} {Vq KO:Option Addr} {Vr:Array (Option Value)} {o:Addr}
 {y:Addr} {S9:Option Addr} {Vs:Nat} {Tc:Array (Option Value)}
 {Nl C8 C9 Dc vB Dd:Value} {Nm De:Option Addr} {Np:Array (Option Value)} {n:Addr}
 {yl:Addr} {Lj:Option Addr} {Nq:Nat} {Lk:Array (Option Value)}
 {jV:Tok}
 {e:Addr}
 {i:Addr}
 {j:Addr}
 {g:Addr}
 {d:Addr}
 {f:Addr}
 {k:Addr}
 {b:Addr}
 {l:Addr}
 {J:Addr}
 {I:Addr}
 {qU:Tok}
 {ua:Tok}
 {uc:Tok}
 {ud:Tok}
 {oS:Tok}
 {V:Addr} {PK:Option Addr} {Td:Nat} {PL PM PN:Tok} {PR:Array (Option Value)}
 {Er:Tok}
 {oU:Tok}
 {oV:Tok}
 {k7:Tok}
 {nH CM A CN Ky z CP O M CS CU KA rL KC w9:Addr}
 (JH:bw K mainGlobals "Letter" = some (some (.ref e)))
 (Nt:bw K mainGlobals "ToOne" = some (some (.ref i)))
 (Nu:bw K mainGlobals "ToAll" = some (some (.ref j)))
 (JI:bw K mainGlobals "Posted" = some (some (.ref g)))
 (Te:bw K mainGlobals "Town" = some (some (.ref d)))
 (GA:bw K mainGlobals "Strands" = some (some (.ref f)))
 (Tf:bw K mainGlobals "Book" = some (some (.ref k)))
 (Xu:bw K mainGlobals "Net" = some (some (.ref b)))
 (Tg:bw K mainGlobals "Desk" = some (some (.ref l)))
 (ym:EM K k "__init__" "Book.__init__" xH lQ)
 (AL:EM K k "learn" "Book.learn" Af oh)
 (AM:EM K k "known" "Book.known" Ag oi)
 (yo:EM K k "forget" "Book.forget" xJ lR)
 (JJ:EG K a "targets" "targets" Je zu)
 (GB:EG K a "ropes_on" "ropes_on" F0 u0)
 (sG:EM K e "__init__" "Letter.__init__" rZ u)
 (vC:EM K e "meant" "Letter.meant" uQ kD)
 (vD:EM K e "seeks" "Letter.seeks" uR g7)
 (sH:EM K e "number" "Letter.number" r6 gy)
 (vE:EM K i "__init__" "ToOne.__init__" uS kE)
 (yp:EM K i "meant" "ToOne.meant" xK lT)
 (yq:EM K i "seeks" "ToOne.seeks" xM lU)
 (vF:EM K i "number" "ToOne.number" uT kG)
 (yr:EM K j "meant" "ToAll.meant" xN lV)
 (JK:EG K a "own_row" "own_row" Jf zw)
 (Th:EG K a "offer" "offer" Sv Hv)
 (acO:EG K a "due" "due" acD Vc)
 (JL:EG K a "resting" "resting" Jg p7)
 (U:EG K a "ups" "ups" acE Vd)
 (Ti:EG K a "opens" "opens" Sw As)
 (JM:EG K a "open_at" "open_at" Jh zx)
 (Tj:EG K a "up_of" "up_of" Sx Hw)
 (yt:EM K d "__init__" "Town.__init__" xO lW)
 (Dg:EM K d "name" "Town.name" Cf rB)
 (Dh:EM K d "rope" "Town.rope" Cg rC)
 (sI:EM K d "ropes_at" "Town.ropes_at" r8 jM)
 (vG:EM K d "far_end" "Town.far_end" uU kH)
 (Di:EM K d "lets" "Town.lets" Ci rD)
 (yu:EG K a "check_names" "check_names" xP lX)
 (yv:EG K a "check_ropes" "check_ropes" xQ lY)
 (AN:EG K a "check_rope" "check_rope" Ah oj)
 (Dj:EG K a "joins_two" "joins_two" Cj rE)
 (qd:EM K f "__init__" "Strands.__init__" pY i9)
 (vH:EM K f "fall" "Strands.fall" uV kI)
 (yw:EM K f "lay" "Strands.lay" xR lZ)
 (nj:EM K f "standing" "Strands.standing" m7 g8)
 (nv:EM K f "wire_for" "Strands.wire_for" m8 g9)
 (vI:EM K f "live" "Strands.live" uW kJ)
 (GC:EG K a "wires_of" "wires_of" F7 vc)
 (yx:EG K a "check_group" "check_group" xS mh)
 (sJ:EM K g "__init__" "Posted.__init__" r9 jN)
 (AO:EM K b "__init__" "Net.__init__" Ai om)
 (GD:EM K b "rows" "Net.rows" Ga vd)
 (GF:EM K b "live" "Net.live" Gb ve)
 (Dk:EM K b "opens" "Net.opens" Ck rF)
 (yy:EM K b "resting" "Net.resting" xU mj)
 (AQ:EM K b "row_at" "Net.row_at" Aj oq)
 (GG:EM K b "call" "Net.call" Gc vf)
 (GH:EM K b "fall" "Net.fall" Gd vg)
 (JN:EM K b "lay" "Net.lay" Ji zy)
 (JO:EM K b "had" "Net.had" Jj zA)
 (GI:EM K b "move" "Net.move" Ge vh)
 (GJ:aH K (.ref b) "post" = some (some (.ref o)))
 (GK:PySem.W.isFn K (.ref o)=true)
 (GL:K.lookup o=some ⟨Vp,Vq,.func (fm "post" "Net.post" (j5 jq) (gu jq) (av jq) (.ref y) KI KJ KL KO C7 KN),Vr⟩)
 (GN:jY K C7 "Net.post" = true)
 (AR:dJ K (.ref o)=true)
 (Dl:K.lookup y=some ⟨.type "tuple",S9,.seq #[.none] Vs,Tc⟩)
 (AS:EM K b "flying" "Net.flying" Ak ou)
 (yz:aH K (.ref b) "pass_on" = some (some (.ref n)))
 (yC:PySem.W.isFn K (.ref n)=true)
 (yD:K.lookup n=some ⟨Nl,Nm,.func (fm "pass_on" "Net.pass_on" (j5 f9) (gu f9) (av f9) (.ref yl) C8 C9 Dc De vB Dd),Np⟩)
 (yE:jY K vB "Net.pass_on" = true)
 (qY:dJ K (.ref n)=true)
 (vJ:K.lookup yl=some ⟨.type "tuple",Lj,.seq #[.int 0 jV] Nq,Lk⟩)
 (Dm:EM K b "story" "Net.story" Cm rG)
 (yF:EM K b "fate_of" "Net.fate_of" xV mq)
 (sL:EM K b "do_letter" "Net.do_letter" se jO)
 (qe:EM K b "callers_at" "Net.callers_at" pZ ja)
 (GO:EM K b "send" "Net.send" Gf vj)
 (o8:EM K b "lose_copies" "Net.lose_copies" nY iK)
 (sM:EM K b "take_news" "Net.take_news" sf jP)
 (jf:EM K b "take_news_of_rope" "Net.take_news_of_rope" i8 fc)
 (pe:EM K b "check_house" "Net.check_house" nZ iL)
 (ny:EM K b "check_caller" "Net.check_caller" m9 ia)
 (qh:EM K b "check_pair" "Net.check_pair" p5 jb)
 (AU:EG K a "first_rows" "first_rows" Al ow)
 (sN:EG K a "check_callers" "check_callers" sj jQ)
 (yG:EG K a "read_number" "read_number" xW mw)
 (vK:EG K a "read_numbers" "read_numbers" uX kK)
 (Dn:EG K a "read_town" "read_town" Cn rH)
 (AV:EG K a "read_names" "read_names" Am oz)
 (JP:EG K a "written" "written" Jk zB)
 (Nv:EG K a "listed" "listed" My CB)
 (yH:EG K a "answer_call" "answer_call" xX gK)
 (vL:EG K a "answer_round" "answer_round" uY gj)
 (yI:EG K a "answer_rest" "answer_rest" xY E)
 (AW:EG K a "answer_row" "answer_row" An R)
 (yJ:EG K a "answer_open" "answer_open" xZ gO)
 (yK:EG K a "answer_fall" "answer_fall" x6 gP)
 (AX:EG K a "answer_lay" "answer_lay" Ao v)
 (yM:EG K a "answer_move" "answer_move" x8 gQ)
 (yN:EG K a "answer_post" "answer_post" x9 gR)
 (yO:EG K a "answer_pass" "answer_pass" ya gU)
 (AY:EG K a "answer_run" "answer_run" Aq S)
 (sO:EG K a "answer_flying" "answer_flying" sq fN)
 (AZ:EG K a "answer_had" "answer_had" Ar iP)
 (vM:EG K a "answer_story" "answer_story" uZ gk)
 (yP:EM K l "__init__" "Desk.__init__" yb mz)
 (GP:EM K l "say" "Desk.say" Gg vm)
 (yQ:EG K a "read_behind" "read_behind" yc mC)
 (Dp:EG K a "_law_cell_at" "_law_cell_at" Co rJ)
 (Ny:EG K a "_law_rope" "_law_rope" Mz CC)
 (Nz:EG K a "_law_town" "_law_town" MA CF)
 (NB:EG K a "_law_text" "_law_text" MB CG)
 (JQ:EG K a "_law_shown" "_law_shown" Jl zC)
 (ND:EG K a "_law_word" "_law_word" MC CH)
 (NF:EG K a "_law_rows" "_law_rows" MD CI)
 (NH:EG K a "_law_wire" "_law_wire" ME CJ)
 (NI:EG K a "_law_post" "_law_post" MF CK)
 (Tn:EG K a "_law_run" "_law_run" Sy Hy)
 (JR:EG K a "_law_story" "_law_story" Jm zD)
 (Dq:EG K a "_law_letters" "_law_letters" Cq rK)
 (NJ:EG K a "_law_deed" "_law_deed" MG CL)
 (acQ:EG K a "law" "law" acF Ve)
 (Dr:EC K e)
 (qi:aH K (.ref e) "sender" = some none)
 (A0:aH K (.ref e) "to" = some none)
 (Y:EC K i)
 (sP:aH K (.ref i) "sender" = some none)
 (Dt:aH K (.ref i) "to" = some none)
 (HW:EC K j)
 (sQ:aH K (.ref j) "sender" = some none)
 (Du:aH K (.ref j) "to" = some none)
 (D:EC K g)
 (qj:aH K (.ref g) "letter" = some none)
 (sR:aH K (.ref g) "group" = some none)
 (yR:aH K (.ref g) "old" = some none)
 (pq:aH K (.ref g) "done_at" = some none)
 (sU:aH K (.ref g) "deeds" = some none)
 (NK:EC K d)
 (lI:aH K (.ref d) "house_names" = some none)
 (lJ:aH K (.ref d) "rope_tuples" = some none)
 (A1:aH K (.ref d) "size" = some none)
 (A2:aH K (.ref d) "many" = some none)
 (C:EC K f)
 (sV:aH K (.ref f) "town" = some none)
 (nA:aH K (.ref f) "upright" = some none)
 (NL:EC K k)
 (A3:aH K (.ref k) "kept" = some none)
 (Vt:EC K b)
 (Dw:aH K (.ref b) "town" = some none)
 (vN:aH K (.ref b) "strands" = some none)
 (kQ:aH K (.ref b) "rows_by_group" = some none)
 (A4:aH K (.ref b) "books" = some none)
 (A5:aH K (.ref b) "homes" = some none)
 (yS:aH K (.ref b) "groups" = some none)
 (yU:aH K (.ref b) "handed" = some none)
 (vO:aH K (.ref b) "letters" = some none)
 (yV:aH K (.ref b) "copies" = some none)
 (F:EC K l)
 (Dy:aH K (.ref l) "net" = some none)
 (vP:bw K mainGlobals "opens_opens" = some (some (.ref As)))
 (sW:bw K mainGlobals "resting_rows" = some (some (.ref p7)))
 (vQ:aH K (.ref j) "seeks" = some (some (.ref g7)))
 (sX:aH K (.ref j) "number" = some (some (.ref gy)))
 (NO:aH K (.ref j) "__init__" = some (some (.ref u)))
 (qk:PySem.W.specialIn K (.ref e) "__getattribute__" = some (some (.builtin "type.__getattribute__")))
 (qm:PySem.W.readsIn K e (.type "type")=true)
 (qo:PySem.W.findCls K (.ref e) (.type "type") "__init__" = some (.val (.ref u)))
 (JS:bw K mainGlobals "NoWire" = some (some (.ref J)))
 (JT:ab0 K J)
 (GQ:bw K mainGlobals "NoGroup" = some (some (.ref I)))
 (GR:ab0 K I)
 (yW:bw K mainGlobals "MOST_HOUSES" = some (some (.int 10 qU)))
 (A6:bw K mainGlobals "MOST_ROPES" = some (some (.int 20 ua)))
 (A7:bw K mainGlobals "MOST_WIRES" = some (some (.int 4 uc)))
 (A8:bw K mainGlobals "ALL_GROUPS" = some (some (.int 7 ud)))
 (vR:bw K mainGlobals "MOST_CALLERS" = some (some (.int 20 oS)))
 (A9:bw K mainGlobals "GROUP_BITS" = some (some (.ref V)))
 (Ba:K.lookup V=some ⟨.type "tuple",PK,.seq #[.int 1 PL,.int 2 PM,.int 4 PN] Td,PR⟩)
 (JU:bw K mainGlobals "FIGURES" = some (some (.str "0123456789" Er)))
 (vS:bw K mainGlobals "MOST_FIGURES" = some (some (.int 60 oU)))
 (vU:bw K mainGlobals "ROPE_NUMBERS" = some (some (.int 5 oV)))
 (qp:bw K mainGlobals "CALLER_NUMBERS" = some (some (.int 2 k7)))
 (JV:bw K mainGlobals "ANSWERS" = some (some (.ref nH)))
 (JW:DcK K w nH (ahV [("call",.ref CM),("round",.ref A),("rest",.ref CN),("row",.ref Ky),("open",.ref z),("fall",.ref CP),("lay",.ref O),("move",.ref M),("post",.ref CS),("pass",.ref CU),("run",.ref KA),("flying",.ref rL),("had",.ref KC),("story",.ref w9)]))
 (To:Hs K CM 2 gK)
 (NP:Hs K A 1 gj)
 (Tp:Hs K CN 1 E)
 (Xv:Hs K Ky 2 R)
 (Tq:Hs K z 1 gO)
 (Tr:Hs K CP 2 gP)
 (Xw:Hs K O 2 v)
 (Tt:Hs K M 2 gQ)
 (Tu:Hs K CS 2 gR)
 (Tv:Hs K CU 1 gU)
 (Xx:Hs K KA 0 S)
 (JX:Hs K rL 0 fN)
 (Xy:Hs K KC 1 iP)
 (NQ:Hs K w9 1 gk)
 (acR:bw K mainGlobals "len" = some none)
 (Bb:bw K mainGlobals "isinstance" = some none)
 (acS:bw K mainGlobals "int" = some none)
 (Xz:bw K mainGlobals "list" = some none)
 (Tw:bw K mainGlobals "tuple" = some none)
 (Tz:bw K mainGlobals "range" = some none)
 (Dz:bw K mainGlobals "enumerate" = some none)
 (acT:bw K mainGlobals "min" = some none)
 (acU:bw K mainGlobals "set" = some none)
 (N:bw K mainGlobals "str" = some none)
 (acW:bw K mainGlobals "all" = some none)
 (NR:bw K mainGlobals "sorted" = some none):∃t,Txt K a w t:=by
 obtain⟨qv,E8,E9⟩:=ym;obtain⟨tP,HX,TF⟩:=AL;obtain⟨tQ,HY,TH⟩:=AM;obtain⟨qw,Fb,PU⟩:=yo;obtain⟨Ef,Rg,aaA⟩:=JJ;obtain⟨Au,NT,XA⟩:=GB;obtain⟨mH,Bs,s⟩:=sG;obtain⟨oA,DA,NU⟩:=vC;obtain⟨oF,DB,P⟩:=vD;obtain⟨mJ,Bt,sY⟩:=sH;obtain⟨oG,DC,DE⟩:=vE;obtain⟨qx,Fc,PV⟩:=yp;obtain⟨qy,Fd,PX⟩:=yq;obtain⟨oH,DF,NV⟩:=vF;obtain⟨qz,Fe,PY⟩:=yr;obtain⟨Eg,Rh,aaB⟩:=JK;obtain⟨LG,YS,aeU⟩:=Th;obtain⟨YM,r,akw⟩:=acO;obtain⟨Eh,Ri,aaC⟩:=JL;obtain⟨YN,q,Z⟩:=U;obtain⟨LH,YT,aeV⟩:=Ti;obtain⟨Ei,Rj,B⟩:=JM;obtain⟨LI,YU,aeW⟩:=Tj;obtain⟨qA,Ff,Fg⟩:=yt;obtain⟨wO,KP,Vu⟩:=Dg;obtain⟨wQ,KQ,Vv⟩:=Dh;obtain⟨mK,Bu,Ll⟩:=sI;obtain⟨oJ,DG,NX⟩:=vG;obtain⟨wR,KR,Vw⟩:=Di;obtain⟨qB,Fi,PZ⟩:=yu;obtain⟨qC,Fj,P0⟩:=yv;obtain⟨tR,HZ,TM⟩:=AN;obtain⟨wU,KS,Vx⟩:=Dj;obtain⟨kY,zK,zL⟩:=qd;obtain⟨oK,DH,NY⟩:=vH;obtain⟨qD,Fk,P1⟩:=yw;obtain⟨jt,vW,GS⟩:=nj;obtain⟨ju,vX,GU⟩:=nv;obtain⟨oM,DI,NZ⟩:=vI;obtain⟨Av,Oa,XC⟩:=GC;obtain⟨qF,Fl,P4⟩:=yx;obtain⟨mL,Bv,Bw⟩:=sJ;obtain⟨tS,Ia,Ib⟩:=AO;obtain⟨Aw,Ob,XD⟩:=GD;obtain⟨Ax,Oc,XE⟩:=GF;obtain⟨wV,KU,Vy⟩:=Dk;obtain⟨qG,Fq,P5⟩:=yy;obtain⟨tT,Ic,TN⟩:=AQ;obtain⟨Ay,Od,XF⟩:=GG;obtain⟨Az,Oe,XG⟩:=GH;obtain⟨Ej,Rk,aaE⟩:=JN;obtain⟨Ek,Rl,aaF⟩:=JO;obtain⟨AA,Of,XH⟩:=GI;have vv:=YJ (st:=jq) GL GN AR Dl rfl;obtain⟨tU,Ie,TR⟩:=AS;have mD:=YJ (st:=f9) yD yE qY vJ rfl;obtain⟨wW,KW,Vz⟩:=Dm;obtain⟨qH,Ft,P6⟩:=yF;obtain⟨mO,Bx,Lm⟩:=sL;obtain⟨kZ,zM,JY⟩:=qe;obtain⟨AB,Og,XI⟩:=GO;obtain⟨j7,xq,Ig⟩:=o8;obtain⟨mP,By,Ln⟩:=sM;obtain⟨gv,nJ,zN⟩:=jf;obtain⟨j8,xr,Ih⟩:=pe;obtain⟨jv,vY,GV⟩:=ny;obtain⟨k6,zO,JZ⟩:=qh;obtain⟨tV,Ii,TU⟩:=AU;obtain⟨mQ,BA,Lo⟩:=sN;obtain⟨qI,Fv,P7⟩:=yG;obtain⟨oN,DJ,Oh⟩:=vK;obtain⟨wX,KY,VA⟩:=Dn;obtain⟨tW,Ij,TV⟩:=AV;obtain⟨El,Rm,aaG⟩:=JP;obtain⟨Hz,VB,acX⟩:=Nv;obtain⟨qJ,Fw,Qa⟩:=yH;obtain⟨oO,DK,Oi⟩:=vL;obtain⟨qK,Fx,Qc⟩:=yI;obtain⟨tX,Ik,TY⟩:=AW;obtain⟨qL,Fy,Qd⟩:=yJ;obtain⟨qM,Fz,Qe⟩:=yK;obtain⟨tY,Il,TZ⟩:=AX;obtain⟨qN,FA,Qf⟩:=yM;obtain⟨qO,FD,Qg⟩:=yN;obtain⟨qP,FE,Qh⟩:=yO;obtain⟨tZ,Im,T4⟩:=AY;obtain⟨mR,BB,Lp⟩:=sO;obtain⟨t9,Io,T5⟩:=AZ;obtain⟨oQ,DL,Oj⟩:=vM;obtain⟨qQ,FF,FG⟩:=yP;obtain⟨AD,Ol,XJ⟩:=GP;obtain⟨qR,FH,Qi⟩:=yQ;obtain⟨wY,KZ,VC⟩:=Dp;obtain⟨HA,VD,acY⟩:=Ny;obtain⟨HB,VE,acZ⟩:=Nz;obtain⟨HC,VF,ac0⟩:=NB;obtain⟨Em,Ro,Q⟩:=JQ;obtain⟨HD,VG,ac1⟩:=ND;obtain⟨HE,VH,L⟩:=NF;obtain⟨HF,VI,T⟩:=NH;obtain⟨HG,VJ,ac7⟩:=NI;obtain⟨LJ,YV,aeX⟩:=Tn;obtain⟨Eo,Rp,x⟩:=JR;obtain⟨wZ,K0,VL⟩:=Dq;obtain⟨HH,VM,ac8⟩:=NJ;obtain⟨Vf,p,aky⟩:=acQ;exact⟨⟨lQ,oh,oi,lR,zu,u0,u,kD,g7,gy,kE,lT,lU,kG,lV,zw,Hv,Vc,p7,Vd,As,zx,Hw,lW,rB,rC,jM,kH,rD,lX,lY,oj,rE,i9,kI,lZ,g8,g9,kJ,vc,mh,jN,om,vd,ve,rF,mj,oq,vf,vg,zy,zA,vh,ou,rG,mq,jO,ja,vj,iK,jP,fc,iL,ia,jb,ow,jQ,mw,kK,rH,oz,zB,CB,gK,gj,E,R,gO,gP,v,gQ,gR,gU,S,fN,iP,gk,mz,vm,mC,rJ,CC,CF,CG,zC,CH,CI,CJ,CK,Hy,zD,rK,CL,Ve,qv,tP,tQ,qw,Ef,Au,mH,oA,oF,mJ,oG,qx,qy,oH,qz,Eg,LG,YM,Eh,YN,LH,Ei,LI,qA,wO,wQ,mK,oJ,wR,qB,qC,tR,wU,kY,oK,qD,jt,ju,oM,Av,qF,mL,tS,Aw,Ax,wV,qG,tT,Ay,Az,Ej,Ek,AA,tU,wW,qH,mO,kZ,AB,j7,mP,gv,j8,jv,k6,tV,mQ,qI,oN,wX,tW,El,Hz,qJ,oO,qK,tX,qL,qM,tY,qN,qO,qP,tZ,mR,t9,oQ,qQ,AD,qR,wY,HA,HB,HC,Em,HD,HE,HF,HG,LJ,Eo,wZ,HH,Vf,o,(fm "post" "Net.post" (j5 jq) (gu jq) (av jq) (.ref y) KI KJ KL KO C7 KN),n,(fm "pass_on" "Net.pass_on" (j5 f9) (gu f9) (av f9) (.ref yl) C8 C9 Dc De vB Dd),jV,e,i,j,g,d,f,k,b,l,J,I,qU,ua,uc,ud,oS,V,Er,oU,oV,k7,nH,CM,A,CN,Ky,z,CP,O,M,CS,CU,KA,rL,KC,w9⟩,⟨⟨E8,E8.binds λ_ _ _ _ _ _=>PF λ_=>rfl,⟨NL.qc,E9.at_,E9.fn,NL.kc⟩⟩,
  ⟨HX,HX.binds λ_ _ _ _ _ _=>E2 λ_ _ _ _=>rfl,TF⟩,
  ⟨HY,HY.binds λ_ _ _ _ _ _=>IJ λ_ _ _=>rfl,TH⟩,
  ⟨Fb,Fb.binds λ_ _ _ _ _ _=>PF λ_=>rfl,PU⟩,
  ⟨Rg,Rg.binds λ_ _ _ _ _ _=>el6 λ_ _ _ _ _ _=>rfl,aaA⟩,
  ⟨NT,NT.binds λ_ _ _ _ _ _=>el6 λ_ _ _ _ _ _=>rfl,XA⟩,
  ⟨Bs,Bs.binds λ_ _ _ _ _ _=>uq λ_ _=>rfl,⟨Dr.qc,s.at_,s.fn,Dr.kc⟩⟩,
  ⟨DA,DA.binds λ_ _ _ _ _ _=>uq λ_ _=>rfl,NU⟩,
  ⟨DB,DB.binds λ_ _ _ _ _ _=>PF λ_=>rfl,P⟩,
  ⟨Bt,Bt.binds λ_ _ _ _ _ _=>PF λ_=>rfl,sY⟩,
  ⟨DC,DC.binds λ_ _ _ _ _ _=>IJ λ_ _ _=>rfl,⟨Y.qc,DE.at_,DE.fn,Y.kc⟩⟩,
  ⟨Fc,Fc.binds λ_ _ _ _ _ _=>uq λ_ _=>rfl,PV⟩,
  ⟨Fd,Fd.binds λ_ _ _ _ _ _=>PF λ_=>rfl,PX⟩,
  ⟨DF,DF.binds λ_ _ _ _ _ _=>PF λ_=>rfl,NV⟩,
  ⟨Fe,Fe.binds λ_ _ _ _ _ _=>uq λ_ _=>rfl,PY⟩,
  ⟨Rh,Rh.binds λ_ _ _ _ _ _=>uq λ_ _=>rfl,aaB⟩,
  ⟨YS,YS.binds λ_ _ _ _ _ _=>IJ λ_ _ _=>rfl,aeU⟩,
  ⟨r,r.binds λ_ _ _ _ _ _=>E2 λ_ _ _ _=>rfl,akw⟩,
  ⟨Ri,Ri.binds λ_ _ _ _ _ _=>IJ λ_ _ _=>rfl,aaC⟩,
  ⟨q,q.binds λ_ _ _ _ _ _=>IJ λ_ _ _=>rfl,Z⟩,
  ⟨YT,YT.binds λ_ _ _ _ _ _=>IJ λ_ _ _=>rfl,aeV⟩,
  ⟨Rj,Rj.binds λ_ _ _ _ _ _=>E2 λ_ _ _ _=>rfl,B⟩,
  ⟨YU,YU.binds λ_ _ _ _ _ _=>E2 λ_ _ _ _=>rfl,aeW⟩,
  ⟨Ff,Ff.binds λ_ _ _ _ _ _=>IJ λ_ _ _=>rfl,⟨NK.qc,Fg.at_,Fg.fn,NK.kc⟩⟩,
  ⟨KP,KP.binds λ_ _ _ _ _ _=>uq λ_ _=>rfl,Vu⟩,
  ⟨KQ,KQ.binds λ_ _ _ _ _ _=>uq λ_ _=>rfl,Vv⟩,
  ⟨Bu,Bu.binds λ_ _ _ _ _ _=>uq λ_ _=>rfl,Ll⟩,
  ⟨DG,DG.binds λ_ _ _ _ _ _=>IJ λ_ _ _=>rfl,NX⟩,
  ⟨KR,KR.binds λ_ _ _ _ _ _=>IJ λ_ _ _=>rfl,Vw⟩,
  ⟨Fi,Fi.binds λ_ _ _ _ _ _=>PF λ_=>rfl,PZ⟩,
  ⟨Fj,Fj.binds λ_ _ _ _ _ _=>uq λ_ _=>rfl,P0⟩,
  ⟨HZ,HZ.binds λ_ _ _ _ _ _=>uq λ_ _=>rfl,TM⟩,
  ⟨KS,KS.binds λ_ _ _ _ _ _=>IJ λ_ _ _=>rfl,Vx⟩,
  ⟨zK,zK.binds λ_ _ _ _ _ _=>uq λ_ _=>rfl,⟨C.qc,zL.at_,zL.fn,C.kc⟩⟩,
  ⟨DH,DH.binds λ_ _ _ _ _ _=>IJ λ_ _ _=>rfl,NY⟩,
  ⟨Fk,Fk.binds λ_ _ _ _ _ _=>IJ λ_ _ _=>rfl,P1⟩,
  ⟨vW,vW.binds λ_ _ _ _ _ _=>uq λ_ _=>rfl,GS⟩,
  ⟨vX,vX.binds λ_ _ _ _ _ _=>IJ λ_ _ _=>rfl,GU⟩,
  ⟨DI,DI.binds λ_ _ _ _ _ _=>uq λ_ _=>rfl,NZ⟩,
  ⟨Oa,Oa.binds λ_ _ _ _ _ _=>uq λ_ _=>rfl,XC⟩,
  ⟨Fl,Fl.binds λ_ _ _ _ _ _=>PF λ_=>rfl,P4⟩,
  ⟨Bv,Bv.binds λ_ _ _ _ _ _=>IJ λ_ _ _=>rfl,⟨D.qc,Bw.at_,Bw.fn,D.kc⟩⟩,
  ⟨Ia,Ia.binds λ_ _ _ _ _ _=>IJ λ_ _ _=>rfl,⟨Vt.qc,Ib.at_,Ib.fn,Vt.kc⟩⟩,
  ⟨Ob,Ob.binds λ_ _ _ _ _ _=>uq λ_ _=>rfl,XD⟩,
  ⟨Oc,Oc.binds λ_ _ _ _ _ _=>uq λ_ _=>rfl,XE⟩,
  ⟨KU,KU.binds λ_ _ _ _ _ _=>uq λ_ _=>rfl,Vy⟩,
  ⟨Fq,Fq.binds λ_ _ _ _ _ _=>uq λ_ _=>rfl,P5⟩,
  ⟨Ic,Ic.binds λ_ _ _ _ _ _=>IJ λ_ _ _=>rfl,TN⟩,
  ⟨Od,Od.binds λ_ _ _ _ _ _=>IJ λ_ _ _=>rfl,XF⟩,
  ⟨Oe,Oe.binds λ_ _ _ _ _ _=>IJ λ_ _ _=>rfl,XG⟩,
  ⟨Rk,Rk.binds λ_ _ _ _ _ _=>IJ λ_ _ _=>rfl,aaE⟩,
  ⟨Rl,Rl.binds λ_ _ _ _ _ _=>uq λ_ _=>rfl,aaF⟩,
  ⟨Of,Of.binds λ_ _ _ _ _ _=>IJ λ_ _ _=>rfl,XH⟩,
  vv,
  (vv.binds (ps:=["self","sender","to"]) (ds:=[.none]) (m:=2) rfl λ_ _ _ _ _ _ _=>uq λ_ _=>⟨_,rfl,rfl⟩),
  (vv.binds (ps:=["self","sender","to"]) (ds:=[]) (m:=3) rfl λ_ _ _ _ _ _ _=>IJ λ_ _ _=>⟨_,rfl,rfl⟩),
  ⟨GJ,GK,AR⟩,
  ⟨Ie,Ie.binds λ_ _ _ _ _ _=>PF λ_=>rfl,TR⟩,
  mD,
  (mD.binds (ps:=["self","at"]) (ds:=[.int 0 jV]) (m:=1) rfl λ_ _ _ _ _ _ _=>PF λ_=>⟨_,rfl,rfl⟩),
  (mD.binds (ps:=["self","at"]) (ds:=[]) (m:=2) rfl λ_ _ _ _ _ _ _=>uq λ_ _=>⟨_,rfl,rfl⟩),
  ⟨yz,yC,qY⟩,
  ⟨KW,KW.binds λ_ _ _ _ _ _=>uq λ_ _=>rfl,Vz⟩,
  ⟨Ft,Ft.binds λ_ _ _ _ _ _=>E2 λ_ _ _ _=>rfl,P6⟩,
  ⟨Bx,Bx.binds λ_ _ _ _ _ _=>E2 λ_ _ _ _=>rfl,Lm⟩,
  ⟨zM,zM.binds λ_ _ _ _ _ _=>IJ λ_ _ _=>rfl,JY⟩,
  ⟨Og,Og.binds λ_ _ _ _ _ _=>E2 λ_ _ _ _=>rfl,XI⟩,
  ⟨xq,xq.binds λ_ _ _ _ _ _=>IJ λ_ _ _=>rfl,Ig⟩,
  ⟨By,By.binds λ_ _ _ _ _ _=>uq λ_ _=>rfl,Ln⟩,
  ⟨nJ,nJ.binds λ_ _ _ _ _ _=>uq λ_ _=>rfl,zN⟩,
  ⟨xr,xr.binds λ_ _ _ _ _ _=>uq λ_ _=>rfl,Ih⟩,
  ⟨vY,vY.binds λ_ _ _ _ _ _=>uq λ_ _=>rfl,GV⟩,
  ⟨zO,zO.binds λ_ _ _ _ _ _=>IJ λ_ _ _=>rfl,JZ⟩,
  ⟨Ii,Ii.binds λ_ _ _ _ _ _=>PF λ_=>rfl,TU⟩,
  ⟨BA,BA.binds λ_ _ _ _ _ _=>uq λ_ _=>rfl,Lo⟩,
  ⟨Fv,Fv.binds λ_ _ _ _ _ _=>PF λ_=>rfl,P7⟩,
  ⟨DJ,DJ.binds λ_ _ _ _ _ _=>uq λ_ _=>rfl,Oh⟩,
  ⟨KY,KY.binds λ_ _ _ _ _ _=>PF λ_=>rfl,VA⟩,
  ⟨Ij,Ij.binds λ_ _ _ _ _ _=>PF λ_=>rfl,TV⟩,
  ⟨Rm,Rm.binds λ_ _ _ _ _ _=>PF λ_=>rfl,aaG⟩,
  ⟨VB,VB.binds λ_ _ _ _ _ _=>PF λ_=>rfl,acX⟩,
  ⟨Fw,Fw.binds λ_ _ _ _ _ _=>uq λ_ _=>rfl,Qa⟩,
  ⟨DK,DK.binds λ_ _ _ _ _ _=>uq λ_ _=>rfl,Oi⟩,
  ⟨Fx,Fx.binds λ_ _ _ _ _ _=>uq λ_ _=>rfl,Qc⟩,
  ⟨Ik,Ik.binds λ_ _ _ _ _ _=>uq λ_ _=>rfl,TY⟩,
  ⟨Fy,Fy.binds λ_ _ _ _ _ _=>uq λ_ _=>rfl,Qd⟩,
  ⟨Fz,Fz.binds λ_ _ _ _ _ _=>uq λ_ _=>rfl,Qe⟩,
  ⟨Il,Il.binds λ_ _ _ _ _ _=>uq λ_ _=>rfl,TZ⟩,
  ⟨FA,FA.binds λ_ _ _ _ _ _=>uq λ_ _=>rfl,Qf⟩,
  ⟨FD,FD.binds λ_ _ _ _ _ _=>uq λ_ _=>rfl,Qg⟩,
  ⟨FE,FE.binds λ_ _ _ _ _ _=>uq λ_ _=>rfl,Qh⟩,
  ⟨Im,Im.binds λ_ _ _ _ _ _=>uq λ_ _=>rfl,T4⟩,
  ⟨BB,BB.binds λ_ _ _ _ _ _=>uq λ_ _=>rfl,Lp⟩,
  ⟨Io,Io.binds λ_ _ _ _ _ _=>uq λ_ _=>rfl,T5⟩,
  ⟨DL,DL.binds λ_ _ _ _ _ _=>uq λ_ _=>rfl,Oj⟩,
  ⟨FF,FF.binds λ_ _ _ _ _ _=>uq λ_ _=>rfl,⟨F.qc,FG.at_,FG.fn,F.kc⟩⟩,
  ⟨Ol,Ol.binds λ_ _ _ _ _ _=>uq λ_ _=>rfl,XJ⟩,
  ⟨FH,FH.binds λ_ _ _ _ _ _=>uq λ_ _=>rfl,Qi⟩,
  ⟨KZ,KZ.binds λ_ _ _ _ _ _=>uq λ_ _=>rfl,VC⟩,
  ⟨VD,VD.binds λ_ _ _ _ _ _=>uq λ_ _=>rfl,acY⟩,
  ⟨VE,VE.binds λ_ _ _ _ _ _=>PF λ_=>rfl,acZ⟩,
  ⟨VF,VF.binds λ_ _ _ _ _ _=>PF λ_=>rfl,ac0⟩,
  ⟨Ro,Ro.binds λ_ _ _ _ _ _=>PF λ_=>rfl,Q⟩,
  ⟨VG,VG.binds λ_ _ _ _ _ _=>IJ λ_ _ _=>rfl,ac1⟩,
  ⟨VH,VH.binds λ_ _ _ _ _ _=>IJ λ_ _ _=>rfl,L⟩,
  ⟨VI,VI.binds λ_ _ _ _ _ _=>IJ λ_ _ _=>rfl,T⟩,
  ⟨VJ,VJ.binds λ_ _ _ _ _ _=>IJ λ_ _ _=>rfl,ac7⟩,
  ⟨YV,YV.binds λ_ _ _ _ _ _=>PF λ_=>rfl,aeX⟩,
  ⟨Rp,Rp.binds λ_ _ _ _ _ _=>uq λ_ _=>rfl,x⟩,
  ⟨K0,K0.binds λ_ _ _ _ _ _=>E2 λ_ _ _ _=>rfl,VL⟩,
  ⟨VM,VM.binds λ_ _ _ _ _ _=>el5 λ_ _ _ _ _=>rfl,ac8⟩,
  ⟨p,p.binds λ_ _ _ _ _ _=>PF λ_=>rfl,aky⟩,
  Dr.c,
  (bR X G JH),
  qi,
  A0,
  Y.c,
  (bR X G Nt),
  sP,
  Dt,
  HW.c,
  (bR X G Nu),
  sQ,
  Du,
  D.c,
  (bR X G JI),
  qj,
  sR,
  yR,
  pq,
  sU,
  NK.c,
  (bR X G Te),
  lI,
  lJ,
  A1,
  A2,
  C.c,
  (bR X G GA),
  sV,
  nA,
  NL.c,
  (bR X G Tf),
  A3,
  Vt.c,
  (bR X G Xu),
  Dw,
  vN,
  kQ,
  A4,
  A5,
  yS,
  yU,
  vO,
  yV,
  F.c,
  (bR X G Tg),
  Dy,
  (bR X G vP),
  (bR X G sW),
  ⟨vQ,P.fn,P.kp⟩,
  ⟨sX,sY.fn,sY.kp⟩,
  ⟨HW.qc,NO,s.fn,HW.kc⟩,
  ⟨qk,qm,qo,s.kp⟩,
  (bR X G JS),
  JT,
  (bR X G GQ),
  GR,
  (bR X G yW),
  (bR X G A6),
  (bR X G A7),
  (bR X G A8),
  (bR X G vR),
  (bR X G A9),
  (λH=>.inr ⟨_,_,_,Ba,rfl,rfl,ur,(.cons ⟨_,rfl⟩ (.cons ⟨_,rfl⟩ (.cons ⟨_,rfl⟩ .nil)))⟩),
  (bR X G JU),
  (bR X G vS),
  (bR X G vU),
  (bR X G qp),
  (bR X G JV),
  JW,
  To,
  NP,
  Tp,
  Xv,
  Tq,
  Tr,
  Xw,
  Tt,
  Tu,
  Tv,
  Xx,
  JX,
  Xy,
  NQ,
  (c7 X G acR),
  (c7 X G Bb),
  (c7 X G acS),
  (c7 X G Xz),
  (c7 X G Tw),
  (c7 X G Tz),
  (c7 X G Dz),
  (c7 X G acT),
  (c7 X G acU),
  (c7 X G N),
  (c7 X G acW),
  (c7 X G NR)⟩⟩
end eX
namespace eX
open PySem L2 TW PyProof.Rows
open RM (cC jC bh aZ)
seal L2.PE L2.PA L2.PT L2.PW L2.PS L2.iQ L2.PG L2.kT L2.PI L2.kU
theorem aQ{CX:ZV}{P:Program}{w:World}{K:af}{d:Str->Option Value}{base:Heap}{N:List Str}{b:Str}{scope:Scope}{f:Addr}{c:Value}{A:Around}{a:List Env}{s:Shared}{H:Hp}{E:XK}:(pT CX P w K d base N b scope f c A a s H E).K=K:=rfl
local macro_rules|`(tactic|left)=>`(tactic|try dsimp only[aQ])
section
variable{P:Program}{w:World}{K:af}{mg:Str->Option Value}{base:Heap}
inductive ac9(K:af)(vs:List V)(H:Hp)(Q:VK)(E:XK):Prop
 |mk (a:Addr) (ns:List Int) (k:Int):vs=[.ref a,.int k]->bC K H a (ns.map V.int)->0<=k->Q (.int (ns.getD k.toNat 0)) H->ac9 K vs H Q E
theorem ug{t:Ad}(T:Txt K mg w t):bL P w K mg base fP 1 t.rJ t.wY ["_law_script","_law_k"]  (ac9 K):=by
 refine T.rM.F.gB SM λH Q E g h=>?_
 ·obtain⟨a,ns,i,rfl,b,f,k⟩:=h
  refine⟨_,(ao (b4 (qT tE (pv 1) (lS T.fR (pv 0))) (oR (xL (pv 0) (pv 1))) br) (oR az)),?_⟩
  left
  refine⟨_,rfl,_,rfl,a,_,rfl,.inl b,_,_,rfl,rfl,_,rfl,?_⟩;refine jh (λc=>?_) (λc=>?_)
  ·have d:i<ns.length:=by simpa using c
   refine⟨_,rfl,_,rfl,a,_,_,_,rfl,rfl,b,abW f d,k⟩
  ·have d:¬i<ns.length:=by simpa using c
   have e:ns.getD i.toNat 0=0:=by
    rw[aj,jG ∅];rfl
   rw[e] at k;exact k
inductive YW(vs:List V)(H:Hp)(Q:VK)(E:XK):Prop
 |mk (n a b:Int):vs=[.int n,.int a,.int b]->0<=a->a<n->0<=b->b<n->a≠b->Q (.bl true) H->YW  vs H Q E
theorem T6{t:Ad}(T:Txt K mg w t):bL P w K mg base fP 1 t.rE t.wU ["size","one","other"]  YW:=by
 refine T.KE.F.gB SG λH Q E i h=>?_
 ·obtain⟨n,a,b,rfl,d,f,e,c,g,k⟩:=h
  refine⟨_,(oR (abm (Uy nQ tE az (pv 1) (pv 0)) (abm (Uy nQ tE az (pv 2) (pv 0)) (ag4 (qE wC (pv 1) (pv 2)))))),?_⟩
  left
  refine⟨_,rfl,_,_,rfl,rfl,_,rfl,?_⟩;rw[eO d];refine dZ ⟨_,rfl,_,_,rfl,rfl,_,rfl,?_⟩;rw[eO f];refine dZ ⟨_,rfl,_,_,rfl,rfl,_,rfl,?_⟩;rw[eO e];refine dZ ⟨_,rfl,_,_,rfl,rfl,_,rfl,?_⟩;rw[eO c];refine dZ ⟨_,rfl,_,rfl,rfl,?_⟩;rw[e8 (λz=>g (V.int.inj z))];exact k
inductive K1(K:af)(vs:List V)(H:Hp)(Q:VK)(E:XK):Prop
 |mk (n:Int) (p:Addr) (a b c d e:Int):vs=[.int n,.ref p]->cR K H p (ake a b c d e)->ab1 n a b c d e->Q .dH H->K1 K vs H Q E
theorem Qj{t:Ad}(T:Txt K mg w t):bL P w K mg base fP 2 t.oj t.tR ["size","rope"]  (K1 K):=by
 refine T.HM.F.gB Pk λH Q E u h=>?_
 ·obtain⟨n,p,a,b,c,d,e,rfl,f,j,k⟩:=h
  obtain⟨l,r,x,s,i,y,q,o,m,g⟩:=j;refine⟨_,(ao (b4 (qT wC (lS T.fR (pv 1)) az) cH br) (ao (b4 (kB (mW (cG (T6 T) u T.KE (Jc (pv 0) (xT (pv 1) az) (xT (pv 1) az))))) cH br) (ao (b4 (qT tE (xT (pv 1) az) az) cH br) (ao (b4 (kB (iZ nQ nQ az (xT (pv 1) az) (iu rfl T.SY (v:=.int 4) ⟨_,rfl⟩))) cH br) (bQ (b4 (kB (iZ nQ nQ az (xT (pv 1) az) (iu rfl T.S5 (v:=.int 7) ⟨_,rfl⟩))) cH br)))))),?_⟩
  left
  refine⟨_,rfl,p,_,rfl,.inr f,rfl,_,rfl,dO ?_⟩;refine⟨_,rfl,_,rfl,p,_,_,_,rfl,rfl,f,rfl,_,rfl,p,_,_,_,rfl,rfl,f,rfl,?_⟩;refine⟨_,_,_,rfl,l,r,x,s,i,_,rfl,dO ?_⟩;refine⟨_,rfl,p,_,_,_,rfl,rfl,f,rfl,_,_,rfl,rfl,_,rfl,?_⟩;rw[e8 (show ¬c<1 by lia)];refine dO ?_;refine⟨_,rfl,p,_,_,_,rfl,rfl,f,rfl,_,_,rfl,rfl,_,rfl,?_⟩;rw[eO q];refine dZ ?_;refine⟨_,_,rfl,rfl,_,rfl,?_⟩;rw[eO o];refine dO ?_;refine⟨_,rfl,p,_,_,_,rfl,rfl,f,rfl,_,_,rfl,rfl,_,rfl,?_⟩;rw[eO m];refine dZ ?_;refine⟨_,_,rfl,rfl,_,rfl,?_⟩;rw[eO g];refine dO ?_;exact k
inductive Ip(K:af)(vs:List V)(H:Hp)(Q:VK)(E:XK):Prop
 |mk (n:Int) (l:Addr) (rs:List R5):vs=[.int n,.ref l]->Me K H l rs->rs.length<=20->(∀r∈rs,r.Ok n)->Q .dH H->Ip K vs H Q E
theorem Om{t:Ad}(T:Txt K mg w t):bL P w K mg base fP 3 t.lY t.qC ["size","ropes"]  (Ip K):=by
 refine T.EU.F.gB Cr λH Q E z h=>?_
 ·obtain⟨n,l,o,rfl,u,B,r,k⟩:=h
  obtain⟨d,f,A,q⟩:=u.at;refine⟨_,(ao (b4 (qT Yn (lS T.fR (pv 1)) (iu rfl T.SX (v:=.int 20) ⟨_,rfl⟩)) cH br) (bQ (fS (dB (pv 1)) (gT 2 Cr) (oE (cG (Qj T) z T.HM (jD (pv 0) (pv 2))))))),?_⟩
  left
  refine⟨_,rfl,l,_,rfl,.inl f,_,_,rfl,rfl,_,rfl,?_⟩;rw[e8 (show ¬(20:Int)<d.length by lia)];refine dO ?_;refine⟨_,rfl,l,rfl,⟨_,f⟩,uE (K:=K) (a:=l) (xs:=d) (λi b c=>c=H/\∃v,b=[some (.int n),some (.ref l),v]) ⟨rfl,_,rfl⟩ (λi b c _ ⟨e,_⟩=>by rw[e];exact f) ?_ ?_⟩
  ·rintro i y b c m ⟨rfl,v,rfl⟩
   have s:i<d.length:=(ai.mp m).1;have g:o[i]?=some o[i]:=-_
   obtain⟨p,j,x⟩:=q i _ g;rw[m] at j;cases j;refine⟨_,rfl,_,rfl,n,p,_,_,_,_,_,rfl,x,r _ (aI g),rfl,_,rfl⟩
  ·rintro b c ⟨rfl,v,rfl⟩
   exact k
inductive Iq(K:af)(vs:List V)(H:Hp)(Q:VK)(E:XK):Prop
 |mk (l:Addr) (ns:List Int):vs=[.ref l]->bC K H l (ns.map V.int)->1<=ns.length->ns.length<=10->(∀n∈ns,0<=n)->ns.Nodup->(∀H',aC H H'->Q .dH H')->Iq K vs H Q E
theorem Oo{t:Ad}(T:Txt K mg w t):bL P w K mg base fP 1 t.lX t.qB ["names"]  (Iq K):=by
 refine T.ET.F.gB MR λH Q E r h=>?_
 ·obtain⟨l,ns,rfl,a,n,q,j,g,k⟩:=h
  refine⟨_,(ao (b4 (kB (iZ nQ nQ az (lS T.fR (pv 0)) (iu rfl T.PD (v:=.int 10) ⟨_,rfl⟩))) cH br) (ao (b4 (qT tE (cB (aaa rfl) T.aku boot_min (cX (pv 0))) az) cH br) (bQ (b4 (qT wC (cB Z9 T.fR PySem.boot_len (cX (bS (Z8 rfl) (by rfl) T.akv boot_set (cX (pv 0))))) (lS T.fR (pv 0))) cH br)))),?_⟩
  left
  refine⟨_,rfl,l,_,rfl,.inl a,_,_,rfl,rfl,_,rfl,?_⟩;rw[eO (show (1:Int)<=(ns.map V.int).length by rw[ah];lia)];refine dZ ?_;refine⟨_,_,rfl,rfl,_,rfl,?_⟩;rw[eO (show ((ns.map V.int).length:Int)<=10 by rw[ah];lia)];refine dO ?_;refine⟨_,rfl,l,ns,rfl,a,∅,λm e f=>?_⟩;refine⟨_,_,rfl,rfl,_,rfl,?_⟩;rw[e8 (show ¬m<0 by have:=j m e;lia)];refine dO ?_;refine⟨_,rfl,l,ns,rfl,a,bK (show ns.length+1<100 by lia) (!_),λp b=>?_⟩;have c:=aC.new (o:=.set (λd=>(firstMet (λi=>ns.getD i 0) ns.length).any (·==d)) (firstMet (λi=>ns.getD i 0) ns.length).length) b;refine⟨p,_,_,rfl,aq,_,rfl,l,_,rfl,.inl (c.seq a),rfl,_,rfl,?_⟩;rw[Mf ns g,ah];simp only[decide_true,Bool.not_true];refine dO ?_;exact k _ (aC.new b)
inductive ada(K:af)(C:Addr)(vs:List V)(H:Hp)(Q:VK)(E:XK):Prop
 |mk (p dx l1 l2:Addr) (ns:List Int) (rs:List R5):vs=[.ref p,.ref l1,.ref l2]->H p=some (.ins C dx [])->bC K H l1 (ns.map V.int)->Me K H l2 rs->1<=ns.length->ns.length<=10->(∀n∈ns,0<=n)->ns.Nodup->rs.length<=20->(∀r∈rs,r.Ok ns.length)->(∀ln lr H',H ln=none->H lr=none->cy K C H' p ln lr ns rs->(∀b o,H b=some o->b≠p->H' b=some o)->Q .dH H')->ada K C vs H Q E
theorem DM{t:Ad}(T:Txt K mg w t):bL P w K mg base fP 4 t.lW t.qA ["self","names","ropes"]  (ada K t.aP):=by
 refine T.yh.F.gB MQ λH Q E hr h=>?_
 ·obtain⟨p,d,y,z,ns,rs,rfl,hp,U,hR,h1,h2,h3,h4,h5,h6,k⟩:=h
  refine⟨_,(ao (dN (cG (Oo T) hr T.ET (cX (pv 1)))) (ao (dN (cG (Om T) hr T.EU (jD (lS T.fR (pv 1)) (pv 2)))) (ao (fU (pv 0) (bS fG (by rfl) T.sF boot_list (cX (pv 1))) rfl) (ao (fU (pv 0) (bS fG (by rfl) T.sF boot_list (cX (pv 2))) rfl) (ao (fU (pv 0) (lS T.fR (pv 1)) rfl) (bQ (fU (pv 0) (lS T.fR (pv 2)) rfl))))))),?_⟩
  left
  refine⟨_,rfl,y,ns,rfl,U,h1,h2,h3,h4,λX r=>?_⟩;refine⟨_,rfl,y,_,rfl,.inl (r.seq U),?_⟩;refine⟨_,rfl,(ns.length:Int),z,rs,-_,hR.mono r,h5,h6,?_⟩;have i:=r _ _ hp;have hR1:=hR.mono r;have J:=r.seq U;obtain⟨_,f,e,hq,L⟩:=id hR1;cases e;refine⟨_,rfl,y,_,rfl,.inl J,λg W=>?_⟩;have l:p≠g:=aJ i W;have s2:=aC.new (o:=.lst (ns.map V.int)) W;refine⟨_,rfl,p,_,d,[],rfl,s2 _ _ i,T.fk,T.vA,!_,?_⟩;rw[dS (names:=[]) rfl rfl];generalize m:upd (upd X g (.lst (ns.map V.int))) p (.ins t.aP d ([]++[(Str.ofString "house_names",V.ref g)]))=H2;have I:∀b o,X b=some o->b≠p->H2 b=some o:=λb o e a=>by rw[<- m,aK a];exact s2 _ _ e
  have c:H2 p=some (.ins t.aP d [(Str.ofString "house_names",V.ref g)]):=by rw[<- m];exact aq
  have hn2:H2 g=some (.lst (ns.map V.int)):=by rw[<- m,aK (cu l),aq]
  have fr2:∀{b:Addr},X b=none->b≠p->b≠g->H2 b=none:=λ{b} e n1 n2=>by rw[<- m,aK n1,aK n2];exact e
  have S:bC K H2 y (ns.map V.int):=D5 (λb o e a=>I b o e a) i J;have M:bC K H2 z f:=D5 (λb o e a=>I b o e a) i hq;have Y:cW K H2 (rs.map R5.D) f:=kC (λb o e a=>I b o e a) i L;refine⟨_,rfl,z,_,rfl,.inl M,λj x=>?_⟩;have n:p≠j:=aJ c x;have s3:=aC.new (o:=.lst f) x;refine⟨_,rfl,p,_,d,_,rfl,s3 _ _ c,T.fk,T.ig,(by show 1<1000;decide),?_⟩;rw[dS (names:=["house_names"]) rfl (by decide +kernel)];generalize s:upd (upd H2 j (.lst f)) p (.ins t.aP d ([(Str.ofString "house_names",V.ref g)]++[(Str.ofString "rope_tuples",V.ref j)]))=H3;have A:∀b o,H2 b=some o->b≠p->H3 b=some o:=λb o e a=>by rw[<- s,aK a];exact s3 _ _ e
  have v:H3 p=some (.ins t.aP d [(Str.ofString "house_names",V.ref g),(Str.ofString "rope_tuples",V.ref j)]):=by rw[<- s];exact aq
  have O:H3 j=some (.lst f):=by rw[<- s,aK (cu n),aq]
  have hn3:=A _ _ hn2 (cu l);have Z:bC K H3 y (ns.map V.int):=D5 A c S;have hq3:bC K H3 z f:=D5 A c M;have anw:cW K H3 (rs.map R5.D) f:=kC A c Y;refine⟨_,rfl,y,_,rfl,.inl Z,_,rfl,p,_,d,_,rfl,v,T.fk,T.jk,(by show 2<1000;decide),?_⟩;rw[dS (names:=["house_names","rope_tuples"]) rfl (by decide +kernel)];generalize B:upd H3 p (.ins t.aP d ([(Str.ofString "house_names",V.ref g),(Str.ofString "rope_tuples",V.ref j)]++[(Str.ofString "size",V.int ((ns.map V.int).length:Nat))]))=H4;have G:∀b o,H3 b=some o->b≠p->H4 b=some o:=λb o e a=>by rw[<- B,aK a];exact e
  have C:H4 p=some (.ins t.aP d [(Str.ofString "house_names",V.ref g),(Str.ofString "rope_tuples",V.ref j),(Str.ofString "size",V.int ((ns.map V.int).length:Nat))]):=by rw[<- B];exact aq
  have hq4:bC K H4 z f:=D5 G v hq3;have R:cW K H4 (rs.map R5.D) f:=kC G v anw;refine⟨_,rfl,z,_,rfl,.inl hq4,_,rfl,p,_,d,_,rfl,C,T.fk,T.xj,(by show 3<1000;decide),?_⟩;rw[dS (names:=["house_names","rope_tuples","size"]) rfl (by decide +kernel)];have N:∀b o,H4 b=some o->b≠p->∀u,(upd H4 p u) b=some o:=λb o e a u=>by rw[aK a];exact e
  have eus:f.length=rs.length:=by rw[L.length,ah]
  refine k g j _ (r.free W) ?_ ⟨⟨d,?_⟩,?_,f,?_,kC (λb o e a=>N b o e a _) C R⟩ ?_
  ·cases q:H j with
   |none=>rfl
   |some o =>
    have:=I j o (r _ _ q) (λe=>n e.symm)
    rw[x] at this;cases this
  ·rw[aq,eus,ah]
   rfl
  ·exact N _ _ (G _ _ hn3 (cu l)) (cu l) _
  ·exact N _ _ (G _ _ O (cu n)) (cu n) _
  ·exact λb o e a=>N _ _ (G _ _ (A _ _ (I _ _ (r _ _ e) a) a) a) a _
inductive adb(K:af)(C:Addr)(vs:List V)(H:Hp)(Q:VK)(E:XK):Prop
 |mk (p ln lr:Addr) (ns:List Int) (rs:List R5) (i:Nat) (n:Int):vs=[.ref p,.int i]->cy K C H p ln lr ns rs->ns[i]?=some n->Q (.int n) H->adb K C vs H Q E
theorem T7{t:Ad}(T:Txt K mg w t):bL P w K mg base fP 1 t.rB t.wO ["self","house"]  (adb K t.aP):=by
 refine T.KD.F.gB Sz λH Q E o h=>?_
 ·obtain⟨p,b,r,l,q,i,n,rfl,c,e,k⟩:=h
  obtain⟨⟨g,f⟩,j,m,a,d⟩:=id c;refine⟨_,(oR (xL (aT (pv 0) rfl) (pv 1))),?_⟩
  left
  refine⟨_,rfl,p,_,g,_,_,rfl,f,T.fk,T.vA,rfl,_,rfl,b,_,_,_,rfl,rfl,bC.of j,dD (v:=V.int n) (by rw[ak,e];rfl),k⟩
inductive ade(K:af)(C:Addr)(vs:List V)(H:Hp)(Q:VK)(E:XK):Prop
 |mk (p ln lr:Addr) (ns:List Int) (rs:List R5) (i:Nat) (r:R5):vs=[.ref p,.int i]->cy K C H p ln lr ns rs->rs[i]?=some r->(∀q,H q=some (.tup r.vs)∨cR K H q r.vs->Q (.ref q) H)->ade K C vs H Q E
theorem Ir{t:Ad}(T:Txt K mg w t):bL P w K mg base fP 1 t.rC t.wQ ["self","number"]  (ade K t.aP):=by
 refine T.CZ.F.gB SA λH Q E x h=>?_
 ·obtain⟨p,s,n,ns,y,i,r,rfl,f,g,k⟩:=h
  obtain⟨⟨m,j⟩,z,u,a,b⟩:=id f;obtain⟨v,o,c⟩:=b.get (i:=i) (d:=r.D) (by rw[ak,g];rfl);obtain⟨q,e,l⟩:=Rep.BW (ns:=r.ns) c;subst e;refine⟨_,(oR (xL (aT (pv 0) rfl) (pv 1))),?_⟩
  left
  exact⟨_,rfl,p,_,m,_,_,rfl,j,T.fk,T.ig,rfl,_,rfl,n,_,_,_,rfl,rfl,bC.of a,dD o,k q (.inr l)⟩
inductive agq(K:af)(C:Addr)(vs:List V)(H:Hp)(Q:VK)(E:XK):Prop
 |mk (p ln lr:Addr) (ns:List Int) (rs:List R5) (i:Nat) (r:R5) (h:Int):vs=[.ref p,.int i,.int h]->cy K C H p ln lr ns rs->rs[i]?=some r->Q (.int (if h=r.a then r.b else r.a)) H->agq K C vs H Q E
theorem sZ{t:Ad}(T:Txt K mg w t):bL P w K mg base fP 1 t.kH t.oJ ["self","rope","house"]  (agq K t.aP):=by
 refine T.oX.F.gB Bk λH Q E B h=>?_
 ·obtain⟨p,z,u,ns,C,i,r,x,rfl,m,n,k⟩:=h
  obtain⟨⟨s,o⟩,G,A,b,f⟩:=id m;obtain⟨v,y,l⟩:=f.get (i:=i) (d:=r.D) (by rw[ak,n];rfl);obtain⟨q,e,j⟩:=Rep.BW (ns:=r.ns) l;subst e;refine⟨_,(ao (sS 3 Bk (xL (aT (pv 0) rfl) (pv 1))) (oR (jI (qT lD (pv 2) (xT (pv 3) az)) (xT (pv 3) az) (xT (pv 3) az)))),?_⟩
  left
  refine⟨_,rfl,p,_,s,_,_,rfl,o,T.fk,T.ig,rfl,_,rfl,u,_,_,_,rfl,rfl,bC.of b,dD y,?_⟩;refine⟨_,rfl,_,rfl,q,_,_,_,rfl,rfl,j,rfl,rfl,_,rfl,?_⟩;refine jh (λc=>?_) (λc=>?_)
  ·have g:x=r.a:=by simpa using c
   rw[b3 g] at k;exact⟨_,rfl,q,_,_,_,rfl,rfl,j,rfl,k⟩
  ·have g:¬x=r.a:=by simpa using c
   rw[eH g] at k;exact⟨_,rfl,q,_,_,_,rfl,rfl,j,rfl,k⟩
inductive akz(K:af)(C:Addr)(vs:List V)(H:Hp)(Q:VK)(E:XK):Prop
 |mk (p ln lr:Addr) (ns:List Int) (rs:List R5) (h:Int):vs=[.ref p,.int h]->cy K C H p ln lr ns rs->rs.length<=20->(∀l H',aC H H'->H l=none->H' l=some (.lst (bE (lC rs h rs.length)))->Q (.ref l) H')->akz K C vs H Q E
theorem qq{t:Ad}(T:Txt K mg w t):bL P w K mg base fP 1 t.jM t.mK ["self","house"]  (akz K t.aP):=by
 refine T.mT.F.gB zk λH Q E hr h=>?_
 ·obtain⟨p,ln,lr,ns,rs,x,rfl,Y,pI,k⟩:=h
  obtain⟨⟨dx,hp⟩,hn,B,g,s⟩:=id Y;have J:B.length=rs.length:=by rw[s.length,ah]
  refine⟨_,(oR (dP (kO zk ["number","rope","house"] [none,none,some 1]) rfl (aen rfl T.Vn (cX (aT (pv 0) rfl))) (λ_ _ _ _=>by exact (aep K rfl (n:=2) rfl (G6 (gS 0 tF) (G6 (gS 1 tF) Yi)))) (λ_ _ _ _=>by exact (tN (nR (L7 K rfl) (pv 2) (dG (jD (yT K (pv 1) az) (yT K (pv 1) az))) (by with_unfolding_all rfl)))) (λ_ _ _ _=>by exact (pv 0)))),?_⟩
  left
  refine⟨_,rfl,p,_,dx,_,_,rfl,hp,T.fk,T.ig,rfl,lr,B,rfl,bC.of g,λj f=>?_⟩;refine gG (n:=B.length) (λi r _=>r=bE (lC rs x i)) f (ahC (bC.of g)) (abV (bC.of g)) rfl ?_ ?_
  ·rintro i r C O l A m y H3 ⟨q,v,L,rfl,rfl,hv⟩
   have G:=hv B (l.seq (bC.of g));have M:rs[i]?=some rs[i]:=-_
   obtain⟨v',u,X⟩:=s.get (i:=i) (d:=(rs[i]).D) (by rw[ak,M];rfl);rw[G] at u;cases u;obtain⟨b,e,hb⟩:=Rep.BW (ns:=(rs[i]).ns) X;subst e;have z:=(l.out (o:=.tup [.int (i:Nat),.ref b]) (l.free L)).cV hb;have nq:j≠q:=aJ A L;refine⟨q,_,rfl,cR.of aq,rfl,_,_,rfl,_,_,rfl,rfl,?_⟩;refine⟨_,rfl,_,rfl,b,_,_,_,rfl,rfl,z,rfl,_,rfl,b,_,_,_,rfl,rfl,z,rfl,ff,λc W=>?_⟩;refine⟨c,_,rfl,.inr (cR.of aq),rfl,rfl,_,rfl,?_⟩;have Z:Uo (V.int x) [V.int rs[i].a,V.int rs[i].b]=isAt rs x i:=by
    unfold isAt;rw[M];exact ahH _ _ _
   have S:=l.out (o:=.tup [.int (i:Nat),.ref b]) (l.free L);have N:=S.out (o:=.tup [V.int rs[i].a,V.int rs[i].b]) (S.free W);have R:(upd (upd C q (HO.tup [V.int (i:Nat),V.ref b])) c (HO.tup [V.int rs[i].a,V.int rs[i].b])) j=some (.lst r):=by
    have U:(upd C q (HO.tup [V.int (i:Nat),V.ref b])) j=some (.lst r):=by rw[aK nq];exact A
    rw[aK (aJ U W)];exact U
   try dsimp only
   rw[eH aO,Z];have hl:r.length<sizeLine:=by rw[m,ah];exact bq (ay (aeB rs x i) ∅) (bX (aB _))
   refine jh (λI=>?_) (λI=>?_)
   ·exact⟨_,rfl,fH f O N R hl (by rw[m,UR,b3 I,jn])⟩
   ·exact kW O N R (by rw[m,UR,eH I,fD])
  ·intro r C l A m
   rw[J] at m;exact k j C l f (by rw[A,m])
inductive VN(K:af)(C:Addr)(vs:List V)(H:Hp)(Q:VK)(E:XK):Prop
 |mk (p ln lr:Addr) (ns:List Int) (rs:List R5) (i:Nat) (n:Int):vs=[.ref p,.int i]->cy K C H p ln lr ns rs->ns[i]?=some n->(∀q H',aC H H'->cR K H' q (cC ⟨n,0,0,-1⟩)->Q (.ref q) H')->VN K C vs H Q E
theorem Oq{t:Ad}(T:Txt K mg w t):bL P w K mg base fP 2 t.zw t.Eg ["town","house"]  (VN K t.aP):=by
 refine T.Jz.F.gB Xo λH Q E f h=>?_
 ·obtain⟨p,c,m,b,g,i,n,rfl,a,d,k⟩:=h
  obtain⟨⟨l,e⟩,_,_,_⟩:=id a;refine⟨_,(oR (dG (u9 (cM (pv 0) T.fk T.KD (T7 T) f (cX (pv 1))) az az lF))),?_⟩
  left
  refine⟨_,rfl,p,l,_,rfl,e,rfl,_,rfl,p,c,m,b,g,i,n,rfl,a,d,aaU,λq j=>?_⟩;exact k q _ (aC.new j) (cR.of aq)
inductive YX(K:af)(C:Addr)(vs:List V)(H:Hp)(Q:VK)(E:XK):Prop
 |mk (p ln lr:Addr) (ns:List Int) (rs:List R5) (i:Nat) (x:R5) (a:Addr) (r:RM.Row):vs=[.ref p,.ref a,.int i]->cy K C H p ln lr ns rs->rs[i]?=some x->cR K H a (cC r)->(¬r.ho+1<ns.length->∀H',aC H H'->Q .dH H')->(r.ho+1<ns.length->∀q H',aC H H'->cR K H' q (cC ⟨r.hd,r.co+x.c,r.ho+1,i⟩)->Q (.ref q) H')->YX K C vs H Q E
theorem VO{t:Ad}(T:Txt K mg w t):bL P w K mg base fP 2 t.Hv t.LG ["town","row","rope"]  (YX K t.aP):=by
 refine T.SW.F.gB U5 λH Q E v h=>?_
 ·obtain⟨p,l,B,ns,y,i,x,a,r,rfl,f,n,b,s,m⟩:=h
  obtain⟨⟨j,g⟩,_,_,_⟩:=id f;refine⟨_,(ao (sS 3 U5 (bG jl (xT (pv 1) az) az)) (ao (b4 (qT ajO (pv 3) (aT (pv 0) rfl)) (oR lF) br) (oR (dG (u9 (xT (pv 1) az) (bG jl (xT (pv 1) az) (xT (cM (pv 0) T.fk T.CZ (Ir T) v (cX (pv 2))) az)) (pv 3) (pv 2)))))),?_⟩
  left
  refine⟨_,rfl,a,_,_,_,rfl,rfl,b,rfl,_,_,rfl,rfl,?_⟩;refine⟨_,rfl,_,rfl,p,_,j,_,_,rfl,g,T.fk,T.jk,rfl,_,_,rfl,rfl,_,rfl,?_⟩;refine jh (λe=>?_) (λe=>?_)
  ·have o:(ns.length:Int)<=r.ho+1:=fT e
   exact s ∅ _ (aC.refl _)
  ·have o:¬(ns.length:Int)<=r.ho+1:=of_decide_eq_false (eq_false_of_ne_true e)
   refine⟨_,rfl,a,_,_,_,rfl,rfl,b,rfl,_,rfl,a,_,_,_,rfl,rfl,b,rfl,_,rfl,p,j,_,rfl,g,rfl,_,rfl,p,l,B,ns,y,i,x,rfl,f,n,λq A=>?_⟩;have d:cR K H q x.vs:=A.elim (λz=>cR.of z) id;refine⟨q,_,_,_,rfl,rfl,d,rfl,_,_,rfl,rfl,_,rfl,_,rfl,aaU,λu k=>?_⟩;refine m ∅ u _ (aC.new k) (cR.of ?_);rw[aq];show some (HO.tup [.int r.hd,.int (r.co+x.c),.int (r.ho+1),.int (i:Int)])=some (HO.tup [.int r.hd,.int (r.co+x.c),.int (r.ho+1),jC (i:Int)]);rw[aZ ∅]
inductive agr(K:af)(C:Addr)(vs:List V)(H:Hp)(Q:VK)(E:XK):Prop
 |mk (p ln lr c b:Addr) (ns:List Int) (rs:List R5) (live:List Nat) (nd:ns.Nodup) (ok:∀r∈rs,r.Ok ns.length) (hl:∀k∈live,k<rs.length) (R:Nat->RM.Row) (h:Nat):vs=[.ref p,.ref c,.ref b,.int h]->cy K C H p ln lr ns rs->bC K H c (bE live)->xC K H b ns.length R->h<ns.length->rs.length<=20->RM.Sane (bf ns rs live nd ok hl) R->(∀q d H',aC H H'->cR K H' q (cC d)->RM.zd (N:=bf ns rs live nd ok hl) ns.length R h d->Q (.ref q) H')->agr K C vs H Q E
theorem adf{t:Ad}(T:Txt K mg w t):bL P w K mg base fP 3 t.Vc t.YM ["town","live","rows","house"]  (agr K t.aP):=by
 refine T.acH.F.gB MN λH Q E hr h=>?_
 ·obtain⟨p,ln,lr,c,b,ns,rs,e,n,i,m,R,x,rfl,hT,hC,hR,hx,pI,aeA,k⟩:=h
  obtain⟨⟨dx,hp⟩,_,_,_⟩:=id hT;obtain⟨ps,hP,ePs,aaJ⟩:=hR;have enm:(bf ns rs e n i m).nm x=ns[x]:=by show ns.getD x 0=_;simp[aj,hx]
  refine⟨_,(ao (sS 4 MN (cG (Oq T) hr T.Jz (jD (pv 0) (pv 3)))) (ao (fS (dB (cM (pv 0) T.fk T.mT (qq T) hr (cX (pv 3)))) (gT 5 MN) (bQ (b4 (nR zc (pv 5) (pv 1) (by with_unfolding_all rfl)) (ao (sS 6 MN (cG (VO T) hr T.SW (Jc (pv 0) (xL (pv 2) (cM (pv 0) T.fk T.oX (sZ T) hr (jD (pv 5) (pv 3)))) (pv 5)))) (bQ (b4 (PW.pt (uD (qT R3 (pv 6) lF) (nO (qT (ahG (Nat.lt_of_succ_lt (UK hr))) (lN WU (pv 6) wD (mG az)) (lN WU (pv 4) wD (mG az)))))) (bQ (sS 4 MN (pv 6))) br))) br))) (oR (pv 4)))),?_⟩
  left
  refine⟨_,rfl,_,rfl,p,ln,lr,ns,rs,x,ns[x],rfl,hT,aa hx,λp0 H0 s0 hp0=>?_⟩;have hown:cR K H0 p0 (cC (RM.own (bf ns rs e n i m) x)):=by unfold RM.own;rw[enm];exact hp0
  refine⟨_,rfl,p,dx,_,rfl,s0 _ _ hp,rfl,_,rfl,p,ln,lr,ns,rs,x,rfl,hT.mono s0,pI,λl H1 s1 JG Y=>?_⟩;have s01:=s0.trans s1;refine⟨l,rfl,⟨_,bC.of Y⟩,?_⟩;generalize O:lC rs (x:Int) rs.length=v at Y;refine uE (K:=K) (a:=l) (xs:=bE v) (λj σ H2=>aC H1 H2/\∃(q:Addr) (d:RM.Row) (v5 v6:Option V),σ=[some (.ref p),some (.ref c),some (.ref b),some (.int x),some (.ref q),v5,v6]/\cR K H2 q (cC d) /\
   (d=RM.own (bf ns rs e n i m) x∨∃f g,f∈v.take j/\RM.LB (bf ns rs e n i m) f x g/\(R g).ho+1<ns.length/\d=RM.over (bf ns rs e n i m) f (R g))/\RM.le d (RM.own (bf ns rs e n i m) x) /\
   ∀f g,f∈v.take j->RM.LB (bf ns rs e n i m) f x g->(R g).ho+1<ns.length->RM.le d (RM.over (bf ns rs e n i m) f (R g)))
   ⟨aC.refl _,p0,RM.own (bf ns rs e n i m) x,_,_,rfl,s1.cV hown,.inl rfl,RM.le_refl _,λf g he=>by simp at he⟩ (λj σ H2 _ z=>bC.of (z.1 _ _ Y)) ?_ ?_
  ·rintro j y σ H2 hj ⟨s2,q,d,v5,v6,rfl,hq,d1,d2,S⟩
   have G:j<v.length:=by
    have:=(ai.mp hj).1
    rw[ah] at this;exact this
   rw[ak,aa G] at hj;cases hj;have et:v.take (j+1)=v.take j++[v[j]]:=by rw[pG,aa G];rfl
   have Z:v[j]∈v:=aD G;have ags:∀B∈v.take j,B<v[j]:=λB s=>aeC (O▸ab2 rs (x:Int) rs.length) G s;have M:(d=RM.own (bf ns rs e n i m) x∨∃f g,f∈v.take j++[v[j]]/\RM.LB (bf ns rs e n i m) f x g/\(R g).ho+1<ns.length/\d=RM.over (bf ns rs e n i m) f (R g)):=d1.imp id λ⟨a1,a2,a3,a4⟩=>⟨a1,a2,List.mem_append_left _ a3,a4⟩;rw[et];show gp 5 (V.int ((v[j]:Nat):Int)) _ _ _;generalize v[j]=f at Z ags M;rw[<- O,D7] at Z;obtain⟨hkl,hat⟩:=Z;have A:=s01.trans s2;refine⟨_,rfl,_,rfl,c,_,rfl,.inl (A.seq hC),rfl,nC e,_,rfl,?_⟩
   try dsimp only
   rw[eH aO,zg];refine jh (λN=>?_) (λN=>?_)
   case refine_2 =>
    have N:f∉e:=λz=>N (eO z);refine⟨s2,q,d,_,_,rfl,hq,M,d2,λB g s D4 X=>?_⟩;rcases bx.mp s with z|z
    ·exact S B g z D4 X
    ·rw[aX.mp z] at D4
     exact eL D4.1 N
   have N:f∈e:=fT N;have U:rs[f]?=some rs[f]:=aa hkl;have D4:RM.LB (bf ns rs e n i m) f x (jL rs[f] x):=(wF N).mpr ⟨hat,rfl⟩;have hgn:jL rs[f] x<ns.length:=D4.lt.2.1;have hgs:=aeA _ hgn;have adg:(if (x:Int)=rs[f].a then rs[f].b else rs[f].a)=((jL rs[f] x:Nat):Int):=by
    have o:=i _ (aD hkl);have h1:=o.a0;have h2:=o.b0;unfold jL;split <;> lia
   have adh:(bf ns rs e n i m).c f=rs[f].c:=by show ((rs[f]?).map λr=>r.c).getD 0=_;rw[U];rfl
   have fu:∀g,RM.LB (bf ns rs e n i m) f x g->g=jL rs[f] x:=λg a=>((wF N).mp a).2;generalize jL rs[f] x=g at D4 hgn hgs adg fu;have hpg:ps[g]?=some ps[g]:=aa ∅;have ah8:Kn (ps.map V.ref) (if (x:Int)=rs[f].a then rs[f].b else rs[f].a)=some (.ref ps[g]):=by rw[adg];exact dD (by rw[ak,hpg];rfl)
   have hrg:=A.cV (aaJ g _ hpg);refine⟨_,rfl,_,rfl,_,rfl,p,dx,_,rfl,A _ _ hp,rfl,_,rfl,_,rfl,p,ln,lr,ns,rs,f,rs[f],x,rfl,hT.mono A,U,b,_,_,_,rfl,rfl,A.seq hP,ah8,_,rfl,?_⟩;refine⟨p,ln,lr,ns,rs,f,rs[f],ps[g],R g,rfl,hT.mono A,U,hrg,λX H3 s3=>?_,λX u H3 s3 hu=>?_⟩
   ·refine⟨_,rfl,rfl,_,rfl,dO (dO ?_)⟩
    refine⟨s2.trans s3,q,d,_,_,rfl,s3.cV hq,M,d2,λB I s D W=>?_⟩;rcases bx.mp s with z|z
    ·exact S B I z D W
    ·rw[aX.mp z] at D
     rw[fu I D] at W;exact eL W X
   have eov:(⟨(R g).hd,(R g).co+rs[f].c,(R g).ho+1,f⟩:RM.Row)=RM.over (bf ns rs e n i m) f (R g):=by unfold RM.over;rw[adh]
   rw[eov] at hu;have J:=s3.cV hq;have L:=s2.trans s3;refine⟨_,rfl,rfl,_,rfl,dZ ?_⟩;have lex:Mb [V.int (RM.over (bf ns rs e n i m) f (R g)).hd,V.int (RM.over (bf ns rs e n i m) f (R g)).co,V.int (RM.over (bf ns rs e n i m) f (R g)).ho] [V.int d.hd,V.int d.co,V.int d.ho] (decide (RM.lt (RM.over (bf ns rs e n i m) f (R g)) d)):=RM.aew (by
    rcases d1 with z|⟨B,I,s,_,_,z⟩
    ·rw[z]
     intro _ _ e3
     have:(R g).ho+1=0:=e3
     lia
    ·have hlt':=ags B s
     rw[z];intro e1 e2 e3 e4;rcases e4 with e4|⟨_,e4|⟨_,e4|⟨_,e4⟩⟩⟩
     ·lia
     ·lia
     ·lia
     ·have:((f:Nat):Int)<((B:Nat):Int):=e4
      lia)
   have nw:∀r:RM.Row,¬(HT.nM (cC r).length 0 none=0/\HT.nM (cC r).length (cC r).length (some 3)=(cC r).length):=λr z=>eL z.2 (by show HT.nM 4 4 (some 3)≠4;decide);have ct:∀r:RM.Row,Ez (cC r) none (some 3)=[V.int r.hd,V.int r.co,V.int r.ho]:=λr=>rfl;refine⟨_,rfl,_,rfl,u,_,rfl,hu,nw _,λz1 hz1=>?_⟩;rw[ct];have t1:=aC.new (o:=.tup [V.int (RM.over (bf ns rs e n i m) f (R g)).hd,V.int (RM.over (bf ns rs e n i m) f (R g)).co,V.int (RM.over (bf ns rs e n i m) f (R g)).ho]) hz1;refine⟨_,rfl,_,rfl,q,_,rfl,t1.cV J,nw _,λz2 hz2=>?_⟩;rw[ct];have t2:=aC.new (o:=.tup [V.int d.hd,V.int d.co,V.int d.ho]) hz2;have L:=L.trans (t1.trans t2);have hu:=(t1.trans t2).cV hu;have J:=(t1.trans t2).cV J;refine⟨z1,z2,_,_,_,rfl,rfl,cR.of (t2 _ _ aq),cR.of aq,rfl,lex,_,rfl,?_⟩;by_cases C:RM.lt (RM.over (bf ns rs e n i m) f (R g)) d
   ·rw[eO C]
    refine dZ ?_;refine⟨_,rfl,L,u,_,_,_,rfl,hu,.inr ⟨f,g,er _ (aX.mpr rfl),D4,X,rfl⟩,RM.le_trans (RM.agc C) d2,λB I s D W=>?_⟩;rcases bx.mp s with z|z
    ·exact RM.le_trans (RM.agc C) (S B I z D W)
    ·rw[aX.mp z] at D ⊢
     rw[fu I D];exact RM.le_refl _
   ·rw[e8 C]
    refine dO ⟨L,q,d,_,_,rfl,J,M,d2,λB I s D W=>?_⟩;rcases bx.mp s with z|z
    ·exact S B I z D W
    ·rw[aX.mp z] at D ⊢
     rw[fu I D];exact C
  ·rintro σ H2 ⟨s2,q,d,v5,v6,rfl,hq,d1,d2,S⟩
   rw[ah,jg (aB _)] at S;refine⟨_,rfl,k q d H2 (s01.trans s2) hq ⟨d1.imp id λ⟨a1,a2,_,a4⟩=>⟨a1,a2,a4⟩,d2,λf g D4 X=>S f g ?_ D4 X⟩⟩;rw[<- O,D7];exact⟨m f D4.1,((wF D4.1).mp D4).1⟩
inductive Rq(K:af)(C:Addr)(vs:List V)(H:Hp)(Q:VK)(E:XK):Prop
 |mk (p ln lr c b:Addr) (ns:List Int) (rs:List R5) (live:List Nat) (nd:ns.Nodup) (ok:∀r∈rs,r.Ok ns.length) (hl:∀k∈live,k<rs.length) (R:Nat->RM.Row):vs=[.ref p,.ref c,.ref b]->cy K C H p ln lr ns rs->bC K H c (bE live)->xC K H b ns.length R->ns.length<=12->rs.length<=20->xD ns.length rs.length R->(∀x∈ns,0<=x)->(∀(y:Bool) H',aC H H'->(y=true↔RM.Rest (bf ns rs live nd ok hl) R)->Q (.bl y) H')->Rq K C vs H Q E
theorem XM{t:Ad}(T:Txt K mg w t):bL P w K mg base fP 4 t.p7 t.Eh ["town","live","rows"]  (Rq K t.aP):=by
 refine T.JA.F.gB MO λH Q E Z h=>?_
 ·obtain⟨p,ln,lr,c,b,ns,Y,a,X,U,M,R,rfl,O,hC,W,adi,pI,fit,G,k⟩:=h
  obtain⟨⟨dx,hp⟩,_,_,_⟩:=id O;obtain⟨r,hP,ePs,I⟩:=id W;refine⟨_,(oR (cB (UM rfl) T.agk boot_all (cX (dP (kO MO ["house","live","rows","town"] [none,some 1,some 2,some 0]) rfl (gX rfl T.j9 (cX (aT (pv 0) rfl))) (λ_ _ _ _=>by exact (gS 0 Pg)) (λ_ _ _ _=>by exact eK) (λ_ _ _ _=>by exact (qE (YD K rfl Z.units) (yL K (pv 2) (pv 0)) (cG (adf T) Z T.acH (u9 (pv 3) (pv 1) (pv 2) (pv 0))))))))),?_⟩
  left
  refine⟨_,rfl,p,_,dx,_,_,rfl,hp,T.fk,T.jk,rfl,(ns.length:Int),rfl,∅,∅,λL f=>?_⟩;refine gG (n:=((ns.length:Int)).toNat) (λi C _=>∃l:List Bool,C=l.map V.bl/\l.length=i/\(l.all id=true↔∀j,j<i->RM.zd (N:=bf ns Y a X U M) ns.length R j (R j))) f BX rm ⟨[],rfl,rfl,-_⟩ ?_ ?_
  ·rintro i C H2 s e y ⟨l,u,v,D⟩ x H3 ⟨rfl,rfl⟩
   have m:i<ns.length:=∅
   have o:r[i]?=some r[i]:=aa ∅;have B:Kn (r.map V.ref) (0+(i:Int))=some (.ref r[i]):=by rw[eB];exact dD (by rw[ak,o];rfl)
   refine⟨_,rfl,_,rfl,b,_,_,_,rfl,rfl,e.seq hP,B,?_⟩;refine⟨_,rfl,_,rfl,_,rfl,_,rfl,p,ln,lr,c,b,ns,Y,a,X,U,M,R,i,by rw[eB];rfl,O.mono e,e.seq hC,W.mono e,m,pI,fit.aeA,λq d H3 J hq g=>?_⟩;have fd:=YE fit m G g;refine⟨RM.FY (R i),RM.FY d,RM.uG ((e.trans J).cV (I i _ o)),RM.uG hq,RM.uH _,RM.uH _,(by rw[RM.IY];decide),?_⟩;rw[RM.Mc (fit i m).by1 fd.by1];refine fH f s (e.trans J) (J _ _ y) (by rw[u,ah,v];exact bX ∅) ⟨l++[decide (R i=d)],by rw[u,aU];rfl,by rw[aA,v];rfl,?_⟩;rw[List.all_append,dF,D];constructor
   ·rintro⟨q1,A⟩ j S
    rcases Nat.lt_or_eq_of_le (Nat.le_of_lt_succ S) with z|rfl
    ·exact q1 j z
    ·have A:R j=d:=by simpa using A
     exact A▸g
   ·intro q
    refine⟨λj S=>q j ∅,?_⟩
    have:=(q i ∅).uniq g
    simpa using this
  rintro C H2 e y ⟨l,u,v,D⟩;refine⟨L,l,rfl,bC.of (by rw[y,u]),k _ _ e ?_⟩;rw[D];constructor
  ·exact λq i s=>q i (by have:i<ns.length:=s;lia)
  ·exact λq i s=>q i (by show i<ns.length;lia)
inductive adl(K:af)(C:Addr)(vs:List V)(H:Hp)(Q:VK)(E:XK):Prop
 |mk (p ln lr c b:Addr) (ns:List Int) (rs:List R5) (live:List Nat) (nd:ns.Nodup) (ok:∀r∈rs,r.Ok ns.length) (hl:∀k∈live,k<rs.length) (R:Nat->RM.Row) (h:Nat):vs=[.ref p,.ref c,.ref b,.int h]->cy K C H p ln lr ns rs->bC K H c (bE live)->xC K H b ns.length R->h<ns.length->rs.length<=20->xD ns.length rs.length R->(∀v H',aC H H'->xE K H' v (BZ (bf ns rs live nd ok hl) R h)->Q v H')->adl K C vs H Q E
theorem adm{t:Ad}(T:Txt K mg w t):bL P w K mg base fP 3 t.Hw t.LI ["town","live","rows","house"]  (adl K t.aP):=by
 refine T.YO.F.gB MP λH Q E G h=>?_
 ·obtain⟨p,ln,lr,c,b,ns,rs,live,nd,ok,v,R,i,rfl,M,hC,X,hin,pI,fit,k⟩:=h
  obtain⟨⟨dx,hp⟩,_,_,_⟩:=id M;obtain⟨s,N,ePs,J⟩:=id X;have L:s[i]?=some s[i]:=aa ∅;have y:Kn (s.map V.ref) (i:Int)=some (.ref s[i]):=dD (by rw[ak,L];rfl);have Z:=J i _ L;have fi:=fit i hin;refine⟨_,(ao (sS 4 MP (xT (xL (pv 2) (pv 3)) az)) (ao (b4 (PW.pt (Uv (nR tM (pv 4) (pv 1) (by with_unfolding_all rfl)) (LQ (nR tM (pv 4) (cM (pv 0) T.fk T.mT (qq T) G (cX (pv 3))) (by with_unfolding_all rfl))))) (oR lF) br) (ao (sS 5 MP (cM (pv 0) T.fk T.oX (sZ T) G (jD (pv 4) (pv 3)))) (ao (b4 (qT FW (cG (VO T) G T.SW (Jc (pv 0) (xL (pv 2) (pv 5)) (pv 4))) (xL (pv 2) (pv 3))) (oR lF) br) (oR (dG (jD (pv 4) (pv 5)))))))),?_⟩
  left
  refine⟨_,rfl,_,rfl,Sg N y (aeD Z rfl ?_)⟩;have f:∀{H3:Hp},aC H H3->(∀k g,¬RM.pV (bf ns rs live nd ok v) R k i g)->Q .dH H3:=λs3 no=>k .dH _ s3 (by rw[US no];rfl);show gp 4 (jC (R i).by_) _ _ _;rcases fi.by_ with eby|⟨b0,b1⟩
  ·rw[show jC (R i).by_=V.dH by rw[eby];rfl]
   refine⟨_,rfl,_,rfl,c,_,rfl,.inl hC,rfl,nC live,_,rfl,?_⟩
   try dsimp only
   rw[b3 rfl,aeE];refine dZ (dZ (f (aC.refl _) λn g t=>?_))
   have:=t.by
   lia
  obtain⟨d,U⟩:∃d:Nat,(R i).by_=(d:Int):=⟨(R i).by_.toNat,∅⟩;have o:d<rs.length:=∅
  rw[show jC (R i).by_=V.int (d:Nat) by rw[U,aZ ∅]];have q:∀n g,RM.pV (bf ns rs live nd ok v) R n i g->n=d:=λn g t=>by have:=t.by;lia
  refine⟨_,rfl,_,rfl,c,_,rfl,.inl hC,rfl,nC live,_,rfl,?_⟩
  try dsimp only
  rw[b3 rfl,zg];by_cases I:d∈live
  case neg =>
   rw[e8 I];refine dZ (dZ (f (aC.refl _) λn g t=>?_))
   have:=q n g t
   subst this;exact I t.D4.1
  rw[eO I];refine dO ?_;refine⟨_,rfl,_,rfl,p,dx,_,rfl,hp,rfl,_,rfl,p,ln,lr,ns,rs,i,rfl,M,pI,λl H1 x JG hl1=>?_⟩;refine⟨l,_,rfl,.inl (bC.of hl1),rfl,nC _,_,rfl,?_⟩
  try dsimp only
  rw[b3 rfl,zg];by_cases m:d∈lC rs (i:Int) rs.length
  case neg =>
   rw[e8 m];refine dZ (f x λn g t=>?_)
   have:=q n g t
   subst this;exact m (D7.mpr ⟨o,((wF I).mp t.D4).1⟩)
  rw[eO m];refine dO ?_;have m:=(D7.mp m).2;have A:rs[d]?=some rs[d]:=aa o;have C:=YF (h:=i) o ok;have hgn:jL rs[d] i<ns.length:=Xa o ok;have z:=ab3 (ns:=ns) (rs:=rs) (live:=live) (nd:=nd) (ok:=ok) (hl:=v) (R:=R) (h:=i) I;have Y:=akg (ns:=ns) (live:=live) (nd:=nd) (ok:=ok) (hl:=v) o;have r:∀g,RM.pV (bf ns rs live nd ok v) R d i g->g=jL rs[d] i:=λg t=>ahJ t;refine⟨_,rfl,p,dx,_,rfl,x _ _ hp,rfl,_,rfl,_,rfl,p,ln,lr,ns,rs,d,rs[d],i,rfl,M.mono x,A,?_⟩;show gp 5 (V.int (if (i:Int)=rs[d].a then rs[d].b else rs[d].a)) _ _ _;rw[C];generalize jL rs[d] i=g at C hgn z r;have D:s[g]?=some s[g]:=aa ∅;have O:Kn (s.map V.ref) (g:Int)=some (.ref s[g]):=dD (by rw[ak,D];rfl);refine⟨_,rfl,_,rfl,_,rfl,Sg (x.seq N) O ⟨_,rfl,p,ln,lr,ns,rs,d,rs[d],s[g],R g,rfl,M.mono x,A,x.cV (J g _ D),λOt H2 s2=>?_,λOt u H2 s2 hu=>?_⟩⟩
  ·have j:=x.trans s2
   refine⟨_,rfl,_,rfl,Sg (j.seq N) y ⟨.none,RM.FY (R i),rfl,RM.uG (j.cV Z),rfl,RM.uH _,bq (bI (ay (cQ _ _) (!_)) _) G.units,_,rfl,?_⟩⟩;refine dZ (f j λn B t=>?_);have e1:=q n B t;subst e1;have S:=r B t;subst S;exact Ot t.cut
  ·have j:=x.trans s2
   have W:(⟨(R g).hd,(R g).co+rs[d].c,(R g).ho+1,d⟩:RM.Row)=RM.over (bf ns rs live nd ok v) d (R g):=by unfold RM.over;rw[Y]
   rw[W] at hu;refine⟨_,rfl,_,rfl,Sg (j.seq N) y ⟨RM.FY (RM.over (bf ns rs live nd ok v) d (R g)),RM.FY (R i),RM.uG hu,RM.uG (j.cV Z),RM.uH _,RM.uH _,bq (bI (ay (cQ _ _) (by rw[RM.IY];decide)) _) G.units,_,rfl,?_⟩⟩;rw[RM.Mc (show (-1:Int)<=(d:Nat) by lia) fi.by1];by_cases e:RM.over (bf ns rs live nd ok v) d (R g)=R i
   case neg =>
    rw[e8 e];refine dZ (f j λn B t=>?_);have e1:=q n B t;subst e1;have S:=r B t;subst S;exact e t.eq.symm
   rw[eO e];refine dO ?_;have hh:RM.pV (bf ns rs live nd ok v) R d i g:=by
    obtain⟨g2,t⟩:=z.mpr ⟨m,Ot,e.symm⟩
    have:=r g2 t
    subst this;exact t
   refine⟨_,rfl,_,rfl,ff,λo2 ho2=>?_⟩;exact k (.ref o2) _ (j.trans (aC.new ho2)) (by rw[wG.mpr hh];exact⟨o2,rfl,cR.of aq⟩)
inductive agu(K:af)(C:Addr)(vs:List V)(H:Hp)(Q:VK)(E:XK):Prop
 |mk (p ln lr c b:Addr) (ns:List Int) (rs:List R5) (live:List Nat) (nd:ns.Nodup) (ok:∀r∈rs,r.Ok ns.length) (hl:∀k∈live,k<rs.length) (R:Nat->RM.Row):vs=[.ref p,.ref c,.ref b]->cy K C H p ln lr ns rs->bC K H c (bE live)->xC K H b ns.length R->ns.length<=12->rs.length<=20->xD ns.length rs.length R->(∀l H',aC H H'->H l=none->ahI K H' l ns.length (BZ (bf ns rs live nd ok hl) R)->Q (.ref l) H')->agu K C vs H Q E
theorem aic{t:Ad}(T:Txt K mg w t):bL P w K mg base fP 4 t.Vd t.YN ["town","live","rows"]  (agu K t.aP):=by
 refine T.agh.F.gB acG λH Q E U h=>?_
 ·obtain⟨p,I,W,c,b,ns,G,d,D,C,A,R,rfl,B,X,u,O,S,s,k⟩:=h
  obtain⟨⟨V,N⟩,_,_,_⟩:=id B;refine⟨_,(oR (dP (kO acG ["house","live","rows","town"] [none,some 1,some 2,some 0]) rfl (gX rfl T.j9 (cX (aT (pv 0) rfl))) (λ_ _ _ _=>by exact (gS 0 aat)) (λ_ _ _ _=>by exact eK) (λ_ _ _ _=>by exact (cG (adm T) U T.YO (u9 (pv 3) (pv 1) (pv 2) (pv 0)))))),?_⟩
  left
  refine⟨_,rfl,p,_,V,_,_,rfl,N,T.fk,T.jk,rfl,(ns.length:Int),rfl,∅,∅,λy a=>?_⟩;refine gG (n:=((ns.length:Int)).toNat) (λi l q=>l.length=i/\∀(j:Nat) v,l[j]?=some v->xE K q v (BZ (bf ns G d D C A) R j)) a BX rm ⟨rfl,λj v e=>by simp at e⟩ ?_ ?_
  ·rintro i l q M g m ⟨r,f⟩ x Z ⟨rfl,rfl⟩
   refine⟨_,rfl,_,rfl,_,rfl,_,rfl,p,I,W,c,b,ns,G,d,D,C,A,R,i,by rw[eB];rfl,B.mono g,g.seq X,u.mono g,∅,S,s,λv H4 o Y=>?_⟩;refine fH a M (g.trans o) (o _ _ m) (by rw[r];exact bX ∅) ⟨by rw[aA,r];rfl,λj w e=>?_⟩;refine xE.lst (o _ _ m) ?_;rcases Hj e with z|⟨L,J⟩
   ·exact (f j w z).mono o
   ·rw[L,J,r];exact Y
  rintro l q g m ⟨r,f⟩;exact k y q g a ⟨l,m,∅,f⟩
inductive YY(K:af)(C:Addr)(vs:List V)(H:Hp)(Q:VK)(E:XK):Prop
 |mk (p ln lr c b:Addr) (ns:List Int) (rs:List R5) (live:List Nat) (nd:ns.Nodup) (ok:∀r∈rs,r.Ok ns.length) (hl:∀k∈live,k<rs.length) (R:Nat->RM.Row):vs=[.ref p,.ref c,.ref b]->cy K C H p ln lr ns rs->bC K H c (bE live)->xC K H b ns.length R->ns.length<=12->rs.length<=20->xD ns.length rs.length R->(∀l os H',aC H H'->H l=none->H' l=some (.lst (bE os))->ji (bf ns rs live nd ok hl) R os->os.length<=12->Q (.ref l) H')->YY K C vs H Q E
theorem VP{t:Ad}(T:Txt K mg w t):bL P w K mg base fP 5 t.As t.LH ["town","live","rows"]  (YY K t.aP):=by
 refine T.HL.F.gB U6 λH Q E hr h=>?_
 ·obtain⟨p,ln,lr,c,b,ns,X,a,S,N,V,R,rfl,hT,hC,I,U,pI,W,k⟩:=h
  refine⟨_,(oR (cB Kq T.Vo boot_sorted (cX (dP (kO U6 ["up"] [none]) rfl (dB (cG (aic T) hr T.agh (Jc (pv 0) (pv 1) (pv 2)))) (λ_ _ _ _=>by exact (gS 0 U7)) (λ_ _ _ _=>by exact (tN (qT R3 (pv 0) lF))) (λ_ _ _ _=>by exact (yT K (pv 0) az)))))),?_⟩
  left
  refine⟨_,rfl,_,rfl,_,rfl,p,ln,lr,c,b,ns,X,a,S,N,V,R,rfl,hT,hC,I,U,pI,W,λlu H2 s2 ar8 hO=>?_⟩;obtain⟨Z,f,evs,M⟩:=hO;refine⟨lu,rfl,⟨_,bC.of f⟩,λJ j=>?_⟩;refine gG (n:=Z.length) (λi O _=>∃d:List Nat,O=bE d/\d.length<=i/\d.Nodup/\∀k,k∈d↔∃h g,h<i/\RM.pV (bf ns X a S N V) R k h g) j (m5 (bC.of f)) (g5 (bC.of f)) ⟨[],rfl,be _,iU,λk=>⟨λz=>eL z (-_),λ⟨_,_,z,_⟩=>eL z (uz _)⟩⟩ ?_ ?_
  ·rintro i O H3 G r D ⟨d,rfl,e1,C,x⟩ y H4 ⟨rfl,hv⟩
   have B:=hv _ (r.seq (bC.of f));rw[aa G] at B;cases B;have o:=(M i _ (aa G)).mono r;generalize Z[i]=v at o;cases s:BZ (bf ns X a S N V) R i with
   |none =>
    rw[s] at o;have o:v=.dH:=o;subst o;refine⟨_,rfl,rfl,_,rfl,dO ?_⟩;refine kW G r D ⟨d,rfl,∅,C,λk=>(x k).trans ⟨λ⟨h,g,z,t⟩=>⟨h,g,∅,t⟩,λ⟨h,g,z,t⟩=>⟨h,g,?_,t⟩⟩⟩;by_cases e:h=i
    ·subst e
     rw[wG.mpr t] at s;cases s
    ·lia
   |some q =>
    rw[s] at o;obtain⟨t1,rfl,ht⟩:=o;have m:=(wG (k:=q.1) (g:=q.2)).mp s;refine⟨_,rfl,rfl,_,rfl,dZ ?_⟩;refine⟨_,rfl,t1,_,0,_,rfl,rfl,ht,rfl,?_⟩;refine fH j G r D (by rw[ah];exact bX ∅) ⟨d++[q.1],by rw[jn],by rw[aA];exact pS e1 1,Gr.L8 C λz=>?_,λk=>?_⟩
    ·obtain⟨h,g,z1,t⟩:=(x _).mp z
     have:=(t.one m).1
     lia
    ·rw[bx,aX,x]
     constructor
     ·rintro (⟨h,g,z,t⟩|rfl)
      ·exact⟨h,g,∅,t⟩
      ·exact⟨i,q.2,∅,m⟩
     ·rintro⟨h,g,z,t⟩
      by_cases e:h=i
      ·subst e
       exact .inr (t.uniq m).1
      ·exact .inl ⟨h,g,∅,t⟩
  rintro O H3 r D ⟨d,rfl,e1,C,x⟩;refine⟨J,d.map λk:Nat=>(k:Int),rfl,bC.of (by rw[D,fV]),by rw[ah];lia,λl ms Y u pw=>?_⟩;obtain⟨os,L,o1,o2,o3⟩:=UT u pw C;rw[L];have A:=s2.trans r;refine k l os _ (A.trans (aC.new Y)) (A.free Y) aq ⟨o1,λk=>?_⟩ ∅;rw[o2,x];constructor
  ·rintro⟨h,g,_,t⟩;exact⟨h,g,t⟩
  ·rintro⟨h,g,t⟩
   have:h<ns.length:=(pV.lt t).1
   exact⟨h,g,∅,t⟩
theorem Rr{p:Nat->Bool}{xs:List Nat}{i:Nat}(a:i<xs.length):(xs.take (i+1)).filter p=(xs.take i).filter p++if p xs[i] then [xs[i]] else []:=by
 rw[j3 a,iy];congr 1;cases e:p xs[i]
 ·rw[eH (!_),dg (by rw[e];decide)];rfl
 ·rw[b3 rfl,dc e];rfl
inductive VQ(K:af)(C:Addr)(vs:List V)(H:Hp)(Q:VK)(E:XK):Prop
 |mk (p ln lr c b:Addr) (ns:List Int) (rs:List R5) (live:List Nat) (nd:ns.Nodup) (ok:∀r∈rs,r.Ok ns.length) (hl:∀k∈live,k<rs.length) (R:Nat->RM.Row) (h:Int):vs=[.ref p,.ref c,.ref b,.int h]->cy K C H p ln lr ns rs->bC K H c (bE live)->xC K H b ns.length R->ns.length<=12->rs.length<=20->xD ns.length rs.length R->(∀l os H',aC H H'->H l=none->H' l=some (.lst (bE (os.filter (isAt rs h))))->ji (bf ns rs live nd ok hl) R os->os.length<=12->Q (.ref l) H')->VQ K C vs H Q E
theorem XN{t:Ad}(T:Txt K mg w t):bL P w K mg base fP 6 t.zx t.Ei ["town","live","rows","house"]  (VQ K t.aP):=by
 refine T.Ra.F.gB Gi λH Q E X h=>?_
 ·obtain⟨p,V,Y,c,b,S,rs,o,nd,ok,U,R,x,rfl,v,hC,M,D,W,u,k⟩:=h
  refine⟨_,(ao (sS 4 Gi (cM (pv 0) T.fk T.mT (qq T) X (cX (pv 3)))) (oR (dP (kO Gi ["rope","joined"] [none,some 4]) rfl (dB (DY (VP T) (X.mono (!_)) rfl T.C6 T.HL.F.kp T.HL.B .nil iz (Jc (pv 0) (pv 1) (pv 2)))) (λ_ _ _ _=>by exact (gS 0 Pj)) (λ_ _ _ _=>by exact (tN (nR (L7 K rfl) (pv 0) (pv 1) (by with_unfolding_all rfl)))) (λ_ _ _ _=>by exact (pv 0))))),?_⟩
  left
  obtain⟨⟨dx,hp⟩,_⟩:=id v;refine⟨_,rfl,p,dx,_,rfl,hp,rfl,_,rfl,p,V,Y,S,rs,x,rfl,v,W,λZ H1 m asb L=>?_⟩;refine⟨_,rfl,_,rfl,_,rfl,p,V,Y,c,b,S,rs,o,nd,ok,U,R,rfl,v.mono m,m.seq hC,M.mono m,D,W,u,λlo os H2 C aie d l A=>?_⟩;have I:=C _ _ L;have J:∀k∈os,decide (k∈lC rs x rs.length)=isAt rs x k:=λk hk=>by
   obtain⟨h,g,t⟩:=(l.2 k).mp hk;have s:k<rs.length:=U k t.D4.1;by_cases z:isAt rs x k=true
   ·rw[z];exact eO (D7.mpr ⟨s,z⟩)
   ·rw[Bool.not_eq_true] at z
    rw[z];refine e8 λy=>?_;rw[(D7.mp y).2] at z;cases z
  refine⟨lo,rfl,⟨_,bC.of d⟩,λN a=>?_⟩;refine gG (n:=(bE os).length) (λi G _=>G=bE ((os.take i).filter (isAt rs x))) a (m5 (bC.of d)) (g5 (bC.of d)) rfl ?_ ?_
  ·rintro i G H3 q f j rfl y H4 ⟨rfl,r⟩
   have r:=r _ (f.seq (bC.of d));have e:i<os.length:=by rw[ah] at q;exact q
   rw[ak,aa e] at r;cases r;refine⟨_,rfl,_,rfl,Z,_,rfl,.inl (bC.of (f _ _ I)),rfl,nC _,_,rfl,?_⟩
   try dsimp only
   rw[eH aO,zg,J _ (aD e)];refine jh (λO=>?_) (λO=>?_)
   ·refine⟨_,rfl,?_⟩
    refine fH a q f j ?_ ?_
    ·rw[ah]
     refine bX (ay (bD _ _) ?_);rw[bU];lia
    ·rw[Rr e,b3 O,jn]
   ·refine kW q f j ?_
    rw[Rr e,eH O,fD]
  ·rintro G H3 f j rfl
   rw[ah,jB] at j;have YZ:=(m.trans C).trans f;exact k N os _ YZ ((m.trans C).free a) j l A
inductive adn(K:af)(C:Addr)(vs:List V)(H:Hp)(Q:VK)(E:XK):Prop
 |mk (p ln lr:Addr) (ns:List Int) (rs:List R5) (i:Nat) (r:R5) (g:Nat) (z:Int):vs=[.ref p,.int i,.int g]->cy K C H p ln lr ns rs->rs[i]?=some r->([1,2,4]:List Int)[g]?=some z->Q (.bl (!decide (Builtin.bitAnd r.e z=0))) H->adn K C vs H Q E
theorem Iu{t:Ad}(T:Txt K mg w t):bL P w K mg base fP 1 t.rD t.wR ["self","rope","group"]  (adn K t.aP):=by
 refine T.C0.F.gB SE λH Q E B h=>?_
 ·obtain⟨p,y,u,ns,C,i,r,g,z,rfl,f,m,j,k⟩:=h
  obtain⟨⟨s,n⟩,G,A,a,b⟩:=id f;obtain⟨v,x,c⟩:=b.get (i:=i) (d:=r.D) (by rw[ak,m];rfl);obtain⟨q,e,o⟩:=Rep.BW (ns:=r.ns) c;subst e;refine⟨_,(oR (qE wC (bG ahg (xT (xL (aT (pv 0) rfl) (pv 1)) az) (xT (iu rfl T.k9 (v:=.ref t.eT) rfl) (pv 2))) az)),?_⟩
  left
  refine⟨_,rfl,p,_,s,_,_,rfl,n,T.fk,T.ig,rfl,_,rfl,u,_,_,_,rfl,rfl,bC.of a,dD x,?_⟩;refine⟨q,_,_,_,rfl,rfl,o,rfl,?_⟩;have l:([.int 1,.int 2,.int 4]:List V)[g]?=some (.int z):=by
   have e:([.int 1,.int 2,.int 4]:List V)=([1,2,4]:List Int).map V.int:=rfl;rw[e,ak,j];rfl
  refine⟨_,rfl,_,_,_,_,rfl,rfl,T.gh H,dD l,_,_,rfl,rfl,rfl,?_⟩;have e:decide (V.int (Builtin.bitAnd r.e z)=V.int 0)=decide (Builtin.bitAnd r.e z=0):=-_
  rw[e];exact k
inductive Rt(K:af)(C:Addr)(vs:List V)(H:Hp)(Q:VK)(E:XK):Prop
 |mk (p ln lr:Addr) (ns:List Int) (rs:List R5) (i:Nat) (r:R5):vs=[.ref p,.int i]->cy K C H p ln lr ns rs->rs[i]?=some r->Q (.int r.d) H->Rt K C vs H Q E
theorem K2{t:Ad}(T:Txt K mg w t):bL P w K mg base fP 2 t.vc t.Av ["town","rope"]  (Rt K t.aP):=by
 refine T.Gu.F.gB U8 λH Q E g h=>?_
 ·obtain⟨p,d,m,c,j,i,r,rfl,b,e,k⟩:=h
  obtain⟨⟨l,f⟩,_⟩:=id b;refine⟨_,(oR (xT (cM (pv 0) T.fk T.CZ (Ir T) g (cX (pv 1))) az)),?_⟩
  left
  refine⟨_,rfl,p,l,_,rfl,f,rfl,_,rfl,p,d,m,c,j,i,r,rfl,b,e,λq a=>?_⟩;have a:cR K H q r.vs:=a.elim cR.of id;exact⟨q,_,_,_,rfl,rfl,a,rfl,k⟩
inductive Ov(K:af)(CT C NW:Addr)(vs:List V)(H:Hp)(Q:VK)(E:XK):Prop
 |mk (p tp lu ln lr:Addr) (ns:List Int) (rs:List R5) (ws:List (List Nat)) (i:Int):vs=[.ref p,.int i]->cy K CT H tp ln lr ns rs->wH C H p tp lu ws->ws.length=rs.length->(∀(j:Nat) w l H',i=(j:Int)->ws[j]?=some w->aC H H'->H l=none->H' l=some (.lst (bE w))->Q (.ref l) H')->(¬(0<=i/\i<rs.length)->E (.ref NW) none H)->Ov K CT C NW vs H Q E
theorem lK{t:Ad}(T:Txt K mg w t):bL P w K mg base (II P w) 1 t.g8 t.jt ["self","rope"]  (Ov K t.aP t.cP t.zE):=by
 refine T.eY.F.aar ED λH Q E C h=>?_
 ·obtain⟨p,x,A,J,M,I,rs,g,i,rfl,v,y,L,k,o⟩:=h
  obtain⟨⟨r,q⟩,a,D,B,e⟩:=id y;obtain⟨⟨G,m⟩,_⟩:=id v;refine⟨_,(ao (b4 (kB (iZ nQ tE az (pv 1) (aT (aT (pv 0) rfl) rfl))) (bQ (Hi rfl T.Ng T.Nh C.hd bu)) br) (oR (bS fG (by rfl) T.sF boot_list (cX (xL (aT (pv 0) rfl) (pv 1)))))),?_⟩
  left
  refine⟨_,rfl,_,_,rfl,rfl,_,rfl,?_⟩;by_cases n:0<=i
  case neg =>
   rw[e8 n];exact dO ⟨_,rfl,dZ (o λz=>n z.1)⟩
  rw[eO n];refine dZ ?_;refine⟨_,rfl,p,_,r,_,_,rfl,q,T.d7,T.kM,rfl,x,_,G,_,_,rfl,m,T.fk,T.xj,rfl,_,_,rfl,rfl,_,rfl,?_⟩;by_cases d:i<(rs.length:Int)
  case neg =>
   rw[e8 d];exact dZ (o λz=>d z.2)
  rw[eO d];refine dO ?_;obtain⟨j,rfl⟩:∃j:Nat,i=(j:Int):=⟨i.toNat,∅⟩;have u:j<g.length:=∅
  have c:g[j]?=some g[j]:=aa u;have b:a[j]?=some a[j]:=aa ∅;have f:Kn (a.map V.ref) (j:Int)=some (.ref a[j]):=dD (by rw[ak,b];rfl);refine⟨_,rfl,p,_,r,_,_,rfl,q,T.d7,T.gx,rfl,_,rfl,A,_,_,_,rfl,rfl,bC.of D,f,a[j],_,rfl,.inl (bC.of (e j _ _ b c)),λl s=>?_⟩;exact k j _ l _ rfl c (aC.new s) s aq
inductive Y0(K:af)(CT C NW:Addr)(vs:List V)(H:Hp)(Q:VK)(E:XK):Prop
 |mk (p tp lu ln lr:Addr) (ns:List Int) (rs:List R5) (ws:List (List Nat)) (i x:Int):vs=[.ref p,.int i,.int x]->cy K CT H tp ln lr ns rs->wH C H p tp lu ws->ws.length=rs.length->(∀w∈ws,w.length<=4)->(∀(j k:Nat) w (ls:List Addr) (q:Addr) H',i=(j:Int)->x=(k:Int)->ws[j]?=some w->k∈w->H lu=some (.lst (ls.map V.ref))->H q=none->H' q=some (.lst (bE (w.filter λz=>decide (z≠k))))->H' lu=some (.lst ((ls.map V.ref).set j (.ref q)))->(∀b o,H b=some o->b≠lu->H' b=some o)->Q (.bl (w.filter λz=>decide (z≠k)).isEmpty) H')->(¬(0<=i/\i<rs.length)->E (.ref NW) none H)->(∀(j:Nat) w H',i=(j:Int)->ws[j]?=some w->(∀k∈w,x≠(k:Nat))->aC H H'->E (.ref NW) none H')->Y0 K CT C NW vs H Q E
theorem Lq{t:Ad}(T:Txt K mg w t):bL P w K mg base (II P w) 2 t.kI t.oK ["self","rope","wire"]  (Y0 K t.aP t.cP t.zE):=by
 refine T.vo.F.aar sr λH Q E hr h=>?_
 ·obtain⟨p,tp,D,ln,lr,ns,rs,ws,i,x,rfl,hT,hW,ew,h4,k,kx,ky⟩:=h
  obtain⟨⟨dx,hp⟩,R,WE,els,hls⟩:=id hW;refine⟨_,(ao (sS 3 sr (j4 (pv 0) T.d7 T.eY.m (lK T) (hr.mono (!_)) T.eY.B .nil YC (cX (pv 1)))) (ao (b4 (nR tM (pv 2) (pv 3) (by with_unfolding_all rfl)) (bQ (Hi rfl T.Ng T.Nh hr.hd bu)) br) (ao (IQ (dP (kO sr ["each","wire"] [none,some 2]) rfl (dB (pv 3)) (λ_ _ _ _=>by exact (gS 0 Gj)) (λ_ _ _ _=>by exact (tN (qT wC (pv 0) (pv 1)))) (λ_ _ _ _=>by exact (pv 0))) (LU (aT (pv 0) rfl) (pv 1) set_list)) (oR (qE z5 (xL (aT (pv 0) rfl) (pv 1)) (dY fF)))))),?_⟩
  left
  refine⟨_,rfl,p,dx,_,rfl,hp,rfl,_,rfl,p,tp,D,ln,lr,ns,rs,ws,i,rfl,hT,hW,ew,λj c l H1 ej N Y JG hl=>?_,kx⟩;subst ej;have hjl:=(ai.mp N).1;have w4:=h4 _ (aI N);refine⟨_,rfl,_,rfl,l,_,rfl,.inl (bC.of hl),rfl,nC c,_,rfl,?_⟩
  try dsimp only
  rw[b3 rfl,fV,ze];by_cases U:x∈c.map λk:Nat=>(k:Int)
  case neg =>
   rw[e8 U];exact dZ (ky j c H1 rfl N (λz G e=>U (aF.mpr ⟨z,G,e.symm⟩)) Y)
  rw[eO U];refine dO ?_;obtain⟨g,hkk,rfl⟩:=aF.mp U;refine⟨_,rfl,l,rfl,⟨_,bC.of hl⟩,λd f=>?_⟩;have hC:=bC.of (K:=K) hl;refine gG (n:=(bE c).length) (λi ys _=>ys=bE ((c.take i).filter λz=>decide (z≠g))) f (m5 hC) (g5 hC) rfl ?_ ?_
  ·rintro i ys H2 W L u rfl y O ⟨rfl,X⟩
   have X:=X _ (L.seq hC);have hi':i<c.length:=by rw[ah] at W;exact W
   have M:c[i]?=some c[i]:=aa hi';rw[ak,M] at X;cases X;refine⟨_,rfl,_,rfl,rfl,_,rfl,?_⟩;have et:c.take (i+1)=c.take i++[c[i]]:=by rw[pG,M];rfl
   by_cases G:c[i]=g
   ·have e1:decide (V.int (c[i]:Nat)=V.int (g:Nat))=true:=eO (by rw[G])
    rw[e1];refine dO (kW W L u ?_);rw[et,iy,G];simp
   ·have e1:decide (V.int (c[i]:Nat)=V.int (g:Nat))=false:=e8 λq=>G (by have:=V.int.inj q;lia)
    rw[e1];refine dZ ⟨_,rfl,fH f W L u ?_ ?_⟩
    ·rw[ah]
     have:=bD (λz=>decide (z≠g)) (c.take i)
     rw[bU] at this;exact bX ∅
    ·rw[et,iy,<- jn]
     simp[G]
  ·rintro ys H2 L u rfl
   rw[ah,jB] at u;have s:=Y.trans L;have A:=s _ _ WE;have hp2:=s _ _ hp;have C:j<R.length:=∅
   refine⟨_,rfl,p,_,dx,_,_,rfl,hp2,T.d7,T.gx,rfl,_,rfl,D,_,_,j,rfl,rfl,A,(by rw[ah];exact D8 C),?_⟩;have hW2:=hW.mono s;generalize I:upd H2 D (.lst ((R.map V.ref).set j (.ref d)))=O;have Z:∀b o,H2 b=some o->b≠D->O b=some o:=λb o e nb=>by rw[<- I,aK nb];exact e
   have v:O D=some (.lst ((R.map V.ref).set j (.ref d))):=by rw[<- I];exact aq
   have hW3:=hW2.put A u hjl Z v;have J:O d=some (.lst (bE (c.filter λz=>decide (z≠g)))):=Z _ _ u (pK u A λz=>zh (aa C) (HO.lst.inj z));obtain⟨⟨dx3,hp3⟩,_⟩:=id hW3;refine⟨_,rfl,p,_,dx3,_,_,rfl,hp3,T.d7,T.gx,rfl,_,rfl,D,_,_,V.ref d,rfl,rfl,bC.of v,dD (by rw[eV,b3 rfl,b3 (by rw[ah];exact C)]),be _,λq hq=>?_⟩;have S:=aC.new (o:=.lst []) hq;refine⟨.list (((c.filter λz=>decide (z≠g)).map λk:Nat=>(k:Int)).map .int),.list [],⟨d,_,rfl,bC.of (S _ _ J),(by rw[fV];exact rj _)⟩,⟨q,_,rfl,bC.of aq,rfl⟩,nU _,rfl,bq (bI (ay (Nat.min_le_right _ _) (!_)) _) hr.units,?_⟩;have z:=k j g c R d _ rfl rfl N hkk WE (Y.free f) (S _ _ J) (S _ _ v) (λb o e nb=>S _ _ (Z _ _ (s _ _ e) nb));cases e:c.filter λz=>decide (z≠g) with
   |nil=>rw[e] at z;exact z
   |cons a r=>rw[e] at z;exact z
inductive Y3(NG:Addr)(vs:List V)(H:Hp)(Q:VK)(E:XK):Prop
 |mk (g:Int):vs=[.int g]->(0<=g/\g<3->Q .dH H)->(¬(0<=g/\g<3)->E (.ref NG) none H)->Y3 NG vs H Q E
theorem DN{t:Ad}(T:Txt K mg w t):bL P w K mg base (II P w) 1 t.mh t.qF ["group"]  (Y3 t.Ep):=by
 refine T.iT.F.aar MS λH Q E d h=>?_
 ·obtain⟨g,rfl,k,c⟩:=h
  refine⟨_,(bQ (b4 (kB (iZ nQ tE az (pv 0) (lS T.fR (iu rfl T.k9 (v:=.ref t.eT) rfl)))) (bQ (Hi rfl T.aax T.aay d.hd bu)) br)),?_⟩
  left
  refine⟨_,rfl,_,_,rfl,rfl,_,rfl,?_⟩;by_cases b:0<=g
  case neg =>
   rw[e8 b];exact dO ⟨_,rfl,dZ (c λz=>b z.1)⟩
  rw[eO b];refine dZ ?_;refine⟨_,_,rfl,.inr (T.gh H),_,_,rfl,rfl,_,rfl,?_⟩;by_cases a:g<3
  case neg =>
   have e:decide (g<((([.int 1,.int 2,.int 4]:List V).length:Nat):Int))=false:=e8 a;rw[e];exact dZ (c λz=>a z.2)
  have e:decide (g<((([.int 1,.int 2,.int 4]:List V).length:Nat):Int))=true:=eO a;rw[e];exact dO (k ⟨b,a⟩)
inductive ado(K:af)(CT C NG:Addr)(vs:List V)(H:Hp)(Q:VK)(E:XK):Prop
 |mk (p tp lu ln lr:Addr) (ns:List Int) (rs:List R5) (ws:List (List Nat)) (g:Int):vs=[.ref p,.int g]->cy K CT H tp ln lr ns rs->wH C H p tp lu ws->ws.length=rs.length->rs.length<=20->(∀r∈rs,1<=r.e/\r.e<=7)->(∀(gg:Nat) l H',g=(gg:Int)->gg<3->aC H H'->H l=none->H' l=some (.lst (bE (Ca rs ws gg rs.length)))->Q (.ref l) H')->(¬(0<=g/\g<3)->E (.ref NG) none H)->ado K CT C NG vs H Q E
theorem Lr{t:Ad}(T:Txt K mg w t):bL P w K mg base (II P w) 2 t.kJ t.oM ["self","group"]  (ado K t.aP t.cP t.Ep):=by
 refine T.vp.F.aar Bl λH Q E U h=>?_
 ·obtain⟨p,s,lu,Y,lr,X,rs,d,g,rfl,N,hW,ew,pI,he,k,Z⟩:=h
  obtain⟨⟨L,G⟩,y,WE,els,D⟩:=id hW;obtain⟨⟨W,m⟩,_⟩:=id N;refine⟨_,(ao (dN (DY (DN T) (U.mono (!_)) rfl T.iT.g T.iT.F.kp T.iT.B .nil YC (cX (pv 1)))) (oR (dP (kO Bl ["rope","group","self"] [none,some 1,some 0]) rfl (gX rfl T.j9 (cX (aT (aT (pv 0) rfl) rfl))) (λ_ _ _ _=>by exact (gS 0 Gk)) (λ_ _ _ _=>by exact (tN (PW.pt (uD (aaf K rfl (yL K (LA K rfl (pv 2) rfl) (pv 0)) (λ_=>rfl)) (nO (mW (cM (LA K rfl (pv 2) rfl) T.fk T.C0 (Iu T) U (jD (pv 0) (pv 1))))))))) (λ_ _ _ _=>by exact (pv 0))))),?_⟩
  left
  refine⟨_,rfl,g,rfl,λhg=>?_,Z⟩;obtain⟨a,rfl⟩:∃a:Nat,g=(a:Int):=⟨g.toNat,∅⟩;have r:a<3:=∅
  obtain⟨z,R⟩:=aki r;refine⟨_,rfl,p,_,L,_,_,rfl,G,T.d7,T.kM,rfl,s,_,W,_,_,rfl,m,T.fk,T.xj,rfl,_,rfl,(by show -(2^62)<=((rs.length:Nat):Int);lia),(by show ((rs.length:Nat):Int)<2^62;lia),λM c=>?_⟩;refine gG (n:=(((rs.length:Nat):Int)).toNat) (λi I _=>I=bE (Ca rs d a i)) c BX rm rfl ?_ ?_
  ·rintro i I S u b j rfl x H3 ⟨rfl,rfl⟩
   have J:i<rs.length:=by simpa using u
   have v:rs[i]?=some rs[i]:=aa J;have q:d[i]?=some d[i]:=aa ∅;have l:y[i]?=some y[i]:=aa ∅;have C:(bE (Ca rs d a i)).length<sizeLine:=by rw[ah];exact bX (by have:=Xd rs d a i;lia)
   have A:isLive rs d a i=((!(d[i]).isEmpty)&&QO (rs[i]).e a):=by unfold isLive;rw[v,q]
   refine⟨_,rfl,p,_,L,_,_,rfl,b _ _ G,T.d7,T.gx,rfl,_,rfl,lu,_,_,V.ref y[i],rfl,rfl,bC.of (b _ _ WE),(by rw[eB];exact dD (by rw[ak,l];rfl)),?_⟩;refine⟨!(bE d[i]).isEmpty,?_,?_⟩
   ·exact .inl ⟨_,bC.of (b _ _ (D i _ _ l q)),rfl⟩
   cases f:d[i] with
   |nil =>
    refine dO (kW u b j ?_);rw[Cb,A,f];simp
   |cons y0 r0 =>
    refine dZ ?_;refine⟨_,rfl,p,_,L,_,_,rfl,b _ _ G,T.d7,T.kM,rfl,s,W,_,rfl,b _ _ m,rfl,_,rfl,_,rfl,s,Y,lr,X,rs,i,rs[i],a,z,(by show [V.ref s,V.int (0+(i:Int)),V.int (a:Nat)]=_;rw[eB]),N.mono b,v,R,_,rfl,?_⟩;have o:=he _ (aI v);rw[UU o.1 o.2 R];cases O:QO rs[i].e a with
    |true =>
     refine dZ ⟨_,rfl,fH c u b j C ?_⟩;rw[Cb,A,f,O,eB];exact (jn _ _).symm
    |false =>
     refine dO (kW u b j ?_);rw[Cb,A,f,O];simp
  ·rintro I S b j rfl
   exact k a M S rfl r b c (by rw[j,ko])
inductive Y4(K:af)(vs:List V)(H:Hp)(Q:VK)(E:XK):Prop
 |mk (p C dx:Addr) (s:Int):vs=[.ref p,.int s]->H p=some (.ins C dx [])->LY K C->dm K C "sender" -> Q .dH (upd H p (.ins C dx [("sender",.int s)]))->Y4 K vs H Q E
theorem zP{t:Ad}(T:Txt K mg w t):bL P w K mg base fP 1 t.eS t.mH ["self","sender"]  (Y4 K):=by
 refine T.sD.F.gB Jo λH Q E f h=>?_
 ·obtain⟨p,C,c,e,rfl,a,b,d,k⟩:=h
  refine⟨_,(bQ (fU (pv 0) (pv 1) rfl)),?_⟩
  left
  exact⟨_,rfl,_,rfl,p,C,c,[],rfl,a,b,d,!_,k⟩
inductive VR(vs:List V)(H:Hp)(Q:VK)(E:XK):Prop
 |mk (p:Addr) (c:Int):vs=[.ref p,.int c]->Q (.bl false) H->VR  vs H Q E
theorem Ls{t:Ad}(T:Txt K mg w t):bL P w K mg base fP 1 t.kD t.oA ["self","caller"]  VR:=by
 refine T.CV.F.gB Ld λH Q E a h=>?_
 ·obtain⟨p,c,rfl,k⟩:=h
  exact⟨_,oB,k⟩
inductive VS(vs:List V)(H:Hp)(Q:VK)(E:XK):Prop
 |mk (p:Addr):vs=[.ref p]->Q .dH H->VS  vs H Q E
theorem BC{t:Ad}(T:Txt K mg w t):bL P w K mg base fP 1 t.g7 t.oF ["self"]  VS:=by
 refine T.oW.F.gB Le λH Q E a h=>?_
 ·obtain⟨p,rfl,k⟩:=h
  exact⟨_,(oR lF),k⟩
inductive Et(K:af)(vs:List V)(H:Hp)(Q:VK)(E:XK):Prop
 |mk (p C dx:Addr) (s:Int):vs=[.ref p]->H p=some (.ins C dx [("sender",.int s)])->LY K C->dm K C "sender" -> Q (.int s) H->Et K vs H Q E
theorem zQ{t:Ad}(T:Txt K mg w t):bL P w K mg base fP 1 t.gy t.mJ ["self"]  (Et K):=by
 refine T.mS.F.gB Jp λH Q E f h=>?_
 ·obtain⟨p,C,c,e,rfl,a,b,d,k⟩:=h
  exact⟨_,(oR (aT (pv 0) rfl)),_,rfl,p,C,c,_,_,rfl,a,b,d,rfl,k⟩
inductive Ru(C:Addr)(vs:List V)(H:Hp)(Q:VK)(E:XK):Prop
 |mk (p dx:Addr) (s to:Int):vs=[.ref p,.int s,.int to]->H p=some (.ins C dx [])->(∀H',H' p=some (.ins C dx [("sender",.int s),("to",.int to)])->(∀b o,H b=some o->b≠p->H' b=some o)->Q .dH H')->Ru C vs H Q E
theorem Lu{t:Ad}(T:Txt K mg w t):bL P w K mg base fP 2 t.kE t.oG ["self","sender","to"]  (Ru t.gw):=by
 refine T.CY.F.gB Lf λH Q E g h=>?_
 ·obtain⟨p,c,f,i,rfl,d,k⟩:=h
  refine⟨_,(ao (dN (Xe (iu rfl T.acJ (v:=.ref t.jc) rfl) T.JD (zP T) (g.mono (!_)) T.sD.B .nil iz (jD (pv 0) (pv 1)))) (bQ (fU (pv 0) (pv 2) rfl))),?_⟩
  left
  refine⟨rfl,_,rfl,_,rfl,p,t.gw,c,f,rfl,d,T.qX,T.vz,?_⟩;refine⟨_,rfl,_,rfl,p,t.gw,c,_,rfl,aq,T.qX,T.AH,(by show 1<1000;decide),?_⟩;rw[dS (names:=["sender"]) rfl (by decide +kernel)];exact k _ aq λb o e a=>by rw[aK a,aK a];exact e
inductive VT(C:Addr)(vs:List V)(H:Hp)(Q:VK)(E:XK):Prop
 |mk (p dx:Addr) (s to c:Int):vs=[.ref p,.int c]->H p=some (.ins C dx [("sender",.int s),("to",.int to)])->Q (.bl (decide (V.int c=V.int to))) H->VT C vs H Q E
theorem Ow{t:Ad}(T:Txt K mg w t):bL P w K mg base fP 1 t.lT t.qx ["self","caller"]  (VT t.gw):=by
 refine T.ER.F.gB MK λH Q E e h=>?_
 ·obtain⟨p,b,d,f,c,rfl,a,k⟩:=h
  exact⟨_,(oR (qE lD (pv 1) (aT (pv 0) rfl))),_,rfl,_,rfl,p,_,b,_,_,rfl,a,T.qX,T.AH,rfl,rfl,k⟩
inductive VU(C:Addr)(vs:List V)(H:Hp)(Q:VK)(E:XK):Prop
 |mk (p dx:Addr) (s to:Int):vs=[.ref p]->H p=some (.ins C dx [("sender",.int s),("to",.int to)])->Q (.int to) H->VU C vs H Q E
theorem Ox{t:Ad}(T:Txt K mg w t):bL P w K mg base fP 1 t.lU t.qy ["self"]  (VU t.gw):=by
 refine T.yg.F.gB ML λH Q E d h=>?_
 ·obtain⟨p,b,c,e,rfl,a,k⟩:=h
  exact⟨_,(oR (aT (pv 0) rfl)),_,rfl,p,_,b,_,_,rfl,a,T.qX,T.AH,rfl,k⟩
inductive J0(C:Addr)(vs:List V)(H:Hp)(Q:VK)(E:XK):Prop
 |mk (p dx:Addr) (s to:Int):vs=[.ref p]->H p=some (.ins C dx [("sender",.int s),("to",.int to)])->Q (.int (s+to+1)) H->J0 C vs H Q E
theorem Lv{t:Ad}(T:Txt K mg w t):bL P w K mg base fP 1 t.kG t.oH ["self"]  (J0 t.gw):=by
 refine T.vn.F.gB Lg λH Q E d h=>?_
 ·obtain⟨p,b,c,e,rfl,a,k⟩:=h
  exact⟨_,(oR (bG jl (bG jl (aT (pv 0) rfl) (aT (pv 0) rfl)) az)),_,rfl,p,_,b,_,_,rfl,a,T.qX,T.vz,rfl,_,rfl,p,_,b,_,_,rfl,a,T.qX,T.AH,rfl,_,_,rfl,rfl,_,_,rfl,rfl,k⟩
inductive VV(C:Addr)(vs:List V)(H:Hp)(Q:VK)(E:XK):Prop
 |mk (p dx:Addr) (s c:Int):vs=[.ref p,.int c]->H p=some (.ins C dx [("sender",.int s)])->Q (.bl (!decide (V.int c=V.int s))) H->VV C vs H Q E
theorem Oz{t:Ad}(T:Txt K mg w t):bL P w K mg base fP 1 t.lV t.qz ["self","caller"]  (VV t.jx):=by
 refine T.ES.F.gB MM λH Q E e h=>?_
 ·obtain⟨p,b,d,c,rfl,a,k⟩:=h
  exact⟨_,(oR (qE wC (pv 1) (aT (pv 0) rfl))),_,rfl,_,rfl,p,_,b,_,_,rfl,a,T.AI,T.o4,rfl,rfl,k⟩
inductive Y5(C:Addr)(vs:List V)(H:Hp)(Q:VK)(E:XK):Prop
 |mk (p dx:Addr):vs=[.ref p]->H p=some (.ins C dx [])->(∀d H',H d=none->uK C H' p d []->(∀b o,H b=some o->b≠p->H' b=some o)->Q .dH H')->Y5 C vs H Q E
theorem OA{t:Ad}(T:Txt K mg w t):bL P w K mg base fP 1 t.lQ t.qv ["self"]  (Y5 t.fY):=by
 refine T.ye.F.gB MH λH Q E i h=>?_
 ·obtain⟨p,f,rfl,c,k⟩:=h
  refine⟨_,(bQ (fU (pv 0) UI rfl)),?_⟩
  left
  refine λd a=>⟨_,rfl,p,t.fY,f,[],rfl,?_,T.Gy,T.xm,!_,?_⟩
  ·rw[aK (aJ c a)];exact c
  ·refine k d _ a ⟨⟨f,aq⟩,?_⟩ λb o e g=>?_
   ·rw[aK (aJ c a).symm];exact aq
   ·rw[aK g,aK (aJ e a)];exact e
inductive Y6(C:Addr)(vs:List V)(H:Hp)(Q:VK)(E:XK):Prop
 |mk (p d:Addr) (ts:List T3) (h c r:Int):vs=[.ref p,.int h,.int c,.int r]->uK C H p d ts->ts.length<10000->(∀H',H' d=some (.dT (putK (ts.map nD) (keyOf h c) (.int r)))->(∀b o,H b=some o->b≠d->H' b=some o)->Q .dH H')->Y6 C vs H Q E
theorem Qk{t:Ad}(T:Txt K mg w t):bL P w K mg base fP 1 t.oh t.tP ["self","house","caller","rope"]  (Y6 t.fY):=by
 refine T.HJ.F.gB Pd λH Q E l h=>?_
 ·obtain⟨p,d,j,f,s,r,rfl,⟨⟨n,g⟩,a⟩,q,k⟩:=h
  refine⟨_,(bQ (Yy (UK l) (aT (pv 0) rfl) (dG (jD (pv 1) (pv 2))) (pv 3) rfl)),?_⟩
  left
  refine⟨_,rfl,_,rfl,p,t.fY,n,_,_,rfl,g,T.Gy,T.xm,rfl,_,rfl,_,rfl,ff,λb c=>?_⟩;have m:d≠b:=aJ a c;refine⟨d,_,rfl,UH.t (k:=keyOf f s) (kvs:=j.map nD) (by rw[aK m];exact a) aq (by rw[ah];exact Nat.lt_trans q (by show 10000<2^24;decide)),?_⟩;exact k _ aq λx o e i=>by rw[aK i,aK (aJ e c)];exact e
inductive Y7(C:Addr)(vs:List V)(H:Hp)(Q:VK)(E:XK):Prop
 |mk (p d:Addr) (ts:List T3) (h c:Int):vs=[.ref p,.int h,.int c]->uK C H p d ts->(∀H',aC H H'->Q (((uJ ts h c).map V.int).getD .dH) H')->Y7 C vs H Q E
theorem Ql{t:Ad}(T:Txt K mg w t):bL P w K mg base fP 1 t.oi t.tQ ["self","house","caller"]  (Y7 t.fY):=by
 refine T.HK.F.gB Pe λH Q E j h=>?_
 ·obtain⟨p,d,m,a,f,rfl,⟨⟨l,i⟩,c⟩,k⟩:=h
  refine⟨_,(oR (abQ (UK j) (aT (pv 0) rfl) (dG (jD (pv 1) (pv 2))) ⟨rfl,rfl,rfl,rfl⟩)),?_⟩
  left
  refine⟨_,rfl,p,t.fY,l,_,_,rfl,i,T.Gy,T.xm,rfl,d,rfl,.inr ⟨_,.inl c⟩,_,rfl,_,rfl,ff,λb g=>?_⟩;have e:=aC.new (o:=.tup [.int a,.int f]) g;refine⟨_,Pa.t (k:=keyOf a f) (e _ _ c) aq,?_⟩;rw[Mj];exact k _ e
inductive VW(C:Addr)(vs:List V)(H:Hp)(Q:VK)(E:XK):Prop
 |mk (p d:Addr) (ts:List T3):vs=[.ref p]->uK C H p d ts->(∀d' H',H d'=none->uK C H' p d' []->(∀b o,H b=some o->b≠p->H' b=some o)->Q .dH H')->VW C vs H Q E
theorem OB{t:Ad}(T:Txt K mg w t):bL P w K mg base fP 1 t.lR t.qw ["self"]  (VW t.fY):=by
 refine T.yf.F.gB MI λH Q E m h=>?_
 ·obtain⟨p,d,l,rfl,⟨⟨f,c⟩,j⟩,k⟩:=h
  refine⟨_,(bQ (fU (pv 0) UI rfl)),?_⟩
  left
  refine λg a=>⟨_,rfl,p,t.fY,f,[("kept",.ref d)],rfl,?_,T.Gy,T.xm,(by show 1<1000;decide),?_⟩
  ·rw[aK (aJ c a)];exact c
  ·refine k g _ a ⟨⟨f,aq⟩,?_⟩ λb o e i=>?_
   ·rw[aK (aJ c a).symm];exact aq
   ·rw[aK i,aK (aJ e a)];exact e
inductive akE(K:af)(C:Addr)(vs:List V)(H:Hp)(Q:VK)(E:XK):Prop
 |mk (bk d lo lh:Addr) (ts:List T3) (so b9:Option Int) (nV:Int) (os hs:List Int):vs=[.ref bk,Ja so,.int nV,Ja b9,.ref lo,.ref lh]->uK C H bk d ts->bC K H lo (os.map V.int)->bC K H lh (hs.map V.int)->os.length<=1000->(∀l H',aC H H'->H l=none->H' l=some (.lst ((f5 ts so nV b9 os hs).map V.int))->Q (.ref l) H')->akE K C vs H Q E
theorem VX{t:Ad}(T:Txt K mg w t):bL P w K mg base fP 2 t.u0 t.Au ["book","sought","house","came","open_here","here"]  (akE K t.fY):=by
 refine T.M7.F.gB wL λH Q E hr h=>?_
 ·obtain⟨X,d,lo,lh,N,so,g,J,os,q,rfl,W,G,hH,O,k⟩:=h
  refine⟨_,(ao (b4 (nR zc (pv 1) (pv 5) (by with_unfolding_all rfl)) (oR (dY fF)) br) (ao (sS 6 wL (jI (qT R1 (pv 1) lF) lF (cM (pv 0) T.Gy T.HK (Ql T) hr (jD (pv 2) (pv 1))))) (ao (sS 7 wL (jI (nR zc (pv 6) (pv 4) (by with_unfolding_all rfl)) (dY (cX (pv 6))) (pv 4))) (oR (dP (kO wL ["rope","came"] [none,some 3]) rfl (dB (pv 7)) (λ_ _ _ _=>by exact (gS 0 MJ)) (λ_ _ _ _=>by exact (tN (qT wC (pv 0) (pv 1)))) (λ_ _ _ _=>by exact (pv 0))))))),?_⟩
  left
  obtain⟨dx,I⟩:=W.ob;refine⟨_,rfl,_,rfl,lh,_,rfl,.inl hH,ab8 so,zf q,_,rfl,?_⟩;cases so with
  |none =>
   refine rz (by show Uo .dH _=false;exact Mm q) ?_;refine⟨_,rfl,rfl,_,rfl,QS (eO rfl) ?_⟩;refine⟨_,rfl,_,rfl,lo,_,rfl,.inl G,rfl,zf os,_,rfl,rz (by show Uo .dH _=false;exact Mm os) ?_⟩;refine⟨_,rfl,_,rfl,lo,rfl,⟨_,G⟩,λc a=>?_⟩;refine uL (uM g) a G O (λx n R S _ u y j=>?_) (λn u f=>k c n u a f);refine⟨_,rfl,_,rfl,Hq x g,_,rfl,?_⟩;exact jh (λe=>⟨_,rfl,y _ (aC.refl _) e⟩) (λe=>j _ (aC.refl _) (neT e))
  |some p =>
   refine jh (λe=>?_) (λe=>?_)
   ·refine⟨be _,λl v=>k l _ (aC.new v) v ?_⟩
    have L:p∈q:=by
     have e:Uo (.int p) (q.map V.int)=true:=e;rw[ze] at e;exact fT e
    show _=some (HO.lst (List.map V.int (if p∈q then [] else _)));rw[b3 L];exact aq
   ·have L:¬p∈q:=λz=>e (by show Uo (.int p) (q.map V.int)=true;rw[ze];exact eO z)
    refine⟨_,rfl,rfl,_,rfl,rz (e8 λz=>by cases z) ?_⟩;refine⟨_,rfl,X,dx,_,rfl,I,rfl,_,rfl,_,rfl,X,d,N,J,p,rfl,W,λY A=>?_⟩;have m:∀l b,aC H b->H l=none->b l=some (.lst ((match uJ N J p with
     |some r=>if r∈os then [r].filter (uM g) else os.filter (uM g)
     |none=>os.filter (uM g)).map V.int))->Q (.ref l) b:=λl b s v f=>k l b s v (by
     show _=some (HO.lst (List.map V.int (if p∈q then [] else _)));rw[eH L];exact f)
    have i:=A.seq G;cases hk:uJ N J p with
    |none =>
     rw[hk] at m;refine⟨_,rfl,_,rfl,lo,_,rfl,.inl i,rfl,zf os,_,rfl,rz (by show Uo .dH _=false;exact Mm os) ?_⟩;refine⟨_,rfl,_,rfl,lo,rfl,⟨_,i⟩,λc a=>?_⟩;refine uL (uM g) a i O (λx n R S _ u y j=>?_) (λn u f=>m c n (A.trans u) (A.free a) f);refine⟨_,rfl,_,rfl,Hq x g,_,rfl,?_⟩;exact jh (λe=>⟨_,rfl,y _ (aC.refl _) e⟩) (λe=>j _ (aC.refl _) (neT e))
    |some r =>
     rw[hk] at m;dsimp only[ux,Option.getD_some];refine⟨_,rfl,_,rfl,lo,_,rfl,.inl i,rfl,zf os,_,rfl,jh (λC=>?_) (λC=>?_)⟩
     ·have B:r∈os:=by
       have C:Uo (.int r) (os.map V.int)=true:=C;rw[ze] at C;exact fT C
      have m:∀l b,aC H b->H l=none->b l=some (.lst (([r].filter (uM g)).map V.int))->Q (.ref l) b:=λl b s v f=>m l b s v (by
       show _=some (HO.lst (List.map V.int (if r∈os then _ else _)));rw[b3 B];exact f)
      refine⟨_,rfl,Ou,λD M=>?_⟩;have U:=aC.new (o:=.lst [V.int r]) M;have j:bC K (upd Y D (.lst [V.int r])) D ([r].map V.int):=bC.of aq;generalize upd Y D (.lst [V.int r])=n at U j;refine⟨_,rfl,D,rfl,⟨_,j⟩,λc a=>?_⟩;refine uL (uM g) a j (by show 1<=1000;decide) (λx Z R S _ s3 y j=>?_) (λZ s3 f=>m c Z (A.trans (U.trans s3)) (A.free (U.free a)) f);refine⟨_,rfl,_,rfl,Hq x g,_,rfl,?_⟩;exact jh (λe=>⟨_,rfl,y _ (aC.refl _) e⟩) (λe=>j _ (aC.refl _) (neT e))
     ·have B:¬r∈os:=λz=>C (by show Uo (.int r) (os.map V.int)=true;rw[ze];exact eO z)
      have m:∀l b,aC H b->H l=none->b l=some (.lst ((os.filter (uM g)).map V.int))->Q (.ref l) b:=λl b s v f=>m l b s v (by
       show _=some (HO.lst (List.map V.int (if r∈os then _ else _)));rw[eH B];exact f)
      refine⟨_,rfl,_,rfl,lo,rfl,⟨_,i⟩,λc a=>?_⟩;refine uL (uM g) a i O (λx n R S _ u y j=>?_) (λn u f=>m c n (A.trans u) (A.free a) f);refine⟨_,rfl,_,rfl,Hq x g,_,rfl,?_⟩;exact jh (λe=>⟨_,rfl,y _ (aC.refl _) e⟩) (λe=>j _ (aC.refl _) (neT e))
inductive Rv(K:af)(C cL c1 cA:Addr)(vs:List V)(H:Hp)(Q:VK)(E:XK):Prop
 |mk (bk d la lo lh:Addr) (ts:List T3) (s to kd nV:Int) (b9:Option Int) (os hs:List Int):vs=[.ref bk,.ref la,.int nV,Ja b9,.ref lo,.ref lh]->uK C H bk d ts->Kr cL c1 cA H la s to kd->bC K H lo (os.map V.int)->bC K H lh (hs.map V.int)->os.length<=1000->hs.length<=1000->(∀p l1 l2 H',aC H H'->H p=none->H l1=none->H l2=none->l1≠l2->H' p=some (.tup [.ref l1,.ref l2])->H' l1=some (.lst ((hs.filter (Mn s to kd)).map V.int))->H' l2=some (.lst ((f5 ts (Ea to kd) nV b9 os hs).map V.int))->Q (.ref p) H')->Rv K C cL c1 cA vs H Q E
theorem XO{t:Ad}(T:Txt K mg w t):bL P w K mg base fP 3 t.zu t.Ef ["book","letter","house","came","open_here","here"]  (Rv K t.fY t.jc t.gw t.jx):=by
 refine T.Q9.F.gB Gh λH Q E s h=>?_
 ·obtain⟨U,d,g,lo,G,L,J,z,kd,D,C,os,I,rfl,O,hL,W,A,M,N,k⟩:=h
  refine⟨_,(ao (mZ (i:=6) Gh.nd rfl (Or.inl rfl) (kO Gh ["caller","letter"] [none,some 1]) rfl (dB (pv 5)) (λ_ _ _ _=>by exact (gS 0 Pf)) (λ_ _ _ _=>by exact (tN (mW (I0 (cM (pv 1) T.Nb T.CV (Ls T) s (cX (pv 0))) (I0 (cM (pv 1) T.qX T.ER (Ow T) s (cX (pv 0))) (cM (pv 1) T.AI T.ES (Oz T) s (cX (pv 0)))))))) (λ_ _ _ _=>by exact (pv 0))) (oR (dG (jD (pv 6) (cG (VX T) s T.M7 (aN6 (pv 0) (I0 (iF (pv 1) T.Nb T.oW.m (BC T) (s.mono (!_)) T.oW.B .nil iz) (I0 (iF (pv 1) T.qX T.yg.m (Ox T) (s.mono (!_)) T.yg.B .nil iz) (iF (pv 1) T.AI T.PB (BC T) (s.mono (!_)) T.oW.B .nil iz))) (pv 2) (pv 3) (pv 4) (pv 5))))))),?_⟩
  left
  refine⟨_,rfl,G,rfl,⟨_,A⟩,λy q=>?_⟩;refine uL (Mn J z kd) q A N (λx X R S _ b h1 Y=>?_) (λX b Z=>?_)
  ·have r:=hL.mono b
   cases r with
   |bare f c =>
    exact .inl ⟨_,rfl,g,f,_,rfl,c,rfl,_,rfl,g,x,rfl,_,rfl,Y _ (aC.refl _) rfl⟩
   |one f c =>
    refine .inr (.inl ⟨_,rfl,g,f,_,rfl,c,rfl,_,rfl,g,f,J,z,x,rfl,c,_,rfl,?_⟩);exact jh (λe=>⟨_,rfl,h1 _ (aC.refl _) e⟩) (λe=>Y _ (aC.refl _) (neT e))
   |all f c =>
    refine .inr (.inr ⟨_,rfl,g,f,_,rfl,c,rfl,_,rfl,g,f,J,x,rfl,c,_,rfl,?_⟩);exact jh (λe=>⟨_,rfl,h1 _ (aC.refl _) e⟩) (λe=>Y _ (aC.refl _) (neT e))
  ·have r:=hL.mono b
   have rest:∀j l,aC X l->X j=none->l j=some (.lst ((f5 L (Ea z kd) D C os I).map V.int))->2<=sizeLine/\∀p,l p=none->Q (.ref p) (upd l p (.tup [.ref y,.ref j])):=λj l n a v=>by
    refine⟨!_,λp hp=>?_⟩;have u:=aC.new (o:=.tup [V.ref y,.ref j]) hp;exact k p y j _ ((b.trans n).trans u) (b.free (n.free hp)) q (b.free a) (aJ Z a) aq (u _ _ (n _ _ Z)) (u _ _ v)
   refine⟨_,rfl,_,rfl,?_⟩;cases r with
   |bare f c =>
    exact .inl ⟨_,rfl,g,f,_,rfl,c,rfl,g,rfl,_,rfl,_,rfl,_,rfl,_,rfl,U,d,lo,G,L,none,C,D,os,I,rfl,O.mono b,b.seq W,b.seq A,M,λj l n a v=>rest j l n a v⟩
   |one f c =>
    exact .inr (.inl ⟨_,rfl,g,f,_,rfl,c,rfl,g,f,J,z,rfl,c,_,rfl,_,rfl,_,rfl,_,rfl,U,d,lo,G,L,some z,C,D,os,I,rfl,O.mono b,b.seq W,b.seq A,M,λj l n a v=>rest j l n a v⟩)
   |all f c =>
    exact .inr (.inr ⟨_,rfl,g,f,_,rfl,c,rfl,g,rfl,_,rfl,_,rfl,_,rfl,_,rfl,U,d,lo,G,L,none,C,D,os,I,rfl,O.mono b,b.seq W,b.seq A,M,λj l n a v=>rest j l n a v⟩)
inductive OC(K:af)(CT C:Addr)(vs:List V)(H:Hp)(Q:VK)(E:XK):Prop
 |mk (p dx tp ln lr:Addr) (ns:List Int) (rs:List R5):vs=[.ref p,.ref tp]->H p=some (.ins C dx [])->cy K CT H tp ln lr ns rs->rs.length<=20->(∀r∈rs,1<=r.d/\r.d<=4)->(∀lu (ls:List Addr) H',H lu=none->(∀l∈ls,H l=none)->lu∉ls->ls.Nodup->ls.length=rs.length->H' p=some (.ins C dx [("town",.ref tp),("upright",.ref lu)])->H' lu=some (.lst (ls.map V.ref))->(∀(j:Nat) l r,ls[j]?=some l->rs[j]?=some r->H' l=some (.lst (bE (au r.d.toNat))))->(∀b o,H b=some o->b≠p->H' b=some o)->Q .dH H')->OC K CT C vs H Q E
theorem Iv{t:Ad}(T:Txt K mg w t):bL P w K mg base fP 3 t.i9 t.kY ["self","town"]  (OC K t.aP t.cP):=by
 refine T.zF.F.gB wM λH Q E hr h=>?_
 ·obtain⟨p,R,B,ln,lr,ns,rs,rfl,hp,hT,pI,hw,k⟩:=h
  refine⟨_,(ao (fU (pv 0) (pv 1) rfl) (bQ (fU (pv 0) (dP (kO wM ["rope","town"] [none,some 1]) rfl (gX rfl T.j9 (cX (aT (pv 1) rfl))) (λ_ _ _ _=>by exact (gS 0 Cs)) (λ_ _ _ _=>by exact eK) (λ_ _ _ _=>by exact (bS (W7 rfl) (by rfl) T.sF boot_list (cX (bS UN (by rfl) T.j9 boot_range (cX (cG (K2 T) hr T.Gu (jD (pv 1) (pv 0))))))))) rfl))),?_⟩
  left
  obtain⟨⟨dt,htp⟩,_⟩:=id hT;have wh:B≠p:=pK htp hp λz=>by have:=(HO.ins.inj z).2.2;cases this
  refine⟨_,rfl,_,rfl,p,_,R,[],rfl,hp,T.d7,T.kM,!_,?_⟩;rw[dS (names:=[]) rfl rfl];generalize D:upd H p (.ins t.cP R ([]++[(Str.ofString "town",V.ref B)]))=H1;have k1:∀b o,H b=some o->b≠p->H1 b=some o:=λb o e X=>by rw[<- D,aK X];exact e
  have y:H1 p=some (.ins t.cP R [(Str.ofString "town",V.ref B)]):=by rw[<- D];exact aq
  have G:=hT.but k1 hp wh;have f1:∀{l:Addr},H1 l=none->H l=none:=λ{l} e=>by
   cases q:H l with
   |none=>rfl
   |some o =>
    by_cases z:l=p
    ·rw[z,y] at e;cases e
    ·have:=k1 _ _ q z
     rw[e] at this;cases this
  obtain⟨⟨dt,anD⟩,_⟩:=id G;refine⟨_,rfl,B,_,dt,_,_,rfl,anD,T.fk,T.xj,rfl,_,rfl,(by show -(2^62)<=((rs.length:Nat):Int);lia),(by show ((rs.length:Nat):Int)<2^62;lia),λc a=>?_⟩;refine gG (n:=(((rs.length:Nat):Int)).toNat) (λi ys N=>∃f:List Addr,ys=f.map V.ref/\f.length=i/\f.Nodup/\(∀l∈f,H l=none/\N l≠none)/\∀(j:Nat) l r,f[j]?=some l->rs[j]?=some r->N l=some (.lst (bE (au r.d.toNat)))/\l≠c) a BX rm ⟨[],rfl,rfl,iU,λl s=>(by cases s),λj l r e=>by simp at e⟩ ?_ ?_
  ·rintro i ys N W A S ⟨f,rfl,u,nd,m,g⟩ x H3 ⟨rfl,rfl⟩
   have W:i<rs.length:=by simpa using W
   have Y:rs[i]?=some rs[i]:=aa W;have wi:=hw _ (aI Y);obtain⟨d,ed⟩:∃d:Nat,rs[i].d=(d:Int):=⟨rs[i].d.toNat,∅⟩;refine⟨_,rfl,_,rfl,B,ln,lr,ns,rs,i,rs[i],(by show [V.ref B,V.int (0+(i:Int))]=_;rw[eB]),G.mono A,Y,?_⟩;refine⟨rs[i].d,rfl,λq hq=>?_⟩;have O:=aC.new (o:=.ZL 0 rs[i].d) hq;refine⟨q,d,rfl,(by rw[aq,ed]),∅,λl s=>?_⟩;have JG:H l=none:=f1 ((A.trans O).free s);have nl:l∉f:=λz=>(m l z).2 (O.free s);have J:=O.trans (aC.new (o:=.lst ((au d).map λk=>V.int (k:Nat))) s);have WD:=J _ _ S;have VY:(upd (upd H3 q (.ZL 0 rs[i].d)) l (.lst ((au d).map λk=>V.int (k:Nat)))) l=some (.lst (bE (au d))):=aq;have v:l≠c:=(aJ (O _ _ S) s).symm;generalize upd (upd H3 q (.ZL 0 rs[i].d)) l (.lst ((au d).map λk=>V.int (k:Nat)))=H4 at J WD VY;refine fH a (by simpa using W) (A.trans J) WD (by rw[ah,u];exact bX ∅) ⟨f++[l],by rw[aU];rfl,by rw[aA,u];rfl,Gr.L8 nd nl,λI hl'=>?_,λj I r M C=>?_⟩
   ·rcases bx.mp hl' with z|z
    ·obtain⟨z1,U⟩:=m I z
     refine⟨z1,?_⟩;by_cases q:I=c
     ·rw[q,aq];exact aS _
     ·rw[aK q]
      cases e:H3 I with
      |none=>exact eL e U
      |some o=>rw[J _ _ e];exact aS _
    ·rw[aX.mp z]
     exact⟨JG,by rw[aK v,VY];exact aS _⟩
   ·rcases Hj M with M|⟨rfl,rfl⟩
    ·obtain⟨z1,U⟩:=g j I r M C
     exact⟨by rw[aK U];exact J _ _ z1,U⟩
    ·rw[u,Y] at C
     cases C;rw[ed,ko];exact⟨by rw[aK v];exact VY,v⟩
  ·rintro ys N A S ⟨f,rfl,u,nd,m,g⟩
   have u:f.length=rs.length:=by simpa using u
   have Z:p≠c:=aJ y a;have L:=A _ _ y;refine⟨_,rfl,p,_,R,_,rfl,L,T.d7,T.gx,(by show 1<1000;decide),?_⟩;rw[dS (names:=["town"]) rfl (by decide +kernel)];refine k c f _ (f1 a) (λl s=>(m l s).1) (λz=>?_) nd u aq (by rw[aK (cu Z)];exact S) (λj l r M C=>?_) λb o e X=>by rw[aK X];exact A _ _ (k1 _ _ e X)
   ·obtain⟨j,hj⟩:=iD z
    have hjl:=(ai.mp hj).1;exact (g j c _ hj (aa (u▸hjl))).2 rfl
   ·have z:=(g j l r M C).1
    rw[aK (pK z L (by intro z;cases z))];exact z
inductive K3(K:af)(C:Addr)(vs:List V)(H:Hp)(Q:VK)(E:XK):Prop
 |mk (tp ln lr:Addr) (ns:List Int) (rs:List R5):vs=[.ref tp]->cy K C H tp ln lr ns rs->ns.length<=12->(∀l (qs:List Addr) H',aC H H'->H l=none->H' l=some (.lst (qs.map V.ref))->dU K H' qs (gA ns.length (BH ns))->Q (.ref l) H')->K3 K C vs H Q E
theorem Qm{t:Ad}(T:Txt K mg w t):bL P w K mg base fP 3 t.ow t.tV ["town"]  (K3 K t.aP):=by
 refine T.HN.F.gB EN λH Q E A h=>?_
 ·obtain⟨u,y,D,ns,B,rfl,s,z,k⟩:=h
  refine⟨_,(oR (dP (kO EN ["house","town"] [none,some 0]) rfl (gX rfl T.j9 (cX (aT (pv 0) rfl))) (λ_ _ _ _=>by exact (gS 0 Jw)) (λ_ _ _ _=>by exact eK) (λ_ _ _ _=>by exact (cG (Oq T) A T.Jz (jD (pv 1) (pv 0)))))),?_⟩
  left
  obtain⟨⟨G,p⟩,_⟩:=id s;refine⟨_,rfl,u,_,G,_,_,rfl,p,T.fk,T.jk,rfl,(ns.length:Int),rfl,∅,∅,λr a=>?_⟩;refine gG (n:=((ns.length:Int)).toNat) (λi o g=>∃c:List Addr,o=c.map V.ref/\dU K g c (gA i (BH ns))) a BX rm ⟨[],rfl,⟨rfl,λi q x e=>by cases e⟩⟩ ?_ ?_
  ·rintro i o g d j l ⟨c,rfl,f⟩ x I ⟨rfl,rfl⟩
   have d:i<ns.length:=by simpa using d
   rw[eB];refine⟨_,rfl,_,rfl,u,y,D,ns,B,i,ns[i],rfl,s.mono j,aa d,λq J m C=>?_⟩;have v:=m _ _ l;have L:c.length=i:=by rw[f.len];simp[gA]
   refine fH a (by simpa using d) (j.trans m) v (by rw[ah];exact bX ∅) ⟨c++[q],by rw[aU];rfl,?_⟩;have e:gA (i+1) (BH ns)=gA i (BH ns)++[cC ⟨ns[i],0,0,-1⟩]:=by
    unfold gA;rw[fB,aU,bA,List.map_nil];congr 3;unfold BH;rw[aj,aa d];rfl
   rw[e];exact (dU.snoc (f.mono λb x=>m.cV) C).mono λb x=>cR.past v m6 cK
  ·rintro o g j l ⟨c,rfl,f⟩
   rw[show ((ns.length:Int)).toNat=ns.length from rfl] at f;exact k r c g j a l f
inductive DO(K:af)(C:Addr)(vs:List V)(H:Hp)(Q:VK)(E:XK):Prop
 |mk (tp ln lr lc:Addr) (ns:List Int) (rs:List R5) (qs:List Addr) (cl:List (Nat×Nat)):vs=[.ref tp,.ref lc]->cy K C H tp ln lr ns rs->bC K H lc (qs.map V.ref)->dU K H qs (cl.map λc=>[.int c.1,.int c.2])->cl.length<=20->(∀c∈cl,c.1<ns.length/\c.2<3)->Q .dH H->DO K C vs H Q E
theorem J1{t:Ad}(T:Txt K mg w t):bL P w K mg base fP 1 t.jQ t.mQ ["town","callers"]  (DO K t.aP):=by
 refine T.Bq.F.gB zm λH Q E N h=>?_
 ·obtain⟨u,L,R,g,ns,O,f,cl,rfl,C,s,B,M,m,k⟩:=h
  refine⟨_,(ao (b4 (qT Yn (lS T.fR (pv 1)) (iu rfl T.Ni (v:=.int 20) ⟨_,rfl⟩)) cH br) (bQ (fS (dB (pv 1)) (gT 2 zm) (ao (b4 (qT wC (lS T.fR (pv 2)) az) cH br) (ao (b4 (kB (iZ nQ tE az (xT (pv 2) az) (aT (pv 0) rfl))) cH br) (bQ (b4 (kB (iZ nQ tE az (xT (pv 2) az) (lS T.fR (iu rfl T.k9 (v:=.ref t.eT) rfl)))) cH br))))))),?_⟩
  left
  obtain⟨⟨J,p⟩,_⟩:=id C;have I:f.length=cl.length:=by rw[B.len,ah]
  refine⟨_,rfl,g,_,rfl,.inl s,_,_,rfl,rfl,_,rfl,rz (e8 (by rw[ah];lia)) ?_⟩;refine⟨_,rfl,g,rfl,⟨_,s⟩,uE (K:=K) (a:=g) (xs:=f.map V.ref) (λi j c=>c=H/\∃n:Option V,j=[some (.ref u),some (.ref g),n]) ⟨rfl,_,rfl⟩ (λi j c _ z=>by rw[z.1];exact s) ?_ ?_⟩
  ·rintro i y j c o ⟨rfl,n,rfl⟩
   have b:=(ai.mp o).1;rw[ah] at b;have d:i<cl.length:=I▸b;have D:y=.ref f[i]:=by
    rw[ak,aa b] at o;exact (aR o).symm
   subst D;have e:cR K c f[i] [.int cl[i].1,.int cl[i].2]:=B.at' i _ _ (aa b) (by rw[ak,aa d];rfl);obtain⟨A,x⟩:=m _ (aD d);generalize f[i]=q at e;generalize cl[i]=cc at e A x;obtain⟨r,l⟩:=cc;refine⟨_,rfl,q,_,rfl,.inr e,rfl,_,rfl,rz (by show (!decide (V.int 2=V.int 2))=false;rw[eO rfl];rfl) ?_⟩;refine⟨_,rfl,q,_,_,_,rfl,rfl,e,rfl,_,_,rfl,rfl,_,rfl,?_⟩;rw[eO (show (0:Int)<=(r:Int) by lia)];refine dZ ⟨_,rfl,u,_,J,_,_,rfl,p,T.fk,T.jk,rfl,_,_,rfl,rfl,_,rfl,?_⟩;rw[eO (show (r:Int)<(ns.length:Int) by have:r<ns.length:=A;lia)];refine dO ?_;refine⟨_,rfl,q,_,_,_,rfl,rfl,e,rfl,_,_,rfl,rfl,_,rfl,?_⟩;rw[eO (show (0:Int)<=(l:Int) by lia)];refine dZ ⟨_,_,rfl,.inr (T.gh _),_,_,rfl,rfl,_,rfl,?_⟩;have G:decide ((l:Int)<((([.int 1,.int 2,.int 4]:List V).length:Nat):Int))=true:=eO (by show (l:Int)<3;have:l<3:=x;lia);rw[G];exact dO ⟨rfl,_,rfl⟩
  ·rintro j c ⟨rfl,n,rfl⟩
   exact k
end
noncomputable abbrev nc(t:Ad):NC:=⟨t.cF,t.cP,t.fY,t.jR,t.jc,t.gw,t.jx⟩
section
variable{P:Program}{w:World}{K:af}{mg:Str->Option Value}{base:Heap}
inductive Rx(K:af)(CT:Addr)(c:NC)(vs:List V)(H:Hp)(Q:VK)(E:XK):Prop
 |mk (p dx tp ln lr lc:Addr) (ns:List Int) (rs:List R5) (qs:List Addr) (cl:List (Nat×Nat)):vs=[.ref p,.ref tp,.ref lc]->H p=some (.ins c.b5 dx [])->cy K CT H tp ln lr ns rs->ns.length<=12->rs.length<=20->(∀r∈rs,1<=r.d/\r.d<=4)->bC K H lc (qs.map V.ref)->dU K H qs (cl.map λc=>[.int c.1,.int c.2])->cl.length<=20->(∀c∈cl,c.1<ns.length/\c.2<3)->(∀F H',cj K c H' F p tp ns.length (S0 ns rs cl)->(∀b o,H b=some o->b≠p->H' b=some o)->(∀b,F b->b=p∨H b=none)->Q .dH H')->Rx K CT c vs H Q E
noncomputable abbrev nf(fs:List (Str×V))(k:Str)(v:V):List (Str×V):=fs++[(k,v)]
structure K4(K:af)(CT:Addr)(H:Hp)(tp ln lr lc:Addr)(ns:List Int)(rs:List R5)(qs:List Addr)(cl:List (Nat×Nat)):Prop where
 xG:cy K CT H tp ln lr ns rs
 ue:bC K H lc (qs.map V.ref)
 tup:dU K H qs (cl.map λc=>[.int c.1,.int c.2])
theorem K4.mono{f g c d a:Addr}{H e:Hp}{ns:List Int}{rs:List R5}{qs:List Addr}{cl:List (Nat×Nat)}(h:K4 K f H g c d a ns rs qs cl)(s:aC H e):K4 K f e g c d a ns rs qs cl:=⟨h.xG.mono s,s.seq h.ue,h.tup.mono λb x=>s.cV⟩
theorem K4.put{i a d g f p C l:Addr}{H:Hp}{ns:List Int}{rs:List R5}{qs:List Addr}{cl:List (Nat×Nat)}{j:List (Str×V)}{o:HO}(h:K4 K i H a d g f ns rs qs cl)(c:H p=some (.ins C l j))(n:a≠p):K4 K i (upd H p o) a d g f ns rs qs cl :=
 ⟨h.xG.but (λb u e k=>by rw[aK k];exact e) c n,bC.past c ab7 cK h.ue,h.tup.mono λb x=>cR.past c lG cK⟩
theorem zR(la:Nat->Addr)(i:Nat)(l:Addr):(au (i+1)).map (λg=>V.ref (eN la i l g))=(au i).map (λg=>V.ref (la g))++[.ref l]:=by
 rw[fB,aU,bA,List.map_nil,c6];congr 1;refine cU λg a=>?_;rw[f6 (bT (cT.mp a))]
noncomputable def aih(loc:Role->Addr)(acc:Addr)(la:Nat->Addr):Role->Addr
 |.uN=>acc
 |.rows g=>la g
 |r=>loc r
noncomputable def obR(ob:Role->Option HO)(la:Nat->Addr)(rq:Nat->List Addr)(i:Nat):Role->Option HO
 |.uN=>some (.lst ((au i).map λg=>.ref (la g)))
 |.rows g=>if g<i then some (.lst ((rq g).map V.ref)) else none
 |r=>ob r
noncomputable def aeZ(loc:Role->Addr)(acc:Addr)(lb ld:Nat->Addr):Role->Addr
 |.jZ=>acc
 |.book g=>lb g
 |.fQ g=>ld g
 |r=>loc r
noncomputable def obB(C:Addr)(ob:Role->Option HO)(XQ lb ld:Nat->Addr)(i:Nat):Role->Option HO
 |.jZ=>some (.lst ((au i).map λg=>.ref (lb g)))
 |.book g=>if g<i then some (.ins C (XQ g) [("kept",.ref (ld g))]) else none
 |.fQ g=>if g<i then some (.dT []) else none
 |r=>ob r
noncomputable def akF(loc:Role->Addr)(acc:Addr)(lh:Nat->Addr):Role->Addr
 |.iG=>acc
 |.handed g=>lh g
 |r=>loc r
noncomputable def obH(ob:Role->Option HO)(lh:Nat->Addr)(i:Nat):Role->Option HO
 |.iG=>some (.lst ((au i).map λg=>.ref (lh g)))
 |.handed g=>if g<i then some (.lst []) else none
 |r=>ob r
noncomputable def dxF(dx dxs:Addr)(XQ:Nat->Addr):Role->Addr
 |.b5=>dx
 |.cN=>dxs
 |.book g=>XQ g
 |_=>0
noncomputable def akG(p sp lu:Addr)(ls:List Addr)(acc:Addr)(la:Nat->Addr)(acb:Addr)(lb ld:Nat->Addr)(ach uf acd:Addr)(lh:Nat->Addr)(acl N5:Addr):Role->Addr
 |.b5=>p
 |.cN=>sp
 |.c8=>lu
 |.fM i=>ls.getD i 0
 |.uN=>acc
 |.rows g=>la g
 |.jZ=>acb
 |.book g=>lb g
 |.fQ g=>ld g
 |.aN=>ach
 |.groups=>uf
 |.iG=>acd
 |.handed i=>lh i
 |.cz=>acl
 |.fj=>N5
 |_=>0
theorem FJ{t:Ad}(T:Txt K mg w t):bL P w K mg base fP 5 t.om t.tS ["self","town","callers"]  (Rx K t.aP (nc t)):=by
 refine T.AF.F.gB jU λH Q E hr h=>?_
 ·obtain⟨p,s,y,ln,lr,lc,ns,rs,qs,cl,rfl,hp,hT,h12,pI,hw,hL,FI,anF,hok,k⟩:=h
  refine⟨_,(ao (dN (cG (J1 T) hr T.Bq (jD (pv 1) (pv 2)))) (ao (fU (pv 0) (pv 1) rfl) (ao (fU (pv 0) (cI T.zF (Iv T) hr T.aaw (cX (pv 1))) rfl) (ao (fU (pv 0) (dP (kO jU ["bit","town"] [none,some 1]) rfl (R0 (iu rfl T.k9 (v:=.ref t.eT) rfl)) (λ_ _ _ _=>by exact (gS 0 Jr)) (λ_ _ _ _=>by exact eK) (λ_ _ _ _=>by exact (cG (Qm T) hr T.HN (cX (pv 1))))) rfl) (ao (fU (pv 0) (dP (kO jU ["bit"] [none]) rfl (R0 (iu rfl T.k9 (v:=.ref t.eT) rfl)) (λ_ _ _ _=>by exact (gS 0 Js)) (λ_ _ _ _=>by exact eK) (λ_ _ _ _=>by exact (abE T.ye.M (OA T) (hr.mono (!_)) rfl T.ahY T.ye.B .nil iz))) rfl) (ao (fU (pv 0) (dP (kO jU ["caller"] [none]) rfl (dB (pv 2)) (λ_ _ _ _=>by exact (gS 0 Jt)) (λ_ _ _ _=>by exact eK) (λ_ _ _ _=>by exact (yT K (pv 0) az))) rfl) (ao (fU (pv 0) (dP (kO jU ["caller"] [none]) rfl (dB (pv 2)) (λ_ _ _ _=>by exact (gS 0 Ju)) (λ_ _ _ _=>by exact eK) (λ_ _ _ _=>by exact (yT K (pv 0) az))) rfl) (ao (fU (pv 0) (dP (kO jU ["caller"] [none]) rfl (dB (pv 2)) (λ_ _ _ _=>by exact (gS 0 Jv)) (λ_ _ _ _=>by exact eK) (λ_ _ _ _=>by exact (dY fF))) rfl) (ao (fU (pv 0) (dY fF) rfl) (bQ (fU (pv 0) (dY fF) rfl))))))))))),?_⟩
  left
  obtain⟨⟨dt,htp⟩,htn,vs,htr,_⟩:=id hT;have wh:y≠p:=pK htp hp λz=>by have:=(HO.ins.inj z).2.2;cases this
  refine cJ λNx U=>?_;refine⟨_,rfl,_,rfl,y,ln,lr,lc,ns,rs,qs,cl,rfl,hT,hL,FI,anF,hok,U _ _ ?_⟩;have B0:Lb H H p (λ_=>p) (λr=>if r=.b5 then some (.ins t.cF s []) else none):=by
   refine⟨⟨λr o e=>?_,λr q h1 h2 _=>?_⟩,rfl,-_,λb o e _=>e,λb hb=>.inl ?_⟩
   ·by_cases z:r=.b5
    ·rw[b3 z] at e;cases e;exact hp
    ·rw[eH z] at e;cases e
   ·have g:∀{r:Role},(if r=Role.b5 then some (HO.ins t.cF s []) else none)≠none->r=.b5:=λ{r} h=>by
     by_cases z:r=.b5
     ·exact z
     ·rw[eH z] at h;exact eL rfl h
    rw[g h1,g h2]
   ·obtain⟨_,_,e⟩:=hb
    exact e.symm
  refine cJ λNx U=>?_;refine⟨_,rfl,_,rfl,p,_,s,[],rfl,hp,T.aY,T.jy,!_,?_⟩;rw[dS (names:=[]) rfl rfl];refine U _ _ ?_;have B1:=B0.put (.ins t.cF s ([]++[(Str.ofString "town",V.ref y)]));have hT1:cy K t.aP (upd H p (.ins t.cF s ([]++[(Str.ofString "town",V.ref y)]))) y ln lr ns rs:=hT.but (λb o e n=>by rw[aK n];exact e) hp wh;have hp1:=aq (H:=H) (a:=p) (o:=.ins t.cF s ([]++[(Str.ofString "town",V.ref y)]));have kq1:∀b x,cR K H b x->cR K (upd H p (.ins t.cF s ([]++[(Str.ofString "town",V.ref y)]))) b x:=λb x=>cR.past hp lG cK;have hL1:=bC.past hp ab7 (cK (o:=.ins t.cF s ([]++[(Str.ofString "town",V.ref y)]))) hL;have aij:=FI.mono kq1;generalize upd H p (.ins t.cF s ([]++[(Str.ofString "town",V.ref y)]))=H1 at B1 hT1 hp1 hL1 aij;refine cJ λNx U=>?_;refine⟨_,rfl,λJ I nsp ndx hne=>?_⟩;have t2:aC H1 (upd (upd H1 I (.own J)) J (.ins t.cP I [])):=(aC.new ndx).trans (aC.new (by rw[aK (cu hne)];exact nsp));refine⟨J,I,y,ln,lr,ns,rs,rfl,aq,hT1.mono t2,pI,hw,λlu L H2 WE hls nlu nd el h2p h2u h2w kp=>⟨rfl,?_⟩⟩;have s2:aC H1 H2:=λb o e=>kp b o (t2 b o e) (aJ e nsp);have akI:H1 lu=none:=t2.free WE;have akJ:∀l∈L,H1 l=none:=λl hl=>t2.free (hls l hl);have OS:xF H2 (aeI J lu L) (aan t.cP I y lu L (rs.map λr=>au r.d.toNat)):=by
   refine ahS h2p h2u (by rw[ah];exact el) (λi l w' e1 e2=>?_) nd nlu;rw[ak] at e2;cases e3:rs[i]? with
   |none=>rw[e3] at e2;cases e2
   |some r=>rw[e3] at e2;cases e2;exact h2w i l r e1 e3
  have B2:=B1.join OS rfl (λr m=>by
   cases r <;> first|exact eL rfl m|skip
   ·exact nsp
   ·exact akI
   ·rename_i i
    show H1 (L.getD i 0)=none;by_cases z:i<L.length
    ·rw[aj,aa z]
     exact akJ _ (aD z)
    ·exact eL (show ((rs.map λr:R5=>au r.d.toNat)[i]?.map λw=>HO.lst (bE w))=none by rw[jG (by rw[ah];lia)];rfl) m) s2
  have akK:K4 K t.aP H2 y ln lr lc ns rs qs cl:=⟨hT1.mono s2,s2.seq hL1,aij.mono λb x=>s2.cV⟩;have hp2:=s2 _ _ hp1;refine⟨_,rfl,p,_,s,_,rfl,hp2,T.aY,T.mE,(by show 1<1000;decide),?_⟩;rw[dS (names:=["town"]) rfl (by decide +kernel)];refine U _ _ ?_;have B3:=B2.put (.ins t.cF s (([]++[(Str.ofString "town",V.ref y)])++[(Str.ofString "strands",V.ref J)]));have aik:=akK.put hp2 wh (o:=.ins t.cF s (([]++[(Str.ofString "town",V.ref y)])++[(Str.ofString "strands",V.ref J)]));have hp3:=aq (H:=H2) (a:=p) (o:=.ins t.cF s (([]++[(Str.ofString "town",V.ref y)])++[(Str.ofString "strands",V.ref J)]));generalize upd H2 p (.ins t.cF s (([]++[(Str.ofString "town",V.ref y)])++[(Str.ofString "strands",V.ref J)]))=H3 at B3 aik hp3;generalize anH:(λr=>if (aan t.cP I y lu L (rs.map λr:R5=>au r.d.toNat) r).isSome=true then aeI J lu L r else p)=OD at B3;generalize eob:(iH (λr=>if (aan t.cP I y lu L (rs.map λr:R5=>au r.d.toNat) r).isSome=true then aan t.cP I y lu L (rs.map λr:R5=>au r.d.toNat) r else iH (λr=>if r=.b5 then some (.ins t.cF s []) else none) .b5 (.ins t.cF s ([]++[(Str.ofString "town",V.ref y)])) r) .b5 (.ins t.cF s (([]++[(Str.ofString "town",V.ref y)])++[(Str.ofString "strands",V.ref J)])))=Uh at B3;refine cJ λNx U=>?_;refine⟨_,rfl,⟨_,T.gh _⟩,λA hacc=>?_⟩;refine gG (n:=3) (λi ys X=>∃(Y:Nat->Addr) (G:Nat->List Addr),ys=(au i).map (λg=>.ref (Y g))/\Lb H X p (aih OD A Y) (obR Uh Y G i)/\(∀g,g<i->dU K X (G g) (gA ns.length (BH ns)))) hacc (Mg (T.gh _)) (BY (T.gh _)) ?_ ?_ ?_
  ·refine⟨λ_=>0,λ_=>[],rfl,(B3.new hacc (r:=.uN) (!_) (.lst [])).ext (λr=>?_) (λr m=>?_),λg D=>eL D ∅⟩
   ·cases r <;> first|rfl|skip
    rename_i g;show Uh (.rows g)=_;rw[show Uh (.rows g)=none by rw[<- eob];rfl];show none=(if g<0 then some (HO.lst (([]:List Addr).map V.ref)) else none);rw[eH (uz g)]
   ·cases r <;> first|rfl|skip
    rename_i g;exact eL (show Uh (.rows g)=none by rw[<- eob];rfl) m
  ·rintro i ys X hi sx Z ⟨Y,G,rfl,B,hR⟩ x H4 ⟨rfl,hx⟩
   refine⟨_,rfl,y,ln,lr,ns,rs,rfl,(aik.mono sx).xG,h12,λl qs' H5 s5 hl h5 ht=>?_⟩;have Ys:=s5 _ _ Z;have B5:=((B.add s5 hl h5 (r:=.rows i) (λz=>by cases z)).ahR (r:=.uN) (aS _) (λz=>by cases z) (.lst ((au i).map (λg=>V.ref (Y g))++[.ref l])));have hl5:l≠A:=(aJ Z hl).symm;refine fH hacc hi (sx.trans s5) Ys (by rw[ah,bz];exact bX ∅) ⟨eN Y i l,eN G i qs',(zR Y i l).symm,B5.ext (λr=>?_) (λr m=>?_),λg D=>?_⟩
   ·cases r <;> first|rfl|skip
    ·show some (HO.lst _)=some (HO.lst _)
     rw[zR]
    ·rename_i g
     show iH (obR Uh Y G i) (.rows i) _ (.rows g)=if g<i+1 then some (HO.lst ((eN G i qs' g).map V.ref)) else none
     by_cases z:g=i
     ·subst z
      rw[dQ,b3 ∅,c6]
     ·rw[cO (λe=>z (by cases e;rfl)),f6 z]
      show (if g<i then some (HO.lst ((G g).map V.ref)) else none)=_;by_cases z2:g<i
      ·rw[b3 z2,b3 ∅]
      ·rw[eH z2,eH ∅]
   ·cases r <;> first|rfl|skip
    rename_i g;show rW (aih OD A Y) (.rows i) l (.rows g)=eN Y i l g;by_cases z:g=i
    ·subst z
     rw[fW,c6]
    ·rw[fJ (λe=>z (by cases e;rfl)),f6 z]
     rfl
   ·by_cases z:g=i
    ·subst z
     rw[c6];exact ht.mono λb x=>cR.past Ys m6 cK
    ·rw[f6 z]
     exact ((hR g ∅).mono λb x=>s5.cV).mono λb x=>cR.past Ys m6 cK
  rintro ys H4 s4 Z ⟨Y,G,rfl,B4,hR4⟩;have akM:=aik.mono s4;have hp4:=s4 _ _ hp3;refine⟨_,rfl,p,_,s,_,rfl,hp4,T.aY,T.lH,(by show 2<1000;decide),?_⟩;rw[dS (names:=["town","strands"]) rfl (by decide +kernel)];refine U _ _ ?_;generalize eo5:HO.ins t.cF s ((([]++[(Str.ofString "town",V.ref y)])++[(Str.ofString "strands",V.ref J)])++[(Str.ofString "rows_by_group",V.ref A)])=o5;have B5:=B4.put o5;have ail:=akM.put hp4 wh (o:=o5);have hp5:=aq (H:=H4) (a:=p) (o:=o5);have hR5:∀g,g<3->dU K (upd H4 p o5) (G g) (gA ns.length (BH ns)):=λg D=>(hR4 g D).mono λb x=>cR.past hp4 lG cK;generalize upd H4 p o5=H5 at B5 ail hp5 hR5;generalize akO:aih OD A Y=ads at B5;generalize aim:iH (obR Uh Y G 3) .b5 o5=o6 at B5;have n5:∀g,o6 .jZ=none/\o6 (.book g)=none/\o6 (.fQ g)=none:=λg=>by rw[<- aim,<- eob];exact⟨rfl,rfl,rfl⟩
  refine cJ λNx U=>?_;refine⟨_,rfl,⟨_,T.gh _⟩,λC ae4=>?_⟩;refine gG (n:=3) (λi ys X=>∃(O ld XQ:Nat->Addr),ys=(au i).map (λg=>.ref (O g))/\Lb H X p (aeZ ads C O ld) (obB t.fY o6 XQ O ld i)) ae4 (Mg (T.gh _)) (BY (T.gh _)) ?_ ?_ ?_
  ·refine⟨λ_=>0,λ_=>0,λ_=>0,rfl,(B5.new ae4 (r:=.jZ) (λz=>by cases z) (.lst [])).ext (λr=>?_) (λr m=>?_)⟩
   ·cases r <;> first|rfl|skip
    ·rename_i g
     show o6 (.book g)=(if g<0 then some (HO.ins t.fY 0 [("kept",.ref 0)]) else none);rw[eH (uz g)];exact (n5 g).2.1
    ·rename_i g
     show o6 (.fQ g)=(if g<0 then some (HO.dT []) else none);rw[eH (uz g)];exact (n5 g).2.2
   ·cases r <;> first|rfl|skip
    ·rename_i g
     exact eL (n5 g).2.1 m
    ·rename_i g
     exact eL (n5 g).2.2 m
  ·rintro i ys X hi sx Z ⟨O,ld,XQ,rfl,B⟩ x H6 ⟨rfl,hx⟩
   refine λbp EL nbp anK hne=>?_;have t6:aC H6 (upd (upd H6 EL (.own bp)) bp (.ins t.fY EL [])):=(aC.new anK).trans (aC.new (by rw[aK (cu hne)];exact nbp));refine⟨bp,EL,rfl,aq,λd H7 hd hB kp=>⟨rfl,?_⟩⟩;have s7:aC H6 H7:=λb o e=>kp b o (t6 b o e) (aJ e nbp);have hd6:H6 d=none:=t6.free hd;obtain⟨⟨dx',h7b⟩,h7d⟩:=hB;have nbd:bp≠d:=Xg h7b h7d (λe=>by cases e);have sm:aC H6 (hide H7 d):=λb o e=>by
    have nb:b≠d:=aJ e hd6;show (if b=d then none else H7 b)=some o;rw[eH nb];exact s7 _ _ e
   have sm2:aC (hide H7 d) H7:=λb o e=>by
    have e:(if b=d then none else H7 b)=some o:=e;by_cases z:b=d
    ·rw[b3 z] at e;cases e
    ·rw[eH z] at e;exact e
   have hmb:(hide H7 d) bp=some (.ins t.fY dx' [("kept",.ref d)]):=by
    show (if bp=d then none else H7 bp)=_;rw[eH nbd];exact h7b
   have hmd:(hide H7 d) d=none:=b3 rfl;have B1:=B.add sm nbp hmb (r:=.book i) (λz=>by cases z);have B2:=B1.add sm2 hmd h7d (r:=.fQ i) (λz=>by cases z);have B3:=B2.ahR (r:=.jZ) (aS _) (λz=>by cases z) (.lst ((au i).map (λg=>V.ref (O g))++[.ref bp]));refine fH ae4 hi (sx.trans s7) (s7 _ _ Z) (by rw[ah,bz];exact bX ∅) ⟨eN O i bp,eN ld i d,eN XQ i dx',(zR O i bp).symm,B3.ext (λr=>?_) (λr m=>?_)⟩
   ·cases r <;> first|rfl|skip
    ·show some (HO.lst _)=some (HO.lst _)
     rw[zR]
    ·rename_i g
     show iH (obB t.fY o6 XQ O ld i) (.book i) _ (.book g)=if g<i+1 then some (HO.ins t.fY (eN XQ i dx' g) [("kept",.ref (eN ld i d g))]) else none
     by_cases z:g=i
     ·subst z
      rw[dQ,b3 ∅,c6,c6]
     ·rw[cO (λe=>z (by cases e;rfl)),f6 z,f6 z]
      show (if g<i then some (HO.ins t.fY (XQ g) [("kept",.ref (ld g))]) else none)=_;by_cases z2:g<i
      ·rw[b3 z2,b3 ∅]
      ·rw[eH z2,eH ∅]
    ·rename_i g
     show iH (iH (obB t.fY o6 XQ O ld i) (.book i) _) (.fQ i) _ (.fQ g)=if g<i+1 then some (HO.dT []) else none
     by_cases z:g=i
     ·subst z
      rw[dQ,b3 ∅];rfl
     ·rw[cO (λe=>z (by cases e;rfl))]
      show (if g<i then some (HO.dT []) else none)=_;by_cases z2:g<i
      ·rw[b3 z2,b3 ∅]
      ·rw[eH z2,eH ∅]
   ·cases r <;> first|rfl|skip
    ·rename_i g
     show rW (aeZ ads C O ld) (.book i) bp (.book g)=eN O i bp g;by_cases z:g=i
     ·subst z
      rw[fW,c6]
     ·rw[fJ (λe=>z (by cases e;rfl)),f6 z]
      rfl
    ·rename_i g
     show rW (rW (aeZ ads C O ld) (.book i) bp) (.fQ i) d (.fQ g)=eN ld i d g;by_cases z:g=i
     ·subst z
      rw[fW,c6]
     ·rw[fJ (λe=>z (by cases e;rfl)),f6 z]
      rfl
  rintro ys H6 s6 Z ⟨O,ld,XQ,rfl,B6⟩;have akP:=ail.mono s6;have hR6:∀g,g<3->dU K H6 (G g) (gA ns.length (BH ns)):=λg D=>(hR5 g D).mono λb x=>s6.cV;have hp6:=s6 _ _ hp5;subst eo5;refine⟨_,rfl,p,_,s,_,rfl,hp6,T.aY,T.xo,(by show 3<1000;decide),?_⟩;rw[dS (names:=["town","strands","rows_by_group"]) rfl (by decide +kernel)];refine U _ _ ?_;generalize eo7:HO.ins t.cF s (((([]++[(Str.ofString "town",V.ref y)])++[(Str.ofString "strands",V.ref J)])++[(Str.ofString "rows_by_group",V.ref A)])++[(Str.ofString "books",V.ref C)])=o7;have B7:=B6.put o7;have XR:=akP.put hp6 wh (o:=o7);have hp7:=aq (H:=H6) (a:=p) (o:=o7);have hR7:∀g,g<3->dU K (upd H6 p o7) (G g) (gA ns.length (BH ns)):=λg D=>(hR6 g D).mono λb x=>cR.past hp6 lG cK;generalize upd H6 p o7=H7 at B7 XR hp7 hR7;have Gz:(qs.map V.ref).length=cl.length:=by rw[ah,XR.tup.len,ah]
  have akQ:∀{i:Nat} {x:V} {X:Hp},(qs.map V.ref)[i]?=some x->K4 K t.aP X y ln lr lc ns rs qs cl->∃(hi:i<cl.length) (q:Addr),x=.ref q/\cR K X q [.int cl[i].1,.int cl[i].2]:=λ{i x X} hx ev=>by
   have hi:=(ai.mp hx).1;rw[Gz] at hi;have hq:i<qs.length:=by rw[<- ah (f:=V.ref),Gz];exact hi
   refine⟨hi,qs[i],?_,ev.tup.at' i _ _ (aa hq) (by rw[ak,aa hi];rfl)⟩;rw[ak,aa hq] at hx;exact (aR hx).symm
  refine cJ λNx U=>?_;refine⟨_,rfl,lc,rfl,⟨_,XR.ue⟩,λN ain=>?_⟩;refine LC (λi=>cl[i]?.map λc=>V.int (c.1:Nat)) ain XR.ue ∅ (λi x X R S hx sx h1 h2=>?_) (λH8 s8 Z=>?_)
  ·obtain⟨hi,q,rfl,hq⟩:=akQ hx (XR.mono sx)
   exact⟨_,rfl,q,_,_,_,rfl,rfl,hq,rfl,h1 _ _ (aC.refl _) (by rw[aa hi];rfl)⟩
  rw[Gz,Aa] at Z;have B8:=B7.add s8 ain Z (r:=.aN) (λz=>by cases z);have akR:=XR.mono s8;have hp8:=s8 _ _ hp7;subst eo7;refine⟨_,rfl,p,_,s,_,rfl,hp8,T.aY,T.kP,(by show 4<1000;decide),?_⟩;rw[dS (names:=["town","strands","rows_by_group","books"]) rfl (by decide +kernel)];refine U _ _ ?_;generalize eo9:HO.ins t.cF s ((((([]++[(Str.ofString "town",V.ref y)])++[(Str.ofString "strands",V.ref J)])++[(Str.ofString "rows_by_group",V.ref A)])++[(Str.ofString "books",V.ref C)])++[(Str.ofString "homes",V.ref N)])=o9;have B9:=B8.put o9;have aaK:=akR.put hp8 wh (o:=o9);have hp9:=aq (H:=H8) (a:=p) (o:=o9);have hR9:∀g,g<3->dU K (upd H8 p o9) (G g) (gA ns.length (BH ns)):=λg D=>((hR7 g D).mono λb x=>s8.cV).mono λb x=>cR.past hp8 lG cK;generalize upd H8 p o9=H9 at B9 aaK hp9 hR9;refine cJ λNx U=>?_;refine⟨_,rfl,lc,rfl,⟨_,aaK.ue⟩,λuf aio=>?_⟩;refine LC (λi=>cl[i]?.map λc=>V.int (c.2:Nat)) aio aaK.ue ∅ (λi x X R S hx sx h1 h2=>?_) (λZ5 mu Z=>?_)
  ·obtain⟨hi,q,rfl,hq⟩:=akQ hx (aaK.mono sx)
   exact⟨_,rfl,q,_,_,_,rfl,rfl,hq,rfl,h1 _ _ (aC.refl _) (by rw[aa hi];rfl)⟩
  rw[Gz,Aa] at Z;have B10:=B9.add mu aio Z (r:=.groups) (λz=>by cases z);have agz:=aaK.mono mu;have ae5:=mu _ _ hp9;subst eo9;refine⟨_,rfl,p,_,s,_,rfl,ae5,T.aY,T.k8,(by show 5<1000;decide),?_⟩;rw[dS (names:=["town","strands","rows_by_group","books","homes"]) rfl (by decide +kernel)];refine U _ _ ?_;generalize anO:HO.ins t.cF s (((((([]++[(Str.ofString "town",V.ref y)])++[(Str.ofString "strands",V.ref J)])++[(Str.ofString "rows_by_group",V.ref A)])++[(Str.ofString "books",V.ref C)])++[(Str.ofString "homes",V.ref N)])++[(Str.ofString "groups",V.ref uf)])=XZ;have B11:=B10.put XZ;have Y8:=agz.put ae5 wh (o:=XZ);have aip:=aq (H:=Z5) (a:=p) (o:=XZ);have aiq:∀g,g<3->dU K (upd Z5 p XZ) (G g) (gA ns.length (BH ns)):=λg D=>((hR9 g D).mono λb x=>mu.cV).mono λb x=>cR.past ae5 lG cK;generalize upd Z5 p XZ=H11 at B11 Y8 aip aiq;generalize air:rW (rW (aeZ ads C O ld) .aN N) .groups uf=agA at B11;generalize agB:iH (iH (iH (iH (iH (obB t.fY o6 XQ O ld 3) .b5 _) .aN _) .b5 _) .groups _) .b5 XZ=adt at B11;have n11:∀g,adt .iG=none/\adt (.handed g)=none:=λg=>by rw[<- agB,<- aim,<- eob];exact⟨rfl,rfl⟩
  refine cJ λNx U=>?_;refine⟨_,rfl,lc,rfl,⟨_,Y8.ue⟩,λW ae6=>?_⟩;refine gG (n:=(qs.map V.ref).length) (λi ys X=>∃lh:Nat->Addr,ys=(au i).map (λg=>.ref (lh g))/\Lb H X p (akF agA W lh) (obH adt lh i)) ae6 (m5 Y8.ue) (g5 Y8.ue) ?_ ?_ ?_
  ·refine⟨λ_=>0,rfl,(B11.new ae6 (r:=.iG) (λz=>by cases z) (.lst [])).ext (λr=>?_) (λr m=>?_)⟩
   ·cases r <;> first|rfl|skip
    rename_i g;show adt (.handed g)=(if g<0 then some (HO.lst []) else none);rw[eH (uz g)];exact (n11 g).2
   ·cases r <;> first|rfl|skip
    rename_i g;exact eL (n11 g).2 m
  ·rintro i ys X hi sx Z ⟨lh,rfl,B⟩ x S7 ⟨rfl,hx⟩
   refine⟨be _,λl hl=>?_⟩;have u:=aC.new (o:=.lst []) hl;have B3:=(B.new hl (r:=.handed i) (λz=>by cases z) (.lst [])).ahR (r:=.iG) (aS _) (λz=>by cases z) (.lst ((au i).map (λg=>V.ref (lh g))++[.ref l]));refine fH ae6 hi (sx.trans u) (u _ _ Z) (by rw[ah,bz];exact bX ∅) ⟨eN lh i l,(zR lh i l).symm,B3.ext (λr=>?_) (λr m=>?_)⟩
   ·cases r <;> first|rfl|skip
    ·show some (HO.lst _)=some (HO.lst _)
     rw[zR]
    ·rename_i g
     show iH (obH adt lh i) (.handed i) _ (.handed g)=if g<i+1 then some (HO.lst []) else none
     by_cases z:g=i
     ·subst z
      rw[dQ,b3 ∅]
     ·rw[cO (λe=>z (by cases e;rfl))]
      show (if g<i then some (HO.lst []) else none)=_;by_cases z2:g<i
      ·rw[b3 z2,b3 ∅]
      ·rw[eH z2,eH ∅]
   ·cases r <;> first|rfl|skip
    rename_i g;show rW (akF agA W lh) (.handed i) l (.handed g)=eN lh i l g;by_cases z:g=i
    ·subst z
     rw[fW,c6]
    ·rw[fJ (λe=>z (by cases e;rfl)),f6 z]
     rfl
  rintro ys S7 s12 Z ⟨lh,rfl,B12⟩;rw[Gz] at B12;have akU:∀g,g<3->dU K S7 (G g) (gA ns.length (BH ns)):=λg D=>(aiq g D).mono λb x=>s12.cV;have ait:=s12 _ _ aip;subst anO;refine⟨_,rfl,p,_,s,_,rfl,ait,T.aY,T.AK,(by show 6<1000;decide),?_⟩;rw[dS (names:=["town","strands","rows_by_group","books","homes","groups"]) rfl (by decide +kernel)];refine U _ _ ?_;generalize anQ:HO.ins t.cF s ((((((([]++[(Str.ofString "town",V.ref y)])++[(Str.ofString "strands",V.ref J)])++[(Str.ofString "rows_by_group",V.ref A)])++[(Str.ofString "books",V.ref C)])++[(Str.ofString "homes",V.ref N)])++[(Str.ofString "groups",V.ref uf)])++[(Str.ofString "handed",V.ref W)])=o13;have B13:=B12.put o13;have aiu:=aq (H:=S7) (a:=p) (o:=o13);have aiv:∀g,g<3->dU K (upd S7 p o13) (G g) (gA ns.length (BH ns)):=λg D=>(akU g D).mono λb x=>cR.past ait lG cK;generalize upd S7 p o13=H13 at B13 aiu aiv;refine cJ λNx U=>?_;refine⟨be _,λacl aiw=>?_⟩;have B14:=B13.new aiw (r:=.cz) (λz=>by cases z) (.lst []);have u14:=aC.new (o:=.lst []) aiw;have ae7:=u14 _ _ aiu;have aix:∀g,g<3->dU K (upd H13 acl (.lst [])) (G g) (gA ns.length (BH ns)):=λg D=>(aiv g D).mono λb x=>u14.cV;generalize upd H13 acl (.lst [])=H14 at B14 ae7 aix;subst anQ;refine⟨_,rfl,p,_,s,_,rfl,ae7,T.aY,T.eF,(by show 7<1000;decide),?_⟩;rw[dS (names:=["town","strands","rows_by_group","books","homes","groups","handed"]) rfl (by decide +kernel)];refine U _ _ ?_;generalize anV:HO.ins t.cF s (((((((([]++[(Str.ofString "town",V.ref y)])++[(Str.ofString "strands",V.ref J)])++[(Str.ofString "rows_by_group",V.ref A)])++[(Str.ofString "books",V.ref C)])++[(Str.ofString "homes",V.ref N)])++[(Str.ofString "groups",V.ref uf)])++[(Str.ofString "handed",V.ref W)])++[(Str.ofString "letters",V.ref acl)])=o15;have B15:=B14.put o15;have akV:=aq (H:=H14) (a:=p) (o:=o15);have akW:∀g,g<3->dU K (upd H14 p o15) (G g) (gA ns.length (BH ns)):=λg D=>(aix g D).mono λb x=>cR.past ae7 lG cK;generalize upd H14 p o15=H15 at B15 akV akW;refine⟨be _,λN5 akX=>?_⟩;have B16:=B15.new akX (r:=.fj) (λz=>by cases z) (.lst []);have u16:=aC.new (o:=.lst []) akX;have aiy:=u16 _ _ akV;have akY:∀g,g<3->dU K (upd H15 N5 (.lst [])) (G g) (gA ns.length (BH ns)):=λg D=>(akW g D).mono λb x=>u16.cV;generalize upd H15 N5 (.lst [])=H16 at B16 aiy akY;subst anV;refine⟨_,rfl,p,_,s,_,rfl,aiy,T.aY,T.jz,(by show 8<1000;decide),?_⟩;rw[dS (names:=["town","strands","rows_by_group","books","homes","groups","handed","letters"]) rfl (by decide +kernel)];generalize anW:HO.ins t.cF s ((((((((([]++[(Str.ofString "town",V.ref y)])++[(Str.ofString "strands",V.ref J)])++[(Str.ofString "rows_by_group",V.ref A)])++[(Str.ofString "books",V.ref C)])++[(Str.ofString "homes",V.ref N)])++[(Str.ofString "groups",V.ref uf)])++[(Str.ofString "handed",V.ref W)])++[(Str.ofString "letters",V.ref acl)])++[(Str.ofString "copies",V.ref N5)])=o17;have B17:=B16.put o17;have akZ:∀g,g<3->dU K (upd H16 p o17) (G g) (gA ns.length (BH ns)):=λg D=>(akY g D).mono λb x=>cR.past aiy lG cK;generalize upd H16 p o17=H17 at B17 akZ;subst anW agB air aim akO eob anH;have hws:(rs.map λr:R5=>au r.d.toNat).length=L.length:=by rw[ah];exact el.symm
  have anY:L.map V.ref=(au (rs.map λr:R5=>au r.d.toNat).length).map λi=>V.ref (L.getD i 0):=by
   rw[hws];refine iA (-_) λi h1 h2=>?_;simp at h1;simp[h1]
  have B18:Lb H H17 p (akG p J lu L A Y C O ld N uf W lh acl N5) (desc (nc t) (dxF s I XQ) y (akG p J lu L A Y C O ld N uf W lh acl N5) ⟨G,λ_=>[],[]⟩ (S0 ns rs cl)):=by
   refine B17.ext (λr=>?_) (λr m=>?_)
   ·cases r <;> first|rfl|skip
    case c8 =>
     show some (HO.lst (L.map V.ref))=some (HO.lst ((au (rs.map λr:R5=>au r.d.toNat).length).map λi=>V.ref (L.getD i 0)));rw[<- anY]
    case fM j =>
     show (if ((rs.map λr:R5=>au r.d.toNat)[j]?.map λw=>HO.lst (bE w)).isSome=true then ((rs.map λr:R5=>au r.d.toNat)[j]?.map λw=>HO.lst (bE w)) else none)=((rs.map λr:R5=>au r.d.toNat)[j]?.map λw=>HO.lst (bE w));cases (rs.map λr:R5=>au r.d.toNat)[j]? <;> rfl
    case aN =>
     show some (HO.lst _)=some (HO.lst ((cl.map (·.1)).map _));rw[bP];rfl
    case groups =>
     show some (HO.lst _)=some (HO.lst ((cl.map (·.2)).map _));rw[bP];rfl
    case iG =>
     show some (HO.lst ((au cl.length).map λg=>V.ref (lh g)))=some (HO.lst ((au (cl.map λ_=>([]:List Nat)).length).map λg=>V.ref (lh g)));rw[ah]
    case handed j =>
     show (if j<cl.length then some (HO.lst []) else none)=((cl.map λ_=>([]:List Nat))[j]?.map λw=>HO.lst (bE w));rw[ak];by_cases z:j<cl.length
     ·rw[b3 z,aa z]
      rfl
     ·rw[eH z,jG ∅]
      rfl
   ·cases r <;> first|rfl|exact eL rfl m|skip
    case fM j =>
     show (if ((rs.map λr:R5=>au r.d.toNat)[j]?.map λw=>HO.lst (bE w)).isSome=true then L.getD j 0 else p)=L.getD j 0;have m:(if ((rs.map λr:R5=>au r.d.toNat)[j]?.map λw=>HO.lst (bE w)).isSome=true then ((rs.map λr:R5=>au r.d.toNat)[j]?.map λw=>HO.lst (bE w)) else none)≠none:=m;cases e:(rs.map λr:R5=>au r.d.toNat)[j]? with
     |none=>rw[e] at m;exact eL rfl m
     |some w'=>rfl
  refine k _ H17 ⟨_,dxF s I XQ,⟨G,λ_=>[],[]⟩,B18.np,B18.own,λb=>Iff.rfl,⟨akZ,λi l e=>?_,⟨rfl,λi q x e=>by cases e⟩⟩⟩ B18.kp B18.fr;cases e
inductive Y9(K:af)(c:NC)(vs:List V)(H:Hp)(Q:VK)(E:XK):Prop
 |mk (F:Addr->Prop) (p tp:Addr) (n g:Nat) (s:NS):vs=[.ref p,.int g]->cj K c H F p tp n s->g<3->(∀l (qs:List Addr) H',aC H H'->H l=none->H' l=some (.lst (qs.map V.ref))->dU K H' qs (gA n (s.R g))->Q (.ref l) H')->Y9 K c vs H Q E
theorem nK{t:Ad}(T:Txt K mg w t):bL P w K mg base fP 2 t.vd t.Aw ["self","group"]  (Y9 K (nc t)):=by
 refine T.ni.F.gB U9 λH Q E j h=>?_
 ·obtain⟨F,p,r,n,g,st,rfl,⟨a,s,q,i,O,m,f⟩,c,k⟩:=h
  refine⟨_,(ao (dN (DY (DN T) (j.mono (!_)) rfl T.iT.g T.iT.F.kp T.iT.B .nil UP (cX (pv 1)))) (oR (bS fG (by rfl) T.sF boot_list (cX (xL (aT (pv 0) rfl) (pv 1)))))),?_⟩
  left
  have d:=O.get .b5 _ rfl;rw[i] at d;refine⟨_,rfl,g,rfl,λ_=>?_,λz=>eL ⟨∅,∅⟩ z⟩;refine⟨_,rfl,p,_,_,_,_,rfl,d,T.aY,T.lH,rfl,_,rfl,a .uN,_,_,_,rfl,rfl,bC.of (O.get .uN _ rfl),pX c,a (.rows g),_,rfl,.inl (bC.of (O.get (.rows g) _ (b3 c))),λl e=>?_⟩;have u:=aC.new (o:=.lst ((q.rq g).map V.ref)) e;exact k l (q.rq g) _ u e aq ((f.rows g c).mono λb x=>u.cV)
inductive Za(K:af)(CT:Addr)(c:NC)(vs:List V)(H:Hp)(Q:VK)(E:XK):Prop
 |mk (F:Addr->Prop) (p tp ln lr:Addr) (ns:List Int) (rs:List R5) (s:NS) (g:Nat):vs=[.ref p,.int g]->NW K c CT H F p tp ln lr ns rs s->cD ns rs->BI ns rs s->g<3->(∀l H',aC H H'->H l=none->H' l=some (.lst (bE (YI rs s.ws g)))->Q (.ref l) H')->Za K CT c vs H Q E
theorem xu{t:Ad}(T:Txt K mg w t):bL P w K mg base fP 3 t.ve t.Ax ["self","group"]  (Za K t.aP (nc t)):=by
 refine T.vq.F.gB Va λH Q E u h=>?_
 ·obtain⟨F,p,i,f,y,e,v,st,g,rfl,N,ok,d,D,k⟩:=h
  refine⟨_,(oR (j4 (aT (pv 0) rfl) T.d7 T.vp.m (Lr T) (u.mono (!_)) T.vp.B .nil UP (cX (pv 1)))),?_⟩
  left
  obtain⟨a,x,q,j,O,I,G⟩:=N.b5;have c:=O.get .b5 _ rfl;rw[j] at c;refine⟨_,rfl,p,_,_,_,_,rfl,c,T.aY,T.mE,rfl,a .cN,x .cN,_,rfl,O.get .cN _ rfl,rfl,_,rfl,a .cN,i,a .c8,f,y,e,v,st.ws,g,rfl,N.xG,O.strAt,d.wl,ok.LD,(λr b=>⟨(ok.ok r b).e1,(ok.ok r b).e7⟩),λo l n J _ s A C=>?_,λz=>eL ⟨∅,∅⟩ z⟩
  have:o=g:=∅
  subst this;exact k l n s A C
inductive VZ(K:af)(CT:Addr)(c:NC)(vs:List V)(H:Hp)(Q:VK)(E:XK):Prop
 |mk (F:Addr->Prop) (p tp ln lr:Addr) (ns:List Int) (rs:List R5) (s:NS) (o:cD ns rs) (g:Nat):vs=[.ref p,.int g]->NW K c CT H F p tp ln lr ns rs s->BI ns rs s->g<3->(∀l os H',aC H H'->H l=none->H' l=some (.lst (bE os))->ji (rY ns rs o s.ws g) (s.R g) os->os.length<=12->Q (.ref l) H')->VZ K CT c vs H Q E
theorem Be{t:Ad}(T:Txt K mg w t):bL P w K mg base fP 6 t.rF t.wV ["self","group"]  (VZ K t.aP (nc t)):=by
 refine T.xg.F.gB SH λH Q E i h=>?_
 ·obtain⟨F,p,f,n,r,ns,o,st,ok,g,rfl,N,j,d,k⟩:=h
  refine⟨_,(oR (DY (VP T) (i.mono (!_)) rfl T.C6 T.HL.F.kp T.HL.B .nil iz (Jc (aT (pv 0) rfl) (cM (pv 0) T.aY T.vq (xu T) i (cX (pv 1))) (cM (pv 0) T.aY T.ni (nK T) i (cX (pv 1)))))),?_⟩
  left
  obtain⟨G,Y,q,y,O,U,S⟩:=id N.b5;have c:=O.get .b5 _ rfl;rw[y] at c;refine⟨_,rfl,p,_,_,_,_,rfl,c,T.aY,T.jy,rfl,?_⟩;refine⟨_,rfl,p,_,_,rfl,c,rfl,_,rfl,F,p,f,n,r,ns,o,st,g,rfl,N,ok,j,d,λx V a C s=>?_⟩;have m:=N.mono a;refine⟨_,rfl,p,_,_,rfl,a _ _ c,rfl,_,rfl,F,p,f,ns.length,g,st,rfl,m.b5,d,λA X W b u D I=>?_⟩;refine⟨f,n,r,x,A,ns,o,_,ok.nd,ok.ok,uO,st.R g,rfl,m.xG.mono b,bC.of (b _ _ s),I.Sn (bC.of D),by have:=ok.Lc;lia,ok.LD,j.fit g d,λl os v J M L z e=>?_⟩;exact k l os v (a.trans (b.trans J)) ((a.trans b).free M) L z e
inductive OE(K:af)(CT:Addr)(c:NC)(vs:List V)(H:Hp)(Q:VK)(E:XK):Prop
 |mk (F:Addr->Prop) (p tp ln lr:Addr) (ns:List Int) (rs:List R5) (s:NS) (o:cD ns rs) (g:Nat):vs=[.ref p,.int g]->NW K c CT H F p tp ln lr ns rs s->BI ns rs s->g<3->(∀(y:Bool) H',aC H H'->(y=true↔RM.Rest (rY ns rs o s.ws g) (s.R g))->Q (.bl y) H')->OE K CT c vs H Q E
theorem DP{t:Ad}(T:Txt K mg w t):bL P w K mg base fP 5 t.mj t.qG ["self","group"]  (OE K t.aP (nc t)):=by
 refine T.yj.F.gB MT λH Q E f h=>?_
 ·obtain⟨F,p,d,l,n,ns,m,st,ok,g,rfl,N,i,b,k⟩:=h
  refine⟨_,(oR (DY (XM T) (f.mono (!_)) rfl T.Li T.JA.F.kp T.JA.B .nil iz (Jc (aT (pv 0) rfl) (cM (pv 0) T.aY T.vq (xu T) f (cX (pv 1))) (cM (pv 0) T.aY T.ni (nK T) f (cX (pv 1)))))),?_⟩
  left
  obtain⟨D,V,q,x,O,L,J⟩:=id N.b5;have a:=O.get .b5 _ rfl;rw[x] at a;refine⟨_,rfl,p,_,_,_,_,rfl,a,T.aY,T.jy,rfl,?_⟩;refine⟨_,rfl,p,_,_,rfl,a,rfl,_,rfl,F,p,d,l,n,ns,m,st,g,rfl,N,ok,i,b,λv M c A r=>?_⟩;have j:=N.mono c;refine⟨_,rfl,p,_,_,rfl,c _ _ a,rfl,_,rfl,F,p,d,ns.length,g,st,rfl,j.b5,b,λz U S e s C G=>?_⟩;exact⟨d,l,n,v,z,ns,m,_,ok.nd,ok.ok,uO,st.R g,rfl,j.xG.mono e,bC.of (e _ _ r),G.Sn (bC.of C),by have:=ok.Lc;lia,ok.LD,i.fit g b,ok.pos,λy u I o=>k y u (c.trans (e.trans I)) o⟩
inductive V0(K:af)(CT:Addr)(c:NC)(vs:List V)(H:Hp)(Q:VK)(E:XK):Prop
 |mk (F:Addr->Prop) (p tp ln lr:Addr) (ns:List Int) (rs:List R5) (s:NS) (h:Nat):vs=[.ref p,.int h]->NW K c CT H F p tp ln lr ns rs s->h<ns.length->Q .dH H->V0 K CT c vs H Q E
theorem vZ{t:Ad}(T:Txt K mg w t):bL P w K mg base fP 1 t.iL t.j8 ["self","house"]  (V0 K t.aP (nc t)):=by
 refine T.oY.F.gB Gm λH Q E m h=>?_
 ·obtain⟨F,p,c,g,r,ns,n,st,x,rfl,N,j,k⟩:=h
  refine⟨_,(bQ (b4 (kB (iZ nQ tE az (pv 1) (aT (aT (pv 0) rfl) rfl))) cH br)),?_⟩
  left
  obtain⟨e,o,q,d,O,l,i⟩:=id N.b5;obtain⟨⟨f,a⟩,_⟩:=id N.xG;have b:=O.get .b5 _ rfl;rw[d] at b;refine⟨_,rfl,_,_,rfl,rfl,_,rfl,?_⟩;rw[eO (show (0:Int)<=(x:Int) by lia)];refine dZ ⟨_,rfl,p,_,_,_,_,rfl,b,T.aY,T.jy,rfl,c,_,f,_,_,rfl,a,T.fk,T.jk,rfl,_,_,rfl,rfl,_,rfl,?_⟩;rw[eO (show (x:Int)<(ns.length:Int) by lia)];exact dO k
inductive Ry(K:af)(c:NC)(vs:List V)(H:Hp)(Q:VK)(E:XK):Prop
 |mk (F:Addr->Prop) (p tp:Addr) (n x:Nat) (s:NS):vs=[.ref p,.int x]->cj K c H F p tp n s->x<s.aN.length->Q .dH H->Ry K c vs H Q E
theorem iW{t:Ad}(T:Txt K mg w t):bL P w K mg base fP 1 t.ia t.jv ["self","caller"]  (Ry K (nc t)):=by
 refine T.ic.F.gB EE λH Q E i h=>?_
 ·obtain⟨F,p,g,n,x,st,rfl,⟨a,j,q,c,O,f,d⟩,e,k⟩:=h
  refine⟨_,(bQ (b4 (kB (iZ nQ tE az (pv 1) (lS T.fR (aT (pv 0) rfl)))) cH br)),?_⟩
  left
  have b:=O.get .b5 _ rfl;rw[c] at b;refine⟨_,rfl,_,_,rfl,rfl,_,rfl,?_⟩;rw[eO (show (0:Int)<=(x:Int) by lia)];refine dZ ⟨_,rfl,p,_,_,_,_,rfl,b,T.aY,T.kP,rfl,a .aN,_,rfl,.inl (bC.of (O.get .aN _ rfl)),_,_,rfl,rfl,_,rfl,?_⟩;rw[ah,eO (show (x:Int)<(st.aN.length:Int) by lia)];exact dO k
inductive V1(K:af)(CT:Addr)(c:NC)(vs:List V)(H:Hp)(Q:VK)(E:XK):Prop
 |mk (F:Addr->Prop) (p tp ln lr:Addr) (ns:List Int) (rs:List R5) (s:NS) (h g:Nat):vs=[.ref p,.int h,.int g]->NW K c CT H F p tp ln lr ns rs s->h<ns.length->g<3->(∀q H',aC H H'->cR K H' q (cC (s.R g h))->Q (.ref q) H')->V1 K CT c vs H Q E
theorem FL{t:Ad}(T:Txt K mg w t):bL P w K mg base fP 3 t.oq t.tT ["self","house","group"]  (V1 K t.aP (nc t)):=by
 refine T.AG.F.gB Po λH Q E i h=>?_
 ·obtain⟨F,p,e,m,z,ns,y,st,x,g,rfl,N,d,j,k⟩:=h
  refine⟨_,(ao (dN (cM (pv 0) T.aY T.oY (vZ T) i (cX (pv 1)))) (oR (xL (cM (pv 0) T.aY T.ni (nK T) i (cX (pv 2))) (pv 1)))),?_⟩
  left
  obtain⟨u,D,q,n,O,B,A⟩:=id N.b5;have c:=O.get .b5 _ rfl;rw[n] at c;refine⟨_,rfl,p,_,_,rfl,c,rfl,_,rfl,F,p,e,m,z,ns,y,st,x,rfl,N,d,?_⟩;refine⟨_,rfl,p,_,_,rfl,c,rfl,_,rfl,F,p,e,ns.length,g,st,rfl,N.b5,j,λl b o r G s f=>?_⟩;have C:b.length=ns.length:=by rw[f.len];simp[gA]
  have a:x<b.length:=∅
  refine⟨_,rfl,l,_,_,_,rfl,rfl,bC.of s,dD (v:=.ref b[x]) (by rw[ak,aa a];rfl),k _ o r (f.at' x _ _ (aa a) ?_)⟩;unfold gA;rw[ak,gF d];rfl
inductive adu(K:af)(c:NC)(vs:List V)(H:Hp)(Q:VK)(E:XK):Prop
 |mk (F:Addr->Prop) (p tp:Addr) (n x:Nat) (s:NS) (hd:List Nat):vs=[.ref p,.int x]->cj K c H F p tp n s->x<s.aN.length->s.had[x]?=some hd->(∀l H',aC H H'->H l=none->H' l=some (.lst (bE hd))->Q (.ref l) H')->adu K c vs H Q E
theorem OF{t:Ad}(T:Txt K mg w t):bL P w K mg base fP 2 t.zA t.Ek ["self","caller"]  (adu K (nc t)):=by
 refine T.JC.F.gB Xp λH Q E j h=>?_
 ·obtain⟨F,p,g,n,x,st,f,rfl,N,e,a,k⟩:=h
  refine⟨_,(ao (dN (cM (pv 0) T.aY T.ic (iW T) j (cX (pv 1)))) (oR (bS fG (by rfl) T.sF boot_list (cX (xL (aT (pv 0) rfl) (pv 1)))))),?_⟩
  left
  obtain⟨b,r,q,i,O,o,m⟩:=id N;have d:=O.get .b5 _ rfl;rw[i] at d;have c:=(ai.mp a).1;refine⟨_,rfl,p,_,_,rfl,d,rfl,_,rfl,F,p,g,n,x,st,rfl,N,e,?_⟩;refine⟨_,rfl,p,_,_,_,_,rfl,d,T.aY,T.AK,rfl,_,rfl,b .iG,_,_,_,rfl,rfl,bC.of (O.get .iG _ rfl),pX c,b (.handed x),_,rfl,.inl (bC.of (O.get (.handed x) (.lst (bE f)) (by show (st.had[x]?.map _)=_;rw[a];rfl))),λl c=>?_⟩;exact k l _ (aC.new c) c aq
inductive Rz(K:af)(c:NC)(vs:List V)(H:Hp)(Q:VK)(E:XK):Prop
 |mk (F:Addr->Prop) (p tp:Addr) (n:Nat) (s:NS):vs=[.ref p]->cj K c H F p tp n s->(∀l (qs:List Addr) H',aC H H'->H l=none->H' l=some (.lst (qs.map V.ref))->dU K H' qs (s.cps.map Cp.vs)->Q (.ref l) H')->Rz K c vs H Q E
theorem jW{t:Ad}(T:Txt K mg w t):bL P w K mg base fP 1 t.ou t.tU ["self"]  (Rz K (nc t)):=by
 refine T.dR.F.gB Pp λH Q E j h=>?_
 ·obtain⟨F,p,i,n,st,rfl,N,k⟩:=h
  refine⟨_,(oR (bS fG (by rfl) T.sF boot_list (cX (aT (pv 0) rfl)))),?_⟩
  left
  obtain⟨a,m,q,f,O,g,e⟩:=id N;have c:=O.get .b5 _ rfl;rw[f] at c;refine⟨_,rfl,p,_,_,_,_,rfl,c,T.aY,T.jz,rfl,a .fj,_,rfl,.inl (bC.of (O.get .fj _ rfl)),λl d=>?_⟩;have u:=aC.new (o:=.lst (q.cq.map V.ref)) d;exact k l q.cq _ u d aq (e.cps.mono λb x=>u.cV)
noncomputable def DQ(g:Nat)(l:LS):LS:=if l.grp=g then {l with old:=true} else l
noncomputable def zS(s:NS)(g:Nat):NS:={s with ts:=eN s.ts g [],ls:=s.ls.map (DQ g)}
inductive Zb(K:af)(c:NC)(vs:List V)(H:Hp)(Q:VK)(E:XK):Prop
 |mk (F:Addr->Prop) (p tp:Addr) (n g:Nat) (s:NS):vs=[.ref p,.int g]->cj K c H F p tp n s->g<3->(∀F' H',cj K c H' F' p tp n (zS s g)->Step H F H' F'->Q .dH H')->Zb K c vs H Q E
theorem qt{t:Ad}(T:Txt K mg w t):bL P w K mg base fP 2 t.jP t.mP ["self","group"]  (Zb K (nc t)):=by
 refine T.mU.F.gB zl λH Q E hr h=>?_
 ·obtain⟨F,p,Y,n,g,st,rfl,⟨d,dx,q,Z,O,hF,hT⟩,v,k⟩:=h
  refine⟨_,(ao (dN (iF (xL (aT (pv 0) rfl) (pv 1)) T.Gy T.yf.m (OB T) (hr.mono (!_)) T.yf.B .nil iz)) (bQ (fS (dB (aT (pv 0) rfl)) (gT 2 zl) (bQ (b4 (qT lD (aT (pv 2) rfl) (pv 1)) (bQ (fU (pv 2) Qw rfl)) br))))),?_⟩
  left
  have bF:=O.get .b5 _ rfl;rw[Z] at bF;refine⟨_,rfl,p,_,_,_,_,rfl,bF,T.aY,T.xo,rfl,_,rfl,d .jZ,_,_,_,rfl,rfl,bC.of (O.get .jZ _ rfl),pX v,d (.book g),dx (.book g),_,rfl,O.get (.book g) _ (b3 v),rfl,d (.book g),d (.fQ g),st.ts g,rfl,O.Xk v,λd' W J hB kp=>?_⟩;obtain⟨⟨dx',N⟩,L⟩:=hB;obtain⟨s,N',R⟩:=Xl Z O hF hT v J N L kp;obtain⟨b,j,U,r,I,M,D⟩:=N';have X:j0 K (nc t) W s b j U p Y n {st with ts:=eN st.ts g []}:=⟨r,I,M,D⟩;have u:=I.get .b5 _ rfl;rw[r] at u;have RA:=I.get .cz _ rfl;refine⟨_,rfl,p,_,_,_,_,rfl,u,T.aY,T.eF,rfl,b .cz,rfl,⟨_,bC.of RA⟩,uE (K:=K) (a:=b .cz) (xs:=(au st.ls.length).map λi=>.ref (b (.bV i))) (λi x o=>j0 K (nc t) o s b j U p Y n {st with ts:=eN st.ts g [],ls:=(st.ls.take i).map (DQ g)++st.ls.drop i}/\Step W s o s/\∃A:Option V,x=[some (.ref p),some (.int g),A]) ⟨by rw[List.take_zero,List.drop_zero];exact X,Step.refl' (aC.refl _),_,rfl⟩ (λi x o _ z=>?_) ?_ ?_⟩
  ·have e:=z.1.own.get .cz _ rfl
   have el:((st.ls.take i).map (DQ g)++st.ls.drop i).length=st.ls.length:=by
    rw[aA,ah,<- aA,List.take_append_drop]
   refine bC.of (e.trans ?_);show some (HO.lst ((au ((st.ls.take i).map (DQ g)++st.ls.drop i).length).map _))=_;rw[el]
  ·rintro i y x o G ⟨l,st2,A,rfl⟩
   have c:i<st.ls.length:=by
    have:=(ai.mp G).1
    rw[ah,bz] at this;exact this
   rw[ak,gF c] at G;cases G;have f:((st.ls.take i).map (DQ g)++st.ls.drop i)[i]?=some st.ls[i]:=by
    rw[bW (by rw[ah,bU];lia),ah,bU,Nat.min_eq_left ∅,lA,List.getElem?_drop,Nat.add_zero];exact aa c
   have S:=l.own.get (.bV i) (nG (nc t) j b i st.ls[i]) (by show (((st.ls.take i).map (DQ g)++st.ls.drop i)[i]?.map _)=_;rw[f];rfl);have next:(st.ls.take (i+1)).map (DQ g)++st.ls.drop (i+1)=((st.ls.take i).map (DQ g)++st.ls.drop i).set i (DQ g st.ls[i]):=by
    rw[pG,aa c,aU,eW,List.set_append_right _ _ (by rw[ah,bU];lia),ah,bU,Nat.min_eq_left ∅,lA,List.drop_eq_getElem_cons c];rfl
   rw[next];refine⟨_,rfl,_,_,_,_,_,rfl,S,T.c9,T.kL,rfl,_,rfl,rfl,_,rfl,jh (λe=>?_) (λe=>?_)⟩
   ·have e:(st.ls[i]).grp=g:=by
     have:=V.int.inj (fT e)
     lia
    refine⟨_,rfl,_,_,_,_,rfl,S,T.c9,T.AJ,(by show 5<1000;decide),?_⟩;obtain⟨X3,C⟩:=aeK l f;refine⟨?_,st2.trans C,_,rfl⟩;unfold DQ;rw[b3 e];exact X3
   ·have e:¬(st.ls[i]).grp=g:=λz=>e (eO (by rw[z]))
    refine⟨?_,st2,_,rfl⟩
    have:DQ g st.ls[i]=st.ls[i]:=eH e
    rw[this,uP f];exact l
  ·rintro x o ⟨l,st2,A,rfl⟩
   rw[ah,bz,jg (aB _),List.drop_eq_nil_of_le (aB _),fD] at l;exact k s o l.b5 (R.trans st2)
noncomputable def pN(s:NS)(g x:Nat)(d:RM.Row):NS:=if d=s.R g x then s else zS {s with R:=eN s.R g (RM.upd (s.R g) x d)} g
inductive V2(K:af)(CT:Addr)(c:NC)(vs:List V)(H:Hp)(Q:VK)(E:XK):Prop
 |mk (F:Addr->Prop) (p tp ln lr:Addr) (ns:List Int) (rs:List R5) (s:NS) (o:cD ns rs) (x g:Nat):vs=[.ref p,.int x,.int g]->NW K c CT H F p tp ln lr ns rs s->BI ns rs s->x<ns.length->g<3->(∀d F' H',RM.zd (N:=rY ns rs o s.ws g) ns.length (s.R g) x d->z6 ns.length rs.length d->cj K c H' F' p tp ns.length (pN s g x d)->Step H F H' F'->(d=s.R g x->aC H H')->Q (.bl (!decide (d=s.R g x))) H')->V2 K CT c vs H Q E
theorem xw{t:Ad}(T:Txt K mg w t):bL P w K mg base fP 4 t.vf t.Ay ["self","house","group"]  (V2 K t.aP (nc t)):=by
 refine T.vt.F.gB Cu λH Q E j h=>?_
 ·obtain⟨F,p,r,L,J,ns,Y,st,ok,x,g,rfl,N,y,l,a,k⟩:=h
  refine⟨_,(ao (sS 3 Cu (cM (pv 0) T.aY T.AG (FL T) j (jD (pv 1) (pv 2)))) (ao (sS 4 Cu (cG (adf T) j T.acH (u9 (aT (pv 0) rfl) (cM (pv 0) T.aY T.vq (xu T) j (cX (pv 2))) (cM (pv 0) T.aY T.ni (nK T) j (cX (pv 2))) (pv 1)))) (ao (b4 (qT z5 (pv 4) (pv 3)) oB br) (ao (IQ (pv 4) (LU (xL (aT (pv 0) rfl) (pv 2)) (pv 1) set_list)) (ao (dN (cM (pv 0) T.aY T.mU (qt T) j (cX (pv 2)))) oB))))),?_⟩
  left
  obtain⟨loc,dx,q,hp,O,hF,hT⟩:=id N.b5;have Z:=O.get .b5 _ rfl;rw[hp] at Z;refine⟨_,rfl,p,_,_,rfl,Z,rfl,_,rfl,_,rfl,F,p,r,L,J,ns,Y,st,x,g,rfl,N,l,a,λq1 H1 A B=>?_⟩;have N1:=N.mono A;have G:=A _ _ Z;refine⟨_,rfl,p,_,_,_,_,rfl,G,T.aY,T.jy,rfl,?_⟩;refine⟨_,rfl,p,_,_,rfl,G,rfl,_,rfl,F,p,r,L,J,ns,Y,st,g,rfl,N1,ok,y,a,λl2 H2 D hl2 h2=>?_⟩;have N2:=N1.mono D;refine⟨_,rfl,p,_,_,rfl,D _ _ G,rfl,_,rfl,F,p,r,ns.length,g,st,rfl,N2.b5,a,λl3 qs H3 I hl3 h3 ht=>?_⟩;have N3:=N2.mono I;refine⟨_,rfl,r,L,J,l2,l3,ns,Y,_,ok.nd,ok.ok,uO,st.R g,x,rfl,N3.xG,bC.of (I _ _ h2),ht.Sn (bC.of h3),l,ok.LD,(y.fit g a).aeA,λq4 d H4 s4 m b=>?_⟩;have X:=YE (y.fit g a) l ok.pos b;have N4:=N3.mono s4;have WG:=D.trans (I.trans s4);have c:=A.trans WG;refine⟨_,rfl,_,rfl,RM.FY d,RM.FY (st.R g x),RM.uG m,RM.uG (WG.cV B),RM.uH _,RM.uH _,bq (bI (ay (cQ _ _) (by rw[RM.IY];decide:(RM.FY d).depth<=64)) _) j.units,?_⟩;rw[RM.Mc X.by1 (y.fit g a x l).by1];refine⟨_,rfl,jh (λe=>?_) (λe=>?_)⟩
  ·have i:d=st.R g x:=fT e
   have:=k d F H4 b X (by unfold pN;rw[b3 i];exact N4.b5) (Step.refl' c) (λ_=>c)
   rw[eO i] at this;exact this
  ·have i:¬d=st.R g x:=λz=>e (eO z)
   obtain⟨f,dx4,u,o,v,W,n⟩:=id N4.b5;have DR:=v.get .b5 _ rfl;rw[o] at DR;have S:(u.rq g).length=ns.length:=by rw[(n.rows g a).len];simp[gA]
   obtain⟨F5,C,Qy⟩:=aeJ o v W n a l m;refine⟨_,rfl,_,rfl,p,_,_,_,_,rfl,DR,T.aY,T.lH,rfl,_,rfl,f .uN,_,_,_,rfl,rfl,bC.of (v.get .uN _ rfl),pX a,_,rfl,f (.rows g),_,_,_,rfl,rfl,v.get (.rows g) _ (b3 a),D8 (by rw[ah,S];exact l),?_⟩;generalize upd H4 (f (.rows g)) (.lst (((u.rq g).map V.ref).set x (.ref q4)))=H5 at C Qy;obtain⟨ads,dx5,q5,U,O5,hF5,hT5⟩:=id C;have s:=O5.get .b5 _ rfl;rw[U] at s;refine⟨_,rfl,p,_,_,rfl,s,rfl,_,rfl,F5,p,r,ns.length,g,_,rfl,C,a,λF6 H6 N6 M=>?_⟩
   have:=k d F6 H6 b X (by unfold pN;rw[eH i];exact N6) ((Step.refl' c).trans (Qy.trans M)) (λz=>eL z i)
   rw[e8 i] at this;exact this
noncomputable def gV(s:NS)(e:Int)(m:Nat):NS:=(au m).foldl (λs g=>if QO e g=true then zS s g else s) s
theorem jA{s:NS}{e:Int}{m:Nat}:gV s e (m+1)=if QO e m=true then zS (gV s e m) m else gV s e m:=by
 unfold gV;rw[fB,List.foldl_append];rfl
inductive K5(K:af)(CT:Addr)(c:NC)(vs:List V)(H:Hp)(Q:VK)(E:XK):Prop
 |mk (F:Addr->Prop) (p tp ln lr:Addr) (ns:List Int) (rs:List R5) (s:NS) (i:Nat) (r:R5):vs=[.ref p,.int i]->NW K c CT H F p tp ln lr ns rs s->cD ns rs->rs[i]?=some r->(∀F' H',NW K c CT H' F' p tp ln lr ns rs (gV s r.e 3)->Step H F H' F'->Q .dH H')->K5 K CT c vs H Q E
theorem mF{t:Ad}(T:Txt K mg w t):bL P w K mg base fP 3 t.fc t.gv ["self","rope"]  (K5 K t.aP (nc t)):=by
 refine T.jd.F.gB lP λH Q E B h=>?_
 ·obtain⟨F,p,j,x,D,ns,C,st,i,r,rfl,N,tok,y,k⟩:=h
  have d:=tok.ok r (aI y);refine⟨_,(bQ (fS (gX rfl T.j9 (cX (lS T.fR (iu rfl T.k9 (v:=.ref t.eT) rfl)))) (gT 2 lP) (bQ (b4 (mW (cM (aT (pv 0) rfl) T.fk T.C0 (Iu T) B (jD (pv 1) (pv 2)))) (oE (cM (pv 0) T.aY T.mU (qt T) B (cX (pv 2)))) br)))),?_⟩
  left
  refine⟨_,_,rfl,.inr (T.gh _),(3:Int),rfl,∅,∅,?_⟩;refine DX (n:=3) (λg m f=>∃(b:Addr->Prop) (l:Option V),NW K (nc t) t.aP f b p j x D ns C (gV st r.e g)/\Step H F f b/\m=[some (.ref p),some (.int i),l]) ⟨F,_,N,Step.refl' (aC.refl _),rfl⟩ ?_ ?_
  ·rintro g m f u ⟨b,l,a,st2,rfl⟩
   rw[eB];obtain⟨J,W,q,I,O,S,R⟩:=id a.b5;obtain⟨⟨M,o⟩,_⟩:=id a.xG;have s:=O.get .b5 _ rfl;rw[I] at s;obtain⟨z,A⟩:=aki u;refine⟨_,rfl,p,_,_,_,_,rfl,s,T.aY,T.jy,rfl,j,M,_,rfl,o,rfl,_,rfl,_,rfl,j,x,D,ns,C,i,r,g,z,rfl,a.xG,y,A,_,rfl,?_⟩;rw[UU d.e1 d.e7 A];refine jh (λe=>?_) (λe=>?_)
   ·refine⟨_,rfl,p,_,_,rfl,s,rfl,_,rfl,b,p,j,ns.length,g,_,rfl,a.b5,u,λL U G c=>?_⟩
    refine⟨L,_,?_,st2.trans c,rfl⟩;rw[jA,b3 e];exact a.done c G
   ·refine⟨b,_,?_,st2,rfl⟩
    rw[jA,eH e];exact a
  ·rintro m f ⟨b,l,a,st2,rfl⟩
   exact k b f a st2
theorem yX{n:Nat}(h:n<=1000000):n<sizeLine:=bq h (by show 1000000<2^24;decide)
theorem XS{s:NS}{i B:Nat}{d:i7}(h:∀l∈s.ls,l.aG.length<=B):∀l∈(cS s i d).ls,l.aG.length<=B+1:=by
 intro l a;unfold cS at a;cases e:s.ls[i]? with
 |none=>rw[e] at a;exact kj (h l a)
 |some b =>
  rw[e] at a;rcases dM a with z|rfl
  ·exact kj (h l z)
  ·show (b.aG++[d]).length<=B+1
   rw[aA];exact pS (h b (aI e)) 1
theorem V3{s:NS}{i x B:Nat}(h:∀l∈s.ls,l.aG.length<=B):∀m,m<=s.cps.length->∀l∈(jj s i x m).ls,l.aG.length<=B+m
 |0,_=>by rw[Ac];exact h
 |m+1,c=>by
  have a:=V3 (i:=i) (x:=x) h m ∅;rw[Ae ∅];unfold pL;split
  ·exact XS a
  ·exact λl b=>kj (a l b)
inductive Zc(K:af)(c:NC)(vs:List V)(H:Hp)(Q:VK)(E:XK):Prop
 |mk (F:Addr->Prop) (p tp:Addr) (n:Nat) (i x:Nat) (s:NS) (B:Nat):vs=[.ref p,.int i,.int x]->cj K c H F p tp n s->(∀cp∈s.cps,cp.l<s.ls.length)->(∀l∈s.ls,l.aG.length<=B)->B+s.cps.length<=1000000->(∀F' H',cj K c H' F' p tp n (pM s i x)->Step H F H' F'->Q .dH H')->Zc K c vs H Q E
theorem GW{t:Ad}(T:Txt K mg w t):bL P w K mg base fP 1 t.iK t.j7 ["self","rope","wire"]  (Zc K (nc t)):=by
 refine T.xh.F.gB ng λH Q E hr h=>?_
 ·obtain⟨F,p,tp,n,i,x,st,B,rfl,N,hc,hB,hBm,k⟩:=h
  refine⟨_,(ao (sS 3 ng (dY fF)) (ao (fS (dB (aT (pv 0) rfl)) (gT 4 ng) (bQ (b4 (qT z5 (lN WU (pv 4) (mG az) (mG az)) (dG (jD (pv 1) (pv 2)))) (oE (jJ bJ bO bN gq (aT (xL (aT (pv 0) rfl) (xT (pv 4) az)) rfl) (cX (dG (Jc bu (xT (pv 4) az) (pv 1)))))) (oE (jJ bJ bO bN gq (pv 3) (cX (pv 4))))))) (bQ (fU (pv 0) (pv 3) rfl)))),?_⟩
  left
  refine cJ λNx eG=>?_;refine⟨be _,λl hl=>eG _ _ ?_⟩;have u1:=aC.new (o:=.lst []) hl;have h1:=aq (H:=H) (a:=l) (o:=.lst []);generalize upd H l (.lst [])=H1 at u1 h1;have nF:¬F l:=λz=>by
   obtain⟨o,e⟩:=N.there z;rw[hl] at e;cases e
  obtain⟨m,dx,q,hp,O,hF,hT⟩:=id (N.mono u1);have X:j0 K (nc t) H1 F m dx q p tp n st:=⟨hp,O,hF,hT⟩;have bF:=O.get .b5 _ rfl;rw[hp] at bF;have hco:=O.get .fj _ rfl;have A:q.cq.length=st.cps.length:=by
   have:=hT.cps.len
   rw[ah] at this;exact this
  refine cJ λNx eG=>?_;refine⟨_,rfl,p,_,_,_,_,rfl,bF,T.aY,T.jz,rfl,m .fj,rfl,⟨_,bC.of hco⟩,IZ (K:=K) (a:=m .fj) (xs:=q.cq.map V.ref) (λj σ J=>∃(Y:TQ) (L:List Addr) (v4:Option V),j0 K (nc t) J F m dx Y p tp n (jj st i x j)/\Y.cq=q.cq/\Step H F J F/\J l=some (.lst (L.map V.ref))/\dU K J L (((st.cps.take j).filter λc=>!nu i x c).map Cp.vs)/\σ=[some (.ref p),some (.int i),some (.int x),some (.ref l),v4]) ⟨q,[],_,by rw[Ac];exact X,rfl,Step.refl' u1,h1,⟨rfl,λi q x e=>by cases e⟩,rfl⟩ (λj σ J _ z=>?_) ?_ ?_⟩
  ·obtain⟨Y,L,v4,s,Z,_⟩:=z
   have:=s.own.get .fj _ rfl
   refine bC.of (this.trans ?_);rw[Z]
  ·rintro j y σ J Nf M hj ⟨Y,L,v4,s,Z,st2,U,FI,rfl⟩
   have hjl:j<q.cq.length:=by
    have:=(ai.mp hj).1
    rw[ah] at this;exact this
   have D:j<st.cps.length:=∅
   rw[ak,aa hjl] at hj;cases hj;have I:cR K J q.cq[j] (st.cps[j]).vs:=s.tup.cps.at' j _ _ (by rw[Z];exact aa hjl) (by rw[aaq,ak,aa D];rfl);have hcm:=aD D;rw[Ae D] at M;have efs:=Q6 (f:=λc:Cp=>!nu i x c) D;rw[efs] at M;generalize st.cps[j]=g at I hcm M;generalize q.cq[j]=a at I;have nw:¬(HT.nM g.vs.length 0 (some 1)=0/\HT.nM g.vs.length g.vs.length (some 3)=g.vs.length):=λz=>eL z.1 (by show HT.nM 4 0 (some 1)≠0;decide);refine⟨_,rfl,_,rfl,_,rfl,a,_,rfl,I,nw,λz1 hz1=>?_⟩;have ct:Ez g.vs (some 1) (some 3)=[V.int g.r,V.int g.w]:=rfl;rw[ct];have v1:=aC.new (o:=.tup [V.int g.r,V.int g.w]) hz1;refine⟨_,rfl,_,rfl,ff,λz2 hz2=>?_⟩;have v2:=aC.new (o:=.tup [V.int i,V.int x]) hz2;refine⟨.tuple (([(g.r:Int),(g.w:Int)]:List Int).map .int),.tuple (([(i:Int),(x:Int)]:List Int).map .int),Rep.QJ (ns:=[(g.r:Int),(g.w:Int)]) (cR.of (v2 _ _ aq)),Rep.QJ (ns:=[(i:Int),(x:Int)]) (cR.of aq),nU _,nU _,bq (bI (ay (cQ _ _) (by show PyData.depthAll _+1<=64;rw[D6];decide)) _) hr.units,_,rfl,?_⟩;rw[YL];have u:=v1.trans v2;have G:=s.mono u;have VY:=u _ _ U;have C:=u.cV I;have R:=FI.mono λb x=>u.cV (a:=b) (xs:=x);have EA:=st2.trans (Step.refl' (F:=F) u);generalize upd (upd J z1 (.tup [V.int g.r,V.int g.w])) z2 (.tup [V.int i,V.int x])=H4 at G VY C R EA;refine jh (λe=>?_) (λe=>?_)
   ·have on:nu i x g=true:=by
     obtain⟨e1,e2⟩:=fT e;exact eO ⟨∅,∅⟩
    have A:g.l<(jj st i x j).ls.length:=by rw[Q5];exact hc g hcm
    have v:(jj st i x j).ls[g.l]?=some (jj st i x j).ls[g.l]:=aa A;have hdl:((jj st i x j).ls[g.l]).aG.length<=B+j:=V3 hB j ∅ _ (aD A);have DR:=G.own.get .b5 _ rfl;rw[G.hp] at DR;have anZ:=G.own.get .cz _ rfl;have an0:=G.own.get (.bV g.l) (nG (nc t) dx m g.l _) (by show ((jj st i x j).ls[g.l]?.map _)=_;rw[v];rfl);have ak0:=G.own.get (.aG g.l) (.lst ((Y.dq g.l).map V.ref)) (by show ((jj st i x j).ls[g.l]?.map _)=_;rw[v];rfl);have Uq:=(G.tup.aG g.l _ v).len;rw[ah] at Uq;unfold pL at M;rw[b3 on,fK v,on] at M;refine⟨_,rfl,p,_,_,_,_,rfl,DR,T.aY,T.eF,rfl,_,rfl,a,_,0,_,rfl,rfl,C,rfl,m .cz,_,_,_,rfl,rfl,bC.of anZ,pX A,m (.bV g.l),_,_,_,_,rfl,an0,T.c9,T.ie,rfl,.inl ⟨rfl,_,bC.of ak0⟩,_,rfl,a,_,3,_,rfl,rfl,C,rfl,_,rfl,ur,λz3 hz3=>?_⟩;have v3:=aC.new (o:=.tup [V.str "lost",V.int g.h,V.int i]) hz3;have X5:=G.mono v3;refine⟨m (.aG g.l),_,_,rfl,rfl,v3 _ _ ak0,yX (by rw[ah,Uq];lia),?_⟩;obtain⟨X6,W⟩:=Ce X5 v (d:=.Xi g.h i) (cR.of aq);refine M _ _ ⟨_,L,_,X6,Z,(EA.trans (Step.refl' (F:=F) v3)).trans W,W.kp _ _ (v3 _ _ VY) nF,?_,rfl⟩;rw[eH (!_),fD];exact (R.mono λb x=>v3.cV (a:=b) (xs:=x)).mono λb x=>X5.b5.tup W.kp
   ·have on:nu i x g=false:=e8 λz=>e (eO ⟨∅,∅⟩)
    unfold pL at M;rw[on,eH (!_)] at M;have hql:L.length<=j:=by
     rw[R.len,ah];refine ay (bD _ _) ?_;rw[bU];exact cQ _ _
    refine⟨_,rfl,.inl ⟨rfl,_,bC.of VY⟩,_,rfl,l,_,_,rfl,rfl,VY,yX (by rw[ah];lia),?_⟩;have S:=cK (H:=H4) (z:=l) (o:=.lst (L.map V.ref++[.ref a]));have X5:=G.past VY m6 nF S;refine M _ _ ⟨Y,L++[a],_,X5,Z,⟨λb o e z=>S _ _ (EA.kp b o e z) (aJ e hl),EA.fr⟩,by rw[aq,aU];rfl,?_,rfl⟩;rw[b3 (!_),aU];exact (R.snoc C).mono λb x=>cR.past VY m6 S
  ·rintro σ J ⟨Y,L,v4,s,Z,st2,U,FI,rfl⟩
   refine eG _ _ ?_;rw[ah,A] at s FI;rw[jB] at FI;obtain⟨F',N',kp,hpF,fr⟩:=Xm s.hp s.own s.fp s.tup U nF FI;have pA:=s.own.get .b5 _ rfl;rw[s.hp] at pA;refine⟨_,rfl,_,rfl,p,_,_,_,rfl,pA,T.aY,T.jz,(by show 9<1000;decide),?_⟩;refine k F' _ N' ⟨λb o e z=>kp _ _ (st2.kp _ _ e z) (λy=>z (y▸hpF)),λb z=>?_⟩;rcases fr b z with y|rfl
   ·exact .inl y
   ·exact .inr hl
noncomputable def we(s:NS)(i x:Nat)(w:List Nat)(e:Int):NS :=
 if (w.filter λz=>decide (z≠x)).isEmpty=true then gV (pM {s with ws:=s.ws.set i (w.filter λz=>decide (z≠x))} i x) e 3 else pM {s with ws:=s.ws.set i (w.filter λz=>decide (z≠x))} i x
inductive V4(K:af)(CT:Addr)(c:NC)(vs:List V)(H:Hp)(Q:VK)(E:XK):Prop
 |mk (F:Addr->Prop) (p tp ln lr:Addr) (ns:List Int) (rs:List R5) (s:NS) (i x:Nat) (w:List Nat) (r:R5) (B:Nat):vs=[.ref p,.int i,.int x]->NW K c CT H F p tp ln lr ns rs s->cD ns rs->BI ns rs s->(∀cp∈s.cps,cp.l<s.ls.length)->(∀l∈s.ls,l.aG.length<=B)->B+s.cps.length<=1000000->s.ws[i]?=some w->rs[i]?=some r->x∈w->(∀F' H',NW K c CT H' F' p tp ln lr ns rs (we s i x w r.e)->Step H F H' F'->Q (.bl (w.filter λz=>decide (z≠x)).isEmpty) H')->V4 K CT c vs H Q E
theorem K6{t:Ad}(T:Txt K mg w t):bL P w K mg base fP 4 t.vg t.Az ["self","rope","wire"]  (V4 K t.aP (nc t)):=by
 refine T.Gv.F.gB Kw λH Q E I h=>?_
 ·obtain⟨F,p,v,M,J,ns,rs,st,i,x,X,r,B,rfl,N,D,S,hc,hB,A,f,Pb,C,k⟩:=h
  refine⟨_,(ao (sS 3 Kw (j4 (aT (pv 0) rfl) T.d7 T.vo.m (Lq T) (I.mono (!_)) T.vo.B .nil UP (jD (pv 1) (pv 2)))) (ao (dN (cM (pv 0) T.aY T.xh (GW T) I (jD (pv 1) (pv 2)))) (ao (b4 (mW (pv 3)) (oE (cM (pv 0) T.aY T.jd (mF T) I (cX (pv 1)))) br) (oR (pv 3))))),?_⟩
  left
  obtain⟨d,dx,q,hp,O,hF,hT⟩:=id N.b5;have bF:=O.get .b5 _ rfl;rw[hp] at bF;have s:=(ai.mp f).1;have Bc:i<rs.length:=by rw[<- S.wl];exact s
  refine⟨_,rfl,p,_,_,_,_,rfl,bF,T.aY,T.mE,rfl,d .cN,dx .cN,_,rfl,O.get .cN _ rfl,rfl,_,rfl,_,rfl,d .cN,v,d .c8,M,J,ns,rs,st.ws,i,x,rfl,N.xG,O.strAt,S.wl,S.w4,λj b w2 ls a H1 ej ek l hk WE ha R y kp=>?_,λz=>eL ⟨∅,∅⟩ z,λj w2 H1 ej l hk _=>?_⟩
  case refine_2 =>
   have:j=i:=∅
   subst this;rw[f] at l;cases l;exact eL rfl (hk x C)
  have:j=i:=∅
  subst this
  have:b=x:=∅
  subst this;rw[f] at l;cases l;obtain⟨F1,L,st1⟩:=U0 hp O hF hT s WE ha R y kp;have W:=N.done st1 L;obtain⟨an5,dx1,q1,U,O1,hF1,hT1⟩:=id L;have ir:=O1.get .b5 _ rfl;rw[U] at ir;dsimp only[gp];refine⟨_,rfl,p,_,_,rfl,ir,rfl,_,rfl,_,rfl,F1,p,v,ns.length,j,b,_,B,rfl,L,hc,hB,A,λF2 H2 N2 st2=>?_⟩;have o:=W.done st2 N2;unfold we at k;generalize (X.filter λz=>decide (z≠b)).isEmpty=eb at k;obtain⟨afb,dx2,q2,G,O2,hF2,hT2⟩:=id N2;have Y:=O2.get .b5 _ rfl;rw[G] at Y
  try dsimp only
  refine qu (λZ n=>∃g:Addr->Prop,NW K (nc t) t.aP n g p v M J ns rs (if eb=true then gV (pM {st with ws:=st.ws.set j (X.filter λz=>decide (z≠b))} j b) r.e 3 else pM {st with ws:=st.ws.set j (X.filter λz=>decide (z≠b))} j b)/\Step H F n g/\Z=[some (.ref p),some (.int j),some (.int b),some (.bl eb)]) ?_ λN' u=>?_
  case refine_2 =>
   refine⟨_,rfl,_,rfl,jh (λe=>?_) (λe=>?_)⟩
   ·rw[b3 e] at u
    refine⟨_,rfl,p,_,_,rfl,Y,rfl,_,rfl,F2,p,v,M,J,ns,rs,_,j,r,rfl,o,D,Pb,λg n V c=>?_⟩;exact u _ _ ⟨g,V,st1.trans (st2.trans c),rfl⟩
   ·rw[eH e] at u
    exact u _ _ ⟨F2,o,st1.trans st2,rfl⟩
  rintro Z n ⟨g,V,c,rfl⟩;exact⟨_,rfl,k g n V c⟩
inductive adv(K:af)(CT C NW:Addr)(vs:List V)(H:Hp)(Q:VK)(E:XK):Prop
 |mk (p tp lu ln lr:Addr) (ns:List Int) (rs:List R5) (ws:List (List Nat)) (i x:Int):vs=[.ref p,.int i,.int x]->cy K CT H tp ln lr ns rs->wH C H p tp lu ws->ws.length=rs.length->(∀w∈ws,w.length<=4)->(∀(j k:Nat) w w' r (ls:List Addr) (q:Addr) H',i=(j:Int)->x=(k:Int)->ws[j]?=some w->rs[j]?=some r->x<r.d->k∉w->w'.Perm (w++[k])->w'.Pairwise (·<=·)->H lu=some (.lst (ls.map V.ref))->H q=none->H' q=some (.lst (bE w'))->H' lu=some (.lst ((ls.map V.ref).set j (.ref q)))->(∀b o,H b=some o->b≠lu->H' b=some o)->Q (.bl w.isEmpty) H')->(¬(0<=i/\i<rs.length)->E (.ref NW) none H)->(∀(j:Nat) w r H',i=(j:Int)->ws[j]?=some w->rs[j]?=some r->¬(0<=x/\x<r.d)∨(∃k∈w,x=(k:Nat))->aC H H'->E (.ref NW) none H')->adv K CT C NW vs H Q E
theorem OG{t:Ad}(T:Txt K mg w t):bL P w K mg base (II P w) 3 t.lZ t.qD ["self","rope","wire"]  (adv K t.aP t.cP t.zE):=by
 refine T.yi.F.aar Ct λH Q E W h=>?_
 ·obtain⟨p,tp,G,ln,lr,ns,y,ws,i,x,rfl,hT,hW,ew,h4,k,kx,ky⟩:=h
  obtain⟨⟨dx,hp⟩,R,WE,els,hls⟩:=id hW;refine⟨_,(ao (sS 3 Ct (j4 (pv 0) T.d7 T.eY.m (lK T) (W.mono (!_)) T.eY.B .nil YC (cX (pv 1)))) (ao (b4 (PW.pt (Uv (kB (iZ nQ tE az (pv 2) (cG (K2 T) W T.Gu (jD (aT (pv 0) rfl) (pv 1))))) (LQ (nR zc (pv 2) (pv 3) (by with_unfolding_all rfl))))) (bQ (Hi rfl T.Ng T.Nh W.hd bu)) br) (ao (IQ (cB Kq T.Vo boot_sorted (cX (bG L5 (pv 3) (dY (cX (pv 2)))))) (LU (aT (pv 0) rfl) (pv 1) set_list)) (oR (qE z5 (pv 3) (dY fF)))))),?_⟩
  left
  refine⟨_,rfl,p,dx,_,rfl,hp,rfl,_,rfl,p,tp,G,ln,lr,ns,y,ws,i,rfl,hT,hW,ew,λj c l I ej C n JG O=>?_,kx⟩;subst ej;have hjl:=(ai.mp C).1;have w4:=h4 _ (aI C);have g:y[j]?=some y[j]:=aa ∅;have hp1:=n _ _ hp;have hT1:=hT.mono n;refine⟨_,rfl,_,_,rfl,rfl,_,rfl,?_⟩;by_cases h0:0<=x
  case neg =>
   rw[e8 h0];exact dO ⟨_,rfl,dZ (dZ (ky j c _ I rfl C g (.inl λz=>h0 z.1) n))⟩
  rw[eO h0];refine dZ ?_;refine⟨_,rfl,p,_,dx,_,_,rfl,hp1,T.d7,T.kM,rfl,_,rfl,tp,ln,lr,ns,y,j,y[j],rfl,hT1,g,_,_,rfl,rfl,_,rfl,?_⟩;by_cases N:x<y[j].d
  case neg =>
   rw[e8 N];exact dZ (dZ (ky j c _ I rfl C g (.inl λz=>N z.2) n))
  rw[eO N];refine dO ?_;obtain⟨f,rfl⟩:∃f:Nat,x=(f:Int):=⟨x.toNat,∅⟩;refine⟨_,rfl,_,rfl,l,_,rfl,.inl (bC.of O),rfl,nC c,_,rfl,?_⟩
  try dsimp only
  rw[eH aO,zg];by_cases X:f∈c
  case pos =>
   rw[eO X];exact dZ (ky j c _ I rfl C g (.inr ⟨f,X,rfl⟩) n)
  rw[e8 X];refine dO ?_;refine⟨_,rfl,_,rfl,Ou,λq hq=>?_⟩;have s2:=aC.new (o:=.lst [.int (f:Nat)]) hq;refine⟨l,q,_,_,rfl,rfl,s2 _ _ O,aq,?_,λU h3=>?_⟩
  ·rw[ah]
   exact g4 (bX (by show c.length+1<=1000;lia))
  have s3:=s2.trans (aC.new (o:=.lst (bE c++[.int (f:Nat)])) h3);have L:(upd (upd I q (.lst [.int (f:Nat)])) U (.lst (bE c++[.int (f:Nat)]))) U=some (.lst (((c++[f]).map λk:Nat=>(k:Int)).map V.int)):=by rw[aq,<- jn,fV]
  generalize upd (upd I q (.lst [.int (f:Nat)])) U (.lst (bE c++[.int (f:Nat)]))=H3 at s3 L;refine⟨U,_,rfl,bC.of L,(by rw[ah,aA];show c.length+1<64;lia),λu xs VY ak1 Y=>?_⟩;obtain⟨D,rfl,hz1,hz2⟩:=Si ak1 Y;have S:=s3.trans (aC.new (o:=.lst ((D.map λk:Nat=>(k:Int)).map V.int)) VY);have A:(upd H3 u (.lst ((D.map λk:Nat=>(k:Int)).map V.int))) u=some (.lst (bE D)):=by rw[aq,fV]
  generalize upd H3 u (.lst ((D.map λk:Nat=>(k:Int)).map V.int))=H4 at S A;have Z:=n.trans S;have s:=Z _ _ WE;have hp4:=Z _ _ hp;have v:j<R.length:=∅
  refine⟨_,rfl,p,_,dx,_,_,rfl,hp4,T.d7,T.gx,rfl,_,rfl,G,_,_,j,rfl,rfl,s,(by rw[ah];exact D8 v),?_⟩;generalize J:upd H4 G (.lst ((R.map V.ref).set j (.ref u)))=H5;have k5:∀b o,H4 b=some o->b≠G->H5 b=some o:=λb o e nb=>by rw[<- J,aK nb];exact e
  have hu5:H5 G=some (.lst ((R.map V.ref).set j (.ref u))):=by rw[<- J];exact aq
  have hl7:H5 u=some (.lst (bE D)):=k5 _ _ A (pK A s λz=>zh (aa v) (HO.lst.inj z));have hl6:H5 l=some (.lst (bE c)):=k5 _ _ (S _ _ O) (pK (S _ _ O) s λz=>zh (aa v) (HO.lst.inj z));refine⟨_,rfl,be _,λq2 hq2=>?_⟩;have M:=aC.new (o:=.lst []) hq2;refine⟨.list ((c.map λk:Nat=>(k:Int)).map .int),.list [],⟨l,_,rfl,bC.of (M _ _ hl6),(by rw[fV];exact rj _)⟩,⟨q2,_,rfl,bC.of aq,rfl⟩,nU _,rfl,bq (bI (ay (Nat.min_le_right _ _) (!_)) _) W.units,?_⟩;have z:=k j f c D y[j] R u _ rfl rfl C g N X hz1 hz2 WE ((n.trans s3).free VY) (M _ _ hl7) (M _ _ hu5) (λb o e nb=>M _ _ (k5 _ _ (Z _ _ e) nb));cases c with
  |nil=>exact z
  |cons a r=>exact z
noncomputable def GX(s:NS)(i:Nat)(w w2:List Nat)(e:Int):NS :=
 if w.isEmpty=true then gV {s with ws:=s.ws.set i w2} e 3 else {s with ws:=s.ws.set i w2}
inductive Zd(K:af)(CT:Addr)(c:NC)(vs:List V)(H:Hp)(Q:VK)(E:XK):Prop
 |mk (F:Addr->Prop) (p tp ln lr:Addr) (ns:List Int) (rs:List R5) (s:NS) (i x:Nat) (w:List Nat) (r:R5):vs=[.ref p,.int i,.int x]->NW K c CT H F p tp ln lr ns rs s->cD ns rs->BI ns rs s->s.ws[i]?=some w->rs[i]?=some r->(x:Int)<r.d->x∉w->(∀w2 F' H',w2.Perm (w++[x])->w2.Pairwise (·<=·)->NW K c CT H' F' p tp ln lr ns rs (GX s i w w2 r.e)->Step H F H' F'->Q (.bl w.isEmpty) H')->Zd K CT c vs H Q E
theorem OH{t:Ad}(T:Txt K mg w t):bL P w K mg base fP 4 t.zy t.Ej ["self","rope","wire"]  (Zd K t.aP (nc t)):=by
 refine T.JB.F.gB MU λH Q E hr h=>?_
 ·obtain⟨F,p,S,M,L,C,rs,st,i,x,w',r,rfl,N,G,V,f,Pb,U,D,k⟩:=h
  refine⟨_,(ao (sS 3 MU (j4 (aT (pv 0) rfl) T.d7 T.yi.m (OG T) (hr.mono (!_)) T.yi.B .nil UP (jD (pv 1) (pv 2)))) (ao (b4 (mW (pv 3)) (oE (cM (pv 0) T.aY T.jd (mF T) hr (cX (pv 1)))) br) (oR (pv 3)))),?_⟩
  left
  obtain⟨d,dx,q,hp,O,hF,hT⟩:=id N.b5;have bF:=O.get .b5 _ rfl;rw[hp] at bF;have o:=(ai.mp f).1;have Bc:i<rs.length:=by rw[<- V.wl];exact o
  refine⟨_,rfl,p,_,_,_,_,rfl,bF,T.aY,T.mE,rfl,d .cN,dx .cN,_,rfl,O.get .cN _ rfl,rfl,_,rfl,_,rfl,d .cN,S,d .c8,M,L,C,rs,st.ws,i,x,rfl,N.xG,O.strAt,V.wl,V.w4,λj Y w1 v r2 ls a H1 ej ek l b hkd hk I J WE ha R A kp=>?_,λz=>eL ⟨∅,∅⟩ z,λj v r2 H1 ej l b hz _=>?_⟩
  case refine_2 =>
   have:j=i:=∅
   subst this;rw[f] at l;cases l;rw[Pb] at b;cases b;rcases hz with z|⟨y,hy,e⟩
   ·exact eL ⟨∅,U⟩ z
   ·have:y=x:=∅
    subst this;exact eL hy D
  have:j=i:=∅
  subst this
  have:Y=x:=∅
  subst this;rw[f] at l;cases l;obtain⟨Z,N1,st1⟩:=U0 hp O hF hT o WE ha R A kp;have s:=N.done st1 N1;obtain⟨an5,dx1,q1,W,O1,hF1,hT1⟩:=id N1;have ir:=O1.get .b5 _ rfl;rw[W] at ir;dsimp only[gp];have k:=k v;unfold GX at k;generalize w'.isEmpty=eb at k;refine qu (λσ n=>∃g:Addr->Prop,NW K (nc t) t.aP n g p S M L C rs (if eb=true then gV {st with ws:=st.ws.set j v} r.e 3 else {st with ws:=st.ws.set j v})/\Step H F n g/\σ=[some (.ref p),some (.int j),some (.int Y),some (.bl eb)]) ?_ λN' u=>?_
  case refine_2 =>
   refine⟨_,rfl,_,rfl,jh (λe=>?_) (λe=>?_)⟩
   ·rw[b3 e] at u
    refine⟨_,rfl,p,_,_,rfl,ir,rfl,_,rfl,Z,p,S,M,L,C,rs,_,j,r,rfl,s,G,Pb,λg n X c=>?_⟩;exact u _ _ ⟨g,X,st1.trans c,rfl⟩
   ·rw[eH e] at u
    exact u _ _ ⟨Z,s,st1,rfl⟩
  rintro σ n ⟨g,X,c,rfl⟩;exact⟨_,rfl,k g n I J X c⟩
inductive Ze(K:af)(c:NC)(vs:List V)(H:Hp)(Q:VK)(E:XK):Prop
 |mk (F:Addr->Prop) (p tp:Addr) (n x:Nat) (to:Option Nat) (s:NS):vs=[.ref p,.int x,Ja (to.map λy:Nat=>(y:Int))]->cj K c H F p tp n s->x<s.aN.length->s.groups.length=s.aN.length->(∀y,to=some y->y<s.aN.length/\s.groups[y]?=s.groups[x]?)->Q .dH H->Ze K c vs H Q E
theorem Iw{t:Ad}(T:Txt K mg w t):bL P w K mg base fP 2 t.jb t.k6 ["self","sender","to"]  (Ze K (nc t)):=by
 refine T.zH.F.gB Ht λH Q E l h=>?_
 ·obtain⟨F,p,j,n,x,u,st,rfl,N,o,s,g,k⟩:=h
  refine⟨_,(ao (dN (cM (pv 0) T.aY T.ic (iW T) l (cX (pv 1)))) (bQ (b4 (qT R3 (pv 2) lF) (ao (dN (cM (pv 0) T.aY T.ic (iW T) l (cX (pv 2)))) (bQ (b4 (qT wC (xL (aT (pv 0) rfl) (pv 1)) (xL (aT (pv 0) rfl) (pv 2))) cH br))) br))),?_⟩
  left
  obtain⟨d,A,q,r,O,z,v⟩:=id N;have f:=O.get .b5 _ rfl;rw[r] at f;refine⟨_,rfl,p,_,_,rfl,f,rfl,_,rfl,F,p,j,n,x,st,rfl,N,o,?_⟩;cases u with
  |none=>exact⟨_,rfl,rfl,_,rfl,dO k⟩
  |some y =>
   obtain⟨m,i⟩:=g y rfl;refine⟨_,rfl,rfl,_,rfl,dZ ?_⟩;refine⟨_,rfl,p,_,_,rfl,f,rfl,_,rfl,F,p,j,n,y,st,rfl,N,m,?_⟩;have b:=bC.of (K:=K) (O.get .groups _ rfl);have a:x<st.groups.length:=∅
   have c:y<st.groups.length:=∅
   have e:st.groups[y]=st.groups[x]:=by
    rw[aa c,aa a] at i;exact aR i
   refine⟨_,rfl,p,_,_,_,_,rfl,f,T.aY,T.k8,rfl,_,rfl,d .groups,_,_,_,rfl,rfl,b,rA a,_,rfl,p,_,_,_,_,rfl,f,T.aY,T.k8,rfl,_,rfl,d .groups,_,_,_,rfl,rfl,b,rA c,rfl,_,rfl,?_⟩;rw[e,eO rfl];exact dO k
noncomputable def wm(s:NS)(x h:Nat):NS:=if s.aN[x]?=some h then s else zS {s with aN:=s.aN.set x h} (s.groups.getD x 0)
inductive Zf(K:af)(CT:Addr)(c:NC)(vs:List V)(H:Hp)(Q:VK)(E:XK):Prop
 |mk (F:Addr->Prop) (p tp ln lr:Addr) (ns:List Int) (rs:List R5) (s:NS) (x h:Nat):vs=[.ref p,.int x,.int h]->NW K c CT H F p tp ln lr ns rs s->x<s.aN.length->s.groups.length=s.aN.length->(∀g∈s.groups,g<3)->h<ns.length->(∀F' H',NW K c CT H' F' p tp ln lr ns rs (wm s x h)->Step H F H' F'->Q .dH H')->Zf K CT c vs H Q E
theorem K7{t:Ad}(T:Txt K mg w t):bL P w K mg base fP 3 t.vh t.AA ["self","caller","house"]  (Zf K t.aP (nc t)):=by
 refine T.Gw.F.gB Vb λH Q E m h=>?_
 ·obtain⟨F,p,i,u,M,ns,J,st,x,y,rfl,N,g,I,n,r,k⟩:=h
  refine⟨_,(ao (dN (cM (pv 0) T.aY T.ic (iW T) m (cX (pv 1)))) (ao (dN (cM (pv 0) T.aY T.oY (vZ T) m (cX (pv 2)))) (bQ (b4 (qT wC (pv 2) (xL (aT (pv 0) rfl) (pv 1))) (ao (IQ (pv 2) (LU (aT (pv 0) rfl) (pv 1) set_list)) (oE (cM (pv 0) T.aY T.mU (qt T) m (cX (xL (aT (pv 0) rfl) (pv 1)))))) br)))),?_⟩
  left
  obtain⟨a,L,q,hp,O,A,v⟩:=id N.b5;have X:j0 K (nc t) H F a L q p i ns.length st:=⟨hp,O,A,v⟩;have f:=O.get .b5 _ rfl;rw[hp] at f;have d:=O.get .aN _ rfl;have b:x<st.groups.length:=∅
  refine⟨_,rfl,p,_,_,rfl,f,rfl,_,rfl,F,p,i,ns.length,x,st,rfl,N.b5,g,?_⟩;refine⟨_,rfl,p,_,_,rfl,f,rfl,_,rfl,F,p,i,u,M,ns,J,st,y,rfl,N,r,?_⟩;refine⟨_,rfl,_,rfl,p,_,_,_,_,rfl,f,T.aY,T.kP,rfl,_,rfl,a .aN,_,_,_,rfl,rfl,bC.of d,rA g,rfl,_,rfl,?_⟩;unfold wm at k;rw[aa g] at k;by_cases e:st.aN[x]=y
  ·rw[b3 (by rw[e])] at k
   rw[e,eO rfl];exact dO (k F H N (Step.refl' (aC.refl _)))
  ·rw[eH (λz=>e (aR z))] at k
   rw[e8 (λz=>e (by have:=V.int.inj z;lia))];refine dZ ?_;refine⟨_,rfl,_,rfl,p,_,_,_,_,rfl,f,T.aY,T.kP,rfl,_,rfl,a .aN,_,_,x,rfl,rfl,d,(by rw[ah];exact D8 g),?_⟩;have o:(bE st.aN).set x (.int (y:Nat))=bE (st.aN.set x y):=by rw[bE,bE,lB]
   rw[o];obtain⟨c,st1⟩:=acy X (st.aN.set x y);generalize upd H (a .aN) (.lst (bE (st.aN.set x y)))=H1 at c st1;have l:=c.own.get .b5 _ rfl;rw[c.hp] at l;have j:=bC.of (K:=K) (c.own.get .groups _ rfl);have s:=N.done st1 c.b5;have B:st.groups.getD x 0=st.groups[x]:=by rw[aj,aa b];rfl
   rw[B] at k;refine⟨_,rfl,p,_,_,rfl,l,rfl,_,rfl,p,_,_,_,_,rfl,l,T.aY,T.k8,rfl,_,rfl,a .groups,_,_,_,rfl,rfl,j,rA b,F,p,i,ns.length,st.groups[x],_,rfl,c.b5,n _ (aD b),λC D G st2=>?_⟩;exact k C D (s.done st2 G) (st1.trans st2)
noncomputable def OI(s:NS)(h g x:Nat):Bool:=decide (s.aN[x]?=some h/\s.groups[x]?=some g)
noncomputable def BE(s:NS)(h g:Nat):List Nat:=(au s.aN.length).filter (OI s h g)
theorem Bf{f:Nat->Bool}{i:Nat}:(au (i+1)).filter f=(au i).filter f++if f i=true then [i] else []:=by
 rw[fB,iy];congr 1;cases e:f i
 ·rw[eH (!_),dg (by rw[e];decide)];rfl
 ·rw[b3 rfl,dc e];rfl
inductive Zg(K:af)(c:NC)(vs:List V)(H:Hp)(Q:VK)(E:XK):Prop
 |mk (F:Addr->Prop) (p tp:Addr) (n h g:Nat) (s:NS):vs=[.ref p,.int h,.int g]->cj K c H F p tp n s->s.groups.length=s.aN.length->s.aN.length<=20->(∀l H',aC H H'->H l=none->H' l=some (.lst (bE (BE s h g)))->Q (.ref l) H')->Zg K c vs H Q E
theorem Iz{t:Ad}(T:Txt K mg w t):bL P w K mg base fP 1 t.ja t.kZ ["self","house","group"]  (Zg K (nc t)):=by
 refine T.zG.F.gB n6 λH Q E hr h=>?_
 ·obtain⟨F,p,tp,n,c,g,st,rfl,N,Z,pI,k⟩:=h
  refine⟨_,(ao (sS 3 n6 (dG (jD (pv 1) (pv 2)))) (oR (dP (kO n6 ["caller","self","there"] [none,some 0,some 3]) rfl (gX rfl T.j9 (cX (lS T.fR (aT (pv 0) rfl)))) (λ_ _ _ _=>by exact (gS 0 Cv)) (λ_ _ _ _=>by exact (tN (qT (YD K rfl hr.units) (dG (jD (yL K (LA K rfl (pv 1) rfl) (pv 0)) (yL K (LA K rfl (pv 1) rfl) (pv 0)))) (pv 2)))) (λ_ _ _ _=>by exact (pv 0))))),?_⟩
  left
  refine⟨_,rfl,_,rfl,ff,λG r=>?_⟩;have m:=aC.new (o:=.tup [V.int c,V.int g]) r;have I:=aq (H:=H) (a:=G) (o:=.tup [V.int c,V.int g]);generalize upd H G (.tup [V.int c,V.int g])=H1 at m I;obtain⟨d,dx,q,Y,O,hF,hT⟩:=N.mono m;have B:=O.get .b5 _ rfl;rw[Y] at B;have f:=bC.of (K:=K) (O.get .aN _ rfl);have u:=bC.of (K:=K) (O.get .groups _ rfl);refine⟨_,rfl,p,_,_,_,_,rfl,B,T.aY,T.kP,rfl,d .aN,_,rfl,.inl f,(((bE st.aN).length:Nat):Int),rfl,∅,by rw[ah];lia,λC b=>?_⟩;rw[ah];refine gG (n:=((st.aN.length:Int)).toNat) (λi A _=>A=bE ((au i).filter (OI st c g))) b BX rm rfl ?_ ?_
  ·rintro i A J L e s rfl y H4 ⟨rfl,rfl⟩
   rw[eB];have j:i<st.aN.length:=∅
   have l:i<st.groups.length:=∅
   have M:=e _ _ B;refine⟨_,rfl,p,_,_,_,_,rfl,M,T.aY,T.kP,rfl,_,rfl,d .aN,_,_,_,rfl,rfl,e.seq f,rA j,_,rfl,p,_,_,_,_,rfl,M,T.aY,T.k8,rfl,_,rfl,d .groups,_,_,_,rfl,rfl,e.seq u,rA l,ff,λz1 x=>?_⟩;have U:=aC.new (o:=.tup [V.int (st.aN[i]:Nat),V.int (st.groups[i]:Nat)]) x;have v:=e.trans U;have R:=U _ _ s;refine⟨_,rfl,.tuple (([(st.aN[i]:Int),(st.groups[i]:Int)]:List Int).map .int),.tuple (([(c:Int),(g:Int)]:List Int).map .int),Rep.QJ (ns:=[(st.aN[i]:Int),(st.groups[i]:Int)]) (cR.of aq),Rep.QJ (ns:=[(c:Int),(g:Int)]) (cR.of (v _ _ I)),nU _,nU _,(by show PyData.depthAll _+1<=64;rw[D6];decide),_,rfl,?_⟩
   try dsimp only
   have W:OI st c g i=decide ((st.aN[i]:Int)=(c:Int)/\(st.groups[i]:Int)=(g:Int)):=by
    unfold OI;rw[aa j,aa l,decide_eq_decide];constructor
    ·rintro⟨S,D⟩
     exact⟨by rw[aR S],by rw[aR D]⟩
    ·rintro⟨S,D⟩
     exact⟨fy some ∅,fy some ∅⟩
   rw[YL,<- W];refine jh (λz=>?_) (λz=>?_)
   ·refine⟨_,rfl,?_⟩
    refine fH b L v R ?_ ?_
    ·rw[ah]
     refine bX (ay (bD _ _) ?_);rw[bz];lia
    ·rw[Bf,b3 z,jn]
   ·refine kW L v R ?_
    rw[Bf,eH z,fD]
  ·rintro A J e s rfl
   have X:=m.trans e;exact k C J X (m.free b) s
inductive RD(K:af)(CT C NW:Addr)(vs:List V)(H:Hp)(Q:VK)(E:XK):Prop
 |mk (p tp lu ln lr:Addr) (ns:List Int) (rs:List R5) (ws:List (List Nat)) (i x:Int):vs=[.ref p,.int i,.int x]->cy K CT H tp ln lr ns rs->wH C H p tp lu ws->ws.length=rs.length->(∀(j:Nat) w H',i=(j:Int)->ws[j]?=some w->aC H H'->(w=[]->Q .dH H')/\(∀k:Nat,w[(x%(w.length:Int)).toNat]?=some k->w≠[]->Q (.int (k:Nat)) H'))->(¬(0<=i/\i<rs.length)->E (.ref NW) none H)->RD K CT C NW vs H Q E
theorem EF{t:Ad}(T:Txt K mg w t):bL P w K mg base (II P w) 2 t.g9 t.ju ["self","rope","number"]  (RD K t.aP t.cP t.zE):=by
 refine T.nh.F.aar tG λH Q E r h=>?_
 ·obtain⟨p,J,M,v,Z,u,U,N,i,x,rfl,C,g,L,k,G⟩:=h
  obtain⟨⟨Y,O⟩,_⟩:=id g;refine⟨_,(ao (sS 3 tG (j4 (pv 0) T.d7 T.eY.m (lK T) (r.mono (!_)) T.eY.B .nil YC (cX (pv 1)))) (ao (b4 (qT z5 (pv 3) (dY fF)) (oR lF) br) (oR (xL (pv 3) (bG dh (pv 2) (lS T.fR (pv 3))))))),?_⟩
  left
  refine⟨_,rfl,p,Y,_,rfl,O,rfl,_,rfl,p,J,M,v,Z,u,U,N,i,rfl,C,g,L,λj e l H1 s A I W hl=>?_,G⟩;refine⟨_,rfl,be _,λq X=>?_⟩;have n:=aC.new (o:=.lst []) X;have c:=n _ _ hl;refine⟨.list ((e.map λk:Nat=>(k:Int)).map .int),.list [],⟨l,_,rfl,bC.of c,(by rw[fV];exact rj _)⟩,⟨q,_,rfl,bC.of aq,rfl⟩,nU _,rfl,bq (bI (ay (Nat.min_le_right _ _) (!_)) _) r.units,_,rfl,?_⟩;obtain⟨S,D⟩:=k j e _ s A (I.trans n);cases e with
  |nil=>exact dZ (S rfl)
  |cons y b =>
   refine dO ?_;have a:(0:Int)<(((y::b).length:Nat):Int):=by rw[bH];lia
   have R:=eE x (show (((y::b).length:Nat):Int)≠0 by lia);have hm1:=fq x a;have d:(x%(((y::b).length:Nat):Int)).toNat<(y::b).length:=∅
   refine⟨_,rfl,_,rfl,_,rfl,l,_,rfl,.inl (bC.of c),_,_,rfl,(by rw[ah]),a,?_⟩;obtain⟨z,f⟩:∃z,(y::b)[(x%(((y::b).length:Nat):Int)).toNat]?=some z:=⟨_,aa d⟩;refine⟨l,_,_,V.int (z:Nat),rfl,rfl,bC.of c,?_,D z f (by intro z;cases z)⟩;rw[show x%(((y::b).length:Nat):Int)=(((x%(((y::b).length:Nat):Int)).toNat:Nat):Int) by lia];exact dD (by rw[ak,f];rfl)
noncomputable def IB(l:LS)(h:Nat):Bool:=(BR (l.done.map λh:Nat=>((gZ (h:Int):Key),V.bl true)) (gZ (h:Int))).isSome
inductive Zh(K:af)(CT:Addr)(c:NC)(vs:List V)(H:Hp)(Q:VK)(E:XK):Prop
 |mk (F:Addr->Prop) (loc dx:Role->Addr) (q:TQ) (p tp ln lr:Addr) (ns:List Int) (rs:List R5) (s:NS) (o:cD ns rs) (i r h:Nat) (l:LS):vs=[.ref p,.ref (loc (.bV i)),.int r,.int h]->j0 K c H F loc dx q p tp ns.length s->NW K c CT H F p tp ln lr ns rs s->BI ns rs s->s.ls[i]?=some l->l.grp<3->(∀os H',aC H H'->ji (rY ns rs o s.ws l.grp) (s.R l.grp) os->os.length<=12->Q (.str (if r∈os then (if IB l h=true then "twice" else "come") else "lost")) H')->Zh K CT c vs H Q E
theorem OJ{t:Ad}(T:Txt K mg w t):bL P w K mg base fP 7 t.mq t.qH ["self","posted","rope","house"]  (Zh K t.aP (nc t)):=by
 refine T.EV.F.gB MV λH Q E s h=>?_
 ·obtain⟨F,a,I,q,p,D,z,J,x,G,st,o,i,r,A,l,rfl,X,N,v,b,y,k⟩:=h
  refine⟨_,(ao (b4 (nR tM (pv 2) (cM (pv 0) T.aY T.xg (Be T) s (cX (aT (pv 1) rfl))) (by with_unfolding_all rfl)) (oR bu) br) (oR (jI (abl (ahu (UK s) (pv 3) (aT (pv 1) rfl)) (by with_unfolding_all rfl)) bu bu))),?_⟩
  left
  have u:=X.own.get .b5 _ rfl;rw[X.hp] at u;have n:=X.own.get (.bV i) (nG (nc t) I a i l) (by show (st.ls[i]?.map _)=_;rw[b];rfl);have m:=X.own.get (.done i) (.dK (l.done.map λh:Nat=>(gZ (h:Int),.bl true))) (by show (st.ls[i]?.map _)=_;rw[b];rfl);refine⟨_,rfl,_,rfl,p,_,_,rfl,u,rfl,_,rfl,a (.bV i),_,_,_,_,rfl,n,T.c9,T.kL,rfl,F,p,D,z,J,x,G,st,o,l.grp,rfl,N,v,y,λlo os C j B d f g=>⟨lo,_,rfl,.inl (bC.of d),rfl,nC _,_,rfl,?_⟩⟩
  try dsimp only
  rw[b3 rfl,zg];have k:=k os C j f g;by_cases e:r∈os
  ·rw[b3 e] at k
   rw[eO e];refine dO ?_;refine⟨_,rfl,_,rfl,a (.bV i),_,_,_,_,rfl,j _ _ n,T.c9,T.qb,rfl,a (.done i),_,rfl,Pa.k (k:=.inl (A:Int)) (j _ _ m),_,rfl,?_⟩;unfold IB at k;refine jh (λc=>?_) (λc=>?_)
   ·rw[b3 c] at k
    exact k
   ·rw[eH c] at k
    exact k
  ·rw[eH e] at k
   rw[e8 e];exact dZ k
noncomputable def rN(l:LS):Nat:=if l.kd=1 then l.s+l.to+1 else l.s
theorem afe{t:Ad}(T:Txt K mg w t){b a:Role->Addr}{f:L2.St}{H:Hp}{Q:VK}{i:Nat}{l:LS}(j:∀Q:VK,Q (.ref (a (.bV i))) H->IP 4 f H Q)(h:H (a (.bV i))=some (nG (nc t) b a i l))(d:H (a (.letter i))=some (rX (nc t) (b (.letter i)) l))(q:Q (.int (rN l:Nat)) H) :
 Kl t.jc (Str.ofString "number") (Et K) [] E0 (L0 K (IP 4) (Str.ofString "letter")) FT f H Q∨Kl t.gw (Str.ofString "number") (J0 t.gw) [] E0 (L0 K (IP 4) (Str.ofString "letter")) FT f H Q∨Kl t.jx (Str.ofString "number") (Et K) [] E0 (L0 K (IP 4) (Str.ofString "letter")) FT f H Q:=by
 by_cases e:l.kd=1
 ·have c:H (a (.letter i))=some (.ins t.gw (b (.letter i)) [("sender",.int l.s),("to",.int l.to)]):=by rw[d];unfold rX;rw[b3 e]
  have g:V.int ((l.s:Int)+(l.to:Int)+1)=.int (rN l:Nat):=by unfold rN;rw[b3 e];rfl
  refine .inr (.inl ?_);unfold Kl L0;exact (j _ ⟨a (.bV i),_,_,_,_,rfl,h,T.c9,T.iC,rfl,a (.letter i),b (.letter i),_,rfl,c,rfl,a (.letter i),b (.letter i),l.s,l.to,rfl,c,(by rw[g];exact q)⟩)
 ·have c:H (a (.letter i))=some (.ins t.jx (b (.letter i)) [("sender",.int l.s)]):=by rw[d];unfold rX;rw[eH e]
  have g:V.int (l.s:Int)=.int (rN l:Nat):=by unfold rN;rw[eH e]
  refine .inr (.inr ?_);unfold Kl L0;exact (j _ ⟨a (.bV i),_,_,_,_,rfl,h,T.c9,T.iC,rfl,a (.letter i),b (.letter i),_,rfl,c,rfl,a (.letter i),t.jx,b (.letter i),l.s,rfl,c,T.AI,T.o4,(by rw[g];exact q)⟩)
noncomputable def RE(s:NS)(i h r x f:Nat):NS:={cS s i (.send h r x) with cps:=s.cps++[⟨i,r,x,f⟩]}
inductive Zi(K:af)(CT:Addr)(c:NC)(vs:List V)(H:Hp)(Q:VK)(E:XK):Prop
 |mk (F:Addr->Prop) (p tp ln lr:Addr) (ns:List Int) (rs:List R5) (s:NS) (i h r:Nat) (l:LS) (re:R5) (w:List Nat) (x:Nat):vs=[.ref p,.int i,.int h,.int r]->NW K c CT H F p tp ln lr ns rs s->cD ns rs->BI ns rs s->s.ls[i]?=some l->l.aG.length<1000000->s.cps.length<1000000->rs[r]?=some re->s.ws[r]?=some w->w[(((rN l:Nat):Int)%(w.length:Int)).toNat]?=some x->w≠[]->(∀F' H',NW K c CT H' F' p tp ln lr ns rs (RE s i h r x (jL re h))->Step H F H' F'->Q .dH H')->Zi K CT c vs H Q E
theorem V5{t:Ad}(T:Txt K mg w t):bL P w K mg base fP 3 t.vj t.AB ["self","number","house","rope"]  (Zi K t.aP (nc t)):=by
 refine T.M9.F.gB Cw λH Q E s h=>?_
 ·obtain⟨F,p,C,ln,lr,ns,D,st,i,c,r,l,re,w',x,rfl,N,tok,BD,b,hld,hcl,e,hw,hwx,S,k⟩:=h
  refine⟨_,(ao (sS 4 Cw (xL (aT (pv 0) rfl) (pv 1))) (ao (sS 5 Cw (j4 (aT (pv 0) rfl) T.d7 T.nh.m (EF T) (s.mono (!_)) T.nh.B .nil UP (jD (pv 3) (I0 (iF (aT (pv 4) rfl) T.Nb T.mS.m (zQ T) (s.mono (!_)) T.mS.B .nil iz) (I0 (iF (aT (pv 4) rfl) T.qX T.vn.m (Lv T) (s.mono (!_)) T.vn.B .nil iz) (iF (aT (pv 4) rfl) T.AI T.Nd (zQ T) (s.mono (!_)) T.mS.B .nil iz)))))) (ao (dN (jJ bJ bO bN gq (aT (pv 4) rfl) (cX (dG (u9 bu (pv 2) (pv 3) (pv 5)))))) (oE (jJ bJ bO bN gq (aT (pv 0) rfl) (cX (dG (u9 (pv 1) (pv 3) (pv 5) (cM (aT (pv 0) rfl) T.fk T.oX (sZ T) s (jD (pv 3) (pv 2))))))))))),?_⟩
  left
  obtain⟨a,A,q,hp,O,hF,hT⟩:=id N.b5;have Z:=O.get .b5 _ rfl;rw[hp] at Z;have Y:=(ai.mp b).1;have U:=(ai.mp e).1;have RA:=O.get .cz _ rfl;have RC:=O.get (.bV i) (nG (nc t) A a i l) (by show (st.ls[i]?.map _)=_;rw[b];rfl);have W:=O.get (.letter i) (rX (nc t) (A (.letter i)) l) (by show (st.ls[i]?.map _)=_;rw[b];rfl);refine⟨_,rfl,p,_,_,_,_,rfl,Z,T.aY,T.eF,rfl,_,rfl,a .cz,_,_,_,rfl,rfl,bC.of RA,pX Y,?_⟩;refine⟨_,rfl,p,_,_,_,_,rfl,Z,T.aY,T.mE,rfl,a .cN,A .cN,_,rfl,O.get .cN _ rfl,rfl,_,rfl,?_⟩;have v:=O.get (.aG i) (.lst ((q.dq i).map V.ref)) (by show (st.ls[i]?.map _)=_;rw[b];rfl);refine afe T (l:=l) (λQ q=>⟨_,rfl,q⟩) RC W ?_;refine⟨a .cN,C,a .c8,ln,lr,ns,D,st.ws,r,(rN l:Nat),rfl,N.xG,O.strAt,BD.wl,λj w2 H1 ej y n=>⟨λz=>?_,λkk hk _=>?_⟩,λz=>eL ⟨∅,∅⟩ z⟩
  ·have:j=r:=∅
   subst this;rw[hw] at y;cases y;exact eL z S
  have:j=r:=∅
  subst this;rw[hw] at y;cases y;rw[hwx] at hk;cases hk;have X1:j0 K (nc t) H1 F a A q p C ns.length st:=j0.mono ⟨hp,O,hF,hT⟩ n;have Uq:=(X1.tup.aG i _ b).len;rw[ah] at Uq;refine⟨_,rfl,a (.bV i),_,_,_,_,rfl,n _ _ RC,T.c9,T.ie,rfl,.inl ⟨rfl,_,bC.of (n _ _ v)⟩,_,rfl,_,rfl,_,rfl,aaU,λz1 R=>?_⟩;have M:=aC.new (o:=.tup [V.str "send",V.int c,V.int j,V.int x]) R;refine⟨a (.aG i),_,_,rfl,rfl,M _ _ (n _ _ v),yX (by rw[ah,Uq];lia),?_⟩;obtain⟨f,st2⟩:=Ce (X1.mono M) b (d:=.send c j x) (cR.of aq);have g:=(Step.refl' (F:=F) (n.trans M)).trans st2;have J:=N.done g f.b5;generalize upd (upd H1 z1 (.tup [V.str "send",V.int c,V.int j,V.int x])) (a (.aG i)) (.lst ((q.dq i).map V.ref++[.ref z1]))=H2 at f g J;have G:=f.own.get .b5 _ rfl;rw[f.hp] at G;have u:=f.own.get .fj _ rfl;obtain⟨⟨dt,I⟩,_⟩:=id J.xG;have L:q.cq.length=st.cps.length:=by
   have z:=f.tup.cps.len;rw[ah] at z;exact z
  obtain⟨_,rfl⟩:=ai.mp e;refine⟨_,rfl,p,_,_,_,_,rfl,G,T.aY,T.jz,rfl,.inl ⟨rfl,_,bC.of u⟩,_,rfl,_,rfl,_,rfl,_,rfl,p,_,_,_,_,rfl,G,T.aY,T.jy,rfl,C,dt,_,rfl,I,rfl,_,rfl,_,rfl,C,ln,lr,ns,D,j,_,c,rfl,J.xG,e,?_⟩;rw[YF (h:=c) U tok.ok];refine⟨aaU,λz2 X=>?_⟩;have u2:=aC.new (o:=.tup [V.int i,V.int j,V.int x,V.int (jL D[j] c:Nat)]) X;refine⟨a .fj,_,_,rfl,rfl,u2 _ _ u,yX (by rw[ah,L];lia),?_⟩;have X3:=f.mono u2;obtain⟨X4,EA⟩:=YK X3 (qs:=q.cq++[z2]) (cps:=st.cps++[⟨i,j,x,jL D[j] c⟩]) (by rw[aU];exact X3.tup.cps.snoc (cR.of aq));rw[aU] at X4 EA;have Qy:=(g.trans (Step.refl' (F:=F) u2)).trans EA;refine k F _ ?_ Qy;unfold RE;rw[fK b];exact N.done Qy X4.b5
end
section
noncomputable def pO(ds:List Nat)(h:Nat):List Nat:=if h∈ds then ds else ds++[h]
theorem aaM{ds:List Nat}{h:Nat}:putK (ds.map λh:Nat=>((gZ (h:Int):Key),V.bl true)) (gZ (h:Int)) (V.bl true)=(pO ds h).map λh:Nat=>((gZ (h:Int):Key),V.bl true):=by
 have e:((ds.map λh:Nat=>((gZ (h:Int):Key),V.bl true)).any λb=>decide (b.1=(gZ (h:Int):Key)))=decide (h∈ds):=by
  rw[ku,List.any_map,zY,decide_eq_true_iff];constructor
  ·rintro⟨x,a,e⟩
   have e:=Sum.inl.inj (fT e)
   have:x=h:=∅
   exact this▸a
  ·exact λa=>⟨h,a,eO rfl⟩
 unfold putK pO;rw[e];by_cases z:h∈ds
 ·rw[b3 (eO z),b3 z,bP]
  refine cU λx _=>?_;show (if _ then _ else _)=_;split <;> rfl
 ·rw[eH (by rw[decide_eq_true_iff];exact z),eH z,aU]
  rfl
structure Fr(s s':NS):Prop where
 ws:s'.ws=s.ws
 R:s'.R=s.R
 ts:s'.ts=s.ts
 aN:s'.aN=s.aN
 groups:s'.groups=s.groups
 lt:∀(i:Nat) (l:LS),s.ls[i]?=some l->∃l':LS,s'.ls[i]?=some l'/\l'.s=l.s/\l'.to=l.to/\l'.kd=l.kd/\l'.grp=l.grp/\l'.old=l.old
theorem Fr.refl(s:NS):Fr s s:=⟨rfl,rfl,rfl,rfl,rfl,λ_ l h=>⟨l,h,rfl,rfl,rfl,rfl,rfl⟩⟩
theorem Fr.trans{a b c:NS}(f:Fr a b)(g:Fr b c):Fr a c:=by
 refine⟨g.ws.trans f.ws,g.R.trans f.R,g.ts.trans f.ts,g.aN.trans f.aN,g.groups.trans f.groups,λi l h=>?_⟩;obtain⟨m,k,t,d,s,q,n⟩:=f.lt i l h;obtain⟨o,p,f1,f2,e,r,j⟩:=g.lt i m k;exact⟨o,p,f1.trans t,f2.trans d,e.trans s,r.trans q,j.trans n⟩
theorem Fr.ok{ns:List Int}{rs:List R5}{s s':NS}(f:Fr s s')(h:BI ns rs s):BI ns rs s' :=
 ⟨by rw[f.ws];exact h.wl,by rw[f.ws];exact h.w4,by rw[f.R];exact h.fit⟩
theorem agG{s:NS}{i:Nat}{l a:LS}{had:List (List Nat)}{cps:List Cp}(hl:s.ls[i]?=some l)(e:a.s=l.s)(d:a.to=l.to)(g:a.kd=l.kd)(f:a.grp=l.grp)(c:a.old=l.old):Fr s {s with ls:=s.ls.set i a,had:=had,cps:=cps}:=by
 refine⟨rfl,rfl,rfl,rfl,rfl,λk b h=>?_⟩;show ∃b,(s.ls.set i a)[k]?=some b/\_;rw[iB (ai.mp hl).1];by_cases z:k=i
 ·subst z
  rw[hl] at h;cases h;exact⟨a,b3 rfl,e,d,g,f,c⟩
 ·exact⟨b,by rw[eH z];exact h,rfl,rfl,rfl,rfl,rfl⟩
theorem Zj{s:NS}{i:Nat}{d:i7}:Fr s (cS s i d):=by
 cases h:s.ls[i]? with
 |none=>unfold cS;rw[h];exact Fr.refl s
 |some l=>rw[fK h];exact agG h rfl rfl rfl rfl rfl
structure Bd(n m D:Nat)(s:NS):Prop where
 gl:s.groups.length=s.aN.length
 pI:s.aN.length<=20
 g3:∀g∈s.groups,g<3
 hm:∀h∈s.aN,h<n
 hl:s.had.length=s.aN.length
 hb:∀w∈s.had,w.length<=D
 ll:s.ls.length<=D
 lb:∀l∈s.ls,l.aG.length+s.cps.length<=D/\l.done.length<=D/\l.grp<3/\(l.kd=1∨l.kd=2)
 cb:s.cps.length<=D
 cl:∀c∈s.cps,c.l<s.ls.length/\c.r<m/\c.h<n
 tb:∀g,50*(s.ts g).length<=D/\c5 (s.ts g)
theorem Bd.mono{n m D a:Nat}{s:NS}(b:Bd n m D s)(h:D<=a):Bd n m a s :=
 ⟨b.gl,b.pI,b.g3,b.hm,b.hl,λw z=>ay (b.hb w z) h,ay b.ll h,λl z=>⟨ay (b.lb l z).1 h,ay (b.lb l z).2.1 h,(b.lb l z).2.2⟩,ay b.cb h,b.cl,λg=>⟨ay (b.tb g).1 h,(b.tb g).2⟩⟩
theorem Bd.set{n m D:Nat}{s:NS}{i:Nat}{l a:LS}(b:Bd n m D s)(k:Nat)(hl:s.ls[i]?=some l){cps:List Cp}{had:List (List Nat)}(v:cps.length<=s.cps.length+1)(k2:cps.length<=s.cps.length∨2<=k)(k1:1<=k)(t:a.aG.length+cps.length<=l.aG.length+s.cps.length+k)(u:a.done.length<=l.done.length+k)(p:a.grp=l.grp)(o:a.kd=l.kd)
 (q:∀c∈cps,c∈s.cps∨(c.l<s.ls.length/\c.r<m/\c.h<n)) (f:had.length=s.had.length) (j:∀w∈had,w.length<=D+k):Bd n m (D+k) {s with ls:=s.ls.set i a,had:=had,cps:=cps}:=by
 have d:=b.lb l (aI hl);refine⟨b.gl,b.pI,b.g3,b.hm,f.trans b.hl,j,?_,λe z=>?_,?_,λc z=>?_,λg=>⟨ay (b.tb g).1 (rQ _ _),(b.tb g).2⟩⟩
 ·show (s.ls.set i a).length<=_
  rw[bg]
  have:=b.ll
  lia
 ·rcases dM z with z|rfl
  ·have h:=b.lb e z
   refine⟨?_,?_,h.2.2⟩
   ·show e.aG.length+cps.length<=_
    have:=h.1
    lia
   ·have:=h.2.1
    lia
  ·refine⟨?_,?_,p▸d.2.2.1,o▸d.2.2.2⟩
   ·show e.aG.length+cps.length<=_
    have:=d.1
    lia
   ·have:=d.2.1
    lia
 ·show cps.length<=_
  have:=b.cb
  lia
 ·show c.l<(s.ls.set i a).length/\_
  rw[bg];rcases q c z with y|y
  ·exact b.cl c y
  ·exact y
theorem Bd.asv{n m D:Nat}{s:NS}(b:Bd n m D s)(i:Nat)(d:i7):Bd n m (D+1) (cS s i d):=by
 cases h:s.ls[i]? with
 |none=>unfold cS;rw[h];exact b.mono (gD D)
 |some l =>
  rw[fK h];refine b.set 1 h (gD _) (.inl (aB _)) (aB _) ?_ (gD _) rfl rfl (λc z=>.inl z) rfl (λw z=>kj (b.hb w z));show (l.aG++[d]).length+_<=_;rw[aA];show l.aG.length+1+_<=_;lia
noncomputable def eU(s:NS)(i h:Nat)(l:LS):NS:={s with ls:=s.ls.set i {l with done:=pO l.done h}}
theorem Ua{s:NS}{i h:Nat}{l:LS}(hl:s.ls[i]?=some l):Fr s (eU s i h l):=agG hl rfl rfl rfl rfl rfl
theorem Zk{n m D:Nat}{s:NS}{i h:Nat}{l:LS}(b:Bd n m D s)(hl:s.ls[i]?=some l):Bd n m (D+1) (eU s i h l):=by
 refine b.set 1 hl (gD _) (.inl (aB _)) (aB _) (gD _) ?_ rfl rfl (λc z=>.inl z) rfl (λw z=>kj (b.hb w z));show (pO l.done h).length<=_;unfold pO;split
 ·exact gD _
 ·rw[aA];exact aB _
noncomputable def tw(s:NS)(i c:Nat):NS:={s with had:=s.had.set c (s.had.getD c []++[i])}
noncomputable def jT(i h:Nat)(s:NS)(c:Nat):NS:=cS (tw s i c) i (.hand h c)
theorem LK{s:NS}{i h c:Nat}:Fr s (jT i h s c):=Fr.trans (b:=tw s i c) ⟨rfl,rfl,rfl,rfl,rfl,λ_ l h=>⟨l,h,rfl,rfl,rfl,rfl,rfl⟩⟩ Zj
theorem Ub{n m D:Nat}{s:NS}{i h c:Nat}(b:Bd n m D s):Bd n m (D+1) (jT i h s c):=by
 have q:∀w∈(tw s i c).had,w.length<=D+1:=λw z=>by
  rcases dM z with y|rfl
  ·exact kj (b.hb w y)
  ·rw[aA]
   refine pS ?_ 1;rw[aj];cases e:s.had[c]? with
   |none=>exact be _
   |some w=>exact b.hb w (aI e)
 unfold jT;cases d:s.ls[i]? with
 |none =>
  unfold cS;rw[show (tw s i c).ls[i]?=none from d];have a:=b.mono (gD D);exact⟨a.gl,a.pI,a.g3,a.hm,by show (s.had.set _ _).length=_;rw[bg];exact a.hl,q,a.ll,a.lb,a.cb,a.cl,a.tb⟩
 |some l =>
  rw[fK (show (tw s i c).ls[i]?=some l from d)];refine b.set 1 d (gD _) (.inl (aB _)) (aB _) ?_ (gD _) rfl rfl (λc z=>.inl z) (by show (s.had.set _ _).length=_;rw[bg]) q;show (l.aG++[_]).length+s.cps.length<=_;rw[aA];show l.aG.length+1+s.cps.length<=_;lia
noncomputable def pP(ws:List (List Nat))(r k:Nat):Nat:=match ws[r]? with|some w=>w.getD (k%w.length) 0|none=>0
noncomputable def J2(rs:List R5)(r h:Nat):Nat:=match rs[r]? with|some re=>jL re h|none=>0
noncomputable def aaN(s:NS)(i:Nat):Nat:=match s.ls[i]? with|some l=>rN l|none=>0
noncomputable def nL(rs:List R5)(i h:Nat)(s:NS)(r:Nat):NS:=RE s i h r (pP s.ws r (aaN s i)) (J2 rs r h)
theorem LL{rs:List R5}{s:NS}{i h r:Nat}:Fr s (nL rs i h s r):=Fr.trans (Zj (i:=i) (d:=.send h r (pP s.ws r (aaN s i)))) ⟨rfl,rfl,rfl,rfl,rfl,λ_ l h=>⟨l,h,rfl,rfl,rfl,rfl,rfl⟩⟩
theorem Xa{ns:List Int}{rs:List R5}(o:cD ns rs){r h:Nat}(a:r<rs.length):J2 rs r h<ns.length:=by
 unfold J2;rw[aa a];have k:=o.ok _ (aD a);have c:=k.a0;have e:=k.b0;have d:=k.a1;have b:=k.b1;show jL _ _<_;unfold jL;split <;> lia
theorem Zl{ns:List Int}{rs:List R5}(o:cD ns rs){D:Nat}{s:NS}{i h r:Nat}(b:Bd ns.length rs.length D s)(a:i<s.ls.length)(d:r<rs.length):Bd ns.length rs.length (D+2) (nL rs i h s r):=by
 have e:=aa a;unfold nL RE;rw[fK e];refine b.set 2 e (by rw[aA];exact aB _) (.inr (aB _)) (!_) ?_ (rQ _ _) rfl rfl (λc z=>?_) rfl (λw z=>ay (b.hb w z) (rQ _ _))
 ·show (s.ls[i].aG++[_]).length+(s.cps++[_]).length<=_
  rw[aA,aA];show s.ls[i].aG.length+1+(s.cps.length+1)<=_;lia
 ·rcases bx.mp z with y|y
  ·exact .inl y
  ·rw[aX] at y
   subst y;exact .inr ⟨a,d,Xa o d⟩
theorem Bg{f:NS->Nat->NS}(h:∀s x,Fr s (f s x)):∀(xs:List Nat) (s:NS),Fr s (xs.foldl f s)
 |[],s=>Fr.refl s
 |x::xs,s=>(h s x).trans (Bg h xs (f s x))
theorem Eu{n m k:Nat}{f:NS->Nat->NS}(I:NS->Prop):∀(xs:List Nat) (s:NS) (D:Nat),(∀s x D,x∈xs->I s->Bd n m D s->I (f s x)/\Bd n m (D+k) (f s x))->I s->Bd n m D s->Bd n m (D+k*xs.length) (xs.foldl f s)
 |[],s,D,_,_,b=>b
 |x::xs,s,D,h,i,b=>by
  obtain⟨c,a⟩:=h s x D aL i b
  have:=Eu I xs (f s x) (D+k) (λs y D z=>h s y D (aM _ z)) c a
  refine this.mono (Nat.le_of_eq ?_);rw[bH,Nat.mul_succ];lia
theorem RG{f:NS->Nat->NS}{xs:List Nat}{s:NS}{j:Nat}(h:j<xs.length):(xs.take (j+1)).foldl f s=f ((xs.take j).foldl f s) xs[j]:=by
 rw[j3 h,List.foldl_append];rfl
noncomputable def pQ(s:NS)(l:LS)(h:Nat):List Nat:=(BE s h l.grp).filter λc=>Mn l.s l.to l.kd c
noncomputable def OL(rs:List R5)(s:NS)(l:LS)(h:Nat)(b9:Option Nat)(os:List Nat):List Nat:=(f5 (s.ts l.grp) (Ea l.to l.kd) h (b9.map λk:Nat=>(k:Int)) ((os.filter (isAt rs h)).map λk:Nat=>(k:Int)) ((BE s h l.grp).map λk:Nat=>(k:Int))).map Int.toNat
noncomputable def RH(rs:List R5)(s:NS)(i h:Nat)(l:LS)(b9:Option Nat)(os:List Nat):NS:=(OL rs s l h b9 os).foldl (nL rs i h) ((pQ s l h).foldl (jT i h) (eU s i h l))
theorem LM{ts:List T3}{b:Option Int}{d:Int}{b9:Option Int}{os c:List Int}:(∀x∈f5 ts b d b9 os c,x∈os)/\(f5 ts b d b9 os c).length<=os.length:=by
 have f:(∀x∈os.filter (uM b9),x∈os)/\(os.filter (uM b9)).length<=os.length:=⟨λx z=>(bZ.mp z).1,bD _ _⟩;unfold f5;split
 ·exact f
 ·split
  ·exact⟨λx z=>eL z (-_),be _⟩
  ·split
   ·split
    ·rename_i r _ a
     refine⟨λx z=>?_,?_⟩
     ·have:=(bZ.mp z).1
      rw[aX] at this;exact this▸a
     ·refine ay (bD _ _) ?_
      show 1<=os.length;cases os with
      |nil=>cases a
      |cons=>simp
    ·exact f
   ·exact f
theorem afg{rs:List R5}{s:NS}{l:LS}{h:Nat}{b9:Option Nat}{os:List Nat}:(f5 (s.ts l.grp) (Ea l.to l.kd) h (b9.map λk:Nat=>(k:Int)) ((os.filter (isAt rs h)).map λk:Nat=>(k:Int)) ((BE s h l.grp).map λk:Nat=>(k:Int))).map V.int=bE (OL rs s l h b9 os):=by
 unfold OL;rw[bE,bP];refine cU λx a=>?_;obtain⟨k,_,rfl⟩:=aF.mp (LM.1 x a);rfl
theorem Uc{rs:List R5}{s:NS}{l:LS}{h:Nat}{b9:Option Nat}{os:List Nat}:(∀r∈OL rs s l h b9 os,r∈os)/\(OL rs s l h b9 os).length<=os.length:=by
 unfold OL;refine⟨λr a=>?_,?_⟩
 ·obtain⟨x,c,rfl⟩:=aF.mp a
  obtain⟨k,b,rfl⟩:=aF.mp (LM.1 x c);exact (bZ.mp b).1
 ·rw[ah]
  refine ay LM.2 ?_;rw[ah];exact bD _ _
theorem OM{s:NS}{l:LS}{h:Nat}:(∀c∈pQ s l h,c<s.aN.length)/\(pQ s l h).length<=s.aN.length:=by
 unfold pQ BE;refine⟨λc z=>cT.mp (bZ.mp (bZ.mp z).1).1,?_⟩;refine ay (bD _ _) (ay (bD _ _) ?_);rw[bz];exact aB _
theorem J3{ns:List Int}{rs:List R5}{o:cD ns rs}{s:NS}{g:Nat}{os:List Nat}(O:ji (rY ns rs o s.ws g) (s.R g) os){r:Nat}(d:r∈os):r<rs.length/\∃w,s.ws[r]?=some w/\w≠[]:=by
 obtain⟨a,b,t⟩:=(O.2 r).mp d;have m:r∈YI rs s.ws g:=t.D4.1;refine⟨uO r m,?_⟩;have e:=(bZ.mp m).2;unfold isLive at e;split at e
 ·rename_i h w f c
  refine⟨w,c,λz=>?_⟩;subst z;cases e
 ·cases e
theorem adw{rs:List R5}{s:NS}{i h:Nat}{l:LS}{b9:Option Nat}{os:List Nat}(hl:s.ls[i]?=some l):Fr s (RH rs s i h l b9 os):=((Ua hl).trans (Bg (λ_ _=>LK) _ _)).trans (Bg (λ_ _=>LL) _ _)
end
section
variable{P:Program}{w:World}{K:af}{mg:Str->Option Value}{base:Heap}
theorem aiD{c:NC}{H:Hp}{a b:Addr}{l:LS}{d:Addr}(h:H a=some (rX c b l))(k:l.kd=1∨l.kd=2):Kr d c.let1 c.akl H a l.s l.to l.kd:=by
 rcases k with e|e
 ·rw[e]
  refine .one b ?_;rw[h];unfold rX;rw[b3 e]
 ·rw[e]
  refine .all b ?_;rw[h];unfold rX;rw[eH (by rw[e];decide)]
inductive agH(K:af)(CT:Addr)(c:NC)(vs:List V)(H:Hp)(Q:VK)(E:XK):Prop
 |mk (F:Addr->Prop) (p tp ln lr:Addr) (ns:List Int) (rs:List R5) (s:NS) (o:cD ns rs) (i h:Nat) (b9:Option Nat) (l:LS) (D:Nat):vs=[.ref p,.int i,.int h,Ja (b9.map λk:Nat=>(k:Int))]->NW K c CT H F p tp ln lr ns rs s->BI ns rs s->Bd ns.length rs.length D s->D<=900000->s.ls[i]?=some l->(∀os F' H',ji (rY ns rs o s.ws l.grp) (s.R l.grp) os->os.length<=12->NW K c CT H' F' p tp ln lr ns rs (RH rs s i h l b9 os)->Step H F H' F'->Q .dH H')->agH K CT c vs H Q E
theorem zT{t:Ad}(T:Txt K mg w t):bL P w K mg base fP 7 t.jO t.mO ["self","number","house","came"]  (agH K t.aP (nc t)):=by
 refine T.sE.F.gB e9 λH Q E hr h=>?_
 ·obtain⟨F,p,tp,ln,lr,ns,rs,st,o,i,f,b9,l,D,rfl,N,BD,bd,hD,S,k⟩:=h
  refine⟨_,(ao (sS 4 e9 (xL (aT (pv 0) rfl) (pv 1))) (ao (sS 5 e9 (aT (pv 4) rfl)) (ao (Yy (UK hr) (aT (pv 4) rfl) (pv 2) Qw rfl) (ao (sS 6 e9 (cG (XN T) hr T.Ra (u9 (aT (pv 0) rfl) (cM (pv 0) T.aY T.vq (xu T) hr (cX (pv 5))) (cM (pv 0) T.aY T.ni (nK T) hr (cX (pv 5))) (pv 2)))) (ao (sS 7 e9 (cM (pv 0) T.aY T.zG (Iz T) hr (jD (pv 2) (pv 5)))) (ao (sS 8 e9 (cG (XO T) hr T.Q9 (aN6 (xL (aT (pv 0) rfl) (pv 5)) (aT (pv 4) rfl) (pv 2) (pv 3) (pv 6) (pv 7)))) (ao (fS (dB (xT (pv 8) az)) (gT 9 e9) (ao (dN (jJ bJ bO bN gq (xL (aT (pv 0) rfl) (pv 9)) (cX (pv 1)))) (oE (jJ bJ bO bN gq (aT (pv 4) rfl) (cX (dG (Jc bu (pv 2) (pv 9)))))))) (bQ (fS (dB (xT (pv 8) az)) (gT 10 e9) (oE (cM (pv 0) T.aY T.M9 (V5 T) hr (Jc (pv 1) (pv 2) (pv 10))))))))))))),?_⟩
  left
  obtain⟨g,dx,q,hp,O,hF,hT⟩:=id N.b5;have X:j0 K (nc t) H F g dx q p tp ns.length st:=⟨hp,O,hF,hT⟩;have bF:=O.get .b5 _ rfl;rw[hp] at bF;have hil:=(ai.mp S).1;obtain⟨lb1,lb2,hg,lkd⟩:=bd.lb l (aI S);have RA:=O.get .cz _ rfl;have RC:=O.get (.bV i) (nG (nc t) dx g i l) (by show (st.ls[i]?.map _)=_;rw[S];rfl);have hdo:=O.get (.done i) (.dK (l.done.map λh:Nat=>(gZ (h:Int),.bl true))) (by show (st.ls[i]?.map _)=_;rw[S];rfl);refine cJ λNx U=>?_;refine⟨_,rfl,p,_,_,_,_,rfl,bF,T.aY,T.eF,rfl,_,rfl,g .cz,_,_,_,rfl,rfl,bC.of RA,pX hil,U _ _ ?_⟩;refine cJ λNx U=>?_;refine⟨_,rfl,g (.bV i),_,_,_,_,rfl,RC,T.c9,T.kL,rfl,U _ _ ?_⟩;refine cJ λNx U=>?_;refine⟨_,rfl,g (.bV i),_,_,_,_,rfl,RC,T.c9,T.qb,rfl,_,rfl,g (.done i),_,rfl,UH.k (k:=.inl (f:Int)) hdo (yX (by rw[ah];lia)),?_⟩;rw[aaM];refine U _ _ ?_;obtain⟨X1,st1⟩:=acw X S (pO l.done f);have N1:=N.done st1 X1.b5;generalize upd H (g (.done i)) (.dK ((pO l.done f).map λh:Nat=>((gZ (h:Int):Key),V.bl true)))=H1 at X1 st1 N1;have fr1:=Ua (h:=f) S;have C:=Zk (h:=f) bd S;have es1:eU st i f l={st with ls:=st.ls.set i {l with done:=pO l.done f}}:=rfl;rw[<- es1] at X1 N1;have J4:(eU st i f l).ls[i]?=some {l with done:=pO l.done f}:=by
   show (st.ls.set i _)[i]?=_;rw[iB hil,b3 rfl]
  have ets:(eU st i f l).ts=st.ts:=rfl;have ehe:BE (eU st i f l) f l.grp=BE st f l.grp:=rfl;have k1:∀os F' H',ji (rY ns rs o (eU st i f l).ws l.grp) ((eU st i f l).R l.grp) os->os.length<=12->NW K (nc t) t.aP H' F' p tp ln lr ns rs ((OL rs st l f b9 os).foldl (nL rs i f) ((pQ st l f).foldl (jT i f) (eU st i f l)))->Step H1 F H' F'->Q .dH H':=λos F' H' a b c d=>k os F' H' a b c (st1.trans d);have aaO:=fr1.ok BD;have ehd:pQ st l f=(BE (eU st i f l) f l.grp).filter λc:Nat=>Mn l.s l.to l.kd c:=rfl;have ego:∀os,OL rs st l f b9 os=(f5 ((eU st i f l).ts l.grp) (Ea l.to l.kd) f (b9.map λk:Nat=>(k:Int)) ((os.filter (isAt rs f)).map λk:Nat=>(k:Int)) ((BE (eU st i f l) f l.grp).map λk:Nat=>(k:Int))).map Int.toNat:=λos=>rfl;have hgi:∀os,(f5 ((eU st i f l).ts l.grp) (Ea l.to l.kd) f (b9.map λk:Nat=>(k:Int)) ((os.filter (isAt rs f)).map λk:Nat=>(k:Int)) ((BE (eU st i f l) f l.grp).map λk:Nat=>(k:Int))).map V.int=bE (OL rs st l f b9 os):=λos=>afg;have J:∀os,(∀r∈OL rs st l f b9 os,r∈os)/\(OL rs st l f b9 os).length<=os.length:=λos=>Uc;have Z:(∀c∈pQ st l f,c<(eU st i f l).aN.length)/\(pQ st l f).length<=(eU st i f l).aN.length:=OM;have hhi:((BE (eU st i f l) f l.grp).map λk:Nat=>(k:Int)).filter (Mn l.s l.to l.kd)=(pQ st l f).map λk:Nat=>(k:Int):=by
   rw[ehd,List.filter_map];rfl
  generalize OL rs st l f b9=W at k1 hgi J;generalize pQ st l f=v at k1 Z hhi;generalize eU st i f l=m at X1 N1 C k1 J4 aaO hgi Z hhi;have asA:=(ai.mp J4).1;have ir:=X1.own.get .b5 _ rfl;rw[X1.hp] at ir;refine cJ λNx U=>?_;refine⟨_,rfl,p,_,_,_,_,rfl,ir,T.aY,T.jy,rfl,?_⟩;refine⟨_,rfl,p,_,_,rfl,ir,rfl,_,rfl,F,p,tp,ln,lr,ns,rs,m,l.grp,rfl,N1,o,aaO,hg,λa1 H2 t2 ha1 h1=>?_⟩;refine⟨_,rfl,p,_,_,rfl,t2 _ _ ir,rfl,_,rfl,F,p,tp,ns.length,l.grp,m,rfl,(N1.mono t2).b5,hg,λa2 qs H3 t3 ha2 h2 ht=>?_⟩;refine⟨_,rfl,tp,ln,lr,a1,a2,ns,rs,_,o.nd,o.ok,uO,m.R l.grp,f,rfl,(N1.mono (t2.trans t3)).xG,bC.of (t3 _ _ h1),ht.Sn (bC.of h2),by have:=o.Lc;lia,o.LD,aaO.fit l.grp hg,λlo os H4 t4 aie hlo hO h12=>U _ _ ?_⟩;have t14:=t2.trans (t3.trans t4);refine cJ λNx U=>?_;refine⟨_,rfl,p,_,_,rfl,t14 _ _ ir,rfl,_,rfl,_,rfl,F,p,tp,ns.length,f,l.grp,m,rfl,(N1.mono t14).b5,C.gl,C.pI,λlh H5 t5 aod hlh=>U _ _ ?_⟩;have t15:=t14.trans t5;have X5:=X1.mono t15;have aiE:=t5 _ _ hlo;have ak8:=X5.own.get (.bV i) (nG (nc t) dx g i {l with done:=pO l.done f}) (by show (m.ls[i]?.map _)=_;rw[J4];rfl);have ak9:=X5.own.get (.letter i) (rX (nc t) (dx (.letter i)) {l with done:=pO l.done f}) (by show (m.ls[i]?.map _)=_;rw[J4];rfl);rw[fV] at aiE hlh;refine cJ λNx U=>?_;refine⟨_,rfl,p,_,_,_,_,rfl,t15 _ _ ir,T.aY,T.xo,rfl,_,rfl,g .jZ,_,_,_,rfl,rfl,bC.of (X5.own.get .jZ _ rfl),pX hg,_,rfl,g (.bV i),_,_,_,_,rfl,ak8,T.c9,T.iC,rfl,_,rfl,_,rfl,_,rfl,_,rfl,g (.book l.grp),g (.fQ l.grp),g (.letter i),lo,lh,m.ts l.grp,l.s,l.to,l.kd,f,b9.map λk:Nat=>(k:Int),_,_,rfl,X5.own.Xk hg,aiD ak9 lkd,bC.of aiE,bC.of hlh,?_,?_,λtq b1 b2 H6 t6 aog aoh aoi asB htq hb1 hb2=>U _ _ ?_⟩
  ·rw[ah]
   have:=bD (isAt rs f) os
   lia
  ·rw[ah]
   unfold BE
   have:=bD (OI m f l.grp) (au m.aN.length)
   rw[bz] at this
   have:=C.pI
   lia
  rw[hhi,<- fV] at hb1;rw[hgi os] at hb2;have J:=J os;have k1:=k1 os;generalize W os=W at hb2 J k1;have t16:=t15.trans t6;have X6:=X1.mono t16;have nF:∀{b},H5 b=none->¬F b:=λ{b} e z=>by
   obtain⟨u,e'⟩:=X5.b5.there z;rw[e] at e';cases e'
  have nq:=nF aog;have n1:=nF aoh;have n2:=nF aoi;have ala:Step H1 F H6 F:=Step.refl' t16;refine cJ λNx U=>?_;refine⟨_,rfl,tq,_,0,_,rfl,rfl,cR.of htq,rfl,b1,rfl,⟨_,bC.of hb1⟩,IZ (K:=K) (a:=b1) (xs:=bE v) (λj σ H7=>∃(q7:TQ) (v9:Option V),j0 K (nc t) H7 F g dx q7 p tp ns.length ((v.take j).foldl (jT i f) m)/\Step H6 F H7 F/\σ=[some (.ref p),some (.int i),some (.int f),some (Ja (b9.map λk:Nat=>(k:Int))),some (.ref (g (.bV i))),some (.int l.grp),some (.ref lo),some (.ref lh),some (.ref tq),v9,none]) ⟨q,none,X6,Step.refl' (aC.refl _),rfl⟩ (λj σ H7 _ z=>?_) ?_ ?_⟩
  ·obtain⟨q7,v9,X7,B,rfl⟩:=z
   exact bC.of (B.kp _ _ hb1 n1)
  ·rintro j y σ H7 Nf T8 hj ⟨q7,v9,X7,B,rfl⟩
   have L:j<v.length:=by
    have:=(ai.mp hj).1
    rw[ah] at this;exact this
   rw[ak,aa L] at hj;cases hj;rw[RG L] at T8;have b7:Bd ns.length rs.length (D+1+1*(v.take j).length) ((v.take j).foldl (jT i f) m):=Eu (λ_=>True) _ _ _ (λs x D _ _ b=>⟨trivial,Ub b⟩) trivial C;have f7:Fr m ((v.take j).foldl (jT i f) m):=Bg (λ_ _=>LK) _ _;have hjt:(v.take j).length<=20:=by
    rw[bU]
    have:=Z.2
    have:=C.pI
    lia
   obtain⟨l7,M,_⟩:=f7.lt i _ J4;have G:v[j]<((v.take j).foldl (jT i f) m).had.length:=by
    rw[b7.hl,f7.aN];exact Z.1 _ (aD L)
   generalize (v.take j).foldl (jT i f) m=I at X7 b7 M G T8;show gp 9 (V.int ((v[j]:Nat):Int)) _ _ _;generalize v[j]=c at G T8;have agJ:=X7.own.get .b5 _ rfl;rw[X7.hp] at agJ;have hhc:=X7.own.get (.handed c) (.lst (bE I.had[c])) (by show (I.had[c]?.map _)=_;rw[aa G];rfl);have hwl:=b7.hb _ (aD G);have hdl:=(b7.lb l7 (aI M)).1;refine⟨_,rfl,p,_,_,_,_,rfl,agJ,T.aY,T.AK,rfl,_,rfl,g .iG,_,_,_,rfl,rfl,bC.of (X7.own.get .iG _ rfl),pX G,.inl ⟨rfl,_,bC.of hhc⟩,_,rfl,g (.handed c),_,_,rfl,rfl,hhc,yX (by rw[ah];lia),?_⟩;obtain⟨X8,A⟩:=acz X7 G (I.had[c]++[i]);rw[jn] at X8 A;generalize upd H7 (g (.handed c)) (.lst (bE I.had[c]++[V.int i]))=H8 at X8 A;have es:{I with had:=I.had.set c (I.had[c]++[i])}=tw I i c:=by
    unfold tw;rw[aj,aa G];rfl
   rw[es] at X8;have n:(tw I i c).ls[i]?=some l7:=M;have aoj:=X8.own.get (.bV i) (nG (nc t) dx g i l7) (by show ((tw I i c).ls[i]?.map _)=_;rw[n];rfl);have alb:=X8.own.get (.aG i) (.lst ((q7.dq i).map V.ref)) (by show ((tw I i c).ls[i]?.map _)=_;rw[n];rfl);have Uq:=(X8.tup.aG i _ n).len;rw[ah] at Uq;refine⟨_,rfl,g (.bV i),_,_,_,_,rfl,aoj,T.c9,T.ie,rfl,.inl ⟨rfl,_,bC.of alb⟩,_,rfl,_,rfl,ur,λz1 hz1=>?_⟩;have u1:=aC.new (o:=.tup [V.str "hand",V.int f,V.int c]) hz1;refine⟨g (.aG i),_,_,rfl,rfl,u1 _ _ alb,yX (by rw[ah,Uq];lia),?_⟩;obtain⟨X9,st9⟩:=Ce (X8.mono u1) n (d:=.hand f c) (cR.of aq);rw[<- fK n] at X9;exact T8 _ _ ⟨_,_,X9,(B.trans A).trans ((Step.refl' (F:=F) u1).trans st9),rfl⟩
  ·rintro σ H7 ⟨q7,v9,X7,B,rfl⟩
   refine U _ _ ?_;rw[ah,jB] at X7;have b7:Bd ns.length rs.length (D+1+1*v.length) (v.foldl (jT i f) m):=Eu (λ_=>True) _ _ _ (λs x D _ _ b=>⟨trivial,Ub b⟩) trivial C;have f7:Fr m (v.foldl (jT i f) m):=Bg (λ_ _=>LK) _ _;have hjt:v.length<=20:=by
    have:=Z.2
    have:=C.pI
    lia
   have N7:=N1.done (ala.trans B) X7.b5;obtain⟨l7,M,_⟩:=f7.lt i _ J4;have alc:=f7.ok aaO;have hO7:ji (rY ns rs o (v.foldl (jT i f) m).ws l.grp) ((v.foldl (jT i f) m).R l.grp) os:=by rw[f7.ws,f7.R];exact hO
   generalize v.foldl (jT i f) m=I at X7 b7 M N7 k1 alc hO7;refine⟨_,rfl,tq,_,1,_,rfl,rfl,cR.of (B.kp _ _ htq nq),rfl,b2,rfl,⟨_,bC.of (B.kp _ _ hb2 n2)⟩,IZ (K:=K) (a:=b2) (xs:=bE W) (λj σ H8=>∃(F8:Addr->Prop) (v10:Option V),NW K (nc t) t.aP H8 F8 p tp ln lr ns rs ((W.take j).foldl (nL rs i f) I)/\Step H6 F H8 F8/\σ=[some (.ref p),some (.int i),some (.int f),some (Ja (b9.map λk:Nat=>(k:Int))),some (.ref (g (.bV i))),some (.int l.grp),some (.ref lo),some (.ref lh),some (.ref tq),v9,v10]) ⟨F,none,N7,B,rfl⟩ (λj σ H8 _ z=>?_) ?_ ?_⟩
   ·obtain⟨F8,v10,N8,A,rfl⟩:=z
    exact bC.of (A.kp _ _ hb2 n2)
   ·rintro j y σ H8 Nf T8 hj ⟨F8,v10,N8,A,rfl⟩
    have L:j<W.length:=by
     have:=(ai.mp hj).1
     rw[ah] at this;exact this
    rw[ak,aa L] at hj;cases hj;rw[RG L] at T8;have hgl:∀r∈W,r<rs.length:=λr hr=>(J3 hO7 (J.1 r hr)).1;have f8:Fr I ((W.take j).foldl (nL rs i f) I):=Bg (λ_ _=>LL) _ _;have b8:Bd ns.length rs.length (D+1+1*v.length+2*(W.take j).length) ((W.take j).foldl (nL rs i f) I):=Eu (λs=>i<s.ls.length) _ _ _ (λs x D hx hi b=>⟨by
     obtain⟨l',e,_⟩:=(LL (rs:=rs) (h:=f) (i:=i) (r:=x) (s:=s)).lt i _ (aa hi);exact (ai.mp e).1,Zl o b hi (hgl x (List.mem_of_mem_take hx))⟩) (ai.mp M).1 b7
    have asD:(W.take j).length<=12:=by
     rw[bU]
     have:=J.2
     lia
    obtain⟨hrl,Y,hw,hwn⟩:=J3 hO7 (J.1 _ (aD L));rw[<- f8.ws] at hw;obtain⟨l8,n,_⟩:=f8.lt i _ M;have ald:=f8.ok alc;generalize (W.take j).foldl (nL rs i f) I=s8 at N8 b8 n hw ald T8;show gp 10 (V.int ((W[j]:Nat):Int)) _ _ _;generalize W[j]=r at hrl hw T8;obtain⟨asE,dx8,q8,hp8,O8,hF8,hT8⟩:=id N8.b5;have agK:=O8.get .b5 _ rfl;rw[hp8] at agK;have hdl:=(b8.lb l8 (aI n)).1;have G:=b8.cb;have hwl:rN l8%Y.length<Y.length:=Nat.mod_lt _ (gE.mpr hwn);have hwx:Y[(((rN l8:Nat):Int)%(Y.length:Int)).toNat]?=some Y[rN l8%Y.length]:=by
     rw[show (((rN l8:Nat):Int)%(Y.length:Int))=((rN l8%Y.length:Nat):Int) from rfl,ko];exact aa hwl
    have hre:=aa hrl;refine⟨_,rfl,p,_,_,rfl,agK,rfl,_,rfl,_,rfl,_,rfl,F8,p,tp,ln,lr,ns,rs,s8,i,f,r,l8,rs[r],Y,_,rfl,N8,o,ald,n,∅,∅,hre,hw,hwx,hwn,λF9 H9 N9 st9=>?_⟩;refine T8 _ _ ⟨F9,_,?_,A.trans st9,rfl⟩;have e1:pP s8.ws r (aaN s8 i)=Y[rN l8%Y.length]:=by
     unfold pP aaN;rw[hw,n];show Y.getD (rN l8%Y.length) 0=_;rw[aj,aa hwl];rfl
    have e2:J2 rs r f=jL rs[r] f:=by
     unfold J2;rw[hre]
    unfold nL;rw[e1,e2];exact N9
   ·rintro σ H8 ⟨F8,v10,N8,A,rfl⟩
    rw[ah,jB] at N8;exact k1 F8 H8 hO h12 N8 (ala.trans A)
theorem aiF{a b:TS}{D:Ends}{c:L2.St}{H:Hp}(J:L2.St->Hp->Prop)(d:∀c H,J c H->b D c H)(h:∀N:L2.St->Hp->Prop,(∀c H,J c H->N c H)->a {D with nx:=N} c H):aeb a b D c H:=h _ d
inductive Zm(C:Addr)(vs:List V)(H:Hp)(Q:VK)(E:XK):Prop
 |mk (p dx la:Addr) (g:Int):vs=[.ref p,.ref la,.int g]->H p=some (.ins C dx [])->(∀da ea H',H da=none->H ea=none->da≠ea->H' p=some (.ins C dx [("letter",.ref la),("group",.int g),("old",.bl false),("done_at",.ref da),("deeds",.ref ea)])->H' da=some (.dK [])->H' ea=some (.lst [])->(∀b o,H b=some o->b≠p->H' b=some o)->Q .dH H')->Zm C vs H Q E
theorem J5{t:Ad}(T:Txt K mg w t):bL P w K mg base fP 1 t.jN t.mL ["self","letter","group"]  (Zm t.jR):=by
 refine T.Bp.F.gB Jq λH Q E u h=>?_
 ·obtain⟨p,j,s,g,rfl,r,k⟩:=h
  refine⟨_,(ao (fU (pv 0) (pv 1) rfl) (ao (fU (pv 0) (pv 2) rfl) (ao (fU (pv 0) Qw rfl) (ao (fU (pv 0) abP rfl) (bQ (fU (pv 0) (dY fF) rfl)))))),?_⟩
  left
  refine⟨_,rfl,_,rfl,p,_,j,_,rfl,r,T.c9,T.iC,(!_),?_⟩;rw[dS (names:=[]) rfl rfl];refine⟨_,rfl,_,rfl,p,_,j,_,rfl,aq,T.c9,T.kL,(by show 1<1000;decide),?_⟩;rw[dS (names:=["letter"]) rfl (by decide +kernel),RU];refine⟨_,rfl,p,_,j,_,rfl,aq,T.c9,T.AJ,(by show 2<1000;decide),?_⟩;rw[dS (names:=["letter","group"]) rfl (by decide +kernel),RU];intro i c;have d:H i=none:=by
   by_cases z:i=p
   ·subst z;rw[aq] at c;cases c
   ·rw[aK z] at c;exact c
  have n:p≠i:=aJ r d;refine⟨_,rfl,p,_,j,_,rfl,(by rw[aK n];exact aq),T.c9,T.qb,(by show 3<1000;decide),?_⟩;rw[dS (names:=["letter","group","old"]) rfl (by decide +kernel)];refine⟨be _,λm a=>?_⟩;have l:m≠p:=λz=>by subst z;rw[aq] at a;cases a
  rw[aK l] at a;have f:i≠m:=λz=>by subst z;rw[aq] at a;cases a
  rw[aK (cu f),aK l] at a;refine⟨_,rfl,p,_,j,_,rfl,(by rw[aK (cu l)];exact aq),T.c9,T.ie,(by show 4<1000;decide),?_⟩;rw[dS (names:=["letter","group","old","done_at"]) rfl (by decide +kernel)];refine k i m _ d a f aq ?_ ?_ λb o e q=>?_
  ·rw[aK (cu n),aK f,aK (cu n)];exact aq
  ·rw[aK l];exact aq
  ·rw[aK q,aK (aJ e a),aK q,aK (aJ e d),aK q];exact e
noncomputable def pB(s:NS)(x:Nat)(to:Option Nat):LS:={s:=x,to:=to.getD 0,kd:=if to.isSome=true then 1 else 2,grp:=s.groups.getD x 0,old:=false,done:=[],aG:=[]}
noncomputable def RI(s:NS)(l:LS):NS:={s with ls:=s.ls++[l]}
noncomputable def tH(s:NS)(x:Nat)(to:Option Nat):NS:={s with ls:=s.ls++[{pB s x to with aG:=[.post (s.aN.getD x 0)]}]}
noncomputable def zU(rs:List R5)(s:NS)(x:Nat)(to:Option Nat)(os:List Nat):NS:=RH rs (tH s x to) s.ls.length (s.aN.getD x 0) {pB s x to with aG:=[.post (s.aN.getD x 0)]} none os
theorem aaQ{s:NS}{x:Nat}{to:Option Nat}:cS (RI s (pB s x to)) s.ls.length (.post (s.aN.getD x 0))=tH s x to:=by
 rw[fK (l:=pB s x to) (by show (s.ls++[_])[s.ls.length]?=_;rw[bW (aB _),lA];rfl)];show {s with ls:=(s.ls++[_]).set s.ls.length _}={s with ls:=_};congr 1;rw[List.set_append_right _ _ (aB _),lA];rfl
theorem uh{s:NS}{l:LS}:(s.ls++[l])[s.ls.length]?=some l:=by rw[bW (aB _),lA];rfl
theorem Zn{n m D:Nat}{s:NS}{x:Nat}{to:Option Nat}(b:Bd n m D s)(e:x<s.aN.length):Bd n m (D+1) (tH s x to):=by
 have a:=b.mono (gD D);refine⟨a.gl,a.pI,a.g3,a.hm,a.hl,a.hb,?_,λl z=>?_,a.cb,λc z=>?_,a.tb⟩
 ·show (s.ls++[_]).length<=_
  rw[aA];exact pS b.ll 1
 ·rcases bx.mp z with y|y
  ·exact a.lb l y
  ·rw[aX] at y
   subst y;refine⟨?_,be _,?_,?_⟩
   ·show 1+s.cps.length<=D+1
    have:=b.cb
    lia
   ·show s.groups.getD x 0<3
    have d:x<s.groups.length:=by rw[b.gl];exact e
    rw[aj,aa d];exact b.g3 _ (aD d)
   ·show (if _ then (1:Int) else 2)=1∨(if _ then (1:Int) else 2)=2
    split
    ·exact .inl rfl
    ·exact .inr rfl
 ·obtain⟨f,g⟩:=b.cl c z
  refine⟨?_,g⟩;show c.l<(s.ls++[_]).length;rw[aA];exact bK f (rQ _ _)
inductive Zo(K:af)(CT:Addr)(c:NC)(vs:List V)(H:Hp)(Q:VK)(E:XK):Prop
 |mk (F:Addr->Prop) (p tp ln lr:Addr) (ns:List Int) (rs:List R5) (s:NS) (o:cD ns rs) (x:Nat) (to:Option Nat) (D:Nat):vs=[.ref p,.int x,Ja (to.map λy:Nat=>(y:Int))]->NW K c CT H F p tp ln lr ns rs s->BI ns rs s->Bd ns.length rs.length D s->D<=800000->x<s.aN.length->(∀y,to=some y->y<s.aN.length/\s.groups[y]?=s.groups[x]?)->(∀os F' H',ji (rY ns rs o s.ws (s.groups.getD x 0)) (s.R (s.groups.getD x 0)) os->os.length<=12->NW K c CT H' F' p tp ln lr ns rs (zU rs s x to os)->Step H F H' F'->Q (.int s.ls.length) H')->Zo K CT c vs H Q E
theorem DS{t:Ad}(T:Txt K mg w t):bL P w K mg base fP 8 t.jw t.AE ["self","sender","to"]  (Zo K t.aP (nc t)):=by
 refine T.vv.gB wN λH Q E hr h=>?_
 ·obtain⟨F,p,tp,ln,lr,ns,rs,st,o,x,f,D,rfl,N,BD,bd,hD,hx,hto,k⟩:=h
  refine⟨_,(ao (dN (cM (pv 0) T.aY T.zH (Iw T) hr (jD (pv 1) (pv 2)))) (ao (sS 3 wN (jI (qT R1 (pv 2) lF) (Yq T.aeR (zP T) (hr.mono (!_)) rfl T.aeQ T.sD.B .nil iz (cX (pv 1))) (cI T.CY (Lu T) hr T.aeP (jD (pv 1) (pv 2))))) (ao (sS 4 wN (lS T.fR (aT (pv 0) rfl))) (ao (dN (jJ bJ bO bN gq (aT (pv 0) rfl) (cX (cI T.Bp (J5 T) hr T.acK (jD (pv 3) (xL (aT (pv 0) rfl) (pv 1))))))) (ao (sS 5 wN (xL (aT (pv 0) rfl) (pv 1))) (ao (dN (jJ bJ bO bN gq (aT (xL (aT (pv 0) rfl) (pv 4)) rfl) (cX (dG (jD bu (pv 5)))))) (ao (dN (cM (pv 0) T.aY T.sE (zT T) hr (Jc (pv 4) (pv 5) lF))) (oR (pv 4))))))))),?_⟩
  left
  obtain⟨m,dx,q,hp,O,hF,hT⟩:=id N.b5;have bF:=O.get .b5 _ rfl;rw[hp] at bF;have hxg:x<st.groups.length:=by rw[bd.gl];exact hx
  refine cJ λNx j=>?_;refine⟨_,rfl,p,_,_,rfl,bF,rfl,_,rfl,_,rfl,F,p,tp,ns.length,x,f,st,rfl,N.b5,hx,bd.gl,hto,j _ _ ?_⟩;refine aiF (λσ r=>∃la Ss,aC H r/\H la=none/\r la=some (rX (nc t) Ss (pB st x f))/\σ=[some (.ref p),some (.int x),some (Ja (f.map λy:Nat=>(y:Int))),some (.ref la),none,none]) ?_ (λN hN=>?_)
  rotate_left
  ·cases f with
   |none =>
    refine⟨_,rfl,rfl,_,rfl,dZ ?_⟩;refine⟨_,rfl,λz dz Z W X=>⟨z,_,dz,x,rfl,aq,T.AI,T.o4,rfl,?_⟩⟩;exact hN _ _ ⟨z,dz,made Z W X,Z,aq,rfl⟩
   |some y =>
    refine⟨_,rfl,rfl,_,rfl,dO ?_⟩;refine⟨_,rfl,_,rfl,λz dz Z W X=>⟨z,dz,x,y,rfl,aq,λH3 hy3 kp=>⟨rfl,?_⟩⟩⟩;exact hN _ _ ⟨z,dz,λb u e=>kp b u (((aC.new W).trans (aC.new (by rw[aK (cu X)];exact Z))) b u e) (aJ e Z),Z,hy3,rfl⟩
  rintro σ r ⟨la,Ss,s,aiH,hla,rfl⟩;have ir:=s _ _ bF;have N1:=N.mono s;obtain⟨O1,T1⟩:=And.intro (O.mono s) (hT.mono λb x=>s.cV (a:=b) (xs:=x));have A:=O1.get .cz _ rfl;refine cJ λNx j=>?_;refine⟨_,rfl,p,_,_,_,_,rfl,ir,T.aY,T.eF,rfl,m .cz,_,rfl,.inl (bC.of A),?_⟩;rw[ah,bz];refine j _ _ ?_;refine cJ λNx j=>?_;refine⟨_,rfl,p,_,_,_,_,rfl,ir,T.aY,T.eF,rfl,.inl ⟨rfl,_,bC.of A⟩,_,rfl,_,rfl,p,_,_,_,_,rfl,ir,T.aY,T.k8,rfl,_,rfl,m .groups,_,_,_,rfl,rfl,bC.of (O1.get .groups _ rfl),rA hxg,λpa EL c G U=>⟨pa,EL,la,_,rfl,aq,λda ea H2 C J nde h2p h2d h2e kp2=>⟨rfl,?_⟩⟩⟩;have n:aC r H2:=λb u e=>kp2 b u (((aC.new G).trans (aC.new (by rw[aK (cu U)];exact c))) b u e) (aJ e c);have v:r da=none:=by
   cases e:r da with
   |none=>rfl
   |some u =>
    have:=((aC.new (o:=.own pa) G).trans (aC.new (o:=.ins t.jR EL []) (by rw[aK (cu U)];exact c))) _ _ e
    rw[C] at this;cases this
  have I:r ea=none:=by
   cases e:r ea with
   |none=>rfl
   |some u =>
    have:=((aC.new (o:=.own pa) G).trans (aC.new (o:=.ins t.jR EL []) (by rw[aK (cu U)];exact c))) _ _ e
    rw[J] at this;cases this
  have nF:∀{b},r b=none->¬F b:=λ{b} e z=>by
   obtain⟨u,e'⟩:=N1.b5.there z;rw[e] at e';cases e'
  have nFl:¬F la:=λz=>by
   obtain⟨u,e'⟩:=N.b5.there z;rw[aiH] at e';cases e'
  have npd:pa≠da:=λz=>by rw[<- z,aq] at C;cases C
  have npe:pa≠ea:=λz=>by rw[<- z,aq] at J;cases J
  have L:∀{b},r b=none->la≠b:=λ{b} e=>aJ hla e;have eg:st.groups.getD x 0=st.groups[x]:=by rw[aj,aa hxg];rfl
  have ale:=n _ _ A;refine⟨m .cz,_,_,rfl,rfl,ale,yX (by rw[ah,bz];have:=bd.ll;lia),?_⟩;obtain⟨F3,N3,kp3,fr3⟩:=acA (l:=pB st x f) (EL:=EL) (Ss:=Ss) (pa:=pa) (la:=la) (da:=da) (ea:=ea) hp (O1.mono n) hF (T1.mono λb x=>n.cV (a:=b) (xs:=x)) rfl (by show _=some (HO.ins _ _ [_,(_,V.int ((st.groups.getD x 0:Nat):Int)),_,_,_]);rw[eg];exact h2p) (n _ _ hla) h2d h2e (cu (L c)) npd npe (L v) (L I) nde (nF c) nFl (nF v) (nF I);have R:Step H F _ F3:=⟨λb u e z=>kp3 b u (n _ _ (s _ _ e)) z,λb z=>by
   rcases fr3 b z with y|rfl|rfl|rfl|rfl
   ·exact .inl y
   ·exact .inr (s.free c)
   ·exact .inr aiH
   ·exact .inr (s.free v)
   ·exact .inr (s.free I)⟩
  have W3:=N.done R N3;generalize upd H2 (m .cz) (.lst (((au st.ls.length).map λi=>V.ref (m (.bV i)))++[.ref pa]))=H3 at R W3 N3;refine j _ _ ?_;obtain⟨M,dx3,q3,hp3,Y,hF3,hT3⟩:=id W3.b5;have X3:j0 K (nc t) H3 F3 M dx3 q3 p tp ns.length (RI st (pB st x f)):=⟨hp3,Y,hF3,hT3⟩;have IA:=Y.get .b5 _ rfl;rw[hp3] at IA;have g:(RI st (pB st x f)).ls[st.ls.length]?=some (pB st x f):=uh;have afl:st.ls.length<(RI st (pB st x f)).ls.length:=(ai.mp g).1;have eh:st.aN.getD x 0=st.aN[x]:=by rw[aj,aa hx];rfl
  refine cJ λNx j=>?_;refine⟨_,rfl,p,_,_,_,_,rfl,IA,T.aY,T.kP,rfl,_,rfl,M .aN,_,_,_,rfl,rfl,bC.of (Y.get .aN _ rfl),rA hx,j _ _ ?_⟩;have adx:=Y.get (.bV st.ls.length) (nG (nc t) dx3 M st.ls.length (pB st x f)) (by show ((RI st (pB st x f)).ls[st.ls.length]?.map _)=_;rw[g];rfl);have alf:=Y.get (.aG st.ls.length) (.lst ((q3.dq st.ls.length).map V.ref)) (by show ((RI st (pB st x f)).ls[st.ls.length]?.map _)=_;rw[g];rfl);have Uq:=(X3.tup.aG _ _ g).len;rw[ah] at Uq;refine cJ λNx j=>?_;refine⟨_,rfl,p,_,_,_,_,rfl,IA,T.aY,T.eF,rfl,_,rfl,M .cz,_,_,_,rfl,rfl,bC.of (Y.get .cz _ rfl),pX afl,M (.bV st.ls.length),_,_,_,_,rfl,adx,T.c9,T.ie,rfl,.inl ⟨rfl,_,bC.of alf⟩,_,rfl,ff,λz1 hz1=>?_⟩;have u1:=aC.new (o:=.tup [V.str "post",V.int (st.aN[x]:Nat)]) hz1;refine⟨M (.aG st.ls.length),_,_,rfl,rfl,u1 _ _ alf,yX (by rw[ah,Uq];exact be _),?_⟩;obtain⟨X4,EA⟩:=Ce (X3.mono u1) g (d:=.post st.aN[x]) (cR.of aq);rw[<- fK g,<- eh,aaQ] at X4;rw[<- eh] at EA u1;rw[<- eh];have S:=R.trans ((Step.refl' (F:=F3) u1).trans EA);have W4:=N.done S X4.b5;generalize upd (upd H3 z1 (.tup [V.str "post",V.int (st.aN.getD x 0:Nat)])) (M (.aG st.ls.length)) (.lst ((q3.dq st.ls.length).map V.ref++[.ref z1]))=H4 at X4 S W4;refine j _ _ ?_;have DR:=X4.own.get .b5 _ rfl;rw[X4.hp] at DR;have aiJ:BI ns rs (tH st x f):=⟨BD.wl,BD.w4,BD.fit⟩;refine cJ λNx j=>?_;refine⟨_,rfl,p,_,_,rfl,DR,rfl,_,rfl,_,rfl,F3,p,tp,ln,lr,ns,rs,tH st x f,o,st.ls.length,st.aN.getD x 0,none,{pB st x f with aG:=[.post (st.aN.getD x 0)]},D+1,rfl,W4,aiJ,Zn bd hx,∅,uh,λos F5 H5 hO h12 W5 Qy=>?_⟩;exact j _ _ ⟨_,rfl,k os F5 H5 hO h12 W5 (S.trans Qy)⟩
theorem agL{ns:List Int}{rs:List R5}(o:cD ns rs){D:Nat}{s:NS}{i h:Nat}{l:LS}{b9:Option Nat}{os:List Nat}(b:Bd ns.length rs.length D s)(hl:s.ls[i]?=some l)(O:ji (rY ns rs o s.ws l.grp) (s.R l.grp) os)(n:os.length<=12):Bd ns.length rs.length (D+45) (RH rs s i h l b9 os):=by
 have g:=Zk (h:=h) b hl;have f1:=Ua (h:=h) hl;have j:Bd ns.length rs.length (D+1+1*(pQ s l h).length) ((pQ s l h).foldl (jT i h) (eU s i h l)):=Eu (λ_=>True) _ _ _ (λs x D _ _ b=>⟨trivial,Ub b⟩) trivial g;have m:Fr (eU s i h l) ((pQ s l h).foldl (jT i h) (eU s i h l)):=Bg (λ_ _=>LK) _ _;obtain⟨v,a,_⟩:=(f1.trans m).lt i l hl;have t:=(OM (s:=s) (l:=l) (h:=h)).2;have w:=b.pI;have c:=Uc (rs:=rs) (s:=s) (l:=l) (h:=h) (b9:=b9) (os:=os);have y:=c.2;have q:=Eu (k:=2) (f:=nL rs i h) (λs=>i<s.ls.length) (OL rs s l h b9 os) _ _ (λs x D p d b=>⟨by
  obtain⟨u,e,_⟩:=(LL (rs:=rs) (h:=h) (i:=i) (r:=x) (s:=s)).lt i _ (aa d);exact (ai.mp e).1,Zl o b d (J3 O (c.1 x p)).1⟩) (ai.mp a).1 j
 exact q.mono ∅
noncomputable def DT(l:LS)(cp:Cp)(os:List Nat):Str:=if cp.r∈os then (if IB l cp.h=true then "twice" else "come") else "lost"
noncomputable def pC(l:LS)(cp:Cp)(os:List Nat):i7:=if cp.r∈os then (if IB l cp.h=true then .twice cp.h cp.r else .aeH cp.h cp.r) else .Xi cp.h cp.r
theorem afm{l:LS}{cp:Cp}{os:List Nat}:(pC l cp os).vs=[.str (DT l cp os),.int cp.h,.int cp.r]:=by
 unfold pC DT;split
 ·split <;> rfl
 ·rfl
noncomputable def comes(l:LS)(cp:Cp)(os:List Nat):Bool:=decide (cp.r∈os)&&!IB l cp.h
theorem aaR{l:LS}{cp:Cp}{os:List Nat}:decide (V.str (DT l cp os)=V.str "come")=comes l cp os:=by
 unfold DT comes;by_cases e:cp.r∈os
 ·rw[b3 e,eO e]
  cases IB l cp.h
  ·rw[eH (!_)];decide +kernel
  ·rw[b3 rfl];decide +kernel
 ·rw[eH e,e8 e,Bool.false_and];decide +kernel
noncomputable def V6(s:NS)(a:Nat):NS:={s with cps:=s.cps.eraseIdx a}
noncomputable def V7(s:NS)(g:Nat)(ts:List T3):NS:={s with ts:=eN s.ts g ts}
noncomputable def lz(s:NS)(a:Nat)(cp:Cp)(l:LS)(os:List Nat):NS:={s with cps:=s.cps.eraseIdx a,ls:=s.ls.set cp.l {l with aG:=l.aG++[pC l cp os]}}
noncomputable def dw(s:NS)(a:Nat)(cp:Cp)(l:LS)(os:List Nat)(ts:List T3):NS:=if l.old=true then lz s a cp l os else V7 (lz s a cp l os) l.grp ts
noncomputable def kR(rs:List R5)(s:NS)(a:Nat)(cp:Cp)(l:LS)(os:List Nat)(ts:List T3):NS :=
 if comes l cp os=true then RH rs (dw s a cp l os ts) cp.l cp.h {l with aG:=l.aG++[pC l cp os]} (some cp.r) os else lz s a cp l os
theorem J6{n m D:Nat}{s:NS}{a:Nat}{cp:Cp}{l:LS}{os:List Nat}(b:Bd n m D s)(hl:s.ls[cp.l]?=some l)(d:a<s.cps.length):Bd n m (D+1) (lz s a cp l os):=by
 have e:(s.cps.eraseIdx a).length+1=s.cps.length:=by
  rw[List.length_eraseIdx,b3 d];lia
 refine b.set 1 hl ∅ (.inl ∅) (aB _) ?_ (gD _) rfl rfl (λc z=>.inl (List.mem_of_mem_eraseIdx z)) rfl (λw z=>kj (b.hb w z));show (l.aG++[_]).length+_<=_;rw[aA];show l.aG.length+1+_<=_;lia
theorem ady{ts a:List T3}{h c r:Int}(p:a.Perm (put3 ts h c r)):a.length<=ts.length+1:=by
 rw[p.length_eq];unfold put3;rw[aA];exact pS (bD _ _) 1
theorem afn{n m D:Nat}{s:NS}{g:Nat}{ts:List T3}{h c r:Int}(b:Bd n m D s)(p:ts.Perm (put3 (s.ts g) h c r))(e:c5 ts):Bd n m (D+50) (V7 s g ts):=by
 have a:=b.mono (rQ D 50);refine⟨a.gl,a.pI,a.g3,a.hm,a.hl,a.hb,a.ll,a.lb,a.cb,a.cl,λd=>?_⟩;show 50*(eN s.ts g ts d).length<=_/\c5 (eN s.ts g ts d);by_cases z:d=g
 ·subst z
  rw[c6];refine⟨?_,e⟩
  have:=ady p
  have:=(b.tb d).1
  lia
 ·rw[f6 z]
  exact a.tb d
theorem J7{s:NS}{a:Nat}{cp:Cp}{l:LS}{os:List Nat}(hl:s.ls[cp.l]?=some l):(lz s a cp l os).ls[cp.l]?=some {l with aG:=l.aG++[pC l cp os]}:=by
 show (s.ls.set cp.l _)[cp.l]?=_;rw[iB (ai.mp hl).1,b3 rfl]
theorem rO{s:NS}{a:Nat}{cp:Cp}{l:LS}{os:List Nat}{ts:List T3}(hl:s.ls[cp.l]?=some l):(dw s a cp l os ts).ls[cp.l]?=some {l with aG:=l.aG++[pC l cp os]}:=by
 unfold dw;split
 ·exact J7 hl
 ·exact J7 (a:=a) hl
theorem IC{s:NS}{a:Nat}{cp:Cp}{l:LS}{os:List Nat}{ts:List T3}:(dw s a cp l os ts).ws=s.ws/\(dw s a cp l os ts).R=s.R/\(dw s a cp l os ts).aN=s.aN/\(dw s a cp l os ts).groups=s.groups:=by
 unfold dw;split <;> exact⟨rfl,rfl,rfl,rfl⟩
theorem V8{n m D:Nat}{s:NS}{a:Nat}{cp:Cp}{l:LS}{os:List Nat}{ts:List T3}{h c r:Int}(b:Bd n m D s)(hl:s.ls[cp.l]?=some l)(d:a<s.cps.length)(p:ts.Perm (put3 (s.ts l.grp) h c r))(e:c5 ts):Bd n m (D+51) (dw s a cp l os ts):=by
 unfold dw;split
 ·exact (J6 b hl d).mono ∅
 ·exact (afn (h:=h) (c:=c) (r:=r) (J6 b hl d) p e).mono ∅
theorem afo{ns:List Int}{rs:List R5}(o:cD ns rs){D:Nat}{s:NS}{a:Nat}{cp:Cp}{l:LS}{os:List Nat}{ts:List T3}{h c r:Int}(b:Bd ns.length rs.length D s)(hl:s.ls[cp.l]?=some l)(f:a<s.cps.length)(O:ji (rY ns rs o s.ws l.grp) (s.R l.grp) os)(d:os.length<=12)(p:ts.Perm (put3 (s.ts l.grp) h c r))(g:c5 ts):Bd ns.length rs.length (D+100) (kR rs s a cp l os ts):=by
 unfold kR;split
 ·have e:=IC (s:=s) (a:=a) (cp:=cp) (l:=l) (os:=os) (ts:=ts)
  exact (agL o (V8 (h:=h) (c:=c) (r:=r) b hl f p g) (rO hl) (by rw[e.1,e.2.1];exact O) d).mono ∅
 ·exact (J6 b hl f).mono ∅
theorem _root_.TW.dU.erase{H:Hp}{qs:List Addr}{xs:List (List V)}(h:dU K H qs xs)(a:Nat):dU K H (qs.eraseIdx a) (xs.eraseIdx a):=by
 refine⟨by rw[List.length_eraseIdx,List.length_eraseIdx,h.len],λi q x c b=>?_⟩;rw[List.getElem?_eraseIdx] at c b;by_cases z:i<a
 ·rw[b3 z] at c b
  exact h.at' i q x c b
 ·rw[eH z] at c b
  exact h.at' (i+1) q x c b
theorem J8{b c:Type}(f:b->c):∀(xs:List b) (a:Nat),(xs.map f).eraseIdx a=(xs.eraseIdx a).map f
 |[],_=>rfl
 |_::_,0=>rfl
 |x::xs,a+1=>fy (f x::·) (J8 f xs a)
theorem adz{c:NC}{H d:Hp}{F:Addr->Prop}{a j:Role->Addr}{q:TQ}{p h:Addr}{n g:Nat}{s:NS}(X:j0 K c H F a j q p h n s)(f:g<3)(ts:List T3)(v:d (a (.fQ g))=some (.dT (ts.map nD)))(w:∀b o,H b=some o->b≠a (.fQ g)->d b=some o) :
 j0 K c d F a j q p h n (V7 s g ts)/\Step H F d F:=by
 obtain⟨t,st1⟩:=Ab X (r:=.fQ g) (o:=.dT (ts.map nD)) (q':=q) (s':=V7 s g ts) (by show (if g<3 then some _ else none)≠none;rw[b3 f];exact aS _) (λx=>by
  cases x <;> first|rfl|skip
  rename_i k;show iH (desc c j h a q s) (.fQ g) _ (.fQ k)=(if k<3 then some (HO.dT ((eN s.ts g ts k).map nD)) else none);by_cases z:k=g
  ·subst z
   rw[dQ,b3 f,c6]
  ·rw[cO (λe=>z (by cases e;rfl)),f6 z]
   rfl) (λi=>⟨λg f=>(X.tup.rows g f).mono i,λk l e=>(X.tup.aG k l e).mono i,X.tup.cps.mono i⟩)
 have m:aC (upd H (a (.fQ g)) (.dT (ts.map nD))) d:=λb u e=>by
  by_cases z:b=a (.fQ g)
  ·rw[z,aq] at e
   cases e;rw[z];exact v
  ·rw[aK z] at e
   exact w b u e z
 exact⟨t.mono m,st1.trans (Step.refl' m)⟩
theorem afp{t:Ad}(T:Txt K mg w t){b a:Role->Addr}{g:L2.St}{H:Hp}{Q:VK}{i:Nat}{l:LS}(h:∀Q:VK,Q (.ref (a (.bV i))) H->IP 6 g H Q)(f:H (a (.bV i))=some (nG (nc t) b a i l))(c:H (a (.letter i))=some (rX (nc t) (b (.letter i)) l))(q:Q (.int l.s) H) :
 L0 K (L0 K (IP 6) (Str.ofString "letter")) (Str.ofString "sender") g H Q:=by
 by_cases e:l.kd=1
 ·have d:H (a (.letter i))=some (.ins t.gw (b (.letter i)) [("sender",.int l.s),("to",.int l.to)]):=by rw[c];unfold rX;rw[b3 e]
  unfold L0;exact (h _ ⟨a (.bV i),_,_,_,_,rfl,f,T.c9,T.iC,rfl,a (.letter i),_,b (.letter i),_,_,rfl,d,T.qX,T.vz,rfl,q⟩)
 ·have d:H (a (.letter i))=some (.ins t.jx (b (.letter i)) [("sender",.int l.s)]):=by rw[c];unfold rX;rw[eH e]
  unfold L0;exact (h _ ⟨a (.bV i),_,_,_,_,rfl,f,T.c9,T.iC,rfl,a (.letter i),_,b (.letter i),_,_,rfl,d,T.AI,T.o4,rfl,q⟩)
inductive Zp(K:af)(CT:Addr)(c:NC)(vs:List V)(H:Hp)(Q:VK)(E:XK):Prop
 |mk (F:Addr->Prop) (p tp ln lr:Addr) (ns:List Int) (rs:List R5) (s:NS) (o:cD ns rs) (a D:Nat) (cp:Cp) (l:LS):vs=[.ref p,.int a]->NW K c CT H F p tp ln lr ns rs s->BI ns rs s->Bd ns.length rs.length D s->D<=400000->s.cps[a]?=some cp->s.ls[cp.l]?=some l->(∀os ts F' H',ji (rY ns rs o s.ws l.grp) (s.R l.grp) os->os.length<=12->ts.Perm (put3 (s.ts l.grp) cp.h l.s cp.r)->c5 ts->NW K c CT H' F' p tp ln lr ns rs (kR rs s a cp l os ts)->Step H F H' F'->Q (.str (DT l cp os)) H')->Zp K CT c vs H Q E
theorem pD{t:Ad}(T:Txt K mg w t):bL P w K mg base fP 8 t.gf t.qS ["self","at"]  (Zp K t.aP (nc t)):=by
 refine T.mD.gB g6 λH Q E hr h=>?_
 ·obtain⟨F,p,Z,ln,lr,ns,G,st,o,a,D,cp,l,rfl,N,I,bd,hD,Y,g,k⟩:=h
  refine⟨_,(ao (b4 (kB (iZ nQ tE az (pv 1) (lS T.fR (aT (pv 0) rfl)))) cH br) (ao (sS 2 g6 (jJ bJ PySem.F.slot_list_pop PySem.F.type_list_pop abM (aT (pv 0) rfl) (cX (pv 1)))) (ao (sS 3 g6 (xT (pv 2) az)) (ao (sS 4 g6 (xT (pv 2) az)) (ao (sS 5 g6 (xT (pv 2) az)) (ao (sS 6 g6 (xL (aT (pv 0) rfl) (pv 3))) (ao (sS 7 g6 (cM (pv 0) T.aY T.EV (OJ T) hr (Jc (pv 6) (pv 4) (pv 5)))) (ao (dN (jJ bJ bO bN gq (aT (pv 6) rfl) (cX (dG (Jc (pv 7) (pv 5) (pv 4)))))) (ao (b4 (qT lD (pv 7) bu) (ao (b4 (kB (mW (aT (pv 6) rfl))) (oE (cM (xL (aT (pv 0) rfl) (aT (pv 6) rfl)) T.Gy T.HJ (Qk T) hr (Jc (pv 5) (aT (aT (pv 6) rfl) rfl) (pv 4)))) br) (oE (cM (pv 0) T.aY T.sE (zT T) hr (Jc (pv 3) (pv 5) (pv 4))))) br) (oR (pv 7))))))))))),?_⟩
  left
  obtain⟨b,A,q,hp,O,hF,hT⟩:=id N.b5;have X:j0 K (nc t) H F b A q p Z ns.length st:=⟨hp,O,hF,hT⟩;have bF:=O.get .b5 _ rfl;rw[hp] at bF;have hal:=(ai.mp Y).1;have hil:=(ai.mp g).1;have hcb:=bd.cb;obtain⟨lb1,lb2,hg,lkd⟩:=bd.lb l (aI g);obtain⟨ts,ets,B,v⟩:=Xf (h:=(cp.h:Int)) (c:=(l.s:Int)) (r:=(cp.r:Int)) (List.Perm.refl (st.ts l.grp)) (bd.tb l.grp).2;have C:=O.get .fj _ rfl;have M:q.cq.length=st.cps.length:=by
   have z:=hT.cps.len;rw[ah] at z;exact z
  have haq:a<q.cq.length:=∅
  refine cJ λx f=>?_;refine⟨_,rfl,_,_,rfl,rfl,_,rfl,?_⟩;rw[eO (show (0:Int)<=(a:Int) by lia)];refine dZ ⟨_,rfl,p,_,_,_,_,rfl,bF,T.aY,T.jz,rfl,b .fj,_,rfl,.inl (bC.of C),_,_,rfl,rfl,_,rfl,?_⟩;rw[ah,M,eO (show (a:Int)<(st.cps.length:Int) by lia)];refine dO (f _ _ ?_);refine cJ λx f=>?_;refine⟨_,rfl,p,_,_,_,_,rfl,bF,T.aY,T.jz,rfl,.inl ⟨rfl,_,bC.of C⟩,_,rfl,b .fj,_,a,a,_,rfl,rfl,C,∅,∅,(R7 (by rw[ah,M];exact D8 hal)).1,(by rw[ak,aa haq];rfl),?_⟩;have htu:cR K H q.cq[a] cp.vs:=hT.cps.at' a _ _ (aa haq) (by rw[ak,Y];rfl);obtain⟨n,st1⟩:=YK X (qs:=q.cq.eraseIdx a) (cps:=st.cps.eraseIdx a) (by rw[<- J8];exact hT.cps.erase a);rw[J8];have j:cR K _ q.cq[a] cp.vs:=N.b5.tup st1.kp htu;generalize upd H (b .fj) (.lst ((q.cq.eraseIdx a).map V.ref))=H1 at n st1 j;generalize q.cq[a]=qa at j;refine f _ _ ?_;have es:{st with cps:=st.cps.eraseIdx a}=V6 st a:=rfl;rw[es] at n;have J4:(V6 st a).ls[cp.l]?=some l:=g;have N1:=N.done st1 n.b5;have ir:=n.own.get .b5 _ rfl;rw[n.hp] at ir;have alg:=n.own.get (.bV cp.l) (nG (nc t) A b cp.l l) (by show ((V6 st a).ls[cp.l]?.map _)=_;rw[J4];rfl);refine cJ λx f=>?_;refine⟨_,rfl,qa,_,0,_,rfl,rfl,j,rfl,f _ _ ?_⟩;refine cJ λx f=>?_;refine⟨_,rfl,qa,_,1,_,rfl,rfl,j,rfl,f _ _ ?_⟩;refine cJ λx f=>?_;refine⟨_,rfl,qa,_,3,_,rfl,rfl,j,rfl,f _ _ ?_⟩;refine cJ λx f=>?_;refine⟨_,rfl,p,_,_,_,_,rfl,ir,T.aY,T.eF,rfl,_,rfl,b .cz,_,_,_,rfl,rfl,bC.of (n.own.get .cz _ rfl),pX hil,f _ _ ?_⟩;have aaO:BI ns G (V6 st a):=⟨I.wl,I.w4,I.fit⟩;refine cJ λx f=>?_;refine⟨_,rfl,p,_,_,rfl,ir,rfl,_,rfl,_,rfl,_,rfl,F,b,A,_,p,Z,ln,lr,ns,G,V6 st a,o,cp.l,cp.r,cp.h,l,rfl,n,N1,aaO,J4,hg,λos H2 s2 hO J=>?_⟩;have ef:(if cp.r∈os then (if IB l cp.h=true then "twice" else "come") else "lost" : Str)=DT l cp os:=rfl;rw[ef];refine f _ _ ?_;have k:=k os ts;have X2:=n.mono s2;have alh:=s2 _ _ alg;have U:=X2.own.get (.aG cp.l) (.lst ((q.dq cp.l).map V.ref)) (by show ((V6 st a).ls[cp.l]?.map _)=_;rw[J4];rfl);have Uq:=(X2.tup.aG cp.l _ J4).len;rw[ah] at Uq;have Uq:(q.dq cp.l).length=l.aG.length:=Uq;refine cJ λx f=>?_;refine⟨_,rfl,b (.bV cp.l),_,_,_,_,rfl,alh,T.c9,T.ie,rfl,.inl ⟨rfl,_,bC.of U⟩,_,rfl,_,rfl,_,rfl,ur,λz1 hz1=>?_⟩;have u1:=aC.new (o:=.tup [V.str (DT l cp os),V.int cp.h,V.int cp.r]) hz1;refine⟨b (.aG cp.l),_,_,rfl,rfl,u1 _ _ U,yX (by rw[ah,Uq];lia),?_⟩;obtain⟨i,st3⟩:=Ce (X2.mono u1) J4 (d:=pC l cp os) (by rw[afm];exact cR.of aq);have m:=(st1.trans (Step.refl' (F:=F) (s2.trans u1))).trans st3;generalize upd (upd H2 z1 (.tup [V.str (DT l cp os),V.int cp.h,V.int cp.r])) (b (.aG cp.l)) (.lst ((q.dq cp.l).map V.ref++[.ref z1]))=H3 at i m;refine f _ _ ?_;have es:{V6 st a with ls:=(V6 st a).ls.set cp.l {l with aG:=l.aG++[pC l cp os]}}=lz st a cp l os:=rfl;rw[es] at i;have IA:=i.own.get .b5 _ rfl;rw[i.hp] at IA;have afl:=J7 (a:=a) (os:=os) g;have y:=i.own.get (.bV cp.l) (nG (nc t) A b cp.l {l with aG:=l.aG++[pC l cp os]}) (by show ((lz st a cp l os).ls[cp.l]?.map _)=_;rw[afl];rfl);have aop:=i.own.get (.letter cp.l) (rX (nc t) (A (.letter cp.l)) {l with aG:=l.aG++[pC l cp os]}) (by show ((lz st a cp l os).ls[cp.l]?.map _)=_;rw[afl];rfl);have N3:=N.done m i.b5;refine⟨_,rfl,rfl,_,rfl,?_⟩;rw[aaR];by_cases e:comes l cp os=true
  ·have k:∀F' H',NW K (nc t) t.aP H' F' p Z ln lr ns G (RH G (dw st a cp l os ts) cp.l cp.h {l with aG:=l.aG++[pC l cp os]} (some cp.r) os)->Step H F H' F'->Q (.str (DT l cp os)) H':=λF' H' W z=>k F' H' hO J B v (by unfold kR;rw[b3 e];exact W) z
   rw[e];refine dZ ?_;refine qu (λσ H4=>j0 K (nc t) H4 F b A {q with cq:=q.cq.eraseIdx a,dq:=eN q.dq cp.l (q.dq cp.l++[z1])} p Z ns.length (dw st a cp l os ts)/\Step H F H4 F/\σ=[some (.ref p),some (.int a),some (.ref qa),some (.int cp.l),some (.int cp.r),some (.int cp.h),some (.ref (b (.bV cp.l))),some (.str (DT l cp os))]) ?_ (λN' hN=>?_)
   ·rintro σ H4 ⟨L,EA,rfl⟩
    have DR:=L.own.get .b5 _ rfl;rw[L.hp] at DR;have S:=IC (s:=st) (a:=a) (cp:=cp) (l:=l) (os:=os) (ts:=ts);have aiJ:BI ns G (dw st a cp l os ts):=⟨by rw[S.1];exact I.wl,by rw[S.1];exact I.w4,by rw[S.2.1];exact I.fit⟩;refine⟨_,rfl,p,_,_,rfl,DR,rfl,_,rfl,_,rfl,_,rfl,F,p,Z,ln,lr,ns,G,dw st a cp l os ts,o,cp.l,cp.h,some cp.r,{l with aG:=l.aG++[pC l cp os]},D+51,rfl,N.done EA L.b5,aiJ,V8 bd g hal B v,∅,rO g,λos' F5 H5 u _ W5 Qy=>?_⟩;have u:ji (rY ns G o (dw st a cp l os ts).ws l.grp) ((dw st a cp l os ts).R l.grp) os':=u;rw[S.1,S.2.1] at u;rw[u.uniq hO] at W5;exact⟨_,rfl,k F5 H5 W5 (EA.trans Qy)⟩
   ·refine⟨_,rfl,b (.bV cp.l),_,_,_,_,rfl,y,T.c9,T.AJ,rfl,_,rfl,?_⟩
    cases eo:l.old with
    |true =>
     refine dO ?_;refine hN _ _ ⟨?_,m,rfl⟩;unfold dw;rw[b3 eo];exact i
    |false =>
     refine dZ ?_;refine⟨_,rfl,p,_,_,_,_,rfl,IA,T.aY,T.xo,rfl,_,rfl,b (.bV cp.l),_,_,_,_,rfl,y,T.c9,T.kL,rfl,b .jZ,_,_,_,rfl,rfl,bC.of (i.own.get .jZ _ rfl),pX hg,b (.book l.grp),A (.book l.grp),_,rfl,i.own.get (.book l.grp) _ (b3 hg),rfl,_,rfl,?_⟩;refine afp T (λQ q=>⟨_,rfl,q⟩) y aop ?_;refine⟨_,rfl,b (.book l.grp),b (.fQ l.grp),st.ts l.grp,cp.h,l.s,cp.r,rfl,i.own.Xk hg,?_,λH4 h4 kp4=>?_⟩
     ·have:=(bd.tb l.grp).1
      lia
     ·rw[ets] at h4
      obtain⟨L,EA⟩:=adz i hg ts h4 kp4;refine hN _ _ ⟨?_,m.trans EA,rfl⟩;unfold dw;rw[eH (by rw[eo];decide)];exact L
  ·have e':comes l cp os=false:=by simpa using e
   rw[e'];refine dO ?_;refine⟨_,rfl,k F H3 hO J B v ?_ m⟩;unfold kR;rw[e',eH (!_)];exact N3
end
section
inductive Rw(rs:List R5)(os:List Nat)(r0:Nat)(x:Nat):Nat->Prop
 |refl:Rw rs os r0 x x
 |step {y r:Nat} (t:Rw rs os r0 x y) (hr:r∈os) (ne:r≠r0) (ha:isAt rs (y:Int) r=true):Rw rs os r0 x (J2 rs r y)
inductive Ds(N:RM.Net)(R:Nat->RM.Row)(c:Nat):Nat->Prop
 |self:Ds N R c c
 |on {r x y:Nat} (t:RM.pV N R r x y) (d:Ds N R c y):Ds N R c x
theorem Ds.rank{N:RM.Net}{R:Nat->RM.Row}{c x:Nat}(d:Ds N R c x):(R c).ho<=(R x).ho:=by
 induction d with
 |self=>exact Int.le_refl _
 |on t _ a=>have:=t.ho;lia
variable{ns:List Int}{rs:List R5}{os:List Nat}{live:List Nat}{nd:ns.Nodup}{ok:∀r∈rs,r.Ok ns.length}{hl:∀k∈live,k<rs.length}{R:Nat->RM.Row}
theorem XT{r x:Nat}(a:r∈live)(b:isAt rs (x:Int) r=true):RM.LB (bf ns rs live nd ok hl) r x (J2 rs r x):=by
 refine (wF a).mpr ⟨b,?_⟩;unfold J2;rw[aa (hl r a)]
theorem Zq{N:RM.Net}{r a b x y:Nat}(d:RM.LB N r a b)(e:RM.LB N r x y):(a=x/\b=y)∨(a=y/\b=x):=by
 rcases d.2 with ⟨f,c⟩|⟨f,c⟩ <;> rcases e.2 with ⟨h,g⟩|⟨h,g⟩ <;> lia
theorem Zr(O:ji (bf ns rs live nd ok hl) R os){e c p:Nat}(j:RM.pV (bf ns rs live nd ok hl) R e c p){r y z:Nat}(i:r∈os)(k:r≠e)(h:RM.LB (bf ns rs live nd ok hl) r y z)(d:Ds (bf ns rs live nd ok hl) R c y):Ds (bf ns rs live nd ok hl) R c z:=by
 obtain⟨a,b,t⟩:=(O.2 r).mp i;rcases Zq t.D4 h with ⟨rfl,rfl⟩|⟨rfl,rfl⟩
 ·cases d with
  |self=>exact eL (t.uniq j).1 k
  |on g f =>
   obtain⟨_,rfl⟩:=t.uniq g;exact f
 ·exact .on t d
theorem afq(O:ji (bf ns rs live nd ok hl) R os){r x:Nat}(f:r∈os)(g:isAt rs (x:Int) r=true):¬Rw rs os r x (J2 rs r x):=by
 intro t;obtain⟨c,p,i⟩:=(O.2 r).mp f;have j:∀k∈os,k∈live:=λk o=>by
  obtain⟨a,b,t⟩:=(O.2 k).mp o;exact t.D4.1
 have q:∀{y z:Nat},Rw rs os r y z->Ds (bf ns rs live nd ok hl) R c y->Ds (bf ns rs live nd ok hl) R c z:=λ{y z} t=>by
  induction t with
  |refl=>exact id
  |step t f m g l=>exact λd=>Zr O i f m (XT (j _ f) g) (l d)
 have h:∀{y z:Nat},Rw rs os r y z->Ds (bf ns rs live nd ok hl) R c z->Ds (bf ns rs live nd ok hl) R c y:=λ{y z} t=>by
  induction t with
  |refl=>exact id
  |step t f m g l=>exact λd=>l (Zr O i f m (XT (j _ f) g).symm d)
 have e:=i.ho;rcases Zq i.D4 (XT (j r f) g) with ⟨rfl,n⟩|⟨s,rfl⟩
 ·have:=(q t .self).rank
  rw[<- n] at this;lia
 ·have:=(h t (s▸.self)).rank
  lia
end
section
variable{P:Program}{w:World}{K:af}{mg:Str->Option Value}{base:Heap}
inductive V9(K:af)(c:NC)(vs:List V)(H:Hp)(Q:VK)(E:XK):Prop
 |mk (F:Addr->Prop) (p tp:Addr) (n i:Nat) (s:NS) (l:LS):vs=[.ref p,.int i]->cj K c H F p tp n s->s.ls[i]?=some l->(∀a (qs:List Addr) H',aC H H'->H a=none->H' a=some (.lst (qs.map V.ref))->dU K H' qs (l.aG.map i7.vs)->Q (.ref a) H')->V9 K c vs H Q E
theorem ID{t:Ad}(T:Txt K mg w t):bL P w K mg base fP 1 t.rG t.wW ["self","letter"]  (V9 K (nc t)):=by
 refine T.C1.F.gB SI λH Q E B h=>?_
 ·obtain⟨F,p,A,n,i,st,l,rfl,N,d,k⟩:=h
  refine⟨_,(ao (b4 (kB (iZ nQ tE az (pv 1) (lS T.fR (aT (pv 0) rfl)))) cH br) (oR (bS fG (by rfl) T.sF boot_list (cX (aT (xL (aT (pv 0) rfl) (pv 1)) rfl))))),?_⟩
  left
  obtain⟨c,y,q,v,O,z,r⟩:=id N;have g:=O.get .b5 _ rfl;rw[v] at g;have f:=(ai.mp d).1;have m:=O.get .cz _ rfl;have s:=O.get (.bV i) (nG (nc t) y c i l) (by show (st.ls[i]?.map _)=_;rw[d];rfl);have e:=O.get (.aG i) (.lst ((q.dq i).map V.ref)) (by show (st.ls[i]?.map _)=_;rw[d];rfl);refine⟨_,rfl,_,_,rfl,rfl,_,rfl,?_⟩;rw[eO (show (0:Int)<=(i:Int) by lia)];refine dZ ⟨_,rfl,p,_,_,_,_,rfl,g,T.aY,T.eF,rfl,c .cz,_,rfl,.inl (bC.of m),_,_,rfl,rfl,_,rfl,?_⟩;rw[ah,bz,eO (show (i:Int)<(st.ls.length:Int) by lia)];refine dO ?_;refine⟨_,rfl,p,_,_,_,_,rfl,g,T.aY,T.eF,rfl,_,rfl,c .cz,_,_,_,rfl,rfl,bC.of m,pX f,c (.bV i),_,_,_,_,rfl,s,T.c9,T.ie,rfl,c (.aG i),_,rfl,.inl (bC.of e),λa j=>?_⟩;have u:=aC.new (o:=.lst ((q.dq i).map V.ref)) j;exact k a (q.dq i) _ u j aq ((r.aG i l d).mono λb x=>u.cV)
noncomputable def dW:i7->Str
 |.post _=>"post"
 |.aeH _ _=>"come"
 |.hand _ _=>"hand"
 |.send _ _ _=>"send"
 |.twice _ _=>"twice"
 |.Xi _ _=>"lost"
noncomputable def dI:i7->List Int
 |.post h=>[h]
 |.aeH h r=>[h,r]
 |.hand h c=>[h,c]
 |.send h r w=>[h,r,w]
 |.twice h r=>[h,r]
 |.Xi h r=>[h,r]
theorem IE(d:i7):d.vs=.str (dW d)::(dI d).map V.int:=by cases d <;> rfl
end
section
structure Fo(ns:List Int)(rs:List R5)(os:List Nat):Prop where
 lt:∀r∈os,r<rs.length
 ok:∀r∈rs,r.Ok ns.length
 cut:∀r∈os,∀x:Nat,isAt rs (x:Int) r=true->¬Rw rs os r x (J2 rs r x)
 ri:os.Pairwise (·<·)
variable{ns:List Int}{rs:List R5}{os:List Nat}
theorem Fo.of{live:List Nat}{nd:ns.Nodup}{ok:∀r∈rs,r.Ok ns.length}{hl:∀k∈live,k<rs.length}{R:Nat->RM.Row}(O:ji (bf ns rs live nd ok hl) R os):Fo ns rs os:=⟨Mi O,ok,λ_ a _ b=>afq O a b,O.1⟩
variable{f:Nat}{D Pn A B:List En}{e:En}
end
section
variable{ns:List Int}{rs:List R5}{os:List Nat}{s:NS}{l:LS}{i h:Nat}
theorem Wa:∀(cs:List Nat) (s:NS) (l:LS),s.ls[i]?=some l->∃had,cs.foldl (jT i h) s={s with had:=had,ls:=s.ls.set i {l with aG:=l.aG++cs.map (i7.hand h)}}
 |[],s,l,e=>⟨s.had,by
  show s={s with had:=s.had,ls:=s.ls.set i {l with aG:=l.aG++[]}};rw[fD,uP e]⟩
 |c::cs,s,l,e=>by
  have b:=(ai.mp e).1;have d:(tw s i c).ls[i]?=some l:=e;have a:jT i h s c={s with had:=s.had.set c (s.had.getD c []++[i]),ls:=s.ls.set i {l with aG:=l.aG++[.hand h c]}}:=by
   unfold jT;rw[fK d];rfl
  obtain⟨had,f⟩:=Wa cs (jT i h s c) {l with aG:=l.aG++[.hand h c]} (by rw[a];show (s.ls.set i _)[i]?=_;rw[iB b,b3 rfl]);refine⟨had,?_⟩;rw[fC,f,a];show {s with had:=had,ls:=(s.ls.set i _).set i _}=_;rw[List.set_set];simp only[eW,bA];rfl
theorem Wb:∀(a:List Nat) (s:NS) (l:LS),s.ls[i]?=some l->a.foldl (nL rs i h) s={s with cps:=s.cps++a.map λr=>⟨i,r,pP s.ws r (rN l),J2 rs r h⟩,ls:=s.ls.set i {l with aG:=l.aG++a.map λr=>.send h r (pP s.ws r (rN l))}}
 |[],s,l,e=>by
  show s={s with cps:=s.cps++[],ls:=s.ls.set i {l with aG:=l.aG++[]}};rw[fD,fD,uP e]
 |r::a,s,l,e=>by
  have c:=(ai.mp e).1;have d:aaN s i=rN l:=by unfold aaN;rw[e]
  have b:nL rs i h s r={s with cps:=s.cps++[⟨i,r,pP s.ws r (rN l),J2 rs r h⟩],ls:=s.ls.set i {l with aG:=l.aG++[.send h r (pP s.ws r (rN l))]}}:=by
   unfold nL RE;rw[fK e,d]
  rw[fC,Wb a (nL rs i h s r) {l with aG:=l.aG++[.send h r (pP s.ws r (rN l))]} (by rw[b];show (s.ls.set i _)[i]?=_;rw[iB c,b3 rfl]),b];show {s with cps:=_,ls:=(s.ls.set i _).set i _}=_;rw[List.set_set];simp only[eW,bA];rfl
theorem Wc{b9:Option Nat}(e:s.ls[i]?=some l):∃had,RH rs s i h l b9 os={s with had:=had,cps:=s.cps++(OL rs s l h b9 os).map λr=>⟨i,r,pP s.ws r (rN l),J2 rs r h⟩,ls:=s.ls.set i {l with done:=pO l.done h,aG:=l.aG++((pQ s l h).map (i7.hand h)++(OL rs s l h b9 os).map λr=>.send h r (pP s.ws r (rN l)))}}:=by
 have a:=(ai.mp e).1;unfold RH;have c:(eU s i h l).ls[i]?=some {l with done:=pO l.done h}:=by
  show (s.ls.set i _)[i]?=_;rw[iB a,b3 rfl]
 obtain⟨had,b⟩:=Wa (h:=h) (pQ s l h) (eU s i h l) _ c;refine⟨had,?_⟩;rw[b,Wb _ _ {l with done:=pO l.done h,aG:=l.aG++(pQ s l h).map (i7.hand h)} (by show ((s.ls.set i _).set i _)[i]?=_;rw[iB (by rw[bg];exact a),b3 rfl])];show {s with had:=had,cps:=_,ls:=((s.ls.set i _).set i _).set i _}=_;rw[List.set_set,List.set_set];simp only[eW];rfl
theorem adB{ds:List Nat}{h:Nat}{l:LS}(e:l.done=ds):IB l h=decide (h∈ds):=by
 unfold IB;rw[e];clear e;induction ds with
 |nil=>rfl
 |cons d ds a =>
  rw[bA];by_cases z:d=h
  ·subst z
   rw[BS rfl];simp
  ·rw[BU (λe=>z (by have:=Sum.inl.inj e;lia)),a]
   have:¬h=d:=λe=>z e.symm
   simp[this]
end
section
noncomputable def XU(rs:List R5)(h:Nat):Nat:=((au rs.length).filter (isAt rs h)).length
noncomputable def BF(n:Nat)(rs:List R5)(done:List Nat):Nat:=(((au n).filter λh=>!decide (h∈done)).map (XU rs)).sum
noncomputable def Ph(n:Nat)(rs:List R5)(s:NS):Nat:=s.cps.length+(s.ls.map λl=>BF n rs l.done).sum
theorem sum_set{b:Type}{f:b->Nat}:∀{xs:List b} {i:Nat} {x:b} (y:b),xs[i]?=some x->((xs.set i y).map f).sum+f x=(xs.map f).sum+f y
 |[],_,_,_,h=>by cases h
 |a::xs,0,x,y,h=>by
  cases h;show f y+(xs.map f).sum+f a=f a+(xs.map f).sum+f y;lia
 |a::xs,i+1,x,y,h=>by
  have:=sum_set (f:=f) (xs:=xs) (i:=i) y h
  show f a+((xs.set i y).map f).sum+f x=f a+(xs.map f).sum+f y;lia
theorem Wd{f:Nat->Nat}{d:List Nat}{h:Nat}(b:h∉d):∀{L:List Nat},L.Nodup->(((L.filter λk=>!decide (k∈d++[h])).map f).sum+if h∈L then f h else 0)=((L.filter λk=>!decide (k∈d)).map f).sum
 |[],_=>rfl
 |a::L,nd=>by
  obtain⟨i,g⟩:=iY.mp nd;have c:=Wd (f:=f) b g;by_cases z:a=h
  ·subst z
   rw[eH i] at c;rw[b3 aL,dg (-_),dc (by simp[b]),bA,lE];lia
  ·have e:(if h∈a::L then f h else 0)=(if h∈L then f h else 0):=by
    have q:¬h=a:=λy=>z y.symm;simp[q]
   rw[e];by_cases y:a∈d
   ·rw[dg (by simp[y]),dg (by simp[y])]
    exact c
   ·rw[dc (by simp[y,z]),dc (by simp[y]),bA,bA,lE,lE]
    lia
theorem RJ{n:Nat}{rs:List R5}{d:List Nat}{h:Nat}(b:h<n)(a:h∉d):BF n rs (pO d h)+XU rs h=BF n rs d:=by
 unfold BF pO;rw[eH a]
 have:=Wd (f:=XU rs) a (List.nodup_range (n:=n))
 rw[b3 (cT.mpr b)] at this;exact this
theorem aiM{n:Nat}{rs:List R5}{k:Nat}:((au n).filter λh:Nat=>isAt rs (h:Int) k).length<=2:=by
 cases e:rs[k]? with
 |none =>
  have:((au n).filter λh:Nat=>isAt rs (h:Int) k)=[]:=List.filter_eq_nil_iff.mpr λh _=>by unfold isAt;rw[e];exact aO
  rw[this];decide
 |some r =>
  have:=Gr.IW (B:=[r.a.toNat,r.b.toNat]) (List.Nodup.sublist (l₁:=(au n).filter λh:Nat=>isAt rs (h:Int) k) List.filter_sublist List.nodup_range) λx c=>by
   have c:=(bZ.mp c).2;unfold isAt at c;rw[e] at c;have c:(decide ((x:Int)=r.a) || decide ((x:Int)=r.b))=true:=c;rw[Bool.or_eq_true,decide_eq_true_iff,decide_eq_true_iff] at c;rcases c with z|z
   ·rw[<- z];simp
   ·rw[<- z];simp
  exact this
theorem We{n:Nat}{p:Nat->Nat->Bool}:∀m,((au n).map λh=>((au m).filter (p h)).length).sum=((au m).map λk=>((au n).filter λh=>p h k).length).sum
 |0=>by
  show ((au n).map λh=>0).sum=0;generalize au n=L;induction L with
  |nil=>rfl
  |cons a L b=>rw[bA,lE,b];rfl
 |m+1=>by
  rw[fB,aU,List.sum_append,<- We m];show _=_+(((au n).filter λh=>p h m).length+0);generalize au n=L;induction L with
  |nil=>rfl
  |cons a L b =>
   rw[bA,bA,lE,lE,b,iy,aA];by_cases z:p a m=true
   ·rw[dc z,dc (p:=λh=>p h m) z,bH,bH,List.filter_nil,uB]
    lia
   ·rw[dg z,dg (p:=λh=>p h m) z,List.filter_nil,uB]
    lia
theorem afr{n:Nat}{rs:List R5}:((au n).map (XU rs)).sum<=2*rs.length:=by
 have e:((au n).map (XU rs)).sum=_:=We (n:=n) (p:=λh k=>isAt rs (h:Int) k) rs.length;rw[e];generalize rs.length=m;induction m with
 |zero=>exact aB _
 |succ m a =>
  rw[fB,aU,List.sum_append]
  have:((au n).filter λh:Nat=>isAt rs (h:Int) m).length<=2:=aiM
  show _+(((au n).filter λh:Nat=>isAt rs (h:Int) m).length+0)<=_;lia
theorem adC{ns:List Int}{rs:List R5}{os:List Nat}(F:Fo ns rs os){s:NS}{l:LS}{h:Nat}{b9:Option Nat}:(OL rs s l h b9 os).length<=XU rs h:=by
 unfold OL XU;rw[ah];refine ay LM.2 ?_;rw[ah];exact Gr.IW (List.Nodup.sublist List.filter_sublist (F.ri.imp λh=>bT h)) λx a=>bZ.mpr ⟨cT.mpr (F.lt x (bZ.mp a).1),(bZ.mp a).2⟩
theorem afs{ns:List Int}{rs:List R5}{os:List Nat}(F:Fo ns rs os){s:NS}{x:Nat}{to:Option Nat}(f:s.aN.getD x 0<ns.length):Ph ns.length rs (zU rs s x to os)<=Ph ns.length rs s+2*rs.length:=by
 unfold zU;obtain⟨c,e⟩:=Wc (rs:=rs) (os:=os) (h:=s.aN.getD x 0) (b9:=none) (s:=tH s x to) (i:=s.ls.length) (l:={pB s x to with aG:=[.post (s.aN.getD x 0)]}) uh;rw[e];have g:=adC (s:=tH s x to) (l:={pB s x to with aG:=[.post (s.aN.getD x 0)]}) (h:=s.aN.getD x 0) (b9:=none) F;generalize OL rs (tH s x to) _ _ _ os=gs at g;have b:∀a,(tH s x to).ls.set s.ls.length a=s.ls++[a]:=λa=>by
  show (s.ls++[_]).set s.ls.length a=_;rw[List.set_append_right _ _ (aB _),lA];rfl
 unfold Ph;rw[b];show (s.cps++_).length+((s.ls++[_]).map _).sum<=_;rw[aA,ah,aU,List.sum_append];show s.cps.length+gs.length+(_+(BF ns.length rs (pO [] (s.aN.getD x 0))+0))<=_;have k:=RJ (rs:=rs) (d:=[]) f (-_);have j:BF ns.length rs []<=2*rs.length:=by
  unfold BF;rw[List.filter_eq_self.mpr (-_)];exact afr
 lia
theorem aft{ns:List Int}{rs:List R5}{os:List Nat}(F:Fo ns rs os){s:NS}{a:Nat}{cp:Cp}{l:LS}{ts:List T3}(g:s.cps[a]?=some cp)(hl:s.ls[cp.l]?=some l)(o:cp.h<ns.length):Ph ns.length rs (kR rs s a cp l os ts)+1<=Ph ns.length rs s:=by
 have t:=(ai.mp hl).1;have c:=(ai.mp g).1;have w:(s.cps.eraseIdx a).length+1=s.cps.length:=by
  rw[List.length_eraseIdx,b3 c];lia
 have k:∀b,((lz s a cp l b).ls.map λl=>BF ns.length rs l.done).sum=(s.ls.map λl=>BF ns.length rs l.done).sum:=λb=>by
  have:=sum_set (f:=λl:LS=>BF ns.length rs l.done) {l with aG:=l.aG++[pC l cp b]} hl
  show ((s.ls.set cp.l _).map _).sum=_;simp only at this;lia
 unfold kR;split
 ·rename_i i
  have e:cp.h∉l.done:=λz=>by
   unfold comes at i;rw[adB rfl,eO z] at i;simp at i
  obtain⟨j,p⟩:=Wc (rs:=rs) (os:=os) (h:=cp.h) (b9:=some cp.r) (rO (a:=a) (os:=os) (ts:=ts) hl);rw[p];have v:=adC (s:=dw s a cp l os ts) (l:={l with aG:=l.aG++[pC l cp os]}) (h:=cp.h) (b9:=some cp.r) F;generalize OL rs (dw s a cp l os ts) _ _ _ os=gs at v;have q:(dw s a cp l os ts).cps=s.cps.eraseIdx a:=by unfold dw;split <;> rfl
  have n:(dw s a cp l os ts).ls=s.ls.set cp.l {l with aG:=l.aG++[pC l cp os]}:=by unfold dw;split <;> rfl
  unfold Ph
  try dsimp only
  rw[q,n,List.set_set,aA,ah];have x:=RJ (rs:=rs) (d:=l.done) o e;have m:=λy=>sum_set (f:=λl:LS=>BF ns.length rs l.done) y hl;have u:=m {l with done:=pO l.done cp.h,aG:=l.aG++[pC l cp os]++((pQ (dw s a cp l os ts) {l with aG:=l.aG++[pC l cp os]} cp.h).map (i7.hand cp.h)++gs.map λr=>.send cp.h r (pP (dw s a cp l os ts).ws r (rN {l with aG:=l.aG++[pC l cp os]})))};dsimp only at u;lia
 ·unfold Ph
  rw[k];show (s.cps.eraseIdx a).length+_+1<=_;lia
structure SD(ns:List Int)(rs:List R5)(bs:List (List Bool))(cl:List (Nat×Nat))(D:Nat)(s:NS):Prop where
 ok:BI ns rs s
 bd:Bd ns.length rs.length D s
 ws:s.ws=bs.map stand
 fit:T9 rs bs
 hm:s.aN=cl.map (·.1)
 gr:s.groups=cl.map (·.2)
variable{ns:List Int}{rs:List R5}{bs:List (List Bool)}{cl:List (Nat×Nat)}{D:Nat}{s:NS}
theorem afu{n m:Nat}{g:Nat}(b:Bd n m D s):Bd n m D (zS s g):=by
 refine⟨b.gl,b.pI,b.g3,b.hm,b.hl,b.hb,by show (s.ls.map _).length<=D;rw[ah];exact b.ll,λl z=>?_,b.cb,λc z=>by show c.l<(s.ls.map _).length/\_;rw[ah];exact b.cl c z,λa=>?_⟩
 ·obtain⟨d,e,rfl⟩:=aF.mp z
  unfold DQ;split
  ·exact b.lb d e
  ·exact b.lb d e
 ·show 50*(eN s.ts g [] a).length<=D/\c5 (eN s.ts g [] a)
  by_cases z:a=g
  ·subst z
   rw[c6];exact⟨be _,iU⟩
  ·rw[f6 z]
   exact b.tb a
theorem SD.news(h:SD ns rs bs cl D s)(g:Nat):SD ns rs bs cl D (zS s g):=⟨⟨h.ok.wl,h.ok.w4,h.ok.fit⟩,afu h.bd,h.ws,h.fit,h.hm,h.gr⟩
theorem SD.gV(h:SD ns rs bs cl D s)(e:Int):∀m,SD ns rs bs cl D (gV s e m)
 |0=>h
 |m+1=>by
  rw[jA];split
  ·exact (h.gV e m).news m
  ·exact h.gV e m
theorem SD.call{g x:Nat}{d:RM.Row}(h:SD ns rs bs cl D s)(b:z6 ns.length rs.length d):SD ns rs bs cl D (pN s g x d):=by
 unfold pN;split
 ·exact h
 ·refine SD.news (s:={s with R:=eN s.R g (RM.upd (s.R g) x d)}) ⟨⟨h.ok.wl,h.ok.w4,λk a=>?_⟩,⟨h.bd.gl,h.bd.pI,h.bd.g3,h.bd.hm,h.bd.hl,h.bd.hb,h.bd.ll,h.bd.lb,h.bd.cb,h.bd.cl,h.bd.tb⟩,h.ws,h.fit,h.hm,h.gr⟩ g
  show xD _ _ (eN s.R g (RM.upd (s.R g) x d) k);by_cases z:k=g
  ·subst z
   rw[c6];intro i c;unfold RM.upd;split
   ·exact b
   ·exact h.ok.fit k a i c
  ·rw[f6 z]
   exact h.ok.fit k a
theorem SD.move{x y:Nat}(h:SD ns rs bs cl D s)(a:x<cl.length)(d:y<ns.length):SD ns rs bs (cl.set x (y,cl[x].2)) D (wm s x y):=by
 have g:x<s.aN.length:=by rw[h.hm,ah];exact a
 have c:(cl.set x (y,cl[x].2)).map (·.2)=cl.map (·.2):=by
  rw[lB];refine uP ?_;rw[ak,aa a];rfl
 unfold wm;split
 ·rename_i e
  refine⟨h.ok,h.bd,h.ws,h.fit,?_,by rw[c];exact h.gr⟩;rw[lB,<- h.hm];exact (uP e).symm
 ·refine SD.news (s:={s with aN:=s.aN.set x y}) ⟨⟨h.ok.wl,h.ok.w4,h.ok.fit⟩,?_,h.ws,h.fit,by show s.aN.set x y=_;rw[lB,<- h.hm],by rw[c];exact h.gr⟩ _
  have b:=h.bd;refine⟨by show s.groups.length=(s.aN.set x y).length;rw[bg];exact b.gl,by show (s.aN.set x y).length<=20;rw[bg];exact b.pI,b.g3,λz f=>?_,by show s.had.length=(s.aN.set x y).length;rw[bg];exact b.hl,b.hb,b.ll,b.lb,b.cb,b.cl,b.tb⟩;rcases dM f with w|rfl
  ·exact b.hm z w
  ·exact d
theorem K8{P Q:LS->Prop}{i:Nat}{d:i7}(h:∀l∈s.ls,P l)(b:∀l,P l->Q l)(f:∀l,P l->Q {l with aG:=l.aG++[d]}):∀l∈(cS s i d).ls,Q l:=by
 intro l a;unfold cS at a;cases e:s.ls[i]? with
 |none=>rw[e] at a;exact b l (h l a)
 |some c =>
  rw[e] at a;rcases dM a with z|rfl
  ·exact b l (h l z)
  ·exact f c (h c (aI e))
theorem GY{i:Nat}{d:i7}:(cS s i d).ws=s.ws/\(cS s i d).R=s.R/\(cS s i d).ts=s.ts/\(cS s i d).aN=s.aN/\(cS s i d).groups=s.groups/\(cS s i d).had=s.had:=by
 unfold cS;cases s.ls[i]? <;> exact⟨rfl,rfl,rfl,rfl,rfl,rfl⟩
theorem DU{i x:Nat}:∀m,m<=s.cps.length->(jj s i x m).ws=s.ws/\(jj s i x m).R=s.R/\(jj s i x m).ts=s.ts/\(jj s i x m).aN=s.aN/\(jj s i x m).groups=s.groups/\(jj s i x m).had=s.had
 |0,_=>by rw[Ac];exact⟨rfl,rfl,rfl,rfl,rfl,rfl⟩
 |m+1,k=>by
  have a:=DU (i:=i) (x:=x) m ∅;rw[Ae ∅];unfold pL;split
  ·obtain⟨c,g,f,b,j,e⟩:=GY (s:=jj s i x m) (i:=(s.cps[m]).l) (d:=.Xi (s.cps[m]).h i)
   exact⟨c.trans a.1,g.trans a.2.1,f.trans a.2.2.1,b.trans a.2.2.2.1,j.trans a.2.2.2.2.1,e.trans a.2.2.2.2.2⟩
  ·exact a
theorem Wf{i x:Nat}(h:∀l∈s.ls,l.aG.length+s.cps.length<=D/\l.done.length<=D/\l.grp<3/\(l.kd=1∨l.kd=2)):∀m,m<=s.cps.length->∀l∈(jj s i x m).ls,l.aG.length+((s.cps.take m).filter λc=>!nu i x c).length+s.cps.length<=D+m/\l.done.length<=D/\l.grp<3/\(l.kd=1∨l.kd=2)
 |0,_=>by rw[Ac];exact h
 |m+1,k=>by
  have d:=Wf (i:=i) (x:=x) h m ∅;have b:m<s.cps.length:=∅
  rw[Ae b,Q6 (f:=λc:Cp=>!nu i x c) b,aA];unfold pL;cases e:nu i x s.cps[m]
  ·rw[eH (!_),b3 (!_)]
   intro l a;obtain⟨j,g⟩:=d l a;exact⟨by show l.aG.length+(_+1)+_<=_;lia,g⟩
  ·rw[b3 rfl,eH (!_)]
   refine K8 d (λl a=>⟨by have:=a.1;show l.aG.length+(_+0)+_<=_;lia,a.2⟩) (λl a=>⟨?_,a.2⟩)
   have:=a.1
   show (l.aG++[_]).length+(_+0)+_<=_;rw[aA];show l.aG.length+1+(_+0)+_<=_;lia
theorem SD.lose(h:SD ns rs bs cl D s)(i x:Nat):SD ns rs bs cl D (pM s i x):=by
 obtain⟨e,j,k,a,d,f⟩:=DU (s:=s) (i:=i) (x:=x) s.cps.length (aB _);have lb:=Wf (i:=i) (x:=x) h.bd.lb s.cps.length (aB _);have ll:=Q5 (s:=s) (i:=i) (x:=x) (m:=s.cps.length);rw[jB] at lb;unfold pM;generalize jj s i x s.cps.length=s2 at e j k a d f lb ll;have b:=h.bd;refine⟨⟨e▸h.ok.wl,e▸h.ok.w4,j▸h.ok.fit⟩,⟨?_,?_,?_,?_,?_,?_,?_,λl hl=>?_,?_,λc o=>?_,?_⟩,e.trans h.ws,h.fit,a.trans h.hm,d.trans h.gr⟩
 ·show s2.groups.length=s2.aN.length;rw[a,d];exact b.gl
 ·show s2.aN.length<=20;rw[a];exact b.pI
 ·show ∀g∈s2.groups,g<3;rw[d];exact b.g3
 ·show ∀h∈s2.aN,h<ns.length;rw[a];exact b.hm
 ·show s2.had.length=s2.aN.length;rw[a,f];exact b.hl
 ·show ∀w∈s2.had,w.length<=D;rw[f];exact b.hb
 ·show s2.ls.length<=D;rw[ll];exact b.ll
 ·obtain⟨p,n⟩:=lb l hl
  exact⟨by show l.aG.length+(s.cps.filter λc=>!nu i x c).length<=D;lia,n⟩
 ·exact ay (bD _ _) b.cb
 ·show c.l<s2.ls.length/\_
  rw[ll];exact b.cl c (bZ.mp o).1
 ·show ∀g,50*(s2.ts g).length<=D/\c5 (s2.ts g);rw[k];exact b.tb
theorem SD.fM{i x:Nat}{b:List Bool}{v:Bool}(o:cD ns rs)(h:SD ns rs bs cl D s)(hb:bs[i]?=some b):SD ns rs (bs.set i (b.set x v)) cl D {s with ws:=s.ws.set i (stand (b.set x v))}:=by
 have d:=h.fit.set hb (k:=x) (x:=v);have l:s.ws.set i (stand (b.set x v))=(bs.set i (b.set x v)).map stand:=by rw[h.ws,lB]
 refine⟨⟨by show (s.ws.set i _).length=_;rw[bg];exact h.ok.wl,λu c=>?_,h.ok.fit⟩,⟨h.bd.gl,h.bd.pI,h.bd.g3,h.bd.hm,h.bd.hl,h.bd.hb,h.bd.ll,h.bd.lb,h.bd.cb,h.bd.cl,h.bd.tb⟩,l,d,h.hm,h.gr⟩;have c:u∈s.ws.set i (stand (b.set x v)):=c;rw[l] at c;obtain⟨m,f,rfl⟩:=aF.mp c;obtain⟨j,g,e⟩:=List.getElem_of_mem f;have a:j<rs.length:=by rw[<- d.1];exact g
 have:=d.2 j _ _ (aa a) (aa g)
 have n:=(o.ok _ (aD a)).d4
 have:=aad m
 rw[e] at *;lia
theorem SD.yY{i x:Nat}{b:List Bool}(o:cD ns rs)(h:SD ns rs bs cl D s)(c:bs[i]?=some b)(e:Int):SD ns rs (bs.set i (b.set x false)) cl D (we s i x (stand b) e):=by
 have a:=(h.fM (x:=x) (v:=false) o c).lose i x;unfold we;rw[Xb];split
 ·exact a.gV e 3
 ·exact a
theorem SD.lay{i x:Nat}{b:List Bool}(o:cD ns rs)(h:SD ns rs bs cl D s)(c:bs[i]?=some b)(e:Int):SD ns rs (bs.set i (b.set x true)) cl D (GX s i (stand b) (stand (b.set x true)) e):=by
 have a:=h.fM (x:=x) (v:=true) o c;unfold GX;split
 ·exact a.gV e 3
 ·exact a
theorem Ud{i h:Nat}{l:LS}{b9:Option Nat}{os:List Nat}(hl:s.ls[i]?=some l):(RH rs s i h l b9 os).ws=s.ws/\(RH rs s i h l b9 os).R=s.R/\(RH rs s i h l b9 os).aN=s.aN/\(RH rs s i h l b9 os).groups=s.groups:=by
 have f:=adw (rs:=rs) (h:=h) (b9:=b9) (os:=os) hl;exact⟨f.ws,f.R,f.aN,f.groups⟩
theorem SD.post{x:Nat}{to:Option Nat}{os:List Nat}(o:cD ns rs)(h:SD ns rs bs cl D s)(f:x<s.aN.length)(O:ji (rY ns rs o s.ws (s.groups.getD x 0)) (s.R (s.groups.getD x 0)) os)(a:os.length<=12):SD ns rs bs cl (D+100) (zU rs s x to os):=by
 obtain⟨b,e,j,g⟩:=Ud (rs:=rs) (h:=s.aN.getD x 0) (b9:=none) (os:=os) (s:=tH s x to) (i:=s.ls.length) (l:={pB s x to with aG:=[.post (s.aN.getD x 0)]}) uh;have d:=agL o (h:=s.aN.getD x 0) (b9:=none) (Zn (to:=to) h.bd f) uh O a;exact⟨⟨(fy List.length b).trans h.ok.wl,λw c=>h.ok.w4 w (by rw[show (zU rs s x to os).ws=s.ws from b] at c;exact c),by rw[show (zU rs s x to os).R=s.R from e];exact h.ok.fit⟩,d.mono ∅,b.trans h.ws,h.fit,j.trans h.hm,g.trans h.gr⟩
theorem SD.pass{a:Nat}{cp:Cp}{l:LS}{os:List Nat}{ts:List T3}{h' c r:Int}(o:cD ns rs)(h:SD ns rs bs cl D s)(hl:s.ls[cp.l]?=some l)(q:a<s.cps.length)(O:ji (rY ns rs o s.ws l.grp) (s.R l.grp) os)(f:os.length<=12)(p:ts.Perm (put3 (s.ts l.grp) h' c r))(t:c5 ts):SD ns rs bs cl (D+100) (kR rs s a cp l os ts):=by
 have k:=afo o (a:=a) (cp:=cp) h.bd hl q O f p t;have e:(kR rs s a cp l os ts).ws=s.ws/\(kR rs s a cp l os ts).R=s.R/\(kR rs s a cp l os ts).aN=s.aN/\(kR rs s a cp l os ts).groups=s.groups:=by
  unfold kR;split
  ·obtain⟨v,m,n,u⟩:=IC (s:=s) (a:=a) (cp:=cp) (l:=l) (os:=os) (ts:=ts)
   obtain⟨b,d,i,g⟩:=Ud (rs:=rs) (h:=cp.h) (b9:=some cp.r) (os:=os) (rO (a:=a) (os:=os) (ts:=ts) hl);exact⟨b.trans v,d.trans m,i.trans n,g.trans u⟩
  ·exact⟨rfl,rfl,rfl,rfl⟩
 obtain⟨b,d,i,g⟩:=e;exact⟨⟨(fy List.length b).trans h.ok.wl,λw j=>h.ok.w4 w (by rw[b] at j;exact j),by rw[d];exact h.ok.fit⟩,k,b.trans h.ws,h.fit,i.trans h.hm,g.trans h.gr⟩
end
section
variable{ns:List Int}{rs:List R5}{s s':NS}{n:Nat}
noncomputable def Wg(s:NS):List (List Nat):=s.ls.map λl=>l.done
theorem afv{i:Nat}{d:i7}:Wg (cS s i d)=Wg s:=by
 unfold cS;cases e:s.ls[i]? with
 |none=>rfl
 |some l =>
  show (s.ls.set i _).map (λl=>l.done)=_;rw[lB];exact uP (by rw[ak,e];rfl)
theorem Ew{g:Nat}:Wg (zS s g)=Wg s:=by
 show (s.ls.map (DQ g)).map (λl=>l.done)=s.ls.map λl=>l.done;rw[bP];refine cU λl _=>?_;show (DQ g l).done=l.done;unfold DQ;split <;> rfl
theorem DV{e:Int}:∀m,Wg (gV s e m)=Wg s
 |0=>rfl
 |m+1=>by
  have a:=DV (e:=e) m;rw[jA];split
  ·rw[Ew];exact a
  ·exact a
theorem Ue{i x:Nat}:Wg (pM s i x)=Wg s:=by
 have a:∀(cs:List Cp) (b:NS),Wg (cs.foldl (pL i x) b)=Wg b:=λcs=>by
  induction cs with
  |nil=>exact λ_=>rfl
  |cons c cs d =>
   intro b;rw[fC,d];unfold pL;split
   ·exact afv
   ·rfl
 exact a (s.cps.take s.cps.length) s
theorem J9{e:Int}:∀m,(gV s e m).cps=s.cps
 |0=>rfl
 |m+1=>by
  have a:=J9 (e:=e) m;rw[jA];split <;> exact a
theorem GZ(e:Wg s'=Wg s):s'.ls.length=s.ls.length:=by
 have:=fy List.length e
 unfold Wg at this;rw[ah,ah] at this;exact this
theorem Zs{g x:Nat}{d:RM.Row}:(pN s g x d).ls.length=s.ls.length:=by
 unfold pN;split
 ·rfl
 ·exact GZ Ew
theorem afw{x y:Nat}:(wm s x y).ls.length=s.ls.length:=by
 unfold wm;split
 ·rfl
 ·exact GZ Ew
theorem afx{i x:Nat}{w:List Nat}{e:Int}:(we s i x w e).ls.length=s.ls.length:=by
 have a:=GZ (Ue (s:={s with ws:=s.ws.set i (w.filter λz=>decide (z≠x))}) (i:=i) (x:=x));unfold we;split
 ·exact (GZ (DV 3)).trans a
 ·exact a
theorem aiN{i:Nat}{w w2:List Nat}{e:Int}:(GX s i w w2 e).ls.length=s.ls.length:=by
 unfold GX;split
 ·exact GZ (DV (s:={s with ws:=s.ws.set i w2}) 3)
 ·rfl
theorem adD{x:Nat}{to:Option Nat}{os:List Nat}:(zU rs s x to os).ls.length=s.ls.length+1:=by
 unfold zU;obtain⟨a,b⟩:=Wc (rs:=rs) (os:=os) (h:=s.aN.getD x 0) (b9:=none) (s:=tH s x to) (i:=s.ls.length) (l:={pB s x to with aG:=[.post (s.aN.getD x 0)]}) uh;rw[b];show ((s.ls++[_]).set _ _).length=_;rw[bg,aA];rfl
theorem Wh{a:Nat}{cp:Cp}{l:LS}{os:List Nat}{ts:List T3}(hl:s.ls[cp.l]?=some l):(kR rs s a cp l os ts).ls.length=s.ls.length:=by
 unfold kR;split
 ·obtain⟨b,c⟩:=Wc (rs:=rs) (os:=os) (h:=cp.h) (b9:=some cp.r) (rO (a:=a) (os:=os) (ts:=ts) hl)
  rw[c];show ((dw s a cp l os ts).ls.set _ _).length=_;rw[bg];unfold dw;split <;> exact bg
 ·exact bg
end
section
variable{P:Program}{w:World}{K:af}{mg:Str->Option Value}{base:Heap}
noncomputable def Ka(x:List Int):PyData:=.tuple (x.map .int)
theorem zV{H:Hp}:∀{qs:List Addr} {xs:List (List Int)},dU K H qs (xs.map λx=>x.map V.int)->cW K H (xs.map Ka) (qs.map V.ref)
 |[],[],_=>rfl
 |[],_::_,h=>by cases h.len
 |_::_,[],h=>by cases h.len
 |q::qs,x::xs,h=>⟨.ref q,qs.map V.ref,rfl,Rep.QJ (ns:=x) (h.at' 0 q _ rfl rfl),zV ⟨Nat.succ.inj h.len,λi p y a b=>h.at' (i+1) p y a b⟩⟩
theorem zW:∀xs:List (List Int),PyData.canLayAll0 (xs.map Ka)=true
 |[]=>rfl
 |x::xs=>by
  show (PyData.canLayAll0 (x.map .int)&&PyData.canLayAll0 (xs.map Ka))=true;rw[zW xs,nU];rfl
theorem uu:∀xs:List (List Int),PyData.depthAll (xs.map Ka)<=1
 |[]=>!_
 |x::xs=>by
  show max (PyData.depthAll (x.map .int)+1) (PyData.depthAll (xs.map Ka))<=1
  have:=uu xs
  have:=D6 x
  lia
theorem Bh{ds:List PyData}:(PyData.list ds).eqv (.list [])=ds.isEmpty:=by cases ds <;> rfl
theorem aiO{c:Nat}(h:48<=c/\c<=57):(!(Builtin.Str.occurrences ("0123456789" : Str) ⟨#[c]⟩ 0 ("0123456789" : Str).length 1).isEmpty)=true:=by
 rw[StrLaws.found_one]
 have:c=48∨c=49∨c=50∨c=51∨c=52∨c=53∨c=54∨c=55∨c=56∨c=57:=∅
 rcases this with rfl|rfl|rfl|rfl|rfl|rfl|rfl|rfl|rfl|rfl <;> decide +kernel
inductive IF(vs:List V)(H:Hp)(Q:VK)(E:XK):Prop
 |mk (n:Int):vs=[.str (TX.num n)]->TX.Wr n->(∀H',aC H H'->Q (.int n) H')->IF  vs H Q E
theorem wo{t:Ad}(T:Txt K mg w t):bL P w K mg base fP 1 t.mw t.qI ["word"]  IF:=by
 refine T.qW.F.gB Cy λH Q E L h=>?_
 ·obtain⟨n,rfl,a,k⟩:=h
  refine⟨_,(ao (b4 (kB (iZ nQ nQ az (cB Sb T.fR PySem.boot_len (cX (pv 0))) (iu rfl T.Nj (v:=.int 60) ⟨_,rfl⟩))) cH br) (ao (b4 (kB (mW (cB (UM rfl) T.agk boot_all (cX (dP (kO Cy ["sign"] [none]) rfl (ahN (pv 0)) (λ_ _ _ _=>by exact (gS 0 Hu)) (λ_ _ _ _=>by exact eK) (λ_ _ _ _=>by exact (Yo ZS (pv 0) (iu rfl T.aaz (v:=.str "0123456789") ⟨_,rfl⟩) (by with_unfolding_all rfl)))))))) cH br) (ao (b4 (PW.pt (uD (qT lD (UD ahn (pv 0) az (λ_ _=>rfl)) bu) (nO (qT wC (pv 0) bu)))) cH br) (oR (bS aam (by rfl) T.acN boot_int (cX (pv 0))))))),?_⟩
  left
  have B:=TX.iV a;have b:(TX.num n).length<=sizeLine:=ay B.2 (!_);refine⟨_,rfl,_,rfl,b,_,_,rfl,rfl,_,rfl,?_⟩;rw[eO (show (1:Int)<=((TX.num n).length:Int) by lia)];refine dZ ⟨_,_,rfl,rfl,_,rfl,?_⟩;rw[eO (show ((TX.num n).length:Int)<=60 by lia)];refine dO ?_;refine⟨_,rfl,_,rfl,TX.QX a.1,λo d=>?_⟩;have D:(TX.num n).cps.size=(TX.num n).length:=rfl;refine Ml (n:=(TX.num n).cps.size) (λi=>.str ⟨#[(TX.num n).cps.getD i 0]⟩) (λ_=>some (.bl true)) d ahO acp (λi f x I l g s=>?_) ∅ (λi f R S l g u J=>?_) (λf g p=>?_)
  ·obtain⟨rfl,c,G,rfl⟩:=s
   refine⟨rfl,?_⟩;rw[Array.getD_eq_getD_getElem?,G];rfl
  ·refine⟨_,rfl,_,_,rfl,rfl,?_⟩
   have A:(TX.num n).cps.getD i 0∈TX.cs (TX.num n):=by
    rw[Array.getD_eq_getD_getElem?,Array.getElem?_eq_getElem l];exact Array.getElem_mem_toList l
   rw[aiO (TX.Hr a.1 _ A)];exact u _ _ (aC.refl _) rfl
  ·have e:(au (TX.num n).cps.size).filterMap (λ_=>some (V.bl true))=(bB (TX.num n).cps.size true).map V.bl:=by
    rw[List.filterMap_eq_map',List.map_replicate];exact (List.map_const' ..).trans (by rw[bz])
   rw[e] at p;refine⟨o,_,rfl,bC.of p,_,rfl,?_⟩;rw[show (bB (TX.num n).cps.size true).all id=true by simp];refine dO ?_;have q:0<(TX.num n).cps.toList.length:=by rw[fO];lia
   have m:Kn (TX.num n).cps.toList 0=some (TX.num n).cps.toList[0]:=dD (j:=0) (aa q);refine⟨_,rfl,_,_,_,rfl,rfl,b,m,rfl,_,rfl,jh (λe=>?_) (λe=>?_)⟩
   ·have C:(⟨#[(TX.num n).cps.toList[0]]⟩:Str)=("0" : Str):=V.str.inj (fT e)
    have r:(TX.num n).cps.toList[0]=48:=by
     have:=fy (λz:Str=>z.cps.getD 0 0) C
     exact this
    have y:n=0:=TX.aci a.1 (by rw[aa q,r]);subst y;refine⟨_,rfl,rfl,_,rfl,rz (by decide +kernel) ?_⟩;exact⟨_,rfl,_,_,rfl,TX.num_reads a,∅,k f g⟩
   ·exact⟨_,rfl,_,_,rfl,TX.num_reads a,∅,k f g⟩
inductive yZ(K:af)(vs:List V)(H:Hp)(Q:VK)(E:XK):Prop
 |mk (l:Addr) (ns:List Int):vs=[.ref l,.int ns.length]->bC K H l (fz (ns.map TX.num))->(∀n∈ns,TX.Wr n)->ns.length<=100->(∀l' H',aC H H'->H l'=none->H' l'=some (.lst (ns.map V.int))->Q (.ref l') H')->yZ K vs H Q E
theorem tD{t:Ad}(T:Txt K mg w t):bL P w K mg base fP 2 t.kK t.oN ["words","many"]  (yZ K):=by
 refine T.oZ.F.gB Bm λH Q E p h=>?_
 ·obtain⟨l,ns,rfl,e,s,o,k⟩:=h
  refine⟨_,(ao (b4 (qT wC (lS T.fR (pv 0)) (pv 1)) cH br) (oR (dP (kO Bm ["word"] [none]) rfl (dB (pv 0)) (λ_ _ _ _=>by exact (gS 0 Gn)) (λ_ _ _ _=>by exact eK) (λ_ _ _ _=>by exact (cG (wo T) p T.qW (cX (pv 0))))))),?_⟩
  left
  have a:(fz (ns.map TX.num)).length=ns.length:=-_
  refine⟨_,rfl,l,_,rfl,.inl e,_,rfl,rfl,_,rfl,rz (by rw[a,eO rfl];rfl) ?_⟩;refine⟨_,rfl,l,rfl,⟨_,e⟩,λf b=>?_⟩;refine LC (λi=>ns[i]?.map V.int) b e ∅ (λi x j R S c m n v=>?_) (λj m g=>?_)
  ·have d:i<ns.length:=by have:=(ai.mp c).1;lia
   have q:x=.str (TX.num ns[i]):=by
    simp only[ak,aa d,ux,Option.some.injEq] at c;exact c.symm
   subst q;exact⟨_,rfl,ns[i],rfl,s _ (aD d),λu r=>n _ _ r (by rw[aa d];rfl)⟩
  ·rw[a,Aa] at g
   exact k f j m b g
inductive K9(K:af)(vs:List V)(H:Hp)(Q:VK)(E:XK):Prop
 |mk (l:Addr) (ns:List Int):vs=[.ref l]->H l=some (.lst (fz (TX.wordsOf "names" ns)))->(∀n∈ns,TX.Wr n)->1<=ns.length->ns.length<=100->(∀l' H',aC H H'->H l'=none->H' l'=some (.lst (ns.map V.int))->Q (.ref l') H')->K9 K vs H Q E
theorem Qn{t:Ad}(T:Txt K mg w t):bL P w K mg base fP 2 t.oz t.tW ["words"]  (K9 K):=by
 refine T.HP.F.gB EO λH Q E A h=>?_
 ·obtain⟨l,ns,rfl,n,C,s,y,k⟩:=h
  refine⟨_,(ao (b4 (PW.pt (Uv (qT wC (xL (pv 0) az) bu) (LQ (qT tE (lS T.fR (pv 0)) az)))) cH br) (oR (dP (kO EO ["word"] [none]) rfl (dB (lN zZ (pv 0) (mG az) wD)) (λ_ _ _ _=>by exact (gS 0 Jx)) (λ_ _ _ _=>by exact eK) (λ_ _ _ _=>by exact (cG (wo T) A T.qW (cX (pv 0))))))),?_⟩
  left
  have m:(fz (TX.wordsOf "names" ns)).length=ns.length+1:=by simp[TX.wordsOf]
  refine⟨_,rfl,l,_,_,_,rfl,rfl,bC.of n,Eb,rfl,_,rfl,rz (by rw[eO rfl];rfl) ?_⟩;refine⟨_,rfl,l,_,rfl,.inl (bC.of n),_,_,rfl,rfl,_,rfl,rz (by rw[m];exact e8 ∅) ?_⟩;refine⟨_,rfl,_,rfl,l,_,rfl,bC.of n,λj f=>?_⟩;rw[wK];have q:=aC.new (o:=.lst (fz (ns.map TX.num))) f;have d:=aq (H:=H) (a:=j) (o:=.lst (fz (ns.map TX.num)));generalize upd H j (.lst (fz (ns.map TX.num)))=H2 at q d;have c:(fz (ns.map TX.num)).length=ns.length:=-_
  refine⟨j,rfl,⟨_,bC.of d⟩,λp b=>?_⟩;refine LC (λi=>ns[i]?.map V.int) b (bC.of d) ∅ (λi x u R S e v s d=>?_) (λu v r=>?_)
  ·have g:i<ns.length:=by have:=(ai.mp e).1;lia
   have B:x=.str (TX.num ns[i]):=by
    simp only[ak,aa g,ux,Option.some.injEq] at e;exact e.symm
   subst B;exact⟨_,rfl,ns[i],rfl,C _ (aD g),λD z=>s _ _ z (by rw[aa g];rfl)⟩
  ·rw[c,Aa] at r
   exact k p u (q.trans v) (q.free b) r
structure y9(nm:List Int)(rs cl:List (List Int)):Prop where
 h1:∀n∈nm,TX.Wr n
 h2:∀r∈rs,∀n∈r,TX.Wr n
 h3:∀r∈cl,∀n∈r,TX.Wr n
 a1:1<=nm.length
 l1:nm.length<=12
 l2:∀r∈rs,r.length=5
 l3:∀r∈cl,r.length=2
 m2:rs.length<=30
 m3:cl.length<=30
theorem y9.sum{nm:List Int}{rs cl:List (List Int)}(g:y9 nm rs cl):((TX.partsOf nm rs cl).map (·.length)).sum+(TX.partsOf nm rs cl).length*TX.aak.length<=100000 :=
 TX.aal g.h1 g.h2 g.h3 g.l1 (λr a=>by rw[g.l2 r a];decide) (λr a=>by rw[g.l3 r a];decide) g.m2 g.m3
theorem y9.text{nm:List Int}{rs cl:List (List Int)}(g:y9 nm rs cl):(TX.nW nm rs cl).length<=100000:=by
 unfold TX.nW;rw[TX.join_eq];exact ay (StrLaws.join_length_le _ _) g.sum
theorem y9.part{nm:List Int}{rs cl:List (List Int)}(g:y9 nm rs cl){p:Str}(d:p∈TX.partsOf nm rs cl):p.length<=100000:=by
 have b:∀{l:List Nat} {x:Nat},x∈l->x<=l.sum:=λ{l x} h=>by
  induction l with
  |nil=>cases h
  |cons a l c =>
   rw[lE];rcases aV.mp h with rfl|h
   ·lia
   ·have:=c h
    lia
 have:=b (aF.mpr ⟨p,d,rfl⟩:p.length∈(TX.partsOf nm rs cl).map (·.length))
 have:=g.sum
 lia
inductive ON(K:af)(vs:List V)(H:Hp)(Q:VK)(E:XK):Prop
 |mk (nm:List Int) (rs cl:List (List Int)):vs=[.str (TX.nW nm rs cl)]->y9 nm rs cl->(∀p l0 l1 l2 H',aC H H'->H l0=none->H l1=none->H l2=none->l0≠l1->l0≠l2->l1≠l2->H' p=some (.tup [.ref l0,.ref l1,.ref l2])->H' l0=some (.lst (nm.map V.int))->TL K H' l1 rs->TL K H' l2 cl->Q (.ref p) H')->ON K vs H Q E
theorem Ug{t:Ad}(T:Txt K mg w t):bL P w K mg base fP 3 t.rH t.wX ["text"]  (ON K):=by
 refine T.KG.F.gB jr λH Q E hr h=>?_
 ·obtain⟨nm,rs,cl,rfl,G,k⟩:=h
  refine⟨_,(ao (mZ (i:=1) jr.nd rfl (Or.inl rfl) (kO jr ["part"] [none]) rfl (dB (jJ bY PySem.F.slot_str_split PySem.F.type_str_split Mv (pv 0) (cX bu))) (λ_ _ _ _=>by exact (gS 0 Lh)) (λ_ _ _ _=>by exact eK) (λ_ _ _ _=>by exact (Sm K rfl bY PySem.F.slot_str_split PySem.F.type_str_split Mv (pv 0) (cX bu)))) (ao (sS 2 jr (cG (Qn T) hr T.HP (cX (xL (pv 1) az)))) (ao (sS 3 jr (dY fF)) (ao (sS 4 jr (dY fF)) (ao (fS (dB (lN zZ (pv 1) (mG az) wD)) (gT 5 jr) (bQ (b4 (PW.pt (uD (qT lD (xL (pv 5) az) bu) (nO (qT z5 (pv 4) (dY fF))))) (oE (jJ bJ bO bN gq (pv 3) (cX (bS EJ (by rfl) T.YR boot_tuple (cX (cG (tD T) hr T.oZ (jD (lN zZ (pv 5) (mG az) wD) (iu rfl T.Nk (v:=.int 5) ⟨_,rfl⟩)))))))) (bQ (b4 (qT lD (xL (pv 5) az) bu) (oE (jJ bJ bO bN gq (pv 4) (cX (bS EJ (by rfl) T.YR boot_tuple (cX (cG (tD T) hr T.oZ (jD (lN zZ (pv 5) (mG az) wD) (iu rfl T.JE (v:=.int 2) ⟨_,rfl⟩)))))))) cH))))) (oR (dG (Jc (pv 2) (pv 3) (pv 4))))))))),?_⟩
  left
  refine⟨_,rfl,rfl,_,_,rfl,rfl,(by decide +kernel),G.text,λlp hlp=>?_⟩;rw[show Txt.split (TX.nW nm rs cl) _=TX.partsOf nm rs cl from TX.Xh G.h1 G.h2 G.h3];have u1:=aC.new (o:=.lst (fz (TX.partsOf nm rs cl))) hlp;have D:=aq (H:=H) (a:=lp) (o:=.lst (fz (TX.partsOf nm rs cl)));generalize upd H lp (.lst (fz (TX.partsOf nm rs cl)))=H1 at u1 D;refine⟨lp,rfl,⟨_,bC.of D⟩,λm Z=>?_⟩;have hwl:(TX.zj nm rs cl).length=(TX.partsOf nm rs cl).length:=by rw[<- TX.Ku G.h1 G.h2 G.h3,ah]
  have hpl:(TX.partsOf nm rs cl).length<=61:=by
   rw[<- hwl,TX.Sl]
   have:=G.m2
   have:=G.m3
   lia
  refine gG (n:=(fz (TX.partsOf nm rs cl)).length) (λi ys H3=>∃c:List Addr,ys=c.map V.ref/\S1 H3 c ((TX.zj nm rs cl).take i)/\∀p∈c,p≠m) Z (m5 (bC.of D)) (g5 (bC.of D)) ⟨[],rfl,⟨rfl,λi p ws e=>by cases e⟩,λp hp=>by cases hp⟩ ?_ ?_
  ·rintro i ys H3 hi s3 hy ⟨c,rfl,f,nps⟩ x H4 ⟨rfl,hx⟩
   have hx:=hx _ (s3.seq (bC.of D));have hi':i<(TX.partsOf nm rs cl).length:=by rw[ah] at hi;exact hi
   have ex:x=.str (TX.partsOf nm rs cl)[i]:=by
    simp only[ak,aa hi',ux,Option.some.injEq] at hx;exact hx.symm
   subst ex;have hw:(TX.zj nm rs cl)[i]?=some (Txt.split (TX.partsOf nm rs cl)[i] TX.tO):=by
    rw[<- TX.Ku G.h1 G.h2 G.h3,ak,aa hi'];rfl
   refine⟨_,rfl,rfl,_,_,rfl,rfl,(by decide +kernel),G.part (aD hi'),λp hp=>?_⟩;have u4:=aC.new (o:=.lst ((Txt.split (TX.partsOf nm rs cl)[i] TX.tO).map V.str)) hp;have WD:=u4 _ _ hy;have npa:p≠m:=(aJ hy hp).symm;have asK:c.length=i:=by rw[f.len,bU];lia
   refine fH Z hi (s3.trans u4) WD (by rw[ah];exact bX ∅) ⟨c++[p],-_,?_,?_⟩
   ·rw[pG,hw]
    have hs:=(f.mono u4).snoc (p:=p) (ws:=Txt.split (TX.partsOf nm rs cl)[i] TX.tO) aq;refine⟨hs.len,λj q ws a b=>?_⟩;have nq:q≠m:=by
     rcases bx.mp (aI a) with z|z
     ·exact nps q z
     ·rw[aX.mp z]
      exact npa
    rw[aK nq];exact hs.at' j q ws a b
   ·intro q hq
    rcases bx.mp hq with z|z
    ·exact nps q z
    ·rw[aX.mp z]
     exact npa
  rintro ys H3 s3 hy ⟨c,rfl,f,nps⟩;rw[show (fz (TX.partsOf nm rs cl)).length=(TX.zj nm rs cl).length by rw[hwl,ah],jB] at f;have s03:=u1.trans s3;have hp0:0<c.length:=by rw[f.len,TX.Sl];lia
  have aou:Kn (c.map V.ref) 0=some (.ref c[0]):=dD (j:=0) (by rw[ak,aa hp0];rfl);have hn0:H3 c[0]=some (.lst (fz (TX.wordsOf "names" nm))):=f.at' 0 _ _ (aa hp0) rfl;refine⟨_,rfl,m,_,_,_,rfl,rfl,bC.of hy,aou,c[0],nm,rfl,hn0,G.h1,G.a1,ay G.l1 (!_),λl0 H4 s4 JG h04=>?_⟩;have s04:=s03.trans s4;have WD:=s4 _ _ hy;have ali:=f.mono s4;have nl0:=s03.free JG;refine⟨be _,λl1 hl1=>?_⟩;have u5:=aC.new (o:=.lst []) hl1;have YA:=aq (H:=H4) (a:=l1) (o:=.lst []);have n01:l0≠l1:=aJ h04 hl1;have nl1:=s04.free hl1;have h05:=u5 _ _ h04;have Ys:=u5 _ _ WD;have Y:=ali.mono u5;have s05:=s04.trans u5;generalize upd H4 l1 (.lst [])=H5 at u5 YA h05 Ys Y s05;refine⟨be _,λl2 B=>?_⟩;have u6:=aC.new (o:=.lst []) B;have h26:=aq (H:=H5) (a:=l2) (o:=.lst []);have n02:l0≠l2:=aJ h05 B;have n12:l1≠l2:=aJ YA B;have nl2:=s05.free B;have W:=u6 _ _ YA;have h06:=u6 _ _ h05;have hy6:=u6 _ _ Ys;have np2:∀i p,c[i]?=some p->p≠l2:=λi p e=>by
   have hlt:=(ai.mp e).1;rw[Y.len] at hlt;exact aJ (Y.at' i p _ e (aa hlt)) B
  have afy:=Y.mono u6;have s06:=s05.trans u6;generalize upd H5 l2 (.lst [])=H6 at u6 h26 W h06 hy6 afy s06;have np1:∀i p ws,c[i]?=some p->(TX.zj nm rs cl)[i]?=some ws->ws≠[]->p≠l1:=λi p ws e e2 hw z=>by
   have q:=afy.at' i p ws e e2;rw[z,W] at q;have q:([]:List V)=fz ws:=HO.lst.inj (aR q);cases ws with
   |nil=>exact hw rfl
   |cons a b=>cases q
  refine⟨_,rfl,_,rfl,m,_,rfl,bC.of hy6,λl7 hl7=>?_⟩;have aoA:Ez (c.map V.ref) (some 1) none=(c.drop 1).map V.ref:=by
   have:=Mh (c.map V.ref) 1
   rw[show ((1:Nat):Int)=1 from rfl] at this;rw[this,List.map_drop]
  rw[aoA];have u7:=aC.new (o:=.lst ((c.drop 1).map V.ref)) hl7;have h77:=aq (H:=H6) (a:=l7) (o:=.lst ((c.drop 1).map V.ref));have n71:l7≠l1:=(aJ W hl7).symm;have n72:l7≠l2:=(aJ h26 hl7).symm;have X:=afy.mono u7;have s07:=s06.trans u7;have h07:=u7 _ _ h06;have h17:=u7 _ _ W;have h27:=u7 _ _ h26;generalize upd H6 l7 (.lst ((c.drop 1).map V.ref))=H7 at u7 h77 X s07 h07 h17 h27;have asO:c.length=1+rs.length+cl.length:=by rw[X.len,TX.Sl]
  have hdl:((c.drop 1).map V.ref).length=rs.length+cl.length:=by rw[ah,rR];lia
  refine⟨l7,rfl,⟨_,bC.of h77⟩,uE (K:=K) (a:=l7) (xs:=(c.drop 1).map V.ref) (λi σ C=>(∀b o,H7 b=some o->b≠l1->b≠l2->C b=some o)/\TL K C l1 (rs.take i)/\TL K C l2 (cl.take (i-rs.length))/\∃v5:Option V,σ=[some (.str (TX.nW nm rs cl)),some (.ref m),some (.ref l0),some (.ref l1),some (.ref l2),v5])
   ⟨λb o e _ _=>e,⟨[],h17,jo.nil⟩,⟨[],h27,by rw[Nat.zero_sub,List.take_zero];exact jo.nil⟩,_,rfl⟩ (λi σ C _ z=>bC.of (z.1 _ _ h77 n71 n72)) ?_ ?_⟩
  ·rintro i y σ C hi ⟨kp,d,M,v5,rfl⟩
   have hil:=(ai.mp hi).1;rw[hdl] at hil;have hip:i+1<c.length:=∅
   have ey:y=.ref c[i+1]:=by
    rw[ak,List.getElem?_drop,Nat.add_comm 1 i,aa hip] at hi;exact (aR hi).symm
   subst ey;generalize hq:c[i+1]=pw;have s:c[i+1]?=some pw:=by rw[aa hip,hq]
   by_cases hr':i<rs.length
   ·have ew:=TX.ack (nm:=nm) (cl:=cl) hr'
    have r:=kp _ _ (X.at' _ _ _ s ew) (np1 _ _ _ s ew (by simp[TX.wordsOf])) (np2 _ _ s);refine⟨_,rfl,pw,_,_,_,rfl,rfl,bC.of r,Eb,rfl,_,rfl,QS (eO rfl) ?_⟩;obtain⟨qs2,L,N⟩:=M;have e2:qs2=[]:=by
     have:=N.len
     rw[show i-rs.length=0 by lia,List.take_zero] at this;exact List.length_eq_zero_iff.mp this
    subst e2;refine⟨_,rfl,be _,λl9 hl9=>?_⟩;have S:=aC.new (o:=.lst []) hl9;have h99:=aq (H:=C) (a:=l9) (o:=.lst []);generalize upd C l9 (.lst [])=H9 at S h99;have rp:∀{l:Addr},H9 l=some (.lst [])->Rep K H9 (.list []) (.ref l):=λ{l} e=>⟨l,[],rfl,bC.of e,rfl⟩;refine⟨_,_,rp (S _ _ L),rp h99,rfl,rfl,bq (bI (ay (cQ _ _) (show PyData.depth (.list [])<=64 by decide)) _) hr.units,_,rfl,QS rfl ?_⟩;have aoC:=S _ _ r;obtain⟨qs1,alm,hq1⟩:=d;have aoD:=S _ _ alm;refine⟨_,rfl,.inl ⟨rfl,_,bC.of aoD⟩,_,rfl,_,rfl,pw,_,rfl,bC.of aoC,λg aiQ=>?_⟩;rw[wK];have R:=aC.new (o:=.lst (fz (rs[i].map TX.num))) aiQ;have O:=aq (H:=H9) (a:=g) (o:=.lst (fz (rs[i].map TX.num)));generalize upd H9 g (.lst (fz (rs[i].map TX.num)))=Z5 at R O;have Pb:=aD hr';refine⟨g,rs[i],(by rw[G.l2 _ Pb];rfl),bC.of O,G.h2 _ Pb,(by rw[G.l2 _ Pb];decide),λl11 I n7 afA h11=>?_⟩;refine⟨l11,_,rfl,.inl ⟨bC.of h11,λA aiR=>?_⟩⟩;have J:=aC.new (o:=.tup (rs[i].map V.int)) aiR;have u:=aq (H:=I) (a:=A) (o:=.tup (rs[i].map V.int));generalize upd I A (.tup (rs[i].map V.int))=S7 at J u;have U:=S.trans (R.trans (n7.trans J));have agP:=U _ _ alm;have alp:=hq1.mono U;refine⟨l1,_,_,rfl,rfl,agP,(by rw[ah,hq1.len,bU];exact bX (by have:=G.m2;lia)),?_⟩;refine⟨λb o e n1 n2=>by rw[aK n1];exact U _ _ (kp b o e n1 n2),?_,?_,_,rfl⟩
    ·rw[pG,aa hr']
     exact TL.push agP alp (cR.of u)
    ·rw[show i+1-rs.length=0 by lia,List.take_zero]
     exact⟨[],by rw[aK n12.symm];exact U _ _ L,jo.nil⟩
   ·obtain⟨j,rfl⟩:∃j,i=rs.length+j:=⟨i-rs.length,∅⟩
    have hj:j<cl.length:=∅
    have ew:=TX.acm (nm:=nm) (rs:=rs) hj;have r:=kp _ _ (X.at' _ _ _ s ew) (np1 _ _ _ s ew (by simp[TX.wordsOf])) (np2 _ _ s);refine⟨_,rfl,pw,_,_,_,rfl,rfl,bC.of r,Eb,rfl,_,rfl,rz (e8 (by decide +kernel)) ?_⟩;refine⟨_,rfl,pw,_,_,_,rfl,rfl,bC.of r,Eb,rfl,_,rfl,QS (eO rfl) ?_⟩;obtain⟨qs2,L,N⟩:=M;refine⟨_,rfl,.inl ⟨rfl,_,bC.of L⟩,_,rfl,_,rfl,pw,_,rfl,bC.of r,λg aiQ=>?_⟩;rw[wK];have R:=aC.new (o:=.lst (fz (cl[j].map TX.num))) aiQ;have O:=aq (H:=C) (a:=g) (o:=.lst (fz (cl[j].map TX.num)));generalize upd C g (.lst (fz (cl[j].map TX.num)))=Z5 at R O;have Pb:=aD hj;refine⟨g,cl[j],(by rw[G.l3 _ Pb];rfl),bC.of O,G.h3 _ Pb,(by rw[G.l3 _ Pb];decide),λl11 I n7 afA h11=>?_⟩;refine⟨l11,_,rfl,.inl ⟨bC.of h11,λA aiR=>?_⟩⟩;have J:=aC.new (o:=.tup (cl[j].map V.int)) aiR;have u:=aq (H:=I) (a:=A) (o:=.tup (cl[j].map V.int));generalize upd I A (.tup (cl[j].map V.int))=S7 at J u;have U:=R.trans (n7.trans J);have adH:=U _ _ L;have agQ:=N.mono U;rw[show rs.length+j-rs.length=j by lia] at N agQ;refine⟨l2,_,_,rfl,rfl,adH,(by rw[ah,N.len,bU];exact bX (by have:=G.m3;lia)),?_⟩;refine⟨λb o e n1 n2=>by rw[aK n2];exact U _ _ (kp b o e n1 n2),?_,?_,_,rfl⟩
    ·have d:TL K C l1 rs:=by
      have e:rs.take (rs.length+j)=rs:=jg ∅;rw[e] at d;exact d
     rw[jg (show rs.length<=rs.length+j+1 by lia)];exact (d.mono U).past adH m6 n12 cK
    ·rw[show rs.length+j+1-rs.length=j+1 by lia,pG,aa hj]
     exact TL.push adH agQ (cR.of u)
  ·rintro σ C ⟨kp,d,M,v5,rfl⟩
   rw[hdl,jg ∅] at d;rw[hdl,show rs.length+cl.length-rs.length=cl.length by lia,jB] at M;refine⟨_,rfl,_,rfl,_,rfl,ur,λp9 hp9=>?_⟩;have S:=aC.new (o:=.tup [V.ref l0,.ref l1,.ref l2]) hp9;refine k p9 l0 l1 l2 _ (λb o e=>?_) nl0 nl1 nl2 n01 n02 n12 aq (S _ _ (kp _ _ h07 n01 n02)) (d.mono S) (M.mono S);exact S _ _ (kp _ _ (s07 _ _ e) (aJ e nl1) (aJ e nl2))
end
section
noncomputable abbrev wt(s:NS)(T:Nat->List T3):NS:={s with ts:=T}
variable{ns:List Int}{rs:List R5}{bs:List (List Bool)}{cl:List (Nat×Nat)}{D B:Nat}{s a b:NS}{T:Nat->List T3}
structure kg(a b:NS):Prop where
 e:a=wt b a.ts
 p:∀g,(a.ts g).Perm (b.ts g)
 n1:∀g,c5 (a.ts g)
 n2:∀g,c5 (b.ts g)
theorem kg.ind{C:NS->Prop}(E:kg a b)(h:∀T:Nat->List T3,(∀g,(T g).Perm (b.ts g))->(∀g,c5 (T g))->C (wt b T)):C a:=by
 rw[E.e];exact h _ E.p E.n1
theorem kg.sub{C:NS->Prop}(E:kg a b)(h:∀T:Nat->List T3,kg (wt b T) b->C (wt b T)):C a:=by
 have e:=E.e;rw[e] at E ⊢;exact h _ E
theorem kg.mk'(p:∀g,(T g).Perm (b.ts g))(d:∀g,c5 (T g))(c:∀g,c5 (b.ts g))(e:a=wt b T):kg a b:=by
 subst e;exact⟨rfl,p,d,c⟩
theorem Ui{i:Nat}{d:i7}:cS (wt s T) i d=wt (cS s i d) T:=by
 unfold cS;show (match s.ls[i]? with|some l=>_|none=>_)=_;cases s.ls[i]? <;> rfl
theorem LN{a:Type}{f:NS->a->NS}(h:∀s x,f (wt s T) x=wt (f s x) T):∀(xs:List a) (s:NS),xs.foldl f (wt s T)=wt (xs.foldl f s) T
 |[],s=>rfl
 |x::xs,s=>by
  rw[fC,fC,h];exact LN h xs _
theorem afB{i x:Nat}:pM (wt s T) i x=wt (pM s i x) T:=by
 unfold pM jj;rw[LN λs c=>?_];unfold pL;split
 ·exact Ui
 ·rfl
theorem afC{i h:Nat}(s:NS)(r:Nat):nL rs i h (wt s T) r=wt (nL rs i h s r) T:=by
 unfold nL RE;rw[Ui];rfl
theorem Wi{xs a:List T3}(p:xs.Perm a)(d:c5 xs)(b:c5 a){h c:Int}:uJ xs h c=uJ a h c:=by
 refine Option.ext λr=>?_;rw[QT d,QT b];exact p.mem_iff
theorem kg.do_(E:kg a b){i h:Nat}{l:LS}{b9:Option Nat}{os:List Nat}(hl:b.ls[i]?=some l):kg (RH rs a i h l b9 os) (RH rs b i h l b9 os):=by
 have n2:=E.n2;refine E.ind (C:=λa=>kg (RH rs a i h l b9 os) _) λT p d=>?_;have e:(RH rs b i h l b9 os).ts=b.ts:=(adw hl).ts;refine kg.mk' (T:=T) (by rw[e];exact p) d (by rw[e];exact n2) ?_;have g:OL rs (wt b T) l h b9 os=OL rs b l h b9 os:=by
  unfold OL;show (f5 (T l.grp) _ _ _ _ _).map _=(f5 (b.ts l.grp) _ _ _ _ _).map _;unfold f5;simp only[Wi (p l.grp) (d l.grp) (n2 l.grp)];rfl
 unfold RH;rw[g];show (OL rs b l h b9 os).foldl (nL rs i h) ((pQ b l h).foldl (jT i h) (wt (eU b i h l) T))=_;rw[LN (f:=jT i h) λs c=>Ui (s:=tw s i c),LN afC]
theorem kg.news(E:kg a b)(g:Nat):kg (zS a g) (zS b g):=by
 have n2:=E.n2;refine E.ind (C:=λa=>kg (zS a g) _) λT p c=>kg.mk' (T:=eN T g []) (λk=>?_) (λk=>?_) (λk=>?_) rfl
 ·show (eN T g [] k).Perm (eN b.ts g [] k)
  unfold eN;split
  ·exact .refl _
  ·exact p k
 ·unfold eN
  split
  ·exact iU
  ·exact c k
 ·show c5 (eN b.ts g [] k)
  unfold eN;split
  ·exact iU
  ·exact n2 k
theorem kg.gV(E:kg a b)(e:Int):∀m,kg (gV a e m) (gV b e m)
 |0=>E
 |m+1=>by
  rw[jA,jA];split
  ·exact (E.gV e m).news m
  ·exact E.gV e m
theorem kg.by{f:NS->NS}(E:kg a b)(h:∀T,f (wt b T)=wt (f b) T)(e:(f b).ts=b.ts):kg (f a) (f b):=by
 have n2:=E.n2;exact E.ind (C:=λa=>kg (f a) _) λT p c=>kg.mk' (T:=T) (by rw[e];exact p) c (by rw[e];exact n2) (h T)
theorem kg.call(E:kg a b){g x:Nat}{d:RM.Row}:kg (pN a g x d) (pN b g x d):=by
 have c:a.R=b.R:=by rw[E.e]
 unfold pN;rw[c];split
 ·exact E
 ·refine kg.news ?_ g
  have:=E.by (f:=λs=>{s with R:=eN b.R g (RM.upd (b.R g) x d)}) (λT=>rfl) rfl
  exact this
theorem kg.move(E:kg a b){x h:Nat}:kg (wm a x h) (wm b x h):=by
 refine E.sub (C:=λa=>kg (wm a x h) _) λT E=>?_;unfold wm;show kg (if b.aN[x]?=some h then wt b T else zS (wt {b with aN:=b.aN.set x h} T) (b.groups.getD x 0)) _;split
 ·exact E
 ·exact kg.news (E.by (f:=λs=>{s with aN:=b.aN.set x h}) (λT=>rfl) rfl) _
theorem kg.lose(E:kg a b){i x:Nat}:kg (pM a i x) (pM b i x):=E.by (f:=λs=>pM s i x) (λT=>afB) (DU (s:=b) (i:=i) (x:=x) b.cps.length (aB _)).2.2.1
theorem kg.fM(E:kg a b){i:Nat}{w:List Nat}:kg {a with ws:=a.ws.set i w} {b with ws:=b.ws.set i w}:=E.by (f:=λs=>{s with ws:=s.ws.set i w}) (λT=>rfl) rfl
theorem kg.yY(E:kg a b){i x:Nat}{w:List Nat}{e:Int}:kg (we a i x w e) (we b i x w e):=by
 unfold we;split
 ·exact (E.fM.lose).gV e 3
 ·exact E.fM.lose
theorem kg.lay(E:kg a b){i:Nat}{w w2:List Nat}{e:Int}:kg (GX a i w w2 e) (GX b i w w2 e):=by
 unfold GX;split
 ·exact E.fM.gV e 3
 ·exact E.fM
theorem kg.post(E:kg a b){x:Nat}{to:Option Nat}{os:List Nat}:kg (zU rs a x to os) (zU rs b x to os):=by
 refine E.sub (C:=λa=>kg (zU rs a x to os) _) λT E=>?_;exact kg.do_ (a:=wt (tH b x to) T) (E.by (f:=λs=>tH s x to) (λT=>rfl) rfl) uh
theorem kg.pass(E:kg a b){k:Nat}{cp:Cp}{l:LS}{os:List Nat}{ts us:List T3}(hl:b.ls[cp.l]?=some l)(q:ts.Perm us)(i:c5 ts)(h:c5 us):kg (kR rs a k cp l os ts) (kR rs b k cp l os us):=by
 have c:kg (lz a k cp l os) (lz b k cp l os):=E.by (f:=λs=>lz s k cp l os) (λT=>rfl) rfl;have d:kg (dw a k cp l os ts) (dw b k cp l os us):=by
  unfold dw;split
  ·exact c
  ·have n2:=c.n2
   refine c.ind (C:=λa=>kg (V7 a l.grp ts) _) λT p e=>kg.mk' (T:=eN T l.grp ts) (λg=>?_) (λg=>?_) (λg=>?_) rfl
   ·show (eN T l.grp ts g).Perm (eN _ l.grp us g)
    unfold eN;split
    ·exact q
    ·exact p g
   ·unfold eN
    split
    ·exact i
    ·exact e g
   ·show c5 (eN _ l.grp us g)
    unfold eN;split
    ·exact h
    ·exact n2 g
 unfold kR;split
 ·exact d.do_ (rO hl)
 ·exact c
theorem D9{xs a:List T3}(p:xs.Perm a){h c r:Int}:(put3 xs h c r).Perm (put3 a h c r):=by
 unfold put3;exact (p.filter _).append_right _
inductive rP where
 |round (g:Nat)|rest (g:Nat)|row (h g:Nat)|WH (g:Nat)|call (h g:Nat)|yY (i x:Nat)|lay (i x:Nat)|move (c h:Nat)|post (c:Nat) (to:Option Nat)|pass (k:Nat)|run|flying|had (c:Nat)|tK (i:Nat)
noncomputable abbrev nm_(n:Nat):Str:=TX.num (n:Int)
noncomputable def rP.hd:rP->Str
 |.round _=>"round"|.rest _=>"rest"|.row _ _=>"row"|.WH _=>"open"|.call _ _=>"call"|.yY _ _=>"fall"|.lay _ _=>"lay"|.move _ _=>"move"|.post _ _=>"post"|.pass _=>"pass"|.run=>"run"|.flying=>"flying"|.had _=>"had"|.tK _=>"story"
noncomputable def rP.jS:rP->List Int
 |.round g=>[g]|.rest g=>[g]|.row h g=>[h,g]|.WH g=>[g]|.call h g=>[h,g]|.yY i x=>[i,x]|.lay i x=>[i,x]|.move c h=>[c,h]|.post c to=>(c:Int)::(to.map λy:Nat=>(y:Int)).toList|.pass k=>[k]|.run=>[]|.flying=>[]|.had c=>[c]|.tK i=>[i]
noncomputable def rP.isAll:rP->Bool
 |.post _ none=>true
 |_=>false
noncomputable def rP.words(c:rP):List Str:=c.hd::(c.jS.map TX.num++(if c.isAll then ["all"] else []:List Str))
noncomputable def rP.text(c:rP):Str:=Txt.join TX.tO c.words
noncomputable def RK:V->Str
 |.int i=>TX.num i
 |.str z=>z
 |_=>"-"
noncomputable def wu(vs:List V):Str:=if vs.isEmpty then "-" else Txt.join TX.tO (vs.map RK)
variable{ns:List Int}{rs:List R5}(o:cD ns rs)
inductive je(g:Nat):Nat->NS->Nat->NS->Prop
 |zero (s:NS):je g 0 s 0 s
 |succ {n k:Nat} {s s1:NS} {d:RM.Row}:je g n s k s1->RM.zd (N:=rY ns rs o s1.ws g) ns.length (s1.R g) n d->z6 ns.length rs.length d->je g (n+1) s (k+if d=s1.R g n then 0 else 1) (pN s1 g n d)
inductive Ps(k:Nat)(s:NS)(x:Str)(s':NS):Prop
 |mk (cp:Cp) (l:LS) (os:List Nat) (ts:List T3):s.cps[k]?=some cp->s.ls[cp.l]?=some l->ji (rY ns rs o s.ws l.grp) (s.R l.grp) os->os.length<=12->ts.Perm (put3 (s.ts l.grp) cp.h l.s cp.r)->c5 ts->s'=kR rs s k cp l os ts->x=DT l cp os->Ps k s x s'
inductive Rn:NS->Nat->NS->Prop
 |zero (s:NS):Rn s 0 s
 |succ {k:Nat} {s s1 s2:NS} {x:Str}:Rn s k s1->Ps o 0 s1 x s2->Rn s (k+1) s2
def Lw(s:NS):rP->Str->NS->Prop
 |.round g,x,s'=>∃k,je o g ns.length s k s'/\x=nm_ k
 |.rest g,x,s'=>s'=s/\∃y:Bool,(y=true↔RM.Rest (rY ns rs o s.ws g) (s.R g))/\x=if y then "yes" else "no"
 |.row h g,x,s'=>s'=s/\x=wu (cC (s.R g h))
 |.WH g,x,s'=>s'=s/\∃os,ji (rY ns rs o s.ws g) (s.R g) os/\x=wu (bE os)
 |.call h g,x,s'=>∃d,RM.zd (N:=rY ns rs o s.ws g) ns.length (s.R g) h d/\z6 ns.length rs.length d/\s'=pN s g h d/\x=if d=s.R g h then "same" else "new"
 |.yY i y,x,s'=>∃w r,s.ws[i]?=some w/\rs[i]?=some r/\s'=we s i y w r.e/\x=if (w.filter λz=>decide (z≠y)).isEmpty then "ends" else "same"
 |.lay i y,x,s'=>∃w r w2,s.ws[i]?=some w/\rs[i]?=some r/\w2.Perm (w++[y])/\w2.Pairwise (·<=·)/\s'=GX s i w w2 r.e/\x=if w.isEmpty then "begins" else "same"
 |.move c h,x,s'=>s'=wm s c h/\x = "ok"
 |.post c to,x,s'=>∃os,ji (rY ns rs o s.ws (s.groups.getD c 0)) (s.R (s.groups.getD c 0)) os/\os.length<=12/\s'=zU rs s c to os/\x=nm_ s.ls.length
 |.pass k,x,s'=>Ps o k s x s'
 |.run,x,s'=>∃k,Rn o s k s'/\s'.cps=[]/\x=nm_ k
 |.flying,x,s'=>s'=s/\x=nm_ s.cps.length
 |.had c,x,s'=>s'=s/\x=wu (bE (s.had.getD c []))
 |.tK i,x,s'=>s'=s/\∃l,s.ls[i]?=some l/\x=Txt.join ", " (l.aG.map λd=>wu d.vs)
def Fits(ns:List Int)(rs:List R5)(s:NS):rP->Prop
 |.round g=>g<3
 |.rest g=>g<3
 |.row h g=>h<ns.length/\g<3
 |.WH g=>g<3
 |.call h g=>h<ns.length/\g<3
 |.yY i y=>∃w r,s.ws[i]?=some w/\rs[i]?=some r/\y∈w
 |.lay i y=>∃w r,s.ws[i]?=some w/\rs[i]?=some r/\(y:Int)<r.d/\y∉w
 |.move c h=>c<s.aN.length/\h<ns.length
 |.post c to=>c<s.aN.length/\∀y,to=some y->y<s.aN.length/\s.groups[y]?=s.groups[c]?
 |.pass k=>k<s.cps.length
 |.run=>True
 |.flying=>True
 |.had c=>c<s.aN.length
 |.tK i=>i<s.ls.length
variable{o}
theorem je.eq2{g n k f:Nat}{a b p j:NS}(E:kg a b)(r:je o g n a k p)(c:je o g n b f j):k=f/\kg p j:=by
 induction r generalizing f j with
 |zero=>cases c;exact⟨rfl,E⟩
 |@succ n k s m d _ hd _ t =>
  cases c with
  |@succ _ v _ q w c h _ =>
   obtain⟨e,i⟩:=t E c;have u:m.ws=q.ws:=by rw[i.e]
   have l:m.R=q.R:=by rw[i.e]
   rw[u,l] at hd
   have:=hd.uniq h
   subst this;rw[l,e];exact⟨rfl,i.call⟩
theorem Ps.eq2{k:Nat}{a b h g:NS}{x y:Str}(E:kg a b)(r:Ps o k a x h)(u:Ps o k b y g):x=y/\kg h g:=by
 obtain⟨H,l,os,G,i,d,c,_,B,A,rfl,rfl⟩:=r;obtain⟨C,m,F,D,s,f,n,_,q,t,rfl,rfl⟩:=u;have z:a.ws=b.ws:=by rw[E.e]
 have j:a.R=b.R:=by rw[E.e]
 have w:a.ls=b.ls:=by rw[E.e]
 have v:a.cps=b.cps:=by rw[E.e]
 rw[v,s] at i;cases i;rw[w,f] at d;cases d;rw[z,j] at c
 have:=c.uniq n
 subst this;exact⟨rfl,E.pass f (B.trans ((D9 (E.p l.grp)).trans q.symm)) A t⟩
theorem Rn.eq2:∀{k:Nat} {a b d c:NS},kg a b->Rn o a k d->Rn o b k c->kg d c
 |0,_,_,_,_,E,.zero _,.zero _=>E
 |k+1,_,_,_,_,E,.succ e h,.succ g f=>(Ps.eq2 (Rn.eq2 E e g) h f).2
theorem Rn.cut{k:Nat}{s s':NS}(h:Rn o s k s'):∀j,j<k->∃t,Rn o s j t/\t.cps≠[]:=by
 induction h with
 |zero=>intro j a;exact eL a (uz _)
 |@succ k s d e x h p c =>
  intro j a;rcases Nat.lt_succ_iff_lt_or_eq.mp a with a|rfl
  ·exact c j a
  ·refine⟨d,h,λz=>?_⟩
   obtain⟨g,l,os,f,b,_⟩:=p;rw[z] at b;cases b
theorem Rn.ends{k m:Nat}{a b g f:NS}(E:kg a b)(c:Rn o a k g)(d:Rn o b m f)(n:g.cps=[])(l:f.cps=[]):k=m/\kg g f:=by
 have j:∀{a b:NS},kg a b->a.cps=b.cps:=λE=>by rw[E.e]
 have e:k=m:=by
  rcases Nat.lt_trichotomy k m with z|z|z
  ·obtain⟨t,h,i⟩:=d.cut k z
   exact eL ((j (Rn.eq2 E c h)).symm.trans n) i
  ·exact z
  ·obtain⟨t,h,i⟩:=c.cut m z
   exact eL ((j (Rn.eq2 E h d)).trans l) i
 subst e;exact⟨rfl,Rn.eq2 E c d⟩
theorem Lw.eq2{c:rP}{a b H G:NS}{x y:Str}(E:kg a b)(f:Lw o a c x H)(j:Lw o b c y G):x=y/\kg H G:=by
 have s:a.ws=b.ws:=by rw[E.e]
 have q:a.R=b.R:=by rw[E.e]
 have I:a.ls=b.ls:=by rw[E.e]
 have T:a.cps=b.cps:=by rw[E.e]
 have P:a.groups=b.groups:=by rw[E.e]
 have V:a.had=b.had:=by rw[E.e]
 cases c with
 |round g =>
  obtain⟨k,l,rfl⟩:=f;obtain⟨m,p,rfl⟩:=j;obtain⟨rfl,C⟩:=je.eq2 E l p;exact⟨rfl,C⟩
 |rest g =>
  obtain⟨rfl,u,n,rfl⟩:=f;obtain⟨rfl,v,A,rfl⟩:=j;rw[s,q] at n
  have:u=v:=ku.mpr (n.trans A.symm)
  exact⟨by rw[this],E⟩
 |row h g =>
  obtain⟨rfl,rfl⟩:=f;obtain⟨rfl,rfl⟩:=j;exact⟨by rw[q],E⟩
 |WH g =>
  obtain⟨rfl,u,n,rfl⟩:=f;obtain⟨rfl,v,A,rfl⟩:=j;rw[s,q] at n;exact⟨by rw[n.uniq A],E⟩
 |call h g =>
  obtain⟨d,hd,_,rfl,rfl⟩:=f;obtain⟨X,B,_,rfl,rfl⟩:=j;rw[s,q] at hd
  have:=hd.uniq B
  subst this;exact⟨by rw[q],E.call⟩
 |yY i z =>
  obtain⟨w,r,t,l,rfl,rfl⟩:=f;obtain⟨S,U,D,p,rfl,rfl⟩:=j;rw[s,D] at t;cases t;rw[p] at l;cases l;exact⟨rfl,E.yY⟩
 |lay i z =>
  obtain⟨w,r,u,t,l,W,M,rfl,rfl⟩:=f;obtain⟨S,U,v,D,p,J,N,rfl,rfl⟩:=j;rw[s,D] at t;cases t;rw[p] at l;cases l
  have:u=v:=(W.trans J.symm).eq_of_pairwise (λ_ _ _ _ h Q=>Nat.le_antisymm h Q) M N
  subst this;exact⟨rfl,E.lay⟩
 |move c h =>
  obtain⟨rfl,rfl⟩:=f;obtain⟨rfl,rfl⟩:=j;exact⟨rfl,E.move⟩
 |post c Y =>
  obtain⟨os,F,_,rfl,rfl⟩:=f;obtain⟨Z,K,_,rfl,rfl⟩:=j;rw[s,q,P] at F
  have:=F.uniq K
  subst this;exact⟨by rw[I],E.post⟩
 |pass k=>exact Ps.eq2 E f j
 |run =>
  obtain⟨k,l,O,rfl⟩:=f;obtain⟨m,p,L,rfl⟩:=j;obtain⟨rfl,C⟩:=Rn.ends E l p O L;exact⟨rfl,C⟩
 |flying =>
  obtain⟨rfl,rfl⟩:=f;obtain⟨rfl,rfl⟩:=j;exact⟨by rw[T],E⟩
 |had c =>
  obtain⟨rfl,rfl⟩:=f;obtain⟨rfl,rfl⟩:=j;exact⟨by rw[V],E⟩
 |tK i =>
  obtain⟨rfl,u,n,rfl⟩:=f;obtain⟨rfl,v,A,rfl⟩:=j;rw[I,A] at n;cases n;exact⟨rfl,E⟩
end
section
variable{ns:List Int}{rs:List R5}{o:cD ns rs}{bs:List (List Bool)}{cl:List (Nat×Nat)}{D B n:Nat}{s s':NS}
theorem Wj(b:s'.cps.length<=s.cps.length)(a:Wg s'=Wg s):Ph n rs s'<=Ph n rs s:=by
 have e:∀s:NS,Ph n rs s=s.cps.length+((Wg s).map (BF n rs)).sum:=λs=>by unfold Ph Wg;rw[bP];rfl
 rw[e,e,a];lia
theorem afD{g x:Nat}{d:RM.Row}:Ph n rs (pN s g x d)<=Ph n rs s:=by
 unfold pN;split
 ·exact aB _
 ·exact Wj (aB _) Ew
theorem afE{x y:Nat}:Ph n rs (wm s x y)<=Ph n rs s:=by
 unfold wm;split
 ·exact aB _
 ·exact Wj (aB _) Ew
theorem afF{i x:Nat}{w:List Nat}{e:Int}:Ph n rs (we s i x w e)<=Ph n rs s:=by
 have a:Ph n rs (pM {s with ws:=s.ws.set i (w.filter λz=>decide (z≠x))} i x)<=Ph n rs s:=Wj (bD _ _) (Ue (s:={s with ws:=s.ws.set i (w.filter λz=>decide (z≠x))}));unfold we;split
 ·exact ay (Wj (by rw[J9];exact aB _) (DV 3)) a
 ·exact a
theorem aiS{i:Nat}{w w2:List Nat}{e:Int}:Ph n rs (GX s i w w2 e)<=Ph n rs s:=by
 unfold GX;split
 ·exact Wj (by rw[J9];exact aB _) (DV (s:={s with ws:=s.ws.set i w2}) 3)
 ·exact aB _
structure TB(ns:List Int)(rs:List R5):Prop where
 n:∀x∈ns,x<10^50
 c:∀r∈rs,r.c<=10^41
def RB(ns:List Int)(s:NS):Prop:=∀g,g<3->∀h,h<ns.length->(s.R g h).hd<10^50/\(s.R g h).co<=(s.R g h).ho*10^41
theorem Uj{e:Int}:∀m,(gV s e m).R=s.R
 |0=>rfl
 |m+1=>by
  have a:=Uj (e:=e) m;rw[jA];split <;> exact a
theorem RB.of(h:RB ns s)(e:s'.R=s.R):RB ns s':=by
 unfold RB;rw[e];exact h
theorem aiT{g x:Nat}{d:RM.Row}(b:TB ns rs)(h:RB ns s)(i:g<3)(a:x<ns.length)(hd:RM.zd (N:=rY ns rs o s.ws g) ns.length (s.R g) x d):d.hd<10^50/\d.co<=d.ho*10^41:=by
 rcases hd.one with rfl|⟨k,y,e,_,rfl⟩
 ·refine⟨?_,Int.le_refl _⟩
  show ns.getD x 0<_;rw[aj,aa a];exact b.n _ (aD a)
 ·obtain⟨j,l⟩:=h g i y e.lt.2.1
  refine⟨j,?_⟩;have f:k<rs.length:=uO k e.1;have m:=b.c _ (aD f);show (s.R g y).co+((rs[k]?).map λr=>r.c).getD 0<=((s.R g y).ho+1)*10^41;rw[aa f,Int.add_mul];show (s.R g y).co+rs[k].c<=_;lia
theorem RB.call{g x:Nat}{d:RM.Row}(c:TB ns rs)(h:RB ns s)(b:g<3)(f:x<ns.length)(hd:RM.zd (N:=rY ns rs o s.ws g) ns.length (s.R g) x d):RB ns (pN s g x d):=by
 have i:=aiT c h b f hd;unfold pN;split
 ·exact h
 ·intro k e y a
  show (eN s.R g (RM.upd (s.R g) x d) k y).hd<_/\(eN s.R g (RM.upd (s.R g) x d) k y).co<=(eN s.R g (RM.upd (s.R g) x d) k y).ho*_;unfold eN;split
  ·unfold RM.upd
   split
   ·exact i
   ·exact h g b y a
  ·exact h k e y a
def mV(d:i7):Prop:=∀k∈dI d,0<=k/\k<=1000
structure IV(s:NS):Prop where
 hb:∀w∈s.had,∀i∈w,i<s.ls.length
 db:∀l∈s.ls,∀d∈l.aG,mV d
theorem IV.of(h:IV s)(b:s'.had=s.had)(a:s'.ls.length=s.ls.length)(e:∀c∈s'.ls,∀d∈c.aG,mV d):IV s':=⟨by rw[b,a];exact h.hb,e⟩
theorem IV.news(h:IV s)(g:Nat):IV (zS s g):=by
 refine h.of rfl (GZ Ew) λc a=>?_;obtain⟨l,b,rfl⟩:=aF.mp a
 have:(DQ g l).aG=l.aG:=by unfold DQ;split <;> rfl
 rw[this];exact h.db l b
theorem IV.gV(h:IV s)(e:Int):∀m,IV (gV s e m)
 |0=>h
 |m+1=>by
  rw[jA];split
  ·exact (h.gV e m).news m
  ·exact h.gV e m
theorem afG{i:Nat}{d:i7}(h:∀l∈s.ls,∀d∈l.aG,mV d)(a:mV d):∀l∈(cS s i d).ls,∀d∈l.aG,mV d:=by
 refine K8 (P:=λl=>∀d∈l.aG,mV d) (Q:=λl=>∀d∈l.aG,mV d) h (λl z=>z) (λl z e b=>?_);rcases bx.mp b with y|y
 ·exact z e y
 ·rw[aX.mp y]
  exact a
theorem IV.lose(h:IV s){i x:Nat}(m:i<=1000)(f:∀c∈s.cps,c.h<=1000):IV (pM s i x):=by
 have e:∀(cs:List Cp) (b:NS),(∀c∈cs,c.h<=1000)->(∀l∈b.ls,∀d∈l.aG,mV d)->∀l∈(cs.foldl (pL i x) b).ls,∀d∈l.aG,mV d:=λcs=>by
  induction cs with
  |nil=>exact λb _ z=>z
  |cons c cs g =>
   intro b a z;rw[fC];refine g _ (λc f=>a c (aM _ f)) ?_;unfold pL;split
   ·have:=a c aL
    refine afG z λk j=>?_
    have:k=(c.h:Int)∨k=(i:Int):=by simpa [dI] using j
    lia
   ·exact z
 exact h.of (DU (s:=s) (i:=i) (x:=x) s.cps.length (aB _)).2.2.2.2.2 (GZ Ue) (e _ _ (λc z=>f c (List.mem_of_mem_take z)) h.db)
theorem Wk{n i h:Nat}(b:i<n):∀(cs:List Nat) (s:NS),(∀w∈s.had,∀k∈w,k<n)->∀w∈(cs.foldl (jT i h) s).had,∀k∈w,k<n
 |[],s,z=>z
 |c::cs,s,z=>by
  rw[fC];refine Wk b cs _ ?_;have e:(jT i h s c).had=s.had.set c (s.had.getD c []++[i]):=GY.2.2.2.2.2;rw[e];intro w f k d;rcases dM f with y|rfl
  ·exact z w y k d
  ·rcases bx.mp d with y|y
   ·rw[aj] at y
    cases a:s.had[c]? with
    |none=>rw[a] at y;cases y
    |some w=>rw[a] at y;exact z w (aI a) k y
   ·rw[aX.mp y]
    exact b
theorem RL{i h:Nat}:∀(a:List Nat) (s:NS),(a.foldl (nL rs i h) s).had=s.had
 |[],s=>rfl
 |r::a,s=>by
  rw[fC,RL a];exact GY.2.2.2.2.2
theorem IV.do_(h:IV s){i y:Nat}{l:LS}{b9:Option Nat}{os:List Nat}(hl:s.ls[i]?=some l)(u:y<=1000)(x:s.aN.length<=20)(o:∀r∈os,r<=1000)(j:∀r k,pP s.ws r k<=1000):IV (RH rs s i y l b9 os):=by
 have n:=(ai.mp hl).1;obtain⟨g,e⟩:=Wc (rs:=rs) (os:=os) (h:=y) (b9:=b9) hl;have p:(RH rs s i y l b9 os).ls.length=s.ls.length:=by rw[e];exact bg
 refine⟨by rw[p];unfold RH;rw[RL];exact Wk n _ _ h.hb,λm a d f k b=>?_⟩;rw[e] at a;rcases dM a with z|rfl
 ·exact h.db m z d f k b
 ·rcases bx.mp f with z|z
  ·exact h.db l (aI hl) d z k b
  ·rcases bx.mp z with z|z
   ·obtain⟨c,t,rfl⟩:=aF.mp z
    have:=OM.1 c t
    have:k=(y:Int)∨k=(c:Int):=by simpa [dI] using b
    lia
   ·obtain⟨r,q,rfl⟩:=aF.mp z
    have v:=o r (Uc.1 r q);have w:=j r (rN l)
    have:k=(y:Int)∨k=(r:Int)∨k=(pP s.ws r (rN l):Int):=by simpa [dI] using b
    lia
theorem Zt(o:cD ns rs)(h:SD ns rs bs cl D s)(r k:Nat):pP s.ws r k<=1000:=by
 unfold pP;cases e:s.ws[r]? with
 |none=>exact be _
 |some w =>
  show w.getD _ 0<=_;rw[aj];cases f:w[k%w.length]? with
  |none=>exact be _
  |some x =>
   show x<=1000;rw[h.ws,ak] at e;cases c:bs[r]? with
   |none=>rw[c] at e;cases e
   |some b =>
    rw[c] at e;cases e;have g:=i6.mp (aI f);have d:=(ai.mp g).1;have a:r<rs.length:=by rw[<- h.fit.1];exact (ai.mp c).1
    have:=h.fit.2 r _ b (aa a) c
    have:=(o.ok _ (aD a)).d4
    lia
theorem IV.post(h:IV s){x:Nat}{to:Option Nat}{os:List Nat}(c:s.aN.getD x 0<=1000)(m:s.aN.length<=20)(g:∀r∈os,r<=1000)(e:∀r k,pP s.ws r k<=1000):IV (zU rs s x to os):=by
 have b:(tH s x to).ls.length=s.ls.length+1:=by show (s.ls++[_]).length=_;rw[aA];rfl
 refine IV.do_ (s:=tH s x to) ⟨λw z i f=>?_,λl b d a=>?_⟩ uh c m g e
 ·rw[b]
  exact Nat.lt_succ_of_lt (h.hb w z i f)
 ·rcases bx.mp b with z|z
  ·exact h.db l z d a
  ·rw[aX.mp z] at a
   rw[aX.mp a];intro k j
   have:k=((s.aN.getD x 0:Nat):Int):=by simpa [dI] using j
   lia
theorem IV.pass(h:IV s){a:Nat}{cp:Cp}{l:LS}{os:List Nat}{ts:List T3}(hl:s.ls[cp.l]?=some l)(i:cp.h<=1000)(q:cp.r<=1000)(p:s.aN.length<=20)(n:∀r∈os,r<=1000)(j:∀r k,pP s.ws r k<=1000):IV (kR rs s a cp l os ts):=by
 have c:IV (lz s a cp l os):=by
  refine h.of rfl bg λm f d g=>?_;rcases dM f with z|rfl
  ·exact h.db m z d g
  ·rcases bx.mp g with z|z
   ·exact h.db l (aI hl) d z
   ·rw[aX.mp z]
    intro k b
    have:k=(cp.h:Int)∨k=(cp.r:Int):=by
     unfold pC at b;split at b
     ·split at b <;> simpa [dI] using b
     ·simpa [dI] using b
    lia
 have o:IV (dw s a cp l os ts):=by
  unfold dw;split
  ·exact c
  ·exact c.of rfl rfl c.db
 have e:(dw s a cp l os ts).ws=s.ws/\(dw s a cp l os ts).aN=s.aN:=by unfold dw;split <;> exact⟨rfl,rfl⟩
 unfold kR;split
 ·exact o.do_ (rO hl) i (by rw[e.2];exact p) n (by rw[e.1];exact j)
 ·exact c
def SK(ns:List Int)(rs:List R5)(bs:List (List Bool))(cl:List (Nat×Nat))(B:Nat)(s:NS):Prop:=∃D,SD ns rs bs cl D s/\D+100*Ph ns.length rs s<=B/\RB ns s/\IV s
theorem SK.mono{a:Nat}(h:SK ns rs bs cl B s)(e:B<=a):SK ns rs bs cl a s:=by
 obtain⟨D,b,d,c⟩:=h;exact⟨D,b,ay d e,c⟩
theorem SK.call{g x:Nat}{d:RM.Row}(e:TB ns rs)(h:SK ns rs bs cl B s)(b:g<3)(c:x<ns.length)(f:RM.zd (N:=rY ns rs o s.ws g) ns.length (s.R g) x d)(j:z6 ns.length rs.length d):SK ns rs bs cl B (pN s g x d):=by
 obtain⟨D,i,l,k,a⟩:=h
 have:=afD (n:=ns.length) (rs:=rs) (s:=s) (g:=g) (x:=x) (d:=d)
 refine⟨D,i.call j,∅,k.call e b c f,?_⟩;unfold pN;split
 ·exact a
 ·exact IV.news (s:={s with R:=eN s.R g (RM.upd (s.R g) x d)}) ⟨a.hb,a.db⟩ g
theorem SK.rnd{g m k:Nat}(a:TB ns rs)(h:SK ns rs bs cl B s)(d:g<3)(f:m<=ns.length)(r:je o g m s k s'):SK ns rs bs cl B s':=by
 induction r with
 |zero=>exact h
 |succ _ b c e=>exact (e h ∅).call a d ∅ b c
theorem aiU{a:Nat}{cp:Cp}{l:LS}{os:List Nat}{ts:List T3}(hl:s.ls[cp.l]?=some l):(kR rs s a cp l os ts).R=s.R:=by
 unfold kR;split
 ·obtain⟨c,b,e,d⟩:=IC (s:=s) (a:=a) (cp:=cp) (l:=l) (os:=os) (ts:=ts)
  exact (Ud (rs:=rs) (h:=cp.h) (b9:=some cp.r) (os:=os) (rO (a:=a) (os:=os) (ts:=ts) hl)).2.1.trans b
 ·rfl
theorem adJ{g:Nat}{os:List Nat}(O:ji (rY ns rs o s.ws g) (s.R g) os):∀r∈os,r<=1000:=λr a=>by
 have:=Mi O r a
 have:=o.LD
 lia
theorem SK.ps{k:Nat}{x:Str}(h:SK ns rs bs cl B s)(p:Ps o k s x s'):SK ns rs bs cl B s'/\Ph ns.length rs s'+1<=Ph ns.length rs s:=by
 obtain⟨D,a,q,j,i⟩:=h;obtain⟨m,l,os,ts,d,b,O,c,e,g,rfl,rfl⟩:=p;have n:=a.bd.cl m (aI d);have f:=aft (ts:=ts) (Fo.of O) d b n.2.2;exact⟨⟨D+100,a.pass o b (ai.mp d).1 O c e g,∅,j.of (aiU b),i.pass b (by have:=o.Lc;lia) (by have:=o.LD;lia) a.bd.pI (adJ O) (Zt o a)⟩,f⟩
theorem SK.rn{k:Nat}(h:SK ns rs bs cl B s)(r:Rn o s k s'):SK ns rs bs cl B s':=by
 induction r with
 |zero=>exact h
 |succ _ p a=>exact ((a h).ps p).1
theorem aiV{i x:Nat}{w:List Nat}{e:Int}:(we s i x w e).R=s.R:=by
 have a:(pM {s with ws:=s.ws.set i (w.filter λz=>decide (z≠x))} i x).R=s.R:=(DU (s:={s with ws:=s.ws.set i (w.filter λz=>decide (z≠x))}) (i:=i) (x:=x) s.cps.length (aB _)).2.1;unfold we;split
 ·exact (Uj 3).trans a
 ·exact a
theorem alr{i:Nat}{w w2:List Nat}{e:Int}:(GX s i w w2 e).R=s.R:=by
 unfold GX;split
 ·exact Uj (s:={s with ws:=s.ws.set i w2}) 3
 ·rfl
noncomputable def XW(bs:List (List Bool)):rP->List (List Bool)
 |.yY i x=>bs.set i ((bs.getD i []).set x false)
 |.lay i x=>bs.set i ((bs.getD i []).set x true)
 |_=>bs
noncomputable def als:rP->Nat
 |.post _ _=>1
 |_=>0
theorem SD.wire{i:Nat}{w:List Nat}(h:SD ns rs bs cl D s)(a:s.ws[i]?=some w):∃b,bs[i]?=some b/\w=stand b/\bs.getD i []=b:=by
 rw[h.ws,ak] at a;cases e:bs[i]? with
 |none=>rw[e] at a;cases a
 |some b =>
  rw[e] at a;cases a;exact⟨b,rfl,rfl,by rw[aj,e];rfl⟩
theorem SK.aoG{c:rP}{x:Str}(J:TB ns rs)(h:SK ns rs bs cl B s)(f:Fits ns rs s c)(d:Lw o s c x s'):∃t,SK ns rs (XW bs c) t (B+5000) s'/\t.map (·.2)=cl.map (·.2):=by
 have hm:=h.mono (rQ B 5000);cases c with
 |round g =>
  obtain⟨k,r,_⟩:=d;exact⟨cl,hm.rnd J f (aB _) r,rfl⟩
 |rest g=>obtain⟨rfl,_⟩:=d;exact⟨cl,hm,rfl⟩
 |row h g=>obtain⟨rfl,_⟩:=d;exact⟨cl,hm,rfl⟩
 |WH g=>obtain⟨rfl,_⟩:=d;exact⟨cl,hm,rfl⟩
 |call h g =>
  obtain⟨d,M,E,rfl,_⟩:=d;exact⟨cl,hm.call J f.2 f.1 M E,rfl⟩
 |yY i z =>
  obtain⟨w,r,u,A,rfl,_⟩:=d;obtain⟨D,a,G,m,j⟩:=hm;obtain⟨b,hb,rfl,F⟩:=a.wire u
  have:=afF (n:=ns.length) (rs:=rs) (s:=s) (i:=i) (x:=z) (w:=stand b) (e:=r.e)
  exact⟨cl,⟨D,by show SD ns rs (bs.set i ((bs.getD i []).set z false)) _ _ _;rw[F];exact a.yY o hb r.e,∅,m.of aiV,by
   have R:i<=1000:=by have:=(ai.mp A).1;have:=o.LD;lia
   have p:IV (pM {s with ws:=s.ws.set i ((stand b).filter λy=>decide (y≠z))} i z):=IV.lose (s:={s with ws:=s.ws.set i ((stand b).filter λy=>decide (y≠z))}) ⟨j.hb,j.db⟩ R λc v=>by have:=(a.bd.cl c v).2.2;have:=o.Lc;lia
   unfold we;split
   ·exact p.gV r.e 3
   ·exact p⟩,rfl⟩
 |lay i z =>
  obtain⟨w,r,w2,u,A,Q,N,rfl,_⟩:=d;obtain⟨V,U,K,L,T,I⟩:=f;rw[u] at K;cases K;rw[A] at L;cases L;obtain⟨D,a,G,m,j⟩:=hm;obtain⟨b,hb,rfl,F⟩:=a.wire u;have S:(b.length:Int)=r.d:=a.fit.2 i r b A hb;have H:b[z]?=some false:=by
   have q:z<b.length:=∅
   rw[i6,aa q] at I;rw[aa q];cases e:b[z] with
   |false=>rfl
   |true=>rw[e] at I;exact eL rfl I
  have P:=aae H Q N;subst P
  have:=aiS (n:=ns.length) (rs:=rs) (s:=s) (i:=i) (w:=stand b) (w2:=stand (b.set z true)) (e:=r.e)
  exact⟨cl,⟨D,by show SD ns rs (bs.set i ((bs.getD i []).set z true)) _ _ _;rw[F];exact a.lay o hb r.e,∅,m.of alr,by
   have p:IV {s with ws:=s.ws.set i (stand (b.set z true))}:=⟨j.hb,j.db⟩;unfold GX;split
   ·exact p.gV r.e 3
   ·exact p⟩,rfl⟩
 |move c y =>
  obtain⟨rfl,_⟩:=d;obtain⟨D,a,G,m,j⟩:=hm;have v:c<cl.length:=by have:=f.1;rw[a.hm,ah] at this;exact this
  have:=afE (n:=ns.length) (rs:=rs) (s:=s) (x:=c) (y:=y)
  refine⟨cl.set c (y,cl[c].2),⟨D,a.move v f.2,∅,m.of (by unfold wm;split <;> rfl),by
   unfold wm;split
   ·exact j
   ·exact IV.news (s:={s with aN:=s.aN.set c y}) ⟨j.hb,j.db⟩ _⟩,?_⟩
  rw[lB];refine uP ?_;rw[ak,aa v];rfl
 |post c to =>
  obtain⟨os,O,C,rfl,_⟩:=d;obtain⟨D,a,G,m,j⟩:=h;have E:s.aN.getD c 0<ns.length:=by
   rw[aj,aa f.1];exact a.bd.hm _ (aD f.1)
  have:=afs (to:=to) (Fo.of O) E
  have:=o.LD
  exact⟨cl,⟨D+100,a.post o f.1 O C,∅,m.of (Ud (rs:=rs) (s:=tH s c to) (i:=s.ls.length) (l:={pB s c to with aG:=[.post (s.aN.getD c 0)]}) uh).2.1,j.post (by have:=o.Lc;lia) a.bd.pI (adJ O) (Zt o a)⟩,rfl⟩
 |pass k=>exact⟨cl,(hm.ps d).1,rfl⟩
 |run =>
  obtain⟨k,r,_⟩:=d;exact⟨cl,hm.rn r,rfl⟩
 |flying=>obtain⟨rfl,_⟩:=d;exact⟨cl,hm,rfl⟩
 |had c=>obtain⟨rfl,_⟩:=d;exact⟨cl,hm,rfl⟩
 |tK i=>obtain⟨rfl,_⟩:=d;exact⟨cl,hm,rfl⟩
theorem je.ln{g m k:Nat}(r:je o g m s k s'):s'.ls.length=s.ls.length/\k<=m:=by
 induction r with
 |zero=>exact⟨rfl,aB _⟩
 |@succ n k s b d _ _ _ a =>
  refine⟨Zs.trans a.1,?_⟩
  have:=a.2
  split <;> lia
theorem Rn.ln{k:Nat}(r:Rn o s k s'):s'.ls.length=s.ls.length:=by
 induction r with
 |zero=>rfl
 |succ _ p b =>
  obtain⟨d,l,os,c,_,a,_,_,_,_,rfl,_⟩:=p;exact (Wh a).trans b
theorem Lw.ln{c:rP}{x:Str}(d:Lw o s c x s'):s'.ls.length=s.ls.length+als c:=by
 cases c with
 |round g=>obtain⟨k,r,_⟩:=d;exact r.ln.1
 |rest g=>obtain⟨rfl,_⟩:=d;rfl
 |row h g=>obtain⟨rfl,_⟩:=d;rfl
 |WH g=>obtain⟨rfl,_⟩:=d;rfl
 |call h g=>obtain⟨d,_,_,rfl,_⟩:=d;exact Zs
 |yY i z=>obtain⟨w,r,_,_,rfl,_⟩:=d;exact afx
 |lay i z=>obtain⟨w,r,b,_,_,_,_,rfl,_⟩:=d;exact aiN
 |move c y=>obtain⟨rfl,_⟩:=d;exact afw
 |post c e=>obtain⟨os,_,_,rfl,_⟩:=d;exact adD
 |pass k=>obtain⟨j,l,os,f,_,a,_,_,_,_,rfl,_⟩:=d;exact Wh a
 |run=>obtain⟨k,r,_⟩:=d;exact r.ln
 |flying=>obtain⟨rfl,_⟩:=d;rfl
 |had c=>obtain⟨rfl,_⟩:=d;rfl
 |tK i=>obtain⟨rfl,_⟩:=d;rfl
theorem SK.eq2{a b:NS}(h:SK ns rs bs cl B a)(E:kg a b):SK ns rs bs cl B b:=by
 obtain⟨D,c,o,q,m⟩:=h;have k:a.ws=b.ws:=by rw[E.e]
 have n:a.R=b.R:=by rw[E.e]
 have d:a.ls=b.ls:=by rw[E.e]
 have i:a.cps=b.cps:=by rw[E.e]
 have j:a.groups=b.groups:=by rw[E.e]
 have l:a.had=b.had:=by rw[E.e]
 have f:a.aN=b.aN:=by rw[E.e]
 refine⟨D,⟨⟨k▸c.ok.wl,k▸c.ok.w4,n▸c.ok.fit⟩,⟨by rw[<- j,<- f];exact c.bd.gl,f▸c.bd.pI,j▸c.bd.g3,f▸c.bd.hm,by rw[<- l,<- f];exact c.bd.hl,l▸c.bd.hb,d▸c.bd.ll,by rw[<- d,<- i];exact c.bd.lb,i▸c.bd.cb,by rw[<- d,<- i];exact c.bd.cl,λg=>⟨by rw[<- (E.p g).length_eq];exact (c.bd.tb g).1,E.n2 g⟩⟩,k▸c.ws,c.fit,f▸c.hm,j▸c.gr⟩,?_,q.of n.symm,⟨by rw[<- l,<- d];exact m.hb,d▸m.db⟩⟩;unfold Ph at o ⊢;rw[<- d,<- i];exact o
theorem Fits.eq2{a b:NS}{c:rP}(f:Fits ns rs a c)(E:kg a b):Fits ns rs b c:=by
 have e:Fits ns rs (wt b a.ts) c:=E.e▸f;cases c <;> exact e
end
section
variable{P:Program}{w:World}{K:af}{mg:Str->Option Value}{base:Heap}
inductive OO:V->Prop
 |dH:OO .dH
 |int {i:Int} (h:TX.Wr i):OO (.int i)
 |str {z:Str} (h:z.length<=60):OO (.str z)
theorem eZ{i:Int}(h:TX.Wr i):i.natAbs.log2<1920:=by
 obtain⟨b,a⟩:=h;refine bq (Nat.le_of_lt_succ ?_) (show 200<1920 by decide);by_cases z:i.natAbs=0
 ·rw[z];decide
 ·rw[Nat.log2_lt z]
  have:i.natAbs<10^60:=∅
  exact Nat.lt_trans this (!_)
theorem XX{v:V}(h:OO v):(RK v).length<=60:=by
 cases h with
 |dH=>decide
 |int h=>exact (TX.iV h).2
 |str h=>exact h
inductive Kc(vs:List V)(H:Hp)(Q:VK)(E:XK):Prop
 |mk (v:V):vs=[v]->OO v->Q (.str (RK v)) H->Kc  vs H Q E
theorem wz{t:Ad}(T:Txt K mg w t):bL P w K mg base fP 1 t.zB t.El ["told"]  Kc:=by
 refine T.uo.F.gB Xq λH Q E c h=>?_
 ·obtain⟨v,rfl,b,k⟩:=h
  refine⟨_,(oR (jI (qT R1 (pv 0) lF) bu (bS Jd (by rfl) T.zI boot_str (cX (pv 0))))),?_⟩
  left
  refine⟨_,rfl,rfl,_,rfl,?_⟩;cases b with
  |dH=>exact dZ k
  |int a=>exact rz (e8 λz=>by cases z) ⟨_,rfl,.inl ⟨_,rfl,eZ a,k⟩⟩
  |str d=>exact rz (e8 λz=>by cases z) ⟨_,rfl,.inr ⟨_,rfl,k⟩⟩
theorem jX{J:It}{n:Nat}{l:List (Option Nat)}{g:TG}{v:TT}{w:TE}{B:L2.St}{z:Hp->Prop}{h:Hp}{d:Addr}(C:Nat->V)(f:Nat->V)(e:h d=none)
 (go:∀i H,i<n->aC h H->J.go i H) (stop:∀H,aC h H->J.stop n H) (Qx:∀i H x a,i<n->aC h H->J.Qx i H x a->a=H/\x=C i) (E:n<=1000000)
 (step:∀(i:Nat) (H:Hp) (R:V->Hp->Prop) (S:Hp->Prop),i<n->aC h H->(∀a,aC H a->R (f i) a) ->
  g (C i) (jK l B) H λc r=>v c r λb j=>if b=true then w c j R else S j)
 (p:∀H,aC h H->H d=some (.lst ((au n).map f))->z H) :
 ∃W:Nat->Nat->Hp->Prop,(∃m,W 0 m (upd h d (.lst [])))/\∀i m H,W i m H ->
  (J.stop i H/\z H)∨(J.go i H/\∀x a,J.Qx i H x a->g x (jK l B) a λc r=>v c r λb j=>if b=true then w c j λy u=>∃xs,u d=some (.lst xs)/\xs.length<sizeLine /\
   ∃k,k<m/\W (i+1) k (upd u d (.lst (xs++[y]))) else ∃k,k<m/\W (i+1) k j):=by
 refine gG (n:=n) (λi t _=>t=(au i).map f) e go stop rfl ?_ ?_
 ·rintro i t H q s o rfl x a D
  obtain⟨rfl,rfl⟩:=Qx i H x a q s D;refine step i a _ _ q s (λu A=>?_);refine fH e q (s.trans A) (A _ _ o) (by rw[ah,bz,sizeLine_eq];lia) ?_;show _=(au (i+1)).map f;rw[fB,aU];rfl
 ·rintro t H s o rfl
  exact p H s o
theorem map_getD{a:Type}{xs:List V}(f:V->a):(au xs.length).map (λi=>f (xs.getD i .dH))=xs.map f:=by
 refine iA (-_) λi c b=>?_;simp only[rS,nB,aj];rw[aa (by simpa using b)];rfl
theorem Kd{a:List Str}{z:Str}(h:∀y∈a,y.length<=60)(hl:a.length<=210000)(d:z.length<=2):(a.map (·.length)).sum+a.length*z.length<=16777216:=by
 have b:=TX.Cd (l:=a.map (·.length)) (B:=60) λx e=>by
  obtain⟨y,c,rfl⟩:=aF.mp e;exact h y c
 rw[ah] at b;have f:a.length*z.length<=a.length*2:=Nat.mul_le_mul_left _ d;lia
inductive Wl(K:af)(vs:List V)(H:Hp)(Q:VK)(E:XK):Prop
 |mk (a:Addr) (xs:List V):vs=[.ref a]->(bC K H a xs∨cR K H a xs)->(∀x∈xs,OO x)->xs.length<=210000->(∀H',aC H H'->Q (.str (wu xs)) H')->Wl K vs H Q E
theorem Ex{t:Ad}(T:Txt K mg w t):bL P w K mg base fP 2 t.CB t.Hz ["numbers"]  (Wl K):=by
 refine T.C2.F.gB Q8 λH Q E B h=>?_
 ·obtain⟨a,c,rfl,hS,r,C,k⟩:=h
  refine⟨_,(oR (jI (IX (pv 0) (λ_=>rfl)) (jJ bY ee d9 z9 bu (cX (dP (kO Q8 ["number"] [none]) rfl (ahP (dB (pv 0)) (R0 (pv 0))) (λ_ _ _ _=>by exact (gS 0 SJ)) (λ_ _ _ _=>by exact eK) (λ_ _ _ _=>by exact (cG (wz T) B T.uo (cX (pv 0))))))) bu)),?_⟩
  left
  refine⟨_,rfl,!c.isEmpty,hS.elim (λz=>.inl ⟨c,z,rfl⟩) (λz=>.inr (.inl ⟨c,z,rfl⟩)),?_⟩;cases e:c.isEmpty with
  |true =>
   refine dO ?_
   have:=k H (aC.refl _)
   unfold wu at this;rw[e] at this;exact this
  |false =>
   refine dZ ?_;have u:wu c=Txt.join TX.tO (c.map RK):=by unfold wu;rw[e];rfl
   rw[u] at k;refine⟨rfl,?_⟩;have q:∀(i:Nat) (b:Hp) (R:V->Hp->Prop),i<c.length->(∀s,aC b s->R (.str (RK (c.getD i .dH))) s)->Kc [c.getD i .dH] b R λ_ _ _=>False:=λi b R m o=>by
    refine⟨_,rfl,?_,o b (aC.refl _)⟩;rw[aj,aa m];exact r _ (aD m)
   have p:∀(d:Addr) (b:Hp),aC H b->b d=some (.lst ((au c.length).map λi=>V.str (RK (c.getD i .dH))))->rJoin K (.str " ") [.ref d] b Q:=λd b g l=>by
    rw[map_getD λv=>V.str (RK v)] at l;refine⟨_,d,c.map RK,rfl,rfl,bC.of (by rw[bP];exact l),Kd (λy l=>?_) (by rw[ah];exact C) (!_),k b g⟩;obtain⟨x,f,rfl⟩:=aF.mp l;exact XX (r x f)
   rcases hS with hS|hS
   ·refine .inl ⟨_,rfl,a,rfl,⟨_,hS⟩,λd j=>?_⟩
    refine jX (n:=c.length) (λi=>c.getD i .dH) (λi=>V.str (RK (c.getD i .dH))) j (m5 hS) (g5 hS) (λi b x A m g f=>?_) ∅ (λi b R S m g o=>?_) (λb g l=>p d b g l)
    ·obtain⟨rfl,f⟩:=f
     have f:=f _ (g.seq hS);exact⟨rfl,by rw[aj,f];rfl⟩
    ·exact⟨_,rfl,q i b R m o⟩
   ·refine .inr ⟨_,rfl,a,rfl,⟨_,hS⟩,λd j=>?_⟩
    refine jX (n:=c.length) (λi=>c.getD i .dH) (λi=>V.str (RK (c.getD i .dH))) j (Mg hS) (BY hS) (λi b x A m g f=>?_) ∅ (λi b R S m g o=>?_) (λb g l=>p d b g l)
    ·obtain⟨rfl,f⟩:=f
     have f:=f _ (g.cV hS);exact⟨rfl,by rw[aj,f];rfl⟩
    ·exact⟨_,rfl,q i b R m o⟩
noncomputable def rP.vals:rP->List V
 |.round g=>[.int g]|.rest g=>[.int g]|.row h g=>[.int h,.int g]|.WH g=>[.int g]|.call h g=>[.int h,.int g]|.yY i x=>[.int i,.int x]|.lay i x=>[.int i,.int x]|.move c h=>[.int c,.int h]|.post c to=>[.int c,Ja (to.map λy:Nat=>(y:Int))]|.pass k=>[.int k]|.run=>[]|.flying=>[]|.had c=>[.int c]|.tK i=>[.int i]
noncomputable def rP.kd:rP->Nat
 |.call _ _=>0|.round _=>1|.rest _=>2|.row _ _=>3|.WH _=>4|.yY _ _=>5|.lay _ _=>6|.move _ _=>7|.post _ _=>8|.pass _=>9|.run=>10|.flying=>11|.had _=>12|.tK _=>13
noncomputable abbrev aoH(tp:Addr)(loc:Role->Addr):List (Str×V):=[("town",.ref tp),("strands",.ref (loc .cN)),("rows_by_group",.ref (loc .uN)),("books",.ref (loc .jZ)),("homes",.ref (loc .aN)),("groups",.ref (loc .groups)),("handed",.ref (loc .iG)),("letters",.ref (loc .cz)),("copies",.ref (loc .fj))]
theorem _root_.TW.cj.ob{c:NC}{H:Hp}{F:Addr->Prop}{p e:Addr}{n:Nat}{s:NS}(N:cj K c H F p e n s):∃(d:Addr) (a:Role->Addr),H p=some (.ins c.b5 d (aoH e a)):=by
 obtain⟨a,d,q,f,O,h,g⟩:=N;have b:=O.get .b5 _ rfl;rw[f] at b;exact⟨_,a,b⟩
inductive tL(K:af)(CT:Addr)(c:NC)(m:Nat)(vs:List V)(H:Hp)(Q:VK)(E:XK):Prop
 |mk (F:Addr->Prop) (p tp ln lr l:Addr) (ns:List Int) (rs:List R5) (o:cD ns rs) (bs:List (List Bool)) (cl:List (Nat×Nat)) (B:Nat) (s:NS) (cmd:rP):vs=[.ref p,.ref l]->cmd.kd=m->bC K (Off H F) l cmd.vals->NW K c CT H F p tp ln lr ns rs s->TB ns rs->SK ns rs bs cl B s->B<=205000->Fits ns rs s cmd->(∀a s' F' H',Lw o s cmd a s'->cj K c H' F' p tp ns.length s'->Step H F H' F'->Q (.str a) H')->tL K CT c m vs H Q E
theorem gz{n:Nat}(h:n<=1000000):TX.Wr (n:Int):=⟨Int.natCast_nonneg _,by have:((1000000:Nat):Int)<10^60:=(by decide);lia⟩
theorem Zu{l:List Nat}{B:Nat}(b:B<=1000000)(h:∀x∈l,x<=B):∀x∈bE l,OO x:=λx c=>by
 obtain⟨k,a,rfl⟩:=aF.mp c;exact .int (gz (ay (h k a) b))
theorem OP{t:Ad}(T:Txt K mg w t):bL P w K mg base fP 5 t.gK t.qJ ["net","numbers"]  (tL K t.aP (nc t) 0):=by
 refine T.EW.F.gB MW λH Q E C h=>?_
 ·obtain⟨F,p,v,r,J,l,q,G,o,S,U,B,s,a,rfl,z,b,N,O,u,M,f,k⟩:=h
  obtain⟨x,g,W⟩:∃x g,a=.call x g:=by cases a <;> first|exact⟨_,_,rfl⟩|cases z
  subst a;refine⟨_,(oR (jI (mW (cM (pv 0) T.aY T.vt (xw T) C (jD (xL (pv 1) az) (xL (pv 1) az)))) bu bu)),?_⟩
  left
  obtain⟨Y,y,I⟩:=N.b5.ob;obtain⟨D,A,L,V,X⟩:=id u;have b:=cE.seq b;refine⟨_,rfl,p,_,_,rfl,I,rfl,_,rfl,l,_,_,_,rfl,rfl,b,rfl,_,rfl,l,_,_,_,rfl,rfl,b,rfl,F,p,v,r,J,q,G,s,o,x,g,rfl,N,A.ok,f.1,f.2,λd j m c i n st2 _=>⟨_,rfl,?_⟩⟩;by_cases e:d=s.R g x
  ·rw[eO e]
   exact dO (k _ _ j m ⟨d,c,i,rfl,by rw[b3 e]⟩ n st2)
  ·rw[e8 e]
   exact dZ (k _ _ j m ⟨d,c,i,rfl,by rw[eH e]⟩ n st2)
theorem OQ{t:Ad}(T:Txt K mg w t):bL P w K mg base fP 6 t.gM t.qK ["net","numbers"]  (tL K t.aP (nc t) 2):=by
 refine T.EX.F.gB MX λH Q E v h=>?_
 ·obtain⟨F,p,n,j,A,l,i,x,o,J,L,B,s,a,rfl,r,c,N,I,m,G,f,k⟩:=h
  obtain⟨g,O⟩:∃g,a=.rest g:=by cases a <;> first|exact⟨_,rfl⟩|cases r
  subst a;refine⟨_,(oR (jI (mW (cM (pv 0) T.aY T.yj (DP T) v (cX (xL (pv 1) az)))) bu bu)),?_⟩
  left
  obtain⟨S,q,z⟩:=N.b5.ob;obtain⟨D,u,C,M,R⟩:=id m;have c:=cE.seq c;refine⟨_,rfl,p,_,_,rfl,z,rfl,_,rfl,l,_,_,_,rfl,rfl,c,rfl,F,p,n,j,A,i,x,s,o,g,rfl,N,u.ok,f,λy e b d=>⟨_,rfl,?_⟩⟩;cases y with
  |true=>exact dZ (k _ _ F e ⟨rfl,true,d,rfl⟩ (N.b5.mono b) (Step.refl' b))
  |false=>exact dO (k _ _ F e ⟨rfl,false,d,rfl⟩ (N.b5.mono b) (Step.refl' b))
theorem adL{ns:List Int}{rs:List R5}{s:NS}(o:cD ns rs)(ok:BI ns rs s)(k:RB ns s){h g:Nat}(b:h<ns.length)(a:g<3):∀x∈cC (s.R g h),OO x:=by
 have c:=ok.fit g a h b;obtain⟨d,f⟩:=k g a h b;have Lc:=o.Lc;have LD:=o.LD;generalize s.R g h=r at c d f;obtain⟨j,l,n,m⟩:=c;intro x i;have v:(10:Int)^50<10^60:=!_
 have p:(20:Int)<10^60:=!_
 have u:(10:Int)*10^41<10^60:=!_
 have t:r.ho*10^41<=10*10^41:=Int.mul_le_mul_of_nonneg_right ∅ (!_)
 have:x=.int r.hd∨x=.int r.co∨x=.int r.ho∨x=jC r.by_:=by simpa [cC] using i
 rcases this with rfl|rfl|rfl|rfl
 ·exact .int ⟨j,∅⟩
 ·exact .int ⟨l,∅⟩
 ·exact .int ⟨n.1,∅⟩
 ·rcases m with e|⟨e,q⟩
  ·rw[e]
   exact .dH
  ·rw[aZ ∅]
   exact .int ⟨e,∅⟩
theorem Qo{t:Ad}(T:Txt K mg w t):bL P w K mg base fP 4 t.iM t.tX ["net","numbers"]  (tL K t.aP (nc t) 3):=by
 refine T.HQ.F.gB Pq λH Q E d h=>?_
 ·obtain⟨F,p,n,j,I,l,i,A,o,O,R,B,s,a,rfl,y,b,N,M,m,L,f,k⟩:=h
  obtain⟨x,g,S⟩:∃x g,a=.row x g:=by cases a <;> first|exact⟨_,_,rfl⟩|cases y
  subst a;refine⟨_,(oR (cG (Ex T) d T.C2 (cX (cM (pv 0) T.aY T.AG (FL T) d (jD (xL (pv 1) az) (xL (pv 1) az)))))),?_⟩
  left
  obtain⟨W,v,G⟩:=N.b5.ob;obtain⟨D,z,J,r,U⟩:=id m;have b:=cE.seq b;refine⟨_,rfl,p,_,_,rfl,G,rfl,_,rfl,l,_,_,_,rfl,rfl,b,rfl,_,rfl,l,_,_,_,rfl,rfl,b,rfl,F,p,n,j,I,i,A,s,x,g,rfl,N,f.1,f.2,λq V c C=>?_⟩;exact⟨q,_,rfl,.inr C,adL o z.ok r f.1 f.2,(by show 4<=210000;decide),λu e=>k _ _ F u ⟨rfl,rfl⟩ (N.b5.mono (c.trans e)) (Step.refl' (c.trans e))⟩
theorem OR{t:Ad}(T:Txt K mg w t):bL P w K mg base fP 7 t.gO t.qL ["net","numbers"]  (tL K t.aP (nc t) 4):=by
 refine T.EY.F.gB MY λH Q E j h=>?_
 ·obtain⟨F,p,y,q,L,l,n,I,o,S,U,B,s,b,rfl,C,d,N,R,v,O,f,k⟩:=h
  obtain⟨g,X⟩:∃g,b=.WH g:=by cases b <;> first|exact⟨_,rfl⟩|cases C
  subst b;refine⟨_,(oR (cG (Ex T) j T.C2 (cX (cM (pv 0) T.aY T.xg (Be T) j (cX (xL (pv 1) az)))))),?_⟩
  left
  obtain⟨dx,A,J⟩:=N.b5.ob;obtain⟨D,G,M,W,Y⟩:=id v;have d:=cE.seq d;refine⟨_,rfl,p,_,_,rfl,J,rfl,_,rfl,l,_,_,_,rfl,rfl,d,rfl,F,p,y,q,L,n,I,s,o,g,rfl,N,G.ok,f,λa os Z i V c e r=>?_⟩;have LD:=o.LD;exact⟨a,_,rfl,.inl (bC.of c),Zu (B:=20) (!_) (λx u=>ay (g4 (Mi e x u)) LD),(by rw[ah];lia),λz m=>k _ _ F z ⟨rfl,os,e,rfl⟩ (N.b5.mono (i.trans m)) (Step.refl' (i.trans m))⟩
theorem OT{t:Ad}(T:Txt K mg w t):bL P w K mg base fP 5 t.gP t.qM ["net","numbers"]  (tL K t.aP (nc t) 5):=by
 refine T.EZ.F.gB MZ λH Q E I h=>?_
 ·obtain⟨F,p,A,u,O,l,q,J,o,W,cl,B,s,b,rfl,G,d,N,V,y,U,f,k⟩:=h
  obtain⟨i,x,Y⟩:∃i x,b=.yY i x:=by cases b <;> first|exact⟨_,_,rfl⟩|cases G
  subst b;refine⟨_,(oR (jI (mW (cM (pv 0) T.aY T.Gv (K6 T) I (jD (xL (pv 1) az) (xL (pv 1) az)))) bu bu)),?_⟩
  left
  obtain⟨dx,C,M⟩:=N.b5.ob;obtain⟨D,c,S,X,Z⟩:=id y;have d:=cE.seq d;obtain⟨w,r,g,a,v⟩:=f;have L:=c.bd.cb;refine⟨_,rfl,p,_,_,rfl,M,rfl,_,rfl,l,_,_,_,rfl,rfl,d,rfl,_,rfl,l,_,_,_,rfl,rfl,d,rfl,F,p,A,u,O,q,J,s,i,x,w,r,D,rfl,N,o,c.ok,(λR z=>(c.bd.cl R z).1),(λl z=>by have:=(c.bd.lb l z).1;lia),∅,g,a,v,λm n j st2=>⟨_,rfl,?_⟩⟩;cases e:(w.filter λz=>decide (z≠x)).isEmpty with
  |true=>exact dZ (k _ _ m n ⟨w,r,g,a,rfl,by rw[e];rfl⟩ j.b5 st2)
  |false=>exact dO (k _ _ m n ⟨w,r,g,a,rfl,by rw[e];rfl⟩ j.b5 st2)
theorem Qp{t:Ad}(T:Txt K mg w t):bL P w K mg base fP 5 t.iN t.tY ["net","numbers"]  (tL K t.aP (nc t) 6):=by
 refine T.HR.F.gB Pr λH Q E M h=>?_
 ·obtain⟨F,p,C,y,S,l,v,O,o,X,Y,B,s,b,rfl,J,c,N,W,A,V,f,k⟩:=h
  obtain⟨i,x,ec⟩:∃i x,b=.lay i x:=by cases b <;> first|exact⟨_,_,rfl⟩|cases J
  subst b;refine⟨_,(oR (jI (mW (cM (pv 0) T.aY T.JB (OH T) M (jD (xL (pv 1) az) (xL (pv 1) az)))) bu bu)),?_⟩
  left
  obtain⟨dx,I,R⟩:=N.b5.ob;obtain⟨D,L,U,Z,iv⟩:=id A;have c:=cE.seq c;obtain⟨w,r,d,a,z,G⟩:=f;refine⟨_,rfl,p,_,_,rfl,R,rfl,_,rfl,l,_,_,_,rfl,rfl,c,rfl,_,rfl,l,_,_,_,rfl,rfl,c,rfl,F,p,C,y,S,v,O,s,i,x,w,r,rfl,N,o,L.ok,d,a,z,G,λu n q g m j st2=>⟨_,rfl,?_⟩⟩;cases e:w.isEmpty with
  |true=>exact dZ (k _ _ n q ⟨w,r,u,d,a,g,m,rfl,by rw[e];rfl⟩ j.b5 st2)
  |false=>exact dO (k _ _ n q ⟨w,r,u,d,a,g,m,rfl,by rw[e];rfl⟩ j.b5 st2)
theorem OU{t:Ad}(T:Txt K mg w t):bL P w K mg base fP 4 t.gQ t.qN ["net","numbers"]  (tL K t.aP (nc t) 7):=by
 refine T.E3.F.gB M0 λH Q E u h=>?_
 ·obtain⟨F,p,m,e,A,l,d,v,o,J,L,B,s,a,rfl,r,b,N,I,i,G,f,k⟩:=h
  obtain⟨x,y,O⟩:∃x y,a=.move x y:=by cases a <;> first|exact⟨_,_,rfl⟩|cases r
  subst a;refine⟨_,(ao (dN (cM (pv 0) T.aY T.Gw (K7 T) u (jD (xL (pv 1) az) (xL (pv 1) az)))) (oR bu)),?_⟩
  left
  obtain⟨S,q,z⟩:=N.b5.ob;obtain⟨D,c,C,M,R⟩:=id i;have b:=cE.seq b;exact⟨_,rfl,p,_,_,rfl,z,rfl,_,rfl,l,_,_,_,rfl,rfl,b,rfl,_,rfl,l,_,_,_,rfl,rfl,b,rfl,F,p,m,e,A,d,v,s,x,y,rfl,N,f.1,c.bd.gl,c.bd.g3,f.2,λj n g st2=>k _ _ j n ⟨rfl,rfl⟩ g.b5 st2⟩
theorem OV{t:Ad}(T:Txt K mg w t):bL P w K mg base fP 9 t.gR t.qO ["net","numbers"]  (tL K t.aP (nc t) 8):=by
 refine T.E4.F.gB M2 λH Q E g h=>?_
 ·obtain⟨F,p,r,j,G,l,i,A,o,M,O,B,s,a,rfl,z,b,N,L,n,J,f,k⟩:=h
  obtain⟨x,d,S⟩:∃x d,a=.post x d:=by cases a <;> first|exact⟨_,_,rfl⟩|cases z
  subst a;refine⟨_,(oR (cG (wz T) g T.uo (cX (j4 (pv 0) T.aY T.Gx (DS T) (g.mono (!_)) T.M8 .nil iz (jD (xL (pv 1) az) (xL (pv 1) az)))))),?_⟩
  left
  obtain⟨V,y,C⟩:=N.b5.ob;obtain⟨D,e,I,R,U⟩:=id n;have b:=cE.seq b;have W:=e.bd.ll;exact⟨_,rfl,p,_,_,rfl,C,rfl,_,rfl,l,_,_,_,rfl,rfl,b,rfl,_,rfl,l,_,_,_,rfl,rfl,b,rfl,F,p,r,j,G,i,A,s,o,x,d,D,rfl,N,e.ok,e.bd,∅,f.1,f.2,λos q v u c m st2=>⟨_,rfl,.int (gz ∅),k _ _ q v ⟨os,u,c,rfl,rfl⟩ m.b5 st2⟩⟩
theorem OW{t:Ad}(T:Txt K mg w t):bL P w K mg base fP 9 t.gU t.qP ["net","numbers"]  (tL K t.aP (nc t) 9):=by
 refine T.E5.F.gB M3 λH Q E G h=>?_
 ·obtain⟨F,p,v,m,M,l,i,I,o,U,cl,B,s,a,rfl,C,d,N,S,r,R,f,k⟩:=h
  obtain⟨j,W⟩:∃j,a=.pass j:=by cases a <;> first|exact⟨_,rfl⟩|cases C
  subst a;refine⟨_,(oR (j4 (pv 0) T.aY T.qV (pD T) (G.mono (!_)) T.yk .nil iz (cX (xL (pv 1) az)))),?_⟩
  left
  obtain⟨Y,z,L⟩:=N.b5.ob;obtain⟨D,c,O,V,X⟩:=id r;have d:=cE.seq d;have f:j<s.cps.length:=f;have g:=aa f;have e:=aa (c.bd.cl _ (aD f)).1;exact⟨_,rfl,p,_,_,rfl,L,rfl,_,rfl,l,_,_,_,rfl,rfl,d,rfl,F,p,v,m,M,i,I,s,o,j,D,_,_,rfl,N,c.ok,c.bd,∅,g,e,λos J u y x b n A q st2=>k _ _ u y ⟨_,_,os,J,g,e,x,b,n,A,rfl,rfl⟩ q.b5 st2⟩
theorem Ke{t:Ad}(T:Txt K mg w t):bL P w K mg base fP 2 t.fN t.mR ["net","numbers"]  (tL K t.aP (nc t) 11):=by
 refine T.Br.F.gB Jy λH Q E d h=>?_
 ·obtain⟨F,p,i,z,U,l,ns,O,o,G,I,B,s,b,rfl,q,V,N,C,e,A,f,k⟩:=h
  obtain⟨_,L⟩:∃_:Unit,b=.flying:=by cases b <;> first|exact⟨(),rfl⟩|cases q
  subst b;refine⟨_,(oR (cG (wz T) d T.uo (cX (lS T.fR (iF (pv 0) T.aY T.dR.m (jW T) (d.mono (!_)) T.dR.B .nil iz))))),?_⟩
  left
  obtain⟨S,n,x⟩:=N.b5.ob;obtain⟨D,r,y,J,M⟩:=id e;have v:=r.bd.cb;refine⟨_,rfl,p,_,_,rfl,x,rfl,F,p,i,ns.length,s,rfl,N.b5,λa R j c _ g u=>⟨a,_,rfl,.inl (bC.of g),?_⟩⟩
  try dsimp only
  rw[ah,u.len,ah];exact⟨_,rfl,.int (gz ∅),k _ _ F j ⟨rfl,rfl⟩ (N.b5.mono c) (Step.refl' c)⟩
theorem Qq{t:Ad}(T:Txt K mg w t):bL P w K mg base fP 3 t.iP t.t9 ["net","numbers"]  (tL K t.aP (nc t) 12):=by
 refine T.HU.F.gB Pu λH Q E j h=>?_
 ·obtain⟨F,p,u,J,Y,l,ns,W,o,O,R,B,s,b,rfl,C,e,N,M,q,L,f,k⟩:=h
  obtain⟨x,U⟩:∃x,b=.had x:=by cases b <;> first|exact⟨_,rfl⟩|cases C
  subst b;refine⟨_,(oR (cG (Ex T) j T.C2 (cX (cM (pv 0) T.aY T.JC (OF T) j (cX (xL (pv 1) az)))))),?_⟩
  left
  obtain⟨X,A,G⟩:=N.b5.ob;obtain⟨D,d,I,S,v⟩:=id q;have e:=cE.seq e;have f:x<s.aN.length:=f;have c:x<s.had.length:=by rw[d.bd.hl];exact f
  have n:s.had.getD x []=s.had[x]:=by rw[aj,aa c];rfl
  have hb:=d.bd.hb _ (aD c);refine⟨_,rfl,p,_,_,rfl,G,rfl,_,rfl,l,_,_,_,rfl,rfl,e,rfl,F,p,u,ns.length,x,s,s.had[x],rfl,N.b5,f,aa c,λa V g _ r=>?_⟩;exact⟨a,_,rfl,.inl (bC.of r),Zu (B:=205000) (!_) (λi y=>by have:=v.hb _ (aD c) i y;have:=d.bd.ll;lia),(by rw[ah];lia),λz m=>k _ _ F z ⟨rfl,by rw[n]⟩ (N.b5.mono (g.trans m)) (Step.refl' (g.trans m))⟩
theorem _root_.TW.cj.past{c:NC}{H:Hp}{F:Addr->Prop}{p d:Addr}{n:Nat}{s:NS}(N:cj K c H F p d n s){z:Addr}{u o:HO}(f:Off H F z=some u)(g:wI u):cj K c (upd H z o) F p d n s:=by
 obtain⟨nf,a⟩:=cY f;exact N.keep (λb v e h=>cK b v e λw=>nf (w▸h)) (λb x=>cR.past a g cK)
theorem XY(d:i7):d.vs.length<=4:=by cases d <;> simp[i7.vs]
theorem adM(d:i7):(dW d).length<=5:=by cases d <;> (simp only[dW];decide)
theorem Zv{d:i7}(h:mV d):∀x∈d.vs,OO x:=by
 rw[IE];intro x hx;rcases aV.mp hx with rfl|hx
 ·exact .str (ay (adM d) (!_))
 ·obtain⟨k,b,rfl⟩:=aF.mp hx
  obtain⟨a,c⟩:=h k b
  have:(1000:Int)<10^60:=!_
  exact .int ⟨a,∅⟩
theorem aaV{k:Int}(a:0<=k)(b:k<=1000):(TX.num k).length<=20:=by
 obtain⟨m,rfl⟩:=iR a;rw[<- TX.z8];rw[show TX.cs (TX.num ((m:Nat):Int))=_ from TX.Ms m,ah];exact TX.Sk 20 m (!_) (bq (show m<=1000 by lia) (!_))
theorem RN{d:i7}(h:mV d):(wu d.vs).length<=75:=by
 have e:wu d.vs=Txt.join TX.tO (d.vs.map RK):=by
  unfold wu;rw[eH];rw[IE];exact λz=>by cases z
 rw[e,TX.join_eq];refine ay (StrLaws.join_length_le _ _) ?_;have f:=TX.Cd (l:=((dI d).map TX.num).map (·.length)) (B:=20) λx i=>by
  obtain⟨y,g,rfl⟩:=aF.mp i;obtain⟨k,a,rfl⟩:=aF.mp g;exact aaV (h k a).1 (h k a).2
 rw[ah,ah] at f;have b:=XY d;have j:=adM d;rw[IE] at b ⊢;rw[bH,ah] at b;have c:(V.str (dW d)::(dI d).map V.int).map RK=dW d::(dI d).map TX.num:=by rw[bA,bP];rfl
 rw[c,bA,lE,bH,ah];show _+(_+1)*1<=_;lia
theorem Lx{t:Ad}(T:Txt K mg w t):bL P w K mg base fP 3 t.gk t.oQ ["net","numbers"]  (tL K t.aP (nc t) 13):=by
 refine T.C4.F.gB Bo λH Q E U h=>?_
 ·obtain⟨F,p,tp,ln,lr,l,ns,rs,o,bs,cl,B,s,g,rfl,C,J,N,tb,Z,hB,f,k⟩:=h
  obtain⟨i,ec⟩:∃i,g=.tK i:=by cases g <;> first|exact⟨_,rfl⟩|cases C
  subst g;refine⟨_,(oR (jJ bY ee d9 z9 bu (cX (dP (kO Bo ["deed"] [none]) rfl (dB (cM (pv 0) T.aY T.C1 (ID T) U (cX (xL (pv 1) az)))) (λ_ _ _ _=>by exact (gS 0 Gq)) (λ_ _ _ _=>by exact eK) (λ_ _ _ _=>by exact (cG (Ex T) U T.C2 (cX (pv 0)))))))),?_⟩
  left
  obtain⟨dx,loc,bF⟩:=N.b5.ob;obtain⟨D,sd,hD,rb,iv⟩:=id Z;have J:=cE.seq J;have f:i<s.ls.length:=f;have X:=aa f;have C:=aD f;have hdl:=(sd.bd.lb _ C).1;have v:=iv.db _ C;refine⟨rfl,_,rfl,p,_,_,rfl,bF,rfl,_,rfl,l,_,_,_,rfl,rfl,J,rfl,F,p,tp,ns.length,i,s,s.ls[i],rfl,N.b5,X,λa c H2 O _ A W=>?_⟩;have eq:c.length=s.ls[i].aG.length:=by rw[W.len,ah]
  refine⟨a,rfl,⟨_,bC.of A⟩,λL u=>?_⟩;refine jX (n:=(c.map V.ref).length) (λj=>(c.map V.ref).getD j .dH) (λj=>V.str (wu ((s.ls[i].aG.map i7.vs).getD j []))) u (m5 (bC.of A)) (g5 (bC.of A)) (λj I x H4 G m e=>?_) (by rw[ah];lia) (λj I R S G m r=>?_) (λI m z=>?_)
  ·obtain⟨rfl,e⟩:=e
   have e:=e _ (m.seq (bC.of A));exact⟨rfl,by rw[aj,e];rfl⟩
  ·have q:j<c.length:=by rw[ah] at G;exact G
   have b:j<s.ls[i].aG.length:=∅
   have e1:(c.map V.ref).getD j .dH=.ref c[j]:=by rw[aj,ak,aa q];rfl
   have M:(s.ls[i].aG.map i7.vs)[j]?=some (s.ls[i].aG[j]).vs:=by rw[ak,aa b];rfl
   have e3:(s.ls[i].aG.map i7.vs).getD j []=(s.ls[i].aG[j]).vs:=by rw[aj,M];rfl
   rw[e1];rw[e3] at r;have hv:=XY s.ls[i].aG[j];exact⟨_,rfl,c[j],_,rfl,.inr (m.cV (W.at' j _ _ (aa q) M)),Zv (v _ (aD b)),∅,r⟩
  ·have ey:(au (c.map V.ref).length).map (λj=>V.str (wu ((s.ls[i].aG.map i7.vs).getD j [])))=(s.ls[i].aG.map λd=>wu d.vs).map V.str:=by
    refine iA (by simp[eq]) λj r h2=>?_;have b:j<s.ls[i].aG.length:=by simpa using h2
    simp only[rS,nB,aj,ak,aa b];rfl
   rw[ey] at z;refine⟨_,L,_,rfl,rfl,bC.of z,?_,k _ _ F I ⟨rfl,_,X,rfl⟩ (N.b5.mono (O.trans m)) (Step.refl' (O.trans m))⟩;have r:=TX.Cd (l:=(s.ls[i].aG.map λd=>wu d.vs).map (·.length)) (B:=75) λx e=>?_
   ·rw[ah,ah] at r
    rw[ah];show _+s.ls[i].aG.length*2<=_;lia
   ·obtain⟨y,z,rfl⟩:=aF.mp e
    obtain⟨d,Y,rfl⟩:=aF.mp z;exact RN (v d Y)
theorem Ly{t:Ad}(T:Txt K mg w t):bL P w K mg base fP 5 t.gj t.oO ["net","numbers"]  (tL K t.aP (nc t) 1):=by
 refine T.C3.F.gB sy λH Q E hr h=>?_
 ·obtain⟨F,p,tp,ln,lr,l,ns,rs,o,bs,cl,B,s,n,rfl,hm,hL,N,tb,sk,hB,f,k⟩:=h
  obtain⟨g,ec⟩:∃g,n=.round g:=by cases n <;> first|exact⟨_,rfl⟩|cases hm
  subst n;refine⟨_,(ao (mZ (i:=2) sy.nd rfl (Or.inl rfl) (kO sy ["house","net","numbers"] [none,some 0,some 1]) rfl (gX rfl T.j9 (cX (aT (aT (pv 0) rfl) rfl))) (λ_ _ _ _=>by exact (gS 0 Gp)) (λ_ _ _ _=>by exact eK) (λ_ _ _ _=>by exact (cM (pv 1) T.aY T.vt (xw T) hr (jD (pv 0) (yL K (pv 2) az))))) (oR (cG (wz T) hr T.uo (cX (jJ bJ PySem.F.slot_list_count PySem.F.type_list_count aas (pv 2) (cX Qw)))))),?_⟩
  left
  obtain⟨dx,loc,bF⟩:=N.b5.ob;obtain⟨⟨dt,X⟩,hln,_,hlr,_⟩:=id N.xG;have Lc:=o.Lc;have f:g<3:=f;refine⟨_,rfl,p,_,_,_,_,rfl,bF,T.aY,T.jy,rfl,tp,_,_,_,_,rfl,X,T.fk,T.jk,rfl,_,rfl,∅,∅,λc a=>?_⟩;have nFa:¬F c:=λz=>by obtain⟨o',e⟩:=N.b5.there z;rw[a] at e;cases e
  refine⟨λi m I=>m=ns.length-i/\i<=ns.length/\∃(M:Nat) (q:NS) (u:Addr->Prop) (r:List Bool),je o g i s M q/\cj K (nc t) I u p tp ns.length q/\Step H F I u/\I c=some (.lst (r.map V.bl))/\¬u c/\r.length=i/\r.count true=M,⟨_,rfl,be _,0,s,F,[],.zero s,N.b5.mono (aC.new a),Step.refl' (aC.new a),aq,nFa,rfl,rfl⟩,?_⟩;rintro i m I ⟨rfl,hi,M,q,u,r,O,U,st2,j,L,J,C⟩;rcases Nat.lt_or_ge i ns.length with A|hge
  ·refine .inr ⟨by show i<_;lia,?_⟩
   rintro x H3 ⟨rfl,rfl⟩;rw[eB];have W2:=N.done st2 U;obtain⟨dx2,afb,pA⟩:=U.ob;have S:=cE.seq ((lO st2).seq hL);have Z:=sk.rnd tb f ∅ O;obtain⟨D2,W,_⟩:=Z;refine⟨_,rfl,p,_,_,rfl,pA,rfl,_,rfl,_,rfl,l,_,_,_,rfl,rfl,S,rfl,u,p,tp,ln,lr,ns,rs,q,o,i,g,rfl,W2,W.ok,A,f,λd F4 H4 hd hf N4 Y _=>?_⟩;have G:=Y.kp _ _ j L;have D:¬F4 c:=λz=>by
    rcases Y.fr _ z with y|y
    ·exact L y
    ·rw[j] at y;cases y
   refine⟨_,G,by rw[ah,J];exact bX ∅,ns.length-(i+1),∅,rfl,A,_,_,F4,r++[!decide (d=q.R g i)],.succ O hd hf,N4.past (iS D G) m6,?_,?_,D,by rw[aA,J];rfl,?_⟩
   ·have:=st2.trans Y
    exact⟨λb v e z=>cK b v (this.kp b v e z) (aJ e a),λb z=>this.fr b z⟩
   ·rw[aq,aU]
    rfl
   ·rw[List.count_append,C]
    by_cases e:d=q.R g i
    ·rw[eO e,b3 e];rfl
    ·rw[e8 e,eH e];rfl
  ·have:i=ns.length:=∅
   subst this;refine .inl ⟨by show _<=_;lia,?_⟩;refine⟨_,rfl,.inl ⟨rfl,_,bC.of j⟩,c,r,true,rfl,rfl,bC.of j,?_⟩;rw[C]
   have:=O.ln.2
   exact⟨_,rfl,.int (gz ∅),k _ _ u I ⟨M,O,rfl⟩ U st2⟩
theorem Qs{t:Ad}(T:Txt K mg w t):bL P w K mg base fP 9 t.iO t.tZ ["net","numbers"]  (tL K t.aP (nc t) 10):=by
 refine T.HS.F.gB yd λH Q E L h=>?_
 ·obtain⟨F,p,O,ln,lr,l,ns,A,o,bs,cl,B,s,n,rfl,hm,hL,N,tb,U,hB,f,k⟩:=h
  obtain⟨_,u⟩:∃_:Unit,n=.run:=by cases n <;> first|exact⟨(),rfl⟩|cases hm
  subst n;refine⟨_,(ao (sS 2 yd az) (ao (Ux PassesOwn.never (IX (iF (pv 0) T.aY T.dR.m (jW T) (L.mono (!_)) T.dR.B .nil iz) (λ_=>rfl)) (ao (dN (iF (pv 0) T.aY T.qV (pD T) (L.mono (!_)) T.Pz (show b6 [V.int 0] [_] from .cons ⟨_,rfl⟩ .nil) iz)) (bQ (RX (i:=2) yd.nd rfl (Or.inl rfl) az RY)))) (oR (cG (wz T) L T.uo (cX (pv 2)))))),?_⟩
  left
  refine YB (λm G z=>∃(q:Nat) (b:NS) (c:Addr->Prop),G=[some (.ref p),some (.ref l),some (.int (q:Nat))]/\Rn o s q b/\cj K (nc t) z c p O ns.length b/\Step H F z c/\m=Ph ns.length A b/\q+m<=Ph ns.length A s) (Ph ns.length A s) ⟨0,s,F,rfl,.zero s,N.b5,Step.refl' (aC.refl _),rfl,∅⟩ ?_ ?_
  ·rintro m G z ⟨q,b,c,rfl,R,x,st2,rfl,hk⟩
   have Y:=N.done st2 x;obtain⟨dx2,afb,S⟩:=x.ob;have r:=U.rn R;obtain⟨D2,d,hD2,_⟩:=id r;obtain⟨D0,sd0,hD0,_⟩:=id U;refine⟨_,rfl,p,_,_,rfl,S,rfl,c,p,O,ns.length,b,rfl,x,λa g D j _ ha J=>⟨!(g.map V.ref).isEmpty,.inl ⟨_,bC.of ha,rfl⟩,?_⟩⟩;have I:g.length=b.cps.length:=by rw[J.len,ah]
   cases u:b.cps with
   |nil =>
    have:g=[]:=List.length_eq_zero_iff.mp (by rw[I,u];rfl)
    subst this;refine dO ?_;refine⟨_,rfl,_,rfl,.int (gz ∅),k _ _ c D ⟨q,R,u,rfl⟩ (x.mono j) (st2.trans (Step.refl' j))⟩
   |cons y cs0 =>
    have:(g.map V.ref).isEmpty=false:=by
     cases g with
     |nil=>rw[u] at I;cases I
     |cons=>rfl
    rw[this];refine dZ ?_;have M:b.cps[0]?=some y:=by rw[u];rfl
    have W:=aa (d.bd.cl y (aI M)).1;refine⟨_,rfl,p,_,_,rfl,j _ _ S,rfl,c,p,O,ln,lr,ns,A,b,o,0,D2,y,_,rfl,Y.mono j,d.ok,d.bd,∅,M,W,λos ts F4 H4 hO C pt oe W4 EA=>?_⟩;have ps:Ps o 0 b _ _:=⟨y,_,os,ts,M,W,hO,C,pt,oe,rfl,rfl⟩;have hp:=(r.ps ps).2;exact⟨_,rfl,_,_,rfl,rfl,_,∅,q+1,_,F4,rfl,.succ R ps,W4.b5,(st2.trans (Step.refl' j)).trans EA,rfl,∅⟩
  ·rintro G z Q Q' J ⟨v,e,a,dx,fs,Z,h2,h3,c,p2,RO,n2,b,h4,X,h6⟩
   exact⟨v,e,a,dx,fs,Z,h2,h3,c,p2,RO,n2,b,h4,X,λa g D j z1 z2 z3=>by
    obtain⟨kb,h7,h8⟩:=h6 a g D j z1 z2 z3;exact⟨kb,h7,J _ _ h8⟩⟩
theorem Fits.small{ns:List Int}{rs:List R5}{bs:List (List Bool)}{cl:List (Nat×Nat)}{B:Nat}{s:NS}{cmd:rP}(o:cD ns rs)(p:SK ns rs bs cl B s)(E:B<=205000)(f:Fits ns rs s cmd):∀n∈cmd.jS,TX.Wr n:=by
 obtain⟨D,j,C,_⟩:=p;have Lc:=o.Lc;have LD:=o.LD;have pI:=j.bd.pI;have A:=j.bd.cb;have F:=j.bd.ll;have d:∀{a:Nat},a<=1000000->∀n∈[(a:Int)],TX.Wr n:=λh n hn=>by rw[aX.mp hn];exact gz h
 have two:∀{a b:Nat},a<=1000000->b<=1000000->∀n∈[(a:Int),(b:Int)],TX.Wr n:=λq v n hn=>by
  rcases aV.mp hn with rfl|hn
  ·exact gz q
  ·rw[aX.mp hn];exact gz v
 cases cmd with
 |round g=>exact d (by have:g<3:=f;lia)
 |rest g=>exact d (by have:g<3:=f;lia)
 |row h g=>exact two (by have:=f.1;lia) (by have:=f.2;lia)
 |WH g=>exact d (by have:g<3:=f;lia)
 |call h g=>exact two (by have:=f.1;lia) (by have:=f.2;lia)
 |yY i x =>
  obtain⟨w,r,m,e,l⟩:=f;have u:=(ai.mp e).1;obtain⟨b,t,rfl,_⟩:=j.wire m
  have:=(ai.mp (i6.mp l)).1
  have:=j.fit.2 i r b e t
  have:=(o.ok _ (aI e)).d4
  exact two ∅ ∅
 |lay i x =>
  obtain⟨w,r,m,e,l,_⟩:=f;have u:=(ai.mp e).1
  have:=(o.ok _ (aI e)).d4
  exact two ∅ ∅
 |move c h=>exact two (by have:=f.1;lia) (by have:=f.2;lia)
 |post c z =>
  cases z with
  |none=>exact d (by have:=f.1;lia)
  |some y=>exact two (by have:=f.1;lia) (by have:=(f.2 y rfl).1;lia)
 |pass k=>exact d (by have:k<s.cps.length:=f;lia)
 |run=>intro n hn;cases hn
 |flying=>intro n hn;cases hn
 |had c=>exact d (by have:c<s.aN.length:=f;lia)
 |tK i=>exact d (by have:i<s.ls.length:=f;lia)
theorem afI(c:rP):32∉TX.cs c.hd:=by cases c <;> (simp only[rP.hd];decide +kernel)
theorem aiX(c:rP):c.hd.length<=60:=by cases c <;> (simp only[rP.hd];decide +kernel)
theorem aaW{c:rP}(h:∀n∈c.jS,TX.Wr n):Txt.split c.text TX.tO=c.words:=by
 unfold rP.text;rw[TX.join_eq];refine TX.QW (c:=32) (ws:=c.words) (by simp[rP.words]) λx hx=>?_;rcases aV.mp hx with rfl|hx
 ·exact afI c
 ·rcases bx.mp hx with hx|hx
  ·obtain⟨n,a,rfl⟩:=aF.mp hx
   exact TX.Mu (h n a).1 (.inl (!_))
  ·split at hx
   ·rw[aX.mp hx];decide +kernel
   ·cases hx
theorem Zw(c:rP):c.jS.length<=2:=by
 cases c with
 |post c a=>cases a <;> exact (by simp[rP.jS])
 |_=>simp[rP.jS]
theorem text_len{c:rP}(h:∀n∈c.jS,TX.Wr n):c.text.length<=100000:=by
 unfold rP.text;rw[TX.join_eq];refine ay (StrLaws.join_length_le _ _) ?_;have e:c.words.length<=4:=by
  have:=Zw c
  simp only[rP.words,bH,aA,ah];split <;> simp <;> lia
 have a:=TX.Cd (l:=c.words.map (·.length)) (B:=60) λx d=>by
  obtain⟨y,hy,rfl⟩:=aF.mp d;rcases aV.mp hy with rfl|hy
  ·exact aiX c
  ·rcases bx.mp hy with hy|hy
   ·obtain⟨n,b,rfl⟩:=aF.mp hy
    exact (TX.iV (h n b)).2
   ·split at hy
    ·rw[aX.mp hy];decide
    ·cases hy
 rw[ah] at a;show _+c.words.length*1<=_;lia
theorem afJ{n:Int}(h:TX.Wr n):TX.num n≠"all" := λe=>by
 have:=TX.Hr h.1 97 (by rw[e];decide +kernel)
 lia
inductive Wm(K:af)(vs:List V)(H:Hp)(Q:VK)(E:XK):Prop
 |mk (l:Addr) (cmd:rP):vs=[.ref l,.int (cmd.vals.length:Nat)]->H l=some (.lst (fz cmd.words))->(∀n∈cmd.jS,TX.Wr n)->(∀l' H',aC H H'->H l'=none->H' l'=some (.lst cmd.vals)->Q (.ref l') H')->Wm K vs H Q E
theorem OX{t:Ad}(T:Txt K mg w t):bL P w K mg base fP 3 t.mC t.qR ["words","many"]  (Wm K):=by
 refine T.E7.F.gB M4 λH Q E G h=>?_
 ·obtain⟨l,b,rfl,v,I,k⟩:=h
  refine⟨_,(ao (b4 (PW.pt (uD (qT lD (xL (pv 0) az) bu) (nO (qT z5 (lN zZ (pv 0) (mG az) wD) (dY (cX bu)))))) (oR (dY (jD (cG (wo T) G T.qW (cX (xL (pv 0) az))) lF))) br) (oR (cG (tD T) G T.oZ (jD (lN zZ (pv 0) (mG az) wD) (pv 1))))),?_⟩
  left
  have num:∀n,aC H n->b.isAll=false->∀g,n g=none->yZ K [.ref g,.int (b.vals.length:Nat)] (upd n g (.lst (Ez (fz b.words) (some 1) none))) Q E0:=λn R A g d=>by
   have Z:b.words=TX.wordsOf b.hd b.jS:=by unfold rP.words;rw[A];simp[TX.wordsOf]
   have M:b.vals=b.jS.map V.int:=by
    cases b with
    |post c f=>cases f with
     |none=>cases A
     |some y=>rfl
    |_=>rfl
   rw[Z,wK];have x:=aC.new (o:=.lst (fz (b.jS.map TX.num))) d;refine⟨g,b.jS,by rw[M,ah],bC.of aq,I,by have:=Zw b;lia,λD q p m u=>k D q (R.trans (x.trans p)) ((R.trans x).free m) (by rw[M];exact u)⟩
  refine⟨_,rfl,l,_,_,_,rfl,rfl,bC.of v,dD (j:=0) rfl,rfl,_,rfl,?_⟩;by_cases C:b.hd = "post"
  case neg =>
   refine rz (e8 λz=>C (V.str.inj z)) (dO ?_);have A:b.isAll=false:=by cases b <;> first|rfl|exact eL rfl C
   exact⟨_,rfl,_,rfl,l,_,rfl,bC.of v,λg d=>⟨_,rfl,num H (aC.refl _) A g d⟩⟩
  refine QS (eO (by rw[C])) ?_;obtain⟨c,f,J⟩:∃c f,b=.post c f:=by
   cases b <;> first|exact⟨_,_,rfl⟩|exact eL C (by simp only[rP.hd];decide +kernel)
  subst J;refine⟨_,rfl,_,rfl,l,_,rfl,bC.of v,λg d=>?_⟩;have J:Ez (fz (rP.post c f).words) (some 2) none=fz ((rP.post c f).words.drop 2):=by
   have:=Mh (fz (rP.post c f).words) 2
   rw[show ((2:Nat):Int)=2 from rfl] at this;rw[this];exact List.map_drop.symm
  rw[J];have x:=aC.new (o:=.lst (fz ((rP.post c f).words.drop 2))) d;have S:=aq (H:=H) (a:=g) (o:=.lst (fz ((rP.post c f).words.drop 2)));generalize upd H g (.lst (fz ((rP.post c f).words.drop 2)))=n at x S;refine⟨Ou,λD m=>?_⟩;have L:=aC.new (o:=.lst [V.str "all"]) m;have u:=aq (H:=n) (a:=D) (o:=.lst [V.str "all"]);generalize upd n D (.lst [V.str "all"])=q at L u;have p:=x.trans L;have r:=L _ _ S;have B:∀{a:Addr} {z:Str},q a=some (.lst [V.str z])->Rep K q (.list [.str z]) (.ref a):=λ{a z} e=>⟨a,_,rfl,bC.of e,⟨_,_,rfl,rfl,rfl⟩⟩;cases f with
  |none =>
   refine⟨.list [.str "all"],.list [.str "all"],B r,B u,by decide +kernel,by decide +kernel,bq (bI (ay (cQ _ _) (!_)) _) G.units,_,rfl,QS (by decide +kernel) ?_⟩;refine⟨_,rfl,l,_,_,_,rfl,rfl,bC.of (p _ _ v),dD (j:=1) rfl,(c:Int),rfl,I _ aL,λH4 O=>⟨ff,λY s=>?_⟩⟩;exact k Y _ ((p.trans O).trans (aC.new s)) ((p.trans O).free s) aq
  |some y =>
   have N:TX.Wr (y:Int):=I _ (aM _ aL);refine⟨.list [.str (TX.num y)],.list [.str "all"],B r,B u,?_,by decide +kernel,bq (bI (ay (cQ _ _) (by show 1<=64;decide)) _) G.units,_,rfl,rz ?_ ?_⟩
   ·show (PyData.strOk (TX.num y)&&true)=true
    rw[Bool.and_true];unfold PyData.strOk
    have:=TX.QX N.1
    rw[Array.all_eq_true] at this ⊢;intro i U
    have:=this i U
    simp only[decide_eq_true_eq] at this ⊢;lia
   ·show ((TX.num y == "all")&&true)=false
    rw[Bool.and_true];exact beq_eq_false_iff_ne.mpr (afJ N)
   ·exact⟨_,rfl,_,rfl,l,_,rfl,bC.of (p _ _ v),λW X=>⟨_,rfl,num q p rfl W X⟩⟩
noncomputable def alv(t:Ad):rP->Addr
 |.call _ _=>t.CM|.round _=>t.w6|.rest _=>t.CN|.row _ _=>t.Ky|.WH _=>t.CO|.yY _ _=>t.CP|.lay _ _=>t.Kz|.move _ _=>t.CQ|.post _ _=>t.CS|.pass _=>t.CU|.run=>t.KA|.flying=>t.rL|.had _=>t.KC|.tK _=>t.w9
noncomputable def aiY(t:Ad):rP->Addr
 |.call _ _=>t.gK|.round _=>t.gj|.rest _=>t.gM|.row _ _=>t.iM|.WH _=>t.gO|.yY _ _=>t.gP|.lay _ _=>t.iN|.move _ _=>t.gQ|.post _ _=>t.gR|.pass _=>t.gU|.run=>t.iO|.flying=>t.fN|.had _=>t.iP|.tK _=>t.gk
theorem aiZ{t:Ad}(T:Txt K mg w t)(c:rP)(H:Hp):cR K H (alv t c) [.int (c.vals.length:Nat),.ref (aiY t c)]:=by
 cases c with
 |call=>exact T.s_call H
 |round=>exact T.aeS H
 |rest=>exact T.ah0 H
 |row=>exact T.s_row H
 |WH=>exact T.ah1 H
 |yY=>exact T.ah2 H
 |lay=>exact T.akr H
 |move=>exact T.ah3 H
 |post=>exact T.ah4 H
 |pass=>exact T.ah5 H
 |run=>exact T.aks H
 |flying=>exact T.acM H
 |had=>exact T.akt H
 |tK=>exact T.aeT H
inductive agR(K:af)(CT CD:Addr)(c:NC)(vs:List V)(H:Hp)(Q:VK)(E:XK):Prop
 |mk (F:Addr->Prop) (p tp ln lr dk dx:Addr) (ns:List Int) (rs:List R5) (o:cD ns rs) (bs:List (List Bool)) (cl:List (Nat×Nat)) (B:Nat) (s:NS) (cmd:rP):vs=[.ref dk,.str cmd.text]->H dk=some (.ins CD dx [("net",.ref p)])->NW K c CT H F p tp ln lr ns rs s->TB ns rs->SK ns rs bs cl B s->B<=205000->Fits ns rs s cmd->(∀a s' F' H',Lw o s cmd a s'->cj K c H' F' p tp ns.length s'->Step H F H' F'->Q (.str a) H')->agR K CT CD c vs H Q E
theorem Wn{t:Ad}(T:Txt K mg w t):bL P w K mg base fP 10 t.vm t.AD ["self","row"]  (agR K t.aP t.sC (nc t)):=by
 refine T.Na.F.gB CA λH Q E c h=>?_
 ·obtain⟨F,p,R,J,lr,S,dx,I,rs,o,M,O,B,s,b,rfl,r,N,L,A,y,f,k⟩:=h
  refine⟨_,(ao (sS 2 CA (jJ bY PySem.F.slot_str_split PySem.F.type_str_split Mv (pv 1) (cX bu))) (ao (b4 (abl (Xn T.Rf (xL (pv 2) az) (iu rfl T.Rc (v:=.ref t.nH) rfl)) (by with_unfolding_all rfl)) cH br) (ao (sS 3 CA (acB T.Rf (iu rfl T.Rc (v:=.ref t.nH) rfl) (xL (pv 2) az) (λ_ _=>rfl))) (oR (acC (xT (pv 3) az) (jD (aT (pv 0) rfl) (cG (OX T) c T.E7 (jD (pv 2) (xT (pv 3) az)))) (.cons (j6 (OP T) c T.EW) (.cons (j6 (Ly T) c T.C3) (.cons (j6 (OQ T) c T.EX) (.cons (j6 (Qo T) c T.HQ) (.cons (j6 (OR T) c T.EY) (.cons (j6 (OT T) c T.EZ) (.cons (j6 (Qp T) c T.HR) (.cons (j6 (OU T) c T.E3) (.cons (j6 (OV T) c T.E4) (.cons (j6 (OW T) c T.E5) (.cons (j6 (Qs T) c T.HS) (.cons (j6 (Ke T) c T.Br) (.cons (j6 (Qq T) c T.HU) (.cons (j6 (Lx T) c T.C4) .nil))))))))))))))))))),?_⟩
  left
  have n:=f.small o A y;refine⟨_,rfl,rfl,_,_,rfl,rfl,(by decide +kernel),text_len n,λl hl=>?_⟩;rw[show Txt.split b.text _=b.words from aaW n];have g:=aC.new (o:=.lst (fz b.words)) hl;have m:=aq (H:=H) (a:=l) (o:=.lst (fz b.words));generalize upd H l (.lst (fz b.words))=H1 at g m;have i:Kn (fz b.words) 0=some (.str b.hd):=dD (j:=0) rfl;have x:BR (ahV [("call",V.ref t.CM),("round",.ref t.w6),("rest",.ref t.CN),("row",.ref t.Ky),("open",.ref t.CO),("fall",.ref t.CP),("lay",.ref t.Kz),("move",.ref t.CQ),("post",.ref t.CS),("pass",.ref t.CU),("run",.ref t.KA),("flying",.ref t.rL),("had",.ref t.KC),("story",.ref t.w9)]) (pR b.hd)=some (.ref (alv t b)):=by cases b <;> rfl
  refine⟨_,rfl,l,_,_,_,rfl,rfl,bC.of m,i,pR b.hd,rfl,rfl,_,rfl,?_⟩;rw[x];refine dO ?_;refine⟨_,rfl,l,_,_,_,rfl,rfl,bC.of m,i,pR b.hd,_,rfl,rfl,x,?_⟩;have G:=aiZ T b;refine⟨_,rfl,_,_,_,_,rfl,rfl,G H1,rfl,(aiY t b,tL K t.aP (nc t) b.kd),?_,rfl,?_⟩
  ·cases b <;> simp[aiY,rP.kd]
  refine⟨_,rfl,S,_,dx,_,_,rfl,g _ _ r,T.Xs,T.Nc,rfl,_,rfl,_,rfl,_,_,_,_,rfl,rfl,G H1,rfl,l,b,rfl,m,n,λC H2 D q X=>?_⟩;have W:=N.mono (g.trans D);have nF:¬F C:=λz=>by
   obtain⟨o',e⟩:=(N.mono g).b5.there z;rw[q] at e;cases e
  exact⟨F,p,R,J,lr,C,I,rs,o,M,O,B,s,b,rfl,rfl,bC.of (iS nF X),W,L,A,y,f,λa Z F' Y d U u=>k a Z F' Y d U ((Step.refl' (g.trans D)).trans u)⟩
theorem Zx{H:Hp}{qs:List Addr}{a:List (List Int)}(h:jo K H qs a):dU K H qs (a.map λx=>x.map V.int):=by
 refine⟨by rw[ah];exact h.len,λi q x c b=>?_⟩;rw[ak] at b;cases e:a[i]? with
 |none=>rw[e] at b;cases b
 |some y =>
  rw[e] at b;cases b;exact h.at' i q y c e
noncomputable abbrev wA(cl:List (Nat×Nat)):List (List Int):=cl.map λc=>[(c.1:Int),(c.2:Int)]
inductive adO(K:af)(CT CD:Addr)(c:NC)(vs:List V)(H:Hp)(Q:VK)(E:XK):Prop
 |mk (dk dx:Addr) (ns:List Int) (rs:List R5) (cl:List (Nat×Nat)):vs=[.ref dk,.str (TX.nW ns (rs.map R5.ns) (wA cl))]->H dk=some (.ins CD dx [])->y9 ns (rs.map R5.ns) (wA cl)->cD ns rs->cl.length<=20->(∀c∈cl,c.1<ns.length/\c.2<3)->(∀(F:Addr->Prop) p tp ln lr H',cj K c H' F p tp ns.length (S0 ns rs cl)->cy K CT (Off H' F) tp ln lr ns rs->Off H' F dk=some (.ins CD dx [("net",.ref p)])->(∀b o,H b=some o->b≠dk->Off H' F b=some o)->Q .dH H')->adO K CT CD c vs H Q E
theorem OY{t:Ad}(T:Txt K mg w t):bL P w K mg base fP 7 t.mz t.qQ ["self","text"]  (adO K t.aP t.sC (nc t)):=by
 refine T.E6.F.gB Cz λH Q E hr h=>?_
 ·obtain⟨dk,dx,ns,rs,cl,rfl,Yz,G,o,pI,hok,k⟩:=h
  refine⟨_,(ao (sS 2 Cz (cG (Ug T) hr T.KG (cX (pv 1)))) (bQ (fU (pv 0) (cI T.AF (FJ T) hr T.agj (jD (cI T.yh (DM T) hr T.acL (jD (xT (pv 2) az) (xT (pv 2) az))) (xT (pv 2) az))) rfl))),?_⟩
  left
  refine⟨_,rfl,ns,rs.map R5.ns,wA cl,rfl,G,λq l0 M l2 W s1 n0 n1 n2 e01 e02 e12 O h0 h1 h2=>?_⟩;obtain⟨us,hu1,hu2⟩:=h1;obtain⟨qs,X,hc2⟩:=h2;have s:=Zx hu2;have u:=Zx hc2;rw[show ((rs.map R5.ns).map λx=>x.map V.int)=rs.map R5.vs by rw[bP];rfl] at s;rw[show ((wA cl).map λx=>x.map V.int)=cl.map λc=>[V.int c.1,V.int c.2] by rw[bP];rfl] at u;have hw4:∀r∈rs,1<=r.d/\r.d<=4:=λr f=>⟨(o.ok r f).d1,(o.ok r f).d4⟩;refine⟨_,rfl,q,_,_,_,rfl,rfl,cR.of O,rfl,_,rfl,q,_,_,_,rfl,rfl,cR.of O,rfl,?_⟩;refine λm I np ndt b5=>?_;have C:aC W (upd (upd W I (.own m)) m (.ins t.aP I [])):=(aC.new ndt).trans (aC.new (by rw[aK (cu b5)];exact np));refine⟨m,I,l0,M,ns,rs,rfl,aq,bC.of (C _ _ h0),⟨M,_,rfl,bC.of (C _ _ hu1),acu.acv (l:=M) (s.mono λb x=>C.cV)⟩,o.n1,o.Lc,o.pos,o.nd,o.LD,o.ok,λln lr D hln hlr S Y=>⟨rfl,?_⟩⟩;have y:aC W D:=λb v e=>Y b v (C b v e) (aJ e np);refine⟨_,rfl,q,_,_,_,rfl,rfl,cR.of (y _ _ O),rfl,?_⟩;refine λp Z g J R=>?_;have A:aC D (upd (upd D Z (.own p)) p (.ins t.cF Z [])):=(aC.new J).trans (aC.new (by rw[aK (cu R)];exact g));have Lc:=o.Lc;refine⟨p,Z,m,ln,lr,l2,ns,rs,qs,cl,rfl,aq,S.mono A,∅,o.LD,hw4,bC.of (A _ _ (y _ _ X)),u.mono λb x=>(y.trans A).cV,pI,hok,λF U N Y fr=>⟨rfl,?_⟩⟩;have B:aC D (Off U F):=U1 A g Y fr;have a:=(s1.trans y).trans B _ _ Yz;refine⟨_,rfl,dk,_,dx,_,rfl,cE _ _ a,T.Xs,T.Nc,(by show 0<1000;decide),?_⟩;have L:Off (upd U dk (.ins t.sC dx (zb "net" (.ref p) []))) F=upd (Off U F) dk (.ins t.sC dx (zb "net" (.ref p) [])):=So (cY a).1;obtain⟨⟨I,i⟩,j,us2,n,ht4⟩:=id (S.mono B);refine k F p m ln lr _ (N.past a lG) ?_ (by rw[L,aq];rfl) (λb v e z=>by rw[L];exact cK b v ((s1.trans y).trans B _ _ e) z);rw[L];exact (S.mono B).keep (λb v e z=>cK b v e λzz=>by
   rw[zz] at z;rcases z with z|z|z
   ·rw[<- z,a] at i;have e:=(HO.ins.inj (aR i)).2.2;cases e
   ·rw[<- z,a] at j;cases j
   ·rw[<- z,a] at n;cases n) (λb x=>cR.past a lG cK)
theorem iw(y:Int){n:Nat}(h:0<n):∃x:Nat,y%(n:Int)=(x:Int)/\x<n:=by
 have a:=eE y (show (n:Int)≠0 by lia);have b:=fq y (show (0:Int)<(n:Int) by lia);exact⟨(y%(n:Int)).toNat,∅,∅⟩
inductive Wo(vs:List V)(H:Hp)(Q:VK)(E:XK):Prop
 |mk (c:Int) (n:Nat):vs=[.int c,.int n]->2<=n->n<=10->(∀(r:R5) q H',r.Ok n->r.c<=10^41->aC H H'->H' q=some (.tup r.vs)->Q (.ref q) H')->Wo  vs H Q E
theorem aaX{t:Ad}(T:Txt K mg w t):bL P w K mg base fP 1 t.CC t.HA ["_law_cell","_law_size"]  Wo:=by
 refine T.Vg.F.gB zo λH Q E D h=>?_
 ·obtain⟨c,n,rfl,u,J,k⟩:=h
  refine⟨_,(ao (sS 2 zo (bG dh (pv 0) (pv 1))) (ao (sS 0 zo (bG fE (pv 0) (pv 1))) (ao (sS 3 zo (bG dh (bG jl (bG jl (pv 2) az) (bG dh (pv 0) (bG abu (pv 1) az))) (pv 1))) (ao (sS 0 zo (bG fE (pv 0) (bG abu (pv 1) az))) (oR (dG (aN5 (pv 2) (pv 3) (bG jl az (bG dh (bG fE (pv 0) az) (bG abv az az))) (bG jl az (bG dh (pv 0) az)) (bG jl az (bG dh (bG fE (pv 0) az) az))))))))),?_⟩
  left
  obtain⟨x,m,s⟩:=iw c (show 0<n by lia);refine⟨_,rfl,_,rfl,_,_,rfl,rfl,(by show (0:Int)<(n:Int);lia),?_⟩;show gp 2 (V.int (c%(n:Int))) _ _ _;rw[m];refine⟨_,rfl,_,rfl,_,_,rfl,rfl,⟨∅,∅⟩,?_⟩;show gp 0 (V.int (c/(n:Int))) _ _ _;generalize c/(n:Int)=a;have f:(0:Int)<(n:Int)-1:=∅
  have j:=eE a (show (n:Int)-1≠0 by lia);have o:=fq a f;refine⟨_,rfl,_,_,rfl,rfl,_,rfl,_,rfl,_,_,rfl,rfl,_,_,rfl,rfl,f,_,_,rfl,rfl,_,rfl,_,_,rfl,rfl,(by show (0:Int)<(n:Int);lia),?_⟩;show gp 3 (V.int (((x:Int)+1+a%((n:Int)-1))%(n:Int))) _ _ _;obtain⟨y,e,r⟩:=iw ((x:Int)+1+a%((n:Int)-1)) (show 0<n by lia);have i:x≠y:=λz=>by
   subst z;generalize a%((n:Int)-1)=d at j o e
   have:=Int.emod_emod_of_dvd ((x:Int)+1+d) (Int.dvd_refl (n:Int))
   by_cases g:(x:Int)+1+d<n
   ·rw[Int.emod_eq_of_lt ∅ g] at e;lia
   ·rw[<- Int.sub_emod_right,Int.emod_eq_of_lt ∅ ∅] at e;lia
  rw[e];refine⟨_,rfl,_,rfl,_,_,rfl,rfl,_,_,rfl,rfl,⟨f,∅⟩,?_⟩;show gp 0 (V.int (a/((n:Int)-1))) _ _ _;generalize a/((n:Int)-1)=c2;have b:(0:Int)<10^(40:Int).toNat:=!_
  refine⟨_,rfl,_,rfl,_,rfl,_,_,rfl,rfl,⟨!_,!_⟩,_,_,rfl,rfl,⟨!_,!_,!_⟩,_,_,rfl,rfl,b,_,_,rfl,rfl,_,rfl,_,_,rfl,rfl,(by show (0:Int)<4;decide),_,_,rfl,rfl,_,rfl,_,_,rfl,rfl,⟨!_,!_⟩,_,_,rfl,rfl,(by show (0:Int)<7;decide),_,_,rfl,rfl,aa7,λq l=>?_⟩;have G:=eE (c2/28) (show (10:Int)^(40:Int).toNat≠0 by decide);have p:=fq (c2/28) b;have C:=eE c2 (show (4:Int)≠0 by decide);have B:=fq c2 (show (0:Int)<4 by decide);have A:=eE (c2/4) (show (7:Int)≠0 by decide);have I:=fq (c2/4) (show (0:Int)<7 by decide);have v:(10:Int)^(40:Int).toNat<=10^41:=!_
  refine k ⟨x,y,1+c2/28%10^(40:Int).toNat,1+c2%4,1+c2/4%7⟩ q _ ?_ (by show 1+c2/28%10^(40:Int).toNat<=_;lia) (aC.new l) aq;exact⟨by show (0:Int)<=x;lia,by show (x:Int)<n;lia,by show (0:Int)<=y;lia,by show (y:Int)<n;lia,by show (x:Int)≠y;lia,by show 1<=1+_;lia,by show 1<=1+_;lia,by show 1+_<=4;lia,by show 1<=1+_;lia,by show 1+_<=7;lia⟩
noncomputable abbrev Uk(cl:List (Nat×Nat)):List (List V):=cl.map λc=>[.int c.1,.int c.2]
noncomputable def FN(sd:Int)(n:Nat)(k:Nat):Int:=(sd+3)*((k:Int)+1)*48271%2147483647/7%1000*(n:Int)+((k:Int)+sd)%(n:Int)
theorem name_mod{sd:Int}{n k:Nat}(a:0<n):FN sd n k%(n:Int)=((k:Int)+sd)%(n:Int):=by
 unfold FN;rw[Int.add_emod,Int.mul_emod_left,eB,Int.emod_emod,Int.emod_emod]
theorem adP{sd:Int}{n k:Nat}(i:0<n)(d:n<=10):0<=FN sd n k/\FN sd n k<10^50:=by
 unfold FN;have a:=eE ((sd+3)*((k:Int)+1)*48271%2147483647/7) (show (1000:Int)≠0 by decide);have e:=fq ((sd+3)*((k:Int)+1)*48271%2147483647/7) (show (0:Int)<1000 by decide);generalize (sd+3)*((k:Int)+1)*48271%2147483647/7%1000=x at a e;have c:=eE ((k:Int)+sd) (show (n:Int)≠0 by lia);have b:=fq ((k:Int)+sd) (show (0:Int)<(n:Int) by lia);generalize ((k:Int)+sd)%(n:Int)=y at c b;have h:0<=x*(n:Int):=Int.mul_nonneg a ∅;have g:x*(n:Int)<=1000*10:=Int.mul_le_mul ∅ ∅ ∅ (!_);have f:(20000:Int)<10^50:=!_
 lia
theorem afL{sd:Int}{n:Nat}(g:0<n):((au n).map (FN sd n)).Nodup:=by
 unfold List.Nodup;rw[List.pairwise_map];refine List.Pairwise.imp_of_mem (λ{i j} b c a e=>a ?_) (List.nodup_range (n:=n));have b:=cT.mp b;have c:=cT.mp c;have e:=fy (·%(n:Int)) e;simp only[name_mod g] at e;have f:((i:Int)+sd-((j:Int)+sd))%(n:Int)=0:=by rw[Int.sub_emod,e,Int.sub_self,Int.zero_emod]
 have d:((i:Int)-(j:Int))%(n:Int)=0:=by rw[show (i:Int)-(j:Int)=(i:Int)+sd-((j:Int)+sd) by lia];exact f
 rcases Int.le_total (j:Int) (i:Int) with h|h
 ·rw[Int.emod_eq_of_lt ∅ ∅] at d;lia
 ·have:((j:Int)-(i:Int))%(n:Int)=0:=by
   rw[show (j:Int)-(i:Int)=-((i:Int)-(j:Int)) by lia];exact Int.emod_eq_zero_of_dvd (Int.dvd_neg.mpr (Int.dvd_of_emod_eq_zero d))
  rw[Int.emod_eq_of_lt ∅ ∅] at this;lia
theorem Wp{a b:Nat}{y:Int}:∃v:Nat,Kn [V.int (a:Nat),V.int (a:Nat),V.int (b:Nat)] (y%3)=some (.int (v:Nat))/\(v=a∨v=b):=by
 have c:=eE y (show (3:Int)≠0 by decide);have d:=fq y (show (0:Int)<3 by decide)
 have:y%3=0∨y%3=1∨y%3=2:=∅
 rcases this with e|e|e <;> rw[e]
 ·exact⟨a,rfl,.inl rfl⟩
 ·exact⟨a,rfl,.inl rfl⟩
 ·exact⟨b,rfl,.inr rfl⟩
inductive Wq(K:af)(vs:List V)(H:Hp)(Q:VK)(E:XK):Prop
 |mk (a:Addr) (cs:List Int):vs=[.ref a]->bC K H a (cs.map V.int)->(∀q a0 b0 c0 ns rs cl (us qs:List Addr) H',aC H H'->H' q=some (.tup [.ref a0,.ref b0,.ref c0])->H' a0=some (.lst (ns.map V.int))->H' b0=some (.lst (us.map V.ref))->dU K H' us (rs.map R5.vs)->H' c0=some (.lst (qs.map V.ref))->dU K H' qs (Uk cl)->cD ns rs->TB ns rs->rs.length<=14->cl.length<=12->(∀c∈cl,c.1<ns.length/\c.2<3)->Q (.ref q) H')->Wq K vs H Q E
theorem aaY{t:Ad}(T:Txt K mg w t):bL P w K mg base fP 2 t.CF t.HB ["_law_script"]  (Wq K):=by
 refine T.Vh.F.gB gY λH Q E hr h=>?_
 ·obtain⟨a,cs,rfl,hS,k⟩:=h
  refine⟨_,(ao (sS 1 gY (bG jl az (bG dh (cG (ug T) hr T.rM (jD (pv 0) az)) az))) (ao (sS 2 gY (bG dh (cG (ug T) hr T.rM (jD (pv 0) az)) (bG abv az az))) (ao (sS 3 gY (dY fF)) (ao (fS (gX rfl T.j9 (cX (pv 1))) (gT 4 gY) (ao (sS 5 gY (bG FP (bG dh (bG fE (bG dh (bG FP (bG FP (bG jl (pv 2) az) (bG jl (pv 4) az)) az) az) az) az) (pv 1))) (oE (jJ bJ bO bN gq (pv 3) (cX (bG jl (pv 5) (bG dh (bG jl (pv 4) (pv 2)) (pv 1)))))))) (ao (sS 6 gY (dY fF)) (ao (b4 (qT Yn (pv 1) az) (ao (sS 7 gY (bG jl az (bG dh (bG fE (pv 2) az) (xL (dY (Jc az az az)) (bG dh (bG fE (pv 2) az) az))))) (bQ (mZ (i:=6) gY.nd rfl (Or.inl rfl) (kO gY ["_law_k","_law_script","_law_size"] [none,some 0,some 1]) rfl (gX rfl T.j9 (cX (pv 7))) (λ_ _ _ _=>by exact (gS 0 SN)) (λ_ _ _ _=>by exact eK) (λ_ _ _ _=>by exact (cG (aaX T) hr T.Vg (jD (bG fE (cG (ug T) hr T.rM (jD (pv 1) (bG jl az (bG dh (pv 0) az)))) (bG jl az (bG FP az (bG fE (pv 0) az)))) (pv 2))))))) br) (ao (sS 8 gY (dY fF)) (ao (fS (gX rfl T.j9 (cX (bG dh (bG fE (pv 2) az) (xL (dY (Jc az az az)) (bG dh (bG fE (pv 2) az) az))))) (gT 4 gY) (ao (sS 9 gY (bG fE (cG (ug T) hr T.rM (jD (pv 0) (bG jl az (bG dh (pv 4) az)))) (bG jl az (bG FP az (bG fE (pv 4) az))))) (oE (jJ bJ bO bN gq (pv 8) (cX (dG (jD (bG dh (pv 9) (pv 1)) (bG FP (bG dh (bG fE (pv 9) (pv 1)) az) (bG dh (bG fE (pv 2) az) az))))))))) (oR (dG (Jc (pv 3) (pv 6) (pv 8)))))))))))),?_⟩
  left
  refine cJ λNx l=>?_;refine⟨_,rfl,a,cs,0,rfl,hS,!_,_,_,rfl,rfl,(by show (0:Int)<10;decide),_,_,rfl,rfl,?_⟩;obtain⟨n,hn,hn1,alx⟩:∃n:Nat,1+cs.getD (0:Int).toNat 0%10=(n:Int)/\1<=n/\n<=10:=by
   have h1:=eE (cs.getD (0:Int).toNat 0) (show (10:Int)≠0 by decide);have Z:=fq (cs.getD (0:Int).toNat 0) (show (0:Int)<10 by decide);exact⟨(1+cs.getD (0:Int).toNat 0%10).toNat,∅,∅,∅⟩
  show gp 1 (V.int (1+cs.getD (0:Int).toNat 0%10)) _ _ _;rw[hn];refine l _ _ ?_;refine cJ λNx l=>?_;have p50:(0:Int)<10^(50:Int).toNat:=!_
  refine⟨_,rfl,a,cs,1,rfl,hS,!_,_,_,rfl,rfl,⟨!_,!_,!_⟩,_,_,rfl,rfl,p50,?_⟩;have sd0:=eE (cs.getD (1:Int).toNat 0) (show (10:Int)^(50:Int).toNat≠0 by decide);show gp 2 (V.int (cs.getD (1:Int).toNat 0%10^(50:Int).toNat)) _ _ _;generalize cs.getD (1:Int).toNat 0%10^(50:Int).toNat=sd at sd0;refine l _ _ ?_;refine cJ λNx l=>?_;refine⟨be _,λD hl1=>l _ _ ?_⟩;have u1:=aC.new (o:=.lst []) hl1;have h1:=aq (H:=H) (a:=D) (o:=.lst []);generalize upd H D (.lst [])=H1 at u1 h1;refine cJ λNx l=>?_;refine⟨_,rfl,(n:Int),rfl,∅,∅,DX (n:=((n:Int)).toNat) (λi C H2=>aC H H2/\H2 D=some (.lst (((au i).map (FN sd n)).map V.int))/\∃v4 v5:Option V,C=[some (.ref a),some (.int (n:Nat)),some (.int sd),some (.ref D),v4,v5,none,none,none,none]) ⟨u1,h1,_,_,rfl⟩ ?_ ?_⟩
  ·rintro i C H2 hi ⟨s2,Z,v4,v5,rfl⟩
   rw[eB];have hi:i<n:=∅
   refine⟨_,rfl,_,_,rfl,rfl,_,rfl,_,_,rfl,rfl,_,_,rfl,rfl,.inr ⟨∅,∅⟩,_,_,rfl,rfl,.inr ⟨!_,!_⟩,_,_,rfl,rfl,(by show (0:Int)<2147483647;decide),_,_,rfl,rfl,⟨!_,!_⟩,_,_,rfl,rfl,(by show (0:Int)<1000;decide),_,rfl,_,_,rfl,rfl,.inr ⟨∅,∅⟩,?_⟩;refine⟨_,rfl,.inl ⟨rfl,_,bC.of Z⟩,_,rfl,_,rfl,_,rfl,_,_,rfl,rfl,_,rfl,_,_,rfl,rfl,(by show (0:Int)<(n:Int);lia),_,_,rfl,rfl,D,_,_,rfl,rfl,Z,by rw[ah,ah,bz];exact bX ∅,?_⟩;refine⟨λb o e=>by rw[aK (aJ e hl1)];exact s2 b o e,?_,_,_,rfl⟩;rw[aq,fB,aU,aU];rfl
  rintro C H2 ⟨s2,Z,v4,v5,rfl⟩;rw[ko] at Z;refine l _ _ ?_;have tn:((au n).map (FN sd n)).length=n:=by rw[ah,bz]
  have tnd:=afL (sd:=sd) (show 0<n by lia);have A:∀x∈(au n).map (FN sd n),0<=x/\x<10^50:=λx W=>by
   obtain⟨i,_,rfl⟩:=aF.mp W;exact adP ∅ alx
  generalize (au n).map (FN sd n)=ns at Z tn tnd A;refine cJ λNx l=>?_;refine⟨be _,λl2 hl2=>l _ _ ?_⟩;have u3:=aC.new (o:=.lst []) hl2;have s3:=s2.trans u3;have h13:=u3 _ _ Z;have h23:=aq (H:=H2) (a:=l2) (o:=.lst []);generalize upd H2 l2 (.lst [])=H3 at u3 s3 h13 h23;refine qu (λC O=>∃(N:Addr) (f:List Addr) (rs:List R5) (v7:Option V),aC H3 O/\O N=some (.lst (f.map V.ref))/\dU K O f (rs.map R5.vs)/\(∀r∈rs,r.Ok n/\r.c<=10^41)/\rs.length<=14/\C=[some (.ref a),some (.int (n:Nat)),some (.int sd),some (.ref D),v4,v5,some (.ref N),v7,none,none]) ?_ (λN' hN=>?_)
  rotate_left
  ·refine⟨_,rfl,_,_,rfl,rfl,_,rfl,jh (λe=>?_) (λe=>?_)⟩
   rotate_left
   ·exact hN _ _ ⟨l2,[],[],_,aC.refl _,h23,⟨rfl,λi q x z=>(by cases z)⟩,λr z=>(by cases z),be _,rfl⟩
   have n2:2<=n:=by have:=fT e;lia
   refine⟨_,rfl,_,_,rfl,rfl,⟨!_,!_⟩,ur,λd s=>?_⟩;have u4:=aC.new (o:=.lst [V.int 8,V.int 8,V.int 14]) s;have h34:=aq (H:=H3) (a:=d) (o:=.lst [V.int 8,V.int 8,V.int 14]);generalize upd H3 d (.lst [V.int 8,V.int 8,V.int 14])=O at u4 h34;obtain⟨v,hv,hv2⟩:=Wp (a:=8) (b:=14) (y:=sd/1000);refine⟨_,rfl,_,_,rfl,rfl,⟨!_,!_⟩,_,_,rfl,rfl,(by show (0:Int)<3;decide),d,_,_,_,rfl,rfl,bC.of h34,hv,_,_,rfl,rfl,(by show (0:Int)<(v:Int);lia),_,_,rfl,rfl,?_⟩;obtain⟨m0,em0,hm0⟩:=iw (sd/5) (show 0<v by lia);show gp 7 (V.int (1+sd/5%(v:Int))) _ _ _;rw[em0,show (1:Int)+(m0:Int)=((m0+1:Nat):Int) by lia];have aoL:m0+1<=14:=∅
   generalize m0+1=m at aoL;refine⟨_,rfl,(m:Int),rfl,∅,∅,λacc J=>?_⟩;refine gG (n:=((m:Int)).toNat) (λi ys H5=>∃(f:List Addr) (rs:List R5),ys=f.map V.ref/\dU K H5 f (rs.map R5.vs)/\(∀r∈rs,r.Ok n/\r.c<=10^41)/\rs.length=i) J BX rm ⟨[],[],rfl,⟨rfl,λi q x z=>(by cases z)⟩,λr z=>(by cases z),rfl⟩ ?_ ?_
   ·rintro i ys H5 hi Y hy ⟨f,rs,rfl,G,p,R⟩ x H6 ⟨rfl,rfl⟩
    rw[eB];have hS6:=(s3.trans (u4.trans Y)).seq hS;have q8:=eE (i:Int) (show (8:Int)≠0 by decide);have d8:0<=(i:Int)/8/\(i:Int)/8<=14:=⟨Int.ediv_nonneg ∅ (!_),∅⟩;refine⟨_,rfl,_,rfl,_,_,rfl,rfl,(by show (0:Int)<8;decide),_,_,rfl,rfl,a,cs,_,rfl,hS6,∅,_,rfl,_,_,rfl,rfl,⟨!_,!_⟩,_,_,rfl,rfl,.inl ⟨!_,!_⟩,_,_,rfl,rfl,_,_,rfl,rfl,⟨∅,∅⟩,_,rfl,_,n,rfl,n2,alx,λr q j ro rc M hq=>?_⟩;have ul:f.length=rs.length:=by rw[G.len,ah]
    refine fH J hi (Y.trans M) (M _ _ hy) (by rw[ah,ul,R];exact bX ∅) ⟨f++[q],rs++[r],by rw[aU];rfl,?_,?_,by rw[aA,R];rfl⟩
    ·have kt:∀b x,cR K j b x->cR K (upd j acc (.lst (f.map V.ref++[.ref q]))) b x:=λb x=>cR.past (M _ _ hy) m6 cK
     have:=dU.snoc (G.mono λb x=>M.cV) (cR.of hq)
     rw[aU];exact this.mono kt
    ·intro r' u
     rcases bx.mp u with z|z
     ·exact p r' z
     ·rw[aX.mp z];exact⟨ro,rc⟩
   rintro ys H5 Y hy ⟨f,rs,rfl,G,p,R⟩;exact hN _ _ ⟨acc,f,rs,_,u4.trans Y,hy,G,p,∅,rfl⟩
  rintro C O ⟨N,f,rs,v7,Zy,hb4,aly,p,aoN,rfl⟩;have s4:=s3.trans Zy;have h14:=Zy _ _ h13;refine cJ λNx l=>?_;refine⟨be _,λd s=>l _ _ ?_⟩;have u5:=aC.new (o:=.lst []) s;have Y:=s4.trans u5;have YA:=u5 _ _ h14;have hb5:=u5 _ _ hb4;have ai0:dU K _ f (rs.map R5.vs):=aly.mono λb x=>u5.cV;have h35:=aq (H:=O) (a:=d) (o:=.lst []);have n13:D≠d:=aJ h14 s;have nb3:N≠d:=aJ hb4 s;have nl3:=s4.free s;generalize upd O d (.lst [])=H5 at u5 Y YA hb5 ai0 h35;refine cJ λNx l=>?_;refine⟨_,rfl,_,_,rfl,rfl,⟨!_,!_⟩,ur,λl4 VY=>?_⟩;have u6:=aC.new (o:=.lst [V.int 6,V.int 6,V.int 13]) VY;have h46:=aq (H:=H5) (a:=l4) (o:=.lst [V.int 6,V.int 6,V.int 13]);have s6:=Y.trans u6;have h16:=u6 _ _ YA;have hb6:=u6 _ _ hb5;have alA:dU K _ f (rs.map R5.vs):=ai0.mono λb x=>u6.cV;have X:=u6 _ _ h35;generalize upd H5 l4 (.lst [V.int 6,V.int 6,V.int 13])=H6 at u6 h46 s6 h16 hb6 alA X;obtain⟨v,hv,hv2⟩:=Wp (a:=6) (b:=13) (y:=sd/3000);obtain⟨m,em,hm⟩:=iw (sd/40) (show 0<v by lia);refine⟨_,rfl,_,_,rfl,rfl,⟨!_,!_⟩,_,_,rfl,rfl,(by show (0:Int)<3;decide),l4,_,_,_,rfl,rfl,bC.of h46,hv,_,_,rfl,rfl,(by show (0:Int)<(v:Int);lia),?_⟩;rw[em];refine⟨(m:Int),rfl,∅,∅,DX (n:=((m:Int)).toNat) (λi C j=>(∀b o,H6 b=some o->b≠d->j b=some o)/\∃(L:List Addr) (cl:List (Nat×Nat)) (v4 v9:Option V),j d=some (.lst (L.map V.ref))/\dU K j L (Uk cl)/\cl.length=i/\(∀c∈cl,c.1<n/\c.2<3)/\C=[some (.ref a),some (.int (n:Nat)),some (.int sd),some (.ref D),v4,v5,some (.ref N),v7,some (.ref d),v9]) ⟨λb o e _=>e,[],[],_,_,X,⟨rfl,λi q x z=>(by cases z)⟩,rfl,λc z=>(by cases z),rfl⟩ ?_ ?_⟩
  ·rintro i C j hi ⟨U,L,cl,v4,v9,I,FI,R,S,rfl⟩
   rw[eB];have hi:i<13:=∅
   have hS7:bC K j a (cs.map V.int):=by
    have M:aC H j:=λb o e=>U b o (s6 b o e) (aJ e nl3);exact M.seq hS
   have q6:=eE (i:Int) (show (6:Int)≠0 by decide);have d6:0<=(i:Int)/6/\(i:Int)/6<=14:=⟨Int.ediv_nonneg ∅ (!_),∅⟩;refine⟨_,rfl,_,rfl,_,_,rfl,rfl,(by show (0:Int)<6;decide),_,_,rfl,rfl,a,cs,_,rfl,hS7,∅,_,rfl,_,_,rfl,rfl,⟨!_,!_⟩,_,_,rfl,rfl,.inl ⟨!_,!_⟩,_,_,rfl,rfl,_,_,rfl,rfl,⟨∅,∅⟩,?_⟩
   try dsimp only
   generalize cs.getD (10+(i:Int)%6).toNat 0/(1+13*((i:Int)/6))=cc;obtain⟨x,ex,W⟩:=iw cc (show 0<n by lia);obtain⟨y,ey,hy⟩:=iw (cc/(n:Int)) (show 0<3 by decide);obtain⟨z,ez,hz⟩:=iw (sd/240) (show 0<2 by decide);have hyz:∃g:Nat,(y:Int)*(z:Int)=(g:Int)/\g<3:=⟨y*z,by rw[Int.natCast_mul],by
    have:z=0∨z=1:=∅
    rcases this with rfl|rfl
    ·rw[Nat.mul_zero];decide
    ·rw[Nat.mul_one];exact hy⟩
   obtain⟨g,eg,hg⟩:=hyz;refine⟨_,rfl,.inl ⟨rfl,_,bC.of I⟩,_,rfl,_,rfl,_,_,rfl,rfl,(by show (0:Int)<(n:Int);lia),_,rfl,_,rfl,_,_,rfl,rfl,⟨∅,∅⟩,_,_,rfl,rfl,(by show (0:Int)<3;decide),_,rfl,_,_,rfl,rfl,⟨!_,!_⟩,_,_,rfl,rfl,(by show (0:Int)<2;decide),?_⟩
   try dsimp only
   rw[ex,show cc/(n:Int)%3=(y:Int) from ey,show sd/240%2=(z:Int) from ez];refine⟨_,_,rfl,rfl,.inr ⟨∅,∅⟩,?_⟩
   try dsimp only
   rw[eg];refine⟨ff,λq hq=>?_⟩;have B:=aC.new (o:=.tup [V.int (x:Nat),V.int (g:Nat)]) hq;have h8:=aq (H:=j) (a:=q) (o:=.tup [V.int (x:Nat),V.int (g:Nat)]);have h38:=B _ _ I;have ql:L.length=i:=by rw[FI.len,ah,R]
   refine⟨d,_,_,rfl,rfl,h38,by rw[ah,ql];exact bX ∅,?_⟩;refine⟨λb o e nb=>by rw[aK nb];exact B _ _ (U b o e nb),L++[q],cl++[(x,g)],_,_,by rw[aq,aU];rfl,?_,by rw[aA,R];rfl,?_,rfl⟩
   ·have kt:∀b x,cR K _ b x->cR K (upd _ d (.lst (L.map V.ref++[.ref q]))) b x:=λb x=>cR.past h38 m6 cK
    have:=dU.snoc (FI.mono λb x=>B.cV) (cR.of h8)
    show dU K _ _ ((cl++[(x,g)]).map _);rw[aU];exact this.mono kt
   ·intro c hc
    rcases bx.mp hc with z|z
    ·exact S c z
    ·rw[aX.mp z];exact⟨W,hg⟩
  rintro C j ⟨U,L,cl,v4',v9,I,FI,R,S,rfl⟩;refine l _ _ ?_;have kt:∀b x,cR K H6 b x->cR K j b x:=λb x=>cR.past X m6 U;have h17:=U _ _ h16 n13;have hb7:=U _ _ hb6 nb3;have aoQ:=alA.mono kt;have M:aC H j:=λb o e=>U b o (s6 b o e) (aJ e nl3);refine⟨_,rfl,_,rfl,_,rfl,ur,λq hq=>?_⟩;have B:=aC.new (o:=.tup [V.ref D,V.ref N,V.ref d]) hq;have e10:n=ns.length:=tn.symm;refine k q D N d ns rs cl f L _ (M.trans B) aq (B _ _ h17) (B _ _ hb7) (aoQ.mono λb x=>B.cV) (B _ _ I) (FI.mono λb x=>B.cV) ⟨tnd,λr u=>e10▸(p r u).1,∅,∅,∅,λx W=>(A x W).1⟩ ⟨λx W=>(A x W).2,λr u=>(p r u).2⟩ aoN ∅ (e10▸S)
theorem Zz{X:Cx}(K:af)(h:X.K=K){b l:Expr}{a:TE}(hl:PE X l a):PI X b l (ajK K a):=by subst h;exact R0 hl
theorem OZ{X:Cx}(K:af)(h:X.K=K):O4 X "str.join" (rJoin K):=by subst h;exact z9
theorem aaZ{X:Cx}{scope:Scope}{c:List Str}{a:List (Option Nat)}(h:D3 scope {kind:=.function,names:=[],isGenerator:=false,isCoroutine:=false} [] c a=true):jm X scope c a:=by
 refine QK rfl rfl ?_;unfold D3 at h ⊢;simp only[dF] at h ⊢;obtain⟨⟨⟨⟨⟨⟨⟨g,m⟩,n⟩,d⟩,f⟩,l⟩,j⟩,b⟩:=h;refine⟨⟨⟨⟨⟨⟨⟨g,m⟩,n⟩,?_⟩,f⟩,l⟩,j⟩,?_⟩
 ·rw[lM] at d ⊢
  intro y e
  have:=d y e
  rw[Bool.or_eq_true] at this ⊢;rcases this with z|z
  ·exact .inl z
  ·cases z
 ·rw[lM] at b ⊢
  intro i k
  have:=b i k
  split at this
  ·cases this
  ·rfl
theorem kN{X:Cx}{scope:Scope}(b:List Str)(a:List (Option Nat))(h:D3 scope {kind:=.function,names:=[],isGenerator:=false,isCoroutine:=false} [] b a=true:=by decide +kernel):jm X scope b a:=aaZ h
inductive Ws(vs:List V)(H:Hp)(Q:VK)(E:XK):Prop
 |mk (b:Bool) (y n:Str):vs=[.bl b,.str y,.str n]->Q (.str (if b=true then y else n)) H->Ws  vs H Q E
theorem Ey{t:Ad}(T:Txt K mg w t):bL P w K mg base fP 1 t.CH t.HD ["_law_truth","_law_yes","_law_no"]  Ws:=by
 refine T.C5.F.gB aau λH Q E a h=>?_
 ·obtain⟨b,y,n,rfl,k⟩:=h
  refine⟨_,(ao (b4 (mW (pv 0)) (oR (pv 1)) br) (oR (pv 2))),?_⟩
  left
  cases b with
  |true=>exact⟨_,rfl,_,rfl,dZ ⟨_,rfl,k⟩⟩
  |false=>exact⟨_,rfl,_,rfl,dO ⟨_,rfl,k⟩⟩
noncomputable def dV:V->PyData
 |.int i=>.int i
 |_=>.none
def Wt(x:V):Prop:=x=.dH∨∃i,x=.int i/\TX.Wr i
theorem Wt.wr{x:V}(h:Wt x):OO x:=by
 rcases h with rfl|⟨i,rfl,a⟩
 ·exact .dH
 ·exact .int a
theorem adQ{H:Hp}:∀{xs:List V},(∀x∈xs,Wt x)->cW K H (xs.map dV) xs
 |[],_=>rfl
 |x::xs,h=>⟨x,xs,rfl,by
  rcases h x aL with rfl|⟨i,rfl,_⟩
  ·exact rfl
  ·exact rfl,adQ λy a=>h y (aM _ a)⟩
theorem adR:∀{xs:List V},PyData.canLayAll0 (xs.map dV)=true
 |[]=>rfl
 |x::xs=>by
  show (PyData.canLay0 (dV x)&&PyData.canLayAll0 (xs.map dV))=true;rw[adR,Bool.and_true];unfold dV;split <;> rfl
theorem ZA:∀{xs:List V},PyData.depthAll (xs.map dV)<=1
 |[]=>!_
 |x::xs=>by
  have a:=ZA (xs:=xs);show max (PyData.depth (dV x)) (PyData.depthAll (xs.map dV))<=1;have b:PyData.depth (dV x)<=1:=by unfold dV;split <;> exact be _
  lia
inductive RP(K:af)(vs:List V)(H:Hp)(Q:VK)(E:XK):Prop
 |mk (a:Addr) (xs:List V):vs=[.ref a]->bC K H a xs->(∀x∈xs,Wt x)->xs.length<=210000->(∀H',aC H H'->Q (.str (wu xs)) H')->RP K vs H Q E
theorem G0{t:Ad}(T:Txt K mg w t):bL P w K mg base fP 1 t.zC t.Em ["_law_things"]  (RP K):=by
 refine T.Es.F.gB M5 λH Q E I h=>?_
 ·obtain⟨a,xs,rfl,G,q,J,k⟩:=h
  refine⟨_,(ao (b4 (qT z5 (pv 0) (dY fF)) (oR bu) br) (oR (jJ bY ee d9 z9 bu (cX (dP (kO M5 ["_law_thing"] [none]) rfl (dB (pv 0)) (λ_ _ _ _=>by exact (gS 0 Pw)) (λ_ _ _ _=>by exact eK) (λ_ _ _ _=>by exact (jI (qT R1 (pv 0) lF) bu (bS Jd (by rfl) T.zI boot_str (cX (pv 0)))))))))),?_⟩
  left
  refine⟨_,rfl,be _,λr u=>?_⟩;have m:=aC.new (o:=.lst []) u;have e:=aq (H:=H) (a:=r) (o:=.lst []);generalize upd H r (.lst [])=H1 at m e;have b:=m.seq G;refine⟨.list (xs.map dV),.list [],⟨a,_,rfl,b,adQ q⟩,⟨r,[],rfl,bC.of e,rfl⟩,adR,rfl,bq (bI (ay (cQ _ _) (by show PyData.depthAll _+1<=64;have:=ZA (xs:=xs);lia)) _) I.units,_,rfl,?_⟩;rw[Bh];cases xs with
  |nil=>exact dZ (k H1 m)
  |cons A d =>
   refine dO ?_;have D:wu (A::d)=Txt.join TX.tO ((A::d).map RK):=rfl;rw[D] at k;generalize A::d=xs at *;refine⟨rfl,_,rfl,a,rfl,⟨_,b⟩,λB g=>?_⟩;refine jX (n:=xs.length) (λi=>xs.getD i .dH) (λi=>V.str (RK (xs.getD i .dH))) g (m5 b) (g5 b) (λi f x L s p c=>?_) ∅ (λi f R S s p e=>?_) (λf p l=>?_)
   ·obtain⟨rfl,c⟩:=c
    have c:=c _ (p.seq b);exact⟨rfl,by rw[aj,c];rfl⟩
   ·have c:Wt (xs.getD i .dH):=by
     rw[aj,aa s];exact q _ (aD s)
    generalize xs.getD i .dH=x at c e;refine⟨_,rfl,rfl,_,rfl,?_⟩;rcases c with rfl|⟨j,rfl,C⟩
    ·exact dZ (e f (aC.refl _))
    ·exact rz (e8 λz=>by cases z) ⟨_,rfl,.inl ⟨_,rfl,eZ C,e f (aC.refl _)⟩⟩
   ·rw[map_getD λv=>V.str (RK v)] at l
    refine⟨_,B,xs.map RK,rfl,rfl,bC.of (by rw[bP];exact l),Kd (λy l=>?_) (by rw[ah];exact J) (!_),k f (m.trans p)⟩;obtain⟨x,c,rfl⟩:=aF.mp l;exact XX (q x c).wr
theorem Kf{a:Str}{ns:List Int}(d:a.length<=60)(c:∀n∈ns,TX.Wr n)(b:ns.length<=12):((TX.wordsOf a ns).map (·.length)).sum+(TX.wordsOf a ns).length*TX.tO.length<=16777216:=by
 have:=TX.QZ d c
 have:(ns.length+1)*61<=13*61:=Nat.mul_le_mul_right _ ∅
 lia
theorem Wu{ns:List Int}:(au ns.length).map (λi=>V.str (TX.num (ns.getD i 0)))=(ns.map TX.num).map V.str:=by
 refine iA (-_) λi c b=>?_;have a:i<ns.length:=by simpa using b
 simp only[rS,nB,aj,aa a];rfl
inductive Wv(K:af)(vs:List V)(H:Hp)(Q:VK)(E:XK):Prop
 |mk (q a0 b0 c0:Addr) (ns:List Int) (rs:List R5) (cl:List (Nat×Nat)) (us qs:List Addr):vs=[.ref q]->cR K H q [.ref a0,.ref b0,.ref c0]->bC K H a0 (ns.map V.int)->bC K H b0 (us.map V.ref)->dU K H us (rs.map R5.vs)->bC K H c0 (qs.map V.ref)->dU K H qs (Uk cl)->y9 ns (rs.map R5.ns) (wA cl)->(∀H',aC H H'->Q (.str (TX.nW ns (rs.map R5.ns) (wA cl))) H')->Wv K vs H Q E
theorem aa0{t:Ad}(T:Txt K mg w t):bL P w K mg base fP 1 t.CG t.HC ["_law_told"]  (Wv K):=by
 refine T.Vi.F.gB um λH Q E hr h=>?_
 ·obtain⟨q,a0,b0,c0,ns,rs,cl,v,s,rfl,hq,hA,hB,O,hC,FI,G,k⟩:=h
  refine⟨_,(ao (sS 1 um (dY (cX (jJ bY ee d9 z9 bu (cX (bG L5 (dY (cX bu)) (dP (kO um ["_law_name"] [none]) rfl (dB (xT (pv 0) az)) (λ_ _ _ _=>by exact (gS 0 SO)) (λ_ _ _ _=>by exact eK) (λ_ _ _ _=>by exact (bS fZ (by rfl) T.zI boot_str (cX (pv 0))))))))))) (ao (sS 1 um (bG L5 (pv 1) (dP (kO um ["_law_rope_here"] [none]) rfl (dB (xT (pv 0) az)) (λ_ _ _ _=>by exact (gS 0 SQ)) (λ_ _ _ _=>by exact eK) (λ_ _ _ _=>by exact (Sm K rfl bY ee d9 (OZ K rfl) bu (cX (bG L5 (dY (cX bu)) (dP (kN ["_law_number"] [none]) rfl (Zz K rfl (pv 0)) (λ_ _ _ _=>by exact (gS 0 SR)) (λ_ _ _ _=>by exact eK) (λ_ _ _ _=>by exact (bS fZ (by rfl) T.zI boot_str (cX (pv 0)))))))))))) (oR (jJ bY ee d9 z9 bu (cX (bG L5 (pv 1) (dP (kO um ["_law_pair"] [none]) rfl (dB (xT (pv 0) az)) (λ_ _ _ _=>by exact (gS 0 SS)) (λ_ _ _ _=>by exact eK) (λ_ _ _ _=>by exact (Sm K rfl bY ee d9 (OZ K rfl) bu (cX (dY (Jc bu (bS fZ (by rfl) T.zI boot_str (cX (yT K (pv 0) az))) (bS fZ (by rfl) T.zI boot_str (cX (yT K (pv 0) az))))))))))))))),?_⟩
  left
  refine⟨rfl,Ou,λl1 hl1=>?_⟩;have u1:=aC.new (o:=.lst [V.str "names"]) hl1;have h1:=aq (H:=H) (a:=l1) (o:=.lst [V.str "names"]);generalize upd H l1 (.lst [V.str "names"])=H1 at u1 h1;have y:=u1.seq hA;refine⟨_,rfl,q,_,_,_,rfl,rfl,u1.cV hq,rfl,a0,rfl,⟨_,y⟩,λacc X=>?_⟩;have el:(ns.map V.int).length=ns.length:=ah _;refine jX (n:=(ns.map V.int).length) (λi=>.int (ns.getD i 0)) (λi=>V.str (TX.num (ns.getD i 0))) X (m5 y) (g5 y) (λi H2 x H3 c W b=>?_) (by have:=G.l1;lia) (λi H2 R S c W h1=>?_) (λH2 W hy=>?_)
  ·obtain⟨rfl,b⟩:=b
   have b:=b _ (W.seq y);rw[el] at c;rw[ak,aa c] at b;exact⟨rfl,by rw[aj,aa c];exact (aR b).symm⟩
  ·rw[el] at c
   have hw:TX.Wr (ns.getD i 0):=by
    rw[aj,aa c];exact G.h1 _ (aD c)
   exact⟨_,rfl,_,rfl,eZ hw,h1 H2 (aC.refl _)⟩
  rw[el,Wu] at hy;have l12:=G.l1;refine⟨l1,acc,_,_,rfl,rfl,W _ _ h1,hy,(by simp only[ah,bH,uB];exact g4 (bX ∅)),λl9 D=>?_⟩;refine⟨_,l9,TX.wordsOf "names" ns,rfl,rfl,bC.of aq,Kf (!_) G.h1 G.l1,?_⟩;rw[show Txt.join (" " : Str) (TX.wordsOf "names" ns)=TX.fh "names" ns from rfl];have s3:=aC.new (o:=.lst ([V.str "names"]++(ns.map TX.num).map V.str)) D;generalize upd H2 l9 (.lst ([V.str "names"]++(ns.map TX.num).map V.str))=H3 at s3;refine⟨Ou,λl2 hl2=>?_⟩;have u4:=aC.new (o:=.lst [V.str (TX.fh "names" ns)]) hl2;have Y:=aq (H:=H3) (a:=l2) (o:=.lst [V.str (TX.fh "names" ns)]);have U:=(u1.trans W).trans (s3.trans u4);generalize upd H3 l2 (.lst [V.str (TX.fh "names" ns)])=H4 at u4 Y U;have eus:v.length=rs.length:=by rw[O.len,ah]
  have A:=U.seq hB;refine⟨_,rfl,_,rfl,q,_,_,_,rfl,rfl,U.cV hq,rfl,b0,rfl,⟨_,A⟩,λac2 afN=>?_⟩;have lr5:∀r∈rs,r.ns.length<=12:=λr _=>by show 5<=12;decide
  refine jX (n:=(v.map V.ref).length) (λi=>(v.map V.ref).getD i .dH) (λi=>V.str (((rs.map R5.ns).map (TX.fh "rope")).getD i Str.empty)) afN (m5 A) (g5 A) (λi L x H6 c J b=>?_) (by have:=G.m2;rw[ah] at this ⊢;lia) (λi L R S c J h1=>?_) (λL J Z=>?_)
  ·obtain⟨rfl,b⟩:=b
   have b:=b _ (J.seq A);exact⟨rfl,by rw[aj,b];rfl⟩
  ·have l:i<v.length:=by rw[ah] at c;exact c
   have f:i<rs.length:=∅
   have e1:(v.map V.ref).getD i .dH=.ref v[i]:=by rw[aj,ak,aa l];rfl
   have e2:((rs.map R5.ns).map (TX.fh "rope")).getD i Str.empty=TX.fh "rope" rs[i].ns:=by rw[aj,ak,ak,aa f];rfl
   rw[e1];rw[e2] at h1;have hT:=(U.trans J).cV (O.at' i v[i] rs[i].vs (aa l) (by rw[ak,aa f];rfl));refine⟨rfl,Ou,λB C=>?_⟩;have M:=aC.new (o:=.lst [V.str "rope"]) C;have m:=aq (H:=L) (a:=B) (o:=.lst [V.str "rope"]);generalize upd L B (.lst [V.str "rope"])=H6 at M m;have z:=M.cV hT;have d:=G.h2 rs[i].ns (aF.mpr ⟨_,aD f,rfl⟩);refine⟨_,rfl,v[i],rfl,⟨_,z⟩,λac3 aoU=>?_⟩;refine jX (n:=rs[i].vs.length) (λj=>.int (rs[i].ns.getD j 0)) (λj=>V.str (TX.num (rs[i].ns.getD j 0))) aoU (Mg z) (BY z) (λj I x H8 hj e b=>?_) (by show 5<=1000000;decide) (λj I R' S' hj e h2=>?_) (λI e p=>?_)
   ·obtain⟨rfl,b⟩:=b
    have b:=b _ (e.cV z);have g:j<rs[i].ns.length:=hj;rw[show rs[i].vs=rs[i].ns.map V.int from rfl,ak,aa g] at b;exact⟨rfl,by rw[aj,aa g];exact (aR b).symm⟩
   ·have g:j<rs[i].ns.length:=hj
    have hw:TX.Wr (rs[i].ns.getD j 0):=by
     rw[aj,aa g];exact d _ (aD g)
    exact⟨_,rfl,_,rfl,eZ hw,h2 I (aC.refl _)⟩
   ·rw[show rs[i].vs.length=rs[i].ns.length from rfl,Wu] at p
    refine⟨B,ac3,_,_,rfl,rfl,e _ _ m,p,(by show 1+5<=sizeLine;decide),λl9 D=>?_⟩;exact⟨_,l9,TX.wordsOf "rope" rs[i].ns,rfl,rfl,bC.of aq,Kf (!_) d (by show 5<=12;decide),h1 _ (M.trans (e.trans (aC.new D)))⟩
  have ey:(au (v.map V.ref).length).map (λi=>V.str (((rs.map R5.ns).map (TX.fh "rope")).getD i Str.empty))=((rs.map R5.ns).map (TX.fh "rope")).map V.str:=by
   refine iA (by simp[eus]) λi h1 h2=>?_;have f:i<rs.length:=by simpa using h2
   simp only[rS,nB,aj,ak,aa f];rfl
  rw[ey] at Z;have m2:=G.m2;have m3:=G.m3;rw[ah] at m2 m3;refine⟨l2,ac2,_,_,rfl,rfl,J _ _ Y,Z,(by simp only[ah,bH,uB];exact g4 (bX ∅)),λB C=>?_⟩;have M:=aC.new (o:=.lst ([V.str (TX.fh "names" ns)]++((rs.map R5.ns).map (TX.fh "rope")).map V.str)) C;have m:=aq (H:=L) (a:=B) (o:=.lst ([V.str (TX.fh "names" ns)]++((rs.map R5.ns).map (TX.fh "rope")).map V.str));have N:=U.trans (J.trans M);generalize upd L B (.lst ([V.str (TX.fh "names" ns)]++((rs.map R5.ns).map (TX.fh "rope")).map V.str))=H6 at M m N;have eqs:s.length=cl.length:=by rw[FI.len,ah]
  have u:=N.seq hC;refine⟨rfl,_,rfl,_,rfl,q,_,_,_,rfl,rfl,N.cV hq,rfl,c0,rfl,⟨_,u⟩,λac4 aoV=>?_⟩;refine jX (n:=(s.map V.ref).length) (λi=>(s.map V.ref).getD i .dH) (λi=>V.str (((wA cl).map (TX.fh "caller")).getD i Str.empty)) aoV (m5 u) (g5 u) (λi I x H8 c e b=>?_) (by rw[ah];lia) (λi I R S c e h1=>?_) (λI e p=>?_)
  ·obtain⟨rfl,b⟩:=b
   have b:=b _ (e.seq u);exact⟨rfl,by rw[aj,b];rfl⟩
  ·have l:i<s.length:=by rw[ah] at c;exact c
   have f:i<cl.length:=∅
   have e1:(s.map V.ref).getD i .dH=.ref s[i]:=by rw[aj,ak,aa l];rfl
   have e2:((wA cl).map (TX.fh "caller")).getD i Str.empty=TX.fh "caller" [(cl[i].1:Int),(cl[i].2:Int)]:=by rw[aj,ak,ak,aa f];rfl
   rw[e1];rw[e2] at h1;have hT:=(N.trans e).cV (FI.at' i s[i] [V.int cl[i].1,V.int cl[i].2] (aa l) (by rw[ak,aa f];rfl));have d:=G.h3 [(cl[i].1:Int),(cl[i].2:Int)] (aF.mpr ⟨_,aD f,rfl⟩);have w1:=d _ aL;have w2:=d _ (aM _ aL);refine⟨rfl,_,rfl,s[i],_,_,_,rfl,rfl,hT,rfl,_,rfl,eZ w1,_,rfl,s[i],_,_,_,rfl,rfl,hT,rfl,_,rfl,eZ w2,ur,λl5 hl5=>?_⟩;refine⟨_,l5,TX.wordsOf "caller" [(cl[i].1:Int),(cl[i].2:Int)],rfl,rfl,bC.of aq,Kf (!_) d (by show 2<=12;decide),h1 _ (aC.new hl5)⟩
  have ey:(au (s.map V.ref).length).map (λi=>V.str (((wA cl).map (TX.fh "caller")).getD i Str.empty))=((wA cl).map (TX.fh "caller")).map V.str:=by
   refine iA (by simp[eqs]) λi h1 h2=>?_;have f:i<cl.length:=by simpa using h2
   simp only[rS,nB,aj,ak,aa f];rfl
  rw[ey] at p;refine⟨B,ac4,_,_,rfl,rfl,e _ _ m,p,(by simp only[ah,aA,bH,uB];exact g4 (bX ∅)),λl6 hl6=>?_⟩;refine⟨_,l6,TX.partsOf ns (rs.map R5.ns) (wA cl),rfl,rfl,bC.of (by rw[aq];unfold TX.partsOf;rw[bA,aU];rfl),?_,k _ ((N.trans e).trans (aC.new hl6))⟩
  have:=G.sum
  exact ay this (!_)
theorem len_app(a b:Str):(a++b).length=a.length+b.length:=by rw[<- TX.z8,TX.rV,aA,TX.z8,TX.z8]
theorem cZ{a b:Str}(d:a.length<=1000)(c:b.length<=1000):(a++b).length<=sizeLine:=by rw[len_app,sizeLine_eq];lia
theorem Bj{a b:Str}{n m:Nat}(c:a.length<=n)(d:b.length<=m):(a++b).length<=n+m:=by rw[len_app];lia
theorem X0:TX.cs Str.empty=[]:=rfl
theorem tx1{w w':Str}(b:TX.cs w'=TX.cs w++[32])(a:Str):Str.empty++w'++a=Txt.join TX.tO [w,a]:=by
 refine TX.Sj ?_;rw[TX.join_eq,TX.wJ,TX.rV,TX.rV,b,X0,uA,eW];rfl
theorem tx2{w w':Str}(c:TX.cs w'=TX.cs w++[32])(a b:Str):Str.empty++w'++a++" " ++ b=Txt.join TX.tO [w,a,b]:=by
 refine TX.Sj ?_;rw[TX.join_eq,TX.wJ,TX.rV,TX.rV,TX.rV,TX.rV,c,X0,uA,eW,eW,eW];show _=TX.cs w++32::(TX.cs a++32::TX.cs b);rfl
theorem tx3(a:Str):Str.empty++"post " ++ a++" all" = Txt.join TX.tO ["post",a,"all"]:=by
 refine TX.Sj ?_;rw[TX.join_eq,TX.wJ,TX.rV,TX.rV,TX.rV,X0,uA,eW];rfl
def BL(o:HO):Prop:=∃b:List Bool,b≠[]/\o=.lst (b.map V.bl)
def KB(h h':Hp):Prop:=∀b o,h b=some o->¬BL o->h' b=some o
theorem KB.of{h h':Hp}(s:aC h h'):KB h h':=λb o e _=>s b o e
theorem KB.trans{h h' c:Hp}(a:KB h h')(b:KB h' c):KB h c:=λx o e n=>b x o (a x o e n) n
theorem O0{qs:List Addr}:¬BL (.lst (qs.map V.ref)):=λ⟨b,a,e⟩=>by
 cases b with
 |nil=>exact a rfl
 |cons x b=>cases qs with
  |nil=>cases e
  |cons q qs=>have:=(jH (HO.lst.inj e)).1;cases this
theorem Ul{ns:List Int}:¬BL (.lst (ns.map V.int)):=λ⟨b,a,e⟩=>by
 cases b with
 |nil=>exact a rfl
 |cons x b=>cases ns with
  |nil=>cases e
  |cons q c=>have:=(jH (HO.lst.inj e)).1;cases this
theorem adS{ns:List Nat}:¬BL (.lst (bE ns)):=by
 rw[fV];exact Ul
theorem KB.tup{h h':Hp}(k:KB h h'){b:Addr}{x:List V}(e:cR K h b x):cR K h' b x:=by
 rcases e with (e|⟨o,e⟩)|e
 ·exact .inl (.inl (k _ _ e λ⟨_,_,z⟩=>by cases z))
 ·exact .inl (.inr ⟨o,k _ _ e λ⟨_,_,z⟩=>by cases z⟩)
 ·exact .inr e
def DW{ns:List Int}{rs:List R5}(K:af)(c:NC)(o:cD ns rs)(H:Hp)(F:Addr->Prop)(p tp:Addr)(s:NS)(Q:VK):Prop :=
 ∀cmd x q s' F' H',Fits ns rs s cmd->Lw o s cmd x s'->(∀bs,XW bs cmd=bs)->cj K c H' F' p tp ns.length s'->Step H F H' F'->H' q=some (.tup [.str cmd.text,.str x])->Q (.ref q) H'
theorem DW.fin{ns:List Int}{rs:List R5}{c:NC}{o:cD ns rs}{H a:Hp}{F b:Addr->Prop}{p g:Addr}{s e:NS}{Q:VK}(k:DW K c o H F p g s Q){cmd:rP}{x z:Str}(f:Fits ns rs s cmd)(d:Lw o s cmd x e)(i:∀bs,XW bs cmd=bs)(N:cj K c a b p g ns.length e)(st:Step H F a b)(j:z=cmd.text):∀q,a q=none->Q (.ref q) (upd a q (.tup [.str z,.str x])):=λq h=>by
 subst j;exact k cmd x q e b _ f d i (N.mono (aC.new h)) (st.trans (Step.refl' (aC.new h))) aq
theorem aa1{z:Str}{r:RM.Row}:V.str z∉cC r:=λh=>by
 have:V.str z=.int r.hd∨V.str z=.int r.co∨V.str z=.int r.ho∨V.str z=jC r.by_:=by simpa [cC] using h
 rcases this with e|e|e|e
 ·cases e
 ·cases e
 ·cases e
 ·unfold jC at e
  split at e <;> cases e
inductive Ww(K:af)(CT:Addr)(c:NC)(vs:List V)(H:Hp)(Q:VK)(E:XK):Prop
 |mk (F:Addr->Prop) (p tp ln lr:Addr) (ns:List Int) (rs:List R5) (o:cD ns rs) (bs:List (List Bool)) (cl:List (Nat×Nat)) (B:Nat) (s:NS) (cc:Int):vs=[.int cc,.ref p,.int (ns.length:Nat)]->NW K c CT H F p tp ln lr ns rs s->TB ns rs->SK ns rs bs cl B s->B<=205000->DW K c o H F p tp s Q->Ww K CT c vs H Q E
theorem aa2{t:Ad}(T:Txt K mg w t):bL P w K mg base fP 7 t.CI t.HE ["_law_cell","_law_net","_law_size"]  (Ww K t.aP (nc t)):=by
 refine T.Vj.F.gB p6 λH Q E q h=>?_
 ·obtain⟨F,p,I,ln,X,ns,Z,o,bs,cl,B,s,u,rfl,N,tb,sk,hB,k⟩:=h
  refine⟨_,(ao (sS 3 p6 (bG dh (pv 0) az)) (ao (sS 4 p6 (bG dh (bG fE (pv 0) az) (pv 2))) (ao (sS 5 p6 (bG dh (bG fE (pv 0) (bG FP az (pv 2))) az)) (ao (b4 (qT lD (pv 5) az) (ao (sS 6 p6 az) (ao (fS (gX rfl T.j9 (cX (pv 2))) (gT 7 p6) (bQ (RX (i:=6) p6.nd rfl (Or.inl rfl) (bS Qz (by rfl) T.acN boot_int (cX (cM (pv 1) T.aY T.vt (xw T) q (jD (pv 7) (pv 3))))) RY))) (oR (dG (jD (kX (ck bu (ck (gI (pv 3)) pU))) (bS fZ (by rfl) T.zI boot_str (cX (pv 6)))))))) br) (ao (b4 (qT lD (pv 5) az) (oR (dG (jD (kX (ck bu (ck (gI (pv 3)) pU))) (cG (Ey T) q T.C5 (Jc (cM (pv 1) T.aY T.yj (DP T) q (cX (pv 3))) bu bu))))) br) (ao (b4 (qT lD (pv 5) az) (oR (dG (jD (kX (ck bu (ck (gI (pv 4)) (ck bu (ck (gI (pv 3)) pU))))) (cG (G0 T) q T.Es (cX (bS fG (by rfl) T.sF boot_list (cX (xL (cM (pv 1) T.aY T.ni (nK T) q (cX (pv 3))) (pv 4))))))))) br) (ao (b4 (qT lD (pv 5) az) (oR (dG (jD (kX (ck bu (ck (gI (pv 3)) pU))) (cG (G0 T) q T.Es (cX (cM (pv 1) T.aY T.xg (Be T) q (cX (pv 3)))))))) br) (oR (dG (jD (kX (ck bu (ck (gI (pv 4)) (ck bu (ck (gI (pv 3)) pU))))) (cG (Ey T) q T.C5 (Jc (cM (pv 1) T.aY T.vt (xw T) q (jD (pv 4) (pv 3))) bu bu)))))))))))),?_⟩
  left
  obtain⟨dx,loc,bF⟩:=N.b5.ob;obtain⟨D,W,hD,rb,iv⟩:=id sk;have n1:=o.n1;have Lc:=o.Lc;obtain⟨g,eg,c⟩:=iw u (show 0<3 by decide);obtain⟨x,ex,O⟩:=iw (u/3) (show 0<ns.length by lia);have G:TX.Wr (g:Int):=gz ∅;have wx:TX.Wr (x:Int):=gz ∅;have f:(TX.num (g:Int)).length<=1000:=ay (TX.iV G).2 (!_);have Wx:=(TX.iV wx).2;have lx:(TX.num (x:Int)).length<=1000:=ay Wx (!_);have l1:∀{z:Str},z.length<=900->(z++TX.num (x:Int)).length<=960:=λh=>Bj h Wx;have S:∀{z:Str},z.length<=900->(z++TX.num (x:Int)++" ").length<=961:=λh=>Bj (m:=1) (l1 h) (show (" " : Str).length<=1 by decide);refine⟨_,rfl,_,_,rfl,rfl,(by show (0:Int)<3;decide),?_⟩;show gp 3 (V.int (u%3)) _ _ _;rw[show u%3=(g:Int) from eg];refine⟨_,rfl,_,_,rfl,rfl,⟨!_,!_⟩,_,rfl,_,_,rfl,rfl,(by show (0:Int)<(ns.length:Int);lia),?_⟩;show gp 4 (V.int (u/3%(ns.length:Int))) _ _ _;rw[ex];refine⟨_,rfl,_,rfl,_,_,rfl,rfl,.inl ⟨!_,!_⟩,_,_,rfl,rfl,⟨∅,∅⟩,_,_,rfl,rfl,(by show (0:Int)<6;decide),?_⟩;show gp 5 (V.int (u/(3*(ns.length:Int))%6)) _ _ _;generalize u/(3*(ns.length:Int))%6=kd;refine⟨_,rfl,rfl,_,rfl,jh (λ_=>?_) (λ_=>?_)⟩
  ·
   refine⟨_,rfl,(ns.length:Int),rfl,∅,∅,DX (n:=((ns.length:Int)).toNat) (λi σ j=>∃(A:Nat) (b:NS) (J:Addr->Prop) (v7:Option V),je o g i s A b/\cj K (nc t) j J p I ns.length b/\Step H F j J/\σ=[some (.int u),some (.ref p),some (.int (ns.length:Nat)),some (.int (g:Nat)),some (.int (x:Nat)),some (.int kd),some (.int (A:Nat)),v7]) ⟨0,s,F,_,.zero s,N.b5,Step.refl' (aC.refl _),rfl⟩ ?_ ?_⟩
   ·rintro i σ j Y ⟨A,b,J,v7,L,C,st2,rfl⟩
    rw[eB];have Y:i<ns.length:=∅
    have W2:=N.done st2 C;obtain⟨dx2,afb,pA⟩:=C.ob;obtain⟨D2,sd2,_⟩:=sk.rnd tb c ∅ L;refine⟨_,rfl,_,rfl,p,_,_,rfl,pA,rfl,_,rfl,_,rfl,J,p,I,ln,X,ns,Z,b,o,i,g,rfl,W2,sd2.ok,Y,c,λd F4 H4 hd hf N4 EA _=>?_⟩;refine .inr ⟨_,rfl,_,_,rfl,rfl,?_⟩;refine⟨_,_,F4,some (.int (i:Nat)),.succ L hd hf,N4,st2.trans EA,?_⟩;by_cases e:d=b.R g i
    ·rw[eO e,b3 e];rfl
    ·rw[e8 e,eH e];rfl
   rintro σ j ⟨A,b,J,v7,L,C,st2,rfl⟩;rw[ko] at L;have hk:=L.ln.2;have wk:TX.Wr (A:Int):=gz ∅;refine⟨_,rfl,!_,_,rfl,_,rfl,eZ G,_,rfl,cZ (!_) f,cZ (!_) f,_,rfl,_,rfl,eZ wk,ff,?_⟩;exact k.fin (cmd:=.round g) c ⟨A,L,rfl⟩ (λ_=>rfl) C st2 (tx1 (w:="round") (by decide +kernel) _)
  refine⟨_,rfl,rfl,_,rfl,jh (λ_=>?_) (λ_=>?_)⟩
  ·
   refine⟨_,rfl,!_,_,rfl,_,rfl,eZ G,_,rfl,cZ (!_) f,cZ (!_) f,_,rfl,p,_,_,rfl,bF,rfl,_,rfl,F,p,I,ln,X,ns,Z,s,o,g,rfl,N,W.ok,c,λy j b hy=>?_⟩;refine⟨y,_,_,rfl,ff,?_⟩;exact k.fin (cmd:=.rest g) c ⟨rfl,y,hy,by cases y <;> rfl⟩ (λ_=>rfl) (N.b5.mono b) (Step.refl' b) (tx1 (w:="rest") (by decide +kernel) _)
  refine⟨_,rfl,rfl,_,rfl,jh (λ_=>?_) (λ_=>?_)⟩
  ·
   refine⟨_,rfl,!_,_,rfl,_,rfl,eZ wx,_,rfl,cZ (!_) lx,_,rfl,cZ (ay (l1 (!_)) (!_)) (!_),_,rfl,_,rfl,eZ G,_,rfl,cZ (ay (S (!_)) (!_)) f,cZ (ay (S (!_)) (!_)) f,?_⟩;refine⟨_,rfl,p,_,_,rfl,bF,rfl,_,rfl,F,p,I,ns.length,g,s,rfl,N.b5,c,λa qs j b _ ha hq=>?_⟩;have eq:qs.length=ns.length:=by rw[hq.len];simp[gA]
   have hqx:cR K j (qs[x]'∅) (cC (s.R g x)):=hq.at' x _ _ (aa ∅) (by unfold gA;rw[ak,gF O];rfl);refine⟨_,rfl,a,_,_,_,rfl,rfl,bC.of ha,dD (by rw[ak,aa];rfl),_,_,rfl,.inr hqx,λl hl=>?_⟩;have u3:=aC.new (o:=.lst (cC (s.R g x))) hl;refine⟨l,cC (s.R g x),rfl,bC.of aq,λv hv=>?_,(by show 4<=210000;decide),λH4 U=>⟨ff,?_⟩⟩
   ·have:=adL o W.ok rb O c v hv
    cases this with
    |dH=>exact .inl rfl
    |int Y=>exact .inr ⟨_,rfl,Y⟩
    |str hz=>exact eL hv aa1
   ·have M:=b.trans (u3.trans U)
    exact k.fin (cmd:=.row x g) ⟨O,c⟩ ⟨rfl,rfl⟩ (λ_=>rfl) (N.b5.mono M) (Step.refl' M) (tx2 (w:="row") (by decide +kernel) _ _)
  refine⟨_,rfl,rfl,_,rfl,jh (λ_=>?_) (λ_=>?_)⟩
  ·
   refine⟨_,rfl,!_,_,rfl,_,rfl,eZ G,_,rfl,cZ (!_) f,cZ (!_) f,_,rfl,p,_,_,rfl,bF,rfl,_,rfl,F,p,I,ln,X,ns,Z,s,o,g,rfl,N,W.ok,c,λa os j b _ ha hO h12=>?_⟩;refine⟨a,_,rfl,bC.of ha,λv hv=>?_,(by rw[ah];lia),λH4 U=>⟨ff,?_⟩⟩
   ·obtain⟨r,hr',rfl⟩:=aF.mp hv
    exact .inr ⟨_,rfl,gz (by have:=adJ hO r hr';lia)⟩
   ·exact k.fin (cmd:=.WH g) c ⟨rfl,os,hO,rfl⟩ (λ_=>rfl) (N.b5.mono (b.trans U)) (Step.refl' (b.trans U)) (tx1 (w:="open") (by decide +kernel) _)
  refine⟨_,rfl,!_,_,rfl,_,rfl,eZ wx,_,rfl,cZ (!_) lx,_,rfl,cZ (ay (l1 (!_)) (!_)) (!_),_,rfl,_,rfl,eZ G,_,rfl,cZ (ay (S (!_)) (!_)) f,cZ (ay (S (!_)) (!_)) f,?_⟩;refine⟨_,rfl,p,_,_,rfl,bF,rfl,_,rfl,_,rfl,F,p,I,ln,X,ns,Z,s,o,x,g,rfl,N,W.ok,O,c,λd J j hd hf C st2 _=>?_⟩;refine⟨_,_,_,rfl,ff,?_⟩;refine k.fin (cmd:=.call x g) ⟨O,c⟩ ⟨d,hd,hf,rfl,?_⟩ (λ_=>rfl) C st2 (tx2 (w:="call") (by decide +kernel) _ _);by_cases e:d=s.R g x
  ·rw[eO e,b3 e];rfl
  ·rw[e8 e,eH e];rfl
theorem KB.upd{H:Hp}{F:Addr->Prop}{z:Addr}{o u:HO}(a:Off H F z=some u)(c:BL u):KB (Off H F) (Off (upd H z o) F):=λb v e d=>by
 rw[So (cY a).1];refine cK b v e λw=>d ?_;rw[w,a] at e;cases e;exact c
theorem adT{H:Hp}{rs:List R5}{vs:List V}(h:cW K H (rs.map R5.D) vs):¬BL (.lst vs):=λ⟨b,f,e⟩=>by
 cases HO.lst.inj e;cases b with
 |nil=>exact f rfl
 |cons x b=>cases rs with
  |nil=>cases h
  |cons r rs =>
   obtain⟨v,g,d,c,_⟩:=h;cases d;obtain⟨_,_,a,_⟩:=c;cases a
theorem _root_.TW.cy.kb{f c a d:Addr}{h h':Hp}{ns:List Int}{rs:List R5}(T:cy K f h c a d ns rs)(k:KB h h'):cy K f h' c a d ns rs:=by
 obtain⟨⟨n,g⟩,i,m,l,j⟩:=id T;refine T.keep (λb o e z=>k b o e ?_) λb x=>k.tup;rcases z with rfl|rfl|rfl
 ·rw[g] at e;cases e;exact λ⟨_,_,z⟩=>by cases z
 ·rw[i] at e;cases e;exact Ul
 ·rw[l] at e;cases e;exact adT j
def After{ns:List Int}{rs:List R5}(K:af)(c:NC)(o:cD ns rs)(H:Hp)(F:Addr->Prop)(p tp:Addr)(s:NS)(ls:Addr)(pH:List Addr)(bs:List (List Bool))(Q:VK):Prop :=
 ∀cmd x q s' F' H',Fits ns rs s cmd->Lw o s cmd x s'->cj K c H' F' p tp ns.length s'->KB (Off H F) (Off H' F')->Up (Off H' F') ls pH (XW bs cmd)->H' q=some (.tup [.str cmd.text,.str x])->Q (.ref q) H'
theorem After.zero{ns:List Int}{rs:List R5}{c:NC}{o:cD ns rs}{H:Hp}{F:Addr->Prop}{p h ls:Addr}{g:List Addr}{bs:List (List Bool)}{s:NS}{Q:VK}(k:After K c o H F p h s ls g bs Q)(S:Up (Off H F) ls g bs){b:Hp}(e:aC H b):DW K c o b F p h s Q:=λa x q l n j f d i N st m =>
 k a x q l n j f d N (KB.of ((iI e).trans (lO st))) (by rw[i];exact S.mono ((iI e).trans (lO st))) m
theorem adU{c:Bool}{a b:String}:(if c=true then Str.ofString a else Str.ofString b)=Str.ofString (if c=true then a else b):=by split <;> rfl
inductive Wy(K:af)(CT:Addr)(c:NC)(vs:List V)(H:Hp)(Q:VK)(E:XK):Prop
 |mk (F:Addr->Prop) (p tp ln lr ls:Addr) (pH:List Addr) (ns:List Int) (rs:List R5) (o:cD ns rs) (bs:List (List Bool)) (cl:List (Nat×Nat)) (B:Nat) (s:NS) (cc:Int):vs=[.int cc,.ref p,.ref ls]->cj K c H F p tp ns.length s->cy K CT (Off H F) tp ln lr ns rs->Up (Off H F) ls pH bs->SK ns rs bs cl B s->B<=205000->bs≠[]->After K c o H F p tp s ls pH bs Q->Wy K CT c vs H Q E
theorem aa3{t:Ad}(T:Txt K mg w t):bL P w K mg base fP 5 t.CJ t.HF ["_law_cell","_law_net","_law_strung"]  (Wy K t.aP (nc t)):=by
 refine T.Vk.F.gB Ed λH Q E hr h=>?_
 ·obtain⟨F,p,tp,ln,lr,n,G,ns,rs,o,u,cl,B,s,cc,rfl,N,hT,S,sk,hB,hne,k⟩:=h
  refine⟨_,(ao (sS 3 Ed (bG dh (pv 0) (lS T.fR (pv 2)))) (ao (sS 4 Ed (bG dh (bG fE (pv 0) (lS T.fR (pv 2))) (lS T.fR (xL (pv 2) (pv 3))))) (ao (sS 5 Ed (xL (xL (pv 2) (pv 3)) (pv 4))) (ao (IQ (ag5 (pv 5)) (LU (xL (pv 2) (pv 3)) (pv 4) set_list)) (ao (b4 (mW (pv 5)) (oR (dG (jD (kX (ck bu (ck (gI (pv 3)) (ck bu (ck (gI (pv 4)) pU))))) (cG (Ey T) hr T.C5 (Jc (cM (pv 1) T.aY T.Gv (K6 T) hr (jD (pv 3) (pv 4))) bu bu))))) br) (oR (dG (jD (kX (ck bu (ck (gI (pv 3)) (ck bu (ck (gI (pv 4)) pU))))) (cG (Ey T) hr T.C5 (Jc (cM (pv 1) T.aY T.JB (OH T) hr (jD (pv 3) (pv 4))) bu bu)))))))))),?_⟩
  left
  obtain⟨D,r,hD,rb,iv⟩:=id sk;have LD:=o.LD;have ebl:u.length=rs.length:=r.fit.1;have hpos:0<u.length:=gE.mpr hne;have f:=cE _ _ S.at_;have j:(((G.map V.ref).length:Nat):Int)=(rs.length:Int):=by rw[ah,S.len,ebl]
  obtain⟨i,ei,hi⟩:=iw cc (show 0<rs.length by lia);refine⟨_,rfl,_,rfl,n,_,rfl,.inl (bC.of f),_,_,rfl,rfl,(by rw[j];lia),?_⟩
  try dsimp only
  rw[j,ei];have y:rs[i]?=some rs[i]:=aa hi;have L:=o.ok _ (aD hi);obtain⟨b,hb,hbl⟩:=r.fit.at y;have hbi:=(ai.mp hb).1;obtain⟨l,hl⟩:∃l,G[i]?=some l:=⟨_,aa (by rw[S.len];exact hbi)⟩;have W:=S.it i l b hl hb;have v:=cE _ _ W;have A:Kn (G.map V.ref) (i:Int)=some (.ref l):=dD (by rw[ak,hl];rfl);have d1:=L.d1;have d4:=L.d4;have J:0<b.length:=∅
  have O:(((b.map V.bl).length:Nat):Int)=(b.length:Int):=by rw[ah]
  obtain⟨x,ex,hx⟩:=iw (cc/(rs.length:Int)) J;refine⟨_,rfl,_,rfl,n,_,rfl,.inl (bC.of f),_,_,rfl,rfl,(by rw[j];exact⟨∅,∅⟩),_,rfl,_,rfl,n,_,_,_,rfl,rfl,bC.of f,A,l,_,rfl,.inl (bC.of v),_,_,rfl,rfl,(by rw[O];lia),?_⟩
  try dsimp only
  rw[j,O,ex];have c:b[x]?=some b[x]:=aa hx;have aoW:Kn (b.map V.bl) (x:Int)=some (V.bl b[x]):=dD (by rw[ak,c];rfl);refine⟨_,rfl,_,rfl,n,_,_,_,rfl,rfl,bC.of f,A,_,rfl,l,_,_,_,rfl,rfl,bC.of v,aoW,?_⟩;refine⟨_,rfl,_,rfl,_,rfl,_,rfl,n,_,_,_,rfl,rfl,bC.of f,A,_,rfl,l,_,_,x,rfl,rfl,v,(by rw[ah];exact D8 hx),?_⟩;have aoX:b≠[]:=List.ne_nil_of_length_pos J;have N1:=N.past (o:=.lst ((b.map V.bl).set x (V.bl (!b[x])))) W m6;have g:KB (Off H F) (Off (upd H l (.lst ((b.map V.bl).set x (V.bl (!b[x]))))) F):=KB.upd W ⟨b,aoX,rfl⟩;have nls:n≠l:=λz=>by
   have h1:=S.at_;rw[z,W] at h1;exact ab4 hl (HO.lst.inj (aR h1))
  have X:Up (Off (upd H l (.lst ((b.map V.bl).set x (V.bl (!b[x]))))) F) n G (u.set i (b.set x (!b[x]))):=by
   rw[So (cY W).1];exact S.put hl cK (by rw[aq,lB]) nls
  generalize upd H l (.lst ((b.map V.bl).set x (V.bl (!b[x]))))=H1 at N1 g X;have W1:NW K (nc t) t.aP H1 F p tp ln lr ns rs s:=(hT.kb g).nw N1 λb z=>z;obtain⟨dx,loc,bF⟩:=N1.ob;have a:s.ws[i]?=some (stand b):=by rw[r.ws,ak,hb];rfl
  have wi:TX.Wr (i:Int):=gz ∅;have wx:TX.Wr (x:Int):=gz ∅;have R:=(TX.iV wi).2;have li:(TX.num (i:Int)).length<=1000:=ay R (!_);have lx:(TX.num (x:Int)).length<=1000:=ay (TX.iV wx).2 (!_);have l1:∀{z:Str},z.length<=900->(z++TX.num (i:Int)).length<=960:=λh=>Bj h R;have Z:∀{z:Str},z.length<=900->(z++TX.num (i:Int)++" ").length<=961:=λh=>Bj (m:=1) (l1 h) (show (" " : Str).length<=1 by decide);have I:u.getD i []=b:=by rw[aj,hb];rfl
  cases e:b[x] with
  |true =>
   rw[e] at X c;have hcb:=r.bd.cb;have M:=i6.mpr c;refine⟨_,rfl,_,rfl,dZ ?_⟩;refine⟨_,rfl,!_,_,rfl,_,rfl,eZ wi,_,rfl,cZ (!_) li,_,rfl,cZ (ay (l1 (!_)) (!_)) (!_),_,rfl,_,rfl,eZ wx,_,rfl,cZ (ay (Z (!_)) (!_)) lx,cZ (ay (Z (!_)) (!_)) lx,?_⟩;refine⟨_,rfl,p,_,_,rfl,bF,rfl,_,rfl,_,rfl,F,p,tp,ln,lr,ns,rs,s,i,x,stand b,rs[i],D,rfl,W1,o,r.ok,(λcp z=>(r.bd.cl cp z).1),(λl z=>by have:=(r.bd.lb l z).1;lia),∅,a,y,M,λF2 H2 W2 st2=>?_⟩;refine⟨_,_,_,rfl,ff,λq hq=>?_⟩;rw[tx2 (w:="fall") (by decide +kernel)];have C:=aC.new (o:=.tup [V.str (Txt.join TX.tO ["fall",TX.num i,TX.num x]),V.str (if ((stand b).filter λz=>decide (z≠x)).isEmpty=true then "ends" else "same")]) hq;refine k (.yY i x) _ q _ F2 _ ⟨_,_,a,y,M⟩ ⟨_,_,a,y,rfl,adU⟩ (W2.b5.mono C) (g.trans (KB.of ((lO st2).trans (iI C)))) ?_ (by rw[aq];rfl);show Up _ n G (u.set i ((u.getD i []).set x false));rw[I];exact X.mono ((lO st2).trans (iI C))
  |false =>
   rw[e] at X c;have Y:x∉stand b:=λz=>by rw[i6,c] at z;cases z
   have U:(x:Int)<rs[i].d:=∅
   refine⟨_,rfl,_,rfl,dO ?_⟩;refine⟨_,rfl,!_,_,rfl,_,rfl,eZ wi,_,rfl,cZ (!_) li,_,rfl,cZ (ay (l1 (!_)) (!_)) (!_),_,rfl,_,rfl,eZ wx,_,rfl,cZ (ay (Z (!_)) (!_)) lx,cZ (ay (Z (!_)) (!_)) lx,?_⟩;refine⟨_,rfl,p,_,_,rfl,bF,rfl,_,rfl,_,rfl,F,p,tp,ln,lr,ns,rs,s,i,x,stand b,rs[i],rfl,W1,o,r.ok,a,y,U,Y,λw2 F2 H2 p2 q2 W2 st2=>?_⟩;refine⟨_,_,_,rfl,ff,λq hq=>?_⟩;rw[tx2 (w:="lay") (by decide +kernel)];have C:=aC.new (o:=.tup [V.str (Txt.join TX.tO ["lay",TX.num i,TX.num x]),V.str (if (stand b).isEmpty=true then "begins" else "same")]) hq;refine k (.lay i x) _ q _ F2 _ ⟨_,_,a,y,U,Y⟩ ⟨_,_,_,a,y,p2,q2,rfl,adU⟩ (W2.b5.mono C) (g.trans (KB.of ((lO st2).trans (iI C)))) ?_ (by rw[aq];rfl);show Up _ n G (u.set i ((u.getD i []).set x true));rw[I];exact X.mono ((lO st2).trans (iI C))
noncomputable def RQ(cl:List (Nat×Nat))(x y:Nat):Bool:=decide ((cl.getD y (0,0)).2=(cl.getD x (0,0)).2)
inductive IG(K:af)(CT:Addr)(c:NC)(vs:List V)(H:Hp)(Q:VK)(E:XK):Prop
 |mk (F:Addr->Prop) (p tp ln lr c0:Addr) (qs:List Addr) (ns:List Int) (rs:List R5) (o:cD ns rs) (bs:List (List Bool)) (cl ZC:List (Nat×Nat)) (B:Nat) (s:NS) (cc:Int):vs=[.int cc,.ref p,.ref c0]->NW K c CT H F p tp ln lr ns rs s->bC K H c0 (qs.map V.ref)->dU K H qs (Uk ZC)->SK ns rs bs cl B s->B<=205000->cl.map (·.2)=ZC.map (·.2)->ZC≠[]->DW K c o H F p tp s Q->IG K CT c vs H Q E
theorem aa4{t:Ad}(T:Txt K mg w t):bL P w K mg base fP 9 t.CK t.HG ["_law_cell","_law_net","_law_callers"]  (IG K t.aP (nc t)):=by
 refine T.Vl.F.gB zp λH Q E hr h=>?_
 ·obtain⟨F,p,tp,ln,lr,C,q,ns,rs,o,bs,cl',cl,B,s,cc,rfl,N,R,J,sk,hB,Z,hne,k⟩:=h
  refine⟨_,(ao (sS 3 zp (bG dh (pv 0) (lS T.fR (pv 2)))) (ao (mZ (i:=4) zp.nd rfl (Or.inl rfl) (kO zp ["_law_at","_law_callers","_law_sender"] [none,some 2,some 3]) rfl (gX rfl T.j9 (cX (lS T.fR (pv 2)))) (λ_ _ _ _=>by exact (gS 0 SV)) (λ_ _ _ _=>by exact (tN (qT lD (yT K (yL K (pv 1) (pv 0)) az) (yT K (yL K (pv 1) (pv 2)) az)))) (λ_ _ _ _=>by exact (pv 0))) (ao (sS 5 zp (xL (pv 4) (bG dh (bG fE (pv 0) (lS T.fR (pv 2))) (lS T.fR (pv 4))))) (ao (b4 (qT lD (bG dh (bG fE (pv 0) az) az) az) (oR (dG (jD (kX (ck bu (ck (gI (pv 3)) (ck bu pU)))) (bS fZ (by rfl) T.zI boot_str (cX (j4 (pv 1) T.aY T.Gx (DS T) (hr.mono (!_)) T.Xr (show b6 [V.dH] [Value.none] from .cons rfl .nil) iz (cX (pv 3)))))))) br) (oR (dG (jD (kX (ck bu (ck (gI (pv 3)) (ck bu (ck (gI (pv 5)) pU))))) (bS fZ (by rfl) T.zI boot_str (cX (j4 (pv 1) T.aY T.Gx (DS T) (hr.mono (!_)) T.M8 .nil iz (jD (pv 3) (pv 5)))))))))))),?_⟩
  left
  obtain⟨D,f,hD,rb,iv⟩:=id sk;have G:s.groups=cl.map (·.2):=by rw[f.gr,Z]
  have hml:s.aN.length=cl.length:=by rw[<- f.bd.gl,G,ah]
  have pI:=f.bd.pI;have I:0<cl.length:=gE.mpr hne;have eq:q.length=cl.length:=by rw[J.len,ah]
  have u:(((q.map V.ref).length:Nat):Int)=(cl.length:Int):=by rw[ah,eq]
  obtain⟨x,ex,O⟩:=iw cc I;have at':∀{y:Nat} (a:y<cl.length),Kn (q.map V.ref) (y:Int)=some (.ref (q[y]'∅))/\cR K H (q[y]'∅) [.int cl[y].1,.int cl[y].2]:=λ{y} a=>⟨dD (by rw[ak,aa];rfl),J.at' y _ _ (aa _) (by rw[ak,aa a];rfl)⟩;have W:∀{y:Nat} (a:y<cl.length),(cl.getD y (0,0))=cl[y]:=λ{y} a=>by rw[aj,aa a];rfl
  refine⟨_,rfl,_,rfl,C,_,rfl,.inl R,_,_,rfl,rfl,(by rw[u];lia),?_⟩
  try dsimp only
  rw[u,ex];refine⟨_,rfl,C,_,rfl,.inl R,(((q.map V.ref).length:Nat):Int),rfl,∅,by rw[ah];lia,λA d=>?_⟩;rw[u];refine gG (n:=((cl.length:Int)).toNat) (λi ys _=>ys=bE ((au i).filter (RQ cl x))) d BX rm rfl ?_ ?_
  ·rintro i ys H3 hi b a rfl y H4 ⟨rfl,rfl⟩
   rw[eB];have S:i<cl.length:=∅
   obtain⟨a1,q1⟩:=at' S;obtain⟨a2,q2⟩:=at' O;refine⟨_,rfl,_,rfl,C,_,_,_,rfl,rfl,b.seq R,a1,_,_,1,_,rfl,rfl,b.cV q1,rfl,_,rfl,_,rfl,C,_,_,_,rfl,rfl,b.seq R,a2,_,_,1,_,rfl,rfl,b.cV q2,rfl,rfl,_,rfl,?_⟩;have ed:decide (V.int ((cl[i].2:Nat):Int)=V.int ((cl[x].2:Nat):Int))=RQ cl x i:=by
    unfold RQ;rw[W S,W O,decide_eq_decide];exact⟨λz=>by have:=V.int.inj z;lia,λz=>by rw[z]⟩
   try dsimp only
   rw[ed];refine jh (λhc=>?_) (λhc=>?_)
   ·refine⟨_,rfl,?_⟩
    refine fH d hi b a ?_ ?_
    ·rw[ah]
     refine bX (ay (bD _ _) ?_);rw[bz];lia
    ·rw[Bf,b3 hc,jn]
   ·refine kW hi b a ?_
    rw[Bf,eH hc,fD]
  rintro ys H3 b a rfl;rw[ko] at a;have g:∀y∈(au cl.length).filter (RQ cl x),y<s.aN.length/\s.groups[y]?=s.groups[x]?:=λy z=>by
   obtain⟨z1,z2⟩:=bZ.mp z;have a:=cT.mp z1;refine⟨∅,?_⟩
   have:=fT z2
   rw[W a,W O] at this;rw[G,ak,ak,aa a,aa O];exact fy some this
  have M:x∈(au cl.length).filter (RQ cl x):=bZ.mpr ⟨cT.mpr O,eO rfl⟩;generalize (au cl.length).filter (RQ cl x)=X at a g M;have hms:0<X.length:=List.length_pos_of_mem M;obtain⟨j,ej,hj⟩:=iw (cc/(cl.length:Int)) hms;have hP3:=b.seq R;refine⟨_,rfl,_,rfl,_,rfl,C,_,rfl,.inl hP3,_,_,rfl,rfl,(by rw[u];exact⟨∅,∅⟩),_,rfl,A,_,rfl,.inl (bC.of a),_,_,rfl,rfl,(by rw[ah];lia),?_⟩
  try dsimp only
  rw[u,ah,ej];refine⟨A,_,_,_,rfl,rfl,bC.of a,dD (v:=V.int (X[j]:Nat)) (by rw[ak,aa hj];rfl),?_⟩;have N3:=N.mono b;obtain⟨dx,loc,bF⟩:=N3.b5.ob;have L:=g _ (aD hj);generalize X[j]=y at L;have c:x<s.aN.length:=∅
  have wx:TX.Wr (x:Int):=gz ∅;have wy:TX.Wr (y:Int):=gz ∅;have Wx:=(TX.iV wx).2;have lx:(TX.num (x:Int)).length<=1000:=ay Wx (!_);have ly:(TX.num (y:Int)).length<=1000:=ay (TX.iV wy).2 (!_);have U:∀{z:Str},z.length<=900->(z++TX.num (x:Int)).length<=960:=λh=>Bj h Wx;have l2:∀{z:Str},z.length<=900->(z++TX.num (x:Int)++" ").length<=961:=λh=>Bj (m:=1) (U h) (show (" " : Str).length<=1 by decide);have l3:∀{z:Str},z.length<=900->(z++TX.num (x:Int)++" all").length<=964:=λh=>Bj (m:=4) (U h) (show (" all" : Str).length<=4 by decide);have RA:=f.bd.ll;have wl:TX.Wr ((s.ls.length:Nat):Int):=gz ∅;refine⟨_,rfl,_,_,rfl,rfl,⟨!_,!_⟩,_,_,rfl,rfl,(by show (0:Int)<2;decide),rfl,_,rfl,jh (λ_=>?_) (λ_=>?_)⟩
  ·refine⟨_,rfl,!_,_,rfl,_,rfl,eZ wx,_,rfl,cZ (!_) lx,_,rfl,cZ (ay (U (!_)) (!_)) (!_),ay (l3 (!_)) (!_),?_⟩
   refine⟨_,rfl,p,_,_,rfl,bF,rfl,_,rfl,F,p,tp,ln,lr,ns,rs,s,o,x,none,D,rfl,N3,f.ok,f.bd,∅,c,(λy z=>by cases z),λos F4 H4 Y l W4 EA=>⟨_,rfl,eZ wl,ff,?_⟩⟩;exact k.fin (cmd:=.post x none) ⟨c,λy z=>by cases z⟩ ⟨os,Y,l,rfl,rfl⟩ (λ_=>rfl) W4.b5 ((Step.refl' b).trans EA) (tx3 _)
  ·refine⟨_,rfl,!_,_,rfl,_,rfl,eZ wx,_,rfl,cZ (!_) lx,_,rfl,cZ (ay (U (!_)) (!_)) (!_),_,rfl,_,rfl,eZ wy,_,rfl,cZ (ay (l2 (!_)) (!_)) ly,cZ (ay (l2 (!_)) (!_)) ly,?_⟩
   have r:∀z,some y=some z->z<s.aN.length/\s.groups[z]?=s.groups[x]?:=λz e=>by cases e;exact L
   refine⟨_,rfl,p,_,_,rfl,bF,rfl,_,rfl,_,rfl,F,p,tp,ln,lr,ns,rs,s,o,x,some y,D,rfl,N3,f.ok,f.bd,∅,c,r,λos F4 H4 Y l W4 EA=>⟨_,rfl,eZ wl,ff,?_⟩⟩;exact k.fin (cmd:=.post x (some y)) ⟨c,r⟩ ⟨os,Y,l,rfl,rfl⟩ (λ_=>rfl) W4.b5 ((Step.refl' b).trans EA) (tx2 (w:="post") (by decide +kernel) _ _)
noncomputable def Hx(c:Cp):List Int:=[c.l,c.r,c.w,c.h]
theorem adV(cps:List Cp):cps.map Cp.vs=(cps.map Hx).map λx=>x.map V.int:=by rw[bP];rfl
inductive ZD(K:af)(CT:Addr)(c:NC)(vs:List V)(H:Hp)(Q:VK)(E:XK):Prop
 |mk (F:Addr->Prop) (p tp ln lr:Addr) (ns:List Int) (rs:List R5) (o:cD ns rs) (bs:List (List Bool)) (cl:List (Nat×Nat)) (B:Nat) (s:NS):vs=[.ref p]->NW K c CT H F p tp ln lr ns rs s->SK ns rs bs cl B s->B<=205000->DW K c o H F p tp s Q->ZD K CT c vs H Q E
theorem adW{t:Ad}(T:Txt K mg w t):bL P w K mg base fP 9 t.Hy t.LJ ["_law_net"]  (ZD K t.aP (nc t)):=by
 refine T.YQ.F.gB M6 λH Q E M h=>?_
 ·obtain⟨F,p,U,ln,lr,ns,C,o,bs,cl,B,s,rfl,N,Y,hB,k⟩:=h
  refine⟨_,(ao (sS 1 M6 az) (ao (Ux PassesOwn.never (qT FW (iF (pv 0) T.aY T.dR.m (jW T) (M.mono (!_)) T.dR.B .nil iz) (dY fF)) (ao (dN (j4 (pv 0) T.aY T.qV (pD T) (M.mono (!_)) T.yk .nil iz (cX az))) (bQ (RX (i:=1) M6.nd rfl (Or.inl rfl) az RY)))) (oR (dG (jD bu (bS fZ (by rfl) T.zI boot_str (cX (pv 1)))))))),?_⟩
  left
  refine YB (λm G y=>∃(d:Nat) (c:NS) (g:Addr->Prop),G=[some (.ref p),some (.int (d:Nat))]/\Rn o s d c/\cj K (nc t) y g p U ns.length c/\Step H F y g/\m=Ph ns.length C c/\d+m<=Ph ns.length C s) (Ph ns.length C s) ⟨0,s,F,rfl,.zero s,N.b5,Step.refl' (aC.refl _),rfl,∅⟩ ?_ ?_
  ·rintro m G y ⟨d,c,g,rfl,n,r,st2,rfl,hk⟩
   have W2:=N.done st2 r;obtain⟨dx2,afb,X⟩:=r.ob;have l:=Y.rn n;obtain⟨D2,f,hD2,_⟩:=id l;obtain⟨D0,sd0,hD0,_⟩:=id Y;refine⟨_,rfl,p,_,_,rfl,X,rfl,g,p,U,ns.length,c,rfl,r,λlf qf q O _ L W=>⟨be _,λa ha=>?_⟩⟩;have A:=aC.new (o:=.lst []) ha;have Wz:=aq (H:=q) (a:=a) (o:=.lst []);generalize upd q a (.lst [])=H4 at A Wz;have j:=O.trans A;have S:dU K H4 qf ((c.cps.map Hx).map λx=>x.map V.int):=by
    rw[<- adV];exact W.mono λb x z=>A.cV z
   refine⟨.list ((c.cps.map Hx).map Ka),.list [],⟨lf,_,rfl,bC.of (A _ _ L),zV S⟩,⟨a,[],rfl,bC.of Wz,rfl⟩,zW _,rfl,bq (bI (ay (cQ _ _) (by show PyData.depthAll _+1<=64;have:=uu (c.cps.map Hx);lia)) _) M.units,_,rfl,?_⟩;rw[Bh];cases ec:c.cps with
   |nil =>
    refine dO ?_;have wk:TX.Wr (d:Int):=gz ∅;refine⟨_,rfl,_,rfl,eZ wk,ff,?_⟩;exact k.fin (cmd:=.run) trivial ⟨d,n,ec,rfl⟩ (λ_=>rfl) (r.mono j) (st2.trans (Step.refl' j)) rfl
   |cons u cs0 =>
    refine dZ ?_;have R:c.cps[0]?=some u:=by rw[ec];rfl
    have Z:=aa (f.bd.cl u (aI R)).1;refine⟨_,rfl,p,_,_,rfl,j _ _ X,rfl,g,p,U,ln,lr,ns,C,c,o,0,D2,u,_,rfl,W2.mono j,f.ok,f.bd,∅,R,Z,λos ts F5 H5 hO D pt oe W5 Qy=>?_⟩;have ps:Ps o 0 c _ _:=⟨u,_,os,ts,R,Z,hO,D,pt,oe,rfl,rfl⟩;have hp:=(l.ps ps).2;exact⟨_,rfl,_,_,rfl,rfl,_,∅,d+1,_,F5,rfl,.succ n ps,W5.b5,(st2.trans (Step.refl' j)).trans Qy,rfl,∅⟩
  ·rintro G y Q Q' hq ⟨v,e,a,dx,fs,h1,h2,h3,g,p2,RO,n2,c,h4,h5,h6⟩
   exact⟨v,e,a,dx,fs,h1,h2,h3,g,p2,RO,n2,c,h4,h5,λa qs q O z1 z2 z3=>by
    obtain⟨I,J⟩:=h6 a qs q O z1 z2 z3;refine⟨I,λb hb=>?_⟩;obtain⟨d1,d2,r1,n,I,J,bd,kb,h7,h8⟩:=J b hb;exact⟨d1,d2,r1,n,I,J,bd,kb,h7,hq _ _ h8⟩⟩
inductive RS(K:af)(c:NC)(vs:List V)(H:Hp)(Q:VK)(E:XK):Prop
 |mk (F:Addr->Prop) (p tp:Addr) (ns:List Int) (rs:List R5) (o:cD ns rs) (bs:List (List Bool)) (cl:List (Nat×Nat)) (B:Nat) (s:NS) (i:Nat):vs=[.ref p,.int i]->cj K c H F p tp ns.length s->SK ns rs bs cl B s->B<=205000->i<s.ls.length->DW K c o H F p tp s Q->RS K c vs H Q E
theorem Yb{t:Ad}(T:Txt K mg w t):bL P w K mg base fP 2 t.zD t.Eo ["_law_net","_law_number"]  (RS K (nc t)):=by
 refine T.Rb.F.gB Gs λH Q E hr h=>?_
 ·obtain⟨F,p,tp,ns,rs,o,bs,cl,B,s,i,rfl,N,sk,hB,f,k⟩:=h
  refine⟨_,(ao (mZ (i:=2) Gs.nd rfl (Or.inl rfl) (kO Gs ["_law_step"] [none]) rfl (dB (cM (pv 0) T.aY T.C1 (ID T) hr (cX (pv 1)))) (λ_ _ _ _=>by exact (gS 0 Px)) (λ_ _ _ _=>by exact eK) (λ_ _ _ _=>by exact (Sm K rfl bY ee d9 (OZ K rfl) bu (cX (dP (kN ["_law_thing"] [none]) rfl (Zz K rfl (pv 0)) (λ_ _ _ _=>by exact (gS 0 Py)) (λ_ _ _ _=>by exact eK) (λ_ _ _ _=>by exact (bS Jd (by rfl) T.zI boot_str (cX (pv 0))))))))) (oR (dG (jD (kX (ck bu (ck (gI (pv 1)) pU))) (jJ bY ee d9 z9 bu (cX (pv 2))))))),?_⟩
  left
  obtain⟨dx,loc,bF⟩:=N.ob;obtain⟨D,sd,hD,rb,iv⟩:=id sk;have hl:=aa f;have hm:=aD f;have hdl:=(sd.bd.lb _ hm).1;have J:=iv.db _ hm;have RA:=sd.bd.ll;refine⟨_,rfl,p,_,_,rfl,bF,rfl,_,rfl,F,p,tp,ns.length,i,s,s.ls[i],rfl,N,hl,λa e H2 s2 _ M hq=>?_⟩;have eq:e.length=s.ls[i].aG.length:=by rw[hq.len,ah]
  refine⟨a,rfl,⟨_,bC.of M⟩,λY I=>?_⟩;refine jX (n:=(e.map V.ref).length) (λj=>(e.map V.ref).getD j .dH) (λj=>V.str (wu ((s.ls[i].aG.map i7.vs).getD j []))) I (m5 (bC.of M)) (g5 (bC.of M)) (λj H3 x q W r hx=>?_) (by rw[ah];lia) (λj H3 R S W r g=>?_) (λH3 r c=>?_)
  ·obtain⟨rfl,hx⟩:=hx
   have hx:=hx _ (r.seq (bC.of M));exact⟨rfl,by rw[aj,hx];rfl⟩
  ·have G:j<e.length:=by rw[ah] at W;exact W
   have b:j<s.ls[i].aG.length:=∅
   have e1:(e.map V.ref).getD j .dH=.ref e[j]:=by rw[aj,ak,aa G];rfl
   have e2:(s.ls[i].aG.map i7.vs)[j]?=some (s.ls[i].aG[j]).vs:=by rw[ak,aa b];rfl
   have e3:(s.ls[i].aG.map i7.vs).getD j []=(s.ls[i].aG[j]).vs:=by rw[aj,e2];rfl
   rw[e1];rw[e3] at g;have hv:=XY s.ls[i].aG[j];have C:=r.cV (hq.at' j _ _ (aa G) e2);have hw:=Zv (J _ (aD b));have A:∀x∈(s.ls[i].aG[j]).vs,x≠.dH:=λx hx=>by
    rw[IE] at hx;rcases aV.mp hx with rfl|hx
    ·exact λz=>by cases z
    ·obtain⟨_,_,rfl⟩:=aF.mp hx
     exact λz=>by cases z
   have ek:wu (s.ls[i].aG[j]).vs=Txt.join TX.tO ((s.ls[i].aG[j]).vs.map RK):=by
    unfold wu;rw[eH];rw[IE];exact λz=>by cases z
   rw[ek] at g;generalize (s.ls[i].aG[j]).vs=m at hv C hw A g;refine⟨rfl,_,rfl,e[j],rfl,⟨_,C⟩,λac2 X=>?_⟩;refine jX (n:=m.length) (λi=>m.getD i .dH) (λi=>V.str (RK (m.getD i .dH))) X (Mg C) (BY C) (λi q x H5 u O hx=>?_) ∅ (λi q R S u O L=>?_) (λq O c=>?_)
   ·obtain⟨rfl,hx⟩:=hx
    have hx:=hx _ (O.cV C);exact⟨rfl,by rw[aj,hx];rfl⟩
   ·have hx:OO (m.getD i .dH)/\m.getD i .dH≠.dH:=by
     rw[aj,aa u];exact⟨hw _ (aD u),A _ (aD u)⟩
    generalize m.getD i .dH=x at hx L;obtain⟨U,Z⟩:=hx;refine⟨_,rfl,?_⟩;cases U with
    |dH=>exact eL rfl Z
    |int u=>exact .inl ⟨_,rfl,eZ u,L q (aC.refl _)⟩
    |str hz=>exact .inr ⟨_,rfl,L q (aC.refl _)⟩
   ·rw[map_getD λv=>V.str (RK v)] at c
    refine⟨_,ac2,m.map RK,rfl,rfl,bC.of (by rw[bP];exact c),Kd (λy c=>?_) (by rw[ah];lia) (!_),g q O⟩;obtain⟨x,hx,rfl⟩:=aF.mp c;exact XX (hw x hx)
  have ey:(au (e.map V.ref).length).map (λj=>V.str (wu ((s.ls[i].aG.map i7.vs).getD j [])))=(s.ls[i].aG.map λd=>wu d.vs).map V.str:=by
   refine iA (by simp[eq]) λj g L=>?_;have b:j<s.ls[i].aG.length:=by simpa using L
   simp only[rS,nB,aj,ak,aa b];rfl
  rw[ey] at c;have wi:TX.Wr (i:Int):=gz ∅;have li:(TX.num (i:Int)).length<=1000:=ay (TX.iV wi).2 (!_);refine⟨_,rfl,!_,_,rfl,_,rfl,eZ wi,_,rfl,cZ (!_) li,cZ (!_) li,rfl,_,rfl,_,Y,_,rfl,rfl,bC.of c,?_,ff,?_⟩
  ·have g:=TX.Cd (l:=(s.ls[i].aG.map λd=>wu d.vs).map (·.length)) (B:=75) λx hx=>?_
   ·rw[ah,ah] at g
    rw[ah];show _+s.ls[i].aG.length*2<=_;lia
   ·obtain⟨y,c,rfl⟩:=aF.mp hx
    obtain⟨d,hd,rfl⟩:=aF.mp c;exact RN (J d hd)
  ·exact k.fin (cmd:=.tK i) f ⟨rfl,_,hl,rfl⟩ (λ_=>rfl) (N.mono (s2.trans r)) (Step.refl' (s2.trans r)) (tx1 (w:="story") (by decide +kernel) _)
theorem ZE(cl:List (Nat×Nat)):Uk cl=(wA cl).map λx=>x.map V.int:=by rw[bP];rfl
theorem adX{H:Hp}:∀b:List Bool,cW K H (b.map .bool) (b.map V.bl)
 |[]=>rfl
 |x::b=>⟨.bl x,_,rfl,rfl,adX b⟩
noncomputable abbrev Yc(bs:List (List Bool)):List PyData:=bs.map λb=>PyData.list (b.map PyData.bool)
theorem ZF{H:Hp}:∀{a:List Addr} {bs:List (List Bool)},a.length=bs.length->(∀(i:Nat) l b,a[i]?=some l->bs[i]?=some b->H l=some (.lst (b.map V.bl)))->cW K H (Yc bs) (a.map V.ref)
 |[],[],_,_=>rfl
 |[],_::_,e,_=>by cases e
 |_::_,[],e,_=>by cases e
 |l::a,b::bs,e,h=>⟨.ref l,_,rfl,⟨l,_,rfl,bC.of (h 0 l b rfl rfl),adX b⟩,ZF (Nat.succ.inj e) λi l b d c=>h (i+1) l b d c⟩
theorem adY:∀b:List Bool,PyData.canLayAll0 (b.map .bool)=true
 |[]=>rfl
 |x::b=>by
  show (PyData.canLay0 (.bool x)&&PyData.canLayAll0 (b.map .bool))=true;rw[adY b];rfl
theorem ZG:∀bs:List (List Bool),PyData.canLayAll0 (Yc bs)=true
 |[]=>rfl
 |b::bs=>by
  show (PyData.canLayAll0 (b.map .bool)&&PyData.canLayAll0 (Yc bs))=true;rw[ZG bs,adY b];rfl
theorem ZH:∀b:List Bool,PyData.depthAll (b.map .bool)=0
 |[]=>rfl
 |x::b=>by
  show max (PyData.depth (.bool x)) (PyData.depthAll (b.map .bool))=0;rw[ZH b];rfl
theorem WA:∀bs:List (List Bool),PyData.depthAll (Yc bs)<=1
 |[]=>!_
 |b::bs=>by
  show max (PyData.depthAll (b.map .bool)+1) (PyData.depthAll (Yc bs))<=1
  have:=WA bs
  have:=ZH b
  lia
inductive ZI(K:af)(CT:Addr)(c:NC)(vs:List V)(H:Hp)(Q:VK)(E:XK):Prop
 |mk (F:Addr->Prop) (p tp ln lr c0:Addr) (qs:List Addr) (ns:List Int) (rs:List R5) (o:cD ns rs) (bs:List (List Bool)) (cl ZC:List (Nat×Nat)) (B:Nat) (s:NS) (cc:Int):vs=[.int cc,.ref p,.ref c0,.int (s.ls.length:Nat)]->NW K c CT H F p tp ln lr ns rs s->bC K H c0 (qs.map V.ref)->dU K H qs (Uk ZC)->SK ns rs bs cl B s->B<=205000->cl.map (·.2)=ZC.map (·.2)->(∀H1,aC H H1->DW K c o H1 F p tp s Q)->ZI K CT c vs H Q E
theorem Um{t:Ad}(T:Txt K mg w t):bL P w K mg base fP 10 t.rK t.wZ ["_law_cell","_law_net","_law_callers","_law_posted"]  (ZI K t.aP (nc t)):=by
 refine T.KH.F.gB n9 λH Q E i h=>?_
 ·obtain⟨F,p,u,ln,lr,J,qs,ns,rs,o,bs,W,cl,B,s,n,rfl,N,hP,R,sk,hB,egr,k⟩:=h
  refine⟨_,(ao (sS 4 n9 (bG dh (pv 0) az)) (ao (sS 5 n9 (bG fE (pv 0) az)) (ao (b4 (PW.pt (uD (qT lD (pv 4) az) (nO (qT FW (iF (pv 1) T.aY T.dR.m (jW T) (i.mono (!_)) T.dR.B .nil iz) (dY fF))))) (ao (sS 6 n9 (bG dh (pv 5) (lS T.fR (iF (pv 1) T.aY T.dR.m (jW T) (i.mono (!_)) T.dR.B .nil iz)))) (oR (dG (jD (kX (ck bu (ck (gI (pv 6)) pU))) (j4 (pv 1) T.aY T.qV (pD T) (i.mono (!_)) T.yk .nil iz (cX (pv 6))))))) br) (ao (b4 (qT lD (pv 4) az) (oR (cG (adW T) i T.YQ (cX (pv 1)))) br) (ao (b4 (PW.pt (uD (qT lD (pv 4) az) (nO (qT Yn (pv 3) az)))) (oR (cG (Yb T) i T.Rb (jD (pv 1) (bG dh (pv 5) (pv 3))))) br) (ao (b4 (PW.pt (uD (qT lD (pv 4) az) (nO (qT FW (pv 2) (dY fF))))) (ao (sS 7 n9 (bG dh (pv 5) (lS T.fR (pv 2)))) (oR (dG (jD (kX (ck bu (ck (gI (pv 7)) pU))) (cG (G0 T) i T.Es (cX (cM (pv 1) T.aY T.JC (OF T) i (cX (pv 7))))))))) br) (oR (dG (jD bu (bS fZ (by rfl) T.zI boot_str (cX (lS T.fR (iF (pv 1) T.aY T.dR.m (jW T) (i.mono (!_)) T.dR.B .nil iz))))))))))))),?_⟩
  left
  obtain⟨D,g,hD,rb,iv⟩:=id sk;have hml:s.aN.length=cl.length:=by rw[<- g.bd.gl,g.gr,egr,ah]
  have pI:=g.bd.pI;have RA:=g.bd.ll;have hcb:=g.bd.cb;have eq:qs.length=cl.length:=by rw[R.len,ah]
  have O6:(((qs.map V.ref).length:Nat):Int)=(cl.length:Int):=by rw[ah,eq]
  refine⟨_,rfl,_,_,rfl,rfl,(by show (0:Int)<5;decide),?_⟩;show gp 4 (V.int (n%5)) _ _ _;refine⟨_,rfl,_,_,rfl,rfl,⟨!_,!_⟩,?_⟩;show gp 5 (V.int (n/5)) _ _ _;generalize n%5=kd;generalize n/5=mo;obtain⟨dx,loc,C⟩:=N.b5.ob
  try dsimp only[gp,LR]
  refine qu (λd X=>d=[some (.int n),some (.ref p),some (.ref J),some (.int (s.ls.length:Nat)),some (.int kd),some (.int mo),none,none]/\aC H X) ?_ (λN' l=>?_)
  rotate_left
  ·refine⟨_,rfl,rfl,_,rfl,jh (λ_=>?_) (λ_=>dO (l _ _ ⟨rfl,aC.refl _⟩))⟩
   refine⟨_,rfl,p,_,_,rfl,C,rfl,F,p,u,ns.length,s,rfl,N.b5,λlf qf H3 s3 _ hlf hqf=>⟨be _,λa O=>?_⟩⟩;have e:=aC.new (o:=.lst []) O;have U:=aq (H:=H3) (a:=a) (o:=.lst []);generalize upd H3 a (.lst [])=H4 at e U;have Zy:=s3.trans e;have ai5:dU K H4 qf ((s.cps.map Hx).map λx=>x.map V.int):=by
    rw[<- adV];exact hqf.mono λb x z=>e.cV z
   refine⟨.list ((s.cps.map Hx).map Ka),.list [],⟨lf,_,rfl,bC.of (e _ _ hlf),zV ai5⟩,⟨a,[],rfl,bC.of U,rfl⟩,zW _,rfl,bq (bI (ay (cQ _ _) (by show PyData.depthAll _+1<=64;have:=uu (s.cps.map Hx);lia)) _) i.units,_,rfl,?_⟩;rw[Bh];by_cases y:s.cps=[]
   ·rw[y]
    exact dO (l _ _ ⟨rfl,Zy⟩)
   have:((s.cps.map Hx).map Ka).isEmpty=false:=by
    cases h:s.cps with
    |nil=>exact eL h y
    |cons=>rfl
   rw[this];refine dZ ?_;have c:0<s.cps.length:=gE.mpr y;obtain⟨j,I,A⟩:=iw mo c;refine⟨_,rfl,_,rfl,p,_,_,rfl,Zy _ _ C,rfl,F,p,u,ns.length,s,rfl,N.b5.mono Zy,λlg qg H5 s5 _ hlg hqg=>?_⟩;have eqg:qg.length=s.cps.length:=by rw[hqg.len,ah]
   refine⟨lg,_,rfl,.inl (bC.of hlg),_,_,rfl,rfl,(by rw[ah];lia),?_⟩
   try dsimp only
   rw[ah,eqg,I];have q:=Zy.trans s5;have hc:=aa A;have hl:=aa (g.bd.cl _ (aD A)).1;have G:TX.Wr (j:Int):=gz ∅;have M:(TX.num (j:Int)).length<=1000:=ay (TX.iV G).2 (!_);refine⟨_,rfl,!_,_,rfl,_,rfl,eZ G,_,rfl,cZ (!_) M,cZ (!_) M,?_⟩;refine⟨_,rfl,p,_,_,rfl,q _ _ C,rfl,_,rfl,F,p,u,ln,lr,ns,rs,s,o,j,D,_,_,rfl,N.mono q,g.ok,g.bd,∅,hc,hl,λos ts F6 H6 hO h12 pt oe W6 st6=>⟨ff,?_⟩⟩;exact (k _ q).fin (cmd:=.pass j) A ⟨_,_,os,ts,hc,hl,hO,h12,pt,oe,rfl,rfl⟩ (λ_=>rfl) W6.b5 st6 (tx1 (w:="pass") (by decide +kernel) _)
  rintro d H1 ⟨rfl,Z⟩;have N1:=N.mono Z;have k1:=k H1 Z;have ir:=Z _ _ C;refine⟨_,rfl,rfl,_,rfl,jh (λ_=>?_) (λ_=>?_)⟩
  ·exact⟨_,rfl,F,p,u,ln,lr,ns,rs,o,bs,W,B,s,rfl,N1,sk,hB,k1⟩
  try dsimp only[gp,LR]
  refine qu (λd X=>d=[some (.int n),some (.ref p),some (.ref J),some (.int (s.ls.length:Nat)),some (.int kd),some (.int mo),none,none]/\aC H1 X) ?_ (λN' l=>?_)
  rotate_left
  ·refine⟨_,rfl,rfl,_,rfl,jh (λ_=>?_) (λ_=>dO (l _ _ ⟨rfl,aC.refl _⟩))⟩
   refine⟨_,rfl,_,_,rfl,rfl,_,rfl,jh (λhp=>?_) (λ_=>l _ _ ⟨rfl,aC.refl _⟩)⟩;have c:0<s.ls.length:=by have:=fT hp;lia
   obtain⟨j,I,A⟩:=iw mo c;refine⟨_,rfl,_,rfl,_,rfl,_,_,rfl,rfl,(by show (0:Int)<((s.ls.length:Nat):Int);lia),?_⟩
   try dsimp only
   rw[I];exact⟨F,p,u,ns,rs,o,bs,W,B,s,j,rfl,N1.b5,sk,hB,A,k1⟩
  rintro d H2 ⟨rfl,s2⟩;have f:=Z.trans s2;have N2:=N.mono f;have L:=f.seq hP;have ao1:dU K H2 qs (Uk cl):=R.mono λb x=>f.cV
  try dsimp only[gp,LR]
  refine qu (λd X=>d=[some (.int n),some (.ref p),some (.ref J),some (.int (s.ls.length:Nat)),some (.int kd),some (.int mo),none,none]/\aC H2 X) ?_ (λN' l=>?_)
  rotate_left
  ·refine⟨_,rfl,rfl,_,rfl,jh (λ_=>?_) (λ_=>dO (l _ _ ⟨rfl,aC.refl _⟩))⟩
   refine⟨_,rfl,be _,λa O=>?_⟩;have e:=aC.new (o:=.lst []) O;have U:=aq (H:=H2) (a:=a) (o:=.lst []);generalize upd H2 a (.lst [])=H4 at e U;have hq3:dU K H4 qs ((wA cl).map λx=>x.map V.int):=by
    rw[<- ZE];exact ao1.mono λb x z=>e.cV z
   refine⟨.list ((wA cl).map Ka),.list [],⟨J,_,rfl,e.seq L,zV hq3⟩,⟨a,[],rfl,bC.of U,rfl⟩,zW _,rfl,bq (bI (ay (cQ _ _) (by show PyData.depthAll _+1<=64;have:=uu (wA cl);lia)) _) i.units,_,rfl,?_⟩;rw[Bh];by_cases y:cl=[]
   ·subst y
    exact dO (l _ _ ⟨rfl,e⟩)
   have:((wA cl).map Ka).isEmpty=false:=by
    cases h:cl with
    |nil=>exact eL h y
    |cons=>rfl
   rw[this];refine dZ ?_;have c:0<cl.length:=gE.mpr y;obtain⟨j,I,A⟩:=iw mo c;refine⟨_,rfl,_,rfl,J,_,rfl,.inl (e.seq L),_,_,rfl,rfl,(by rw[O6];lia),?_⟩
   try dsimp only
   rw[O6,I];have Y:=f.trans e;have G:TX.Wr (j:Int):=gz ∅;have M:(TX.num (j:Int)).length<=1000:=ay (TX.iV G).2 (!_);have hx:j<s.had.length:=by rw[g.bd.hl];lia
   have eh:s.had.getD j []=s.had[j]:=by rw[aj,aa hx];rfl
   have hb:=g.bd.hb _ (aD hx);refine⟨_,rfl,!_,_,rfl,_,rfl,eZ G,_,rfl,cZ (!_) M,cZ (!_) M,?_⟩;refine⟨_,rfl,p,_,_,rfl,Y _ _ C,rfl,_,rfl,F,p,u,ns.length,j,s,s.had[j],rfl,N.b5.mono Y,∅,aa hx,λb H5 s5 _ hb5=>?_⟩;refine⟨b,_,rfl,bC.of hb5,λv hv=>?_,(by rw[ah];lia),λH6 s6=>⟨ff,?_⟩⟩
   ·obtain⟨r,hr',rfl⟩:=aF.mp hv
    have:=iv.hb _ (aD hx) r hr'
    exact .inr ⟨_,rfl,gz ∅⟩
   ·have S:=s5.trans s6
    exact (k _ Y).fin (cmd:=.had j) (show j<s.aN.length by lia) ⟨rfl,by rw[eh]⟩ (λ_=>rfl) (N.b5.mono (Y.trans S)) (Step.refl' S) (tx1 (w:="had") (by decide +kernel) _)
  rintro d H3 ⟨rfl,s3⟩;have YZ:=f.trans s3;refine⟨_,rfl,p,_,_,rfl,YZ _ _ C,rfl,F,p,u,ns.length,s,rfl,N.b5.mono YZ,λa qf H4 s4 _ O hq=>⟨a,_,rfl,.inl (bC.of O),?_⟩⟩
  try dsimp only
  rw[ah,hq.len,ah];have wc:TX.Wr ((s.cps.length:Nat):Int):=gz ∅;refine⟨_,rfl,eZ wc,ff,?_⟩;exact (k _ YZ).fin (cmd:=.flying) trivial ⟨rfl,rfl⟩ (λ_=>rfl) (N.b5.mono (YZ.trans s4)) (Step.refl' s4) rfl
inductive WB(K:af)(CT:Addr)(c:NC)(vs:List V)(H:Hp)(Q:VK)(E:XK):Prop
 |mk (F:Addr->Prop) (p tp ln lr q a0 b0 c0 ls:Addr) (pH qs:List Addr) (ns:List Int) (rs:List R5) (o:cD ns rs) (bs:List (List Bool)) (cl ZC:List (Nat×Nat)) (B:Nat) (s:NS) (cc:Int):vs=[.int cc,.ref p,.ref q,.ref ls,.int (s.ls.length:Nat)]->cj K c H F p tp ns.length s->cy K CT (Off H F) tp ln lr ns rs->cR K H q [.ref a0,.ref b0,.ref c0]->bC K H a0 (ns.map V.int)->bC K H c0 (qs.map V.ref)->dU K H qs (Uk ZC)->Up (Off H F) ls pH bs->TB ns rs->SK ns rs bs cl B s->B<=205000->cl.map (·.2)=ZC.map (·.2)->After K c o H F p tp s ls pH bs Q->WB K CT c vs H Q E
theorem aa5{t:Ad}(T:Txt K mg w t):bL P w K mg base fP 11 t.CL t.HH ["_law_cell","_law_net","_law_told","_law_strung","_law_posted"]  (WB K t.aP (nc t)):=by
 refine T.Vm.F.gB zq λH Q E C h=>?_
 ·obtain⟨F,p,tp,ln,lr,q,a0,b0,c0,ls,pH,qs,ns,rs,o,J,I,cl,B,s,u,rfl,N,hT,W,hA,hP,A,S,tb,sk,hB,X,k⟩:=h
  refine⟨_,(ao (sS 5 zq (bG dh (pv 0) az)) (ao (sS 6 zq (bG fE (pv 0) az)) (ao (b4 (qT tE (pv 5) az) (oR (cG (aa2 T) C T.Vj (Jc (pv 6) (pv 1) (lS T.fR (xT (pv 2) az))))) br) (ao (b4 (PW.pt (uD (qT lD (pv 5) az) (nO (qT FW (pv 3) (dY fF))))) (oR (cG (aa3 T) C T.Vk (Jc (pv 6) (pv 1) (pv 3)))) br) (ao (b4 (PW.pt (uD (qT lD (pv 5) az) (nO (qT FW (xT (pv 2) az) (dY fF))))) (ao (sS 7 zq (bG dh (pv 6) (lS T.fR (xT (pv 2) az)))) (ao (sS 8 zq (bG dh (bG fE (pv 6) az) (lS T.fR (xT (pv 2) az)))) (ao (dN (cM (pv 1) T.aY T.Gw (K7 T) C (jD (pv 7) (pv 8)))) (oR (dG (jD (kX (ck bu (ck (gI (pv 7)) (ck bu (ck (gI (pv 8)) pU))))) bu)))))) br) (ao (b4 (PW.pt (uD (PW.pt (Uv (qT lD (pv 5) az) (LQ (qT lD (pv 5) az)))) (nO (qT FW (xT (pv 2) az) (dY fF))))) (oR (cG (aa4 T) C T.Vl (Jc (pv 6) (pv 1) (xT (pv 2) az)))) br) (oR (cG (Um T) C T.KH (u9 (pv 6) (pv 1) (xT (pv 2) az) (pv 4)))))))))),?_⟩
  left
  obtain⟨D,sd,hD,rb,iv⟩:=id sk;have hml:s.aN.length=cl.length:=by rw[<- sd.bd.gl,sd.gr,X,ah]
  have pI:=sd.bd.pI;have n1:=o.n1;have Lc:=o.Lc;have eq:qs.length=cl.length:=by rw[A.len,ah]
  have O6:(((qs.map V.ref).length:Nat):Int)=(cl.length:Int):=by rw[ah,eq]
  have Y:(((ns.map V.int).length:Nat):Int)=(ns.length:Int):=by rw[ah]
  have L:∀{v},aC H v->NW K (nc t) t.aP v F p tp ln lr ns rs s:=λM=>(hT.mono (iI M)).nw (N.mono M) λb z=>z;refine⟨_,rfl,_,_,rfl,rfl,(by show (0:Int)<8;decide),?_⟩;show gp 5 (V.int (u%8)) _ _ _;refine⟨_,rfl,_,_,rfl,rfl,⟨!_,!_⟩,?_⟩;show gp 6 (V.int (u/8)) _ _ _;generalize u%8=kd;generalize u/8=mo;obtain⟨dx,loc,bF⟩:=N.ob;refine⟨_,rfl,_,_,rfl,rfl,_,rfl,jh (λ_=>?_) (λ_=>?_)⟩
  ·refine⟨_,rfl,_,rfl,_,rfl,q,_,_,_,rfl,rfl,W,rfl,a0,_,rfl,.inl hA,?_⟩
   try dsimp only
   rw[Y];exact⟨F,p,tp,ln,lr,ns,rs,o,J,I,B,s,mo,rfl,L (aC.refl _),tb,sk,hB,k.zero S (aC.refl _)⟩
  try dsimp only[gp,LR]
  refine qu (λj Z=>j=[some (.int u),some (.ref p),some (.ref q),some (.ref ls),some (.int (s.ls.length:Nat)),some (.int kd),some (.int mo),none,none]/\aC H Z) ?_ (λN' G=>?_)
  rotate_left
  ·refine⟨_,rfl,rfl,_,rfl,jh (λ_=>?_) (λ_=>dO (G _ _ ⟨rfl,aC.refl _⟩))⟩
   refine⟨_,rfl,be _,λa ha=>?_⟩;have n:=aC.new (o:=.lst []) ha;have R:=aq (H:=H) (a:=a) (o:=.lst []);generalize upd H a (.lst [])=e at n R;refine⟨PyData.list (Yc J),.list [],⟨ls,_,rfl,bC.of (n _ _ (cE _ _ S.at_)),ZF S.len λi l b e1 e2=>n _ _ (cE _ _ (S.it i l b e1 e2))⟩,⟨a,[],rfl,bC.of R,rfl⟩,ZG _,rfl,bq (bI (ay (cQ _ _) (by show PyData.depthAll _+1<=64;have:=WA J;lia)) _) C.units,_,rfl,?_⟩;rw[Bh];by_cases g:J=[]
   ·subst g
    exact dO (G _ _ ⟨rfl,n⟩)
   have:(Yc J).isEmpty=false:=by
    cases h:J with
    |nil=>exact eL h g
    |cons=>rfl
   rw[this];refine dZ ?_;have o3:=iI (F:=F) n;exact⟨_,rfl,_,rfl,_,rfl,F,p,tp,ln,lr,ls,pH,ns,rs,o,J,I,B,s,mo,rfl,N.mono n,hT.mono o3,S.mono o3,sk,hB,g,λcmd x q2 s' F' Z f d N' kb S' hq'=>k cmd x q2 s' F' Z f d N' ((KB.of o3).trans kb) S' hq'⟩
  rintro j v ⟨rfl,M⟩;have alI:∀{v},aC H v->dU K v qs ((wA cl).map λx=>x.map V.int):=λM=>by
   rw[<- ZE];exact A.mono λb x z=>M.cV z
  have emp:cl≠[]->((wA cl).map Ka).isEmpty=false:=λg=>by
   cases h:cl with
   |nil=>exact eL h g
   |cons=>rfl
  try dsimp only[gp,LR]
  refine qu (λj Z=>j=[some (.int u),some (.ref p),some (.ref q),some (.ref ls),some (.int (s.ls.length:Nat)),some (.int kd),some (.int mo),none,none]/\aC v Z) ?_ (λN' G=>?_)
  rotate_left
  ·refine⟨_,rfl,rfl,_,rfl,jh (λ_=>?_) (λ_=>dO (G _ _ ⟨rfl,aC.refl _⟩))⟩
   refine⟨_,rfl,q,_,_,_,rfl,rfl,M.cV W,rfl,be _,λa ha=>?_⟩;have n:=aC.new (o:=.lst []) ha;have R:=aq (H:=v) (a:=a) (o:=.lst []);generalize upd v a (.lst [])=e at n R;have c:=M.trans n;refine⟨.list ((wA cl).map Ka),.list [],⟨c0,_,rfl,c.seq hP,zV (alI c)⟩,⟨a,[],rfl,bC.of R,rfl⟩,zW _,rfl,bq (bI (ay (cQ _ _) (by show PyData.depthAll _+1<=64;have:=uu (wA cl);lia)) _) C.units,_,rfl,?_⟩;rw[Bh];by_cases g:cl=[]
   ·subst g
    exact dO (G _ _ ⟨rfl,n⟩)
   rw[emp g];refine dZ ?_;have hpos:0<cl.length:=gE.mpr g;obtain⟨x,ex,hx⟩:=iw mo hpos;obtain⟨y,ey,hy⟩:=iw (mo/5) (show 0<ns.length by lia);refine⟨_,rfl,_,rfl,q,_,_,_,rfl,rfl,c.cV W,rfl,c0,_,rfl,.inl (c.seq hP),_,_,rfl,rfl,(by rw[O6];lia),?_⟩
   try dsimp only
   rw[O6,ex];refine⟨_,rfl,_,_,rfl,rfl,⟨!_,!_⟩,_,rfl,q,_,_,_,rfl,rfl,c.cV W,rfl,a0,_,rfl,.inl (c.seq hA),_,_,rfl,rfl,(by rw[Y];lia),?_⟩
   try dsimp only
   rw[Y,ey];have wx:TX.Wr (x:Int):=gz ∅;have wy:TX.Wr (y:Int):=gz ∅;have Wx:=(TX.iV wx).2;have lx:(TX.num (x:Int)).length<=1000:=ay Wx (!_);have ly:(TX.num (y:Int)).length<=1000:=ay (TX.iV wy).2 (!_);have l1:∀{z:Str},z.length<=900->(z++TX.num (x:Int)).length<=960:=λh=>Bj h Wx;have l2:∀{z:Str},z.length<=900->(z++TX.num (x:Int)++" ").length<=961:=λh=>Bj (m:=1) (l1 h) (show (" " : Str).length<=1 by decide);have hxh:x<s.aN.length:=∅
   refine⟨_,rfl,p,_,_,rfl,c _ _ bF,rfl,_,rfl,_,rfl,F,p,tp,ln,lr,ns,rs,s,x,y,rfl,L c,hxh,sd.bd.gl,sd.bd.g3,hy,λF5 H5 W5 Qy=>?_⟩;refine⟨_,rfl,!_,_,rfl,_,rfl,eZ wx,_,rfl,cZ (!_) lx,_,rfl,cZ (ay (l1 (!_)) (!_)) (!_),_,rfl,_,rfl,eZ wy,_,rfl,cZ (ay (l2 (!_)) (!_)) ly,cZ (ay (l2 (!_)) (!_)) ly,ff,?_⟩;exact (k.zero S c).fin (cmd:=.move x y) ⟨hxh,hy⟩ ⟨rfl,rfl⟩ (λ_=>rfl) W5.b5 Qy (tx2 (w:="move") (by decide +kernel) _ _)
  rintro j O ⟨rfl,s2⟩;have r:=M.trans s2
  try dsimp only[gp,LR]
  refine qu (λj Z=>j=[some (.int u),some (.ref p),some (.ref q),some (.ref ls),some (.int (s.ls.length:Nat)),some (.int kd),some (.int mo),none,none]/\aC O Z) ?_ (λN' G=>?_)
  rotate_left
  ·have body:∀e,aC O e->cl≠[]->IG K t.aP (nc t) [.int mo,.ref p,.ref c0] e Q E0:=λe c g=>by
    have WG:=r.trans c;exact⟨F,p,tp,ln,lr,c0,qs,ns,rs,o,J,I,cl,B,s,mo,rfl,L WG,WG.seq hP,A.mono λb x=>WG.cV,sk,hB,X,g,k.zero S WG⟩
   have tst:∀{U:Nat} (hU:U+64<cLine) {Qr:Bool->Hp->Prop},(∀e,aC O e->cl≠[]->Qr true e)->(∀e,aC O e->Qr false e)->Yp (ZR (aj6 K U) (ZR (UE K) (IP 2) (tC (V.int 2))) (ajR FT)) [some (.int u),some (.ref p),some (.ref q),some (.ref ls),some (.int (s.ls.length:Nat)),some (.int kd),some (.int mo),none,none] O Qr:=λ{U} hU {Qr} h1 h2=>by
    refine⟨_,rfl,q,_,_,_,rfl,rfl,r.cV W,rfl,be _,λa ha=>?_⟩;have n:=aC.new (o:=.lst []) ha;have R:=aq (H:=O) (a:=a) (o:=.lst []);generalize upd O a (.lst [])=e at n R;have c:=r.trans n;refine⟨.list ((wA cl).map Ka),.list [],⟨c0,_,rfl,c.seq hP,zV (alI c)⟩,⟨a,[],rfl,bC.of R,rfl⟩,zW _,rfl,bq (bI (ay (cQ _ _) (by show PyData.depthAll _+1<=64;have:=uu (wA cl);lia)) _) hU,_,rfl,?_⟩;rw[Bh];by_cases g:cl=[]
    ·subst g
     exact h2 _ n
    rw[emp g];exact h1 _ n g
   have yes:∀e,aC O e->cl≠[]->_:=λe c g=>(⟨_,rfl,_,rfl,_,rfl,q,_,_,_,rfl,rfl,(r.trans c).cV W,rfl,body e c g⟩:aec (abC (IG K t.aP (nc t)) [] E0 (i0 (IP 6) (i0 (IP 1) (i0 (ZR (UE K) (IP 2) (tC (V.int 2))) FT)))) {nx:=N',rt:=Q} [some (.int u),some (.ref p),some (.ref q),some (.ref ls),some (.int (s.ls.length:Nat)),some (.int kd),some (.int mo),none,none] e);refine⟨_,rfl,rfl,_,rfl,jh (λ_=>dZ ?_) (λ_=>⟨_,rfl,rfl,_,rfl,jh (λ_=>?_) (λ_=>dO (G _ _ ⟨rfl,aC.refl _⟩))⟩)⟩
   ·exact tst C.units (λe c g=>dZ (yes e c g)) (λe c=>dO (G _ _ ⟨rfl,c⟩))
   ·exact tst C.units (λe c g=>dZ (yes e c g)) (λe c=>dO (G _ _ ⟨rfl,c⟩))
  rintro j H3 ⟨rfl,s3⟩;have YZ:=r.trans s3;exact⟨_,rfl,_,rfl,_,rfl,q,_,_,_,rfl,rfl,YZ.cV W,rfl,_,rfl,F,p,tp,ln,lr,c0,qs,ns,rs,o,J,I,cl,B,s,mo,rfl,L YZ,YZ.seq hP,A.mono λb x=>YZ.cV,sk,hB,X,λe c=>k.zero S (YZ.trans c)⟩
theorem afP(rs:List R5):(rs.map λr=>bB r.d.toNat true).map stand=rs.map λr=>au r.d.toNat:=by
 rw[bP];exact cU λr _=>Xc _
theorem adZ{n:Nat}{rs:List R5}(ok:∀r∈rs,r.Ok n):T9 rs (rs.map λr=>bB r.d.toNat true):=by
 refine⟨ah _,λi r b c a=>?_⟩;rw[ak,c] at a;cases a;rw[List.length_replicate]
 have:=(ok r (aI c)).d1
 lia
theorem alJ{ns:List Int}{rs:List R5}{cl:List (Nat×Nat)}(o:cD ns rs)(k:cl.length<=20)(e:∀c∈cl,c.1<ns.length/\c.2<3):SD ns rs (rs.map λr=>bB r.d.toNat true) cl 0 (S0 ns rs cl):=by
 refine⟨⟨ah _,λw a=>?_,λg _ i b=>⟨?_,Int.le_refl _,⟨Int.le_refl _,by show (0:Int)<(ns.length:Int);lia⟩,.inl rfl⟩⟩,⟨?_,?_,λg f=>?_,λh j=>?_,?_,λw a=>?_,be _,λl z=>(by cases z),be _,λc z=>(by cases z),λg=>⟨be _,iU⟩⟩,(afP rs).symm,adZ o.ok,rfl,rfl⟩
 ·obtain⟨r,m,rfl⟩:=aF.mp a
  rw[bz]
  have:=(o.ok r m).d4
  lia
 ·show 0<=ns.getD i 0
  rw[aj,aa b];exact o.pos _ (aD b)
 ·show (cl.map _).length=(cl.map _).length
  rw[ah,ah]
 ·show (cl.map _).length<=20
  rw[ah];exact k
 ·obtain⟨c,z,rfl⟩:=aF.mp f
  exact (e c z).2
 ·obtain⟨c,z,rfl⟩:=aF.mp j
  exact (e c z).1
 ·show (cl.map _).length=(cl.map _).length
  rw[ah,ah]
 ·obtain⟨c,z,rfl⟩:=aF.mp a
  exact be _
theorem st1{w w':Str}(c:TX.cs w'=TX.cs w++[32])(b:4<=(Str.empty++w').length)(a:Str):Txt.startswith (Txt.join TX.tO [w,a]) "post" = Txt.startswith (Str.empty++w') "post" := by
 rw[<- tx1 c];exact uw b
theorem st2{w w':Str}(g:TX.cs w'=TX.cs w++[32])(e:4<=(Str.empty++w').length)(a b:Str):Txt.startswith (Txt.join TX.tO [w,a,b]) "post" = Txt.startswith (Str.empty++w') "post" := by
 rw[<- tx2 g];have c:∀x:Str,4<=(Str.empty++w'++x).length:=λx=>by rw[len_app];lia
 have f:∀x y:Str,4<=(Str.empty++w'++x++y).length:=λx y=>by have:=c x;rw[len_app];lia
 exact (uw (d:="post") (f a " ")).trans ((uw (d:="post") (c a)).trans (uw (d:="post") e))
theorem Yd(c:rP):(if Txt.startswith c.text "post" = true then (1:Int) else 0)=(als c:Nat):=by
 have a:∀{x:Str},Txt.startswith x "post" = false->(if Txt.startswith x "post" = true then (1:Int) else 0)=((0:Nat):Int):=λh=>by rw[h];rfl
 have b:∀{x:Str},Txt.startswith x "post" = true->(if Txt.startswith x "post" = true then (1:Int) else 0)=((1:Nat):Int):=λh=>by rw[h];rfl
 cases c with
 |round g=>exact a ((st1 (w:="round") (w':="round ") (by decide +kernel) (!_) _).trans (by decide +kernel))
 |rest g=>exact a ((st1 (w:="rest") (w':="rest ") (by decide +kernel) (!_) _).trans (by decide +kernel))
 |row h g=>exact a ((st2 (w:="row") (w':="row ") (by decide +kernel) (!_) _ _).trans (by decide +kernel))
 |WH g=>exact a ((st1 (w:="open") (w':="open ") (by decide +kernel) (!_) _).trans (by decide +kernel))
 |call h g=>exact a ((st2 (w:="call") (w':="call ") (by decide +kernel) (!_) _ _).trans (by decide +kernel))
 |yY i x=>exact a ((st2 (w:="fall") (w':="fall ") (by decide +kernel) (!_) _ _).trans (by decide +kernel))
 |lay i x=>exact a ((st2 (w:="lay") (w':="lay ") (by decide +kernel) (!_) _ _).trans (by decide +kernel))
 |move c h=>exact a ((st2 (w:="move") (w':="move ") (by decide +kernel) (!_) _ _).trans (by decide +kernel))
 |post c d=>cases d with
  |none=>exact b ((st2 (w:="post") (w':="post ") (by decide +kernel) (!_) _ _).trans (by decide +kernel))
  |some y=>exact b ((st2 (w:="post") (w':="post ") (by decide +kernel) (!_) _ _).trans (by decide +kernel))
 |pass k=>exact a ((st1 (w:="pass") (w':="pass ") (by decide +kernel) (!_) _).trans (by decide +kernel))
 |run=>exact a (by decide +kernel)
 |flying=>exact a (by decide +kernel)
 |had c=>exact a ((st1 (w:="had") (w':="had ") (by decide +kernel) (!_) _).trans (by decide +kernel))
 |tK i=>exact a ((st1 (w:="story") (w':="story ") (by decide +kernel) (!_) _).trans (by decide +kernel))
theorem ai7{ns:List Int}{rs:List R5}{cl:List (Nat×Nat)}(o:cD ns rs)(j:TB ns rs)(p:cl.length<=12)(i:∀c∈cl,c.1<ns.length/\c.2<3):y9 ns (rs.map R5.ns) (wA cl):=by
 have m:(10:Int)^50<10^60:=!_
 have q:(10:Int)^41<10^60:=!_
 have l:(20:Int)<10^60:=!_
 have Lc:=o.Lc;have LD:=o.LD;refine⟨λn g=>⟨o.pos n g,by have:=j.n n g;lia⟩,λr f n g=>?_,λr f n g=>?_,o.n1,∅,λr f=>?_,λr f=>?_,by rw[ah];lia,by rw[ah];lia⟩
 ·obtain⟨x,h,rfl⟩:=aF.mp f
  have k:=o.ok x h;have s:=j.c x h
  have:n=x.a∨n=x.b∨n=x.c∨n=x.d∨n=x.e:=by simpa [R5.ns] using g
  have u:=k.a0;have A:=k.a1;have C:=k.b0;have B:=k.b1;have t:=k.c1;have z:=k.d1;have y:=k.d4;have w:=k.e1;have v:=k.e7;refine⟨?_,?_⟩ <;> (rcases this with rfl|rfl|rfl|rfl|rfl <;> lia)
 ·obtain⟨x,h,rfl⟩:=aF.mp f
  have k:=i x h
  have:n=(x.1:Int)∨n=(x.2:Int):=by simpa using g
  refine⟨?_,?_⟩ <;> (rcases this with rfl|rfl <;> lia)
 ·obtain⟨x,_,rfl⟩:=aF.mp f;rfl
 ·obtain⟨x,_,rfl⟩:=aF.mp f;rfl
structure LX(K:af)(CT CD:Addr)(h:Hp)(ZJ r4 ry RO ln2 lr2 dk dx p1 q a0 b0 c0 ls lq:Addr)(pH qs:List Addr)(ns:List Int)(rs:List R5)(bs:List (List Bool))(ZC:List (Nat×Nat))(cs:List Int):Prop where
 t1:cy K CT h ZJ r4 ry ns rs
 t2:cy K CT h RO ln2 lr2 ns rs
 dk:h dk=some (.ins CD dx [("net",.ref p1)])
 tl:cR K h q [.ref a0,.ref b0,.ref c0]
 nm:h a0=some (.lst (ns.map V.int))
 cl:h c0=some (.lst (qs.map V.ref))
 cq:dU K h qs (Uk ZC)
 sts:Up h ls pH bs
 cs:h lq=some (.lst (cs.map V.int))
section
variable{CT CD:Addr}{h h':Hp}{ZJ r4 ry RO ln2 lr2 dk dx p1 q a0 b0 c0 ls lq:Addr}{pH qs:List Addr}{ns:List Int}{rs:List R5}{bs bs':List (List Bool)}{ZC:List (Nat×Nat)}{cs:List Int}
theorem LX.kb(L:LX K CT CD h ZJ r4 ry RO ln2 lr2 dk dx p1 q a0 b0 c0 ls lq pH qs ns rs bs ZC cs)(k:KB h h')(S:Up h' ls pH bs'):LX K CT CD h' ZJ r4 ry RO ln2 lr2 dk dx p1 q a0 b0 c0 ls lq pH qs ns rs bs' ZC cs :=
 ⟨L.t1.kb k,L.t2.kb k,k _ _ L.dk (λ⟨_,_,z⟩=>by cases z),k.tup L.tl,k _ _ L.nm Ul,k _ _ L.cl O0,L.cq.mono λb x=>k.tup,S,k _ _ L.cs Ul⟩
end
theorem afS{c:NC}{u:Role->Addr}{t:Addr}{j:Role->Addr}{q:TQ}{s:NS}{r:Role}{o:HO}(h:desc c u t j q s r=some o):¬BL o:=by
 have b:∀{g:Type} {f:g->HO} {x:Option g},(∀a,¬BL (f a))->x.map f=some o->¬BL o:=λ{g f x} n e=>by
  cases x with
  |none=>cases e
  |some a=>cases e;exact n a
 have p:∀{m:Nat} {f:Nat->Addr},¬BL (.lst ((au m).map λi=>V.ref (f i))):=λ{m f}=>by
  have:((au m).map λi=>V.ref (f i))=((au m).map f).map V.ref:=by rw[bP];rfl
  rw[this];exact O0
 have ins:∀{C d:Addr} {k:List (Str×V)},¬BL (.ins C d k):=λ⟨_,_,z⟩=>by cases z
 cases r <;> simp only[desc] at h
 all_goals first
  | (cases h;exact ins)
  | (cases h;exact adS)
  | (cases h;exact O0)
  | (cases h;exact p)
  |exact b (λ_=>adS) h
  |exact b (λ_=>ins) h
  |exact b (λ_=>O0) h
  | (split at h
     ·cases h;first|exact O0|exact ins|exact λ⟨_,_,z⟩=>by cases z
     ·cases h)
  | (refine b (λl=>?_) h;unfold rX;split <;> exact ins)
  |exact b (λ_ ⟨_,_,z⟩=>by cases z) h
theorem RT{c:NC}{H i:Hp}{d h a:Addr->Prop}{v s w C:Addr}{n m:Nat}{k B:NS}(j:cj K c H d v s n k)(E:cj K c H h w C m B)(A:∀b,d b->¬h b)(kb:KB (Off H h) (Off i a)):cj K c i d v s n k/\(∀b,d b->¬a b)/\KB (EB H d h) (EB i d a):=by
 have g:∀b o,H b=some o->d b->Off i a b=some o:=λb o e f=>by
  refine kb b o (iS (A b f) e) ?_;obtain⟨p,J,q,N,D,G,O⟩:=id j;obtain⟨r,F,rfl⟩:=(G b).mp f;cases l:desc c J s p q k r with
  |none=>exact eL l F
  |some u =>
   have:=D.get r u l
   rw[e] at this;cases this;exact afS l
 refine⟨j.keep (λb o e f=>(cY (g b o e f)).2) (λb x e=>cE.cV (kb.tup (E.anr e))),λb f=>?_,λb o e I=>?_⟩
 ·obtain⟨o,e⟩:=j.there f
  exact (cY (g b o e f)).1
 ·obtain⟨t,y⟩:=cY e
  obtain⟨L,M⟩:=cY (kb b o (iS (λz=>t (.inr z)) y) I);exact iS (λz=>z.elim (λz=>t (.inl z)) L) M
theorem alK{ns:List Int}{rs:List R5}{cl:List (Nat×Nat)}(o:cD ns rs)(e:TB ns rs)(j:cl.length<=20)(k:∀c∈cl,c.1<ns.length/\c.2<3):SK ns rs (rs.map λr=>bB r.d.toNat true) cl 0 (S0 ns rs cl):=by
 refine⟨0,alJ o j k,aB _,λg _ h a=>⟨?_,Int.le_refl _⟩,λw b i f=>?_,λl z=>by cases z⟩
 ·show ns.getD h 0<_
  rw[aj,aa a];exact e.n _ (aD a)
 ·obtain⟨c,_,rfl⟩:=aF.mp b
  cases f
inductive ad0(K:af)(vs:List V)(H:Hp)(Q:VK)(E:XK):Prop
 |mk (a:Addr) (ns:List Int):vs=[.ref a]->bC K H a (ns.map V.int)->ns.length<=63->(∀H',Q (.bl true) H')->ad0 K vs H Q E
theorem ai8{t:Ad}(T:Txt K mg w t):bL P w K mg base fP 12 t.Ve t.Vf ["_law_script"]  (ad0 K):=by
 refine T.acI.F.gB sA λH Q E hr h=>?_
 ·obtain⟨a,cs,rfl,hS,hlen,k⟩:=h
  refine⟨_,(ao (sS 1 sA (cG (aaY T) hr T.Vh (cX (pv 0)))) (ao (sS 2 sA (cI T.E6 (OY T) hr T.ahZ (cX (cG (aa0 T) hr T.Vi (cX (pv 1)))))) (ao (sS 3 sA (cI T.AF (FJ T) hr T.agj (jD (cI T.yh (DM T) hr T.acL (jD (bS fG (by rfl) T.sF boot_list (cX (xT (pv 1) az))) (bS fG (by rfl) T.sF boot_list (cX (xT (pv 1) az))))) (bS fG (by rfl) T.sF boot_list (cX (xT (pv 1) az)))))) (ao (mZ (i:=4) sA.nd rfl (Or.inl rfl) (kO sA ["_law_rope_here"] [none]) rfl (dB (xT (pv 1) az)) (λ_ _ _ _=>by exact (gS 0 aav)) (λ_ _ _ _=>by exact eK) (λ_ _ _ _=>by exact (bG ahs (dY (cX Qw)) (yT K (pv 0) az)))) (ao (sS 5 sA az) (ao (fS (dB (lN zZ (pv 0) (mG az) (mG az))) (gT 6 sA) (ao (IQ (cG (aa5 T) hr T.Vm (aN5 (pv 6) (pv 3) (pv 1) (pv 4) (pv 5))) (abo (n:=2) rfl (G6 (gT 7 sA) (G6 (gT 8 sA) Yi)))) (ao (RX (i:=5) sA.nd rfl (Or.inl rfl) (bS Qz (by rfl) T.acN boot_int (cX (jJ bY PySem.F.slot_str_startswith PySem.F.type_str_startswith Pc (pv 7) (cX bu)))) RY) (ao (sS 9 sA (cM (pv 2) T.Xs T.Na (Wn T) hr (cX (pv 7)))) (bQ (b4 (PW.pt (Uv (kB (mW (cB abU T.S6 boot_isinstance (jD (pv 9) (aea rfl T.zI boot_str (v:=.ty "str") rfl))))) (LQ (qT wC (pv 9) (pv 8))))) oB br)))))) oB)))))),?_⟩
  left
  refine cJ λNx eG=>?_;refine⟨_,rfl,a,cs,rfl,hS,λq a0 b0 c0 ns rs cl X qs H1 s1 hq hA hB hus hC FI o tb r14 c12 hok=>eG _ _ ?_⟩;have G:=ai7 o tb c12 hok;have hS1:=s1.seq hS;refine cJ λNx eG=>?_;refine⟨_,rfl,q,a0,b0,c0,ns,rs,cl,X,qs,rfl,cR.of hq,bC.of hA,bC.of hB,hus,bC.of hC,FI,G,λC O=>?_⟩;refine λdk dx nd ndx ne=>?_;have t3:aC C (upd (upd C dx (.own dk)) dk (.ins t.sC dx [])):=(aC.new ndx).trans (aC.new (by rw[aK (cu ne)];exact nd));refine⟨dk,dx,ns,rs,cl,rfl,aq,G,o,∅,hok,λc p1 ZJ r4 ry H3 N1 T1 Yz kp=>⟨rfl,eG _ _ ?_⟩⟩;have S3:aC H1 (Off H3 c):=O.trans λb v e=>kp b v (t3 b v e) (aJ e nd);refine cJ λNx eG=>?_;have s3:=S3.trans cE;refine⟨_,rfl,q,_,_,_,rfl,rfl,cR.of (s3 _ _ hq),rfl,a0,_,rfl,.inl (bC.of (s3 _ _ hA)),λl1 h1=>?_⟩;have u4:=aC.new (o:=.lst (ns.map V.int)) h1;have hl1:=aq (H:=H3) (a:=l1) (o:=.lst (ns.map V.int));generalize upd H3 l1 (.lst (ns.map V.int))=H4 at u4 hl1;have s4:=s3.trans u4;refine⟨_,rfl,q,_,_,_,rfl,rfl,cR.of (s4 _ _ hq),rfl,b0,_,rfl,.inl (bC.of (s4 _ _ hB)),λB h2=>?_⟩;have u5:=aC.new (o:=.lst (X.map V.ref)) h2;have hl2:=aq (H:=H4) (a:=B) (o:=.lst (X.map V.ref));generalize upd H4 B (.lst (X.map V.ref))=H5 at u5 hl2;have s5:=s4.trans u5;have hl1:=u5 _ _ hl1;refine λRO dt np ndt b5=>?_;have t6:aC H5 (upd (upd H5 dt (.own RO)) RO (.ins t.aP dt [])):=(aC.new ndt).trans (aC.new (by rw[aK (cu b5)];exact np));refine⟨RO,dt,l1,B,ns,rs,rfl,aq,bC.of (t6 _ _ hl1),⟨B,_,rfl,bC.of (t6 _ _ hl2),acu.acv (l:=B) (hus.mono λb x=>(s5.trans t6).cV)⟩,o.n1,o.Lc,o.pos,o.nd,o.LD,o.ok,λS I H6 hln hlr hT2 kp=>⟨rfl,?_⟩⟩;have u6:aC H5 H6:=λb v e=>kp b v (t6 b v e) (aJ e np);have s6:=s5.trans u6;have f3:∀{b},H5 b=none->H3 b=none:=λe=>u4.free (u5.free e);have g1:=f3 np;have g2:=f3 (t6.free hln);have g3:=f3 (t6.free hlr);refine⟨_,rfl,q,_,_,_,rfl,rfl,cR.of (s6 _ _ hq),rfl,c0,_,rfl,.inl (bC.of (s6 _ _ hC)),λl3 h3=>?_⟩;have u7:=aC.new (o:=.lst (qs.map V.ref)) h3;have hl3:=aq (H:=H6) (a:=l3) (o:=.lst (qs.map V.ref));generalize upd H6 l3 (.lst (qs.map V.ref))=H7 at u7 hl3;have s7:=s6.trans u7;have v7:=u4.trans (u5.trans (u6.trans u7));have hT2:=hT2.mono u7;refine λp2 EL npp ndp nep=>?_;have t8:aC H7 (upd (upd H7 EL (.own p2)) p2 (.ins t.cF EL [])):=(aC.new ndp).trans (aC.new (by rw[aK (cu nep)];exact npp));have Lc:=o.Lc;have hw4:∀r∈rs,1<=r.d/\r.d<=4:=λr hr'=>⟨(o.ok r hr').d1,(o.ok r hr').d4⟩;refine⟨p2,EL,RO,S,I,l3,ns,rs,qs,cl,rfl,aq,hT2.mono t8,∅,o.LD,hw4,bC.of (t8 _ _ hl3),FI.mono λb x=>(s7.trans t8).cV,∅,hok,λg R N2 kp fr=>⟨rfl,eG _ _ ?_⟩⟩;have S8:aC H7 (Off R g):=U1 t8 npp kp fr;have N17:=N1.mono v7;have N18:=N17.mono (S8.trans cE);have dj:∀b,c b->¬g b:=λb fb=>by
   obtain⟨o',e⟩:=N17.there fb;exact (cY (S8 b o' e)).1
  have O8:aC (Off H7 c) (EB R c g):=λb v e=>by
   obtain⟨z1,Y⟩:=cY e;obtain⟨N,D⟩:=cY (S8 b v Y);exact iS (λz=>z.elim z1 N) D
  have O38:aC (Off H3 c) (EB R c g):=(iI v7).trans O8;have P8:aC H1 (EB R c g):=S3.trans O38;have alL:=O38 _ _ Yz;have T18:=T1.mono O38;have nF:∀{b},H3 b=none->¬c b:=λe3 z=>by
   obtain⟨o',y⟩:=N1.there z;rw[e3] at y;cases y
  have T28:cy K t.aP (EB R c g) RO S I ns rs:=by
   refine (hT2.mono S8).keep (λb v e z=>?_) (λb x e=>?_)
   ·obtain⟨N,D⟩:=cY e
    refine iS (λy=>y.elim ?_ N) D;rcases z with rfl|rfl|rfl
    ·exact nF g1
    ·exact nF g2
    ·exact nF g3
   ·have nt:∀{u},Off R g b=some u->¬wI u->EB R c g b=some u:=λe z=>by
     obtain⟨N,D⟩:=cY e;exact iS (λy=>y.elim (λy=>z (N18.UZ y D)) N) D
    rcases e with (e|⟨o',e⟩)|e
    ·exact .inl (.inl (nt e λz=>(z x).1 rfl))
    ·exact .inl (.inr ⟨o',nt e λz=>(z x).2 o' rfl⟩)
    ·exact .inr e
  have p8:=P8.trans cE;have hB8:=p8 _ _ hB;have ai9:dU K R X (rs.map R5.vs):=hus.mono λb x=>p8.cV;have eus:X.length=rs.length:=by rw[ai9.len,ah]
  refine cJ λNx eG=>?_;refine⟨_,rfl,q,_,_,_,rfl,rfl,cR.of (p8 _ _ hq),rfl,b0,rfl,⟨_,bC.of hB8⟩,λls hls=>?_⟩;have hq7:=bC.of (K:=K) hB8;refine gG (n:=(X.map V.ref).length) (λi m H9=>∃A:List Addr,m=A.map V.ref/\A.length=i/\A.Nodup/\∀(j:Nat) l r,A[j]?=some l->rs[j]?=some r->H9 l=some (.lst ((bB r.d.toNat true).map V.bl))/\l≠ls/\R l=none) hls (m5 hq7) (g5 hq7) ⟨[],rfl,rfl,iU,λj l r e=>by simp at e⟩ ?_ ?_
  ·rintro i m H9 hi M hy ⟨A,rfl,el,hnd,U⟩ x Z5 ⟨rfl,hx⟩
   have hx:=hx _ (M.seq hq7);have hi':i<X.length:=by rw[ah] at hi;exact hi
   have Bc:rs[i]?=some rs[i]:=aa ∅;have hqi:=ai9.at' i X[i] (rs[i]).vs (aa hi') (by rw[ak,Bc];rfl);rw[ak,aa hi'] at hx;cases hx;have w4:=hw4 _ (aI Bc);refine⟨Ou,λl1 h1=>?_⟩;have mu:=aC.new (o:=.lst [.bl true]) h1;refine⟨_,rfl,X[i],_,_,_,rfl,rfl,(M.trans mu).cV hqi,rfl,l1,rs[i].d,_,rfl,rfl,aq,∅,∅,(by show 1*rs[i].d.toNat<=sizeLine;exact g4 (bX ∅)),λB h2=>?_⟩;rw[TW.ahK];have n7:=mu.trans (aC.new (o:=.lst ((bB rs[i].d.toNat true).map V.bl)) h2);have afA:=aq (H:=upd Z5 l1 (.lst [.bl true])) (a:=B) (o:=.lst ((bB rs[i].d.toNat true).map V.bl));have alM:=n7 _ _ hy;have nl2:B≠ls:=(aJ (mu _ _ hy) h2).symm;have hn9:Z5 B=none:=mu.free h2;have hn8:R B=none:=M.free hn9;generalize upd (upd Z5 l1 (.lst [.bl true])) B (.lst ((bB rs[i].d.toNat true).map V.bl))=H11 at n7 afA alM;refine fH hls hi (M.trans n7) alM (by rw[ah,el];exact bX ∅) ⟨A++[B],by rw[aU];rfl,by rw[aA,el];rfl,?_,λj l' r e1 J=>?_⟩
   ·rw[xA]
    refine⟨hnd,-_,λx hx y hy'=>?_⟩
    have:y=B:=by simpa using hy'
    subst this;obtain⟨j,hj⟩:=iD hx;have hjl:=(ai.mp hj).1;exact aJ (U j x _ hj (aa ∅)).1 hn9
   ·rcases Hj e1 with e1|⟨rfl,rfl⟩
    ·obtain⟨z1,Y⟩:=U j l' r e1 J
     exact⟨by rw[aK Y.1];exact n7 _ _ z1,Y⟩
    ·rw[el,Bc] at J
     cases J;exact⟨by rw[aK nl2];exact afA,nl2,hn8⟩
  rintro m H9 M hy ⟨A,rfl,el,hnd,U⟩;refine eG _ _ ?_;rw[ah] at el;have nF2:∀b,R b=none->¬(c b∨g b):=λb e z=>by
   rcases z with z|z
   ·obtain⟨o',h⟩:=N18.there z
    rw[e] at h;cases h
   ·obtain⟨o',h⟩:=N2.there z
    rw[e] at h;cases h
  have X9:Up (EB H9 c g) ls A (rs.map λr=>bB r.d.toNat true):=by
   refine⟨iS (nF2 ls hls) hy,by rw[ah];lia,hnd,λi l b e1 J=>?_⟩;rw[ak] at J;cases e3:rs[i]? with
   |none=>rw[e3] at J;cases J
   |some r =>
    rw[e3] at J;cases J;exact iS (nF2 l (U i l r e1 e3).2.2) (U i l r e1 e3).1
  have P9:=P8.trans (iI (F:=λb=>c b∨g b) M);have N19:=N18.mono M;have N29:=N2.mono M;have T19:=T18.mono (iI (F:=λb=>c b∨g b) M);have T29:=T28.mono (iI (F:=λb=>c b∨g b) M);have alN:=iI (F:=λb=>c b∨g b) M _ _ alL;refine cJ λNx eG=>?_;refine eG _ _ ?_;obtain⟨m,eys,lys⟩:∃m:List Int,Ez (cs.map V.int) (some 16) (some 56)=m.map V.int/\m.length<=40:=by
   refine⟨(cs.drop (HT.nM cs.length 0 (some 16))).take (HT.nM cs.length cs.length (some 56)-HT.nM cs.length 0 (some 16)),?_,?_⟩
   ·unfold Ez
    rw[ah,List.map_take,List.map_drop]
   ·rw[show (16:Int)=((16:Nat):Int) from rfl,show (56:Int)=((56:Nat):Int) from rfl,HT.R6,HT.R6,bU,rR]
    lia
  refine⟨_,rfl,_,rfl,_,rfl,a,_,rfl,cE.seq (P9.seq hS1),λlq hlq=>?_⟩;rw[eys];have u10:=aC.new (o:=.lst (m.map V.int)) hlq;have aja:=aq (H:=H9) (a:=lq) (o:=.lst (m.map V.int));generalize upd H9 lq (.lst (m.map V.int))=Z5 at u10 aja;have W:=iI (F:=λb=>c b∨g b) u10;have P10:=P9.trans W;have nFq:¬(c lq∨g lq):=λz=>by
   rcases z with z|z
   ·obtain⟨o',h⟩:=N19.there z
    rw[hlq] at h;cases h
   ·obtain⟨o',h⟩:=N29.there z
    rw[hlq] at h;cases h
  have L10:LX K t.aP t.sC (EB Z5 c g) ZJ r4 ry RO S I dk dx p1 q a0 b0 c0 ls lq A qs ns rs (rs.map λr=>bB r.d.toNat true) cl m :=
   ⟨T19.mono W,T29.mono W,W _ _ alN,cR.of (P10 _ _ hq),P10 _ _ hA,P10 _ _ hC,FI.mono λb x=>P10.cV,X9.mono W,iS nFq aja⟩
  have ajb:=N19.mono u10;have ajc:=N29.mono u10;have sk0:=alK (cl:=cl) o tb ∅ hok;have E0':kg (S0 ns rs cl) (S0 ns rs cl):=⟨rfl,λ_=>.refl _,λ_=>iU,λ_=>iU⟩;have l0:(S0 ns rs cl).ls.length=0:=rfl;generalize S0 ns rs cl=s0 at ajb ajc sk0 E0' l0;generalize (rs.map λr=>bB r.d.toNat true)=bs0 at L10 sk0;refine⟨lq,rfl,⟨_,bC.of (cE _ _ L10.cs)⟩,uE (K:=K) (a:=lq) (xs:=m.map V.int) (λj σ C=>∃(s1 O:NS) (c g:Addr->Prop) (Z:List (List Bool)) (p:List (Nat×Nat)) (v6 v7 v8 v9:Option V),cj K (nc t) C c p1 ZJ ns.length s1/\cj K (nc t) C g p2 RO ns.length O/\(∀b,c b->¬g b)/\LX K t.aP t.sC (EB C c g) ZJ r4 ry RO S I dk dx p1 q a0 b0 c0 ls lq A qs ns rs Z cl m/\SK ns rs Z p (5000*j) O/\p.map (·.2)=cl.map (·.2)/\kg O s1/\σ=[some (.ref a),some (.ref q),some (.ref dk),some (.ref p2),some (.ref ls),some (.int (O.ls.length:Nat)),v6,v7,v8,v9])
   ⟨s0,s0,c,g,bs0,cl,_,_,_,_,ajb,ajc,dj,L10,sk0,rfl,E0',by rw[l0];rfl⟩ (λj σ C _ z=>?_) ?_ ?_⟩
  ·obtain⟨s1,O,c,g,Z,p,v6,v7,v8,v9,_,_,_,L,_⟩:=z
   exact bC.of (cE _ _ L.cs)
  rotate_left
  ·rintro σ C ⟨s1,O,c,g,Z,p,v6,v7,v8,v9,_,_,_,_,_,_,_,rfl⟩
   exact k _
  rintro j y σ C hj ⟨s1,O,c,g,Z,p,v6,v7,v8,v9,N1,N2,dj,L,sk,Gz,E,rfl⟩;have hjl:j<m.length:=by
   have:=(ai.mp hj).1
   rw[ah] at this;exact this
  rw[ak,aa hjl] at hj;cases hj;generalize m[j]=cell;have aje:aC (EB C c g) (Off C g):=LF λb z=>.inr z;have ao8:aC (EB C c g) (Off C c):=LF λb z=>.inl z;have nF1:¬c ls/\∀l∈A,¬c l:=⟨λz=>(cY L.sts.at_).1 (.inl z),λl hl z=>by
   obtain⟨i,hi⟩:=iD hl;have hil:=(ai.mp hi).1;rw[L.sts.len] at hil;exact (cY (L.sts.it i l _ hi (aa hil))).1 (.inl z)⟩
  refine⟨_,rfl,_,rfl,_,rfl,_,rfl,_,rfl,g,p2,RO,S,I,q,a0,b0,c0,ls,A,qs,ns,rs,o,Z,p,cl,5000*j,O,cell,rfl,N2,L.t2.mono aje,cE.cV L.tl,bC.of (cE _ _ L.nm),bC.of (cE _ _ L.cl),L.cq.mono λb x=>cE.cV,L.sts.mono aje,tb,sk,∅,Gz,λs x q3 s2' F2' H3 f d N2' kb S' hq3=>?_⟩;obtain⟨N1',dj',kb2⟩:=RT N1 N2 dj kb;have S2:Up (EB H3 c F2') ls A (XW Z s):=by
   refine⟨?_,S'.len,S'.nd,λi l b e1 J=>?_⟩
   ·obtain⟨N,D⟩:=cY S'.at_
    exact iS (λz=>z.elim nF1.1 N) D
   ·obtain⟨N,D⟩:=cY (S'.it i l b e1 J)
    exact iS (λz=>z.elim (nF1.2 l (aI e1)) N) D
  have L':=L.kb kb2 S2;obtain⟨cl3,sk',apa⟩:=sk.aoG tb f d;have eln:=d.ln;refine⟨q3,_,rfl,cR.of hq3,rfl,_,_,rfl,_,_,rfl,rfl,?_⟩;refine⟨_,rfl,_,rfl,rfl,_,_,rfl,rfl,.inr ⟨_,rfl,_,_,rfl,rfl,?_⟩⟩;have W1:NW K (nc t) t.aP H3 c p1 ZJ r4 ry ns rs s1:=(L'.t1.mono (LF λb z=>.inl z)).nw N1' λb z=>z;have Yz:=cE _ _ L'.dk;refine⟨_,rfl,dk,_,_,rfl,Yz,rfl,_,rfl,c,p1,ZJ,r4,ry,dk,dx,ns,rs,o,Z,p,5000*j,s1,s,rfl,Yz,W1,tb,sk.eq2 E,∅,f.eq2 E,λx2 s1' F1' H4 d1 apb EA=>?_⟩;obtain⟨exx,E'⟩:=Lw.eq2 E d d1;subst exx;obtain⟨apc,apd,kb4⟩:=RT N2' N1' (λb z1 Y=>dj' b Y z1) (KB.of (lO EA));have sw:∀{H:Hp} {G1 G2:Addr->Prop},aC (EB H G1 G2) (EB H G2 G1):=λ{H G1 G2}=>LF λb z=>z.symm;have S4:Up (EB H4 F1' F2') ls A (XW Z s):=by
   refine L'.sts.mono λb v e=>?_;obtain⟨z1,Y⟩:=cY e;obtain⟨N,D⟩:=cY (lO EA b v (iS (λz=>z1 (.inl z)) Y));exact iS (λz=>z.elim N λz=>z1 (.inr z)) D
  have L4:=L'.kb (((KB.of sw).trans kb4).trans (KB.of sw)) S4;refine⟨_,rfl,_,_,_,_,rfl,.str _,rfl,⟨_,rfl,dO ?_⟩⟩;refine⟨_,rfl,_,rfl,rfl,_,rfl,rz (by rw[eO rfl];rfl) ?_⟩;refine⟨s1',s2',F1',F2',XW Z s,cl3,some (.int cell),some (.str s.text),some (.str x),some (.str x),apb,apc,λb z1 Y=>apd b Y z1,L4,sk'.mono ∅,apa.trans Gz,E',?_⟩;show [some (V.ref a),some (V.ref q),some (V.ref dk),some (V.ref p2),some (V.ref ls),some (V.int ((O.ls.length:Int)+(if Txt.startswith s.text "post" = true then (1:Int) else 0))),some (V.int cell),some (V.str s.text),some (V.str x),some (V.str x)]=_;rw[Yd,eln,Int.natCast_add]
end
theorem walk{l:PySem.W.OpenLaw}{q:Program}{b:List Str}{XP:(Str->Option Value)->Heap->Prop}{o:World->Heap->Prop}{d:DefRec}{K:Params->af}(C:l.most=some 63)(j:d.params.defaults=[])(m:d.name = "law")
 (B:∀(w:World) (h:Heap),o w h->(K w.params).In h)
 (F:∀(w:World) (i:Str->Option Value) (h:Heap),(K w.params).In h->h.Ns mainGlobals i->∃t,Txt (K w.params) i w t) :
 PySem.W.WalkO q b XP o l.row.toRowW d [] (λf vs=>PySem.call f vs) :=
 L2.ael (n:=63) (k:=12) (x:="_law_script") (CX:=λ_=>fP) (sp:=λw=>ad0 (K w.params)) C (!_) j ⟨rfl,!_,!_⟩ B
  (λw i D h r G c=>by
   obtain⟨t,T⟩:=F w i h r G;rw[m] at c;have e:=c.symm.trans T.acI.g;cases e;refine⟨t.Vf,λs v=>?_,λp _ _=>ai8 T⟩;obtain⟨_,_,_,_,_,_,_,_,_,e,_⟩:=T.acI.F.ex;rw[e];exact .of_eq rfl)
  (λ_ _ a u A _ y=>⟨a,u,rfl,y,A,λ_=>rfl⟩) λ_ _ _ _ _ z=>z
end eX
end
structure PySem.W.Fast:Prop where(tw12543952809176176099 tw5305907476224657463 tw8835757048208874318 tw16384514160254724075 tw15858120611928941454 tw5832602389264013599 tw5407933730971606838 tw12388232755472245152 tw10857210371630557756 tw1631355817652255319 tw637201404463394075 tw890021992770889574 tw2293239367056631364 tw10695085032779777781 tw7397249318590729784 tw14171941690347210198 tw6158610856697897840 tw7682103439229052022 tw14380129826671746159 tw17055303435389059998 tw16068034139666836786 tw9347002235307799507 tw10528833671945567801 tw14586076138182145611 tw9930555781185730127 tw11393578221310873713 tw5107161894685007663 tw4790932085497846973 tw12464151875099634199 tw10756053606165064464 tw10439887096383100934 tw16779517989725685825 tw1050878582670096525 tw16077147442418279345 tw5249363761371831231 tw4309696182048494141 tw5229442042979880097 tw17319527759182539415 tw18152146632430194393 tw17490563345099864573 tw12991099815713469542 tw6773970262785365732 tw9986842047183928447 tw1837344562890958859 tw17809183835822534950 tw14956241352725792387 tw1633404868167423505 tw9371961171526686237 tw4856021654063135358 tw10028660021647561704 tw16272182056303412902 tw17659725923908705405 tw10722379606857142232 tw3597324814334727592 tw9977751065921253608 tw11345164093513285730 tw7088335940902725657 tw3318891594940281459 tw12343891637273208078 tw4453964119694556876 tw3568739676628044422 tw12737636554393861493 tw5731495936039188307 tw17316890360206446465 tw5392376462824688268 tw4417815297980416289 tw9030985262575457775 tw7236476219281024365 tw8796812171849027719 tw17070366559318164610 tw15883779307739705853 tw11884125293881247771 tw17835877870928462973 tw14358773488810444630 tw18044169323683886298 tw9258165641700855656 tw11110502504557666990 tw13580180595745030282 tw10280682833642160800 tw5391086798870394762 tw5101799533137929894 tw13821187114211227859 tw9266866706201354628 tw11083165124686494442 tw3721102135104355240 tw15120987628477517883 tw16310530265594236278 tw1317704954730839308 tw11893530487528467885 tw18404134504594069189 tw1400567089035913770 tw7325763023017604541 tw908586125490119256 tw10291076767886224341 tw1633022098008133749 tw6613921553613574243 tw7954774598521467467 tw12252165087519908903 tw11556813688445536188 tw13159093223965898965 tw3096490235954083001 tw683087022711835806 tw2414961361568442809 tw3116977223121442003 tw5080749049388671106 tw6728555477307581225 tw14383204174288266342 tw14777637234633131202 tw11381619536149440879 tw2766491973417144169 tw1024355698669770338 tw3243130363126743713 tw9612264623151492814 tw12486864805098378000 tw5018985771361478752 tw15565237304743692897 tw8697340204104751540 tw10258466588972315097 tw17279544145467019553 tw8447682556530626068 tw10080916223527870102 tw6138489712424863536 tw14630713908170466749 tw12279446365593673198 tw1817302933233149913 tw10605954016624360243 tw10983757307323320866 tw3167016301979328881 tw15723565631581734202 tw13325103705753460062 tw2888653784265852734 tw8280295831909802385 tw8167327426096910998 tw6931766574059613804 tw1912284931365965190 tw517409654675375304 tw785671489912824945 tw3136874682082029625 tw7478431127706903931 tw7123733039339280122 tw133245224332527856 tw5595515223374576175 tw8174507034327315467 tw150844091308106707 tw3366577645297497646 tw16558980593600402782 tw2394349826300953461 tw18438418046248911918 tw9010830942784309479 tw14565161225600931874 tw9324958411923159369 tw8482284083961726442 tw6857083657987412512 tw5769519972043943323 tw8978692458907261428 tw1352493319125973556 tw3819617647814161597 tw17308463226432511516 tw17422126609875739272 tw16644034321492071134 tw66689809255793117 tw18433214982394182142 tw11970489376957784461 tw17290396348252432926 tw6252604972086436825 tw355955925615301422 tw15869228356530765514 tw10942009926827142119 tw1718548121026329081 tw4965311840344888666 tw15970104859832442097 tw1173608249900182342 tw9279264340167759443 tw343148871822409408 tw15079810509254721303 tw10262738261907826825 tw4979651653186696264 tw12431930661430038990 tw13896385080809818266 tw13550755285746993353 tw16627571478515807812 tw5078345709894021080 tw7147932920108358396 tw9470471660483340744 tw16357645494960641762 tw3114880333295119565 tw16585639830540885665 tw17024275171954222024 tw1221434150576469539 tw4302852355327150168 tw17115791496201513239 tw696714360133689987 tw2608959625773302743 tw8097585606604732930 tw11985723534210052441 tw13878102111531217691 tw6143531874697818810 tw1693843287389718690 tw7814963169443157963 tw14287188882593217070 tw11439717951903082215 tw16233908084182766567 tw9672092056700220650 tw15425531076852819645 tw12786953593488081351 tw12744134464681575984 tw11449329850337176613 tw7120421826351926848 tw4925160835622384057 tw6947960213556788056 tw18289217202964892447 tw11525966994625228977 tw5915681714473594741 tw2274078448202492475 tw10645072555096623926 tw14300251764588338054 tw13554641804876091215 tw11111121870490657809 tw11874874316880711788 tw1305448127857183097 tw16139660639394195537 tw16127499066334351092 tw8139399935364487249 tw7831760176702740299 tw14098792572419036483 tw3230333369210267637 tw6644931215710948980 tw11206547944907304205 tw17079075350336104696 tw5330833455260706398 tw15141625686506321191 tw13740667626754168935 tw5854464571812812359 tw2614048904405745602 tw6011402208906678482 tw14374174440860084756 tw6281665378370040126 tw6343858562790830328 tw8214196223484906577 tw3600534450113049393 tw8223141254631148067 tw13989504338270487481 tw754296272717300160 tw1552279539936492108 tw7535566509416632607 tw5653326795290436799 tw8329815265076084113 tw17292129320483891866 tw6150843716158533771 tw12388384669613829525 tw8783265673405880144 tw12589971606159187218 tw13048925418713812132 tw10144052024379183487 tw1069525465522618052 tw13663161063050920780 tw14853093979314502250 tw5550575669881409522 tw3809404812447342151 tw14247875074609361685 tw116365169393191991 tw3076140165022869627 tw16167936841949339609 tw9045625642193744063 tw18385646897679275607 tw14362993582042800234 tw14607669407958339520 tw7135365355128202520 tw17754216341022429196 tw17503685499319598591 tw16923366604123940623 tw13670408420321429099 tw17502738510620212944 tw17096381165123658598 tw10628477093682477178 tw18093681677294582016 tw12568668114089600306 tw8907800837075451402 tw581124142696335814 tw4406993975609331514 tw10050478717295554766 tw13885382988615256587 tw7655106281229639097 tw9417572678723641219 tw11153874472872108358 tw11667371651854133383 tw11265118109117820166 tw6324022096125972701 tw15096371102508004316 tw3432263056608960076 tw16723836117933752174 tw5608222805413359251 tw17397651840082285705 tw9735159592554950950 tw1934403430511096885 tw10748156526620354330 tw11678189424455243583 tw11178667683530018976 tw7622812635200653199 tw11149660589729968167 tw16715051579965680636 tw4830475384634335142 tw3706249017240620933 tw7994102251395531698 tw6104591839270767815 tw4787123963658697560 tw18384147633777488173 tw10528471554018772026 tw1927672169424782978 tw5784100581931034360 tw4267934363796983593 tw1036598534575814840 tw752142376901929078 tw16608432546543968644 tw11903994829071831618 tw992967714036795439 tw5526104080027230646 tw3936074066045865846 tw14853357310403082267 tw11356660215848731704 tw18010683336886091068 tw5894646245450414027 tw3035989584835775901 tw17153440096560699835 tw5541406188889576559 tw17781667790807000278 tw8094089729705954844 tw10686823860282626558 tw11191590899764502327 tw17039432331587775316 tw13867309643223639022 tw13765316002907782061 tw14995245751724343993 tw8945175390795649589 tw5006543515733096983 tw18207361754627131303 tw12254813847598048131 tw5224122702818945162 tw3804952951973104365 tw8516924645846484948 tw12561323045461655670 tw18246138867462658400 tw17308105776862778696 tw3129522868696003675 tw14880192978288604930 tw14479951489156029886 tw256380335610192346 tw18338418031770481513 tw13282991675276358918 tw13045606608419058840 tw639614708276405325 tw6244045651304511196 tw13014696945757203906 tw10628003874260776996 tw16114066471095529218 tw15573858199876714052 tw11269453083618216303 tw9401483922542756424 tw908024931499607297 tw14064141617299443146 tw12369283041872752194 tw9190034323135254063 tw16365420730924622041 tw15362369351014095569 tw13217687399280898824 tw12393068206829565691 tw1224386909147641020 tw3479904756603601270 tw13515461756100780380 tw4255236448755779300 tw17021929691463255601 tw1364865837155295318 tw17370773593771838840 tw6460030177954780887 tw18314440253031755256 tw9014336166380680916 tw9461000194483983308 tw4730325520848320824 tw3580918385295512884 tw7000439908176765277 tw11515532523004991215 tw7998968478471601942 tw2937628213277460748 tw13064393197495659358 tw8507430766433383294 tw10408496834889932532 tw5949541582496264961 tw18430867708860473954 tw1741477204977793617 tw1411439786032829467 tw132864789338502148 tw11169301237815523752 tw5290638759942374975 tw4858389346096773536 tw3533605279550926215 tw17391237525527846416 tw10758013390448678448 tw16479046273759570523 tw1224258427955878761 tw6649757091626525771 tw15427244021200424143 tw14669781160017500208 tw3067760772501282483 tw11886301292161367393 tw3504928605442010169 tw2628526943984586055 tw13629245707995486146 tw13598546619016046053 tw14031534794956597109 tw12551525763344280242 tw16965806852064942304 tw5401639077994814739 tw4377673383195641207 tw4306094228855287650 tw554865492925878499 tw3779772580776001377 tw17920203875629747436 tw8368956811115907207 tw1829062302811916684 tw9055842239996161032 tw8383811993212584104 tw7818482040112686762 tw7502434991475902429 tw16182700505077469398 tw15311434486853848483 tw10706974101839897217 tw10929129510851590427 tw9974421851497569195 tw8325817229485916188 tw7764797846475100391 tw763633614702623320 tw7584766563637686741 tw6632049178421883265 tw6541007400821451864 tw521189358614051458 tw5038663804820752038 tw304556596615080977 tw2785695013213082288 tw2603132249596325913 tw18380101822212429933 tw18312449676320748985 tw17489014086948089196 tw16170084554343804534 tw14786133642900286407 tw14582288980415938424 tw14263819488873090992 tw14103000019475638500 tw13835867149721131229 tw13636530247688572230 tw13492930556759968096 tw12134530333266732420 tw10441831368280771883 tw9833711058617827431 tw4027853214696491932 tw16322880780866081910 tw7391829416511545299 tw6520958404570538428 tw481686515117622838 tw13746022979721429903 tw13230164044463024446 tw8638594555524925252 tw578762827635034388 tw1521563258013437173 tw13742659197726487095 tw8061787223785110899 tw3698575423177424195:True)
open PySem PySem.W PyProof.Rows
set_option maxRecDepth 100000 in
set_option maxHeartbeats 0 in
theorem PySem.Challenge.cw_knotless_k39_desk_answers_holds : PySem.Challenge.rw_knotless_k39_desk_answers.Holds := by
 w_on;o_law;k_head;(case hw=>w_witness2)
 k_fill
 refine eX.walk (l:=PySem.Challenge.rw_knotless_k39_desk_answers) rfl rfl rfl (fun w h Y=>PySem.W.kIn_of Y) ?F
 case F =>
  intro w mg h KX G
  refine' eX.ah6 KX G ?JH ?Nt ?Nu ?JI ?Te ?GA ?Tf ?Xu ?Tg ?ym ?AL ?AM ?yo ?JJ ?GB ?sG ?vC ?vD ?sH ?vE ?yp ?yq ?vF ?yr ?JK ?Th ?acO ?JL ?acP ?Ti ?JM ?Tj ?yt ?Dg ?Dh ?sI ?vG ?Di ?yu ?yv ?AN ?Dj ?qd ?vH ?yw ?nj ?nv ?vI ?GC ?yx ?sJ ?AO ?GD ?GF ?Dk ?yy ?AQ ?GG ?GH ?JN ?JO ?GI ?GJ ?GK ?GL ?GN ?AR ?Dl ?AS ?yz ?yC ?yD ?yE ?qY ?vJ ?Dm ?yF ?sL ?qe ?GO ?o8 ?sM ?jf ?pe ?ny ?qh ?AU ?sN ?yG ?vK ?Dn ?AV ?JP ?Nv ?yH ?vL ?yI ?AW ?yJ ?yK ?AX ?yM ?yN ?yO ?AY ?sO ?AZ ?vM ?yP ?GP ?yQ ?Dp ?Ny ?Nz ?NB ?JQ ?ND ?NF ?NH ?NI ?Tn ?JR ?Dq ?NJ ?acQ ?Dr ?qi ?A0 ?HV ?sP ?Dt ?HW ?sQ ?Du ?Dv ?qj ?sR ?yR ?pq ?sU ?NK ?lI ?lJ ?A1 ?A2 ?zJ ?sV ?nA ?NL ?A3 ?Vt ?Dw ?vN ?kQ ?A4 ?A5 ?yS ?yU ?vO ?yV ?NN ?Dy ?vP ?sW ?vQ ?sX ?NO ?qk ?qm ?qo ?JS ?JT ?GQ ?GR ?yW ?A6 ?A7 ?A8 ?vR ?A9 ?Ba ?JU ?vS ?vU ?qp ?JV ?JW ?To ?NP ?Tp ?Xv ?Tq ?Tr ?Xw ?Tt ?Tu ?Tv ?Xx ?JX ?Xy ?NQ ?acR ?Bb ?acS ?Xz ?Tw ?Tz ?Dz ?acT ?acU ?acV ?acW ?NR
  case JH|Nt|Nu|JI|Te|GA|Tf|Xu|Tg | GJ|GK|GL|GN|AR|Dl | yz|yC|yD|yE|qY|vJ | qi|A0 | sP|Dt | sQ|Du | qj|sR|yR|pq|sU | lI|lJ|A1|A2 | sV|nA | A3 | Dw|vN|kQ|A4|A5|yS|yU|vO|yV | Dy|vP|sW|vQ|sX|NO|qk|qm|qo|JS | GQ | yW|A6|A7|A8|vR|A9|Ba|JU|vS|vU|qp|JV | acR|Bb|acS|Xz|Tw|Tz|Dz|acT|acU|acV|acW|NR=>k_is
  case ym|AL|AM|yo | sG|vC|vD|sH|vE|yp|yq|vF|yr | yt|Dg|Dh|sI|vG|Di | qd|vH|yw|nj|nv|vI | sJ|AO|GD|GF|Dk|yy|AQ|GG|GH|JN|JO|GI | AS | Dm|yF|sL|qe|GO|o8|sM|jf|pe|ny|qh | yP|GP=>exact L2.E1 (by k_is) (by k_is) (by k_is) (by k_is) (by k_is)
  case JJ|GB | JK|Th|acO|JL|acP|Ti|JM|Tj | yu|yv|AN|Dj | GC|yx | AU|sN|yG|vK|Dn|AV|JP|Nv|yH|vL|yI|AW|yJ|yK|AX|yM|yN|yO|AY|sO|AZ|vM | yQ|Dp|Ny|Nz|NB|JQ|ND|NF|NH|NI|Tn|JR|Dq|NJ|acQ=>exact L2.Z3 KX G (by k_is) (by k_is) (by k_is) (by k_is)
  case Dr | HV | HW | Dv | NK | zJ | NL | Vt | NN=>exact L2.t7 (by k_is) (by k_is) (by k_is) (by k_is) (by k_is) (by k_is)
  case JT | GR=>exact⟨by k_exc,by k_is,by k_is,by k_is,by k_is,by k_is,by k_is,by k_is,by k_is⟩
  case JW=>refine' L2.ahU ?l1 ?l2 ?l3 ?l4;(case l1=>k_is);(case l2=>decide);(case l3=>exact (.cons rfl rfl (.cons rfl rfl (.cons rfl rfl (.cons rfl rfl (.cons rfl rfl (.cons rfl rfl (.cons rfl rfl (.cons rfl rfl (.cons rfl rfl (.cons rfl rfl (.cons rfl rfl (.cons rfl rfl (.cons rfl rfl (.cons rfl rfl .nil)))))))))))))));(case l4=>decide +kernel)
  case To|NP|Tp|Xv|Tq|Tr|Xw|Tt|Tu|Tv|Xx|JX|Xy|NQ=>exact L2.twE (by k_is)
#print axioms PySem.Challenge.cw_knotless_k39_desk_answers_holds
