import PyProof.Rows.All
import Wide.All
import OpenK.AllK
import Wide.FinOn
import Lean
import PyProof.EqAt
import PyProof.EqKinds
import PyProof.TupleCall
import PySem.Challenge.RW_knotless_k35_wires_of_a_rope
set_option Elab.async false
noncomputable section
universe u v
section
local macro_rules|`(∅)=>`(by lia)
local macro_rules|`(!_)=>`(by decide)
local macro_rules|`(-_)=>`(by simp)
theorem Uz:1<=PySem.sizeLine:=!_
theorem fy:2<=PySem.sizeLine:=!_
theorem iT:3<=PySem.sizeLine:=!_
theorem Te:4<=PySem.sizeLine:=!_
theorem aat:5<=PySem.sizeLine:=!_
theorem aaw:6<=PySem.sizeLine:=!_
def b3:=@if_pos.{u}
def b5:=@if_neg.{u}
def eH:=@decide_eq_true
def eL:=@decide_eq_false
def ff:=@of_decide_eq_true
def ee:=@absurd.{v}
def e8:=@congrArg.{u,v}
open List renaming getElem?_eq_getElem -> aa, length_map -> ah, getElem?_eq_some_iff -> ai, getElem?_map -> aj, getD_eq_getElem?_getD -> aq, range -> au, length_append -> az, getElem_mem -> aK, size_toArray -> aL, map_append -> aO, mem_map -> aS, length_filter_le -> aT, mem_of_getElem? -> aU, length_range -> aX, mem_cons_of_mem -> aZ, mem_singleton -> bf, length_cons -> bq, mem_cons -> bx, mem_append -> bz, length_set -> bA, replicate -> bB, getElem?_append_left -> bI, getElem?_append_right -> bL, map_cons -> bT, mem_filter -> bU, length_take -> bY, map_map -> cz, mem_cons_self -> cE, map_congr_left -> cF, getElem?_set -> cO, mem_append_right -> cR, append_nil -> cS, mem_range -> cT, filter_cons -> dg, filterMap_cons -> dP, filter_append -> eN, take_of_length_le -> eO, lookup_cons -> fc, append_assoc -> fz, take_succ_eq_append_getElem -> fX, getElem?_range -> gh, range_succ -> gz, replicate_succ -> iJ, drop_of_length_le -> iV, getElem?_eq_none -> jj, nodup_append -> jM, reverse_append -> kJ, take_length -> kQ, nodup_nil -> lG, nodup_cons -> mW, getElem?_concat_length -> mX, foldl_cons -> mY, mem_append_left -> oJ, getElem?_of_mem -> oK, pairwise_iff_getElem -> p5, mem_or_eq_of_mem_set -> p6, extract_eq_drop_take -> p7, drop_eq_getElem_cons -> p8, length_drop -> qD, map_id -> qG, lookup -> qH, pairwise_cons -> sI, length_eq_zero_iff -> sJ, find?_cons -> sL, filter_cons_of_pos -> sM, filter_cons_of_neg -> sN, pairwise_map -> vz, flatten_cons -> vA, take_append_drop -> wL, ext_getElem -> xR, any_eq_true -> xS
open PySem.W renaming Frag -> af, findIn -> aG, nsIn -> bF, mg_none_of -> cQ, mg_of -> cX, kia_one -> dN, keepIn -> dU, fnOf -> eK, emptyDict -> gf, codeIn -> jz, instObj -> jK, hasDictIn -> vq, plainGet -> xP
open Nat renaming le_refl -> ay, le_trans -> aJ, ne_of_lt -> bD, zero_le -> bE, lt_of_lt_of_le -> bG, lt_of_le_of_lt -> bH, add_le_add_left -> bW, le_succ -> dO, min_le_left -> eU, sub_self -> iF, lt_irrefl -> jh, le_of_lt -> ji, le_succ_of_le -> jL, add_le_add_right -> oH, le_add_right -> xQ
open Bool renaming false_ne_true -> aC, and_eq_true -> dh, eq_iff_iff -> iK
open Option renaming some_ne_none -> aM
open Option.some renaming inj -> aN
open Array renaming length_toList -> aP, getElem_mem -> bO, toList_append -> cU, getElem_extract -> gA, getElem?_toList -> gB, mem_toList_iff -> ir, getElem?_eq_some_iff -> iZ, size_extract -> mO, toList_push -> vB
open PySem.F renaming plainAttrs_list -> bJ, type_list_append -> bM, slot_list_append -> bN
open Ne renaming symm -> bP
open Int renaming emod_nonneg -> bQ, emod_lt_of_pos -> bV, zero_add -> fB, toNat_natCast -> gi, le_refl -> jA, toNat -> mZ, le_trans -> rL
open Sum renaming inl -> gy
open ForInStep renaming yield -> jN
open False renaming elim -> jO
open True renaming intro -> lF
open PySem renaming mem_of_lookup -> qF
open PyProof.Rows renaming slot_tuple_getitem -> vt
set_option linter.all false
set_option maxRecDepth 100000
namespace L2
open PySem PySem.Spec PyProof.Rows
abbrev Key:=Sum Int Str
noncomputable def Kh:Key->Value->Bool
 |.inl k,v=>Value.isInt k v
 |.inr x,v=>Value.isStrOf x v
noncomputable def agW(w:World):Key->Int
 |.inl k=>hashInt k
 |.inr x=>hashStr w x
theorem iu:∀{k:Key} {v:Value},Kh k v=true->(∃i t,k=gy i/\v=Value.int i t)∨(∃x t,k=Sum.inr x/\v=Value.str x t)
 |.inl i,v,h=>by
  obtain⟨t,e⟩:=Value.isInt_shape (k:=i) (v:=v) h;exact .inl ⟨i,t,rfl,e⟩
 |.inr x,v,h=>by
  obtain⟨t,e⟩:=Value.isStrOf_shape (x:=x) (v:=v) h;exact .inr ⟨x,t,rfl,e⟩
theorem SJ(i:Int)(t:Tok):Kh (.inl i) (.int i t)=true:=by simp[Kh,Value.isInt]
theorem SK(x:Str)(t:Tok):Kh (.inr x) (.str x t)=true:=by simp[Kh,Value.isStrOf]
theorem aaH(a b:Int):decide ((gy a:Key)=gy b)=(a==b):=by
 by_cases e:a=b
 ·subst e;simp
 ·have h:¬(gy a:Key)=gy b:=λq=>e (Sum.inl.inj q)
  rw[eL h];exact (beq_eq_false_iff_ne.mpr e).symm
theorem aaI(a b:Str):decide ((Sum.inr a:Key)=Sum.inr b)=decide (a=b):=by
 by_cases e:a=b
 ·subst e;simp
 ·have h:¬(Sum.inr a:Key)=Sum.inr b:=λq=>e (Sum.inr.inj q)
  rw[eL h,eL e]
theorem aaJ(a:Int)(b:Str):decide ((gy a:Key)=Sum.inr b)=false:=eL (λq=>nomatch q)
theorem aaK(a:Str)(b:Int):decide ((Sum.inr a:Key)=gy b)=false:=eL (λq=>nomatch q)
noncomputable def iw(prog:Program)(w:World):PySem.KeyKind prog w Key where
 is:=Kh
 hash:=agW w
 inj:=λv a b ha hb=>by
  rcases iu ha with ⟨i,t,rfl,rfl⟩|⟨x,t,rfl,rfl⟩
  ·rcases iu hb with ⟨j,u,rfl,e⟩|⟨y,u,rfl,e⟩
   ·injection e with e1 _;rw[e1]
   ·exact nomatch e
  ·rcases iu hb with ⟨j,u,rfl,e⟩|⟨y,u,rfl,e⟩
   ·exact nomatch e
   ·injection e with e1 _;rw[e1]
 byValue:=λk v h=>by
  rcases iu h with ⟨i,t,rfl,rfl⟩|⟨x,t,rfl,rfl⟩ <;> rfl
 pyHash:=λhv h=>by
  rcases iu hv with ⟨i,t,rfl,rfl⟩|⟨x,t,rfl,rfl⟩
  ·exact wpAny_pyHash_int h
  ·exact wpAny_pyHash_str h
 eqBool:=λhu hv h=>by
  rcases iu hu with ⟨i,t,rfl,rfl⟩|⟨x,t,rfl,rfl⟩
  ·rcases iu hv with ⟨j,u,rfl,rfl⟩|⟨y,u,rfl,rfl⟩
   ·rw[aaH] at h;exact wpAny_eqBool_int h
   ·rw[aaJ] at h;exact SeqAt.EqAt.int_str i t y u _ _ _ _ h
  ·rcases iu hv with ⟨j,u,rfl,rfl⟩|⟨y,u,rfl,rfl⟩
   ·rw[aaK] at h;exact SeqAt.EqAt.str_int x t j u _ _ _ _ h
   ·rw[aaI] at h;exact wpAny_eqBool_str h
 «strs»:=λk x t v h=>by
  rcases iu h with ⟨i,u,rfl,e⟩|⟨y,u,rfl,e⟩
  ·exact nomatch e
  ·injection e with e1 _
   subst e1;cases v <;> rfl
theorem MZ(prog:Program)(w:World)(i:Int)(t:Tok):(iw prog w).is (.inl i) (.int i t)=true:=SJ i t
theorem M0(prog:Program)(w:World)(x:Str)(t:Tok):(iw prog w).is (.inr x) (.str x t)=true:=SK x t
inductive V where
 |fE|bl (b:Bool)|int (i:Int)|str (x:Str)|Rb (b:Array UInt8)|g7 (b:UInt64)|ref (a:Addr)|ty (n:String)
 deriving DecidableEq
def RelV:V->Value->Prop
 |.fE,u=>u=Value.none
 |.bl b,u=>u=Value.bool b
 |.int i,u=>∃t,u=Value.int i t
 |.str x,u=>∃t,u=Value.str x t
 |.Rb b,u=>∃t,u=Value.bytes b t
 |.g7 b,u=>∃t,u=Value.float b t
 |.ref a,u=>u=Value.ref a
 |.ty n,u=>u=Value.type n
abbrev bX:List V->List Value->Prop:=Paired RelV
theorem bX.length{xs:List V}{us:List Value}(r:bX xs us):xs.length=us.length:=Paired.length r
theorem bX.get:∀{xs:List V} {us:List Value} {i:Nat} {x:V},bX xs us->xs[i]?=some x->∃u,us[i]?=some u/\RelV x u
 |_,_,_,_,.nil,e=>by simp at e
 |_,_,0,_,.cons r _,e=>by simp at e;subst e;exact⟨_,rfl,r⟩
 |_,_,i+1,x,.cons _ t,e=>by
  obtain⟨u,b,a⟩:=bX.get (i:=i) (x:=x) t (by simpa using e);exact⟨u,by simpa using b,a⟩
theorem bX.set{x:V}{u:Value}(r:RelV x u):∀{xs:List V} {us:List Value} (i:Nat),bX xs us->bX (xs.set i x) (us.set i u)
 |_,_,_,.nil=>.nil
 |_,_,0,.cons _ t=>.cons r t
 |_,_,i+1,.cons q t=>.cons q (bX.set r i t)
theorem bX.append:∀{xs a:List V} {us ws:List Value},bX xs us->bX a ws->bX (xs++a) (us++ws)
 |_,_,_,_,.nil,s=>s
 |_,_,_,_,.cons r t,s=>.cons r (bX.append t s)
theorem bX.take:∀{xs:List V} {us:List Value} (n:Nat),bX xs us->bX (xs.take n) (us.take n)
 |_,_,0,_=>.nil
 |_,_,_+1,.nil=>.nil
 |_,_,n+1,.cons r t=>.cons r (bX.take n t)
theorem bX.drop:∀{xs:List V} {us:List Value} (n:Nat),bX xs us->bX (xs.drop n) (us.drop n)
 |_,_,0,r=>r
 |_,_,_+1,.nil=>.nil
 |_,_,n+1,.cons _ t=>bX.drop n t
def BC:Option V->Option Value->Prop
 |some v,some u=>RelV v u
 |none,none=>True
 |_,_=>False
def KV{κ:Type}:List (κ×V)->List (κ×Value)->Prop:=Paired λ(p:κ×V) (q:κ×Value)=>p.1=q.1/\RelV p.2 q.2
noncomputable def kV:Key->V
 |.inl i=>.int i
 |.inr x=>.str x
inductive HO where
 |lst (xs:List V)
 |tup (xs:List V)
 |dK (kvs:List (Key×V))|dT (kvs:List (List Key×V))
 |set (S:Int->Bool) (n:Nat)
 |ins (C dx:Addr) (fs:List (Str×V))
 |own (x:Addr)
 |xd (fs:List (Str×V))
 |met (f x:Addr)
 |US (lo hi:Int)
 |Be (o:Obj) (u:HO)
 |ZH (ps:Array Value)
 |ext (φ:Heap->Prop)
abbrev Hp:=Addr->Option HO
noncomputable def upd(H:Hp)(a:Addr)(o:HO):Hp:=λb=>if b=a then some o else H b
theorem av{H:Hp}{a:Addr}{o:HO}:upd H a o a=some o:=by unfold upd;rw[b3 rfl]
theorem aF{H:Hp}{a b:Addr}{o:HO}(h:b≠a):upd H a o b=H b:=by unfold upd;rw[b5 h]
theorem Lr{H:Hp}{a:Addr}{o u:HO}:upd (upd H a o) a u=upd H a u:=by
 funext b;unfold upd;split <;> rfl
theorem m5{H:Hp}{a b:Addr}{o u:HO}(h:H a=some o)(h':H b=some u)(d:o≠u):a≠b:=by
 intro e;subst e;rw[h] at h';exact d (aN h')
theorem aH{H:Hp}{a b:Addr}{o:HO}(h:H a=some o)(h':H b=none):a≠b:=by
 intro e;subst e;rw[h] at h';cases h'
section
variable(P:Program)(w:World)
def fM(H:Hp)(h:Heap)(a:Addr):HO->Prop
 |.lst xs=>xs.length<=sizeLine/\∃(its:List Value) (n:Nat),bX xs its/\h.get? a=some {cls:=.type "list",data:=.seq its.toArray n}
 |.tup xs=>xs.length<=sizeLine/\∃its:List Value,bX xs its/\IsTup h a its.toArray
 |.dK kvs=>kvs.length<=sizeLine/\(a==sysModules)=false/\∃vs,KV kvs vs/\h.DictOf (iw P w) a vs
 |.dT kvs=>kvs.length<=sizeLine/\(a==sysModules)=false/\∃xs:List (List Key×Addr×Value),
  Paired (λ(p:List Key×V) (q:List Key×Addr×Value)=>p.1=q.1/\H q.2.1=some (.tup (p.1.map kV))/\RelV p.2 q.2.2) kvs xs /\
  ∃o es ep,h.get? a=some o/\o.ExactDict/\o.data=.dict es ep/\es.toList=xs.map (entryOfKey (tupleKind (iw P w)))/\(xs.map (·.1)).Nodup
 |.set S n=>h.SetOf (intKind P w) a S n
 |.ins C dx fs=>H dx=some (.own a)/\fs.length<=1000/\dx≠a/\h.get? a=some (jK C dx) /\
  ∃mA,h.Ns1 dx mA/\(∀f,BC (fs.lookup f) (mA f))/\PySem.Within mA (fs.map (·.1))
 |.own _=>∃o,h.get? a=some o
 |.xd fs=>∃mA,h.Ns1 a mA/\∀f,BC (fs.lookup f) (mA f)
 |.US lo hi=>∃t u v,h.get? a=some {cls:=.type "range",data:=.fields #[.int lo t,.int hi u,.int 1 v]}
 |.Be o u=>h.get? a=some o/\fM H h a u
 |.ZH ps=>h.get? a=some {cls:=.none,data:=.fields ps}
 |.met f x=>h.get? a=some (PySem.W.methodObj (.ref f) (.ref x))
 |.ext φ=>φ h/\(∃o,h.get? a=some o)/\∀h1 h2:Heap,φ h1->(∀o,h1.get? a=some o->h2.get? a=some o)->φ h2
def zI(H:Hp)(h:Heap):Prop:=∀a o,H a=some o->fM P w H h a o
end
section
variable{P:Program}{w:World}{H H':Hp}{h h':Heap}{a:Addr}{o:HO}
theorem fM.lt(x:fM P w H h a o):a<h.objs.size:=by
 cases o with
 |lst c=>obtain⟨_,_,_,_,e⟩:=x;exact Heap.lt_size e
 |tup c=>obtain⟨_,_,_,p⟩:=x;exact p.lt
 |dK b=>obtain⟨_,_,_,_,o,_,_,e,_⟩:=x;exact Heap.lt_size e
 |dT b=>obtain⟨_,_,_,_,o,_,_,e,_⟩:=x;exact Heap.lt_size e
 |set S n=>obtain⟨o,_,_,_,e,_⟩:=x;exact Heap.lt_size e
 |ins C l d=>obtain⟨_,_,_,e,_⟩:=x;exact Heap.lt_size e
 |own y=>obtain⟨_,e⟩:=x;exact Heap.lt_size e
 |xd d=>obtain⟨_,⟨_,_,_,e,_⟩,_⟩:=x;exact Heap.lt_size e
 |US lo i=>obtain⟨_,_,_,e⟩:=x;exact Heap.lt_size e
 |Be g u=>obtain⟨e,_⟩:=x;exact Heap.lt_size e
 |ZH j=>exact Heap.lt_size (show h.get? a=some _ from x)
 |met f y=>exact Heap.lt_size (show h.get? a=some _ from x)
 |ext k=>obtain⟨_,⟨_,e⟩,_⟩:=x;exact Heap.lt_size e
theorem Paired.XI{α β:Type}{F G:α->β->Prop}:∀{l₁:List α} {l₂:List β},Paired F l₁ l₂->(∀a b,F a b->G a b)->Paired G l₁ l₂
 |_,_,.nil,_=>.nil
 |_,_,.cons r t,f=>.cons (f _ _ r) (Paired.XI t f)
theorem fM.stay(x:fM P w H h a o)(k:∀b u,(b=a∨H b=some (.own a))->h.get? b=some u->h'.get? b=some u)
 (F:∀b,H b=some (.own a)->H' b=some (.own a)) (G:∀b xs,H b=some (.tup xs)->H' b=some (.tup xs)):fM P w H' h' a o:=by
 induction o with
 |lst xs=>obtain⟨z,l,n,r,e⟩:=x;exact⟨z,l,n,r,k _ _ (.inl rfl) e⟩
 |tup xs=>obtain⟨z,l,r,g,e,c⟩:=x;exact⟨z,l,r,g,k _ _ (.inl rfl) e,c⟩
 |dK m=>obtain⟨z,y,J,r,g,i,j,e,c⟩:=x;exact⟨z,y,J,r,g,i,j,k _ _ (.inl rfl) e,c⟩
 |dT m =>
  obtain⟨z,y,xs,r,g,i,j,e,c⟩:=x;exact⟨z,y,xs,Paired.XI r λp q z=>⟨z.1,G _ _ z.2.1,z.2.2⟩,g,i,j,k _ _ (.inl rfl) e,c⟩
 |set S n=>obtain⟨g,i,j,t,e,c⟩:=x;exact⟨g,i,j,t,k _ _ (.inl rfl) e,c⟩
 |ins C N D =>
  obtain⟨d,z,I,e,s,⟨A,i,j,E,c⟩,r⟩:=x;exact⟨F _ d,z,I,k _ _ (.inl rfl) e,s,⟨A,i,j,k _ _ (.inr d) E,c⟩,r⟩
 |own y=>obtain⟨g,e⟩:=x;exact⟨g,k _ _ (.inl rfl) e⟩
 |xd D=>obtain⟨s,⟨A,i,j,e,c⟩,r⟩:=x;exact⟨s,⟨A,i,j,k _ _ (.inl rfl) e,c⟩,r⟩
 |US lo L=>obtain⟨t,u,v,e⟩:=x;exact⟨t,u,v,k _ _ (.inl rfl) e⟩
 |Be g u K=>obtain⟨e,q⟩:=x;exact⟨k _ _ (.inl rfl) e,K q⟩
 |ZH B =>
  have e:h.get? a=some {cls:=.none,data:=.fields B}:=x;show h'.get? a=some {cls:=.none,data:=.fields B};exact k a _ (.inl rfl) e
 |met f y =>
  have e:h.get? a=some (PySem.W.methodObj (.ref f) (.ref y)):=x;show h'.get? a=some (PySem.W.methodObj (.ref f) (.ref y));exact k a _ (.inl rfl) e
 |ext M=>obtain⟨p,⟨o,e⟩,st⟩:=x;exact⟨st _ _ p λo q=>k _ _ (.inl rfl) q,⟨o,k _ _ (.inl rfl) e⟩,st⟩
theorem zI.lt(x:zI P w H h)(e:H a=some o):a<h.objs.size:=(x a o e).lt
theorem zI.fresh(x:zI P w H h)(e:h.objs.size<=a):H a=none:=by
 cases q:H a with
 |none=>rfl
 |some u=>exact ee (bG (x.lt q) e) (jh _)
theorem zI.kept(x:zI P w H h)(k:∀b u,h.get? b=some u->h'.get? b=some u):zI P w H h':=λa o e =>
 (x a o e).stay (λb u _ q=>k b u q) (λ_ q=>q) λ_ _ q=>q
theorem zI.laid(x:zI P w H h)(k:∀b u,h.get? b=some u->h'.get? b=some u)(i:h.objs.size<=a)(d:fM P w (upd H a o) h' a o):zI P w (upd H a o) h':=λb u e=>by
 have g:=x.fresh i;by_cases f:b=a
 ·subst f;rw[av] at e;cases e;exact d
 ·rw[aF f] at e
  exact (x b u e).stay (λc v _ q=>k c v q) (λc q=>by rw[aF (aH q g)];exact q) λc j q=>by rw[aF (aH q g)];exact q
end
def Rd(H:Hp)(a:Addr)(u:HO):Prop:=H a=some u∨∃o,H a=some (.Be o u)
theorem Rd.ok{P:Program}{w:World}{H:Hp}{h:Heap}{a:Addr}{u:HO}(r:Rd H a u)(x:zI P w H h):fM P w H h a u:=by
 rcases r with r|⟨o,r⟩
 ·exact x a u r
 ·obtain⟨_,q⟩:=x a _ r
  exact q
def Ls:Option HO->Prop
 |some (.lst _)=>True
 |some (.dK _)=>True
 |some (.dT _)=>True
 |some (.set _ _)=>True
 |some (.ins _ _ _)=>True
 |some (.ext _)=>True
 |_=>False
section
variable{P:Program}{w:World}{H:Hp}{h h':Heap}{x e:Addr}{o':HO}
theorem zI.write(ok:zI P w H h)(i:Ls (H x))(o:e=x∨H e=some (.own x))(k:∀b u,b≠e->h.get? b=some u->h'.get? b=some u)(j:∃u,h'.get? e=some u)
 (l:fM P w (upd H x o') h' x o'):zI P w (upd H x o') h':=λb u q=>by
 have d:∀c y,H c=some (.own y)->c≠x:=λc y r z=>by subst z;rw[r] at i;exact i
 have m:∀c f,H c=some (.tup f)->c≠x:=λc f r z=>by subst z;rw[r] at i;exact i
 by_cases g:b=x
 ·subst g;rw[av] at q;cases q;exact l
 ·rw[aF g] at q
  by_cases a:b=e
  ·have n:H b=some (.own x):=by
    rcases o with z|z
    ·exact ee (a.trans z) g
    ·rw[a];exact z
   rw[q] at n;cases n;obtain⟨v,p⟩:=j;exact⟨v,by rw[a];exact p⟩
  ·refine (ok b u q).stay (λc v hc r=>k c v ?_ r) (λc r=>by rw[aF (d c b r)];exact r) λc f r=>by rw[aF (m c f r)];exact r
   rcases hc with rfl|hc
   ·exact a
   ·rintro rfl
    rcases o with z|z
    ·exact d c b hc z
    ·rw[hc] at z;cases z;exact g rfl
end
structure Un(fs ex:List Addr)(H H':Hp)(h h':Heap):Prop where
 keep:∀b o,h.get? b=some o->H b=none->b∉fs->b∉ex->h'.get? b=some o
 slot:∀b o,h.get? b=some o->H b=none->b∈fs->b∉ex->∃sl,h'.get? b=some {o with slots:=sl}
 free:∀b o,h.get? b=some o->H b=none->b∉ex->H' b=none
 there:∀b o,h.get? b=some o->b∉ex->∃o',h'.get? b=some o'
 tups:∀b xs,H b=some (.tup xs)->H' b=some (.tup xs)
 BD:∀b o u,H b=some (.Be o u)->H' b=some (.Be o u)
 C9:∀b ps,H b=some (.ZH ps)->∃more,H' b=some (.ZH (ps++more))
section
variable{fs fs' ex ex':List Addr}{H H1 H2:Hp}{h h1 h2 h':Heap}{a x e:Addr}{o:HO}
theorem Un.any(u:Un fs ex H H1 h h1){b:Addr}{ob:Obj}(q:h.get? b=some ob)(n:H b=none)(a:b∉ex):∃d,h1.get? b=some {ob with slots:=d}:=by
 by_cases c:b∈fs
 ·exact u.slot b ob q n c a
 ·exact⟨ob.slots,u.keep b ob q n c a⟩
theorem Un.trans(a:Un fs ex H H1 h h1)(b:Un fs ex H1 H2 h1 h2):Un fs ex H H2 h h2 where
 keep:=λc e q n i d=>b.keep c e (a.keep c e q n i d) (a.free c e q n d) i d
 slot:=λc e q n i d=>by
  obtain⟨r,f⟩:=a.slot c e q n i d;obtain⟨l,k⟩:=b.slot c _ f (a.free c e q n d) i d;exact⟨l,k⟩
 free:=λc e q n d=>by
  obtain⟨j,f⟩:=a.there c e q d;exact b.free c j f (a.free c e q n d) d
 there:=λc e q d=>by
  obtain⟨j,f⟩:=a.there c e q d;exact b.there c j f d
 tups:=λc g q=>b.tups c g (a.tups c g q)
 BD:=λc e g q=>b.BD c e g (a.BD c e g q)
 C9:=λc p q=>by
  obtain⟨o,f⟩:=a.C9 c p q;obtain⟨m,k⟩:=b.C9 c _ f;exact⟨o++m,by rw[k,Array.append_assoc]⟩
theorem Un.kept(k:∀b u,h.get? b=some u->h'.get? b=some u):Un fs ex H H h h' :=
 ⟨λb a q _ _ _=>k b a q,λb a q _ _ _=>⟨a.slots,k b a q⟩,λ_ _ _ n _=>n,λb a q _=>⟨a,k b a q⟩,λ_ _ q=>q,λ_ _ _ q=>q,λ_ c q=>⟨#[],by rw[q];simp⟩⟩
theorem Un.refl:Un fs ex H H h h:=Un.kept λ_ _ q=>q
theorem Un.laid(k:∀b u,h.get? b=some u->h'.get? b=some u)(e:h.objs.size<=a)(c:H a=none):Un fs ex H (upd H a o) h h' where
 keep:=λb u q _ _ _=>k b u q
 slot:=λb u q _ _ _=>⟨u.slots,k b u q⟩
 free:=λb u q n _=>by rw[aF (bD (bG (Heap.lt_size q) e))];exact n
 there:=λb u q _=>⟨u,k b u q⟩
 tups:=λb d q=>by rw[aF (aH q c)];exact q
 BD:=λb u d q=>by rw[aF (aH q c)];exact q
 C9:=λb f q=>⟨#[],by rw[aF (aH q c),q];simp⟩
theorem Un.write(c:Ls (H x))(l:e=x∨H e=some (.own x))(k:∀b u,b≠e->h.get? b=some u->h'.get? b=some u)(d:∃u,h'.get? e=some u):Un fs ex H (upd H x o) h h':=by
 have i:∀b,H b=none->b≠x:=λb n z=>by subst z;rw[n] at c;exact c
 have g:∀b,H b=none->b≠e:=λb n z=>by
  subst z;rcases l with r|r
  ·exact i b n r
  ·rw[n] at r;cases r
 have f:∀b u,H b=some u->¬Ls (some u)->b≠x:=λb u q m z=>by subst z;rw[q] at c;exact m c
 refine⟨λb u q n _ _=>k b u (g b n) q,λb u q n _ _=>⟨u.slots,k b u (g b n) q⟩,λb u q n _=>by rw[aF (i b n)];exact n,λb u q _=>?_,
  λb j q=>by rw[aF (f b _ q λz=>z)];exact q,λb u j q=>by rw[aF (f b _ q λz=>z)];exact q,λb p q=>⟨#[],by rw[aF (f b _ q λz=>z),q];simp⟩⟩
 by_cases a:b=e
 ·subst a;exact d
 ·exact⟨u,k b u a q⟩
end
noncomputable def AA(h:Heap)(H:Hp):List Addr:=(au h.objs.size).filter λa=>(H a).isSome
noncomputable def Lu(h:Heap)(H:Hp):Heap:=PySem.W.hideAll h (AA h H)
theorem SM(h:Heap)(H:Hp):(Lu h H).objs.size=h.objs.size:=PySem.W.hideAll_size _ _
theorem UT{h:Heap}{H:Hp}{b:Addr}{o:Obj}(e:h.get? b=some o)(n:H b=none):(Lu h H).get? b=some o :=
 PySem.W.hideAll_get _ e λa=>by
  have q:(H b).isSome=true:=(bU.mp a).2;rw[n] at q;simp at q
theorem XJ{h:Heap}{H:Hp}{b:Addr}{o:Obj}(e:(Lu h H).get? b=some o):h.get? b=some o/\H b=none:=by
 have a:h.get? b=some o:=PySem.W.of_hideAll (AA h H) e;refine⟨a,?_⟩;cases q:H b with
 |none=>rfl
 |some x =>
  have c:b∈AA h H:=bU.mpr ⟨cT.mpr (Heap.lt_size a),by simp[q]⟩;have z:(Lu h H).get? b=none:=PySem.W.hideAll_none (AA h H) c;rw[z] at e;cases e
noncomputable def XM(g h:Heap)(L:Addr):List (Addr×Obj):=(au h.objs.size).filterMap λa=>if a=L∨(g.get? a).isSome=true then none else (h.get? a).map λo=>(a,o)
noncomputable def rest(g h:Heap)(L d:Addr):List (Addr×Obj):=(XM g h L).filter λp=>decide (p.1≠d)
structure Mod(K:af)(mg:Str->Option Value)(base:Heap):Prop where
 g4:K.In base
 glob:base.Ns mainGlobals mg
 blt:∃mb,base.Ns builtinsNs mb/\∀x:Str,x≠"__name__" -> mb x=bootBuiltins x
 nolimit:base.NoLimit
structure Cx where
 prog:Program
 w:World
 K:af
 mg:Str->Option Value
 base:Heap
 A:Around
 N:List Str
 s₀:Shared
 H₀:Hp
 env:Env
 outer:List Env
 stack:List Env
 ex:List Addr
 fn:Str->Bool
 calm:Bool
 pn:List (Addr×Obj)
 xe:Value->Shared->Prop
noncomputable def frs(l:List Env):List Addr:=l.filterMap (·.frame)
noncomputable abbrev Cx.fs(X:Cx):List Addr:=frs X.outer
def Vis(sc:Scope)(x:Str):Prop:=sc.names.lookup x=some .local∨sc.names.lookup x=some .cell∨sc.names.lookup x=some .free
def Loc(sc:Scope)(x:Str):Prop:=sc.names.lookup x=some .local∨sc.names.lookup x=some .cell
def Look(env:Env)(h:Heap)(m:Str->Option Value)(x:Str)(u:Value):Prop :=
 (env.kindOf x=some .local/\m x=some u)∨((env.kindOf x=some .cell∨env.kindOf x=some .free)/\∃c,env.cells.lookup x=some c/\h.IsCell c (some u))
structure Cx.Ok(X:Cx):Prop where
 mod:Mod X.K X.mg X.base
 kind:X.env.scope.kind=.function
 glob:X.env.globals=mainGlobals
 blt:X.env.builtins=builtinsNs
 above:X.s₀.heap.objs.size<=X.env.locals
 inj:∀x y c,X.env.cells.lookup x=some c->X.env.cells.lookup y=some c->x=y
 has:∀x,(X.env.kindOf x=some .cell∨X.env.kindOf x=some .free)->∃c,X.env.cells.lookup x=some c
 nT:∀x c,X.fn x=true->X.env.cells.lookup x=some c->X.s₀.heap.objs.size<=c
 hd:X.calm=true->X.A.handled=none
 frames:X.A.frames=some X.stack
 stk:X.stack=X.outer∨(X.stack=X.env::X.outer/\X.env.frame=some X.env.locals)
 exf:∀b∈X.ex,b≠X.env.locals/\∀x c,X.env.cells.lookup x=some c->c≠b
 bs:∀b o,X.base.get? b=some o->X.s₀.heap.get? b=some o/\X.H₀ b=none
 Xy:X.base.objs.size<=X.s₀.heap.objs.size
 SN:∀b o,X.base.get? b=some o->b∉X.ex
 UU:∀b∈X.ex,b∉X.fs
 Dc:X.s₀.heap.FunFrames X.base X.outer
 ZI:∀b∈X.fs,X.H₀ b=none
structure Inv(X:Cx)(pins:List (Addr×Obj))(σ:List (Option V))(H:Hp)(s:Shared):Prop where
 ok:X.Ok
 os:s.os=X.s₀.os
 bare:AllBare s.gens
 base:Un X.fs X.ex X.H₀ H X.s₀.heap s.heap
 loc:∃m,s.heap.Ns X.env.locals m/\∀(i:Nat) (x:Str) (v:V),X.N[i]?=some x->σ[i]?=some (some v)->Vis X.env.scope x->∃u,RelV v u/\Look X.env s.heap m x u
 cell:∀x c,X.env.cells.lookup x=some c->∃v,s.heap.IsCell c v
 free:H X.env.locals=none
 uI:∀x c,X.env.cells.lookup x=some c->H c=none
 pin:∀p∈X.pn++pins,s.heap.get? p.1=some p.2/\H p.1=none/\p.1≠X.env.locals/\p.1∉X.fs/\∀v,p.2.data≠.cell v
 hok:zI X.prog X.w H s.heap
 len:σ.length=X.N.length
section
variable{X:Cx}{pins:List (Addr×Obj)}{σ:List (Option V)}{H H':Hp}{s:Shared}{h':Heap}
theorem Cx.Ok.ag0(ok:X.Ok){b:Addr}{o:Obj}(e:X.base.get? b=some o):b∉X.fs:=λa=>by
 have:=(ok.Dc.mem a).1
 rw[e] at this;cases this
theorem Inv.bs(I:Inv X pins σ H s):∀b o,X.base.get? b=some o->s.heap.get? b=some o/\H b=none:=λb o e =>
 ⟨I.base.keep b o (I.ok.bs b o e).1 (I.ok.bs b o e).2 (I.ok.ag0 e) (I.ok.SN b o e),I.base.free b o (I.ok.bs b o e).1 (I.ok.bs b o e).2 (I.ok.SN b o e)⟩
theorem Inv.bk(I:Inv X pins σ H s):∀b o,X.base.get? b=some o->s.heap.get? b=some o:=λb o e=>(I.bs b o e).1
theorem Inv.mod(I:Inv X pins σ H s):Mod X.K X.mg X.base:=I.ok.mod
theorem Inv.Cg(I:Inv X pins σ H s):X.K.In s.heap:=I.ok.mod.g4.keeps I.bk
theorem Inv.lt(I:Inv X pins σ H s):X.env.locals<s.heap.objs.size:=let ⟨_,a,_⟩:=I.loc;a.lt
theorem Inv.sz(I:Inv X pins σ H s):X.s₀.heap.objs.size<=s.heap.objs.size:=aJ I.ok.above (ji I.lt)
theorem Inv.ag1(I:Inv X pins σ H s){a:Addr}(h:s.heap.objs.size<=a):a∉X.fs:=λc=>by
 obtain⟨_,o,b,_⟩:=I.ok.Dc.mem c;exact ee (bG (Heap.lt_size b) (aJ I.sz h)) (jh _)
theorem Inv.g9(I:Inv X pins σ H s):∀x c,X.env.cells.lookup x=some c->c≠X.env.locals:=λx c e z=>by
 obtain⟨v,o,d,f⟩:=I.cell x c e;obtain⟨m,⟨h,i,g,a,b,_⟩,_⟩:=I.loc;rw[z,a] at d;cases d;rw[b] at f;cases f
theorem Inv.Dc(I:Inv X pins σ H s):s.heap.FunFrames X.base X.outer:=by
 have d:∀(l:List Env),(∀b∈frs l,b∈X.fs)->X.s₀.heap.FunFrames X.base l->s.heap.FunFrames X.base l:=by
  intro l;induction l with
  |nil=>intro _ _;trivial
  |cons h r q =>
   intro g m;obtain⟨k,⟨L,o,c,i,n,p⟩,j⟩:=m;have f:L∈X.fs:=g L (by unfold frs;rw[dP,c];exact cE);obtain⟨t,e⟩:=I.base.slot L o n (I.ok.ZI L f) f λz=>I.ok.UU L z f;exact⟨k,⟨L,_,c,i,e,p⟩,q (λb a=>g b (by unfold frs;rw[dP,c];exact aZ _ a)) j⟩
 exact d X.outer (λ_ a=>a) I.ok.Dc
theorem Inv.stack(I:Inv X pins σ H s):s.heap.FunFrames X.base X.stack:=by
 rcases I.ok.stk with e|⟨e,a⟩
 ·rw[e];exact I.Dc
 ·rw[e]
  obtain⟨m,b,_⟩:=I.loc;refine .cons (by rw[I.ok.kind];decide) a b ?_ I.Dc;exact Heap.get?_none_of_le (aJ I.ok.Xy I.ok.above)
theorem Inv.Em(I:Inv X pins σ H s):∀b∈frs X.stack,b∈X.env.locals::X.fs:=λb a=>by
 rcases I.ok.stk with e|⟨e,c⟩
 ·rw[e] at a;exact aZ _ a
 ·rw[e] at a
  unfold frs at a;rw[dP,c] at a;exact a
theorem Inv.Lv(I:Inv X pins σ H s):∀b∈frs X.stack,H b=none:=λb hb=>by
 rcases bx.mp (I.Em b hb) with e|hb
 ·rw[e];exact I.free
 ·obtain⟨_,o,a,_⟩:=I.ok.Dc.mem hb
  exact I.base.free b o a (I.ok.ZI b hb) λz=>I.ok.UU b z hb
theorem Inv.step{g':Array GenState}{t':Nat}{d':Drawn}{ch:List Addr}(I:Inv X pins σ H s)
 (f:∀b∈ch,(b∈X.ex∨X.s₀.heap.objs.size<=b)/\b≠X.env.locals/\(∀x c,X.env.cells.lookup x=some c->c≠b)/\∀p∈X.pn++pins,p.1≠b)
 (keep:∀b o,b≠X.env.locals->b∉X.fs->b∉ch->s.heap.get? b=some o->H b=none->h'.get? b=some o)
 (slot:∀b o,b≠X.env.locals->b∈X.fs->b∉ch->s.heap.get? b=some o->H b=none->∃J,h'.get? b=some {o with slots:=J}) (free:∀b o,b∉ch->s.heap.get? b=some o->H b=none->H' b=none)
 (there:∀b o,b∉ch->s.heap.get? b=some o->∃E,h'.get? b=some E)
 (tups:∀b y,H b=some (.tup y)->H' b=some (.tup y)) (BD:∀b o u,H b=some (.Be o u)->H' b=some (.Be o u)) (C9:∀b G,H b=some (.ZH G)->∃D,H' b=some (.ZH (G++D)))
 (W:∀m,s.heap.Ns X.env.locals m->h'.Ns X.env.locals m) (L:zI X.prog X.w H' h') (U:AllBare g') :
 Inv X pins σ H' {s with heap:=h',gens:=g',drawn:=d',toks:=t'}:=by
 have F:∀b o,X.s₀.heap.get? b=some o->b≠X.env.locals:=λb o e=>bD (bG (Heap.lt_size e) I.ok.above);have j:∀b o,X.s₀.heap.get? b=some o->b∉X.ex->b∉ch:=λb o e a A=>by
  rcases (f b A).1 with z|z
  ·exact a z
  ·exact ee (bG (Heap.lt_size e) z) (jh _)
 have g:∀x c,X.env.cells.lookup x=some c->∀v,s.heap.IsCell c v->h'.IsCell c v:=λx c e v ⟨o,B,K⟩=>by
  have h:c∉ch:=λz=>(f c z).2.2.1 x c e rfl;by_cases P:c∈X.fs
  ·obtain⟨J,q⟩:=slot c o (I.g9 x c e) P h B (I.uI x c e)
   exact⟨_,q,K⟩
  ·exact⟨o,keep c o (I.g9 x c e) P h B (I.uI x c e),K⟩
 refine⟨I.ok,I.os,U,⟨λb o e n A a=>?_,λb o e n A a=>?_,λb o e n a=>?_,λb o e a=>?_,λb y e=>tups b y (I.base.tups b y e),λb o y e=>BD b o y (I.base.BD b o y e),λb G e=>?_⟩,?_,λx c e=>?_,?_,λx c e=>?_,λp O=>?_,L,I.len⟩
 ·exact keep b o (F b o e) A (j b o e a) (I.base.keep b o e n A a) (I.base.free b o e n a)
 ·obtain⟨J,t⟩:=I.base.slot b o e n A a
  obtain⟨M,C⟩:=slot b _ (F b o e) A (j b o e a) t (I.base.free b o e n a);exact⟨M,C⟩
 ·obtain⟨E,t⟩:=I.base.there b o e a
  exact free b E (j b o e a) t (I.base.free b o e n a)
 ·obtain⟨E,t⟩:=I.base.there b o e a
  exact there b E (j b o e a) t
 ·obtain⟨S,t⟩:=I.base.C9 b G e
  obtain⟨R,C⟩:=C9 b _ t;exact⟨S++R,by rw[C,Array.append_assoc]⟩
 ·obtain⟨m,Q,T⟩:=I.loc
  refine⟨m,W m Q,λi x v t C V=>?_⟩;obtain⟨u,r,l⟩:=T i x v t C V;refine⟨u,r,?_⟩;rcases l with l|⟨k,c,e,z⟩
  ·exact .inl l
  ·exact .inr ⟨k,c,e,g x c e _ z⟩
 ·obtain⟨v,z⟩:=I.cell x c e
  exact⟨v,g x c e v z⟩
 ·obtain⟨m,⟨o,_,_,B,_⟩,_⟩:=I.loc
  exact free _ o (λz=>(f _ z).2.1 rfl) B I.free
 ·obtain⟨v,o,B,K⟩:=I.cell x c e
  exact free c o (λz=>(f c z).2.2.1 x c e rfl) B (I.uI x c e)
 ·obtain⟨e,n,N,nf,d⟩:=I.pin p O
  have h:p.1∉ch:=λz=>(f p.1 z).2.2.2 p O rfl;exact⟨keep p.1 p.2 N nf h e n,free p.1 p.2 h e n,N,nf,d⟩
theorem Inv.un{t':Nat}(I:Inv X pins σ H s)(u:Un X.fs [] H H' s.heap h')(f:zI X.prog X.w H' h'):Inv X pins σ H' {s with heap:=h',toks:=t'}:=by
 obtain⟨m,⟨o,p,q,h,r⟩,_⟩:=id I.loc;obtain⟨l,k⟩:=u.any h I.free (-_);exact I.step (g':=s.gens) (d':=s.drawn) (ch:=[]) (λ_ z=>nomatch z) (λb o _ c _ e n=>u.keep b o e n c (-_)) (λb o _ c _ e n=>u.slot b o e n c (-_)) (λb o _ e n=>u.free b o e n (-_)) (λb o _ e=>u.there b o e (-_)) u.tups u.BD u.C9 (λv i=>by
  obtain⟨t,g,d,a,j⟩:=i;rw[h] at a;cases a;exact⟨_,g,d,k,j⟩) f I.bare
theorem Inv.call{g':Array GenState}{t':Nat}{d':Drawn}{ch:List Addr}(I:Inv X pins σ H s)(u:Un (frs X.stack) ch H H' s.heap h')(h:zI X.prog X.w H' h')(v:AllBare g')
 (d:∀b∈ch,(b∈X.ex∨X.s₀.heap.objs.size<=b)/\b≠X.env.locals/\(∀x c,X.env.cells.lookup x=some c->c≠b)/\∀p∈X.pn++pins,p.1≠b) :
 Inv X pins σ H' {s with heap:=h',gens:=g',drawn:=d',toks:=t'}:=by
 obtain⟨m,⟨o,A,B,k,r⟩,_⟩:=id I.loc;obtain⟨y,i⟩:=u.any k I.free λz=>(d _ z).2.1 rfl;exact I.step (ch:=ch) d (λb o i t a e n=>u.keep b o e n (λz=>(bx.mp (I.Em b z)).elim i t) a) (λb o _ _ a e n=>u.any e n a) (λb o a e n=>u.free b o e n a) (λb o a e=>u.there b o e a) u.tups u.BD u.C9 (λD l=>by
  obtain⟨C,j,g,f,q⟩:=l;rw[k] at f;cases f;exact⟨_,j,g,i,q⟩) h v
theorem Inv.turned{t':Nat}{a:Addr}(I:Inv X pins σ H s)(k:∀b o,b≠a->s.heap.get? b=some o->h'.get? b=some o)(t:H a=none)(g:a≠X.env.locals)
 (B:a∈X.ex∨X.s₀.heap.objs.size<=a) (A:∀x c,X.env.cells.lookup x=some c->c≠a) (i:∀p∈X.pn++pins,p.1≠a):Inv X pins σ H {s with heap:=h',toks:=t'}:=by
 have f:∀b u,H b=some u->b≠a:=λb u e z=>by rw[z,t] at e;cases e
 refine I.step (g':=s.gens) (d':=s.drawn) (ch:=[a]) (λb l=>?_) (λb o _ _ d e _=>k b o (λz=>d (by simp[z])) e) (λb o _ _ d e _=>⟨o.slots,k b o (λz=>d (by simp[z])) e⟩) (λ_ _ _ _ n=>n)
  (λb o d e=>⟨o,k b o (λz=>d (by simp[z])) e⟩) (λ_ _ e=>e) (λ_ _ _ e=>e) (λb C e=>⟨#[],by rw[e];simp⟩) (λm h=>?_) (λb u e=>?_) I.bare
 ·have e:b=a:=by simpa using l
  subst e;exact⟨B,g,A,i⟩
 ·obtain⟨o,j,w,y,r⟩:=h
  exact⟨o,j,w,k _ o (bP g) y,r⟩
 ·refine (I.hok b u e).stay (λc v d q=>k c v ?_ q) (λ_ q=>q) λ_ _ q=>q
  rcases d with z|z
  ·rw[z];exact f b u e
  ·exact f c _ z
theorem Inv.tok(I:Inv X pins σ H s)(t:Nat):Inv X pins σ H {s with toks:=t}:=I.un (h':=s.heap) (t':=t) Un.refl I.hok
theorem Inv.kept{t':Nat}(I:Inv X pins σ H s)(k:∀b u,s.heap.get? b=some u->h'.get? b=some u):Inv X pins σ H {s with heap:=h',toks:=t'}:=I.un (Un.kept k) (I.hok.kept k)
theorem Inv.laid{a:Addr}{o:HO}{t':Nat}(I:Inv X pins σ H s)(k:∀b u,s.heap.get? b=some u->h'.get? b=some u)(d:s.heap.objs.size<=a)(c:fM X.prog X.w (upd H a o) h' a o) :
 Inv X pins σ (upd H a o) {s with heap:=h',toks:=t'}:=I.un (Un.laid k d (I.hok.fresh d)) (I.hok.laid k d c)
theorem Inv.write{x e:Addr}{o:HO}{t':Nat}(I:Inv X pins σ H s)(f:Ls (H x))(d:e=x∨H e=some (.own x))(k:∀b u,b≠e->s.heap.get? b=some u->h'.get? b=some u)(a:∃u,h'.get? e=some u)
 (c:fM X.prog X.w (upd H x o) h' x o):Inv X pins σ (upd H x o) {s with heap:=h',toks:=t'}:=I.un (Un.write f d k a) (I.hok.write f d k a c)
theorem Inv.Rc{a:List (Addr×Obj)}(I:Inv X pins σ H s)(h:∀p∈a,s.heap.get? p.1=some p.2/\H p.1=none/\p.1≠X.env.locals/\p.1∉X.fs/\∀v,p.2.data≠.cell v):Inv X a σ H s :=
 ⟨I.ok,I.os,I.bare,I.base,I.loc,I.cell,I.free,I.uI,λp b=>(bz.mp b).elim (λz=>I.pin p (oJ _ z)) (h p),I.hok,I.len⟩
theorem M2{N:List Str}(c:N.Nodup){i j:Nat}{x:Str}(a:N[i]?=some x)(b:N[j]?=some x):i=j:=by
 obtain⟨g,e⟩:=ai.mp a;obtain⟨f,d⟩:=ai.mp b;exact (List.getElem_inj c).mp (e.trans d.symm)
theorem Km{M:Model}{A:Around}{E:Value->Shared->Prop}{i:Nat}{x:Str}{v:V}{u:Value}{Q:Unit->Shared->Prop}(I:Inv X pins σ H s)(hN:X.N.Nodup)(P:X.N[i]?=some x)(t:Loc X.env.scope x)(r:RelV v u)
 (h:∀s',Inv X pins (σ.set i (some v)) H s'->(∃a,Heap.SameBut a s.heap s'.heap/\(a=X.env.locals∨X.env.cells.lookup x=some a))->Q () s') (hf:X.fn x=true∨X.env.scope.names.lookup x=some .local:=by first|exact .inl rfl|exact .inr rfl|assumption):wpAny M A (storeName X.env x u) Q E s:=by
 obtain⟨m,Z,hl⟩:=id I.loc;have K:(X.env.scope.kind==.class || (X.env.scope.kind==.module&&X.env.locals != X.env.globals))=false:=by rw[I.ok.kind];rfl
 have J:i<σ.length:=by rw[I.len];exact (ai.mp P).1
 have g9:=I.g9;have g:∀{a:Addr} {h':Heap},(∃o,s.heap.get? a=some o/\H a=none)->Heap.SameBut a s.heap h'->zI X.prog X.w H h':=λ{a h'} ha f b ob e=>by
  obtain⟨_,_,B⟩:=ha;refine (I.hok b ob e).stay (λc S hc q=>(f.2 c ?_).trans q) (λ_ q=>q) λ_ _ q=>q;rintro rfl;rcases hc with rfl|hc
  ·rw[B] at e;cases e
  ·rw[B] at hc;cases hc
 rcases t with hk|hk
 ·refine wpAny_storeName_local hk Z (λh' hn' f=>?_) K
  obtain⟨oL,_,_,hoL,_⟩:=id Z;refine h _ ⟨I.ok,I.os,I.bare,⟨λb o e n F t=>?_,λb o e n F t=>?_,I.base.free,λb o e t=>?_,I.base.tups,I.base.BD,I.base.C9⟩,⟨_,hn',λj y v' l C e3=>?_⟩,λy c e=>?_,I.free,I.uI,λp hp=>?_,g ⟨oL,hoL,I.free⟩ f,by simpa using I.len⟩ ⟨_,f,.inl rfl⟩
  ·exact (f.2 b (bD (bG (Heap.lt_size e) I.ok.above))).trans (I.base.keep b o e n F t)
  ·obtain⟨W,l⟩:=I.base.slot b o e n F t
   exact⟨W,(f.2 b (bD (bG (Heap.lt_size e) I.ok.above))).trans l⟩
  ·obtain⟨o',l⟩:=I.base.there b o e t
   exact⟨o',(f.2 b (bD (bG (Heap.lt_size e) I.ok.above))).trans l⟩
  ·by_cases G:j=i
   ·subst G
    rw[P] at l;cases l;rw[List.getElem?_set_self J] at C;cases C;exact⟨u,r,.inl ⟨hk,-_⟩⟩
   ·rw[List.getElem?_set_ne (bP G)] at C
    obtain⟨u',Y,q⟩:=hl j y v' l C e3;refine⟨u',Y,?_⟩;rcases q with ⟨k,e⟩|⟨k,c,e,z⟩
    ·refine .inl ⟨k,?_⟩
     have:y≠x:=λe=>G (M2 hN l (e▸P))
     simp[this,e]
    ·exact .inr ⟨k,c,e,z.sameBut f (g9 y c e)⟩
  ·obtain⟨S,z⟩:=I.cell y c e
   exact⟨S,z.sameBut f (g9 y c e)⟩
  ·obtain⟨e,n,T,nf,d⟩:=I.pin p hp
   exact⟨(f.2 p.1 T).trans e,n,T,nf,d⟩
 ·have D:X.fn x=true:=by
   rcases hf with z|z
   ·exact z
   ·rw[z] at hk;cases hk
  obtain⟨c,hc⟩:=I.ok.has x (.inl hk);obtain⟨S,z⟩:=I.cell x c hc;refine wpAny_storeName_cell I.ok.kind hk hc z (λh' L f=>?_);obtain⟨oc,O,ag2⟩:=id z;refine h {s with heap:=h'} ⟨I.ok,I.os,I.bare,⟨λb o e n F t=>?_,λb o e n F t=>?_,I.base.free,λb o e t=>?_,I.base.tups,I.base.BD,I.base.C9⟩,⟨m,Z.sameBut f (bP (g9 x c hc)),λj y v' l C e3=>?_⟩,λy U e=>?_,I.free,I.uI,λp hp=>?_,g ⟨oc,O,I.uI x c hc⟩ f,by simpa using I.len⟩ ⟨c,f,.inr hc⟩
  ·exact (f.2 b (bD (bG (Heap.lt_size e) (I.ok.nT x c D hc)))).trans (I.base.keep b o e n F t)
  ·obtain⟨W,l⟩:=I.base.slot b o e n F t
   exact⟨W,(f.2 b (bD (bG (Heap.lt_size e) (I.ok.nT x c D hc)))).trans l⟩
  ·obtain⟨o',l⟩:=I.base.there b o e t
   exact⟨o',(f.2 b (bD (bG (Heap.lt_size e) (I.ok.nT x c D hc)))).trans l⟩
  ·by_cases G:j=i
   ·subst G
    rw[P] at l;cases l;rw[List.getElem?_set_self J] at C;cases C;exact⟨u,r,.inr ⟨.inl hk,c,hc,L⟩⟩
   ·rw[List.getElem?_set_ne (bP G)] at C
    obtain⟨u',Y,q⟩:=hl j y v' l C e3;refine⟨u',Y,?_⟩;rcases q with q|⟨k,U,e,z'⟩
    ·exact .inl q
    ·refine .inr ⟨k,U,e,z'.sameBut f ?_⟩
     rintro rfl;exact G (M2 hN l (I.ok.inj _ _ _ e hc▸P))
  ·by_cases R:U=c
   ·subst R;exact⟨_,L⟩
   ·obtain⟨w2,z2⟩:=I.cell y U e
    exact⟨w2,z2.sameBut f R⟩
  ·obtain⟨e,n,T,nf,d⟩:=I.pin p hp
   refine⟨(f.2 p.1 ?_).trans e,n,T,nf,d⟩;intro q;rw[q,O] at e;have q':oc=p.2:=aN e;exact d S (by rw[<- q'];exact ag2)
theorem Dd{M:Model}{A:Around}{E:Value->Shared->Prop}{i:Nat}{x:Str}{v:V}{u:Value}{Q:Unit->Shared->Prop}(I:Inv X pins σ H s)(a:X.N.Nodup)(c:X.N[i]?=some x)(b:Loc X.env.scope x)(r:RelV v u)
 (h:∀s',Inv X pins (σ.set i (some v)) H s'->Q () s') (e:X.fn x=true∨X.env.scope.names.lookup x=some .local:=by first|exact .inl rfl|exact .inr rfl|assumption):wpAny M A (storeName X.env x u) Q E s :=
 Km I a c b r (λs' d _=>h s' d) e
theorem Inv.ZJ{s':Shared}{ch:List Addr}(I:Inv X pins σ H s)(f:s'.os=s.os)(u:Un (frs X.stack) ch H H' s.heap s'.heap)(d:zI X.prog X.w H' s'.heap)(h:AllBare s'.gens)
 (a:∀b∈ch,(b∈X.ex∨X.s₀.heap.objs.size<=b)/\b≠X.env.locals/\(∀x c,X.env.cells.lookup x=some c->c≠b)/\∀p∈X.pn++pins,p.1≠b):Inv X pins σ H' s':=by
 obtain⟨h',g',d',t',g⟩:=s';have e:g=s.os:=f;subst e;exact I.call (g':=g') (t':=t') (d':=d') u d h a
end
abbrev XK:=Value->Option Addr->Hp->Prop
abbrev St:=List (Option V)
abbrev VK:=V->Hp->Prop
abbrev TE:=St->Hp->VK->Prop
abbrev TT:=St->Hp->(Bool->Hp->Prop)->Prop
abbrev TA:=St->Hp->(List V->Hp->Prop)->Prop
structure Ends where
 nx:St->Hp->Prop
 rt:VK
 bk:St->Hp->Prop:=λ_ _=>False
 ct:St->Hp->Prop:=λ_ _=>False
abbrev TS:=Ends->St->Hp->Prop
inductive EP(X:Cx)(pins:List (Addr×Obj))(σ:St)(Q:VK)(u:Value)(s':Shared):Prop
 |mk (v:V) (H':Hp) (a:Inv X pins σ H' s') (b:RelV v u) (c:Q v H'):EP X pins σ Q u s'
inductive TP(X:Cx)(pins:List (Addr×Obj))(σ:St)(Q:Bool->Hp->Prop)(b:Bool)(s':Shared):Prop
 |mk (H':Hp) (a:Inv X pins σ H' s') (c:Q b H'):TP X pins σ Q b s'
inductive AP(X:Cx)(pins:List (Addr×Obj))(σ:St)(Q:List V->Hp->Prop)(us:List Value)(s':Shared):Prop
 |mk (vs:List V) (H':Hp) (a:Inv X pins σ H' s') (b:bX vs us) (c:Q vs H'):AP X pins σ Q us s'
def SP(X:Cx)(pins:List (Addr×Obj))(D:Ends)(f:Flow)(s':Shared):Prop :=
 match f with
 |.next=>∃σ' H',Inv X pins σ' H' s'/\D.nx σ' H'
 |.brk=>∃σ' H',Inv X pins σ' H' s'/\D.bk σ' H'
 |.cont=>∃σ' H',Inv X pins σ' H' s'/\D.ct σ' H'
 |.ret u=>∃v σ' H',Inv X pins σ' H' s'/\RelV v u/\D.rt v H'
def PE(X:Cx)(e:Expr)(t:TE):Prop :=
 ∀(pins:List (Addr×Obj)) (s:Shared) (σ:St) (H:Hp) (Q:VK),Inv X pins σ H s->t σ H Q->wpAny (model X.prog X.w) X.A (eval e X.env) (EP X pins σ Q) X.xe s
def PT(X:Cx)(e:Expr)(t:TT):Prop :=
 ∀(pins:List (Addr×Obj)) (s:Shared) (σ:St) (H:Hp) (Q:Bool->Hp->Prop),Inv X pins σ H s->t σ H Q->wpAny (model X.prog X.w) X.A (isTrue e X.env (eval e X.env)) (TP X pins σ Q) X.xe s
def PW(X:Cx)(e:Expr)(t:TT):Prop :=
 ∀(whole:Sem Value) (pins:List (Addr×Obj)) (s:Shared) (σ:St) (H:Hp) (Q:Bool->Hp->Prop),Inv X pins σ H s->t σ H Q->wpAny (model X.prog X.w) X.A (isTrue e X.env whole) (TP X pins σ Q) X.xe s
theorem PW.pt{X:Cx}{e:Expr}{t:TT}(h:PW X e t):PT X e t:=h _
def PA(X:Cx)(es:List Expr)(t:TA):Prop :=
 ∀(pos:Pos) (pins:List (Addr×Obj)) (s:Shared) (σ:St) (H:Hp) (Q:List V->Hp->Prop),Inv X pins σ H s->t σ H Q->wpAny (model X.prog X.w) X.A (spliced (backTo pos (starEach es X.env))) (AP X pins σ Q) X.xe s
def PS(X:Cx)(st:Stmt)(t:TS):Prop :=
 ∀(pins:List (Addr×Obj)) (s:Shared) (σ:St) (H:Hp) (D:Ends),Inv X pins σ H s->t D σ H->wpAny (model X.prog X.w) X.A (exec st X.env) (SP X pins D) X.xe s
def jk(X:Cx)(st:List Stmt)(t:TS):Prop :=
 ∀(pins:List (Addr×Obj)) (s:Shared) (σ:St) (H:Hp) (D:Ends),Inv X pins σ H s->t D σ H->wpAny (model X.prog X.w) X.A (execs st X.env) (SP X pins D) X.xe s
theorem gW{α:Type}{t:Sem α}{Q b:α->Shared->Prop}{M:Model}{A:Around}{E:Value->Shared->Prop}{s:Shared}(h:wpAny M A t Q E s)(c:∀a s,Q a s->b a s):wpAny M A t b E s:=wpAny_mono h c λ_ _ x=>x
section
variable{X:Cx}
inductive Ci(i:Nat)(σ:St)(H:Hp)(Q:VK):Prop
 |mk (v:V) (a:σ[i]?=some (some v)) (b:Q v H):Ci i σ H Q
def tC(v:V):TE:=λ_ H Q=>Q v H
theorem aaP{i:Nat}{x:Str}{j:Pos}(q:X.N[i]?=some x)(w:Vis X.env.scope x)(g:(x==("__debug__" : Str))=false:=by decide)(f:(x==("__classdict__" : Str))=false:=by decide):PE X (.Name x j) (Ci i):=by
 intro d s o H Q I h;obtain⟨v,e,h⟩:=h;obtain⟨m,p,t⟩:=I.loc;obtain⟨u,r,l⟩:=t i x v q e w;have b:EP X d o Q u s:=⟨v,H,I,r,h⟩;rcases l with ⟨hk,n⟩|⟨hk,c,k,a⟩
 ·exact wpAny_Name (wpAny_loadName_local I.ok.kind hk p n b) g
 ·rcases hk with hk|hk
  ·exact wpAny_Name (wpAny_loadName_cell I.ok.kind hk k a b) g
  ·exact wpAny_Name (wpAny_loadName_free I.ok.kind hk k a b f) g
theorem aA{i j pos}:PE X (.Constant (.int i) j pos) (tC (.int i)):=λ_ _ _ H _ I h=>wpAny_Constant_int ⟨.int i,H,I.tok _,⟨_,rfl⟩,h⟩
theorem Kn{b j pos}:PE X (.Constant (.bool b) j pos) (tC (.bl b)):=λ_ _ _ H _ I h=>Constant_bool ⟨.bl b,H,I,rfl,h⟩
theorem lW{j pos}:PE X (.Constant .none j pos) (tC .fE):=λ_ _ _ H _ I h=>Constant_none ⟨.fE,H,I,rfl,h⟩
theorem gX{x j pos}:PE X (.Constant (.str x) j pos) (tC (.str x)):=λ_ _ _ H _ I h=>Calls.Constant_str ⟨.str x,H,I.tok _,⟨_,rfl⟩,h⟩
def Gl(X:Cx)(x:Str):Prop:=X.env.kindOf x=some .globalImplicit
theorem De{E:Value->Shared->Prop}{a:List (Addr×Obj)}{s:Shared}{e:St}{H:Hp}{x:Str}{u:Value}{b:Pos}{Q:Value->Shared->Prop}(I:Inv X a e H s)(f:Gl X x)(d:X.mg x=some u)(h:Q u s)
 (c:(x==("__debug__" : Str))=false:=by decide):wpAny (model X.prog X.w) X.A (eval (.Name x b) X.env) Q E s :=
 Calls.Name_function_global I.ok.kind f (Calls.loadGlobal_global (by rw[I.ok.glob];exact I.mod.glob.keeps I.bk) d h) c
theorem G6{E:Value->Shared->Prop}{a:List (Addr×Obj)}{s:Shared}{d:St}{H:Hp}{x:Str}{u:Value}{b:Pos}{Q:Value->Shared->Prop}(I:Inv X a d H s)(j:Gl X x)(c:X.mg x=none)(i:bootBuiltins x=some u)(h:Q u s)
 (e:x≠"__name__" := by decide) (f:(x==("__debug__" : Str))=false:=by decide):wpAny (model X.prog X.w) X.A (eval (.Name x b) X.env) Q E s:=by
 obtain⟨l,k,g⟩:=I.mod.blt;exact Calls.Name_function_global I.ok.kind j (Calls.loadGlobal_builtin (by rw[I.ok.glob];exact I.mod.glob.keeps I.bk) c (by rw[I.ok.blt];exact k.keeps I.bk) ((g x e).trans i) h) f
theorem lH{x:Str}{v:V}{u:Value}{a:Pos}(d:Gl X x)(c:X.mg x=some u)(r:RelV v u)(b:(x==("__debug__" : Str))=false:=by decide):PE X (.Name x a) (tC v) :=
 λ_ _ _ H _ I h=>De I d c ⟨v,H,I,r,h⟩ b
theorem Df{x:Str}{v:V}{u:Value}{a:Pos}(e:Gl X x)(d:X.mg x=none)(c:bootBuiltins x=some u)(r:RelV v u)(f:x≠"__name__" := by decide)(b:(x==("__debug__" : Str))=false:=by decide):PE X (.Name x a) (tC v) :=
 λ_ _ _ H _ I h=>G6 I e d c ⟨v,H,I,r,h⟩ f b
variable{a b:Expr}{ta tb:TE}{pos:Pos}
def PC(X:Cx)(op:CmpOp)(a b:Expr)(t:TE):Prop :=
 ∀(pins:List (Addr×Obj)) (s:Shared) (σ:St) (H:Hp) (Q:VK),Inv X pins σ H s->t σ H Q ->
  wpAny (model X.prog X.w) X.A (eval a X.env) (λv s₁=>wpAny (model X.prog X.w) X.A (eval b X.env) (λu s₂=>wpAny (model X.prog X.w) X.A (compareOp op v u) (EP X pins σ Q) X.xe s₂) X.xe s₁) X.xe s
inductive BlR(Q:Bool->Hp->Prop)(x:V)(H1:Hp):Prop
 |mk (c:Bool) (a:x=.bl c) (b:Q c H1):BlR Q x H1
def tB(t:TE):TT:=λσ H Q=>t σ H (BlR Q)
theorem aaQ{op:CmpOp}{t:TE}(h:PC X op a b t)(f:behindInMarks op b=false:=by first|exact adK _ (!_) (!_)|rfl):PT X (.Compare a [op] [b] pos) (tB t):=by
 intro e s g H Q I i;refine wpAny_isTrue_Compare1 (gW (h e s g H _ I i) λv o f=>gW f λu p m=>gW m λc r ⟨x,l,j,k,n⟩=>?_) f;obtain⟨d,rfl,q⟩:=n;cases k;exact wpAny_truthy_bool ⟨l,j,q⟩
theorem jB{e:Expr}{t:TE}(h:PE X e t)(k:∀a,isTrue e X.env a=(do let v <- a;standAt e.pos;holding [v] (truthy v)):=by intro _;rfl):PT X e (tB t):=by
 intro b s c H Q I f;refine isTrue_plain (gW (h b s c H _ I f) λv m ⟨x,j,g,i,l⟩=>?_) (k _);obtain⟨d,rfl,q⟩:=l;cases i;exact wpAny_truthy_bool ⟨j,g,q⟩
variable{tA E3:TT}{rest:List Expr}
def ag4(t u:TT):TT:=λσ H Q=>t σ H λc H1=>if c=true then u σ H1 Q else Q false H1
def tOr(t u:TT):TT:=λσ H Q=>t σ H λc H1=>if c=true then Q true H1 else u σ H1 Q
def ag5(t:TT):TT:=λσ H Q=>t σ H λc H1=>Q (!c) H1
theorem GQ(f:PT X a tA):PW X (.BoolOp .And [a] pos) tA:=by
 intro i b s d H Q I h;refine isTrue_and (gW (f b s d H Q I h) λc g e=>?_);cases c with
 |true=>exact isTrue_and_nil e
 |false=>exact e
theorem zJ(f:PT X a tA):PW X (.BoolOp .Or [a] pos) tA:=by
 intro i b s d H Q I h;refine isTrue_or (gW (f b s d H Q I h) λc g e=>?_);cases c with
 |false=>exact isTrue_or_nil e
 |true=>exact e
theorem Lw(j:PT X a tA)(k:PW X (.BoolOp .And (b::rest) pos) E3):PW X (.BoolOp .And (a::b::rest) pos) (ag4 tA E3):=by
 intro m d s e H Q I h;refine isTrue_and (gW (j d s e H _ I h) λc l ⟨g,f,i⟩=>?_);cases c with
 |true=>exact k m d l e g Q f i
 |false=>exact⟨g,f,i⟩
theorem Dg(j:PT X a tA)(k:PW X (.BoolOp .Or (b::rest) pos) E3):PW X (.BoolOp .Or (a::b::rest) pos) (tOr tA E3):=by
 intro m d s e H Q I h;refine isTrue_or (gW (j d s e H _ I h) λc l ⟨g,f,i⟩=>?_);cases c with
 |true=>exact⟨g,f,i⟩
 |false=>exact k m d l e g Q f i
theorem gY(g:PT X a tA):PT X (.UnaryOp .Not a pos) (ag5 tA):=by
 intro b s f H Q I h;exact isTrue_not (gW (g b s f H (λc d=>Q (!c) d) I h) λ_ _ ⟨d,i,e⟩=>⟨d,i,e⟩)
def adL(ta tb:TE):TE:=λσ H Q=>ta σ H λx H1=>∃c,x=.bl c/\if c=true then tb σ H1 Q else Q (.bl false) H1
def adM(ta:TE):TE:=λσ H Q=>ta σ H λx H1=>∃c,x=.bl c/\Q (.bl (!c)) H1
theorem UW{op}{t:TE}(h:PE X a t):PE X (.BoolOp op [a] pos) t:=λb s c H Q I d=>BoolOp_one (h b s c H Q I d)
theorem Py(j:PE X a ta)(k:PE X (.BoolOp .And (b::rest) pos) tb):PE X (.BoolOp .And (a::b::rest) pos) (adL ta tb):=by
 intro d s f H Q I h;refine BoolOp_and (gW (j d s f H _ I h) λv m ⟨x,i,g,l,e⟩=>?_);obtain⟨c,rfl,e⟩:=e;cases l;refine wpAny_truthy_bool ?_;cases c with
 |true=>exact k d m f i Q g e
 |false=>exact⟨.bl false,i,g,rfl,e⟩
theorem UX(f:PE X a ta):PE X (.UnaryOp .Not a pos) (adM ta):=by
 intro b s e H Q I h;refine UnaryOp_ (gW (f b s e H _ I h) λv k ⟨x,i,g,j,d⟩=>?_);obtain⟨c,rfl,d⟩:=d;cases j;exact not_of (wpAny_truthy_bool ⟨.bl (!c),i,g,rfl,d⟩)
def tIf(t:TT)(ta tb:TE):TE:=λσ H Q=>t σ H λc H1=>if c=true then ta σ H1 Q else tb σ H1 Q
theorem zK{c:Expr}(m:PT X c tA)(n:PE X a ta)(l:PE X b tb):PE X (.IfExp c a b pos) (tIf tA ta tb):=by
 intro e s f H Q I h;refine wpAny_IfExp (gW (m e s f H _ I h) λd i ⟨k,j,g⟩=>?_);cases d with
 |true=>exact n e i f k Q j g
 |false=>exact l e i f k Q j g
end
def bK(K:af)(H:Hp)(a:Addr)(xs:List V):Prop :=
 Rd H a (.lst xs) ∨
  ∃(o:Obj) (its:Array Value) (n:Nat),K.lookup a=some o/\o.cls=.type "list" /\ o.dict=none/\o.data=.seq its n/\its.size<=sizeLine/\bX xs its.toList
def cW(K:af)(H:Hp)(a:Addr)(xs:List V):Prop :=
 Rd H a (.tup xs) ∨
  ∃(o:Obj) (its:Array Value) (n:Nat),K.lookup a=some o/\o.cls=.type "tuple" /\ o.data=.seq its n/\its.size<=sizeLine/\bX xs its.toList
noncomputable def ag6:Value->Option V
 |.none=>some .fE
 |.bool b=>some (.bl b)
 |.int i _=>some (.int i)
 |.str x _=>some (.str x)
 |.bytes b _=>some (.Rb b)
 |.float b _=>some (.g7 b)
 |.ref a=>some (.ref a)
 |.type n=>some (.ty n)
 |_=>none
theorem RelV.abs{x:V}{u:Value}(r:RelV x u):ag6 u=some x:=by
 cases x with
 |fE=>cases r;rfl
 |bl _=>cases r;rfl
 |int _=>obtain⟨t,rfl⟩:=r;rfl
 |str _=>obtain⟨t,rfl⟩:=r;rfl
 |Rb _=>obtain⟨t,rfl⟩:=r;rfl
 |g7 _=>obtain⟨t,rfl⟩:=r;rfl
 |ref _=>cases r;rfl
 |ty _=>cases r;rfl
theorem RelV.inj{x y:V}{u:Value}(r:RelV x u)(q:RelV y u):x=y:=aN (r.abs.symm.trans q.abs)
theorem bX.inj:∀{xs a:List V} {us:List Value},bX xs us->bX a us->xs=a
 |_,_,_,.nil,.nil=>rfl
 |_,_,_,.cons r t,.cons b t'=>by rw[r.inj b,bX.inj t t']
section
variable{X:Cx}{pins:List (Addr×Obj)}{σ:St}{H:Hp}{s:Shared}{a:Addr}{xs ys:List V}
theorem bK.of{K:af}(h:H a=some (.lst xs)):bK K H a xs:=.inl (.inl h)
theorem cW.of{K:af}(h:H a=some (.tup xs)):cW K H a xs:=.inl (.inl h)
theorem Inv.list(I:Inv X pins σ H s)(h:bK X.K H a xs):∃b:List Value,bX xs b/\PlainL s.heap a b.toArray/\xs.length<=sizeLine:=by
 rcases h with h|⟨o,b,n,g,f,c,d,i,r⟩
 ·obtain⟨z,b,n,r,e⟩:=h.ok I.hok
  exact⟨b,r,⟨_,n,e,rfl,rfl,rfl⟩,z⟩
 ·refine⟨b.toList,r,⟨o,n,I.Cg a o g,f,c,by simpa using d⟩,?_⟩
  have e:=r.length;simp only[aP] at e;lia
theorem Inv.tuple(I:Inv X pins σ H s)(h:cW X.K H a xs):∃b:List Value,bX xs b/\IsTup s.heap a b.toArray/\xs.length<=sizeLine:=by
 rcases h with h|⟨o,b,n,f,d,c,g,r⟩
 ·obtain⟨z,b,r,p⟩:=h.ok I.hok
  exact⟨b,r,p,z⟩
 ·refine⟨b.toList,r,⟨o,I.Cg a o f,d,n,by simpa using c⟩,?_⟩
  have e:=r.length;simp only[aP] at e;lia
theorem Inv.M3(I:Inv X pins σ H s)(h:bK X.K H a xs)(h':bK X.K H a ys):xs=ys:=by
 obtain⟨c,r,⟨o,n,e,_,_,d⟩,_⟩:=I.list h;obtain⟨b,i,⟨j,k,g,_,_,f⟩,_⟩:=I.list h';rw[e] at g;cases g;rw[d] at f;injection f with d1 _
 have:c=b:=by simpa using e8 Array.toList d1
 subst this;exact r.inj i
theorem Inv.SO(I:Inv X pins σ H s)(h:cW X.K H a xs)(h':cW X.K H a ys):xs=ys:=by
 obtain⟨c,r,⟨o,e,_,n,d⟩,_⟩:=I.tuple h;obtain⟨b,i,⟨j,g,_,k,f⟩,_⟩:=I.tuple h';rw[e] at g;cases g;rw[d] at f;injection f with d1 _
 have:c=b:=by simpa using e8 Array.toList d1
 subst this;exact r.inj i
end
noncomputable abbrev Cx.JD(X:Cx)(E:Value->Shared->Prop):Cx:={X with xe:=E}
noncomputable abbrev Cx.ZK(X:Cx):Cx:=X.JD λ_ _=>False
theorem Cx.Ok.JD{X:Cx}(ok:X.Ok)(E:Value->Shared->Prop):(X.JD E).Ok :=
 ⟨ok.mod,ok.kind,ok.glob,ok.blt,ok.above,ok.inj,ok.has,ok.nT,ok.hd,ok.frames,ok.stk,ok.exf,ok.bs,ok.Xy,ok.SN,ok.UU,ok.Dc,ok.ZI⟩
theorem Cx.Ok.zL{X:Cx}{E:Value->Shared->Prop}(ok:(X.JD E).Ok):X.Ok :=
 ⟨ok.mod,ok.kind,ok.glob,ok.blt,ok.above,ok.inj,ok.has,ok.nT,ok.hd,ok.frames,ok.stk,ok.exf,ok.bs,ok.Xy,ok.SN,ok.UU,ok.Dc,ok.ZI⟩
section
variable{X:Cx}{pins:List (Addr×Obj)}{σ:St}{H:Hp}{s:Shared}{E:Value->Shared->Prop}
theorem Inv.JD(I:Inv X pins σ H s)(E:Value->Shared->Prop):Inv (X.JD E) pins σ H s:=⟨I.ok.JD E,I.os,I.bare,I.base,I.loc,I.cell,I.free,I.uI,I.pin,I.hok,I.len⟩
theorem Inv.zL(I:Inv (X.JD E) pins σ H s):Inv X pins σ H s:=⟨I.ok.zL,I.os,I.bare,I.base,I.loc,I.cell,I.free,I.uI,I.pin,I.hok,I.len⟩
theorem SP.zL{D:Ends}{f:Flow}{s':Shared}(h:SP (X.JD E) pins D f s'):SP X pins D f s':=by
 cases f with
 |next=>obtain⟨a,b,I,q⟩:=h;exact⟨a,b,I.zL,q⟩
 |brk=>obtain⟨a,b,I,q⟩:=h;exact⟨a,b,I.zL,q⟩
 |cont=>obtain⟨a,b,I,q⟩:=h;exact⟨a,b,I.zL,q⟩
 |ret u=>obtain⟨v,a,b,I,r,q⟩:=h;exact⟨v,a,b,I.zL,r,q⟩
theorem jk.ZK{st:List Stmt}{t:TS}(h:jk X.ZK st t):jk X st t:=λpins s σ H D I a =>
 wpAny_mono (h pins s σ H D (I.JD _) a) (λ_ _ q=>q.zL) λ_ _ z=>jO z
end
section
variable{X:Cx}{st:Stmt}{rest:List Stmt}{t u:TS}{e:Expr}{te:TE}{pos:Pos}
def adN:TS:=λD σ H=>D.nx σ H
def UY(t u:TS):TS:=λD σ H=>t {D with nx:=u D} σ H
theorem aW:jk X [] adN:=λ_ _ a H _ I h=>wpAny_execs_nil ⟨a,H,I,h⟩
theorem ak(j:PS X st t)(g:jk X rest u):jk X (st::rest) (UY t u):=by
 intro a s c H D I h;refine wpAny_execs_cons (gW (j a s c H {D with nx:=u D} I h) λf d q=>?_);cases f with
 |next =>
  obtain⟨b,e,i,q⟩:=q;exact g a d b e D i q
 |ret v=>exact q
 |brk=>exact q
 |cont=>exact q
theorem br(c:PS X st t):jk X [st] t:=by
 intro a s b H D I h;refine wpAny_execs_cons (gW (c a s b H D I h) λf d q=>?_);cases f with
 |next=>exact wpAny_execs_nil q
 |ret v=>exact q
 |brk=>exact q
 |cont=>exact q
theorem Inv.quiet{a:List (Addr×Obj)}{b:St}{H:Hp}{s:Shared}(I:Inv X a b H s):interactive X.env=false:=by simp[interactive,I.ok.kind]
def ZL(te:TE):TS:=λD σ H=>te σ H λ_ H1=>D.nx σ H1
theorem fq(f:PE X e te)(d:swapsWith e none pos.line X.env=pure false:=by rfl):PS X (.Expr e pos) (ZL te):=by
 intro a s b H D I h;exact wpAny_Expr_any (gW (f a s b H _ I h) λv j ⟨x,i,g,k,c⟩=>⟨b,i,g,c⟩) I.quiet d
def XN(te:TE):TS:=λD σ H=>te σ H D.rt
theorem UZ(d:PE X e te):PS X (.Return (some e) pos) (XN te):=by
 intro a s b H D I h;exact wpAny_Return_some (gW (d a s b H _ I h) λv j ⟨x,g,f,i,c⟩=>⟨x,b,g,f,i,c⟩)
def U0(c:TT)(t u:TS):TS:=λD σ H=>c σ H λb H1=>if b=true then t D σ H1 else u D σ H1
theorem b4{c:Expr}{a b:List Stmt}{j:TT}(o:PT X c j)(m:jk X a t)(n:jk X b u):PS X (.If c a b pos) (U0 j t u):=by
 intro e s f H D I h;refine wpAny_If (gW (o e s f H _ I h) λd i ⟨k,g,l⟩=>?_);cases d with
 |true=>exact m e i f k D g l
 |false=>exact n e i f k D g l
def aaR:TS:=λ_ _ _=>False
theorem dJ{a:List Stmt}:jk X a aaR:=λ_ _ _ _ _ _ h=>h.elim
end
abbrev TG:=V->St->Hp->(St->Hp->Prop)->Prop
abbrev ja:=List V->St->Hp->(St->Hp->Prop)->Prop
def PG(X:Cx)(target:Expr)(t:TG):Prop :=
 ∀(pins:List (Addr×Obj)) (s:Shared) (σ:St) (H:Hp) (v:V) (u:Value) (Q:St->Hp->Prop),Inv X pins σ H s->RelV v u->t v σ H Q ->
  wpAny (model X.prog X.w) X.A (assign target X.env u) (λ_ s'=>∃σ' H',Inv X pins σ' H' s'/\Q σ' H') X.xe s
def m6(X:Cx)(ts:List Expr)(t:ja):Prop :=
 ∀(pins:List (Addr×Obj)) (s:Shared) (σ:St) (H:Hp) (vs:List V) (us:List Value) (Q:St->Hp->Prop),Inv X pins σ H s->bX vs us->t vs σ H Q ->
  wpAny (model X.prog X.w) X.A (assignInOrder ((assignEach ts X.env).map (·.2)) us) (λ_ s'=>∃σ' H',Inv X pins σ' H' s'/\Q σ' H') X.xe s
abbrev aaT:=V->V->V->Hp->(Hp->Prop)->Prop
def adO(X:Cx)(t:aaT):Prop :=
 ∀(pins:List (Addr×Obj)) (s:Shared) (σ:St) (H:Hp) (o i v:V) (ov iv u:Value) (Q:Hp->Prop),Inv X pins σ H s->RelV o ov->RelV i iv->RelV v u->t o i v H Q ->
  wpAny (model X.prog X.w) X.A (setItem ov iv u) (λ_ s'=>∃H',Inv X pins σ H' s'/\Q H') X.xe s
section
variable{X:Cx}{pos:Pos}
def iG(i:Nat):TG:=λv σ H Q=>Q (σ.set i (some v)) H
theorem Rf{i:Nat}{x:Str}(b:X.N.Nodup)(d:X.N[i]?=some x)(e:Loc X.env.scope x)(f:X.fn x=true∨X.env.scope.names.lookup x=some .local:=by first|exact .inl rfl|exact .inr rfl|assumption):PG X (.Name x pos) (iG i):=by
 intro a s j H v u Q I r h;exact wpAny_assign_Name (Dd I b d e r (λg c=>⟨_,H,c,h⟩) f)
def ag7:ja:=λvs σ H Q=>vs=[]/\Q σ H
inductive ZM(t:TG)(u:ja)(vs:List V)(σ:St)(H:Hp)(Q:St->Hp->Prop):Prop
 |mk (v:V) (r:List V) (a:vs=v::r) (b:t v σ H λσ' H'=>u r σ' H' Q):ZM t u vs σ H Q
theorem Lx:m6 X [] ag7:=by
 intro a s b H c d Q I r h;obtain⟨e,h⟩:=h;subst e;cases r;exact assignInOrder_nil ⟨b,H,I,h⟩
theorem wM{e:Expr}{b:List Expr}{t:TG}{u:ja}(o:PG X e t)(l:m6 X b u)
 (i:(assignEach (e::b) X.env).map (·.2)=assign e X.env::(assignEach b X.env).map (·.2):=by rfl):m6 X (e::b) (ZM t u):=by
 intro a s d H q w Q I r h;obtain⟨v,p,m,h⟩:=h;subst m;cases r with
 |cons r j =>
  rw[i];refine assignInOrder_cons (gW (o a s d H _ _ _ I r h) λ_ g ⟨c,k,f,n⟩=>?_);exact l a g c k _ _ Q f j n
inductive aaU(K:af)(n:Nat)(t:ja)(v:V)(σ:St)(H:Hp)(Q:St->Hp->Prop):Prop
 |mk (a:Addr) (xs:List V) (h1:v=.ref a) (h2:cW K H a xs) (h3:xs.length=n) (h4:t xs σ H Q):aaU K n t v σ H Q
theorem U1{d:List Expr}{k:Nat}{t:ja}{n:Nat}(C:X.calm=true)(h:m6 X d t)
 (w:(assignEach d X.env).length=n:=by rfl) (g:(assignEach d X.env).findIdx? (·.1)=none:=by rfl):PG X (.Tuple d k pos) (aaU X.K n t):=by
 intro c s i H v u Q I r f;obtain⟨a,l,B,y,z,f⟩:=f;subst B;cases r;obtain⟨m,j,A,D⟩:=I.tuple y;refine assign_Tuple_tuple (I.ok.hd C) A (by simp[w,<- z,j.length]) g λq x=>?_;have p:Inv X c i H {s with heap:=q}:=I.kept (t':=s.toks) λb o e=>x b o (bD (Heap.lt_size e)) e;exact h c _ i H l _ Q p (by simpa using j) f
def ag8(to ti:TE)(t:aaT):TG:=λv σ H Q=>to σ H λo H1=>ti σ H1 λi H2=>t o i v H2 λH3=>Q σ H3
theorem Ly{o i:Expr}{to e:TE}{t:aaT}(w:PE X o to)(m:PE X i e)(l:adO X t)
 (f:∀v,assign (.Subscript o i pos) X.env v=(do
  let b <- holding [v] (eval o X.env);let c <- holding [v,b] (eval i X.env)
  standAt pos
  holding [v,b,c] (setItem b c v)
  release [v,b,c] []):=by intro _;rfl):PG X (.Subscript o i pos) (ag8 to e t):=by
 intro a s d H v u Q I r h;rw[f];refine wpAny_bind (wpAny_holding (gW (w a s d H _ I h) λb k ⟨x,n,g,j,C⟩=>?_));refine wpAny_bind (wpAny_holding (gW (m a k d n _ g C) λc q ⟨y,D,F,B,E⟩=>?_));refine wpAny_bind (wpAny_standAt (wpAny_bind (wpAny_holding (gW (l a q d D x y v b c u _ F j B r E) λ_ G ⟨p,z,A⟩=>?_))));exact wpAny_release ⟨d,p,z,A⟩
def XO(te:TE)(g:TG):TS:=λD σ H=>te σ H λx H1=>g x σ H1 D.nx
theorem Lz{b e:Expr}{d:TE}{g:TG}(o:PE X e d)(n:PG X b g)(l:swapsWithSole [b] e pos.line X.env=pure false:=by rfl)(f:swappedStores [b] e X.env=pure none:=by rfl)
 (r:(assignEach [b] X.env).map (·.2)=[assign b X.env]:=by rfl):PS X (.Assign [b] e pos) (XO d g):=by
 intro a s c H D I h;refine wpAny_Assign_stores (gW (o a s c H _ I h) λv k ⟨x,m,i,j,p⟩=>?_) l f;rw[r];exact gW (n a k c m x v _ i j p) λ_ t q=>q
theorem aaV{i:Nat}{x:Str}{e:Expr}{c:TE}{a:Pos}(j:X.N.Nodup)(m:X.N[i]?=some x)(k:Loc X.env.scope x)(p:PE X e c)(l:swapsWith e (some (.Name x a)) pos.line X.env=pure false:=by rfl)(n:X.fn x=true∨X.env.scope.names.lookup x=some .local:=by first|exact .inl rfl|exact .inr rfl|assumption) :
 PS X (.Assign [.Name x a] e pos) (XO c (iG i)):=by
 intro b s d H D I h;refine wpAny_Assign_Name (gW (p b s d H _ I h) λv t ⟨y,o,f,g,q⟩=>?_) l;exact Dd f j m k g (λu r=>⟨_,o,r,q⟩) n
def ag9(i j:Nat)(ta:TA):TS:=λD σ H=>ta σ H λvs H1=>∃v w,vs=[v,w]/\D.nx ((σ.set i (some v)).set j (some w)) H1
theorem aaW{i j:Nat}{x y:Str}{a b:Expr}{E:TA}{k n l:Pos}{kt k2 pt2}(Z:X.calm=true)(B:X.N.Nodup)(Q:X.N[i]?=some x)(Y:X.N[j]?=some y)(m:i≠j)
 (C:X.env.scope.names.lookup x=some .local) (G:X.env.scope.names.lookup y=some .local) (M:PA X [a,b] E)
 (L:swappedStores [.Tuple [.Name x k,.Name y n] kt l] (.Tuple [a,b] k2 pt2) X.env=pure (some [x,y]))
 (R:swapsWithSole [.Tuple [.Name x k,.Name y n] kt l] (.Tuple [a,b] k2 pt2) pos.line X.env=pure false:=by rfl) :
 PS X (.Assign [.Tuple [.Name x k,.Name y n] kt l] (.Tuple [a,b] k2 pt2) pos) (ag9 i j E):=by
 intro c s z H D I h;rw[exec_Assign_arm];refine wpAny_bind (wpAny_standAt ?_);rw[R];refine wpAny_bind (wpAny_pure ?_);rw[b5 (!_)];refine wpAny_bind (Tuple_ (gW (M _ c s z H _ I h) λU f ⟨vs,F,O,P,r⟩=>?_));obtain⟨v,w,W,r⟩:=r;subst W;obtain⟨d,g,rfl,V,u⟩:∃d g,U=[d,g]/\RelV v d/\RelV w g:=by
  cases P with
  |cons p q =>
   cases q with
   |cons T K =>
    cases K;exact⟨_,_,rfl,p,T⟩
 refine wpAny_newObj_type ?_ fy;have I2:Inv X c z F {f with heap:=f.heap.push {cls:=.type "tuple",data:=.seq [d,g].toArray}}:=O.kept (t':=f.toks) λb o e=>Heap.get?_push_of_some _ e;rw[L];refine wpAny_bind (wpAny_pure ?_);show wpAny (model X.prog X.w) X.A (do rule "assign.swapped-stores";let items <- unpackItems (.ref f.heap.objs.size) 2 none;assignInOrder [λv=>bindName X.env y v,λv=>bindName X.env x v] items.reverse;pure Flow.next) _ _ _;refine wpAny_bind (wpAny_rule (wpAny_bind (unpackItems_tuple (items:=#[d,g]) (I.ok.hd Z) (IsTup.new f.heap _) λh' t=>?_)));have S:=I2.kept (h':=h') (t':=f.toks) λb o e=>t b o (bD (Heap.lt_size e)) e;show wpAny _ _ (assignInOrder [λv=>bindName X.env y v,λv=>bindName X.env x v] [g,d] >>= λ_=>pure Flow.next) _ _ _;refine wpAny_bind (assignInOrder_cons (wpAny_bindName (Dd S B Y (.inl G) u (λs2 I4=>?_) (.inr G))));refine assignInOrder_cons (wpAny_bindName (Dd I4 B Q (.inl C) V (λs3 J=>assignInOrder_nil (wpAny_pure ?_)) (.inr C)));rw[List.set_comm _ _ (bP m)] at J;exact⟨_,F,J,r⟩
def U3(c:TT)(tb:TS):TS:=λD σ H=>∃W:Nat->St->Hp->Prop,(∃m,W m σ H)/\∀m σ H,W m σ H ->
 c σ H λb H1=>if b=true then ∃N:St->Hp->Prop,(∀σ' H',N σ' H'->∃m',m'<m/\W m' σ' H')/\tb {D with nx:=N,ct:=N,bk:=D.nx} σ H1 else D.nx σ H1
theorem U4{c:Expr}{g:List Stmt}{x:TT}{B:TS}(C:PassesOwn (model X.prog X.w) X.A X.env X.xe)(S:PT X c x)(L:jk X g B):PS X (.While c g [] pos) (U3 x B):=by
 intro d s G H D I h;obtain⟨W,⟨Q,M⟩,i⟩:=h;refine wpAny_While (codeAny_whileLoop (λn R=>∃k z,Inv X d k z R/\W n k z) ?_ Q ⟨G,H,I,M⟩);rintro n O ⟨e,y,J,K⟩;refine wpAny_passesOwn C (gW (S d O e y _ J (i n e y K)) λb P ⟨E,F,m⟩=>?_);cases b with
 |true =>
  obtain⟨N,u,m⟩:=m;rw[b3 rfl];refine wpAny_passesOwn C (gW (L d P e E _ F m) λf T l=>?_);cases f with
  |next =>
   obtain⟨a,j,q,p⟩:=l;obtain⟨r,o,t⟩:=u a j p;exact⟨r,o,a,j,q,t⟩
  |cont =>
   obtain⟨a,j,q,p⟩:=l;obtain⟨r,o,t⟩:=u a j p;exact⟨r,o,a,j,q,t⟩
  |brk=>exact l
  |ret v=>exact l
 |false =>
  rw[b5 aC];exact wpAny_execs_nil ⟨e,E,F,m⟩
end
structure It where
 go:Nat->Hp->Prop
 LA:Nat->Hp->V->Hp->Prop
 stop:Nat->Hp->Prop
def Dh(X:Cx)(pins:List (Addr×Obj))(H:Hp)(b:Addr):Prop :=
 H b=none/\b≠X.env.locals/\b∉X.fs/\(b∈X.ex∨X.s₀.heap.objs.size<=b)/\(∀x c,X.env.cells.lookup x=some c->c≠b)/\∀p∈X.pn++pins,p.1≠b
theorem Inv.U5{X:Cx}{a:List (Addr×Obj)}{g:St}{H f:Hp}{s:Shared}{b:Addr}(I:Inv X a g H s)(d:s.heap.objs.size<=b)(h:f b=none):Dh X a f b:=by
 refine⟨h,Nat.ne_of_gt (bG I.lt d),I.ag1 d,.inr (aJ I.sz d),λx c e z=>?_,λp i z=>?_⟩
 ·obtain⟨v,q⟩:=I.cell x c e
  exact ee (bG q.lt (by rw[z];exact d)) (jh _)
 ·exact ee (bG (Heap.lt_size (I.pin p i).1) (by rw[z];exact d)) (jh _)
structure Turn(P:Program)(w:World)(K:af)(tg:Expr)(J:It)(fp:List Addr)(it:Addr)(tn:Nat->Heap->Prop):Prop where
 mem:it∈fp
 obj:∀i h,tn i h->∀b∈fp,∃o,h.get? b=some o/\∀v,o.data≠.cell v
 keep:∀i h h',tn i h->(∀b∈fp,∀o,h.get? b=some o->h'.get? b=some o)->tn i h'
 item:∀(X:Cx),X.prog=P->X.w=w->X.K=K->X.calm=true->∀(i:Nat) (pins:List (Addr×Obj)) (s:Shared) (σ:St) (H:Hp) (E:Value->Shared->Prop),Inv X pins σ H s->(∀b∈fp,Dh X pins H b)->tn i s.heap->J.go i H ->
  wpAny (model P w) X.A (pyNext (.ref it)) (λr s1=>∃u,r=some u /\
   wpAny (model P w) X.A (letOwnedTupleGo tg (.ref it) u) (λ_ s2=>∃x H',Inv X pins σ H' s2/\RelV x u/\J.LA i H x H'/\tn (i+1) s2.heap/\∀b∈fp,H' b=none) E s1) E s
 done:∀(X:Cx),X.prog=P->X.w=w->X.K=K->X.calm=true->∀(i:Nat) (pins:List (Addr×Obj)) (s:Shared) (σ:St) (H:Hp) (E:Value->Shared->Prop),Inv X pins σ H s->(∀b∈fp,Dh X pins H b)->tn i s.heap->J.stop i H ->
  wpAny (model P w) X.A (pyNext (.ref it)) (λr s1=>r=none/\Inv X pins σ H s1) E s
 self:∀(A:Around) (i:Nat) (s:Shared) (Q:Value->Shared->Prop) (E:Value->Shared->Prop),tn i s.heap->Q (.ref it) s->wpAny (model P w) A (pyIter (.ref it)) Q E s
abbrev TI:=St->Hp->(It->Hp->Prop)->Prop
def PIE(X:Cx)(pins:List (Addr×Obj))(σ:St)(tg:Expr)(R:It->Hp->Prop)(itv:Value)(s2:Shared):Prop :=
 ∃(it:Addr) (fp:List Addr) (tn:Nat->Heap->Prop) (J:It) (H':Hp),itv=.ref it/\Inv X pins σ H' s2/\Turn X.prog X.w X.K tg J fp it tn/\tn 0 s2.heap/\(∀b∈fp,Dh X pins H' b)/\R J H'
def PI(X:Cx)(tg iter:Expr)(wi:TI):Prop :=
 ∀(pins:List (Addr×Obj)) (s:Shared) (σ:St) (H:Hp) (R:It->Hp->Prop),Inv X pins σ H s->wi σ H R ->
  wpAny (model X.prog X.w) X.A (eval iter X.env) (λv s1=>wpAny (model X.prog X.w) X.A (pyIter v) (PIE X pins σ tg R) X.xe s1) X.xe s
theorem U6{M:Model}{A:Around}{E:Value->Shared->Prop}{s:Shared}{c:Expr}{b:Addr}{u:Value}{o:Obj}{n:String}{vs:Array Value}{Q:Unit->Shared->Prop}(e:s.heap.get? b=some o)(g:o.cls=.type n)(f:o.data=.fields vs)
 (d:["enumerate","zip","dict_itemiterator","dict_reverseitemiterator","odict_iterator","itertools.zip_longest","itertools.pairwise"].contains n=false) (a:Q () s):wpAny M A (letOwnedTupleGo c (.ref b) u) Q E s:=by
 unfold letOwnedTupleGo;cases c <;> first
  |exact wpAny_pure a
  | (cases u <;> first
   |exact wpAny_pure a
   | (refine wpAny_bind (wpAny_load e ?_)
      rw[g,f];show wpAny M A (if (["enumerate","zip","dict_itemiterator","dict_reverseitemiterator","odict_iterator","itertools.zip_longest","itertools.pairwise"].contains n&&vs[0]?==some (rawInt _))=true then _ else _) Q E s;rw[b5 (by intro h;rw[d,Bool.false_and] at h;cases h)];exact wpAny_pure a))
noncomputable def LB(K:af)(a:Addr):It :=
 ⟨λi H=>∃xs x,bK K H a xs/\xs[i]?=some x,λi H x H'=>H'=H/\∀xs,bK K H a xs->xs[i]?=some x,λi H=>∃xs,bK K H a xs/\xs.length<=i⟩
noncomputable def UQ(K:af)(a:Addr):It :=
 ⟨λi H=>∃xs x,cW K H a xs/\xs[i]?=some x,λi H x H'=>H'=H/\∀xs,cW K H a xs->xs[i]?=some x,λi H=>∃xs,cW K H a xs/\xs.length<=i⟩
noncomputable def U7(lo:Int)(n:Nat):It:=⟨λi _=>i<n,λi H x H'=>H'=H/\x=.int (lo+i),λi _=>n<=i⟩
theorem SQ{P:Program}{w:World}{K:af}{tg:Expr}(a g:Addr):Turn P w K tg (LB K a) [g] g (λi h=>h.IsListIter g a i) where
 mem:=-_
 obj:=λi h st b j=>by
  have e:b=g:=by simpa using j
  subst e;obtain⟨o,e,c,d⟩:=st;exact⟨o,e,λv z=>by rw[d] at z;cases z⟩
 keep:=λi h m st k=>st.at λo e=>k g (-_) o e
 item:=by
  intro X D t J O i f s N H E I q st F;subst D t J;obtain⟨Q,x,n,C⟩:=F;obtain⟨y,L,p,Y⟩:=I.list n;obtain⟨u,U,T⟩:=L.get C;obtain⟨M,r,Z,B,G,A⟩:=q g (-_);refine wpAny_pyNext_list_item st p.isList (x:=u) (by simpa using U) λm l S=>?_;have R:Inv X f N H {s with heap:=m}:=I.turned (t':=s.toks) (λb o j e=>(S.2 b j).trans e) M r B G A;obtain⟨o,e,c,d⟩:=id l;exact⟨u,rfl,U6 (s:={s with heap:=m}) e c d (!_) ⟨x,H,R,T,⟨rfl,λys W=>by rw[I.M3 W n];exact C⟩,l,λb j=>(q b j).1⟩⟩
 done:=by
  intro X D t J O i f s N H E I q st F;subst D t J;obtain⟨Q,n,C⟩:=F;obtain⟨y,L,p,Y⟩:=I.list n;obtain⟨M,r,Z,B,G,A⟩:=q g (-_);have hl:=L.length;exact wpAny_pyNext_list_end (I.ok.hd O) st p.isList (by simp;lia) λm V=>⟨rfl,I.turned (t':=s.toks) (λb o j e=>V b o j e) M r B G A⟩
 self:=λ_ _ _ _ _ st h=>wpAny_pyIter_listiter st h
theorem Pz{P:Program}{w:World}{K:af}{tg:Expr}(a j:Addr):Turn P w K tg (UQ K a) [j] j (λi h=>h.IsTupleIter j a i) where
 mem:=-_
 obj:=λi h st b l=>by
  have e:b=j:=by simpa using l
  subst e;obtain⟨o,e,c,d⟩:=st;exact⟨o,e,λv z=>by rw[d] at z;cases z⟩
 keep:=λi h n st k=>st.at λo e=>k j (-_) o e
 item:=by
  intro X D y J O i f s N H E I r st F;subst D y J;obtain⟨Q,x,q,C⟩:=F;obtain⟨g,L,p,Y⟩:=I.tuple q;obtain⟨u,U,T⟩:=L.get C;obtain⟨M,t,Z,B,G,A⟩:=r j (-_);refine wpAny_pyNext_tuple_item st (show s.heap.IsTuple a g.toArray from p) (x:=u) (by simpa using U) λn m S=>?_;have R:Inv X f N H {s with heap:=n}:=I.turned (t':=s.toks) (λb o l e=>(S.2 b l).trans e) M t B G A;obtain⟨o,e,c,d⟩:=id m;exact⟨u,rfl,U6 (s:={s with heap:=n}) e c d (!_) ⟨x,H,R,T,⟨rfl,λys W=>by rw[I.SO W q];exact C⟩,m,λb l=>(r b l).1⟩⟩
 done:=by
  intro X D y J O i f s N H E I r st F;subst D y J;obtain⟨Q,q,C⟩:=F;obtain⟨g,L,p,Y⟩:=I.tuple q;obtain⟨M,t,Z,B,G,A⟩:=r j (-_);have hl:=L.length;exact wpAny_pyNext_tuple_end (I.ok.hd O) st (show s.heap.IsTuple a g.toArray from p) (by simp;lia) λn V=>⟨rfl,I.turned (t':=s.toks) (λb o l e=>V b o l e) M t B G A⟩
 self:=λ_ _ _ _ _ st h=>wpAny_pyIter_tupleiter st h
theorem PB{P:Program}{w:World}{K:af}{N:Expr}(a:Addr)(lo:Int)(n:Nat):Turn P w K N (U7 lo n) [a] a (λi h=>IsRangeIter h a (lo+(i:Nat)*1) ((n:Int)-(i:Nat)) 1) where
 mem:=-_
 obj:=λi h st b d=>by
  have e:b=a:=by simpa using d
  subst e;exact⟨_,st,λv z=>by
   have O:Data.fields _=Data.cell v:=z;cases O⟩
 keep:=λi h g st k=>k a (-_) _ st
 item:=by
  intro X r m y A i c s C H E I j st u;subst r m y;obtain⟨B,l,M,q,x,p⟩:=j a (-_);have W:=Walks.range (prog:=X.prog) (w:=X.w) (I.ok.hd A) a lo 1 n;refine W.item i s _ _ u st λv g D J f G=>?_;obtain⟨t,rfl⟩:=J;have F:Inv X c C H {s with heap:=g,toks:=D}:=I.turned (λb o d e=>G b o (by simpa using d) e) B l q x p;refine⟨_,rfl,U6 (s:={s with heap:=g,toks:=D}) (n:="range_iterator") f rfl rfl (!_) ⟨.int (lo+i),H,F,⟨t,?_⟩,⟨rfl,rfl⟩,f,λb d=>(j b d).1⟩⟩;rw[Int.mul_one]
 done:=by
  intro X r m y A i c s C H E I j st u;subst r m y;obtain⟨B,l,M,q,x,p⟩:=j a (-_);exact wpAny_pyNext_range_end (I.ok.hd A) st (by have:n<=i:=u;lia) λg L=>⟨rfl,I.turned (t':=s.toks) (λb o d e=>L b o d e) B l q x p⟩
 self:=λ_ _ _ _ _ st h=>wpAny_pyIter_rangeiter st h
section
variable{X:Cx}{tg:Expr}
inductive ZN(K:af)(R:It->Hp->Prop)(x:V)(H1:Hp):Prop
 |mk (a:Addr) (h1:x=.ref a) (h2:∃xs,bK K H1 a xs) (h3:R (LB K a) H1):ZN K R x H1
def adP(K:af)(tl:TE):TI:=λσ H R=>tl σ H (ZN K R)
def ahb(K:af)(tl:TE):TI:=λσ H R=>tl σ H λx H1=>∃a,x=.ref a/\(∃xs,cW K H1 a xs)/\R (UQ K a) H1
theorem gj{l:Expr}{g:TE}(hl:PE X l g):PI X tg l (adP X.K g):=by
 intro c s i H R I h;refine gW (hl c s i H _ I h) λv f ⟨x,r,d,m,t⟩=>?_;obtain⟨a,e,⟨u,n⟩,q⟩:=t;subst e;cases m;obtain⟨j,y,p,w⟩:=d.list n;refine wpAny_pyIter_list p.isList ?_;refine⟨f.heap.objs.size,[f.heap.objs.size],_,_,r,rfl,d.kept (t':=f.toks) λb o e=>Heap.get?_push_of_some _ e,SQ a _,⟨_,Heap.get?_push_size _ rfl,rfl,rfl⟩,λb k=>?_,q⟩;have e:b=f.heap.objs.size:=by simpa using k
 subst e;exact d.U5 (ay _) (d.hok.fresh (ay _))
theorem PD{l:Expr}{i:TE}(hl:PE X l i):PI X tg l (ahb X.K i):=by
 intro d s j H R I h;refine gW (hl d s j H _ I h) λv c ⟨x,r,f,m,t⟩=>?_;obtain⟨a,e,⟨u,n⟩,q⟩:=t;subst e;cases m;obtain⟨g,y,p,w⟩:=f.tuple n;refine wpAny_pyIter_tuple (show c.heap.IsTuple a g.toArray from p) ?_;refine⟨c.heap.objs.size,[c.heap.objs.size],_,_,r,rfl,f.kept (t':=c.toks) λb o e=>Heap.get?_push_of_some _ e,Pz a _,⟨_,Heap.get?_push_size _ rfl,rfl,rfl⟩,λb k=>?_,q⟩;have e:b=c.heap.objs.size:=by simpa using k
 subst e;exact f.U5 (ay _) (f.hok.fresh (ay _))
theorem U8{c:List (Addr×Obj)}{d:St}{H:Hp}{s:Shared}{R:It->Hp->Prop}{E:Value->Shared->Prop}{lo a:Int}{t u v:Tok}{tk:Nat}(I:Inv X c d H s)(m:-(2^62)<=lo)(j:lo<2^62)(g:-(2^62)<=a)(l:a<2^62)
 (q:R (U7 lo (a-lo).toNat) H):wpAny (model X.prog X.w) X.A (pyIter (.ref s.heap.objs.size)) (PIE X c d tg R) E {s with heap:=s.heap.push {cls:=.type "range",data:=.fields #[.int lo t,.int a u,.int 1 v]},toks:=tk}:=by
 refine wpAny_pyIter_range (IsRange.new ..) (small_one m j g l) ?_;have f:Inv X c d H {s with heap:=s.heap.push {cls:=.type "range",data:=.fields #[.int lo t,.int a u,.int 1 v]},toks:=tk}:=I.kept λb o e=>Heap.get?_push_of_some _ e;refine⟨(s.heap.push {cls:=.type "range",data:=.fields #[.int lo t,.int a u,.int 1 v]}).objs.size,[(s.heap.push {cls:=.type "range",data:=.fields #[.int lo t,.int a u,.int 1 v]}).objs.size],_,_,H,rfl,
  f.kept (t':=tk) λb o e=>Heap.get?_push_of_some _ e,PB _ lo (a-lo).toNat,?_,λb i=>?_,q⟩
 ·have k:lo+((0:Nat):Int)*1=lo:=-_
  have h:(((a-lo).toNat:Nat):Int)-((0:Nat):Int)=Builtin.Range.rangeSize lo a 1:=by rw[rangeSize_one];split <;> lia
  show IsRangeIter _ _ (lo+((0:Nat):Int)*1) ((((a-lo).toNat:Nat):Int)-((0:Nat):Int)) 1;rw[k,h];exact Heap.get?_push_size _ rfl
 ·have e:b=(s.heap.push {cls:=.type "range",data:=.fields #[.int lo t,.int a u,.int 1 v]}).objs.size:=by simpa using i
  subst e;exact f.U5 (ay _) (f.hok.fresh (ay _))
inductive ZO(R:It->Hp->Prop)(vs:List V)(H1:Hp):Prop
 |mk (j:Int) (h1:vs=[.int j]) (h2:-(2^62)<=j) (h3:j<2^62) (h4:R (U7 0 j.toNat) H1):ZO R vs H1
def ZP(ta:TA):TI:=λσ H R=>ta σ H (ZO R)
theorem d8{a:Expr}{f:TA}{p c:Pos}(u:Gl X "range")(g:X.mg "range" = none)(k:PA X [a] f)(n:starEach [a] X.env=[(false,eval a X.env)]:=by rfl):PI X tg (.Call (.Name "range" p) [a] [] c) (ZP f):=by
 intro b s i H R I h;refine Call_ (G6 I u g boot_range (PyProof.Rows.callWith_type1 (gW (k c b s i H _ I h) λz w ⟨y,x,l,m,d⟩=>?_) n rfl));obtain⟨j,e,d,v,q⟩:=d;subst e;cases m with
 |cons r o =>
  cases o;obtain⟨t,rfl⟩:=r;exact call_range_1 (U8 l ∅ ∅ d v (by simpa using q))
def adQ(wi:TI)(g:TG)(tb:TS):TS:=λD σ H=>wi σ H λJ H1=>∃W:Nat->Nat->St->Hp->Prop,(∃m,W 0 m σ H1)/\∀i m σ H,W i m σ H ->
 (J.stop i H/\D.nx σ H)∨(J.go i H/\∃N:St->Hp->Prop,(∀σ' H',N σ' H'->∃m',m'<m/\W (i+1) m' σ' H')/\∀x H',J.LA i H x H'->g x σ H' λσ2 H2=>tb {D with nx:=N,ct:=N,bk:=D.nx} σ2 H2)
noncomputable def G7(fp:List Addr)(h:Heap):List (Addr×Obj):=fp.filterMap λb=>(h.get? b).map λo=>(b,o)
theorem Cj{fp:List Addr}{h:Heap}{b:Addr}{o:Obj}(a:b∈fp)(e:h.get? b=some o):(b,o)∈G7 fp h:=List.mem_filterMap.mpr ⟨b,a,by rw[e];rfl⟩
theorem SR{fp:List Addr}{h:Heap}{p:Addr×Obj}(c:p∈G7 fp h):p.1∈fp/\h.get? p.1=some p.2:=by
 obtain⟨b,d,e⟩:=List.mem_filterMap.mp c;cases q:h.get? b with
 |none=>rw[q] at e;cases e
 |some o =>
  rw[q] at e;have a:(b,o)=p:=aN e;subst a;exact⟨d,q⟩
theorem Inv.pinned{a:List (Addr×Obj)}{c:St}{H:Hp}{s:Shared}{fp:List Addr}(I:Inv X a c H s)(i:∀b∈fp,Dh X a H b)(j:∀b∈fp,∃o,s.heap.get? b=some o/\∀v,o.data≠.cell v):Inv X (a++G7 fp s.heap) c H s :=
 I.Rc λp k=>(bz.mp k).elim (λz=>I.pin p (cR _ z)) λz=>by
  obtain⟨g,e⟩:=SR z;obtain⟨m,h,l,_⟩:=i p.1 g;obtain⟨o,f,d⟩:=j p.1 g;rw[e] at f;cases f;exact⟨e,m,h,l,d⟩
theorem Inv.Di{a pl:List (Addr×Obj)}{b:St}{H:Hp}{s:Shared}(I:Inv X (a++pl) b H s):Inv X a b H s:=I.Rc λp c=>I.pin p (cR _ (oJ _ c))
theorem aaX{j:Expr}{B:List Stmt}{wi:TI}{g:TG}{tb:TS}{S:Pos}(F:PassesOwn (model X.prog X.w) X.A X.env X.xe)(hc:X.calm=true)(hi:PI X tg j wi)(hg:PG X tg g)(p:jk X B tb)
 (hs:∀x,foldedSetIterable j X.env x=pure x:=by intro _;rfl):PS X (.For tg j B [] S) (adQ wi g tb):=by
 intro a s σ H D I h;refine wpAny_For (gW (hi a s σ H _ I h) λv s1 h1=>gW h1 λitv s2 h2=>?_) hs;obtain⟨it,G,tn,J,H2,e,I2,T,Z,f2,W,⟨m0,w0⟩,M⟩:=h2;subst e;have c:∀{z:Hp},(∀b∈G,z b=none)->∀b∈G,Dh X a z b:=λhn b p=>⟨hn b p,(f2 b p).2⟩;refine codeAny_forLoop_any (λn s'=>∃i q z,Inv X a q z s'/\tn i s'.heap/\(∀b∈G,z b=none)/\W i n q z) ?_ m0 ⟨0,σ,H2,I2,Z,λb p=>(f2 b p).1,w0⟩;rintro n s3 ⟨i,l,P,I3,L,K,w3⟩;rcases M i n l P w3 with ⟨O,qn⟩|⟨go,N,hN,step⟩
 ·refine wpAny_passesOwn F (gW (T.done X rfl rfl rfl hc i a s3 l P X.xe I3 (c K) L O) λr s4 ⟨R,I4⟩=>?_)
  subst R;exact wpAny_execs_nil ⟨l,P,I4,qn⟩
 ·refine wpAny_passesOwn F (gW (T.item X rfl rfl rfl hc i a s3 l P X.xe I3 (c K) L go) λr s4 ⟨u,R,h4⟩=>?_)
  subst R;refine wpAny_passesOwn F (gW h4 λ_ s5 ⟨x,H5,I5,r5,y5,V,Y⟩=>?_);have U:=I5.pinned (c Y) (T.obj _ _ V);refine wpAny_passesOwn F (gW (hg _ s5 l H5 x u _ U r5 (step x H5 y5)) λ_ s6 ⟨Q,H6,I6,q6⟩=>?_);refine wpAny_passesOwn F (gW (p _ s6 Q H6 _ I6 q6) λf s7 C=>?_);have again:∀{y:St} {t:Hp},Inv X (a++G7 G s5.heap) y t s7->N y t->∃m,m<n/\∃i q z,Inv X a q z s7/\tn i s7.heap/\(∀b∈G,z b=none)/\W i m q z:=λ{y t} k E=>by
   obtain⟨m',hm,w7⟩:=hN y t E;refine⟨m',hm,i+1,y,t,k.Di,T.keep _ _ _ V λb p o e=>(k.pin (b,o) (cR _ (cR _ (Cj p e)))).1,λb p=>?_,w7⟩;obtain⟨o,e,d⟩:=T.obj _ _ V b p;exact (k.pin (b,o) (cR _ (cR _ (Cj p e)))).2.1
  cases f with
  |next=>obtain⟨y,t,k,E⟩:=C;exact again k E
  |cont=>obtain⟨y,t,k,E⟩:=C;exact again k E
  |brk=>obtain⟨y,t,k,C⟩:=C;exact⟨y,t,k.Di,C⟩
  |ret v=>obtain⟨x7,y,t,k,r7,C⟩:=C;exact⟨x7,y,t,k.Di,r7,C⟩
end
theorem sO{K:af}{a:Addr}{xs:List V}{g:TG}{n:TS}{D:Ends}{b:St}{H:Hp}(c:Nat->St->Hp->Prop)(u:c 0 b H)(hl:∀i b H,i<=xs.length->c i b H->bK K H a xs)
 (r:∀i x b H,xs[i]?=some x->c i b H->g x b H λd k=>n {D with nx:=c (i+1),ct:=c (i+1),bk:=D.nx} d k) (s:∀b H,c xs.length b H->D.nx b H) :
 ∃W:Nat->Nat->St->Hp->Prop,(∃m,W 0 m b H)/\∀i m b H,W i m b H ->
  ((LB K a).stop i H/\D.nx b H)∨((LB K a).go i H/\∃N:St->Hp->Prop,(∀h f,N h f->∃l,l<m/\W (i+1) l h f)/\∀x f,(LB K a).LA i H x f->g x b f λd k=>n {D with nx:=N,ct:=N,bk:=D.nx} d k):=by
 refine⟨λi m b H=>m=xs.length-i/\i<=xs.length/\c i b H,⟨xs.length,-_,bE _,u⟩,?_⟩;rintro i m b H ⟨rfl,o,p⟩;have q:=hl i b H o p;by_cases j:i<xs.length
 ·refine .inr ⟨⟨xs,xs[i],q,by simp[j]⟩,c (i+1),λh f t=>⟨xs.length-(i+1),∅,rfl,j,t⟩,λx f y=>?_⟩
  obtain⟨e,y⟩:=y;subst e;exact r i x b _ (y xs q) p
 ·have e:i=xs.length:=∅
  subst e;exact .inl ⟨⟨xs,q,ay _⟩,s b H p⟩
theorem sF{lo:Int}{n:Nat}{g:TG}{l:TS}{D:Ends}{a:St}{H:Hp}(h:Nat->St->Hp->Prop)(s:h 0 a H)
 (o:∀i a H,i<n->h i a H->g (.int (lo+i)) a H λb j=>l {D with nx:=h (i+1),ct:=h (i+1),bk:=D.nx} b j) (q:∀a H,h n a H->D.nx a H) :
 ∃W:Nat->Nat->St->Hp->Prop,(∃m,W 0 m a H)/\∀i m a H,W i m a H ->
  ((U7 lo n).stop i H/\D.nx a H)∨((U7 lo n).go i H/\∃N:St->Hp->Prop,(∀f d,N f d->∃k,k<m/\W (i+1) k f d)/\∀x d,(U7 lo n).LA i H x d->g x a d λb j=>l {D with nx:=N,ct:=N,bk:=D.nx} b j):=by
 refine⟨λi m a H=>m=n-i/\i<=n/\h i a H,⟨n,-_,bE _,s⟩,?_⟩;rintro i m a H ⟨rfl,t,p⟩;by_cases c:i<n
 ·refine .inr ⟨c,h (i+1),λf d r=>⟨n-(i+1),∅,rfl,c,r⟩,λx d y=>?_⟩
  obtain⟨e,y⟩:=y;subst e y;exact o i a _ c p
 ·have e:i=n:=∅
  subst e;exact .inl ⟨ay _,q a H p⟩
theorem Va{c:TT}{k:TS}{D:Ends}{a:St}{H:Hp}(h:St->Hp->Prop)(i:St->Hp->Nat)(r:h a H)
 (n:∀a H,h a H->c a H λb e=>if b=true then k {D with nx:=λd f=>h d f/\i d f<i a H,ct:=λd f=>h d f/\i d f<i a H,bk:=D.nx} a e else D.nx a e)
 (g:∀a H Q j,(∀b e,Q b e->j b e)->c a H Q->c a H j):U3 c k D a H:=by
 refine⟨λm a H=>m=i a H/\h a H,⟨_,rfl,r⟩,?_⟩;rintro m a H ⟨rfl,p⟩;refine g a H _ _ (λb e q=>?_) (n a H p);cases b with
 |true=>exact⟨_,λd f ⟨o,l⟩=>⟨_,l,rfl,o⟩,q⟩
 |false=>exact q
abbrev R2:=V->V->Hp->VK->Prop
def wN(X:Cx)(f:Value->Value->Sem Value)(r:R2):Prop :=
 ∀(pins:List (Addr×Obj)) (s:Shared) (σ:St) (H:Hp) (x y:V) (v u:Value) (Q:VK),Inv X pins σ H s->RelV x v->RelV y u->r x y H Q ->
  wpAny (model X.prog X.w) X.A (f v u) (EP X pins σ Q) X.xe s
def UnR(X:Cx)(f:Value->Sem Value)(r:V->Hp->VK->Prop):Prop :=
 ∀(pins:List (Addr×Obj)) (s:Shared) (σ:St) (H:Hp) (x:V) (v:Value) (Q:VK),Inv X pins σ H s->RelV x v->r x H Q ->
  wpAny (model X.prog X.w) X.A (f v) (EP X pins σ Q) X.xe s
def p9(X:Cx)(f:Value)(r:List V->Hp->VK->Prop):Prop :=
 ∀(pins:List (Addr×Obj)) (s:Shared) (σ:St) (H:Hp) (xs:List V) (us:List Value) (Q:VK),Inv X pins σ H s->bX xs us->r xs H Q ->
  wpAny (model X.prog X.w) X.A (call f us) (EP X pins σ Q) X.xe s
def ahd(X:Cx)(r:V->Hp->(Bool->Hp->Prop)->Prop):Prop :=
 ∀(pins:List (Addr×Obj)) (s:Shared) (σ:St) (H:Hp) (x:V) (v:Value) (Q:Bool->Hp->Prop),Inv X pins σ H s->RelV x v->r x H Q ->
  wpAny (model X.prog X.w) X.A (truthy v) (TP X pins σ Q) X.xe s
def Vb(r:R2)(ta tb:TE):TE:=λσ H Q=>ta σ H λx H1=>tb σ H1 λy H2=>r x y H2 Q
def tUn(r:V->Hp->VK->Prop)(ta:TE):TE:=λσ H Q=>ta σ H λx H1=>r x H1 Q
inductive rI(C:Int->Int->Prop)(g:Int->Int->V)(x y:V)(H:Hp)(Q:VK):Prop
 |mk (i j:Int) (h1:x=.int i) (h2:y=.int j) (h3:C i j) (h4:Q (g i j) H):rI C g x y H Q
inductive Vc(g:Int->Int->V)(x y:V)(H:Hp)(Q:VK):Prop
 |mk (i j:Int) (h1:x=.int i) (h2:y=.int j) (h3:Q (g i j) H):Vc g x y H Q
def rU(g:Int->V):V->Hp->VK->Prop:=λx H Q=>∃i,x=.int i/\Q (g i) H
section
variable{X:Cx}{a b c:Expr}{ta tb tc:TE}{pos:Pos}
theorem aaY(l:PE X a ta)(n:PE X b tb){c:List (Addr×Obj)}{s:Shared}{d:St}{H:Hp}{R:V->V->Hp->Prop}(I:Inv X c d H s)
 (h:ta d H λx k=>tb d k λy e=>R x y e) {Q:Value->Shared->Prop} {f:Value->Value->Sem Value}
 (q:∀v u j x y e,Inv X c d e j->RelV x v->RelV y u->R x y e->wpAny (model X.prog X.w) X.A (f v u) Q X.xe j) :
 wpAny (model X.prog X.w) X.A (eval a X.env) (λv i=>wpAny (model X.prog X.w) X.A (eval b X.env) (λu g=>wpAny (model X.prog X.w) X.A (f v u) Q X.xe g) X.xe i) X.xe s:=by
 refine gW (l c s d H _ I h) λv p ⟨x,k,m,o,t⟩=>?_;refine gW (n c p d k _ m t) λu j ⟨y,e,B,r,z⟩=>?_;exact q v u j x y e B o r z
theorem aY{op:Operator}{r:R2}(j:wN X (binaryOp op) r)(f:PE X a ta)(i:PE X b tb):PE X (.BinOp a op b pos) (Vb r ta tb):=by
 intro c s e H Q I h;exact wpAny_BinOp (aaY f i I h λv u k x y l m d g q=>j c k e l x y v u Q m d g q)
theorem adS{op:UnaryOp}{r:V->Hp->VK->Prop}(d:UnR X (unaryOp op) r)(g:PE X a ta):PE X (.UnaryOp op a pos) (tUn r ta):=by
 intro b s c H Q I h;exact UnaryOp_ (gW (g b s c H _ I h) λv f ⟨x,j,i,k,e⟩=>d b f c j x v Q i k e)
theorem rJ{f:Value->Value->Sem Value}{C:Int->Int->Prop}{g:Int->Int->Int}
 (rule:∀(i j:Int) (t u:Tok) (s:Shared) (Q:Value->Shared->Prop) (E:Value->Shared->Prop),C i j->Q (.int (g i j) s.toks) {s with toks:=s.toks+1}->wpAny (model X.prog X.w) X.A (f (.int i t) (.int j u)) Q E s) :
 wN X f (rI C λi j=>.int (g i j)):=by
 intro a s k H x y v u Q I b c h;obtain⟨i,j,rfl,rfl,e,q⟩:=h;obtain⟨t,rfl⟩:=b;obtain⟨d,rfl⟩:=c;exact rule i j t d s _ _ e ⟨.int (g i j),H,I.tok _,⟨_,rfl⟩,q⟩
theorem XQ{f:Value->Value->Sem Value}{g:Int->Int->Int}
 (rule:∀(i j:Int) (t u:Tok) (s:Shared) (Q:Value->Shared->Prop) (E:Value->Shared->Prop),Q (.int (g i j) s.toks) {s with toks:=s.toks+1}->wpAny (model X.prog X.w) X.A (f (.int i t) (.int j u)) Q E s) :
 wN X f (Vc λi j=>.int (g i j)):=by
 intro a s e H x y v u Q I b c h;obtain⟨i,j,rfl,rfl,q⟩:=h;obtain⟨t,rfl⟩:=b;obtain⟨d,rfl⟩:=c;exact rule i j t d s _ _ ⟨.int (g i j),H,I.tok _,⟨_,rfl⟩,q⟩
theorem XR{f:Value->Value->Sem Value}{g:Int->Int->Bool}
 (rule:∀(i j:Int) (t u:Tok) (s:Shared) (Q:Value->Shared->Prop) (E:Value->Shared->Prop),Q (.bool (g i j)) s->wpAny (model X.prog X.w) X.A (f (.int i t) (.int j u)) Q E s) :
 wN X f (Vc λi j=>.bl (g i j)):=by
 intro a s e H x y v u Q I b c h;obtain⟨i,j,rfl,rfl,q⟩:=h;obtain⟨t,rfl⟩:=b;obtain⟨d,rfl⟩:=c;exact rule i j t d s _ _ ⟨.bl (g i j),H,I,rfl,q⟩
def ahe(i j:Int):Prop:=0<j/\j<1073741824
def adU(i j:Int):Prop:=0<=j/\j<=1000000/\i.natAbs<2^64
def aaZ(i j:Int):Prop:=(-(2^64)<i/\i<2^64)∨(-(2^64)<j/\j<2^64)
theorem aaZ.ok{i j:Int}(h:aaZ i j):IntMulOk i j:=by
 rcases h with ⟨b,a⟩|⟨b,a⟩
 ·exact .of_left (intBits_le_64 b a)
 ·exact .of_right (intBits_le_64 b a)
theorem fC:wN X (binaryOp .Add) (Vc λi j=>.int (i+j)):=XQ λ_ _ _ _ _ _ _ q=>add_int q
theorem G8:wN X (binaryOp .Sub) (Vc λi j=>.int (i-j)):=XQ λ_ _ _ _ _ _ _ q=>sub_int q
theorem PF:wN X (binaryOp .Mult) (rI aaZ λi j=>.int (i*j)):=rJ λ_ _ _ _ _ _ _ a q=>mul_int q a.ok
theorem eV:wN X (binaryOp .FloorDiv) (rI ahe λi j=>.int (i/j)):=rJ λi j _ _ _ _ _ a q=>by
 have c:(0:Int)<j:=a.1;have b:j<1073741824:=a.2;exact floordiv_int ∅ (by rw[Int.fdiv_eq_ediv_of_nonneg i ∅];exact q) (.inl (PyProof.noPylong_small ∅))
theorem dF:wN X (binaryOp .Mod) (rI (λ_ j=>0<j) λi j=>.int (i%j)):=rJ λi j _ _ _ _ _ a q=>by
 have b:(0:Int)<j:=a;exact mod_int' ∅ (by rw[Int.fmod_eq_emod_of_nonneg i ∅];exact q)
theorem Vd:wN X (binaryOp .Pow) (rI adU λi j=>.int (i^j.toNat)):=rJ λ_ _ _ _ _ _ _ a q=>pow_int_small a.1 a.2.1 a.2.2 q
theorem aa0:wN X (binaryOp .LShift) (rI adU λi j=>.int (i*2^j.toNat)):=rJ λ_ _ _ _ _ _ _ a q=>lshift_int_small a.1 a.2.1 a.2.2 q
theorem aa1:wN X (binaryOp .BitAnd) (Vc λi j=>.int (Builtin.bitAnd i j)):=XQ λ_ _ _ _ _ _ _ q=>and_int q
theorem adV:wN X (binaryOp .BitOr) (Vc λi j=>.int (Builtin.bitOr i j)):=XQ λ_ _ _ _ _ _ _ q=>or_int q
theorem unI{f:Value->Sem Value}{g:Int->Int}
 (rule:∀(i:Int) (t:Tok) (s:Shared) (Q:Value->Shared->Prop) (E:Value->Shared->Prop),Q (.int (g i) s.toks) {s with toks:=s.toks+1}->wpAny (model X.prog X.w) X.A (f (.int i t)) Q E s) :
 UnR X f (rU λi=>.int (g i)):=by
 intro a s c H x v Q I b h;obtain⟨i,rfl,q⟩:=h;obtain⟨t,rfl⟩:=b;exact rule i t s _ _ ⟨.int (g i),H,I.tok _,⟨_,rfl⟩,q⟩
theorem aa2:UnR X (unaryOp .USub) (rU λi=>.int (-i)):=unI λ_ _ _ _ _ q=>neg_int q
end
noncomputable def aa3:V->V->Bool
 |.fE,.fE=>true|.fE,.int _=>true|.int _,.fE=>true|.fE,.bl _=>true|.bl _,.fE=>true|.fE,.str _=>true|.str _,.fE=>true
 |.int _,.int _=>true|.bl _,.bl _=>true|.str _,.str _=>true|.Rb _,.Rb _=>true
 |.int _,.str _=>true|.str _,.int _=>true|.bl _,.str _=>true|.str _,.bl _=>true
 |_,_=>false
inductive rEq(x y:V)(H:Hp)(Q:VK):Prop
 |mk (a:aa3 x y=true) (b:Q (.bl (decide (x=y))) H):rEq x y H Q
inductive rNe(x y:V)(H:Hp)(Q:VK):Prop
 |mk (a:aa3 x y=true) (b:Q (.bl (!decide (x=y))) H):rNe x y H Q
theorem Rg{i j:Int}:decide (V.int i=V.int j)=(i==j):=by
 rw[iK];simp
theorem Ve{i j:Bool}:decide (V.bl i=V.bl j)=(i==j):=by
 rw[iK];simp
theorem Rh{i j:Str}:decide (V.str i=V.str j)=(i==j):=by
 rw[iK];simp
theorem Ri{i j:Array UInt8}:decide (V.Rb i=V.Rb j)=(i.toList==j.toList):=by
 rw[iK];cases i;cases j;simp
section
variable{X:Cx}{a b c:Expr}{ta tb tc:TE}{pos:Pos}
theorem dG{a:List (Addr×Obj)}{b:St}{H:Hp}{s:Shared}{Q:VK}{k c:Bool}(I:Inv X a b H s)(q:Q (.bl k) H)(e:k=c):EP X a b Q (.bool c) s:=by
 subst e;exact⟨.bl k,H,I,rfl,q⟩
theorem wO:wN X (compareOp .Eq) rEq:=by
 intro e s f H x y v u Q I d a h;obtain⟨c,q⟩:=h;cases x with
 |fE =>
  cases d;cases y with
  |fE=>cases a;exact PySem.EqNone.eq_none_none (dG I q (-_))
  |bl j=>cases a;exact PySem.EqNone.eq_none_bool (dG I q (-_))
  |int j=>obtain⟨b,rfl⟩:=a;exact PySem.EqNone.eq_none_int (dG I q (-_))
  |str j=>obtain⟨b,rfl⟩:=a;exact PySem.EqNone.eq_none_str (dG I q (-_))
  |_=>exact ee (show false=true from c) aC
 |bl i =>
  cases d;cases y with
  |fE=>cases a;exact PySem.EqNone.eq_bool_none (dG I q (-_))
  |bl j=>cases a;exact eq_bool (dG I q Ve)
  |str j=>obtain⟨b,rfl⟩:=a;exact PySem.EqMixed.eq_bool_str (dG I q (-_))
  |_=>exact ee (show false=true from c) aC
 |int i =>
  obtain⟨t,rfl⟩:=d;cases y with
  |fE=>cases a;exact PySem.EqNone.eq_int_none (dG I q (-_))
  |int j=>obtain⟨b,rfl⟩:=a;exact eq_int (dG I q Rg)
  |str j=>obtain⟨b,rfl⟩:=a;exact PySem.EqMixed.eq_int_str (dG I q (-_))
  |_=>exact ee (show false=true from c) aC
 |str i =>
  obtain⟨t,rfl⟩:=d;cases y with
  |fE=>cases a;exact PySem.EqNone.eq_str_none (dG I q (-_))
  |bl j=>cases a;exact PySem.EqMixed.eq_str_bool (dG I q (-_))
  |int j=>obtain⟨b,rfl⟩:=a;exact PySem.EqMixed.eq_str_int (dG I q (-_))
  |str j=>obtain⟨b,rfl⟩:=a;exact eq_str (dG I q Rh)
  |_=>exact ee (show false=true from c) aC
 |Rb i =>
  obtain⟨t,rfl⟩:=d;cases y with
  |Rb j=>obtain⟨b,rfl⟩:=a;exact PySem.W.eq_bytes (dG I q Ri)
  |_=>exact ee (show false=true from c) aC
 |_=>cases y <;> exact ee (show false=true from c) aC
theorem qd:wN X (compareOp .NotEq) rNe:=by
 intro e s f H x y v u Q I d a h;obtain⟨c,q⟩:=h;cases x with
 |fE =>
  cases d;cases y with
  |fE=>cases a;exact PySem.EqNone.ne_none_none (dG I q (-_))
  |bl j=>cases a;exact PySem.EqNone.ne_none_bool (dG I q (-_))
  |int j=>obtain⟨b,rfl⟩:=a;exact PySem.EqNone.ne_none_int (dG I q (-_))
  |str j=>obtain⟨b,rfl⟩:=a;exact PySem.EqNone.ne_none_str (dG I q (-_))
  |_=>exact ee (show false=true from c) aC
 |bl i =>
  cases d;cases y with
  |fE=>cases a;exact PySem.EqNone.ne_bool_none (dG I q (-_))
  |bl j=>cases a;exact ne_bool (dG I q (e8 not Ve))
  |str j=>obtain⟨b,rfl⟩:=a;exact PySem.EqMixed.ne_bool_str (dG I q (-_))
  |_=>exact ee (show false=true from c) aC
 |int i =>
  obtain⟨t,rfl⟩:=d;cases y with
  |fE=>cases a;exact PySem.EqNone.ne_int_none (dG I q (-_))
  |int j=>obtain⟨b,rfl⟩:=a;exact ne_int (dG I q (e8 not Rg))
  |str j=>obtain⟨b,rfl⟩:=a;exact PySem.EqMixed.ne_int_str (dG I q (-_))
  |_=>exact ee (show false=true from c) aC
 |str i =>
  obtain⟨t,rfl⟩:=d;cases y with
  |fE=>cases a;exact PySem.EqNone.ne_str_none (dG I q (-_))
  |bl j=>cases a;exact PySem.EqMixed.ne_str_bool (dG I q (-_))
  |int j=>obtain⟨b,rfl⟩:=a;exact PySem.EqMixed.ne_str_int (dG I q (-_))
  |str j=>obtain⟨b,rfl⟩:=a;exact ne_str (dG I q (e8 not Rh))
  |_=>exact ee (show false=true from c) aC
 |Rb i =>
  obtain⟨t,rfl⟩:=d;cases y with
  |Rb j=>obtain⟨b,rfl⟩:=a;exact PySem.W.ne_bytes (dG I q (e8 not Ri))
  |_=>exact ee (show false=true from c) aC
 |_=>cases y <;> exact ee (show false=true from c) aC
theorem rM:wN X (compareOp .Lt) (Vc λi j=>.bl (decide (i<j))):=XR λ_ _ _ _ _ _ _ q=>lt_int q
theorem qe:wN X (compareOp .LtE) (Vc λi j=>.bl (decide (i<=j))):=XR λ_ _ _ _ _ _ _ q=>le_int q
theorem Rj:wN X (compareOp .Gt) (Vc λi j=>.bl (decide (j<i))):=XR λ_ _ _ _ _ _ _ q=>gt_int q
theorem adW:wN X (compareOp .GtE) (Vc λi j=>.bl (decide (j<=i))):=XR λ_ _ _ _ _ _ _ q=>ge_int q
theorem Vf:wN X (compareOp .Is) (λx y H Q=>y=.fE/\Q (.bl (decide (x=.fE))) H):=by
 intro b s d H x y v u Q I a c h;obtain⟨rfl,q⟩:=h;cases c;refine is_none_gen (dG I q ?_);cases x <;> first
  | (cases a;rfl)
  | (obtain⟨t,rfl⟩:=a;rfl)
theorem GR:wN X (compareOp .IsNot) (λx y H Q=>y=.fE/\Q (.bl (!decide (x=.fE))) H):=by
 intro b s d H x y v u Q I a c h;obtain⟨rfl,q⟩:=h;cases c;refine isnot_none_gen (dG I q ?_);cases x <;> first
  | (cases a;rfl)
  | (obtain⟨t,rfl⟩:=a;rfl)
theorem Vg(b:Expr){op:CmpOp}(h:op≠.In:=by decide)(a:op≠.NotIn:=by decide):behindInMarks op b=false:=by
 have d:(op==CmpOp.In)=false:=by cases op <;> first|rfl|exact ee rfl h
 have c:(op==CmpOp.NotIn)=false:=by cases op <;> first|rfl|exact ee rfl a
 cases b <;> simp[behindInMarks,d,c]
theorem XS{op:CmpOp}{r:R2}(k:wN X (compareOp op) r)(g:PE X a ta)(j:PE X b tb)(e:behindInMarks op b=false):PE X (.Compare a [op] [b] pos) (Vb r ta tb):=by
 intro c s f H Q I h;exact wpAny_Compare1 (aaY g j I h λv u l x y m n d i q=>k c l f m x y v u Q n d i q) e
def Vh(t:TE):TT:=λσ H Q=>t σ H (BlR Q)
theorem kj{op:CmpOp}{r:R2}(q:wN X (compareOp op) r)(i:PE X a ta)(l:PE X b tb)(g:behindInMarks op b=false):PT X (.Compare a [op] [b] pos) (Vh (Vb r ta tb)):=by
 intro d s f H Q I h;refine wpAny_isTrue_Compare1 (gW (i d s f H _ I h) λv n ⟨x,o,j,m,C⟩=>gW (l d n f o _ j C) λu t ⟨y,E,G,B,F⟩ =>
  gW (q d t f E x y v u _ G m B F) λc J ⟨z,p,w,D,k,e,A⟩=>?_) g
 subst e;cases D;exact wpAny_truthy_bool ⟨p,w,A⟩
def Vi(r r':R2)(ta tb tc:TE):TE:=λσ H Q=>ta σ H λx H1=>tb σ H1 λy H2=>r x y H2 λz H3=>∃k,z=.bl k /\
 (if k=true then tc σ H3 λw' H4=>r' y w' H4 Q else Q (.bl false) H3)
theorem M4{op g:CmpOp}{r l:R2}(J:wN X (compareOp op) r)(j:wN X (compareOp g) l)(w:PE X a ta)(B:PE X b tb)(R:PE X c tc)
 (q:lastMarks [op,g] [b,c]=false:=by with_unfolding_all rfl):PE X (.Compare a [op,g] [b,c] pos) (Vi r l ta tb tc):=by
 intro f s i H Q I h;refine Compare_chain (gW (w f s i H _ I h) λv D ⟨x,F,A,C,N⟩=>chain_link (gW (B f D i F _ A N) λu K ⟨y,P,W,p,U⟩ =>
  gW (J f K i P x y v u _ W C p U) λd L ⟨z,m,n,O,k,e,o⟩=>?_)) q
 subst e;cases O;refine wpAny_truthy_bool ?_;cases k with
 |false=>exact ite_ff ⟨.bl false,m,n,rfl,o⟩
 |true=>exact ite_tt (chain_last (gW (R f L i m _ n o) λE G ⟨T,t,S,M,V⟩=>j f G i t y T u E Q S p M V))
theorem jl{op g:CmpOp}{r l:R2}(N:wN X (compareOp op) r)(j:wN X (compareOp g) l)(A:PE X a ta)(E:PE X b tb)(Y:PE X c tc)
 (q:lastMarks [op,g] [b,c]=false:=by with_unfolding_all rfl):PT X (.Compare a [op,g] [b,c] pos) (Vh (Vi r l ta tb tc)):=by
 intro f s i H Q I h;refine isTrue_chain (gW (A f s i H _ I h) λv G ⟨x,L,B,F,U⟩=>test_link (gW (E f G i L _ B U) λu O ⟨y,W,I2,p,q2⟩ =>
  gW (N f O i W x y v u _ I2 F p q2) λd R ⟨z,m,n,V,k,e,o⟩=>?_)) q
 subst e;cases V;refine wpAny_truthy_bool ?_;cases k with
 |false =>
  obtain⟨k',C,t⟩:=o;cases C;exact ite_ff ⟨m,n,t⟩
 |true =>
  refine ite_tt (test_last (gW (Y f R i m _ n o) λJ M ⟨z',w,Z,T,q4⟩=>gW (j f M i w y z' u J _ Z p T q4) λd' s5 ⟨z2,P,S,K,k2,D,q5⟩=>?_));subst D;cases K;exact wpAny_truthy_bool ⟨P,S,q5⟩
def aa4(K:af)(x:V)(H:Hp)(k:Bool):Prop :=
 match x with
 |.fE=>k=false
 |.bl b=>k=b
 |.int i=>k=(i != 0)
 |.str y=>y.length<=sizeLine/\k=((y.length:Int) != 0)
 |.Rb y=>y.size<=sizeLine/\k=((y.size:Int) != 0)
 |.ref p=>(∃xs,bK K H p xs/\k=!xs.isEmpty)∨(∃xs,cW K H p xs/\k=!xs.isEmpty)∨∃kvs,H p=some (.dK kvs)/\k=!kvs.isEmpty
 |_=>False
theorem PJ{κ:Type}{kvs:List (κ×V)}{vs:List (κ×Value)}(r:KV kvs vs):(!vs.isEmpty)=!kvs.isEmpty:=by
 cases r <;> rfl
theorem G9{xs:List V}{a:List Value}(r:bX xs a):(!a.toArray.isEmpty)=!xs.isEmpty:=by
 cases r <;> simp
theorem Hf:(sizeLine:Nat)<2^63:=by rw[sizeLine_eq];decide
theorem aa5:ahd X (λx H Q=>∃k,aa4 X.K x H k/\Q k H):=by
 intro u s C H x v Q I g h;obtain⟨k,e,q⟩:=h;have E:=Hf;have D:sizeLine=16777216:=sizeLine_eq;cases x with
 |fE =>
  cases g;have a:k=false:=e;subst a;exact truthy_none ⟨H,I,q⟩
 |bl b =>
  cases g;have a:k=b:=e;subst a;exact wpAny_truthy_bool ⟨H,I,q⟩
 |int i =>
  obtain⟨t,rfl⟩:=g;have a:k=(i != 0):=e;subst a;exact PySem.P.truthy_int ⟨H,I,q⟩
 |str y =>
  obtain⟨t,rfl⟩:=g;obtain⟨B,a⟩:y.length<=sizeLine/\k=((y.length:Int) != 0):=e;subst a;exact PySem.P.truthy_str ∅ ⟨H,I.tok _,q⟩
 |Rb y =>
  obtain⟨t,rfl⟩:=g;obtain⟨B,a⟩:y.size<=sizeLine/\k=((y.size:Int) != 0):=e;subst a;exact PySem.W.truthy_bytes ∅ ⟨H,I.tok _,q⟩
 |ref p =>
  cases g;have a:(∃f,bK X.K H p f/\k=!f.isEmpty)∨(∃f,cW X.K H p f/\k=!f.isEmpty)∨∃c,H p=some (.dK c)/\k=!c.isEmpty:=e;rcases a with ⟨f,j,a⟩|⟨f,j,a⟩|⟨c,j,a⟩
  ·subst a
   obtain⟨n,r,o,z⟩:=I.list j;have d:=r.length;exact wpAny_truthy_list o.isList (by simp only[aL];lia) ⟨H,I.tok _,by rw[G9 r];exact q⟩
  ·subst a
   obtain⟨n,r,o,z⟩:=I.tuple j;have d:=r.length;exact truthy_tuple o (by simp only[aL];lia) ⟨H,I.tok _,by rw[G9 r];exact q⟩
  ·subst a
   obtain⟨z,A,l,r,m⟩:c.length<=sizeLine/\(p==sysModules)=false/\∃l,KV c l/\s.heap.DictOf (iw X.prog X.w) p l:=I.hok p _ j;have d:c.length=l.length:=Paired.length r;exact wpAny_truthy_dict A m ∅ ⟨H,I.tok _,by rw[PJ r];exact q⟩
 |_=>exact (show False from e).elim
theorem Vj(f:PE X a ta)(m:∀b,isTrue a X.env b=(do let v <- b;standAt a.pos;holding [v] (truthy v))) :
 PT X a (λd H Q=>ta d H λx e=>∃k,aa4 X.K x e k/\Q k e):=by
 intro c s d H Q I h;exact isTrue_plain (gW (f c s d H _ I h) λv j ⟨x,l,g,i,n⟩=>aa5 c j d l x v Q g i n) (m _)
theorem vals1{x:V}{us:List Value}(r:bX [x] us):∃u,us=[u]/\RelV x u:=by
 cases r with
 |cons b a=>cases a;exact⟨_,rfl,b⟩
theorem Ko:p9 X (.type "int") (λxs H Q=>(∃i,xs=[.int i]/\Q (.int i) H)∨∃k,xs=[.bl k]/\Q (.int (if k then 1 else 0)) H):=by
 intro a s c H xs d Q I r h;rcases h with ⟨i,rfl,q⟩|⟨k,rfl,q⟩
 ·obtain⟨u,rfl,t,rfl⟩:=vals1 r
  exact call_int_int ⟨.int i,H,I,⟨_,rfl⟩,q⟩
 ·obtain⟨u,rfl,b⟩:=vals1 r
  cases b;exact call_int_bool ⟨.int (if k then 1 else 0),H,I.tok _,⟨_,rfl⟩,q⟩
end
structure PK(h:Heap)(x dx C:Addr)(mA:Str->Option Value):Prop where
 obj:h.get? x=some (jK C dx)
 ns:h.Ns1 dx mA
 ne:dx≠x
theorem Kq{h:Heap}{f:Addr}{d:Str->Option Value}(n:h.Ns1 f d):∃g,h.get? f=some g/\∀name,PySem.W.lookIn name g=some (d name):=by
 obtain⟨o,c,r,k,l,j,_,i⟩:=n;refine⟨o,k,λname=>?_⟩;have e:=i name;unfold nsFind findBy at e;rw[<- Array.find?_toList] at e;unfold PySem.W.lookIn;rw[l];dsimp only;split
 ·rename_i y q
  rw[q] at e;exact e8 some e
 ·rename_i q
  rw[q] at e;have a:c.toList.any (·.refKey)=false:=by
   rw[List.any_eq_false];intro y m;obtain⟨z,t,b⟩:=j y (ir.mp m);simp[DictEntry.refKey,b]
  have p:¬c.toList.any (·.refKey)=true:=by rw[a];exact aC
  rw[b5 p];exact e8 some e
theorem PK.look{h:Heap}{x b C:Addr}{c:Str->Option Value}(I:PK h x b C c):∃a,PySem.W.InstAt h x (jK C b) C (some a)/\∀name,PySem.W.lookIn name a=some (c name) :=
 let ⟨a,d,e⟩:=Kq I.ns
 ⟨a,⟨I.obj,rfl,rfl,d⟩,e⟩
section
variable{prog:Program}{w:World}{A:Around}{E:Value->Shared->Prop}{s:Shared}{K:af}{x dx C f:Addr}{mA:Str->Option Value}{name:Str}{v:Value}
theorem get_map{a:Bool}{Q:Value->Shared->Prop}(X:K.In s.heap)(I:PK s.heap x dx C mA)(d:xP K C name=true)(e:vq K C=true)
 (f:aG K (.ref C) name=some none) (c:mA name=some v) (b:PySem.W.handedIn v=true) (h:Q v {s with toks:=s.toks+1}) :
 wpAny (model prog w) A (getAttr (.ref x) name a) Q E s:=by
 obtain⟨i,J,g⟩:=I.look;exact PySem.W.get_value X J (PySem.W.plainGet_of d).1 (PySem.W.findObj_own e f rfl (by rw[g,c])) b h
theorem Vk{pl:Sem Bool}{Q:Value×List Value->Shared->Prop}(X:K.In s.heap)(I:PK s.heap x dx C mA)(a:xP K C name=true)
 (d:aG K (.ref C) name=some (some (.ref f))) (b:PySem.W.isFn K (.ref f)=true) (c:mA name=none) (h:Q (.ref f,[.ref x]) s) :
 wpAny (model prog w) A (getMethod (.ref x) name pl) Q E s:=by
 obtain⟨e,J,g⟩:=I.look;exact PySem.W.method_fn X J (PySem.W.plainGet_of a).1 (PySem.W.plainGet_of a).2 d (beq_iff_eq.mp b) (by show (PySem.W.lookIn name e).map (·.isSome)=some false;rw[g,c];rfl) h
theorem XT{ns:List Str}{Q:Unit->Shared->Prop}(X:K.In s.heap)(I:PK s.heap x dx C mA)
 (m:aG K (.ref C) "__setattr__" = some (some (.builtin "object.__setattr__"))) (p:PySem.W.plainOver K C=true) (n:PySem.W.takerIn K C name=some none) (k:vq K C=true)
 (j:PySem.Within mA ns) (hsz:ns.length<=sizeLine)
 (h:∀h',PK h' x dx C (λy=>if y=name then some v else mA y)->Heap.SameBut dx s.heap h'->Q () {s with heap:=h',toks:=s.toks+2}) :
 wpAny (model prog w) A (setAttr (.ref x) name v) Q E s:=by
 obtain⟨D,J,z⟩:=I.look;refine PySem.W.set_plain X J m (PySem.W.osa_open (s:={s with toks:=s.toks+1}) (r:=none) X J p n λb=>?_);obtain⟨B,t,e⟩:=PySem.W.any_some k;have l:s.heap.get? x=some ⟨.ref C,some dx,.plain,#[]⟩:=I.obj;refine wpAny_bind (wpAny_pure (wpAny_bind (wpAny_bind (wpAny_loadPart l (wpAny_bind (PySem.W.Looks.here (s:={s with toks:=s.toks+1}) (PySem.W.looks_clsIn X t) ?_))))));rw[e];refine wpAny_pure (a:=some dx) (wpAny_bind (wpAny_pure (wpAny_bind ?_)));refine wpAny_nsSet1 (s:={s with toks:=s.toks+1}) I.ns λh' c d=>?_;obtain⟨u,q,o,f,g,i⟩:=c.count (PySem.Within.cons name v j);refine wpAny_bind (wpAny_lookBehind f (by rw[g];exact pastItsLine_dict (aJ i (by rw[bq];lia))) ?_);exact wpAny_pure (h _ ⟨(d.2 _ (bP I.ne)).trans I.obj,c,I.ne⟩ d)
theorem Vl{R:Result->Shared->Prop}{vs:List Value}{b:List (Str×Value)}(X:K.In s.heap)(c:PySem.W.makesIn K C=true)
 (e:aG K (.ref C) "__init__" = some (some (.ref f))) (i:PySem.W.typeIn K (.ref f)=some (.type "function"))
 (h:codeAny (model prog w) (A.under (.builtin "type.__call__" ⟨.ref C::vs,b⟩)) (.call (.ref f) ⟨.ref (s.heap.objs.size+1)::vs,b⟩) (PySem.W.InitBack (s.heap.objs.size+1) R)
  {s with heap:=(s.heap.push gf).push (jK C s.heap.objs.size)}) :
 codeAny (model prog w) A (.call (.ref C) ⟨vs,b⟩) R s:=by
 obtain⟨j,g,d,t,os⟩:=s;exact PySem.W.make_core (PySem.W.makes_of X c) (PySem.W.looks_findIn X e) (λa=>PySem.W.bind_fn X a i) (.inl rfl) h
end
noncomputable def zB(f:Str)(v:V):List (Str×V)->List (Str×V)
 |[]=>[(f,v)]
 | (g,x)::r=>if g=f then (g,v)::r else (g,x)::zB f v r
theorem Fy(f g:Str)(v:V):∀c:List (Str×V),(zB f v c).lookup g=if g=f then some v else c.lookup g
 |[]=>by
  show qH g [(f,v)]=_;by_cases h:g=f
  ·have a:(g==f)=true:=beq_iff_eq.mpr h
   simp only[qH,a,b3 h]
  ·have a:(g==f)=false:=beq_eq_false_iff_ne.mpr h
   simp only[qH,a,b5 h]
 | (k,x)::r=>by
  have d:=Fy f g v r;rw[show zB f v ((k,x)::r)=(if k=f then (k,v)::r else (k,x)::zB f v r) from rfl];by_cases b:k=f
  ·rw[b3 b]
   by_cases h:g=k
   ·have a:(g==k)=true:=beq_iff_eq.mpr h
    simp only[qH,a,b3 (h.trans b)]
   ·have a:(g==k)=false:=beq_eq_false_iff_ne.mpr h
    simp only[qH,a,b5 (λe:g=f=>h (e.trans b.symm))]
  ·rw[b5 b]
   by_cases h:g=k
   ·have a:(g==k)=true:=beq_iff_eq.mpr h
    simp only[qH,a,b5 (λe:g=f=>b (h.symm.trans e))]
   ·have a:(g==k)=false:=beq_eq_false_iff_ne.mpr h
    simp only[qH,a];exact d
theorem Eo(f:Str)(v:V):∀a:List (Str×V),f∈(zB f v a).map (·.1)/\∀g,g∈a.map (·.1)->g∈(zB f v a).map (·.1)
 |[]=>⟨by simp[zB],λg h=>by simp at h⟩
 | (k,x)::r=>by
  obtain⟨d,c⟩:=Eo f v r;rw[show zB f v ((k,x)::r)=(if k=f then (k,v)::r else (k,x)::zB f v r) from rfl];by_cases b:k=f
  ·rw[b3 b]
   subst b;exact⟨-_,λg h=>by simpa using h⟩
  ·rw[b5 b]
   refine⟨?_,λg h=>?_⟩
   ·rw[bT]
    exact aZ _ d
   ·rw[bT] at h ⊢
    rcases bx.mp h with e|e
    ·exact bx.mpr (.inl e)
    ·exact aZ _ (c g e)
theorem Fz(f:Str)(v:V):∀a:List (Str×V),(zB f v a).length<=a.length+1
 |[]=>by simp[zB]
 | (k,x)::r=>by
  have c:=Fz f v r;rw[show zB f v ((k,x)::r)=(if k=f then (k,v)::r else (k,x)::zB f v r) from rfl];by_cases b:k=f
  ·rw[b3 b,bq,bq];lia
  ·rw[b5 b,bq,bq];lia
theorem BC.some_of{v:V}{o:Option Value}(r:BC (some v) o):∃u,o=some u/\RelV v u:=by
 cases o with
 |none=>exact (show False from r).elim
 |some u=>exact⟨u,rfl,r⟩
theorem BC.none_of{o:Option Value}(r:BC none o):o=none:=by
 cases o with
 |none=>rfl
 |some u=>exact (show False from r).elim
theorem SS{v:V}{u:Value}(r:RelV v u):PySem.W.handedIn u=true:=by
 cases v with
 |fE=>cases (show u=Value.none from r);rfl
 |bl b=>cases (show u=Value.bool b from r);rfl
 |int i=>obtain⟨t,e⟩:=(show ∃t,u=Value.int i t from r);cases e;rfl
 |str x=>obtain⟨t,e⟩:=(show ∃t,u=Value.str x t from r);cases e;rfl
 |Rb b=>obtain⟨t,e⟩:=(show ∃t,u=Value.bytes b t from r);cases e;rfl
 |g7 b=>obtain⟨t,e⟩:=(show ∃t,u=Value.float b t from r);cases e;rfl
 |ref a=>cases (show u=Value.ref a from r);rfl
 |ty n=>cases (show u=Value.type n from r);rfl
section
variable{P:Program}{w:World}{H H':Hp}{h h':Heap}{a C dx:Addr}{fs fs':List (Str×V)}
theorem GS(c:zI P w H h)(e:H a=some (.ins C dx fs)):∃b,PK h a dx C b/\(∀f,BC (fs.lookup f) (b f))/\PySem.Within b (fs.map (·.1))/\fs.length<=1000/\H dx=some (.own a):=by
 obtain⟨d,z,g,i,b,n,r,q⟩:=(show fM P w H h a (.ins C dx fs) from c a _ e);exact⟨b,⟨i,n,g⟩,r,q,z,d⟩
end
structure Jz(K:af)(C:Addr):Prop where
 pg:xP K C Str.empty=true
 hd:vq K C=true
 po:PySem.W.plainOver K C=true
 sa:aG K (.ref C) "__setattr__" = some (some (.builtin "object.__setattr__"))
theorem Jz.get{K:af}{C:Addr}(c:Jz K C)(f:Str):xP K C f=true:=c.pg
def dj(K:af)(C:Addr)(f:Str):Prop:=aG K (.ref C) f=some none
theorem dj.adX{K:af}{C:Addr}{f:Str}(n:dj K C f):PySem.W.takerIn K C f=some none:=by
 unfold PySem.W.takerIn;rw[show aG K (.ref C) f=some none from n];rfl
structure LC(K:af)(C:Addr)(m:Str)(f:Addr):Prop where
 at_:aG K (.ref C) m=some (some (.ref f))
 fn:PySem.W.isFn K (.ref f)=true
 kp:dU K (.ref f)=true
section
variable{X:Cx}{pins:List (Addr×Obj)}{σ:St}{H:Hp}{s:Shared}{a C dx:Addr}{fs:List (Str×V)}{f:Str}{v:V}{A:Around}{E:Value->Shared->Prop}
theorem PL{b:Bool}{Q:Value->Shared->Prop}(I:Inv X pins σ H s)(e:H a=some (.ins C dx fs))(c:Jz X.K C)(n:dj X.K C f)(l:fs.lookup f=some v)
 (h:∀u s',Inv X pins σ H s'->RelV v u->Q u s'):wpAny (model X.prog X.w) A (getAttr (.ref a) f b) Q E s:=by
 obtain⟨i,O,r,_,_,_⟩:=GS I.hok e;obtain⟨u,g,d⟩:=BC.some_of (v:=v) (o:=i f) (by rw[<- l];exact r f);exact get_map I.Cg O (c.get f) c.hd n g (SS d) (h u _ (I.tok _) d)
theorem Hg{m:Str}{g:Addr}{pl:Sem Bool}{Q:Value×List Value->Shared->Prop}(I:Inv X pins σ H s)(e:H a=some (.ins C dx fs))(c:Jz X.K C)(k:LC X.K C m g)(l:fs.lookup m=none)
 (h:Q (.ref g,[.ref a]) s):wpAny (model X.prog X.w) A (getMethod (.ref a) m pl) Q E s:=by
 obtain⟨b,O,r,_,_,_⟩:=GS I.hok e;have d:b m=none:=BC.none_of (by rw[<- l];exact r m);exact Vk I.Cg O (c.get m) k.at_ k.fn d h
theorem PM{y:V}{u:Value}{Q:Unit->Shared->Prop}(I:Inv X pins σ H s)(e:H a=some (.ins C dx fs))(c:Jz X.K C)(n:dj X.K C f)(hl:fs.length<1000)(p:RelV y u)
 (h:∀s',Inv X pins σ (upd H a (.ins C dx (zB f y fs))) s'->Q () s'):wpAny (model X.prog X.w) A (setAttr (.ref a) f u) Q E s:=by
 obtain⟨i,O,r,k,_,j⟩:=GS I.hok e;have D:(fs.map (·.1)).length<=sizeLine:=by rw[ah,sizeLine_eq];lia
 refine XT I.Cg O c.sa c.po n.adX c.hd k D λv d l=>h _ ?_;have hd:∃o,v.get? dx=some o:=let ⟨o,_,_,m,_⟩:=d.ns;⟨o,m⟩;refine I.write (x:=a) (e:=dx) (by rw[e];exact lF) (.inr j) (λb q t z=>(l.2 b t).trans z) hd ?_;refine⟨by rw[aF O.ne];exact j,?_,O.ne,d.obj,_,d.ns,λg=>?_,λg B=>?_⟩
 ·have:=Fz f y fs;lia
 ·show BC ((zB f y fs).lookup g) (if g=f then some u else i g)
  rw[Fy];by_cases q:g=f
  ·rw[b3 q,b3 q];exact p
  ·rw[b5 q,b5 q];exact r g
 ·by_cases q:g=f
  ·rw[q];exact (Eo f y fs).1
  ·refine (Eo f y fs).2 g (k g λz=>B ?_)
   show (if g=f then some u else i g)=none;rw[b5 q];exact z
theorem Inv.made(I:Inv X pins σ H s):Inv X pins σ (upd (upd H s.heap.objs.size (.own (s.heap.objs.size+1))) (s.heap.objs.size+1) (.ins C s.heap.objs.size []))
 {s with heap:=(s.heap.push gf).push (jK C s.heap.objs.size)}:=by
 have d:(s.heap.push gf).get? s.heap.objs.size=some gf:=Heap.get?_push_size s.heap rfl;have g:((s.heap.push gf).push (jK C s.heap.objs.size)).get? (s.heap.objs.size+1)=some (jK C s.heap.objs.size):=by
  have:=Heap.get?_push_size (s.heap.push gf) (o:=jK C s.heap.objs.size) rfl
  rwa [Heap.size_push] at this
 have j:(s.heap.push gf).Ns s.heap.objs.size (λ_=>none):=⟨gf,#[],_,d,rfl,(λe i=>ee i (-_)),λ_=>rfl⟩;have f:=I.laid (a:=s.heap.objs.size) (o:=.own (s.heap.objs.size+1)) (h':=s.heap.push gf) (t':=s.toks) (λb u q=>Heap.get?_push_of_some _ q) (ay _) ⟨_,d⟩;refine f.laid (a:=s.heap.objs.size+1) (o:=.ins C s.heap.objs.size []) (t':=s.toks) (λb u q=>Heap.get?_push_of_some _ q) (Nat.le_of_eq (Heap.size_push _ _)) ?_;have c:s.heap.objs.size≠s.heap.objs.size+1:=bD (Nat.lt_succ_self _);refine⟨by rw[aF c,av],bE _,c,g,λ_=>none,(Heap.Ns1.of_empty j).at λo q=>Heap.get?_push_of_some _ q,λ_=>lF,λy h=>ee rfl h⟩
theorem XU{prog:Program}{w:World}{env:Env}{e:Expr}{f:Str}{b:Pos}{s:Shared}{Q:Value->Shared->Prop}(c:attributeBase e f env (eval e env)=eval e env)
 (h:wpAny (model prog w) A (eval e env) (λo a=>wpAny (model prog w) A (getAttr o f true) Q E a) E s):wpAny (model prog w) A (eval (.Attribute e f b) env) Q E s :=
 Attribute_any_ h (by rw[arm_eval_Attribute,c])
end
inductive adY(K:af)(f:Str)(Q:VK)(x:V)(H1:Hp):Prop
 |mk (a C dx:Addr) (fs:List (Str×V)) (v:V) (h1:x=.ref a) (h2:H1 a=some (.ins C dx fs)) (h3:Jz K C) (h4:dj K C f) (h5:fs.lookup f=some v) (h6:Q v H1):adY K f Q x H1
def Hh(K:af)(ta:TE)(f:Str):TE:=λσ H Q=>ta σ H (adY K f Q)
def ahf(K:af)(ta tv:TE)(f:Str):TS:=λD σ H=>tv σ H λy H1=>ta σ H1 λx H2=>∃a C dx fs,x=.ref a/\H2 a=some (.ins C dx fs)/\Jz K C/\dj K C f/\fs.length<1000 /\
 D.nx σ (upd H2 a (.ins C dx (zB f y fs)))
section
variable{X:Cx}{o e value:Expr}{f:Str}{pos pos' tpos:Pos}{ta tv:TE}
theorem aR(r:PE X e ta)(m:attributeBase e f X.env (eval e X.env)=eval e X.env):PE X (.Attribute e f pos) (Hh X.K ta f):=by
 intro b s g H Q I h;refine XU m (gW (r b s g H _ I h) λu y ⟨x,o,j,d,a,C,B,w,v,i,p,c,n,l,q⟩=>?_);subst i;obtain rfl:u=Value.ref a:=d;exact PL j p c n l λA z t k=>⟨v,o,t,k,q⟩
theorem fN(i:PE X o ta)(v:PE X value tv)(p:swapsWith value (some (.Attribute o f pos')) pos.line X.env=pure false):PS X (.Assign [.Attribute o f pos'] value pos) (ahf X.K ta tv f):=by
 intro b s d H D I h;refine plainObj_wpAny_Assign_Attribute (gW (v b s d H _ I h) λu m ⟨y,r,j,k,q⟩=>gW (i b m d r _ j q) λz F ⟨x,J,B,e,a,C,L,E,g,t,c,n,l,A⟩=>?_) p;subst g;obtain rfl:z=Value.ref a:=e;exact PM B t c n l k λG w=>⟨d,_,w,A⟩
end
section
variable{X:Cx}{pins:List (Addr×Obj)}{σ:St}{H:Hp}{s:Shared}{A:Around}{E:Value->Shared->Prop}{Q:Value->Shared->Prop}{c:Value}{b:Bool}
inductive Ep(K:af)(H:Hp):V->Value->Prop where
 |fE:Ep K H .fE (.type "NoneType")
 |bl (x:Bool):Ep K H (.bl x) (.type "bool")
 |int (i:Int):Ep K H (.int i) (.type "int")
 |str (x:Str):Ep K H (.str x) (.type "str")
 |g7 (x:UInt64):Ep K H (.g7 x) (.type "float")
 |lst {a:Addr} {xs:List V} (e:H a=some (.lst xs)):Ep K H (.ref a) (.type "list")
 |Be {a:Addr} {o:Obj} {xs:List V} (e:H a=some (.Be o (.lst xs))):Ep K H (.ref a) (.type "list")
 |tup {a:Addr} {xs:List V} (e:H a=some (.tup xs)):Ep K H (.ref a) (.type "tuple")
 |dK {a:Addr} {kvs:List (Key×V)} (e:H a=some (.dK kvs)):Ep K H (.ref a) (.type "dict")
 |dT {a:Addr} {kvs:List (List Key×V)} (e:H a=some (.dT kvs)):Ep K H (.ref a) (.type "dict")
 |ins {a C dx:Addr} {fs:List (Str×V)} (e:H a=some (.ins C dx fs)) (cl:Jz K C) (ha:aG K (.ref C) "__class__" = some (some (.builtin "object.__class__")))
  (hn:PySem.W.specialIn K (.builtin "object.__class__") "__get__" = some (some (.builtin "getset_descriptor.__get__"))) (htk:PySem.W.takesIn K (.builtin "object.__class__")=some true)
  (hm:PySem.W.mroIn K C (.type "object")=some true):Ep K H (.ref a) (.ref C)
theorem SV{x:V}{u t:Value}(I:Inv X pins σ H s)(d:RelV x u)(F:Ep X.K H x t)(e:PySem.W.kitOne X.K t c=some b)(h:∀tk,Q (.bool b) {s with toks:=tk}) :
 wpAny (model X.prog X.w) A (call (.builtin "isinstance") [u,c]) Q E s:=by
 cases F with
 |fE=>cases (show u=Value.none from d);exact dN PySem.W.kitx_none I.Cg lF e (λz=>nomatch z) h
 |bl y=>cases (show u=Value.bool y from d);exact dN PySem.W.kitx_bool I.Cg lF e (λz=>nomatch z) h
 |int i=>obtain⟨t,q⟩:=(show ∃t,u=Value.int i t from d);cases q;exact dN PySem.W.kitx_int I.Cg lF e (λz=>nomatch z) h
 |str y=>obtain⟨t,q⟩:=(show ∃t,u=Value.str y t from d);cases q;exact dN PySem.W.kitx_str I.Cg lF e (λz=>nomatch z) h
 |g7 y=>obtain⟨t,q⟩:=(show ∃t,u=Value.float y t from d);cases q;exact dN PySem.W.kitx_float I.Cg lF e (λz=>nomatch z) h
 |@lst a k f =>
  cases (show u=Value.ref a from d);obtain⟨_,_,n,_,g⟩:=(show fM X.prog X.w H s.heap a (.lst k) from I.hok a _ f);exact dN PySem.W.kitx_list I.Cg ⟨_,g,rfl⟩ e (λz=>nomatch z) h
 |@Be a v k f =>
  cases (show u=Value.ref a from d);obtain⟨_,_,_,n,_,g⟩:=(show fM X.prog X.w H s.heap a (.Be v (.lst k)) from I.hok a _ f);exact dN PySem.W.kitx_list I.Cg ⟨_,g,rfl⟩ e (λz=>nomatch z) h
 |@tup a k f =>
  cases (show u=Value.ref a from d);obtain⟨_,_,_,p⟩:=(show fM X.prog X.w H s.heap a (.tup k) from I.hok a _ f);obtain⟨o,g,l,_⟩:=p;exact dN PySem.W.kitx_tuple I.Cg ⟨o,g,l⟩ e (λz=>nomatch z) h
 |@dK a j f =>
  cases (show u=Value.ref a from d);obtain⟨_,_,P,_,p⟩:=(show fM X.prog X.w H s.heap a (.dK j) from I.hok a _ f);obtain⟨o,D,L,g,l,_⟩:=p;exact dN PySem.W.kitx_dict I.Cg ⟨o,g,l.1⟩ e (λz=>nomatch z) h
 |@dT a j f =>
  cases (show u=Value.ref a from d);obtain⟨_,_,k,_,o,D,L,g,l,_⟩:=(show fM X.prog X.w H s.heap a (.dT j) from I.hok a _ f);exact dN PySem.W.kitx_dict I.Cg ⟨o,g,l.1⟩ e (λz=>nomatch z) h
 |@ins a C R M f cl B G m r =>
  cases (show u=Value.ref a from d);obtain⟨N,O,_⟩:=GS I.hok f;obtain⟨S,J,_⟩:=O.look;exact dN (PySem.W.kitx_own (cl.get _) cl.hd B G m r) I.Cg J e (λz=>nomatch z) h
end
structure jP(k:Nat)(A:Around):Prop where
 hd:A.handled=none
 dp:A.depth+3*k+5<recursionLimit
 un:A.units+16*k+200<cLine
theorem jP.mono{j k:Nat}{A:Around}(r:jP k A)(h:j<=k):jP j A:=⟨r.hd,by have:=r.dp;lia,by have:=r.un;lia⟩
theorem jP.deeper{k:Nat}{A:Around}(r:jP (k+1) A)(env:Env):jP k (A.deeper env) :=
 ⟨r.hd,by have:=r.dp;show A.depth+1+3*k+5<_;lia,by have:=r.un;show A.units+3+16*k+200<_;lia⟩
theorem PN{A:Around}{C:Addr}{us:List Value}{a:List (Str×Value)}:(A.under (.builtin "type.__call__" ⟨.ref C::us,a⟩)).depth=A.depth+1:=by
 first|rfl|simp[Around.under,Code.weight,Code.isCreation,Code.isGuard,Code.isCaller,Code.frames,Code.isFrame,guardIds]
theorem PR{A:Around}{C:Addr}{us:List Value}{a:List (Str×Value)}:(A.under (.builtin "type.__call__" ⟨.ref C::us,a⟩)).units=A.units+1:=by
 first|rfl|simp[Around.under,Code.cUnits,Code.frames,Code.isFrame]
theorem jP.make{k:Nat}{A:Around}(r:jP (k+1) A)(C:Addr)(us:List Value)(a:List (Str×Value)):jP k (A.under (.builtin "type.__call__" ⟨.ref C::us,a⟩)) :=
 ⟨r.hd,by have:=r.dp;rw[PN];lia,by have:=r.un;rw[PR];lia⟩
theorem jP.depth{k:Nat}{A:Around}(r:jP k A):A.depth<recursionLimit:=by have:=r.dp;lia
theorem jP.units{k:Nat}{A:Around}(r:jP k A):A.units+64<cLine:=by have:=r.un;lia
def zC:TA:=λ_ H Q=>Q [] H
def gC(ta:TE)(tr:TA):TA:=λσ H Q=>ta σ H λx H1=>tr σ H1 λxs H2=>Q (x::xs) H2
section
variable{X:Cx}{e:Expr}{es:List Expr}{te:TE}{t:TA}{pos:Pos}
theorem gD:PA X [] zC:=λ_ _ _ _ H Q I h=>Calls.spliced_nil ⟨[],H,I,.nil,h⟩
theorem XW(d:PE X e te)(l:PA X es t)(j:starEach (e::es) X.env=(false,eval e X.env)::starEach es X.env:=by rfl):PA X (e::es) (gC te t):=by
 intro pos a s b H Q I h;rw[j];show wpAny _ _ (spliced ((false,eval e X.env)::backTo pos (starEach es X.env))) _ _ s;refine Calls.spliced_cons (gW (d a s b H _ I h) λu i ⟨x,k,f,g,n⟩=>?_);exact gW (l pos a i b k _ f n) λv r ⟨c,o,q,m,p⟩=>⟨x::c,o,q,.cons g m,p⟩
def ahg(t:TA):TE:=λσ H Q=>t σ H λxs H1=>xs.length<=sizeLine/\∀p,H1 p=none->Q (.ref p) (upd H1 p (.tup xs))
def adZ(t:TA):TE:=λσ H Q=>t σ H λxs H1=>xs.length<=sizeLine/\∀p,H1 p=none->Q (.ref p) (upd H1 p (.lst xs))
theorem iE{x1}(h:PA X es t):PE X (.Tuple es x1 pos) (ahg t):=by
 intro a s i H Q I j;refine wpAny_Tuple_spliced (gW (h pos a s i H _ I j) λl c ⟨g,f,d,r,z,q⟩=>⟨by rw[<- r.length];exact z,?_⟩);have k:f c.heap.objs.size=none:=d.hok.fresh (ay _);refine⟨.ref c.heap.objs.size,upd f c.heap.objs.size (.tup g),d.laid (t':=c.toks) (λb u e=>Heap.get?_push_of_some _ e) (ay _) ?_,rfl,q _ k⟩;exact⟨z,l,r,⟨_,Heap.get?_push_size _ rfl,rfl,_,rfl⟩⟩
theorem gZ(h:PA X es t):PE X (.List es pos) (adZ t):=by
 intro a s i H Q I j;refine wpAny_List_spliced (gW (h pos a s i H _ I j) λl c ⟨g,f,d,r,z,q⟩=>⟨by rw[<- r.length];exact z,?_⟩);have k:f c.heap.objs.size=none:=d.hok.fresh (ay _);refine⟨.ref c.heap.objs.size,upd f c.heap.objs.size (.lst g),d.laid (t':=c.toks) (λb u e=>Heap.get?_push_of_some _ e) (ay _) ?_,rfl,q _ k⟩;exact⟨z,l,0,r,Heap.get?_push_size _ rfl⟩
end
abbrev Sp:=List V->Hp->VK->XK->Prop
abbrev SW:=List Env->Hp->Shared->XK->Value->Shared->Prop
structure PU(P:Program)(w:World)(K:af)(mg:Str->Option Value)(base:Heap)(A:Around)(outer:List Env)(s:Shared)(H:Hp):Prop where
 frames:A.frames=some outer
 mod:Mod K mg base
 bs:∀b o,base.get? b=some o->s.heap.get? b=some o/\H b=none
 Xy:base.objs.size<=s.heap.objs.size
 Dc:s.heap.FunFrames base outer
 ZI:∀b∈frs outer,H b=none
 hok:zI P w H s.heap
 bare:AllBare s.gens
def CE(outer:List Env)(P:Program)(w:World)(H:Hp)(s:Shared)(Q:VK)(u:Value)(s':Shared):Prop :=
 ∃v H',s'.os=s.os/\AllBare s'.gens/\Un (frs outer) [] H H' s.heap s'.heap/\zI P w H' s'.heap/\RelV v u/\Q v H'
def CR(CX:SW)(outer:List Env)(P:Program)(w:World)(H:Hp)(s:Shared)(Q:VK)(E:XK)(r:Result)(s':Shared):Prop :=
 match r with
 |.ok (.ret u)=>CE outer P w H s Q u s'
 |.ok _=>False
 |.error e=>CX outer H s E e s'
structure b6(P:Program)(w:World)(K:af)(mg:Str->Option Value)(base:Heap)(CX:SW)(k:Nat)(f:Addr)(fd:FuncData)(ps:List Str)(sp:Sp):Prop where
 len:∀vs H Q E,sp vs H Q E->vs.length=ps.length
 run:∀(A:Around) (outer:List Env) (s:Shared) (H:Hp) (args:Args) (us:List Value) (vs:List V) (Q:VK) (E:XK),jP k A->PU P w K mg base A outer s H->BindsTo s fd args (ps.zip us)->bX vs us->sp vs H Q E ->
  codeAny (model P w) A (.call (.ref f) args) (CR CX outer P w H s Q E) s
theorem PU.make{P:Program}{w:World}{K:af}{b:Str->Option Value}{base:Heap}{A:Around}{a:List Env}{s:Shared}{H:Hp}(e:PU P w K b base A a s H)(C:Addr)(us:List Value)(c:List (Str×Value)) :
 PU P w K b base (A.under (.builtin "type.__call__" ⟨.ref C::us,c⟩)) a s H:=⟨by first|exact e.frames|(simpa [Around.under,Code.envs,Code.isFrame,pushEnvs] using e.frames),e.mod,e.bs,e.Xy,e.Dc,e.ZI,e.hok,e.bare⟩
section
variable{X:Cx}{pins:List (Addr×Obj)}{σ:St}{H:Hp}{s s':Shared}
theorem Inv.ad0(I:Inv X pins σ H s):PU X.prog X.w X.K X.mg X.base X.A X.stack s H :=
 ⟨I.ok.frames,I.ok.mod,I.bs,aJ I.ok.Xy I.sz,I.stack,I.Lv,I.hok,I.bare⟩
theorem Inv.after{Q:VK}{u:Value}(I:Inv X pins σ H s)(h:CE X.stack X.prog X.w H s Q u s'):EP X pins σ Q u s':=by
 obtain⟨v,i,os,a,j,e,r,q⟩:=h;obtain⟨f,g,d,t,c⟩:=s';obtain rfl:c=s.os:=os;exact⟨v,i,I.call (h':=f) (g':=g) (d':=d) (t':=t) (ch:=[]) j e a (λb z=>ee z (-_)),r,q⟩
end
def ZQ(sp:Sp)(Ck:List V)(E:XK)(t:TA):TE:=λσ H Q=>t σ H λvs H1=>sp (vs++Ck) H1 Q E
inductive ZR(C:Addr)(m:Str)(sp:Sp)(Ck:List V)(E:XK)(t:TA)(σ:St)(Q:VK)(x:V)(H1:Hp):Prop
 |mk (a dx:Addr) (fs:List (Str×V)) (h1:x=.ref a) (h2:H1 a=some (.ins C dx fs)) (h3:fs.lookup m=none) (h4:t σ H1 λvs H2=>sp (x::(vs++Ck)) H2 Q E):ZR C m sp Ck E t σ Q x H1
def zM(C:Addr)(m:Str)(sp:Sp)(Ck:List V)(E:XK)(ta:TE)(t:TA):TE:=λσ H Q=>ta σ H (ZR C m sp Ck E t σ Q)
def Vm(C:Addr)(sp:Sp)(Ck:List V)(E:XK)(t:TA):TE:=λσ H Q=>t σ H λvs H1=>∀x dx,H1 x=none->H1 dx=none->dx≠x ->
 sp (.ref x::(vs++Ck)) (upd (upd H1 dx (.own x)) x (.ins C dx [])) (λv H2=>v=.fE/\Q (.ref x) H2) E
def Binds(K:af)(fd:FuncData)(ps:List Str)(ds:List Value):Prop :=
 ∀(s:Shared) (us:List Value),K.In s.heap->(us++ds).length=ps.length->BindsTo s fd ⟨us,[]⟩ (ps.zip (us++ds))
theorem Binds.all{K:af}{a:FuncData}{ps:List Str}(h:∀us:List Value,us.length=ps.length->bindArgs a ⟨us,[]⟩=pure (ps.zip us)):Binds K a ps []:=λs us _ b=>by
 rw[cS] at b ⊢;exact .of_eq (h us b)
def sP(CX:SW)(X:Cx)(E:XK):Prop:=∀(pins:List (Addr×Obj)) (σ:St) (H:Hp) (s:Shared) (e:Value) (s':Shared),Inv X pins σ H s->CX X.stack H s E e s'->X.xe e s'
section
variable{X:Cx}{CX:SW}{k:Nat}{f C:Addr}{fd:FuncData}{ps:List Str}{sp:Sp}{Ck:List V}{ds:List Value}{E:XK}{x m:Str}{p pos apos:Pos}{e o:Expr}{es:List Expr}{ta:TE}{t:TA}
theorem LD{a:List (Addr×Obj)}{c:St}{H:Hp}{s:Shared}{Q:VK}{us:List Value}{vs:List V}(F:b6 X.prog X.w X.K X.mg X.base CX k f fd ps sp)(l:jP k X.A)(g:Binds X.K fd ps ds)(n:bX Ck ds)(i:sP CX X E)
 (I:Inv X a c H s) (r:bX vs us) (h:sp (vs++Ck) H Q E):wpAny (model X.prog X.w) X.A (call (.ref f) us) (EP X a c Q) X.xe s:=by
 have d:bX (vs++Ck) (us++ds):=r.append n;have m:(us++ds).length=ps.length:=by rw[<- d.length];exact F.len _ _ _ _ h
 refine wpAny_call (codeAny_mono (F.run X.A X.stack s H ⟨us,[]⟩ (us++ds) (vs++Ck) Q E l I.ad0 (g s us I.Cg m) d h) λr o b=>?_);cases r with
 |error e=>exact i a c H s e o I b
 |ok j =>
  cases j with
  |ret u=>exact I.after b
  |next=>exact jO b
  |brk=>exact jO b
  |cont=>exact jO b
theorem Bf(F:b6 X.prog X.w X.K X.mg X.base CX k f fd ps sp)(o:jP k X.A)(v:Gl X x)(g:X.mg x=some (.ref f))(n:dU X.K (.ref f)=true)(l:Binds X.K fd ps ds)(u:bX Ck ds)(m:sP CX X E)
 (j:PA X (e::es) t) (b:(x==("__debug__" : Str))=false:=by decide) (y:starEach (e::es) X.env=(false,eval e X.env)::starEach es X.env:=by rfl) (c:(backTo pos (starEach es X.env)).any (·.1)=false:=by rfl) :
 PE X (.Call (.Name x p) (e::es) [] pos) (ZQ sp Ck E t):=by
 intro a s i H Q I h;refine wpAny_Call_Name_kw (De I v g ?_ b);refine PySem.W.callWith_K (h₀:=X.base) I.ok.mod.g4 n (gW (j pos a s i H _ I h) λD z ⟨C,B,d,r,q⟩=>⟨d.Cg,?_⟩) y c;exact LD F o l u m d r q
theorem rS{pl:Sem Bool}(P:PE X o ta)(c:Jz X.K C)(hm:LC X.K C m f)(F:b6 X.prog X.w X.K X.mg X.base CX k f fd ps sp)(L:jP k X.A)(B:Binds X.K fd ps ds)(M:bX Ck ds)(G:sP CX X E)(z:PA X (e::es) t)
 (d:starEach (e::es) X.env=(false,eval e X.env)::starEach es X.env:=by rfl) (g:(backTo pos (starEach es X.env)).any (·.1)=false:=by rfl)
 (N:eval (.Call (.Attribute o m apos) (e::es) [] pos) X.env=(do
  let n <- eval o X.env
  standAt apos.atName
  let (f,first) <- holding [n] (getMethod n m pl)
  callWith pos f first (backTo pos (starEach (e::es) X.env)) (backToKw pos (keywordEach [] X.env))):=by rfl) :
 PE X (.Call (.Attribute o m apos) (e::es) [] pos) (zM C m sp Ck E ta t):=by
 intro b s i H Q I h;refine PySem.W.methodCall_KW (pl:=pl) (gW (P b s i H _ I h) λu D ⟨x,J,j,v,a,V,S,y,O,l,q⟩=>?_) N;subst y;obtain rfl:u=Value.ref a:=v;refine Hg j O c hm l ?_;refine PySem.W.callWith_K (first:=[.ref a]) (h₀:=X.base) I.ok.mod.g4 hm.kp (gW (z pos b D i J _ j q) λus T ⟨vs,U,p,r,R⟩=>⟨p.Cg,?_⟩) d g;exact LD (us:=.ref a::us) (vs:=.ref a::vs) F L B M G p (.cons rfl r) R
theorem iL{pl:Sem Bool}(z:PE X o ta)(c:Jz X.K C)(hm:LC X.K C m f)(F:b6 X.prog X.w X.K X.mg X.base CX k f fd ps sp)(r:jP k X.A)(n:Binds X.K fd ps ds)(t:bX Ck ds)(p:sP CX X E)
 (v:eval (.Call (.Attribute o m apos) [] [] pos) X.env=(do
  let e <- eval o X.env
  standAt apos.atName
  let (f,first) <- holding [e] (getMethod e m pl)
  callWith pos f first (backTo pos (starEach [] X.env)) (backToKw pos (keywordEach [] X.env))):=by rfl) :
 PE X (.Call (.Attribute o m apos) [] [] pos) (zM C m sp Ck E ta zC):=by
 intro b s i H Q I h;refine PySem.W.methodCall_KW (pl:=pl) (gW (z b s i H _ I h) λu D ⟨x,G,d,g,a,J,B,j,y,l,q⟩=>?_) v;subst j;obtain rfl:u=Value.ref a:=g;refine Hg d y c hm l ?_;exact PySem.W.callWith_K0 (first:=[.ref a]) d.Cg hm.kp (LD (us:=[.ref a]) (vs:=[.ref a]) F r n t p d (.cons rfl .nil) q)
structure Mk(K:af)(C f:Addr):Prop where
 makes:PySem.W.makesIn K C=true
 init:aG K (.ref C) "__init__" = some (some (.ref f))
 fn:PySem.W.isFn K (.ref f)=true
 kp:dU K (.ref C)=true
theorem M5{b:List (Addr×Obj)}{g:St}{H:Hp}{s:Shared}{Q:VK}{us:List Value}{vs:List V}(M:Mk X.K C f)(F:b6 X.prog X.w X.K X.mg X.base CX k f fd ps sp)(t:jP (k+1) X.A)(m:Binds X.K fd ps ds)(y:bX Ck ds)
 (n:sP CX X E) (I:Inv X b g H s) (r:bX vs us)
 (h:∀x c,H x=none->H c=none->c≠x->sp (.ref x::(vs++Ck)) (upd (upd H c (.own x)) x (.ins C c [])) (λv J=>v=.fE/\Q (.ref x) J) E) :
 wpAny (model X.prog X.w) X.A (call (.ref C) us) (EP X b g Q) X.xe s:=by
 have i:=h (s.heap.objs.size+1) s.heap.objs.size (I.hok.fresh (dO _)) (I.hok.fresh (ay _)) (bD (Nat.lt_succ_self _));have d:=Inv.made (C:=C) I;have j:bX (V.ref (s.heap.objs.size+1)::(vs++Ck)) (Value.ref (s.heap.objs.size+1)::(us++ds)):=.cons rfl (r.append y);have q:(Value.ref (s.heap.objs.size+1)::us++ds).length=ps.length:=by
  have e:=j.length;rw[F.len _ _ _ _ i] at e;exact e.symm
 refine wpAny_call (Vl (f:=f) I.Cg M.makes M.init (beq_iff_eq.mp M.fn) (codeAny_mono (F.run _ X.stack _ _ ⟨Value.ref (s.heap.objs.size+1)::us,[]⟩ (Value.ref (s.heap.objs.size+1)::(us++ds)) _ _ E (t.make C us [])
  (d.ad0.make C us []) (m _ (Value.ref (s.heap.objs.size+1)::us) d.Cg q) j i) λr G a=>?_))
 cases r with
 |error e=>exact n b g _ _ e G d a
 |ok o =>
  cases o with
  |ret u =>
   obtain⟨v,p,z,D,l,B⟩:=d.after a;subst l;exact⟨D,⟨V.ref (s.heap.objs.size+1),p,z,rfl,B⟩⟩
  |next=>exact jO a
  |brk=>exact jO a
  |cont=>exact jO a
theorem Rk(M:Mk X.K C f)(F:b6 X.prog X.w X.K X.mg X.base CX k f fd ps sp)(n:jP (k+1) X.A)(u:Gl X x)(g:X.mg x=some (.ref C))(l:Binds X.K fd ps ds)(o:bX Ck ds)(m:sP CX X E)
 (j:PA X (e::es) t) (b:(x==("__debug__" : Str))=false:=by decide) (v:starEach (e::es) X.env=(false,eval e X.env)::starEach es X.env:=by rfl) (c:(backTo pos (starEach es X.env)).any (·.1)=false:=by rfl) :
 PE X (.Call (.Name x p) (e::es) [] pos) (Vm C sp Ck E t):=by
 intro a s i H Q I h;refine wpAny_Call_Name_kw (De I u g ?_ b);refine PySem.W.callWith_K (h₀:=X.base) I.ok.mod.g4 M.kp (gW (j pos a s i H _ I h) λD y ⟨B,z,d,r,q⟩=>⟨d.Cg,?_⟩) v c;exact M5 M F n l o m d r q
theorem Vn(M:Mk X.K C f)(F:b6 X.prog X.w X.K X.mg X.base CX k f fd ps sp)(j:jP (k+1) X.A)(e:Gl X x)(d:X.mg x=some (.ref C))(g:Binds X.K fd ps ds)(c:bX Ck ds)(i:sP CX X E)
 (a:(x==("__debug__" : Str))=false:=by decide):PE X (.Call (.Name x p) [] [] pos) (Vm C sp Ck E zC):=by
 intro b s l H Q I h;refine wpAny_Call_Name_kw (De I e d ?_ a);exact PySem.W.callWith_K0 I.Cg M.kp (M5 (us:=[]) M F j g c i I .nil h)
end
structure aI(N P:List Str)(sc:Scope):Prop where
 kind:sc.kind=.function
 co:sc.isCoroutine=false
 gen:sc.isGenerator=false
 nd:N.Nodup
 pre:N.take P.length=P
 par:∀x∈P,sc.names.lookup x=some .local∨sc.names.lookup x=some .cell
 aa6:∀y∈sc.names,y.2≠.free
theorem Kr{kindOf:Str->Option NameKind}{x:Str}:∀{a:List (Str×Value)} {m:Str->Option Value},(∀v,(x,v)∉a)->bindL kindOf a m x=m x
 |[],_,_=>rfl
 | (n,v)::r,m,h=>by
  unfold bindL;rw[Kr λw b=>h w (aZ _ b)];split
  ·have:x≠n:=by rintro rfl;exact h v cE
   simp[this]
  ·rfl
theorem Ks{kindOf:Str->Option NameKind}{x:Str}:∀{a:List (Str×Value)} {m:Str->Option Value},(∀v,(x,v)∉a)->bindC kindOf a m x=m x
 |[],_,_=>rfl
 | (n,v)::r,m,h=>by
  unfold bindC;rw[Ks λw b=>h w (aZ _ b)];split
  ·rfl
  ·have:x≠n:=by rintro rfl;exact h v cE
   simp[this]
theorem Ku{kindOf:Str->Option NameKind}{x:Str}{v:Value}:∀{P:List Str} {vs:List Value} {i:Nat} {m:Str->Option Value},P.Nodup->P[i]?=some x->vs[i]?=some v->kindOf x=some .local ->
 bindL kindOf (P.zip vs) m x=some v
 |[],_,_,_,_,h,_,_=>by simp at h
 |_::_,[],_,_,_,_,h,_=>by simp at h
 |p::P,w::vs,0,m,nd,b,a,c=>by
  simp at b a;subst b;subst a;show bindL kindOf ((p,w)::P.zip vs) m p=_;unfold bindL;rw[Kr λv d=>(mW.mp nd).1 (List.of_mem_zip d).1,b3 c];simp
 |p::P,w::vs,i+1,m,nd,b,a,c=>by
  show bindL kindOf ((p,w)::P.zip vs) m x=_;unfold bindL;exact Ku (i:=i) (mW.mp nd).2 (by simpa using b) (by simpa using a) c
theorem Kv{kindOf:Str->Option NameKind}{x:Str}{v:Value}:∀{P:List Str} {vs:List Value} {i:Nat} {m:Str->Option Value},P.Nodup->P[i]?=some x->vs[i]?=some v->kindOf x≠some .local ->
 bindC kindOf (P.zip vs) m x=some v
 |[],_,_,_,_,h,_,_=>by simp at h
 |_::_,[],_,_,_,_,h,_=>by simp at h
 |p::P,w::vs,0,m,nd,b,a,c=>by
  simp at b a;subst b;subst a;show bindC kindOf ((p,w)::P.zip vs) m p=_;unfold bindC;rw[Ks λv d=>(mW.mp nd).1 (List.of_mem_zip d).1,b5 c];simp
 |p::P,w::vs,i+1,m,nd,b,a,c=>by
  show bindC kindOf ((p,w)::P.zip vs) m x=_;unfold bindC;exact Kv (i:=i) (mW.mp nd).2 (by simpa using b) (by simpa using a) c
noncomputable def start(N:List Str)(vs:List V):St:=vs.map some++bB (N.length-vs.length) none
noncomputable def oM(CX:SW)(P:Program)(w:World)(K:af)(mg:Str->Option Value)(base:Heap)(N:List Str)(qual:Str)(scope:Scope)(f:Addr)(cd:Value)(A:Around)(outer:List Env)(s:Shared)(H:Hp)(E:XK):Cx where
 prog:=P
 w:=w
 K:=K
 mg:=mg
 base:=base
 A:=A.deeper (envOfC qual scope s.heap.objs.size f cd)
 N:=N
 s₀:=s
 H₀:=H
 env:=envOfC qual scope s.heap.objs.size f cd
 outer:=outer
 stack:=envOfC qual scope s.heap.objs.size f cd::outer
 ex:=[]
 calm:=true
 fn:=λ_=>true
 pn:=[]
 xe:=λe s'=>wpAny (model P w) (A.deeper (envOfC qual scope s.heap.objs.size f cd)) (leaving (envOfC qual scope s.heap.objs.size f cd) e) (λ_ s''=>CX outer H s E e s'') (λe' s''=>CX outer H s E e' s'') s'
theorem M6{a:Scope}{n:Nat}{x:Str}(h:a.names.lookup x=some .cell):∃c,(cellsFrom n a.names []).lookup x=some c:=by
 have q:=PySem.W.cellsFrom_some a.names n [] (.inl h);exact Option.isSome_iff_exists.mp q
theorem SX{CX:SW}{P:Program}{w:World}{K:af}{F:Str->Option Value}{base:Heap}{N ps:List Str}{g:Str}{scope:Scope}{f:Addr}{C:Value}{A:Around}{d:List Env}{s I:Shared}{H:Hp}{E:XK}{us:List Value}{vs:List V}
 (S:aI N ps scope) (M:A.handled=none) (l:PU P w K F base A d s H) (hl:vs.length=ps.length) (r:bX vs us)
 (x:InCallC s s.heap.objs.size (bindL (envOfC g scope s.heap.objs.size f C).kindOf (ps.zip us) λ_=>none) (cellsFrom (s.heap.objs.size+1) scope.names []) (bindC (envOfC g scope s.heap.objs.size f C).kindOf (ps.zip us) λ_=>none) I) :
 Inv (oM CX P w K F base N g scope f C A d s H E) [] (start N vs) H I:=by
 have Q:ps.length<=N.length:=by have:=e8 List.length S.pre;rw[bY] at this;lia
 obtain⟨D,T,rfl,J⟩:=x.done;have m:∀b:Addr,b∉(oM CX P w K F base N g scope f C A d s H E).ex:=λb z=>ee (show b∈([]:List Addr) from z) (-_);refine⟨⟨l.mod,S.kind,rfl,rfl,ay _,λy z c D j=>?_,λy hy=>?_,λy c _ h=>?_,λ_=>M,Around.frames_deeper l.frames,.inr ⟨rfl,rfl⟩,λb z=>ee z (m b),l.bs,l.Xy,λb _ _=>m b,λb z=>ee z (m b),l.Dc,l.ZI⟩,
  rfl,l.bare,Un.kept J,⟨_,x.toInCall.ns,λi y v D j R=>?_⟩,λy c h=>⟨_,x.cell y c h⟩,l.hok.fresh (ay _),λy c h=>?_,λp t=>ee (show p∈([]:List (Addr×Obj)) from t) (-_),l.hok.kept J,?_⟩
 ·exact name_of_addr x.apart (qF D) (qF j)
 ·have hy:scope.names.lookup y=some .cell∨scope.names.lookup y=some .free:=hy
  rcases hy with hy|hy
  ·exact M6 hy
  ·exact ee rfl (S.aa6 _ (qF hy))
 ·exact ji (x.above y c (qF h))
 ·have B:i<vs.length:=by
   unfold start at j;by_cases B:i<vs.length
   ·exact B
   ·rw[bL (by simpa using B)] at j
    rw[List.getElem?_replicate] at j;split at j <;> cases j
  have L:vs[i]?=some v:=by
   unfold start at j;rw[bI (by simpa using B),aj] at j;cases e:vs[i]? with
   |none=>rw[e] at j;cases j
   |some a=>rw[e] at j;cases j;rfl
  obtain⟨u,G,O⟩:=r.get L;have t:ps[i]?=some y:=by
   rw[<- S.pre,List.getElem?_take_of_lt ∅];exact D
  have o:ps.Nodup:=by rw[<- S.pre];exact S.nd.sublist (List.take_sublist _ _)
  refine⟨u,O,?_⟩;rcases S.par y (aU t) with k|k
  ·exact .inl ⟨k,Ku o t G k⟩
  ·obtain⟨c,e⟩:=M6 (n:=s.heap.objs.size+1) k
   refine .inr ⟨.inl k,c,e,?_⟩;have q:=x.cell y c e;rw[Kv o t G (by show scope.names.lookup y≠_;rw[k];decide)] at q;exact q
 ·exact l.hok.fresh (ji (x.above y c (qF h)))
 ·unfold start
  show _=N.length;rw[az,ah,List.length_replicate];lia
theorem Vo{CX:SW}{P:Program}{w:World}{K:af}{F:Str->Option Value}{base:Heap}{k:Nat}{f:Addr}{name c:Str}{g:Arguments}{h:List Stmt}{scope:Scope}{dV kV C Y d ct oc:Value}{Z od:Option Addr}
 {T:Array (Option Value)} {N ps:List Str} {sp:Sp} (lk:K.lookup f=some ⟨oc,od,.func (eK name c g h scope dV kV C Y Z d ct),T⟩) (G:jz K d c=true) (S:aI N ps scope)
 (B:∀vs H Q E,sp vs H Q E->vs.length=ps.length)
 (m:∀(A:Around) (a:List Env) (s:Shared) (H:Hp) (vs:List V) (Q:VK) (E:XK),jP k (A.deeper (envOfC c scope s.heap.objs.size f d))->sp vs H Q E ->
  ∃t,jk (oM CX P w K F base N c scope f d A a s H E) h t/\t {nx:=λ_ j=>Q .fE j,rt:=Q} (start N vs) H) :
 b6 P w K F base CX (k+1) f (eK name c g h scope dV kV C Y Z d ct) ps sp:=by
 refine⟨B,λA a s H X us vs Q E L D hb r Rl=>?_⟩;have hl:=B _ _ _ _ Rl;have U:K.In s.heap:=D.mod.g4.keeps λb o e=>(D.bs b o e).1;have M:s.heap.NoLimit:=D.mod.nolimit.keeps λb o e=>(D.bs b o e).1;have l:∀y∈ps.zip us,scope.names.lookup y.1=some .local∨(scope.names.lookup y.1=some .cell/\((cellsFrom (s.heap.objs.size+1) scope.names []).lookup y.1).isSome=true):=λ⟨n,v⟩ hy=>by
  rcases S.par n (List.of_mem_zip hy).1 with q|q
  ·exact .inl q
  ·exact .inr ⟨q,PySem.W.cellsFrom_some _ _ _ (.inl q)⟩
 refine codeAny_call_function L.depth (U _ _ lk) rfl S.co S.gen rfl (PySem.W.codeRec_of U G) (hb _ _ _ _ ?_);refine wpAny_newFunctionEnv_cells S.kind l λenv he s1 x=>?_;subst he;refine⟨M.keeps x.toInCall.keep,codeAny_func ?_⟩;obtain⟨t,ht,hq⟩:=m A a s H vs Q E (L.deeper _) Rl;have I:Inv (oM CX P w K F base N c scope f d A a s H E) [] (start N vs) H s1:=SX S L.hd D hl r x;refine wpAny_mono (ht [] s1 (start N vs) H _ I hq) (λfl O p=>?_) λe O p=>p;have z:∀{i:St} {j:Hp} {v:V} {u:Value},Inv (oM CX P w K F base N c scope f d A a s H E) [] i j O->RelV v u->Q v j->CE a P w H s Q u O :=
  λ{i j v u} J R q=>⟨v,j,J.os,J.bare,J.base,J.hok,R,q⟩
 cases fl with
 |ret u =>
  obtain⟨v,i,j,J,R,q⟩:=p;exact z J R q
 |next =>
  obtain⟨i,j,J,q⟩:=p;exact z (v:=V.fE) (u:=Value.none) J rfl q
 |brk =>
  obtain⟨_,_,_,q⟩:=p;exact jO q
 |cont =>
  obtain⟨_,_,_,q⟩:=p;exact jO q
section
variable{X:Cx}{x:Str}{p pos:Pos}{e:Expr}{es:List Expr}{t:TA}{id T:String}{r:List V->Hp->VK->Prop}
def CI(r:List V->Hp->VK->Prop)(t:TA):TE:=λσ H Q=>t σ H λvs H1=>r vs H1 Q
theorem M7(y:p9 X (.builtin id) r)(q:Gl X x)(f:X.mg x=none)(n:bootBuiltins x=some (.builtin id))(g:PA X (e::es) t)(k:x≠"__name__" := by decide)(b:(x==("__debug__" : Str))=false:=by decide)
 (v:starEach (e::es) X.env=(false,eval e X.env)::starEach es X.env:=by rfl) (c:(backTo pos (starEach es X.env)).any (·.1)=false:=by rfl):PE X (.Call (.Name x p) (e::es) [] pos) (CI r t):=by
 intro a s d H Q I h;refine wpAny_Call_Name_kw (G6 I q f n ?_ k b);exact PyProof.Rows.callWith_builtin1 (gW (g pos a s d H _ I h) λu l ⟨o,m,i,j,w⟩=>y a l d m o u Q i j w) v c
theorem gu(y:p9 X (.type T) r)(q:Gl X x)(f:X.mg x=none)(n:bootBuiltins x=some (.type T))(g:PA X (e::es) t)(k:x≠"__name__" := by decide)(b:(x==("__debug__" : Str))=false:=by decide)
 (v:starEach (e::es) X.env=(false,eval e X.env)::starEach es X.env:=by rfl) (c:(backTo pos (starEach es X.env)).any (·.1)=false:=by rfl):PE X (.Call (.Name x p) (e::es) [] pos) (CI r t):=by
 intro a s d H Q I h;refine wpAny_Call_Name_kw (G6 I q f n ?_ k b);exact PyProof.Rows.callWith_type1 (gW (g pos a s d H _ I h) λu l ⟨o,m,i,j,w⟩=>y a l d m o u Q i j w) v c
end
end L2
namespace HT
open PySem PyProof.Rows
theorem M8(A:Around)(s:Shared)(a:Int)(t:Tok)(c:Int)(u:Tok):∃e,SeqAt.EqAt A s (.int a t) (.int c u) e/\(e=true↔a=c) :=
 ⟨(a==c),SeqAt.EqAt.int_int a t c u,-_⟩
theorem Vp(A:Around)(s:Shared)(a:Int)(t:Tok)(c:Int)(u:Tok)(prog:Program)(w:World)(E:Value->Shared->Prop)(Q:Value->Shared->Prop)(h:Q (.bool (decide (a<c))) s) :
 wpAny (model prog w) A (richCompare .Lt (.int a t) (.int c u)) Q E s :=
 (PyProof.Rows.lt_int h:wpAny (model prog w) A (compareOp .Lt (.int a t) (.int c u)) Q E s)
section
open PySem.SeqAt
open PySem.AutoSeq1 (wpAny_loadPart')
open PySem.MeetsSeq PySem.MeetsSeq2 PySem.MeetsSeq3
end
section
variable{prog:Program}{w:World}{A:Around}{E:Value->Shared->Prop}{s:Shared}
theorem XX{t b:Addr}{vs ws:List Value}{Q:Value->Shared->Prop}(v:IsTup s.heap t vs.toArray)(r:IsTup s.heap b ws.toArray)(m:vs≠[])
 (y:ws=[]->Q (.ref t) s) (x:ws≠[]->Q (.ref s.heap.objs.size) {s with heap:=s.heap.push {cls:=.type "tuple",data:=.seq (vs++ws).toArray}})
 (j:vs.length+ws.length<=sizeLine):wpAny (model prog w) A (binaryOp .Add (.ref t) (.ref b)) Q E s:=by
 obtain⟨⟨cls,o,data,k⟩,i,q,n,l⟩:=id v;obtain⟨⟨u,g,data2,d⟩,a,c,p,f⟩:=id r;simp only at q l c f;subst q l c f;have e:vs.toArray++ws.toArray=(vs++ws).toArray:=-_
 by_cases h:ws=[]
 ·exact concat_meets ⟨_,i,rfl⟩ ⟨_,a,rfl⟩ noFill_tuple_add seq_tuple_add PySem.F.slot_tuple_add PySem.F.entry_tuple_add (PySem.F.args_tuple_add_2 _ _)
   (tuple_addW1 t b vs.toArray ws.toArray n p o g k d (by simpa using m) (by simp[h])) ⟨i,a,y h⟩
 ·refine concat_meets ⟨_,i,rfl⟩ ⟨_,a,rfl⟩ noFill_tuple_add seq_tuple_add PySem.F.slot_tuple_add PySem.F.entry_tuple_add (PySem.F.args_tuple_add_2 _ _)
   (tuple_addW2 t b vs.toArray ws.toArray n p o g k d (by simpa using m) (by simpa using h) (by rw[aL,aL];exact j)) ⟨i,a,?_⟩
  rw[e];exact x h
noncomputable def lX(n d:Nat):Option Int->Nat
 |none=>d
 |some v=>if v<0 then (v+(n:Int)).toNat else min v.toNat n
theorem GU(n d k:Nat):lX n d (some (k:Int))=min k n:=by
 show (if (k:Int)<0 then ((k:Int)+(n:Int)).toNat else min (k:Int).toNat n)=min k n;rw[b5 ∅,gi]
theorem aa7(n d:Nat)(b:d<=n)(o:Option Int):lX n d o<=n:=by
 cases o with
 |none=>exact b
 |some v =>
  show (if v<0 then (v+(n:Int)).toNat else min v.toNat n)<=n;by_cases a:v<0
  ·rw[b3 a];lia
  ·rw[b5 a];exact Nat.min_le_right _ _
theorem Rm(v:Int)(n d:Nat):(if v<0 then max (v+(n:Int)) 0 else min v (n:Int))=((lX n d (some v):Nat):Int):=by
 show (if v<0 then max (v+(n:Int)) 0 else min v (n:Int))=(((if v<0 then (v+(n:Int)).toNat else min v.toNat n):Nat):Int);by_cases a:v<0
 ·simp only[b3 a];lia
 ·simp only[b5 a];lia
theorem PV(lo a:Option Int)(n:Nat):Builtin.Slice.sliceAdjust lo a 1 (n:Int)=(((lX n 0 lo:Nat):Int),((lX n n a:Nat):Int)):=by
 have b:¬((1:Int)<0):=∅
 unfold Builtin.Slice.sliceAdjust;simp only[b,if_false];refine Prod.ext ?_ ?_
 ·cases lo with
  |none=>rfl
  |some v=>exact Rm v n 0
 ·cases a with
  |none=>rfl
  |some v=>exact Rm v n n
theorem PX(i j:Nat):Builtin.Slice.slicePlaces (i:Int) (j:Int) 1=j-i:=by
 unfold Builtin.Slice.slicePlaces;have a:(1:Int) > 0:=∅
 simp only[a,if_true,Int.ediv_one];split <;> lia
theorem Hi{v:Value}{o:Option Int}{Q:Option Int->Shared->Prop}(p:IsPart v o)(h:Q o s):wpAny (model prog w) A (Builtin.Slice.slicePartIndex v) Q E s:=by
 cases p with
 |none=>exact slicePart_none h
 |int i t=>exact slicePart_int h
theorem Er{f:Addr}{e d:Value}{lo b:Option Int}{n:Nat}{Q:Int×Int×Nat->Shared->Prop}(i:s.heap.IsSliceOf f e d .none)(pl:IsPart e lo)(g:IsPart d b)
 (h:Q (((lX n 0 lo:Nat):Int),1,lX n n b-lX n 0 lo) s):wpAny (model prog w) A (Builtin.Slice.sliceApplied (.ref f) (pure (n:Int))) Q E s:=by
 obtain⟨os,a,j,c⟩:=id i;unfold Builtin.Slice.sliceApplied Builtin.Slice.sliceFields;refine wpAny_bind (wpAny_bind (wpAny_field a c (x:=e) rfl (wpAny_bind (wpAny_field a c (x:=d) rfl (wpAny_bind (wpAny_field a c (x:=.none) rfl (wpAny_pure ?_)))))));refine wpAny_bind (slicePart_none ?_);show wpAny _ _ (if ((1:Int)==0)=true then _ else _) _ _ s;rw[b5 (!_)];refine wpAny_bind (Hi pl (wpAny_bind (Hi g (wpAny_bind (wpAny_pure ?_)))));show wpAny _ _ (match Builtin.Slice.sliceAdjust lo b 1 (n:Int) with|(lo,b)=>pure (lo,(1:Int),Builtin.Slice.slicePlaces lo b 1)) _ _ s;rw[PV lo b n];show wpAny _ _ (pure (((lX n 0 lo:Nat):Int),(1:Int),Builtin.Slice.slicePlaces ((lX n 0 lo:Nat):Int) ((lX n n b:Nat):Int) 1)) _ _ s;rw[PX];exact wpAny_pure h
theorem Vq(xs:Array Value)(i k:Nat):((au k).filterMap λ(m:Nat)=>xs[((i:Int)+(m:Int)*1).toNat]?).toArray=((xs.toList.drop i).take k).toArray:=by
 have e:(λ(m:Nat)=>xs[((i:Int)+(m:Int)*1).toNat]?)=λm=>xs[i+m]?:=by
  funext m
  have:((i:Int)+(m:Int)*1).toNat=i+m:=∅
  rw[this]
 rw[e]
 have:=pick_run xs i k
 rw[List.filterMap_map] at this;have a:((λx=>xs[x]?)∘λx=>i+x)=λm=>xs[i+m]?:=rfl;rw[a] at this;rw[this]
theorem Dj{t e:Addr}{items:Array Value}{j l:Value}{lo a:Option Int}{Q:Value->Shared->Prop}(b:IsTup s.heap t items)(k:s.heap.IsSliceOf e j l .none)(pl:IsPart j lo)(n:IsPart l a)
 (o:¬(lX items.size 0 lo=0/\lX items.size items.size a=items.size))
 (h:Q (.ref s.heap.objs.size) {s with heap:=s.heap.push {cls:=.type "tuple",data:=.seq ((items.toList.drop (lX items.size 0 lo)).take (lX items.size items.size a-lX items.size 0 lo)).toArray}})
 (p:items.size<=sizeLine):wpAny (model prog w) A (getItem (.ref t) (.ref e)) Q E s:=by
 have c:sizeOk (.seq ((items.toList.drop (lX items.size 0 lo)).take (lX items.size items.size a-lX items.size 0 lo)).toArray):=by
  show ((items.toList.drop (lX items.size 0 lo)).take (lX items.size items.size a-lX items.size 0 lo)).toArray.size<=sizeLine;rw[aL,bY,qD,aP];lia
 have u:lX items.size items.size a<=items.size:=aa7 _ _ (ay _) a;obtain⟨os,g,i,r⟩:=id k;have d:s.TypeIs (.ref e) "slice" := ⟨os,g,i⟩;unfold getItem
 try with_reducible refine wpAny_holding ?_
 first|refine wpAny_bind (wpAny_pure ?_)|skip
 refine wpAny_bind (wpAny_sequenceKey b.typeIs (!_) ?_);refine wpAny_bind (wpAny_callSpecial?_slot (name:=Str.ofString "__getitem__") b.typeIs vt
  (wpAny_call_entry vt b.typeIs entry_tuple_getitem ?_ (args_tuple_getitem _ _)))
 show wpAny _ _ (Builtin.Tuple.tupleItemsOf (.ref t) >>= _) _ _ s;refine wpAny_bind (tupleItemsOf_ b ?_);refine wpAny_bind (wpAny_typeOf d ?_);rw[b3 (!_)];refine wpAny_bind (Er k pl n ?_);have f:¬((((lX items.size 0 lo:Nat):Int)==0&&(1:Int)==1&&(lX items.size items.size a-lX items.size 0 lo)==items.size)=true):=by
  intro q;rw[dh,dh] at q;have v:((lX items.size 0 lo:Nat):Int)=0:=eq_of_beq q.1.1;have x:lX items.size items.size a-lX items.size 0 lo=items.size:=eq_of_beq q.2;exact o ⟨∅,∅⟩
 show wpAny _ _ (if (((lX items.size 0 lo:Nat):Int)==0&&(1:Int)==1&&(lX items.size items.size a-lX items.size 0 lo)==items.size)=true then _ else _) _ _ s;rw[b5 f,Vq]
 first
  |exact wpAny_bind (m:=Builtin.Tuple.tupleExact _) (wpAny_newObj_type (wpAny_pure ⟨_,rfl,wpAny_pure h⟩) c)
  |exact wpAny_bind (m:=Builtin.Tuple.tupleExact _) (wpAny_newObj_type (wpAny_bind (wpAny_pure (wpAny_pure ⟨_,rfl,wpAny_pure h⟩))) c)
  |exact wpAny_bind (wpAny_bind (m:=Builtin.Tuple.tupleExact _) (wpAny_newObj_type (wpAny_pure (wpAny_pure ⟨_,rfl,wpAny_pure h⟩)) c))
  |exact wpAny_bind (wpAny_bind (m:=Builtin.Tuple.tupleExact _) (wpAny_newObj_type (wpAny_pure ⟨_,rfl,wpAny_pure h⟩) c))
end
end HT
namespace L2
open PySem PySem.Spec PyProof.Rows
abbrev TO:=St->Hp->(Option Int->Hp->Prop)->Prop
def PO(X:Cx)(e:Option Expr)(t:TO):Prop :=
 ∀(pins:List (Addr×Obj)) (s:Shared) (σ:St) (H:Hp) (Q:Option Int->Hp->Prop),Inv X pins σ H s->t σ H Q ->
  wpAny (model X.prog X.w) X.A (evalPart e X.env) (λu s'=>∃o H',Inv X pins σ H' s'/\IsPart u o/\Q o H') X.xe s
def XY:TO:=λ_ H Q=>Q none H
inductive ZS(Q:Option Int->Hp->Prop)(x:V)(H1:Hp):Prop
 |mk (i:Int) (a:x=.int i) (b:Q (some i) H1):ZS Q x H1
def ad2(t:TE):TO:=λσ H Q=>t σ H (ZS Q)
theorem intsAre_of{ns:List Int}:∀{us:List Value},bX (ns.map V.int) us->IntsAre us ns:=by
 induction ns with
 |nil=>intro us r;rw[List.map_nil] at r;cases r;exact .nil
 |cons n ns a =>
  intro us r;rw[bT] at r;cases r with
  |cons c b =>
   obtain⟨t,e⟩:=c;subst e;exact .cons n t (a b)
section
variable{X:Cx}{e:Expr}{te:TE}{lo hi:Option Expr}{tl th:TO}{pos p2:Pos}
theorem GV:PO X none XY:=by
 intro a s b H Q I h;rw[evalPart_none];exact wpAny_pure ⟨none,H,I,.none,h⟩
theorem rT(h:PE X e te):PO X (some e) (ad2 te):=by
 intro a s b H Q I c;rw[evalPart_some];refine gW (h a s b H _ I c) λu k ⟨x,g,d,f,j⟩=>?_;obtain⟨i,rfl,q⟩:=j;obtain⟨t,rfl⟩:=f;exact⟨some i,g,d,.int i t,q⟩
def SlR(X:Cx)(r:V->Option Int->Option Int->Hp->VK->Prop):Prop :=
 ∀(pins:List (Addr×Obj)) (s:Shared) (σ:St) (H:Hp) (x:V) (v vl vu:Value) (lo hi:Option Int) (sl:Addr) (Q:VK),Inv X pins σ H s->RelV x v->s.heap.IsSliceOf sl vl vu .none->IsPart vl lo->IsPart vu hi->r x lo hi H Q ->
  ∃T id,typeLookup (.type T) "__getitem__" = pure (some (.builtin id))/\s.TypeIs v T/\wpAny (model X.prog X.w) X.A (getItem v (.ref sl)) (EP X pins σ Q) X.xe s
def tSl(r:V->Option Int->Option Int->Hp->VK->Prop)(te:TE)(tl th:TO):TE:=λσ H Q=>te σ H λx H1=>tl σ H1 λl H2=>th σ H2 λu H3=>r x l u H3 Q
theorem wQ{r:V->Option Int->Option Int->Hp->VK->Prop}(y:SlR X r)(F:PE X e te)(hl:PO X lo tl)(p:PO X hi th):PE X (.Subscript e (.Slice lo hi none p2) pos) (tSl r te tl th):=by
 intro a s d H Q I h;refine Subscript_ (gW (F a s d H _ I h) λv o ⟨x,t,k,m,G⟩=>?_);refine wpAny_Slice (gW (hl a o d t _ k G) λf B ⟨l,J,N,K,M⟩=>gW (p a B d J _ N M) λg c ⟨u,i,D,j,E⟩=>?_);rw[evalPart_none];refine wpAny_pure ?_;have L:Inv X a d i {c with heap:=c.heap.push {cls:=.type "slice",data:=.fields #[f,g,.none]}}:=D.kept (t':=c.toks) λb O q=>Heap.get?_push_of_some _ q;obtain⟨T,id,n,z,C⟩:=y a {c with heap:=c.heap.push {cls:=.type "slice",data:=.fields #[f,g,.none]}} d i x v f g l u c.heap.objs.size Q L m (Heap.IsSliceOf.new ..) K j E;show wpAny (model X.prog X.w) X.A (subscriptTail e (.Slice lo hi none p2) v (.ref c.heap.objs.size)) (EP X a d Q) X.xe {c with heap:=c.heap.push {cls:=.type "slice",data:=.fields #[f,g,.none]}};exact tail_any (ops:=[.ref c.heap.objs.size,v]) z n C (by with_unfolding_all rfl)
noncomputable def Dk(xs:List V)(lo hi:Option Int):List V:=(xs.drop (HT.lX xs.length 0 lo)).take (HT.lX xs.length xs.length hi-HT.lX xs.length 0 lo)
theorem FA(xs:List V)(lo hi:Option Int):(Dk xs lo hi).length<=xs.length:=by
 unfold Dk;rw[bY,qD];lia
def ahj(K:af):V->Option Int->Option Int->Hp->VK->Prop:=λx lo hi H Q=>∃a xs,x=.ref a/\cW K H a xs /\
 ¬(HT.lX xs.length 0 lo=0/\HT.lX xs.length xs.length hi=xs.length)/\∀p,H p=none->Q (.ref p) (upd H p (.tup (Dk xs lo hi)))
theorem LF:SlR X (ahj X.K):=by
 intro g s u H x v y z lo hi t Q I j n p k h;obtain⟨a,d,rfl,m,l,q⟩:=h;cases j;obtain⟨e,r,f,i⟩:=I.tuple m;have c:e.toArray.size=d.length:=by rw[aL];exact r.length.symm
 refine⟨"tuple",_,vt.lookup,f.typeIs,?_⟩;refine HT.Dj f n p k (by rw[c];exact l) ?_ (by rw[c];exact i);rw[c];refine⟨.ref s.heap.objs.size,_,I.laid (t':=s.toks) (o:=.tup (Dk d lo hi)) (λb w q=>Heap.get?_push_of_some _ q) (ay _) ?_,rfl,q _ (I.hok.fresh (ay _))⟩;exact⟨aJ (FA d lo hi) i,_,(r.drop (HT.lX d.length 0 lo)).take (HT.lX d.length d.length hi-HT.lX d.length 0 lo),IsTup.new _ _⟩
def ZT(K:af):R2:=λx y H Q=>∃a b xs ys,x=.ref a/\y=.ref b/\cW K H a xs/\cW K H b ys/\xs≠[]/\xs.length+ys.length<=sizeLine /\
 (ys=[]->Q (.ref a) H)/\(ys≠[]->∀p,H p=none->Q (.ref p) (upd H p (.tup (xs++ys))))
theorem bX.LG{xs:List V}{us:List Value}(r:bX xs us):us=[]↔xs=[]:=by
 cases r with
 |nil=>simp
 |cons _ _=>simp
theorem XZ:wN X (binaryOp .Add) (ZT X.K):=by
 intro f s C H x y v u Q I j m h;obtain⟨a,b,i,r,rfl,rfl,k,n,p,g,A,B⟩:=h;cases j;cases m;obtain⟨l,d,t,_⟩:=I.tuple k;obtain⟨e,c,p2,_⟩:=I.tuple n;refine HT.XX t p2 (λz=>p (d.LG.mp z)) (λz=>⟨.ref a,H,I,rfl,A (c.LG.mp z)⟩) (λz=>?_) (by rw[<- d.length,<- c.length];exact g);refine⟨.ref s.heap.objs.size,_,I.laid (t':=s.toks) (o:=.tup (i++r)) (λb D q=>Heap.get?_push_of_some _ q) (ay _) ?_,rfl,B (λw=>z (c.LG.mpr w)) _ (I.hok.fresh (ay _))⟩;exact⟨by rw[az];exact g,_,d.append c,IsTup.new _ _⟩
end
noncomputable def X0(n:Nat)(i:Int):Option Nat:=if 0<=i then (if i<n then some i.toNat else none) else if -(n:Int)<=i then some (i+n).toNat else none
noncomputable def FD{α:Type}(xs:List α)(i:Int):Option α:=(X0 xs.length i).bind λj=>xs[j]?
theorem LH{n:Nat}{i:Int}{j:Nat}(h:X0 n i=some j):seqIndex? i n=some j/\j<n/\-(n:Int)<=i/\i<n:=by
 unfold X0 at h;by_cases b:0<=i
 ·rw[b3 b] at h
  by_cases a:i<n
  ·rw[b3 a] at h
   have e:i.toNat=j:=aN h;exact⟨by rw[seqIndex_of b a,e],∅,∅,a⟩
  ·rw[b5 a] at h;cases h
 ·rw[b5 b] at h
  by_cases a:-(n:Int)<=i
  ·rw[b3 a] at h
   have e:(i+n).toNat=j:=aN h;exact⟨by rw[seqIndex_neg ∅ a,e],∅,a,∅⟩
  ·rw[b5 a] at h;cases h
theorem Ro{α:Type}{xs:List α}{i:Int}{v:α}(h:FD xs i=some v):∃j,seqIndex? i xs.length=some j/\xs[j]?=some v/\j<xs.length/\-(xs.length:Int)<=i/\i<xs.length:=by
 unfold FD at h;cases e:X0 xs.length i with
 |none=>rw[e] at h;cases h
 |some j =>
  rw[e] at h;obtain⟨d,a,b,c⟩:=LH e;exact⟨j,d,h,a,b,c⟩
theorem dX{α:Type}{xs:List α}{j:Nat}{v:α}(h:xs[j]?=some v):FD xs (j:Int)=some v:=by
 have a:j<xs.length:=(ai.mp h).1;have e:X0 xs.length (j:Int)=some j:=by
  unfold X0;rw[b3 ∅,b3 ∅];simp
 unfold FD;rw[e];exact h
def Dl(b:Expr):Prop:=∀o i,subscripted b false o i=operate [o,i] (getItem o i)
def zb(X:Cx)(r:R2):Prop :=
 ∀(value slice:Expr) (pins:List (Addr×Obj)) (s:Shared) (σ:St) (H:Hp) (x y:V) (v u:Value) (Q:VK),Inv X pins σ H s->RelV x v->RelV y u->r x y H Q ->
  subscripted slice false v u=operate [v,u] (getItem v u)->wpAny (model X.prog X.w) X.A (subscriptTail value slice v u) (EP X pins σ Q) X.xe s
def MtR(X:Cx)(id:String)(r:V->List V->Hp->VK->Prop):Prop :=
 ∀(pins:List (Addr×Obj)) (s:Shared) (σ:St) (H:Hp) (x:V) (xs:List V) (v:Value) (us:List Value) (Q:VK),Inv X pins σ H s->RelV x v->bX xs us->r x xs H Q ->
  wpAny (model X.prog X.w) X.A (call (.builtin id) (v::us)) (EP X pins σ Q) X.xe s
section
variable{X:Cx}{a b:Expr}{ta tb:TE}{pos:Pos}
theorem Rp{r:R2}(k:zb X r)(f:PE X a ta)(i:PE X b tb)(j:Dl b):PE X (.Subscript a b pos) (Vb r ta tb):=by
 intro c s e H Q I h;exact Subscript_ (aaY f i I h λv u l x y m n d g q=>k a b c l e m x y v u Q n d g q (j _ _))
inductive SY(K:af)(x y:V)(H:Hp)(Q:VK):Prop
 |mk (p:Addr) (xs:List V) (i:Int) (v:V) (h1:x=.ref p) (h2:y=.int i) (h3:bK K H p xs) (h4:FD xs i=some v) (h5:Q v H):SY K x y H Q
inductive S1(K:af)(x y:V)(H:Hp)(Q:VK):Prop
 |mk (p:Addr) (xs:List V) (i:Int) (v:V) (h1:x=.ref p) (h2:y=.int i) (h3:cW K H p xs) (h4:FD xs i=some v) (h5:Q v H):S1 K x y H Q
theorem Rq:zb X (SY X.K):=by
 intro d f a s m H x y v u Q I B C h n;obtain⟨p,N,i,z,rfl,rfl,D,G,q⟩:=h;cases B;obtain⟨t,rfl⟩:=C;obtain⟨e,r,l,R⟩:=I.list D;obtain⟨j,c,F,O,J,M⟩:=Ro G;obtain⟨w,A,k⟩:=r.get F;have E:=r.length;have P:=Hf;have b:EP X a m Q w s:=⟨z,H,I,k,q⟩;by_cases o:0<=i
 ·have g:i.toNat=j:=by
   rw[seqIndex_of o M] at c;exact aN c
  exact item_listR l.isList o ∅ (by rw[g];simpa using A) b n
 ·have g:(i+(e.toArray.size:Int)).toNat=j:=by
   rw[seqIndex_neg ∅ J] at c;rw[aL,<- E];exact aN c
  exact subscriptTail_builtinR (x:=w) l.isList.typeIs slot_list_getitem.lookup
   (wpAny_getItem_list_neg (Q:=λr L=>r=w/\EP X a m Q r L) l.isList ∅ (by rw[aL] <;> lia) ∅ (by rw[g];simpa using A) ⟨rfl,b⟩) n
theorem Vr:zb X (S1 X.K):=by
 intro b d a s f H x y v u Q I k m h n;obtain⟨p,G,i,z,rfl,rfl,o,C,q⟩:=h;cases k;obtain⟨t,rfl⟩:=m;obtain⟨l,r,g,M⟩:=I.tuple o;obtain⟨j,E,B,J,N,O⟩:=Ro C;obtain⟨w,F,e⟩:=r.get B;have A:=r.length;have L:=Hf;have c:EP X a f Q w s:=⟨z,H,I,e,q⟩;exact subscriptTail_builtinR (x:=w) g.typeIs slot_tuple_getitem.lookup
  (getItem_tuple (j:=j) (Q:=λr D=>r=w/\EP X a f Q r D) g ∅ ∅ (by rw[aL,<- A];exact E) (by simpa using F) ⟨rfl,c⟩) n
theorem PY(a:List Value)(n j:Nat)(u:Value):Obj.mapSeq (·.setIfInBounds j u) {cls:=.type "list",data:=.seq a.toArray n}={cls:=.type "list",data:=.seq (a.set j u).toArray n}:=by
 simp[Obj.mapSeq]
theorem Inv.lst{b:List (Addr×Obj)}{c:St}{H:Hp}{s:Shared}{p:Addr}{xs:List V}(I:Inv X b c H s)(h:H p=some (.lst xs)) :
 ∃(a:List Value) (n:Nat),bX xs a/\s.heap.get? p=some {cls:=.type "list",data:=.seq a.toArray n}/\xs.length<=sizeLine:=by
 obtain⟨z,a,n,r,e⟩:=I.hok p _ h;exact⟨a,n,r,e,z⟩
theorem Inv.aa8{a:List (Addr×Obj)}{i:St}{H:Hp}{s:Shared}{p:Addr}{xs g:List V}{c its':List Value}{n d:Nat}{f:Obj->Obj}(I:Inv X a i H s)(h:H p=some (.lst xs))
 (l:s.heap.get? p=some {cls:=.type "list",data:=.seq c.toArray n}) (j:f {cls:=.type "list",data:=.seq c.toArray n}={cls:=.type "list",data:=.seq its'.toArray d}) (r:bX g its') (m:g.length<=sizeLine) (t:Nat) :
 Inv X a i (upd H p (.lst g)) {s with heap:=s.heap.update p f,toks:=t}:=by
 have e:(s.heap.update p f).get? p=some {cls:=.type "list",data:=.seq its'.toArray d}:=by
  rw[Heap.get?_update_self f l (by rw[j] <;> rfl),j]
 refine I.write (x:=p) (e:=p) (by rw[h];trivial) (.inl rfl) (λb u k q=>(Heap.get?_update_other _ _ (bP k)).trans q) ⟨_,e⟩ ?_;exact⟨m,its',d,r,e⟩
def ad4:V->V->V->Hp->(Hp->Prop)->Prop:=λo i v H Q=>∃p xs k j,o=.ref p/\i=.int k/\H p=some (.lst xs)/\X0 xs.length k=some j/\Q (upd H p (.lst (xs.set j v)))
theorem set_list:adO X ad4:=by
 intro b s z H o i v K J u Q I E A C h;obtain⟨p,y,k,j,rfl,rfl,m,D,q⟩:=h;cases E;obtain⟨t,rfl⟩:=A;obtain⟨a,n,r,f,B⟩:=I.lst m;obtain⟨c,G,g,l⟩:=LH D;have e:=r.length;have F:=Hf;have w:Inv X b z (upd H p (.lst (y.set j v))) {s with heap:=s.heap.update p (Obj.mapSeq (·.setIfInBounds j u))} :=
  I.aa8 m f (PY a n j u) (r.set C j) (by rw[bA];exact B) s.toks
 by_cases x:0<=k
 ·have d:k.toNat=j:=by
   rw[seqIndex_of x l] at c;exact aN c
  exact PySem.W.ki_setAt f x ∅ (by rw[aL,<- e];exact l) (by rw[d];exact⟨_,w,q⟩)
 ·have d:(k+(a.toArray.size:Int)).toNat=j:=by
   rw[seqIndex_neg ∅ g] at c;rw[aL,<- e];exact aN c
  exact PySem.W.ki_setBack f ∅ (by rw[aL,<- e];exact g) ∅ (by rw[d];exact⟨_,w,q⟩)
theorem LI(lo a:Option Int)(n:Nat):(sliceBounds lo a none n).1=((HT.lX n 0 lo:Nat):Int)/\(sliceBounds lo a none n).2.1=((HT.lX n n a:Nat):Int)/\(sliceBounds lo a none n).2.2=1:=by
 refine⟨?_,?_,rfl⟩
 ·cases lo with
  |none=>simp[sliceBounds,HT.lX]
  |some i =>
   simp only[sliceBounds,HT.lX,Option.getD_none,show (1:Int) > 0 by decide,if_true];by_cases h:i<0
   ·simp only[h,if_true] <;> lia
   ·simp only[h,if_false] <;> lia
 ·cases a with
  |none=>simp[sliceBounds,HT.lX]
  |some i =>
   simp only[sliceBounds,HT.lX,Option.getD_none,show (1:Int) > 0 by decide,if_true];by_cases h:i<0
   ·simp only[h,if_true] <;> lia
   ·simp only[h,if_false] <;> lia
theorem JE(a:List Value)(lo b:Option Int):slicePick a.toArray lo b none=((a.drop (HT.lX a.length 0 lo)).take (HT.lX a.length a.length b-HT.lX a.length 0 lo)).toArray:=by
 obtain⟨e,c,d⟩:=LI lo b a.toArray.size;unfold slicePick;rw[e,c,d];simp only[sliceRange_one,pick_run,aL] <;> rfl
def ahl(K:af):V->Option Int->Option Int->Hp->VK->Prop:=λx lo hi H Q=>∃a xs,x=.ref a/\bK K H a xs/\∀p,H p=none->Q (.ref p) (upd H p (.lst (Dk xs lo hi)))
theorem Rr:SlR X (ahl X.K):=by
 intro g s u H x v y z lo e t Q I i m p j h;obtain⟨a,c,rfl,l,q⟩:=h;cases i;obtain⟨k,r,f,n⟩:=I.list l;have d:=r.length;refine⟨"list",_,slot_list_getitem.lookup,f.isList.typeIs,?_⟩;refine wpAny_getItem_list_slice f.isList m p j .none (-_) ?_ (by rw[aL] <;> lia);rw[JE,<- d];refine⟨.ref s.heap.objs.size,_,I.laid (t':=s.toks) (o:=.lst (Dk c lo e)) (λb w q=>Heap.get?_push_of_some _ q) (ay _) ?_,rfl,q _ (I.hok.fresh (ay _))⟩;exact⟨aJ (FA c lo e) n,_,0,(r.drop (HT.lX c.length 0 lo)).take (HT.lX c.length c.length e-HT.lX c.length 0 lo),Heap.get?_push_size _ rfl⟩
noncomputable def zN:V->Bool
 |.fE=>true
 |.bl _=>true
 |.int _=>true
 |.str _=>true
 |_=>false
noncomputable def S2:V->V->Bool
 |.fE,.fE=>true
 |.bl a,.bl b=>a==b
 |.bl a,.int b=>(if a then 1 else 0)==b
 |.int a,.bl b=>a==(if b then 1 else 0)
 |.int a,.int b=>a==b
 |.str a,.str b=>a==b
 |_,_=>false
theorem aa9{A:Around}{s:Shared}{y x:V}{u v:Value}(f:RelV y u)(c:RelV x v)(g:zN y=true)(e:zN x=true):SeqAt.EqAt A s u v (S2 y x):=by
 cases y with
 |fE =>
  cases f;cases x with
  |fE=>cases c;exact SeqAt.EqAt.same _
  |bl b=>cases c;exact SeqAt.EqAt.none_bool b
  |int b=>obtain⟨t,rfl⟩:=c;exact SeqAt.EqAt.none_int b t
  |str b=>obtain⟨t,rfl⟩:=c;exact SeqAt.EqAt.none_str b t
  |_=>exact ee (show false=true from e) aC
 |bl a =>
  cases f;cases x with
  |fE=>cases c;exact SeqAt.EqAt.bool_none a
  |bl b=>cases c;exact SeqAt.EqAt.bool_bool a b
  |int b=>obtain⟨t,rfl⟩:=c;exact SeqAt.EqAt.bool_int a b t
  |str b=>obtain⟨t,rfl⟩:=c;exact SeqAt.EqAt.bool_str a b t
  |_=>exact ee (show false=true from e) aC
 |int a =>
  obtain⟨d,rfl⟩:=f;cases x with
  |fE=>cases c;exact SeqAt.EqAt.int_none a d
  |bl b=>cases c;exact SeqAt.EqAt.int_bool a d b
  |int b=>obtain⟨t,rfl⟩:=c;exact SeqAt.EqAt.int_int a d b t
  |str b=>obtain⟨t,rfl⟩:=c;exact SeqAt.EqAt.int_str a d b t
  |_=>exact ee (show false=true from e) aC
 |str a =>
  obtain⟨d,rfl⟩:=f;cases x with
  |fE=>cases c;exact SeqAt.EqAt.str_none a d
  |bl b=>cases c;exact SeqAt.EqAt.str_bool a d b
  |int b=>obtain⟨t,rfl⟩:=c;exact SeqAt.EqAt.str_int a d b t
  |str b=>obtain⟨t,rfl⟩:=c;exact SeqAt.EqAt.str_str a d b t
  |_=>exact ee (show false=true from e) aC
 |_=>exact ee (show false=true from g) aC
noncomputable def PZ(x:V)(u:Value):Bool:=match u with
 |.none=>S2 .fE x
 |.bool b=>S2 (.bl b) x
 |.int i _=>S2 (.int i) x
 |.str z _=>S2 (.str z) x
 |_=>false
theorem Vs{x y:V}{u:Value}(r:RelV y u)(f:zN y=true):PZ x u=S2 y x:=by
 cases y with
 |fE=>cases r;rfl
 |bl b=>cases r;rfl
 |int i=>obtain⟨t,rfl⟩:=r;rfl
 |str z=>obtain⟨t,rfl⟩:=r;rfl
 |_=>exact ee (show false=true from f) aC
theorem Dm{x:V}:∀{xs:List V} {us:List Value},bX xs us->xs.all zN=true->us.any (PZ x)=xs.any λy=>S2 y x
 |_,_,.nil,_=>rfl
 |y::xs,u::us,.cons r t,f=>by
  rw[List.all_cons,dh] at f;rw[List.any_cons,List.any_cons,Vs r f.1,Dm t f.2]
theorem zO{A:Around}{s:Shared}{x:V}{v:Value}(a:RelV x v)(b:zN x=true):∀{xs:List V} {us:List Value},bX xs us->xs.all zN=true->∀u∈us,SeqAt.EqAt A s u v (PZ x u)
 |_,_,.nil,_=>λu hu=>by cases hu
 |y::xs,u::us,.cons r t,f=>λc hu=>by
  rw[List.all_cons,dh] at f;rcases bx.mp hu with rfl|hu
  ·rw[Vs r f.1];exact aa9 r a f.1 b
  ·exact zO a b t f.2 c hu
noncomputable def Gs(x:V)(xs:List V):Bool:=xs.any λy=>S2 y x
inductive IB(K:af)(neg:Bool)(x y:V)(H:Hp)(Q:VK):Prop
 |mk (p:Addr) (xs:List V) (h1:y=.ref p) (h2:bK K H p xs∨cW K H p xs) (h3:zN x=true) (h4:xs.all zN=true) (h5:Q (.bl (if neg then !Gs x xs else Gs x xs)) H):IB K neg x y H Q
theorem sG:wN X (compareOp .In) (IB X.K false):=by
 intro g s l H x y v u Q I e i h;obtain⟨p,k,rfl,hq,f,b,q⟩:=h;cases i;rcases hq with hq|hq
 ·obtain⟨a,r,d,j⟩:=I.list hq
  refine SeqAt.in_listAt (PZ x) d.isList (λw c=>zO e f r b w (by simpa using c)) ⟨.bl _,H,I,rfl,?_⟩;rw[show a.toArray.any (PZ x)=a.any (PZ x) by simp,Dm r b];exact q
 ·obtain⟨a,r,d,j⟩:=I.tuple hq
  refine SeqAt.in_tupleAt (PZ x) d (λw c=>zO e f r b w (by simpa using c)) ⟨.bl _,H,I,rfl,?_⟩;rw[show a.toArray.any (PZ x)=a.any (PZ x) by simp,Dm r b];exact q
theorem m7:wN X (compareOp .NotIn) (IB X.K true):=by
 intro g s l H x y v u Q I e i h;obtain⟨p,k,rfl,hq,f,b,q⟩:=h;cases i;rcases hq with hq|hq
 ·obtain⟨a,r,d,j⟩:=I.list hq
  refine SeqAt.notIn_listAt (PZ x) d.isList (λw c=>zO e f r b w (by simpa using c)) ⟨.bl _,H,I,rfl,?_⟩;rw[show a.toArray.any (PZ x)=a.any (PZ x) by simp,Dm r b];exact q
 ·obtain⟨a,r,d,j⟩:=I.tuple hq
  refine SeqAt.notIn_tupleAt (PZ x) d (λw c=>zO e f r b w (by simpa using c)) ⟨.bl _,H,I,rfl,?_⟩;rw[show a.toArray.any (PZ x)=a.any (PZ x) by simp,Dm r b];exact q
theorem LJ:p9 X (.builtin "len") (λxs H Q=>∃p b,xs=[.ref p]/\(bK X.K H p b∨cW X.K H p b)/\Q (.int b.length) H):=by
 intro f s j H xs l Q I r h;obtain⟨p,b,rfl,hq,q⟩:=h;obtain⟨u,rfl,g⟩:=vals1 r;cases g;have k:=Hf;rcases hq with hq|hq
 ·obtain⟨c,d,e,i⟩:=I.list hq
  have a:=d.length;exact Calls.call_len_list e.isList (by simp only[aL] <;> lia) ⟨.int b.length,H,I.tok _,⟨s.toks+1,by rw[aL,a]⟩,q⟩
 ·obtain⟨c,d,e,i⟩:=I.tuple hq
  have a:=d.length;exact len_tuple e (by simp only[aL] <;> lia) ⟨.int b.length,H,I.tok _,⟨s.toks+1,by rw[aL,a]⟩,q⟩
theorem iy:p9 X (.type "list") (λxs H Q=>∃p f,xs=[.ref p]/\(bK X.K H p f∨cW X.K H p f)/\∀l,H l=none->Q (.ref l) (upd H l (.lst f))):=by
 intro k s C H xs D Q I r h;obtain⟨p,f,rfl,hq,q⟩:=h;obtain⟨u,rfl,B⟩:=vals1 r;cases B;have i:∀(a:List Value),bX f a->f.length<=sizeLine->∀(c:Heap) (g:Nat),(∀b A,s.heap.get? b=some A->c.get? b=some A) ->
  c.get? s.heap.objs.size=some {cls:=.type "list",dict:=none,data:=.seq a.toArray g,slots:=#[]}->EP X k C Q (.ref s.heap.objs.size) {s with heap:=c}:=λa d m c g t e =>
  ⟨.ref s.heap.objs.size,_,I.laid (t':=s.toks) t (ay _) (show fM X.prog X.w _ c _ (.lst f) from ⟨m,a,g,d,e⟩),rfl,q _ (I.hok.fresh (ay _))⟩
 rcases hq with hq|hq
 ·obtain⟨a,d,y,m⟩:=I.list hq
  have j:=d.length;obtain⟨o,v,z,n,x⟩:=y.isList;exact call_list_seq p (.inl rfl) v z x (λc g t e=>i a d m c g t e) (by simp only[aL] <;> lia)
 ·obtain⟨a,d,y,m⟩:=I.tuple hq
  have j:=d.length;obtain⟨o,v,z,n,x⟩:=y;exact call_list_seq p (.inr rfl) v z x (λc g t e=>i a d m c g t e) (by simp only[aL] <;> lia)
def YI(K:af)(T:String)(x:V)(H:Hp):Prop:=match x with
 |.str _=>T = "str"
 |.int _=>T = "int"
 |.ref p=>(T = "list" /\ ∃xs,bK K H p xs)∨(T = "tuple" /\ ∃o,K.lookup p=some o/\o.cls=.type "tuple" /\ o.dict=none) ∨
  (T = "dict" /\ ((∃kvs,H p=some (.dK kvs))∨∃kvs,H p=some (.dT kvs)))∨(T = "set" /\ ∃S n,H p=some (.set S n))
 |_=>False
theorem Vt{f:List (Addr×Obj)}{m:St}{H:Hp}{s:Shared}{T:String}{x:V}{v:Value}(I:Inv X f m H s)(r:RelV x v)(g:YI X.K T x H) :
 s.TypeIs v T/\∀a,v=.ref a->∃ob,s.heap.get? a=some ob/\ob.dict=none:=by
 cases x with
 |str z =>
  obtain⟨t,rfl⟩:=r;cases (show T = "str" from g);exact⟨typeIs_str s z t,λ_ e=>nomatch e⟩
 |int i =>
  obtain⟨t,rfl⟩:=r;cases (show T = "int" from g);exact⟨typeIs_int s i t,λ_ e=>nomatch e⟩
 |ref p =>
  cases r;rcases g with ⟨rfl,y,u⟩|⟨rfl,o,b,w,k⟩|⟨rfl,b⟩|⟨rfl,S,n,b⟩
  ·obtain⟨q,_,l,_⟩:=I.list u
   refine⟨l.isList.typeIs,λa e=>?_⟩;cases e;obtain⟨o,n,e,c,k,_⟩:=l;exact⟨o,e,k⟩
  ·refine⟨⟨o,I.Cg p o b,w⟩,λa e=>?_⟩
   cases e;exact⟨o,I.Cg _ o b,k⟩
  ·have z:∃o,s.heap.get? p=some o/\o.ExactDict:=by
    rcases b with ⟨h,b⟩|⟨h,b⟩
    ·obtain⟨_,_,_,_,o,_,_,e,d,_⟩:=I.hok p _ b
     exact⟨o,e,d⟩
    ·obtain⟨_,_,_,_,o,_,_,e,d,_⟩:=I.hok p _ b
     exact⟨o,e,d⟩
   obtain⟨o,e,d⟩:=z;refine⟨⟨o,e,d.1⟩,λa j=>?_⟩;cases j;exact⟨o,e,d.2.1⟩
  ·obtain⟨o,_,_,_,e,d,_⟩:=I.hok p _ b
   refine⟨⟨o,e,d.1⟩,λa j=>?_⟩;cases j;exact⟨o,e,d.2.1⟩
 |_=>exact jO g
def ahn(K:af)(T:String)(r:V->List V->Hp->VK->Prop)(to:TE):TE:=λσ H Q=>to σ H λx H1=>YI K T x H1/\r x [] H1 Q
def tBM(K:af)(T:String)(r:V->List V->Hp->VK->Prop)(to:TE)(t:TA):TE:=λσ H Q=>to σ H λx H1=>YI K T x H1/\t σ H1 λxs H2=>r x xs H2 Q
variable{o e:Expr}{es:List Expr}{to:TE}{t:TA}{name:Str}{apos cpos:Pos}{T id:String}{r:V->List V->Hp->VK->Prop}
theorem aba(pa:PlainAttrs T)(d:Slot T name id)(e:typeOf (.builtin id)=pure (.type "method_descriptor"))(j:MtR X id r)(m:PE X o to)
 (b:attributeBase o name X.env (eval o X.env)=eval o X.env:=by rfl) (c:(apos.endLine==cpos.line)=true:=by rfl):PE X (.Call (.Attribute o name apos) [] [] cpos) (ahn X.K T r to):=by
 intro a s f H Q I h;refine wpAny_Call_method0_late b c (gW (m a s f H _ I h) λv k ⟨x,l,g,i,q,p⟩=>?_);obtain⟨t,n⟩:=Vt g i q;exact⟨T,id,pa,d,e,t,n,Calls.callWith_builtin rfl (PySem.evalArgs_none (j a k f l x [] v [] Q g i .nil p))⟩
theorem uJ(pa:PlainAttrs T)(g:Slot T name id)(j:typeOf (.builtin id)=pure (.type "method_descriptor"))(p:MtR X id r)(z:PE X o to)(q:PA X (e::es) t)
 (c:attributeBase o name X.env (eval o X.env)=eval o X.env:=by rfl)
 (f:((backTo cpos (starEach (e::es) X.env)).all (λx=>!x.1)&&(backToKw cpos (keywordEach [] X.env)).all (λx=>x.1.isSome)
  && decide ((e::es).length+([]:List Keyword).length+(if ([]:List Keyword).isEmpty then 0 else 1)<30))=true:=by rfl)
 (d:(apos.endLine==cpos.line)=true:=by rfl) (w:starEach (e::es) X.env=(false,eval e X.env)::starEach es X.env:=by rfl) (b:(backTo cpos (starEach es X.env)).any (·.1)=false:=by rfl) :
 PE X (.Call (.Attribute o name apos) (e::es) [] cpos) (tBM X.K T r to t):=by
 intro a s i H Q I h;refine wpAny_Call_method_late c f d rfl (gW (z a s i H _ I h) λv u ⟨x,y,k,m,J,F⟩=>?_);obtain⟨L,A⟩:=Vt k m J;refine⟨T,id,pa,g,j,L,A,?_⟩;have l:=q cpos a u i y _ k F;rw[w] at l ⊢;refine Calls.callWith_builtin (by show (false || (backTo cpos (starEach es X.env)).any (·.1))=false;rw[b] <;> rfl) (Calls.evalArgs_plain ?_);exact gW l λD B ⟨C,G,n,E,M⟩=>p a B i G x C v D Q n m E M
end
def MtM(X:Cx)(id:String)(r:V->List V->Hp->VK->Prop):Prop :=
 ∀(pins:List (Addr×Obj)) (s:Shared) (σ:St) (H:Hp) (x:V) (xs:List V) (v:Value) (us:List Value) (Q:VK),Inv X pins σ H s->RelV x v->bX xs us->r x xs H Q ->
  wpAny (model X.prog X.w) X.A (call (.builtin id) (v::us)) (EP X pins σ Q) X.xe s
theorem bX.one:∀{x:V} {us:List Value},bX [x] us->∃u,us=[u]/\RelV x u
 |_,_,.cons r .nil=>⟨_,rfl,r⟩
theorem bX.two:∀{x y:V} {us:List Value},bX [x,y] us->∃u v,us=[u,v]/\RelV x u/\RelV y v
 |_,_,_,.cons r (.cons q .nil)=>⟨_,_,rfl,r,q⟩
theorem bX.zero:∀{us:List Value},bX [] us->us=[]
 |_,.nil=>rfl
theorem bX.eraseIdx:∀{xs:List V} {us:List Value} (i:Nat),bX xs us->bX (xs.eraseIdx i) (us.eraseIdx i)
 |_,_,_,.nil=>.nil
 |_,_,0,.cons _ t=>t
 |_,_,i+1,.cons r t=>.cons r (bX.eraseIdx i t)
theorem bX.rep{xs:List V}{us:List Value}(h:bX xs us):∀k:Nat,bX (bB k xs).flatten (bB k us).flatten
 |0=>.nil
 |k+1=>by
  rw[iJ,iJ,vA,vA];exact bX.append h (bX.rep h k)
theorem Kw{α:Type}:∀(l:List α) (i:Nat),(l.eraseIdx i).length<=l.length
 |[],_=>ay _
 |_::_,0=>dO _
 |_::r,i+1=>Nat.succ_le_succ (Kw r i)
theorem foldl_rep(b:List Value):∀(k:Nat) (a:List Value),
 List.foldl (λc f=>c++f) a.toArray (bB k b.toArray)=(a++(bB k b).flatten).toArray
 |0,a=>-_
 |k+1,a=>by
  have e:a.toArray++b.toArray=(a++b).toArray:=-_
  have d:(a++b)++(bB k b).flatten=a++(bB (k+1) b).flatten:=by
   rw[iJ,vA,fz]
  rw[<- d,<- foldl_rep b k (a++b),<- e,iJ,mY]
section
variable{X:Cx}{pins:List (Addr×Obj)}{σ:St}{H:Hp}{s:Shared}{l b:Addr}{xs ys zs:List V}
theorem Inv.ad5{a its':List Value}{n:Nat}{f:Array Value->Array Value}{t':Nat}(I:Inv X pins σ H s)(c:H l=some (.lst xs))
 (e:s.heap.get? l=some {cls:=.type "list",data:=.seq a.toArray n}) (g:f a.toArray=its'.toArray) (h:bX ys its') (i:ys.length<=sizeLine) :
 Inv X pins σ (upd H l (.lst ys)) {s with heap:=s.heap.update l (Obj.mapSeq f),toks:=t'}:=by
 have q:=PySem.IsL.update e f;rw[g] at q;refine I.write (x:=l) (e:=l) (by rw[c];exact trivial) (.inl rfl) (λj u b d=>(Heap.get?_update_other s.heap (Obj.mapSeq f) (bP b)).trans d) ⟨_,q⟩ ?_;exact⟨i,its',_,h,q⟩
theorem Inv.ad6{a:List Value}{t':Nat}(I:Inv X pins σ H s)(b:bX ys a)(c:ys.length<=sizeLine) :
 Inv X pins σ (upd H s.heap.objs.size (.lst ys)) {s with heap:=s.heap.push {cls:=.type "list",data:=.seq a.toArray},toks:=t'} :=
 I.laid (λ_ _ q=>Heap.get?_push_of_some _ q) (ay _) ⟨c,a,0,b,Heap.get?_push_size _ rfl⟩
theorem Inv.fresh(I:Inv X pins σ H s):H s.heap.objs.size=none:=I.hok.fresh (ay _)
theorem Inv.Vu(I:Inv X pins σ H s)(b:H l=some (.lst xs)):xs.length<=sizeLine/\∃(a:List Value) (n:Nat),bX xs a/\xs.length=a.length/\s.heap.get? l=some {cls:=.type "list",data:=.seq a.toArray n}:=by
 obtain⟨z,a,n,r,e⟩:=I.hok l _ b;exact⟨z,a,n,r,r.length,e⟩
theorem Vv{n:Nat}(h:n<=sizeLine):Builtin.List.listTooLong n=false:=by
 unfold Builtin.List.listTooLong;exact eL ∅
end
section
variable{X:Cx}
inductive Rt(x:V)(vs:List V)(H:Hp)(Q:VK):Prop
 |mk (l:Addr) (xs:List V) (y:V) (h1:x=.ref l) (h2:vs=[y]) (h3:H l=some (.lst xs)) (h4:xs.length<sizeLine) (h5:Q .fE (upd H l (.lst (xs++[y])))):Rt x vs H Q
theorem fR:MtM X "list.append" Rt:=by
 intro c s j H x m v p Q I d g h;obtain⟨l,i,y,rfl,rfl,b,o,q⟩:=h;cases d;obtain⟨u,rfl,f⟩:=g.one;obtain⟨z,a,n,r,k,e⟩:=I.Vu b;refine call_meets F.slot_list_append ⟨_,e,rfl⟩ F.entry_list_append (F.args_list_append_2 _ _) (PySem.list_append l a.toArray n u (by rw[aL];lia)) ⟨e,?_⟩;refine⟨.fE,_,I.ad5 (its':=a++[u]) b e (-_) (r.append (.cons f .nil)) ?_,rfl,q⟩;rw[az,List.length_singleton];lia
def abb:V->List V->Hp->VK->Prop:=λx vs H Q=>∃l xs i k y,x=.ref l/\vs=[.int i]/\H l=some (.lst xs)/\-(2^63)<=i/\i<2^63/\seqIndex? i xs.length=some k/\xs[k]?=some y/\Q y (upd H l (.lst (xs.eraseIdx k)))
theorem Vw:MtM X "list.pop" abb:=by
 intro d s E H x G v J Q I g C h;obtain⟨l,f,i,k,y,rfl,rfl,c,D,A,o,B,q⟩:=h;cases g;obtain⟨u,rfl,m⟩:=C.one;obtain⟨t,rfl⟩:=m;obtain⟨z,a,n,r,p,e⟩:=I.Vu c;obtain⟨w,j,b⟩:=r.get B;refine call_meets F.slot_list_pop ⟨_,e,rfl⟩ F.entry_list_pop (F.args_list_pop_2 _ _)
  (MeetsSeq.list_pop_at l a.toArray n i t k w (fitsIndex_both D A) (by rw[aL,<- p];exact o) (by rw[<- gB];exact j) (by rw[aL];lia)) ⟨e,?_⟩
 refine⟨y,_,I.ad5 (its':=a.eraseIdx k) c e ?_ (r.eraseIdx k) ?_,b,q⟩
 ·show a.toArray.eraseIdxIfInBounds k=(a.eraseIdx k).toArray
  rw[List.eraseIdxIfInBounds_toArray]
 ·have:=Kw f k
  lia
def aho:R2:=λx y H Q=>∃l b xs zs,x=.ref l/\y=.ref b/\H l=some (.lst xs)/\H b=some (.lst zs)/\xs.length+zs.length<=sizeLine/\∀p,H p=none->Q (.ref p) (upd H p (.lst (xs++zs)))
theorem abc:wN X (binaryOp .Add) aho:=by
 intro d s A H x y v u Q I f i h;obtain⟨l,b,t,w,rfl,rfl,j,p,C,q⟩:=h;cases f;cases i;obtain⟨z,c,n,r,B,e⟩:=I.Vu j;obtain⟨E,a,D,o,k,g⟩:=I.Vu p;refine PySem.P.add_list e g ?_ (by rw[aL,aL];lia);have m:c.toArray++a.toArray=(c++a).toArray:=-_
 rw[m];exact⟨.ref _,_,I.ad6 (t':=s.toks) (r.append o) (by rw[az];lia),rfl,q _ I.fresh⟩
def ahp:R2:=λx y H Q=>∃l k xs,x=.ref l/\y=.int k/\H l=some (.lst xs)/\-(2^63)<=k/\k<2^63/\xs.length*k.toNat<=sizeLine /\
 ∀p,H p=none->Q (.ref p) (upd H p (.lst (bB k.toNat xs).flatten))
theorem len_rep{α:Type}(xs:List α)(k:Nat):(bB k xs).flatten.length=k*xs.length:=by
 induction k with
 |zero=>simp
 |succ k a=>rw[iJ,vA,az,a,Nat.succ_mul,Nat.add_comm]
theorem abd:wN X (binaryOp .Mult) ahp:=by
 intro p s M H x y v u Q I A B h;obtain⟨l,k,L,rfl,rfl,C,K,E,w,q⟩:=h;cases A;obtain⟨t,rfl⟩:=B;obtain⟨z,b,n,r,D,e⟩:=I.Vu C;have d:b.toArray.size*k.toNat<=sizeLine:=by rw[aL,<- D];exact w
 have g:¬b.toArray.size*k.toNat > (2^63-1)/8:=by
  have:(sizeLine:Nat)<=(2^63-1)/8:=!_
  lia
 have c:¬(!Builtin.List.listFitsIndex k)=true:=by
  rw[fitsIndex_both K E];exact aC
 have j:¬Builtin.List.listTooLong (b.toArray.size*k.toNat)=true:=by
  rw[Vv d];exact aC
 have f:List.foldl (λi o=>i++o) #[] (bB (if b.toArray.isEmpty=true then 0 else k.toNat) b.toArray)=(bB k.toNat b).flatten.toArray:=by
  have J:∀m:Nat,List.foldl (λi o=>i++o) #[] (bB m b.toArray)=(bB m b).flatten.toArray:=λm=>by
   have:=foldl_rep b m []
   rw[List.nil_append] at this;exact this
  rw[J];cases b with
  |nil=>simp
  |cons a N=>rw[b5 (-_)]
 refine wpAny_binaryOp_repeat_ref (T:="list") (U:="int") (!_) ⟨_,e,rfl⟩ (λG=>typeIs_int G k t) noFill_list_mul F.fills_int_mul F.slot_int_rmul repeat_list F.slot_int_index.lookup
  (call_meets F.slot_int_rmul (typeIs_int s k t) F.entry_int_rmul (F.args_int_rmul_2 _ _) (int___rmul___int_list k t l b.toArray n)
   ⟨e,rfl,⟨_,e,rfl⟩,call_meets F.slot_list_mul ⟨_,e,rfl⟩ F.entry_list_mul (F.args_list_mul_2 _ _) (AutoListH.list___mul___list_int_3 l b.toArray n k t c g j) ⟨e,?_⟩⟩)
 rw[f];exact⟨.ref _,_,I.ad6 (t':=s.toks) (r.rep k.toNat) (by rw[len_rep,Nat.mul_comm];exact w),rfl,q _ I.fresh⟩
end
section
variable{κ:Type}[DecidableEq κ]
noncomputable def Dp(kvs:List (κ×V))(k:κ):Option V:=(kvs.find? λkv=>decide (kv.1=k)).map (·.2)
noncomputable def putK(kvs:List (κ×V))(k:κ)(v:V):List (κ×V) :=
 if (kvs.any λkv=>decide (kv.1=k))=true then kvs.map (λkv=>if kv.1=k then (kv.1,v) else kv) else kvs++[(k,v)]
theorem zP{p:κ×V}{r:List (κ×V)}{k:κ}(e:p.1=k):Dp (p::r) k=some p.2:=by simp[Dp,sL,e]
theorem zQ{p:κ×V}{r:List (κ×V)}{k:κ}(e:¬p.1=k):Dp (p::r) k=Dp r k:=by simp[Dp,sL,e]
theorem M9(k:κ):∀kvs:List (κ×V),(kvs.any λa=>decide (a.1=k))=(Dp kvs k).isSome
 |[]=>rfl
 |p::r=>by
  rw[List.any_cons];by_cases e:p.1=k
  ·simp only[zP e,eH e,Bool.true_or,Option.isSome_some]
  ·rw[zQ e,eL e,Bool.false_or];exact M9 k r
theorem FE(kvs:List (κ×V))(k:κ)(v:V):(putK kvs k v).length<=kvs.length+1:=by
 unfold putK;split
 ·rw[ah];lia
 ·rw[az,bq,List.length_nil];lia
theorem BC.Es{o:Option V}{u:Option Value}(r:BC o u):o.isSome=u.isSome:=by
 cases o with
 |none=>cases u with
  |none=>rfl
  |some _=>exact (show False from r).elim
 |some _=>cases u with
  |none=>exact (show False from r).elim
  |some _=>rfl
theorem BC.getD{o:Option V}{u:Option Value}{d:V}{d':Value}(r:BC o u)(a:RelV d d'):RelV (o.getD d) (u.getD d'):=by
 cases o with
 |none=>cases u with
  |none=>exact a
  |some _=>exact (show False from r).elim
 |some _=>cases u with
  |none=>exact (show False from r).elim
  |some _=>exact r
theorem KV.val{kvs:List (κ×V)}{vs:List (κ×Value)}(r:KV kvs vs)(k:κ):BC (Dp kvs k) (valueAt vs k):=by
 unfold KV at r;induction r with
 |nil=>exact lF
 |@cons p q i c h t g =>
  obtain⟨d,f⟩:=h;by_cases e:p.1=k
  ·have a:q.1=k:=d.symm.trans e
   have b:valueAt (q::c) k=some q.2:=by simp[valueAt,sL,a]
   rw[zP e,b];exact f
  ·have a:¬q.1=k:=λz=>e (d.trans z)
   have b:valueAt (q::c) k=valueAt c k:=by simp[valueAt,sL,a]
   rw[zQ e,b];exact g
theorem KV.any{kvs:List (κ×V)}{vs:List (κ×Value)}(r:KV kvs vs)(k:κ):(kvs.any λa=>decide (a.1=k))=vs.any λa=>decide (a.1=k):=by
 unfold KV at r;induction r with
 |nil=>rfl
 |cons h t b=>rw[List.any_cons,List.any_cons,b,h.1]
theorem KV.repl{kvs:List (κ×V)}{vs:List (κ×Value)}(r:KV kvs vs)(k:κ){y:V}{u:Value}(c:RelV y u) :
 KV (kvs.map λa=>if a.1=k then (a.1,y) else a) (vs.map λa=>if a.1=k then (a.1,u) else a):=by
 unfold KV at r ⊢;induction r with
 |nil=>exact .nil
 |@cons p q g i h t f =>
  rw[bT,bT];refine .cons ?_ f;obtain⟨b,d⟩:=h;by_cases e:p.1=k
  ·rw[b3 e,b3 (b.symm.trans e)];exact⟨b,c⟩
  ·rw[b5 e,b5 (λz=>e (b.trans z))];exact⟨b,d⟩
theorem KV.put{kvs:List (κ×V)}{vs:List (κ×Value)}(r:KV kvs vs)(k:κ){y:V}{u:Value}(a:RelV y u):KV (putK kvs k y) (stored vs k u):=by
 unfold putK stored;rw[r.any k];by_cases e:(vs.any λb=>decide (b.1=k))=true
 ·rw[b3 e,b3 e];exact r.repl k a
 ·rw[b5 e,b5 e];exact Paired.snoc r ⟨rfl,a⟩
theorem KV.length{kvs:List (κ×V)}{vs:List (κ×Value)}(r:KV kvs vs):kvs.length=vs.length:=Paired.length r
end
theorem Ru{P:Program}{w:World}{k:Key}{u:Value}(r:RelV (kV k) u):(iw P w).is k u=true:=by
 cases k with
 |inl i=>obtain⟨t,e⟩:=(show ∃t,u=Value.int i t from r);subst e;exact MZ P w i t
 |inr x=>obtain⟨t,e⟩:=(show ∃t,u=Value.str x t from r);subst e;exact M0 P w x t
theorem Ky{P:Program}{w:World}:∀{a:List Key} {us:List Value},bX (a.map kV) us->ItemsAre (iw P w) a us
 |[],_,r=>by rw[List.map_nil] at r;cases r;exact .nil
 |k::a,_,r=>by
  rw[bT] at r;cases r with
  |cons h t=>exact .cons (Ru h) (Ky t)
abbrev KT(H:Hp):List (List Key×V)->List (List Key×Addr×Value)->Prop:=Paired λp q=>p.1=q.1/\H q.2.1=some (.tup (p.1.map kV))/\RelV p.2 q.2.2
theorem KT.val{H:Hp}{kvs:List (List Key×V)}{xs:List (List Key×Addr×Value)}(r:KT H kvs xs)(k:List Key):BC (Dp kvs k) ((atKey xs k).map (·.2)):=by
 induction r with
 |nil=>exact lF
 |@cons p q i c h t g =>
  obtain⟨d,_,f⟩:=h;by_cases e:p.1=k
  ·have a:q.1=k:=d.symm.trans e
   have b:atKey (q::c) k=some q.2:=by simp[atKey,sL,a]
   rw[zP e,b];exact f
  ·have a:¬q.1=k:=λz=>e (d.trans z)
   have b:atKey (q::c) k=atKey c k:=by simp[atKey,sL,a]
   rw[zQ e,b];exact g
theorem KT.repl{H:Hp}{kvs:List (List Key×V)}{xs:List (List Key×Addr×Value)}(r:KT H kvs xs)(k:List Key){y:V}{u:Value}(f:RelV y u) :
 KT H (kvs.map λb=>if b.1=k then (b.1,y) else b) (xs.map (putAt k u)):=by
 induction r with
 |nil=>exact .nil
 |@cons p q i j h t g =>
  rw[bT,bT];refine .cons ?_ g;obtain⟨a,c,d⟩:=h;unfold putAt;by_cases e:p.1=k
  ·rw[b3 e,b3 (a.symm.trans e)];exact⟨a,c,f⟩
  ·rw[b5 e,b5 (λz=>e (a.trans z))];exact⟨a,c,d⟩
theorem KT.put{H:Hp}{kvs:List (List Key×V)}{xs:List (List Key×Addr×Value)}(r:KT H kvs xs)(k:List Key){b:Addr}{y:V}{u:Value}(d:H b=some (.tup (k.map kV)))(a:RelV y u) :
 KT H (putK kvs k y) (storedH xs k b u):=by
 have e:(kvs.any λc=>decide (c.1=k))=(atKey xs k).isSome:=by
  rw[M9,(r.val k).Es,Option.isSome_map]
 unfold putK storedH;rw[e];by_cases q:(atKey xs k).isSome=true
 ·rw[b3 q,b3 q];exact r.repl k a
 ·rw[b5 q,b5 q];exact Paired.snoc r ⟨rfl,d,a⟩
theorem KT.keeps{H c:Hp}{kvs:List (List Key×V)}{xs:List (List Key×Addr×Value)}(r:KT H kvs xs)(d:∀b a,H b=some (.tup a)->c b=some (.tup a)):KT c kvs xs :=
 Paired.XI r λ_ _ z=>⟨z.1,d _ _ z.2.1,z.2.2⟩
section
variable{P:Program}{w:World}{H:Hp}{h:Heap}{a:Addr}
theorem ZU{u:HO}(ok:zI P w H h)(e:Rd H a u):fM P w H h a u:=e.ok ok
theorem Rv{kvs:List (Key×V)}(ok:zI P w H h)(e:Rd H a (.dK kvs)):kvs.length<=sizeLine/\(a==sysModules)=false/\∃vs,KV kvs vs/\h.DictOf (iw P w) a vs :=
 show fM P w H h a (.dK kvs) from ZU ok e
theorem ad8{kvs:List (Key×V)}(ok:zI P w H h)(e:H a=some (.dK kvs)):kvs.length<=sizeLine/\(a==sysModules)=false/\∃vs,KV kvs vs/\h.DictOf (iw P w) a vs:=Rv ok (.inl e)
theorem LK{c:List Key}(ok:zI P w H h)(e:H a=some (.tup (c.map kV))):(tupleKind (iw P w)).is h c a:=by
 obtain⟨_,b,r,o,g,d,n,f⟩:=(show fM P w H h a (.tup (c.map kV)) from ok a _ e);exact⟨o,b.toArray,n,g,d,f,by simpa using Ky r⟩
theorem Rx{kvs:List (List Key×V)}(ok:zI P w H h)(e:Rd H a (.dT kvs)):kvs.length<=sizeLine/\(a==sysModules)=false /\
 ∃xs,KT H kvs xs/\h.DictOfH (tupleKind (iw P w)) a xs:=by
 obtain⟨z,y,xs,r,o,f,g,s,i,d,j,k⟩:=(show fM P w H h a (.dT kvs) from ZU ok e);refine⟨z,y,xs,r,o,f,g,s,i,d,j,λx hx=>?_,k⟩;have b:∀{l:List (List Key×V)} {m:List (List Key×Addr×Value)},KT H l m->∀x∈m,(tupleKind (iw P w)).is h x.1 x.2.1:=by
  intro l m q;induction q with
  |nil=>intro x hx;exact nomatch hx
  |@cons p q u v c t n =>
   intro x hx;rcases bx.mp hx with e|hx
   ·subst e
    exact LK ok (by rw[<- c.1];exact c.2.1)
   ·exact n x hx
 exact b r x hx
theorem ad9{kvs:List (List Key×V)}(ok:zI P w H h)(e:H a=some (.dT kvs)):kvs.length<=sizeLine/\(a==sysModules)=false /\
 ∃xs,KT H kvs xs/\h.DictOfH (tupleKind (iw P w)) a xs:=Rx ok (.inl e)
end
def JF(H:Hp)(a:Addr)(y:V)(r:Option V):Prop :=
 (∃kvs k,Rd H a (.dK kvs)/\y=kV k/\r=Dp kvs k)∨∃kvs k b,Rd H a (.dT kvs)/\y=.ref b/\H b=some (.tup (k.map kV))/\r=Dp kvs k
def Na(H:Hp)(a:Addr)(y v:V)(H':Hp):Prop :=
 (∃kvs k,H a=some (.dK kvs)/\y=kV k/\kvs.length<sizeLine/\H'=upd H a (.dK (putK kvs k v))) ∨
 ∃kvs k b,H a=some (.dT kvs)/\y=.ref b/\H b=some (.tup (k.map kV))/\kvs.length<sizeLine/\H'=upd H a (.dT (putK kvs k v))
theorem JF.k{H:Hp}{a:Addr}{kvs:List (Key×V)}{k:Key}(e:H a=some (.dK kvs)):JF H a (kV k) (Dp kvs k):=.inl ⟨kvs,k,.inl e,rfl,rfl⟩
theorem JF.t{H:Hp}{a b:Addr}{kvs:List (List Key×V)}{k:List Key}(e:H a=some (.dT kvs))(c:H b=some (.tup (k.map kV))):JF H a (.ref b) (Dp kvs k):=.inr ⟨kvs,k,b,.inl e,rfl,c,rfl⟩
theorem Na.k{H:Hp}{a:Addr}{kvs:List (Key×V)}{k:Key}{v:V}(e:H a=some (.dK kvs))(hl:kvs.length<sizeLine):Na H a (kV k) v (upd H a (.dK (putK kvs k v))):=.inl ⟨kvs,k,e,rfl,hl,rfl⟩
theorem Na.t{H:Hp}{a b:Addr}{kvs:List (List Key×V)}{k:List Key}{v:V}(e:H a=some (.dT kvs))(c:H b=some (.tup (k.map kV)))(hl:kvs.length<sizeLine) :
 Na H a (.ref b) v (upd H a (.dT (putK kvs k v))):=.inr ⟨kvs,k,b,e,rfl,c,hl,rfl⟩
section
variable{X:Cx}{pins:List (Addr×Obj)}{σ:St}{H:Hp}{s:Shared}{a:Addr}{y v:V}{u r:Value}{o:Option V}{A:Around}{E:Value->Shared->Prop}
theorem Inv.big(I:Inv X pins σ H s):sysModules<s.heap.objs.size:=by
 have h:mainGlobals<s.heap.objs.size:=(I.mod.glob.keeps I.bk).lt;exact Nat.lt_trans (!_) h
theorem ahq{Q:Value->Shared->Prop}(m:A.units+1<cLine)(I:Inv X pins σ H s)(g:JF H a y o)(j:RelV y u)(h:∀s',Inv X pins σ H s'->Q (.bool o.isSome) s') :
 wpAny (model X.prog X.w) A (compareOp .In u (.ref a)) Q E s:=by
 rcases g with ⟨c,k,e,d,l⟩|⟨c,k,b,e,d,n,l⟩
 ·subst d
  obtain⟨z,f,r,rel,i⟩:=Rv I.hok e;refine wpAny_in_of (Ru j) f i.mapOf ?_;rw[<- (rel.val k).Es,<- l];exact h _ (I.tok _)
 ·subst d
  cases (show u=Value.ref b from j);obtain⟨z,f,p,rel,i⟩:=Rx I.hok e;refine wpAny_in_heap (tupleKind_room_in1 m) (LK I.hok n) f i ?_;have q:=(rel.val k).Es;rw[Option.isSome_map] at q;rw[<- q,<- l];exact h _ (I.tok _)
theorem Ry{h':Heap}{t':Nat}{ob:HO}(I:Inv X pins σ H s)(g:Ls (H a))(d:Heap.SameBut a s.heap h')(f:∃q,h'.get? a=some q)(c:fM X.prog X.w (upd H a ob) h' a ob) :
 Inv X pins σ (upd H a ob) {s with heap:=h',toks:=t'} :=
 I.write (x:=a) (e:=a) g (.inl rfl) (λb q h z=>(d.2 b h).trans z) f c
theorem abe{P:Program}{w:World}{d:Hp}{h':Heap}{kvs:List (Key×V)}{vs:List (Key×Value)}(z:kvs.length<=sizeLine)(c:(a==sysModules)=false)(b:KV kvs vs)(dd:h'.DictOf (iw P w) a vs) :
 fM P w d h' a (.dK kvs):=⟨z,c,vs,b,dd⟩
theorem S3{F:Hp}{Q:Unit->Shared->Prop}(O:A.units+1<cLine)(I:Inv X pins σ H s)(g:Na H a y v F)(B:RelV y u)(J:RelV v r)(h:∀s',Inv X pins σ F s'->Q () s') :
 wpAny (model X.prog X.w) A (setItem (.ref a) u r) Q E s:=by
 rcases g with ⟨d,k,e,n,l,m⟩|⟨d,k,b,e,n,G,l,m⟩
 ·subst n m
  obtain⟨z,p,R,rel,t⟩:=ad8 I.hok e;have x:R.length<=sizeLine:=by rw[<- rel.length];exact z
  have o:(putK d k v).length<=sizeLine:=by have:=FE d k v;lia
  refine wpAny_setItem_pairs (hsz:=x) (Ru B) t λD f j=>h _ ?_;have S:∃q,D.get? a=some q:=let ⟨q,_,_,i,_⟩:=f;⟨q,i⟩;exact Ry I (by rw[e];exact lF) j S (abe o p (rel.put k J) f)
 ·subst n m
  cases (show u=Value.ref b from B);obtain⟨z,p,K,rel,t⟩:=ad9 I.hok e;have x:K.length<=sizeLine:=by rw[<- Paired.length rel];exact z
  have o:(putK d k v).length<=sizeLine:=by have:=FE d k v;lia
  refine wpAny_setItem_heap (hsz:=x) (tupleKind_room_in1 O) (LK I.hok G) t λD f j=>h _ ?_;obtain⟨q,M,N,i,P,L,T,_,U⟩:=f;refine Ry I (by rw[e];exact lF) j ⟨q,i⟩ ⟨o,p,_,(rel.put k G J).keeps λc V C=>?_,q,M,N,i,P,L,T,U⟩;rw[aF (m5 C e (λz=>nomatch z))];exact C
end
def ahr(ty td:TE):TE:=λσ H Q=>ty σ H λy H1=>td σ H1 λx H2=>∃a o,x=.ref a/\JF H2 a y o/\Q (.bl o.isSome) H2
def aea(td ty tv:TE):TS:=λD σ H=>tv σ H λv H1=>td σ H1 λx H2=>ty σ H2 λy H3=>∃a H4,x=.ref a/\Na H3 a y v H4/\D.nx σ H4
section
variable{X:Cx}{o i e value:Expr}{pos pos' tpos:Pos}{td ty tv:TE}
theorem abf(l:X.A.units+1<cLine)(m:PE X i ty)(p:PE X o td):PC X .In i o (ahr ty td):=by
 intro b s c H Q I h;refine gW (m b s c H _ I h) λD k ⟨y,n,f,j,t⟩=>gW (p b k c n _ f t) λu B ⟨x,v,z,d,a,r,e,g,w⟩=>?_;subst e;obtain rfl:u=Value.ref a:=d;exact ahq l z g j λC q=>⟨.bl r.isSome,v,q,rfl,w⟩
theorem Rz(m:X.A.units+1<cLine)(t:PE X o td)(n:PE X i ty)(z:PE X value tv)(p:swapsWith value (some (.Subscript o i pos')) pos.line X.env=pure false) :
 PS X (.Assign [.Subscript o i pos'] value pos) (aea td ty tv):=by
 intro b s c H D I h;refine wpAny_Assign_Subscript (gW (z b s c H _ I h) λr l ⟨v,q,j,E,F⟩=>gW (t b l c q _ j F) λu w ⟨x,G,L,d,K⟩=>gW (n b w c G _ L K) λP O ⟨y,N,B,k,a,f,e,g,C⟩=>?_) p;subst e;obtain rfl:u=Value.ref a:=d;exact S3 m B g k E λM J=>⟨c,f,J,C⟩
end
theorem Vx{P:Program}{w:World}{H:Hp}(h:Heap)(a:sysModules<h.objs.size):fM P w H (h.push {cls:=.type "dict",data:=.dict #[]}) h.objs.size (.dK []) :=
 ⟨bE _,beq_eq_false_iff_ne.mpr (bP (bD a)),[],.nil,Heap.DictOf.new h⟩
theorem Vy{P:Program}{w:World}{H:Hp}(h:Heap)(a:sysModules<h.objs.size):fM P w H (h.push {cls:=.type "dict",data:=.dict #[]}) h.objs.size (.dT []) :=
 ⟨bE _,beq_eq_false_iff_ne.mpr (bP (bD a)),[],.nil,_,#[],0,Heap.get?_push_size _ rfl,⟨rfl,rfl,rfl⟩,rfl,rfl,lG⟩
def abg:TE:=λ_ H Q=>∀p,H p=none->Q (.ref p) (upd H p (.dK []))
def abh:TE:=λ_ H Q=>∀p,H p=none->Q (.ref p) (upd H p (.dT []))
section
variable{X:Cx}{pos:Pos}
theorem Vz:PE X (.Dict [] [] pos) abg:=λb s c H Q I h =>
 wpAny_Dict_empty ⟨.ref s.heap.objs.size,_,I.laid (a:=s.heap.objs.size) (o:=.dK []) (t':=s.toks) (λ_ _ q=>Heap.get?_push_of_some _ q) (ay _) (Vx s.heap I.big),rfl,h _ (I.hok.fresh (ay _))⟩
theorem Nb:PE X (.Dict [] [] pos) abh:=λb s c H Q I h =>
 wpAny_Dict_empty ⟨.ref s.heap.objs.size,_,I.laid (a:=s.heap.objs.size) (o:=.dT []) (t':=s.toks) (λ_ _ q=>Heap.get?_push_of_some _ q) (ay _) (Vy s.heap I.big),rfl,h _ (I.hok.fresh (ay _))⟩
end
structure M1(X:Cx)(o:Expr)(m:Str)(apos:Pos)(e:Expr)(cpos:Pos):Prop where
 base:attributeBase o m X.env (eval o X.env)=eval o X.env
 few:((backTo cpos (starEach [e] X.env)).all (λx=>!x.1)&&(backToKw cpos (keywordEach [] X.env)).all (λx=>x.1.isSome)
  && decide (([e]:List Expr).length+([]:List Keyword).length+(if ([]:List Keyword).isEmpty then 0 else 1)<30))=true
 line:(apos.endLine==cpos.line)=true
 trees:backTo cpos (starEach [e] X.env)=[(false,eval e X.env)]
def IsD(H:Hp)(a:Addr):Prop:=(∃kvs,Rd H a (.dK kvs))∨∃kvs,Rd H a (.dT kvs)
theorem abi{X:Cx}{f:List (Addr×Obj)}{k:St}{H:Hp}{s:Shared}{a:Addr}(I:Inv X f k H s)(d:IsD H a) :
 s.TypeIs (.ref a) "dict" /\ (∀b,Value.ref a=.ref b->∃ob,s.heap.get? b=some ob/\ob.dict=none)/\(a==sysModules)=false:=by
 rcases d with ⟨g,e⟩|⟨g,e⟩
 ·obtain⟨_,h,m,_,c⟩:=Rv I.hok e
  refine⟨c.typeIs,λb q=>?_,h⟩;cases q;obtain⟨ob,_,_,j,i,_⟩:=c;exact⟨ob,j,i.2.1⟩
 ·obtain⟨_,h,l,_,c⟩:=Rx I.hok e
  refine⟨c.typeIs,λb q=>?_,h⟩;cases q;obtain⟨ob,_,_,j,i,_⟩:=c;exact⟨ob,j,i.2.1⟩
section
variable{X:Cx}{pins:List (Addr×Obj)}{σ:St}{H:Hp}{s:Shared}{a:Addr}{y d:V}{u r:Value}{o:Option V}{A:Around}{E:Value->Shared->Prop}
theorem abj{Q:Value->Shared->Prop}(p:A.units+1<cLine)(I:Inv X pins σ H s)(g:JF H a y o)(j:RelV y u)(h:∀m s',Inv X pins σ H s'->RelV (o.getD .fE) m->Q m s') :
 wpAny (model X.prog X.w) A (call (.builtin "dict.get") [.ref a,u]) Q E s:=by
 rcases g with ⟨d,k,e,f,l⟩|⟨d,k,b,e,f,q,l⟩
 ·subst f
  obtain⟨z,i,r,rel,c⟩:=Rv I.hok e;refine call_meetsIn PySem.F.slot_dict_get c.typeIs PySem.F.entry_dict_get (PySem.F.args_dict_get_2 _ _) (meets_dict_get (iw X.prog X.w) a (Ru j) i) ⟨_,c.mapOf,h _ _ (I.tok _) ?_⟩;rw[l];exact (rel.val k).getD rfl
 ·subst f
  cases (show u=Value.ref b from j);obtain⟨z,i,n,rel,c⟩:=Rx I.hok e;refine call_meetsIn PySem.F.slot_dict_get c.typeIs PySem.F.entry_dict_get (PySem.F.args_dict_get_2 _ _) (meetsH_dict_get (tupleKind (iw X.prog X.w)) a b i) ⟨tupleKind_room_in1 p,k,n,LK I.hok q,c,h _ _ (I.tok _) ?_⟩;rw[l];exact (rel.val k).getD rfl
end
def abk(td ty:TE):TE:=λσ H Q=>td σ H λx H1=>∃a,x=.ref a/\IsD H1 a/\ty σ H1 λy H2=>∃o,JF H2 a y o/\Q (o.getD .fE) H2
section
variable{X:Cx}{o e f:Expr}{apos cpos:Pos}{td ty tx:TE}
theorem VA(q:X.A.units+1<cLine)(t:PE X o td)(w:PE X e ty)(m:M1 X o "get" apos e cpos):PE X (.Call (.Attribute o "get" apos) [e] [] cpos) (abk td ty):=by
 intro b s f H Q I h;refine wpAny_Call_method m.base m.few m.line PySem.F.plainAttrs_dict PySem.F.slot_dict_get PySem.F.type_dict_get (gW (t b s f H _ I h) λu p ⟨x,r,i,j,a,l,d,B⟩=>?_);subst l;obtain rfl:u=Value.ref a:=j;obtain⟨k,z,_⟩:=abi i d;refine⟨k,z,?_⟩;rw[m.trees];refine Calls.callWith_builtin rfl (Calls.evalArgs_plain (Calls.spliced_cons (gW (w b p f r _ i B) λL J ⟨y,C,E,n,M,g,D⟩=>Calls.spliced_nil ?_)));exact abj q E g n λG K v c=>⟨_,C,v,c,D⟩
end
end L2
namespace Att
open PySem PySem.W PySem.Calls PyProof.Rows
theorem Gu{P:Params}{h:Heap}:∀(ns:List Int) (vs:List Value),WellAll P h vs (ns.map WData.int)->IntsAre vs ns:=by
 intro ns;induction ns with
 |nil =>
  intro vs w;rw[List.map_nil] at w;cases w;exact .nil
 |cons n ns c =>
  intro vs w;rw[bT] at w;cases w with
  |cons a b =>
   cases a;exact .cons _ _ (c _ b)
theorem S4{l:OpenLaw}{n:Nat}(t:l.most=some n){P:Params}{h:Heap}{args:List WData}{b:List Value}
 (c:l.row.toRowW.claim.pre args=true) (j:WellAll P h b args) :
 ∃a vs ns,b=[Value.ref a]/\args=[WData.list (ns.map WData.int)]/\h.get? a=some {cls:=.type "list",data:=.seq vs.toArray}/\IntsAre vs ns/\ns.length<=n:=by
 have k:WShape.hasAll [] args [.list .int]=true:=(pre_splitW c).1;have m:l.pre.holds [] {args:=args}=true:=(pre_splitW c).2;obtain⟨d,r,rfl,x,v⟩:=hasAllW_cons k;obtain rfl:=hasAllW_nil v;obtain⟨y,rfl,p⟩:=hasW_list x;obtain⟨ns,rfl⟩:=items_int p;have e:ns.length<=n:=by
  unfold OpenLaw.pre at m;have g:(WTm.not (.lt (.lit (.int (n:Int))) (.len (.arg 0)))).holds [] {args:=[.list (ns.map .int)]}=true:=by
   have g:=(holds_andW m).1;rw[t] at g;exact g
  have i:=condW_of g (w_not (w_lt w_lit (w_len_list (w_arg rfl))));rw[ah] at i;refine Nat.le_of_not_lt λq=>?_;have o:(n:Int)<((ns.length:Nat):Int):=∅
  first
   | (rw[eH o] at i;exact ee i (!_))
   | (simp at i;lia)
 cases j with
 |cons s w =>
  cases w;cases s with
  |list u f=>exact⟨_,_,ns,rfl,rfl,u,Gu ns _ f,e⟩
theorem S5(l:OpenLaw)(args:List WData):l.row.toRowW.claim.post args (.bool true) args=true :=
 postW_of (r:=l.row.toRowW) (X:=(true==true))
  (show WShape.has [] (.bool true) .bool=true by first|rfl|decide|simp[WShape.has,WShape.arms,WShape.armsAll])
  (show (WTm.eq .res (.lit (.bool true))).value [] {args:=args,res:=some (.bool true),after:=args}=some (.bool (true==true)) from w_eq_bool (w_res rfl) w_lit) rfl
theorem Nc{l:OpenLaw}{n:Nat}{q:Program}{e:List Str}{XP:(Str->Option Value)->Heap->Prop}{C:World->Heap->Prop}{d:DefRec}
 (J:l.most=some n) (x:d.params.defaults=[])
 (call:∀(w:World) (c b:Shared) (t A:Str->Option Value) (m:Addr) (o:Obj) (z p h:Value) (a:Addr) (vs:List Value) (ns:List Int),
  Ground q e [] XP w c t A b.heap->C w b.heap ->
  b.heap.get? m=some o->o.data=.func (docDef d.name d.params d.body d.scope z p h)->b.heap.CodeRec p d.name->t d.name=some (.ref m) ->
  b.heap.get? a=some {cls:=.type "list",data:=.seq vs.toArray}->IntsAre vs ns->ns.length<=n->b.gens=#[] ->
  codeAny (model l.prog w) callerA (.call (.ref m) ⟨[.ref a],[]⟩) (λr s=>r=.ok (.ret (.bool true))/\OldK b.heap s.heap/\s.os=b.os/\AllBare s.gens) b) :
 WalkO q e XP C l.row.toRowW d [] (λf vs=>PySem.call f vs):=by
 intro w c b t A G Y m o z p h L kV M N u F y P D B T i E Q v S;obtain rfl:L=.none:=Dflts.none F x;obtain rfl:kV=.none:=Dflts.noKw F;obtain⟨a,vs,ns,rfl,rfl,k,g,j⟩:=S4 J i v;refine enter_call (codeAny_mono (call w c b t A m o z p h a vs ns G Y M (fd_plain N) u y k g j P) λr s K=>?_);obtain⟨rfl,O,I,R⟩:=K;exact⟨.inl ⟨.bool true,.bool true,[],rfl,λ_=>rfl,.bool true,S5 l _,λ_=>⟨List.Pairwise.nil,λ_ H=>(nomatch H)⟩⟩,O,I,R⟩
end Att
namespace L2
open PySem PySem.Spec PyProof.Rows
theorem Kz:∀{vs:List Value} {ns:List Int},IntsAre vs ns->bX (ns.map V.int) vs
 |_,_,.nil=>.nil
 |_,_,.cons n t h=>.cons ⟨t,rfl⟩ (Kz h)
def abl(H:Hp):Prop:=∀b,H b=none∨∃o xs,H b=some (.Be o (.lst xs))
theorem VB{P:Program}{w:World}{K:af}{E Q:Str->Option Value}{CX:SW}{k:Nat}{L a:Addr}{W:FuncData}{x:Str}{sp:Sp}{c:Shared}{vs:List Value}{ns:List Int}
 (U:K.In c.heap) (A:c.heap.Ns mainGlobals E) (f:c.heap.Ns builtinsNs Q) (M:∀x:Str,x≠"__name__" -> Q x=bootBuiltins x) (D:c.heap.NoLimit) (hg:c.gens=#[])
 (I:c.heap.get? a=some {cls:=.type "list",data:=.seq vs.toArray}) (hi:IntsAre vs ns) (Y:ns.length<=sizeLine) (hr:jP k callerA)
 (F:∀base:Heap,K.In base->base.Ns mainGlobals E->b6 P w K E base CX k L W [x] sp) (l:∀(s:Shared) (u:Value),BindsTo s W ⟨[u],[]⟩ [(x,u)])
 (Rl:∀H:Hp,abl H->bK K H a (ns.map V.int)->sp [.ref a] H (λv _=>v=.bl true) λ_ _ _=>False)
 (S:∀H e g,CX [] H c (λ_ _ _=>False) e g->False) :
 codeAny (model P w) callerA (.call (.ref L) ⟨[.ref a],[]⟩) (λr g=>r=.ok (.ret (.bool true))/\OldK c.heap g.heap/\g.os=c.os/\AllBare g.gens) c:=by
 have rv:=Kz hi;have O:=hi.length;have j:∀H:Hp,abl H->bK K H a (ns.map V.int)->zI P w H c.heap->(∀b,H b≠none->b=a)->(H a≠none->K.lookup a=none) ->
  codeAny (model P w) callerA (.call (.ref L) ⟨[.ref a],[]⟩) (λr g=>r=.ok (.ret (.bool true))/\OldK c.heap g.heap/\g.os=c.os/\AllBare g.gens) c:=by
  intro H hO hS C X hK;have Z:∀{b:Addr} {o:Obj},c.heap.get? b=some o->H b=none->(Lu c.heap H).get? b=some o:=λe n=>UT e n;have N:∀{b:Addr} {o:Obj} {t:Array DictEntry} {y:Nat},c.heap.get? b=some o->o.data=.dict t y->H b=none:=λ{b o t y} e d=>by
   cases q:H b with
   |none=>rfl
   |some u =>
    have R:b=a:=X b (by rw[q];simp);subst R;rw[I] at e;cases e;have d':Data.seq vs.toArray _=Data.dict t y:=d;cases d'
  have i:∀{b:Addr} {m:Str->Option Value},c.heap.Ns b m->(Lu c.heap H).Ns b m:=λ{b m} ⟨o,t,y,e,d,r⟩=>⟨o,t,y,Z e (N e d),d,r⟩;have p:K.In (Lu c.heap H):=λb o e=>Z (U b o e) (by
   cases q:H b with
   |none=>rfl
   |some u =>
    have R:b=a:=X b (by rw[q];simp);subst R;rw[hK (by rw[q];simp)] at e;cases e)
  have hM:Mod K E (Lu c.heap H):=⟨p,i A,⟨Q,i f,M⟩,let ⟨mc,h1,h2⟩:=D;⟨mc,i h1,h2⟩⟩;have e0:PU P w K E (Lu c.heap H) callerA [] c H:=⟨rfl,hM,λb o e=>XJ e,Nat.le_of_eq (SM _ _),trivial,λb f=>ee (show b∈([]:List Addr) from f) (-_),C,.of_eq hg⟩;refine codeAny_mono ((F _ p (i A)).run callerA [] c H ⟨[.ref a],[]⟩ [.ref a] [.ref a] _ _ hr e0 (l c (.ref a)) (.cons rfl .nil) (Rl H hO hS)) λr g h=>?_;cases r with
  |error e=>exact (S H e g h).elim
  |ok fl =>
   cases fl with
   |next=>exact jO h
   |brk=>exact jO h
   |cont=>exact jO h
   |ret u =>
    obtain⟨v,H',os,B,un,J,r',q⟩:=h;have q':v=.bl true:=q;subst q';obtain rfl:u=Value.bool true:=r';refine⟨rfl,OldK.of_keep λb o e=>?_,os,B⟩;cases q:H b with
    |none=>exact un.keep b o e q (by intro z;exact ee (show b∈([]:List Addr) from z) (-_)) (-_)
    |some u =>
     rcases hO b with z|⟨ob,xs,z⟩
     ·rw[q] at z;cases z
     ·have z2:=un.BD b ob _ z
      obtain⟨e1,_⟩:=C b _ z;obtain⟨e2,_⟩:=J b _ z2;rw[e] at e1;cases e1;exact e2
 cases T:K.lookup a with
 |some o =>
  have e:=U a o T;rw[I] at e;cases e;refine j (λ_=>none) (λ_=>.inl rfl) (.inr ⟨_,vs.toArray,_,T,rfl,rfl,rfl,by rw[aL,O];exact Y,by simpa using rv⟩) (λb u z=>by have G:(none:Option HO)=some u:=z;cases G) (λb z=>ee rfl z) λz=>ee rfl z
 |none =>
  refine j (λb=>if b=a then some (.Be {cls:=.type "list",data:=.seq vs.toArray} (.lst (ns.map V.int))) else none) (λb=>?_) (.inl (.inr ⟨{cls:=.type "list",data:=.seq vs.toArray},b3 rfl⟩)) (λb u z=>?_) (λb z=>?_) λ_=>T
  ·by_cases f:b=a
   ·exact .inr ⟨_,_,b3 f⟩
   ·exact .inl (b5 f)
  ·by_cases f:b=a
   ·have G:=(b3 f).symm.trans z
    cases G;subst f;exact⟨I,by rw[ah];exact Y,vs,_,rv,I⟩
   ·have G:=(b5 f).symm.trans z
    cases G
  ·by_cases f:b=a
   ·exact f
   ·exact ee (b5 f) z
theorem Yb{l:PySem.W.OpenLaw}{n k:Nat}{q:Program}{j:List Str}{XP:(Str->Option Value)->Heap->Prop}{I:World->Heap->Prop}{d:DefRec}{K:Params->af}{CX:World->SW}{sp:World->Sp}{x:Str}
 (N:l.most=some n) (y:n<=sizeLine) (z:d.params.defaults=[]) (P:jP k callerA)
 (S:∀(w:World) (h:Heap),I w h->(K w.params).In h)
 (F:∀(w:World) (m:Str->Option Value) (t:Addr) (h:Heap),(K w.params).In h->h.Ns mainGlobals m->m d.name=some (.ref t) ->
  ∃C:FuncData,(∀(s:Shared) (u:Value),BindsTo s C ⟨[u],[]⟩ [(x,u)]) /\
   ∀base:Heap,(K w.params).In base->base.Ns mainGlobals m->b6 l.prog w (K w.params) m base (CX w) k t C [x] (sp w))
 (X:∀(w:World) (H:Hp) (a:Addr) (ns:List Int),ns.length<=n->abl H->bK (K w.params) H a (ns.map V.int)->sp w [.ref a] H (λv _=>v=.bl true) λ_ _ _=>False)
 (B:∀(w:World) (H:Hp) (s:Shared) (e:Value) (s':Shared),CX w [] H s (λ_ _ _=>False) e s'->False) :
 PySem.W.WalkO q j XP I l.row.toRowW d [] (λf vs=>PySem.call f vs):=by
 refine Att.Nc N z λw D r m mb t o Z cd U a vs ns G Y ho hd J A p i c R=>?_;have E:=S w _ Y;obtain⟨C,M,O⟩:=F w m t _ E G.T.g A;exact VB E G.T.g G.T.b G.T.builtins G.T.nolimit R p i (aJ c y) P O M (λH Q L=>X w H a ns c Q L) λH e s'=>B w H r e s'
noncomputable def inClass(s:Stmt)(j:Nat):Stmt:=match s with
 |.ClassDef _ _ _ body _ _ _ _ _ _ _=>body.getD j (.Pass ⟨0,0,0,0⟩)
 |_=>.Pass ⟨0,0,0,0⟩
noncomputable def jF(s:Stmt):Arguments:=match s with
 |.FunctionDef _ a _ _ _ _ _ _ _ _=>a
 |_=>{posonlyargs:=[],args:=[],vararg:=none,kwonlyargs:=[],kw_defaults:=[],kwarg:=none,defaults:=[]}
noncomputable def fT(s:Stmt):List Stmt:=match s with
 |.FunctionDef _ _ b _ _ _ _ _ _ _=>b
 |_=>[]
noncomputable def aB(s:Stmt):Scope:=match s with
 |.FunctionDef _ _ _ _ _ _ sc _ _ _=>sc
 |_=>{kind:=.function,names:=[],isGenerator:=false,isCoroutine:=false}
abbrev iH:SW:=λ_ _ _ _ _ _=>False
abbrev E0:XK:=λ_ _ _=>False
theorem kG{X:Cx}:sP iH X E0:=λ_ _ _ _ _ _ _ h=>h.elim
structure Pk(K:af)(x qual:Str)(st:Stmt)(f:Addr)(fd:FuncData):Prop where
 ex:∃(oc:Value) (od:Option Addr) (kV doc pm:Value) (an:Option Addr) (cdv ct:Value) (osl:Array (Option Value)),
  fd=eK x qual (jF st) (fT st) (aB st) .none kV doc pm an cdv ct/\K.lookup f=some ⟨oc,od,.func fd,osl⟩/\jz K cdv qual=true
 kp:dU K (.ref f)=true
section
variable{P:Program}{w:World}{K:af}{mg:Str->Option Value}{base:Heap}
theorem Pk.ok{x b:Str}{st:Stmt}{f:Addr}{i:FuncData}{N ps:List Str}{k:Nat}{sp:Sp}(F:Pk K x b st f i)(S:aI N ps (aB st))(g:∀vs H Q E,sp vs H Q E->vs.length=ps.length)
 (d:∀(c:Value) (A:Around) (a:List Env) (s:Shared) (H:Hp) (vs:List V) (Q:VK) (E:XK),jP k (A.deeper (envOfC b (aB st) s.heap.objs.size f c))->sp vs H Q E ->
  ∃t,jk (oM iH P w K mg base N b (aB st) f c A a s H E).ZK (fT st) t/\t {nx:=λ_ l=>Q .fE l,rt:=Q} (start N vs) H):b6 P w K mg base iH (k+1) f i ps sp:=by
 obtain⟨u,y,kV,n,v,r,c,p,j,rfl,lk,e⟩:=F.ex;refine Vo lk e S g λA a s H vs Q E m o=>?_;obtain⟨t,h,q⟩:=d c A a s H vs Q E m o;exact⟨t,h.ZK,q⟩
theorem Pk.binds{x a:Str}{st:Stmt}{f:Addr}{g:FuncData}{ps:List Str}(F:Pk K x a st f g)
 (h:∀(kV c e:Value) (d:Option Addr) (b ct:Value) (us:List Value),us.length=ps.length->bindArgs (eK x a (jF st) (fT st) (aB st) .none kV c e d b ct) ⟨us,[]⟩=pure (ps.zip us)):Binds K g ps []:=by
 obtain⟨k,l,kV,c,e,d,b,ct,j,rfl,lk,i⟩:=F.ex;exact .all (h kV c e d b ct)
theorem VC{x a:Str}{st:Stmt}{f:Addr}{i:Value}{j g:Option Addr}{e:Array (Option Value)}{kV d h b ct:Value}(l:K.lookup f=some ⟨i,j,.func (eK x a (jF st) (fT st) (aB st) .none kV d h g b ct),e⟩)
 (c:jz K b a=true) (k:dU K (.ref f)=true):Pk K x a st f (eK x a (jF st) (fT st) (aB st) .none kV d h g b ct):=⟨⟨i,j,kV,d,h,g,b,ct,e,rfl,l,c⟩,k⟩
end
theorem Nd{A:Around}{k:Nat}(a:jP k A):A.units+1<cLine:=bH (bW (by decide:1<=64) _) a.units
theorem ck{n:Nat}(h:n<=1000):n<sizeLine:=bH h (!_)
section
variable{X:Cx}
theorem pv(i:Nat){x:Str}{b:Pos}(e:X.N[i]?=some x:=by rfl)(d:Vis X.env.scope x:=by first|exact Or.inl rfl|exact Or.inr (Or.inl rfl)|exact Or.inr (Or.inr rfl))(c:(x==("__debug__" : Str))=false:=by decide)
 (a:(x==("__classdict__" : Str))=false:=by decide):PE X (.Name x b) (Ci i):=aaP e d c a
end
theorem dQ{A B:Prop}(h:B):if false=true then A else B:=by
 rw[b5 aC];exact h
theorem fF{A B:Prop}(h:A):if true=true then A else B:=by
 rw[b3 rfl];exact h
theorem jC{c A B:Prop}[Decidable c](b:c->A)(a:¬c->B):if c then A else B:=by
 by_cases h:c
 ·rw[b3 h]
  exact b h
 ·rw[b5 h]
  exact a h
def aD(H H':Hp):Prop:=∀b o,H b=some o->H' b=some o
theorem aD.refl(H:Hp):aD H H:=λ_ _ h=>h
theorem aD.trans{H e d:Hp}(a:aD H e)(b:aD e d):aD H d:=λc o h=>b c o (a c o h)
theorem aD.free{H a:Hp}(e:aD H a){l:Addr}(h:a l=Option.none):H l=Option.none:=by
 cases q:H l with
 |none=>rfl
 |some o =>
  rw[e l o q] at h;cases h
theorem aD.seq{K:af}{H b:Hp}{a:Addr}{xs:List V}(e:aD H b)(h:bK K H a xs):bK K b a xs:=by
 rcases h with (h|⟨o,h⟩)|h
 ·exact .inl (.inl (e _ _ h))
 ·exact .inl (.inr ⟨o,e _ _ h⟩)
 ·exact .inr h
theorem S6{env:Env}{x:Str}{c:Addr}(h:env.cells.lookup x=some c):cellOf env x=pure c:=by
 unfold cellOf;rw[h]
noncomputable def m8(env:Env):List (Str×NameKind)->List (Str×Addr)->List (Str×Addr)
 |[],cs=>cs
 | (n,k)::r,cs=>m8 env r (if k==.free then (n,(env.cells.lookup n).getD 0)::cs else cs)
theorem LL{env:Env}:∀(ns:List (Str×NameKind)) (cs:List (Str×Addr)),(∀n,(n,NameKind.free)∈ns->∃c,env.cells.lookup n=some c) ->
 (forIn (m:=Sem) ns cs λx r=>match x with
  | (a,b)=>if (b==NameKind.free)=true then do let c <- cellOf env a;pure (jN ((a,c)::r)) else pure (jN r))=pure (m8 env ns cs)
 |[],cs,_=>rfl
 | (n,k)::r,cs,h=>by
  rw[List.forIn_cons];by_cases d:(k==NameKind.free)=true
  ·have g:k=.free:=by simpa using d
   obtain⟨c,e⟩:=h n (by rw[g];exact cE);simp only[d,if_true,S6 e];have q:=LL r ((n,c)::cs) λm f=>h m (aZ _ f);show (forIn (m:=Sem) r ((n,c)::cs) _)=pure (m8 env r (if (k==.free)=true then (n,(env.cells.lookup n).getD 0)::cs else cs));rw[b3 d,e];exact q
  ·simp only[d]
   have q:=LL r cs λm f=>h m (aZ _ f);show (forIn (m:=Sem) r cs _)=pure (m8 env r (if (k==.free)=true then (n,(env.cells.lookup n).getD 0)::cs else cs));rw[b5 d];exact q
theorem BH{scope:Scope}{env:Env}(h:∀n,(n,NameKind.free)∈scope.names->∃c,env.cells.lookup n=some c):closureFor scope env=pure (m8 env scope.names []):=by
 have e:=LL scope.names [] h;unfold closureFor;show (forIn (m:=Sem) scope.names [] (λx r=>match x with
  | (a,b)=>if (b==NameKind.free)=true then do let c <- cellOf env a;pure (jN ((a,c)::r)) else pure (jN r)) >>= λs=>pure s)=_
 rw[e];rfl
theorem lY{env:Env}{x:Str}{c:Addr}:∀(ns:List (Str×NameKind)) (cs:List (Str×Addr)),(∀n,(n,NameKind.free)∈ns->∃c,env.cells.lookup n=some c)->(cs.lookup x=some c->env.cells.lookup x=some c) ->
 (m8 env ns cs).lookup x=some c->env.cells.lookup x=some c
 |[],_,_,a,h=>a h
 | (n,k)::r,cs,g,a,h=>by
  unfold m8 at h;refine lY r _ (λm i=>g m (aZ _ i)) (λq=>?_) h;by_cases f:(k==NameKind.free)=true
  ·have l:k=.free:=by simpa using f
   subst l;obtain⟨d,e⟩:=g n cE;rw[b3 f,e,fc] at q;by_cases b:(x==n)=true
   ·have j:x=n:=by simpa using b
    rw[b] at q;subst j;rw[e];exact q
   ·simp only[b] at q
    exact a q
  ·rw[b5 f] at q
   exact a q
theorem Cm{env:Env}{x:Str}:∀(ns:List (Str×NameKind)) (cs:List (Str×Addr)),((cs.lookup x).isSome=true∨(x,NameKind.free)∈ns)->((m8 env ns cs).lookup x).isSome=true
 |[],_,h=>h.elim id λz=>ee z (-_)
 | (n,k)::r,cs,h=>by
  unfold m8;refine Cm r _ ?_;rcases h with h|h
  ·refine .inl ?_
   split
   ·rw[fc]
    split
    ·rfl
    ·exact h
   ·exact h
  ·rcases bx.mp h with e|h
   ·cases e
    refine .inl ?_;rw[b3 (show (NameKind.free==NameKind.free)=true from rfl),fc];simp
   ·exact .inr h
noncomputable def jQ(cap:List (Option Nat))(σ:St):St:=cap.map λo=>o.bind λj=>(σ[j]?).join
noncomputable def lZ(X:Cx)(scope:Scope)(N':List Str)(fp:List Addr)(pins:List (Addr×Obj))(s₃:Shared)(ahv:Hp):Cx where
 prog:=X.prog
 w:=X.w
 K:=X.K
 mg:=X.mg
 base:=X.base
 A:=X.A
 N:=N'
 s₀:=s₃
 H₀:=ahv
 env:=compEnvC scope (m8 X.env scope.names []) s₃.heap.objs.size X.env
 outer:=X.stack
 stack:=X.stack
 ex:=fp
 fn:=λ_=>false
 calm:=X.calm
 pn:=X.pn++pins
 xe:=λ_ _=>False
structure jR(X:Cx)(scope:Scope)(N':List Str)(cap:List (Option Nat)):Prop where
 kind:scope.kind=.function
 P0:∀y∈scope.names,y.2≠.cell
 loc:∀y∈scope.names,y.2=.local->scope.names.lookup y.1=some .local
 fr:∀y∈scope.names,y.2=.free->X.env.kindOf y.1=some .cell
 frl:∀y∈scope.names,y.2=.free->scope.names.lookup y.1=some .free
 nd:N'.Nodup
 len:cap.length=N'.length
 cap:∀(i j:Nat) (x:Str),cap[i]?=some (some j)->N'[i]?=some x->X.N[j]?=some x/\(x,NameKind.free)∈scope.names
section
variable{X:Cx}{scope:Scope}{N':List Str}{cap:List (Option Nat)}{fp:List Addr}{pins:List (Addr×Obj)}{s:Shared}{σ:St}{H:Hp}
theorem jR.clos(S:jR X scope N' cap)(ok:X.Ok):∀n,(n,NameKind.free)∈scope.names->∃c,X.env.cells.lookup n=some c:=λn a=>ok.has n (.inl (S.fr _ a rfl))
theorem xU{env:Env}{x:Str}:∀{names:List (Str×NameKind)} {k:NameKind},
 (names.map λ(n,k)=>if (k==NameKind.free&&env.scope.kind==.function&&env.kindOf n==some .cell) then (n,NameKind.cell) else (n,k)).lookup x=some k->k=.cell∨k=.free->(∀y∈names,y.2≠.cell)->(x,NameKind.free)∈names
 |[],_,h,_,_=>by simp at h
 | (n,q)::r,k,h,hk,d=>by
  have h':qH x ((if (q==NameKind.free&&env.scope.kind==.function&&env.kindOf n==some .cell)=true then (n,NameKind.cell) else (n,q))::(r.map λ(n,k)=>if (k==NameKind.free&&env.scope.kind==.function&&env.kindOf n==some .cell) then (n,NameKind.cell) else (n,k)))=some k:=h;by_cases b:(x==n)=true
  ·have f:x=n:=by simpa using b
   subst f;by_cases c:(q==NameKind.free&&env.scope.kind==.function&&env.kindOf x==some .cell)=true
   ·have:q=.free:=by
     rw[dh,dh] at c
     simpa using c.1.1
    subst this;exact cE
   ·rw[b5 c,fc,b] at h'
    have e:q=k:=aN h';subst e;rcases hk with hk|hk
    ·exact ee hk (d _ cE)
    ·rw[hk];exact cE
  ·have a:(x==n)=false:=by simpa using b
   refine aZ _ (xU (env:=env) (k:=k) ?_ hk λy g=>d y (aZ _ g));split at h'
   ·rw[fc,a] at h';exact h'
   ·rw[fc,a] at h';exact h'
theorem Dq{env:Env}{x:Str}(d:env.scope.kind=.function)(c:env.kindOf x=some .cell):∀{names:List (Str×NameKind)},names.lookup x=some .free ->
 (names.map λ(n,k)=>if (k==NameKind.free&&env.scope.kind==.function&&env.kindOf n==some .cell) then (n,NameKind.cell) else (n,k)).lookup x=some .cell
 |[],h=>by simp at h
 | (n,k)::r,h=>by
  show qH x ((if (k==NameKind.free&&env.scope.kind==.function&&env.kindOf n==some .cell)=true then (n,NameKind.cell) else (n,k))::_)=_;cases a:x==n with
  |true =>
   have e:x=n:=by simpa using a
   subst e;simp only[fc,a] at h;have f:k=.free:=aN h;subst f;rw[b3 (by rw[d,c];rfl),fc,a]
  |false =>
   simp only[fc,a] at h;have b:=Dq d c h;split
   ·rw[fc,a];exact b
   ·rw[fc,a];exact b
theorem jR.ok(S:jR X scope N' cap)(I:Inv X pins σ H s)(d:∀b∈fp,Dh X pins H b)(f:∀b∈fp,∃o,s.heap.get? b=some o):(lZ X scope N' fp pins s H).Ok where
 mod:=I.ok.mod
 kind:=S.kind
 glob:=I.ok.glob
 blt:=I.ok.blt
 above:=ay _
 inj:=λx y c k j=>I.ok.inj x y c (lY _ _ (S.clos I.ok) (λz=>by simp at z) k) (lY _ _ (S.clos I.ok) (λz=>by simp at z) j)
 has:=λx hx=>by
  have g:(x,NameKind.free)∈scope.names:=by
   rcases hx with hx|hx
   ·exact xU (env:=X.env) hx (.inl rfl) S.P0
   ·exact xU (env:=X.env) hx (.inr rfl) S.P0
  exact Option.isSome_iff_exists.mp (Cm scope.names [] (.inr g))
 nT:=λx c h=>by cases h
 hd:=I.ok.hd
 frames:=I.ok.frames
 stk:=.inl rfl
 exf:=λb a=>by
  obtain⟨o,e⟩:=f b a;refine⟨bD (Heap.lt_size e),λx c h=>(d b a).2.2.2.2.1 x c (lY _ _ (S.clos I.ok) (λz=>by simp at z) h)⟩
 bs:=I.bs
 Xy:=aJ I.ok.Xy I.sz
 SN:=λb o e a=>by
  rcases (d b a).2.2.2.1 with z|z
  ·exact I.ok.SN b o e z
  ·exact ee (bG (Heap.lt_size e) (aJ I.ok.Xy z)) (jh _)
 UU:=λb a i=>by
  rcases bx.mp (I.Em b i) with z|z
  ·exact (d b a).2.1 z
  ·exact (d b a).2.2.1 z
 Dc:=I.stack
 ZI:=I.Lv
theorem jR.look(S:jR X scope N' cap)(I:Inv X pins σ H s){f:Heap}{m:Str->Option Value}(k:∀x c v,X.env.cells.lookup x=some c->s.heap.IsCell c v->f.IsCell c v)(i:Nat)(x:Str)(v:V)(K:N'[i]?=some x)(F:(jQ cap σ)[i]?=some (some v)) :
 ∃u,RelV v u/\Look (compEnvC scope (m8 X.env scope.names []) s.heap.objs.size X.env) f m x u:=by
 have L:∀x c,(m8 X.env scope.names []).lookup x=some c->X.env.cells.lookup x=some c:=λx c h=>lY _ _ (S.clos I.ok) (λz=>by simp at z) h;have d:((cap[i]?).map λo=>o.bind λj=>(σ[j]?).join)=some (some v):=by
  have:=F
  unfold jQ at this;rw[aj] at this;exact this
 cases q:cap[i]? with
 |none=>rw[q] at d;cases d
 |some o =>
  cases o with
  |none=>rw[q] at d;cases d
  |some j =>
   rw[q] at d;obtain⟨E,a⟩:=S.cap i j x q K;have n:(σ[j]?).join=some v:=aN d;have G:σ[j]?=some (some v):=by
    cases A:σ[j]? with
    |none=>rw[A] at n;cases n
    |some y =>
     cases y with
     |none=>rw[A] at n;cases n
     |some z =>
      rw[A] at n;have e:z=v:=aN n;rw[e]
   have b:=S.fr _ a rfl;obtain⟨M,J,D⟩:=I.loc;obtain⟨u,r,l⟩:=D j x v E G (.inr (.inl b));refine⟨u,r,?_⟩;rcases l with ⟨B,_⟩|⟨B,c,C,g⟩
   ·have z:X.env.kindOf x=some .cell:=b
    rw[B] at z;cases z
   ·obtain⟨t,p⟩:=Option.isSome_iff_exists.mp (Cm (env:=X.env) (x:=x) scope.names [] (.inr a))
    have w:t=c:=by
     have:=L x t p
     rw[C] at this;exact (aN this).symm
    subst w;exact .inr ⟨.inl (Dq I.ok.kind b (S.frl _ a rfl)),t,p,k x t _ C g⟩
theorem jR.start(S:jR X scope N' cap)(I:Inv X pins σ H s)(t:∀b∈fp,Dh X pins H b)(l:∀b∈fp,∃o,s.heap.get? b=some o){a:Heap}{tk:Nat}{m:Str->Option Value}(k:a.Ns s.heap.objs.size m)
 (j:∀b o,s.heap.get? b=some o->a.get? b=some o):Inv (lZ X scope N' fp pins s H) [] (jQ cap σ) H {s with heap:=a,toks:=tk}:=by
 have r:∀x c,(m8 X.env scope.names []).lookup x=some c->X.env.cells.lookup x=some c:=λx c h=>lY _ _ (S.clos I.ok) (λz=>by simp at z) h;have f:∀{c:Addr} {v:Option Value},s.heap.IsCell c v->a.IsCell c v:=λ{c v} ⟨o,e,d⟩=>⟨o,j c o e,d⟩;refine⟨S.ok I t l,rfl,I.bare,Un.kept j,⟨m,k,λi x v B u C=>S.look I (λ_ _ _ _ z=>f z) i x v B u⟩,λx c h=>?_,I.hok.fresh (ay _),λx c h=>I.uI x c (r x c h),λp y=>?_,I.hok.kept j,?_⟩
 ·obtain⟨v,z⟩:=I.cell x c (r x c h)
  exact⟨v,f z⟩
 ·have g:p∈(X.pn++pins)++[]:=y
  have A:p∈X.pn++pins:=by rw[cS] at g;exact g
  obtain⟨e,n,w,nf,d⟩:=I.pin p A;refine⟨j _ _ e,n,bD (Heap.lt_size e),λz=>?_,d⟩;rcases bx.mp (I.Em p.1 z) with q|q
  ·exact w q
  ·exact nf q
 ·unfold jQ
  rw[ah];exact S.len
theorem jR.again(S:jR X scope N' cap)(I:Inv X pins σ H s)(p:∀b∈fp,Dh X pins H b){l:St}{f:Hp}{g:Shared}(a:Inv (lZ X scope N' fp pins s H) [] l f g):Inv (lZ X scope N' fp pins s H) [] (jQ cap σ) f g:=by
 obtain⟨m,k,_⟩:=a.loc;refine⟨a.ok,a.os,a.bare,a.base,⟨m,k,λi x v t r z=>S.look I (λy c u h n=>?_) i x v t r⟩,a.cell,a.free,a.uI,a.pin,a.hok,?_⟩
 ·obtain⟨o,e,d⟩:=n
  obtain⟨w,q⟩:=a.base.any e (I.uI y c h) λj=>(p c j).2.2.2.2.1 y c h rfl;exact⟨_,q,d⟩
 ·unfold jQ
  rw[ah];exact S.len
theorem jR.back{h k:Hp}{f s3 s':Shared}{s:St}{g:Addr}{d:Heap}(S:jR X scope N' cap)(y:Inv X pins σ h f)(H:∀b∈fp,Dh X pins h b){o:HO}
 (K:s3.heap.objs.size=f.heap.objs.size+1) (k3:∀b u,f.heap.get? b=some u->s3.heap.get? b=some u) (x:g=f.heap.objs.size) (C:s3.os=f.os)
 (p:Inv (lZ X scope N' fp pins s3 (upd h g o)) [] s k s') (r:Heap.SameBut s3.heap.objs.size s'.heap d):Inv X pins σ k {s' with heap:=d}:=by
 have A:Un (frs X.stack) fp h (upd h g o) f.heap s3.heap:=Un.laid k3 (by rw[x];exact ay _) (y.hok.fresh (by rw[x];exact ay _));have i:Un (frs X.stack) fp h k f.heap s'.heap:=A.trans p.base;have j:∀b a,f.heap.get? b=some a->b≠s3.heap.objs.size:=λb a e=>by
  have:=Heap.lt_size e
  rw[K];exact bD (Nat.lt_succ_of_lt this)
 have t:k s3.heap.objs.size=none:=p.free;have J:Un (frs X.stack) fp h k f.heap d :=
  ⟨λb a e n l m=>(r.2 b (j b a e)).trans (i.keep b a e n l m),λb a e n l m=>by
   obtain⟨B,q⟩:=i.slot b a e n l m;exact⟨B,(r.2 b (j b a e)).trans q⟩,i.free,λb a e m=>by
   obtain⟨F,q⟩:=i.there b a e m;exact⟨F,(r.2 b (j b a e)).trans q⟩,i.tups,i.BD,i.C9⟩
 have hok:zI X.prog X.w k d:=λb a e=>(p.hok b a e).stay (λc v L q=>(r.2 c (by
  rintro rfl;rcases L with z|z
  ·rw[<- z,t] at e;cases e
  ·rw[t] at z;cases z)).trans q) (λ_ q=>q) λ_ _ q=>q
 refine y.ZJ (s':={s' with heap:=d}) (ch:=fp) (p.os.trans C) J hok p.bare λb l=>?_;obtain⟨_,D,_,G,I,E⟩:=H b l;exact⟨G,D,I,E⟩
def m9(X:Cx)(ifs:List Expr)(t:TT):Prop :=
 ∀(pins:List (Addr×Obj)) (s:Shared) (σ:St) (H:Hp) (Q:Bool->Hp->Prop),Inv X pins σ H s->t σ H Q ->
  wpAny (model X.prog X.w) X.A (forIn ifs true λc r=>if r=true then do let ok <- isTrue c X.env (eval c X.env);pure (jN ok) else pure (jN r)) (TP X pins σ Q) X.xe s
def ZW:TT:=λ_ H Q=>Q true H
theorem ko:m9 X [] ZW:=λ_ _ _ H _ I h=>wpAny_tests_nil ⟨H,I,h⟩
theorem lI{c:Expr}{t:TT}(h:PT X c t):m9 X [c] t:=λpins s σ H Q I a=>wpAny_tests_one (h pins s σ H Q I a)
def VD(wi:TI)(cap:List (Option Nat))(g:TG)(tc:TT)(te:TE):TE:=λσ H Q=>wi σ H λJ H1=>∀acc,H1 acc=none->∃W:Nat->Nat->Hp->Prop,(∃m,W 0 m (upd H1 acc (.lst [])))/\∀i m H,W i m H ->
 (J.stop i H/\Q (.ref acc) H)∨(J.go i H/\∀x H',J.LA i H x H'->g x (jQ cap σ) H' λσ2 H2=>tc σ2 H2 λb H3=>if b=true then te σ2 H3 λy H4=>∃xs,H4 acc=some (.lst xs)/\xs.length<sizeLine /\
  ∃m',m'<m/\W (i+1) m' (upd H4 acc (.lst (xs++[y]))) else ∃m',m'<m/\W (i+1) m' H3)
theorem Tc{p a k:PySem.Expr}{t:List PySem.Expr}{scope:Scope}{C:Pos}{E o:Value}{env:Env}{prog:Program}{w:World}{A:Around}{s:Shared}{R:Result->Shared->Prop}(I:Nat->Shared->Prop)
 (u:∀n s,I n s->wpAny (model prog w) A (pyNext E) (λr d=>match r with
  |none=>R (.ok .next) d
  |some v=>wpAny (model prog w) A (letOwnedTupleGo a E v) (λ_ e=>wpAny (model prog w) A (assign a env v) (λ_ l =>
   wpAny (model prog w) A (forIn t true λc r=>if r=true then do let ok <- isTrue c env (eval c env);pure (jN ok) else pure (jN r)) (λok b=>if ok=true then wpAny (model prog w) A (eval p env) (λx i =>
    wpAny (model prog w) A (call (.builtin "list.append") [o,x]) (λ_ j=>∃m,m<n/\I m j) (λ_ _=>False) i) (λ_ _=>False) b
    else ∃m,m<n/\I m b) (λ_ _=>False) l)
   (λ_ _=>False) e) (λ_ _=>False) d) (λ_ _=>False) s)
 (n:Nat) (h:I n s):codeAny (model prog w) A (.compLoop (.ListComp p [⟨a,k,t,0⟩] scope C) 0 E o env) R s:=by
 refine codeAny_loop rfl I (λn s G=>?_) n h;show wpAny _ A ((compTurn (.ListComp p [⟨a,k,t,0⟩] scope C) 0 E o env).onRaise (λx=>do noteFrame x env;theTreesLotGoes x)) _ _ s;refine wpAny_noted ?_;rw[compTurn_list];refine wpAny_bind (wpAny_standAt (wpAny_bind (wpAny_mono (u n s G) (λr d g=>?_) λ_ _ z=>z.elim)));cases r with
 |none=>exact wpAny_pure g
 |some v =>
  refine wpAny_bind (wpAny_mono g (λ_ e q=>?_) λ_ _ z=>z.elim);refine wpAny_bind (wpAny_mono q (λ_ l y=>?_) λ_ _ z=>z.elim);refine wpAny_bind (wpAny_mono y (λF b f=>?_) λ_ _ z=>z.elim);cases F with
  |false=>exact wpAny_pure ⟨rfl,f⟩
  |true=>exact wpAny_bind (wpAny_bind (wpAny_mono f (λx i D=>wpAny_bind (wpAny_mono D (λ_ j B=>wpAny_pure (wpAny_pure ⟨rfl,B⟩)) λ_ _ z=>z.elim)) λ_ _ z=>z.elim))
theorem Hj{R tg F:Expr}{U:List Expr}{pos:Pos}{g:TG}{tc:TT}{te:TE}{Q:VK}{a:Shared}{B:Hp}{it:Addr}{tn:Nat->Heap->Prop}{J:It}{E:Value->Shared->Prop}{RR:Value->Addr->Result->Shared->Prop}
 (S:jR X scope N' cap) (hc:X.calm=true) (hg:∀fp pins s H,PG (lZ X scope N' fp pins s H) tg g) (hts:∀fp pins s H,m9 (lZ X scope N' fp pins s H) U tc) (he:∀fp pins s H,PE (lZ X scope N' fp pins s H) R te)
 (I2:Inv X pins σ B a) (T:Turn X.prog X.w X.K tg J fp it tn) (P:tn 0 a.heap) (Y:∀b∈fp,Dh X pins B b)
 (h:∀k,B k=none->∃W:Nat->Nat->Hp->Prop,(∃m,W 0 m (upd B k (.lst [])))/\∀i m H,W i m H ->
  (J.stop i H/\Q (.ref k) H)∨(J.go i H/\∀x j,J.LA i H x j->g x (jQ cap σ) j λσ2 B=>tc σ2 B λb H3=>if b=true then te σ2 H3 λy H4=>∃xs,H4 k=some (.lst xs)/\xs.length<sizeLine /\
   ∃l,l<m/\W (i+1) l (upd H4 k (.lst (xs++[y]))) else ∃l,l<m/\W (i+1) l H3))
 (hRR:∀C s' j,(∃m,s'.heap.Ns C m)->(∀O,Heap.SameBut C s'.heap O->Inv X pins σ j {s' with heap:=O})->Q (.ref a.heap.objs.size) j->j C=none->a.heap.objs.size<C ->
  RR (.ref a.heap.objs.size) C (.ok .next) s') :
 wpAny (model X.prog X.w) X.A (newList []) (λk s₃=>wpAny (model X.prog X.w) X.A (newFunctionEnv scope X.env.globals (m8 X.env scope.names []) [] X.env.qual none .none (some X.env)) (λD Z =>
  codeAny (model X.prog X.w) X.A (.compStart (.ListComp R [⟨tg,F,U,0⟩] scope pos) 0 (.ref it) k {D with scope:=relabel scope X.env}) (RR k D.locals) Z) E s₃) E a:=by
 refine wpAny_newObj_type (wpAny_newFunctionEnv S.P0 (by intro y hy;simp at hy) (λt P1 P4=>?_) S.kind);dsimp only at P1 P4 ⊢;have hfr:B a.heap.objs.size=none:=I2.hok.fresh (ay _);generalize M:a.heap.push {cls:=.type "list",dict:=none,data:=.seq ([]:List Value).toArray}=h3 at P1 P4 ⊢;have e3:h3.objs.size=a.heap.objs.size+1:=by rw[<- M,Heap.size_push]
 have k3:∀b u,a.heap.get? b=some u->h3.get? b=some u:=λb u e=>by rw[<- M];exact Heap.get?_push_of_some _ e
 have I3:Inv X pins σ (upd B a.heap.objs.size (.lst [])) {a with heap:=h3,toks:=a.toks}:=by
  refine I2.laid (t':=a.toks) k3 (ay _) ?_;exact⟨bE _,[],0,.nil,by rw[<- M];exact Heap.get?_push_size _ rfl⟩
 have f3:∀b∈fp,Dh X pins (upd B a.heap.objs.size (.lst [])) b:=λb f=>by
  obtain⟨o,e,_⟩:=T.obj _ _ P b f;exact⟨by rw[aF (bD (Heap.lt_size e))];exact (Y b f).1,(Y b f).2⟩
 have ex3:∀b∈fp,∃o,h3.get? b=some o:=λb f=>by
  obtain⟨o,e,_⟩:=T.obj _ _ P b f;exact⟨o,k3 b o e⟩
 have kp:∀b o,h3.get? b=some o->t.get? b=some o:=λb o e=>P4.extBut b o (bD (Heap.lt_size e)) (Heap.get?_push_of_some _ e);have I4:=S.start (fp:=fp) (tk:=a.toks+([]:List (Str×Value)).length) I3 f3 ex3 P1 kp;have JA:tn 0 t:=T.keep _ _ _ P λb _ o e=>kp b o (k3 b o e);obtain⟨W,⟨m0,w0⟩,turn⟩:=h a.heap.objs.size hfr;let I:=lZ X scope N' fp pins {a with heap:=h3,toks:=a.toks} (upd B a.heap.objs.size (.lst []));have v:∀{Kl:List (Addr×Obj)} {j:Hp},(∀p∈Kl,p.1∉fp)->(∀b∈fp,j b=none)->∀b∈fp,Dh I Kl j b:=λ{Kl j} hpn hn b f=>by
  obtain⟨o,e⟩:=ex3 b f;refine⟨hn b f,bD (Heap.lt_size e),λz=>?_,.inl f,λx c hx=>(f3 b f).2.2.2.2.1 x c (lY _ _ (S.clos I2.ok) (λz=>by simp at z) hx),λp hp=>?_⟩
  ·rcases bx.mp (I2.Em b z) with q|q
   ·exact (Y b f).2.1 q
   ·exact (Y b f).2.2.1 q
  ·rcases bz.mp hp with q|q
   ·exact (Y b f).2.2.2.2.2 p q
   ·exact λz=>hpn p q (z▸f)
 have G:codeAny (model X.prog X.w) X.A (.compLoop (.ListComp R [⟨tg,F,U,0⟩] scope pos) 0 (.ref it) (.ref a.heap.objs.size) I.env) (RR (.ref a.heap.objs.size) h3.objs.size) {a with heap:=t,toks:=a.toks+([]:List (Str×Value)).length}:=by
  refine Tc (λn s'=>∃i j,Inv I [] (jQ cap σ) j s'/\tn i s'.heap/\(∀b∈fp,j b=none)/\W i n j) ?_ m0 ⟨0,_,I4,JA,λb f=>(f3 b f).1,w0⟩;rintro n s5 ⟨i,H5,I5,Pj,fr5,w5⟩;rcases turn i n H5 w5 with ⟨stop,qn⟩|⟨go,step⟩
  ·refine wpAny_mono (T.done I rfl rfl rfl hc i [] s5 (jQ cap σ) H5 (λ_ _=>False) I5 (v (λ_ z=>ee z (-_)) fr5) Pj stop) (λr s6 ⟨hr,I6⟩=>?_) λ_ _ z=>z
   subst hr;refine hRR _ s6 H5 ?_ (λO sb=>S.back I2 Y (s3:={a with heap:=h3,toks:=a.toks}) e3 k3 rfl rfl I6 sb) qn I6.free (by rw[e3];exact Nat.lt_succ_self _);obtain⟨m,hn,_⟩:=I6.loc;exact⟨m,hn⟩
  ·refine wpAny_mono (T.item I rfl rfl rfl hc i [] s5 (jQ cap σ) H5 (λ_ _=>False) I5 (v (λ_ z=>ee z (-_)) fr5) Pj go) (λr s6 ⟨u,hr,h6⟩=>?_) λ_ _ z=>z
   subst hr;refine wpAny_mono h6 (λ_ s7 ⟨x,H7,I7,r7,y7,P5,fr7⟩=>?_) λ_ _ z=>z;have I7':=I7.pinned (v (λ_ z=>ee z (-_)) fr7) (T.obj _ _ P5);have again:∀{V:St} {L:Hp} {N:Shared},Inv I ([]++G7 fp s7.heap) V L N->(∃l,l<n/\W (i+1) l L)->∃m,m<n/\∃i j,Inv I [] (jQ cap σ) j N/\tn i N.heap/\(∀b∈fp,j b=none)/\W i m j:=λ{V L N} I8 n8=>by
    obtain⟨l,hm,w8⟩:=n8;have pn:∀b∈fp,∃o,s7.heap.get? b=some o/\N.heap.get? b=some o/\L b=none:=λb f=>by
     obtain⟨o,e,d⟩:=T.obj _ _ P5 b f;have q:=I8.pin (b,o) (cR _ (cR _ (Cj f e)));exact⟨o,e,q.1,q.2.1⟩
    refine⟨l,hm,i+1,L,S.again I3 f3 I8.Di,T.keep _ _ _ P5 λb f o e=>?_,λb f=>?_,w8⟩
    ·obtain⟨o',e',q,_⟩:=pn b f
     rw[e] at e';cases e';exact q
    ·obtain⟨_,_,_,q⟩:=pn b f
     exact q
   refine wpAny_mono (hg fp pins _ _ _ s7 (jQ cap σ) H7 x u _ I7' r7 (step x H7 y7)) (λ_ N ⟨V,L,I8,q8⟩=>?_) λ_ _ z=>z;refine wpAny_mono (hts fp pins _ _ _ N V L _ I8 q8) (λb s9 ⟨H9,I9,q9⟩=>?_) λ_ _ z=>z;cases b with
   |false=>exact again I9 q9
   |true =>
    refine wpAny_mono (he fp pins _ _ _ s9 V H9 _ I9 q9) (λu C8 ⟨y,Po,I10,r10,xs,hx,hl,lC⟩=>?_) λ_ _ z=>z;refine wpAny_mono (fR (X:=I) _ C8 V Po (.ref a.heap.objs.size) [y] (.ref a.heap.objs.size) [u] (λ_ j=>∃l,l<n/\W (i+1) l j) I10 rfl (.cons r10 .nil) ⟨_,xs,y,rfl,rfl,hx,hl,lC⟩) (λ_ Xz ⟨_,n7,I11,_,q11⟩=>again I11 q11) λ_ _ z=>z
 exact codeAny_compStart_list G (T.self _ 0 _ _ _ JA G)
theorem gU{b j a:Expr}{c:List Expr}{i:Pos}{o:TI}{g:TG}{n:TT}{p:TE}(S:jR X scope N' cap)(O:X.calm=true)(B:PI X j a o)(K:∀fp pins s H,PG (lZ X scope N' fp pins s H) j g)
 (l:∀fp pins s H,m9 (lZ X scope N' fp pins s H) c n) (M:∀fp pins s H,PE (lZ X scope N' fp pins s H) b p) (z:∀x,foldedSetIterable a X.env x=pure x:=by intro _;rfl) :
 PE X (.ListComp b [⟨j,a,c,0⟩] scope i) (VD o cap g n p):=by
 intro pins s σ H Q I h;rw[eval_ListComp];refine wpAny_comprehension_free (use:=none) rfl z (BH (S.clos I.ok)) S.kind S.loc (gW (B pins s σ H _ I h) λv V y=>gW y λr G F=>?_);obtain⟨R,fp,U,J,Y,e,P,T,k,N,L⟩:=F;subst e;refine Hj (RR:=λd C=>compPost (model X.prog X.w) X.A X.xe none (EP X pins σ Q) d C) S O K l M P T k N L ?_;intro C W E ⟨m,t⟩ u D _ _;exact⟨m,t,λf q=>⟨.ref G.heap.objs.size,E,u f q,rfl,D⟩⟩
theorem l9{j E d:Expr}{k:List Expr}{r:Pos}{Y:TI}{g:TG}{tc:TT}{te:TE}{i:Nat}{x:Str}{f n:Pos}(hN:X.N.Nodup)(F:X.N[i]?=some x)(hx:Loc X.env.scope x)(S:jR X scope N' cap)(hc:X.calm=true)
 (hi:PI X E d Y) (hg:∀fp pins s H,PG (lZ X scope N' fp pins s H) E g)
 (V:∀fp pins s H,m9 (lZ X scope N' fp pins s H) k tc) (he:∀fp pins s H,PE (lZ X scope N' fp pins s H) j te) (hs:∀x,foldedSetIterable d X.env x=pure x:=by intro _;rfl)
 (W:swapsWith (.ListComp j [⟨E,d,k,0⟩] scope r) (some (.Name x f)) n.line X.env=pure true:=by rfl) (hf:X.fn x=true∨X.env.scope.names.lookup x=some .local:=by first|exact .inl rfl|exact .inr rfl|assumption) :
 PS X (.Assign [.Name x f] (.ListComp j [⟨E,d,k,0⟩] scope r) n) (XO (VD Y cap g tc te) (iG i)):=by
 intro pins s σ H D I h;rw[exec_Assign_Name_used _ _ _ _ W];refine wpAny_bind (wpAny_standAt (wpAny_bind ?_));show wpAny _ X.A (do let _ <- comprehension (.ListComp j [⟨E,d,k,0⟩] scope r) scope X.env _ (newList []) false (eval d X.env) (some (assign (.Name x f) X.env))) _ _ s;refine wpAny_bind (wpAny_mono (wpAny_comprehension_free (use:=some (assign (.Name x f) X.env)) (Q:=λ_ l=>SP X pins D .next l) rfl hs (BH (S.clos I.ok)) S.kind S.loc
  (gW (hi pins s σ H _ I h) λv s1 h1=>gW h1 λitv G h2=>?_)) (λ_ l R=>wpAny_pure (wpAny_pure R)) λ_ _ e=>e)
 obtain⟨it,fp,tn,J,H2,e,t,T,U,f2,hW⟩:=h2;subst e;refine Hj (RR:=λO C=>compPost (model X.prog X.w) X.A X.xe (some (assign (.Name x f) X.env)) (λ_ l=>SP X pins D .next l) O C) (Q:=λx H1=>iG i x σ H1 D.nx) S hc hg V he t T U f2 hW ?_;intro C l Z ⟨m,hn⟩ hI R hC u;have I':Inv X pins σ Z l:=hI l.heap (.refl ..);show wpAny _ _ (assign (.Name x f) X.env (.ref G.heap.objs.size)) _ _ l;refine wpAny_assign_Name (Km (v:=.ref G.heap.objs.size) I' hN F hx rfl (λs6 I6 ⟨a,sb,ha⟩=>?_) hf);have B:∀b,b<G.heap.objs.size->b≠C:=λb P=>bD (Nat.lt_trans P u);have M:a≠C:=by
  rcases ha with z|z
  ·rw[z];exact B _ t.lt
  ·obtain⟨_,q⟩:=t.cell x a z
   exact B _ q.lt
 refine⟨m,hn.sameBut sb (bP M),λh' L=>⟨_,Z,I6.turned (t':=s6.toks) (λb o P e=>(L.2 b P).trans e) hC (bP (B _ t.lt)) (.inr (aJ t.sz (ji u))) (λy c K=>?_) (λp hp=>?_),R⟩⟩
 ·obtain⟨_,q⟩:=t.cell y c K
  exact B _ q.lt
 ·exact B _ (Heap.lt_size (t.pin p hp).1)
end
section
variable{X:Cx}
noncomputable def XA(K:af)(a:Addr):It :=
 ⟨λi H=>∃xs x,bK K H a xs/\xs[i]?=some x,λi H x H'=>∃p v,H p=none/\x=.ref p/\H'=upd H p (.tup [.int (i:Nat),v])/\∀xs,bK K H a xs->xs[i]?=some v,λi H=>∃xs,bK K H a xs/\xs.length<=i⟩
theorem Td{P:Program}{w:World}{K:af}{D:List Expr}{x1}{Q:Pos}(a e f:Addr)(G:e≠f) :
 Turn P w K (.Tuple D x1 Q) (XA K a) [e,f] e (λi h=>∃old,IsEnum h e f (i:Nat) old/\h.IsListIter f a i) where
 mem:=-_
 obj:=λi h ⟨old,st,y⟩ b hb=>by
  rcases bx.mp hb with z|hb
  ·subst z
   exact⟨_,st,λv z=>by
    have z':Data.fields _=Data.cell v:=z;cases z'⟩
  ·have z:b=f:=by simpa using hb
   subst z;obtain⟨o,e,c,d⟩:=y;exact⟨o,e,λv z=>by rw[d] at z;cases z⟩
 keep:=λi h h' ⟨old,st,y⟩ k=>⟨old,k e (-_) _ st,y.at λo q=>k f (-_) o q⟩
 item:=by
  intro X N S hK g i t s σ H E I l ⟨old,st,y⟩ Z;subst N S hK;obtain⟨L,x,J,M⟩:=Z;obtain⟨its,rv,p,hz⟩:=I.list J;obtain⟨u,hu,ru⟩:=rv.get M;refine wpAny_pyNext_enum_item st y p.isList (x:=u) (by simpa using hu) G λh' eo li' tu sz kp=>?_;refine⟨_,rfl,wpAny_letOwnedTupleGo_enum eo λC e2 A=>?_⟩;have j:H s.heap.objs.size=none:=I.hok.fresh (ay _);have nE:∀b o,H b=some o->b≠e:=λb o q z=>by rw[z,(l e (-_)).1] at q;cases q
  have nI:∀b o,H b=some o->b≠f:=λb o q z=>by rw[z,(l f (-_)).1] at q;cases q
  have F:∀b o,b≠e->b≠f->s.heap.get? b=some o->C.get? b=some o:=λb o h1 h3 q=>(A.2 b h1).trans (kp b o h1 h3 q);have hes:e<s.heap.objs.size:=Heap.lt_size st;have W:C.get? s.heap.objs.size=some {cls:=.type "tuple",data:=.seq #[.int (i:Nat) s.toks,u]}:=(A.2 _ (Nat.ne_of_gt hes)).trans tu;have R:C.IsListIter f a (i+1):=li'.at λo q=>(A.2 f (bP G)).trans q;have B:∀b,b∉[e,f]->b≠e/\b≠f:=λb hb=>⟨λz=>hb (by simp[z]),λz=>hb (by simp[z])⟩;have U:∀b∈[e,f],upd H s.heap.objs.size (.tup [.int (i:Nat),x]) b=none:=λb hb=>by
   obtain⟨o,q,_⟩:∃o,s.heap.get? b=some o/\True:=by
    rcases bx.mp hb with z|hb
    ·subst z;exact⟨_,st,trivial⟩
    ·have z:b=f:=by simpa using hb
     subst z;obtain⟨o,q,_⟩:=y;exact⟨o,q,trivial⟩
   rw[aF (bD (Heap.lt_size q))];exact (l b hb).1
  have I1:Inv X t σ (upd H s.heap.objs.size (.tup [.int (i:Nat),x])) {s with heap:=C,toks:=s.toks+1}:=by
   refine I.step (g':=s.gens) (d':=s.drawn) (ch:=[e,f]) (λb hb=>?_) (λb o _ _ g q _=>F b o (B b g).1 (B b g).2 q) (λb o _ _ g q _=>⟨o.slots,F b o (B b g).1 (B b g).2 q⟩)
    (λb o _ q n=>by rw[aF (bD (Heap.lt_size q))];exact n) (λb o g q=>⟨o,F b o (B b g).1 (B b g).2 q⟩) (λb L q=>by rw[aF (aH q j)];exact q) (λb o u q=>by rw[aF (aH q j)];exact q)
    (λb ps q=>⟨#[],by rw[aF (aH q j),q];simp⟩) (λm hm=>?_) (λb o q=>?_) I.bare
   ·obtain⟨_,f1,_,T,V,Y⟩:=l b hb
    exact⟨T,f1,V,Y⟩
   ·obtain⟨o,es,ep,ho,r⟩:=hm
    exact⟨o,es,ep,F _ o (bP (l e (-_)).2.1) (bP (l f (-_)).2.1) ho,r⟩
   ·by_cases hb:b=s.heap.objs.size
    ·subst hb
     rw[av] at q;cases q;exact⟨by show 2<=sizeLine;decide,[.int (i:Nat) s.toks,u],.cons ⟨_,rfl⟩ (.cons ru .nil),⟨_,W,rfl,_,rfl⟩⟩
    ·rw[aF hb] at q
     refine (I.hok b o q).stay (λc v g r=>F c v ?_ ?_ r) (λc r=>by rw[aF (aH r j)];exact r) λc L r=>by rw[aF (aH r j)];exact r
     ·rcases g with z|z
      ·rw[z];exact nE b o q
      ·exact nE c _ z
     ·rcases g with z|z
      ·rw[z];exact nI b o q
      ·exact nI c _ z
  refine⟨.ref s.heap.objs.size,_,I1,rfl,⟨_,x,j,rfl,rfl,λys hy=>by rw[I.M3 hy J];exact M⟩,⟨u,?_,R⟩,U⟩;have O:IsEnum C e f ((i:Int)+1) u:=e2;show IsEnum C e f (((i+1:Nat):Int)) u;rw[Int.natCast_add];exact O
 done:=by
  intro X N S hK g i t s σ H E I l ⟨old,st,y⟩ Z;subst N S hK;obtain⟨L,J,M⟩:=Z;obtain⟨its,rv,p,hz⟩:=I.list J;obtain⟨f0,f1,f2,T,V,Y⟩:=l f (-_);have hl:=rv.length;exact wpAny_pyNext_enum_end (I.ok.hd g) st y p.isList (by simp;lia) λh' eb=>⟨rfl,I.turned (t':=s.toks) (λb o hb q=>eb b o hb q) f0 f1 T V Y⟩
 self:=λ_ _ _ _ _ ⟨_,st,_⟩ h=>wpAny_pyIter_enum st h
def aeb(K:af)(ta:TA):TI:=λσ H R=>ta σ H λvs H1=>∃a xs,vs=[.ref a]/\bK K H1 a xs/\R (XA K a) H1
theorem RC{l:Expr}{o:TA}{p i:Pos}{f:List Expr}{x1}{g:Pos}(E:Gl X "enumerate")(u:X.mg "enumerate" = none)(v:PA X [l] o)(B:starEach [l] X.env=[(false,eval l X.env)]:=by rfl) :
 PI X (.Tuple f x1 g) (.Call (.Name "enumerate" p) [l] [] i) (aeb X.K o):=by
 intro c s m H R I h;refine Call_ (G6 I E u boot_enumerate (PyProof.Rows.callWith_type1 (gW (v i c s m H _ I h) λP d ⟨N,k,j,x,F⟩=>?_) B rfl));obtain⟨a,M,e,D,q⟩:=F;subst e;cases x with
 |cons r C =>
  cases C;cases r;obtain⟨w,Q,G,O⟩:=j.list D;refine call_enumerate_list G.isList λy t A S J=>wpAny_pyIter_enum t ?_;have L:Inv X c m k {d with heap:=y,toks:=d.toks}:=j.kept J;have n:∀b,d.heap.objs.size<=b->Dh X c k b:=λb hb=>j.U5 hb (j.hok.fresh hb);refine⟨d.heap.objs.size+1,[d.heap.objs.size+1,d.heap.objs.size],_,_,k,rfl,L,Td a _ _ (Nat.succ_ne_self _),⟨.none,t,A⟩,λb hb=>?_,q⟩;rcases bx.mp hb with z|hb
  ·subst z;exact n _ ∅
  ·have z:b=d.heap.objs.size:=by simpa using hb
   subst z;exact n _ ∅
end
theorem aD.dw{K:af}{H b:Hp}{a:Addr}{xs:List V}(e:aD H b)(h:cW K H a xs):cW K b a xs:=by
 rcases h with (h|⟨o,h⟩)|h
 ·exact .inl (.inl (e _ _ h))
 ·exact .inl (.inr ⟨o,e _ _ h⟩)
 ·exact .inr h
theorem aD.new{H:Hp}{p:Addr}{o:HO}(h:H p=none):aD H (upd H p o):=λb u e=>by rw[aF (aH e h)];exact e
theorem aD.out{a H:Hp}{p:Addr}{o:HO}(s:aD a H)(h:a p=none):aD a (upd H p o):=λb u e=>by rw[aF (aH e h)];exact s b u e
mutual
def Rep(K:af)(H:Hp):PyData->V->Prop
 |.none,v=>v=.fE
 |.bool b,v=>v=.bl b
 |.int i,v=>v=.int i
 |.str x,v=>v=.str x
 |.list ds,v=>∃a vs,v=.ref a/\bK K H a vs/\cH K H ds vs
 |.tuple ds,v=>∃a vs,v=.ref a/\cW K H a vs/\cH K H ds vs
 |.dict _,_=>False
def cH(K:af)(H:Hp):List PyData->List V->Prop
 |[],vs=>vs=[]
 |d::ds,vs=>∃v r,vs=v::r/\Rep K H d v/\cH K H ds r
end
section
variable{K:af}{H H':Hp}
mutual
theorem Rep.mono(s:aD H H'):∀{d:PyData} {v:V},Rep K H d v->Rep K H' d v
 |.none,_,h=>h
 |.bool _,_,h=>h
 |.int _,_,h=>h
 |.str _,_,h=>h
 |.list ds,_,⟨a,vs,e,q,r⟩=>⟨a,vs,e,s.seq q,cH.mono s r⟩
 |.tuple ds,_,⟨a,vs,e,q,r⟩=>⟨a,vs,e,s.dw q,cH.mono s r⟩
 |.dict _,_,h=>h
theorem cH.mono(s:aD H H'):∀{ds:List PyData} {vs:List V},cH K H ds vs->cH K H' ds vs
 |[],_,h=>h
 |_::_,_,⟨v,r,e,q,t⟩=>⟨v,r,e,q.mono s,cH.mono s t⟩
end
theorem cH.length:∀{ds:List PyData} {vs:List V},cH K H ds vs->vs.length=ds.length
 |[],_,h=>by rw[h];rfl
 |_::_,_,⟨v,r,e,_,t⟩=>by rw[e,bq,bq,cH.length t]
theorem cH.get:∀{ds:List PyData} {vs:List V} {i:Nat} {d:PyData},cH K H ds vs->ds[i]?=some d->∃v,vs[i]?=some v/\Rep K H d v
 |[],_,_,_,_,e=>by simp at e
 |x::ds,_,0,d,⟨v,r,e,q,t⟩,h=>by
  subst e;have z:x=d:=by simpa using h
  subst z;exact⟨v,rfl,q⟩
 |_::ds,_,i+1,d,⟨v,r,e,q,t⟩,h=>by
  subst e;obtain⟨y,b,a⟩:=cH.get (i:=i) (d:=d) t (by simpa using h);exact⟨y,by simpa using b,a⟩
theorem cH.snoc:∀{ds:List PyData} {vs:List V} {d:PyData} {v:V},cH K H ds vs->Rep K H d v->cH K H (ds++[d]) (vs++[v])
 |[],_,_,v,h,q=>by rw[h];exact⟨v,[],rfl,q,rfl⟩
 |_::_,_,_,_,⟨y,r,e,q,t⟩,p=>by subst e;exact⟨y,_,rfl,q,cH.snoc t p⟩
theorem mP:∀ns:List Int,cH K H (ns.map PyData.int) (ns.map V.int)
 |[]=>rfl
 |n::ns=>⟨.int n,_,rfl,rfl,mP ns⟩
theorem zR:∀{ns:List Int} {vs:List V},cH K H (ns.map PyData.int) vs->vs=ns.map V.int
 |[],_,h=>h
 |n::ns,_,⟨v,r,e,q,t⟩=>by
  have q':v=.int n:=q;rw[e,q',zR t];rfl
theorem Rep.ints{ns:List Int}{a:Addr}(h:bK K H a (ns.map V.int)):Rep K H (.list (ns.map .int)) (.ref a):=⟨a,_,rfl,h,mP ns⟩
theorem Rep.Hl{ns:List Int}{a:Addr}(h:cW K H a (ns.map V.int)):Rep K H (.tuple (ns.map .int)) (.ref a):=⟨a,_,rfl,h,mP ns⟩
theorem Rep.zS{ns:List Int}{v:V}(h:Rep K H (.tuple (ns.map .int)) v):∃a,v=.ref a/\cW K H a (ns.map V.int):=by
 obtain⟨a,b,e,q,r⟩:=h;rw[zR r] at q;exact⟨a,e,q⟩
end
section
variable{X:Cx}{pins:List (Addr×Obj)}{σ:St}{H:Hp}{s:Shared}
mutual
theorem Rep.reads(I:Inv X pins σ H s):∀{d:PyData} {v:V} {u:Value},Rep X.K H d v->RelV v u->∃m,Reads s.heap u d m
 |.none,_,_,h,r=>by cases h;cases r;exact⟨_,.none⟩
 |.bool b,_,_,h,r=>by cases h;cases r;exact⟨_,.bool b⟩
 |.int i,_,_,h,r=>by cases h;obtain⟨t,rfl⟩:=r;exact⟨_,.int i t⟩
 |.str x,_,_,h,r=>by cases h;obtain⟨t,rfl⟩:=r;exact⟨_,.str x t⟩
 |.list p,_,_,⟨a,w,e,q,t⟩,r=>by
  subst e;cases r;obtain⟨f,j,⟨o,n,k,g,y,l⟩,_⟩:=I.list q;obtain⟨m,c⟩:=cH.reads I t j;exact⟨_,.list k g l (by simpa using c)⟩
 |.tuple p,_,_,⟨a,w,e,q,t⟩,r=>by
  subst e;cases r;obtain⟨f,j,⟨o,k,g,n,l⟩,_⟩:=I.tuple q;obtain⟨m,c⟩:=cH.reads I t j;exact⟨_,.tuple k g l (by simpa using c)⟩
 |.dict _,_,_,h,_=>h.elim
theorem cH.reads(I:Inv X pins σ H s):∀{ds:List PyData} {vs:List V} {us:List Value},cH X.K H ds vs->bX vs us->∃a,ReadsAll s.heap us ds a
 |[],_,_,h,r=>by cases h;cases r;exact⟨_,.nil⟩
 |_::_,_,_,⟨v,i,e,q,t⟩,r=>by
  subst e;cases r with
  |cons b d =>
   obtain⟨a,f⟩:=q.reads I b;obtain⟨g,c⟩:=cH.reads I t d;exact⟨_,.cons f c⟩
end
end
section
variable{X:Cx}
def ahy(K:af)(u:Nat):R2:=λx y H Q=>∃da db,Rep K H da x/\Rep K H db y/\da.canLay0=true/\db.canLay0=true/\u+min da.depth db.depth<cLine/\Q (.bl (PyData.eqv da db)) H
def ahz(K:af)(u:Nat):R2:=λx y H Q=>∃da db,Rep K H da x/\Rep K H db y/\da.canLay0=true/\db.canLay0=true/\u+min da.depth db.depth<cLine/\Q (.bl (!PyData.eqv da db)) H
theorem zT:wN X (compareOp .Eq) (ahy X.K X.A.units):=by
 intro a s k H x y v u Q I b e ⟨m,o,d,g,j,f,h,q⟩;obtain⟨n,c⟩:=d.reads I b;obtain⟨l,i⟩:=g.reads I e;exact SeqAt.compareEq_reads c i j f h ⟨.bl _,H,I,rfl,q⟩
theorem Ho:wN X (compareOp .NotEq) (ahz X.K X.A.units):=by
 intro a s k H x y v u Q I b e ⟨m,o,d,g,j,f,h,q⟩;obtain⟨n,c⟩:=d.reads I b;obtain⟨l,i⟩:=g.reads I e;exact SeqAt.compareNe_reads c i j f h ⟨.bl _,H,I,rfl,q⟩
theorem Hq:p9 X (.builtin "isinstance") (λxs H Q=>∃x n t b,xs=[x,.ty n]/\Ep X.K H x t/\PySem.W.kitOne X.K t (.type n)=some b/\Q (.bl b) H):=by
 intro c s g H xs i Q I r ⟨x,n,t,b,e,ty,k,q⟩;subst e;obtain⟨u,h,e,d,a⟩:=bX.two r;subst e;cases a;exact SV I d ty k λf=>⟨.bl _,H,I.tok f,rfl,q⟩
theorem Tf(t:X.calm=true):p9 X (.type "set") (λxs H Q=>∃(a:Addr) (ns:List Int),xs=[.ref a]/\bK X.K H a (ns.map V.int)/\ns.length+1<scanBound /\
 ∀p,H p=none->Q (.ref p) (upd H p (.set (λf=>(firstMet (λi=>ns.getD i 0) ns.length).any (·==f)) (firstMet (λi=>ns.getD i 0) ns.length).length))):=by
 intro h s w H xs z Q I r ⟨a,ns,e,n,m,q⟩;subst e;obtain⟨u,e,l⟩:=bX.one r;subst e;cases l;obtain⟨d,j,p,y⟩:=I.list n;have g:=j.length;rw[ah] at g;have c:d.toArray.size=ns.length:=by simp[g]
 refine call_set_list (I.ok.hd t) p.isList (ns:=ns) (by simpa using intsAre_of j) (by rw[c];exact m) λx A k v=>?_;rw[c] at k;exact⟨.ref s.heap.objs.size,_,I.laid (o:=.set (λf=>(firstMet (λi=>ns.getD i 0) ns.length).any (·==f)) (firstMet (λi=>ns.getD i 0) ns.length).length) (λb o e=>v b o (Heap.lt_size e) e) (ay _) k,rfl,q _ (I.hok.fresh (ay _))⟩
theorem Tg:p9 X (.builtin "len") (λxs H Q=>∃(a:Addr) (S:Int->Bool) (n:Nat),xs=[.ref a]/\H a=some (.set S n)/\Q (.int n) H):=by
 intro b s m H xs x Q I r ⟨a,S,n,e,j,q⟩;subst e;obtain⟨u,e,i⟩:=bX.one r;subst e;cases i;obtain⟨o,h,p,t,k,g,l,y,v,d,f,c⟩:=(show s.heap.SetOf (intKind X.prog X.w) a S n from I.hok a _ j);subst c;refine call_len_set k g l f ?_ ⟨.int _,H,I.tok _,⟨_,rfl⟩,q⟩
 have:h.size<2^62:=bG d (!_)
 lia
theorem Th(C:X.calm=true):p9 X (.builtin "min") (λxs H Q=>∃(a:Addr) (ns:List Int),xs=[.ref a]/\bK X.K H a (ns.map V.int)/\0<ns.length/\∀m,m∈ns->(∀n∈ns,m<=n)->Q (.int m) H):=by
 intro l s D H xs G Q I r ⟨a,ns,e,w,d,q⟩;subst e;obtain⟨u,e,o⟩:=bX.one r;subst e;cases o;obtain⟨c,A,p,F⟩:=I.list w;have i:IntsAre c ns:=intsAre_of A;have k:=p.isList;obtain⟨xs,e⟩:=i.allInts.items;have b:ns=xs.toList.map (·.1):=by
  rw[<- i.numsOf,<- nums_intItems,<- e]
 have f:0<xs.size:=by
  have g:=d;rw[b,ah,aP] at g;exact g
 rw[e] at k;refine min_intList (I.ok.hd C) k f λv E J z x=>?_;obtain⟨t,rfl⟩:=intItems_at z;obtain⟨L,y⟩:=argBest_lt (numAt xs) (xs.size-1);refine⟨.int _,H,I.kept x,⟨t,rfl⟩,q _ ?_ λa h=>?_⟩
 ·rw[b,numAt_eq];exact getD_mem (by rw[ah,aP];lia)
 ·rw[b] at h
  obtain⟨j,B,rfl⟩:=mem_getD h;rw[ah,aP] at B;rw[<- numAt_eq];exact y j ∅
end
noncomputable def LM(scope ZX:Scope)(N0 N2:List Str)(cap:List (Option Nat)):Bool :=
 (scope.kind==.function)&&(scope.names.all λy=>y.2 != .cell)&&(scope.names.all λy=>y.2 != .local || scope.names.lookup y.1==some .local) &&
 (scope.names.all λy=>y.2 != .free || ZX.names.lookup y.1==some .cell)&&(scope.names.all λy=>y.2 != .free || scope.names.lookup y.1==some .free)&&decide N2.Nodup&&(cap.length==N2.length) &&
 ((au cap.length).all λi=>match cap[i]?,N2[i]? with
   |some (some j),some x=>N0[j]?==some x&&scope.names.any (λy=>y.1==x&&y.2==.free)
   |_,_=>true)
theorem Ti{X:Cx}{scope d:Scope}{o n:List Str}{b:List (Option Nat)}(v:X.env.scope=d)(t:X.N=o)(h:LM scope d o n b=true):jR X scope n b:=by
 unfold LM at h;simp only[dh] at h;obtain⟨⟨⟨⟨⟨⟨⟨B,f⟩,c⟩,k⟩,m⟩,p⟩,s⟩,l⟩:=h;rw[List.all_eq_true] at f c k m l;refine⟨by simpa using B,λy a e=>?_,λy a e=>?_,λy a e=>?_,λy a e=>?_,ff p,by simpa using s,λi j x g r=>?_⟩
 ·have:=f y a;rw[e] at this;exact ee this (!_)
 ·have:=c y a;rw[e] at this;simpa using this
 ·have:=k y a
  rw[e] at this;show X.env.scope.names.lookup y.1=some .cell;rw[v]
  simpa using this
 ·have:=m y a;rw[e] at this;simpa using this
 ·have u:i<b.length:=(ai.mp g).1
  have q:=l i (cT.mpr u);rw[g,r] at q;simp only[dh] at q;refine⟨by rw[t];simpa using q.1,?_⟩;obtain⟨y,a,z⟩:=xS.mp q.2;simp only[dh] at z;have w:y.1=x:=by simpa using z.1
  have A:y.2=.free:=by simpa using z.2
  rw[<- w,<- A];exact a
def CW(H1:Hp)(acc:Addr)(n:Nat)(P:Nat->List V->Hp->Prop):Nat->Nat->Hp->Prop :=
 λi m H=>m=n-i/\i<=n/\aD H1 H/\∃ys,H acc=some (.lst ys)/\P i ys H
theorem fG{J:It}{n:Nat}{j:List (Option Nat)}{g:TG}{z:TT}{B:TE}{v:St}{w:Hp->Prop}{f:Hp}{a:Addr}(P:Nat->List V->Hp->Prop)(q:f a=none)
 (go:∀i H,i<n->aD f H->J.go i H) (stop:∀H,aD f H->J.stop n H) (C:P 0 [] (upd f a (.lst [])))
 (step:∀i h H,i<n->aD f H->H a=some (.lst h)->P i h H->∀x l,J.LA i H x l->g x (jQ j v) l λc u=>z c u λb o=>if b=true then B c o λy r=>∃xs,r a=some (.lst xs)/\xs.length<sizeLine /\
  ∃d,d<n-i/\CW f a n P (i+1) d (upd r a (.lst (xs++[y]))) else ∃d,d<n-i/\CW f a n P (i+1) d o)
 (t:∀h H,aD f H->H a=some (.lst h)->P n h H->w H) :
 ∃W:Nat->Nat->Hp->Prop,(∃m,W 0 m (upd f a (.lst [])))/\∀i m H,W i m H ->
  (J.stop i H/\w H)∨(J.go i H/\∀x l,J.LA i H x l->g x (jQ j v) l λc u=>z c u λb o=>if b=true then B c o λy r=>∃xs,r a=some (.lst xs)/\xs.length<sizeLine /\
   ∃d,d<m/\W (i+1) d (upd r a (.lst (xs++[y]))) else ∃d,d<m/\W (i+1) d o):=by
 refine⟨CW f a n P,⟨n,rfl,bE _,aD.new q,[],av,C⟩,?_⟩;rintro i m H ⟨rfl,D,s,h,A,p⟩;by_cases k:i<n
 ·exact .inr ⟨go i H k s,step i h H k s A p⟩
 ·have e:i=n:=∅
  subst e;exact .inl ⟨stop H s,t h H s A p⟩
theorem dR{e d:Hp}{a:Addr}{n i:Nat}{P:Nat->List V->Hp->Prop}{b:List V}{y:V}(c:e a=none)(h:i<n)(s:aD e d)(g:d a=some (.lst b))(hl:b.length<sizeLine)(p:P (i+1) (b++[y]) (upd d a (.lst (b++[y])))) :
 ∃xs,d a=some (.lst xs)/\xs.length<sizeLine/\∃f,f<n-i/\CW e a n P (i+1) f (upd d a (.lst (xs++[y]))) :=
 ⟨b,g,hl,n-(i+1),∅,rfl,h,s.out c,_,av,p⟩
theorem gv{e b:Hp}{a:Addr}{n i:Nat}{P:Nat->List V->Hp->Prop}{d:List V}(g:i<n)(s:aD e b)(f:b a=some (.lst d))(p:P (i+1) d b):∃c,c<n-i/\CW e a n P (i+1) c b :=
 ⟨n-(i+1),∅,rfl,g,s,_,f,p⟩
theorem zU{K:af}{a:Addr}{xs:List V}{b:Hp}(h:bK K b a xs):∀i H,i<xs.length->aD b H->(LB K a).go i H:=λi H c s=>⟨xs,xs[i],s.seq h,by simp[c]⟩
theorem qg{K:af}{a:Addr}{xs:List V}{b:Hp}(h:bK K b a xs):∀H,aD b H->(LB K a).stop xs.length H:=λH s=>⟨xs,s.seq h,ay _⟩
theorem abm{K:af}{a:Addr}{xs:List V}{b:Hp}(h:bK K b a xs):∀i H,i<xs.length->aD b H->(XA K a).go i H:=λi H c s=>⟨xs,xs[i],s.seq h,by simp[c]⟩
theorem VE{K:af}{a:Addr}{xs:List V}{b:Hp}(h:bK K b a xs):∀H,aD b H->(XA K a).stop xs.length H:=λH s=>⟨xs,s.seq h,ay _⟩
theorem xV{lo:Int}{n:Nat}{b:Hp}:∀i H,i<n->aD b H->(U7 lo n).go i H:=λi H a s=>a
theorem ng{lo:Int}{n:Nat}{a:Hp}:∀H,aD a H->(U7 lo n).stop n H:=λH s=>ay n
noncomputable def hide(H:Hp)(l:Addr):Hp:=λb=>if b=l then none else H b
theorem abn{α:Type}{xs:List α}{i:Int}{v:α}(a:0<=i)(h:xs[i.toNat]?=some v):FD xs i=some v:=by
 obtain⟨k,rfl⟩:=Int.eq_ofNat_of_zero_le a;exact dX (by simpa using h)
theorem VF{ns:List Int}{i:Int}(a:0<=i)(h:i<ns.length):FD (ns.map V.int) i=some (.int (ns.getD i.toNat 0)):=by
 have b:i.toNat<ns.length:=∅
 refine abn a ?_;rw[aj,aq,aa b];rfl
section
variable{X:Cx}
theorem VG(K:af)(h:X.K=K):zb X (SY K):=by subst h;exact Rq
theorem Yd(K:af)(h:X.K=K):zb X (S1 K):=by subst h;exact Vr
theorem Hr(K:af)(h:X.K=K):wN X (compareOp .In) (IB K false):=by subst h;exact sG
theorem GW(K:af)(h:X.K=K){e:Expr}{f:Str}{a:Pos}{b:TE}(c:PE X e b)(d:attributeBase e f X.env (eval e X.env)=eval e X.env):PE X (.Attribute e f a) (Hh K b f):=by subst h;exact aR c d
theorem RD(K:af)(h:X.K=K){a:List Expr}{k:Nat}{b:Pos}{t:ja}{n:Nat}(d:X.calm=true)(h':m6 X a t)(e:(assignEach a X.env).length=n:=by rfl)
 (c:(assignEach a X.env).findIdx? (·.1)=none:=by rfl):PG X (.Tuple a k b) (aaU K n t):=by subst h;exact U1 d h' e c
theorem Tj:p9 X (.builtin "isinstance") (λxs H Q=>∃(a:Addr) (d:List V) (n:String) (b:Bool),xs=[.ref a,.ty n]/\cW X.K H a d/\PySem.W.kitOne X.K (.type "tuple") (.type n)=some b/\Q (.bl b) H):=by
 intro f s p H xs v Q I r ⟨a,d,n,b,e,i,k,q⟩;subst e;obtain⟨u,t,e,h,c⟩:=bX.two r;subst e;cases c;cases h;obtain⟨g,w,⟨o,m,j,_⟩,_⟩:=I.tuple i;exact dN PySem.W.kitx_tuple I.Cg ⟨o,m,j⟩ k (λz=>nomatch z) λl=>⟨.bl _,H,I.tok l,rfl,q⟩
theorem Tn:p9 X (.builtin "isinstance") (λxs H Q=>∃(a:Addr) (d:List V) (n:String) (b:Bool),xs=[.ref a,.ty n]/\bK X.K H a d/\PySem.W.kitOne X.K (.type "list") (.type n)=some b/\Q (.bl b) H):=by
 intro f s p H xs w Q I r ⟨a,d,n,b,e,i,k,q⟩;subst e;obtain⟨u,v,e,h,c⟩:=bX.two r;subst e;cases c;cases h;obtain⟨g,x,⟨o,t,m,j,_⟩,_⟩:=I.list i;exact dN PySem.W.kitx_list I.Cg ⟨o,m,j⟩ k (λz=>nomatch z) λl=>⟨.bl _,H,I.tok l,rfl,q⟩
noncomputable def gk:Expr->Bool
 |.Starred _ _=>false
 |_=>true
theorem Nh{e:Expr}{a:List Expr}{env:Env}(h:gk e=true):starEach (e::a) env=(false,eval e env)::starEach a env:=by
 cases e <;> first|rfl|(exact Bool.noConfusion h)|simp[starEach]
theorem uF{e:Expr}{b:List Expr}{a:TE}{t:TA}(c:PE X e a)(d:PA X b t)(f:gk e=true:=by rfl):PA X (e::b) (gC a t):=XW c d (Nh f)
theorem Ye{bs:List Bool}{us:List Value}(r:bX (bs.map V.bl) us){i:Nat}{v:Value}(h:us[i]?=some v):v=.bool (bs.getD i true):=by
 have c:=r.length;rw[ah] at c;have d:i<us.length:=(ai.mp h).1;have e:(bs.map V.bl)[i]?=some (.bl (bs.getD i true)):=by
  rw[aj,aa ∅,aq,aa ∅];rfl
 obtain⟨u,a,b⟩:=r.get e;rw[h] at a;cases a;exact b
theorem range_all(bs:List Bool):((au bs.length).all λi=>bs.getD i true)=bs.all id:=by
 rw[iK,List.all_eq_true,List.all_eq_true];constructor
 ·intro h x b
  obtain⟨i,a,e⟩:=List.getElem_of_mem b
  have:=h i (cT.mpr a)
  rw[aq,aa a,e] at this;exact this
 ·intro h i a
  have a:=cT.mp a
  have:=h bs[i] (aK a)
  rw[aq,aa a];exact this
theorem VH(x:X.calm=true):p9 X (.builtin "all") (λxs H Q=>∃(a:Addr) (bs:List Bool),xs=[.ref a]/\bK X.K H a (bs.map V.bl)/\Q (.bl (bs.all id)) H):=by
 intro g s y H xs D Q I r ⟨a,bs,e,k,q⟩;subst e;obtain⟨u,e,j⟩:=bX.one r;subst e;cases j;obtain⟨c,h,p,C⟩:=I.list k;have f:=h.length;rw[ah] at f;refine call_all_walk (wpAny_pyIter_list p.isList ?_);have d:a<s.heap.objs.size:=by obtain⟨o,n,e,_⟩:=p;exact Heap.lt_size e
 refine⟨s.heap.objs.size,_,_,_,_,_,λi=>bs.getD i true,rfl,Walks.list (A:=X.A.in1) (show X.A.in1.handled=none from I.ok.hd x) _ a (bD d) c.toArray,⟨⟨_,Heap.get?_push_size _ rfl,rfl,rfl⟩,p.isList.at λo e=>Heap.get?_push_of_some _ e⟩,?_,λB w l=>?_⟩
 ·intro i v s Q E m t
  have e:=Ye h (show c[i]?=some v by simpa using m);subst e;exact wpAny_truthy_bool t
 ·have e:(au c.toArray.size).all (λi=>bs.getD i true)=bs.all id:=by
   rw[show c.toArray.size=bs.length by simp[f]];exact range_all bs
  rw[e];exact⟨.bl _,H,I.kept (t':=w) λb o e=>l b o (by
   intro z
   have:b=s.heap.objs.size:=by simpa using z
   exact ee (Heap.lt_size e) (by rw[this];exact jh _)) (Heap.get?_push_of_some _ e),rfl,q⟩
end
end L2
namespace Gr
abbrev Ps:=List (Int×Int)
def Bg(ps:Ps)(k:Nat)(x y:Int):Prop:=ps[k]?=some (x,y)∨ps[k]?=some (y,x)
theorem Cn{α:Type}{xs:List α}{x:α}(h:xs.Nodup)(c:x∉xs):(xs++[x]).Nodup:=by
 rw[jM];refine⟨h,-_,λa d b f=>?_⟩
 have:b=x:=by simpa using f
 rw[this];exact λe=>c (e▸d)
noncomputable def ends(ps:Ps):List Int:=ps.flatMap λp=>[p.1,p.2]
end Gr
namespace L2
open PySem Gr
noncomputable abbrev two(a b:Int):List V:=[.int a,.int b]
def VI(K:af)(ta:TE):TT:=λσ H Q=>ta σ H λx H'=>∃k,aa4 K x H' k/\Q k H'
theorem To{X:Cx}{a:Expr}{c:TE}(d:PE X a c)(e:∀b,isTrue a X.env b=(do let v <- b;standAt a.pos;holding [v] (truthy v))):PT X a (VI X.K c):=Vj d e
theorem VJ{K:af}{a:Addr}{xs:List V}{g:TG}{o:TS}{D:Ends}{c:St}{H:Hp}(d:Nat->St->Hp->Prop)(A:d 0 c H)(hl:∀i c H,i<=xs.length->d i c H->bK K H a xs)
 (t:∀i x c H p,xs[i]?=some x->d i c H->H p=none->g (.ref p) c (upd H p (.tup [.int (i:Nat),x])) λf l=>o {D with nx:=d (i+1),ct:=d (i+1),bk:=D.nx} f l) (u:∀c H,d xs.length c H->D.nx c H) :
 ∃W:Nat->Nat->St->Hp->Prop,(∃m,W 0 m c H)/\∀i m c H,W i m c H ->
  ((XA K a).stop i H/\D.nx c H)∨((XA K a).go i H/\∃N:St->Hp->Prop,(∀j h,N j h->∃n,n<m/\W (i+1) n j h)/\∀x h,(XA K a).LA i H x h->g x c h λf l=>o {D with nx:=N,ct:=N,bk:=D.nx} f l):=by
 refine⟨λi m c H=>m=xs.length-i/\i<=xs.length/\d i c H,⟨xs.length,-_,bE _,A⟩,?_⟩;rintro i m c H ⟨rfl,s,p⟩;have q:=hl i c H s p;by_cases k:i<xs.length
 ·refine .inr ⟨⟨xs,xs[i],q,by simp[k]⟩,d (i+1),λj h z=>⟨xs.length-(i+1),∅,rfl,k,z⟩,λx h y=>?_⟩
  obtain⟨b,v,r,rfl,rfl,w⟩:=y;exact t i v c H b (w xs q) p r
 ·have e:i=xs.length:=∅
  subst e;exact .inl ⟨⟨xs,q,ay _⟩,u c H p⟩
end L2
namespace L2
open PySem PySem.Spec PyProof.Rows
section
variable{X:Cx}
theorem Ni:p9 X (.type "range") (λxs H Q=>∃j:Int,xs=[.int j]/\∀p,H p=none->Q (.ref p) (upd H p (.US 0 j))):=by
 intro c s f H xs g Q I r ⟨j,e,q⟩;subst e;obtain⟨u,e,d⟩:=bX.one r;subst e;obtain⟨t,rfl⟩:=d;refine call_range_1 ⟨.ref s.heap.objs.size,_,I.laid (a:=s.heap.objs.size) (o:=.US 0 j) (λb o e=>Heap.get?_push_of_some _ e) (ay _) ?_,rfl,q _ (I.hok.fresh (ay _))⟩;exact⟨_,_,_,Heap.get?_push_size _ rfl⟩
theorem P6{a:Array Value}{n:Nat}(hl:a.size=n)(h:∀(i:Nat) (v:Value),a[i]?=some v->∃t,v=Value.int (0+(i:Int)*1) t):bX ((au n).map λk=>V.int (k:Nat)) a.toList:=by
 have c:∀(b:List Value) (m:Nat),(∀(i:Nat) (v:Value),b[i]?=some v->∃t,v=Value.int ((m+i:Nat):Int) t)->bX ((List.range' m b.length).map λk=>V.int (k:Nat)) b:=by
  intro b;induction b with
  |nil=>intro m _;exact .nil
  |cons u b f =>
   intro m d;rw[bq,List.range'_succ,bT];refine .cons (d 0 u rfl) (f (m+1) λi v e=>?_);obtain⟨t,q⟩:=d (i+1) v (by simpa using e);exact⟨t,by rw[q];congr 1;lia⟩
 have:=c a.toList 0 λi v e=>by
  obtain⟨t,q⟩:=h i v (by simpa using e);exact⟨t,by rw[q];congr 1;lia⟩
 rw[aP,hl,<- List.range_eq_range'] at this;exact this
theorem P7(C:X.calm=true):p9 X (.type "list") (λxs H Q=>∃(p:Addr) (j:Nat),xs=[.ref p]/\H p=some (.US 0 j)/\j<=1000/\∀l,H l=none->Q (.ref l) (upd H l (.lst ((au j).map λk=>.int (k:Nat))))):=by
 intro f s D H xs F Q I r ⟨p,j,e,B,z,q⟩;subst e;obtain⟨u,e,h⟩:=bX.one r;subst e;cases h;obtain⟨t,u,v,m⟩:=(show fM X.prog X.w H s.heap p (.US 0 j) from I.hok p _ B);refine call_list_range (I.ok.hd C) (n:=j) m (small_one ∅ ∅ ∅ ∅) (by rw[rangeSize_one];split <;> lia) ∅ λE G b A x g i=>?_;obtain⟨c,d⟩:=i;have y:=P6 c d;refine⟨.ref s.heap.objs.size,_,I.laid (a:=s.heap.objs.size) (o:=.lst ((au j).map λk=>.int (k:Nat))) x (ay _) ⟨?_,b.toList,A,y,by simpa using g⟩,rfl,q _ (I.hok.fresh (ay _))⟩;rw[ah,aX];exact ji (ck z)
end
end L2
namespace Gr
end Gr
namespace L2
open PySem PySem.Spec PyProof.Rows
def Yg(h:Heap)(e T:Addr)(cls fl:Value):Prop :=
 ∃oe vs oT ts,h.get? e=some oe/\oe.cls=cls/\oe.dict=none/\oe.data=.fields vs/\vs[1]?=some (.ref T)/\T≠e/\h.get? T=some oT/\oT.data=.fields ts/\ts[3]?=some fl
structure KA(F R:List Addr)(h h':Heap):Prop where
 keep:∀b o,b∉F->b∉R->h.get? b=some o->h'.get? b=some o
 slot:∀b o,b∈F->b∉R->h.get? b=some o->∃sl,h'.get? b=some {o with slots:=sl}
theorem KA.mono{F R d:List Addr}{h h':Heap}(t:KA F R h h')(f:∀b∈R,b∈d):KA F d h h' :=
 ⟨λb o c a e=>t.keep b o c (λz=>a (f b z)) e,λb o c a e=>t.slot b o c (λz=>a (f b z)) e⟩
theorem KA.trans{F R:List Addr}{h j i:Heap}(a:KA F R h j)(b:KA F R j i):KA F R h i :=
 ⟨λc o d f e=>b.keep c o d f (a.keep c o d f e),λc o d f e=>by
  obtain⟨m,l⟩:=a.slot c o d f e;obtain⟨g,k⟩:=b.slot c _ d f l;exact⟨g,k⟩⟩
theorem KA.aec{F:List Addr}{h:Heap}{a:Addr}{g:Obj->Obj}:KA F [a] h (h.update a g) :=
 ⟨λb o _ c e=>(Heap.get?_update_other _ _ (λz=>c (by simp[z]))).trans e,λb o _ c e=>⟨o.slots,(Heap.get?_update_other _ _ (λz=>c (by simp[z]))).trans e⟩⟩
theorem Tp{f:Array Value->Array Value}{o:Obj}:(Obj.mapFields f o).dict=o.dict:=by
 obtain⟨c,d,a,b⟩:=o;cases a <;> rfl
section
variable{M:Model}{A:Around}{E:Value->Shared->Prop}{s:Shared}{base:Heap}{env:Env}{outer:List Env}{L e:Addr}
theorem Hs(hl:s.heap.FunFrames base (env::outer)){c:Obj}{vs:Array Value}(g:s.heap.get? e=some c)(d:c.data=.fields vs):e∉frs (env::outer):=λf=>by
 obtain⟨_,o,b,a⟩:=hl.mem f;rw[g] at b;cases b;exact a vs d
theorem KC{g:Obj}{vs:Array Value}{a:Value}{C:Bool}{Q:Unit->Shared->Prop}(m:A.frames=some (env::outer))(hl:s.heap.FunFrames base (env::outer))(B:env.frame=some L)
 (w:s.heap.get? e=some g) (t:g.dict=none) (n:g.data=.fields vs) (hsz:1<vs.size)
 (h:∀h',Yg h' e s.heap.objs.size g.cls (rawInt L)->KA (frs (env::outer)) [e] s.heap h'->Q () {s with heap:=h'}) :
 wpAny M A (do let fv <- frameOf env;let j <- entryPlaceOf L C;let D <- EntryCells.newEntry a fv .none (rawInt L) .none j;setField (.ref e) 1 D) Q E s:=by
 have l:=Hs hl w n;refine wpAny_bind (wpAny_frameOf_fun m hl B λg1 F=>?_);obtain⟨k,i,v⟩:=F;refine wpAny_bind (wpAny_entryPlaceOf λj f=>?_);unfold EntryCells.newEntry newFields;refine wpAny_bind (wpAny_newObj_type ?_ (f.sizeOk5 _ _ _ _ _));have u:g1.get? e=some g:=(i e l).trans w;have d:g1.objs.size≠e:=Nat.ne_of_gt (Heap.lt_size u);refine wpAny_setField (Heap.get?_push_of_some _ u) n hsz (h _ ?_ ?_)
 ·have c:=Obj.data_mapFields n (·.setIfInBounds 1 (Value.ref g1.objs.size))
  have qT:=(Heap.get?_update_other _ (Obj.mapFields (·.setIfInBounds 1 (Value.ref g1.objs.size))) (bP d)).trans (Heap.get?_push_size g1 (o:={cls:=.type "traceback",dict:=none,data:=.fields ([a,.ref L,.none,rawInt L,.none]++(if j.isEmpty then bB 6 Value.none else j)).toArray}) rfl);rw[<- k];refine⟨_,_,_,_,Heap.get?_update_self _ (Heap.get?_push_of_some _ u) (Obj.isFreed_of_fields c),Obj.cls_mapFields _ _,?_,c,?_,d,qT,rfl,?_⟩
  ·rw[Tp]
   exact t
  ·simp[hsz]
  ·rcases f with rfl|⟨_,_,_,_,_,_,_,rfl⟩ <;> simp
 ·refine⟨λb o x p r=>?_,λb o x p r=>?_⟩
  ·rw[Heap.get?_update_other _ _ (λz=>p (by simp[z]))]
   exact Heap.get?_push_of_some _ ((i b x).trans r)
  ·obtain⟨y,q⟩:=v b o r
   refine⟨y,?_⟩;rw[Heap.get?_update_other _ _ (λz=>p (by simp[z]))];exact Heap.get?_push_of_some _ q
theorem P8{a:Obj}{vs:Array Value}{Q:Unit->Shared->Prop}(b:A.frames=some (env::outer))(hl:s.heap.FunFrames base (env::outer))(g:env.frame=some L)
 (f:s.heap.get? e=some a) (c:a.dict=none) (d:a.data=.fields vs) (i:vs[1]?=some .none)
 (h:∀h',Yg h' e s.heap.objs.size a.cls (rawInt L)->KA (frs (env::outer)) [e] s.heap h'->Q () {s with heap:=h'}):wpAny M A (noteFrame (.ref e) env) Q E s:=by
 unfold noteFrame;simp only[g];refine wpAny_bind (wpAny_field f d i ?_);rw[b5 (!_)];exact KC b hl g f c d (iZ.mp i).1 h
theorem Tq{T:Addr}{cls:Value}{Q:Unit->Shared->Prop}(i:A.frames=some (env::outer))(hl:s.heap.FunFrames base (env::outer))(m:env.frame=some L)(v:Yg s.heap e T cls .none)
 (h:∀h',Yg h' e s.heap.objs.size cls (rawInt L)->KA (frs (env::outer)) [e,T] s.heap h'->Q () {s with heap:=h'}):wpAny M A (noteFrame (.ref e) env) Q E s:=by
 obtain⟨y,D,F,C,p,B,k,n,q,u,f,c,l⟩:=v;subst B;unfold noteFrame;simp only[m];refine wpAny_bind (wpAny_field p n q ?_);rw[b3 (-_)];refine wpAny_bind (wpAny_field f c l ?_);rw[b5 (by simp[rawInt])];refine wpAny_bind (wpAny_setField f c (iZ.mp l).1 ?_);have r:=Hs (e:=T) hl f c;have j:(s.heap.update T (Obj.mapFields (·.setIfInBounds 3 Value.none))).objs.size=s.heap.objs.size:=Heap.size_after_update ..;have a:∀b,b≠T->(s.heap.update T (Obj.mapFields (·.setIfInBounds 3 Value.none))).get? b=s.heap.get? b:=λb d=>Heap.get?_update_other _ _ (bP d);refine KC (s:={s with heap:=s.heap.update T (Obj.mapFields (·.setIfInBounds 3 Value.none))}) (base:=base) i (hl.of_keeps λb o d g=>⟨o,(a b λz=>?_).trans d,rfl⟩) m ((a e (bP u)).trans p) k n (iZ.mp q).1 λh' w t=>?_
 ·rw[z,f] at d
  cases d;exact g C c
 ·have x:Yg h' e s.heap.objs.size y.cls (rawInt L):=j▸w
  exact h h' x ((KA.aec.mono (-_)).trans (t.mono (-_)))
theorem FF{T:Addr}{cls n:Value}{Q:Unit->Shared->Prop}(f:Yg s.heap e T cls n)(h:∀h',Yg h' e T cls .none->(∀F,KA F [T] s.heap h')->h'.objs.size=s.heap.objs.size->Q () {s with heap:=h'}) :
 wpAny M A (setFlight (.ref e) none) Q E s:=by
 obtain⟨p,o,t,r,k,q,d,j,l,i,g,a,m⟩:=f;have c:3<r.size:=(iZ.mp m).1;unfold setFlight;refine wpAny_bind (wpAny_field k j l ?_);rw[b3 (-_)];refine wpAny_setField g a c (h _ ?_ (λF=>KA.aec) (Heap.size_after_update ..));have b:=Obj.data_mapFields a (·.setIfInBounds 3 ((none:Option Addr).elim Value.none λf=>rawInt f));exact⟨p,o,_,_,(Heap.get?_update_other _ _ i).trans k,q,d,j,l,i,Heap.get?_update_self _ g (Obj.isFreed_of_fields b),b,by simp[c]⟩
end
theorem fM.there{P:Program}{w:World}{H:Hp}{h:Heap}{a:Addr}:∀{o:HO},fM P w H h a o->∃ob,h.get? a=some ob
 |.lst _,⟨_,_,_,_,e⟩=>⟨_,e⟩
 |.tup _,⟨_,_,_,o,e,_⟩=>⟨o,e⟩
 |.dK _,⟨_,_,_,_,o,_,_,e,_⟩=>⟨o,e⟩
 |.dT _,⟨_,_,_,_,o,_,_,e,_⟩=>⟨o,e⟩
 |.set _ _,⟨o,_,_,_,e,_⟩=>⟨o,e⟩
 |.ins _ _ _,⟨_,_,_,e,_⟩=>⟨_,e⟩
 |.own _,e=>e
 |.xd _,⟨_,n,_⟩=>let ⟨o,e,_⟩:=Kq n;⟨o,e⟩
 |.met _ _,e=>⟨_,e⟩
 |.US _ _,⟨_,_,_,e⟩=>⟨_,e⟩
 |.Be o _,⟨e,_⟩=>⟨o,e⟩
 |.ZH _,e=>⟨_,e⟩
 |.ext _,⟨_,e,_⟩=>e
theorem zI.oY{P:Program}{w:World}{H:Hp}{h h':Heap}{F R:List Addr}(ok:zI P w H h)(t:KA F R h h')(c:∀b∈F,H b=none)(d:∀b∈R,H b=none):zI P w H h':=λa o e =>
 (ok a o e).stay (λb u hb q=>t.keep b u (λz=>by
  have:=c b z
  rcases hb with rfl|hb
  ·rw[e] at this;cases this
  ·rw[hb] at this;cases this) (λz=>by
  have:=d b z
  rcases hb with rfl|hb
  ·rw[e] at this;cases this
  ·rw[hb] at this;cases this) q) (λ_ q=>q) λ_ _ q=>q
def Rec(X:Cx)(pins:List (Addr×Obj))(H:Hp)(b:Addr):Prop :=
 H b=none/\b≠X.env.locals/\b∉X.fs/\X.s₀.heap.get? b=none/\(∀x c,X.env.cells.lookup x=some c->c≠b)/\∀p∈X.pn++pins,p.1≠b
section
variable{X:Cx}{pins:List (Addr×Obj)}{σ:St}{H H':Hp}{s:Shared}{h':Heap}
theorem Inv.Yh(I:Inv X pins σ H s)(f:X.ex=[]){b:Addr}(g:H' b=none)(d:s.heap.get? b=none):Rec X pins H' b:=by
 refine⟨g,λz=>?_,λz=>?_,?_,λx c e z=>?_,λp h z=>?_⟩
 ·obtain⟨m,⟨o,_,_,a,_⟩,_⟩:=I.loc
  rw[<- z,d] at a;cases a
 ·obtain⟨_,o,a,_⟩:=I.Dc.mem z
  rw[d] at a;cases a
 ·cases q:X.s₀.heap.get? b with
  |none=>rfl
  |some o =>
   obtain⟨i,e⟩:=I.base.there b o q (by rw[f];simp);rw[d] at e;cases e
 ·obtain⟨v,o,a,_⟩:=I.cell x c e
  rw[z,d] at a;cases a
 ·have:=(I.pin p h).1
  rw[z,d] at this;cases this
theorem Inv.Nj(I:Inv X pins σ H s)(a:X.ex=[]):Rec X pins H s.heap.objs.size:=by
 refine I.Yh a (I.hok.fresh (ay _)) ?_;cases q:s.heap.get? s.heap.objs.size with
 |none=>rfl
 |some o=>exact ee (Heap.lt_size q) (jh _)
theorem Inv.oY{R:List Addr}{t':Nat}(I:Inv X pins σ H s)(B:∀b∈R,Rec X pins H b)(t:KA (frs X.stack) R s.heap h'):Inv X pins σ H {s with heap:=h',toks:=t'}:=by
 have D:∀b∈frs X.stack,H b=none:=λb a=>I.Lv b a;have g:∀b o,b∉R->s.heap.get? b=some o->∃j,h'.get? b=some {o with slots:=j}:=λb o C e=>by
  by_cases a:b∈frs X.stack
  ·exact t.slot b o a C e
  ·exact⟨o.slots,t.keep b o a C e⟩
 have J:∀b o,b≠X.env.locals->b∉X.fs->b∉R->s.heap.get? b=some o->h'.get? b=some o:=λb o T a C e =>
  t.keep b o (λz=>(bx.mp (I.Em b z)).elim T a) C e
 have G:∀b o,X.s₀.heap.get? b=some o->b≠X.env.locals:=λb o e=>bD (bG (Heap.lt_size e) I.ok.above);have h:∀b o,X.s₀.heap.get? b=some o->b∉R:=λb o e z=>by rw[(B b z).2.2.2.1] at e;cases e
 have f:∀x c,X.env.cells.lookup x=some c->∀v,s.heap.IsCell c v->h'.IsCell c v:=λx c e v ⟨o,E,Q⟩=>by
  obtain⟨j,q⟩:=g c o (λz=>(B c z).2.2.2.2.1 x c e rfl) E;exact⟨_,q,Q⟩
 refine⟨I.ok,I.os,I.bare,⟨λb o e n a y=>?_,λb o e n a y=>?_,I.base.free,λb o e y=>?_,I.base.tups,I.base.BD,I.base.C9⟩,?_,λx c e=>?_,I.free,I.uI,λp L=>?_,I.hok.oY t D (λb a=>(B b a).1),I.len⟩
 ·exact J b o (G b o e) a (h b o e) (I.base.keep b o e n a y)
 ·obtain⟨j,A⟩:=I.base.slot b o e n a y
  obtain⟨F,w⟩:=g b _ (h b o e) A;exact⟨F,w⟩
 ·obtain⟨U,A⟩:=I.base.there b o e y
  obtain⟨j,w⟩:=g b _ (h b o e) A;exact⟨_,w⟩
 ·obtain⟨m,⟨o,M,O,E,r⟩,P⟩:=I.loc
  obtain⟨j,q⟩:=g _ o (λz=>(B _ z).2.1 rfl) E;refine⟨m,⟨_,M,O,q,r⟩,λi x v A w S=>?_⟩;obtain⟨u,N,l⟩:=P i x v A w S;refine⟨u,N,?_⟩;rcases l with l|⟨k,c,e,z⟩
  ·exact .inl l
  ·exact .inr ⟨k,c,e,f x c e _ z⟩
 ·obtain⟨v,z⟩:=I.cell x c e
  exact⟨v,f x c e v z⟩
 ·obtain⟨e,n,K,nf,d⟩:=I.pin p L
  exact⟨J p.1 p.2 K nf (λz=>(B p.1 z).2.2.2.2.2 p L rfl) e,n,K,nf,d⟩
end
def XP(X:Cx)(pins:List (Addr×Obj))(σ:St)(E:XK)(e:Value)(s':Shared):Prop :=
 ∃ea T cls H',e=.ref ea/\Inv X pins σ H' s'/\Yg s'.heap ea T cls .none/\Rec X pins H' ea/\Rec X pins H' T/\E cls none H'
def Ei(P:Program)(w:World):SW:=λouter H s E e s' =>
 ∃ea T cls H',e=.ref ea/\s'.os=s.os/\AllBare s'.gens/\Un (frs outer) [] H H' s.heap s'.heap/\zI P w H' s'.heap/\Yg s'.heap ea T cls .none/\s.heap.get? ea=none/\s.heap.get? T=none/\H' ea=none/\H' T=none/\E cls none H'
theorem aef{X:Cx}{a:List (Addr×Obj)}{i:St}{H:Hp}{s s':Shared}{E:XK}{e:Value}(I:Inv X a i H s)(c:X.ex=[])(h:Ei X.prog X.w X.stack H s E e s'):XP X a i E e s':=by
 obtain⟨n,T,g,k,p,os,d,l,f,j,r,o,t,m,q⟩:=h;exact⟨n,T,g,k,p,I.ZJ (ch:=[]) os l f d (λb z=>ee z (-_)),j,I.Yh c t r,I.Yh c m o,q⟩
theorem VL{X:Cx}{a:List (Addr×Obj)}{d:St}{H:Hp}{s:Shared}{R:List Addr}{h':Heap}(I:Inv X a d H s)(c:X.ex=[])(e:∀b∈R,Rec X a H b)(t:KA (frs X.stack) R s.heap h'):Un X.fs [] X.H₀ H X.s₀.heap h':=by
 have:=(I.oY (t':=s.toks) e t).base
 rw[c] at this;exact this
section
variable{P:Program}{w:World}{K:af}{mg:Str->Option Value}{base:Heap}{N:List Str}{qual:Str}{scope:Scope}{f:Addr}{cd:Value}{A:Around}{outer:List Env}{s0:Shared}{H0:Hp}{E:XK}
theorem aeg{a:List (Addr×Obj)}{o:St}{e:Value}{s:Shared}(h:XP (oM (Ei P w) P w K mg base N qual scope f cd A outer s0 H0 E) a o E e s):(oM (Ei P w) P w K mg base N qual scope f cd A outer s0 H0 E).xe e s:=by
 obtain⟨d,T,j,l,rfl,I,r,g,v,q⟩:=h;show wpAny _ _ (leaving _ (.ref d)) _ _ s;unfold leaving;refine wpAny_bind (Tq (base:=base) I.ok.frames I.stack rfl r λB p n=>?_);refine FF p λt x u y=>?_;have i:=I.Nj rfl;have m:∀b∈[d,T,s.heap.objs.size],Rec (oM (Ei P w) P w K mg base N qual scope f cd A outer s0 H0 E) a l b:=by
  intro b k;simp only[bx,List.not_mem_nil,or_false] at k;rcases k with z|z|z
  ·rw[z];exact g
  ·rw[z];exact v
  ·rw[z];exact i
 have c:KA (frs (oM (Ei P w) P w K mg base N qual scope f cd A outer s0 H0 E).stack) [d,T,s.heap.objs.size] s.heap t:=(n.mono (-_)).trans ((u _).mono (-_));have J:=I.oY (t':=s.toks) m c;exact⟨d,_,j,l,rfl,I.os,I.bare,VL I rfl m c,J.hok,x,g.2.2.2.1,i.2.2.2.1,g.1,i.1,q⟩
theorem RE:sP (Ei P w) (oM (Ei P w) P w K mg base N qual scope f cd A outer s0 H0 E) E:=λa c H s e b I h=>aeg (aef I rfl h)
theorem Pk.okX{x qual:Str}{st:Stmt}{f:Addr}{e:FuncData}{N ps:List Str}{k:Nat}{sp:Sp}(F:Pk K x qual st f e)(S:aI N ps (aB st))(d:∀vs H Q E,sp vs H Q E->vs.length=ps.length)
 (b:∀(a:Value) (A:Around) (outer:List Env) (s:Shared) (H:Hp) (vs:List V) (Q:VK) (E:XK),jP k (A.deeper (envOfC qual (aB st) s.heap.objs.size f a))->sp vs H Q E ->
  ∃t,jk (oM (Ei P w) P w K mg base N qual (aB st) f a A outer s H E) (fT st) t/\t {nx:=λ_ h=>Q .fE h,rt:=Q} (start N vs) H):b6 P w K mg base (Ei P w) (k+1) f e ps sp:=by
 obtain⟨o,q,kV,j,p,n,a,m,g,rfl,lk,c⟩:=F.ex;exact Vo lk c S d λA outer s H vs Q E i l=>b a A outer s H vs Q E i l
end
theorem KD{P:Program}{w:World}{X:Cx}:sP (Ei P w) X E0:=λ_ _ _ _ _ _ _ h=>by
 obtain⟨_,_,_,_,_,_,_,_,_,_,_,_,_,_,q⟩:=h;exact q.elim
abbrev aei:List Value:=[.type "ValueError",.type "Exception",.type "BaseException",.type "object"]
structure VM(K:af)(C:Addr):Prop where
 ex:PySem.W.excIn K C aei "ValueError.__new__" = true
 ga:aG K (.ref C) "__getattribute__" = some (some (.builtin "BaseException.__getattribute__"))
 gb:aG K (.ref C) "__getattr__" = some none
 hd:vq K C=true
 ca:aG K (.ref C) "__class__" = some (some (.builtin "object.__class__"))
 cg:PySem.W.specialIn K (.builtin "object.__class__") "__get__" = some (some (.builtin "getset_descriptor.__get__"))
 ct:PySem.W.takesIn K (.builtin "object.__class__")=some true
 mo:PySem.W.mroIn K C (.type "object")=some true
 mb:PySem.W.mroIn K C (.type "BaseException")=some true
theorem Yi{K:af}{h:Heap}{C:Addr}{a:List Value}{l:String}(X:K.In h)(q:PySem.W.excIn K C a l=true) :
 ∃bm N nm e bs d sn c ab col dd k0 k1 k2 k3 k5 i,h.get? C=some (excClassObj nm e C N bs bm d sn c ab col dd k0 k1 k2 k3 k5 l)/\h.Ns N i/\i "__init__" = none/\OwnTail h a bm/\bm.contains (.type "BaseException")=a.contains (.type "BaseException"):=by
 unfold PySem.W.excIn at q;split at q
 ·rename_i dd v g t
  obtain⟨nm,bs,p,o,e,d,sn,c,ab,col,s⟩:=v;obtain⟨g⟩:=g;split at q
  ·rename_i D bm k0 k1 k2 k3 n k5 f k
   simp only[dh,beq_iff_eq,Bool.not_eq_true'] at q;obtain⟨⟨⟨⟨⟨u,r⟩,m⟩,w⟩,b⟩,j⟩:=q;dsimp only at f k m b j;subst u r f k m;have T:=PySem.W.tail_of_in X w;exact⟨bm,o,nm,e,bs,d,sn,c,ab,col,dd,k0,k1,k2,k3,k5,h.nsMap o,X _ _ t,.of_isNs (PySem.W.isNs_of_in X b),PySem.W.nsMap_none_of_in X b j,T,T.hasType rfl⟩
  ·cases q
 ·cases q
section
variable{P:Program}{w:World}{K:af}{mg:Str->Option Value}{base:Heap}{N:List Str}{qual:Str}{scope:Scope}{f:Addr}{cd:Value}{A:Around}{outer:List Env}{s0:Shared}{H0:Hp}{E:XK}
theorem raised{a:List (Addr×Obj)}{k:St}{H:Hp}{s:Shared}{h':Heap}{e C:Addr}{vs:List Value}(I:Inv (oM (Ei P w) P w K mg base N qual scope f cd A outer s0 H0 E) a k H s)(hm:Heap.MadeExcOf s.heap h' e (.ref C) vs)
 (q:E (.ref C) none H):(oM (Ei P w) P w K mg base N qual scope f cd A outer s0 H0 E).xe (.ref e) {s with heap:=h'}:=by
 have h:H e=none:=by
  cases z:H e with
  |none=>rfl
  |some o =>
   obtain⟨y,j⟩:=(I.hok e o z).there;rw[hm.new] at j;cases j
 have g:=I.Yh rfl h hm.new;have c:Inv (oM (Ei P w) P w K mg base N qual scope f cd A outer s0 H0 E) a k H {s with heap:=h'}:=I.kept (t':=s.toks) hm.keeps;obtain⟨t,u,_,_⟩:=hm.there;show wpAny _ _ (leaving _ (.ref e)) _ _ _;unfold leaving;refine wpAny_bind (P8 (base:=base) c.ok.frames c.stack rfl u rfl rfl rfl λD p n=>?_);refine FF p λr x v B=>?_;have i:=c.Nj rfl;have m:∀b∈[e,h'.objs.size],Rec (oM (Ei P w) P w K mg base N qual scope f cd A outer s0 H0 E) a H b:=by
  intro b l;simp only[bx,List.not_mem_nil,or_false] at l;rcases l with z|z
  ·rw[z];exact g
  ·rw[z];exact i
 have d:KA (frs (oM (Ei P w) P w K mg base N qual scope f cd A outer s0 H0 E).stack) [e,h'.objs.size] h' r:=(n.mono (-_)).trans ((v _).mono (-_));have J:=c.oY (t':=s.toks) m d;exact⟨e,_,.ref C,H,rfl,I.os,I.bare,VL c rfl m d,J.hok,x,g.2.2.2.1,i.2.2.2.1,g.1,i.1,q⟩
theorem Dr{x:Str}{C:Addr}{a:Expr}{p b l:Pos}{n:TE}(M:Gl (oM (Ei P w) P w K mg base N qual scope f cd A outer s0 H0 E) x)(r:mg x=some (.ref C))(J:VM K C)(G:A.handled=none)
 (u:PE (oM (Ei P w) P w K mg base N qual scope f cd A outer s0 H0 E) a n) (g:(x==("__debug__" : Str))=false:=by decide)
 (o:backTo b (starEach [a] (oM (Ei P w) P w K mg base N qual scope f cd A outer s0 H0 E).env)=[(false,eval a (oM (Ei P w) P w K mg base N qual scope f cd A outer s0 H0 E).env)]:=by rfl) :
 PS (oM (Ei P w) P w K mg base N qual scope f cd A outer s0 H0 E) (.Raise (some (.Call (.Name x p) [a] [] b)) none l) (λ_ i H=>n i H λ_ m=>E (.ref C) none m):=by
 intro c s i H D I h;obtain⟨bm,Q,nm,S,bs,R,sn,L,ab,col,dd,k0,k1,k2,k3,k5,U,t,B,k,T,z⟩:=Yi I.ok.mod.g4 J.ex;refine wpAny_Raise_call_subT (C:=C) (nm:=nm) (q:=S) (N:=Q) (bs:=bs) (bm:=bm) (hdct:=R) (sn:=sn) (sub:=L) (ab:=ab) (col:=col) (dd:=dd) (k0:=k0) (k1:=k1) (k2:=k2) (k3:=k3) (k5:=k5) PySem.F.excBase_ValueError (by rw[z];decide) G (by rw[o];rfl) k (De I M r ⟨rfl,?_⟩ g);rw[o];refine Calls.evalArgs_plain (Calls.spliced_cons (gW (u c s i H _ I h) λv X ⟨y,m,d,V,O⟩=>Calls.spliced_nil ?_));exact⟨rfl,by show 1<=sizeLine;decide,d.bk _ _ t,B.keeps d.bk,T.keeps d.bk,λW e j=>raised d j O⟩
end
end L2
namespace RM
structure Row where
 hd:Int
 co:Int
 ho:Int
 by_:Int
deriving DecidableEq
theorem Row.ext'{r s:Row}(d:r.hd=s.hd)(a:r.co=s.co)(b:r.ho=s.ho)(c:r.by_=s.by_):r=s:=by
 cases r;cases s;simp_all
def lt(r s:Row):Prop:=r.hd<s.hd∨(r.hd=s.hd/\(r.co<s.co∨(r.co=s.co/\(r.ho<s.ho∨(r.ho=s.ho/\r.by_<s.by_)))))
instance (r s:Row):Decidable (lt r s):=by unfold lt;infer_instance
def le(r s:Row):Prop:=¬lt s r
instance (r s:Row):Decidable (le r s):=by unfold le;infer_instance
theorem le_refl(r:Row):le r r:=by unfold le lt;lia
theorem abp{a b c:Int}{l j k:Prop}(h:¬l->¬j->¬k)(f:¬(b<a∨(b=a/\l)))(d:¬(c<b∨(c=b/\j))):¬(c<a∨(c=a/\k)):=by
 have i:a<=b:=Int.not_lt.mp λy=>f (.inl y);have g:b<=c:=Int.not_lt.mp λy=>d (.inl y);intro z;rcases z with z|⟨z,n⟩
 ·exact Int.not_lt.mpr (rL i g) z
 ·subst z
  have e:=Int.le_antisymm i g;subst e;exact h (λy=>f (.inr ⟨rfl,y⟩)) (λy=>d (.inr ⟨rfl,y⟩)) n
theorem le_trans{r s t:Row}(d:le r s)(c:le s t):le r t :=
 abp (abp (abp λa b=>Int.not_lt.mpr (rL (Int.not_lt.mp a) (Int.not_lt.mp b)))) d c
theorem ZZ{r s:Row}(h:lt r s):le r s:=by unfold le lt at *;lia
structure Net where
 n:Nat
 nm:Nat->Int
 a:Nat->Nat
 b:Nat->Nat
 c:Nat->Int
 live:List Nat
 inj:∀i j,i<n->j<n->nm i=nm j->i=j
 ab:∀k∈live,a k<n/\b k<n/\a k≠b k
 c1:∀k∈live,1<=c k
section
variable(N:Net)
def GX(k h g:Nat):Prop:=k∈N.live/\((N.a k=h/\N.b k=g)∨(N.b k=h/\N.a k=g))
noncomputable def own(h:Nat):Row:=⟨N.nm h,0,0,-1⟩
noncomputable def over(k:Nat)(r:Row):Row:=⟨r.hd,r.co+N.c k,r.ho+1,k⟩
end
variable{N:Net}
theorem GX.symm{k h g:Nat}(e:GX N k h g):GX N k g h:=⟨e.1,e.2.elim (λz=>.inr ⟨z.2,z.1⟩) λz=>.inl ⟨z.2,z.1⟩⟩
theorem GX.lt{k h g:Nat}(e:GX N k h g):h<N.n/\g<N.n/\h≠g:=by
 obtain⟨d,e⟩:=e;obtain⟨c,a,b⟩:=N.ab k d;rcases e with ⟨rfl,rfl⟩|⟨rfl,rfl⟩
 ·exact⟨c,a,b⟩
 ·exact⟨a,c,bP b⟩
theorem GX.cost{k h g:Nat}(e:GX N k h g):1<=N.c k:=N.c1 k e.1
structure VN(cut:Int)(R:Nat->Row)(h:Nat)(d:Row):Prop where
 one:d=own N h∨∃k g,GX N k h g/\(R g).ho+1<cut/\d=over N k (R g)
 own:le d (RM.own N h)
 all:∀k g,GX N k h g->(R g).ho+1<cut->le d (over N k (R g))
def Sane(N:Net)(R:Nat->Row):Prop:=∀h,h<N.n->0<=(R h).ho/\(R h).ho<N.n
noncomputable def upd(R:Nat->Row)(h:Nat)(d:Row):Nat->Row:=λx=>if x=h then d else R x
structure oN(N:Net)(R:Nat->Row)(k h g:Nat):Prop where
 Bg:GX N k h g
 cut:(R g).ho+1<N.n
 eq:R h=over N k (R g)
theorem GX.far{k h g g':Nat}(a:GX N k h g)(b:GX N k h g'):g=g':=by
 obtain⟨c,e⟩:=a;obtain⟨_,d⟩:=b
 have:=(N.ab k c).2.2
 lia
section
variable{R:Nat->Row}{k h g:Nat}
theorem oN.ho(t:oN N R k h g):(R h).ho=(R g).ho+1:=by rw[t.eq];rfl
theorem oN.by(t:oN N R k h g):(R h).by_=k:=by rw[t.eq];rfl
theorem oN.uniq{a g':Nat}(t:oN N R k h g)(u:oN N R a h g'):k=a/\g=g':=by
 have c:=t.by;have b:=u.by;have e:k=a:=∅
 subst e;exact⟨rfl,t.Bg.far u.Bg⟩
theorem oN.one{h' g':Nat}(t:oN N R k h g)(u:oN N R k h' g'):h=h'/\g=g':=by
 obtain⟨i,e⟩:=t.Bg;obtain⟨_,c⟩:=u.Bg;have f:=t.ho;have d:=u.ho;have a:h=h'∨(h=g'/\g=h'):=by
  rcases e with ⟨rfl,rfl⟩|⟨rfl,rfl⟩ <;> rcases c with ⟨rfl,rfl⟩|⟨rfl,rfl⟩ <;> simp
 rcases a with a|⟨a,b⟩
 ·subst a
  exact⟨rfl,t.Bg.far u.Bg⟩
 ·subst a b
  lia
end
end RM
namespace RM
variable{N:Net}
end RM
namespace L2
open PySem PySem.Spec PyProof.Rows
inductive Nk:List Value->List Value->Bool->Prop
 |nil:Nk [] [] false
 |ne {a c:Int} {t u:Tok} {vs ws:List Value} (h:a≠c):Nk (.int a t::vs) (.int c u::ws) (decide (a<c))
 |eq {a:Int} {t u:Tok} {vs ws:List Value} {r:Bool} (h:Nk vs ws r):Nk (.int a t::vs) (.int a u::ws) r
section
open PySem.SeqAt
open PySem.AutoSeq1 (wpAny_loadPart')
open PySem.MeetsSeq PySem.MeetsSeq2 PySem.MeetsSeq3
theorem P9(l b:Addr)(items f:Array Value)(n M:Nat)(dd C:Option Addr)(H B:Array (Option Value))(r:Bool)(J:Nk items.toList f.toList r)(hsz:items.size=f.size) :
 Meets (Builtin.«tuple.__lt__» ⟨[.ref l,.ref b],[]⟩)
  (λ_ R s=>s.heap.get? l=some {cls:=.type "tuple",dict:=dd,data:=.seq items n,slots:=H}/\s.heap.get? b=some {cls:=.type "tuple",dict:=C,data:=.seq f M,slots:=B} /\
   R (.ok (.ret (.bool r))) s) :=
 .of_wp λj w A R s h=>by
  obtain⟨v,g,d,z,os⟩:=s;obtain⟨K,I,h⟩:=h;have S:=AutoSeq1.sub_tuple_tuple
  wp_walk using wpAny_loadPart' K,wpAny_loadPart' I,wpAny_forIn_list _ (λrest b F=>b.1=none/\F=⟨v,g,d,z,os⟩/\∃(q p:List Value),rest=q.zip p/\Nk q p r) _
  case turn =>
   rintro⟨y,x⟩ rest b F ⟨m,rfl,q,p,k,o⟩;cases o with
   |nil=>rw[List.zip_nil_left] at k;cases k
   |@ne a c t u q p D =>
    rw[List.zip_cons_cons] at k;injection k with hyx hrest
    injection hyx with hy o
    subst hy o;obtain⟨e,E,i⟩:=HT.M8 A.in1 ⟨v,g,d,z,os⟩ a t c u;refine wpAny_bind (E j w _ _ ?_);cases e with
    |true=>exact ee (i.mp rfl) D
    |false =>
     have N:=HT.Vp A.in1 ⟨v,g,d,z,os⟩ a t c u j w
     wp_walk using N
     exact⟨_,rfl,by simpa using h⟩
   |@eq a t u q p O G =>
    rw[List.zip_cons_cons] at k;injection k with hyx hrest
    injection hyx with hy o
    subst hy o;obtain⟨e,E,i⟩:=HT.M8 A.in1 ⟨v,g,d,z,os⟩ a t a u;refine wpAny_bind (E j w _ _ ?_);cases e with
    |true =>
     wp_walk
     exact⟨rfl,rfl,_,_,hrest,G⟩
    |false=>exact ee (i.mpr rfl) aC
  case fin =>
   rintro⟨Q,P⟩ F ⟨m,rfl,q,p,k,o⟩;simp only at m;subst m;cases o with
   |nil =>
    have L:decide (items.size<f.size)=false:=eL ∅;rw[<- L] at h
    wp_walk
    exact⟨_,rfl,by simpa [Builtin.Tuple.tupleCompareSizes] using h⟩
   |ne=>rw[List.zip_cons_cons] at k;cases k
   |eq=>rw[List.zip_cons_cons] at k;cases k
  case h =>
   exact⟨rfl,rfl,items.toList,f.toList,rfl,J⟩
end
theorem Yj{prog:Program}{w:World}{A:Around}{E:Value->Shared->Prop}{s:Shared}{l b:Addr}{items a:Array Value}{r:Bool}{Q:Value->Shared->Prop}(hl:IsTup s.heap l items)(p:IsTup s.heap b a)(t:Nk items.toList a.toList r)(hsz:items.size=a.size)
 (q:A.units<cLine) (h:Q (.bool r) s):wpAny (model prog w) A (compareOp .Lt (.ref l) (.ref b)) Q E s:=by
 obtain⟨⟨z,v,j,o⟩,i,m,n,k⟩:=id hl;obtain⟨⟨u,g,data2,f⟩,e,c,y,d⟩:=id p;simp only at m k c d;subst m k c d;exact richCompare_meets_room (op:=.Lt) ⟨_,i,rfl⟩ ⟨_,e,rfl⟩ PySem.F.slot_tuple_lt PySem.F.entry_tuple_lt (PySem.F.args_tuple_lt_2 _ _) (P9 l b items a n y v g o f r t hsz)
  ⟨i,e,show Value.bool r≠Value.notImplemented/\Q (.bool r) s from ⟨(λx=>nomatch x),h⟩⟩ q
inductive Ht:List V->List V->Bool->Prop
 |nil:Ht [] [] false
 |ne {a c:Int} {vs ws:List V} (h:a≠c):Ht (.int a::vs) (.int c::ws) (decide (a<c))
 |eq {a:Int} {vs ws:List V} {r:Bool} (h:Ht vs ws r):Ht (.int a::vs) (.int a::ws) r
theorem Ht.vals{vs ws:List V}{r:Bool}(h:Ht vs ws r):∀{us a:List Value},bX vs us->bX ws a->Nk us a r:=by
 induction h with
 |nil=>intro us a b c;cases b;cases c;exact .nil
 |ne h =>
  intro us a b c;cases b with
  |cons d _ =>
   cases c with
   |cons e _ =>
    obtain⟨t,rfl⟩:=d;obtain⟨u,rfl⟩:=e;exact .ne h
 |eq _ i =>
  intro us a b c;cases b with
  |cons d f =>
   cases c with
   |cons e g =>
    obtain⟨t,rfl⟩:=d;obtain⟨u,rfl⟩:=e;exact .eq (i f g)
section
variable{X:Cx}
def ahB(K:af):R2:=λx y H Q=>∃a b xs ys r,x=.ref a/\y=.ref b/\cW K H a xs/\cW K H b ys/\xs.length=ys.length/\Ht xs ys r/\Q (.bl r) H
theorem abq(m:X.A.units<cLine):wN X (compareOp .Lt) (ahB X.K):=by
 intro e s z H x y v u Q I g k h;obtain⟨a,b,w,B,r,rfl,rfl,i,l,o,n,q⟩:=h;cases g;cases k;obtain⟨j,d,p,_⟩:=I.tuple i;obtain⟨c,f,t,_⟩:=I.tuple l;exact Yj p t (n.vals d f) (by rw[aL,aL,<- d.length,<- f.length];exact o) m ⟨.bl r,H,I,rfl,q⟩
end
end L2
namespace RM
open PySem L2
noncomputable def lJ(b:Int):V:=if b<0 then .fE else .int b
noncomputable abbrev c5(r:Row):List V:=[.int r.hd,.int r.co,.int r.ho,lJ r.by_]
theorem bu{b:Int}(h:b<0):lJ b=.fE:=b3 h
theorem be{b:Int}(h:0<=b):lJ b=.int b:=b5 ∅
end RM
namespace L2
open PySem PySem.Spec PyProof.Rows
end L2
namespace L2
open PySem PySem.Spec PyProof.Rows RM
end L2
namespace L2
open PySem PySem.Spec PyProof.Rows
section
variable{X:Cx}
def ahC(K:af):R2:=λx y H Q=>∃da db,Rep K H da x/\Rep K H db y/\da.canLay0=true/\db.canLay0=true/\da.depth<=64/\Q (.bl (PyData.eqv da db)) H
theorem Yk(K:af)(k:X.K=K)(h:X.A.units+64<cLine):wN X (compareOp .Eq) (ahC K):=by
 subst k;intro a s c H x y v u Q I b e ⟨j,m,d,g,l,f,i,q⟩;exact zT a s c H x y v u Q I b e ⟨j,m,d,g,l,f,bH (bW (aJ (eU _ _) i) _) h,q⟩
end
end L2
namespace RM
open PySem L2
noncomputable def UE(b:Int):PyData:=if b<0 then .none else .int b
noncomputable def uG(r:Row):PyData:=.tuple [.int r.hd,.int r.co,.int r.ho,UE r.by_]
theorem Yl{K:af}{H:Hp}(b:Int):Rep K H (UE b) (lJ b):=by
 unfold UE lJ;by_cases h:b<0
 ·rw[b3 h,b3 h];rfl
 ·rw[b5 h,b5 h];rfl
theorem wR{K:af}{H:Hp}{p:Addr}{r:Row}(h:cW K H p (c5 r)):Rep K H (uG r) (.ref p) :=
 ⟨p,_,rfl,h,_,_,rfl,rfl,_,_,rfl,rfl,_,_,rfl,rfl,_,_,rfl,Yl _,rfl⟩
theorem wU(r:Row):(uG r).canLay0=true:=by
 show (true&&(true&&(true&&((UE r.by_).canLay0&&true))))=true;unfold UE;split <;> rfl
theorem Et(r:Row):(uG r).depth=1:=by
 show max 0 (max 0 (max 0 (max (UE r.by_).depth 0)))+1=1;unfold UE;split <;> rfl
theorem Nl{r s:Row}(i:-1<=r.by_)(g:-1<=s.by_):PyData.eqv (uG r) (uG s)=decide (r=s):=by
 have e:PyData.eqv (uG r) (uG s)=((r.hd==s.hd)&&((r.co==s.co)&&((r.ho==s.ho)&&(PyData.eqv (UE r.by_) (UE s.by_)&&true)))):=rfl;rw[e];have d:PyData.eqv (UE r.by_) (UE s.by_)=decide (r.by_=s.by_):=by
  unfold UE;by_cases c:r.by_<0 <;> by_cases a:s.by_<0
  ·rw[b3 c,b3 a]
   exact (eH ∅).symm
  ·rw[b3 c,b5 a]
   exact (eL ∅).symm
  ·rw[b5 c,b3 a]
   exact (eL ∅).symm
  ·rw[b5 c,b5 a]
   show (r.by_==s.by_)=_;by_cases b:r.by_=s.by_
   ·rw[eH b,b];exact beq_self_eq_true _
   ·rw[eL b];exact beq_eq_false_iff_ne.mpr b
 rw[d];by_cases h:r=s
 ·subst h
  simp
 ·rw[eL h]
  have:¬(r.hd=s.hd/\r.co=s.co/\r.ho=s.ho/\r.by_=s.by_):=λz=>h (Row.ext' z.1 z.2.1 z.2.2.1 z.2.2.2)
  simp only[Bool.and_true];by_cases c:r.hd=s.hd
  ·by_cases a:r.co=s.co
   ·by_cases b:r.ho=s.ho
    ·have f:¬r.by_=s.by_:=λz=>this ⟨c,a,b,z⟩
     simp[f]
    ·simp[b]
   ·simp[a]
  ·simp[c]
noncomputable def Hu(n:Nat)(R:Nat->Row):PyData:=.list ((au n).map λi=>uG (R i))
theorem FG{K:af}{H:Hp}:∀{ps:List Addr} {rs:List Row},ps.length=rs.length->(∀(i:Nat) p r,ps[i]?=some p->rs[i]?=some r->cW K H p (c5 r))->cH K H (rs.map uG) (ps.map V.ref)
 |[],[],_,_=>rfl
 |p::ps,r::rs,e,h=>⟨_,_,rfl,wR (h 0 p r rfl rfl),FG (by simpa using e) λi c d a b=>h (i+1) c d a b⟩
 |[],_::_,e,_=>by simp at e
 |_::_,[],e,_=>by simp at e
theorem Tt(n:Nat)(R:Nat->Row):(Hu n R).canLay0=true:=by
 show PyData.canLayAll0 ((au n).map λi=>uG (R i))=true;induction (au n) with
 |nil=>rfl
 |cons x a b =>
  show ((uG (R x)).canLay0&&PyData.canLayAll0 (a.map λi=>uG (R i)))=true;rw[wU,b];rfl
theorem Qa(n:Nat)(R:Nat->Row):(Hu n R).depth<=2:=by
 show PyData.depthAll ((au n).map λi=>uG (R i))+1<=2
 have:PyData.depthAll ((au n).map λi=>uG (R i))<=1:=by
  induction (au n) with
  |nil=>exact (by decide:(0:Nat)<=1)
  |cons x a b =>
   show max (uG (R x)).depth (PyData.depthAll (a.map λi=>uG (R i)))<=1;rw[Et];lia
 lia
end RM
namespace L2
open PySem PySem.Spec PyProof.Rows
end L2
namespace RM
open PySem L2
theorem Ym{r s:Row}(h:r.hd=s.hd->r.co=s.co->r.ho=s.ho->¬lt r s):Ht [.int r.hd,.int r.co,.int r.ho] [.int s.hd,.int s.co,.int s.ho] (decide (lt r s)):=by
 obtain⟨n,m,j,o⟩:=r;obtain⟨k,i,l,p⟩:=s;dsimp only at h;have a:∀{b g:Bool} {vs ws},Ht vs ws b->b=g->Ht vs ws g:=λh e=>e▸h;by_cases f:n=k
 ·subst f
  by_cases c:m=i
  ·subst c
   by_cases d:j=l
   ·subst d
    exact a (.eq (.eq (.eq .nil))) (eL (h rfl rfl rfl)).symm
   ·exact a (.eq (.eq (.ne d))) (by unfold lt;simp[d])
  ·exact a (.eq (.ne c)) (by unfold lt;simp[c])
 ·exact a (.ne f) (by unfold lt;simp[f])
end RM
namespace L2
open PySem PySem.Spec PyProof.Rows
section
variable{X:Cx}
theorem Tu:wN X (compareOp .IsNot) (λx y H Q=>∃a b:Bool,x=.bl a/\y=.bl b/\Q (.bl (!decide (a=b))) H):=by
 intro c s f H x y v u Q I d e h;obtain⟨a,b,rfl,rfl,q⟩:=h;cases d;cases e;exact wpAny_isNot_plain rfl (dG I q (by cases a <;> cases b <;> rfl))
end
end L2
set_option maxHeartbeats 4000000
namespace TW
open PySem L2 PyProof.Rows
open RM (c5 lJ bu be)
seal L2.PE L2.PA L2.PT L2.PW L2.PS L2.jk L2.PG L2.m6 L2.PI L2.m9
structure VO(n:Int)(a b c d e:Int):Prop where
 a0:0<=a
 a1:a<n
 b0:0<=b
 b1:b<n
 ab:a≠b
 c1:1<=c
 d1:1<=d
 d4:d<=4
 e1:1<=e
 e7:e<=7
noncomputable abbrev aej(a b c d e:Int):List V:=[.int a,.int b,.int c,.int d,.int e]
structure R5 where
 a:Int
 b:Int
 c:Int
 d:Int
 e:Int
noncomputable abbrev R5.vs(r:R5):List V:=aej r.a r.b r.c r.d r.e
noncomputable abbrev R5.ns(r:R5):List Int:=[r.a,r.b,r.c,r.d,r.e]
noncomputable def R5.D(r:R5):PyData:=.tuple (r.ns.map .int)
abbrev R5.Ok(n:Int)(r:R5):Prop:=VO n r.a r.b r.c r.d r.e
def Hv(K:af)(H:Hp)(l:Addr)(rs:List R5):Prop:=Rep K H (.list (rs.map R5.D)) (.ref l)
section
variable{K:af}{H H':Hp}{l:Addr}{rs:List R5}
theorem Hv.mono(s:aD H H')(h:Hv K H l rs):Hv K H' l rs:=Rep.mono s h
theorem Hv.at(h:Hv K H l rs):∃vs,bK K H l vs/\vs.length=rs.length/\∀(i:Nat) r,rs[i]?=some r->∃p,vs[i]?=some (.ref p)/\cW K H p r.vs:=by
 obtain⟨a,vs,e,q,r⟩:=h;cases e;refine⟨vs,q,by rw[r.length,ah],λi x g=>?_⟩;obtain⟨v,c,b⟩:=r.get (i:=i) (d:=x.D) (by rw[aj,g];rfl);obtain⟨p,e,f⟩:=Rep.zS (ns:=x.ns) b;subst e;exact⟨p,c,f⟩
end
theorem Hw:∀(ns:List Int),ns.Nodup->(firstMet (λi=>ns.getD i 0) ns.length).length=ns.length:=by
 intro ns l;have e:(au ns.length).map (λi=>ns.getD i 0)=ns:=by
  apply xR
  ·simp
  ·intro i d m
   simp at d;simp[aq,d]
 have c:∀(b a:List Int),(a++b).Nodup->b.foldl step_dedup a=a++b:=by
  intro b;induction b with
  |nil=>intro a _;simp
  |cons x b j =>
   intro a h;have g:x∉a:=λf=>by
    rw[jM] at h;exact h.2.2 x f x (-_) rfl
   have k:step_dedup a x=a++[x]:=by
    unfold step_dedup;simp[g]
   rw[mY,k,j _ (by simpa using h)];simp
 unfold firstMet;rw[e,c ns [] (by simpa using l)];simp
theorem dD{f:Str}{v:V}:∀{a:List (Str×V)} {names:List Str},a.map (·.1)=names->names.contains f=false->zB f v a=a++[(f,v)]
 |[],_,_,_=>rfl
 | (g,u)::r,_,e,h=>by
  subst e;rw[bT,List.contains_cons,Bool.or_eq_false_iff] at h;have b:¬g=f:=λz=>by
   have:=h.1
   rw[z] at this;simp at this
  show (if g=f then (g,v)::r else (g,u)::zB f v r)=_;rw[b5 b,dD rfl h.2];rfl
theorem Bh{K:af}{H d:Hp}{p C f:Addr}{e:List (Str×V)}{a:Addr}{xs:List V}(k:∀b o,H b=some o->b≠p->d b=some o)(c:H p=some (.ins C f e))(h:bK K H a xs):bK K d a xs:=by
 rcases h with (h|⟨o,h⟩)|h
 ·exact .inl (.inl (k _ _ h (m5 h c (by intro z;cases z))))
 ·exact .inl (.inr ⟨o,k _ _ h (m5 h c (by intro z;cases z))⟩)
 ·exact .inr h
theorem Yn{K:af}{H d:Hp}{p C f:Addr}{e:List (Str×V)}{a:Addr}{xs:List V}(k:∀b o,H b=some o->b≠p->d b=some o)(c:H p=some (.ins C f e))(h:cW K H a xs):cW K d a xs:=by
 rcases h with (h|⟨o,h⟩)|h
 ·exact .inl (.inl (k _ _ h (m5 h c (by intro z;cases z))))
 ·exact .inl (.inr ⟨o,k _ _ h (m5 h c (by intro z;cases z))⟩)
 ·exact .inr h
mutual
theorem Yo{K:af}{H f:Hp}{p C i:Addr}{g:List (Str×V)}(k:∀b o,H b=some o->b≠p->f b=some o)(c:H p=some (.ins C i g)):∀{d:PyData} {v:V},Rep K H d v->Rep K f d v
 |.none,_,h=>h
 |.bool _,_,h=>h
 |.int _,_,h=>h
 |.str _,_,h=>h
 |.list ds,_,⟨a,vs,e,q,r⟩=>⟨a,vs,e,Bh k c q,jS k c r⟩
 |.tuple ds,_,⟨a,vs,e,q,r⟩=>⟨a,vs,e,Yn k c q,jS k c r⟩
 |.dict _,_,h=>h
theorem jS{K:af}{H a:Hp}{p C f:Addr}{d:List (Str×V)}(k:∀b o,H b=some o->b≠p->a b=some o)(c:H p=some (.ins C f d)):∀{ds:List PyData} {vs:List V},cH K H ds vs->cH K a ds vs
 |[],_,h=>h
 |_::_,_,⟨v,r,e,q,t⟩=>⟨v,r,e,Yo k c q,jS k c t⟩
end
noncomputable abbrev ahD(ln lr:Addr)(n m:Nat):List (Str×V):=[("house_names",.ref ln),("rope_tuples",.ref lr),("size",.int n),("many",.int m)]
structure cY(K:af)(C:Addr)(H:Hp)(p ln lr:Addr)(ns:List Int)(rs:List R5):Prop where
 ob:∃dx,H p=some (.ins C dx (ahD ln lr ns.length rs.length))
 nl:H ln=some (.lst (ns.map V.int))
 rl:∃vs,H lr=some (.lst vs)/\cH K H (rs.map R5.D) vs
section
variable{K:af}{C:Addr}{H H':Hp}{p ln lr:Addr}{ns:List Int}{rs:List R5}
theorem cY.mono(s:aD H H')(h:cY K C H p ln lr ns rs):cY K C H' p ln lr ns rs:=by
 obtain⟨⟨d,f⟩,a,b,c,e⟩:=h;exact⟨⟨d,s _ _ f⟩,s _ _ a,b,s _ _ c,e.mono s⟩
end
theorem LN(a x:Int):S2 (.int a) (.int x)=decide (x=a):=by
 show (a==x)=decide (x=a);by_cases e:x=a
 ·rw[eH e,e];exact beq_self_eq_true a
 ·rw[eL e];exact beq_eq_false_iff_ne.mpr (bP e)
theorem sQ(x:Int)(xs:List Int):Gs (.int x) (xs.map V.int)=decide (x∈xs):=by
 unfold Gs;induction xs with
 |nil=>simp
 |cons y d c =>
  rw[bT,List.any_cons,c,LN];by_cases a:x=y
  ·subst a;simp
  ·by_cases b:x∈d
   ·simp[a,b]
   ·simp[a,b]
theorem sH(xs:List Int):(xs.map V.int).all zN=true:=by
 rw[List.all_eq_true];intro v a;obtain⟨x,_,rfl⟩:=aS.mp a;rfl
noncomputable def above(xs:List Int)(x:Int):Nat:=(xs.filter λy=>decide (x<=y)).length
theorem VP{xs:List Int}{x:Int}(h:x∈xs):above xs (x+1)<above xs x:=by
 unfold above;induction xs with
 |nil=>cases h
 |cons y c g =>
  have f:(c.filter λy=>decide (x+1<=y)).length<=(c.filter λy=>decide (x<=y)).length:=by
   clear g h;induction c with
   |nil=>simp
   |cons z j a =>
    simp only[dg];by_cases b:x+1<=z
    ·rw[b3 (by simpa using b),b3 (by simp;lia)];simp;exact a
    ·rw[b5 (by simpa using b)]
     split
     ·simp;lia
     ·exact a
  simp only[dg];by_cases d:x=y
  ·subst d
   rw[b5 (by simp;lia),b3 (-_)];simp;lia
  ·have i:x∈c:=by
    rcases bx.mp h with e|e
    ·exact ee e d
    ·exact e
   have:=g i
   by_cases b:x+1<=y
   ·rw[b3 (by simpa using b),b3 (by simp;lia)];simp;exact this
   ·rw[b5 (by simpa using b),b5 (by simp;lia)];exact this
theorem Yp{n x y:Int}(j:2<=n):0<=x%n/\x%n<n/\0<=(x%n+1+y%(n-1))%n/\(x%n+1+y%(n-1))%n<n/\x%n≠(x%n+1+y%(n-1))%n:=by
 have g:=bQ x (show n≠0 by lia);have d:=bV x (show 0<n by lia);have h:=bQ y (show n-1≠0 by lia);have i:=bV y (show 0<n-1 by lia);have e:=bQ (x%n+1+y%(n-1)) (show n≠0 by lia);have f:=bV (x%n+1+y%(n-1)) (show 0<n by lia);refine⟨g,d,e,f,?_⟩;generalize x%n=a at *;generalize y%(n-1)=b at *;by_cases c:a+1+b<n
 ·rw[Int.emod_eq_of_lt ∅ c];lia
 ·rw[<- Int.sub_emod_right,Int.emod_eq_of_lt ∅ ∅];lia
theorem abr{c:TT}{t u r:TS}{D:Ends}{a:L2.St}{H:Hp}(J:L2.St->Hp->Prop)(b:∀a H,J a H->r D a H)(h:(∀a H,J a H->r D a H)->U0 c t u {D with nx:=r D} a H):UY (U0 c t u) r D a H:=h b
theorem Qc{K:af}{a:Addr}{xs:List V}{b:Hp}(h:cW K b a xs):∀i H,i<xs.length->aD b H->(UQ K a).go i H:=λi H c s=>⟨xs,xs[i],s.dw h,by simp[c]⟩
theorem Hy{K:af}{a:Addr}{xs:List V}{b:Hp}(h:cW K b a xs):∀H,aD b H->(UQ K a).stop xs.length H:=λH s=>⟨xs,s.dw h,ay _⟩
structure Eu(n m:Nat)(r:RM.Row):Prop where
 hd:0<=r.hd
 co:0<=r.co
 ho:0<=r.ho/\r.ho<n
 by_:r.by_=-1∨(0<=r.by_/\r.by_<m)
noncomputable abbrev bC(ks:List Nat):List V:=ks.map λk=>V.int (k:Nat)
theorem gE(a:List Nat)(k:Nat):bC (a++[k])=bC a++[V.int (k:Nat)]:=by
 unfold bC;rw[aO];rfl
theorem Yq{K:af}{H:Hp}{q a:Addr}{xs c:List V}{o:HO}(b:H q=some (.lst xs))(h:cW K H a c):cW K (upd H q o) a c:=by
 rcases h with (h|⟨d,h⟩)|h
 ·exact .inl (.inl (by rw[aF (m5 h b (by intro z;cases z))];exact h))
 ·exact .inl (.inr ⟨d,by rw[aF (m5 h b (by intro z;cases z))];exact h⟩)
 ·exact .inr h
noncomputable def aQ(ns:List Int)(rs:List R5)(live:List Nat)(nd:ns.Nodup)(ok:∀r∈rs,r.Ok ns.length)(hl:∀k∈live,k<rs.length):RM.Net where
 n:=ns.length
 nm i:=ns.getD i 0
 a k:=((rs[k]?).map λr=>r.a.toNat).getD 0
 b k:=((rs[k]?).map λr=>r.b.toNat).getD 0
 c k:=((rs[k]?).map λr=>r.c).getD 0
 live:=live
 inj i j hi hj e:=by
  have e1:ns.getD i 0=ns[i]:=by simp[aq,hi]
  have e2:ns.getD j 0=ns[j]:=by simp[aq,hj]
  have e:ns[i]=ns[j]:=by rw[<- e1,<- e2];exact e
  exact (List.getElem?_inj hi nd).mp (by rw[aa hi,aa hj,e])
 ab k hk:=by
  have h:=hl k hk;have o:=ok _ (aK h);simp only[aa h,Option.map_some,Option.getD_some];have h1:=o.a0;have h2:=o.a1;have h3:=o.b0;have h4:=o.b1;have h5:=o.ab;exact⟨∅,∅,∅⟩
 c1 k hk:=by
  have h:=hl k hk;have o:=ok _ (aK h);simp only[aa h,Option.map_some,Option.getD_some];exact o.c1
def sR(K:af)(H:Hp)(l:Addr)(n:Nat)(R:Nat->RM.Row):Prop:=∃ps:List Addr,bK K H l (ps.map V.ref)/\ps.length=n/\∀(i:Nat) p,ps[i]?=some p->cW K H p (c5 (R i))
theorem sR.mono{K:af}{H a:Hp}{l:Addr}{n:Nat}{R:Nat->RM.Row}(s:aD H a)(h:sR K H l n R):sR K a l n R:=by
 obtain⟨d,f,b,c⟩:=h;exact⟨d,s.seq f,b,λi p e=>s.dw (c i p e)⟩
theorem jm:∀ns:List Int,PyData.canLayAll0 (ns.map .int)=true
 |[]=>rfl
 |n::ns=>by
  show (PyData.canLay0 (.int n)&&PyData.canLayAll0 (ns.map .int))=true;rw[jm ns];rfl
theorem oO:∀ns:List Int,PyData.depthAll (ns.map .int)=0
 |[]=>rfl
 |n::ns=>by
  show max (PyData.depth (.int n)) (PyData.depthAll (ns.map .int))=0;rw[oO ns];rfl
theorem Nm(xs:List V)(i:Nat):Dk xs (some (i:Int)) none=xs.drop i:=by
 unfold Dk;rw[HT.GU];show (xs.drop (min i xs.length)).take (xs.length-min i xs.length)=_;by_cases h:i<=xs.length
 ·rw[Nat.min_eq_left h,eO (by rw[qD];exact ay _)]
 ·rw[Nat.min_eq_right ∅,iV (ay _),iV ∅]
  simp
section
variable{ns:List Int}{rs:List R5}{live:List Nat}{nd:ns.Nodup}{ok:∀r∈rs,r.Ok ns.length}{hl:∀k∈live,k<rs.length}
def xW(n m:Nat)(R:Nat->RM.Row):Prop:=∀i,i<n->Eu n m (R i)
theorem xW.abt{m:Nat}{R:Nat->RM.Row}(h:xW ns.length m R):RM.Sane (aQ ns rs live nd ok hl) R:=λi a=>(h i a).ho
theorem Yr{R:Nat->RM.Row}{h:Nat}{d:RM.Row}(m:xW ns.length rs.length R)(b:h<ns.length)(l:∀x∈ns,0<=x)(i:RM.VN (N:=aQ ns rs live nd ok hl) ns.length R h d):Eu ns.length rs.length d:=by
 rcases i.one with e|⟨k,g,a,c,e⟩
 ·rw[e]
  have j:(aQ ns rs live nd ok hl).nm h=ns[h]:=by show ns.getD h 0=_;simp[aq,b]
  refine⟨?_,jA _,⟨jA _,?_⟩,.inl rfl⟩
  ·show 0<=(aQ ns rs live nd ok hl).nm h
   rw[j];exact l _ (aK b)
  ·show (0:Int)<ns.length
   lia
 ·have f:=m g a.lt.2.1
  have o:=a.cost;have n:k<rs.length:=hl k a.1;rw[e];refine⟨f.hd,?_,⟨?_,c⟩,.inr ⟨?_,?_⟩⟩
  ·show 0<=(R g).co+(aQ ns rs live nd ok hl).c k
   have:=f.co
   lia
  ·show 0<=(R g).ho+1
   have:=f.ho.1
   lia
  ·show (0:Int)<=(k:Nat);lia
  ·show ((k:Nat):Int)<(rs.length:Nat);lia
end
theorem Eu.by1{n m:Nat}{r:RM.Row}(h:Eu n m r):-1<=r.by_:=by have:=h.by_;lia
noncomputable def isAt(rs:List R5)(h:Int)(i:Nat):Bool:=match rs[i]? with|some r=>decide (h=r.a) || decide (h=r.b)|none=>false
noncomputable def UG(rs:List R5)(h:Int)(n:Nat):List Nat:=(au n).filter (isAt rs h)
theorem Np(rs:List R5)(h:Int)(n:Nat):UG rs h (n+1)=UG rs h n++(if isAt rs h n then [n] else []):=by
 unfold UG;rw[gz,eN];congr 1;by_cases a:isAt rs h n=true
 ·rw[b3 a];simp[a]
 ·rw[b5 a];simp[a]
theorem Ys(rs:List R5)(h:Int)(n:Nat):(UG rs h n).length<=n:=by
 have:=aT (isAt rs h) (au n)
 rw[aX] at this;exact this
theorem abu(x a b:Int):Gs (V.int x) [V.int a,V.int b]=(decide (x=a) || decide (x=b)):=by
 show (S2 (.int a) (.int x) || (S2 (.int b) (.int x) || false))=_;rw[LN,LN,Bool.or_false]
theorem eW(a:List Nat):bC a=(a.map λk:Nat=>(k:Int)).map V.int:=by
 unfold bC;rw[cz];rfl
theorem wV(x:Nat)(xs:List Nat):Gs (.int (x:Nat)) (bC xs)=decide (x∈xs):=by
 rw[eW,sQ];by_cases h:x∈xs
 ·rw[eH h]
  exact eH (aS.mpr ⟨x,h,rfl⟩)
 ·rw[eL h]
  refine eL λz=>h ?_;obtain⟨y,a,e⟩:=aS.mp z
  have:y=x:=∅
  exact this▸a
theorem mQ(xs:List Nat):(bC xs).all zN=true:=by rw[eW];exact sH _
theorem VQ(rs:List R5)(h:Int)(n:Nat):(UG rs h n).Pairwise (·<·):=List.Pairwise.filter _ List.pairwise_lt_range
theorem Yt{a:List Nat}(h:a.Pairwise (·<·)){j:Nat}(c:j<a.length){k:Nat}(d:k∈a.take j):k<a[j]:=by
 obtain⟨i,b,e⟩:=List.getElem_of_mem d;rw[bY] at b;rw[List.getElem_take] at e;rw[<- e];exact p5.mp h i j ∅ c ∅
theorem Bj{rs:List R5}{h:Int}{n k:Nat}:k∈UG rs h n↔k<n/\isAt rs h k=true:=by
 unfold UG;rw[bU,cT]
section
variable{ns:List Int}{rs:List R5}{live:List Nat}{nd:ns.Nodup}{ok:∀r∈rs,r.Ok ns.length}{hl:∀k∈live,k<rs.length}
noncomputable def f6(r:R5)(h:Nat):Nat:=(if (h:Int)=r.a then r.b else r.a).toNat
theorem uK{k h g:Nat}(i:k∈live):RM.GX (aQ ns rs live nd ok hl) k h g↔isAt rs (h:Int) k=true/\g=f6 (rs[k]'(hl k i)) h:=by
 have d:=hl k i;have o:=ok _ (aK d);have f:rs[k]?=some rs[k]:=aa d;have l:(aQ ns rs live nd ok hl).a k=rs[k].a.toNat:=by show ((rs[k]?).map λr=>r.a.toNat).getD 0=_;rw[f];rfl
 have j:(aQ ns rs live nd ok hl).b k=rs[k].b.toNat:=by show ((rs[k]?).map λr=>r.b.toNat).getD 0=_;rw[f];rfl
 unfold RM.GX isAt f6;rw[l,j,f];dsimp only;generalize rs[k]=r at o;have p:=o.a0;have m:=o.b0;have n:=o.ab;constructor
 ·rintro⟨_,⟨e,c⟩|⟨e,c⟩⟩
  ·have z:(h:Int)=r.a:=∅
   rw[b3 z];exact⟨by simp[z],c.symm⟩
  ·have z:(h:Int)=r.b:=∅
   rw[b5 ∅];exact⟨by simp[z],c.symm⟩
 ·rintro⟨e,c⟩
  refine⟨i,?_⟩;have e:(h:Int)=r.a∨(h:Int)=r.b:=by simpa using e
  by_cases z:(h:Int)=r.a
  ·rw[b3 z] at c
   exact .inl ⟨∅,c.symm⟩
  ·rw[b5 z] at c
   exact .inr ⟨∅,c.symm⟩
end
theorem sR.data{K:af}{H:Hp}{l:Addr}{n:Nat}{R:Nat->RM.Row}(h:sR K H l n R):Rep K H (RM.Hu n R) (.ref l):=by
 obtain⟨ps,f,c,d⟩:=h;refine⟨l,_,rfl,f,?_⟩
 have:=RM.FG (K:=K) (H:=H) (ps:=ps) (rs:=(au n).map R) (by rw[ah,aX];exact c) (λi p r b a=>by
  rw[aj] at a;have e:i<n:=by have:=(ai.mp b).1;lia
  rw[gh e] at a;cases a;exact d i p b)
 rw[cz] at this;exact this
theorem VR(ns:List Int)(a b:Nat):∃cs:List Int,Dk (ns.map V.int) (some (a:Int)) (some (b:Int))=cs.map V.int/\cs.length<=b-a:=by
 refine⟨(ns.drop (HT.lX ns.length 0 (some (a:Int)))).take (HT.lX ns.length ns.length (some (b:Int))-HT.lX ns.length 0 (some (a:Int))),?_,?_⟩
 ·unfold Dk
  rw[ah,List.map_take,List.map_drop]
 ·rw[HT.GU,HT.GU,bY,qD]
  lia
theorem xX{α:Type}{xs:List α}{x y:α}{j:Nat}(h:(xs++[x])[j]?=some y):xs[j]?=some y∨(j=xs.length/\y=x):=by
 by_cases a:j<xs.length
 ·rw[bI a] at h
  exact .inl h
 ·have:=(ai.mp h).1
  rw[az] at this;have e:j=xs.length:=by have:j<xs.length+1:=this;lia
  subst e;rw[bL (ay _),iF] at h;cases h;exact .inr ⟨rfl,rfl⟩
theorem Du{n i:Nat}(h:i<n):X0 n (i:Int)=some i:=by
 unfold X0;rw[b3 ∅,b3 ∅];simp
section
variable{ns:List Int}{rs:List R5}{live:List Nat}{nd:ns.Nodup}{ok:∀r∈rs,r.Ok ns.length}{hl:∀k∈live,k<rs.length}
theorem aek{k:Nat}(h:k<rs.length):(aQ ns rs live nd ok hl).c k=rs[k].c:=by
 show ((rs[k]?).map λr=>r.c).getD 0=_;rw[aa h];rfl
end
end TW
namespace TW
open PySem L2 PyProof.Rows
theorem bZ{a b:TS}{D:Ends}{d:L2.St}{H:Hp}(h:∀N:L2.St->Hp->Prop,(∀c e,b D c e->N c e)->a {D with nx:=N} d H):UY a b D d H:=h _ λ_ _ x=>x
theorem LO{K:af}{H:Hp}{Q:VK}{p:Addr}{xs:List V}{i:Int}{v:V}(h:bK K H p xs)(e:FD xs i=some v)(k:Q v H):SY K (.ref p) (.int i) H Q:=⟨p,xs,i,v,rfl,rfl,h,e,k⟩
theorem Yu{K:af}{a:L2.St}{H:Hp}{Q:VK}{p:Addr}{xs:List V}{i:Int}{v:V}(h:cW K H p xs)(e:FD xs i=some v)(k:Q v H):tC (.int i) a H λy b=>S1 K (.ref p) y b Q:=⟨p,xs,i,v,rfl,rfl,h,e,k⟩
theorem nh{c:TT}{t u r:TS}{D:Ends}{a:L2.St}{H:Hp}(J:L2.St->Hp->Prop)(b:∀a H,J a H->r D a H)(h:∀N:L2.St->Hp->Prop,(∀a H,J a H->N a H)->U0 c t u {D with nx:=N} a H):UY (U0 c t u) r D a H:=h _ b
theorem Hz{lo:Int}{n:Nat}{g:TG}{j:TS}{D:Ends}{a:L2.St}{H:Hp}(e:Nat->L2.St->Hp->Prop)(q:e 0 a H)
 (k:∀i a H (N:L2.St->Hp->Prop),(∀b c,e (i+1) b c->N b c)->i<n->e i a H->g (.int (lo+i)) a H λd f=>j {D with nx:=N,ct:=N,bk:=D.nx} d f) (o:∀a H,e n a H->D.nx a H) :
 ∃W:Nat->Nat->L2.St->Hp->Prop,(∃m,W 0 m a H)/\∀i m a H,W i m a H ->
  ((U7 lo n).stop i H/\D.nx a H)∨((U7 lo n).go i H/\∃N:L2.St->Hp->Prop,(∀b c,N b c->∃h,h<m/\W (i+1) h b c)/\∀x c,(U7 lo n).LA i H x c->g x a c λd f=>j {D with nx:=N,ct:=N,bk:=D.nx} d f) :=
 sF e q (λi a H l p=>k i a H _ (λ_ _ x=>x) l p) o
theorem Ew{K:af}{a:Addr}{xs:List V}{g:TG}{k:TS}{D:Ends}{b:L2.St}{H:Hp}(f:Nat->L2.St->Hp->Prop)(q:f 0 b H)(hl:∀i b H,i<=xs.length->f i b H->bK K H a xs)
 (l:∀i x b H (N:L2.St->Hp->Prop),(∀c d,f (i+1) c d->N c d)->xs[i]?=some x->f i b H->g x b H λe h=>k {D with nx:=N,ct:=N,bk:=D.nx} e h) (o:∀b H,f xs.length b H->D.nx b H) :
 ∃W:Nat->Nat->L2.St->Hp->Prop,(∃m,W 0 m b H)/\∀i m b H,W i m b H ->
  ((LB K a).stop i H/\D.nx b H)∨((LB K a).go i H/\∃N:L2.St->Hp->Prop,(∀c d,N c d->∃j,j<m/\W (i+1) j c d)/\∀x d,(LB K a).LA i H x d->g x b d λe h=>k {D with nx:=N,ct:=N,bk:=D.nx} e h) :=
 sO f q hl (λi x b H n p=>l i x b H _ (λ_ _ x=>x) n p) o
end TW
namespace TW
open PySem L2 PyProof.Rows
open RM (c5 lJ bu be)
seal L2.PE L2.PA L2.PT L2.PW L2.PS L2.jk L2.PG L2.m6 L2.PI L2.m9
section
open Classical
noncomputable def zV(N:RM.Net)(R:Nat->RM.Row)(h:Nat):Option (Nat×Nat) :=
 if e:∃p:Nat×Nat,RM.oN N R p.1 h p.2 then some (choose e) else none
end
theorem uL{N:RM.Net}{R:Nat->RM.Row}{h k g:Nat}:zV N R h=some (k,g)↔RM.oN N R k h g:=by
 unfold zV;constructor
 ·intro e
  split at e
  ·rename_i q
   have:=Classical.choose_spec q
   rw[aN e] at this;exact this
  ·cases e
 ·intro t
  have q:∃p:Nat×Nat,RM.oN N R p.1 h p.2:=⟨(k,g),t⟩;rw[dif_pos q];have u:=Classical.choose_spec q;obtain⟨b,a⟩:=u.uniq t;exact e8 some (Prod.ext b a)
theorem Nq{N:RM.Net}{R:Nat->RM.Row}{h:Nat}(q:∀k g,¬RM.oN N R k h g):zV N R h=none:=by
 cases e:zV N R h with
 |none=>rfl
 |some p=>exact ee (uL.mp e) (q p.1 p.2)
def vC(K:af)(H:Hp)(v:V):Option (Nat×Nat)->Prop
 |none=>v=.fE
 |some p=>∃t,v=.ref t/\cW K H t [.int (p.1:Nat),.int (p.2:Nat)]
theorem vC.mono{K:af}{H a:Hp}{v:V}{o:Option (Nat×Nat)}(s:aD H a)(h:vC K H v o):vC K a v o:=by
 cases o with
 |none=>exact h
 |some p =>
  obtain⟨t,e,q⟩:=h;exact⟨t,e,s.dw q⟩
theorem vC.lst{K:af}{H:Hp}{v:V}{o:Option (Nat×Nat)}{l:Addr}{xs:List V}{ob:HO}(hl:H l=some (.lst xs))(h:vC K H v o):vC K (upd H l ob) v o:=by
 cases o with
 |none=>exact h
 |some p =>
  obtain⟨t,e,q⟩:=h;exact⟨t,e,Yq hl q⟩
def abv(K:af)(H:Hp)(l:Addr)(n:Nat)(u:Nat->Option (Nat×Nat)):Prop:=∃vs:List V,H l=some (.lst vs)/\vs.length=n/\∀(i:Nat) v,vs[i]?=some v->vC K H v (u i)
section
variable{ns:List Int}{rs:List R5}{live:List Nat}{nd:ns.Nodup}{ok:∀r∈rs,r.Ok ns.length}{hl:∀k∈live,k<rs.length}
theorem VS{R:Nat->RM.Row}{k h:Nat}(a:k∈live):(∃g,RM.oN (aQ ns rs live nd ok hl) R k h g)↔isAt rs (h:Int) k=true/\(R (f6 (rs[k]'(hl k a)) h)).ho+1<ns.length/\R h=RM.over (aQ ns rs live nd ok hl) k (R (f6 (rs[k]'(hl k a)) h)):=by
 constructor
 ·rintro⟨g,t⟩
  obtain⟨b,c⟩:=(uK a).mp t.Bg;subst c;exact⟨b,t.cut,t.eq⟩
 ·rintro⟨b,c,d⟩
  exact⟨_,(uK a).mpr ⟨b,rfl⟩,c,d⟩
theorem abw{R:Nat->RM.Row}{k h g:Nat}(t:RM.oN (aQ ns rs live nd ok hl) R k h g):g=f6 (rs[k]'(hl k t.Bg.1)) h:=((uK t.Bg.1).mp t.Bg).2
theorem Qd{k h:Nat}(a:k<rs.length)(ok:∀r∈rs,r.Ok ns.length):f6 rs[k] h<ns.length:=by
 have o:=ok _ (aK a);have e:=o.a0;have b:=o.a1;have c:=o.b0;have d:=o.b1;unfold f6;split <;> lia
theorem RG{k h:Nat}(c:k<rs.length)(ok:∀r∈rs,r.Ok ns.length):(if (h:Int)=rs[k].a then rs[k].b else rs[k].a)=((f6 rs[k] h:Nat):Int):=by
 have o:=ok _ (aK c);have e:=o.a0;have d:=o.b0;unfold f6;split <;> lia
end
theorem ahF{x y z i:Int}(lo a:Int)(d:lo<=x/\x<=a)(b:lo<=y/\y<=a)(c:lo<=z/\z<=a)(f:0<=i)(e:i<3):∃w,(lo<=w/\w<=a)/\FD [V.int x,V.int y,V.int z] i=some (.int w):=by
 have:i=0∨i=1∨i=2:=∅
 rcases this with rfl|rfl|rfl
 ·exact⟨x,d,rfl⟩
 ·exact⟨y,b,rfl⟩
 ·exact⟨z,c,rfl⟩
theorem Yv(xs:List Nat):Gs .fE (bC xs)=false:=by
 unfold Gs;rw[Bool.eq_false_iff];intro h;obtain⟨x,a,e⟩:=xS.mp h;obtain⟨y,_,rfl⟩:=aS.mp a;cases e
end TW
namespace L2
open PySem PySem.Spec PyProof.Rows
theorem LP{us:List Value}{ns:List Int}(h:IntsAre us ns):bX (ns.map V.int) us:=by
 induction h with
 |nil=>exact .nil
 |cons n t _ a=>exact .cons ⟨t,rfl⟩ a
section
variable{X:Cx}
def Yw(K:af):List V->Hp->VK->Prop:=λxs H Q=>∃(a:Addr) (ns:List Int),xs=[.ref a]/\bK K H a (ns.map V.int)/\ns.length<64/\∀l (ns':List Int),H l=none->ns'.Perm ns->ns'.Pairwise (·<=·)->Q (.ref l) (upd H l (.lst (ns'.map V.int)))
theorem zW:p9 X (.builtin "sorted") (Yw X.K):=by
 intro h s x H w z Q I r ⟨a,v,e,j,t,q⟩;subst e;obtain⟨u,e,i⟩:=bX.one r;subst e;cases i;obtain⟨c,m,p,y⟩:=I.list j;have g:IntsAre c v:=intsAre_of m;have f:=IntsAre.length g;refine sorted_ints (vs:=c) p.isList g ∅ λout d l a2 k=>?_;obtain⟨e,n⟩:=sortedAll_at s.heap c out;refine⟨.ref (s.heap.objs.size+1),_,I.laid (a:=s.heap.objs.size+1) (o:=.lst (d.map V.int)) (t':=s.toks) (λb o e=>sortedAll_old e) (dO _) ⟨?_,out.toList,e,LP l,?_⟩,rfl,q _ d (I.hok.fresh (dO _)) a2 k⟩
 ·rw[ah,a2.length_eq]
  exact ji (ck ∅)
 ·rw[n]
end
end L2
namespace TW
open PySem L2 PyProof.Rows
open RM (c5 lJ bu be)
seal L2.PE L2.PA L2.PT L2.PW L2.PS L2.jk L2.PG L2.m6 L2.PI L2.m9
theorem KE:∀{xs b:List Nat},xs.Pairwise (·<·)->b.Pairwise (·<·)->(∀k,k∈xs↔k∈b)->xs=b
 |[],[],_,_,_=>rfl
 |[],y::b,_,_,h=>ee ((h y).mpr cE) (-_)
 |x::xs,[],_,_,h=>ee ((h x).mp cE) (-_)
 |x::xs,y::b,d,f,h=>by
  have c:=sI.mp d;have a:=sI.mp f;have e:x=y:=by
   rcases bx.mp ((h x).mp cE) with z|z
   ·exact z
   ·rcases bx.mp ((h y).mpr cE) with w|w
    ·exact w.symm
    ·have:=a.1 x z
     have:=c.1 y w
     lia
  subst e;rw[KE c.2 a.2 λk=>?_];constructor
  ·intro z
   rcases bx.mp ((h k).mp (aZ _ z)) with w|w
   ·have:=c.1 k z;lia
   ·exact w
  ·intro z
   rcases bx.mp ((h k).mpr (aZ _ z)) with w|w
   ·have:=a.1 k z;lia
   ·exact w
theorem oN.lt{N:RM.Net}{R:Nat->RM.Row}{k h g:Nat}(t:RM.oN N R k h g):h<N.n/\g<N.n:=⟨t.Bg.lt.1,t.Bg.lt.2.1⟩
def d9(N:RM.Net)(R:Nat->RM.Row)(os:List Nat):Prop:=os.Pairwise (·<·)/\∀k,k∈os↔∃h g,RM.oN N R k h g
theorem d9.uniq{N:RM.Net}{R:Nat->RM.Row}{xs c:List Nat}(a:d9 N R xs)(b:d9 N R c):xs=c:=KE a.1 b.1 λk=>(a.2 k).trans (b.2 k).symm
theorem Nr{i:List Nat}{c:List Int}(p:c.Perm (i.map λk:Nat=>(k:Int)))(r:c.Pairwise (·<=·))(nd:i.Nodup):∃os:List Nat,c.map V.int=bC os/\os.Pairwise (·<·)/\(∀k,k∈os↔k∈i)/\os.length=i.length:=by
 have j:∀m∈c,∃k:Nat,m=(k:Int)/\k∈i:=λm d=>by
  obtain⟨k,f,e⟩:=aS.mp (p.mem_iff.mp d);exact⟨k,e.symm,f⟩
 have t:(c.map mZ).map (λk:Nat=>(k:Int))=c:=by
  rw[cz]
  conv=>rhs;rw[<- qG c]
  apply cF;intro m d;obtain⟨k,e,_⟩:=j m d;rw[e];rfl
 have l:c.Nodup:=by
  refine p.nodup_iff.mpr ?_;unfold List.Nodup;rw[vz];exact nd.imp λh e=>h ∅
 refine⟨c.map mZ,?_,?_,λk=>?_,by rw[ah,p.length_eq,ah]⟩
 ·rw[eW,t]
 ·rw[vz]
  have g:=List.pairwise_and_iff.mpr ⟨r,l⟩;refine List.Pairwise.imp_of_mem (λ{a b} o q h=>?_) g;obtain⟨x,u,_⟩:=j a o;obtain⟨y,n,_⟩:=j b q;have w:=h.1;have v:=h.2;lia
 ·constructor
  ·intro f
   obtain⟨m,d,e⟩:=aS.mp f;obtain⟨y,n,s⟩:=j m d;rw[n] at e
   have:y=k:=by rw[<- e];rfl
   exact this▸s
  ·intro f
   have:((k:Nat):Int)∈c:=p.mem_iff.mpr (aS.mpr ⟨k,f,rfl⟩)
   exact aS.mpr ⟨_,this,rfl⟩
end TW
namespace TW
open PySem L2 PyProof.Rows Gr
open RM (c5 lJ bu be)
section
variable{ns:List Int}{rs:List R5}{live:List Nat}{nd:ns.Nodup}{ok:∀r∈rs,r.Ok ns.length}{hl:∀k∈live,k<rs.length}
theorem VT{R:Nat->RM.Row}{os:List Nat}(O:d9 (aQ ns rs live nd ok hl) R os):∀k∈os,k<rs.length:=λk a=>by
 obtain⟨h,g,t⟩:=(O.2 k).mp a;exact hl k t.Bg.1
end
end TW
namespace L2
open PySem PySem.Calls PySem.Spec PyProof.Rows PyProof.V PySem.W
end L2
namespace Gr
end Gr
namespace TW
open PySem L2 PyProof.Rows Gr
end TW
namespace L2
open PySem PySem.Calls PySem.Spec PyProof.Rows PyProof.V PySem.W
end L2
namespace TW
open PySem L2 PyProof.Rows Gr
end TW
namespace TW
open PySem L2 PyProof.Rows
noncomputable def stand(b:List Bool):List Nat:=(au b.length).filter λk=>b.getD k false
theorem kq{b:List Bool}{k:Nat}:k∈stand b↔b[k]?=some true:=by
 unfold stand;rw[bU,cT,aq];constructor
 ·rintro⟨a,c⟩
  rw[aa a] at c ⊢
  simpa using c
 ·intro h
  have a:=(ai.mp h).1;exact⟨a,by rw[h];rfl⟩
theorem sU(b:List Bool):(stand b).Pairwise (·<·):=List.Pairwise.filter _ List.pairwise_lt_range
theorem Tv(b:List Bool):(stand b).length<=b.length:=by
 have:=aT (λk=>b.getD k false) (au b.length)
 rw[aX] at this;exact this
theorem Dv:∀{xs a:List Nat},xs.Pairwise (·<·)->a.Pairwise (·<·)->(∀k,k∈xs↔k∈a)->xs=a
 |[],[],_,_,_=>rfl
 |[],y::a,_,_,h=>ee ((h y).mpr (-_)) (-_)
 |x::xs,[],_,_,h=>ee ((h x).mp (-_)) (-_)
 |x::xs,y::a,c,d,h=>by
  rw[sI] at c d;have e:x=y:=by
   have h1:=(h x).mp (-_);have h2:=(h y).mpr (-_);rw[bx] at h1 h2;rcases h1 with h1|h1
   ·exact h1
   ·rcases h2 with h2|h2
    ·exact h2.symm
    ·have:=c.1 _ h2
     have:=d.1 _ h1
     lia
  subst e;rw[Dv c.2 d.2 λk=>?_];constructor
  ·intro b
   rcases bx.mp ((h k).mp (aZ _ b)) with rfl|z
   ·exact ee (c.1 _ b) (jh _)
   ·exact z
  ·intro b
   rcases bx.mp ((h k).mpr (aZ _ b)) with rfl|z
   ·exact ee (d.1 _ b) (jh _)
   ·exact z
theorem sV{b:List Bool}{k:Nat}:(stand b).filter (λj=>decide (j≠k))=stand (b.set k false):=by
 refine Dv (List.Pairwise.filter _ (sU b)) (sU _) λj=>?_;rw[bU,kq,kq,cO];by_cases e:k=j
 ·subst e
  simp
 ·rw[b5 e]
  simp[bP e]
theorem Tw{b:List Bool}{k:Nat}{xs:List Nat}(f:b[k]?=some false)(d:xs.Perm (stand b++[k]))(h:xs.Pairwise (·<=·)):xs=stand (b.set k true):=by
 have l:(stand b++[k]).Nodup:=by
  rw[jM];refine⟨(sU b).imp λz=>bD z,-_,λx a y g=>?_⟩
  have:y=k:=by simpa using g
  subst this;intro e;subst e;rw[kq,f] at a;cases a
 have a:=(d.nodup_iff).mpr l;have i:xs.Pairwise (·<·):=(h.and a).imp λz=>Nat.lt_of_le_of_ne z.1 z.2;refine Dv i (sU _) λj=>?_;have c:=(ai.mp f).1;rw[d.mem_iff,bz,kq,kq,cO,bf];by_cases e:k=j
 ·subst e
  rw[b3 rfl,b3 c];simp
 ·rw[b5 e]
  simp[bP e]
theorem Qe(n:Nat):stand (bB n true)=au n:=by
 refine Dv (sU _) List.pairwise_lt_range λj=>?_;rw[kq,List.getElem?_replicate,cT];by_cases h:j<n
 ·simp[h]
 ·simp[h]
theorem LQ{w:List Nat}{xs:List Int}(b:xs.Perm (w.map λk:Nat=>(k:Int)))(d:xs.Pairwise (·<=·)):∃a:List Nat,xs=a.map (λk:Nat=>(k:Int))/\a.Perm w/\a.Pairwise (·<=·):=by
 have e:xs=(xs.map mZ).map λk:Nat=>(k:Int):=by
  rw[cz];refine Eq.symm ((cF λx c=>?_).trans (qG xs));obtain⟨k,_,rfl⟩:=aS.mp (b.mem_iff.mp c);rfl
 refine⟨xs.map mZ,e,?_,?_⟩
 ·have:=b.map mZ
  rw[cz] at this;have f:(mZ∘λk:Nat=>(k:Int))=id:=rfl;rw[f,qG] at this;exact this
 ·rw[vz]
  exact d.imp λz=>Int.toNat_le_toNat z
theorem abx(k:Nat):(bB k [V.bl true]).flatten=(bB k true).map V.bl:=by
 induction k with
 |zero=>rfl
 |succ k a=>rw[iJ,vA,a,iJ];rfl
noncomputable def Bk(b:List Bool)(n:Nat):List Nat:=(au n).filter λk=>b.getD k false
theorem ni(b:List Bool)(n:Nat):Bk b (n+1)=Bk b n++(if b.getD n false=true then [n] else []):=by
 unfold Bk;rw[gz,eN];congr 1;by_cases h:b.getD n false=true
 ·rw[b3 h,dg,b3 h];rfl
 ·rw[b5 h,dg,b5 h];rfl
def jw(rs:List R5)(bs:List (List Bool)):Prop:=bs.length=rs.length/\∀(i:Nat) r b,rs[i]?=some r->bs[i]?=some b->(b.length:Int)=r.d
theorem jw.set{rs:List R5}{bs:List (List Bool)}{i k:Nat}{b:List Bool}{x:Bool}(h:jw rs bs)(d:bs[i]?=some b):jw rs (bs.set i (b.set k x)):=by
 refine⟨by rw[bA];exact h.1,λj r e c a=>?_⟩;rw[cO] at a;by_cases z:i=j
 ·subst z
  rw[b3 rfl,b3 (ai.mp d).1] at a;cases a;rw[bA];exact h.2 i r b c d
 ·rw[b5 z] at a
  exact h.2 j r e c a
theorem jw.at{rs:List R5}{bs:List (List Bool)}{i:Nat}{r:R5}(h:jw rs bs)(a:rs[i]?=some r):∃b,bs[i]?=some b/\(b.length:Int)=r.d:=by
 have:=(ai.mp a).1
 exact⟨_,aa (by have:=h.1;lia),h.2 i r _ a (aa (by have:=h.1;lia))⟩
structure uM(C:Addr)(H:Hp)(p tp lu:Addr)(ws:List (List Nat)):Prop where
 ob:∃dx,H p=some (.ins C dx [("town",.ref tp),("upright",.ref lu)])
 up:∃ls:List Addr,H lu=some (.lst (ls.map V.ref))/\ls.length=ws.length/\∀(i:Nat) l w,ls[i]?=some l->ws[i]?=some w->H l=some (.lst (bC w))
section
variable{C:Addr}{H H':Hp}{p tp lu:Addr}{ws:List (List Nat)}
theorem uM.mono(s:aD H H')(h:uM C H p tp lu ws):uM C H' p tp lu ws:=by
 obtain⟨⟨e,j⟩,f,c,d,g⟩:=h;exact⟨⟨e,s _ _ j⟩,f,s _ _ c,d,λi l w a b=>s _ _ (g i l w a b)⟩
theorem wW{w:List Nat}{ls:List Addr}{i:Nat}{l:Addr}(e:ls[i]?=some l):bC w≠ls.map V.ref:=by
 intro z;have a:(bC w)[i]?=some (V.ref l):=by rw[z,aj,e];rfl
 rw[aj] at a;cases b:w[i]? with
 |none=>rw[b] at a;cases a
 |some k=>rw[b] at a;cases a
theorem uM.ne(h:uM C H p tp lu ws):p≠lu:=by
 obtain⟨⟨c,b⟩,d,a,_⟩:=h;exact m5 b a (by intro z;cases z)
theorem uM.put{i:Nat}{q:Addr}{w:List Nat}{ls:List Addr}(h:uM C H p tp lu ws)(e:H lu=some (.lst (ls.map V.ref)))(g:H q=some (.lst (bC w)))(x:i<ws.length)(k:∀b u,H b=some u->b≠lu->H' b=some u)(s:H' lu=some (.lst ((ls.map V.ref).set i (.ref q)))):uM C H' p tp lu (ws.set i w):=by
 have c:=h.ne;obtain⟨⟨D,E⟩,d,n,r,B⟩:=h;rw[e] at n;have z:=HO.lst.inj (aN n);have z:ls=d:=by
  have:=e8 (List.map λv=>match v with|V.ref a=>a|_=>0) z
  rw[cz,cz] at this;have y:((λv=>match v with|V.ref a=>a|_=>0)∘V.ref)=(id:Addr->Addr):=rfl;rw[y,qG,qG] at this;exact this
 subst z;have m:i<ls.length:=∅
 have A:q≠lu:=by
  refine m5 g e λz=>?_;exact wW (aa m) (HO.lst.inj z)
 refine⟨⟨D,k _ _ E c⟩,ls.set i q,by rw[s,List.map_set],by rw[bA,bA,r],λj l t a b=>?_⟩;rw[cO] at a b;by_cases f:i=j
 ·subst f
  rw[b3 rfl,b3 m] at a;rw[b3 rfl,b3 x] at b;cases a;cases b;exact k _ _ g A
 ·rw[b5 f] at a b
  have o:=B j l t a b;exact k _ _ o (m5 o e λz=>wW a (HO.lst.inj z))
structure Yx(H:Hp)(ls:Addr)(jf:List Addr)(bs:List (List Bool)):Prop where
 at_:H ls=some (.lst (jf.map V.ref))
 len:jf.length=bs.length
 nd:jf.Nodup
 it:∀(i:Nat) l b,jf[i]?=some l->bs[i]?=some b->H l=some (.lst (b.map V.bl))
theorem Yx.mono{ls:Addr}{jf:List Addr}{bs:List (List Bool)}(s:aD H H')(h:Yx H ls jf bs):Yx H' ls jf bs:=⟨s _ _ h.at_,h.len,h.nd,λi l b x y=>s _ _ (h.it i l b x y)⟩
theorem Yx.put{ls:Addr}{jf:List Addr}{bs:List (List Bool)}{i:Nat}{l:Addr}{b:List Bool}(h:Yx H ls jf bs)(d:jf[i]?=some l)(k:∀c u,H c=some u->c≠l->H' c=some u)(hl:H' l=some (.lst (b.map V.bl)))(f:ls≠l):Yx H' ls jf (bs.set i b):=by
 refine⟨k _ _ h.at_ f,by rw[bA,h.len],h.nd,λj g o x y=>?_⟩;have a:i<bs.length:=by rw[<- h.len];exact (ai.mp d).1
 rw[cO] at y;by_cases e:i=j
 ·subst e
  rw[b3 rfl,b3 a] at y;cases y;rw[d] at x;cases x;exact hl
 ·rw[b5 e] at y
  refine k _ _ (h.it j g o x y) λz=>e ?_;subst z;have p:=ai.mp d;have n:=ai.mp x;obtain⟨q,a2⟩:=p;obtain⟨r,m⟩:=n;exact (List.getElem_inj h.nd).mp (a2.trans m.symm)
theorem cY.but{K:af}{C j q:Addr}{i:List (Str×V)}{tp g e:Addr}{ns:List Int}{rs:List R5}(h:cY K C H tp g e ns rs)(k:∀b o,H b=some o->b≠p->H' b=some o)(a:H p=some (.ins j q i))(m:tp≠p):cY K C H' tp g e ns rs:=by
 obtain⟨⟨d,r⟩,f,l,c,n⟩:=h;exact⟨⟨d,k _ _ r m⟩,k _ _ f (m5 f a (by intro z;cases z)),l,k _ _ c (m5 c a (by intro z;cases z)),jS k a n⟩
end
end TW
namespace L2
open PySem PySem.Spec PyProof.Rows
section
variable{X:Cx}
theorem Tz(K:af)(f:X.K=K){a:Expr}{c:TE}(d:PE X a c)(e:∀b,isTrue a X.env b=(do let v <- b;standAt a.pos;holding [v] (truthy v))):PT X a (VI K c):=by
 subst f;exact To d e
end
end L2
namespace TW
open PySem L2 PyProof.Rows
noncomputable def KG(e:Int)(g:Nat):Bool:=decide (e/2^g%2=1)
theorem Nt{e z:Int}{g:Nat}(d:1<=e)(f:e<=7)(a:([1,2,4]:List Int)[g]?=some z):(!decide (Builtin.bitAnd e z=0))=KG e g:=by
 have b:g=0∨g=1∨g=2:=by
  have:=(ai.mp a).1
  simp at this;lia
 have c:e=1∨e=2∨e=3∨e=4∨e=5∨e=6∨e=7:=∅
 rcases b with rfl|rfl|rfl <;> cases a <;> rcases c with rfl|rfl|rfl|rfl|rfl|rfl|rfl <;> decide +kernel
theorem ael{g:Nat}(h:g<3):∃z,([1,2,4]:List Int)[g]?=some z:=⟨_,aa (by simpa using h)⟩
noncomputable def isLive(rs:List R5)(ws:List (List Nat))(g i:Nat):Bool:=match rs[i]?,ws[i]? with|some r,some w=>(!w.isEmpty)&&KG r.e g|_,_=>false
noncomputable def xY(rs:List R5)(ws:List (List Nat))(g n:Nat):List Nat:=(au n).filter (isLive rs ws g)
theorem zX(rs:List R5)(ws:List (List Nat))(g n:Nat):xY rs ws g (n+1)=xY rs ws g n++(if isLive rs ws g n=true then [n] else []):=by
 unfold xY;rw[gz,eN];congr 1;by_cases h:isLive rs ws g n=true
 ·rw[b3 h,dg,b3 h];rfl
 ·rw[b5 h,dg,b5 h];rfl
theorem Qf(rs:List R5)(ws:List (List Nat))(g n:Nat):(xY rs ws g n).length<=n:=by
 have:=aT (isLive rs ws g) (au n)
 rw[aX] at this;exact this
end TW
namespace L2
open PySem PySem.Spec PyProof.Rows
structure Z1(K:af)(C:Addr)(m:Str)(f:Addr):Prop where
 hg:PySem.W.specialIn K (.ref C) "__getattribute__" = some (some (.builtin "type.__getattribute__"))
 hr:PySem.W.readsIn K C (.type "type")=true
 md:PySem.W.findCls K (.ref C) (.type "type") m=some (.val (.ref f))
 kp:dU K (.ref f)=true
section
variable{X:Cx}
theorem Ex{e:Expr}{t u:TE}(d:PE X e t)(c:PE X e u):PE X e (λb H Q=>t b H Q∨u b H Q):=λa s b H Q I h=>h.elim (d a s b H Q I) (c a s b H Q I)
end
def aem(C:Addr)(sp:Sp)(Ck:List V)(E:XK)(ta:TE)(t:TA):TE:=λσ H Q=>ta σ H λx H1=>x=.ref C/\t σ H1 λvs H2=>sp (vs++Ck) H2 Q E
section
variable{X:Cx}{CX:SW}{k:Nat}{f C:Addr}{fd:FuncData}{ps:List Str}{sp:Sp}{Ck:List V}{ds:List Value}{E:XK}{x m:Str}{p pos apos:Pos}{e o:Expr}{es:List Expr}{ta:TE}{t:TA}
theorem Qg{pl:Sem Bool}(L:PE X o ta)(c:Z1 X.K C m f)
 (F:b6 X.prog X.w X.K X.mg X.base CX k f fd ps sp) (hr:jP k X.A) (y:Binds X.K fd ps ds) (G:bX Ck ds) (B:sP CX X E) (v:PA X (e::es) t)
 (d:starEach (e::es) X.env=(false,eval e X.env)::starEach es X.env:=by rfl) (g:(backTo pos (starEach es X.env)).any (·.1)=false:=by rfl)
 (J:eval (.Call (.Attribute o m apos) (e::es) [] pos) X.env=(do
  let l <- eval o X.env
  standAt apos.atName
  let (f,first) <- holding [l] (getMethod l m pl)
  callWith pos f first (backTo pos (starEach (e::es) X.env)) (backToKw pos (keywordEach [] X.env))):=by rfl) :
 PE X (.Call (.Attribute o m apos) (e::es) [] pos) (aem C sp Ck E ta t):=by
 intro a s i H Q I h;refine PySem.W.methodCall_KW (pl:=pl) (gW (L a s i H _ I h) λu z ⟨x,D,b,n,p,q⟩=>?_) J;subst p;obtain rfl:u=Value.ref C:=n;refine PySem.W.method_cls b.Cg c.hg (PySem.W.cls_value b.Cg c.hr c.md rfl ?_);have N:=b.tok (z.toks+1);refine PySem.W.callWith_K (first:=[]) (h₀:=X.base) I.ok.mod.g4 c.kp (gW (v pos a _ i D _ N q) λus O ⟨vs,P,j,r,M⟩=>⟨j.Cg,?_⟩) d g;exact LD (us:=us) (vs:=vs) F hr y G B j r M
end
end L2
namespace TW
open PySem L2 PyProof.Rows
theorem KH{b:Bool}{A B:Prop}(e:b=false)(h:B):if b=true then A else B:=by subst e;exact dQ h
theorem aen{b:Bool}{A B:Prop}(e:b=true)(h:A):if b=true then A else B:=by subst e;exact fF h
inductive FH(cL c1 cA:Addr)(H:Hp)(a:Addr)(s to:Int):Int->Prop
 |bare (dx:Addr) (h:H a=some (.ins cL dx [("sender",.int s)])):FH cL c1 cA H a s to 0
 |one (dx:Addr) (h:H a=some (.ins c1 dx [("sender",.int s),("to",.int to)])):FH cL c1 cA H a s to 1
 |all (dx:Addr) (h:H a=some (.ins cA dx [("sender",.int s)])):FH cL c1 cA H a s to 2
section
variable{cL c1 cA:Addr}{H H':Hp}{a lh q:Addr}{s to k:Int}{xs:List V}
theorem FH.mono(h:FH cL c1 cA H a s to k)(e:aD H H'):FH cL c1 cA H' a s to k:=by
 cases h with
 |bare b h=>exact .bare b (e _ _ h)
 |one b h=>exact .one b (e _ _ h)
 |all b h=>exact .all b (e _ _ h)
end
end TW
namespace L2
open PySem PySem.W PyProof.Rows
section
variable{n:Nat}{r:Nat->Int}{cmp:Nat->Nat->(Bool->Shared->Prop)->Shared->Prop}{s:Shared}
variable(hc:∀i j C,i<n->j<n->C (decide (r i<r j)) s->cmp i j C s)
include hc
end
end L2
namespace L2
open PySem PySem.W PySem.Spec PyProof.Rows
abbrev T3:=Int×Int×Int
noncomputable def Dw(x y:T3):Bool:=decide (x.1<y.1) || (decide (x.1=y.1)&&(decide (x.2.1<y.2.1) || (decide (x.2.1=y.2.1)&&decide (x.2.2<y.2.2))))
theorem xZ{x y:T3}:Dw x y=true↔x.1<y.1∨(x.1=y.1/\(x.2.1<y.2.1∨(x.2.1=y.2.1/\x.2.2<y.2.2))):=by
 unfold Dw;simp[Bool.or_eq_true,dh]
theorem TF{x y z:T3}(a:Dw x y=true)(b:Dw y z=true):Dw x z=true:=by
 rw[xZ] at *;lia
theorem Yy(x:T3):Dw x x=false:=by
 rw[Bool.eq_false_iff];intro z;rw[xZ] at z;lia
theorem le3{x y z:T3}(a:Dw x y=false)(b:Dw z y=true):Dw z x=true:=by
 have c:¬Dw x y=true:=by rw[a];exact aC
 rw[xZ] at *;lia
noncomputable def FI(ts:List T3)(x:T3):Int:=((ts.filter λz=>Dw z x).length:Nat)
theorem filter_le{α:Type}{p q:α->Bool}:∀{l:List α},(∀z,p z=true->q z=true)->(l.filter p).length<=(l.filter q).length
 |[],_=>ay _
 |a::l,h=>by
  have c:=filter_le (l:=l) h;rw[dg,dg];by_cases b:p a=true
  ·rw[b3 b,b3 (h a b),bq,bq];lia
  ·rw[b5 b]
   split
   ·rw[bq];lia
   ·exact c
theorem filter_lt{α:Type}{p q:α->Bool}{x:α}:∀{l:List α},(∀z,p z=true->q z=true)->x∈l->p x=false->q x=true->(l.filter p).length<(l.filter q).length
 |a::l,h,hx,d,c=>by
  rw[dg,dg];rcases bx.mp hx with rfl|hx
  ·rw[b5 (by rw[d];exact aC),b3 c,bq]
   have:=filter_le (l:=l) h
   lia
  ·have e:=filter_lt h hx d c
   by_cases b:p a=true
   ·rw[b3 b,b3 (h a b),bq,bq];lia
   ·rw[b5 b]
    split
    ·rw[bq];lia
    ·exact e
theorem Nu{ts:List T3}{x y:T3}(b:x∈ts):decide (FI ts x<FI ts y)=Dw x y:=by
 unfold FI;cases e:Dw x y with
 |true =>
  refine eH ?_
  have:=filter_lt (l:=ts) (p:=λz=>Dw z x) (q:=λz=>Dw z y) (x:=x) (λz a=>TF a e) b (Yy x) e
  lia
 |false =>
  refine eL ?_
  have:=filter_le (l:=ts) (p:=λz=>Dw z y) (q:=λz=>Dw z x) (λz a=>le3 e a)
  lia
noncomputable abbrev Hx(x:T3):List V:=[.int x.1,.int x.2.1,.int x.2.2]
def Pp(h:Heap)(v:Value)(x:T3):Prop:=∃(q:Addr) (o:Obj) (n:Nat) (t1 t2 t3:Tok),v=.ref q/\h.get? q=some o/\o.cls=.type "tuple" /\ o.data=.seq #[.int x.1 t1,.int x.2.1 t2,.int x.2.2 t3] n
section
variable{prog:Program}{w:World}{A:Around}{s:Shared}
theorem abz{E:Value->Shared->Prop}{u v:Value}{x y:T3}{C:Bool->Shared->Prop}(g:Pp s.heap u x)(i:Pp s.heap v y)(k:C (Dw x y) s):wpAny (model prog w) A (keyLt' (tuples' true) u v) C E s:=by
 obtain⟨p,o,n,m,H,F,rfl,l,I,j⟩:=g;obtain⟨q,B,t,r,J,G,rfl,h,D,f⟩:=i;refine kat_lt l j h f ?_;refine kat_cons (wpAny_eqBool_int (kat_go (λa=>kat_yes ?_) λa=>kat_no (oneLt_int ?_)))
 case refine_2 =>
  have d:¬x.1=y.1:=by simpa using a
  have e:Dw x y=decide (x.1<y.1):=by unfold Dw;rw[eL d];simp
  rw[<- e];exact k
 have a:x.1=y.1:=by simpa using a
 refine kat_cons (wpAny_eqBool_int (kat_go (λb=>kat_yes ?_) λb=>kat_no (kat_one _ _ (lt_int ?_))))
 case refine_2 =>
  have d:¬x.2.1=y.2.1:=by simpa using b
  have e:Dw x y=decide (x.2.1<y.2.1):=by rw[iK,xZ,decide_eq_true_eq];lia
  rw[<- e];exact k
 have b:x.2.1=y.2.1:=by simpa using b
 refine kat_cons (wpAny_eqBool_int (kat_go (λc=>kat_yes (kat_nil ?_)) λc=>kat_no (kat_one _ _ (lt_int ?_))))
 ·have c:x.2.2=y.2.2:=by simpa using c
  have e:Dw x y=false:=by
   rw[Bool.eq_false_iff];intro z;rw[xZ] at z;lia
  rw[e] at k;exact k
 ·have e:Dw x y=decide (x.2.2<y.2.2):=by rw[iK,xZ,decide_eq_true_eq];lia
  rw[<- e];exact k
theorem HA{h:Heap}:∀{vs:List Value} {ts:List T3},vs.length=ts.length->(∀(i:Nat) v x,vs[i]?=some v->ts[i]?=some x->Pp h v x)->∃d,KatTups h vs d/\d.length=vs.length/\∀f∈d,∃i t,f=Value.int i t
 |[],[],_,_=>⟨[],trivial,rfl,λ_ hf=>ee hf (-_)⟩
 |v::vs,x::ts,hl,h=>by
  obtain⟨d,a,b,c⟩:=HA (vs:=vs) (ts:=ts) (by simpa using hl) λi v x j g=>h (i+1) v x (by simpa using j) (by simpa using g);obtain⟨q,o,n,e,r,p,rfl,m,k,l⟩:=h 0 v x rfl rfl;refine⟨.int x.1 e::d,KatTups.cons m k l rfl a,by simp[b],λf hf=>?_⟩;rcases bx.mp hf with rfl|hf
  ·exact⟨_,_,rfl⟩
  ·exact c f hf
end
section
variable{prog:Program}{w:World}{A:Around}{s:Shared}{E:Value->Shared->Prop}
theorem VU{d:Addr}{v:Value}{c:Nat}{P:PySem.Fin->Shared->Prop}(a:s.heap.get? d=some (seqObj "list" [v].toArray c))(k:P (.done (.ret .none)) {s with heap:=sortedHeap s.heap d [v] #[v]}) :
 wpAny (model prog w) A (Builtin.«list.sort» ⟨[.ref d],[]⟩) P E s:=by
 have j:d<s.heap.objs.size:=Heap.lt_size a;rw[list_sort_plain];refine wpAny_bind (listItems_at a rfl (wpAny_bind (listUpdate_at a rfl ?_)));have b:∃e,(s.heap.update d (Obj.mapSeq λ_=>#[])).get? d=some (seqObj "list" #[] e):=⟨_,get?_update_seq a (λ_=>#[])⟩;obtain⟨e,b⟩:=b;refine wpAny_bind (seqEpoch_at b rfl (wpAny_bind (wpAny_newTuple (wpAny_bind (wpAny_newList (wpAny_holding ?_))))));have i:(s.heap.update d (Obj.mapSeq λ_=>#[])).objs.size=s.heap.objs.size:=Heap.size_update _ _ _;have h:(((s.heap.update d (Obj.mapSeq λ_=>#[])).push (seqObj "tuple" [v].toArray 0)).push (seqObj "list" #[] 0)).get? d=some (seqObj "list" #[] e) :=
  Heap.get?_push_of_some _ (Heap.get?_push_of_some _ b)
 show wpAny (model prog w) A _ P E {s with heap:=((s.heap.update d (Obj.mapSeq λ_=>#[])).push (seqObj "tuple" [v].toArray 0)).push (seqObj "list" #[] 0)};have f:[v].toArray.size<2:=-_
 have g:(arrOf (SortSt.mk' general' (#[v].zip #[v]) #[] 7 none)).map (·.2)=#[v]:=by
  show (#[v].zip #[v]).map (·.2)=#[v];simp
 dsimp only;rw[b3 f,b3 f];refine wpAny_bind (wpAny_pure ?_);rw[StateT.run_pure];refine wpAny_bind (wpAny_pure (wpAny_bind (seqEpoch_at h rfl (wpAny_bind (listUpdate_at h rfl ?_ (hsz2:=?_))))))
 ·simp only[bne_self_eq_false,Bool.false_eq_true,if_false]
  refine wpAny_pure ?_;rw[g];exact k
 ·show ((arrOf (SortSt.mk' general' (#[v].zip #[v]) #[] 7 none)).map (·.2)).size<=sizeLine+1
  rw[g];show 1<=sizeLine+1;exact Nat.le_add_left _ _
theorem Qh{l:Addr}{v:Value}{Q:Value->Shared->Prop}(hl:s.heap.IsList l [v].toArray)(k:Q (.ref (s.heap.objs.size+1)) {s with heap:=sortedAll s.heap [v] #[v]}):wpAny (model prog w) A (call (.builtin "sorted") [.ref l]) Q E s:=by
 refine Calls.call_function_entry kind_sorted plain_sorted entry_sorted (args_sorted1 _) ?_;unfold Builtin.«sorted»;refine wpAny_bind (m:=checkCount "sorted" 1 1 _) (wpAny_pure (wpAny_bind (collect_list hl (wpAny_bind (wpAny_newList ?_)))));have b:((s.heap.push (seqObj "list" #[] 0)).update s.heap.objs.size (Obj.mapSeq (·++[v].toArray))).objs.size=s.heap.objs.size+1:=(Heap.size_update _ _ _).trans (size_push' _ _);have a:(((s.heap.push (seqObj "list" #[] 0)).update s.heap.objs.size (Obj.mapSeq (·++[v].toArray))).push (seqObj "list" [v].toArray 0)).get? (s.heap.objs.size+1)=some (seqObj "list" [v].toArray 0):=b▸Heap.get?_push_size _ rfl;show wpAny _ _ _ _ _ {s with heap:=((s.heap.push (seqObj "list" #[] 0)).update s.heap.objs.size (Obj.mapSeq (·++[v].toArray))).push (seqObj "list" [v].toArray 0)};rw[b];exact wpAny_bind (wpAny_holding (wpAny_call_entry slot_list_sort ⟨_,a,rfl⟩ entry_list_sort (VU a ⟨_,rfl,wpAny_pure ⟨_,rfl,k⟩⟩) (args_list_sort _)))
end
def ic(K:af)(H:Hp)(qs:List Addr)(ts:List T3):Prop:=qs.length=ts.length/\∀(i:Nat) q t,qs[i]?=some q->ts[i]?=some t->cW K H q (Hx t)
theorem ic.mono{K:af}{H c:Hp}{qs:List Addr}{ts:List T3}(s:aD H c)(h:ic K H qs ts):ic K c qs ts:=⟨h.1,λi q t a b=>s.dw (h.2 i q t a b)⟩
def pJ(ts:List T3):Prop:=∀(i j:Nat) (x y:T3),i<j->ts[i]?=some x->ts[j]?=some y->Dw y x=false
section
variable{X:Cx}
theorem RH:∀{qs:List Addr} {a:List Value},bX (qs.map V.ref) a->a=qs.map Value.ref
 |[],_,r=>by cases r;rfl
 |q::qs,_,r=>by
  cases r with
  |cons h t =>
   have h:_=Value.ref q:=h;rw[h,RH t];rfl
theorem KI:∀qs:List Addr,bX (qs.map V.ref) (qs.map Value.ref)
 |[]=>.nil
 |q::qs=>.cons rfl (KI qs)
end
section
variable{X:Cx}{pins:List (Addr×Obj)}{σ:St}{H:Hp}{s:Shared}
theorem Inv.ahG{d:Addr}{o:Obj}{u:HO}(I:Inv X pins σ H s)(m:H d=some (.Be o u))(F:∀f h,X.H₀ d≠some (.Be f h)):Inv X pins σ (upd H d u) s:=by
 have t:∀b v,H b=some v->(∀f h,v≠.Be f h)->b≠d:=λb v e D z=>by
  rw[z,m] at e;cases e;exact D _ _ rfl
 have j:∀b,H b=none->(upd H d u) b=none:=λb e=>by
  rw[aF (λz=>by rw[z,m] at e;cases e)];exact e
 have A:∀b y,H b=some (.own y)->(upd H d u) b=some (.own y):=λb y e=>by rw[aF (t b _ e (by intro _ _ z;cases z))];exact e
 have l:∀b g,H b=some (.tup g)->(upd H d u) b=some (.tup g):=λb g e=>by rw[aF (t b _ e (by intro _ _ z;cases z))];exact e
 refine⟨I.ok,I.os,I.bare,⟨I.base.keep,I.base.slot,λb f e n B=>j b (I.base.free b f e n B),I.base.there,λb g e=>l b g (I.base.tups b g e),λb f h e=>?_,λb C e=>?_⟩,I.loc,I.cell,j _ I.free,λx c e=>j c (I.uI x c e),λp E=>?_,λb v e=>?_,I.len⟩
 ·have k:=I.base.BD b f h e
  rw[aF (λz=>F f h (by rw[<- z];exact e))];exact k
 ·obtain⟨i,k⟩:=I.base.C9 b C e
  exact⟨i,by rw[aF (t b _ k (by intro _ _ z;cases z))];exact k⟩
 ·obtain⟨a,b,c⟩:=I.pin p E
  exact⟨a,j _ b,c⟩
 ·by_cases w:b=d
  ·subst w
   rw[av] at e;cases e;obtain⟨_,q⟩:=I.hok b _ m;exact q.stay (λc v _ r=>r) (λc r=>A c _ r) l
  ·rw[aF w] at e
   exact (I.hok b v e).stay (λc v _ r=>r) (λc r=>A c _ r) l
def aeo(t:TE):TE:=λσ H Q=>∃d kvs,H d=some (.dT kvs)/\t σ H λv H1=>∃o,H1 d=some (.Be o (.dT kvs))/\Q v (upd H1 d (.dT kvs))
theorem Yz{e:Expr}{t:TE}(h:PE X e t):PE X e (aeo t):=by
 intro pins s σ H Q I ⟨d,b,g,q⟩;refine gW (h pins s σ H _ I q) λv l ⟨x,m,a,c,o,i,j⟩=>⟨x,_,a.ahG i (λf k z=>?_),c,j⟩
 have:=I.base.BD d f k z
 rw[g] at this;cases this
end
section
variable{prog:Program}{w:World}{A:Around}{E:Value->Shared->Prop}{s:Shared}{d v it:Addr}{od:Obj}{es:Array DictEntry}{ep:Nat}
theorem Qi{Q:Value->Shared->Prop}(lo:(d==sysModules)=false)(c:s.heap.get? d=some od)(b:od.ExactDict)(e:od.data=.dict es ep)
 (k:Q (.ref s.heap.objs.size) {s with heap:=s.heap.push {cls:=.type "dict_items",data:=.fields #[.ref d]}}):wpAny (model prog w) A (call (.builtin "dict.items") [.ref d]) Q E s:=by
 have a:s.TypeIs (.ref d) "dict" := ⟨od,c,b.1⟩;refine wpAny_call_entry F.slot_dict_items a F.entry_dict_items ?_ (F.args_dict_items_1 _);unfold Builtin.«dict.items» Builtin.Dict.noArgs Builtin.Dict.showsAll;refine wpAny_bind (wpAny_bind (wpAny_notOrdered_dict a (wpAny_pure ?_)));rw[b5 (by rw[lo];exact aC)];exact wpAny_bind (wpAny_pure (wpAny_bind (wpAny_newObj_type (wpAny_pure ⟨_,rfl,k⟩))))
theorem Qj{Q:Value->Shared->Prop}(a:s.heap.IsItemsView v d)(c:s.heap.get? d=some od)(b:od.data=.dict es ep)
 (k:Q (.ref s.heap.objs.size) {s with heap:=s.heap.push {cls:=.type "dict_itemiterator",data:=.fields #[.none,.bool false,.ref d,.int 0 0,.int es.size 0,.int ep 0,.none,.none]}}):wpAny (model prog w) A (pyIter (.ref v)) Q E s:=by
 obtain⟨h,f,g,e⟩:=id a;have own:Builtin.Dict_items.ownsTuple "dict_itemiterator" = true:=!_
 refine wpAny_pyIter_slot a.typeIs F.slot_dict_items_iter (wpAny_call_entry F.slot_dict_items_iter a.typeIs F.entry_dict_items_iter ?_ (F.args_dict_items_iter_1 _));unfold Builtin.«dict_items.__iter__» Builtin.Dict_items.dictOf Builtin.Dict_items.newIterator;refine wpAny_bind (wpAny_pure (wpAny_bind (wpAny_bind (wpAny_field f e (x:=.ref d) rfl (wpAny_pure (wpAny_bind (wpAny_bind (wpAny_dictEntries c b (wpAny_bind (wpAny_dictEpoch c b ?_))))))))));simp only[own,if_true];refine wpAny_newObj_type (wpAny_pure ⟨_,rfl,"dict_itemiterator",_,⟨_,Heap.get?_push_size _ rfl,rfl⟩,F.slot_dict_itemiterator_next.lookup,?_⟩) ?_
 ·simpa [rawInt,Builtin.Dict_items.ownedTupleFields] using k
 ·simp[sizeOk,Builtin.Dict_items.ownedTupleFields,sizeLine_eq]
theorem Qk{i:Nat}{a:DictEntry}{ok p:Value}{Q:Option Value->Shared->Prop}(z:IsItemIter s.heap it d i es.size ep ok p)(h1:s.heap.get? d=some od)(V:od.data=.dict es ep)(Y:es[i]?=some a)
 (k:∀h',IsItemIterOut h' it d (i+1) es.size ep a.key a.val s.heap.objs.size->h'.get? s.heap.objs.size=some {cls:=.type "tuple",data:=.seq #[a.key,a.val]}->h'.objs.size=s.heap.objs.size+1 ->
  (∀b o,b≠it->s.heap.get? b=some o->h'.get? b=some o)->Q (some (.ref s.heap.objs.size)) {s with heap:=h'}):wpAny (model prog w) A (pyNext (.ref it)) Q E s:=by
 obtain⟨h,g,r,t,os⟩:=s;have u:Shared.TypeIs ⟨h,g,r,t,os⟩ (.ref it) "dict_itemiterator" := ⟨_,z,rfl⟩;have own:Builtin.Dict_items.ownsTuple "dict_itemiterator" = true:=!_
 obtain⟨hlt,hen⟩:=iZ.mp Y;unfold pyNext;refine wpAny_bind (wpAny_attempt (wpAny_callSpecial?_slot (name:=Str.ofString "__next__") u F.slot_dict_itemiterator_next (wpAny_call_entry F.slot_dict_itemiterator_next u F.entry_dict_itemiterator_next ?_ (F.args_dict_itemiterator_next_1 _))));refine wpAny_bind (wpAny_pure (wpAny_bind (wpAny_bind (wpAny_bind (wpAny_typeNameOfWhole_itemiter u (wpAny_pure (wpAny_bind (wpAny_fieldsOf z rfl ?_))))))));simp only[own,if_true];have nn:¬(Value.ref d==Value.none)=true:=aC;have G:¬(i:Int)<0:=∅
 show wpAny (model prog w) A.in1 (if (Value.ref d==Value.none)=true then _ else _) _ _ _;rw[b5 nn];refine wpAny_bind (wpAny_pure (wpAny_bind (wpAny_dictEntries h1 V ?_)));rw[b5 (-_)];refine wpAny_bind (wpAny_pure (wpAny_bind (wpAny_dictEpoch h1 V ?_)));rw[b5 (-_)];refine wpAny_pure ?_;simp only[G,if_false,gi,Y];refine wpAny_bind (wpAny_bind (wpAny_typeNameOfWhole_itemiter u (wpAny_pure (wpAny_bind (wpAny_isOneOf_itemiter u ?_)))));have t0:(rawInt ((i:Int)+1))=Value.int ((i+1:Nat):Int) 0:=by
  show Value.int ((i:Int)+1) 0=_;rw[show ((i+1:Nat):Int)=(i:Int)+1 by lia]
 show wpAny _ _ (setField (.ref it) 3 (rawInt ((i:Int)+1)) >>= _) _ _ ⟨h,g,r,t,os⟩;rw[t0];refine wpAny_bind (wpAny_setField_rec z (-_) λj y e=>wpAny_bind (wpAny_holding ?_));have y:IsItemIter j it d (i+1) es.size ep ok p:=y;have e:Heap.SameBut it h j:=e;have l:Shared.TypeIs ⟨j,g,r,t,os⟩ (.ref it) "dict_itemiterator" := ⟨_,y,rfl⟩;have P:j.objs.size=h.objs.size:=e.1;have N:it<h.objs.size:=Heap.lt_size z;refine wpAny_bind (wpAny_isOneOf_itemiter l (wpAny_bind (wpAny_isOneOf_itemiter l ?_)));show wpAny _ _ (Builtin.Dict_items.pairFromOwner (.ref it) 6 a.key a.val) _ _ ⟨j,g,r,t,os⟩;unfold Builtin.Dict_items.pairFromOwner;refine wpAny_bind (wpAny_newTuple ?_);obtain⟨f,m⟩:∃f,j.push {cls:=.type "tuple",data:=.seq #[a.key,a.val]}=f:=⟨_,rfl⟩;have v:IsItemIter f it d (i+1) es.size ep ok p:=m▸Heap.get?_push_of_some _ y;have J:f.get? h.objs.size=some {cls:=.type "tuple",data:=.seq #[a.key,a.val]}:=by
  rw[<- m,<- P];exact Heap.get?_push_size _ rfl
 have z5:f.objs.size=h.objs.size+1:=by rw[<- m,Heap.size_push,P]
 have k5:∀b o,b≠it->h.get? b=some o->f.get? b=some o:=λb o c q=>m▸Heap.get?_push_of_some _ (e.extBut b o c q);show wpAny _ _ (Builtin.Dict_items.ownedTupleIsFree (.ref it) >>= _) _ _ ⟨j.push {cls:=.type "tuple",data:=.seq #[a.key,a.val]},g,r,t,os⟩;rw[m,P];unfold Builtin.Dict_items.ownedTupleIsFree;refine wpAny_bind (wpAny_bind (wpAny_field v rfl (x:=.none) rfl (wpAny_pure ?_)));simp only[if_true];refine wpAny_bind (wpAny_field v rfl (x:=ok) rfl (wpAny_bind (wpAny_field v rfl (x:=p) rfl ?_)));refine wpAny_bind (wpAny_setField_rec v (-_) λC K S=>?_);have K:IsItemIter C it d (i+1) es.size ep a.key p:=K;refine wpAny_bind (wpAny_setField_rec K (-_) λD M R=>?_);have M:IsItemIter D it d (i+1) es.size ep a.key a.val:=M;refine wpAny_bind (wpAny_setField_rec M (-_) λO H L=>?_);have H:IsItemIterOut O it d (i+1) es.size ep a.key a.val h.objs.size:=H;refine wpAny_bind (wpAny_setField_rec H (-_) λn B I=>?_);have B:IsItemIterOut n it d (i+1) es.size ep a.key a.val h.objs.size:=B;have T:Heap.SameBut it f C:=S;have W:Heap.SameBut it C D:=R;have X:Heap.SameBut it D O:=L;have U:Heap.SameBut it O n:=I;have Z:∀b o,b≠it->f.get? b=some o->n.get? b=some o:=λb o c q=>U.extBut b o c (X.extBut b o c (W.extBut b o c (T.extBut b o c q)));refine wpAny_bind (wpAny_letGo (wpAny_pure (wpAny_pure ⟨_,rfl,wpAny_pure (k n B (Z _ _ (Nat.ne_of_gt N) J) ?_ λb o c q=>Z b o c (k5 b o c q))⟩)));show n.objs.size=h.objs.size+1;rw[U.1,X.1,W.1,T.1,z5]
theorem TH{i:Nat}{ok o:Value}{Q:Option Value->Shared->Prop}(l:A.handled=none)(f:IsItemIter s.heap it d i es.size ep ok o)(h:s.heap.get? d=some od)(g:od.data=.dict es ep)(n:es.size<=i)
 (k:∀h',Heap.ExtBut it s.heap h'->Q none {s with heap:=h'}):wpAny (model prog w) A (pyNext (.ref it)) Q E s:=by
 have c:s.TypeIs (.ref it) "dict_itemiterator" := ⟨_,f,rfl⟩;have own:Builtin.Dict_items.ownsTuple "dict_itemiterator" = true:=!_
 have j:¬(Value.ref d==Value.none)=true:=aC;have e:¬(i:Int)<0:=∅
 unfold pyNext;refine wpAny_bind (wpAny_attempt (wpAny_callSpecial?_slot (name:=Str.ofString "__next__") c F.slot_dict_itemiterator_next (wpAny_call_entry F.slot_dict_itemiterator_next c F.entry_dict_itemiterator_next ?_ (F.args_dict_itemiterator_next_1 _))));refine wpAny_bind (wpAny_pure (wpAny_bind (wpAny_bind (wpAny_bind (wpAny_typeNameOfWhole_itemiter c (wpAny_pure (wpAny_bind (wpAny_fieldsOf f rfl ?_))))))));simp only[own,if_true];show wpAny (model prog w) A.in1 (if (Value.ref d==Value.none)=true then _ else _) _ _ _;rw[b5 j];refine wpAny_bind (wpAny_pure (wpAny_bind (wpAny_dictEntries h g ?_)));rw[b5 (-_)];refine wpAny_bind (wpAny_pure (wpAny_bind (wpAny_dictEpoch h g ?_)));rw[b5 (-_)];refine wpAny_pure ?_;simp only[e,if_false,gi,Array.getElem?_eq_none n];refine wpAny_bind (wpAny_bind (wpAny_typeNameOfWhole_itemiter c (wpAny_pure ?_)));show wpAny _ _ (setField (.ref it) 2 .none >>= _) _ _ s;refine wpAny_bind (wpAny_setField f rfl (-_) ?_);unfold newExc newTuple raiseNew;refine wpAny_bind (wpAny_bind (wpAny_newObj_type (wpAny_bind (m:=firstArgMember _ _) (wpAny_of_eq (a:=Value.none) rfl (wpAny_newObj_type (wpAny_bind (wpAny_handled ?_)) (by size_fits)))) (by size_fits)));rw[show A.in1.handled=none from l];refine wpAny_bind (wpAny_pure (wpAny_throw ?_));refine wpAny_bind ?_;refine wpAny_isInstance (T:="StopIteration") (b:=true) ⟨_,Heap.get?_push_size _ rfl,rfl⟩ isSubtype_stop ?_;have up:=(Heap.SameBut.update s.heap it (Obj.mapFields λx=>x.setIfInBounds 2 Value.none)).extBut;exact wpAny_pure (k _ ((up.push _).push _))
end
noncomputable def HB(v d:Addr):HO:=.ext λh=>h.IsItemsView v d
section
variable{X:Cx}
def abA:V->List V->Hp->VK->Prop:=λx vs H Q=>∃d kvs,x=.ref d/\vs=[]/\H d=some (.dT kvs)/\∀v,H v=none->Q (.ref v) (upd H v (HB v d))
theorem VV:MtR X "dict.items" abA:=by
 intro g s C H x J v K Q I i u h;obtain⟨d,c,rfl,rfl,n,q⟩:=h;cases i;have f:=u.zero;subst f;obtain⟨z,lo,B,y,o,D,F,A,p,l,_⟩:=(show fM X.prog X.w H s.heap d (.dT c) from I.hok d _ n);refine Qi lo A p l ⟨.ref s.heap.objs.size,_,I.laid (a:=s.heap.objs.size) (o:=HB s.heap.objs.size d) (t':=s.toks) (λb o e=>Heap.get?_push_of_some _ e) (ay _) ⟨⟨_,Heap.get?_push_size _ rfl,rfl,rfl⟩,⟨_,Heap.get?_push_size _ rfl⟩,λE G ⟨m,t,j,r⟩ k=>⟨m,k _ t,j,r⟩⟩,rfl,q _ (I.hok.fresh (ay _))⟩
noncomputable def UP(d:Addr)(o:Obj)(kvs:List (List Key×V)):It :=
 ⟨λi H=>H d=some (.Be o (.dT kvs))/\i<kvs.length,
  λi H x H'=>∃p kb k v,H p=none/\x=.ref p/\H'=upd H p (.tup [.ref kb,v])/\kvs[i]?=some (k,v)/\H kb=some (.tup (k.map kV)),
  λi H=>H d=some (.Be o (.dT kvs))/\kvs.length<=i⟩
theorem HC{α β:Type}{F:α->β->Prop}:∀{l₁:List α} {l₂:List β},Paired F l₁ l₂->∀{i:Nat} {a:α},l₁[i]?=some a->∃b,l₂[i]?=some b/\F a b
 |_,_,.cons h t,0,a,e=>by cases e;exact⟨_,rfl,h⟩
 |_,_,.cons h t,i+1,a,e=>HC t (by simpa using e)
theorem Ql{P:Program}{w:World}{K:af}{B:List Expr}{x1}{W:Pos}(d a:Addr){o:Obj}{N:Array DictEntry}{ep:Nat}{kvs:List (List Key×V)}(Q:o.data=.dict N ep) :
 Turn P w K (.Tuple B x1 W) (UP d o kvs) [a] a (λi h=>∃ok x,IsItemIter h a d i N.size ep ok x) where
 mem:=-_
 obj:=λi h ⟨ok,x,st⟩ b g=>by
  have e:b=a:=by simpa using g
  subst e;exact⟨_,st,λv z=>by
   have z':Data.fields _=Data.cell v:=z;cases z'⟩
 keep:=λi h h' ⟨ok,x,st⟩ k=>⟨ok,x,k a (-_) _ st⟩
 item:=by
  intro X U Z hK j i l s σ H E I T ⟨ok,x,st⟩ hg;subst U Z hK;obtain⟨e,G⟩:=hg;obtain⟨D,z,lo,xs,p,o',es',ep',F,g3,L,Y,g6⟩:=(show fM X.prog X.w H s.heap d (.Be o (.dT kvs)) from I.hok d _ e);rw[D] at F;cases F;rw[Q] at L;cases L;obtain⟨R,O,f2,f3,f4,f5⟩:=T a (-_);obtain⟨⟨k2,J,u⟩,hx,hk1,hk2,g5⟩:=HC p (aa G);have he:N[i]?=some (entryOfKey (tupleKind (iw X.prog X.w)) (k2,J,u)):=by
   rw[<- gB,Y,aj,hx];rfl
  refine Qk st D Q he λh' io tu sz kp=>⟨_,rfl,wpAny_letOwnedTupleGo_items io λS e2 C=>?_⟩;have f:H s.heap.objs.size=none:=I.hok.fresh (ay _);have lt:a<s.heap.objs.size:=Heap.lt_size st;have A:∀b q,b≠a->s.heap.get? b=some q->S.get? b=some q:=λb q g r=>(C.2 b g).trans (kp b q g r);have M:∀b q,H b=some q->b≠a:=λb q r z=>by rw[z,R] at r;cases r
  have tu2:S.get? s.heap.objs.size=some {cls:=.type "tuple",data:=.seq #[.ref J,u]}:=(C.2 _ (Nat.ne_of_gt lt)).trans tu;have I1:Inv X l σ (upd H s.heap.objs.size (.tup [.ref J,kvs[i].2])) {s with heap:=S,toks:=s.toks}:=by
   refine I.step (g':=s.gens) (d':=s.drawn) (ch:=[a]) (λb g=>?_) (λb q _ _ j r _=>A b q (λz=>j (by simp[z])) r) (λb q _ _ j r _=>⟨q.slots,A b q (λz=>j (by simp[z])) r⟩)
    (λb q _ r n=>by rw[aF (bD (Heap.lt_size r))];exact n) (λb q j r=>⟨q,A b q (λz=>j (by simp[z])) r⟩) (λb ys r=>by rw[aF (aH r f)];exact r) (λb q y r=>by rw[aF (aH r f)];exact r)
    (λb ps r=>⟨#[],by rw[aF (aH r f),r];simp⟩) (λm hm=>?_) (λb q r=>?_) I.bare
   ·have e:b=a:=by simpa using g
    subst e;exact⟨f3,O,f4,f5⟩
   ·obtain⟨q,es2,ep2,hq,r⟩:=hm
    exact⟨q,es2,ep2,A _ q (bP O) hq,r⟩
   ·by_cases g:b=s.heap.objs.size
    ·subst g
     rw[av] at r;cases r;exact⟨by show 2<=sizeLine;decide,[.ref J,u],.cons rfl (.cons g5 .nil),⟨_,tu2,rfl,_,rfl⟩⟩
    ·rw[aF g] at r
     refine (I.hok b q r).stay (λc y j t=>?_) (λc t=>by rw[aF (aH t f)];exact t) λc ys t=>by rw[aF (aH t f)];exact t
     rcases j with e|e
     ·rw[e] at t ⊢;exact A b y (M b q r) t
     ·exact A c y (M c _ e) t
  refine⟨.ref s.heap.objs.size,_,I1,rfl,⟨_,J,kvs[i].1,kvs[i].2,f,rfl,rfl,aa G,hk2⟩,⟨_,_,e2⟩,λb g=>?_⟩;have e:b=a:=by simpa using g
  subst e;rw[aF (bD lt)];exact R
 done:=by
  intro X U Z hK j i l s σ H E I T ⟨ok,x,st⟩ hg;subst U Z hK;obtain⟨e,hle⟩:=hg;obtain⟨D,z,lo,xs,p,o',es',ep',F,g3,L,Y,g6⟩:=(show fM X.prog X.w H s.heap d (.Be o (.dT kvs)) from I.hok d _ e);rw[D] at F;cases F;rw[Q] at L;cases L;obtain⟨R,O,f2,f3,f4,f5⟩:=T a (-_);have hl:N.size=kvs.length:=by
   have:=e8 List.length Y
   rw[ah,<- Paired.length p] at this
   simpa using this
  exact TH (I.ok.hd j) st D Q ∅ λh' eb=>⟨rfl,I.turned (t':=s.toks) (λb o g e=>eb b o g e) R O f3 f4 f5⟩
 self:=λ_ _ _ _ _ ⟨_,_,st⟩ h=>kcp_self st h
def abD(td:TE):TI:=λσ H R=>td σ H λx H1=>∃v d kvs,x=.ref v/\H1 v=some (HB v d)/\H1 d=some (.dT kvs)/\∀o,R (UP d o kvs) (upd H1 d (.Be o (.dT kvs)))
theorem VW{l:Expr}{C:TE}{g:List Expr}{x1}{j:Pos}(hl:PE X l C):PI X (.Tuple g x1 j) l (abD C):=by
 intro c s B H R I h;refine gW (hl c s B H _ I h) λv a ⟨x,m,k,L,Q⟩=>?_;obtain⟨r,d,f,e,O,t,q⟩:=Q;subst e;cases L;obtain⟨z,lo,E,A,o,J,N,i,G,n,F⟩:=(show fM X.prog X.w m a.heap d (.dT f) from k.hok d _ t);obtain⟨P,_,_⟩:=(show fM X.prog X.w m a.heap r (HB r d) from k.hok r _ O);have D:Inv X c B (upd m d (.Be o (.dT f))) a:=k.write (t':=a.toks) (h':=a.heap) (x:=d) (e:=d) (by rw[t];exact lF) (.inl rfl) (λb u _ q=>q) ⟨o,i⟩ ⟨i,z,lo,E,Paired.XI A λp q y=>⟨y.1,by rw[aF (m5 y.2.1 t (by intro z;cases z))];exact y.2.1,y.2.2⟩,o,J,N,i,G,n,F⟩;have M:(upd m d (.Be o (.dT f))) a.heap.objs.size=none:=by
  rw[aF (bP (bD (Heap.lt_size i)))];exact k.hok.fresh (ay _)
 refine Qj P i n ?_;refine⟨a.heap.objs.size,[a.heap.objs.size],_,_,_,rfl,D.kept (t':=a.toks) λb o e=>Heap.get?_push_of_some _ e,Ql d _ n,⟨_,_,Heap.get?_push_size _ rfl⟩,λb K=>?_,q o⟩;have e:b=a.heap.objs.size:=by simpa using K
 subst e;exact D.U5 (ay _) M
theorem abE{d:Addr}{o:Obj}{kvs:List (List Key×V)}{a:Hp}(h:a d=some (.Be o (.dT kvs))):∀i H,i<kvs.length->aD a H->(UP d o kvs).go i H:=λi H b s=>⟨s _ _ h,b⟩
theorem VX{d:Addr}{o:Obj}{kvs:List (List Key×V)}{a:Hp}(h:a d=some (.Be o (.dT kvs))):∀H,aD a H->(UP d o kvs).stop kvs.length H:=λH s=>⟨s _ _ h,ay _⟩
end
end L2
namespace L2
theorem VY{X:Cx}(K:af)(a:X.K=K):wN X (PySem.binaryOp .Add) (ZT K):=by
 subst a;exact XZ
end L2
namespace TW
open PySem L2 PyProof.Rows
theorem LR{xs f:List T3}(h:xs.Perm f)(r:pJ xs)(w:pJ f):xs=f:=by
 have c:∀a b:T3,Dw a b=false->Dw b a=false->a=b:=λa b m g=>by
  have e:¬Dw a b=true:=by rw[m];exact aC
  have d:¬Dw b a=true:=by rw[g];exact aC
  rw[xZ] at e d;obtain⟨x,o,v⟩:=a;obtain⟨A,t,p⟩:=b;have z:x=A:=by simp at e d;lia
  subst z;have q:o=t:=by simp at e d;lia
  subst q;have B:v=p:=by simp at e d;lia
  rw[B]
 have n:∀{l:List T3},pJ l->l.Pairwise λa b=>Dw b a=false:=λ{l} u=>by
  rw[p5];intro i j s y k;exact u i j _ _ k (aa s) (aa y)
 exact List.Perm.eq_of_pairwise (λa b _ _ m g=>c a b g m) (n r) (n w) h
noncomputable def iX(t:T3):List Key×V:=([.inl t.1,.inl t.2.1],.int t.2.2)
noncomputable abbrev keyOf(h c:Int):List Key:=[.inl h,.inl c]
def iz(ts:List T3):Prop:=(ts.map λt=>(t.1,t.2.1)).Nodup
noncomputable def Co(ts:List T3)(h c:Int):Option Int:=(ts.find? λt=>decide (t.1=h/\t.2.1=c)).map λt=>t.2.2
noncomputable def put3(ts:List T3)(h c r:Int):List T3:=(ts.filter λt=>!decide (t.1=h/\t.2.1=c))++[(h,c,r)]
theorem VZ{ts:List T3}(n:iz ts){h c r:Int}:iz (put3 ts h c r):=by
 unfold iz put3;rw[aO,jM];refine⟨?_,-_,λx f y d=>?_⟩
 ·exact List.Nodup.sublist ((List.filter_sublist).map _) n
 ·obtain⟨t,b,rfl⟩:=aS.mp f
  have a:=(bU.mp b).2;have e:y=(h,c):=by simpa using d
  rw[e];intro z;have g:t.1=h/\t.2.1=c:=⟨(Prod.mk.inj z).1,(Prod.mk.inj z).2⟩;simp[g] at a
theorem oQ(t:T3)(h c:Int):(iX t).1=keyOf h c↔t.1=h/\t.2.1=c:=by
 unfold iX keyOf;constructor
 ·intro e
  have b:=(List.cons.inj e).1;have a:=(List.cons.inj (List.cons.inj e).2).1;exact⟨Sum.inl.inj b,Sum.inl.inj a⟩
 ·rintro⟨rfl,rfl⟩
  rfl
theorem HD:∀(ts:List T3) (h c:Int),Dp (ts.map iX) (keyOf h c)=(Co ts h c).map V.int
 |[],h,c=>rfl
 |t::ts,h,c=>by
  rw[bT];by_cases e:t.1=h/\t.2.1=c
  ·rw[zP ((oQ t h c).mpr e)]
   unfold Co;rw[List.find?_cons_of_pos (by simp[e])];rfl
  ·rw[zQ (λz=>e ((oQ t h c).mp z)),HD ts h c]
   unfold Co;rw[List.find?_cons_of_neg (by rw[eL e];exact aC)]
noncomputable def Dy(h c r:Int)(t:T3):T3:=if t.1=h/\t.2.1=c then (h,c,r) else t
theorem V0(h c r:Int)(t:T3):((Dy h c r t).1,(Dy h c r t).2.1)=(t.1,t.2.1):=by
 unfold Dy;split
 ·rename_i e
  show (h,c)=(t.1,t.2.1);rw[e.1,e.2]
 ·rfl
theorem KJ{h c r:Int}:∀{ts:List T3},iz ts->(∃t∈ts,t.1=h/\t.2.1=c)->(ts.map (Dy h c r)).Perm (put3 ts h c r)
 |[],_,⟨_,h,_⟩=>by cases h
 |t::ts,n,g=>by
  have d:iz ts:=(mW.mp n).2;have j:=(mW.mp n).1;unfold put3;by_cases e:t.1=h/\t.2.1=c
  ·have b:∀u∈ts,¬(u.1=h/\u.2.1=c):=λu hu z=>j (aS.mpr ⟨u,hu,Prod.ext (z.1.trans e.1.symm) (z.2.trans e.2.symm)⟩)
   have i:ts.map (Dy h c r)=ts:=by
    refine (cF λu hu=>?_).trans (qG ts);unfold Dy;rw[b5 (b u hu)];rfl
   have f:ts.filter (λu=>!decide (u.1=h/\u.2.1=c))=ts:=List.filter_eq_self.mpr λu hu=>by rw[eL (b u hu)];rfl
   rw[bT,i,dg,b5 (by simp[e]),f];have a:Dy h c r t=(h,c,r):=by unfold Dy;rw[b3 e]
   rw[a];exact (List.perm_append_comm (l₁:=[(h,c,r)]) (l₂:=ts))
  ·have a:Dy h c r t=t:=by unfold Dy;rw[b5 e]
   rw[bT,a,dg,b3 (by rw[eL e];rfl)];refine List.Perm.cons t (KJ d ?_);obtain⟨u,hu,z⟩:=g;rcases bx.mp hu with rfl|hu
   ·exact ee z e
   ·exact⟨u,hu,z⟩
theorem KL{xs a:List T3}(b:xs.Perm a)(h c r:Int):(put3 xs h c r).Perm (put3 a h c r):=(b.filter _).append_right _
theorem Qm{ts i:List T3}{h c r:Int}(f:ts.Perm i)(n:iz ts):∃b,putK (ts.map iX) (keyOf h c) (V.int r)=b.map iX/\b.Perm (put3 i h c r)/\iz b:=by
 unfold putK;by_cases a:((ts.map iX).any λg=>decide (g.1=keyOf h c))=true
 ·rw[b3 a]
  refine⟨ts.map (Dy h c r),?_,?_,?_⟩
  ·rw[cz,cz]
   refine cF λt _=>?_;show (if (iX t).1=keyOf h c then ((iX t).1,V.int r) else iX t)=iX (Dy h c r t);unfold Dy;by_cases e:t.1=h/\t.2.1=c
   ·rw[b3 ((oQ t h c).mpr e),b3 e,(oQ t h c).mpr e]
    rfl
   ·rw[b5 (λz=>e ((oQ t h c).mp z)),b5 e]
  ·refine (KJ n ?_).trans (KL f h c r)
   obtain⟨g,m,k⟩:=xS.mp a;obtain⟨t,d,rfl⟩:=aS.mp m;exact⟨t,d,(oQ t h c).mp (ff k)⟩
  ·unfold iz
   rw[cz]
   have:((λt:T3=>(t.1,t.2.1))∘Dy h c r)=λt:T3=>(t.1,t.2.1):=funext λt=>V0 h c r t
   rw[this];exact n
 ·rw[b5 a]
  have l:∀t∈ts,¬(t.1=h/\t.2.1=c):=λt d z=>a (xS.mpr ⟨iX t,aS.mpr ⟨t,d,rfl⟩,eH ((oQ t h c).mpr z)⟩);have e:put3 ts h c r=ts++[(h,c,r)]:=by
   unfold put3;rw[List.filter_eq_self.mpr λu j=>by rw[eL (l u j)];rfl]
  refine⟨ts++[(h,c,r)],by rw[aO];rfl,e▸KL f h c r,e▸VZ n⟩
structure qI(C:Addr)(H:Hp)(p d:Addr)(ts:List T3):Prop where
 ob:∃dx,H p=some (.ins C dx [("kept",.ref d)])
 di:H d=some (.dT (ts.map iX))
theorem qI.mono{C:Addr}{H a:Hp}{p d:Addr}{ts:List T3}(s:aD H a)(h:qI C H p d ts):qI C a p d ts:=by
 obtain⟨⟨c,e⟩,b⟩:=h;exact⟨⟨c,s _ _ e⟩,s _ _ b⟩
def abF(K:af)(H:Hp)(l:Addr)(ts:List T3):Prop:=∃qs:List Addr,H l=some (.lst (qs.map V.ref))/\ic K H qs ts
def uN(u:HO):Prop:=∀xs,u≠.tup xs/\∀o,u≠.Be o (.tup xs)
theorem jD{a:List V}:uN (.lst a):=λb=>⟨λe=>(by cases e),λo e=>(by cases e)⟩
theorem aep{kvs:List (List Key×V)}:uN (.dT kvs):=λa=>⟨λe=>(by cases e),λo e=>(by cases e)⟩
theorem abG{o:Obj}{kvs:List (List Key×V)}:uN (.Be o (.dT kvs)):=λa=>⟨λe=>(by cases e),λo e=>(by cases e)⟩
theorem nj{C b:Addr}{a:List (Str×V)}:uN (.ins C b a):=λc=>⟨λe=>(by cases e),λo e=>(by cases e)⟩
theorem cW.past{K:af}{H g:Hp}{z a:Addr}{u:HO}{xs:List V}(f:H z=some u)(d:uN u)(c:∀b v,H b=some v->b≠z->g b=some v)(h:cW K H a xs):cW K g a xs:=by
 rcases h with (h|⟨o,h⟩)|h
 ·exact .inl (.inl (c _ _ h λe=>by subst e;rw[f] at h;exact (d xs).1 (aN h)))
 ·exact .inl (.inr ⟨o,c _ _ h λe=>by subst e;rw[f] at h;exact (d xs).2 o (aN h)⟩)
 ·exact .inr h
theorem ic.past{K:af}{H d:Hp}{z:Addr}{u:HO}{qs:List Addr}{ts:List T3}(f:H z=some u)(e:uN u)(c:∀b v,H b=some v->b≠z->d b=some v)(h:ic K H qs ts):ic K d qs ts :=
 ⟨h.1,λi q t a b=>cW.past f e c (h.2 i q t a b)⟩
theorem cu{H:Hp}{z:Addr}{o:HO}:∀b v,H b=some v->b≠z->(upd H z o) b=some v:=λb v e a=>by rw[aF a];exact e
theorem ic.snoc{K:af}{H:Hp}{qs:List Addr}{ts:List T3}{q:Addr}{t:T3}(h:ic K H qs ts)(d:cW K H q (Hx t)):ic K H (qs++[q]) (ts++[t]):=by
 refine⟨by rw[az,az,h.1];rfl,λi a u b c=>?_⟩;by_cases z:i<qs.length
 ·rw[bI z] at b
  rw[bI (h.1▸z)] at c;exact h.2 i a u b c
 ·have e:i=qs.length:=by
   have:=(ai.mp b).1
   rw[az] at this
   have:i<qs.length+1:=this
   lia
  subst e;rw[mX] at b;rw[h.1,mX] at c;cases b;cases c;exact d
theorem ic.nil{K:af}{H:Hp}:ic K H [] []:=⟨rfl,λi q t a=>by cases a⟩
noncomputable def two(f:Bool->Addr):List V:=[.ref (f false),.ref (f true)]
theorem Qn{H:Hp}{a b:Addr}{u v:HO}(d:H a=some u)(c:H b=some v)(n:u≠v):a≠b:=λe=>by
 subst e;rw[d] at c;exact n (aN c)
structure Keeps(K:af)(H:Hp)(lk:Addr)(kk:Bool->Addr)(ks:Bool->List T3):Prop where
 hk:H lk=some (.lst (two kk))
 Kp:∀b,abF K H (kk b) (ks b)
 nk:∀b,kk b≠lk
end TW
namespace L2
open PySem PySem.W PySem.Spec PyProof.Rows
end L2
namespace TW
open PySem L2 PyProof.Rows
theorem Nv{J:It}{n:Nat}{o:List (Option Nat)}{g:TG}{E:TT}{I:TE}{B:L2.St}{C:Hp->Prop}{k:Hp}{d:Addr}(D:Nat->V)(f:Nat->Option V)(j:k d=none)
 (go:∀i H,i<n->aD k H->J.go i H) (stop:∀H,aD k H->J.stop n H) (LA:∀i H x a,i<n->aD k H->J.LA i H x a->a=H/\x=D i) (K:n<=1000)
 (step:∀(i:Nat) (H:Hp) (R:V->Hp->Prop) (S:Hp->Prop),i<n->aD k H->(∀y a,aD H a->f i=some y->R y a)->(∀a,aD H a->f i=none->S a) ->
  g (D i) (jQ o B) H λc z=>E c z λb l=>if b=true then I c l R else S l)
 (u:∀H,aD k H->H d=some (.lst ((au n).filterMap f))->C H) :
 ∃W:Nat->Nat->Hp->Prop,(∃m,W 0 m (upd k d (.lst [])))/\∀i m H,W i m H ->
  (J.stop i H/\C H)∨(J.go i H/\∀x a,J.LA i H x a->g x (jQ o B) a λc z=>E c z λb l=>if b=true then I c l λy A=>∃xs,A d=some (.lst xs)/\xs.length<sizeLine /\
   ∃r,r<m/\W (i+1) r (upd A d (.lst (xs++[y]))) else ∃r,r<m/\W (i+1) r l):=by
 have p:∀i,((au i).filterMap f).length<=i:=λi=>by
  have:=List.length_filterMap_le f (au i)
  rwa [aX] at this
 refine fG (n:=n) (λi v _=>v=(au i).filterMap f) j go stop rfl ?_ ?_
 ·rintro i v H q s t rfl x a L
  obtain⟨rfl,rfl⟩:=LA i H x a q s L;have e:(au (i+1)).filterMap f=(au i).filterMap f++(f i).toList:=by
   rw[gz,List.filterMap_append];cases h:f i <;> simp[h]
  refine step i a _ _ q s (λy A F w=>?_) (λl G w=>?_)
  ·refine dR j q (s.trans F) (F _ _ t) (ck (aJ (p i) (aJ (ji q) K))) ?_
   show _=(au (i+1)).filterMap f;rw[e,w];rfl
  ·refine gv q (s.trans G) (G _ _ t) ?_
   show _=(au (i+1)).filterMap f;rw[e,w];simp
 ·rintro v H s t rfl
  exact u H s t
theorem rV{α β:Type}:∀(xs:List α) (F:α->Option β),(au xs.length).filterMap (λi=>xs[i]?.bind F)=xs.filterMap F
 |[],F=>rfl
 |x::xs,F=>by
  have e:((λi:Nat=>(x::xs)[i]?.bind F)∘Nat.succ)=λi=>xs[i]?.bind F:=funext λi=>-_
  rw[bq,List.range_succ_eq_map,dP,List.filterMap_map,e,rV xs F,dP];rfl
theorem TJ{K:af}{l d:Addr}{xs:List Int}{h:List (Option Nat)}{g:TG}{B:TT}{D:TE}{w:L2.St}{z:Hp->Prop}{k:Hp}(F:Int->Option V)(q:k d=none)(hl:bK K k l (xs.map V.int))(G:xs.length<=1000)
 (step:∀(x:Int) (H:Hp) (R:V->Hp->Prop) (S:Hp->Prop),x∈xs->aD k H->(∀y a,aD H a->F x=some y->R y a)->(∀a,aD H a->F x=none->S a) ->
  g (.int x) (jQ h w) H λc v=>B c v λb o=>if b=true then D c o R else S o)
 (r:∀H,aD k H->H d=some (.lst (xs.filterMap F))->z H) :
 ∃W:Nat->Nat->Hp->Prop,(∃m,W 0 m (upd k d (.lst [])))/\∀i m H,W i m H ->
  ((LB K l).stop i H/\z H)∨((LB K l).go i H/\∀x a,(LB K l).LA i H x a->g x (jQ h w) a λc v=>B c v λb o=>if b=true then D c o λy E=>∃xs,E d=some (.lst xs)/\xs.length<sizeLine /\
    ∃p,p<m/\W (i+1) p (upd E d (.lst (xs++[y]))) else ∃p,p<m/\W (i+1) p o):=by
 have C:(xs.map V.int).length=xs.length:=ah _;refine Nv (n:=xs.length) (λi=>(xs.map V.int).getD i .fE) (λi=>xs[i]?.bind F) q (λi H f s=>zU hl i H (by rw[C];exact f) s) (λH s=>by have:=qg hl H s;rwa [C] at this) (λi H x a f s j=>?_) G (λi H R S f s L I=>?_) (λH s J=>r H s (by rw[<- rV];exact J))
 ·obtain⟨rfl,j⟩:=j
  have j:=j _ (s.seq hl);exact⟨rfl,by rw[aq,j];rfl⟩
 ·have e:(xs.map V.int).getD i .fE=V.int xs[i]:=by rw[aq,aj,aa f];rfl
  have A:xs[i]?=some xs[i]:=aa f;rw[e];refine step _ H R S (aK f) s (λy a u t=>L y a u ?_) (λa u t=>I a u ?_)
  ·show xs[i]?.bind F=_
   rw[A];exact t
  ·show xs[i]?.bind F=_
   rw[A];exact t
theorem TL(xs:List Int)(f:Int->Bool):xs.filterMap (λx=>if f x=true then some (V.int x) else none)=(xs.filter f).map V.int:=by
 induction xs with
 |nil=>rfl
 |cons x xs a =>
  by_cases h:f x=true
  ·rw[sM h,bT,<- a,dP];simp only[h,if_true]
  ·rw[sN h,<- a,dP];simp only[h];rfl
theorem sW{K:af}{l d:Addr}{xs:List Int}{e:List (Option Nat)}{g:TG}{v:TT}{w:TE}{t:L2.St}{u:Hp->Prop}{h:Hp}(f:Int->Bool)(n:h d=none)(hl:bK K h l (xs.map V.int))(A:xs.length<=1000)
 (step:∀(x:Int) (H:Hp) (R:V->Hp->Prop) (S:Hp->Prop),x∈xs->aD h H->(∀a,aD H a->f x=true->R (.int x) a)->(∀a,aD H a->f x=false->S a) ->
  g (.int x) (jQ e t) H λc r=>v c r λb j=>if b=true then w c j R else S j)
 (o:∀H,aD h H->H d=some (.lst ((xs.filter f).map V.int))->u H) :
 ∃W:Nat->Nat->Hp->Prop,(∃m,W 0 m (upd h d (.lst [])))/\∀i m H,W i m H ->
  ((LB K l).stop i H/\u H)∨((LB K l).go i H/\∀x a,(LB K l).LA i H x a->g x (jQ e t) a λc r=>v c r λb j=>if b=true then w c j λy z=>∃xs,z d=some (.lst xs)/\xs.length<sizeLine /\
    ∃k,k<m/\W (i+1) k (upd z d (.lst (xs++[y]))) else ∃k,k<m/\W (i+1) k j):=by
 refine TJ (λx=>if f x=true then some (V.int x) else none) n hl A (λx H R S B s E C=>step x H R S B s (λa q p=>E _ a q (b3 p)) (λa q p=>C a q (b5 (by rw[p];exact aC)))) (λH s D=>o H s (by rw[<- TL];exact D))
def Z2(u:HO):Prop:=∀xs,u≠.lst xs/\∀o,u≠.Be o (.lst xs)
theorem V1{C b:Addr}{a:List (Str×V)}:Z2 (.ins C b a):=λc=>⟨λe=>(by cases e),λo e=>(by cases e)⟩
theorem bK.past{K:af}{H g:Hp}{z a:Addr}{u:HO}{xs:List V}(f:H z=some u)(d:Z2 u)(c:∀b v,H b=some v->b≠z->g b=some v)(h:bK K H a xs):bK K g a xs:=by
 rcases h with (h|⟨o,h⟩)|h
 ·exact .inl (.inl (c _ _ h λe=>by subst e;rw[f] at h;exact (d xs).1 (aN h)))
 ·exact .inl (.inr ⟨o,c _ _ h λe=>by subst e;rw[f] at h;exact (d xs).2 o (aN h)⟩)
 ·exact .inr h
noncomputable def zY(c:Option Int):V:=(c.map V.int).getD .fE
theorem Dz(i:Int)(c:Option Int):aa3 (.int i) (zY c)=true:=by cases c <;> rfl
theorem V2(c:Option Int):zN (zY c)=true:=by cases c <;> rfl
theorem HE(xs:List Int):Gs .fE (xs.map V.int)=false:=by
 unfold Gs;rw[List.any_map,List.any_eq_false];intro x _;show ¬(S2 (.int x) .fE)=true;simp[S2]
noncomputable def kR(c:Option Int)(r:Int):Bool:=!decide (V.int r=zY c)
noncomputable def V3(ts:List T3)(so:Option Int)(nv:Int)(cP:Option Int)(os hs:List Int):List Int :=
 match so with
 |none=>os.filter (kR cP)
 |some to=>if to∈hs then [] else match Co ts nv to with
  |some r=>if r∈os then [r].filter (kR cP) else os.filter (kR cP)
  |none=>os.filter (kR cP)
noncomputable def HF(s to k c:Int):Bool:=if k=1 then decide (V.int c=V.int to) else if k=2 then !decide (V.int c=V.int s) else false
noncomputable def Bl(to k:Int):Option Int:=if k=1 then some to else none
theorem made{H:Hp}{x a C:Addr}{d:List (Str×V)}(e:H x=none)(b:H a=none)(c:a≠x):aD H (upd (upd (upd H a (.own x)) x (.ins C a [])) x (.ins C a d)):=by
 rw[Lr];exact (aD.new b).trans (aD.new (by rw[aF (bP c)];exact e))
theorem neT{b:Bool}(h:¬b=true):b=false:=by
 cases b
 ·rfl
 ·exact ee rfl h
end TW
namespace TX
open PySem PySem.StrLaws PySem.Builtin PySem.Builtin.Str
noncomputable abbrev cs(x:Str):List Nat:=x.cps.toList
end TX
namespace TX
open PySem PySem.StrLaws PySem.Builtin PySem.Builtin.Str PySem.NumText
noncomputable abbrev num(n:Int):Str:=Str.ofString (toString n)
end TX
namespace TX
open PySem PySem.StrLaws PySem.Builtin PySem.Builtin.Str
end TX
namespace L2
open PySem PySem.W PySem.Spec PyProof.Rows
theorem HG{α β:Type}{f g:α->Option β}:∀{l:List α},(∀x∈l,f x=g x)->l.filterMap f=l.filterMap g
 |[],_=>rfl
 |x::l,h=>by
  rw[dP,dP,h x (cE ..),HG λy a=>h y (aZ _ a)]
theorem TM{α:Type}(xs:List α):((au xs.length).map (λk=>xs.length-1-k)).filterMap (λi=>xs.toArray[i]?)=xs.reverse:=by
 have b:(au xs.length).map (λk=>xs.length-1-k)=(au xs.length).reverse:=by
  refine xR (-_) λi b a=>?_;simp at b a;simp[List.getElem_reverse]
 rw[b,List.filterMap_reverse];congr 1;refine List.ext_getElem? λi=>?_;have a:(au xs.length).filterMap (λi=>xs.toArray[i]?)=xs:=by
  have:=TW.rV xs (λx=>some x)
  rw[List.filterMap_some] at this;refine Eq.trans (HG λi c=>?_) this;rw[List.getElem?_toArray];cases xs[i]? <;> rfl
 rw[a]
theorem HH(a:List Value):slicePick a.toArray none none (some (-1))=a.reverse.toArray:=by
 unfold slicePick;congr 1;have e:sliceBounds none none (some (-1)) a.toArray.size=((a.length:Int)-1,-1,-1):=by
  simp[sliceBounds]
 rw[e,<- TM a];congr 1;unfold sliceRange;by_cases h:a.length=0
 ·simp[h]
 ·have c:((a.length:Int)-1) > -1:=∅
  have b:((a.length:Int)-1 - -1 - -1-1)/(- -1)=(a.length:Int):=by
   have:((a.length:Int)-1 - -1 - -1-1)=(a.length:Int):=∅
   rw[this];show (a.length:Int)/1=_;exact Int.ediv_one _
  simp only[show ¬((-1:Int) > 0) by decide,if_false,c,if_true,b,gi];refine cF λk d=>?_
  have:=cT.mp d
  lia
section
variable{X:Cx}
def abH(K:af)(te:TE)(ts:TO):TE:=λσ H Q=>te σ H λx H1=>ts σ H1 λo H2=>∃a xs,x=.ref a/\o=some (-1)/\bK K H2 a xs/\∀p,H2 p=none->Q (.ref p) (upd H2 p (.lst xs.reverse))
theorem TN{xs:List V}{us:List Value}(h:bX xs us):bX xs.reverse us.reverse:=by
 induction h with
 |nil=>exact .nil
 |cons r t a =>
  rw[List.reverse_cons,List.reverse_cons];exact a.append (.cons r .nil)
theorem Ny{e st:Expr}{n:TE}{ts:TO}{p i:Pos}(L:PE X e n)(D:PO X (some st) ts):PE X (.Subscript e (.Slice none none (some st) p) i) (abH X.K n ts):=by
 intro c s f H Q I h;refine Subscript_ (gW (L c s f H _ I h) λv C ⟨x,G,y,B,N⟩=>?_);refine wpAny_Slice ?_;rw[evalPart_none];refine wpAny_pure ?_;refine wpAny_pure ?_;refine gW (D c C f G _ y N) λm d ⟨o,O,P,F,a,t,M,z,E,q⟩=>?_;subst M z;cases B;have j:Inv X c f O {d with heap:=d.heap.push {cls:=.type "slice",data:=.fields #[.none,.none,m]}}:=P.kept (t':=d.toks) λb u q=>Heap.get?_push_of_some _ q;obtain⟨g,r,l,J⟩:=j.list E;have k:=r.length;show wpAny (model X.prog X.w) X.A (subscriptTail e (.Slice none none (some st) p) (.ref a) (.ref d.heap.objs.size)) (EP X c f Q) X.xe {d with heap:=d.heap.push {cls:=.type "slice",data:=.fields #[.none,.none,m]}};refine tail_any (ops:=[.ref a,.ref d.heap.objs.size]) l.isList.typeIs slot_list_getitem.lookup ?_ (by with_unfolding_all rfl);refine wpAny_getItem_list_slice l.isList (Heap.IsSliceOf.new ..) .none .none F (-_) ?_ (by rw[aL] <;> lia);rw[HH];refine⟨.ref _,_,j.laid (t':=d.toks) (o:=.lst t.reverse) (λb u q=>Heap.get?_push_of_some _ q) (ay _) ?_,rfl,q _ (j.hok.fresh (ay _))⟩;exact⟨by rw[List.length_reverse];exact J,g.reverse,0,TN r,Heap.get?_push_size _ rfl⟩
end
end L2
namespace TW
open PySem L2 PyProof.Rows
theorem RI{K:af}{l c:Addr}{xs:List V}{h:List (Option Nat)}{g:TG}{z:TT}{A:TE}{v:L2.St}{w:Hp->Prop}{k:Hp}(f:Nat->Option V)(q:k c=none)(hl:bK K k l xs)(C:xs.length<=1000)
 (step:∀(i:Nat) (x:V) (H:Hp) (R:V->Hp->Prop) (S:Hp->Prop),xs[i]?=some x->aD k H->(∀y d,aD H d->f i=some y->R y d)->(∀d,aD H d->f i=none->S d) ->
  g x (jQ h v) H λa u=>z a u λb o=>if b=true then A a o R else S o)
 (r:∀H,aD k H->H c=some (.lst ((au xs.length).filterMap f))->w H) :
 ∃W:Nat->Nat->Hp->Prop,(∃m,W 0 m (upd k c (.lst [])))/\∀i m H,W i m H ->
  ((LB K l).stop i H/\w H)∨((LB K l).go i H/\∀x d,(LB K l).LA i H x d->g x (jQ h v) d λa u=>z a u λb o=>if b=true then A a o λy B=>∃xs,B c=some (.lst xs)/\xs.length<sizeLine /\
    ∃p,p<m/\W (i+1) p (upd B c (.lst (xs++[y]))) else ∃p,p<m/\W (i+1) p o):=by
 refine Nv (n:=xs.length) (λi=>xs.getD i .fE) f q (zU hl) (qg hl) (λi H x d t s j=>?_) C (λi H R S t s E D=>?_) r
 ·obtain⟨rfl,j⟩:=j
  have j:=j _ (s.seq hl);exact⟨rfl,by rw[aq,j];rfl⟩
 ·have e:xs.getD i .fE=xs[i]:=by rw[aq,aa t];rfl
  rw[e];exact step i _ H R S (aa t) s E D
theorem HJ{α β:Type}(xs:List α)(h:α->β):(au xs.length).filterMap (λi=>xs[i]?.map h)=xs.map h:=by
 have e:∀l:List α,l.filterMap (λx=>some (h x))=l.map h:=λl=>by
  induction l with
  |nil=>rfl
  |cons a l b=>rw[dP,b];rfl
 rw[<- e,<- rV xs (λx=>some (h x))];refine HG λi _=>?_;cases xs[i]? <;> rfl
inductive Role where
 |cV|cK|c6|f9 (i:Nat)|uO|rows (g:Nat)|i0|book (g:Nat)|fh (g:Nat)
 |bg|groups|jG|handed (c:Nat)|cD|bS (i:Nat)|letter (i:Nat)|done (i:Nat)|aE (i:Nat)|eX
 deriving DecidableEq
structure vD(H:Hp)(loc:Role->Addr)(ob:Role->Option HO):Prop where
 get:∀r o,ob r=some o->H (loc r)=some o
 inj:∀r q,ob r≠none->ob q≠none->loc r=loc q->r=q
noncomputable def iA(ob:Role->Option HO)(r:Role)(o:HO):Role->Option HO:=λq=>if q=r then some o else ob q
noncomputable def qJ(loc:Role->Addr)(r:Role)(a:Addr):Role->Addr:=λq=>if q=r then a else loc q
theorem dB{ob:Role->Option HO}{r:Role}{o:HO}:iA ob r o r=some o:=b3 rfl
theorem cJ{ob:Role->Option HO}{r q:Role}{o:HO}(h:q≠r):iA ob r o q=ob q:=b5 h
theorem fD{b:Role->Addr}{r:Role}{a:Addr}:qJ b r a r=a:=b3 rfl
theorem eY{b:Role->Addr}{r q:Role}{a:Addr}(h:q≠r):qJ b r a q=b q:=b5 h
def Fp(loc:Role->Addr)(ob:Role->Option HO)(b:Addr):Prop:=∃r,ob r≠none/\loc r=b
section
variable{H H':Hp}{loc:Role->Addr}{ob:Role->Option HO}
theorem vD.mono(h:vD H loc ob)(s:aD H H'):vD H' loc ob:=⟨λr o e=>s _ _ (h.get r o e),h.inj⟩
theorem vD.keep(h:vD H loc ob)(k:∀b o,H b=some o->Fp loc ob b->H' b=some o):vD H' loc ob :=
 ⟨λr o e=>k _ _ (h.get r o e) ⟨r,by rw[e];exact aM o,rfl⟩,h.inj⟩
theorem vD.set(h:vD H loc ob){r:Role}(d:ob r≠none)(o:HO):vD (upd H (loc r) o) loc (iA ob r o):=by
 have b:∀q,iA ob r o q≠none->ob q≠none:=λq c=>by
  by_cases e:q=r
  ·rw[e];exact d
  ·rw[cJ e] at c;exact c
 refine⟨λq u e=>?_,λq a g f e=>h.inj q a (b q g) (b a f) e⟩;by_cases z:q=r
 ·subst z
  rw[dB] at e;cases e;exact av
 ·rw[cJ z] at e
  rw[aF (λw=>z (h.inj q r (by rw[e];exact aM u) d w))];exact h.get q u e
theorem vD.new(h:vD H loc ob){p:Addr}(j:H p=none)(r:Role)(o:HO):vD (upd H p o) (qJ loc r p) (iA ob r o):=by
 have g:∀q,q≠r->ob q≠none->loc q≠p:=λq k f e=>by
  cases i:ob q with
  |none=>exact f i
  |some u =>
   have:=h.get q u i
   rw[e,j] at this;cases this
 refine⟨λq u e=>?_,λq b d c e=>?_⟩
 ·by_cases z:q=r
  ·subst z
   rw[dB] at e;cases e;rw[fD];exact av
  ·rw[cJ z] at e
   rw[eY z,aF (g q z (by rw[e];exact aM u))];exact h.get q u e
 ·by_cases z:q=r
  ·by_cases a:b=r
   ·rw[z,a]
   ·rw[z,fD,eY a] at e
    rw[cJ a] at c;exact ee e.symm (g b a c)
  ·by_cases a:b=r
   ·rw[a,fD,eY z] at e
    rw[cJ z] at d;exact ee e (g q z d)
   ·rw[eY z,eY a] at e
    rw[cJ z] at d;rw[cJ a] at c;exact h.inj q b d c e
theorem vD.V4(h:vD H loc ob){p:Addr}{r:Role}{o:HO}{b:Addr}(d:Fp (qJ loc r p) (iA ob r o) b):Fp loc ob b∨b=p:=by
 obtain⟨q,c,a⟩:=d;by_cases z:q=r
 ·rw[z,fD] at a
  exact .inr a.symm
 ·rw[cJ z] at c
  rw[eY z] at a;exact .inl ⟨q,c,a⟩
theorem HK{r:Role}(d:ob r≠none){o:HO}{b:Addr}:Fp loc (iA ob r o) b↔Fp loc ob b:=by
 constructor
 ·rintro⟨q,a,c⟩
  refine⟨q,?_,c⟩;by_cases z:q=r
  ·rw[z];exact d
  ·rw[cJ z] at a;exact a
 ·rintro⟨q,a,c⟩
  refine⟨q,?_,c⟩;by_cases z:q=r
  ·rw[z,dB];exact aM o
  ·rw[cJ z];exact a
end
inductive iW where
 |post (h:Nat)|TR (h r:Nat)|hand (h c:Nat)|send (h r w:Nat)|twice (h r:Nat)|Qo (h r:Nat)
noncomputable def iW.vs:iW->List V
 |.post h=>[.str "post",.int h]
 |.TR h r=>[.str "come",.int h,.int r]
 |.hand h c=>[.str "hand",.int h,.int c]
 |.send h r w=>[.str "send",.int h,.int r,.int w]
 |.twice h r=>[.str "twice",.int h,.int r]
 |.Qo h r=>[.str "lost",.int h,.int r]
structure LS where
 s:Nat
 to:Nat
 kd:Int
 grp:Nat
 old:Bool
 done:List Nat
 aE:List iW
structure Cp where
 l:Nat
 r:Nat
 w:Nat
 h:Nat
noncomputable def Cp.vs(c:Cp):List V:=[.int c.l,.int c.r,.int c.w,.int c.h]
structure NS where
 ws:List (List Nat)
 R:Nat->Nat->RM.Row
 ts:Nat->List T3
 bg:List Nat
 groups:List Nat
 had:List (List Nat)
 ls:List LS
 cps:List Cp
structure TQ where
 rq:Nat->List Addr
 dq:Nat->List Addr
 cq:List Addr
structure NC where
 cV:Addr
 str:Addr
 book:Addr
 post:Addr
 amj:Addr
 let1:Addr
 aeq:Addr
noncomputable def rW(c:NC)(dx:Addr)(l:LS):HO:=if l.kd=1 then .ins c.let1 dx [("sender",.int l.s),("to",.int l.to)] else .ins c.aeq dx [("sender",.int l.s)]
noncomputable def desc(c:NC)(dx:Role->Addr)(tp:Addr)(loc:Role->Addr)(q:TQ)(s:NS):Role->Option HO
 |.cV=>some (.ins c.cV (dx .cV) [("town",.ref tp),("strands",.ref (loc .cK)),("rows_by_group",.ref (loc .uO)),("books",.ref (loc .i0)),("homes",.ref (loc .bg)),("groups",.ref (loc .groups)),("handed",.ref (loc .jG)),("letters",.ref (loc .cD)),("copies",.ref (loc .eX))])
 |.cK=>some (.ins c.str (dx .cK) [("town",.ref tp),("upright",.ref (loc .c6))])
 |.c6=>some (.lst ((au s.ws.length).map λi=>.ref (loc (.f9 i))))
 |.f9 i=>s.ws[i]?.map λw=>.lst (bC w)
 |.uO=>some (.lst ((au 3).map λg=>.ref (loc (.rows g))))
 |.rows g=>if g<3 then some (.lst ((q.rq g).map V.ref)) else none
 |.i0=>some (.lst ((au 3).map λg=>.ref (loc (.book g))))
 |.book g=>if g<3 then some (.ins c.book (dx (.book g)) [("kept",.ref (loc (.fh g)))]) else none
 |.fh g=>if g<3 then some (.dT ((s.ts g).map iX)) else none
 |.bg=>some (.lst (bC s.bg))
 |.groups=>some (.lst (bC s.groups))
 |.jG=>some (.lst ((au s.had.length).map λi=>.ref (loc (.handed i))))
 |.handed i=>s.had[i]?.map λw=>.lst (bC w)
 |.cD=>some (.lst ((au s.ls.length).map λi=>.ref (loc (.bS i))))
 |.bS i=>s.ls[i]?.map λl=>.ins c.post (dx (.bS i)) [("letter",.ref (loc (.letter i))),("group",.int l.grp),("old",.bl l.old),("done_at",.ref (loc (.done i))),("deeds",.ref (loc (.aE i)))]
 |.letter i=>s.ls[i]?.map λl=>rW c (dx (.letter i)) l
 |.done i=>s.ls[i]?.map λl=>.dK (l.done.map λh:Nat=>(gy (h:Int),.bl true))
 |.aE i=>s.ls[i]?.map λl=>.lst ((q.dq i).map V.ref)
 |.eX=>some (.lst (q.cq.map V.ref))
mutual
noncomputable def Nz:PyData->Bool
 |.none=>true
 |.bool _=>true
 |.int _=>true
 |.str _=>true
 |.list _=>false
 |.tuple ds=>Ey ds
 |.dict _=>true
noncomputable def Ey:List PyData->Bool
 |[]=>true
 |d::ds=>Nz d&&Ey ds
end
structure c8(K:af)(H:Hp)(qs:List Addr)(xs:List (List V)):Prop where
 len:qs.length=xs.length
 at':∀(i:Nat) q x,qs[i]?=some q->xs[i]?=some x->cW K H q x
theorem c8.mono{K:af}{H c:Hp}{qs:List Addr}{xs:List (List V)}(h:c8 K H qs xs)(k:∀b x,cW K H b x->cW K c b x):c8 K c qs xs:=⟨h.len,λi q x a b=>k _ _ (h.at' i q x a b)⟩
noncomputable def gF(n:Nat)(R:Nat->RM.Row):List (List V):=(au n).map λi=>RM.c5 (R i)
structure ny(K:af)(H:Hp)(n:Nat)(q:TQ)(s:NS):Prop where
 rows:∀g,g<3->c8 K H (q.rq g) (gF n (s.R g))
 aE:∀i l,s.ls[i]?=some l->c8 K H (q.dq i) (l.aE.map iW.vs)
 cps:c8 K H q.cq (s.cps.map Cp.vs)
theorem ny.mono{K:af}{H a:Hp}{n:Nat}{q:TQ}{s:NS}(h:ny K H n q s)(k:∀b x,cW K H b x->cW K a b x):ny K a n q s :=
 ⟨λg c=>(h.rows g c).mono k,λi l e=>(h.aE i l e).mono k,h.cps.mono k⟩
def dm(K:af)(c:NC)(H:Hp)(F:Addr->Prop)(p tp:Addr)(n:Nat)(s:NS):Prop :=
 ∃loc dx q,loc .cV=p/\vD H loc (desc c dx tp loc q s)/\(∀b,F b↔Fp loc (desc c dx tp loc q s) b)/\ny K H n q s
structure Step(H:Hp)(F:Addr->Prop)(H':Hp)(F':Addr->Prop):Prop where
 kp:∀b o,H b=some o->¬F b->H' b=some o
 fr:∀b,F' b->F b∨H b=none
theorem Qp{c:NC}{n:Role->Addr}{k:Addr}{g:Role->Addr}{q:TQ}{s:NS}{r:Role}{o:HO}(h:desc c n k g q s r=some o):uN o:=by
 have b:∀{i:Type} {f:i->HO} {x:Option i},(∀a,uN (f a))->x.map f=some o->uN o:=λ{i f x} m e=>by
  cases x with
  |none=>cases e
  |some a=>cases e;exact m a
 have ins:∀{C d:Addr} {j:List (Str×V)},uN (.ins C d j):=nj;cases r <;> simp only[desc] at h
 all_goals first
  | (cases h;exact nj)
  | (cases h;exact jD)
  |exact b (λ_=>jD) h
  |exact b (λ_=>nj) h
  | (split at h
     ·cases h;first|exact jD|exact nj|exact aep
     ·cases h)
  | (refine b (λl=>?_) h;unfold rW;split <;> exact nj)
  | (refine b (λl=>?_) h;exact λp=>⟨λe=>(by cases e),λo e=>(by cases e)⟩)
section
variable{K:af}{c:NC}{CT:Addr}{H H':Hp}{F F':Addr->Prop}{p tp ln lr:Addr}{n:Nat}{s s':NS}{ns:List Int}{rs:List R5}
theorem dm.mono(h:dm K c H F p tp n s)(e:aD H H'):dm K c H' F p tp n s:=by
 obtain⟨a,g,q,j,d,f,i⟩:=h;exact⟨a,g,q,j,d.mono e,f,i.mono λb x=>e.dw⟩
theorem dm.V5(h:dm K c H F p tp n s){b:Addr}{o:HO}(g:F b)(e:H b=some o):uN o:=by
 obtain⟨a,k,q,m,j,f,l⟩:=h;obtain⟨r,i,rfl⟩:=(f b).mp g;cases d:desc c k tp a q s r with
 |none=>exact ee d i
 |some u =>
  have:=j.get r u d
  rw[e] at this;cases this;exact Qp d
theorem dm.there(h:dm K c H F p tp n s){b:Addr}(j:F b):∃o,H b=some o:=by
 obtain⟨a,g,q,l,e,f,k⟩:=h;obtain⟨r,i,rfl⟩:=(f b).mp j;cases d:desc c g tp a q s r with
 |none=>exact ee d i
 |some u=>exact⟨u,e.get r u d⟩
theorem dm.tup(h:dm K c H F p tp n s)(a:∀b o,H b=some o->¬F b->H' b=some o){b:Addr}{x:List V}(e:cW K H b x):cW K H' b x:=by
 rcases e with (e|⟨o,e⟩)|e
 ·exact .inl (.inl (a _ _ e λz=>(h.V5 z e x).1 rfl))
 ·exact .inl (.inr ⟨o,a _ _ e λz=>(h.V5 z e x).2 o rfl⟩)
 ·exact .inr e
theorem dm.keep(h:dm K c H F p tp n s)(j:∀b o,H b=some o->F b->H' b=some o)(l:∀b x,cW K H b x->cW K H' b x):dm K c H' F p tp n s:=by
 obtain⟨a,g,q,k,f,d,i⟩:=h;exact⟨a,g,q,k,f.keep λb o e z=>j b o e ((d b).mpr z),d,i.mono l⟩
end
mutual
theorem Rep.tups{K:af}{H c:Hp}(g:∀b x,cW K H b x->cW K c b x):∀{d:PyData} {v:V},Nz d=true->Rep K H d v->Rep K c d v
 |.none,_,_,h=>h
 |.bool _,_,_,h=>h
 |.int _,_,_,h=>h
 |.str _,_,_,h=>h
 |.list _,_,f,_=>by simp[Nz] at f
 |.tuple ds,_,f,⟨a,vs,e,q,r⟩=>⟨a,vs,e,g _ _ q,cH.tups g f r⟩
 |.dict _,_,_,h=>h
theorem cH.tups{K:af}{H a:Hp}(c:∀b x,cW K H b x->cW K a b x):∀{ds:List PyData} {vs:List V},Ey ds=true->cH K H ds vs->cH K a ds vs
 |[],_,_,h=>h
 |d::ds,_,f,⟨v,r,e,q,t⟩=>by
  have f:(Nz d&&Ey ds)=true:=f;rw[dh] at f;exact⟨v,r,e,Rep.tups c f.1 q,cH.tups c f.2 t⟩
end
theorem HL:∀rs:List R5,Ey (rs.map R5.D)=true
 |[]=>rfl
 |r::rs=>by
  show (Nz r.D&&Ey (rs.map R5.D))=true;rw[HL rs];rfl
section
variable{K:af}{c:NC}{CT:Addr}{H H':Hp}{F F':Addr->Prop}{p tp ln lr:Addr}{n:Nat}{s s':NS}{ns:List Int}{rs:List R5}
theorem cY.keep(h:cY K CT H tp ln lr ns rs)(k1:∀b o,H b=some o->b=tp∨b=ln∨b=lr->H' b=some o)(i:∀b x,cW K H b x->cW K H' b x):cY K CT H' tp ln lr ns rs:=by
 obtain⟨⟨e,g⟩,a,c,d,f⟩:=h;exact⟨⟨e,k1 _ _ g (.inl rfl)⟩,k1 _ _ a (.inr (.inl rfl)),c,k1 _ _ d (.inr (.inr rfl)),cH.tups i (HL rs) f⟩
structure NW(K:af)(c:NC)(CT:Addr)(H:Hp)(F:Addr->Prop)(p tp ln lr:Addr)(ns:List Int)(rs:List R5)(s:NS):Prop where
 cV:dm K c H F p tp ns.length s
 qh:cY K CT H tp ln lr ns rs
 o1:¬F tp
 o2:¬F ln
 o3:¬F lr
theorem NW.mono(h:NW K c CT H F p tp ln lr ns rs s)(e:aD H H'):NW K c CT H' F p tp ln lr ns rs s:=⟨h.cV.mono e,h.qh.mono e,h.o1,h.o2,h.o3⟩
theorem NW.done(h:NW K c CT H F p tp ln lr ns rs s)(st:Step H F H' F')(f:dm K c H' F' p tp ns.length s'):NW K c CT H' F' p tp ln lr ns rs s':=by
 have j:∀b x,cW K H b x->cW K H' b x:=λb x=>h.cV.tup st.kp;obtain⟨⟨m,i⟩,g,k,a,l⟩:=id h.qh;have nf:∀b o,H b=some o->¬F b->¬F' b:=λb o e d z=>by
  rcases st.fr b z with w|w
  ·exact d w
  ·rw[e] at w;cases w
 refine⟨f,h.qh.keep (λb o e q=>st.kp b o e ?_) j,nf _ _ i h.o1,nf _ _ g h.o2,nf _ _ a h.o3⟩;rcases q with rfl|rfl|rfl
 ·exact h.o1
 ·exact h.o2
 ·exact h.o3
theorem Step.refl'(e:aD H H'):Step H F H' F:=⟨λb o q _=>e _ _ q,λb z=>.inl z⟩
theorem Step.trans{c:Hp}{d:Addr->Prop}(a:Step H F H' F')(b:Step H' F' c d):Step H F c d:=by
 refine⟨λx o e nf=>b.kp x o (a.kp x o e nf) λz=>?_,λx z=>?_⟩
 ·rcases a.fr x z with w|w
  ·exact nf w
  ·rw[e] at w;cases w
 ·rcases b.fr x z with w|w
  ·exact a.fr x w
  ·by_cases q:F x
   ·exact .inl q
   ·refine .inr ?_
    cases f:H x with
    |none=>rfl
    |some o =>
     have:=a.kp x o f q
     rw[this] at w;cases w
end
theorem vD.join{H:Hp}{j k:Role->Addr}{i c:Role->Option HO}(a:vD H j i)(b:vD H k c)(m:∀r q,i r≠none->c q≠none->j r≠k q) :
 vD H (λr=>if (c r).isSome=true then k r else j r) (λr=>if (c r).isSome=true then c r else i r):=by
 have l:∀{r},(c r).isSome=true->c r≠none:=λ{r} h e=>by rw[e] at h;cases h
 refine⟨λr o e=>?_,λr q f d e=>?_⟩
 ·by_cases z:(c r).isSome=true
  ·rw[b3 z] at e ⊢
   exact b.get r o e
  ·rw[b5 z] at e ⊢
   exact a.get r o e
 ·by_cases z:(c r).isSome=true
  ·by_cases g:(c q).isSome=true
   ·simp only[z,g,if_true] at f d e
    exact b.inj r q f d e
   ·simp only[z,g,if_true,if_false] at f d e
    exact ee e.symm (m q r (by simpa using d) (l z))
  ·by_cases g:(c q).isSome=true
   ·simp only[z,g,if_true,if_false] at f d e
    exact ee e (m r q (by simpa using f) (l g))
   ·simp only[z,g,if_false] at f d e
    exact a.inj r q (by simpa using f) (by simpa using d) e
structure Gv(H0 H:Hp)(p:Addr)(loc:Role->Addr)(ob:Role->Option HO):Prop where
 own:vD H loc ob
 np:loc .cV=p
 hn:ob .cV≠none
 kp:∀b o,H0 b=some o->b≠p->H b=some o
 fr:∀b,Fp loc ob b->b=p∨H0 b=none
section
variable{H0 H H':Hp}{p:Addr}{loc:Role->Addr}{ob:Role->Option HO}
theorem Gv.free(h:Gv H0 H p loc ob){a:Addr}(c:H a=none):H0 a=none:=by
 cases e:H0 a with
 |none=>rfl
 |some o =>
  by_cases z:a=p
  ·exfalso
   cases b:ob .cV with
   |none=>exact h.hn b
   |some u =>
    have:=h.own.get .cV u b
    rw[h.np,<- z,c] at this;cases this
  ·have:=h.kp a o e z
   rw[c] at this;cases this
theorem Gv.new(h:Gv H0 H p loc ob){a:Addr}(c:H a=none){r:Role}(d:r≠.cV)(o:HO):Gv H0 (upd H a o) p (qJ loc r a) (iA ob r o):=by
 refine⟨h.own.new c r o,by rw[eY (bP d)];exact h.np,by rw[cJ (bP d)];exact h.hn,λb u e n=>?_,λb f=>?_⟩
 ·have:=h.kp b u e n
  rw[aF (aH this c)];exact this
 ·rcases h.own.V4 f with z|rfl
  ·exact h.fr b z
  ·exact .inr (h.free c)
theorem Gv.put(h:Gv H0 H p loc ob)(o:HO):Gv H0 (upd H p o) p loc (iA ob .cV o):=by
 have e:=h.own.set (r:=.cV) h.hn o;rw[h.np] at e;refine⟨e,h.np,by rw[dB];exact aM o,λb u q n=>?_,λb a=>h.fr b ((HK h.hn).mp a)⟩;rw[aF n];exact h.kp b u q n
theorem vD.add{H H':Hp}{loc:Role->Addr}{ob:Role->Option HO}(h:vD H loc ob)(s:aD H H'){a:Addr}(c:H a=none){o:HO}(e:H' a=some o)(r:Role):vD H' (qJ loc r a) (iA ob r o):=by
 have d:=h.new c r o;refine⟨λq u b=>?_,d.inj⟩;by_cases z:q=r
 ·subst z
  rw[dB] at b;cases b;rw[fD];exact e
 ·rw[cJ z] at b
  rw[eY z];exact s _ _ (h.get q u b)
theorem Gv.add(h:Gv H0 H p loc ob)(s:aD H H'){a:Addr}(d:H a=none){o:HO}(e:H' a=some o){r:Role}(f:r≠.cV):Gv H0 H' p (qJ loc r a) (iA ob r o):=by
 have c:=h.new d f o;exact⟨h.own.add s d e r,c.np,c.hn,λb u q n=>s _ _ (h.kp b u q n),c.fr⟩
theorem Gv.abI(h:Gv H0 H p loc ob){r:Role}(a:ob r≠none)(d:r≠.cV)(o:HO):Gv H0 (upd H (loc r) o) p loc (iA ob r o):=by
 refine⟨h.own.set a o,h.np,by rw[cJ (bP d)];exact h.hn,λb u e n=>?_,λb f=>h.fr b ((HK a).mp f)⟩;have c:b≠loc r:=λz=>by
  rcases h.fr (loc r) ⟨r,a,rfl⟩ with w|w
  ·exact n (z.trans w)
  ·rw[z,w] at e;cases e
 rw[aF c];exact h.kp b u e n
theorem Gv.ext{loc':Role->Addr}{RJ:Role->Option HO}(h:Gv H0 H p loc ob)(d:∀r,ob r=RJ r)(c:∀r,ob r≠none->loc r=loc' r):Gv H0 H p loc' RJ:=by
 have e:ob=RJ:=funext d;subst e;refine⟨⟨λr o e=>?_,λr q a b e=>h.own.inj r q a b ?_⟩,?_,h.hn,h.kp,λb f=>?_⟩
 ·rw[<- c r (by rw[e];exact aM o)]
  exact h.own.get r o e
 ·rw[c r a,c q b]
  exact e
 ·rw[<- c .cV h.hn]
  exact h.np
 ·obtain⟨r,a,e⟩:=f
  exact h.fr b ⟨r,a,(c r a).trans e⟩
theorem Gv.join{f:Role->Addr}{a:Role->Option HO}(h:Gv H0 H p loc ob)(b:vD H' f a)(i:a .cV=none)(fresh:∀r,a r≠none->H (f r)=none)(s:aD H H') :
 Gv H0 H' p (λr=>if (a r).isSome=true then f r else loc r) (λr=>if (a r).isSome=true then a r else ob r):=by
 refine⟨(h.own.mono s).join b λr q d c e=>?_,?_,?_,λb o e n=>s _ _ (h.kp b o e n),λx j=>?_⟩
 ·cases g:ob r with
  |none=>exact d g
  |some u =>
   have:=h.own.get r u g
   rw[e,fresh q c] at this;cases this
 ·show (if (a .cV).isSome=true then _ else _)=p
  rw[i];exact h.np
 ·show (if (a .cV).isSome=true then _ else _)≠none
  rw[i];exact h.hn
 ·obtain⟨r,d,c⟩:=j
  by_cases z:(a r).isSome=true
  ·simp only[z,if_true] at d c
   rw[<- c];exact .inr (h.free (fresh r d))
  ·simp only[z,if_false] at d c
   exact h.fr x ⟨r,by simpa using d,by simpa using c⟩
end
noncomputable def zD(ns:List Int)(i:Nat):RM.Row:=⟨ns.getD i 0,0,0,-1⟩
noncomputable def S0(ns:List Int)(rs:List R5)(cl:List (Nat×Nat)):NS where
 ws:=rs.map λr=>au r.d.toNat
 R:=λ_=>zD ns
 ts:=λ_=>[]
 bg:=cl.map (·.1)
 groups:=cl.map (·.2)
 had:=cl.map λ_=>[]
 ls:=[]
 cps:=[]
noncomputable def TU(C dx tp lu:Addr)(ls:List Addr)(ws:List (List Nat)):Role->Option HO
 |.cK=>some (.ins C dx [("town",.ref tp),("upright",.ref lu)])
 |.c6=>some (.lst (ls.map V.ref))
 |.f9 i=>ws[i]?.map λw=>.lst (bC w)
 |_=>none
noncomputable def YA(sp lu:Addr)(ls:List Addr):Role->Addr
 |.cK=>sp
 |.c6=>lu
 |.f9 i=>ls.getD i 0
 |_=>0
theorem abJ{H:Hp}{C sp p m d:Addr}{ls:List Addr}{ws:List (List Nat)}(s:H sp=some (.ins C p [("town",.ref m),("upright",.ref d)]))(x:H d=some (.lst (ls.map V.ref)))(hl:ls.length=ws.length)
 (t:∀(i:Nat) l w,ls[i]?=some l->ws[i]?=some w->H l=some (.lst (bC w))) (nd:ls.Nodup) (D:d∉ls):vD H (YA sp d ls) (TU C p m d ls ws):=by
 have b:∀{i:Nat},TU C p m d ls ws (.f9 i)≠none->∃(a:i<ls.length),YA sp d ls (.f9 i)=ls[i]:=λ{i} h=>by
  have a:i<ls.length:=by
   rw[hl];by_cases z:i<ws.length
   ·exact z
   ·exact ee (show (ws[i]?.map λw=>HO.lst (bC w))=none by rw[jj ∅];rfl) h
  refine⟨a,?_⟩;show ls.getD i 0=ls[i];rw[aq,aa a];rfl
 have A:∀{i:Nat} (a:i<ls.length),∃w,H ls[i]=some (.lst (bC w)):=λ{i} a=>⟨ws[i]'(hl▸a),t i _ _ (aa a) (aa (hl▸a))⟩;have y:sp≠d:=Qn s x (λe=>by cases e);have v:∀{i:Nat} (a:i<ls.length),sp≠ls[i]:=λ{i} a=>by
  obtain⟨w,f⟩:=A a;exact Qn s f (λe=>by cases e)
 have u:∀{i:Nat} (a:i<ls.length),d≠ls[i]:=λ{i} a e=>D (e▸aK a);refine⟨λr o e=>?_,λr q k g e=>?_⟩
 ·cases r <;> first|(cases e;done)|skip
  case cK=>cases e;exact s
  case c6=>cases e;exact x
  case f9 i =>
   obtain⟨a,c⟩:=b (i:=i) (by rw[e];exact aM o);have f:=aa (hl▸a:i<ws.length);have e:(ws[i]?.map λw=>HO.lst (bC w))=some o:=e;rw[f] at e;cases e;rw[c];exact t i _ _ (aa a) f
 ·cases r <;> first|exact ee rfl k|skip
  all_goals cases q <;> first|exact ee rfl g|rfl|skip
  case cK.c6=>exact ee e y
  case cK.f9 i =>
   obtain⟨a,c⟩:=b g;exact ee (e.trans c) (v a)
  case c6.cK=>exact ee e.symm y
  case c6.f9 i =>
   obtain⟨a,c⟩:=b g;exact ee (e.trans c) (u a)
  case f9.cK i =>
   obtain⟨a,c⟩:=b k;exact ee (e.symm.trans c) (v a)
  case f9.c6 i =>
   obtain⟨a,c⟩:=b k;exact ee (e.symm.trans c) (u a)
  case f9.f9 i j =>
   obtain⟨a,c⟩:=b k;obtain⟨B,n⟩:=b g;rw[c,n] at e;have q:ls[i]?=ls[j]?:=by rw[aa a,aa B,e]
   have:=(List.getElem?_inj a nd).mp q
   rw[this]
structure eZ(ns:List Int)(rs:List R5):Prop where
 nd:ns.Nodup
 ok:∀r∈rs,r.Ok ns.length
 n1:1<=ns.length
 MV:ns.length<=10
 sC:rs.length<=20
 pos:∀x∈ns,0<=x
structure zZ(ns:List Int)(rs:List R5)(s:NS):Prop where
 wl:s.ws.length=rs.length
 w4:∀w∈s.ws,w.length<=4
 fit:∀g,g<3->xW ns.length rs.length (s.R g)
noncomputable abbrev uP(rs:List R5)(ws:List (List Nat))(g:Nat):List Nat:=xY rs ws g rs.length
theorem z6{rs:List R5}{ws:List (List Nat)}{g:Nat}:∀k∈uP rs ws g,k<rs.length:=λk a=>cT.mp (bU.mp a).1
noncomputable def mh(ns:List Int)(rs:List R5)(o:eZ ns rs)(ws:List (List Nat))(g:Nat):RM.Net:=aQ ns rs (uP rs ws g) o.nd o.ok z6
section
variable{K:af}{c:NC}{CT:Addr}{H H':Hp}{loc dx:Role->Addr}{q:TQ}{p tp ln lr:Addr}{n:Nat}{s:NS}{ns:List Int}{rs:List R5}
theorem vD.strAt(O:vD H loc (desc c dx tp loc q s)):uM c.str H (loc .cK) tp (loc .c6) s.ws:=by
 refine⟨⟨dx .cK,O.get .cK _ rfl⟩,(au s.ws.length).map λi=>loc (.f9 i),?_,by rw[ah,aX],λi l w b a=>?_⟩
 ·have:=O.get .c6 _ rfl
  rw[this,cz];rfl
 ·have d:=(ai.mp a).1
  rw[aj,gh d] at b;cases b;exact O.get (.f9 i) _ (by show (s.ws[i]?.map _)=_;rw[a];rfl)
theorem vD.LU(O:vD H loc (desc c dx tp loc q s)){g:Nat}(a:g<3):qI c.book H (loc (.book g)) (loc (.fh g)) (s.ts g) :=
 ⟨⟨dx (.book g),O.get (.book g) _ (b3 a)⟩,O.get (.fh g) _ (b3 a)⟩
theorem oS{f:Nat->V}{m g:Nat}(h:g<m):FD ((au m).map f) (g:Int)=some (f g):=dX (by rw[aj,gh h];rfl)
theorem c8.LV{l:Addr}{qs:List Addr}{R:Nat->RM.Row}(h:c8 K H qs (gF n R))(hl:bK K H l (qs.map V.ref)):sR K H l n R:=by
 have e:qs.length=n:=by rw[h.len];simp[gF]
 refine⟨qs,hl,e,λi p a=>h.at' i p _ a ?_⟩;have b:=(ai.mp a).1;unfold gF;rw[aj,gh ∅];rfl
theorem qi{xs:List Nat}{i:Nat}(h:i<xs.length):FD (bC xs) (i:Int)=some (.int (xs[i]:Nat)):=dX (by rw[aj,aa h];rfl)
end
noncomputable def iB{α:Type}(f:Nat->α)(i:Nat)(v:α):Nat->α:=λg=>if g=i then v else f g
theorem cZ{α:Type}{f:Nat->α}{i:Nat}{v:α}:iB f i v i=v:=b3 rfl
theorem fH{α:Type}{f:Nat->α}{i g:Nat}{v:α}(h:g≠i):iB f i v g=f g:=b5 h
theorem vD.ext{H:Hp}{c loc':Role->Addr}{ob RJ:Role->Option HO}(h:vD H c ob)(f:∀r,ob r=RJ r)(d:∀r,ob r≠none->c r=loc' r):vD H loc' RJ/\∀b,Fp c ob b↔Fp loc' RJ b:=by
 have e:ob=RJ:=funext f;subst e;refine⟨⟨λr o e=>?_,λr q a b e=>h.inj r q a b ?_⟩,λb=>⟨λ⟨r,a,e⟩=>⟨r,a,(d r a).symm.trans e⟩,λ⟨r,a,e⟩=>⟨r,a,(d r a).trans e⟩⟩⟩
 ·rw[<- d r (by rw[e];exact aM o)]
  exact h.get r o e
 ·rw[d r a,d q b]
  exact e
section
variable{K:af}{c:NC}{H H':Hp}{F:Addr->Prop}{loc dx:Role->Addr}{q:TQ}{p tp:Addr}{n g:Nat}{s:NS}
theorem Qq(G:loc .cV=p)(O:vD H loc (desc c dx tp loc q s))(v:∀b,F b↔Fp loc (desc c dx tp loc q s) b)(f:ny K H n q s)(y:g<3){d' d:Addr}(h:H d'=none)
 (P:H' (loc (.book g))=some (.ins c.book d [("kept",.ref d')])) (S:H' d'=some (.dT [])) (J:∀b o,H b=some o->b≠loc (.book g)->H' b=some o) :
 ∃C,dm K c H' C p tp n {s with ts:=iB s.ts g []}/\Step H F H' C:=by
 have u:desc c dx tp loc q s (.book g)≠none:=by
  show (if g<3 then some _ else none)≠none;rw[b3 y];exact aM _
 have D:F (loc (.book g)):=(v _).mpr ⟨.book g,u,rfl⟩;have j:∀b o,H b=some o->¬F b->H' b=some o:=λb o e z=>J b o e λw=>z (w▸D);have t:dm K c H F p tp n s:=⟨loc,dx,q,G,O,v,f⟩;have E:=O.set u (.ins c.book d [("kept",.ref d')]);have A:d'≠loc (.book g):=λz=>by
  have:=t.there D
  obtain⟨o,e⟩:=this;rw[z,e] at h;cases h
 have B:(upd H (loc (.book g)) (.ins c.book d [("kept",.ref d')])) d'=none:=by rw[aF A];exact h
 have T:=E.new B (.fh g) (.dT []);have Q:vD H' (qJ loc (.fh g) d') (iA (iA (desc c dx tp loc q s) (.book g) (.ins c.book d [("kept",.ref d')])) (.fh g) (.dT [])):=by
  refine T.keep λb o e _=>?_;by_cases z:b=d'
  ·rw[z,av] at e
   cases e;rw[z];exact S
  ·rw[aF z] at e
   by_cases m:b=loc (.book g)
   ·rw[m,av] at e
    cases e;rw[m];exact P
   ·rw[aF m] at e
    exact J b o e m
 obtain⟨L,N⟩:=Q.ext (RJ:=desc c (λr=>if r=.book g then d else dx r) tp (qJ loc (.fh g) d') q {s with ts:=iB s.ts g []}) (loc':=qJ loc (.fh g) d') (λr=>by
  cases r <;> first|rfl|skip
  ·rename_i k
   show iA (desc c dx tp loc q s) (.book g) _ (.book k)=(if k<3 then some (HO.ins c.book (if Role.book k=.book g then d else dx (.book k)) [("kept",.ref (qJ loc (.fh g) d' (.fh k)))]) else none);by_cases z:k=g
   ·subst z
    rw[dB,b3 y,b3 rfl,fD]
   ·have I:Role.book k≠.book g:=λe=>z (by cases e;rfl)
    have a:Role.fh k≠.fh g:=λe=>z (by cases e;rfl);rw[cJ I,b5 I,eY a];rfl
  ·rename_i k
   show iA (iA (desc c dx tp loc q s) (.book g) _) (.fh g) _ (.fh k)=(if k<3 then some (HO.dT ((iB s.ts g [] k).map iX)) else none);by_cases z:k=g
   ·subst z
    rw[dB,b3 y,cZ];rfl
   ·have a:Role.fh k≠.fh g:=λe=>z (by cases e;rfl)
    rw[cJ a,fH z];rfl) (λr _=>rfl)
 refine⟨Fp _ _,⟨_,_,q,?_,L,λb=>Iff.rfl,⟨λk R=>(f.rows k R).mono λb x=>t.tup j,λi l e=>(f.aE i l e).mono λb x=>t.tup j,f.cps.mono λb x=>t.tup j⟩⟩,j,λb M=>?_⟩
 ·rw[eY (λz=>by cases z)]
  exact G
 ·rcases E.V4 ((N b).mpr M) with z|rfl
  ·exact .inl ((v b).mpr ((HK u).mp z))
  ·exact .inr h
theorem YB(G:loc .cV=p)(O:vD H loc (desc c dx tp loc q s))(y:∀b,F b↔Fp loc (desc c dx tp loc q s) b)(h:ny K H n q s)(D:g<3){x:Nat}(U:x<n){a:Addr}{d:RM.Row}(J:cW K H a (RM.c5 d)) :
 ∃B,dm K c (upd H (loc (.rows g)) (.lst (((q.rq g).map V.ref).set x (.ref a)))) B p tp n {s with R:=iB s.R g (RM.upd (s.R g) x d)}/\Step H F (upd H (loc (.rows g)) (.lst (((q.rq g).map V.ref).set x (.ref a)))) B:=by
 have t:desc c dx tp loc q s (.rows g)≠none:=by
  show (if g<3 then some _ else none)≠none;rw[b3 D];exact aM _
 have Q:F (loc (.rows g)):=(y _).mpr ⟨.rows g,t,rfl⟩;have E:∀b o,H b=some o->¬F b->(upd H (loc (.rows g)) (.lst (((q.rq g).map V.ref).set x (.ref a)))) b=some o:=λb o e z=>by
  have P:b≠loc (.rows g):=λw=>z (w▸Q);rw[aF P];exact e
 have T:dm K c H F p tp n s:=⟨loc,dx,q,G,O,y,h⟩;have j:∀{b x},cW K H b x->_:=λ{b x} e=>T.tup E (b:=b) (x:=x) e;have S:=O.set t (.lst (((q.rq g).map V.ref).set x (.ref a)));obtain⟨L,M⟩:=S.ext (RJ:=desc c dx tp loc {q with rq:=iB q.rq g ((q.rq g).set x a)} {s with R:=iB s.R g (RM.upd (s.R g) x d)}) (loc':=loc) (λr=>by
  cases r <;> first|rfl|skip
  rename_i k;show iA (desc c dx tp loc q s) (.rows g) _ (.rows k)=(if k<3 then some (HO.lst ((iB q.rq g ((q.rq g).set x a) k).map V.ref)) else none);by_cases z:k=g
  ·subst z
   rw[dB,b3 D,cZ,List.map_set]
  ·rw[cJ (λe=>z (by cases e;rfl)),fH z]
   rfl) (λr _=>rfl)
 refine⟨Fp _ _,⟨loc,dx,_,G,L,λb=>Iff.rfl,⟨λk C=>?_,λi l e=>(h.aE i l e).mono λb x=>j,h.cps.mono λb x=>j⟩⟩,E,λb N=>.inl ((y b).mpr ((HK t).mp ((M b).mpr N)))⟩;show c8 K _ (iB q.rq g ((q.rq g).set x a) k) (gF n (iB s.R g (RM.upd (s.R g) x d) k));by_cases z:k=g
 ·subst z
  rw[cZ,cZ];have I:=h.rows k C;have A:(q.rq k).length=n:=by rw[I.len];simp[gF]
  refine⟨by rw[bA,A];simp[gF],λi b v f u=>?_⟩;have m:=(ai.mp f).1;rw[bA,A] at m;unfold gF at u;rw[aj,gh m] at u;cases u;rw[cO] at f;by_cases w:x=i
  ·subst w
   rw[b3 rfl,b3 (by rw[A];exact m)] at f;cases f
   have:RM.upd (s.R k) x d x=d:=by unfold RM.upd;rw[b3 rfl]
   show cW K _ a (RM.c5 (RM.upd (s.R k) x d x));rw[this];exact j J
  ·rw[b5 w] at f
   have:RM.upd (s.R k) x d i=s.R k i:=by unfold RM.upd;rw[b5 (bP w)]
   show cW K _ b (RM.c5 (RM.upd (s.R k) x d i));rw[this];exact j (I.at' i b _ f (by unfold gF;rw[aj,gh m];rfl))
 ·rw[fH z,fH z]
  exact (h.rows k C).mono λb x=>j
end
section
variable{K:af}{c:NC}{H H':Hp}{F:Addr->Prop}{loc dx:Role->Addr}{q:TQ}{p tp:Addr}{n j:Nat}{s:NS}
theorem NB(D:loc .cV=p)(O:vD H loc (desc c dx tp loc q s))(v:∀b,F b↔Fp loc (desc c dx tp loc q s) b)(f:ny K H n q s)(S:j<s.ws.length){a:Addr}{w:List Nat}{ls:List Addr}(M:H (loc .c6)=some (.lst (ls.map V.ref)))(d:H a=none)
 (N:H' a=some (.lst (bC w))) (R:H' (loc .c6)=some (.lst ((ls.map V.ref).set j (.ref a)))) (E:∀b o,H b=some o->b≠loc .c6->H' b=some o) :
 ∃B,dm K c H' B p tp n {s with ws:=s.ws.set j w}/\Step H F H' B:=by
 have t:desc c dx tp loc q s .c6≠none:=aM _;have C:F (loc .c6):=(v _).mpr ⟨.c6,t,rfl⟩;have g:∀b o,H b=some o->¬F b->H' b=some o:=λb o e z=>E b o e λw=>z (w▸C);have m:dm K c H F p tp n s:=⟨loc,dx,q,D,O,v,f⟩;have y:ls.map V.ref=(au s.ws.length).map λi=>V.ref (loc (.f9 i)):=by
  have:=O.get .c6 _ rfl
  rw[M] at this;exact HO.lst.inj (aN this)
 have G:=O.set t (.lst ((ls.map V.ref).set j (.ref a)));have u:a≠loc .c6:=λz=>by
  obtain⟨o,e⟩:=m.there C;rw[z,e] at d;cases d
 have A:(upd H (loc .c6) (.lst ((ls.map V.ref).set j (.ref a)))) a=none:=by rw[aF u];exact d
 have W:=G.new A (.f9 j) (.lst (bC w));have P:vD H' (qJ loc (.f9 j) a) (iA (iA (desc c dx tp loc q s) .c6 (.lst ((ls.map V.ref).set j (.ref a)))) (.f9 j) (.lst (bC w))):=by
  refine W.keep λb o e _=>?_;by_cases z:b=a
  ·rw[z,av] at e
   cases e;rw[z];exact N
  ·rw[aF z] at e
   by_cases h:b=loc .c6
   ·rw[h,av] at e
    cases e;rw[h];exact R
   ·rw[aF h] at e
    exact E b o e h
 obtain⟨I,L⟩:=P.ext (RJ:=desc c dx tp (qJ loc (.f9 j) a) q {s with ws:=s.ws.set j w}) (loc':=qJ loc (.f9 j) a) (λr=>by
  cases r <;> first|rfl|skip
  ·show some (HO.lst ((ls.map V.ref).set j (.ref a)))=some (HO.lst ((au (s.ws.set j w).length).map λi=>V.ref (qJ loc (.f9 j) a (.f9 i))))
   rw[y,bA];congr 2;refine xR (-_) λi T X=>?_;simp only[bA,ah,aX] at T;rw[List.getElem_set];by_cases z:j=i
   ·subst z
    simp[fD]
   ·have U:Role.f9 i≠.f9 j:=λe=>z (by cases e;rfl)
    simp[z,eY U]
  ·rename_i i
   show iA (iA (desc c dx tp loc q s) .c6 _) (.f9 j) _ (.f9 i)=((s.ws.set j w)[i]?.map λw=>HO.lst (bC w));by_cases z:i=j
   ·subst z
    rw[dB,cO,b3 rfl,b3 S];rfl
   ·rw[cJ (λe=>z (by cases e;rfl)),cO,b5 (bP z)]
    rfl) (λr _=>rfl)
 refine⟨Fp _ _,⟨_,dx,q,?_,I,λb=>Iff.rfl,⟨λk Q=>(f.rows k Q).mono λb x=>m.tup g,λi l e=>(f.aE i l e).mono λb x=>m.tup g,f.cps.mono λb x=>m.tup g⟩⟩,g,λb J=>?_⟩
 ·rw[eY (λz=>by cases z)]
  exact D
 ·rcases G.V4 ((L b).mpr J) with z|rfl
  ·exact .inl ((v b).mpr ((HK t).mp z))
  ·exact .inr d
theorem Qs(u:loc .cV=p)(O:vD H loc (desc c dx tp loc q s))(m:∀b,F b↔Fp loc (desc c dx tp loc q s) b)(A:ny K H n q s){l:Addr}{qs:List Addr}{cps:List Cp}(hl:H l=some (.lst (qs.map V.ref)))(G:¬F l)(Q:c8 K H qs (cps.map Cp.vs)) :
 ∃I,dm K c (upd H p (.ins c.cV (dx .cV) [("town",.ref tp),("strands",.ref (loc .cK)),("rows_by_group",.ref (loc .uO)),("books",.ref (loc .i0)),("homes",.ref (loc .bg)),("groups",.ref (loc .groups)),("handed",.ref (loc .jG)),("letters",.ref (loc .cD)),("copies",.ref l)])) I p tp n {s with cps:=cps} /\
  (∀b o,H b=some o->b≠p->(upd H p (.ins c.cV (dx .cV) [("town",.ref tp),("strands",.ref (loc .cK)),("rows_by_group",.ref (loc .uO)),("books",.ref (loc .i0)),("homes",.ref (loc .bg)),("groups",.ref (loc .groups)),("handed",.ref (loc .jG)),("letters",.ref (loc .cD)),("copies",.ref l)])) b=some o)/\F p/\∀b,I b->F b∨b=l:=by
 generalize J:HO.ins c.cV (dx .cV) [("town",.ref tp),("strands",.ref (loc .cK)),("rows_by_group",.ref (loc .uO)),("books",.ref (loc .i0)),("homes",.ref (loc .bg)),("groups",.ref (loc .groups)),("handed",.ref (loc .jG)),("letters",.ref (loc .cD)),("copies",.ref l)]=o1;have j:desc c dx tp loc q s .cV≠none:=aM _;have f:F p:=(m _).mpr ⟨.cV,j,u⟩;have S:dm K c H F p tp n s:=⟨loc,dx,q,u,O,m,A⟩;have C:∀b o,H b=some o->b≠p->(upd H p o1) b=some o:=λb o e z=>by rw[aF z];exact e
 have E:∀{b x},cW K H b x->cW K (upd H p o1) b x:=λ{b x} e=>S.tup (λb o e z=>C b o e λw=>z (w▸f)) e;have B:=O.set j o1;rw[u] at B;have y:l≠p:=λz=>G (z▸f);have L:vD (upd H p o1) (qJ loc .eX l) (iA (iA (desc c dx tp loc q s) .cV o1) .eX (.lst (qs.map V.ref))):=by
  refine⟨λr o e=>?_,λr v a b e=>?_⟩
  ·by_cases z:r=.eX
   ·subst z
    rw[dB] at e;cases e;rw[fD];exact C _ _ hl y
   ·rw[cJ z] at e
    rw[eY z];exact B.get r o e
  ·have g:∀{r:Role},r≠.eX->iA (desc c dx tp loc q s) .cV o1 r≠none->loc r≠l:=λ{r} z h e=>by
    refine G ((m _).mpr ⟨r,?_,e⟩);by_cases w:r=.cV
    ·rw[w];exact j
    ·rw[cJ w] at h;exact h
   by_cases z:r=.eX
   ·by_cases d:v=.eX
    ·rw[z,d]
    ·rw[z,fD,eY d] at e
     rw[cJ d] at b;exact ee e.symm (g d b)
   ·by_cases d:v=.eX
    ·rw[d,fD,eY z] at e
     rw[cJ z] at a;exact ee e (g z a)
    ·rw[eY z,eY d] at e
     rw[cJ z] at a;rw[cJ d] at b;exact B.inj r v a b e
 obtain⟨M,N⟩:=L.ext (RJ:=desc c dx tp (qJ loc .eX l) {q with cq:=qs} {s with cps:=cps}) (loc':=qJ loc .eX l) (λr=>by
  subst J;cases r <;> rfl) (λr _=>rfl)
 refine⟨Fp _ _,⟨_,dx,_,?_,M,λb=>Iff.rfl,⟨λk R=>(A.rows k R).mono λb x=>E,λi l e=>(A.aE i l e).mono λb x=>E,Q.mono λb x=>E⟩⟩,C,f,λb P=>?_⟩
 ·rw[eY (λz=>by cases z)]
  exact u
 ·obtain⟨r,D,t⟩:=(N b).mpr P
  by_cases z:r=.eX
  ·rw[z,fD] at t
   exact .inr t.symm
  ·rw[eY z] at t
   rw[cJ z] at D;refine .inl ((m b).mpr ⟨r,?_,t⟩);by_cases w:r=.cV
   ·rw[w];exact j
   ·rw[cJ w] at D;exact D
end
end TW
namespace TW
open PySem L2 PyProof.Rows
open Classical in
noncomputable def Off(H:Hp)(F:Addr->Prop):Hp:=λb=>if F b then none else H b
section
variable{K:af}{c:NC}{CT:Addr}{H H':Hp}{F F' F1 F2 G:Addr->Prop}{p tp ln lr:Addr}{n:Nat}{s:NS}{ns:List Int}{rs:List R5}
theorem jT{b:Addr}{o:HO}(h:Off H F b=some o):¬F b/\H b=some o:=by
 unfold Off at h;by_cases z:F b
 ·rw[b3 z] at h;cases h
 ·rw[b5 z] at h;exact⟨z,h⟩
theorem jU{b:Addr}{o:HO}(z:¬F b)(h:H b=some o):Off H F b=some o:=by
 unfold Off;rw[b5 z];exact h
theorem cy:aD (Off H F) H:=λb o e=>(jT e).2
theorem sX(st:Step H F H' F'):aD (Off H F) (Off H' F'):=λb o e=>by
 obtain⟨c,a⟩:=jT e;refine jU (λz=>?_) (st.kp b o a c);rcases st.fr b z with w|w
 ·exact c w
 ·rw[a] at w;cases w
theorem b9(e:aD H H'):aD (Off H F) (Off H' F):=sX (Step.refl' e)
theorem RK{z:Addr}{o:HO}(a:¬F z):Off (upd H z o) F=upd (Off H F) z o:=by
 funext b;by_cases e:b=z
 ·subst e
  rw[av];exact jU a av
 ·rw[aF e]
  unfold Off;rw[aF e]
theorem cY.nw(a:cY K CT (Off H G) tp ln lr ns rs)(N:dm K c H F p tp ns.length s)(sub:∀b,F b->G b):NW K c CT H F p tp ln lr ns rs s:=by
 obtain⟨⟨h,f⟩,d,g,e,i⟩:=id a;exact⟨N,a.mono cy,λz=>(jT f).1 (sub _ z),λz=>(jT d).1 (sub _ z),λz=>(jT e).1 (sub _ z)⟩
end
def Qt(K:af)(H:Hp)(l:Addr)(rs:List R5):Prop:=∃qs:List Addr,H l=some (.lst (qs.map V.ref))/\c8 K H qs (rs.map R5.vs)
theorem Qt.keep{K:af}{H a:Hp}{l:Addr}{rs:List R5}(h:Qt K H l rs)(k:∀o,H l=some o->a l=some o)(f:∀b x,cW K H b x->cW K a b x):Qt K a l rs:=by
 obtain⟨d,e,c⟩:=h;exact⟨d,k _ e,c.mono f⟩
theorem Qt.RL{K:af}{H:Hp}{l:Addr}:∀{rs:List R5} {qs:List Addr},c8 K H qs (rs.map R5.vs)->cH K H (rs.map R5.D) (qs.map V.ref)
 |[],[],_=>rfl
 |[],_::_,h=>by cases h.len
 |_::_,[],h=>by cases h.len
 |r::rs,q::qs,h=>⟨.ref q,qs.map V.ref,rfl,Rep.Hl (ns:=r.ns) (h.at' 0 q _ rfl rfl),Qt.RL (l:=l) ⟨Nat.succ.inj h.len,λi p x a b=>h.at' (i+1) p x a b⟩⟩
theorem YC{F G:Addr->Prop}{H:Hp}(h:∀b,F b->G b):aD (Off H G) (Off H F):=λb o e=>jU (λz=>(jT e).1 (h b z)) (jT e).2
theorem V8{H c d:Hp}{F:Addr->Prop}{p:Addr}(t:aD H c)(a:H p=none)(g:∀b o,c b=some o->b≠p->d b=some o)(f:∀b,F b->b=p∨c b=none):aD H (Off d F):=λb o e=>jU (λz=>by
 rcases f b z with rfl|w
 ·rw[e] at a;cases a
 ·rw[t _ _ e] at w;cases w) (g b o (t b o e) (aH e a))
end TW
namespace L2
open PySem PySem.Spec PyProof.Rows
structure LW(K:af)(x qual:Str)(st:Stmt)(f:Addr)(fd:FuncData)(dv:Value):Prop where
 ex:∃(oc:Value) (od:Option Addr) (T:Addr) (o:Obj) (n:Nat) (kV doc pm:Value) (an:Option Addr) (cdv ct:Value) (osl:Array (Option Value)),
  fd=eK x qual (jF st) (fT st) (aB st) (.ref T) kV doc pm an cdv ct/\K.lookup f=some ⟨oc,od,.func fd,osl⟩/\jz K cdv qual=true/\K.lookup T=some o/\o.data=.seq #[dv] n
 kp:dU K (.ref f)=true
section
variable{P:Program}{w:World}{K:af}{mg:Str->Option Value}{base:Heap}
theorem LW.ok{x b:Str}{st:Stmt}{f:Addr}{i:FuncData}{j:Value}{N ps:List Str}{k:Nat}{sp:Sp}(F:LW K x b st f i j)(S:aI N ps (aB st))(g:∀vs H Q E,sp vs H Q E->vs.length=ps.length)
 (d:∀(c:Value) (A:Around) (a:List Env) (s:Shared) (H:Hp) (vs:List V) (Q:VK) (E:XK),jP k (A.deeper (envOfC b (aB st) s.heap.objs.size f c))->sp vs H Q E ->
  ∃t,jk (oM iH P w K mg base N b (aB st) f c A a s H E).ZK (fT st) t/\t {nx:=λ_ p=>Q .fE p,rt:=Q} (start N vs) H):b6 P w K mg base iH (k+1) f i ps sp:=by
 obtain⟨z,B,T,o,n,kV,m,C,y,c,v,l,rfl,lk,e,_⟩:=F.ex;refine Vo lk e S g λA a s H vs Q E r u=>?_;obtain⟨t,h,q⟩:=d c A a s H vs Q E r u;exact⟨t,h.ZK,q⟩
theorem LW.binds{x a:Str}{st:Stmt}{f:Addr}{i:FuncData}{g:Value}{ps:List Str}{ds:List Value}{m:Nat}(F:LW K x a st f i g)(v:m+ds.length=ps.length)
 (h:∀(T:Addr) (kV c e:Value) (d:Option Addr) (b ct:Value) (us:List Value),us.length=m ->
  ∃k,bindArgs (eK x a (jF st) (fT st) (aB st) (.ref T) kV c e d b ct) ⟨us,[]⟩=seqItems? (.ref T) >>= k/\k (some #[g])=pure (ps.zip (us++ds))):Binds K i ps ds:=by
 obtain⟨w,y,T,o,n,kV,c,e,d,b,ct,l,rfl,lk,j,lt,q⟩:=F.ex;intro s us t p;obtain⟨k,u,r⟩:=h T kV c e d b ct us (by rw[az] at p;lia);exact PySem.W.binds_K t rfl lt q u r
theorem RN{x a:Str}{st:Stmt}{f T:Addr}{o:Obj}{n:Nat}{i:Value}{j:Value}{m g:Option Addr}{e:Array (Option Value)}{kV d h b ct:Value}(l:K.lookup f=some ⟨j,m,.func (eK x a (jF st) (fT st) (aB st) (.ref T) kV d h g b ct),e⟩)
 (c:jz K b a=true) (k:dU K (.ref f)=true) (lt:K.lookup T=some o) (p:o.data=.seq #[i] n):LW K x a st f (eK x a (jF st) (fT st) (aB st) (.ref T) kV d h g b ct) i:=⟨⟨j,m,T,o,n,kV,d,h,g,b,ct,e,rfl,l,c,lt,p⟩,k⟩
end
end L2
namespace TW
open PySem L2 PyProof.Rows
structure kr(K:af)(c:NC)(H:Hp)(F:Addr->Prop)(loc dx:Role->Addr)(q:TQ)(p tp:Addr)(n:Nat)(s:NS):Prop where
 hp:loc .cV=p
 own:vD H loc (desc c dx tp loc q s)
 fp:∀b,F b↔Fp loc (desc c dx tp loc q s) b
 tup:ny K H n q s
section
variable{K:af}{c:NC}{H H':Hp}{F:Addr->Prop}{loc dx:Role->Addr}{q:TQ}{p tp:Addr}{n:Nat}{s:NS}
theorem kr.cV(h:kr K c H F loc dx q p tp n s):dm K c H F p tp n s:=⟨loc,dx,q,h.hp,h.own,h.fp,h.tup⟩
theorem kr.mono(h:kr K c H F loc dx q p tp n s)(e:aD H H'):kr K c H' F loc dx q p tp n s:=⟨h.hp,h.own.mono e,h.fp,h.tup.mono λb x=>e.dw⟩
theorem Bm(X:kr K c H F loc dx q p tp n s){r:Role}(d:desc c dx tp loc q s r≠none){o:HO}{q':TQ}{s':NS}
 (m:∀x,iA (desc c dx tp loc q s) r o x=desc c dx tp loc q' s' x) (f:(∀b x,cW K H b x->cW K (upd H (loc r) o) b x)->ny K (upd H (loc r) o) n q' s') :
 kr K c (upd H (loc r) o) F loc dx q' p tp n s'/\Step H F (upd H (loc r) o) F:=by
 obtain⟨h,O,a,j⟩:=X;have l:F (loc r):=(a _).mpr ⟨r,d,rfl⟩;have t:dm K c H F p tp n s:=⟨loc,dx,q,h,O,a,j⟩;have g:∀b u,H b=some u->¬F b->(upd H (loc r) o) b=some u:=λb u e z=>cu b u e λw=>z (w▸l);obtain⟨i,k⟩:=(O.set d o).ext (RJ:=desc c dx tp loc q' s') (loc':=loc) m (λx _=>rfl);exact⟨⟨h,i,λb=>(a b).trans ((HK d).symm.trans (k b)),f λb x=>t.tup g⟩,g,λb z=>.inl z⟩
theorem gG{ls:List LS}{i k:Nat}{a:LS}(b:i<ls.length):(ls.set i a)[k]?=if k=i then some a else ls[k]?:=by
 rw[cO];by_cases z:i=k
 ·subst z
  rw[b3 rfl,b3 b,b3 rfl]
 ·rw[b5 z,b5 (bP z)]
noncomputable def mR(c:NC)(dx:Role->Addr)(loc:Role->Addr)(i:Nat)(l:LS):HO:=.ins c.post (dx (.bS i)) [("letter",.ref (loc (.letter i))),("group",.int l.grp),("old",.bl l.old),("done_at",.ref (loc (.done i))),("deeds",.ref (loc (.aE i)))]
theorem YD(X:kr K c H F loc dx q p tp n s){i:Nat}{l:LS}(hl:s.ls[i]?=some l) :
 kr K c (upd H (loc (.bS i)) (mR c dx loc i {l with old:=true})) F loc dx q p tp n {s with ls:=s.ls.set i {l with old:=true}}/\Step H F (upd H (loc (.bS i)) (mR c dx loc i {l with old:=true})) F:=by
 have a:=(ai.mp hl).1;refine Bm X (r:=.bS i) (q':=q) (by show (s.ls[i]?.map _)≠none;rw[hl];exact aM _) (λx=>?_) (λb=>⟨λg f=>(X.tup.rows g f).mono b,λk d e=>?_,X.tup.cps.mono b⟩)
 ·cases x <;> first|rfl|skip
  ·show some _=some (HO.lst ((au (s.ls.set i _).length).map _))
   rw[bA]
  all_goals rename_i k
  ·show iA (desc c dx tp loc q s) (.bS i) _ (.bS k)=((s.ls.set i _)[k]?.map λl=>mR c dx loc k l)
   rw[gG a];by_cases z:k=i
   ·subst z
    rw[dB,b3 rfl];rfl
   ·rw[cJ (λe=>z (by cases e;rfl)),b5 z]
    rfl
  ·show (s.ls[k]?.map λl=>rW c (dx (.letter k)) l)=((s.ls.set i _)[k]?.map λl=>rW c (dx (.letter k)) l)
   rw[gG a];by_cases z:k=i
   ·subst z
    rw[b3 rfl,hl];rfl
   ·rw[b5 z]
  ·show (s.ls[k]?.map λl=>HO.dK (l.done.map λh:Nat=>(gy (h:Int),.bl true)))=((s.ls.set i _)[k]?.map λl=>HO.dK (l.done.map λh:Nat=>(gy (h:Int),.bl true)))
   rw[gG a];by_cases z:k=i
   ·subst z
    rw[b3 rfl,hl];rfl
   ·rw[b5 z]
  ·show (s.ls[k]?.map λ_=>HO.lst ((q.dq k).map V.ref))=((s.ls.set i _)[k]?.map λ_=>HO.lst ((q.dq k).map V.ref))
   rw[gG a];by_cases z:k=i
   ·subst z
    rw[b3 rfl,hl];rfl
   ·rw[b5 z]
 ·have e:(s.ls.set i _)[k]?=some d:=e
  rw[gG a] at e;by_cases z:k=i
  ·subst z
   rw[b3 rfl] at e;cases e;exact (X.tup.aE k l hl).mono b
  ·rw[b5 z] at e
   exact (X.tup.aE k d e).mono b
theorem V9(X:kr K c H F loc dx q p tp n s){i:Nat}{l:LS}(hl:s.ls[i]?=some l)(ds:List Nat) :
 kr K c (upd H (loc (.done i)) (.dK (ds.map λh:Nat=>(gy (h:Int),.bl true)))) F loc dx q p tp n {s with ls:=s.ls.set i {l with done:=ds}}/\Step H F (upd H (loc (.done i)) (.dK (ds.map λh:Nat=>(gy (h:Int),.bl true)))) F:=by
 have a:=(ai.mp hl).1;refine Bm X (r:=.done i) (q':=q) (by show (s.ls[i]?.map _)≠none;rw[hl];exact aM _) (λx=>?_) (λb=>⟨λg f=>(X.tup.rows g f).mono b,λk d e=>?_,X.tup.cps.mono b⟩)
 ·cases x <;> first|rfl|skip
  ·show some _=some (HO.lst ((au (s.ls.set i _).length).map _))
   rw[bA]
  all_goals rename_i k
  ·show (s.ls[k]?.map λl=>mR c dx loc k l)=((s.ls.set i _)[k]?.map λl=>mR c dx loc k l)
   rw[gG a];by_cases z:k=i
   ·subst z
    rw[b3 rfl,hl];rfl
   ·rw[b5 z]
  ·show (s.ls[k]?.map λl=>rW c (dx (.letter k)) l)=((s.ls.set i _)[k]?.map λl=>rW c (dx (.letter k)) l)
   rw[gG a];by_cases z:k=i
   ·subst z
    rw[b3 rfl,hl];rfl
   ·rw[b5 z]
  ·show iA (desc c dx tp loc q s) (.done i) _ (.done k)=((s.ls.set i _)[k]?.map λl=>HO.dK (l.done.map λh:Nat=>(gy (h:Int),.bl true)))
   rw[gG a];by_cases z:k=i
   ·subst z
    rw[dB,b3 rfl];rfl
   ·rw[cJ (λe=>z (by cases e;rfl)),b5 z]
    rfl
  ·show (s.ls[k]?.map λ_=>HO.lst ((q.dq k).map V.ref))=((s.ls.set i _)[k]?.map λ_=>HO.lst ((q.dq k).map V.ref))
   rw[gG a];by_cases z:k=i
   ·subst z
    rw[b3 rfl,hl];rfl
   ·rw[b5 z]
 ·have e:(s.ls.set i _)[k]?=some d:=e
  rw[gG a] at e;by_cases z:k=i
  ·subst z
   rw[b3 rfl] at e;cases e;exact (X.tup.aE k l hl).mono b
  ·rw[b5 z] at e
   exact (X.tup.aE k d e).mono b
theorem z7(X:kr K c H F loc dx q p tp n s){i:Nat}{l:LS}(hl:s.ls[i]?=some l){a:Addr}{d:iW}(w:cW K H a d.vs) :
 kr K c (upd H (loc (.aE i)) (.lst ((q.dq i).map V.ref++[.ref a]))) F loc dx {q with dq:=iB q.dq i (q.dq i++[a])} p tp n {s with ls:=s.ls.set i {l with aE:=l.aE++[d]}}/\Step H F (upd H (loc (.aE i)) (.lst ((q.dq i).map V.ref++[.ref a]))) F:=by
 have m:=(ai.mp hl).1;refine Bm X (r:=.aE i) (q':={q with dq:=iB q.dq i (q.dq i++[a])}) (by show (s.ls[i]?.map _)≠none;rw[hl];exact aM _) (λx=>?_) (λo=>⟨λg y=>(X.tup.rows g y).mono o,λk v e=>?_,X.tup.cps.mono o⟩)
 ·cases x <;> first|rfl|skip
  ·show some _=some (HO.lst ((au (s.ls.set i _).length).map _))
   rw[bA]
  all_goals rename_i k
  ·show (s.ls[k]?.map λl=>mR c dx loc k l)=((s.ls.set i _)[k]?.map λl=>mR c dx loc k l)
   rw[gG m];by_cases z:k=i
   ·subst z
    rw[b3 rfl,hl];rfl
   ·rw[b5 z]
  ·show (s.ls[k]?.map λl=>rW c (dx (.letter k)) l)=((s.ls.set i _)[k]?.map λl=>rW c (dx (.letter k)) l)
   rw[gG m];by_cases z:k=i
   ·subst z
    rw[b3 rfl,hl];rfl
   ·rw[b5 z]
  ·show (s.ls[k]?.map λl=>HO.dK (l.done.map λh:Nat=>(gy (h:Int),.bl true)))=((s.ls.set i _)[k]?.map λl=>HO.dK (l.done.map λh:Nat=>(gy (h:Int),.bl true)))
   rw[gG m];by_cases z:k=i
   ·subst z
    rw[b3 rfl,hl];rfl
   ·rw[b5 z]
  ·show iA (desc c dx tp loc q s) (.aE i) _ (.aE k)=((s.ls.set i _)[k]?.map λ_=>HO.lst ((iB q.dq i (q.dq i++[a]) k).map V.ref))
   rw[gG m];by_cases z:k=i
   ·subst z
    rw[dB,b3 rfl,cZ,aO];rfl
   ·rw[cJ (λe=>z (by cases e;rfl)),b5 z,fH z]
    rfl
 ·show c8 K _ (iB q.dq i (q.dq i++[a]) k) _
  have e:(s.ls.set i _)[k]?=some v:=e;rw[gG m] at e;by_cases z:k=i
  ·subst z
   rw[b3 rfl] at e;cases e;rw[cZ];show c8 K _ _ ((l.aE++[d]).map iW.vs);rw[aO];have u:=(X.tup.aE k l hl).mono o;refine⟨by rw[az,az,u.len];rfl,λj b x t f=>?_⟩;rcases xX t with t|⟨rfl,rfl⟩
   ·have A:=(ai.mp t).1
    rw[bI (by rw[<- u.len];exact A)] at f;exact u.at' j b x t f
   ·rw[u.len,bL (ay _)] at f
    rw[iF] at f;cases f;exact o _ _ w
  ·rw[b5 z] at e
   rw[fH z];exact (X.tup.aE k v e).mono o
theorem RO(X:kr K c H F loc dx q p tp n s){qs:List Addr}{cps:List Cp}(d:c8 K H qs (cps.map Cp.vs)) :
 kr K c (upd H (loc .eX) (.lst (qs.map V.ref))) F loc dx {q with cq:=qs} p tp n {s with cps:=cps}/\Step H F (upd H (loc .eX) (.lst (qs.map V.ref))) F :=
 Bm X (r:=.eX) (q':={q with cq:=qs}) (aM _) (λx=>by cases x <;> rfl) (λa=>⟨λg b=>(X.tup.rows g b).mono a,λk l e=>(X.tup.aE k l e).mono a,d.mono a⟩)
theorem Wa(X:kr K c H F loc dx q p tp n s){i:Nat}(d:i<s.had.length)(a:List Nat) :
 kr K c (upd H (loc (.handed i)) (.lst (bC a))) F loc dx q p tp n {s with had:=s.had.set i a}/\Step H F (upd H (loc (.handed i)) (.lst (bC a))) F:=by
 refine Bm X (r:=.handed i) (q':=q) (by show (s.had[i]?.map _)≠none;rw[aa d];exact aM _) (λx=>?_) (λb=>⟨λg f=>(X.tup.rows g f).mono b,λk l e=>(X.tup.aE k l e).mono b,X.tup.cps.mono b⟩);cases x <;> first|rfl|skip
 ·show some _=some (HO.lst ((au (s.had.set i _).length).map _))
  rw[bA]
 ·rename_i k
  show iA (desc c dx tp loc q s) (.handed i) _ (.handed k)=((s.had.set i a)[k]?.map λw=>HO.lst (bC w));rw[cO];by_cases z:k=i
  ·subst z
   rw[dB,b3 rfl,b3 d];rfl
  ·rw[cJ (λe=>z (by cases e;rfl)),b5 (bP z)]
   rfl
end
theorem HM{α:Type}{xs:List α}{i:Nat}{x:α}(h:xs[i]?=some x):xs.set i x=xs:=by
 obtain⟨a,rfl⟩:=ai.mp h;exact List.set_getElem_self a
noncomputable def zE(c:NC)(Ej LX la da ea:Addr)(n:Nat)(l:LS):Role->Option HO
 |.bS i=>if i=n then some (.ins c.post Ej [("letter",.ref la),("group",.int l.grp),("old",.bl l.old),("done_at",.ref da),("deeds",.ref ea)]) else none
 |.letter i=>if i=n then some (rW c LX l) else none
 |.done i=>if i=n then some (.dK (l.done.map λh:Nat=>(gy (h:Int),.bl true))) else none
 |.aE i=>if i=n then some (.lst []) else none
 |_=>none
noncomputable def newL(pa la da ea:Addr):Role->Addr
 |.bS _=>pa
 |.letter _=>la
 |.done _=>da
 |.aE _=>ea
 |_=>0
section
variable{K:af}{c:NC}{H H':Hp}{F:Addr->Prop}{loc dx:Role->Addr}{q:TQ}{p tp:Addr}{n:Nat}{s:NS}
theorem abK{Ej LX pa la da ea:Addr}{l:LS}(x:H pa=some (.ins c.post Ej [("letter",.ref la),("group",.int l.grp),("old",.bl l.old),("done_at",.ref da),("deeds",.ref ea)]))(v:H la=some (rW c LX l))(u:H da=some (.dK (l.done.map λh:Nat=>(gy (h:Int),.bl true))))(w:H ea=some (.lst []))
 (s:pa≠la) (k:pa≠da) (j:pa≠ea) (m:la≠da) (q:la≠ea) (p:da≠ea):vD H (newL pa la da ea) (zE c Ej LX la da ea n l):=by
 have d:∀{i:Nat} {o:HO} {g:HO},(if i=n then some o else none)=some g->o=g/\i=n:=λ{i o g} e=>by
  by_cases z:i=n
  ·rw[b3 z] at e;cases e;exact⟨rfl,z⟩
  ·rw[b5 z] at e;cases e
 have f:∀{i:Nat} {o:HO},(if i=n then some o else none)≠none->i=n:=λ{i o} e=>by
  by_cases z:i=n
  ·exact z
  ·rw[b5 z] at e;exact ee rfl e
 refine⟨λr o e=>?_,λr t a b e=>?_⟩
 ·cases r <;> first|(cases e;done)|skip
  ·rw[<- (d e).1];exact x
  ·rw[<- (d e).1];exact v
  ·rw[<- (d e).1];exact u
  ·rw[<- (d e).1];exact w
 ·cases r <;> first|exact ee rfl a|skip
  all_goals cases t <;> first|exact ee rfl b|skip
  all_goals first
   | (rw[f a,f b];done)
   |exact ee e s
   |exact ee e.symm s
   |exact ee e k
   |exact ee e.symm k
   |exact ee e j
   |exact ee e.symm j
   |exact ee e m
   |exact ee e.symm m
   |exact ee e q
   |exact ee e.symm q
   |exact ee e p
   |exact ee e.symm p
theorem Wb(E:loc .cV=p)(O:vD H loc (desc c dx tp loc q s))(m:∀b,F b↔Fp loc (desc c dx tp loc q s) b)(j:ny K H n q s){Ej LX pa la da ea:Addr}{l:LS}(W:l.aE=[])
 (h1:H pa=some (.ins c.post Ej [("letter",.ref la),("group",.int l.grp),("old",.bl l.old),("done_at",.ref da),("deeds",.ref ea)])) (X:H la=some (rW c LX l)) (I:H da=some (.dK (l.done.map λh:Nat=>(gy (h:Int),.bl true)))) (h4:H ea=some (.lst []))
 (d1:pa≠la) (M:pa≠da) (L:pa≠ea) (T:la≠da) (d5:la≠ea) (Z:da≠ea) (n1:¬F pa) (n2:¬F la) (n3:¬F da) (n4:¬F ea) :
 ∃C,dm K c (upd H (loc .cD) (.lst (((au s.ls.length).map λi=>.ref (loc (.bS i)))++[.ref pa]))) C p tp n {s with ls:=s.ls++[l]} /\
  (∀b o,H b=some o->¬F b->(upd H (loc .cD) (.lst (((au s.ls.length).map λi=>.ref (loc (.bS i)))++[.ref pa]))) b=some o)/\∀b,C b->F b∨b=pa∨b=la∨b=da∨b=ea:=by
 have t:=abK (n:=s.ls.length) (c:=c) h1 X I h4 d1 M L T d5 Z;have N0:dm K c H F p tp n s:=⟨loc,dx,q,E,O,m,j⟩;have v:desc c dx tp loc q s .cD≠none:=aM _;have U:F (loc .cD):=(m _).mpr ⟨.cD,v,rfl⟩;have y:∀r,zE c Ej LX la da ea s.ls.length l r≠none->¬F (newL pa la da ea r):=λr h=>by
  cases r <;> first|exact ee rfl h|assumption
 have D:∀b o,H b=some o->¬F b->(upd H (loc .cD) (.lst (((au s.ls.length).map λi=>.ref (loc (.bS i)))++[.ref pa]))) b=some o:=λb u e z=>cu b u e λw=>z (w▸U);have A:∀b x,cW K H b x->cW K _ b x:=λb x=>N0.tup D;have J:=O.join t λr G a b e=>y G b (e▸(m _).mpr ⟨r,a,rfl⟩);have S:=J.set (r:=.cD) v (.lst (((au s.ls.length).map λi=>V.ref (loc (.bS i)))++[.ref pa]));have f:∀{k:Nat},k≠s.ls.length->(s.ls++[l])[k]?=s.ls[k]?:=λ{k} z=>by
  by_cases w:k<s.ls.length
  ·exact bI w
  ·rw[jj (by rw[az];show s.ls.length+1<=k;lia),jj ∅]
 have d:(s.ls++[l])[s.ls.length]?=some l:=by rw[bL (ay _),iF];rfl
 obtain⟨N,Q⟩:=S.ext (RJ:=desc c (λr=>if r=.bS s.ls.length then Ej else if r=.letter s.ls.length then LX else dx r) tp (λr=>if (zE c Ej LX la da ea s.ls.length l r).isSome=true then newL pa la da ea r else loc r) {q with dq:=iB q.dq s.ls.length []} {s with ls:=s.ls++[l]})
  (loc':=λr=>if (zE c Ej LX la da ea s.ls.length l r).isSome=true then newL pa la da ea r else loc r) (λr=>by
   cases r <;> first|rfl|skip
   ·
    show some _=some (HO.lst ((au (s.ls++[l]).length).map _));rw[az];show _=some (HO.lst ((au (s.ls.length+1)).map _));rw[gz,aO];congr 2;congr 1
    ·refine cF λi R=>?_
     have z:i≠s.ls.length:=by have:=cT.mp R;lia
     simp[zE,z]
    ·simp[zE,newL]
   all_goals rename_i k
   all_goals by_cases z:k=s.ls.length
   all_goals first|subst z|skip
   all_goals rw[cJ (λe=>by cases e)]
   ·simp[zE,newL,desc,d]
   ·have:=f z
    simp[zE,newL,desc,z,this]
   ·simp[zE,newL,desc,d]
   ·have:=f z
    simp[zE,newL,desc,z,this]
   ·simp[zE,newL,desc,d]
   ·have:=f z
    simp[zE,newL,desc,z,this]
   ·simp[zE,newL,desc,d,cZ]
   ·have:=f z
    simp[zE,newL,desc,z,this,fH z]) (λr _=>rfl)
 refine⟨Fp _ _,⟨λr=>if (zE c Ej LX la da ea s.ls.length l r).isSome=true then newL pa la da ea r else loc r,_,_,E,N,λb=>Iff.rfl,⟨λg Y=>(j.rows g Y).mono A,λk B e=>?_,j.cps.mono A⟩⟩,D,λb P=>?_⟩
 ·have e:(s.ls++[l])[k]?=some B:=e
  show c8 K _ (iB q.dq s.ls.length [] k) _;by_cases z:k=s.ls.length
  ·subst z
   rw[d] at e;cases e;rw[cZ,W];exact⟨rfl,λi b x e=>by cases e⟩
  ·rw[f z] at e
   rw[fH z];exact (j.aE k B e).mono A
 ·obtain⟨r,a,e⟩:=(HK (ob:=λr=>if (zE c Ej LX la da ea s.ls.length l r).isSome=true then zE c Ej LX la da ea s.ls.length l r else desc c dx tp loc q s r) (r:=.cD) v).mp ((Q b).mpr P)
  by_cases z:(zE c Ej LX la da ea s.ls.length l r).isSome=true
  ·simp only[z,if_true] at e
   subst e;right;cases r <;> first|(cases z;done)|skip
   ·exact .inl rfl
   ·exact .inr (.inl rfl)
   ·exact .inr (.inr (.inl rfl))
   ·exact .inr (.inr (.inr rfl))
  ·simp only[z,if_false] at a e
   exact .inl ((m b).mpr ⟨r,by simpa using a,by simpa using e⟩)
end
theorem RP(a b x y:Int):PyData.eqv (.tuple (([a,b]:List Int).map .int)) (.tuple (([x,y]:List Int).map .int))=decide (a=x/\b=y):=by
 show (PyData.eqv (.int a) (.int x)&&(PyData.eqv (.int b) (.int y)&&true))=_;show ((a==x)&&((b==y)&&true))=_;rw[Bool.and_true,iK];simp
section
variable{K:af}{c:NC}{H H':Hp}{F:Addr->Prop}{loc dx:Role->Addr}{q:TQ}{p tp:Addr}{n:Nat}{s:NS}
theorem kr.past(X:kr K c H F loc dx q p tp n s){z:Addr}{u:HO}(g:H z=some u)(d:uN u)(f:¬F z)(a:∀b v,H b=some v->b≠z->H' b=some v):kr K c H' F loc dx q p tp n s :=
 ⟨X.hp,X.own.keep λb o e y=>a b o e λw=>f (w▸(X.fp b).mpr y),X.fp,X.tup.mono λb x=>cW.past g d a⟩
end
noncomputable def Pq(i x:Nat)(c:Cp):Bool:=decide (c.r=i/\c.w=x)
noncomputable def dc(s:NS)(i:Nat)(d:iW):NS:=match s.ls[i]? with|some l=>{s with ls:=s.ls.set i {l with aE:=l.aE++[d]}}|none=>s
theorem e9{s:NS}{i:Nat}{d:iW}{l:LS}(h:s.ls[i]?=some l):dc s i d={s with ls:=s.ls.set i {l with aE:=l.aE++[d]}}:=by
 unfold dc;rw[h]
noncomputable def uQ(i x:Nat)(s:NS)(c:Cp):NS:=if Pq i x c=true then dc s c.l (.Qo c.h i) else s
noncomputable def iM(s:NS)(i x:Nat)(m:Nat):NS:=(s.cps.take m).foldl (uQ i x) s
noncomputable def ze(s:NS)(i x:Nat):NS:={iM s i x s.cps.length with cps:=s.cps.filter λc=>!Pq i x c}
theorem ND{s:NS}{i:Nat}{d:iW}:(dc s i d).ls.length=s.ls.length:=by
 unfold dc;cases s.ls[i]? with
 |none=>rfl
 |some l=>exact bA
theorem TV{i x:Nat}{s:NS}{c:Cp}:(uQ i x s c).ls.length=s.ls.length:=by
 unfold uQ;split
 ·exact ND
 ·rfl
theorem NF{s:NS}{i:Nat}{d:iW}:(dc s i d).cps=s.cps:=by
 unfold dc;cases s.ls[i]? <;> rfl
theorem TY{i x:Nat}{s:NS}{c:Cp}:(uQ i x s c).cps=s.cps:=by
 unfold uQ;split
 ·exact NF
 ·rfl
theorem KN{i x:Nat}:∀{cs:List Cp} {s:NS},(cs.foldl (uQ i x) s).ls.length=s.ls.length
 |[],_=>rfl
 |c::cs,s=>by rw[mY,KN,TV]
theorem KO{i x:Nat}:∀{cs:List Cp} {s:NS},(cs.foldl (uQ i x) s).cps=s.cps
 |[],_=>rfl
 |c::cs,s=>by rw[mY,KO,TY]
theorem sY{s:NS}{i x:Nat}:iM s i x 0=s:=by unfold iM;rw[List.take_zero];rfl
theorem sZ{s:NS}{i x m:Nat}(h:m<s.cps.length):iM s i x (m+1)=uQ i x (iM s i x m) s.cps[m]:=by
 unfold iM;rw[fX h,List.foldl_append];rfl
theorem Ez{s:NS}{i x m:Nat}:(iM s i x m).ls.length=s.ls.length:=KN
theorem TZ{s:NS}{i x m:Nat}:(iM s i x m).cps=s.cps:=KO
theorem EA{α:Type}{f:α->Bool}{xs:List α}{i:Nat}(a:i<xs.length):(xs.take (i+1)).filter f=(xs.take i).filter f++if f xs[i]=true then [xs[i]] else []:=by
 rw[fX a,eN];congr 1;cases e:f xs[i]
 ·rw[b5 (!_),sN (by rw[e];decide)];rfl
 ·rw[b3 rfl,sM e];rfl
theorem c8.snoc{K:af}{H:Hp}{qs:List Addr}{xs:List (List V)}{a:Addr}{x:List V}(h:c8 K H qs xs)(e:cW K H a x):c8 K H (qs++[a]) (xs++[x]):=by
 refine⟨by rw[az,az,h.len];rfl,λj b y d c=>?_⟩;rcases xX d with d|⟨rfl,rfl⟩
 ·have f:=(ai.mp d).1
  rw[bI (by rw[<- h.len];exact f)] at c;exact h.at' j b y d c
 ·rw[h.len,bL (ay _),iF] at c
  cases c;exact e
end TW
namespace RM
variable{N:Net}{S:Nat->Row}
end RM
namespace Gr
end Gr
namespace L2
open PySem PySem.Spec PyProof.Rows
section
variable{X:Cx}{pos:Pos}
theorem sS(i:Nat){x:Str}{e:Expr}{b:TE}{a:Pos}{ps:List Str}{h:Scope}(S:aI X.N ps h)(f:PE X e b)(d:X.N[i]?=some x:=by rfl)(c:Loc X.env.scope x:=by first|exact Or.inl rfl|exact Or.inr rfl)(g:swapsWith e (some (.Name x a)) pos.line X.env=pure false:=by rfl)(j:X.fn x=true∨X.env.scope.names.lookup x=some .local:=by first|exact .inl rfl|exact .inr rfl|assumption) :
 PS X (.Assign [.Name x a] e pos) (XO b (iG i)):=aaV S.nd d c f g j
theorem gS(i:Nat){x:Str}(a:X.N.Nodup)(c:X.N[i]?=some x:=by rfl)(b:Loc X.env.scope x:=by first|exact Or.inl rfl|exact Or.inr rfl)(d:X.fn x=true∨X.env.scope.names.lookup x=some .local:=by first|exact .inl rfl|exact .inr rfl|assumption):PG X (.Name x pos) (iG i):=Rf a c b d
theorem gT(i:Nat){x:Str}{ps:List Str}{c:Scope}(S:aI X.N ps c)(b:X.N[i]?=some x:=by rfl)(a:Loc X.env.scope x:=by first|exact Or.inl rfl|exact Or.inr rfl)(d:X.fn x=true∨X.env.scope.names.lookup x=some .local:=by first|exact .inl rfl|exact .inr rfl|assumption):PG X (.Name x pos) (iG i):=Rf S.nd b a d
theorem oR{e:Expr}{a:TE}(b:PE X e a):jk X [.Return (some e) pos] (XN a):=br (UZ b)
theorem oB{b j pos'}:jk X [.Return (some (.Constant (.bool b) j pos')) pos] (XN (tC (.bl b))):=br (UZ Kn)
theorem oE{e:Expr}{a:TE}(b:PE X e a)(c:swapsWith e none pos.line X.env=pure false:=by rfl):jk X [.Expr e pos] (ZL a):=br (fq b c)
theorem fY{a:Expr}{b:TE}(d:PE X a b)(c:gk a=true:=by rfl):PA X [a] (gC b zC):=(uF d gD c)
theorem oA{b a:Expr}{c d:TE}(h:PE X b c)(e:PE X a d)(g:gk b=true:=by rfl)(f:gk a=true:=by rfl):PA X [b,a] (gC c (gC d zC)):=(uF h (uF e gD f) g)
theorem HN{c b a:Expr}{d f e:TE}(l:PE X c d)(g:PE X b f)(j:PE X a e)(i:gk c=true:=by rfl)(h:gk b=true:=by rfl)(k:gk a=true:=by rfl):PA X [c,b,a] (gC d (gC f (gC e zC))):=(uF l (uF g (uF j gD k) h) i)
theorem Z3{d c a b:Expr}{e h f g:TE}(o:PE X d e)(i:PE X c h)(l:PE X a f)(n:PE X b g)(k:gk d=true:=by rfl)(j:gk c=true:=by rfl)(m:gk a=true:=by rfl)(p:gk b=true:=by rfl):PA X [d,c,a,b] (gC e (gC h (gC f (gC g zC)))):=(uF o (uF i (uF l (uF n gD p) m) j) k)
theorem aN5{c a d e b:Expr}{f j h i g:TE}(t:PE X c f)(o:PE X a j)(l:PE X d h)(r:PE X e i)(s:PE X b g)(m:gk c=true:=by rfl)(p:gk a=true:=by rfl)(q:gk d=true:=by rfl)(n:gk e=true:=by rfl)(k:gk b=true:=by rfl):PA X [c,a,d,e,b] (gC f (gC j (gC h (gC i (gC g zC))))):=(uF t (uF o (uF l (uF r (uF s gD k) n) q) p) m)
theorem aN6{d b e f c a:Expr}{g l j k i h:TE}(x:PE X d g)(s:PE X b l)(o:PE X e j)(v:PE X f k)(w:PE X c i)(p:PE X a h)(q:gk d=true:=by rfl)(t:gk b=true:=by rfl)(u:gk e=true:=by rfl)(r:gk f=true:=by rfl)(m:gk c=true:=by rfl)(n:gk a=true:=by rfl):PA X [d,b,e,f,c,a] (gC g (gC l (gC j (gC k (gC i (gC h zC)))))):=(uF x (uF s (uF o (uF v (uF w (uF p gD n) m) r) u) t) q)
theorem kO{N ps:List Str}{b scope:Scope}(S:aI N ps b)(c:List Str)(a:List (Option Nat))(d:X.env.scope=b:=by rfl)(e:X.N=N:=by rfl)(h:LM scope b N c a=true:=by decide +kernel):jR X scope c a:=Ti d e h
end
section
variable{X:Cx}{a b tg iter:Expr}{ta tb:TE}{pos:Pos}{op:CmpOp}{r:R2}{body:List Stmt}{wi:TI}{g:TG}{ts:TS}
theorem xL(e:PE X a ta)(d:PE X b tb)(c:Dl b:=by exact λ_ _=>rfl):PE X (.Subscript a b pos) (Vb (SY X.K) ta tb):=Rp Rq e d c
theorem xT(e:PE X a ta)(d:PE X b tb)(c:Dl b:=by exact λ_ _=>rfl):PE X (.Subscript a b pos) (Vb (S1 X.K) ta tb):=Rp Vr e d c
theorem yL(K:af)(d:PE X a ta)(f:PE X b tb)(e:X.K=K:=by rfl)(c:Dl b:=by exact λ_ _=>rfl):PE X (.Subscript a b pos) (Vb (SY K) ta tb):=Rp (VG K e) d f c
theorem yT(K:af)(d:PE X a ta)(f:PE X b tb)(e:X.K=K:=by rfl)(c:Dl b:=by exact λ_ _=>rfl):PE X (.Subscript a b pos) (Vb (S1 K) ta tb):=Rp (Yd K e) d f c
theorem qE(c:wN X (compareOp op) r)(e:PE X a ta)(g:PE X b tb)(f:op≠.In:=by decide)(d:op≠.NotIn:=by decide):PE X (.Compare a [op] [b] pos) (Vb r ta tb):=XS c e g (Vg b f d)
theorem qT(c:wN X (compareOp op) r)(e:PE X a ta)(g:PE X b tb)(f:op≠.In:=by decide)(d:op≠.NotIn:=by decide):PT X (.Compare a [op] [b] pos) (Vh (Vb r ta tb)):=kj c e g (Vg b f d)
theorem fS(c:PI X tg iter wi)(a:PG X tg g)(f:jk X body ts)(e:PassesOwn (model X.prog X.w) X.A X.env X.xe:=by exact PassesOwn.never)(d:X.calm=true:=by rfl)(b:∀x,foldedSetIterable iter X.env x=pure x:=by intro _;rfl):PS X (.For tg iter body [] pos) (adQ wi g ts):=aaX e d c a f b
end
section
variable{X:Cx}{x:Str}{p pos:Pos}{e:Expr}{es:List Expr}{te:TE}{t:TA}{id:String}{r:List V->Hp->VK->Prop}
theorem cB(h:p9 X (.builtin id) r)(d:X.mg x=none)(c:bootBuiltins x=some (.builtin id))(g:PA X (e::es) t)(f:Gl X x:=by rfl)(j:x≠"__name__" := by decide)(a:(x==("__debug__" : Str))=false:=by decide)
 (i:starEach (e::es) X.env=(false,eval e X.env)::starEach es X.env:=by rfl) (b:(backTo pos (starEach es X.env)).any (·.1)=false:=by rfl):PE X (.Call (.Name x p) (e::es) [] pos) (CI r t):=M7 h f d c g j a i b
theorem lS(f:X.mg "len" = none)(h:PE X e te)(g:Gl X "len" := by rfl)(a:gk e=true:=by rfl)(i:starEach [e] X.env=(false,eval e X.env)::starEach [] X.env:=by rfl)(c:(backTo pos (starEach [] X.env)).any (·.1)=false:=by rfl) :
 PE X (.Call (.Name "len" p) [e] [] pos) (CI (λd H Q=>∃p b,d=[.ref p]/\(bK X.K H p b∨cW X.K H p b)/\Q (.int b.length) H) (gC te zC)):=M7 LJ g f PySem.boot_len (uF h gD a) (!_) (!_) i c
end
theorem jg{N P:List Str}{a:Scope}(g:a.kind=.function:=by rfl)(b:a.isCoroutine=false:=by rfl)(d:a.isGenerator=false:=by rfl)(f:N.Nodup:=by decide +kernel)(c:N.take P.length=P:=by rfl)(e:∀x∈P,a.names.lookup x=some .local∨a.names.lookup x=some .cell:=by decide +kernel)(h:∀y∈a.names,y.2≠.free:=by decide +kernel):aI N P a:=⟨g,b,d,f,c,e,h⟩
structure nA(K:af)(mg:Str->Option Value)(x key:Str)(st:Stmt)(f:Addr)(d:FuncData)(ps:List Str):Prop where
 F:Pk K x key st f d
 B:Binds K d ps []
 g:mg x=some (.ref f)
structure iI(K:af)(C:Addr)(x key:Str)(st:Stmt)(f:Addr)(d:FuncData)(ps:List Str):Prop where
 F:Pk K x key st f d
 B:Binds K d ps []
 m:LC K C x f
structure NH(K:af)(C:Addr)(key:Str)(st:Stmt)(f:Addr)(d:FuncData)(ps:List Str):Prop where
 F:Pk K "__init__" key st f d
 B:Binds K d ps []
 M:Mk K C f
def EG(K:af)(mg:Str->Option Value)(x key:Str)(st:Stmt)(f:Addr):Prop:=∃d,Pk K x key st f d/\mg x=some (.ref f)
def EM(K:af)(C:Addr)(x key:Str)(st:Stmt)(f:Addr):Prop:=∃d,Pk K x key st f d/\LC K C x f
structure EC(K:af)(C:Addr):Prop where
 c:Jz K C
 Z4:PySem.W.makesIn K C=true
 kc:dU K (.ref C)=true
section
variable{K:af}{h:Heap}{mg:Str->Option Value}{x key:Str}{st:Stmt}{C f:Addr}{oc:Value}{od an:Option Addr}{osl:Array (Option Value)}{kV doc pm cdv ct:Value}
theorem wh(X:K.In h)(G:h.Ns mainGlobals mg)(a:bF K mainGlobals x=some (some (.ref f)))(l:K.lookup f=some ⟨oc,od,.func (eK x key (jF st) (fT st) (aB st) .none kV doc pm an cdv ct),osl⟩)(c:jz K cdv key=true)(k:dU K (.ref f)=true):EG K mg x key st f:=⟨_,VC l c k,cX X G a⟩
theorem g8(a:aG K (.ref C) x=some (some (.ref f)))(i:PySem.W.isFn K (.ref f)=true)(l:K.lookup f=some ⟨oc,od,.func (eK x key (jF st) (fT st) (aB st) .none kV doc pm an cdv ct),osl⟩)(c:jz K cdv key=true)(k:dU K (.ref f)=true):EM K C x key st f:=⟨_,VC l c k,⟨a,i,k⟩⟩
theorem Z5(f:xP K C Str.empty=true)(a:vq K C=true)(c:PySem.W.plainOver K C=true)(e:aG K (.ref C) "__setattr__" = some (some (.builtin "object.__setattr__")))(b:PySem.W.makesIn K C=true)(d:dU K (.ref C)=true):EC K C:=⟨⟨f,a,c,e⟩,b,d⟩
end
section
variable{X:Cx}{k k':Nat}{f C:Addr}{fd:FuncData}{ps:List Str}{sp:Sp}{x m key:Str}{st:Stmt}{p pos apos:Pos}{e o:Expr}{es:List Expr}{ta:TE}{t:TA}
theorem cG(F:b6 X.prog X.w X.K X.mg X.base iH k f fd ps sp)(l:jP k' X.A)(c:nA X.K X.mg x key st f fd ps)(i:PA X (e::es) t)(a:k<=k':=by decide)(h:Gl X x:=by rfl)
 (b:(x==("__debug__" : Str))=false:=by decide) (j:starEach (e::es) X.env=(false,eval e X.env)::starEach es X.env:=by rfl) (d:(backTo pos (starEach es X.env)).any (·.1)=false:=by rfl) :
 PE X (.Call (.Name x p) (e::es) [] pos) (ZQ sp [] E0 t):=Bf F (l.mono a) h c.g c.F.kp c.B .nil kG i b j d
theorem cM{pl:Sem Bool}(j:PE X o ta)(c:Jz X.K C)(u:iI X.K C m key st f fd ps)(F:b6 X.prog X.w X.K X.mg X.base iH k f fd ps sp)(i:jP k' X.A)(h:PA X (e::es) t)(b:k<=k':=by decide)
 (a:starEach (e::es) X.env=(false,eval e X.env)::starEach es X.env:=by rfl) (d:(backTo pos (starEach es X.env)).any (·.1)=false:=by rfl)
 (l:eval (.Call (.Attribute o m apos) (e::es) [] pos) X.env=(do
  let g <- eval o X.env
  standAt apos.atName
  let (f,first) <- holding [g] (getMethod g m pl)
  callWith pos f first (backTo pos (starEach (e::es) X.env)) (backToKw pos (keywordEach [] X.env))):=by rfl) :
 PE X (.Call (.Attribute o m apos) (e::es) [] pos) (zM C m sp [] E0 ta t):=rS j c u.m F (i.mono b) u.B .nil kG h a d l
theorem cI(u:NH X.K C key st f fd ps)(F:b6 X.prog X.w X.K X.mg X.base iH k f fd ps sp)(j:jP k' X.A)(d:X.mg x=some (.ref C))(h:PA X (e::es) t)(a:k+1<=k':=by decide)(g:Gl X x:=by rfl)
 (b:(x==("__debug__" : Str))=false:=by decide) (i:starEach (e::es) X.env=(false,eval e X.env)::starEach es X.env:=by rfl) (c:(backTo pos (starEach es X.env)).any (·.1)=false:=by rfl) :
 PE X (.Call (.Name x p) (e::es) [] pos) (Vm C sp [] E0 t):=Rk u.M F (j.mono a) g d u.B .nil kG h b i c
end
section
variable{P:Program}{w:World}{K:af}{mg:Str->Option Value}{base:Heap}
theorem Pk.jJ{x a:Str}{st:Stmt}{f:Addr}{e:FuncData}{N ps:List Str}{k:Nat}{sp:Sp}(F:Pk K x a st f e)(S:aI N ps (aB st))
 (g:∀{c:Value} {A:Around} {b:List Env} {s:Shared} {vs:List V} (H:Hp) (Q:VK) (E:XK),jP k (A.deeper (envOfC a (aB st) s.heap.objs.size f c))->sp vs H Q E ->
  ∃t,jk (oM iH P w K mg base N a (aB st) f c A b s H E).ZK (fT st) t/\t {nx:=λ_ j=>Q .fE j,rt:=Q} (start N vs) H) (d:∀vs H Q E,sp vs H Q E->vs.length=ps.length:=by intro _ _ _ _ h;cases h;subst_vars;rfl):b6 P w K mg base iH (k+1) f e ps sp:=F.ok S d λ_ _ _ _ H _ Q E i h=>g H Q E i h
theorem Pk.T4{x a:Str}{st:Stmt}{f:Addr}{e:FuncData}{N ps:List Str}{k:Nat}{sp:Sp}(F:Pk K x a st f e)(S:aI N ps (aB st))
 (g:∀{c:Value} {A:Around} {b:List Env} {s:Shared} {vs:List V} (H:Hp) (Q:VK) (E:XK),jP k (A.deeper (envOfC a (aB st) s.heap.objs.size f c))->sp vs H Q E ->
  ∃t,jk (oM (Ei P w) P w K mg base N a (aB st) f c A b s H E) (fT st) t/\t {nx:=λ_ j=>Q .fE j,rt:=Q} (start N vs) H) (d:∀vs H Q E,sp vs H Q E->vs.length=ps.length:=by intro _ _ _ _ h;cases h;subst_vars;rfl):b6 P w K mg base (Ei P w) (k+1) f e ps sp:=F.okX S d λ_ _ _ _ H _ Q E i h=>g H Q E i h
theorem LW.jJ{x a:Str}{st:Stmt}{f:Addr}{e:FuncData}{g:Value}{N ps:List Str}{k:Nat}{sp:Sp}(F:LW K x a st f e g)(S:aI N ps (aB st))
 (i:∀{c:Value} {A:Around} {b:List Env} {s:Shared} {vs:List V} (H:Hp) (Q:VK) (E:XK),jP k (A.deeper (envOfC a (aB st) s.heap.objs.size f c))->sp vs H Q E ->
  ∃t,jk (oM iH P w K mg base N a (aB st) f c A b s H E).ZK (fT st) t/\t {nx:=λ_ l=>Q .fE l,rt:=Q} (start N vs) H) (d:∀vs H Q E,sp vs H Q E->vs.length=ps.length:=by intro _ _ _ _ h;cases h;subst_vars;rfl):b6 P w K mg base iH (k+1) f e ps sp:=F.ok S d λ_ _ _ _ H _ Q E j h=>i H Q E j h
end
end L2
namespace L2
open PySem PySem.W PySem.Spec PyProof.Rows
noncomputable def YE:Bool->Keyed->Array Keyed->Nat->Nat->Nat->StateT SortSt Sem (Option Nat):=sortPriv% PySem.Builtin.gallop
noncomputable def Wc:Array Keyed->Array Keyed->StateT SortSt Sem (Array Keyed):=sortPriv% PySem.Builtin.mergeLo
noncomputable def We:Array Keyed->Array Keyed->StateT SortSt Sem (Array Keyed):=sortPriv% PySem.Builtin.mergeHi
section
variable{prog:Program}{w:World}{A:Around}{E:Value->Shared->Prop}{s:Shared}{κ:SortKind}{a₀:Array Keyed}{r:Keyed->Int}
def T5(prog:Program)(w:World)(A:Around)(s:Shared)(κ:SortKind)(a₀:Array Keyed)(r:Keyed->Int):Prop :=
 ∀x y,x∈a₀->y∈a₀->∀(E:Value->Shared->Prop) (C:Bool->Shared->Prop),C (decide (r x<r y)) s->wpAny (model prog w) A (keyLt' κ x.1 y.1) C E s
theorem om{st:SortSt}{x y:Keyed}{Q:Option Bool->SortSt->Prop}(c:T5 prog w A s κ a₀ r)(d:kindOf st=κ)(b:x∈a₀)(a:y∈a₀)(h:Q (some (decide (r x<r y))) st):wpS (model prog w) A E s (lt' x y) Q st:=by
 rw[lt'_eq];refine wpS_bind (wpS_get ?_);rw[d];refine wpS_bind (wpS_lift (wpAny_attempt (c _ _ b a _ _ ⟨rfl,?_⟩)));exact wpS_pure h
theorem jV{st:SortSt}{a:Array Keyed}{i:Nat}{x:Keyed}{Q:Keyed->SortSt->Prop}(e:a[i]?=some x)(h:Q x st):wpS (model prog w) A E s (elem' a i) Q st:=by
 rw[elem'_eq,e];exact wpS_pure h
noncomputable def Bo(l:Bool)(u v:Int):Bool:=if l then decide (u<v) else !decide (v<u)
theorem Wf{st:SortSt}{l:Bool}{c x:Keyed}{a:Array Keyed}{i:Nat}{Q:Option Bool->SortSt->Prop}(g:T5 prog w A s κ a₀ r)(j:kindOf st=κ)(f:x∈a₀)(d:c∈a₀)(e:a[i]?=some x)
 (h:Q (some (Bo l (r x) (r c))) st):wpS (model prog w) A E s (do let x <- elem' a i;if l=true then lt' x c else do let b <- lt' c x;pure (b.map (!·))) Q st:=by
 refine wpS_bind (jV e ?_);cases l
 ·exact wpS_bind (om g j d f (wpS_pure h))
 ·exact om g j f d h
def Sl(a₀ a:Array Keyed)(r:Keyed->Int)(b n:Nat)(f:Nat->Int):Prop:=∀i,i<n->∃x,a[b+i]?=some x/\x∈a₀/\r x=f i
def Up(f:Nat->Int)(n:Nat):Prop:=∀i j,i<=j->j<n->f i<=f j
theorem Wg{l:Bool}{f:Nat->Int}{v:Int}{n:Nat}(h:Up f n):∀i j,i<=j->j<n->Bo l (f j) v=true->Bo l (f i) v=true:=λi j a b c=>by
 have:=h i j a b
 unfold Bo at *;cases l <;> simp at*<;> lia
theorem Z6{st:SortSt}{B:Nat->Bool}{n lo f:Nat}{g:Nat->Option (Option Nat)×Nat×Nat->StateT SortSt Sem (ForInStep (Option (Option Nat)×Nat×Nat))}{Q:Option (Option Nat)×Nat×Nat->SortSt->Prop}
 (F:∀x p q R,q<=p->R (.done (none,p,q)) st->wpS (model prog w) A E s (g x (none,p,q)) R st)
 (C:∀x p q R,p<q->q<=n->R (.yield (if B (p+(q-p)/2)=true then (none,p+(q-p)/2+1,q) else (none,p,p+(q-p)/2))) st->wpS (model prog w) A E s (g x (none,p,q)) R st)
 (v:∀i j,i<=j->j<n->B j=true->B i=true) (u:lo<=f) (D:f<=n) (t:∀i,i<lo->B i=true) (r:∀i,f<=i->i<n->B i=false)
 (h:∀k,k<=n->(∀i,i<k->B i=true)->(∀i,k<=i->i<n->B i=false)->Q (none,k,k) st):wpS (model prog w) A E s (forIn [0:n] (none,lo,f) g) Q st:=by
 refine wpS_forRange (I:=λx c d=>d=st/\∃p q,c=(none,p,q)/\p<=q/\q<=n/\q-p<=n-x/\(∀i,i<p->B i=true)/\∀i,q<=i->i<n->B i=false) ?_ ?_ ⟨rfl,lo,f,rfl,u,D,∅,t,r⟩
 ·rintro x c d _ H ⟨rfl,p,q,rfl,G,l,y,m,o⟩
  by_cases e:q<=p
  ·refine F _ _ _ _ e ?_
   have:q=p:=∅
   subst this;exact h q l m o
  ·refine C _ _ _ _ ∅ l ?_
   cases b:B (p+(q-p)/2)
   ·exact⟨rfl,p,_,rfl,∅,∅,∅,m,λi a c=>by
     cases z:B i with
     |false=>rfl
     |true=>rw[v _ i a c z] at b;cases b⟩
   ·exact⟨rfl,_,q,rfl,∅,∅,∅,λi a=>v i _ ∅ ∅ b,o⟩
 ·rintro c d ⟨rfl,p,q,rfl,G,l,y,m,o⟩
  have:q=p:=∅
  subst this;exact h q l m o
theorem T6{st:SortSt}{l:Bool}{g:Keyed}{a:Array Keyed}{base n d:Nat}{f:Nat->Int}{Q:Option Nat->SortSt->Prop}(O:T5 prog w A s κ a₀ r)(M:kindOf st=κ)(o:g∈a₀)(L:Sl a₀ a r base n f)(W:Up f n)(X:d<n)
 (h:∀k,k<=n->(∀i,i<k->Bo l (f i) (r g)=true)->(∀i,k<=i->i<n->Bo l (f i) (r g)=false)->Q (some k) st):wpS (model prog w) A E s (YE l g a base n d) Q st:=by
 have K:=Wg (l:=l) (v:=r g) W;have J:∀i j,i<=j->j<n->Bo l (f i) (r g)=false->Bo l (f j) (r g)=false:=λi j a b c=>by
  cases e:Bo l (f j) (r g) with
  |false=>rfl
  |true=>rw[K i j a b e] at c;cases c
 obtain⟨x0,V,m0,U⟩:=L d X;refine wpS_bind (Wf O M m0 o V ?_);rw[U];dsimp only;cases T:Bo l (f d) (r g)
 all_goals (simp only[if_true,Bool.false_eq_true,if_false])
 ·refine wpS_bind (wpS_mono (wpS_forRange (I:=λx c m=>m=st/\∃p q,c=(none,p,q)/\p<q/\x<q/\p<=d/\Bo l (f (d-p)) (r g)=false)
   (Q:=λc m=>m=st/\∃p q,c=(none,p,q)/\p<q/\p<=d/\Bo l (f (d-p)) (r g)=false/\(d+1<=q∨Bo l (f (d-q)) (r g)=true)) ?_ ?_ ?_) ?k1)
  ·rintro x c m _ Y ⟨rfl,p,q,rfl,C,S,y,u⟩
   dsimp only;by_cases t:q≥d+1
   ·rw[b3 t]
    exact wpS_pure ⟨rfl,p,q,rfl,C,y,u,.inl t⟩
   ·rw[b5 t]
    obtain⟨P,G,F,H⟩:=L (d-q) ∅;refine wpS_bind (Wf O M F o G ?_);rw[H];dsimp only;cases N:Bo l (f (d-q)) (r g)
    ·simp only[Bool.false_eq_true,if_false]
     exact wpS_pure ⟨rfl,q,_,rfl,∅,∅,∅,N⟩
    ·simp only[if_true]
     exact wpS_pure ⟨rfl,p,q,rfl,C,y,u,.inr N⟩
  ·rintro c m ⟨rfl,p,q,rfl,C,S,y,u⟩
   exact⟨rfl,p,q,rfl,C,y,u,.inl ∅⟩
  ·exact⟨rfl,0,1,rfl,∅,∅,∅,T⟩
  case k1 =>
  rintro c m ⟨rfl,p,q,rfl,C,y,u,h5⟩;dsimp only;refine wpS_bind (Z6 (B:=λi=>Bo l (f i) (r g)) (λx p q R D k=>?_) (λx p q R D hq k=>?_) K ∅ ∅ (λi Z=>?_) (λi a b=>J _ i a b u) λk a b c=>wpS_pure (h k a b c))
  case refine_1=>dsimp only;rw[b3 D];exact wpS_pure k
  case refine_2 =>
   dsimp only;rw[b5 ∅];obtain⟨P,G,F,H⟩:=L (p+(q-p)/2) ∅;refine wpS_bind (Wf O M F o G ?_);rw[H];dsimp only at k ⊢;cases z:Bo l (f (p+(q-p)/2)) (r g) <;> rw[z] at k <;> exact wpS_pure k
  rcases h5 with h5|h5
  ·lia
  ·exact K i _ ∅ ∅ h5
 ·refine wpS_bind (wpS_mono (wpS_forRange (I:=λx c m=>m=st/\∃p q,c=(none,p,q)/\p<q/\x<q/\d+p<n/\Bo l (f (d+p)) (r g)=true)
   (Q:=λc m=>m=st/\∃p q,c=(none,p,q)/\p<q/\d+p<n/\Bo l (f (d+p)) (r g)=true/\(n-d<=q∨Bo l (f (d+q)) (r g)=false)) ?_ ?_ ?_) ?k1)
  ·rintro x c m _ Y ⟨rfl,p,q,rfl,C,S,y,u⟩
   dsimp only;by_cases t:q≥n-d
   ·rw[b3 t]
    exact wpS_pure ⟨rfl,p,q,rfl,C,y,u,.inl t⟩
   ·rw[b5 t]
    obtain⟨P,G,F,H⟩:=L (d+q) ∅;refine wpS_bind (Wf O M F o G ?_);rw[H];dsimp only;cases N:Bo l (f (d+q)) (r g)
    ·exact wpS_pure ⟨rfl,p,q,rfl,C,y,u,.inr N⟩
    ·exact wpS_pure ⟨rfl,q,_,rfl,∅,∅,∅,N⟩
  ·rintro c m ⟨rfl,p,q,rfl,C,S,y,u⟩
   exact⟨rfl,p,q,rfl,C,y,u,.inl ∅⟩
  ·exact⟨rfl,0,1,rfl,∅,∅,∅,T⟩
  case k1 =>
  rintro c m ⟨rfl,p,q,rfl,C,y,u,h5⟩;dsimp only;refine wpS_bind (Z6 (B:=λi=>Bo l (f i) (r g)) (λx p q R D k=>?_) (λx p q R D hq k=>?_) K ∅ ∅ (λi Z=>K i _ ∅ y u) (λi a b=>?_) λk a b c=>wpS_pure (h k a b c))
  case refine_1=>dsimp only;rw[b3 D];exact wpS_pure k
  case refine_2 =>
   dsimp only;rw[b5 ∅];obtain⟨P,G,F,H⟩:=L (p+(q-p)/2) ∅;refine wpS_bind (Wf O M F o G ?_);rw[H];dsimp only at k ⊢;cases z:Bo l (f (p+(q-p)/2)) (r g) <;> rw[z] at k <;> exact wpS_pure k
  rcases h5 with h5|h5
  ·lia
  ·exact J _ i ∅ b h5
structure MI(r:Keyed->Int)(T out X Y:List Keyed):Prop where
 p:(out++(X++Y)).Perm T
 so:out.Pairwise λx y=>r x<=r y
 sx:X.Pairwise λx y=>r x<=r y
 sy:Y.Pairwise λx y=>r x<=r y
 le:∀x∈out,∀y∈X++Y,r x<=r y
theorem MI.swap{T a X Y:List Keyed}(h:MI r T a X Y):MI r T a Y X:=⟨((List.perm_append_comm).append_left a).trans h.p,h.so,h.sy,h.sx,λx c y b=>h.le x c y (by simp only[bz] at *;exact b.symm)⟩
theorem MI.a{T b X Y:List Keyed}{x y:Keyed}(h:MI r T b (x::X) (y::Y))(c:r x<=r y):MI r T (b++[x]) X (y::Y):=by
 have d:=sI.mp h.sx;have e:=sI.mp h.sy;refine⟨by simpa using h.p,List.pairwise_append.mpr ⟨h.so,-_,λu hu v hv=>?_⟩,d.2,h.sy,λu hu v hv=>?_⟩
 ·rw[bf] at hv;subst hv
  exact h.le u hu v (-_)
 ·rcases bz.mp hu with hu|hu
  ·exact h.le u hu v (by simp at hv ⊢;exact .inr hv)
  ·rw[bf] at hu;subst hu
   rcases bz.mp hv with hv|hv
   ·exact d.1 v hv
   ·rcases bx.mp hv with rfl|hv
    ·exact c
    ·exact rL c (e.1 v hv)
theorem MI.as{T Y:List Keyed}{y:Keyed}:∀{out X Z:List Keyed},MI r T out (Z++X) (y::Y)->(∀x∈Z,r x<=r y)->MI r T (out++Z) X (y::Y)
 |out,X,[],h,_=>by simpa using h
 |out,X,z::Z,h,b=>by
  have:=MI.as (Z:=Z) (MI.a h (b z (-_))) λx c=>b x (by simp[c])
  simpa using this
theorem MI.fin{T a X:List Keyed}(h:MI r T a X []):(a++X).Perm T/\(a++X).Pairwise λx y=>r x<=r y :=
 ⟨by simpa using h.p,List.pairwise_append.mpr ⟨h.so,h.sx,λu c v b=>h.le u c v (by simp[b])⟩⟩
theorem MI.last{T a Y:List Keyed}{x:Keyed}(h:MI r T a [x] Y)(hl:∀y∈Y,r y<=r x):(a++Y++[x]).Perm T/\(a++Y++[x]).Pairwise λx y=>r x<=r y:=by
 refine⟨((List.perm_append_comm (l₁:=Y) (l₂:=[x])).append_left a).trans h.p |> (by simpa using ·),List.pairwise_append.mpr ⟨List.pairwise_append.mpr ⟨h.so,h.sy,λu hu v b=>h.le u hu v (by simp[b])⟩,-_,λu hu v b=>?_⟩⟩;rw[bf] at b;subst b;rcases bz.mp hu with hu|hu
 ·exact h.le u hu v (-_)
 ·exact hl u hu
theorem drop_cons{a:Array Keyed}{i:Nat}(h:i<a.size):a.toList.drop i=a[i]::a.toList.drop (i+1):=by
 rw[p8 (by simpa using h)];simp
theorem drop_take{a:Array Keyed}{i k:Nat}:a.toList.drop i=(a.extract i (i+k)).toList++a.toList.drop (i+k):=by
 rw[Array.toList_extract,p7];rw[show i+k-i=k by lia,<- List.drop_drop,wL]
theorem GY{a:Array Keyed}{i:Nat}:(a.extract i a.size).toList=a.toList.drop i:=by
 rw[Array.toList_extract,p7,eO (-_)]
theorem Wh{α β:Type}{G:Prop}{C P:α->β->Prop}(h:(∀x y,C x y->P x y)->G)(k:∀x y,C x y->P x y):G:=h k
theorem aey{α:Type}{G:Prop}{P:α->Prop}(h:(∀x,P x)->G)(k:∀x,P x):G:=h k
noncomputable def fv(r:Keyed->Int)(a:Array Keyed)(b i:Nat):Int:=((a[b+i]?).map r).getD 0
theorem oF{a:Array Keyed}{b i:Nat}(h:b+i<a.size):fv r a b i=r (a[b+i]):=by unfold fv;rw[getElem?_pos a (b+i) h];rfl
theorem NI{a:Array Keyed}{b n:Nat}(m:∀x∈a,x∈a₀)(h:b+n<=a.size):Sl a₀ a r b n (fv r a b):=λi c=>⟨a[b+i],getElem?_pos a _ ∅,m _ (bO _),(oF ∅).symm⟩
abbrev Gw(r:Keyed->Int)(l:List Keyed):Prop:=l.Pairwise λx y=>r x<=r y
theorem Gw.le{a:Array Keyed}{i j:Nat}(h:Gw r a.toList)(b:i<=j)(c:j<a.size):r a[i]<=r a[j]:=by
 by_cases e:i=j
 ·subst e;exact jA _
 ·have:=p5.mp h i j (by simpa using (by lia:i<a.size)) (by simpa using c) ∅
  simpa using this
theorem RQ{a:Array Keyed}{b n:Nat}(d:Gw r a.toList)(h:b+n<=a.size):Up (fv r a b) n:=λi j c e=>by
 rw[oF ∅,oF ∅];exact d.le ∅ ∅
theorem RS{a:Array Keyed}{i k:Nat}{x:Keyed}(h:x∈(a.extract i (i+k)).toList)(c:i+k<=a.size):∃j,∃h:j<k,x=a[i+j]:=by
 obtain⟨j,b,e⟩:=Array.mem_iff_getElem.mp (ir.mp h);rw[mO] at b;exact⟨j,∅,by rw[<- e,gA]⟩
noncomputable abbrev setG(st:SortSt)(g:Nat):SortSt:=SortSt.mk' (kindOf st) (arrOf st) (pendingOf st) g (failedOf st)
theorem ahK{st:SortSt}{a b:Array Keyed}{Q:Array Keyed->SortSt->Prop}(hc:T5 prog w A s κ a₀ r)(hk:kindOf st=κ)(ma:∀x∈a,x∈a₀)(mb:∀x∈b,x∈a₀)(sa:Gw r a.toList)(sb:Gw r b.toList)
 (ha:0<a.size) (hb:0<b.size) (h0:r b[0]<=r a[0]) (hl:∀y∈b,r y<=r a[a.size-1])
 (h:∀out g,out.toList.Perm (a.toList++b.toList)->Gw r out.toList->Q out (setG st g)):wpS (model prog w) A E s (Wc a b) Q st:=by
 have T:∀{out:Array Keyed} {d f:Nat},MI r (a.toList++b.toList) out.toList (a.toList.drop d) (b.toList.drop f)->(f=b.size∨d=a.size)->(out++a.extract d a.size++b.extract f b.size).toList.Perm (a.toList++b.toList)/\Gw r (out++a.extract d a.size++b.extract f b.size).toList:=λ{out d f} m e=>by
  rw[cU,cU,GY,GY];rcases e with e|e
  ·subst e
   rw[iV (l:=b.toList) (-_)] at m ⊢;rw[cS];exact m.fin
  ·subst e
   rw[iV (l:=a.toList) (-_)] at m ⊢;rw[cS];exact m.swap.fin
 have fin2:∀{out:Array Keyed} {d f:Nat},MI r (a.toList++b.toList) out.toList (a.toList.drop d) (b.toList.drop f)->d+1=a.size->(out++b.extract f b.size++a.extract d a.size).toList.Perm (a.toList++b.toList)/\Gw r (out++b.extract f b.size++a.extract d a.size).toList:=λ{out d f} m e=>by
  rw[cU,cU,GY,GY];have V:a.toList.drop d=[a[a.size-1]]:=by
   rw[drop_cons ∅,iV (by simp;lia)];congr 2;lia
  rw[V] at m ⊢;exact m.last λy hy=>hl y (by simpa using List.mem_of_mem_drop hy)
 have pB:∀{out:Array Keyed} {d f:Nat} (u:d<a.size) (p:f<b.size),MI r (a.toList++b.toList) out.toList (a.toList.drop d) (b.toList.drop f)->r b[f]<=r a[d]->MI r (a.toList++b.toList) (out.push b[f]).toList (a.toList.drop d) (b.toList.drop (f+1)):=λ{out d f} u p m e=>by
  rw[drop_cons u,drop_cons p] at m;rw[vB,drop_cons u];exact (m.swap.a e).swap
 have pA:∀{out:Array Keyed} {d f:Nat} (u:d<a.size) (p:f<b.size),MI r (a.toList++b.toList) out.toList (a.toList.drop d) (b.toList.drop f)->r a[d]<=r b[f]->MI r (a.toList++b.toList) (out.push a[d]).toList (a.toList.drop (d+1)) (b.toList.drop f):=λ{out d f} u p m e=>by
  rw[drop_cons u,drop_cons p] at m;rw[vB,drop_cons p];exact m.a e
 have tA:∀{out:Array Keyed} {d f k:Nat} (u:d+k<=a.size) (p:f<b.size),MI r (a.toList++b.toList) out.toList (a.toList.drop d) (b.toList.drop f)->(∀j,(h:j<k)->r a[d+j]<=r b[f])->MI r (a.toList++b.toList) (out++a.extract d (d+k)).toList (a.toList.drop (d+k)) (b.toList.drop f):=λ{out d f k} u p m e=>by
  rw[drop_take (k:=k),drop_cons p] at m;rw[cU,drop_cons p];refine m.as λx S=>?_;obtain⟨j,R,rfl⟩:=RS S u;exact e j R
 have tB:∀{out:Array Keyed} {d f k:Nat} (u:d<a.size) (p:f+k<=b.size),MI r (a.toList++b.toList) out.toList (a.toList.drop d) (b.toList.drop f)->(∀j,(h:j<k)->r b[f+j]<=r a[d])->MI r (a.toList++b.toList) (out++b.extract f (f+k)).toList (a.toList.drop d) (b.toList.drop (f+k)):=λ{out d f k} u p m e=>by
  rw[drop_take (a:=b) (k:=k),drop_cons u] at m;rw[cU,drop_cons u];refine (m.swap.as λx S=>?_).swap;obtain⟨j,R,rfl⟩:=RS S p;exact e j R
 have m0:MI r (a.toList++b.toList) (#[]:Array Keyed).toList (a.toList.drop 0) (b.toList.drop 0):=⟨-_,-_,by simpa using sa,by simpa using sb,λx S=>by simp at S⟩;have X:=pB ha hb m0 h0;refine wpS_bind (wpS_lift (wpAny_rule ⟨rfl,?_⟩));refine wpS_bind (jV (getElem?_pos b 0 hb) ?_);dsimp only;by_cases V:1=b.size
 ·rw[b3 (by simp[<- V])]
  exact wpS_pure (h _ (gallopOf st) (T X (.inl V)).1 (T X (.inl V)).2)
 rw[b5 (by simpa using V)];by_cases e2:0+1=a.size
 ·rw[b3 (by simp[<- e2])]
  exact wpS_pure (h _ (gallopOf st) (fin2 X e2).1 (fin2 X e2).2)
 rw[b5 (by simpa using e2)];refine wpS_bind (wpS_get ?_);refine wpS_bind (wpS_mono (wpS_forRange (I:=λx c J=>∃out d f F g,c=(none,out,d,f,F)/\J=setG st g/\MI r (a.toList++b.toList) out.toList (a.toList.drop d) (b.toList.drop f)/\d+1<a.size/\f<b.size/\x<d+f)
  (Q:=λc J=>∃res g t,c=(some res,t)/\J=setG st g/\res.toList.Perm (a.toList++b.toList)/\Gw r res.toList) ?_ ?_ ⟨_,_,_,_,gallopOf st,rfl,rfl,X,∅,∅,∅⟩) ?_)
 ·rintro x c J _ S ⟨out,d,f,F,g,rfl,rfl,m,u,p,U⟩
  dsimp only;refine wpS_bind (wpS_mono (wpS_forRange (I:=λy c n=>∃out D B H G,c=(none,out,D,B,H,G)/\n=setG st g/\MI r (a.toList++b.toList) out.toList (a.toList.drop D) (b.toList.drop B)/\D+1<a.size/\B<b.size/\d+f+y<=D+B)
   (Q:=λc n=>n=setG st g/\((∃res t,c=(some res,t)/\res.toList.Perm (a.toList++b.toList)/\Gw r res.toList)∨∃out D B H G,c=(none,out,D,B,H,G)/\MI r (a.toList++b.toList) out.toList (a.toList.drop D) (b.toList.drop B)/\D+1<a.size/\B<b.size/\d+f<D+B)) ?_ ?_ ⟨_,_,_,_,_,rfl,rfl,m,u,p,∅⟩) ?_)
  ·rintro y c n _ hy ⟨out,D,B,H,G,rfl,rfl,m,u,p,U⟩
   dsimp only;refine wpS_bind (jV (getElem?_pos b B p) (wpS_bind (jV (getElem?_pos a D ∅) (wpS_bind (om hc hk (mb _ (bO _)) (ma _ (bO _)) ?_)))));dsimp only;by_cases Y:r b[B]<r a[D]
   ·rw[b3 (eH Y)]
    have z:=pB ∅ p m ∅;refine wpS_bind (jV (getElem?_pos b B p) ?_);by_cases e:B+1=b.size
    ·rw[b3 (by simp[e])]
     exact wpS_pure ⟨rfl,.inl ⟨_,_,rfl,T z (.inl e)⟩⟩
    rw[b5 (by simpa using e)];by_cases W:G+1≥F
    ·rw[b3 W]
     exact wpS_pure ⟨rfl,.inr ⟨_,_,_,_,_,rfl,z,u,∅,∅⟩⟩
    ·rw[b5 W]
     exact wpS_pure ⟨_,_,_,_,_,rfl,rfl,z,u,∅,∅⟩
   ·rw[b5 (by simpa using Y)]
    have z:=pA ∅ p m ∅;refine wpS_bind (jV (getElem?_pos a D ∅) ?_);by_cases e:D+1+1=a.size
    ·rw[b3 (by simp[e])]
     exact wpS_pure ⟨rfl,.inl ⟨_,_,rfl,fin2 z e⟩⟩
    rw[b5 (by simpa using e)];by_cases W:H+1≥F
    ·rw[b3 W]
     exact wpS_pure ⟨rfl,.inr ⟨_,_,_,_,_,rfl,z,∅,∅,∅⟩⟩
    ·rw[b5 W]
     exact wpS_pure ⟨_,_,_,_,_,rfl,rfl,z,∅,∅,∅⟩
  ·rintro c n ⟨out,D,B,H,G,rfl,rfl,m,u,p,U⟩
   lia
  rintro c n ⟨rfl,⟨res,t,rfl,Z,p2⟩|⟨out,D,B,H,G,rfl,m,u,p,h3'⟩⟩
  ·exact wpS_pure ⟨_,_,_,rfl,rfl,Z,p2⟩
  dsimp only;refine wpS_bind (wpS_lift (wpAny_rule ⟨rfl,?_⟩));refine wpS_bind (wpS_mono (wpS_forRange (I:=λy c n=>∃out v q F H G g,c=(none,out,v,q,F,H,G)/\n=setG st g/\MI r (a.toList++b.toList) out.toList (a.toList.drop v) (b.toList.drop q)/\v+1<a.size/\q<b.size/\D+B<=v+q)
   (Q:=λc n=>∃g,n=setG st g/\((∃res t,c=(some res,t)/\res.toList.Perm (a.toList++b.toList)/\Gw r res.toList)∨∃out v q F H G,c=(none,out,v,q,F,H,G)/\MI r (a.toList++b.toList) out.toList (a.toList.drop v) (b.toList.drop q)/\v+1<a.size/\q<b.size/\D+B<=v+q)) ?_ ?_ ⟨_,_,_,_,_,_,_,rfl,rfl,m,u,p,∅⟩) ?_)
  ·rintro y c n _ hy ⟨out,v,q,F,H,G,g,rfl,rfl,m,u,p,U⟩
   dsimp only;refine aey (α:=Nat) (λK=>by
    by_cases hm:F > 1
    ·rw[b3 hm]
     generalize F-1=mg';exact K mg'
    ·rw[b5 hm]
     exact K F) ?_
   intro F;refine wpS_bind (wpS_modify (wpS_bind (jV (getElem?_pos b q p) (wpS_bind (T6 (st:=setG st F) hc hk (mb _ (bO _)) (NI ma ∅) (RQ sa ∅) ∅ λk hk1 hk2 g5=>?_)))));dsimp only;refine Wh (α:=Array Keyed) (β:=Nat) (C:=λo i=>MI r (a.toList++b.toList) o.toList (a.toList.drop i) (b.toList.drop q)/\i+1<a.size/\v<=i/\∀h:i<a.size,r b[q]<=r a[i]) (λK=>by
    have lo:∀j,(h:j<k)->r a[v+j]<=r b[q]:=λj R=>by
     have:=hk2 j R
     rw[oF ∅] at this
     simpa [Bo] using this
    have P:∀h:v+k<a.size,r b[q]<=r a[v+k]:=λhh=>by
     have:=g5 k (ay _) ∅
     rw[oF hh] at this;simp[Bo] at this;lia
    have z:=tA ∅ p m lo;by_cases M:k > 0
    ·rw[b3 M]
     by_cases e:v+k+1=a.size
     ·rw[b3 (by simp[e])]
      exact wpS_pure ⟨_,rfl,.inl ⟨_,_,rfl,fin2 z e⟩⟩
     rw[b5 (by simpa using e)];by_cases e:v+k=a.size
     ·rw[b3 (by simp[e])]
      exact wpS_pure ⟨_,rfl,.inl ⟨_,_,rfl,T z (.inr e)⟩⟩
     rw[b5 (by simpa using e)];have N:v<=v+k:=∅
     have Wi:v+k+1<a.size:=∅
     generalize out++a.extract v (v+k)=out' at z ⊢;generalize v+k=ka' at z P N Wi ⊢;exact K out' ka' ⟨z,Wi,N,P⟩
    ·rw[b5 M]
     obtain rfl:k=0:=∅
     exact K out v ⟨m,u,ay _,P⟩) ?_
   rintro out d ⟨m,u,ahL,O⟩;have z:=pB ∅ p m (O ∅);refine wpS_bind (jV (getElem?_pos b q p) ?_);by_cases e:q+1=b.size
   ·rw[b3 (by simp[e])]
    exact wpS_pure ⟨_,rfl,.inl ⟨_,_,rfl,T z (.inl e)⟩⟩
   rw[b5 (by simpa using e)];refine wpS_bind (jV (getElem?_pos a d ∅) (wpS_bind (T6 (st:=setG st F) hc hk (ma _ (bO _)) (NI mb ∅) (RQ sb ∅) ∅ λL hj1 hj2 hj3=>?_)));dsimp only;generalize out.push b[q]=out at z ⊢;refine Wh (α:=Array Keyed) (β:=Nat) (C:=λo i=>MI r (a.toList++b.toList) o.toList (a.toList.drop d) (b.toList.drop i)/\q+1<=i/\i<b.size/\∀h:i<b.size,r a[d]<=r b[i]) (λK=>by
    have lo:∀j,(h:j<L)->r b[q+1+j]<=r a[d]:=λj R=>by
     have:=hj2 j R
     rw[oF ∅] at this;simp[Bo] at this;lia
    have P:∀h:q+1+L<b.size,r a[d]<=r b[q+1+L]:=λhh=>by
     have:=hj3 L (ay _) ∅
     rw[oF hh] at this
     simpa [Bo] using this
    have YF:=tB ∅ ∅ z lo;by_cases M:L > 0
    ·rw[b3 M]
     by_cases e:q+1+L=b.size
     ·rw[b3 (by simp[e])]
      exact wpS_pure ⟨_,rfl,.inl ⟨_,_,rfl,T YF (.inl e)⟩⟩
     rw[b5 (by simpa using e)];have N:q+1<=q+1+L:=∅
     have Wi:q+1+L<b.size:=∅
     generalize out++b.extract (q+1) (q+1+L)=out' at YF ⊢;generalize q+1+L=kb' at YF P N Wi ⊢;exact K out' kb' ⟨YF,N,Wi,P⟩
    ·rw[b5 M]
     obtain rfl:L=0:=∅
     exact K out (q+1) ⟨z,ay _,∅,P⟩) ?_
   rintro out f ⟨m,hb1,hb2,O⟩;have z:=pA ∅ hb2 m (O hb2);refine wpS_bind (jV (getElem?_pos a d ∅) ?_);by_cases e:d+1+1=a.size
   ·rw[b3 (by simp[e])]
    exact wpS_pure ⟨_,rfl,.inl ⟨_,_,rfl,fin2 z e⟩⟩
   rw[b5 (by simpa using e)];by_cases e7:(decide (k<7)&&decide (L<7))=true
   ·rw[b3 e7]
    exact wpS_pure ⟨_,rfl,.inr ⟨_,_,_,_,_,_,rfl,z,∅,∅,∅⟩⟩
   ·rw[b5 e7]
    exact wpS_pure ⟨_,_,_,_,_,_,_,rfl,rfl,z,∅,∅,∅⟩
  ·rintro c n ⟨out,v,q,F,H,G,g,rfl,rfl,m,u,p,U⟩
   exact⟨_,rfl,.inr ⟨_,_,_,_,_,_,rfl,m,u,p,U⟩⟩
  rintro c n ⟨g,rfl,⟨res,t,rfl,Z,p2⟩|⟨out,v,q,F,H,G,rfl,m,u,p,h3'⟩⟩
  ·exact wpS_pure ⟨_,_,_,rfl,rfl,Z,p2⟩
  dsimp only;exact wpS_bind (wpS_modify (wpS_pure ⟨_,_,_,_,_,rfl,rfl,m,u,p,∅⟩))
 ·rintro c J ⟨out,d,f,F,g,rfl,rfl,m,u,p,U⟩
  lia
 ·rintro c J ⟨res,g,t,rfl,rfl,Z,p2⟩
  exact wpS_pure (h _ _ Z p2)
theorem gH{a:Array Keyed}{i:Nat}(b:0<i)(h:i<=a.size):(a.toList.take i).reverse=a[i-1]::(a.toList.take (i-1)).reverse:=by
 obtain⟨j,rfl⟩:∃j,i=j+1:=⟨i-1,∅⟩;rw[fX (by rw[aP];lia),kJ];simp
theorem FJ{a:Array Keyed}{i j:Nat}(h:i<=j):(a.toList.take j).reverse=((a.extract i j).reverse).toList++(a.toList.take i).reverse:=by
 rw[Array.toList_reverse,<- kJ,Array.toList_extract,p7];congr 1;rw[show j=i+(j-i) by lia,List.take_add,show i+(j-i)-i=j-i by lia]
theorem DA{a:Array Keyed}{i:Nat}:(a.extract 0 i).toList=a.toList.take i:=by
 rw[Array.toList_extract,p7];simp
theorem NJ{a:Array Keyed}{i k:Nat}{x:Keyed}(h:x∈((a.extract i k).reverse).toList)(c:k<=a.size):∃j,∃h:j<k,i<=j/\x=a[j]:=by
 have h:x∈a.extract i k:=Array.mem_reverse.mp (ir.mp h);obtain⟨j,b,e⟩:=Array.mem_iff_getElem.mp h;rw[mO] at b;exact⟨i+j,∅,∅,by rw[<- e,gA]⟩
theorem LY{T l:List Keyed}(h:l.Perm T/\l.Pairwise λx y=>-r x<=-r y):l.reverse.Perm T/\Gw r l.reverse :=
 ⟨(List.reverse_perm l).trans h.1,List.pairwise_reverse.mpr (h.2.imp λz=>∅)⟩
theorem ahM{st:SortSt}{a b:Array Keyed}{Q:Array Keyed->SortSt->Prop}(hc:T5 prog w A s κ a₀ r)(hk:kindOf st=κ)(ma:∀x∈a,x∈a₀)(mb:∀x∈b,x∈a₀)(sa:Gw r a.toList)(sb:Gw r b.toList)
 (ha:0<a.size) (hb:0<b.size) (h0:∀x∈a,r b[0]<=r x) (hl:r b[b.size-1]<=r a[a.size-1])
 (h:∀out g,out.toList.Perm (a.toList++b.toList)->Gw r out.toList->Q out (setG st g)):wpS (model prog w) A E s (We a b) Q st:=by
 have EB:∀{out:Array Keyed} {l f:Nat},MI (λx=>-r x) (a.toList++b.toList) out.toList (a.toList.take l).reverse (b.toList.take f).reverse->(f=0∨l=0)->(a.extract 0 l++b.extract 0 f++out.reverse).toList.Perm (a.toList++b.toList)/\Gw r (a.extract 0 l++b.extract 0 f++out.reverse).toList:=λ{out l f} m e=>by
  rw[cU,cU,DA,DA,Array.toList_reverse];rcases e with e|e
  ·subst e
   have:=LY m.fin
   rw[kJ,List.reverse_reverse] at this
   simpa using this
  ·subst e
   have:=LY m.swap.fin
   rw[kJ,List.reverse_reverse] at this
   simpa using this
 have fin2:∀{out:Array Keyed} {l f:Nat},MI (λx=>-r x) (a.toList++b.toList) out.toList (a.toList.take l).reverse (b.toList.take f).reverse->f=1->(b.extract 0 f++a.extract 0 l++out.reverse).toList.Perm (a.toList++b.toList)/\Gw r (b.extract 0 f++a.extract 0 l++out.reverse).toList:=λ{out l f} m e=>by
  rw[cU,cU,DA,DA,Array.toList_reverse];subst e;have Y:(b.toList.take 1).reverse=[b[0]]:=by rw[gH ∅ hb];simp
  have e2:b.toList.take 1=[b[0]]:=by rw[<- List.reverse_reverse (b.toList.take 1),Y];rfl
  rw[Y] at m;rw[e2]
  have:=LY (m.swap.last λy hy=>Int.neg_le_neg (h0 y (by simpa using List.mem_of_mem_take (List.mem_reverse.mp hy))))
  rw[kJ,kJ,List.reverse_reverse] at this
  simpa using this
 have pB:∀{out:Array Keyed} {l f:Nat} (p:0<l) (q:l<=a.size) (v:0<f) (d:f<=b.size),MI (λx=>-r x) (a.toList++b.toList) out.toList (a.toList.take l).reverse (b.toList.take f).reverse->r a[l-1]<=r b[f-1]->MI (λx=>-r x) (a.toList++b.toList) (out.push b[f-1]).toList (a.toList.take l).reverse (b.toList.take (f-1)).reverse:=λ{out l f} p q v d m e=>by
  rw[gH p q,gH v d] at m;rw[vB,gH p q];exact (m.swap.a (Int.neg_le_neg e)).swap
 have pA:∀{out:Array Keyed} {l f:Nat} (p:0<l) (q:l<=a.size) (v:0<f) (d:f<=b.size),MI (λx=>-r x) (a.toList++b.toList) out.toList (a.toList.take l).reverse (b.toList.take f).reverse->r b[f-1]<=r a[l-1]->MI (λx=>-r x) (a.toList++b.toList) (out.push a[l-1]).toList (a.toList.take (l-1)).reverse (b.toList.take f).reverse:=λ{out l f} p q v d m e=>by
  rw[gH p q,gH v d] at m;rw[vB,gH v d];exact m.a (Int.neg_le_neg e)
 have tA:∀{out:Array Keyed} {l f k:Nat} (p:k<=l) (q:l<=a.size) (v:0<f) (d:f<=b.size),MI (λx=>-r x) (a.toList++b.toList) out.toList (a.toList.take l).reverse (b.toList.take f).reverse->(∀j,k<=j->(h:j<l)->r b[f-1]<=r a[j])->MI (λx=>-r x) (a.toList++b.toList) (out++(a.extract k l).reverse).toList (a.toList.take k).reverse (b.toList.take f).reverse:=λ{out l f k} p q v d m e=>by
  rw[FJ p,gH v d] at m;rw[cU,gH v d];refine m.as λx Z=>?_;obtain⟨j,X,R,rfl⟩:=NJ Z q;exact Int.neg_le_neg (e j R X)
 have tB:∀{out:Array Keyed} {l f k:Nat} (p:0<l) (q:l<=a.size) (v:k<=f) (d:f<=b.size),MI (λx=>-r x) (a.toList++b.toList) out.toList (a.toList.take l).reverse (b.toList.take f).reverse->(∀j,k<=j->(h:j<f)->r a[l-1]<=r b[j])->MI (λx=>-r x) (a.toList++b.toList) (out++(b.extract k f).reverse).toList (a.toList.take l).reverse (b.toList.take k).reverse:=λ{out l f k} p q v d m e=>by
  rw[FJ (a:=b) v,gH p q] at m;rw[cU,gH p q];refine (m.swap.as λx Z=>?_).swap;obtain⟨j,X,R,rfl⟩:=NJ Z d;exact Int.neg_le_neg (e j R X)
 have m0:MI (λx=>-r x) (a.toList++b.toList) (#[]:Array Keyed).toList (a.toList.take a.size).reverse (b.toList.take b.size).reverse:=by
  rw[eO (-_),eO (-_)];exact⟨by simpa using (List.reverse_perm _).append (List.reverse_perm _),-_,List.pairwise_reverse.mpr (sa.imp λz=>∅),List.pairwise_reverse.mpr (sb.imp λz=>∅),λx Z=>by simp at Z⟩
 have m1:=pA ha (ay _) hb (ay _) m0 hl;refine wpS_bind (wpS_lift (wpAny_rule ⟨rfl,?_⟩));refine wpS_bind (jV (getElem?_pos a (a.size-1) ∅) ?_);dsimp only;by_cases Y:a.size-1=0
 ·rw[b3 (by simp[Y])]
  exact wpS_pure (h _ (gallopOf st) (EB m1 (.inr Y)).1 (EB m1 (.inr Y)).2)
 rw[b5 (by simpa using Y)];by_cases e2:b.size=1
 ·rw[b3 (by simp[e2])]
  exact wpS_pure (h _ (gallopOf st) (fin2 m1 e2).1 (fin2 m1 e2).2)
 rw[b5 (by simpa using e2)];refine wpS_bind (wpS_get ?_);refine wpS_bind (wpS_mono (wpS_forRange (I:=λx c N=>∃l f out J g,c=(none,l,f,out,J)/\N=setG st g/\MI (λx=>-r x) (a.toList++b.toList) out.toList (a.toList.take l).reverse (b.toList.take f).reverse/\0<l/\l<=a.size/\1<f/\f<=b.size/\l+f+x<a.size+b.size)
  (Q:=λc N=>∃res g t,c=(some res,t)/\N=setG st g/\res.toList.Perm (a.toList++b.toList)/\Gw r res.toList) ?_ ?_ ⟨_,_,_,_,gallopOf st,rfl,rfl,m1,∅,∅,∅,∅,∅⟩) ?_)
 ·rintro x c N _ Z ⟨l,f,out,J,g,rfl,rfl,m,p,q,v,d,h3⟩
  dsimp only;refine wpS_bind (wpS_mono (wpS_forRange (I:=λy c n=>∃G F out M L,c=(none,G,F,out,M,L)/\n=setG st g/\MI (λx=>-r x) (a.toList++b.toList) out.toList (a.toList.take G).reverse (b.toList.take F).reverse/\0<G/\G<=a.size/\1<F/\F<=b.size/\G+F+y<=l+f)
   (Q:=λc n=>n=setG st g/\((∃res t,c=(some res,t)/\res.toList.Perm (a.toList++b.toList)/\Gw r res.toList)∨∃G F out M L,c=(none,G,F,out,M,L)/\MI (λx=>-r x) (a.toList++b.toList) out.toList (a.toList.take G).reverse (b.toList.take F).reverse/\0<G/\G<=a.size/\1<F/\F<=b.size/\G+F<l+f)) ?_ ?_ ⟨_,_,_,_,_,rfl,rfl,m,p,q,v,d,∅⟩) ?_)
  ·rintro y c n _ hy ⟨G,F,out,M,L,rfl,rfl,m,p,q,v,d,h3⟩
   dsimp only;refine wpS_bind (jV (getElem?_pos b (F-1) ∅) (wpS_bind (jV (getElem?_pos a (G-1) ∅) (wpS_bind (om hc hk (mb _ (bO _)) (ma _ (bO _)) ?_)))));dsimp only;by_cases hlt:r b[F-1]<r a[G-1]
   ·rw[b3 (eH hlt)]
    have D:=pA p q ∅ d m ∅;refine wpS_bind (jV (getElem?_pos a (G-1) ∅) ?_);by_cases e:G-1=0
    ·rw[b3 (by simp[e])]
     exact wpS_pure ⟨rfl,.inl ⟨_,_,rfl,EB D (.inr e)⟩⟩
    rw[b5 (by simpa using e)];by_cases e3:M+1≥J
    ·rw[b3 e3]
     exact wpS_pure ⟨rfl,.inr ⟨_,_,_,_,_,rfl,D,∅,∅,v,d,∅⟩⟩
    ·rw[b5 e3]
     exact wpS_pure ⟨_,_,_,_,_,rfl,rfl,D,∅,∅,v,d,∅⟩
   ·rw[b5 (by simpa using hlt)]
    have D:=pB p q ∅ d m ∅;refine wpS_bind (jV (getElem?_pos b (F-1) ∅) ?_);by_cases e:F-1=1
    ·rw[b3 (by simp[e])]
     exact wpS_pure ⟨rfl,.inl ⟨_,_,rfl,fin2 D e⟩⟩
    rw[b5 (by simpa using e)];by_cases e3:L+1≥J
    ·rw[b3 e3]
     exact wpS_pure ⟨rfl,.inr ⟨_,_,_,_,_,rfl,D,p,q,∅,∅,∅⟩⟩
    ·rw[b5 e3]
     exact wpS_pure ⟨_,_,_,_,_,rfl,rfl,D,p,q,∅,∅,∅⟩
  ·rintro c n ⟨G,F,out,M,L,rfl,rfl,m,p,q,v,d,h3⟩
   lia
  rintro c n ⟨rfl,⟨res,t,rfl,p1,p2⟩|⟨G,F,out,M,L,rfl,m,p,q,v,d,h3'⟩⟩
  ·exact wpS_pure ⟨_,_,_,rfl,rfl,p1,p2⟩
  dsimp only;refine wpS_bind (wpS_lift (wpAny_rule ⟨rfl,?_⟩));refine wpS_bind (wpS_mono (wpS_forRange (I:=λy c n=>∃H u out J M L g,c=(none,H,u,out,J,M,L)/\n=setG st g/\MI (λx=>-r x) (a.toList++b.toList) out.toList (a.toList.take H).reverse (b.toList.take u).reverse/\0<H/\H<=a.size/\1<u/\u<=b.size/\H+u<=G+F)
   (Q:=λc n=>∃g,n=setG st g/\((∃res t,c=(some res,t)/\res.toList.Perm (a.toList++b.toList)/\Gw r res.toList)∨∃H u out J M L,c=(none,H,u,out,J,M,L)/\MI (λx=>-r x) (a.toList++b.toList) out.toList (a.toList.take H).reverse (b.toList.take u).reverse/\0<H/\H<=a.size/\1<u/\u<=b.size/\H+u<=G+F)) ?_ ?_ ⟨_,_,_,_,_,_,_,rfl,rfl,m,p,q,v,d,∅⟩) ?_)
  ·rintro y c n _ hy ⟨H,u,out,J,M,L,g,rfl,rfl,m,p,q,v,d,h3⟩
   dsimp only;refine aey (α:=Nat) (λK=>by
    by_cases hm:J > 1
    ·rw[b3 hm]
     generalize J-1=mg';exact K mg'
    ·rw[b5 hm]
     exact K J) ?_
   intro J;refine wpS_bind (wpS_modify (wpS_bind (jV (getElem?_pos b (u-1) ∅) (wpS_bind (T6 (st:=setG st J) hc hk (mb _ (bO _)) (NI ma ∅) (RQ sa ∅) ∅ λk hk1 hk2 g5=>?_)))));dsimp only;refine Wh (α:=Array Keyed) (β:=Nat) (C:=λo i=>MI (λx=>-r x) (a.toList++b.toList) o.toList (a.toList.take i).reverse (b.toList.take u).reverse/\0<i/\i<=H/\∀(h:0<i) (h':i<=a.size),r a[i-1]<=r b[u-1]) (λK=>by
    have lo:∀j,k<=j->(h:j<H)->r b[u-1]<=r a[j]:=λj X U=>by
     have:=g5 j X U
     rw[oF ∅] at this;simp[Bo] at this;lia
    have hi:∀(h:0<k) (h':k<=a.size),r a[k-1]<=r b[u-1]:=λhh hh'=>by
     have:=hk2 (k-1) ∅
     rw[oF ∅] at this
     simpa [Bo] using this
    have D:=tA hk1 q ∅ d m lo;by_cases P:H-k > 0
    ·rw[b3 P]
     by_cases e:k=0
     ·rw[b3 (by simp[e])]
      exact wpS_pure ⟨_,rfl,.inl ⟨_,_,rfl,EB D (.inr e)⟩⟩
     rw[b5 (by simpa using e)];generalize out++(a.extract k H).reverse=out' at D ⊢;have T:0<k:=∅
     obtain⟨V,B⟩:∃V,V=k:=⟨_,rfl⟩;rw[<- B];exact K out' V ⟨B▸D,B▸T,B▸hk1,B▸hi⟩
    ·rw[b5 P]
     have e:k=H:=∅
     subst e;exact K out k ⟨m,p,ay _,hi⟩) ?_
   rintro out S ⟨m,p,ahL,W⟩;have D:=pB p ∅ ∅ d m (W p ∅);refine wpS_bind (jV (getElem?_pos b (u-1) ∅) ?_);by_cases e:u-1=1
   ·rw[b3 (by simp[e])]
    exact wpS_pure ⟨_,rfl,.inl ⟨_,_,rfl,fin2 D e⟩⟩
   rw[b5 (by simpa using e)];refine wpS_bind (jV (getElem?_pos a (S-1) ∅) (wpS_bind (T6 (st:=setG st J) hc hk (ma _ (bO _)) (NI mb ∅) (RQ sb ∅) ∅ λO hj1 R hj3=>?_)));dsimp only;generalize out.push b[u-1]=out at D ⊢;refine Wh (α:=Array Keyed) (β:=Nat) (C:=λo i=>MI (λx=>-r x) (a.toList++b.toList) o.toList (a.toList.take S).reverse (b.toList.take i).reverse/\1<i/\i<=u-1/\∀(h:0<i) (h':i<=b.size),r b[i-1]<=r a[S-1]) (λK=>by
    have lo:∀j,O<=j->(h:j<u-1)->r a[S-1]<=r b[j]:=λj X U=>by
     have:=hj3 j X U
     rw[oF ∅] at this
     simpa [Bo] using this
    have hi:∀(h:0<O) (h':O<=b.size),r b[O-1]<=r a[S-1]:=λhh hh'=>by
     have:=R (O-1) ∅
     rw[oF ∅] at this;simp[Bo] at this;lia
    have YF:=tB p ∅ hj1 ∅ D lo;by_cases P:u-1-O > 0
    ·rw[b3 P]
     by_cases e:O=1
     ·rw[b3 (by simp[e])]
      exact wpS_pure ⟨_,rfl,.inl ⟨_,_,rfl,fin2 YF e⟩⟩
     rw[b5 (by simpa using e)];by_cases e:O=0
     ·rw[b3 (by simp[e])]
      exact wpS_pure ⟨_,rfl,.inl ⟨_,_,rfl,EB YF (.inl e)⟩⟩
     rw[b5 (by simpa using e)];generalize out++(b.extract O (u-1)).reverse=out' at YF ⊢;have T:1<O:=∅
     obtain⟨V,B⟩:∃V,V=O:=⟨_,rfl⟩;rw[<- B];exact K out' V ⟨B▸YF,B▸T,B▸hj1,B▸hi⟩
    ·rw[b5 P]
     have e4:O=u-1:=∅
     subst e4;exact K out (u-1) ⟨D,∅,∅,hi⟩) ?_
   rintro out ib ⟨m,hb1,hb2,W⟩;have D:=pA p ∅ ∅ ∅ m (W ∅ ∅);refine wpS_bind (jV (getElem?_pos a (S-1) ∅) ?_);by_cases e:S-1=0
   ·rw[b3 (by simp[e])]
    exact wpS_pure ⟨_,rfl,.inl ⟨_,_,rfl,EB D (.inr e)⟩⟩
   rw[b5 (by simpa using e)];by_cases e7:(decide (H-S<7)&&decide (u-1-ib<7))=true
   ·rw[b3 e7]
    exact wpS_pure ⟨_,rfl,.inr ⟨_,_,_,_,_,_,rfl,D,∅,∅,∅,∅,∅⟩⟩
   ·rw[b5 e7]
    exact wpS_pure ⟨_,_,_,_,_,_,_,rfl,rfl,D,∅,∅,∅,∅,∅⟩
  ·rintro c n ⟨H,u,out,J,M,L,g,rfl,rfl,m,p,q,v,d,h3⟩
   exact⟨_,rfl,.inr ⟨_,_,_,_,_,_,rfl,m,p,q,v,d,h3⟩⟩
  rintro c n ⟨g,rfl,⟨res,t,rfl,p1,p2⟩|⟨H,u,out,J,M,L,rfl,m,p,q,v,d,h3'⟩⟩
  ·exact wpS_pure ⟨_,_,_,rfl,rfl,p1,p2⟩
  dsimp only;exact wpS_bind (wpS_modify (wpS_pure ⟨_,_,_,_,_,rfl,rfl,m,p,q,v,d,∅⟩))
 ·rintro c N ⟨l,f,out,J,g,rfl,rfl,m,p,q,v,d,h3⟩
  lia
 ·rintro c N ⟨res,g,t,rfl,rfl,p1,p2⟩
  exact wpS_pure (h _ _ p1 p2)
theorem aez{α:Type}{G:Prop}{C P:α->Prop}(h:(∀x,C x->P x)->G)(k:∀x,C x->P x):G:=h k
def Kp(a a':Array Keyed)(lo hi:Nat):Prop:=a'.Perm a/\∀k,k<lo∨hi<=k->a'[k]?=a[k]?
theorem Kp.refl{a:Array Keyed}{lo b:Nat}:Kp a a lo b:=⟨Array.Perm.refl _,λ_ _=>rfl⟩
theorem Kp.trans{a b c:Array Keyed}{lo d:Nat}(h:Kp a b lo d)(h':Kp b c lo d):Kp a c lo d:=⟨h'.1.trans h.1,λk z=>(h'.2 k z).trans (h.2 k z)⟩
theorem Kp.size{a b:Array Keyed}{lo c:Nat}(h:Kp a b lo c):b.size=a.size:=h.1.size_eq
theorem Kp.mem{a b:Array Keyed}{lo d:Nat}(h:Kp a b lo d)(m:∀x∈a,x∈a₀):∀x∈b,x∈a₀:=λx c=>m x ((h.1.mem_iff).mp c)
theorem LZ{a:Array Keyed}{i j lo b:Nat}(c:j<=a.size)(e:lo<=i)(d:j<=b):Kp a (mirror a i j ((j-i)/2)) lo b:=⟨mirror_perm _ _ _ _,λk z=>by rw[getElem?_mirror_all c,b5 ∅]⟩
theorem L0{a:Array Keyed}{i j lo k:Nat}(b:lo+j<=a.size):fv r (mirror a (lo+i) (lo+j) ((lo+j-(lo+i))/2)) lo k=if i<=k/\k<j then fv r a lo (i+j-1-k) else fv r a lo k:=by
 unfold fv;rw[getElem?_mirror_all b];by_cases h:i<=k/\k<j
 ·rw[b3 h,b3 ∅,show lo+i+(lo+j)-1-(lo+k)=lo+(i+j-1-k) by lia]
 ·rw[b5 h,b5 ∅]
theorem KP{st:SortSt}{lo i j:Nat}{Q:Option Bool->SortSt->Prop}(c:T5 prog w A s κ a₀ r)(d:kindOf st=κ)(m:∀x∈arrOf st,x∈a₀)(a:lo+i<(arrOf st).size)(b:lo+j<(arrOf st).size)
 (h:Q (some (decide (fv r (arrOf st) lo i<fv r (arrOf st) lo j))) st):wpS (model prog w) A E s (ltAt' (lo+i) (lo+j)) Q st:=by
 rw[oF a,oF b] at h;refine wpS_bind (wpS_get (wpS_bind (jV (getElem?_pos (arrOf st) (lo+i) a) (wpS_bind (jV (getElem?_pos (arrOf st) (lo+j) b) (om c d (m _ (bO _)) (m _ (bO _)) h))))))
def Dn(f:Nat->Int)(n:Nat):Prop:=∀i j,i<=j->j<n->f j<=f i
theorem Up.next{f:Nat->Int}{n:Nat}(h:Up f n)(d:1<=n)(e:f (n-1)<=f n):Up f (n+1):=λi j a b=>by
 by_cases z:j=n
 ·subst z
  by_cases c:i=j
  ·subst c;exact jA _
  ·exact rL (h i (j-1) ∅ ∅) e
 ·exact h i j a ∅
theorem Dn.next{f:Nat->Int}{n:Nat}(h:Dn f n)(d:1<=n)(e:f n<=f (n-1)):Dn f (n+1):=λi j a b=>by
 by_cases z:j=n
 ·subst z
  by_cases c:i=j
  ·subst c;exact jA _
  ·exact rL e (h i (j-1) ∅ ∅)
 ·exact h i j a ∅
theorem Up.eq{f g:Nat->Int}{n:Nat}(h:Up f n)(e:∀i,i<n->g i=f i):Up g n:=λi j a b=>by rw[e i ∅,e j b];exact h i j a b
theorem Dn.eq{f g:Nat->Int}{n:Nat}(h:Dn f n)(e:∀i,i<n->g i=f i):Dn g n:=λi j a b=>by rw[e i ∅,e j b];exact h i j a b
theorem aeA{st:SortSt}{lo f a:Nat}{g:Nat->Option (Option Nat)×Nat->StateT SortSt Sem (ForInStep (Option (Option Nat)×Nat))}{R:Option (Option Nat)×Nat->SortSt->Prop}
 (m:1<=f) (j:f<=a) (d:Up (fv r (arrOf st) lo) f)
 (i:∀x n R,1<=n->n<a->R (if fv r (arrOf st) lo n<fv r (arrOf st) lo (n-1) then .done (none,n) else .yield (none,n+1)) st->wpS (model prog w) A E s (g x (none,n)) R st)
 (h:∀n,f<=n->n<=a->Up (fv r (arrOf st) lo) n->(n<a->fv r (arrOf st) lo n<fv r (arrOf st) lo (n-1))->R (none,n) st):wpS (model prog w) A E s (forIn [f:a] (none,f) g) R st:=by
 refine wpS_forRange (I:=λx c b=>b=st/\c=(none,x)/\Up (fv r (arrOf st) lo) x) ?_ ?_ ⟨rfl,rfl,d⟩
 ·rintro x c b k l ⟨rfl,rfl,d⟩
  refine i _ _ _ ∅ l ?_;by_cases e:fv r (arrOf b) lo x<fv r (arrOf b) lo (x-1)
  ·rw[b3 e]
   exact h x k ∅ d λ_=>e
  ·rw[b5 e]
   exact⟨rfl,rfl,d.next ∅ ∅⟩
 ·rintro c b ⟨rfl,rfl,d⟩
  rw[show max f a=a by lia] at d ⊢;exact h a j (ay _) d λz=>∅
theorem abN{st:SortSt}{lo g:Nat}{Q:Option Nat->SortSt->Prop}(N:T5 prog w A s κ a₀ r)(J:kindOf st=κ)(m:∀x∈arrOf st,x∈a₀)(h1:1<=g)(hz:lo+g<=(arrOf st).size)
 (h:∀n a,1<=n->n<=g->Kp (arrOf st) a lo (lo+g)->Up (fv r a lo) n->Q (some n) (setArr st a)):wpS (model prog w) A E s (countRun' lo g) Q st:=by
 refine wpS_bind (aeA (r:=r) (lo:=lo) (ay _) h1 (λi j a b=>by rw[show i=j by lia];exact jA _) (λx n R a b k=>?_) λn a b B U=>?_)
 ·dsimp only
  rw[show lo+n-1=lo+(n-1) by lia];refine wpS_bind (KP N J m ∅ ∅ ?_);dsimp only;split at k <;> rename_i z
  ·rw[b3 (eH z)];exact wpS_pure k
  ·rw[b5 (by simpa using z)];exact wpS_pure k
 dsimp only;by_cases e:n=g
 ·rw[b3 (by simp[e])]
  exact wpS_pure (h n _ a b Kp.refl B)
 rw[b5 (by simpa using e)];have U:=U ∅;refine aez (α:=Array Keyed) (C:=λo=>Kp (arrOf st) o lo (lo+g)/\Dn (fv r o lo) (n+1)) (λK=>by
  by_cases X:n > 1
  ·rw[b3 X,show lo+n-1=lo+(n-1) by lia]
   refine wpS_bind (KP (i:=0) N J m ∅ ∅ ?_);dsimp only;by_cases z:fv r (arrOf st) lo 0<fv r (arrOf st) lo (n-1)
   ·rw[b3 (eH z)]
    exact wpS_pure (h n _ a b Kp.refl B)
   rw[b5 (by simpa using z)];refine wpS_bind (wpS_modify ?_);have l:Kp (arrOf st) (mirror (arrOf st) lo (lo+n) ((lo+n-lo)/2)) lo (lo+g):=LZ ∅ (ay _) ∅;have v:∀k,fv r (mirror (arrOf st) lo (lo+n) ((lo+n-lo)/2)) lo k=fv r (arrOf st) lo k:=λk=>by
    have:=L0 (r:=r) (a:=arrOf st) (i:=0) (j:=n) (lo:=lo) (k:=k) ∅
    rw[Nat.add_zero] at this;rw[this];split
    ·rename_i y
     have a1:=B 0 (0+n-1-k) ∅ ∅;have a2:=B (0+n-1-k) (n-1) ∅ ∅;have a3:=B 0 k ∅ ∅;have a4:=B k (n-1) ∅ ∅;lia
    ·rfl
   have p:Dn (fv r (mirror (arrOf st) lo (lo+n) ((lo+n-lo)/2)) lo) (n+1):=by
    refine Dn.eq (f:=fv r (arrOf st) lo) (Dn.next (λi j c d=>?_) ∅ ∅) λi _=>v i;have a1:=B 0 i ∅ ∅;have a2:=B j (n-1) ∅ ∅;have a3:=B i (n-1) ∅ ∅;have a4:=B 0 j ∅ ∅;lia
   show wpS _ _ _ _ _ _ (setArr st (mirror (arrOf st) lo (lo+n) ((lo+n-lo)/2)));generalize mirror (arrOf st) lo (lo+n) ((lo+n-lo)/2)=o at l p ⊢;exact K o ⟨l,p⟩
  ·rw[b5 X]
   have S:n=1:=∅
   have:Dn (fv r (arrOf st) lo) (n+1):=Dn.next (λi j c d=>by rw[show i=j by lia];exact jA _) ∅ ∅
   have W:=K (arrOf st) ⟨Kp.refl,this⟩;exact W) ?_
 rintro o ⟨l,p⟩;refine wpS_bind (wpS_lift (wpAny_rule ⟨rfl,?_⟩));have D:∀{o:Array Keyed},Kp (arrOf st) o lo (lo+g)->o.size=(arrOf st).size:=λz=>z.size;refine wpS_bind (wpS_mono (wpS_forRange (I:=λx c u=>∃o q,u=setArr st o/\c=(none,x,q)/\x<=g/\q+1<=x/\Kp (arrOf st) o lo (lo+g)/\Dn (fv r o lo) x/\∀i,x-(q+1)<=i->i<x->fv r o lo i=fv r o lo (x-1))
  (Q:=λc u=>∃o q x,u=setArr st o/\c=(none,x,q)/\1<=x/\x<=g/\q+1<=x/\Kp (arrOf st) o lo (lo+g)/\Dn (fv r o lo) x/\∀i,x-(q+1)<=i->i<x->fv r o lo i=fv r o lo (x-1)) ?_ ?_ ⟨o,0,rfl,rfl,∅,∅,l,p,λi c d=>by rw[show i=n+1-1 by lia]⟩) ?_)
 ·rintro x c u Y U ⟨o,q,rfl,rfl,F,P,l,p,t⟩
  have V:=D l;have O:∀x∈arrOf (setArr st o),x∈a₀:=l.mem m;dsimp only;rw[show lo+x-1=lo+(x-1) by lia];refine wpS_bind (KP N J O (by show _<o.size;lia) (by show _<o.size;lia) ?_);dsimp only;by_cases z:fv r o lo x<fv r o lo (x-1)
  ·rw[b3 (eH z)]
   by_cases M:q > 0
   ·rw[b3 M]
    refine wpS_bind (wpS_modify (wpS_pure ?_));have S:lo+x-(q+1)=lo+(x-(q+1)):=∅
    have v:∀k,fv r (mirror o (lo+(x-(q+1))) (lo+x) ((lo+x-(lo+(x-(q+1))))/2)) lo k=fv r o lo k:=λk=>by
     rw[L0 ∅];split
     ·rw[t _ ∅ ∅,t k ∅ ∅]
     ·rfl
    refine⟨mirror o (lo+x-(q+1)) (lo+x) ((lo+x-(lo+x-(q+1)))/2),0,rfl,rfl,∅,∅,l.trans (LZ ∅ ∅ ∅),?_,λi c d=>by rw[show i=x+1-1 by lia]⟩;rw[S];exact (p.next ∅ ∅).eq λi _=>v i
   ·rw[b5 M]
    exact wpS_pure ⟨o,0,rfl,rfl,∅,∅,l,p.next ∅ ∅,λi c d=>by rw[show i=x+1-1 by lia]⟩
  ·rw[b5 (by simpa using z)]
   refine wpS_bind (KP N J O (by show _<o.size;lia) (by show _<o.size;lia) ?_);dsimp only;by_cases Z:fv r o lo (x-1)<fv r o lo x
   ·rw[b3 (eH Z)]
    exact wpS_pure ⟨o,q,x,rfl,rfl,∅,∅,P,l,p,t⟩
   ·rw[b5 (by simpa using Z)]
    refine wpS_pure ⟨o,q+1,rfl,rfl,∅,∅,l,p.next ∅ ∅,λi c d=>?_⟩;rw[show x+1-1=x by lia];by_cases e5:i=x
    ·rw[e5]
    ·rw[t i ∅ ∅];lia
 ·rintro c u ⟨o,q,rfl,rfl,F,P,l,p,t⟩
  exact⟨o,q,_,rfl,rfl,∅,F,P,l,p,t⟩
 rintro c u ⟨o,q,x,rfl,rfl,Y,F,P,l,p,t⟩;dsimp only;refine aez (α:=Array Keyed) (C:=λo=>Kp (arrOf st) o lo (lo+g)/\Dn (fv r o lo) x) (λK=>by
  have V:=D l;by_cases M:q > 0
  ·rw[b3 M]
   refine wpS_bind (wpS_modify ?_);have S:lo+x-(q+1)=lo+(x-(q+1)):=∅
   have v:∀k,fv r (mirror o (lo+(x-(q+1))) (lo+x) ((lo+x-(lo+(x-(q+1))))/2)) lo k=fv r o lo k:=λk=>by
    rw[L0 ∅];split
    ·rw[t _ ∅ ∅,t k ∅ ∅]
    ·rfl
   have G:Kp (arrOf st) (mirror o (lo+(x-(q+1))) (lo+x) ((lo+x-(lo+(x-(q+1))))/2)) lo (lo+g):=l.trans (LZ ∅ ∅ ∅);have L:=p.eq λi (_:i<x)=>v i;show wpS _ _ _ _ _ _ (setArr st (mirror o (lo+x-(q+1)) (lo+x) ((lo+x-(lo+x-(q+1)))/2)));rw[S];generalize mirror o (lo+(x-(q+1))) (lo+x) ((lo+x-(lo+(x-(q+1))))/2)=o' at G L ⊢;exact K o' ⟨G,L⟩
  ·rw[b5 M]
   exact K o ⟨l,p⟩) ?_
 rintro o ⟨l,p⟩;have V:=D l;refine wpS_bind (wpS_modify ?_);have G:Kp (arrOf st) (mirror o lo (lo+x) ((lo+x-lo)/2)) lo (lo+g):=l.trans (LZ ∅ ∅ ∅);have H:Up (fv r (mirror o lo (lo+x) ((lo+x-lo)/2)) lo) x:=λi j c d=>by
  have:=λk=>L0 (r:=r) (a:=o) (i:=0) (j:=x) (lo:=lo) (k:=k) ∅
  simp only[Nat.add_zero] at this;rw[this i,this j,b3 ∅,b3 ∅];exact p _ _ ∅ ∅
 show wpS _ _ _ _ _ _ (setArr st (mirror o lo (lo+x) ((lo+x-lo)/2)));generalize mirror o lo (lo+x) ((lo+x-lo)/2)=o at G H ⊢;have V:=D G;have O:∀x∈arrOf (setArr st o),x∈a₀:=G.mem m;refine wpS_bind (aeA (st:=setArr st o) (r:=r) (lo:=lo) Y F H (λy n R a b k=>?_) λn' a' b' T _=>wpS_pure (h n' o ∅ b' G T));dsimp only;rw[show lo+n-1=lo+(n-1) by lia];refine wpS_bind (KP N J O (by show _<o.size;lia) (by show _<o.size;lia) ?_);dsimp only;split at k <;> rename_i z
 ·rw[b3 (eH z)];exact wpS_pure k
 ·rw[b5 (by simpa using z)];exact wpS_pure k
theorem abO{a:Array Keyed}{k l lo b:Nat}(c:k<a.size)(e:lo<=l)(hl:l<=k)(d:k<b):Kp a (bubble a k (k-l)) lo b:=⟨bubble_perm _ _ _,λi z=>by rw[getElem?_bubble c _ ∅,b5 ∅,b5 ∅]⟩
theorem Wj{a:Array Keyed}{k l lo i:Nat}(c:lo+k<a.size)(hl:l<=k):fv r (bubble a (lo+k) (lo+k-(lo+l))) lo i=if i=l then fv r a lo k else if l<i/\i<=k then fv r a lo (i-1) else fv r a lo i:=by
 unfold fv;rw[getElem?_bubble c _ ∅];by_cases e:i=l
 ·rw[b3 e,b3 ∅]
 ·rw[b5 e,b5 ∅]
  by_cases b:l<i/\i<=k
  ·rw[b3 b,b3 ∅,show lo+i-1=lo+(i-1) by lia]
  ·rw[b5 b,b5 ∅]
theorem aeD{st:SortSt}{lo n ok:Nat}{Q:Bool->SortSt->Prop}(H:T5 prog w A s κ a₀ r)(C:kindOf st=κ)(m:∀x∈arrOf st,x∈a₀)(J:lo+n<=(arrOf st).size)(G:ok<=n)(f:Up (fv r (arrOf st) lo) ok)
 (h:∀a,Kp (arrOf st) a lo (lo+n)->Up (fv r a lo) n->Q true (setArr st a)):wpS (model prog w) A E s (binarySort' lo n ok) Q st:=by
 refine wpS_bind (wpS_mono (wpS_forRange (I:=λk c b=>∃a,b=setArr st a/\c=(none,())/\Kp (arrOf st) a lo (lo+n)/\Up (fv r a lo) (min k n))
  (Q:=λc b=>∃a,b=setArr st a/\c=(none,())/\Kp (arrOf st) a lo (lo+n)/\Up (fv r a lo) n) ?_ ?_ ⟨arrOf st,rfl,rfl,Kp.refl,λi j c d=>?_⟩) ?_)
 ·rintro k c b D B ⟨a,rfl,rfl,e,f⟩
  rw[show min k n=k by lia] at f;have L:=e.size;have v:∀x∈arrOf (setArr st a),x∈a₀:=e.mem m;refine wpS_bind (wpS_mono (wpS_forRange (I:=λx c b=>b=setArr st a/\∃p q,c=(none,p,q)/\p<=q/\q<=k/\q-p<=k-x/\(∀i,i<p->fv r a lo i<=fv r a lo k)/\∀i,q<=i->i<k->fv r a lo k<fv r a lo i)
   (Q:=λc b=>b=setArr st a/\∃p,c=(none,p,p)/\p<=k/\(∀i,i<p->fv r a lo i<=fv r a lo k)/\∀i,p<=i->i<k->fv r a lo k<fv r a lo i) ?_ ?_ ⟨rfl,0,k,rfl,∅,∅,∅,λi c=>∅,λi c d=>∅⟩) ?_)
  ·rintro x c b _ K ⟨rfl,p,q,rfl,u,g,y,l,o⟩
   dsimp only;by_cases t:p≥q
   ·rw[b3 t]
    have:q=p:=∅
    subst this;exact wpS_pure ⟨rfl,q,rfl,g,l,o⟩
   ·rw[b5 t]
    refine wpS_bind (KP H C v (by show _<a.size;lia) (by show _<a.size;lia) ?_);dsimp only;by_cases z:fv r a lo k<fv r a lo ((p+q)/2)
    ·rw[b3 (eH z)]
     refine wpS_pure ⟨rfl,p,_,rfl,∅,∅,∅,l,λi c d=>?_⟩
     have:=f ((p+q)/2) i c d
     lia
    ·rw[b5 (by simpa using z)]
     refine wpS_pure ⟨rfl,_,q,rfl,∅,∅,∅,λi c=>?_,o⟩
     have:=f i ((p+q)/2) ∅ ∅
     lia
  ·rintro c b ⟨rfl,p,q,rfl,u,g,y,l,o⟩
   have:q=p:=∅
   subst this;exact⟨rfl,q,rfl,g,l,o⟩
  ·rintro c b ⟨rfl,p,rfl,g,l,o⟩
   dsimp only;refine wpS_bind (wpS_modify (wpS_pure ⟨bubble a (lo+k) (lo+k-(lo+p)),rfl,rfl,e.trans (abO ∅ ∅ ∅ ∅),?_⟩));rw[show min (k+1) n=k+1 by lia];intro i j F M;rw[Wj ∅ g,Wj ∅ g]
   repeat' split
   all_goals first
    | (exfalso;lia)
    |exact jA _
    |exact l _ ∅
    |exact Int.le_of_lt (o _ ∅ ∅)
    |exact f _ _ ∅ ∅
 ·rintro c b ⟨a,rfl,rfl,e,f⟩
  rw[show min (max (max ok 1) n) n=n by lia] at f;exact⟨a,rfl,rfl,e,f⟩
 ·by_cases u:ok=0
  ·rw[show i=j by lia];exact jA _
  ·exact f i j c ∅
 ·rintro c b ⟨a,rfl,rfl,e,f⟩
  exact wpS_pure (h a e f)
theorem Wk{sa:Nat}:∀(l:List Keyed) (o:Nat) (a:Array Keyed),sa+o+l.length<=a.size->((l.zipIdx o).foldl (λa (x:Keyed×Nat)=>match x with|(p,j)=>a.setIfInBounds (sa+j) p) a).toList=a.toList.take (sa+o)++l++a.toList.drop (sa+o+l.length)
 |[],o,a,h=>-_
 |x::l,o,a,h=>by
  simp only[bq] at h;rw[List.zipIdx_cons,mY];dsimp only;rw[Wk l (o+1) _ (by rw[Array.size_setIfInBounds];lia),Array.toList_setIfInBounds];have hl:sa+o<a.toList.length:=by rw[aP];lia
  rw[List.set_eq_take_append_cons_drop,b3 hl];have b:(a.toList.take (sa+o)).length=sa+o:=by rw[bY];lia
  rw[List.take_append,List.drop_append,b,show sa+(o+1)-(sa+o)=1 by lia,show sa+(o+1)+l.length-(sa+o)=l.length+1 by lia,eO (by rw[b];lia),iV (l:=a.toList.take (sa+o)) (by rw[b];lia)];simp[List.drop_drop];congr 1;lia
theorem YH{a e g:Array Keyed}{t:Nat}(h:e.toList=a.toList.take t++g.toList++a.toList.drop (t+g.size))(f:t+g.size<=a.size)(p:Nat):e[p]?=if p<t then a[p]? else if p<t+g.size then g[p-t]? else a[p]?:=by
 have c:(a.toList.take t).length=t:=by rw[bY,aP];lia
 rw[<- gB,h,fz];by_cases b:p<t
 ·rw[b3 b,bI (by rw[c];exact b),List.getElem?_take_of_lt b,gB]
 ·rw[b5 b,bL (by rw[c];lia),c]
  by_cases d:p<t+g.size
  ·rw[b3 d,bI (by rw[aP];lia),gB]
  ·rw[b5 d,bL (by rw[aP];lia),aP,List.getElem?_drop,show t+g.size+(p-t-g.size)=p by lia,gB]
theorem Wl{a:Array Keyed}{b n:Nat}(h:Up (fv r a b) n)(f:b+n<=a.size):Gw r (a.extract b (b+n)).toList:=by
 refine p5.mpr λi j d e c=>?_;rw[aP,mO] at d e;rw[Array.getElem_toList,Array.getElem_toList,gA,gA]
 have:=h i j ∅ ∅
 rwa [oF ∅,oF ∅] at this
theorem x6{a:Array Keyed}{i j:Nat}{x:Keyed}(h:x∈a.extract i j):∃p,∃c:p<a.size,i<=p/\p<j/\x=a[p]:=by
 obtain⟨q,b,e⟩:=Array.mem_iff_getElem.mp h;rw[mO] at b;exact⟨i+q,∅,∅,∅,by rw[<- e,gA]⟩
theorem ahN{st:SortSt}{i sa l pa f t pb:Nat}{Q:Bool->SortSt->Prop}(hc:T5 prog w A s κ a₀ r)(L:kindOf st=κ)(m:∀x∈arrOf st,x∈a₀)(hf:failedOf st=none)(e1:(pendingOf st)[i]?=some (sa,l,pa))(e2:(pendingOf st)[i+1]?=some (f,t,pb))
 (hsb:f=sa+l) (h1:0<l) (h2:0<t) (hz:f+t<=(arrOf st).size) (G:Up (fv r (arrOf st) sa) l) (D:Up (fv r (arrOf st) f) t)
 (h:∀a g,Kp (arrOf st) a sa (f+t)->Up (fv r a sa) (l+t)->Q true (SortSt.mk' (kindOf st) a (((pendingOf st).setIfInBounds i (sa,l+t,pa)).eraseIdxIfInBounds (i+1)) g none)):wpS (model prog w) A E s (mergeAt' i) Q st:=by
 rcases st with ⟨H,a,S,V,fl⟩;have hf:fl=none:=hf;subst hf;have L:H=κ:=L;have e1:S[i]?=some (sa,l,pa):=e1;have e2:S[i+1]?=some (f,t,pb):=e2;have m:∀x∈a,x∈a₀:=m;have hz:f+t<=a.size:=hz;have G:Up (fv r a sa) l:=G;have D:Up (fv r a f) t:=D;have h:∀I g,Kp a I sa (f+t)->Up (fv r I sa) (l+t)->Q true (SortSt.mk' H I ((S.setIfInBounds i (sa,l+t,pa)).eraseIdxIfInBounds (i+1)) g none):=h;refine wpS_bind (wpS_get ?_);dsimp only;rw[e1,e2];dsimp only;refine wpS_bind (m:=modify λ_=>SortSt.mk' H a ((S.setIfInBounds i (sa,l+t,pa)).eraseIdxIfInBounds (i+1)) V none) (wpS_modify ?_);generalize (S.setIfInBounds i (sa,l+t,pa)).eraseIdxIfInBounds (i+1)=pn at h ⊢;have sl:∀b n,b+n<=a.size->Sl a₀ a r b n (fv r a b):=λb n hb=>NI m hb;refine wpS_bind (jV (getElem?_pos a f ∅) (wpS_bind (T6 (st:=SortSt.mk' H a pn V none) hc L (m _ (bO _)) (sl sa l ∅) G h1 λk hk1 hk2 g5=>?_)));dsimp only;have lo:∀j,j<k->fv r a sa j<=r a[f]:=λj v=>by
  have:=hk2 j v
  simpa [Bo] using this
 have hi:∀j,k<=j->j<l->r a[f]<fv r a sa j:=λj v B=>by
  have:=g5 j v B
  simpa [Bo] using this
 have b0:fv r a f 0=r a[f]:=oF ∅;have Z:(∀i,i<l->fv r a sa i<=fv r a f 0)->Up (fv r a sa) (l+t):=λz i j K v=>by
  have sh:∀j,l<=j->fv r a sa j=fv r a f (j-l):=λj v=>by unfold fv;rw[show f+(j-l)=sa+j by lia]
  by_cases hi1:i<l
  ·by_cases T:j<l
   ·exact G i j K T
   ·rw[sh j ∅]
    exact rL (z i hi1) (D 0 _ ∅ ∅)
  ·rw[sh i ∅,sh j ∅]
   exact D _ _ ∅ ∅
 by_cases ek:l-k=0
 ·rw[b3 (by simp[ek])]
  exact wpS_pure (h a _ Kp.refl (Z λi hi'=>by rw[b0];exact lo i ∅))
 rw[b5 (by simpa using ek)];have el:sa+k+(l-k)-1=sa+(l-1):=∅
 rw[el];refine wpS_bind (jV (getElem?_pos a (sa+(l-1)) ∅) (wpS_bind (T6 (st:=SortSt.mk' H a pn V none) hc L (m _ (bO _)) (sl f t ∅) D ∅ λo T hj2 O=>?_)));dsimp only;have la:r a[sa+(l-1)]=fv r a sa (l-1):=(oF ∅).symm;rw[la] at hj2 O;have lo2:∀j,j<o->fv r a f j<fv r a sa (l-1):=λj v=>by
  have:=hj2 j v
  simpa [Bo] using this
 have W:∀j,o<=j->j<t->fv r a sa (l-1)<=fv r a f j:=λj v B=>by
  have:=O j v B
  simpa [Bo] using this
 by_cases R:o=0
 ·rw[b3 (by simp[R])]
  exact wpS_pure (h a _ Kp.refl (Z λi hi'=>rL (G i (l-1) ∅ ∅) (W 0 ∅ ∅)))
 rw[b5 (by simpa using R)];have zx:(a.extract (sa+k) f).size=l-k:=by rw[mO];lia
 have zy:(a.extract f (f+o)).size=o:=by rw[mO];lia
 have mx:∀x∈a.extract (sa+k) f,∃p,k<=p/\p<l/\r x=fv r a sa p:=λx q=>by
  obtain⟨p,C,c,d,rfl⟩:=x6 q;refine⟨p-sa,∅,∅,?_⟩;unfold fv;rw[show sa+(p-sa)=p by lia,getElem?_pos a p C];rfl
 have my:∀x∈a.extract f (f+o),∃p,p<o/\r x=fv r a f p:=λx q=>by
  obtain⟨p,C,c,d,rfl⟩:=x6 q;refine⟨p-f,∅,?_⟩;unfold fv;rw[show f+(p-f)=p by lia,getElem?_pos a p C];rfl
 have m1:∀x∈a.extract (sa+k) f,x∈a₀:=λx q=>by obtain⟨p,C,_,_,rfl⟩:=x6 q;exact m _ (bO _)
 have m2:∀x∈a.extract f (f+o),x∈a₀:=λx q=>by obtain⟨p,C,_,_,rfl⟩:=x6 q;exact m _ (bO _)
 have u1:Up (fv r a (sa+k)) (l-k):=λi j c d=>by
  have:=G (k+i) (k+j) ∅ ∅
  unfold fv at *
  rwa [<- Nat.add_assoc,<- Nat.add_assoc] at this
 have t1:Gw r (a.extract (sa+k) f).toList:=by
  have:=Wl u1 ∅
  rwa [show sa+k+(l-k)=f by lia] at this
 have t2:Gw r (a.extract f (f+o)).toList:=Wl (λi j c d=>D i j c ∅) ∅;have xl:∀P,r ((a.extract (sa+k) f)[(a.extract (sa+k) f).size-1]'P)=fv r a sa (l-1):=λP=>by
  rw[gA,<- la];congr 2;lia
 have y0:∀P,r ((a.extract f (f+o))[0]'P)=r a[f]:=λP=>by rw[gA];rfl
 have N:∀(u:Array Keyed) (g:Nat),u.toList.Perm ((a.extract (sa+k) f).toList++(a.extract f (f+o)).toList)->Gw r u.toList ->
  Q true (SortSt.mk' H (u.toList.zipIdx.foldl (λa (x:Keyed×Nat)=>match x with|(p,j)=>a.setIfInBounds (sa+k+j) p) a) pn g none):=λu g C X=>by
  have hmz:u.size=l-k+o:=by
   have:=C.length_eq
   rw[az,aP,aP,aP,zx,zy] at this;exact this
  have U:∀x∈u,x∈a.extract (sa+k) f∨x∈a.extract f (f+o):=λx q=>by
   have:=(C.mem_iff).mp (ir.mpr q)
   rw[bz,ir,ir] at this;exact this
  have hl:=Wk (sa:=sa+k) u.toList 0 a (by rw[aP];lia);generalize (u.toList.zipIdx.foldl (λa (x:Keyed×Nat)=>match x with|(p,j)=>a.setIfInBounds (sa+k+j) p) a)=I at hl ⊢;rw[Nat.add_zero,aP] at hl;have hg:=YH hl ∅;have fl:∀j,j<k->fv r I sa j=fv r a sa j:=λj v=>by unfold fv;rw[hg,b3 ∅]
  have fr:∀j,k+(l-k+o)<=j->fv r I sa j=fv r a f (j-l):=λj v=>by unfold fv;rw[hg,b5 ∅,b5 ∅,show f+(j-l)=sa+j by lia]
  have fm:∀j,k<=j->(v:j-k<u.size)->fv r I sa j=r u[j-k]:=λj v B=>by
   unfold fv;rw[hg,b5 ∅,b3 ∅,show sa+j-(sa+k)=j-k by lia,getElem?_pos u (j-k) B];rfl
  have mlo:∀x∈u,∀j,j<k->fv r a sa j<=r x:=λx q j v=>by
   rcases U x q with z|z
   ·obtain⟨p,c,d,e⟩:=mx x z
    rw[e];exact G j p ∅ d
   ·obtain⟨p,c,e⟩:=my x z
    rw[e]
    have:=D 0 p ∅ ∅
    have:=lo j v
    lia
  have mhi:∀x∈u,∀j,o<=j->j<t->r x<=fv r a f j:=λx q j v B=>by
   rcases U x q with z|z
   ·obtain⟨p,c,d,e⟩:=mx x z
    rw[e];exact rL (G p (l-1) ∅ ∅) (W j v B)
   ·obtain⟨p,c,e⟩:=my x z
    rw[e];exact D p j ∅ B
  refine h I g ⟨Array.perm_iff_toList_perm.mpr ?_,λp z=>?_⟩ λi j K v=>?_
  ·have ea:a.toList=a.toList.take (sa+k)++((a.extract (sa+k) f).toList++(a.extract f (f+o)).toList)++a.toList.drop (sa+k+u.size):=by
    have d1:=drop_take (a:=a) (i:=sa+k) (k:=l-k);have d2:=drop_take (a:=a) (i:=f) (k:=o);rw[show sa+k+(l-k)=f by lia] at d1;rw[show sa+k+u.size=f+o by lia,fz,fz,<- d2,<- d1,wL]
   rw[hl];refine List.Perm.trans ?_ (List.Perm.of_eq ea.symm);exact (C.append_left _).append_right _
  ·rw[hg]
   by_cases c1:p<sa+k
   ·rw[b3 c1]
   ·rw[b5 c1,b5 ∅]
  ·by_cases ci:i<k
   ·rw[fl i ci]
    by_cases cj:j<k
    ·rw[fl j cj];exact G i j K ∅
    ·by_cases F:j-k<u.size
     ·rw[fm j ∅ F];exact mlo _ (bO _) i ci
     ·rw[fr j ∅]
      have:=D 0 (j-l) ∅ ∅
      have:=lo i ci
      lia
   ·by_cases ci2:i-k<u.size
    ·rw[fm i ∅ ci2]
     by_cases F:j-k<u.size
     ·rw[fm j ∅ F];exact Gw.le X ∅ F
     ·rw[fr j ∅];exact mhi _ (bO _) _ ∅ ∅
    ·rw[fr i ∅,fr j ∅]
     exact D _ _ ∅ ∅
 have M:∀x∈a.extract (sa+k) f,r a[f]<=r x:=λx q=>by
  obtain⟨p,c,d,e⟩:=mx x q;rw[e];exact Int.le_of_lt (hi p c d)
 have lel:∀x∈a.extract f (f+o),r x<=fv r a sa (l-1):=λx q=>by
  obtain⟨p,c,e⟩:=my x q;rw[e];exact Int.le_of_lt (lo2 p c)
 by_cases Y:l-k<=o
 ·rw[b3 Y]
  refine wpS_bind (ahK (st:=SortSt.mk' H a pn V none) hc L m1 m2 t1 t2 ∅ ∅ (by rw[y0];exact M _ (bO _)) (λy hy=>by rw[xl];exact lel y hy) λJ g C X=>?_);exact wpS_bind (wpS_modify (wpS_bind (wpS_get (wpS_pure (N J g C X)))))
 ·rw[b5 Y]
  refine wpS_bind (ahM (st:=SortSt.mk' H a pn V none) hc L m1 m2 t1 t2 ∅ ∅ (λx q=>by rw[y0];exact M x q) (by rw[xl];exact lel _ (bO _)) λJ g C X=>?_);exact wpS_bind (wpS_modify (wpS_bind (wpS_get (wpS_pure (N J g C X)))))
def Ch(r:Keyed->Int)(a:Array Keyed):Nat->List (Nat×Nat×Nat)->Nat->Prop
 |lo,[],hi=>lo=hi
 |lo,(s,n,_)::t,hi=>s=lo/\0<n/\Up (fv r a s) n/\Ch r a (s+n) t hi
theorem Ch.len{a:Array Keyed}{b:Nat}:∀{L:List (Nat×Nat×Nat)} {lo:Nat},Ch r a lo L b->lo+L.length<=b
 |[],lo,h=>by have h:lo=b:=h;simp;lia
 | (s,n,p)::t,lo,h=>by
  have:=Ch.len h.2.2.2
  have d:s=lo:=h.1;have c:0<n:=h.2.1;rw[bq];lia
theorem Ch.app{a:Array Keyed}{b:Nat}{M:List (Nat×Nat×Nat)}:∀{L:List (Nat×Nat×Nat)} {lo:Nat},Ch r a lo (L++M) b->∃mid,Ch r a lo L mid/\Ch r a mid M b
 |[],lo,h=>⟨lo,rfl,h⟩
 | (s,n,p)::t,lo,h=>by
  obtain⟨mid,x,y⟩:=Ch.app h.2.2.2;exact⟨mid,⟨h.1,h.2.1,h.2.2.1,x⟩,y⟩
theorem Ch.join{a:Array Keyed}{mid b:Nat}{M:List (Nat×Nat×Nat)}:∀{L:List (Nat×Nat×Nat)} {lo:Nat},Ch r a lo L mid->Ch r a mid M b->Ch r a lo (L++M) b
 |[],lo,h,k=>by have h:lo=mid:=h;subst h;exact k
 | (s,n,p)::t,lo,h,k=>⟨h.1,h.2.1,h.2.2.1,Ch.join h.2.2.2 k⟩
theorem Ch.congr{a f:Array Keyed}{b:Nat}:∀{L:List (Nat×Nat×Nat)} {lo:Nat},Ch r a lo L b->(∀k,lo<=k->k<b->f[k]?=a[k]?)->Ch r f lo L b
 |[],lo,h,_=>h
 | (s,n,p)::t,lo,h,e=>by
  have j:s=lo:=h.1
  have:=Ch.len h.2.2.2
  exact⟨h.1,h.2.1,h.2.2.1.eq λi g=>by unfold fv;rw[e _ ∅ ∅],Ch.congr h.2.2.2 λk c d=>e k ∅ d⟩
theorem Ch.pw{a:Array Keyed}{b:Nat}:∀{L M:List (Nat×Nat×Nat)} {lo:Nat},Ch r a lo L b->L.map (λt=>(t.1,t.2.1))=M.map (λt=>(t.1,t.2.1))->Ch r a lo M b
 |[],[],lo,h,_=>h
 | (s,n,p)::t,(s',d,c)::t',lo,h,e=>by
  simp only[bT,List.cons.injEq,Prod.mk.injEq] at e;obtain⟨⟨rfl,rfl⟩,e⟩:=e;exact⟨h.1,h.2.1,h.2.2.1,Ch.pw h.2.2.2 e⟩
 |[],_::_,_,_,e=>by simp at e
 |_::_,[],_,_,e=>by simp at e
theorem KQ{α:Type}{x y v:α}{M:List α}:∀{L:List α},((L++x::y::M).set L.length v).eraseIdx (L.length+1)=L++v::M
 |[]=>rfl
 |z::L=>by
  have:=KQ (x:=x) (y:=y) (v:=v) (M:=M) (L:=L)
  simpa using this
def SI(κ:SortKind)(a₀:Array Keyed)(r:Keyed->Int)(st:SortSt)(lo:Nat):Prop:=kindOf st=κ/\(arrOf st).Perm a₀/\failedOf st=none/\Ch r (arrOf st) 0 (pendingOf st).toList lo
theorem SI.mem{st:SortSt}{lo:Nat}(h:SI κ a₀ r st lo):∀x∈arrOf st,x∈a₀:=λx a=>(h.2.1.mem_iff).mp a
theorem Wm{st:SortSt}{lo i:Nat}{Q:Bool->SortSt->Prop}(W:T5 prog w A s κ a₀ r)(I:SI κ a₀ r st lo)(T:lo<=a₀.size)(K:i+1<(pendingOf st).size)
 (h:∀f,SI κ a₀ r f lo->(pendingOf f).size+1=(pendingOf st).size->(∀k,lo<=k->(arrOf f)[k]?=(arrOf st)[k]?)->Q true f):wpS (model prog w) A E s (mergeAt' i) Q st:=by
 obtain⟨C,u,N,m⟩:=I;obtain⟨⟨e,c,l⟩,t⟩:∃x,(pendingOf st)[i]?=some x:=⟨_,getElem?_pos (pendingOf st) i ∅⟩;obtain⟨⟨o,b,D⟩,p⟩:∃x,(pendingOf st)[i+1]?=some x:=⟨_,getElem?_pos (pendingOf st) (i+1) K⟩;have F:(pendingOf st).toList=(pendingOf st).toList.take i++(e,c,l)::(o,b,D)::(pendingOf st).toList.drop (i+2):=by
  rw[<- gB] at t p;obtain⟨g1,z⟩:=ai.mp t;obtain⟨g2,q⟩:=ai.mp p;rw[<- z,<- q,<- p8,<- p8,wL]
 have j:((pendingOf st).toList.take i).length=i:=by rw[bY,aP];lia
 rw[F] at m;obtain⟨mid,G,O⟩:=m.app;obtain⟨V,Z,S,q4,Y,P,B⟩:=O;have z1:=Ch.len B;have R:=u.size_eq;have z0:=Ch.len G;refine ahN W C (λx J=>(u.mem_iff).mp J) N t p q4 Z Y ∅ S P λa g n U=>?_;have H:(((pendingOf st).setIfInBounds i (e,c+b,l)).eraseIdxIfInBounds (i+1)).toList=(pendingOf st).toList.take i++(e,c+b,l)::(pendingOf st).toList.drop (i+2):=by
  rw[Array.toList_eraseIdxIfInBounds,Array.toList_setIfInBounds]
  have:=KQ (x:=(e,c,l)) (y:=(o,b,D)) (v:=(e,c+b,l)) (M:=(pendingOf st).toList.drop (i+2)) (L:=(pendingOf st).toList.take i)
  rw[j,<- F] at this;exact this
 refine h _ ⟨C,n.1.trans u,rfl,?_⟩ ?_ λk X=>n.2 k ∅
 ·show Ch r a 0 _ lo
  rw[show pendingOf (SortSt.mk' (kindOf st) a (((pendingOf st).setIfInBounds i (e,c+b,l)).eraseIdxIfInBounds (i+1)) g none)=(((pendingOf st).setIfInBounds i (e,c+b,l)).eraseIdxIfInBounds (i+1)) from rfl,H];refine Ch.join (mid:=mid) (G.congr λk _ d=>n.2 k ∅) ⟨V,∅,U,?_⟩;rw[show e+(c+b)=o+b by lia];exact B.congr λk d _=>n.2 k ∅
 ·show (((pendingOf st).setIfInBounds i (e,c+b,l)).eraseIdxIfInBounds (i+1)).size+1=_
  rw[<- aP,H];simp[j];lia
theorem aeE{st:SortSt}{Q:Unit->SortSt->Prop}(O:T5 prog w A s κ a₀ r)(hS:SI κ a₀ r st 0)(h1:0<a₀.size)(h:∀b,(arrOf b).Perm a₀->failedOf b=none->Up (fv r (arrOf b) 0) a₀.size->Q () b):wpS (model prog w) A E s sortRuns' Q st:=by
 have hz:(arrOf st).size=a₀.size:=hS.2.1.size_eq;refine wpS_bind (wpS_get ?_);dsimp only;rw[show (arrOf st).size=_ from hz];generalize (sortPriv% PySem.Builtin.minRun) a₀.size a₀.size 0=mr;refine wpS_bind (wpS_mono (wpS_forRange (I:=λx c b=>∃lo,c=(none,lo)/\SI κ a₀ r b lo/\lo<=a₀.size/\x<=lo) (Q:=λc b=>c=(none,a₀.size)/\SI κ a₀ r b a₀.size) ?_ ?_ ⟨0,rfl,hS,∅,∅⟩) ?_)
 ·rintro x c b _ S ⟨lo,rfl,l,W,F⟩
  dsimp only;by_cases H:lo≥a₀.size
  ·rw[b3 H]
   have:lo=a₀.size:=∅
   subst this;exact wpS_pure ⟨rfl,l⟩
  rw[b5 H];have hz':(arrOf b).size=a₀.size:=l.2.1.size_eq;refine wpS_bind (abN O l.1 l.mem ∅ ∅ λn a D q kp up=>?_);dsimp only;have g:SI κ a₀ r (setArr b a) lo:=⟨l.1,kp.1.trans l.2.1,l.2.2.1,l.2.2.2.congr λk _ d=>kp.2 k ∅⟩;have m:Up (fv r (arrOf (setArr b a)) lo) n:=up;generalize setArr b a=f at g m ⊢;refine Wh (α:=SortSt) (β:=Nat) (C:=λst n=>SI κ a₀ r st lo/\0<n/\lo+n<=a₀.size/\Up (fv r (arrOf st) lo) n) (λK=>by
   by_cases G:n<mr
   ·rw[b3 G]
    refine wpS_bind (wpS_lift (wpAny_rule ⟨rfl,?_⟩));have hz2:(arrOf f).size=a₀.size:=g.2.1.size_eq;obtain⟨P,X⟩:∃P,P=min (a₀.size-lo) mr:=⟨_,rfl⟩;rw[<- X];refine wpS_bind (aeD O g.1 g.mem ∅ ∅ m λa JG o=>?_);rw[b5 (-_)];have j:SI κ a₀ r (setArr f a) lo:=⟨g.1,JG.1.trans g.2.1,g.2.2.1,g.2.2.2.congr λk _ d=>JG.2 k ∅⟩;have J:Up (fv r (arrOf (setArr f a)) lo) P:=o;generalize setArr f a=e at j J ⊢;exact K e P ⟨j,∅,∅,J⟩
   ·rw[b5 G]
    obtain⟨U,hn⟩:∃U,U=n:=⟨_,rfl⟩;rw[<- hn];exact K f U ⟨g,∅,∅,hn▸m⟩) ?_
  rintro f n ⟨g,D,q,m⟩;refine wpS_bind (wpS_get ?_);have B:∀e,SI κ a₀ r e lo->Up (fv r (arrOf e) lo) n->SI κ a₀ r (setPending e ((pendingOf e).push (lo,n,0))) (lo+n):=λe j o=>⟨j.1,j.2.1,j.2.2.1,by
   show Ch r (arrOf e) 0 ((pendingOf e).push (lo,n,0)).toList (lo+n);rw[vB];exact j.2.2.2.join ⟨rfl,D,o,rfl⟩⟩
  cases hb:(pendingOf f).back? with
  |none =>
   exact wpS_bind (wpS_modify (wpS_pure ⟨_,rfl,B f g m,q,∅⟩))
  |some t =>
   obtain⟨R,M,p1⟩:=t;dsimp only;generalize (sortPriv% PySem.Builtin.power) a₀.size (2*R+M) (2*R+M+M+n) a₀.size=pw;refine wpS_bind (wpS_mono (wpS_forRange (I:=λ_ c b=>c=(none,())/\SI κ a₀ r b lo/\Up (fv r (arrOf b) lo) n) (Q:=λc b=>c=(none,())/\SI κ a₀ r b lo/\Up (fv r (arrOf b) lo) n) ?_ (λc b z=>z) ⟨rfl,g,m⟩) ?_)
   ·rintro y c e _ _ ⟨rfl,j,o⟩
    refine wpS_bind (wpS_get ?_);by_cases v:(pendingOf e).size > 1
    ·rw[b3 v]
     obtain⟨⟨f1,f2,u⟩,S⟩:∃x,(pendingOf e)[(pendingOf e).size-2]?=some x:=⟨_,getElem?_pos (pendingOf e) _ ∅⟩;rw[show (pendingOf e)[(pendingOf e).size-2]?=_ from S];dsimp only;by_cases ho:u<=pw
     ·rw[b3 ho]
      exact wpS_pure ⟨rfl,j,o⟩
     rw[b5 ho];refine wpS_bind (Wm O j ∅ (by show (pendingOf e).size-2+1<(pendingOf e).size;lia) λJA Y _ ke=>?_);rw[b5 (-_)];exact wpS_pure ⟨rfl,Y,o.eq λi _=>by unfold fv;rw[ke _ ∅]⟩
    ·rw[b5 v]
     exact wpS_pure ⟨rfl,j,o⟩
   ·rintro c e ⟨rfl,j,o⟩
    dsimp only;refine wpS_bind (wpS_modify (wpS_bind (wpS_modify (wpS_pure ⟨_,rfl,B (setPending e ((pendingOf e).modify ((pendingOf e).size-1) λx=>(x.fst,x.2.fst,pw))) ⟨j.1,j.2.1,j.2.2.1,j.2.2.2.pw ?_⟩ o,q,∅⟩))));show _=((pendingOf e).modify ((pendingOf e).size-1) λx=>(x.fst,x.2.fst,pw)).toList.map _;rw[<- Array.toList_map,<- Array.toList_map];congr 1;apply Array.ext
    ·simp
    ·intro i h1 h2
     simp[Array.getElem_modify];split <;> simp
 ·rintro c b ⟨lo,rfl,l,W,F⟩
  rw[show max 0 a₀.size=a₀.size by lia] at F
  have:lo=a₀.size:=∅
  subst this;exact⟨rfl,l⟩
 rintro c b ⟨rfl,l⟩;dsimp only;have l0:=Ch.len l.2.2.2;rw[aP] at l0;refine wpS_bind (wpS_mono (wpS_forRange (I:=λx c b=>c=(none,())/\SI κ a₀ r b a₀.size/\(pendingOf b).size+x<=a₀.size) (Q:=λc b=>c=(none,())/\SI κ a₀ r b a₀.size/\(pendingOf b).size<=1) ?_ ?_ ⟨rfl,l,∅⟩) ?_)
 ·rintro x c f _ S ⟨rfl,g,Z⟩
  refine wpS_bind (wpS_get ?_);by_cases v:(pendingOf f).size<=1
  ·rw[b3 v]
   exact wpS_pure ⟨rfl,g,v⟩
  rw[b5 v];refine wpS_bind (Wm O g (ay _) ?_ λe j Z7 _=>?_)
  ·have T:∀(c:Prop) [Decidable c],(if c then (pendingOf f).size-2-1 else (pendingOf f).size-2)+1<(pendingOf f).size:=λc _=>by split <;> lia
   exact T _
  ·rw[b5 (-_)]
   exact wpS_pure ⟨rfl,j,∅⟩
 ·rintro c f ⟨rfl,g,Z⟩
  exact⟨rfl,g,∅⟩
 rintro c f ⟨rfl,g,V⟩;refine wpS_pure (h f g.2.1 g.2.2.1 ?_);have p:=g.2.2.2;have N:(pendingOf f).toList.length<=1:=by rw[aP];exact V
 generalize (pendingOf f).toList=L at p N
 match L,p,N with
 |[],p,_=>have:0=a₀.size:=p;lia
 |[(R,M,p1)],⟨q1,q2,q3,q4⟩,_ =>
  have q4:R+M=a₀.size:=q4;subst q1;rw[<- q4,Nat.zero_add];exact q3
 |_::_::_,_,N=>simp at N
end
theorem L1{n:Nat}(h:n<=100000):n<sizeLine:=bH h (!_)
section
variable{prog:Program}{w:World}{A:Around}{E:Value->Shared->Prop}{s:Shared}{κ:SortKind}{r:Keyed->Int}
def Keeps(h h':Heap)(d:Addr):Prop:=∀b o,b≠d->h.get? b=some o->h'.get? b=some o
theorem Wn{d:Addr}{vs:List Value}{c:Nat}{P:PySem.Fin->Shared->Prop}(f:s.heap.get? d=some (seqObj "list" vs.toArray c))(B:2<=vs.length)(C:vs.length<=sizeLine)
 (z:∀h',Keeps s.heap h' d->∀Q:SortKind->Shared->Prop,Q κ {s with heap:=h'}->wpAny (model prog w) A (keyKind' vs.toArray) Q E {s with heap:=h'})
 (q:∀h',Keeps s.heap h' d->T5 prog w A {s with heap:=h'} κ (pairsOf vs) r)
 (k:∀out:Array Keyed,out.Perm (pairsOf vs)->Up (fv r out 0) vs.length->P (.done (.ret .none)) {s with heap:=sortedHeap s.heap d vs (out.map (·.2))}) :
 wpAny (model prog w) A (Builtin.«list.sort» ⟨[.ref d],[]⟩) P E s:=by
 have v:d<s.heap.objs.size:=Heap.lt_size f;rw[list_sort_plain];refine wpAny_bind (listItems_at f rfl (wpAny_bind (listUpdate_at f rfl ?_)));obtain⟨g,n⟩:∃g,(s.heap.update d (Obj.mapSeq λ_=>#[])).get? d=some (seqObj "list" #[] g):=⟨_,get?_update_seq f (λ_=>#[])⟩;refine wpAny_bind (seqEpoch_at n rfl (wpAny_bind (wpAny_newTuple (wpAny_bind (wpAny_newList (wpAny_holding ?_))))));have h:(((s.heap.update d (Obj.mapSeq λ_=>#[])).push (seqObj "tuple" vs.toArray 0)).push (seqObj "list" #[] 0)).get? d=some (seqObj "list" #[] g) :=
  Heap.get?_push_of_some _ (Heap.get?_push_of_some _ n)
 have m:Keeps s.heap (((s.heap.update d (Obj.mapSeq λ_=>#[])).push (seqObj "tuple" vs.toArray 0)).push (seqObj "list" #[] 0)) d:=λb o t e =>
  Heap.get?_push_of_some _ (Heap.get?_push_of_some _ (Heap.get?_update_of_ne _ (bP t) e))
 show wpAny (model prog w) A _ P E {s with heap:=((s.heap.update d (Obj.mapSeq λ_=>#[])).push (seqObj "tuple" vs.toArray 0)).push (seqObj "list" #[] 0)};dsimp only;have j:¬vs.toArray.size<2:=by simp;lia
 rw[b5 j,b5 j];refine wpAny_bind (z _ m _ ?_);refine wpAny_bind (wpAny_mono (aeE (a₀:=pairsOf vs) (κ:=κ) (r:=r) (st:=SortSt.mk' κ (vs.toArray.zip vs.toArray) #[] 7 none) (Q:=λ_ a=>(arrOf a).Perm (pairsOf vs)/\failedOf a=none/\Up (fv r (arrOf a) 0) (pairsOf vs).size) (q _ m) ⟨rfl,Array.Perm.refl _,rfl,rfl⟩ (by rw[pairsOf_size];lia) λa y p x=>⟨y,p,x⟩) ?_ λ_ _ e=>e);rintro⟨⟨⟩,a⟩ D ⟨rfl,l,u,i⟩;dsimp only;refine wpAny_bind (seqEpoch_at h rfl ?_);refine wpAny_bind (listUpdate_at h rfl ?_ (hsz2:=by refine aJ (Nat.le_of_eq ((Array.size_map ..).trans (l.size_eq.trans (pairsOf_size _)))) ?_;lia));rw[u];simp only[bne_self_eq_false,Bool.false_eq_true,if_false];rw[pairsOf_size] at i;exact wpAny_pure (k _ l i)
theorem Qv{l:Addr}{vs:List Value}{Q:Value->Shared->Prop}(hl:s.heap.IsList l vs.toArray)(j:2<=vs.length)(g:vs.length<=sizeLine)
 (n:∀(A:Around) (E:Value->Shared->Prop) h',(∀b o,s.heap.get? b=some o->h'.get? b=some o)->∀Q:SortKind->Shared->Prop,Q κ {s with heap:=h'}->wpAny (model prog w) A (keyKind' vs.toArray) Q E {s with heap:=h'})
 (i:∀(A:Around) h',(∀b o,s.heap.get? b=some o->h'.get? b=some o)->T5 prog w A {s with heap:=h'} κ (pairsOf vs) r)
 (k:∀out:Array Keyed,out.Perm (pairsOf vs)->Up (fv r out 0) vs.length->Q (.ref (s.heap.objs.size+1)) {s with heap:=sortedAll s.heap vs (out.map (·.2))}):wpAny (model prog w) A (call (.builtin "sorted") [.ref l]) Q E s:=by
 refine Calls.call_function_entry kind_sorted plain_sorted entry_sorted (args_sorted1 _) ?_;unfold Builtin.«sorted»;refine wpAny_bind (m:=checkCount "sorted" 1 1 _) (wpAny_pure (wpAny_bind (collect_list hl (hsz:=g) (wpAny_bind (wpAny_newList ?_)))));have c:((s.heap.push (seqObj "list" #[] 0)).update s.heap.objs.size (Obj.mapSeq (·++vs.toArray))).objs.size=s.heap.objs.size+1:=(Heap.size_update _ _ _).trans (size_push' _ _);have f:(((s.heap.push (seqObj "list" #[] 0)).update s.heap.objs.size (Obj.mapSeq (·++vs.toArray))).push (seqObj "list" vs.toArray 0)).get? (s.heap.objs.size+1)=some (seqObj "list" vs.toArray 0):=c▸Heap.get?_push_size _ rfl;have h:∀{h'},Keeps (((s.heap.push (seqObj "list" #[] 0)).update s.heap.objs.size (Obj.mapSeq (·++vs.toArray))).push (seqObj "list" vs.toArray 0)) h' (s.heap.objs.size+1)->∀b o,s.heap.get? b=some o->h'.get? b=some o:=λ{h'} K b o e=>by
  have d:b<s.heap.objs.size:=Heap.lt_size e;exact K b o (bD (Nat.lt_succ_of_lt d)) (Heap.get?_push_of_some _ (Heap.get?_update_of_ne _ (Nat.ne_of_gt d) (Heap.get?_push_of_some _ e)))
 show wpAny _ _ _ _ _ {s with heap:=((s.heap.push (seqObj "list" #[] 0)).update s.heap.objs.size (Obj.mapSeq (·++vs.toArray))).push (seqObj "list" vs.toArray 0)};rw[c];exact wpAny_bind (wpAny_holding (wpAny_call_entry slot_list_sort ⟨_,f,rfl⟩ entry_list_sort (Wn (κ:=κ) (r:=r) f j g (λh' K=>n _ _ h' (h K)) (λh' K=>i _ h' (h K)) λout a b=>⟨_,rfl,wpAny_pure ⟨_,rfl,k out a b⟩⟩) (args_list_sort _)))
end
section
variable{X:Cx}
def Wo(K:af):List V->Hp->VK->Prop:=λxs H Q=>∃(a:Addr) (qs:List Addr) (ts:List T3),xs=[.ref a]/\bK K H a (qs.map V.ref)/\ic K H qs ts/\ts.length<2000 /\
 ∀l (Ek:List Addr) (ts':List T3),H l=none->ts'.Perm ts->pJ ts'->ic K H Ek ts'->Q (.ref l) (upd H l (.lst (Ek.map V.ref)))
noncomputable def z8(h:Heap)(v:Value):T3:=by
 classical exact if e:∃x,Pp h v x then e.choose else (0,0,0)
theorem Pp.uniq{h:Heap}{v:Value}{x y:T3}(a:Pp h v x)(b:Pp h v y):x=y:=by
 obtain⟨q,o,n,i,t,r,rfl,g,u,f⟩:=a;obtain⟨k,m,l,j,w,s,e,c,p,d⟩:=b;cases e;rw[g] at c;cases c
 have:=f.symm.trans d
 simp only[Data.seq.injEq,Array.mk.injEq,List.cons.injEq,Value.int.injEq] at this;exact Prod.ext this.1.1.1 (Prod.ext this.1.2.1.1 this.1.2.2.1.1)
theorem DB{h:Heap}{v:Value}{x:T3}(a:Pp h v x):z8 h v=x:=by
 have e:∃x,Pp h v x:=⟨x,a⟩;unfold z8;rw[dif_pos e];exact e.choose_spec.uniq a
theorem Pp.keep{h h':Heap}{v:Value}{x:T3}(k:∀b o,h.get? b=some o->h'.get? b=some o)(a:Pp h v x):Pp h' v x:=by
 obtain⟨q,o,n,c,i,d,rfl,g,e,f⟩:=a;exact⟨q,o,n,c,i,d,rfl,k _ _ g,e,f⟩
theorem L3:p9 X (.builtin "sorted") (Wo X.K):=by
 intro L s σ H xs us Q I r ⟨a,g,ts,e,hq,W,hB,q⟩;subst e;obtain⟨u,e,ru⟩:=bX.one r;subst e;cases ru;obtain⟨its,rv,p,hz⟩:=I.list hq;have ahO:=RH rv;subst ahO;have B:=W.1;by_cases h0:ts.length=0
 ·have m:g=[]:=sJ.mp ∅
  subst m;have A:ts=[]:=sJ.mp h0;subst A;refine zW L s σ H [V.ref a] [Value.ref a] Q I (.cons rfl .nil) ⟨a,[],rfl,hq,!_,λl ns' hl M _=>?_⟩
  have:ns'=[]:=List.Perm.eq_nil M
  subst this;exact q l [] [] hl (List.Perm.refl _) (λi j x y _ h=>by simp at h) ⟨rfl,λi q t h=>by simp at h⟩
 by_cases U:ts.length=1
 ·obtain⟨c,m⟩:∃c,g=[c]:=List.length_eq_one_iff.mp ∅
  subst m;refine Qh (v:=.ref c) p.isList ?_;obtain⟨e,he⟩:=sortedAll_at s.heap [.ref c] #[.ref c];refine⟨.ref (s.heap.objs.size+1),_,I.laid (a:=s.heap.objs.size+1) (o:=.lst [.ref c]) (t':=s.toks) (λb o e=>sortedAll_old e) (dO _) ⟨?_,[.ref c],e,.cons rfl .nil,he⟩,rfl,q _ [c] ts (I.hok.fresh (dO _)) (List.Perm.refl _) (λi j x y hij Cq h2'=>?_) W⟩
  ·show 1<=sizeLine
   decide
  ·have:=(ai.mp h2').1
   lia
 have mk:∀{c:Addr} {x:T3},cW X.K H c (Hx x)->Pp s.heap (.ref c) x:=λ{c x} Y=>by
  obtain⟨jt,rj,tp,_⟩:=I.tuple Y;obtain⟨o,ho,hc,n,hd⟩:=tp;cases rj with
  |cons x1 r1=>cases r1 with
   |cons x2 r2=>cases r2 with
    |cons x3 r3 =>
     cases r3;obtain⟨t1,rfl⟩:=x1;obtain⟨t2,rfl⟩:=x2;obtain⟨t3,rfl⟩:=x3;exact⟨c,o,n,t1,t2,t3,rfl,ho,hc,hd⟩
 have S:∀c∈g,∃x∈ts,Pp s.heap (.ref c) x/\cW X.K H c (Hx x):=λc YG=>by
  obtain⟨i,hi,e⟩:=List.mem_iff_getElem.mp YG;have Y:=W.2 i c (ts[i]'∅) (by rw[aa hi,e]) (aa _);exact⟨ts[i],aK _,mk Y,Y⟩
 have P:∀{h':Heap},(∀b o,s.heap.get? b=some o->h'.get? b=some o)->∀(i:Nat) v x,(g.map Value.ref)[i]?=some v->ts[i]?=some x->Pp h' v x:=λ{h'} F i v x m A=>by
  rw[aj] at m;cases N:g[i]? with
  |none=>rw[N] at m;cases m
  |some c =>
   rw[N] at m;cases m;exact (mk (W.2 i c x N A)).keep F
 refine Qv (κ:=tuples' true) (r:=λx=>FI ts (z8 s.heap x.1)) (vs:=g.map Value.ref) p.isList (by rw[ah];lia) (by rw[ah];exact ji (L1 ∅)) (λA' E' h' F Q' k=>?_) (λA' h' F x y G hy E' C k=>?_) λout M hu=>?_
 ·obtain⟨fs,kt,fl,fi⟩:=HA (h:=h') (vs:=g.map Value.ref) (ts:=ts) (by rw[ah];exact B) (P F)
  refine kat_kind (s:={s with heap:=h'}) (T:=.type "int") kt (by rw[fl,ah];lia) (λf hf=>?_) rfl ?_
  ·obtain⟨i,t,rfl⟩:=fi f hf
   exact Looks.of_pure rfl
  have ahP:(Value.type "int" != Value.type "tuple")=true:=!_
  rw[ahP];exact k
 ·have O:∀x∈pairsOf (g.map Value.ref),∃z∈ts,Pp s.heap x.1 z:=λx G=>by
   have:=ir.mpr G
   rw[pairsOf_toList] at this;obtain⟨c,YG,e⟩:=aS.mp (mem_zip_self this).2;obtain⟨z,hz,tz,_⟩:=S c YG;exact⟨z,hz,e▸tz⟩
  obtain⟨zx,mx,tx⟩:=O x G;obtain⟨zy,my,ty⟩:=O y hy;refine abz (tx.keep F) (ty.keep F) ?_;have k:C (decide (FI ts (z8 s.heap x.1)<FI ts (z8 s.heap y.1))) {s with heap:=h'}:=k;rw[DB tx,DB ty,Nu mx] at k;exact k
 ·obtain⟨e,he⟩:=sortedAll_at s.heap (g.map Value.ref) (out.map (·.2))
  have D:(out.toList.map (·.2)).Perm (g.map Value.ref):=by
   have:=(Array.perm_iff_toList_perm.mp M).map (·.2)
   rw[pairsOf_toList] at this;refine this.trans (List.Perm.of_eq ?_);exact List.map_snd_zip (ay _)
  have Z:∀x∈out.toList,x.1=x.2/\x.1∈g.map Value.ref:=λx G=>by
   have:=(Array.perm_iff_toList_perm.mp M).mem_iff.mp G
   rw[pairsOf_toList] at this;exact mem_zip_self this
  obtain⟨d,E⟩:∃d:List Addr,out.toList.map (·.2)=d.map Value.ref:=by
   have:∀l:List Value,(∀v∈l,∃q,v=Value.ref q)->∃d:List Addr,l=d.map Value.ref:=λl=>by
    induction l with
    |nil=>exact λ_=>⟨[],rfl⟩
    |cons v l ih =>
     intro h;obtain⟨d,e⟩:=ih λv hv=>h v (.tail _ hv);obtain⟨q,rfl⟩:=h v (.head _);exact⟨q::d,by rw[e];rfl⟩
   refine this _ λv hv=>?_;obtain⟨q,_,e⟩:=aS.mp (D.mem_iff.mp hv);exact⟨q,e.symm⟩
  have eo:(out.map (·.2)).toList=d.map Value.ref:=by rw[Array.toList_map];exact E
  have w:d.Perm g:=by
   rw[E] at D
   have:=D.map λv=>match v with|Value.ref q=>q|_=>0
   rw[cz,cz] at this;exact qG g▸qG d▸this
  have J:ts=g.map λq=>z8 s.heap (.ref q):=by
   apply xR
   ·rw[ah];exact B.symm
   ·intro i U h2
    rw[List.getElem_map];exact (DB (P (h':=s.heap) (λ_ _ e=>e) i _ _ (by rw[aj,aa ∅];rfl) (aa U))).symm
  refine⟨.ref (s.heap.objs.size+1),_,I.laid (a:=s.heap.objs.size+1) (o:=.lst (d.map V.ref)) (t':=s.toks) (λb o e=>sortedAll_old e) (dO _) ⟨?_,(out.map (·.2)).toList,e,eo▸KI d,he⟩,rfl,q _ d (d.map λq=>z8 s.heap (.ref q)) (I.hok.fresh (dO _)) ?_ (λi j x y hij m A=>?_) ⟨by rw[ah],λi c t0 m A=>?_⟩⟩
  ·rw[ah,w.length_eq]
   exact ji (L1 ∅)
  ·rw[J]
   exact w.map _
  ·have hlo:out.size=g.length:=by
    have:=M.size_eq
    rw[pairsOf_size,ah] at this;exact this
   have hql:d.length=g.length:=w.length_eq;have hj:j<d.length:=by
    have:=(ai.mp A).1
    rwa [ah] at this
   have R:∀(p:Nat) (z:T3),p<d.length->(d.map λq=>z8 s.heap (.ref q))[p]?=some z->z∈ts/\fv (λx=>FI ts (z8 s.heap x.1)) out 0 p=FI ts z:=λp z Yc e=>by
    rw[aj,aa Yc] at e;have ez:z8 s.heap (.ref d[p])=z:=aN e;have JB:0+p<out.size:=∅
    rw[oF JB];have U:(out[0+p]).1=.ref d[p]:=by
     have hm:out[0+p]∈out.toList:=-_
     rw[(Z _ hm).1]
     have:(out.toList.map (·.2))[p]'(by rw[ah,aP];lia)=(d.map Value.ref)[p]'(by rw[ah];exact Yc):=by simp only[E]
     rw[List.getElem_map,List.getElem_map,Array.getElem_toList] at this
     simpa using this
    refine⟨?_,by rw[U,ez]⟩;rw[<- ez,J];exact aS.mpr ⟨_,w.mem_iff.mp (aK Yc),rfl⟩
   obtain⟨m1,v1⟩:=R i x ∅ m;obtain⟨m2,v2⟩:=R j y hj A
   have:=hu i j ∅ (by rw[ah];lia)
   rw[v1,v2] at this;rw[<- Nu (ts:=ts) m2];exact eL ∅
  ·have hi:=(ai.mp m).1
   rw[aj,m] at A;have N:z8 s.heap (.ref c)=t0:=aN A;obtain⟨z,_,tz,sz⟩:=S c (w.mem_iff.mp (aU m));rw[<- N,DB tz];exact sz
end
end L2
namespace fQ
open PySem L2
noncomputable def top (i:Nat):Stmt:=PySem.Challenge.pw_knotless_k35_wires_of_a_rope.main.body.getD i (.Pass ⟨0,0,0,0⟩)
noncomputable abbrev vE:Stmt:=(inClass (top 2) 0)
noncomputable abbrev x8:Stmt:=(inClass (top 2) 1)
noncomputable abbrev x9:Stmt:=(inClass (top 2) 2)
noncomputable abbrev ya:Stmt:=(inClass (top 2) 3)
noncomputable abbrev vF:Stmt:=(inClass (top 2) 4)
noncomputable abbrev ED:Stmt:=(top 4)
noncomputable abbrev Cr:Stmt:=(top 5)
noncomputable abbrev qK:Stmt:=(inClass (top 17) 0)
noncomputable abbrev tw:Stmt:=(inClass (top 17) 1)
noncomputable abbrev tD:Stmt:=(inClass (top 17) 2)
noncomputable abbrev qL:Stmt:=(inClass (top 17) 3)
noncomputable abbrev tE:Stmt:=(inClass (top 18) 0)
noncomputable abbrev vG:Stmt:=(inClass (top 18) 1)
noncomputable abbrev vH:Stmt:=(inClass (top 18) 2)
noncomputable abbrev tF:Stmt:=(inClass (top 18) 3)
noncomputable abbrev vI:Stmt:=(inClass (top 19) 0)
noncomputable abbrev EE:Stmt:=(top 21)
noncomputable abbrev L4:Stmt:=(top 22)
noncomputable abbrev Wp:Stmt:=(top 23)
noncomputable abbrev Wq:Stmt:=(top 25)
noncomputable abbrev L5:Stmt:=(top 26)
noncomputable abbrev EF:Stmt:=(top 28)
noncomputable abbrev L6:Stmt:=(top 29)
noncomputable abbrev vJ:Stmt:=(inClass (top 36) 0)
noncomputable abbrev z9:Stmt:=(inClass (top 36) 1)
noncomputable abbrev Aa:Stmt:=(inClass (top 36) 2)
noncomputable abbrev qM:Stmt:=(inClass (top 36) 3)
noncomputable abbrev tG:Stmt:=(inClass (top 36) 4)
noncomputable abbrev Ab:Stmt:=(inClass (top 36) 5)
noncomputable abbrev vK:Stmt:=(top 37)
noncomputable abbrev vL:Stmt:=(top 38)
noncomputable abbrev yb:Stmt:=(top 39)
noncomputable abbrev Ac:Stmt:=(top 40)
noncomputable abbrev oU:Stmt:=(inClass (top 42) 0)
noncomputable abbrev tH:Stmt:=(inClass (top 42) 1)
noncomputable abbrev vM:Stmt:=(inClass (top 42) 2)
noncomputable abbrev mj:Stmt:=(inClass (top 42) 3)
noncomputable abbrev mq:Stmt:=(inClass (top 42) 4)
noncomputable abbrev tK:Stmt:=(inClass (top 42) 5)
noncomputable abbrev Cs:Stmt:=(top 43)
noncomputable abbrev vN:Stmt:=(top 44)
noncomputable abbrev qN:Stmt:=(inClass (top 47) 0)
noncomputable abbrev yc:Stmt:=(inClass (top 48) 0)
noncomputable abbrev Ct:Stmt:=(inClass (top 48) 1)
noncomputable abbrev Cu:Stmt:=(inClass (top 48) 2)
noncomputable abbrev Ae:Stmt:=(inClass (top 48) 3)
noncomputable abbrev Af:Stmt:=(inClass (top 48) 4)
noncomputable abbrev yd:Stmt:=(inClass (top 48) 6)
noncomputable abbrev Cv:Stmt:=(inClass (top 48) 7)
noncomputable abbrev Cw:Stmt:=(inClass (top 48) 8)
noncomputable abbrev EH:Stmt:=(inClass (top 48) 9)
noncomputable abbrev i6:Stmt:=(inClass (top 48) 13)
noncomputable abbrev ye:Stmt:=(inClass (top 48) 14)
noncomputable abbrev fJ:Stmt:=(inClass (top 48) 15)
noncomputable abbrev Ag:Stmt:=(inClass (top 48) 16)
noncomputable abbrev vO:Stmt:=(inClass (top 48) 17)
noncomputable abbrev qO:Stmt:=(inClass (top 48) 18)
noncomputable abbrev oV:Stmt:=(inClass (top 48) 19)
noncomputable abbrev Cy:Stmt:=(inClass (top 48) 20)
noncomputable abbrev nB:Stmt:=(inClass (top 48) 21)
noncomputable abbrev qP:Stmt:=(inClass (top 48) 22)
noncomputable abbrev iN:Stmt:=(inClass (top 48) 23)
noncomputable abbrev nC:Stmt:=(inClass (top 48) 24)
noncomputable abbrev mw:Stmt:=(inClass (top 48) 25)
noncomputable abbrev oW:Stmt:=(inClass (top 48) 26)
noncomputable abbrev yf:Stmt:=(top 49)
noncomputable abbrev qQ:Stmt:=(top 50)
noncomputable abbrev Ah:Stmt:=(top 52)
noncomputable abbrev EI:Stmt:=(top 53)
noncomputable abbrev EJ:Stmt:=(top 54)
noncomputable abbrev EK:Stmt:=(top 55)
noncomputable abbrev Ai:Stmt:=(top 56)
noncomputable abbrev Cz:Stmt:=(top 57)
noncomputable abbrev tL:Stmt:=(top 58)
noncomputable abbrev Qw:Stmt:=(top 59)
noncomputable abbrev EL:Stmt:=(top 60)
noncomputable abbrev HP:Stmt:=(top 61)
noncomputable abbrev Wr:Stmt:=(top 62)
theorem HQ:aI ["self"] ["self"] (aB vE):=jg
theorem JI:aI ["self","house","caller","rope"] ["self","house","caller","rope"] (aB x8):=jg
theorem JJ:aI ["self","house","caller"] ["self","house","caller"] (aB x9):=jg
theorem BI:aI ["self"] ["self"] (aB ya):=jg
theorem wX:(["noted","rope"]:List Str).Nodup:=by decide +kernel
theorem HR:aI ["self"] ["self"] (aB vF):=jg
theorem CA:aI ["book","letter","house","came","open_here","here","handed"] ["book","letter","house","came","open_here","here"] (aB ED):=jg
theorem JK:(["caller","letter"]:List Str).Nodup:=by decide +kernel
theorem uR:aI ["book","sought","house","came","open_here","here","noted","leading"] ["book","sought","house","came","open_here","here"] (aB Cr):=jg
theorem HS:(["rope","came"]:List Str).Nodup:=by decide +kernel
theorem EN:aI ["self","sender"] ["self","sender"] (aB qK):=jg
theorem Gx:aI ["self","caller"] ["self","caller"] (aB tw):=jg
theorem Gy:aI ["self"] ["self"] (aB tD):=jg
theorem EO:aI ["self"] ["self"] (aB qL):=jg
theorem Gz:aI ["self","sender","to"] ["self","sender","to"] (aB tE):=jg
theorem HU:aI ["self","caller"] ["self","caller"] (aB vG):=jg
theorem HV:aI ["self"] ["self"] (aB vH):=jg
theorem GA:aI ["self"] ["self"] (aB tF):=jg
theorem HW:aI ["self","caller"] ["self","caller"] (aB vI):=jg
theorem Qx:aI ["town","house"] ["town","house"] (aB EE):=jg
theorem NK:aI ["town","row","rope","hops"] ["town","row","rope"] (aB L4):=jg
theorem HX:aI ["town","live","rows","house","least","rope","made"] ["town","live","rows","house"] (aB Wp):=jg
theorem Ws:aI ["town","live","rows"] ["town","live","rows"] (aB Wq):=jg
theorem T7:(["house","live","rows","town"]:List Str).Nodup:=by decide +kernel
theorem NL:aI ["town","live","rows"] ["town","live","rows"] (aB L5):=jg
theorem NN:(["up"]:List Str).Nodup:=by decide +kernel
theorem CB:aI ["town","live","rows","house","joined"] ["town","live","rows","house"] (aB EF):=jg
theorem JL:(["rope","joined"]:List Str).Nodup:=by decide +kernel
theorem HY:aI ["town","live","rows","house","rope","other"] ["town","live","rows","house"] (aB L6):=jg
theorem HZ:aI ["self","names","ropes"] ["self","names","ropes"] (aB vJ):=jg
theorem L7:aI ["self","house"] ["self","house"] (aB z9):=jg
theorem L8:aI ["self","number"] ["self","number"] (aB Aa):=jg
theorem wY:aI ["self","house"] ["self","house"] (aB qM):=jg
theorem rN:(["number","rope","house"]:List Str).Nodup:=by decide +kernel
theorem zf:aI ["self","rope","house","ends"] ["self","rope","house"] (aB tG):=jg
theorem Ma:aI ["self","rope","group"] ["self","rope","group"] (aB Ab):=jg
theorem Ia:aI ["names"] ["names"] (aB vK):=jg
theorem Aj:aI ["size","ropes","rope"] ["size","ropes"] (aB vL):=jg
theorem JM:aI ["size","rope"] ["size","rope"] (aB yb):=jg
theorem Mb:aI ["size","one","other"] ["size","one","other"] (aB Ac):=jg
theorem uS:aI ["self","town"] ["self","town"] (aB oU):=jg
theorem Ak:(["rope","town"]:List Str).Nodup:=by decide +kernel
theorem qR:aI ["self","rope","wire","ahead"] ["self","rope","wire"] (aB tH):=jg
theorem CC:(["each","wire"]:List Str).Nodup:=by decide +kernel
theorem Al:aI ["self","rope","wire","ahead"] ["self","rope","wire"] (aB vM):=jg
theorem BE:aI ["self","rope"] ["self","rope"] (aB mj):=jg
theorem rO:aI ["self","rope","number","stand"] ["self","rope","number"] (aB mq):=jg
theorem zg:aI ["self","group"] ["self","group"] (aB tK):=jg
theorem CD:(["rope","group","self"]:List Str).Nodup:=by decide +kernel
theorem NO:aI ["town","rope"] ["town","rope"] (aB Cs):=jg
theorem Ib:aI ["group"] ["group"] (aB vN):=jg
theorem ER:aI ["self","letter","group"] ["self","letter","group"] (aB qN):=jg
theorem jx:aI ["self","town","callers"] ["self","town","callers"] (aB yc):=jg
theorem ES:(["bit","town"]:List Str).Nodup:=by decide +kernel
theorem ET:(["bit"]:List Str).Nodup:=by decide +kernel
theorem EU:(["caller"]:List Str).Nodup:=by decide +kernel
theorem EV:(["caller"]:List Str).Nodup:=by decide +kernel
theorem EW:(["caller"]:List Str).Nodup:=by decide +kernel
theorem NP:aI ["self","group"] ["self","group"] (aB Ct):=jg
theorem NQ:aI ["self","group"] ["self","group"] (aB Cu):=jg
theorem Mc:aI ["self","group"] ["self","group"] (aB Ae):=jg
theorem Me:aI ["self","group"] ["self","group"] (aB Af):=jg
theorem JN:aI ["self","house","group"] ["self","house","group"] (aB yd):=jg
theorem Am:aI ["self","house","group","ahead","row"] ["self","house","group"] (aB Cv):=jg
theorem FL:aI ["self","rope","wire","ended"] ["self","rope","wire"] (aB Cw):=jg
theorem Ic:aI ["self","rope","wire","began"] ["self","rope","wire"] (aB EH):=jg
theorem uT:aI ["self","sender","to","letter","number","house"] ["self","sender","to"] (aB i6):=jg
theorem JO:aI ["self"] ["self"] (aB ye):=jg
theorem gI:aI ["self","at","landed","number","rope","house","posted","fate"] ["self","at"] (aB fJ):=jg
theorem Mf:aI ["self","letter"] ["self","letter"] (aB Ag):=jg
theorem Ie:aI ["self","posted","rope","house"] ["self","posted","rope","house"] (aB vO):=jg
theorem eB:aI ["self","number","house","came","posted","group","open_here","here","found","caller","rope"] ["self","number","house","came"] (aB qO):=jg
theorem nD:aI ["self","house","group","there"] ["self","house","group"] (aB oV):=jg
theorem An:(["caller","self","there"]:List Str).Nodup:=by decide +kernel
theorem Ao:aI ["self","number","house","rope","posted","wire"] ["self","number","house","rope"] (aB Cy):=jg
theorem mz:aI ["self","rope","wire","left","flown"] ["self","rope","wire"] (aB nB):=jg
theorem wZ:aI ["self","group","posted"] ["self","group"] (aB qP):=jg
theorem kT:aI ["self","rope","group"] ["self","rope"] (aB iN):=jg
theorem CF:aI ["self","house"] ["self","house"] (aB nC):=jg
theorem BF:aI ["self","caller"] ["self","caller"] (aB mw):=jg
theorem DC:aI ["self","sender","to"] ["self","sender","to"] (aB oW):=jg
theorem BJ:aI ["town"] ["town"] (aB yf):=jg
theorem EX:(["house","town"]:List Str).Nodup:=by decide +kernel
theorem w6:aI ["town","callers","caller"] ["town","callers"] (aB qQ):=jg
theorem Mg:aI ["_law_script","_law_k"] ["_law_script","_law_k"] (aB Ah):=jg
theorem Qy:aI ["_law_found"] ["_law_found"] (aB EI):=jg
theorem mC:aI ["_law_script","_law_size","_law_names_here","_law_k","_law_cell","_law_name"] ["_law_script","_law_size"] (aB EJ):=jg
theorem dH:aI ["_law_script","_law_size","_law_group","_law_ropes_here","_law_many","_law_k","_law_cell","_law_one","_law_other","_law_rest","_law_cost","_law_lets"] ["_law_script","_law_size","_law_group"] (aB EK):=jg
theorem ku:aI ["_law_script","_law_size","_law_group","_law_callers_here","_law_most","_law_k","_law_cell","_law_place"] ["_law_script","_law_size","_law_group"] (aB Ai):=jg
theorem Aq:aI ["_law_net","_law_size","_law_group","_law_turn","_law_house"] ["_law_net","_law_size","_law_group"] (aB Cz):=jg
theorem qS:aI ["_law_story","_law_row"] ["_law_story"] (aB tL):=jg
theorem CG:(["_law_one"]:List Str).Nodup:=by decide +kernel
theorem Mh:aI ["_law_places","_law_sender","_law_number","_law_mates"] ["_law_places","_law_sender","_law_number"] (aB Qw):=jg
theorem Qz:(["_law_caller","_law_places","_law_sender"]:List Str).Nodup:=by decide +kernel
theorem yg:aI ["_law_stood","_law_number","_law_story","_law_row","_law_standing"] ["_law_stood","_law_number","_law_story"] (aB EL):=jg
theorem JP:(["_law_wire","_law_row","_law_stood"]:List Str).Nodup:=by decide +kernel
theorem gw:aI ["_law_net","_law_ropes_here","_law_stood","_law_number","_law_rope","_law_wire","_law_others","_law_before","_law_flies","_law_told"] ["_law_net","_law_ropes_here","_law_stood","_law_number"] (aB HP):=jg
theorem Mi:(["_law_one","_law_rope","_law_stood","_law_wire"]:List Str).Nodup:=by decide +kernel
theorem Mj:(["_law_one","_law_net"]:List Str).Nodup:=by decide +kernel
theorem Ml:(["_law_one","_law_rope","_law_wire"]:List Str).Nodup:=by decide +kernel
theorem Mm:(["_law_one","_law_net"]:List Str).Nodup:=by decide +kernel
theorem kK:aI ["_law_script","_law_size","_law_group","_law_ropes_here","_law_callers_here","_law_net","_law_stood","_law_letter","_law_cell","_law_sender","_law_to_here","_law_number","_law_k","_law_before"] ["_law_script"] (aB Wr):=jg
theorem T8:(["_law_rope"]:List Str).Nodup:=by decide +kernel
set_option genInjectivity false in
structure Ad where
 (kU nG nH nJ kW w9 tM dY jW gJ fZ jX kX kY jY kZ xg DE NR NT yh xh DF k6 qj qk jn jZ ql k7 k8 nK qm iO j0 lg gK gM j3 tN ly jo nL tO tP qq qt nM tQ tR xj nN qu lz jq iP tS iC jr eE iD gO iQ nO ju qv xm xo xq qw tT j7 Ig xr Ar NU:Addr)
 (pK rX rY rZ pL Bp yi lK nP nQ lM nR pM pN nS pO Bq GZ RT RU G0 Br G1 pP uU uV lN nU uW pQ pR r6 uX kB nV pS i7 i8 nW yj pT lO r8 yk yl uY uZ se ym yo Bs sf u0 pU lP kC yp jH lQ fU jI i9 kD sj lR vc Bt Bu Bv vd yq nX Mn Bw DG NV:FuncData)
 jc:Addr
 yr:FuncData
 fK:Addr
 pV:FuncData
 jy:Tok
 iR:Addr
 fV:Addr
 jd:Addr
 jv:Addr
 aV:Addr
 cN:Addr
 eG:Addr
 cC:Addr
 xu:Addr
 Bx:Addr
 pW:Tok
 sq:Tok
 sr:Tok
 sA:Tok
 nY:Tok
 dZ:Addr
structure Txt(K:af)(mg:Str->Option Value)(t:Ad):Prop where
 vP:NH K t.eG "Book.__init__" vE t.kU t.pK ["self"]
 DH:iI K t.eG "learn" "Book.learn" x8 t.nG t.rX ["self","house","caller","rope"]
 DI:iI K t.eG "known" "Book.known" x9 t.nH t.rY ["self","house","caller"]
 yt:iI K t.eG "notes" "Book.notes" ya t.nJ t.rZ ["self"]
 vQ:iI K t.eG "forget" "Book.forget" vF t.kW t.pL ["self"]
 KR:nA K mg "targets" "targets" ED t.w9 t.Bp ["book","letter","house","came","open_here","here"]
 Ih:nA K mg "ropes_on" "ropes_on" Cr t.tM t.yi ["book","sought","house","came","open_here","here"]
 qU:NH K t.iR "Letter.__init__" qK t.dY t.lK ["self","sender"]
 As:iI K t.iR "meant" "Letter.meant" tw t.jW t.nP ["self","caller"]
 nZ:iI K t.iR "seeks" "Letter.seeks" tD t.gJ t.nQ ["self"]
 lT:iI K t.iR "number" "Letter.number" qL t.fZ t.lM ["self"]
 Au:NH K t.fV "ToOne.__init__" tE t.jX t.nR ["self","sender","to"]
 BK:iI K t.fV "meant" "ToOne.meant" vG t.kX t.pM ["self","caller"]
 vR:iI K t.fV "seeks" "ToOne.seeks" vH t.kY t.pN ["self"]
 tU:iI K t.fV "number" "ToOne.number" tF t.jY t.nS ["self"]
 BL:iI K t.jd "meant" "ToAll.meant" vI t.kZ t.pO ["self","caller"]
 EY:nA K mg "own_row" "own_row" EE t.xg t.Bq ["town","house"]
 Mp:nA K mg "offer" "offer" L4 t.DE t.GZ ["town","row","rope"]
 Z8:nA K mg "due" "due" Wp t.NR t.RT ["town","live","rows","house"]
 Z9:nA K mg "ups" "ups" Wq t.NT t.RU ["town","live","rows"]
 DJ:nA K mg "opens" "opens" L5 t.yh t.G0 ["town","live","rows"]
 KS:nA K mg "open_at" "open_at" EF t.xh t.Br ["town","live","rows","house"]
 RV:nA K mg "up_of" "up_of" L6 t.DF t.G1 ["town","live","rows","house"]
 BN:NH K t.aV "Town.__init__" vJ t.k6 t.pP ["self","names","ropes"]
 FN:iI K t.aV "name" "Town.name" z9 t.qj t.uU ["self","house"]
 Av:iI K t.aV "rope" "Town.rope" Aa t.qk t.uV ["self","number"]
 lU:iI K t.aV "ropes_at" "Town.ropes_at" qM t.jn t.lN ["self","house"]
 n9:iI K t.aV "far_end" "Town.far_end" tG t.jZ t.nU ["self","rope","house"]
 Aw:iI K t.aV "lets" "Town.lets" Ab t.ql t.uW ["self","rope","group"]
 BO:nA K mg "check_names" "check_names" vK t.k7 t.pQ ["names"]
 BP:nA K mg "check_ropes" "check_ropes" vL t.k8 t.pR ["size","ropes"]
 DK:nA K mg "check_rope" "check_rope" yb t.nK t.r6 ["size","rope"]
 FO:nA K mg "joins_two" "joins_two" Ac t.qm t.uX ["size","one","other"]
 xw:NH K t.cN "Strands.__init__" oU t.iO t.kB ["self","town"]
 tV:iI K t.cN "fall" "Strands.fall" tH t.j0 t.nV ["self","rope","wire"]
 vS:iI K t.cN "lay" "Strands.lay" vM t.lg t.pS ["self","rope","wire"]
 d7:iI K t.cN "standing" "Strands.standing" mj t.gK t.i7 ["self","rope"]
 mD:iI K t.cN "wire_for" "Strands.wire_for" mq t.gM t.i8 ["self","rope","number"]
 tW:iI K t.cN "live" "Strands.live" tK t.j3 t.nW ["self","group"]
 CH:nA K mg "wires_of" "wires_of" Cs t.tN t.yj ["town","rope"]
 eS:nA K mg "check_group" "check_group" vN t.ly t.pT ["group"]
 zh:NH K t.jv "Posted.__init__" qN t.jo t.lO ["self","letter","group"]
 DL:NH K t.cC "Net.__init__" yc t.nL t.r8 ["self","town","callers"]
 mE:iI K t.cC "rows" "Net.rows" Ct t.tO t.yk ["self","group"]
 yu:iI K t.cC "live" "Net.live" Cu t.tP t.yl ["self","group"]
 ve:iI K t.cC "opens" "Net.opens" Ae t.qq t.uY ["self","group"]
 Ax:iI K t.cC "notes" "Net.notes" Af t.qt t.uZ ["self","group"]
 DM:iI K t.cC "row_at" "Net.row_at" yd t.nM t.se ["self","house","group"]
 Ii:iI K t.cC "call" "Net.call" Cv t.tQ t.ym ["self","house","group"]
 Ij:iI K t.cC "fall" "Net.fall" Cw t.tR t.yo ["self","rope","wire"]
 KU:iI K t.cC "lay" "Net.lay" EH t.xj t.Bs ["self","rope","wire"]
 tX:LW K "post" "Net.post" i6 t.jc t.yr (.none)
 abP:Binds K t.yr ["self","sender","to"] [.none]
 QA:Binds K t.yr ["self","sender","to"] []
 QB:LC K t.cC "post" t.jc
 gm:iI K t.cC "flying" "Net.flying" ye t.nN t.sf ["self"]
 lA:LW K "pass_on" "Net.pass_on" fJ t.fK t.pV (.int 0 t.jy)
 JQ:Binds K t.pV ["self","at"] [.int 0 t.jy]
 XC:Binds K t.pV ["self","at"] []
 JR:LC K t.cC "pass_on" t.fK
 qx:iI K t.cC "story" "Net.story" Ag t.qu t.u0 ["self","letter"]
 BQ:iI K t.cC "fate_of" "Net.fate_of" vO t.lz t.pU ["self","posted","rope","house"]
 qV:iI K t.cC "do_letter" "Net.do_letter" qO t.jq t.lP ["self","number","house","came"]
 xx:iI K t.cC "callers_at" "Net.callers_at" oV t.iP t.kC ["self","house","group"]
 Ik:iI K t.cC "send" "Net.send" Cy t.tS t.yp ["self","number","house","rope"]
 vf:iI K t.cC "lose_copies" "Net.lose_copies" nB t.iC t.jH ["self","rope","wire"]
 qW:iI K t.cC "take_news" "Net.take_news" qP t.jr t.lQ ["self","group"]
 iS:iI K t.cC "take_news_of_rope" "Net.take_news_of_rope" iN t.eE t.fU ["self","rope"]
 vg:iI K t.cC "check_house" "Net.check_house" nC t.iD t.jI ["self","house"]
 mF:iI K t.cC "check_caller" "Net.check_caller" mw t.gO t.i9 ["self","caller"]
 xA:iI K t.cC "check_pair" "Net.check_pair" oW t.iQ t.kD ["self","sender","to"]
 DN:nA K mg "first_rows" "first_rows" yf t.nO t.sj ["town"]
 zj:nA K mg "check_callers" "check_callers" qQ t.ju t.lR ["town","callers"]
 gq:nA K mg "_law_cell_at" "_law_cell_at" Ah t.qv t.vc ["_law_script","_law_k"]
 KW:nA K mg "_law_whole" "_law_whole" EI t.xm t.Bt ["_law_found"]
 KY:nA K mg "_law_names" "_law_names" EJ t.xo t.Bu ["_law_script","_law_size"]
 KZ:nA K mg "_law_ropes" "_law_ropes" EK t.xq t.Bv ["_law_script","_law_size","_law_group"]
 FP:nA K mg "_law_callers" "_law_callers" Ai t.qw t.vd ["_law_script","_law_size","_law_group"]
 Il:nA K mg "_law_rounds" "_law_rounds" Cz t.tT t.yq ["_law_net","_law_size","_law_group"]
 Ay:nA K mg "_law_story_kind" "_law_story_kind" tL t.j7 t.nX ["_law_story"]
 Wt:nA K mg "_law_to" "_law_to" Qw t.Ig t.Mn ["_law_places","_law_sender","_law_number"]
 EZ:nA K mg "_law_wires" "_law_wires" EL t.xr t.Bw ["_law_stood","_law_number","_law_story"]
 NX:nA K mg "_law_fall" "_law_fall" HP t.Ar t.DG ["_law_net","_law_ropes_here","_law_stood","_law_number"]
 Wu:nA K mg "law" "law" Wr t.NU t.NV ["_law_script"]
 Im:Jz K t.iR
 Wv:mg "Letter" = some (.ref t.iR)
 UH:dj K t.iR "sender"
 aaa:dj K t.iR "to"
 pX:Jz K t.fV
 YJ:mg "ToOne" = some (.ref t.fV)
 tY:dj K t.fV "sender"
 yv:dj K t.fV "to"
 yw:Jz K t.jd
 YK:mg "ToAll" = some (.ref t.jd)
 oh:dj K t.jd "sender"
 abQ:dj K t.jd "to"
 c7:Jz K t.jv
 Ww:mg "Posted" = some (.ref t.jv)
 ig:dj K t.jv "letter"
 kg:dj K t.jv "group"
 yx:dj K t.jv "old"
 oX:dj K t.jv "done_at"
 gP:dj K t.jv "deeds"
 fj:Jz K t.aV
 abR:mg "Town" = some (.ref t.aV)
 tZ:dj K t.aV "house_names"
 gQ:dj K t.aV "rope_tuples"
 mS:dj K t.aV "size"
 vh:dj K t.aV "many"
 dM:Jz K t.cN
 T9:mg "Strands" = some (.ref t.cN)
 kh:dj K t.cN "town"
 fW:dj K t.cN "upright"
 yy:Jz K t.eG
 abS:mg "Book" = some (.ref t.eG)
 qy:dj K t.eG "kept"
 bw:Jz K t.cC
 aeH:mg "Net" = some (.ref t.cC)
 mG:dj K t.cC "town"
 lB:dj K t.cC "strands"
 kL:dj K t.cC "rows_by_group"
 qz:dj K t.cC "books"
 qA:dj K t.cC "homes"
 oi:dj K t.cC "groups"
 DO:dj K t.cC "handed"
 dS:dj K t.cC "letters"
 je:dj K t.cC "copies"
 Az:mg "opens_opens" = some (.ref t.yh)
 JS:LC K t.jd "seeks" t.gJ
 Io:LC K t.jd "number" t.fZ
 YL:Mk K t.jd t.dY
 E1:Z1 K t.iR "__init__" t.dY
 Ip:mg "NoWire" = some (.ref t.xu)
 Iq:VM K t.xu
 Ua:mg "NoGroup" = some (.ref t.Bx)
 Ub:VM K t.Bx
 JT:mg "MOST_HOUSES" = some (.int 10 t.pW)
 Mq:mg "MOST_ROPES" = some (.int 20 t.sq)
 Mr:mg "MOST_WIRES" = some (.int 4 t.sr)
 Ms:mg "ALL_GROUPS" = some (.int 7 t.sA)
 Ir:mg "MOST_CALLERS" = some (.int 20 t.nY)
 kE:mg "GROUP_BITS" = some (.ref t.dZ)
 fL:∀H,cW K H t.dZ [.int 1,.int 2,.int 4]
 gR:mg "len" = none
 oj:mg "isinstance" = none
 Wx:mg "int" = none
 abT:mg "bool" = none
 vU:mg "list" = none
 YM:mg "tuple" = none
 gV:mg "range" = none
 FQ:mg "enumerate" = none
 aeI:mg "min" = none
 aeJ:mg "set" = none
 aeK:mg "str" = none
 aeL:mg "all" = none
 Iu:mg "sorted" = none
theorem QC{α:Type}{M:List α->Prop}(h:∀a,M [a]):∀us:List α,us.length=1->M us
 |[_],_=>h _
theorem El{α:Type}{M:List α->Prop}(h:∀b a,M [b,a]):∀us:List α,us.length=2->M us
 |[_,_],_=>h _ _
theorem E2{α:Type}{M:List α->Prop}(h:∀b a c,M [b,a,c]):∀us:List α,us.length=3->M us
 |[_,_,_],_=>h _ _ _
theorem fO{α:Type}{M:List α->Prop}(h:∀c a d b,M [c,a,d,b]):∀us:List α,us.length=4->M us
 |[_,_,_,_],_=>h _ _ _ _
theorem el6{α:Type}{M:List α->Prop}(h:∀e a f c b d,M [e,a,f,c,b,d]):∀us:List α,us.length=6->M us
 |[_,_,_,_,_,_],_=>h _ _ _ _ _ _
theorem abU{K:af}{h:Heap}{b:Str->Option Value}(X:K.In h)(G:h.Ns mainGlobals b){kU nG nH nJ kW w9 tM r jW S z jX kX kY jY kZ xg DE NR NT P xh DF k6 qj qk jn jZ ql k7 k8 nK qm iO j0 lg gK gM j3 tN ly jo nL tO tP qq qt nM tQ tR xj nN qu lz jq iP tS iC jr eE iD gO iQ nO ju qv xm xo xq qw tT j7 Ig xr Ar NU:Addr}
 {NY FT FU FW B FY:Value} {NZ FZ:Option Addr} {Oa:Array (Option Value)} {q:Addr}
 {u:Addr} {Mt:Option Addr} {Ob:Nat} {Mu:Array (Option Value)}
 {Iv AB AD AE v AF:Value} {Iw AG:Option Addr} {Iz:Array (Option Value)} {n:Addr}
 {N:Addr} {GB:Option Addr} {IA:Nat} {GC:Array (Option Value)}
 {Q:Tok}
 {e:Addr}
 {i:Addr}
 {g:Addr}
 {j:Addr}
 {d:Addr}
 {f:Addr}
 {k:Addr}
 {a:Addr}
 {R:Addr}
 {E:Addr}
 {pW:Tok}
 {sq:Tok}
 {sr:Tok}
 {sA:Tok}
 {nY:Tok}
 {J:Addr} {JU:Option Addr} {Mv:Nat} {JV JW JX:Tok} {JY:Array (Option Value)}
 (E4:bF K mainGlobals "Letter" = some (some (.ref e)))
 (IC:bF K mainGlobals "ToOne" = some (some (.ref i)))
 (ID:bF K mainGlobals "ToAll" = some (some (.ref g)))
 (E5:bF K mainGlobals "Posted" = some (some (.ref j)))
 (Mw:bF K mainGlobals "Town" = some (some (.ref d)))
 (CJ:bF K mainGlobals "Strands" = some (some (.ref f)))
 (Mx:bF K mainGlobals "Book" = some (some (.ref k)))
 (QD:bF K mainGlobals "Net" = some (some (.ref a)))
 (vW:EM K k "__init__" "Book.__init__" vE kU)
 (yC:EM K k "learn" "Book.learn" x8 nG)
 (yD:EM K k "known" "Book.known" x9 nH)
 (yE:EM K k "notes" "Book.notes" ya nJ)
 (vX:EM K k "forget" "Book.forget" vF kW)
 (E6:EG K b "targets" "targets" ED w9)
 (CK:EG K b "ropes_on" "ropes_on" Cr tM)
 (qX:EM K e "__init__" "Letter.__init__" qK r)
 (t9:EM K e "meant" "Letter.meant" tw jW)
 (ua:EM K e "seeks" "Letter.seeks" tD S)
 (qY:EM K e "number" "Letter.number" qL z)
 (uc:EM K i "__init__" "ToOne.__init__" tE jX)
 (vY:EM K i "meant" "ToOne.meant" vG kX)
 (vZ:EM K i "seeks" "ToOne.seeks" vH kY)
 (ud:EM K i "number" "ToOne.number" tF jY)
 (wc:EM K g "meant" "ToAll.meant" vI kZ)
 (E7:EG K b "own_row" "own_row" EE xg)
 (My:EG K b "offer" "offer" L4 DE)
 (Wy:EG K b "due" "due" Wp NR)
 (Wz:EG K b "ups" "ups" Wq NT)
 (Mz:EG K b "opens" "opens" L5 P)
 (E8:EG K b "open_at" "open_at" EF xh)
 (MA:EG K b "up_of" "up_of" L6 DF)
 (we:EM K d "__init__" "Town.__init__" vJ k6)
 (AH:EM K d "name" "Town.name" z9 qj)
 (AI:EM K d "rope" "Town.rope" Aa qk)
 (qZ:EM K d "ropes_at" "Town.ropes_at" qM jn)
 (ue:EM K d "far_end" "Town.far_end" tG jZ)
 (AJ:EM K d "lets" "Town.lets" Ab ql)
 (wg:EG K b "check_names" "check_names" vK k7)
 (wk:EG K b "check_ropes" "check_ropes" vL k8)
 (yF:EG K b "check_rope" "check_rope" yb nK)
 (AK:EG K b "joins_two" "joins_two" Ac qm)
 (oZ:EM K f "__init__" "Strands.__init__" oU iO)
 (uf:EM K f "fall" "Strands.fall" tH j0)
 (wm:EM K f "lay" "Strands.lay" vM lg)
 (mH:EM K f "standing" "Strands.standing" mj gK)
 (mJ:EM K f "wire_for" "Strands.wire_for" mq gM)
 (ug:EM K f "live" "Strands.live" tK j3)
 (CL:EG K b "wires_of" "wires_of" Cs tN)
 (wo:EG K b "check_group" "check_group" vN ly)
 (rm:EM K j "__init__" "Posted.__init__" qN jo)
 (yG:EM K a "__init__" "Net.__init__" yc nL)
 (CM:EM K a "rows" "Net.rows" Ct tO)
 (CN:EM K a "live" "Net.live" Cu tP)
 (AL:EM K a "opens" "Net.opens" Ae qq)
 (AM:EM K a "notes" "Net.notes" Af qt)
 (yH:EM K a "row_at" "Net.row_at" yd nM)
 (CO:EM K a "call" "Net.call" Cv tQ)
 (CP:EM K a "fall" "Net.fall" Cw tR)
 (E9:EM K a "lay" "Net.lay" EH xj)
 (CQ:aG K (.ref a) "post" = some (some (.ref q)))
 (CS:PySem.W.isFn K (.ref q)=true)
 (CU:K.lookup q=some ⟨NY,NZ,.func (eK "post" "Net.post" (jF i6) (fT i6) (aB i6) (.ref u) FT FU FW FZ B FY),Oa⟩)
 (CV:jz K B "Net.post" = true)
 (yI:dU K (.ref q)=true)
 (AN:K.lookup u=some ⟨.type "tuple",Mt,.seq #[.none] Ob,Mu⟩)
 (yJ:EM K a "flying" "Net.flying" ye nN)
 (wu:aG K (.ref a) "pass_on" = some (some (.ref n)))
 (wz:PySem.W.isFn K (.ref n)=true)
 (wA:K.lookup n=some ⟨Iv,Iw,.func (eK "pass_on" "Net.pass_on" (jF fJ) (fT fJ) (aB fJ) (.ref N) AB AD AE AG v AF),Iz⟩)
 (wB:jz K v "Net.pass_on" = true)
 (pY:dU K (.ref n)=true)
 (uh:K.lookup N=some ⟨.type "tuple",GB,.seq #[.int 0 Q] IA,GC⟩)
 (AO:EM K a "story" "Net.story" Ag qu)
 (wC:EM K a "fate_of" "Net.fate_of" vO lz)
 (rz:EM K a "do_letter" "Net.do_letter" qO jq)
 (o6:EM K a "callers_at" "Net.callers_at" oV iP)
 (CY:EM K a "send" "Net.send" Cy tS)
 (oq:EM K a "lose_copies" "Net.lose_copies" nB iC)
 (rA:EM K a "take_news" "Net.take_news" qP jr)
 (iU:EM K a "take_news_of_rope" "Net.take_news_of_rope" iN eE)
 (ou:EM K a "check_house" "Net.check_house" nC iD)
 (mK:EM K a "check_caller" "Net.check_caller" mw gO)
 (pq:EM K a "check_pair" "Net.check_pair" oW iQ)
 (yK:EG K b "first_rows" "first_rows" yf nO)
 (rB:EG K b "check_callers" "check_callers" qQ ju)
 (AQ:EG K b "_law_cell_at" "_law_cell_at" Ah qv)
 (Fb:EG K b "_law_whole" "_law_whole" EI xm)
 (Fc:EG K b "_law_names" "_law_names" EJ xo)
 (Fd:EG K b "_law_ropes" "_law_ropes" EK xq)
 (AR:EG K b "_law_callers" "_law_callers" Ai qw)
 (CZ:EG K b "_law_rounds" "_law_rounds" Cz tT)
 (um:EG K b "_law_story_kind" "_law_story_kind" tL j7)
 (QE:EG K b "_law_to" "_law_to" Qw Ig)
 (Fe:EG K b "_law_wires" "_law_wires" EL xr)
 (IE:EG K b "_law_fall" "_law_fall" HP Ar)
 (WA:EG K b "law" "law" Wr NU)
 (M:EC K e)
 (pC:aG K (.ref e) "sender" = some none)
 (yM:aG K (.ref e) "to" = some none)
 (U:EC K i)
 (rC:aG K (.ref i) "sender" = some none)
 (AU:aG K (.ref i) "to" = some none)
 (Z:EC K g)
 (rD:aG K (.ref g) "sender" = some none)
 (AV:aG K (.ref g) "to" = some none)
 (L:EC K j)
 (pD:aG K (.ref j) "letter" = some none)
 (rE:aG K (.ref j) "group" = some none)
 (wD:aG K (.ref j) "old" = some none)
 (ow:aG K (.ref j) "done_at" = some none)
 (rF:aG K (.ref j) "deeds" = some none)
 (x:EC K d)
 (kM:aG K (.ref d) "house_names" = some none)
 (kN:aG K (.ref d) "rope_tuples" = some none)
 (yN:aG K (.ref d) "size" = some none)
 (yO:aG K (.ref d) "many" = some none)
 (y:EC K f)
 (rG:aG K (.ref f) "town" = some none)
 (mL:aG K (.ref f) "upright" = some none)
 (T:EC K k)
 (yP:aG K (.ref k) "kept" = some none)
 (O:EC K a)
 (AX:aG K (.ref a) "town" = some none)
 (uo:aG K (.ref a) "strands" = some none)
 (ki:aG K (.ref a) "rows_by_group" = some none)
 (yQ:aG K (.ref a) "books" = some none)
 (yR:aG K (.ref a) "homes" = some none)
 (wF:aG K (.ref a) "groups" = some none)
 (wG:aG K (.ref a) "handed" = some none)
 (uq:aG K (.ref a) "letters" = some none)
 (wH:aG K (.ref a) "copies" = some none)
 (ur:bF K mainGlobals "opens_opens" = some (some (.ref P)))
 (uu:aG K (.ref g) "seeks" = some (some (.ref S)))
 (rH:aG K (.ref g) "number" = some (some (.ref z)))
 (II:aG K (.ref g) "__init__" = some (some (.ref r)))
 (pF:PySem.W.specialIn K (.ref e) "__getattribute__" = some (some (.builtin "type.__getattribute__")))
 (pG:PySem.W.readsIn K e (.type "type")=true)
 (pH:PySem.W.findCls K (.ref e) (.type "type") "__init__" = some (.val (.ref r)))
 (Ff:bF K mainGlobals "NoWire" = some (some (.ref R)))
 (Fg:VM K R)
 (C0:bF K mainGlobals "NoGroup" = some (some (.ref E)))
 (C1:VM K E)
 (wI:bF K mainGlobals "MOST_HOUSES" = some (some (.int 10 pW)))
 (yS:bF K mainGlobals "MOST_ROPES" = some (some (.int 20 sq)))
 (yU:bF K mainGlobals "MOST_WIRES" = some (some (.int 4 sr)))
 (yV:bF K mainGlobals "ALL_GROUPS" = some (some (.int 7 sA)))
 (uv:bF K mainGlobals "MOST_CALLERS" = some (some (.int 20 nY)))
 (yW:bF K mainGlobals "GROUP_BITS" = some (some (.ref J)))
 (yX:K.lookup J=some ⟨.type "tuple",JU,.seq #[.int 1 JV,.int 2 JW,.int 4 JX] Mv,JY⟩)
 (WB:bF K mainGlobals "len" = some none)
 (yY:bF K mainGlobals "isinstance" = some none)
 (WC:bF K mainGlobals "int" = some none)
 (QF:bF K mainGlobals "bool" = some none)
 (QG:bF K mainGlobals "list" = some none)
 (MB:bF K mainGlobals "tuple" = some none)
 (MC:bF K mainGlobals "range" = some none)
 (AY:bF K mainGlobals "enumerate" = some none)
 (WD:bF K mainGlobals "min" = some none)
 (WE:bF K mainGlobals "set" = some none)
 (WG:bF K mainGlobals "str" = some none)
 (WH:bF K mainGlobals "all" = some none)
 (IJ:bF K mainGlobals "sorted" = some none):∃t,Txt K b t:=by
 obtain⟨pK,BR,BS⟩:=vW;obtain⟨rX,DR,MD⟩:=yC;obtain⟨rY,DS,ME⟩:=yD;obtain⟨rZ,DT,MF⟩:=yE;obtain⟨pL,BU,JZ⟩:=vX;obtain⟨Bp,K0,Uc⟩:=E6;obtain⟨yi,IK,QH⟩:=CK;obtain⟨lK,zk,s⟩:=qX;obtain⟨nP,AZ,IL⟩:=t9;obtain⟨nQ,A0,w⟩:=ua;obtain⟨lM,zl,I⟩:=qY;obtain⟨nR,A1,A2⟩:=uc;obtain⟨pM,BV,J0⟩:=vY;obtain⟨pN,BW,J1⟩:=vZ;obtain⟨nS,A3,IM⟩:=ud;obtain⟨pO,BX,J2⟩:=wc;obtain⟨Bq,K1,Ud⟩:=E7;obtain⟨GZ,RW,YN⟩:=My;obtain⟨RT,p,C⟩:=Wy;obtain⟨RU,o,A⟩:=Wz;obtain⟨G0,RX,YO⟩:=Mz;obtain⟨Br,K2,Ue⟩:=E8;obtain⟨G1,RY,YQ⟩:=MA;obtain⟨pP,BY,BZ⟩:=we;obtain⟨uU,F7,Od⟩:=AH;obtain⟨uV,Ga,Oe⟩:=AI;obtain⟨lN,zm,GD⟩:=qZ;obtain⟨nU,A4,IP⟩:=ue;obtain⟨uW,Gb,Of⟩:=AJ;obtain⟨pQ,Ca,J3⟩:=wg;obtain⟨pR,Cb,J4⟩:=wk;obtain⟨r6,DU,MG⟩:=yF;obtain⟨uX,Gc,Og⟩:=AK;obtain⟨kB,xC,xD⟩:=oZ;obtain⟨nV,A5,IQ⟩:=uf;obtain⟨pS,Cc,J6⟩:=wm;obtain⟨i7,ux,C2⟩:=mH;obtain⟨i8,uy,C3⟩:=mJ;obtain⟨nW,A6,IS⟩:=ug;obtain⟨yj,IT,QI⟩:=CL;obtain⟨pT,Cd,J7⟩:=wo;obtain⟨lO,zo,zp⟩:=rm;obtain⟨r8,DV,DW⟩:=yG;obtain⟨yk,IU,QJ⟩:=CM;obtain⟨yl,IV,QK⟩:=CN;obtain⟨uY,Gd,Oh⟩:=AL;obtain⟨uZ,Ge,Oi⟩:=AM;obtain⟨se,DY,MH⟩:=yH;obtain⟨ym,IW,QL⟩:=CO;obtain⟨yo,IX,QM⟩:=CP;obtain⟨Bs,K3,Ug⟩:=E9;have D:=RN (st:=i6) CU CV yI AN rfl;obtain⟨sf,DZ,MJ⟩:=yJ;have F:=RN (st:=fJ) wA wB pY uh rfl;obtain⟨u0,Gf,Oj⟩:=AO;obtain⟨pU,Ce,J8⟩:=wC;obtain⟨lP,zq,GF⟩:=rz;obtain⟨kC,xE,Fi⟩:=o6;obtain⟨yp,IY,QN⟩:=CY;obtain⟨jH,vj,D3⟩:=oq;obtain⟨lQ,zu,GG⟩:=rA;obtain⟨fU,mT,xF⟩:=iU;obtain⟨jI,vm,D4⟩:=ou;obtain⟨i9,uz,C4⟩:=mK;obtain⟨kD,xG,Fj⟩:=pq;obtain⟨sj,D5,MK⟩:=yK;obtain⟨lR,zv,GH⟩:=rB;obtain⟨vc,Gg,Ol⟩:=AQ;obtain⟨Bt,K4,Uh⟩:=Fb;obtain⟨Bu,K5,Ui⟩:=Fc;obtain⟨Bv,K6,Uj⟩:=Fd;obtain⟨vd,Gh,Om⟩:=AR;obtain⟨yq,IZ,QO⟩:=CZ;obtain⟨nX,A7,I0⟩:=um;obtain⟨Mn,WI,Y⟩:=QE;obtain⟨Bw,K7,Uk⟩:=Fe;obtain⟨DG,Oo,WK⟩:=IE;obtain⟨NV,l,V⟩:=WA;exact⟨⟨kU,nG,nH,nJ,kW,w9,tM,r,jW,S,z,jX,kX,kY,jY,kZ,xg,DE,NR,NT,P,xh,DF,k6,qj,qk,jn,jZ,ql,k7,k8,nK,qm,iO,j0,lg,gK,gM,j3,tN,ly,jo,nL,tO,tP,qq,qt,nM,tQ,tR,xj,nN,qu,lz,jq,iP,tS,iC,jr,eE,iD,gO,iQ,nO,ju,qv,xm,xo,xq,qw,tT,j7,Ig,xr,Ar,NU,pK,rX,rY,rZ,pL,Bp,yi,lK,nP,nQ,lM,nR,pM,pN,nS,pO,Bq,GZ,RT,RU,G0,Br,G1,pP,uU,uV,lN,nU,uW,pQ,pR,r6,uX,kB,nV,pS,i7,i8,nW,yj,pT,lO,r8,yk,yl,uY,uZ,se,ym,yo,Bs,sf,u0,pU,lP,kC,yp,jH,lQ,fU,jI,i9,kD,sj,lR,vc,Bt,Bu,Bv,vd,yq,nX,Mn,Bw,DG,NV,q,(eK "post" "Net.post" (jF i6) (fT i6) (aB i6) (.ref u) FT FU FW FZ B FY),n,(eK "pass_on" "Net.pass_on" (jF fJ) (fT fJ) (aB fJ) (.ref N) AB AD AE AG v AF),Q,e,i,g,j,d,f,k,a,R,E,pW,sq,sr,sA,nY,J⟩,⟨⟨BR,BR.binds λ_ _ _ _ _ _=>QC λ_=>rfl,⟨T.Z4,BS.at_,BS.fn,T.kc⟩⟩,
  ⟨DR,DR.binds λ_ _ _ _ _ _=>fO λ_ _ _ _=>rfl,MD⟩,
  ⟨DS,DS.binds λ_ _ _ _ _ _=>E2 λ_ _ _=>rfl,ME⟩,
  ⟨DT,DT.binds λ_ _ _ _ _ _=>QC λ_=>rfl,MF⟩,
  ⟨BU,BU.binds λ_ _ _ _ _ _=>QC λ_=>rfl,JZ⟩,
  ⟨K0,K0.binds λ_ _ _ _ _ _=>el6 λ_ _ _ _ _ _=>rfl,Uc⟩,
  ⟨IK,IK.binds λ_ _ _ _ _ _=>el6 λ_ _ _ _ _ _=>rfl,QH⟩,
  ⟨zk,zk.binds λ_ _ _ _ _ _=>El λ_ _=>rfl,⟨M.Z4,s.at_,s.fn,M.kc⟩⟩,
  ⟨AZ,AZ.binds λ_ _ _ _ _ _=>El λ_ _=>rfl,IL⟩,
  ⟨A0,A0.binds λ_ _ _ _ _ _=>QC λ_=>rfl,w⟩,
  ⟨zl,zl.binds λ_ _ _ _ _ _=>QC λ_=>rfl,I⟩,
  ⟨A1,A1.binds λ_ _ _ _ _ _=>E2 λ_ _ _=>rfl,⟨U.Z4,A2.at_,A2.fn,U.kc⟩⟩,
  ⟨BV,BV.binds λ_ _ _ _ _ _=>El λ_ _=>rfl,J0⟩,
  ⟨BW,BW.binds λ_ _ _ _ _ _=>QC λ_=>rfl,J1⟩,
  ⟨A3,A3.binds λ_ _ _ _ _ _=>QC λ_=>rfl,IM⟩,
  ⟨BX,BX.binds λ_ _ _ _ _ _=>El λ_ _=>rfl,J2⟩,
  ⟨K1,K1.binds λ_ _ _ _ _ _=>El λ_ _=>rfl,Ud⟩,
  ⟨RW,RW.binds λ_ _ _ _ _ _=>E2 λ_ _ _=>rfl,YN⟩,
  ⟨p,p.binds λ_ _ _ _ _ _=>fO λ_ _ _ _=>rfl,C⟩,
  ⟨o,o.binds λ_ _ _ _ _ _=>E2 λ_ _ _=>rfl,A⟩,
  ⟨RX,RX.binds λ_ _ _ _ _ _=>E2 λ_ _ _=>rfl,YO⟩,
  ⟨K2,K2.binds λ_ _ _ _ _ _=>fO λ_ _ _ _=>rfl,Ue⟩,
  ⟨RY,RY.binds λ_ _ _ _ _ _=>fO λ_ _ _ _=>rfl,YQ⟩,
  ⟨BY,BY.binds λ_ _ _ _ _ _=>E2 λ_ _ _=>rfl,⟨x.Z4,BZ.at_,BZ.fn,x.kc⟩⟩,
  ⟨F7,F7.binds λ_ _ _ _ _ _=>El λ_ _=>rfl,Od⟩,
  ⟨Ga,Ga.binds λ_ _ _ _ _ _=>El λ_ _=>rfl,Oe⟩,
  ⟨zm,zm.binds λ_ _ _ _ _ _=>El λ_ _=>rfl,GD⟩,
  ⟨A4,A4.binds λ_ _ _ _ _ _=>E2 λ_ _ _=>rfl,IP⟩,
  ⟨Gb,Gb.binds λ_ _ _ _ _ _=>E2 λ_ _ _=>rfl,Of⟩,
  ⟨Ca,Ca.binds λ_ _ _ _ _ _=>QC λ_=>rfl,J3⟩,
  ⟨Cb,Cb.binds λ_ _ _ _ _ _=>El λ_ _=>rfl,J4⟩,
  ⟨DU,DU.binds λ_ _ _ _ _ _=>El λ_ _=>rfl,MG⟩,
  ⟨Gc,Gc.binds λ_ _ _ _ _ _=>E2 λ_ _ _=>rfl,Og⟩,
  ⟨xC,xC.binds λ_ _ _ _ _ _=>El λ_ _=>rfl,⟨y.Z4,xD.at_,xD.fn,y.kc⟩⟩,
  ⟨A5,A5.binds λ_ _ _ _ _ _=>E2 λ_ _ _=>rfl,IQ⟩,
  ⟨Cc,Cc.binds λ_ _ _ _ _ _=>E2 λ_ _ _=>rfl,J6⟩,
  ⟨ux,ux.binds λ_ _ _ _ _ _=>El λ_ _=>rfl,C2⟩,
  ⟨uy,uy.binds λ_ _ _ _ _ _=>E2 λ_ _ _=>rfl,C3⟩,
  ⟨A6,A6.binds λ_ _ _ _ _ _=>El λ_ _=>rfl,IS⟩,
  ⟨IT,IT.binds λ_ _ _ _ _ _=>El λ_ _=>rfl,QI⟩,
  ⟨Cd,Cd.binds λ_ _ _ _ _ _=>QC λ_=>rfl,J7⟩,
  ⟨zo,zo.binds λ_ _ _ _ _ _=>E2 λ_ _ _=>rfl,⟨L.Z4,zp.at_,zp.fn,L.kc⟩⟩,
  ⟨DV,DV.binds λ_ _ _ _ _ _=>E2 λ_ _ _=>rfl,⟨O.Z4,DW.at_,DW.fn,O.kc⟩⟩,
  ⟨IU,IU.binds λ_ _ _ _ _ _=>El λ_ _=>rfl,QJ⟩,
  ⟨IV,IV.binds λ_ _ _ _ _ _=>El λ_ _=>rfl,QK⟩,
  ⟨Gd,Gd.binds λ_ _ _ _ _ _=>El λ_ _=>rfl,Oh⟩,
  ⟨Ge,Ge.binds λ_ _ _ _ _ _=>El λ_ _=>rfl,Oi⟩,
  ⟨DY,DY.binds λ_ _ _ _ _ _=>E2 λ_ _ _=>rfl,MH⟩,
  ⟨IW,IW.binds λ_ _ _ _ _ _=>E2 λ_ _ _=>rfl,QL⟩,
  ⟨IX,IX.binds λ_ _ _ _ _ _=>E2 λ_ _ _=>rfl,QM⟩,
  ⟨K3,K3.binds λ_ _ _ _ _ _=>E2 λ_ _ _=>rfl,Ug⟩,
  D,
  (D.binds (ps:=["self","sender","to"]) (ds:=[.none]) (m:=2) rfl λ_ _ _ _ _ _ _=>El λ_ _=>⟨_,rfl,rfl⟩),
  (D.binds (ps:=["self","sender","to"]) (ds:=[]) (m:=3) rfl λ_ _ _ _ _ _ _=>E2 λ_ _ _=>⟨_,rfl,rfl⟩),
  ⟨CQ,CS,yI⟩,
  ⟨DZ,DZ.binds λ_ _ _ _ _ _=>QC λ_=>rfl,MJ⟩,
  F,
  (F.binds (ps:=["self","at"]) (ds:=[.int 0 Q]) (m:=1) rfl λ_ _ _ _ _ _ _=>QC λ_=>⟨_,rfl,rfl⟩),
  (F.binds (ps:=["self","at"]) (ds:=[]) (m:=2) rfl λ_ _ _ _ _ _ _=>El λ_ _=>⟨_,rfl,rfl⟩),
  ⟨wu,wz,pY⟩,
  ⟨Gf,Gf.binds λ_ _ _ _ _ _=>El λ_ _=>rfl,Oj⟩,
  ⟨Ce,Ce.binds λ_ _ _ _ _ _=>fO λ_ _ _ _=>rfl,J8⟩,
  ⟨zq,zq.binds λ_ _ _ _ _ _=>fO λ_ _ _ _=>rfl,GF⟩,
  ⟨xE,xE.binds λ_ _ _ _ _ _=>E2 λ_ _ _=>rfl,Fi⟩,
  ⟨IY,IY.binds λ_ _ _ _ _ _=>fO λ_ _ _ _=>rfl,QN⟩,
  ⟨vj,vj.binds λ_ _ _ _ _ _=>E2 λ_ _ _=>rfl,D3⟩,
  ⟨zu,zu.binds λ_ _ _ _ _ _=>El λ_ _=>rfl,GG⟩,
  ⟨mT,mT.binds λ_ _ _ _ _ _=>El λ_ _=>rfl,xF⟩,
  ⟨vm,vm.binds λ_ _ _ _ _ _=>El λ_ _=>rfl,D4⟩,
  ⟨uz,uz.binds λ_ _ _ _ _ _=>El λ_ _=>rfl,C4⟩,
  ⟨xG,xG.binds λ_ _ _ _ _ _=>E2 λ_ _ _=>rfl,Fj⟩,
  ⟨D5,D5.binds λ_ _ _ _ _ _=>QC λ_=>rfl,MK⟩,
  ⟨zv,zv.binds λ_ _ _ _ _ _=>El λ_ _=>rfl,GH⟩,
  ⟨Gg,Gg.binds λ_ _ _ _ _ _=>El λ_ _=>rfl,Ol⟩,
  ⟨K4,K4.binds λ_ _ _ _ _ _=>QC λ_=>rfl,Uh⟩,
  ⟨K5,K5.binds λ_ _ _ _ _ _=>El λ_ _=>rfl,Ui⟩,
  ⟨K6,K6.binds λ_ _ _ _ _ _=>E2 λ_ _ _=>rfl,Uj⟩,
  ⟨Gh,Gh.binds λ_ _ _ _ _ _=>E2 λ_ _ _=>rfl,Om⟩,
  ⟨IZ,IZ.binds λ_ _ _ _ _ _=>E2 λ_ _ _=>rfl,QO⟩,
  ⟨A7,A7.binds λ_ _ _ _ _ _=>QC λ_=>rfl,I0⟩,
  ⟨WI,WI.binds λ_ _ _ _ _ _=>E2 λ_ _ _=>rfl,Y⟩,
  ⟨K7,K7.binds λ_ _ _ _ _ _=>E2 λ_ _ _=>rfl,Uk⟩,
  ⟨Oo,Oo.binds λ_ _ _ _ _ _=>fO λ_ _ _ _=>rfl,WK⟩,
  ⟨l,l.binds λ_ _ _ _ _ _=>QC λ_=>rfl,V⟩,
  M.c,
  (cX X G E4),
  pC,
  yM,
  U.c,
  (cX X G IC),
  rC,
  AU,
  Z.c,
  (cX X G ID),
  rD,
  AV,
  L.c,
  (cX X G E5),
  pD,
  rE,
  wD,
  ow,
  rF,
  x.c,
  (cX X G Mw),
  kM,
  kN,
  yN,
  yO,
  y.c,
  (cX X G CJ),
  rG,
  mL,
  T.c,
  (cX X G Mx),
  yP,
  O.c,
  (cX X G QD),
  AX,
  uo,
  ki,
  yQ,
  yR,
  wF,
  wG,
  uq,
  wH,
  (cX X G ur),
  ⟨uu,w.fn,w.kp⟩,
  ⟨rH,I.fn,I.kp⟩,
  ⟨Z.Z4,II,s.fn,Z.kc⟩,
  ⟨pF,pG,pH,s.kp⟩,
  (cX X G Ff),
  Fg,
  (cX X G C0),
  C1,
  (cX X G wI),
  (cX X G yS),
  (cX X G yU),
  (cX X G yV),
  (cX X G uv),
  (cX X G yW),
  (λH=>.inr ⟨_,_,_,yX,rfl,rfl,iT,(.cons ⟨_,rfl⟩ (.cons ⟨_,rfl⟩ (.cons ⟨_,rfl⟩ .nil)))⟩),
  (cQ X G WB),
  (cQ X G yY),
  (cQ X G WC),
  (cQ X G QF),
  (cQ X G QG),
  (cQ X G MB),
  (cQ X G MC),
  (cQ X G AY),
  (cQ X G WD),
  (cQ X G WE),
  (cQ X G WG),
  (cQ X G WH),
  (cQ X G IJ)⟩⟩
end fQ
namespace fQ
open PySem L2 TW PyProof.Rows
open RM (c5 lJ bu be)
seal L2.PE L2.PA L2.PT L2.PW L2.PS L2.jk L2.PG L2.m6 L2.PI L2.m9
theorem bh{CX:SW}{P:Program}{w:World}{K:af}{d:Str->Option Value}{base:Heap}{N:List Str}{b:Str}{scope:Scope}{f:Addr}{c:Value}{A:Around}{a:List Env}{s:Shared}{H:Hp}{E:XK}:(oM CX P w K d base N b scope f c A a s H E).K=K:=rfl
local macro_rules|`(tactic|left)=>`(tactic|try dsimp only[bh])
section
variable{P:Program}{w:World}{K:af}{mg:Str->Option Value}{base:Heap}
inductive RZ(vs:List V)(H:Hp)(Q:VK)(E:XK):Prop
 |mk (i:Int):vs=[.int i]->Q (.bl true) H->RZ  vs H Q E
theorem QS{t:Ad}(T:Txt K mg t):b6 P w K mg base iH 1 t.xm t.Bt ["_law_found"]  RZ:=by
 refine T.KW.F.jJ Qy λH Q E a h=>?_
 ·obtain⟨i,rfl,k⟩:=h
  refine⟨_,(oR (Py (cB Hq T.oj boot_isinstance (oA (pv 0) (Df rfl T.Wx boot_int (v:=.ty "int") rfl))) (UW (UX (cB Hq T.oj boot_isinstance (oA (pv 0) (Df rfl T.abT boot_bool (v:=.ty "bool") rfl))))))),?_⟩
  left
  refine⟨_,rfl,_,_,_,_,rfl,.int _,rfl,_,rfl,fF ?_⟩;refine⟨_,rfl,_,_,_,_,rfl,.int _,rfl,_,rfl,?_⟩;exact k
inductive WL(K:af)(vs:List V)(H:Hp)(Q:VK)(E:XK):Prop
 |mk (a:Addr) (ns:List Int) (k:Int):vs=[.ref a,.int k]->bK K H a (ns.map V.int)->0<=k->Q (.int (ns.getD k.toNat 0)) H->WL K vs H Q E
theorem gp{t:Ad}(T:Txt K mg t):b6 P w K mg base iH 1 t.qv t.vc ["_law_script","_law_k"]  (WL K):=by
 refine T.gq.F.jJ Mg λH Q E g h=>?_
 ·obtain⟨a,ns,i,rfl,d,f,k⟩:=h
  refine⟨_,(ak (b4 (qT rM (pv 1) (lS T.gR (pv 0))) (oR (xL (pv 0) (pv 1))) aW) (oR aA)),?_⟩
  left
  refine⟨_,rfl,_,rfl,a,_,rfl,.inl d,_,_,rfl,rfl,_,rfl,?_⟩;refine jC (λc=>?_) (λc=>?_)
  ·have b:i<ns.length:=by simpa using c
   refine⟨_,rfl,_,rfl,a,_,_,_,rfl,rfl,d,VF f b,k⟩
  ·have b:¬i<ns.length:=by simpa using c
   have e:ns.getD i.toNat 0=0:=by
    rw[aq,jj ∅];rfl
   rw[e] at k;exact k
inductive R0(vs:List V)(H:Hp)(Q:VK)(E:XK):Prop
 |mk (n a b:Int):vs=[.int n,.int a,.int b]->0<=a->a<n->0<=b->b<n->a≠b->Q (.bl true) H->R0  vs H Q E
theorem ML{t:Ad}(T:Txt K mg t):b6 P w K mg base iH 1 t.qm t.uX ["size","one","other"]  R0:=by
 refine T.FO.F.jJ Mb λH Q E i h=>?_
 ·obtain⟨n,a,b,rfl,g,c,e,f,d,k⟩:=h
  refine⟨_,(oR (Py (M4 qe rM aA (pv 1) (pv 0)) (Py (M4 qe rM aA (pv 2) (pv 0)) (UW (qE qd (pv 1) (pv 2)))))),?_⟩
  left
  refine⟨_,rfl,_,_,rfl,rfl,_,rfl,?_⟩;rw[eH g];refine fF ⟨_,rfl,_,_,rfl,rfl,_,rfl,?_⟩;rw[eH c];refine fF ⟨_,rfl,_,_,rfl,rfl,_,rfl,?_⟩;rw[eH e];refine fF ⟨_,rfl,_,_,rfl,rfl,_,rfl,?_⟩;rw[eH f];refine fF ⟨_,rfl,_,rfl,rfl,?_⟩;rw[eL (λz=>d (V.int.inj z))];exact k
inductive Gi(K:af)(vs:List V)(H:Hp)(Q:VK)(E:XK):Prop
 |mk (n:Int) (p:Addr) (a b c d e:Int):vs=[.int n,.ref p]->cW K H p (aej a b c d e)->VO n a b c d e->Q .fE H->Gi K vs H Q E
theorem J9{t:Ad}(T:Txt K mg t):b6 P w K mg base iH 2 t.nK t.r6 ["size","rope"]  (Gi K):=by
 refine T.DK.F.jJ JM λH Q E o h=>?_
 ·obtain⟨n,p,a,b,c,d,e,rfl,f,i,k⟩:=h
  obtain⟨x,q,j,r,u,y,l,s,m,g⟩:=i;refine⟨_,(ak (b4 (qT qd (lS T.gR (pv 1)) aA) dJ aW) (ak (b4 (gY (jB (cG (ML T) o T.FO (HN (pv 0) (xT (pv 1) aA) (xT (pv 1) aA))))) dJ aW) (ak (b4 (qT rM (xT (pv 1) aA) aA) dJ aW) (ak (b4 (gY (jl qe qe aA (xT (pv 1) aA) (lH rfl T.Mr (v:=.int 4) ⟨_,rfl⟩))) dJ aW) (br (b4 (gY (jl qe qe aA (xT (pv 1) aA) (lH rfl T.Ms (v:=.int 7) ⟨_,rfl⟩))) dJ aW)))))),?_⟩
  left
  refine⟨_,rfl,p,_,rfl,.inr f,rfl,_,rfl,dQ ?_⟩;refine⟨_,rfl,_,rfl,p,_,_,_,rfl,rfl,f,rfl,_,rfl,p,_,_,_,rfl,rfl,f,rfl,?_⟩;refine⟨_,_,_,rfl,x,q,j,r,u,_,rfl,dQ ?_⟩;refine⟨_,rfl,p,_,_,_,rfl,rfl,f,rfl,_,_,rfl,rfl,_,rfl,?_⟩;rw[eL (show ¬c<1 by lia)];refine dQ ?_;refine⟨_,rfl,p,_,_,_,rfl,rfl,f,rfl,_,_,rfl,rfl,_,rfl,?_⟩;rw[eH l];refine fF ?_;refine⟨_,_,rfl,rfl,_,rfl,?_⟩;rw[eH s];refine dQ ?_;refine⟨_,rfl,p,_,_,_,rfl,rfl,f,rfl,_,_,rfl,rfl,_,rfl,?_⟩;rw[eH m];refine fF ?_;refine⟨_,_,rfl,rfl,_,rfl,?_⟩;rw[eH g];refine dQ ?_;exact k
inductive D6(K:af)(vs:List V)(H:Hp)(Q:VK)(E:XK):Prop
 |mk (n:Int) (l:Addr) (rs:List R5):vs=[.int n,.ref l]->Hv K H l rs->rs.length<=20->(∀r∈rs,r.Ok n)->Q .fE H->D6 K vs H Q E
theorem Ja{t:Ad}(T:Txt K mg t):b6 P w K mg base iH 3 t.k8 t.pR ["size","ropes"]  (D6 K):=by
 refine T.BP.F.jJ Aj λH Q E r h=>?_
 ·obtain⟨n,l,g,rfl,z,A,q,k⟩:=h
  obtain⟨d,f,B,u⟩:=z.at;refine⟨_,(ak (b4 (qT Rj (lS T.gR (pv 1)) (lH rfl T.Mq (v:=.int 20) ⟨_,rfl⟩)) dJ aW) (br (fS (gj (pv 1)) (gT 2 Aj) (oE (cG (J9 T) r T.DK (oA (pv 0) (pv 2))))))),?_⟩
  left
  refine⟨_,rfl,l,_,rfl,.inl f,_,_,rfl,rfl,_,rfl,?_⟩;rw[eL (show ¬(20:Int)<d.length by lia)];refine dQ ?_;refine⟨_,rfl,l,rfl,⟨_,f⟩,sO (K:=K) (a:=l) (xs:=d) (λi b c=>c=H/\∃v,b=[some (.int n),some (.ref l),v]) ⟨rfl,_,rfl⟩ (λi b c _ ⟨e,_⟩=>by rw[e];exact f) ?_ ?_⟩
  ·rintro i y b c j ⟨rfl,v,rfl⟩
   have x:i<d.length:=(ai.mp j).1;have m:g[i]?=some g[i]:=-_
   obtain⟨p,o,s⟩:=u i _ m;rw[j] at o;cases o;refine⟨_,rfl,_,rfl,n,p,_,_,_,_,_,rfl,s,q _ (aU m),rfl,_,rfl⟩
  ·rintro b c ⟨rfl,v,rfl⟩
   exact k
inductive D7(K:af)(vs:List V)(H:Hp)(Q:VK)(E:XK):Prop
 |mk (l:Addr) (ns:List Int):vs=[.ref l]->bK K H l (ns.map V.int)->1<=ns.length->ns.length<=10->(∀n∈ns,0<=n)->ns.Nodup->(∀H',aD H H'->Q .fE H')->D7 K vs H Q E
theorem Jb{t:Ad}(T:Txt K mg t):b6 P w K mg base iH 1 t.k7 t.pQ ["names"]  (D7 K):=by
 refine T.BO.F.jJ Ia λH Q E n h=>?_
 ·obtain⟨l,ns,rfl,a,r,q,d,f,k⟩:=h
  refine⟨_,(ak (b4 (gY (jl qe qe aA (lS T.gR (pv 0)) (lH rfl T.JT (v:=.int 10) ⟨_,rfl⟩))) dJ aW) (ak (b4 (qT rM (cB (Th rfl) T.aeI boot_min (fY (pv 0))) aA) dJ aW) (br (b4 (qT qd (cB Tg T.gR PySem.boot_len (fY (gu (Tf rfl) (by rfl) T.aeJ boot_set (fY (pv 0))))) (lS T.gR (pv 0))) dJ aW)))),?_⟩
  left
  refine⟨_,rfl,l,_,rfl,.inl a,_,_,rfl,rfl,_,rfl,?_⟩;rw[eH (show (1:Int)<=(ns.map V.int).length by rw[ah];lia)];refine fF ?_;refine⟨_,_,rfl,rfl,_,rfl,?_⟩;rw[eH (show ((ns.map V.int).length:Int)<=10 by rw[ah];lia)];refine dQ ?_;refine⟨_,rfl,l,ns,rfl,a,∅,λm c g=>?_⟩;refine⟨_,_,rfl,rfl,_,rfl,?_⟩;rw[eL (show ¬m<0 by have:=d m c;lia)];refine dQ ?_;refine⟨_,rfl,l,ns,rfl,a,bG (show ns.length+1<100 by lia) (!_),λp b=>?_⟩;have e:=aD.new (o:=.set (λj=>(firstMet (λi=>ns.getD i 0) ns.length).any (·==j)) (firstMet (λi=>ns.getD i 0) ns.length).length) b;refine⟨p,_,_,rfl,av,_,rfl,l,_,rfl,.inl (e.seq a),rfl,_,rfl,?_⟩;rw[Hw ns f,ah];simp only[decide_true,Bool.not_true];refine dQ ?_;exact k _ (aD.new b)
inductive WM(K:af)(C:Addr)(vs:List V)(H:Hp)(Q:VK)(E:XK):Prop
 |mk (p dx l1 l2:Addr) (ns:List Int) (rs:List R5):vs=[.ref p,.ref l1,.ref l2]->H p=some (.ins C dx [])->bK K H l1 (ns.map V.int)->Hv K H l2 rs->1<=ns.length->ns.length<=10->(∀n∈ns,0<=n)->ns.Nodup->rs.length<=20->(∀r∈rs,r.Ok ns.length)->(∀ln lr H',H ln=none->H lr=none->cY K C H' p ln lr ns rs->(∀b o,H b=some o->b≠p->H' b=some o)->Q .fE H')->WM K C vs H Q E
theorem Jc{t:Ad}(T:Txt K mg t):b6 P w K mg base iH 4 t.k6 t.pP ["self","names","ropes"]  (WM K t.aV):=by
 refine T.BN.F.jJ HZ λH Q E hr h=>?_
 ·obtain⟨p,f,z,y,ns,rs,rfl,hp,S,hR,h1,h2,h3,h4,h5,h6,k⟩:=h
  refine⟨_,(ak (fq (cG (Jb T) hr T.BO (fY (pv 1)))) (ak (fq (cG (Ja T) hr T.BP (oA (lS T.gR (pv 1)) (pv 2)))) (ak (fN (pv 0) (gu iy (by rfl) T.vU boot_list (fY (pv 1))) rfl) (ak (fN (pv 0) (gu iy (by rfl) T.vU boot_list (fY (pv 2))) rfl) (ak (fN (pv 0) (lS T.gR (pv 1)) rfl) (br (fN (pv 0) (lS T.gR (pv 2)) rfl))))))),?_⟩
  left
  refine⟨_,rfl,z,ns,rfl,S,h1,h2,h3,h4,λZ r=>?_⟩;refine⟨_,rfl,z,_,rfl,.inl (r.seq S),?_⟩;refine⟨_,rfl,(ns.length:Int),y,rs,-_,hR.mono r,h5,h6,?_⟩;have d:=r _ _ hp;have O:=hR.mono r;have C:=r.seq S;obtain⟨_,c,e,hq,UI⟩:=id O;cases e;refine⟨_,rfl,z,_,rfl,.inl C,λi hn=>?_⟩;have l:p≠i:=aH d hn;have s2:=aD.new (o:=.lst (ns.map V.int)) hn;refine⟨_,rfl,p,_,f,[],rfl,s2 _ _ d,T.fj,T.tZ,!_,?_⟩;rw[dD (names:=[]) rfl rfl];generalize m:upd (upd Z i (.lst (ns.map V.int))) p (.ins t.aV f ([]++[(Str.ofString "house_names",V.ref i)]))=H2;have A:∀b o,Z b=some o->b≠p->H2 b=some o:=λb o e a=>by rw[<- m,aF a];exact s2 _ _ e
  have g:H2 p=some (.ins t.aV f [(Str.ofString "house_names",V.ref i)]):=by rw[<- m];exact av
  have W:H2 i=some (.lst (ns.map V.int)):=by rw[<- m,aF (bP l),av]
  have fr2:∀{b:Addr},Z b=none->b≠p->b≠i->H2 b=none:=λ{b} e n1 n2=>by rw[<- m,aF n1,aF n2];exact e
  have R:bK K H2 z (ns.map V.int):=Bh (λb o e a=>A b o e a) d C;have G:bK K H2 y c:=Bh (λb o e a=>A b o e a) d hq;have N:cH K H2 (rs.map R5.D) c:=jS (λb o e a=>A b o e a) d UI;refine⟨_,rfl,y,_,rfl,.inl G,λj x=>?_⟩;have n:p≠j:=aH g x;have s3:=aD.new (o:=.lst c) x;refine⟨_,rfl,p,_,f,_,rfl,s3 _ _ g,T.fj,T.gQ,(by show 1<1000;decide),?_⟩;rw[dD (names:=["house_names"]) rfl (by decide +kernel)];generalize v:upd (upd H2 j (.lst c)) p (.ins t.aV f ([(Str.ofString "house_names",V.ref i)]++[(Str.ofString "rope_tuples",V.ref j)]))=H3;have J:∀b o,H2 b=some o->b≠p->H3 b=some o:=λb o e a=>by rw[<- v,aF a];exact s3 _ _ e
  have s:H3 p=some (.ins t.aV f [(Str.ofString "house_names",V.ref i),(Str.ofString "rope_tuples",V.ref j)]):=by rw[<- v];exact av
  have X:H3 j=some (.lst c):=by rw[<- v,aF (bP n),av]
  have U:=J _ _ W (bP l);have M:bK K H3 z (ns.map V.int):=Bh J g R;have UJ:bK K H3 y c:=Bh J g G;have Y:cH K H3 (rs.map R5.D) c:=jS J g N;refine⟨_,rfl,z,_,rfl,.inl M,_,rfl,p,_,f,_,rfl,s,T.fj,T.mS,(by show 2<1000;decide),?_⟩;rw[dD (names:=["house_names","rope_tuples"]) rfl (by decide +kernel)];generalize I:upd H3 p (.ins t.aV f ([(Str.ofString "house_names",V.ref i),(Str.ofString "rope_tuples",V.ref j)]++[(Str.ofString "size",V.int ((ns.map V.int).length:Nat))]))=H4;have B:∀b o,H3 b=some o->b≠p->H4 b=some o:=λb o e a=>by rw[<- I,aF a];exact e
  have UK:H4 p=some (.ins t.aV f [(Str.ofString "house_names",V.ref i),(Str.ofString "rope_tuples",V.ref j),(Str.ofString "size",V.int ((ns.map V.int).length:Nat))]):=by rw[<- I];exact av
  have UL:bK K H4 y c:=Bh B s UJ;have ahT:cH K H4 (rs.map R5.D) c:=jS B s Y;refine⟨_,rfl,y,_,rfl,.inl UL,_,rfl,p,_,f,_,rfl,UK,T.fj,T.vh,(by show 3<1000;decide),?_⟩;rw[dD (names:=["house_names","rope_tuples","size"]) rfl (by decide +kernel)];have L:∀b o,H4 b=some o->b≠p->∀u,(upd H4 p u) b=some o:=λb o e a u=>by rw[aF a];exact e
  have S9:c.length=rs.length:=by rw[UI.length,ah]
  refine k i j _ (r.free hn) ?_ ⟨⟨f,?_⟩,?_,c,?_,jS (λb o e a=>L b o e a _) UK ahT⟩ ?_
  ·cases q:H j with
   |none=>rfl
   |some o =>
    have:=A j o (r _ _ q) (λe=>n e.symm)
    rw[x] at this;cases this
  ·rw[av,S9,ah]
   rfl
  ·exact L _ _ (B _ _ U (bP l)) (bP l) _
  ·exact L _ _ (B _ _ X (bP n)) (bP n) _
  ·exact λb o e a=>L _ _ (B _ _ (J _ _ (A _ _ (r _ _ e) a) a) a) a _
inductive WN(K:af)(C:Addr)(vs:List V)(H:Hp)(Q:VK)(E:XK):Prop
 |mk (p ln lr:Addr) (ns:List Int) (rs:List R5) (i:Nat) (n:Int):vs=[.ref p,.int i]->cY K C H p ln lr ns rs->ns[i]?=some n->Q (.int n) H->WN K C vs H Q E
theorem MM{t:Ad}(T:Txt K mg t):b6 P w K mg base iH 1 t.qj t.uU ["self","house"]  (WN K t.aV):=by
 refine T.FN.F.jJ L7 λH Q E m h=>?_
 ·obtain⟨p,g,j,r,l,i,n,rfl,b,c,k⟩:=h
  obtain⟨⟨f,e⟩,a,o,d,q⟩:=id b;refine⟨_,(oR (xL (aR (pv 0) rfl) (pv 1))),?_⟩
  left
  refine⟨_,rfl,p,_,f,_,_,rfl,e,T.fj,T.tZ,rfl,_,rfl,g,_,_,_,rfl,rfl,bK.of a,dX (v:=V.int n) (by rw[aj,c];rfl),k⟩
inductive WO(K:af)(C:Addr)(vs:List V)(H:Hp)(Q:VK)(E:XK):Prop
 |mk (p ln lr:Addr) (ns:List Int) (rs:List R5) (i:Nat) (r:R5):vs=[.ref p,.int i]->cY K C H p ln lr ns rs->rs[i]?=some r->(∀q,H q=some (.tup r.vs)∨cW K H q r.vs->Q (.ref q) H)->WO K C vs H Q E
theorem D8{t:Ad}(T:Txt K mg t):b6 P w K mg base iH 1 t.qk t.uV ["self","number"]  (WO K t.aV):=by
 refine T.Av.F.jJ L8 λH Q E x h=>?_
 ·obtain⟨p,z,c,ns,u,i,r,rfl,b,f,k⟩:=h
  obtain⟨⟨n,l⟩,s,y,a,o⟩:=id b;obtain⟨v,j,m⟩:=o.get (i:=i) (d:=r.D) (by rw[aj,f];rfl);obtain⟨q,e,g⟩:=Rep.zS (ns:=r.ns) m;subst e;refine⟨_,(oR (xL (aR (pv 0) rfl) (pv 1))),?_⟩
  left
  exact⟨_,rfl,p,_,n,_,_,rfl,l,T.fj,T.gQ,rfl,_,rfl,c,_,_,_,rfl,rfl,bK.of a,dX j,k q (.inr g)⟩
inductive aaf(K:af)(C:Addr)(vs:List V)(H:Hp)(Q:VK)(E:XK):Prop
 |mk (p ln lr:Addr) (ns:List Int) (rs:List R5) (i:Nat) (r:R5) (h:Int):vs=[.ref p,.int i,.int h]->cY K C H p ln lr ns rs->rs[i]?=some r->Q (.int (if h=r.a then r.b else r.a)) H->aaf K C vs H Q E
theorem rK{t:Ad}(T:Txt K mg t):b6 P w K mg base iH 1 t.jZ t.nU ["self","rope","house"]  (aaf K t.aV):=by
 refine T.n9.F.jJ zf λH Q E B h=>?_
 ·obtain⟨p,G,l,ns,A,i,r,x,rfl,j,m,k⟩:=h
  obtain⟨⟨u,o⟩,z,C,f,y⟩:=id j;obtain⟨v,n,s⟩:=y.get (i:=i) (d:=r.D) (by rw[aj,m];rfl);obtain⟨q,e,b⟩:=Rep.zS (ns:=r.ns) s;subst e;refine⟨_,(ak (sS 3 zf (xL (aR (pv 0) rfl) (pv 1))) (oR (zK (qT wO (pv 2) (xT (pv 3) aA)) (xT (pv 3) aA) (xT (pv 3) aA)))),?_⟩
  left
  refine⟨_,rfl,p,_,u,_,_,rfl,o,T.fj,T.gQ,rfl,_,rfl,l,_,_,_,rfl,rfl,bK.of f,dX n,?_⟩;refine⟨_,rfl,_,rfl,q,_,_,_,rfl,rfl,b,rfl,rfl,_,rfl,?_⟩;refine jC (λc=>?_) (λc=>?_)
  ·have g:x=r.a:=by simpa using c
   rw[b3 g] at k;exact⟨_,rfl,q,_,_,_,rfl,rfl,b,rfl,k⟩
  ·have g:¬x=r.a:=by simpa using c
   rw[b5 g] at k;exact⟨_,rfl,q,_,_,_,rfl,rfl,b,rfl,k⟩
inductive aeQ(K:af)(C:Addr)(vs:List V)(H:Hp)(Q:VK)(E:XK):Prop
 |mk (p ln lr:Addr) (ns:List Int) (rs:List R5) (h:Int):vs=[.ref p,.int h]->cY K C H p ln lr ns rs->rs.length<=20->(∀l H',aD H H'->H l=none->H' l=some (.lst (bC (UG rs h rs.length)))->Q (.ref l) H')->aeQ K C vs H Q E
theorem pI{t:Ad}(T:Txt K mg t):b6 P w K mg base iH 1 t.jn t.lN ["self","house"]  (aeQ K t.aV):=by
 refine T.lU.F.jJ wY λH Q E hr h=>?_
 ·obtain⟨p,ln,Z,ns,rs,x,rfl,Y,zF,k⟩:=h
  obtain⟨⟨dx,hp⟩,hn,A,j,W⟩:=id Y;have I:A.length=rs.length:=by rw[W.length,ah]
  refine⟨_,(oR (gU (kO wY ["number","rope","house"] [none,none,some 1]) rfl (RC rfl T.FQ (fY (aR (pv 0) rfl))) (λ_ _ _ _=>by exact (RD K rfl (n:=2) rfl (wM (gS 0 rN) (wM (gS 1 rN) Lx)))) (λ_ _ _ _=>by exact (lI (kj (Hr K rfl) (pv 2) (iE (oA (yT K (pv 1) aA) (yT K (pv 1) aA))) (by with_unfolding_all rfl)))) (λ_ _ _ _=>by exact (pv 0)))),?_⟩
  left
  refine⟨_,rfl,p,_,dx,_,_,rfl,hp,T.fj,T.gQ,rfl,Z,A,rfl,bK.of j,λg f=>?_⟩;refine fG (n:=A.length) (λi m _=>m=bC (UG rs x i)) f (abm (bK.of j)) (VE (bK.of j)) rfl ?_ ?_
  ·rintro i m B L l z r y H3 ⟨q,v,G,rfl,rfl,hv⟩
   have C:=hv A (l.seq (bK.of j));have M:rs[i]?=some rs[i]:=-_
   obtain⟨v',u,hD⟩:=W.get (i:=i) (d:=(rs[i]).D) (by rw[aj,M];rfl);rw[C] at u;cases u;obtain⟨b,e,X⟩:=Rep.zS (ns:=(rs[i]).ns) hD;subst e;have s:=(l.out (o:=.tup [.int (i:Nat),.ref b]) (l.free G)).dw X;have nq:g≠q:=aH z G;refine⟨q,_,rfl,cW.of av,rfl,_,_,rfl,_,_,rfl,rfl,?_⟩;refine⟨_,rfl,_,rfl,b,_,_,_,rfl,rfl,s,rfl,_,rfl,b,_,_,_,rfl,rfl,s,rfl,fy,λc U=>?_⟩;refine⟨c,_,rfl,.inr (cW.of av),rfl,rfl,_,rfl,?_⟩;have eb:Gs (V.int x) [V.int rs[i].a,V.int rs[i].b]=isAt rs x i:=by
    unfold isAt;rw[M];exact abu _ _ _
   have O:=l.out (o:=.tup [.int (i:Nat),.ref b]) (l.free G);have N:=O.out (o:=.tup [V.int rs[i].a,V.int rs[i].b]) (O.free U);have S:(upd (upd B q (HO.tup [V.int (i:Nat),V.ref b])) c (HO.tup [V.int rs[i].a,V.int rs[i].b])) g=some (.lst m):=by
    have R:(upd B q (HO.tup [V.int (i:Nat),V.ref b])) g=some (.lst m):=by rw[aF nq];exact z
    rw[aF (aH R U)];exact R
   try dsimp only
   rw[b5 aC,eb];have hl:m.length<sizeLine:=by rw[r,ah];exact bH (aJ (Ys rs x i) ∅) (ck (ay _))
   refine jC (λJ=>?_) (λJ=>?_)
   ·exact⟨_,rfl,dR f L N S hl (by rw[r,Np,b3 J,gE])⟩
   ·exact gv L N S (by rw[r,Np,b5 J,cS])
  ·intro m B l z r
   rw[I] at r;exact k g B l f (by rw[z,r])
inductive Oq(K:af)(C:Addr)(vs:List V)(H:Hp)(Q:VK)(E:XK):Prop
 |mk (p ln lr:Addr) (ns:List Int) (rs:List R5) (i:Nat) (n:Int):vs=[.ref p,.int i]->cY K C H p ln lr ns rs->ns[i]?=some n->(∀q H',aD H H'->cW K H' q (c5 ⟨n,0,0,-1⟩)->Q (.ref q) H')->Oq K C vs H Q E
theorem Jd{t:Ad}(T:Txt K mg t):b6 P w K mg base iH 2 t.xg t.Bq ["town","house"]  (Oq K t.aV):=by
 refine T.EY.F.jJ Qx λH Q E f h=>?_
 ·obtain⟨p,m,b,l,c,i,n,rfl,a,d,k⟩:=h
  obtain⟨⟨j,g⟩,_,_,_⟩:=id a;refine⟨_,(oR (iE (Z3 (cM (pv 0) T.fj T.FN (MM T) f (fY (pv 1))) aA aA lW))),?_⟩
  left
  refine⟨_,rfl,p,j,_,rfl,g,rfl,_,rfl,p,m,b,l,c,i,n,rfl,a,d,Te,λq e=>?_⟩;exact k q _ (aD.new e) (cW.of av)
inductive R1(K:af)(C:Addr)(vs:List V)(H:Hp)(Q:VK)(E:XK):Prop
 |mk (p ln lr:Addr) (ns:List Int) (rs:List R5) (i:Nat) (x:R5) (a:Addr) (r:RM.Row):vs=[.ref p,.ref a,.int i]->cY K C H p ln lr ns rs->rs[i]?=some x->cW K H a (c5 r)->(¬r.ho+1<ns.length->∀H',aD H H'->Q .fE H')->(r.ho+1<ns.length->∀q H',aD H H'->cW K H' q (c5 ⟨r.hd,r.co+x.c,r.ho+1,i⟩)->Q (.ref q) H')->R1 K C vs H Q E
theorem Ot{t:Ad}(T:Txt K mg t):b6 P w K mg base iH 2 t.DE t.GZ ["town","row","rope"]  (R1 K t.aV):=by
 refine T.Mp.F.jJ NK λH Q E y h=>?_
 ·obtain⟨p,B,m,ns,n,i,x,a,r,rfl,f,s,b,l,A⟩:=h
  obtain⟨⟨j,g⟩,_,_,_⟩:=id f;refine⟨_,(ak (sS 3 NK (aY fC (xT (pv 1) aA) aA)) (ak (b4 (qT adW (pv 3) (aR (pv 0) rfl)) (oR lW) aW) (oR (iE (Z3 (xT (pv 1) aA) (aY fC (xT (pv 1) aA) (xT (cM (pv 0) T.fj T.Av (D8 T) y (fY (pv 2))) aA)) (pv 3) (pv 2)))))),?_⟩
  left
  refine⟨_,rfl,a,_,_,_,rfl,rfl,b,rfl,_,_,rfl,rfl,?_⟩;refine⟨_,rfl,_,rfl,p,_,j,_,_,rfl,g,T.fj,T.mS,rfl,_,_,rfl,rfl,_,rfl,?_⟩;refine jC (λe=>?_) (λe=>?_)
  ·have k:(ns.length:Int)<=r.ho+1:=ff e
   exact l ∅ _ (aD.refl _)
  ·have k:¬(ns.length:Int)<=r.ho+1:=of_decide_eq_false (eq_false_of_ne_true e)
   refine⟨_,rfl,a,_,_,_,rfl,rfl,b,rfl,_,rfl,a,_,_,_,rfl,rfl,b,rfl,_,rfl,p,j,_,rfl,g,rfl,_,rfl,p,B,m,ns,n,i,x,rfl,f,s,λq v=>?_⟩;have d:cW K H q x.vs:=v.elim (λz=>cW.of z) id;refine⟨q,_,_,_,rfl,rfl,d,rfl,_,_,rfl,rfl,_,rfl,_,rfl,Te,λu o=>?_⟩;refine A ∅ u _ (aD.new o) (cW.of ?_);rw[av];show some (HO.tup [.int r.hd,.int (r.co+x.c),.int (r.ho+1),.int (i:Int)])=some (HO.tup [.int r.hd,.int (r.co+x.c),.int (r.ho+1),lJ (i:Int)]);rw[be ∅]
inductive aag(K:af)(C:Addr)(vs:List V)(H:Hp)(Q:VK)(E:XK):Prop
 |mk (p ln lr c b:Addr) (ns:List Int) (rs:List R5) (live:List Nat) (nd:ns.Nodup) (ok:∀r∈rs,r.Ok ns.length) (hl:∀k∈live,k<rs.length) (R:Nat->RM.Row) (h:Nat):vs=[.ref p,.ref c,.ref b,.int h]->cY K C H p ln lr ns rs->bK K H c (bC live)->sR K H b ns.length R->h<ns.length->rs.length<=20->RM.Sane (aQ ns rs live nd ok hl) R->(∀q d H',aD H H'->cW K H' q (c5 d)->RM.VN (N:=aQ ns rs live nd ok hl) ns.length R h d->Q (.ref q) H')->aag K C vs H Q E
theorem abW{t:Ad}(T:Txt K mg t):b6 P w K mg base iH 3 t.NR t.RT ["town","live","rows","house"]  (aag K t.aV):=by
 refine T.Z8.F.jJ HX λH Q E hr h=>?_
 ·obtain⟨p,ln,lr,c,b,ns,rs,e,n,i,m,R,x,rfl,hT,hC,hR,hx,zF,abt,k⟩:=h
  obtain⟨⟨dx,hp⟩,_,_,_⟩:=id hT;obtain⟨ps,hP,ePs,YR⟩:=hR;have enm:(aQ ns rs e n i m).nm x=ns[x]:=by show ns.getD x 0=_;simp[aq,hx]
  refine⟨_,(ak (sS 4 HX (cG (Jd T) hr T.EY (oA (pv 0) (pv 3)))) (ak (fS (gj (cM (pv 0) T.fj T.lU (pI T) hr (fY (pv 3)))) (gT 5 HX) (br (b4 (kj sG (pv 5) (pv 1) (by with_unfolding_all rfl)) (ak (sS 6 HX (cG (Ot T) hr T.Mp (HN (pv 0) (xL (pv 2) (cM (pv 0) T.fj T.n9 (rK T) hr (oA (pv 5) (pv 3)))) (pv 5)))) (br (b4 (PW.pt (Lw (qT GR (pv 6) lW) (GQ (qT (abq (Nat.lt_of_succ_lt (Nd hr))) (wQ LF (pv 6) GV (rT aA)) (wQ LF (pv 4) GV (rT aA)))))) (br (sS 4 HX (pv 6))) aW))) aW))) (oR (pv 4)))),?_⟩
  left
  refine⟨_,rfl,_,rfl,p,ln,lr,ns,rs,x,ns[x],rfl,hT,aa hx,λp0 H0 s0 hp0=>?_⟩;have hown:cW K H0 p0 (c5 (RM.own (aQ ns rs e n i m) x)):=by unfold RM.own;rw[enm];exact hp0
  refine⟨_,rfl,p,dx,_,rfl,s0 _ _ hp,rfl,_,rfl,p,ln,lr,ns,rs,x,rfl,hT.mono s0,zF,λl H1 s1 Ng U=>?_⟩;have s01:=s0.trans s1;refine⟨l,rfl,⟨_,bK.of U⟩,?_⟩;generalize M:UG rs (x:Int) rs.length=v at U;refine sO (K:=K) (a:=l) (xs:=bC v) (λj σ H2=>aD H1 H2/\∃(q:Addr) (d:RM.Row) (v5 v6:Option V),σ=[some (.ref p),some (.ref c),some (.ref b),some (.int x),some (.ref q),v5,v6]/\cW K H2 q (c5 d) /\
   (d=RM.own (aQ ns rs e n i m) x∨∃f g,f∈v.take j/\RM.GX (aQ ns rs e n i m) f x g/\(R g).ho+1<ns.length/\d=RM.over (aQ ns rs e n i m) f (R g))/\RM.le d (RM.own (aQ ns rs e n i m) x) /\
   ∀f g,f∈v.take j->RM.GX (aQ ns rs e n i m) f x g->(R g).ho+1<ns.length->RM.le d (RM.over (aQ ns rs e n i m) f (R g)))
   ⟨aD.refl _,p0,RM.own (aQ ns rs e n i m) x,_,_,rfl,s1.dw hown,.inl rfl,RM.le_refl _,λf g he=>by simp at he⟩ (λj σ H2 _ z=>bK.of (z.1 _ _ U)) ?_ ?_
  ·rintro j y σ H2 hj ⟨Z,q,d,v5,v6,rfl,hq,d1,Y,W⟩
   have I:j<v.length:=by
    have:=(ai.mp hj).1
    rw[ah] at this;exact this
   rw[aj,aa I] at hj;cases hj;have et:v.take (j+1)=v.take j++[v[j]]:=by rw[List.take_add_one,aa I];rfl
   have S:v[j]∈v:=aK I;have aah:∀A∈v.take j,A<v[j]:=λA s=>Yt (M▸VQ rs (x:Int) rs.length) I s;have D:(d=RM.own (aQ ns rs e n i m) x∨∃f g,f∈v.take j++[v[j]]/\RM.GX (aQ ns rs e n i m) f x g/\(R g).ho+1<ns.length/\d=RM.over (aQ ns rs e n i m) f (R g)):=d1.imp id λ⟨a1,a2,a3,a4⟩=>⟨a1,a2,oJ _ a3,a4⟩;rw[et];show iG 5 (V.int ((v[j]:Nat):Int)) _ _ _;generalize v[j]=f at S aah D;rw[<- M,Bj] at S;obtain⟨hkl,hat⟩:=S;have Ul:=s01.trans Z;refine⟨_,rfl,_,rfl,c,_,rfl,.inl (Ul.seq hC),rfl,mQ e,_,rfl,?_⟩
   try dsimp only
   rw[b5 aC,wV];refine jC (λL=>?_) (λL=>?_)
   case refine_2 =>
    have L:f∉e:=λz=>L (eH z);refine⟨Z,q,d,_,_,rfl,hq,D,Y,λA g s Bg X=>?_⟩;rcases bz.mp s with z|z
    ·exact W A g z Bg X
    ·rw[bf.mp z] at Bg
     exact ee Bg.1 L
   have L:f∈e:=ff L;have O:rs[f]?=some rs[f]:=aa hkl;have Bg:RM.GX (aQ ns rs e n i m) f x (f6 rs[f] x):=(uK L).mpr ⟨hat,rfl⟩;have O4:f6 rs[f] x<ns.length:=Bg.lt.2.1;have hgs:=abt _ O4;have WR:(if (x:Int)=rs[f].a then rs[f].b else rs[f].a)=((f6 rs[f] x:Nat):Int):=by
    have o:=i _ (aK hkl);have h1:=o.a0;have h2:=o.b0;unfold f6;split <;> lia
   have WS:(aQ ns rs e n i m).c f=rs[f].c:=by show ((rs[f]?).map λr=>r.c).getD 0=_;rw[O];rfl
   have fu:∀g,RM.GX (aQ ns rs e n i m) f x g->g=f6 rs[f] x:=λg a=>((uK L).mp a).2;generalize f6 rs[f] x=g at Bg O4 hgs WR fu;have hpg:ps[g]?=some ps[g]:=aa ∅;have abX:FD (ps.map V.ref) (if (x:Int)=rs[f].a then rs[f].b else rs[f].a)=some (.ref ps[g]):=by rw[WR];exact dX (by rw[aj,hpg];rfl)
   have hrg:=Ul.dw (YR g _ hpg);refine⟨_,rfl,_,rfl,_,rfl,p,dx,_,rfl,Ul _ _ hp,rfl,_,rfl,_,rfl,p,ln,lr,ns,rs,f,rs[f],x,rfl,hT.mono Ul,O,b,_,_,_,rfl,rfl,Ul.seq hP,abX,_,rfl,?_⟩;refine⟨p,ln,lr,ns,rs,f,rs[f],ps[g],R g,rfl,hT.mono Ul,O,hrg,λX H3 s3=>?_,λX u H3 s3 hu=>?_⟩
   ·refine⟨_,rfl,rfl,_,rfl,dQ (dQ ?_)⟩
    refine⟨Z.trans s3,q,d,_,_,rfl,s3.dw hq,D,Y,λA G s C N=>?_⟩;rcases bz.mp s with z|z
    ·exact W A G z C N
    ·rw[bf.mp z] at C
     rw[fu G C] at N;exact ee N X
   have eov:(⟨(R g).hd,(R g).co+rs[f].c,(R g).ho+1,f⟩:RM.Row)=RM.over (aQ ns rs e n i m) f (R g):=by unfold RM.over;rw[WS]
   rw[eov] at hu;have UJ:=s3.dw hq;have J:=Z.trans s3;refine⟨_,rfl,rfl,_,rfl,fF ?_⟩;have lex:Ht [V.int (RM.over (aQ ns rs e n i m) f (R g)).hd,V.int (RM.over (aQ ns rs e n i m) f (R g)).co,V.int (RM.over (aQ ns rs e n i m) f (R g)).ho] [V.int d.hd,V.int d.co,V.int d.ho] (decide (RM.lt (RM.over (aQ ns rs e n i m) f (R g)) d)):=RM.Ym (by
    rcases d1 with z|⟨A,G,s,_,_,z⟩
    ·rw[z]
     intro _ _ e3
     have:(R g).ho+1=0:=e3
     lia
    ·have hlt':=aah A s
     rw[z];intro e1 e2 e3 e4;rcases e4 with e4|⟨_,e4|⟨_,e4|⟨_,e4⟩⟩⟩
     ·lia
     ·lia
     ·lia
     ·have:((f:Nat):Int)<((A:Nat):Int):=e4
      lia)
   have nw:∀r:RM.Row,¬(HT.lX (c5 r).length 0 none=0/\HT.lX (c5 r).length (c5 r).length (some 3)=(c5 r).length):=λr z=>ee z.2 (by show HT.lX 4 4 (some 3)≠4;decide);have ct:∀r:RM.Row,Dk (c5 r) none (some 3)=[V.int r.hd,V.int r.co,V.int r.ho]:=λr=>rfl;refine⟨_,rfl,_,rfl,u,_,rfl,hu,nw _,λz1 hz1=>?_⟩;rw[ct];have t1:=aD.new (o:=.tup [V.int (RM.over (aQ ns rs e n i m) f (R g)).hd,V.int (RM.over (aQ ns rs e n i m) f (R g)).co,V.int (RM.over (aQ ns rs e n i m) f (R g)).ho]) hz1;refine⟨_,rfl,_,rfl,q,_,rfl,t1.dw UJ,nw _,λz2 hz2=>?_⟩;rw[ct];have t2:=aD.new (o:=.tup [V.int d.hd,V.int d.co,V.int d.ho]) hz2;have J:=J.trans (t1.trans t2);have hu:=(t1.trans t2).dw hu;have UJ:=(t1.trans t2).dw UJ;refine⟨z1,z2,_,_,_,rfl,rfl,cW.of (t2 _ _ av),cW.of av,rfl,lex,_,rfl,?_⟩;by_cases B:RM.lt (RM.over (aQ ns rs e n i m) f (R g)) d
   ·rw[eH B]
    refine fF ?_;refine⟨_,rfl,J,u,_,_,_,rfl,hu,.inr ⟨f,g,cR _ (bf.mpr rfl),Bg,X,rfl⟩,RM.le_trans (RM.ZZ B) Y,λA G s C N=>?_⟩;rcases bz.mp s with z|z
    ·exact RM.le_trans (RM.ZZ B) (W A G z C N)
    ·rw[bf.mp z] at C ⊢
     rw[fu G C];exact RM.le_refl _
   ·rw[eL B]
    refine dQ ⟨J,q,d,_,_,rfl,UJ,D,Y,λA G s C N=>?_⟩;rcases bz.mp s with z|z
    ·exact W A G z C N
    ·rw[bf.mp z] at C ⊢
     rw[fu G C];exact B
  ·rintro σ H2 ⟨Z,q,d,v5,v6,rfl,hq,d1,Y,W⟩
   rw[ah,eO (ay _)] at W;refine⟨_,rfl,k q d H2 (s01.trans Z) hq ⟨d1.imp id λ⟨a1,a2,_,a4⟩=>⟨a1,a2,a4⟩,Y,λf g Bg X=>W f g ?_ Bg X⟩⟩;rw[<- M,Bj];exact⟨m f Bg.1,((uK Bg.1).mp Bg).1⟩
inductive WT(K:af)(C:Addr)(vs:List V)(H:Hp)(Q:VK)(E:XK):Prop
 |mk (p ln lr c b:Addr) (ns:List Int) (rs:List R5) (live:List Nat) (nd:ns.Nodup) (ok:∀r∈rs,r.Ok ns.length) (hl:∀k∈live,k<rs.length) (R:Nat->RM.Row) (h:Nat):vs=[.ref p,.ref c,.ref b,.int h]->cY K C H p ln lr ns rs->bK K H c (bC live)->sR K H b ns.length R->h<ns.length->rs.length<=20->xW ns.length rs.length R->(∀v H',aD H H'->vC K H' v (zV (aQ ns rs live nd ok hl) R h)->Q v H')->WT K C vs H Q E
theorem WU{t:Ad}(T:Txt K mg t):b6 P w K mg base iH 3 t.DF t.G1 ["town","live","rows","house"]  (WT K t.aV):=by
 refine T.RV.F.jJ HY λH Q E A h=>?_
 ·obtain⟨p,ln,lr,c,b,ns,rs,live,nd,ok,v,R,i,rfl,L,hC,hRw,S,zF,N,k⟩:=h
  obtain⟨⟨dx,hp⟩,_,_,_⟩:=id L;obtain⟨s,J,ePs,YR⟩:=id hRw;have G:s[i]?=some s[i]:=aa ∅;have y:FD (s.map V.ref) (i:Int)=some (.ref s[i]):=dX (by rw[aj,G];rfl);have W:=YR i _ G;have fi:=N i S;refine⟨_,(ak (sS 4 HY (xT (xL (pv 2) (pv 3)) aA)) (ak (b4 (PW.pt (Dg (kj m7 (pv 4) (pv 1) (by with_unfolding_all rfl)) (zJ (kj m7 (pv 4) (cM (pv 0) T.fj T.lU (pI T) A (fY (pv 3))) (by with_unfolding_all rfl))))) (oR lW) aW) (ak (sS 5 HY (cM (pv 0) T.fj T.n9 (rK T) A (oA (pv 4) (pv 3)))) (ak (b4 (qT Ho (cG (Ot T) A T.Mp (HN (pv 0) (xL (pv 2) (pv 5)) (pv 4))) (xL (pv 2) (pv 3))) (oR lW) aW) (oR (iE (oA (pv 4) (pv 5)))))))),?_⟩
  left
  refine⟨_,rfl,_,rfl,LO J y (Yu W rfl ?_)⟩;have f:∀{H3:Hp},aD H H3->(∀k g,¬RM.oN (aQ ns rs live nd ok v) R k i g)->Q .fE H3:=λs3 no=>k .fE _ s3 (by rw[Nq no];rfl);show iG 4 (lJ (R i).by_) _ _ _;rcases fi.by_ with U|⟨b0,b1⟩
  ·rw[show lJ (R i).by_=V.fE by rw[U];rfl]
   refine⟨_,rfl,_,rfl,c,_,rfl,.inl hC,rfl,mQ live,_,rfl,?_⟩
   try dsimp only
   rw[b3 rfl,Yv];refine fF (fF (f (aD.refl _) λn g t=>?_))
   have:=t.by
   lia
  obtain⟨d,Y⟩:∃d:Nat,(R i).by_=(d:Int):=⟨(R i).by_.toNat,∅⟩;have o:d<rs.length:=∅
  rw[show lJ (R i).by_=V.int (d:Nat) by rw[Y,be ∅]];have q:∀n g,RM.oN (aQ ns rs live nd ok v) R n i g->n=d:=λn g t=>by have:=t.by;lia
  refine⟨_,rfl,_,rfl,c,_,rfl,.inl hC,rfl,mQ live,_,rfl,?_⟩
  try dsimp only
  rw[b3 rfl,wV];by_cases C:d∈live
  case neg =>
   rw[eL C];refine fF (fF (f (aD.refl _) λn g t=>?_))
   have:=q n g t
   subst this;exact C t.Bg.1
  rw[eH C];refine dQ ?_;refine⟨_,rfl,_,rfl,p,dx,_,rfl,hp,rfl,_,rfl,p,ln,lr,ns,rs,i,rfl,L,zF,λl H1 x Ng X=>?_⟩;refine⟨l,_,rfl,.inl (bK.of X),rfl,mQ _,_,rfl,?_⟩
  try dsimp only
  rw[b3 rfl,wV];by_cases m:d∈UG rs (i:Int) rs.length
  case neg =>
   rw[eL m];refine fF (f x λn g t=>?_)
   have:=q n g t
   subst this;exact m (Bj.mpr ⟨o,((uK C).mp t.Bg).1⟩)
  rw[eH m];refine dQ ?_;have m:=(Bj.mp m).2;have D:rs[d]?=some rs[d]:=aa o;have WR:=RG (h:=i) o ok;have O4:f6 rs[d] i<ns.length:=Qd o ok;have I:=VS (ns:=ns) (rs:=rs) (live:=live) (nd:=nd) (ok:=ok) (hl:=v) (R:=R) (h:=i) C;have WS:=aek (ns:=ns) (live:=live) (nd:=nd) (ok:=ok) (hl:=v) o;have r:∀g,RM.oN (aQ ns rs live nd ok v) R d i g->g=f6 rs[d] i:=λg t=>abw t;refine⟨_,rfl,p,dx,_,rfl,x _ _ hp,rfl,_,rfl,_,rfl,p,ln,lr,ns,rs,d,rs[d],i,rfl,L.mono x,D,?_⟩;show iG 5 (V.int (if (i:Int)=rs[d].a then rs[d].b else rs[d].a)) _ _ _;rw[WR];generalize f6 rs[d] i=g at WR O4 I r;have z:s[g]?=some s[g]:=aa ∅;have O:FD (s.map V.ref) (g:Int)=some (.ref s[g]):=dX (by rw[aj,z];rfl);refine⟨_,rfl,_,rfl,_,rfl,LO (x.seq J) O ⟨_,rfl,p,ln,lr,ns,rs,d,rs[d],s[g],R g,rfl,L.mono x,D,x.dw (YR g _ z),λJe H2 M=>?_,λJe u H2 M hu=>?_⟩⟩
  ·have j:=x.trans M
   refine⟨_,rfl,_,rfl,LO (j.seq J) y ⟨.none,RM.uG (R i),rfl,RM.wR (j.dw W),rfl,RM.wU _,bH (bW (aJ (eU _ _) (!_)) _) A.units,_,rfl,?_⟩⟩;refine fF (f j λn B t=>?_);have e1:=q n B t;subst e1;have Z:=r B t;subst Z;exact Je t.cut
  ·have j:=x.trans M
   have eov:(⟨(R g).hd,(R g).co+rs[d].c,(R g).ho+1,d⟩:RM.Row)=RM.over (aQ ns rs live nd ok v) d (R g):=by unfold RM.over;rw[WS]
   rw[eov] at hu;refine⟨_,rfl,_,rfl,LO (j.seq J) y ⟨RM.uG (RM.over (aQ ns rs live nd ok v) d (R g)),RM.uG (R i),RM.wR hu,RM.wR (j.dw W),RM.wU _,RM.wU _,bH (bW (aJ (eU _ _) (by rw[RM.Et];decide)) _) A.units,_,rfl,?_⟩⟩;rw[RM.Nl (show (-1:Int)<=(d:Nat) by lia) fi.by1];by_cases e:RM.over (aQ ns rs live nd ok v) d (R g)=R i
   case neg =>
    rw[eL e];refine fF (f j λn B t=>?_);have e1:=q n B t;subst e1;have Z:=r B t;subst Z;exact e t.eq.symm
   rw[eH e];refine dQ ?_;have hh:RM.oN (aQ ns rs live nd ok v) R d i g:=by
    obtain⟨g2,t⟩:=I.mpr ⟨m,Je,e.symm⟩
    have:=r g2 t
    subst this;exact t
   refine⟨_,rfl,_,rfl,fy,λo2 ho2=>?_⟩;exact k (.ref o2) _ (j.trans (aD.new ho2)) (by rw[uL.mpr hh];exact⟨o2,rfl,cW.of av⟩)
inductive aaj(K:af)(C:Addr)(vs:List V)(H:Hp)(Q:VK)(E:XK):Prop
 |mk (p ln lr c b:Addr) (ns:List Int) (rs:List R5) (live:List Nat) (nd:ns.Nodup) (ok:∀r∈rs,r.Ok ns.length) (hl:∀k∈live,k<rs.length) (R:Nat->RM.Row):vs=[.ref p,.ref c,.ref b]->cY K C H p ln lr ns rs->bK K H c (bC live)->sR K H b ns.length R->ns.length<=12->rs.length<=20->xW ns.length rs.length R->(∀l H',aD H H'->H l=none->abv K H' l ns.length (zV (aQ ns rs live nd ok hl) R)->Q (.ref l) H')->aaj K C vs H Q E
theorem ab1{t:Ad}(T:Txt K mg t):b6 P w K mg base iH 4 t.NT t.RU ["town","live","rows"]  (aaj K t.aV):=by
 refine T.Z9.F.jJ Ws λH Q E N h=>?_
 ·obtain⟨p,X,J,c,b,ns,C,d,G,A,D,R,rfl,B,I,u,Y,M,y,k⟩:=h
  obtain⟨⟨W,V⟩,_,_,_⟩:=id B;refine⟨_,(oR (gU (kO Ws ["house","live","rows","town"] [none,some 1,some 2,some 0]) rfl (d8 rfl T.gV (fY (aR (pv 0) rfl))) (λ_ _ _ _=>by exact (gS 0 T7)) (λ_ _ _ _=>by exact ko) (λ_ _ _ _=>by exact (cG (WU T) N T.RV (Z3 (pv 3) (pv 1) (pv 2) (pv 0)))))),?_⟩
  left
  refine⟨_,rfl,p,_,W,_,_,rfl,V,T.fj,T.mS,rfl,(ns.length:Int),rfl,∅,∅,λs a=>?_⟩;refine fG (n:=((ns.length:Int)).toNat) (λi l r=>l.length=i/\∀(j:Nat) v,l[j]?=some v->vC K r v (zV (aQ ns C d G A D) R j)) a xV ng ⟨rfl,λj v e=>by simp at e⟩ ?_ ?_
  ·rintro i l r L g o ⟨q,f⟩ x Z ⟨rfl,rfl⟩
   refine⟨_,rfl,_,rfl,_,rfl,_,rfl,p,X,J,c,b,ns,C,d,G,A,D,R,i,by rw[fB];rfl,B.mono g,g.seq I,u.mono g,∅,M,y,λv H4 m S=>?_⟩;refine dR a L (g.trans m) (m _ _ o) (by rw[q];exact ck ∅) ⟨by rw[az,q];rfl,λj w e=>?_⟩;refine vC.lst (m _ _ o) ?_;rcases xX e with z|⟨O,U⟩
   ·exact (f j w z).mono m
   ·rw[O,U,q];exact S
  rintro l r g o ⟨q,f⟩;exact k s r g a ⟨l,o,∅,f⟩
inductive R3(K:af)(C:Addr)(vs:List V)(H:Hp)(Q:VK)(E:XK):Prop
 |mk (p ln lr c b:Addr) (ns:List Int) (rs:List R5) (live:List Nat) (nd:ns.Nodup) (ok:∀r∈rs,r.Ok ns.length) (hl:∀k∈live,k<rs.length) (R:Nat->RM.Row):vs=[.ref p,.ref c,.ref b]->cY K C H p ln lr ns rs->bK K H c (bC live)->sR K H b ns.length R->ns.length<=12->rs.length<=20->xW ns.length rs.length R->(∀l os H',aD H H'->H l=none->H' l=some (.lst (bC os))->d9 (aQ ns rs live nd ok hl) R os->os.length<=12->Q (.ref l) H')->R3 K C vs H Q E
theorem Ou{t:Ad}(T:Txt K mg t):b6 P w K mg base iH 5 t.yh t.G0 ["town","live","rows"]  (R3 K t.aV):=by
 refine T.DJ.F.jJ NL λH Q E hr h=>?_
 ·obtain⟨p,ln,lr,c,b,ns,V,a,M,L,S,R,rfl,hT,hC,U,YS,zF,J,k⟩:=h
  refine⟨_,(oR (cB zW T.Iu boot_sorted (fY (gU (kO NL ["up"] [none]) rfl (gj (cG (ab1 T) hr T.Z9 (HN (pv 0) (pv 1) (pv 2)))) (λ_ _ _ _=>by exact (gS 0 NN)) (λ_ _ _ _=>by exact (lI (qT GR (pv 0) lW))) (λ_ _ _ _=>by exact (yT K (pv 0) aA)))))),?_⟩
  left
  refine⟨_,rfl,_,rfl,_,rfl,p,ln,lr,c,b,ns,V,a,M,L,S,R,rfl,hT,hC,U,YS,zF,J,λlu H2 s2 amI hO=>?_⟩;obtain⟨Y,f,evs,W⟩:=hO;refine⟨lu,rfl,⟨_,bK.of f⟩,λN j=>?_⟩;refine fG (n:=Y.length) (λi I _=>∃d:List Nat,I=bC d/\d.length<=i/\d.Nodup/\∀k,k∈d↔∃h g,h<i/\RM.oN (aQ ns V a M L S) R k h g) j (zU (bK.of f)) (qg (bK.of f)) ⟨[],rfl,bE _,lG,λk=>⟨λz=>ee z (-_),λ⟨_,_,z,_⟩=>ee z (Nat.not_lt_zero _)⟩⟩ ?_ ?_
  ·rintro i I H3 G r C ⟨d,rfl,Z,D,u⟩ y H4 ⟨rfl,hv⟩
   have A:=hv _ (r.seq (bK.of f));rw[aa G] at A;cases A;have o:=(W i _ (aa G)).mono r;generalize Y[i]=v at o;cases s:zV (aQ ns V a M L S) R i with
   |none =>
    rw[s] at o;have o:v=.fE:=o;subst o;refine⟨_,rfl,rfl,_,rfl,dQ ?_⟩;refine gv G r C ⟨d,rfl,∅,D,λk=>(u k).trans ⟨λ⟨h,g,z,t⟩=>⟨h,g,∅,t⟩,λ⟨h,g,z,t⟩=>⟨h,g,?_,t⟩⟩⟩;by_cases e:h=i
    ·subst e
     rw[uL.mpr t] at s;cases s
    ·lia
   |some q =>
    rw[s] at o;obtain⟨t1,rfl,ht⟩:=o;have m:=(uL (k:=q.1) (g:=q.2)).mp s;refine⟨_,rfl,rfl,_,rfl,fF ?_⟩;refine⟨_,rfl,t1,_,0,_,rfl,rfl,ht,rfl,?_⟩;refine dR j G r C (by rw[ah];exact ck ∅) ⟨d++[q.1],by rw[gE],by rw[az];exact oH Z 1,Gr.Cn D λz=>?_,λk=>?_⟩
    ·obtain⟨h,g,z1,t⟩:=(u _).mp z
     have:=(t.one m).1
     lia
    ·rw[bz,bf,u]
     constructor
     ·rintro (⟨h,g,z,t⟩|rfl)
      ·exact⟨h,g,∅,t⟩
      ·exact⟨i,q.2,∅,m⟩
     ·rintro⟨h,g,z,t⟩
      by_cases e:h=i
      ·subst e
       exact .inr (t.uniq m).1
      ·exact .inl ⟨h,g,∅,t⟩
  rintro I H3 r C ⟨d,rfl,Z,D,u⟩;refine⟨N,d.map λk:Nat=>(k:Int),rfl,bK.of (by rw[C,eW]),by rw[ah];lia,λl ms X x pw=>?_⟩;obtain⟨os,O,o1,o2,o3⟩:=Nr x pw D;rw[O];have B:=s2.trans r;refine k l os _ (B.trans (aD.new X)) (B.free X) av ⟨o1,λk=>?_⟩ ∅;rw[o2,u];constructor
  ·rintro⟨h,g,_,t⟩;exact⟨h,g,t⟩
  ·rintro⟨h,g,t⟩
   have:h<ns.length:=(oN.lt t).1
   exact⟨h,g,∅,t⟩
theorem K8{p:Nat->Bool}{xs:List Nat}{i:Nat}(a:i<xs.length):(xs.take (i+1)).filter p=(xs.take i).filter p++if p xs[i] then [xs[i]] else []:=by
 rw[fX a,eN];congr 1;cases e:p xs[i]
 ·rw[b5 (!_),sN (by rw[e];decide)];rfl
 ·rw[b3 rfl,sM e];rfl
inductive Ov(K:af)(C:Addr)(vs:List V)(H:Hp)(Q:VK)(E:XK):Prop
 |mk (p ln lr c b:Addr) (ns:List Int) (rs:List R5) (live:List Nat) (nd:ns.Nodup) (ok:∀r∈rs,r.Ok ns.length) (hl:∀k∈live,k<rs.length) (R:Nat->RM.Row) (h:Int):vs=[.ref p,.ref c,.ref b,.int h]->cY K C H p ln lr ns rs->bK K H c (bC live)->sR K H b ns.length R->ns.length<=12->rs.length<=20->xW ns.length rs.length R->(∀l os H',aD H H'->H l=none->H' l=some (.lst (bC (os.filter (isAt rs h))))->d9 (aQ ns rs live nd ok hl) R os->os.length<=12->Q (.ref l) H')->Ov K C vs H Q E
theorem QT{t:Ad}(T:Txt K mg t):b6 P w K mg base iH 6 t.xh t.Br ["town","live","rows","house"]  (Ov K t.aV):=by
 refine T.KS.F.jJ CB λH Q E U h=>?_
 ·obtain⟨p,X,O,c,b,W,rs,l,nd,Y,V,R,x,rfl,A,Z,v,YS,S,L,k⟩:=h
  refine⟨_,(ak (sS 4 CB (cM (pv 0) T.fj T.lU (pI T) U (fY (pv 3)))) (oR (gU (kO CB ["rope","joined"] [none,some 4]) rfl (gj (Bf (Ou T) (U.mono (!_)) rfl T.Az T.DJ.F.kp T.DJ.B .nil kG (HN (pv 0) (pv 1) (pv 2)))) (λ_ _ _ _=>by exact (gS 0 JL)) (λ_ _ _ _=>by exact (lI (kj (Hr K rfl) (pv 0) (pv 1) (by with_unfolding_all rfl)))) (λ_ _ _ _=>by exact (pv 0))))),?_⟩
  left
  obtain⟨⟨dx,hp⟩,_⟩:=id A;refine⟨_,rfl,p,dx,_,rfl,hp,rfl,_,rfl,p,X,O,W,rs,x,rfl,A,S,λlj H1 j amL UM=>?_⟩;refine⟨_,rfl,_,rfl,_,rfl,p,X,O,c,b,W,rs,l,nd,Y,V,R,rfl,A.mono j,j.seq Z,v.mono j,YS,S,L,λlo os H2 I WV e o J=>?_⟩;have u:=I _ _ UM;have D:∀k∈os,decide (k∈UG rs x rs.length)=isAt rs x k:=λk hk=>by
   obtain⟨h,g,t⟩:=(o.2 k).mp hk;have M:k<rs.length:=V k t.Bg.1;by_cases z:isAt rs x k=true
   ·rw[z];exact eH (Bj.mpr ⟨M,z⟩)
   ·rw[Bool.not_eq_true] at z
    rw[z];refine eL λy=>?_;rw[(Bj.mp y).2] at z;cases z
  refine⟨lo,rfl,⟨_,bK.of e⟩,λs a=>?_⟩;refine fG (n:=(bC os).length) (λi G _=>G=bC ((os.take i).filter (isAt rs x))) a (zU (bK.of e)) (qg (bK.of e)) rfl ?_ ?_
  ·rintro i G H3 q f m rfl y H4 ⟨rfl,r⟩
   have r:=r _ (f.seq (bK.of e));have d:i<os.length:=by rw[ah] at q;exact q
   rw[aj,aa d] at r;cases r;refine⟨_,rfl,_,rfl,lj,_,rfl,.inl (bK.of (f _ _ u)),rfl,mQ _,_,rfl,?_⟩
   try dsimp only
   rw[b5 aC,wV,D _ (aK d)];refine jC (λN=>?_) (λN=>?_)
   ·refine⟨_,rfl,?_⟩
    refine dR a q f m ?_ ?_
    ·rw[ah]
     refine ck (aJ (aT _ _) ?_);rw[bY];lia
    ·rw[K8 d,b3 N,gE]
   ·refine gv q f m ?_
    rw[K8 d,b5 N,cS]
  ·rintro G H3 f m rfl
   rw[ah,kQ] at m;have C:=(j.trans I).trans f;exact k s os _ C ((j.trans I).free a) m o J
inductive WW(K:af)(C:Addr)(vs:List V)(H:Hp)(Q:VK)(E:XK):Prop
 |mk (p ln lr:Addr) (ns:List Int) (rs:List R5) (i:Nat) (r:R5) (g:Nat) (z:Int):vs=[.ref p,.int i,.int g]->cY K C H p ln lr ns rs->rs[i]?=some r->([1,2,4]:List Int)[g]?=some z->Q (.bl (!decide (Builtin.bitAnd r.e z=0))) H->WW K C vs H Q E
theorem D9{t:Ad}(T:Txt K mg t):b6 P w K mg base iH 1 t.ql t.uW ["self","rope","group"]  (WW K t.aV):=by
 refine T.Aw.F.jJ Ma λH Q E B h=>?_
 ·obtain⟨p,G,f,ns,A,i,r,g,z,rfl,c,j,n,k⟩:=h
  obtain⟨⟨u,o⟩,y,C,a,x⟩:=id c;obtain⟨v,m,s⟩:=x.get (i:=i) (d:=r.D) (by rw[aj,j];rfl);obtain⟨q,e,l⟩:=Rep.zS (ns:=r.ns) s;subst e;refine⟨_,(oR (qE qd (aY aa1 (xT (xL (aR (pv 0) rfl) (pv 1)) aA) (xT (lH rfl T.kE (v:=.ref t.dZ) rfl) (pv 2))) aA)),?_⟩
  left
  refine⟨_,rfl,p,_,u,_,_,rfl,o,T.fj,T.gQ,rfl,_,rfl,f,_,_,_,rfl,rfl,bK.of a,dX m,?_⟩;refine⟨q,_,_,_,rfl,rfl,l,rfl,?_⟩;have b:([.int 1,.int 2,.int 4]:List V)[g]?=some (.int z):=by
   have e:([.int 1,.int 2,.int 4]:List V)=([1,2,4]:List Int).map V.int:=rfl;rw[e,aj,n];rfl
  refine⟨_,rfl,_,_,_,_,rfl,rfl,T.fL H,dX b,_,_,rfl,rfl,rfl,?_⟩;have e:decide (V.int (Builtin.bitAnd r.e z)=V.int 0)=decide (Builtin.bitAnd r.e z=0):=-_
  rw[e];exact k
inductive K9(K:af)(C:Addr)(vs:List V)(H:Hp)(Q:VK)(E:XK):Prop
 |mk (p ln lr:Addr) (ns:List Int) (rs:List R5) (i:Nat) (r:R5):vs=[.ref p,.int i]->cY K C H p ln lr ns rs->rs[i]?=some r->Q (.int r.d) H->K9 K C vs H Q E
theorem Gj{t:Ad}(T:Txt K mg t):b6 P w K mg base iH 2 t.tN t.yj ["town","rope"]  (K9 K t.aV):=by
 refine T.CH.F.jJ NO λH Q E f h=>?_
 ·obtain⟨p,m,c,l,d,i,r,rfl,b,e,k⟩:=h
  obtain⟨⟨j,g⟩,_⟩:=id b;refine⟨_,(oR (xT (cM (pv 0) T.fj T.Av (D8 T) f (fY (pv 1))) aA)),?_⟩
  left
  refine⟨_,rfl,p,j,_,rfl,g,rfl,_,rfl,p,m,c,l,d,i,r,rfl,b,e,λq a=>?_⟩;have a:cW K H q r.vs:=a.elim cW.of id;exact⟨q,_,_,_,rfl,rfl,a,rfl,k⟩
inductive Jg(K:af)(CT C NW:Addr)(vs:List V)(H:Hp)(Q:VK)(E:XK):Prop
 |mk (p tp lu ln lr:Addr) (ns:List Int) (rs:List R5) (ws:List (List Nat)) (i:Int):vs=[.ref p,.int i]->cY K CT H tp ln lr ns rs->uM C H p tp lu ws->ws.length=rs.length->(∀(j:Nat) w l H',i=(j:Int)->ws[j]?=some w->aD H H'->H l=none->H' l=some (.lst (bC w))->Q (.ref l) H')->(¬(0<=i/\i<rs.length)->E (.ref NW) none H)->Jg K CT C NW vs H Q E
theorem kP{t:Ad}(T:Txt K mg t):b6 P w K mg base (Ei P w) 1 t.gK t.i7 ["self","rope"]  (Jg K t.aV t.cN t.xu):=by
 refine T.d7.F.T4 BE λH Q E A h=>?_
 ·obtain⟨p,v,u,I,J,L,rs,c,i,rfl,x,B,M,k,o⟩:=h
  obtain⟨⟨r,q⟩,b,G,y,d⟩:=id B;obtain⟨⟨C,e⟩,_⟩:=id x;refine⟨_,(ak (b4 (gY (jl qe rM aA (pv 1) (aR (aR (pv 0) rfl) rfl))) (br (Dr rfl T.Ip T.Iq A.hd gX)) aW) (oR (gu iy (by rfl) T.vU boot_list (fY (xL (aR (pv 0) rfl) (pv 1)))))),?_⟩
  left
  refine⟨_,rfl,_,_,rfl,rfl,_,rfl,?_⟩;by_cases g:0<=i
  case neg =>
   rw[eL g];exact dQ ⟨_,rfl,fF (o λz=>g z.1)⟩
  rw[eH g];refine fF ?_;refine⟨_,rfl,p,_,r,_,_,rfl,q,T.dM,T.kh,rfl,v,_,C,_,_,rfl,e,T.fj,T.vh,rfl,_,_,rfl,rfl,_,rfl,?_⟩;by_cases m:i<(rs.length:Int)
  case neg =>
   rw[eL m];exact fF (o λz=>m z.2)
  rw[eH m];refine dQ ?_;obtain⟨j,rfl⟩:∃j:Nat,i=(j:Int):=⟨i.toNat,∅⟩;have D:j<c.length:=∅
  have a:c[j]?=some c[j]:=aa D;have s:b[j]?=some b[j]:=aa ∅;have f:FD (b.map V.ref) (j:Int)=some (.ref b[j]):=dX (by rw[aj,s];rfl);refine⟨_,rfl,p,_,r,_,_,rfl,q,T.dM,T.fW,rfl,_,rfl,u,_,_,_,rfl,rfl,bK.of G,f,b[j],_,rfl,.inl (bK.of (d j _ _ s a)),λl n=>?_⟩;exact k j _ l _ rfl a (aD.new n) n av
inductive R4(K:af)(CT C NW:Addr)(vs:List V)(H:Hp)(Q:VK)(E:XK):Prop
 |mk (p tp lu ln lr:Addr) (ns:List Int) (rs:List R5) (ws:List (List Nat)) (i x:Int):vs=[.ref p,.int i,.int x]->cY K CT H tp ln lr ns rs->uM C H p tp lu ws->ws.length=rs.length->(∀w∈ws,w.length<=4)->(∀(j k:Nat) w (ls:List Addr) (q:Addr) H',i=(j:Int)->x=(k:Int)->ws[j]?=some w->k∈w->H lu=some (.lst (ls.map V.ref))->H q=none->H' q=some (.lst (bC (w.filter λz=>decide (z≠k))))->H' lu=some (.lst ((ls.map V.ref).set j (.ref q)))->(∀b o,H b=some o->b≠lu->H' b=some o)->Q (.bl (w.filter λz=>decide (z≠k)).isEmpty) H')->(¬(0<=i/\i<rs.length)->E (.ref NW) none H)->(∀(j:Nat) w H',i=(j:Int)->ws[j]?=some w->(∀k∈w,x≠(k:Nat))->aD H H'->E (.ref NW) none H')->R4 K CT C NW vs H Q E
theorem GI{t:Ad}(T:Txt K mg t):b6 P w K mg base (Ei P w) 2 t.j0 t.nV ["self","rope","wire"]  (R4 K t.aV t.cN t.xu):=by
 refine T.tV.F.T4 qR λH Q E Z h=>?_
 ·obtain⟨p,tp,C,ln,lr,ns,rs,ws,i,x,rfl,hT,hW,ew,h4,k,kx,ky⟩:=h
  obtain⟨⟨dx,hp⟩,O,Pr,els,hls⟩:=id hW;refine⟨_,(ak (sS 3 qR (rS (pv 0) T.dM T.d7.m (kP T) (Z.mono (!_)) T.d7.B .nil RE (fY (pv 1)))) (ak (b4 (kj m7 (pv 2) (pv 3) (by with_unfolding_all rfl)) (br (Dr rfl T.Ip T.Iq Z.hd gX)) aW) (ak (Lz (gU (kO qR ["each","wire"] [none,some 2]) rfl (gj (pv 3)) (λ_ _ _ _=>by exact (gS 0 CC)) (λ_ _ _ _=>by exact (lI (qT qd (pv 0) (pv 1)))) (λ_ _ _ _=>by exact (pv 0))) (Ly (aR (pv 0) rfl) (pv 1) set_list)) (oR (qE zT (xL (aR (pv 0) rfl) (pv 1)) (gZ gD)))))),?_⟩
  left
  refine⟨_,rfl,p,dx,_,rfl,hp,rfl,_,rfl,p,tp,C,ln,lr,ns,rs,ws,i,rfl,hT,hW,ew,λj c l H1 ej W s1 Ng hl=>?_,kx⟩;subst ej;have hjl:=(ai.mp W).1;have w4:=h4 _ (aU W);refine⟨_,rfl,_,rfl,l,_,rfl,.inl (bK.of hl),rfl,mQ c,_,rfl,?_⟩
  try dsimp only
  rw[b3 rfl,eW,sQ];by_cases R:x∈c.map λk:Nat=>(k:Int)
  case neg =>
   rw[eL R];exact fF (ky j c H1 rfl W (λz D e=>R (aS.mpr ⟨z,D,e.symm⟩)) s1)
  rw[eH R];refine dQ ?_;obtain⟨g,hkk,rfl⟩:=aS.mp R;refine⟨_,rfl,l,rfl,⟨_,bK.of hl⟩,λd f=>?_⟩;have hC:=bK.of (K:=K) hl;refine fG (n:=(bC c).length) (λi Y _=>Y=bC ((c.take i).filter λz=>decide (z≠g))) f (zU hC) (qg hC) rfl ?_ ?_
  ·rintro i Y H2 S I u rfl y U ⟨rfl,N⟩
   have N:=N _ (I.seq hC);have hi':i<c.length:=by rw[ah] at S;exact S
   have L:c[i]?=some c[i]:=aa hi';rw[aj,L] at N;cases N;refine⟨_,rfl,_,rfl,rfl,_,rfl,?_⟩;have et:c.take (i+1)=c.take i++[c[i]]:=by rw[List.take_add_one,L];rfl
   by_cases D:c[i]=g
   ·have e1:decide (V.int (c[i]:Nat)=V.int (g:Nat))=true:=eH (by rw[D])
    rw[e1];refine dQ (gv S I u ?_);rw[et,eN,D];simp
   ·have e1:decide (V.int (c[i]:Nat)=V.int (g:Nat))=false:=eL λq=>D (by have:=V.int.inj q;lia)
    rw[e1];refine fF ⟨_,rfl,dR f S I u ?_ ?_⟩
    ·rw[ah]
     have:=aT (λz=>decide (z≠g)) (c.take i)
     rw[bY] at this;exact ck ∅
    ·rw[et,eN,<- gE]
     simp[D]
  ·rintro Y H2 I u rfl
   rw[ah,kQ] at u;have s:=s1.trans I;have A:=s _ _ Pr;have hp2:=s _ _ hp;have UM:j<O.length:=∅
   refine⟨_,rfl,p,_,dx,_,_,rfl,hp2,T.dM,T.fW,rfl,_,rfl,C,_,_,j,rfl,rfl,A,(by rw[ah];exact Du UM),?_⟩;have hW2:=hW.mono s;generalize J:upd H2 C (.lst ((O.map V.ref).set j (.ref d)))=U;have k3:∀b o,H2 b=some o->b≠C->U b=some o:=λb o e nb=>by rw[<- J,aF nb];exact e
   have v:U C=some (.lst ((O.map V.ref).set j (.ref d))):=by rw[<- J];exact av
   have hW3:=hW2.put A u hjl k3 v;have G:U d=some (.lst (bC (c.filter λz=>decide (z≠g)))):=k3 _ _ u (m5 u A λz=>wW (aa UM) (HO.lst.inj z));obtain⟨⟨YT,X⟩,_⟩:=id hW3;refine⟨_,rfl,p,_,YT,_,_,rfl,X,T.dM,T.fW,rfl,_,rfl,C,_,_,V.ref d,rfl,rfl,bK.of v,dX (by rw[cO,b3 rfl,b3 (by rw[ah];exact UM)]),bE _,λq hq=>?_⟩;have M:=aD.new (o:=.lst []) hq;refine⟨.list (((c.filter λz=>decide (z≠g)).map λk:Nat=>(k:Int)).map .int),.list [],⟨d,_,rfl,bK.of (M _ _ G),(by rw[eW];exact mP _)⟩,⟨q,_,rfl,bK.of av,rfl⟩,jm _,rfl,bH (bW (aJ (Nat.min_le_right _ _) (!_)) _) Z.units,?_⟩;have z:=k j g c O d _ rfl rfl W hkk Pr (s1.free f) (M _ _ G) (M _ _ v) (λb o e nb=>M _ _ (k3 _ _ (s _ _ e) nb));cases e:c.filter λz=>decide (z≠g) with
   |nil=>rw[e] at z;exact z
   |cons a r=>rw[e] at z;exact z
inductive R6(NG:Addr)(vs:List V)(H:Hp)(Q:VK)(E:XK):Prop
 |mk (g:Int):vs=[.int g]->(0<=g/\g<3->Q .fE H)->(¬(0<=g/\g<3)->E (.ref NG) none H)->R6 NG vs H Q E
theorem uA{t:Ad}(T:Txt K mg t):b6 P w K mg base (Ei P w) 1 t.ly t.pT ["group"]  (R6 t.Bx):=by
 refine T.eS.F.T4 Ib λH Q E d h=>?_
 ·obtain⟨g,rfl,k,c⟩:=h
  refine⟨_,(br (b4 (gY (jl qe rM aA (pv 0) (lS T.gR (lH rfl T.kE (v:=.ref t.dZ) rfl)))) (br (Dr rfl T.Ua T.Ub d.hd gX)) aW)),?_⟩
  left
  refine⟨_,rfl,_,_,rfl,rfl,_,rfl,?_⟩;by_cases a:0<=g
  case neg =>
   rw[eL a];exact dQ ⟨_,rfl,fF (c λz=>a z.1)⟩
  rw[eH a];refine fF ?_;refine⟨_,_,rfl,.inr (T.fL H),_,_,rfl,rfl,_,rfl,?_⟩;by_cases b:g<3
  case neg =>
   have e:decide (g<((([.int 1,.int 2,.int 4]:List V).length:Nat):Int))=false:=eL b;rw[e];exact fF (c λz=>b z.2)
  have e:decide (g<((([.int 1,.int 2,.int 4]:List V).length:Nat):Int))=true:=eH b;rw[e];exact dQ (k ⟨a,b⟩)
inductive WX(K:af)(CT C NG:Addr)(vs:List V)(H:Hp)(Q:VK)(E:XK):Prop
 |mk (p tp lu ln lr:Addr) (ns:List Int) (rs:List R5) (ws:List (List Nat)) (g:Int):vs=[.ref p,.int g]->cY K CT H tp ln lr ns rs->uM C H p tp lu ws->ws.length=rs.length->rs.length<=20->(∀r∈rs,1<=r.e/\r.e<=7)->(∀(gg:Nat) l H',g=(gg:Int)->gg<3->aD H H'->H l=none->H' l=some (.lst (bC (xY rs ws gg rs.length)))->Q (.ref l) H')->(¬(0<=g/\g<3)->E (.ref NG) none H)->WX K CT C NG vs H Q E
theorem GJ{t:Ad}(T:Txt K mg t):b6 P w K mg base (Ei P w) 2 t.j3 t.nW ["self","group"]  (WX K t.aV t.cN t.Bx):=by
 refine T.tW.F.T4 zg λH Q E N h=>?_
 ·obtain⟨p,s,X,ln,Y,ns,rs,d,g,rfl,M,hW,ew,zF,he,k,kx⟩:=h
  obtain⟨⟨L,J⟩,I,Pr,Z,y⟩:=id hW;obtain⟨⟨S,m⟩,_⟩:=id M;refine⟨_,(ak (fq (Bf (uA T) (N.mono (!_)) rfl T.eS.g T.eS.F.kp T.eS.B .nil RE (fY (pv 1)))) (oR (gU (kO zg ["rope","group","self"] [none,some 1,some 0]) rfl (d8 rfl T.gV (fY (aR (aR (pv 0) rfl) rfl))) (λ_ _ _ _=>by exact (gS 0 CD)) (λ_ _ _ _=>by exact (lI (PW.pt (Lw (Tz K rfl (yL K (GW K rfl (pv 2) rfl) (pv 0)) (λ_=>rfl)) (GQ (jB (cM (GW K rfl (pv 2) rfl) T.fj T.Aw (D9 T) N (oA (pv 0) (pv 1))))))))) (λ_ _ _ _=>by exact (pv 0))))),?_⟩
  left
  refine⟨_,rfl,g,rfl,λhg=>?_,kx⟩;obtain⟨a,rfl⟩:∃a:Nat,g=(a:Int):=⟨g.toNat,∅⟩;have l:a<3:=∅
  obtain⟨z,R⟩:=ael l;refine⟨_,rfl,p,_,L,_,_,rfl,J,T.dM,T.kh,rfl,s,_,S,_,_,rfl,m,T.fj,T.vh,rfl,_,rfl,(by show -(2^62)<=((rs.length:Nat):Int);lia),(by show ((rs.length:Nat):Int)<2^62;lia),λv c=>?_⟩;refine fG (n:=(((rs.length:Nat):Int)).toNat) (λi C _=>C=bC (xY rs d a i)) c xV ng rfl ?_ ?_
  ·rintro i C U u b o rfl x H3 ⟨rfl,rfl⟩
   have D:i<rs.length:=by simpa using u
   have A:rs[i]?=some rs[i]:=aa D;have j:d[i]?=some d[i]:=aa ∅;have q:I[i]?=some I[i]:=aa ∅;have W:(bC (xY rs d a i)).length<sizeLine:=by rw[ah];exact ck (by have:=Qf rs d a i;lia)
   have G:isLive rs d a i=((!(d[i]).isEmpty)&&KG (rs[i]).e a):=by unfold isLive;rw[A,j]
   refine⟨_,rfl,p,_,L,_,_,rfl,b _ _ J,T.dM,T.fW,rfl,_,rfl,X,_,_,V.ref I[i],rfl,rfl,bK.of (b _ _ Pr),(by rw[fB];exact dX (by rw[aj,q];rfl)),?_⟩;refine⟨!(bC d[i]).isEmpty,?_,?_⟩
   ·exact .inl ⟨_,bK.of (b _ _ (y i _ _ q j)),rfl⟩
   cases f:d[i] with
   |nil =>
    refine dQ (gv u b o ?_);rw[zX,G,f];simp
   |cons y0 r0 =>
    refine fF ?_;refine⟨_,rfl,p,_,L,_,_,rfl,b _ _ J,T.dM,T.kh,rfl,s,S,_,rfl,b _ _ m,rfl,_,rfl,_,rfl,s,ln,Y,ns,rs,i,rs[i],a,z,(by show [V.ref s,V.int (0+(i:Int)),V.int (a:Nat)]=_;rw[fB]),M.mono b,A,R,_,rfl,?_⟩;have r:=he _ (aU A);rw[Nt r.1 r.2 R];cases O:KG rs[i].e a with
    |true =>
     refine fF ⟨_,rfl,dR c u b o W ?_⟩;rw[zX,G,f,O,fB];exact (gE _ _).symm
    |false =>
     refine dQ (gv u b o ?_);rw[zX,G,f,O];simp
  ·rintro C U b o rfl
   exact k a v U rfl l b c (by rw[o,gi])
inductive R7(K:af)(vs:List V)(H:Hp)(Q:VK)(E:XK):Prop
 |mk (p C dx:Addr) (s:Int):vs=[.ref p,.int s]->H p=some (.ins C dx [])->Jz K C->dj K C "sender" -> Q .fE (upd H p (.ins C dx [("sender",.int s)]))->R7 K vs H Q E
theorem xH{t:Ad}(T:Txt K mg t):b6 P w K mg base iH 1 t.dY t.lK ["self","sender"]  (R7 K):=by
 refine T.qU.F.jJ EN λH Q E f h=>?_
 ·obtain⟨p,C,a,e,rfl,c,b,d,k⟩:=h
  refine⟨_,(br (fN (pv 0) (pv 1) rfl)),?_⟩
  left
  exact⟨_,rfl,_,rfl,p,C,a,[],rfl,c,b,d,!_,k⟩
inductive Ow(vs:List V)(H:Hp)(Q:VK)(E:XK):Prop
 |mk (p:Addr) (c:Int):vs=[.ref p,.int c]->Q (.bl false) H->Ow  vs H Q E
theorem GK{t:Ad}(T:Txt K mg t):b6 P w K mg base iH 1 t.jW t.nP ["self","caller"]  Ow:=by
 refine T.As.F.jJ Gx λH Q E a h=>?_
 ·obtain⟨p,c,rfl,k⟩:=h
  exact⟨_,oB,k⟩
inductive Ox(vs:List V)(H:Hp)(Q:VK)(E:XK):Prop
 |mk (p:Addr):vs=[.ref p]->Q .fE H->Ox  vs H Q E
theorem zw{t:Ad}(T:Txt K mg t):b6 P w K mg base iH 1 t.gJ t.nQ ["self"]  Ox:=by
 refine T.nZ.F.jJ Gy λH Q E a h=>?_
 ·obtain⟨p,rfl,k⟩:=h
  exact⟨_,(oR lW),k⟩
inductive By(K:af)(vs:List V)(H:Hp)(Q:VK)(E:XK):Prop
 |mk (p C dx:Addr) (s:Int):vs=[.ref p]->H p=some (.ins C dx [("sender",.int s)])->Jz K C->dj K C "sender" -> Q (.int s) H->By K vs H Q E
theorem xJ{t:Ad}(T:Txt K mg t):b6 P w K mg base iH 1 t.fZ t.lM ["self"]  (By K):=by
 refine T.lT.F.jJ EO λH Q E f h=>?_
 ·obtain⟨p,C,a,e,rfl,c,b,d,k⟩:=h
  exact⟨_,(oR (aR (pv 0) rfl)),_,rfl,p,C,a,_,_,rfl,c,b,d,rfl,k⟩
inductive La(C:Addr)(vs:List V)(H:Hp)(Q:VK)(E:XK):Prop
 |mk (p dx:Addr) (s to:Int):vs=[.ref p,.int s,.int to]->H p=some (.ins C dx [])->(∀H',H' p=some (.ins C dx [("sender",.int s),("to",.int to)])->(∀b o,H b=some o->b≠p->H' b=some o)->Q .fE H')->La C vs H Q E
theorem GL{t:Ad}(T:Txt K mg t):b6 P w K mg base iH 2 t.jX t.nR ["self","sender","to"]  (La t.fV):=by
 refine T.Au.F.jJ Gz λH Q E d h=>?_
 ·obtain⟨p,c,g,i,rfl,f,k⟩:=h
  refine⟨_,(ak (fq (Qg (lH rfl T.Wv (v:=.ref t.iR) rfl) T.E1 (xH T) (d.mono (!_)) T.qU.B .nil kG (oA (pv 0) (pv 1)))) (br (fN (pv 0) (pv 2) rfl))),?_⟩
  left
  refine⟨rfl,_,rfl,_,rfl,p,t.fV,c,g,rfl,f,T.pX,T.tY,?_⟩;refine⟨_,rfl,_,rfl,p,t.fV,c,_,rfl,av,T.pX,T.yv,(by show 1<1000;decide),?_⟩;rw[dD (names:=["sender"]) rfl (by decide +kernel)];exact k _ av λb o e a=>by rw[aF a,aF a];exact e
inductive Oz(C:Addr)(vs:List V)(H:Hp)(Q:VK)(E:XK):Prop
 |mk (p dx:Addr) (s to c:Int):vs=[.ref p,.int c]->H p=some (.ins C dx [("sender",.int s),("to",.int to)])->Q (.bl (decide (V.int c=V.int to))) H->Oz C vs H Q E
theorem Jh{t:Ad}(T:Txt K mg t):b6 P w K mg base iH 1 t.kX t.pM ["self","caller"]  (Oz t.fV):=by
 refine T.BK.F.jJ HU λH Q E e h=>?_
 ·obtain⟨p,a,d,f,c,rfl,b,k⟩:=h
  exact⟨_,(oR (qE wO (pv 1) (aR (pv 0) rfl))),_,rfl,_,rfl,p,_,a,_,_,rfl,b,T.pX,T.yv,rfl,rfl,k⟩
inductive OA(C:Addr)(vs:List V)(H:Hp)(Q:VK)(E:XK):Prop
 |mk (p dx:Addr) (s to:Int):vs=[.ref p]->H p=some (.ins C dx [("sender",.int s),("to",.int to)])->Q (.int to) H->OA C vs H Q E
theorem Ji{t:Ad}(T:Txt K mg t):b6 P w K mg base iH 1 t.kY t.pN ["self"]  (OA t.fV):=by
 refine T.vR.F.jJ HV λH Q E d h=>?_
 ·obtain⟨p,a,c,e,rfl,b,k⟩:=h
  exact⟨_,(oR (aR (pv 0) rfl)),_,rfl,p,_,a,_,_,rfl,b,T.pX,T.yv,rfl,k⟩
inductive Fk(C:Addr)(vs:List V)(H:Hp)(Q:VK)(E:XK):Prop
 |mk (p dx:Addr) (s to:Int):vs=[.ref p]->H p=some (.ins C dx [("sender",.int s),("to",.int to)])->Q (.int (s+to+1)) H->Fk C vs H Q E
theorem GN{t:Ad}(T:Txt K mg t):b6 P w K mg base iH 1 t.jY t.nS ["self"]  (Fk t.fV):=by
 refine T.tU.F.jJ GA λH Q E d h=>?_
 ·obtain⟨p,a,c,e,rfl,b,k⟩:=h
  exact⟨_,(oR (aY fC (aY fC (aR (pv 0) rfl) (aR (pv 0) rfl)) aA)),_,rfl,p,_,a,_,_,rfl,b,T.pX,T.tY,rfl,_,rfl,p,_,a,_,_,rfl,b,T.pX,T.yv,rfl,_,_,rfl,rfl,_,_,rfl,rfl,k⟩
inductive OB(C:Addr)(vs:List V)(H:Hp)(Q:VK)(E:XK):Prop
 |mk (p dx:Addr) (s c:Int):vs=[.ref p,.int c]->H p=some (.ins C dx [("sender",.int s)])->Q (.bl (!decide (V.int c=V.int s))) H->OB C vs H Q E
theorem Jj{t:Ad}(T:Txt K mg t):b6 P w K mg base iH 1 t.kZ t.pO ["self","caller"]  (OB t.jd):=by
 refine T.BL.F.jJ HW λH Q E e h=>?_
 ·obtain⟨p,a,d,c,rfl,b,k⟩:=h
  exact⟨_,(oR (qE qd (pv 1) (aR (pv 0) rfl))),_,rfl,_,rfl,p,_,a,_,_,rfl,b,T.yw,T.oh,rfl,rfl,k⟩
inductive R8(C:Addr)(vs:List V)(H:Hp)(Q:VK)(E:XK):Prop
 |mk (p dx:Addr):vs=[.ref p]->H p=some (.ins C dx [])->(∀d H',H d=none->qI C H' p d []->(∀b o,H b=some o->b≠p->H' b=some o)->Q .fE H')->R8 C vs H Q E
theorem Jk{t:Ad}(T:Txt K mg t):b6 P w K mg base iH 1 t.kU t.pK ["self"]  (R8 t.eG):=by
 refine T.vP.F.jJ HQ λH Q E i h=>?_
 ·obtain⟨p,f,rfl,c,k⟩:=h
  refine⟨_,(br (fN (pv 0) Nb rfl)),?_⟩
  left
  refine λd a=>⟨_,rfl,p,t.eG,f,[],rfl,?_,T.yy,T.qy,!_,?_⟩
  ·rw[aF (aH c a)];exact c
  ·refine k d _ a ⟨⟨f,av⟩,?_⟩ λb o e g=>?_
   ·rw[aF (aH c a).symm];exact av
   ·rw[aF g,aF (aH e a)];exact e
inductive R9(C:Addr)(vs:List V)(H:Hp)(Q:VK)(E:XK):Prop
 |mk (p d:Addr) (ts:List T3) (h c r:Int):vs=[.ref p,.int h,.int c,.int r]->qI C H p d ts->ts.length<10000->(∀H',H' d=some (.dT (putK (ts.map iX) (keyOf h c) (.int r)))->(∀b o,H b=some o->b≠d->H' b=some o)->Q .fE H')->R9 C vs H Q E
theorem Ka{t:Ad}(T:Txt K mg t):b6 P w K mg base iH 1 t.nG t.rX ["self","house","caller","rope"]  (R9 t.eG):=by
 refine T.DH.F.jJ JI λH Q E i h=>?_
 ·obtain⟨p,d,q,g,l,r,rfl,⟨⟨n,m⟩,c⟩,j,k⟩:=h
  refine⟨_,(br (Rz (Nd i) (aR (pv 0) rfl) (iE (oA (pv 1) (pv 2))) (pv 3) rfl)),?_⟩
  left
  refine⟨_,rfl,_,rfl,p,t.eG,n,_,_,rfl,m,T.yy,T.qy,rfl,_,rfl,_,rfl,fy,λb a=>?_⟩;have f:d≠b:=aH c a;refine⟨d,_,rfl,Na.t (k:=keyOf g l) (kvs:=q.map iX) (by rw[aF f];exact c) av (by rw[ah];exact Nat.lt_trans j (by show 10000<2^24;decide)),?_⟩;exact k _ av λx o e nx=>by rw[aF nx,aF (aH e a)];exact e
inductive Sa(C:Addr)(vs:List V)(H:Hp)(Q:VK)(E:XK):Prop
 |mk (p d:Addr) (ts:List T3) (h c:Int):vs=[.ref p,.int h,.int c]->qI C H p d ts->(∀H',aD H H'->Q (((Co ts h c).map V.int).getD .fE) H')->Sa C vs H Q E
theorem Kc{t:Ad}(T:Txt K mg t):b6 P w K mg base iH 1 t.nH t.rY ["self","house","caller"]  (Sa t.eG):=by
 refine T.DI.F.jJ JJ λH Q E i h=>?_
 ·obtain⟨p,d,m,c,f,rfl,⟨⟨l,j⟩,e⟩,k⟩:=h
  refine⟨_,(oR (VA (Nd i) (aR (pv 0) rfl) (iE (oA (pv 1) (pv 2))) ⟨rfl,rfl,rfl,rfl⟩)),?_⟩
  left
  refine⟨_,rfl,p,t.eG,l,_,_,rfl,j,T.yy,T.qy,rfl,d,rfl,.inr ⟨_,.inl e⟩,_,rfl,_,rfl,fy,λb g=>?_⟩;have a:=aD.new (o:=.tup [.int c,.int f]) g;refine⟨_,JF.t (k:=keyOf c f) (a _ _ e) av,?_⟩;rw[HD];exact k _ a
inductive Sb(K:af)(C:Addr)(vs:List V)(H:Hp)(Q:VK)(E:XK):Prop
 |mk (p d:Addr) (ts:List T3):vs=[.ref p]->qI C H p d ts->ts.length<2000->(∀l (qs:List Addr) (us:List T3) H',aD H H'->H l=none->H' l=some (.lst (qs.map V.ref))->ic K H' qs us->us.Perm ts->pJ us->Q (.ref l) H')->Sb K C vs H Q E
theorem Kd{t:Ad}(T:Txt K mg t):b6 P w K mg base iH 1 t.nJ t.rZ ["self"]  (Sb K t.eG):=by
 refine T.yt.F.jJ BI λH Q E hr h=>?_
 ·obtain⟨p,d,j,rfl,⟨⟨dx,hp⟩,G⟩,h64,k⟩:=h
  refine⟨_,(oR (cB L3 T.Iu boot_sorted (fY (Yz (gU (kO BI ["noted","rope"] [none,none]) rfl (VW (aba PySem.F.plainAttrs_dict PySem.F.slot_dict_items PySem.F.type_dict_items VV (aR (pv 0) rfl))) (λ_ _ _ _=>by exact (RD K rfl (n:=2) rfl (wM (gS 0 wX) (wM (gS 1 wX) Lx)))) (λ_ _ _ _=>by exact ko) (λ_ _ _ _=>by exact (aY (VY K rfl) (pv 0) (iE (fY (pv 1)))))))))),?_⟩
  left
  refine⟨d,j.map iX,G,?_⟩;refine⟨_,rfl,p,t.eG,dx,_,_,rfl,hp,T.yy,T.qy,rfl,?_⟩;refine⟨.inr (.inr (.inl ⟨rfl,.inr ⟨_,G⟩⟩)),d,_,rfl,rfl,G,λv hv=>?_⟩;have W:=aD.new (o:=HB v d) hv;have y:=av (H:=H) (a:=v) (o:=HB v d);have J:=W _ _ G;generalize upd H v (HB v d)=H1 at W y J;refine⟨v,d,_,rfl,y,J,λo=>?_⟩;intro A f;have g:=av (H:=H1) (a:=d) (o:=.Be o (.dT (j.map iX)));have U:∀{r:Hp},aD (upd H1 d (.Be o (.dT (j.map iX)))) r->aD H (upd r d (.dT (j.map iX))):=λ{r} m b u e=>by
   by_cases z:b=d
   ·subst z
    rw[G] at e;cases e;exact av
   ·rw[aF z]
    exact m _ _ (by rw[aF z];exact W _ _ e)
  generalize upd H1 d (.Be o (.dT (j.map iX)))=H2 at g U f;refine fG (n:=(j.map iX).length) (λi Y r=>∃s:List Addr,Y=s.map V.ref/\ic K r s (j.take i)) f (abE g) (VX g) ⟨[],rfl,ic.nil⟩ ?_ ?_
  ·rintro i Y r X m Z ⟨s,rfl,B⟩ x H4 ⟨q,kb,ky,vv,hq,rfl,rfl,C,L⟩
   have I:i<j.length:=by rw[ah] at X;exact X
   rw[aj,aa I] at C;cases C;generalize N:j[i]=u;have hu:j[i]?=some u:=by rw[aa I,N]
   obtain⟨R,u2,O⟩:=u;rw[N] at L;have u4:=aD.new (o:=.tup [.ref kb,.int O]) hq;refine⟨q,_,rfl,cW.of av,rfl,_,_,rfl,_,_,rfl,rfl,?_⟩;refine⟨_,rfl,_,rfl,Uz,λb hb=>?_⟩;have u5:=aD.new (o:=.tup [V.int O]) hb;refine⟨kb,b,[.int R,.int u2],_,rfl,rfl,cW.of (u5 _ _ (u4 _ _ L)),cW.of av,(-_),iT,λz=>(by cases z),λ_ c hc=>?_⟩;have u6:=aD.new (o:=.tup ([V.int R,.int u2]++[.int O])) hc;have S:=u4.trans (u5.trans u6);have D:=S _ _ Z;have M:s.length=i:=by rw[B.1,bY];lia
   refine dR f X (m.trans S) D (by rw[ah];exact L1 ∅) ⟨s++[c],-_,?_⟩;rw[List.take_add_one,hu];exact ic.past D jD cu (ic.snoc (t:=(R,u2,O)) (B.mono S) (cW.of av))
  ·rintro Y r m Z ⟨s,rfl,B⟩
   have Um:A≠d:=(aH g f).symm;rw[ah,kQ] at B;refine⟨o,m _ _ g,?_⟩;refine⟨A,s,j,rfl,bK.of (by rw[aF Um];exact Z),ic.past (m _ _ g) abG cu B,h64,λl Ek us M hp hs N=>?_⟩;exact k l Ek us _ ((U m).trans (aD.new M)) ((U m).free M) av (N.mono (aD.new M)) hp hs
inductive OC(C:Addr)(vs:List V)(H:Hp)(Q:VK)(E:XK):Prop
 |mk (p d:Addr) (ts:List T3):vs=[.ref p]->qI C H p d ts->(∀d' H',H d'=none->qI C H' p d' []->(∀b o,H b=some o->b≠p->H' b=some o)->Q .fE H')->OC C vs H Q E
theorem Jl{t:Ad}(T:Txt K mg t):b6 P w K mg base iH 1 t.kW t.pL ["self"]  (OC t.eG):=by
 refine T.vQ.F.jJ HR λH Q E j h=>?_
 ·obtain⟨p,d,m,rfl,⟨⟨f,c⟩,l⟩,k⟩:=h
  refine⟨_,(br (fN (pv 0) Nb rfl)),?_⟩
  left
  refine λi a=>⟨_,rfl,p,t.eG,f,[("kept",.ref d)],rfl,?_,T.yy,T.qy,(by show 1<1000;decide),?_⟩
  ·rw[aF (aH c a)];exact c
  ·refine k i _ a ⟨⟨f,av⟩,?_⟩ λb o e g=>?_
   ·rw[aF (aH c a).symm];exact av
   ·rw[aF g,aF (aH e a)];exact e
inductive aeT(K:af)(C:Addr)(vs:List V)(H:Hp)(Q:VK)(E:XK):Prop
 |mk (bk d lo lh:Addr) (ts:List T3) (so cP:Option Int) (nv:Int) (os hs:List Int):vs=[.ref bk,zY so,.int nv,zY cP,.ref lo,.ref lh]->qI C H bk d ts->bK K H lo (os.map V.int)->bK K H lh (hs.map V.int)->os.length<=1000->(∀l H',aD H H'->H l=none->H' l=some (.lst ((V3 ts so nv cP os hs).map V.int))->Q (.ref l) H')->aeT K C vs H Q E
theorem OD{t:Ad}(T:Txt K mg t):b6 P w K mg base iH 2 t.tM t.yi ["book","sought","house","came","open_here","here"]  (aeT K t.eG):=by
 refine T.Ih.F.jJ uR λH Q E hr h=>?_
 ·obtain⟨bk,d,lo,lh,U,so,i,L,os,q,rfl,hB,G,hH,M,k⟩:=h
  refine⟨_,(ak (b4 (kj sG (pv 1) (pv 5) (by with_unfolding_all rfl)) (oR (gZ gD)) aW) (ak (sS 6 uR (zK (qT Vf (pv 1) lW) lW (cM (pv 0) T.yy T.DI (Kc T) hr (oA (pv 2) (pv 1))))) (ak (sS 7 uR (zK (kj sG (pv 6) (pv 4) (by with_unfolding_all rfl)) (gZ (fY (pv 6))) (pv 4))) (oR (gU (kO uR ["rope","came"] [none,some 3]) rfl (gj (pv 7)) (λ_ _ _ _=>by exact (gS 0 HS)) (λ_ _ _ _=>by exact (lI (qT qd (pv 0) (pv 1)))) (λ_ _ _ _=>by exact (pv 0))))))),?_⟩
  left
  obtain⟨dx,I⟩:=hB.ob;refine⟨_,rfl,_,rfl,lh,_,rfl,.inl hH,V2 so,sH q,_,rfl,?_⟩;cases so with
  |none =>
   refine KH (by show Gs .fE _=false;exact HE q) ?_;refine⟨_,rfl,rfl,_,rfl,aen (eH rfl) ?_⟩;refine⟨_,rfl,_,rfl,lo,_,rfl,.inl G,rfl,sH os,_,rfl,KH (by show Gs .fE _=false;exact HE os) ?_⟩;refine⟨_,rfl,_,rfl,lo,rfl,⟨_,G⟩,λc a=>?_⟩;refine sW (kR i) a G M (λx p R S _ u B j=>?_) (λp u g=>k c p u a g);refine⟨_,rfl,_,rfl,Dz x i,_,rfl,?_⟩;exact jC (λe=>⟨_,rfl,B _ (aD.refl _) e⟩) (λe=>j _ (aD.refl _) (neT e))
  |some n =>
   refine jC (λe=>?_) (λe=>?_)
   ·refine⟨bE _,λl v=>k l _ (aD.new v) v ?_⟩
    have J:n∈q:=by
     have e:Gs (.int n) (q.map V.int)=true:=e;rw[sQ] at e;exact ff e
    show _=some (HO.lst (List.map V.int (if n∈q then [] else _)));rw[b3 J];exact av
   ·have J:¬n∈q:=λz=>e (by show Gs (.int n) (q.map V.int)=true;rw[sQ];exact eH z)
    refine⟨_,rfl,rfl,_,rfl,KH (eL λz=>by cases z) ?_⟩;refine⟨_,rfl,bk,dx,_,rfl,I,rfl,_,rfl,_,rfl,bk,d,U,L,n,rfl,hB,λW y=>?_⟩;have m:∀l b,aD H b->H l=none->b l=some (.lst ((match Co U L n with
     |some r=>if r∈os then [r].filter (kR i) else os.filter (kR i)
     |none=>os.filter (kR i)).map V.int))->Q (.ref l) b:=λl b s v g=>k l b s v (by
     show _=some (HO.lst (List.map V.int (if n∈q then [] else _)));rw[b5 J];exact g)
    have f:=y.seq G;cases X:Co U L n with
    |none =>
     rw[X] at m;refine⟨_,rfl,_,rfl,lo,_,rfl,.inl f,rfl,sH os,_,rfl,KH (by show Gs .fE _=false;exact HE os) ?_⟩;refine⟨_,rfl,_,rfl,lo,rfl,⟨_,f⟩,λc a=>?_⟩;refine sW (kR i) a f M (λx p R S _ u B j=>?_) (λp u g=>m c p (y.trans u) (y.free a) g);refine⟨_,rfl,_,rfl,Dz x i,_,rfl,?_⟩;exact jC (λe=>⟨_,rfl,B _ (aD.refl _) e⟩) (λe=>j _ (aD.refl _) (neT e))
    |some r =>
     rw[X] at m;dsimp only[Option.map_some,Option.getD_some];refine⟨_,rfl,_,rfl,lo,_,rfl,.inl f,rfl,sH os,_,rfl,jC (λC=>?_) (λC=>?_)⟩
     ·have A:r∈os:=by
       have C:Gs (.int r) (os.map V.int)=true:=C;rw[sQ] at C;exact ff C
      have m:∀l b,aD H b->H l=none->b l=some (.lst (([r].filter (kR i)).map V.int))->Q (.ref l) b:=λl b s v g=>m l b s v (by
       show _=some (HO.lst (List.map V.int (if r∈os then _ else _)));rw[b3 A];exact g)
      refine⟨_,rfl,Uz,λD N=>?_⟩;have O:=aD.new (o:=.lst [V.int r]) N;have j:bK K (upd W D (.lst [V.int r])) D ([r].map V.int):=bK.of av;generalize upd W D (.lst [V.int r])=p at O j;refine⟨_,rfl,D,rfl,⟨_,j⟩,λc a=>?_⟩;refine sW (kR i) a j (by show 1<=1000;decide) (λx Y R S _ Z B j=>?_) (λY Z g=>m c Y (y.trans (O.trans Z)) (y.free (O.free a)) g);refine⟨_,rfl,_,rfl,Dz x i,_,rfl,?_⟩;exact jC (λe=>⟨_,rfl,B _ (aD.refl _) e⟩) (λe=>j _ (aD.refl _) (neT e))
     ·have A:¬r∈os:=λz=>C (by show Gs (.int r) (os.map V.int)=true;rw[sQ];exact eH z)
      have m:∀l b,aD H b->H l=none->b l=some (.lst ((os.filter (kR i)).map V.int))->Q (.ref l) b:=λl b s v g=>m l b s v (by
       show _=some (HO.lst (List.map V.int (if r∈os then _ else _)));rw[b5 A];exact g)
      refine⟨_,rfl,_,rfl,lo,rfl,⟨_,f⟩,λc a=>?_⟩;refine sW (kR i) a f M (λx p R S _ u B j=>?_) (λp u g=>m c p (y.trans u) (y.free a) g);refine⟨_,rfl,_,rfl,Dz x i,_,rfl,?_⟩;exact jC (λe=>⟨_,rfl,B _ (aD.refl _) e⟩) (λe=>j _ (aD.refl _) (neT e))
inductive Lb(K:af)(C cL c1 cA:Addr)(vs:List V)(H:Hp)(Q:VK)(E:XK):Prop
 |mk (bk d la lo lh:Addr) (ts:List T3) (s to kd nv:Int) (cP:Option Int) (os hs:List Int):vs=[.ref bk,.ref la,.int nv,zY cP,.ref lo,.ref lh]->qI C H bk d ts->FH cL c1 cA H la s to kd->bK K H lo (os.map V.int)->bK K H lh (hs.map V.int)->os.length<=1000->hs.length<=1000->(∀p l1 l2 H',aD H H'->H p=none->H l1=none->H l2=none->l1≠l2->H' p=some (.tup [.ref l1,.ref l2])->H' l1=some (.lst ((hs.filter (HF s to kd)).map V.int))->H' l2=some (.lst ((V3 ts (Bl to kd) nv cP os hs).map V.int))->Q (.ref p) H')->Lb K C cL c1 cA vs H Q E
theorem QU{t:Ad}(T:Txt K mg t):b6 P w K mg base iH 3 t.w9 t.Bp ["book","letter","house","came","open_here","here"]  (Lb K t.eG t.iR t.fV t.jd):=by
 refine T.KR.F.jJ CA λH Q E v h=>?_
 ·obtain⟨W,d,g,lo,G,L,J,A,Z,C,I,os,D,rfl,X,hL,O,z,M,N,k⟩:=h
  refine⟨_,(ak (l9 (i:=6) CA.nd rfl (Or.inl rfl) (kO CA ["caller","letter"] [none,some 1]) rfl (gj (pv 5)) (λ_ _ _ _=>by exact (gS 0 JK)) (λ_ _ _ _=>by exact (lI (jB (Ex (cM (pv 1) T.Im T.As (GK T) v (fY (pv 0))) (Ex (cM (pv 1) T.pX T.BK (Jh T) v (fY (pv 0))) (cM (pv 1) T.yw T.BL (Jj T) v (fY (pv 0)))))))) (λ_ _ _ _=>by exact (pv 0))) (oR (iE (oA (pv 6) (cG (OD T) v T.Ih (aN6 (pv 0) (Ex (iL (pv 1) T.Im T.nZ.m (zw T) (v.mono (!_)) T.nZ.B .nil kG) (Ex (iL (pv 1) T.pX T.vR.m (Ji T) (v.mono (!_)) T.vR.B .nil kG) (iL (pv 1) T.yw T.JS (zw T) (v.mono (!_)) T.nZ.B .nil kG))) (pv 2) (pv 3) (pv 4) (pv 5))))))),?_⟩
  left
  refine⟨_,rfl,G,rfl,⟨_,z⟩,λr q=>?_⟩;refine sW (HF J A Z) q z N (λx Y R S _ b h1 U=>?_) (λY b hy=>?_)
  ·have y:=hL.mono b
   cases y with
   |bare f c =>
    exact .inl ⟨_,rfl,g,f,_,rfl,c,rfl,_,rfl,g,x,rfl,_,rfl,U _ (aD.refl _) rfl⟩
   |one f c =>
    refine .inr (.inl ⟨_,rfl,g,f,_,rfl,c,rfl,_,rfl,g,f,J,A,x,rfl,c,_,rfl,?_⟩);exact jC (λe=>⟨_,rfl,h1 _ (aD.refl _) e⟩) (λe=>U _ (aD.refl _) (neT e))
   |all f c =>
    refine .inr (.inr ⟨_,rfl,g,f,_,rfl,c,rfl,_,rfl,g,f,J,x,rfl,c,_,rfl,?_⟩);exact jC (λe=>⟨_,rfl,h1 _ (aD.refl _) e⟩) (λe=>U _ (aD.refl _) (neT e))
  ·have y:=hL.mono b
   have rest:∀j l,aD Y l->Y j=none->l j=some (.lst ((V3 L (Bl A Z) C I os D).map V.int))->2<=sizeLine/\∀p,l p=none->Q (.ref p) (upd l p (.tup [.ref r,.ref j])):=λj l n a s=>by
    refine⟨!_,λp hp=>?_⟩;have u:=aD.new (o:=.tup [V.ref r,.ref j]) hp;exact k p r j _ ((b.trans n).trans u) (b.free (n.free hp)) q (b.free a) (aH hy a) av (u _ _ (n _ _ hy)) (u _ _ s)
   refine⟨_,rfl,_,rfl,?_⟩;cases y with
   |bare f c =>
    exact .inl ⟨_,rfl,g,f,_,rfl,c,rfl,g,rfl,_,rfl,_,rfl,_,rfl,_,rfl,W,d,lo,G,L,none,I,C,os,D,rfl,X.mono b,b.seq O,b.seq z,M,λj l n a s=>rest j l n a s⟩
   |one f c =>
    exact .inr (.inl ⟨_,rfl,g,f,_,rfl,c,rfl,g,f,J,A,rfl,c,_,rfl,_,rfl,_,rfl,_,rfl,W,d,lo,G,L,some A,I,C,os,D,rfl,X.mono b,b.seq O,b.seq z,M,λj l n a s=>rest j l n a s⟩)
   |all f c =>
    exact .inr (.inr ⟨_,rfl,g,f,_,rfl,c,rfl,g,rfl,_,rfl,_,rfl,_,rfl,_,rfl,W,d,lo,G,L,none,I,C,os,D,rfl,X.mono b,b.seq O,b.seq z,M,λj l n a s=>rest j l n a s⟩)
inductive Lc(K:af)(vs:List V)(H:Hp)(Q:VK)(E:XK):Prop
 |mk (a:Addr) (cs:List Int) (n:Nat):vs=[.ref a,.int n]->bK K H a (cs.map V.int)->1<=n->n<=10->(∀l H' (xs:List Int),aD H H'->H l=none->H' l=some (.lst (xs.map V.int))->xs.length=n->xs.Nodup->(∀x∈xs,0<=x)->Q (.ref l) H')->Lc K vs H Q E
theorem QV{t:Ad}(T:Txt K mg t):b6 P w K mg base iH 2 t.xo t.Bu ["_law_script","_law_size"]  (Lc K):=by
 refine T.KY.F.jJ mC λH Q E N h=>?_
 ·obtain⟨a,cs,n,rfl,M,hn1,hn,k⟩:=h
  refine⟨_,(ak (sS 2 mC (gZ gD)) (ak (fS (d8 rfl T.gV (fY (pv 1))) (gT 3 mC) (ak (sS 4 mC (cG (gp T) N T.gq (oA (pv 0) (aY fC aA (pv 3))))) (ak (sS 5 mC (aY dF (aY eV (pv 4) aA) aA)) (ak (b4 (qT wO (aY dF (pv 4) aA) aA) (br (sS 5 mC (aY dF (aY eV (pv 4) aA) (aY G8 (aY Vd aA aA) aA)))) aW) (ak (U4 PassesOwn.never (kj sG (pv 5) (pv 2) (by with_unfolding_all rfl)) (br (sS 5 mC (aY fC (pv 5) aA)))) (oE (uJ bJ bN bM fR (pv 2) (fY (pv 5))))))))) (ak (b4 (qT wO (aY dF (aY eV (cG (gp T) N T.gq (oA (pv 0) aA)) aA) aA) aA) (oR (Ny (pv 2) (rT (adS aa2 aA)))) aW) (oR (pv 2))))),?_⟩
  left
  refine⟨bE _,λl G=>?_⟩;refine⟨_,rfl,(n:Int),rfl,∅,∅,?_⟩;refine sF (n:=((n:Int)).toNat) (λi f m=>aD H m/\∃(d:List Int) (B A D:Option V),f=[some (.ref a),some (.int n),some (.ref l),B,A,D]/\m l=some (.lst (d.map V.int))/\d.length=i/\d.Nodup/\∀x∈d,0<=x)
   ⟨aD.new G,[],none,none,none,rfl,av,rfl,lG,λx g=>ee g (-_)⟩ ?_ ?_
  ·rintro i f m hi ⟨j,d,B,A,D,rfl,g,O,r,p⟩
   rw[fB];refine⟨_,rfl,_,rfl,_,_,rfl,rfl,a,cs,_,rfl,j.seq M,∅,?_⟩;dsimp only[iG];generalize cs.getD _ 0=c;refine⟨_,rfl,_,_,rfl,rfl,⟨!_,!_⟩,_,_,rfl,rfl,(by show (0:Int)<40;decide),?_⟩;dsimp only[iG];refine abr (λf I=>I=m/\∃z:Int,0<=z/\f=[some (.ref a),some (.int n),some (.ref l),some (.int (i:Nat)),some (.int c),some (.int z)]) ?_ λnx=>?_
   case refine_2 =>
    refine⟨_,rfl,_,_,rfl,rfl,(by show (0:Int)<3;decide),rfl,_,rfl,jC (λe=>?_) (λe=>?_)⟩
    ·exact⟨_,rfl,_,_,rfl,rfl,⟨!_,!_⟩,_,_,rfl,rfl,⟨!_,!_,!_⟩,_,_,rfl,rfl,_,_,rfl,rfl,(by show (0:Int)<10^(60:Int).toNat-20;decide),nx _ _ ⟨rfl,_,bQ _ (!_),rfl⟩⟩
    ·exact nx _ _ ⟨rfl,_,bQ _ (!_),rfl⟩
   rintro f I ⟨rfl,z,C,rfl⟩;refine Va (λf L=>L=I/\∃x:Int,0<=x/\f=[some (.ref a),some (.int n),some (.ref l),some (.int (i:Nat)),some (.int c),some (.int x)])
    (λ(f:L2.St) (_:Hp)=>match f[5]? with|some (some (V.int x))=>above d x|_=>0) ⟨rfl,_,C,rfl⟩ ?_ ?_
   ·rintro f L ⟨rfl,x,J,rfl⟩
    refine⟨_,rfl,_,rfl,l,_,rfl,.inl (bK.of g),rfl,sH d,_,rfl,?_⟩
    try dsimp only
    rw[b5 aC,sQ];refine jC (λc=>?_) (λc=>?_)
    ·have s:x∈d:=ff c
     exact⟨_,rfl,_,_,rfl,rfl,⟨rfl,x+1,∅,rfl⟩,VP s⟩
    ·have s:x∉d:=λz=>c (eH z)
     refine⟨_,rfl,.inl ⟨rfl,_,bK.of g⟩,_,rfl,l,_,_,rfl,rfl,g,?_,?_⟩
     ·rw[ah];exact ck ∅
     ·refine⟨j.out G,d++[x],_,_,_,rfl,?_,?_,Gr.Cn r s,?_⟩
      ·rw[av,aO];rfl
      ·simp[O]
      ·intro y hy
       rcases bz.mp hy with z|z
       ·exact p y z
       ·have:y=x:=by simpa using z
        rw[this];exact J
   ·rintro f L Q1 Q2 Z ⟨v,e1,u,W,q,ys,e3,e4,Y,S,b,U,R⟩
    exact⟨v,e1,u,W,q,ys,e3,e4,Y,S,b,U,Z _ _ R⟩
  ·rintro f m ⟨j,d,B,A,D,rfl,g,O,r,p⟩
   refine⟨_,rfl,a,cs,1,rfl,j.seq M,!_,_,_,rfl,rfl,⟨!_,!_⟩,_,_,rfl,rfl,(by show (0:Int)<2;decide),rfl,_,rfl,jC (λe=>?_) (λe=>?_)⟩
   ·refine⟨_,rfl,_,rfl,_,rfl,l,_,rfl,rfl,bK.of g,λX o=>?_⟩
    rw[<- List.map_reverse];exact k X _ d.reverse (j.trans (aD.new o)) (j.free o) av (by rw[List.length_reverse];lia) ((List.reverse_perm d).nodup_iff.mpr r) λx g=>p x (List.mem_reverse.mp g)
   ·exact⟨_,rfl,k l m d j G g ∅ r p⟩
theorem YU{x:Int}{g:Nat}(d:1<=x)(e:x<=7)(c:g<3):1<=Builtin.bitOr x (1*2^((g:Int)).toNat)/\Builtin.bitOr x (1*2^((g:Int)).toNat)<=7:=by
 have b:x=1∨x=2∨x=3∨x=4∨x=5∨x=6∨x=7:=∅
 have a:g=0∨g=1∨g=2:=∅
 rcases a with rfl|rfl|rfl <;> rcases b with rfl|rfl|rfl|rfl|rfl|rfl|rfl <;> decide +kernel
def aal(K:af)(H:Hp)(l:Addr)(rs:List R5):Prop:=∃qs:List Addr,H l=some (.lst (qs.map V.ref))/\c8 K H qs (rs.map R5.vs)
theorem c8.snoc{K:af}{H:Hp}{qs:List Addr}{xs:List (List V)}{q:Addr}{x:List V}(h:c8 K H qs xs)(d:cW K H q x):c8 K H (qs++[q]) (xs++[x]):=by
 refine⟨by rw[az,az,h.len];rfl,λi a u b c=>?_⟩;by_cases z:i<qs.length
 ·rw[bI z] at b
  rw[bI (h.len▸z)] at c;exact h.at' i a u b c
 ·have e:i=qs.length:=by
   have:=(ai.mp b).1
   rw[az] at this
   have:i<qs.length+1:=this
   lia
  subst e;rw[mX] at b;rw[h.len,mX] at c;cases b;cases c;exact d
inductive Ld(K:af)(vs:List V)(H:Hp)(Q:VK)(E:XK):Prop
 |mk (a:Addr) (cs:List Int) (n g:Nat):vs=[.ref a,.int n,.int g]->bK K H a (cs.map V.int)->1<=n->n<=10->g<3->(∀l H' (rs:List R5),aD H H'->H l=none->aal K H' l rs->rs.length<=14->(∀r∈rs,r.Ok n)->Q (.ref l) H')->Ld K vs H Q E
theorem QW{t:Ad}(T:Txt K mg t):b6 P w K mg base iH 2 t.xq t.Bv ["_law_script","_law_size","_law_group"]  (Ld K):=by
 refine T.KZ.F.jJ dH λH Q E hr h=>?_
 ·obtain⟨a,cs,n,g,rfl,hS,hn1,hn,hg,k⟩:=h
  refine⟨_,(ak (sS 3 dH (gZ gD)) (ak (sS 4 dH aA) (ak (b4 (qT Rj (pv 1) aA) (br (sS 4 dH (aY fC (aY G8 (pv 1) aA) (aY dF (aY eV (cG (gp T) hr T.gq (oA (pv 0) aA)) aA) aA)))) aW) (ak (fS (d8 rfl T.gV (fY (pv 4))) (gT 5 dH) (ak (sS 6 dH (cG (gp T) hr T.gq (oA (pv 0) (aY fC aA (pv 5))))) (ak (sS 7 dH (aY dF (aY eV (pv 6) aA) (pv 1))) (ak (sS 8 dH (aY dF (aY fC (aY fC (pv 7) aA) (aY dF (aY eV (pv 6) aA) (aY G8 (pv 1) aA))) (pv 1))) (ak (b4 (qT rM (pv 5) (aY G8 (pv 1) aA)) (ak (sS 7 dH (aY fC (pv 5) aA)) (br (sS 8 dH (aY dF (aY eV (pv 6) aA) (aY fC (pv 5) aA))))) aW) (ak (sS 9 dH (aY eV (pv 6) aA)) (ak (sS 10 dH (aY fC aA (aY dF (pv 9) aA))) (ak (b4 (qT wO (aY dF (aY eV (pv 9) aA) aA) aA) (br (sS 10 dH (aY fC aA (aY dF (aY eV (pv 9) aA) (aY G8 (aY Vd aA aA) aA))))) aW) (ak (sS 11 dH (aY fC aA (aY dF (aY eV (pv 9) aA) aA))) (ak (b4 (qT Rj (aY dF (aY eV (pv 9) aA) aA) aA) (br (sS 11 dH (aY adV (pv 11) (aY aa0 aA (pv 2))))) aW) (ak (b4 (qT wO (aY dF (pv 6) aA) aA) (br (aaW (i:=7) (j:=8) rfl dH.nd rfl rfl (!_) rfl rfl (oA (pv 8) (pv 7)) rfl)) aW) (oE (uJ bJ bN bM fR (pv 3) (fY (iE (aN5 (pv 7) (pv 8) (pv 10) (aY fC aA (aY dF (aY eV (pv 9) aA) aA)) (pv 11))))))))))))))))) (oR (pv 3)))))),?_⟩
  left
  refine⟨bE _,λl X=>?_⟩;have Z:=aD.new (o:=.lst []) X;have Ng:=av (H:=H) (a:=l) (o:=.lst []);generalize upd H l (.lst [])=H0 at Z Ng;dsimp only[iG];refine bZ λN hN=>?_;refine hN [some (.ref a),some (.int n),some (.int g),some (.ref l),some (.int 0),none,none,none,none,none,none,none] H0 ?_;refine nh (λd H1=>H1=H0/\∃m:Nat,m<=14/\(0<m->2<=n)/\d=[some (.ref a),some (.int n),some (.int g),some (.ref l),some (.int (m:Nat)),none,none,none,none,none,none,none]) ?_ λO nx=>?_
  case refine_2 =>
   refine⟨_,rfl,_,_,rfl,rfl,_,rfl,jC (λe=>?_) (λe=>?_)⟩
   ·have h2:(1:Int)<n:=ff e
    refine⟨_,rfl,_,_,rfl,rfl,_,rfl,a,cs,1,rfl,Z.seq hS,!_,_,_,rfl,rfl,⟨!_,!_⟩,_,_,rfl,rfl,(by show (0:Int)<6;decide),_,_,rfl,rfl,nx _ _ ?_⟩;generalize cs.getD _ 0/3=y;have q1:=bQ y (show (6:Int)≠0 by decide);have q2:=bV y (show (0:Int)<6 by decide);refine⟨rfl,((n:Int)-1+y%6).toNat,∅,λ_=>∅,?_⟩;rw[Int.toNat_of_nonneg ∅];rfl
   ·exact nx _ _ ⟨rfl,0,∅,λz=>ee z (!_),rfl⟩
  rintro d H1 ⟨rfl,m,hm,h2,rfl⟩;refine⟨_,rfl,(m:Int),rfl,∅,∅,?_⟩;refine Hz (n:=((m:Int)).toNat) (λi d v=>aD H v/\∃(rs:List R5) (v5 v6 v7 W I p f:Option V),d=[some (.ref a),some (.int n),some (.int g),some (.ref l),some (.int (m:Nat)),v5,v6,v7,W,I,p,f]/\aal K v l rs/\rs.length=i/\∀r∈rs,r.Ok n)
   ⟨Z,[],_,_,_,_,_,_,_,rfl,⟨[],Ng,⟨rfl,λi q x e=>by cases e⟩⟩,rfl,λr s=>ee s (-_)⟩ ?_ ?_
  ·rintro i d v Nf Gk hi ⟨D,rs,v5,v6,v7,W,I,p,f,rfl,⟨qs,A,wJ⟩,ei,S⟩
   rw[fB];have hi':i<m:=by simpa using hi
   have h2:2<=n:=h2 ∅;refine bZ λNx c9=>?_;refine⟨_,rfl,_,rfl,_,_,rfl,rfl,a,cs,_,rfl,D.seq hS,∅,?_⟩;dsimp only[iG];generalize cs.getD _ 0=c;refine c9 _ _ ?_;obtain⟨o1,o2,o3,o4,o5⟩:=Yp (n:=n) (x:=c/2) (y:=c/13) ∅;refine⟨_,rfl,_,_,rfl,rfl,⟨!_,!_⟩,_,rfl,_,_,rfl,rfl,(by show (0:Int)<n;lia),?_⟩;refine⟨_,rfl,_,_,rfl,rfl,_,rfl,_,_,rfl,rfl,⟨!_,!_⟩,_,rfl,_,_,rfl,rfl,_,_,rfl,rfl,(by show 0<(n:Int)-1;lia),_,_,rfl,rfl,_,rfl,_,_,rfl,rfl,(by show (0:Int)<n;lia),?_⟩;dsimp only[iG];refine nh (λd H3=>H3=v/\∃x y:Int,(0<=x/\x<n/\0<=y/\y<n/\x≠y)/\d=[some (.ref a),some (.int n),some (.int g),some (.ref l),some (.int (m:Nat)),some (.int (i:Nat)),some (.int c),some (.int x),some (.int y),I,p,f]) ?_ λO nx=>?_
   case refine_2 =>
    refine⟨_,rfl,_,rfl,_,_,rfl,rfl,_,_,rfl,rfl,_,rfl,jC (λe=>?_) (λe=>?_)⟩
    ·have e:(i:Int)<(n:Int)-1:=ff e
     refine⟨_,rfl,_,_,rfl,rfl,?_⟩;refine⟨_,rfl,_,_,rfl,rfl,⟨!_,!_⟩,_,rfl,_,_,rfl,rfl,_,_,rfl,rfl,(by show (0:Int)<(i:Int)+1;lia),nx _ _ ⟨rfl,(i:Int)+1,c/2%((i:Int)+1),?_,rfl⟩⟩;have q1:=bQ (c/2) (show (i:Int)+1≠0 by lia);have q2:=bV (c/2) (show (0:Int)<(i:Int)+1 by lia);lia
    ·exact nx _ _ ⟨rfl,_,_,⟨o1,o2,o3,o4,o5⟩,rfl⟩
   rintro d H3 ⟨rfl,x,y,⟨J,L,C,M,R⟩,rfl⟩;refine⟨_,rfl,_,_,rfl,rfl,⟨!_,!_⟩,?_⟩;dsimp only[iG];generalize c/97=rt;refine⟨_,rfl,_,_,rfl,rfl,(by show (0:Int)<3;decide),_,_,rfl,rfl,?_⟩;dsimp only[iG];refine nh (λd H4=>H4=H3/\∃z:Int,1<=z/\d=[some (.ref a),some (.int n),some (.int g),some (.ref l),some (.int (m:Nat)),some (.int (i:Nat)),some (.int c),some (.int x),some (.int y),some (.int rt),some (.int z),f]) ?_ λO nx=>?_
   case refine_2 =>
    refine⟨_,rfl,_,_,rfl,rfl,⟨!_,!_⟩,_,_,rfl,rfl,(by show (0:Int)<3;decide),rfl,_,rfl,jC (λe=>?_) (λe=>?_)⟩
    ·refine⟨_,rfl,_,_,rfl,rfl,⟨!_,!_⟩,_,_,rfl,rfl,⟨!_,!_,!_⟩,_,_,rfl,rfl,_,_,rfl,rfl,(by show (0:Int)<10^(60:Int).toNat-1;decide),_,_,rfl,rfl,nx _ _ ⟨rfl,_,?_,rfl⟩⟩
     have:=bQ (rt/9) (show (10:Int)^(60:Int).toNat-1≠0 by decide)
     lia
    ·refine nx _ _ ⟨rfl,_,?_,rfl⟩
     have:=bQ rt (show (3:Int)≠0 by decide)
     lia
   rintro d H4 ⟨rfl,z,hz,rfl⟩;refine⟨_,rfl,_,_,rfl,rfl,⟨!_,!_⟩,_,_,rfl,rfl,(by show (0:Int)<7;decide),_,_,rfl,rfl,?_⟩;dsimp only[iG];refine nh (λd Y=>Y=H4/\∃e:Int,1<=e/\e<=7/\d=[some (.ref a),some (.int n),some (.int g),some (.ref l),some (.int (m:Nat)),some (.int (i:Nat)),some (.int c),some (.int x),some (.int y),some (.int rt),some (.int z),some (.int e)]) ?_ λO nx=>?_
   case refine_2 =>
    have q1:=bQ (rt/11) (show (7:Int)≠0 by decide);have q2:=bV (rt/11) (show (0:Int)<7 by decide);refine⟨_,rfl,_,_,rfl,rfl,⟨!_,!_⟩,_,_,rfl,rfl,(by show (0:Int)<4;decide),_,_,rfl,rfl,_,rfl,jC (λe=>?_) (λe=>?_)⟩
    ·have b:=YU (x:=1+rt/11%7) ∅ ∅ hg
     exact⟨_,rfl,_,rfl,_,_,rfl,rfl,⟨∅,∅,!_⟩,_,_,rfl,rfl,nx _ _ ⟨rfl,_,b.1,b.2,rfl⟩⟩
    ·exact nx _ _ ⟨rfl,_,∅,∅,rfl⟩
   rintro d Y ⟨rfl,le,le1,le7,rfl⟩;refine nh (λd G=>aD Y G/\∃x y:Int,(0<=x/\x<n/\0<=y/\y<n/\x≠y)/\d=[some (.ref a),some (.int n),some (.int g),some (.ref l),some (.int (m:Nat)),some (.int (i:Nat)),some (.int c),some (.int x),some (.int y),some (.int rt),some (.int z),some (.int le)]) ?_ λO nx=>?_
   case refine_2 =>
    refine⟨_,rfl,_,_,rfl,rfl,(by show (0:Int)<2;decide),rfl,_,rfl,jC (λe=>?_) (λe=>?_)⟩
    ·exact⟨_,rfl,_,rfl,_,_,rfl,nx _ _ ⟨aD.refl _,y,x,⟨C,M,J,L,bP R⟩,rfl⟩⟩
    ·exact nx _ _ ⟨aD.refl _,x,y,⟨J,L,C,M,R⟩,rfl⟩
   rintro d G ⟨s6,x,y,⟨J,L,C,M,R⟩,rfl⟩;have nu:=s6 _ _ A;refine⟨_,rfl,.inl ⟨rfl,_,bK.of nu⟩,_,rfl,_,rfl,_,rfl,_,rfl,_,_,rfl,rfl,⟨!_,!_⟩,_,_,rfl,rfl,(by show (0:Int)<4;decide),_,_,rfl,rfl,_,rfl,aat,λq hq=>?_⟩;have u7:=aD.new (o:=.tup [V.int x,.int y,.int z,.int (1+rt/5%4),.int le]) hq;have B:=av (H:=G) (a:=q) (o:=.tup [V.int x,.int y,.int z,.int (1+rt/5%4),.int le]);generalize upd G q (.tup [V.int x,.int y,.int z,.int (1+rt/5%4),.int le])=H7 at u7 B;have u:=s6.trans u7;have UN:=u _ _ A;have U:=wJ.mono λb x=>u.dw;have q1:=bQ (rt/5) (show (4:Int)≠0 by decide);have q2:=bV (rt/5) (show (0:Int)<4 by decide);refine⟨l,_,_,rfl,rfl,UN,(by rw[ah,wJ.len,ah];exact ck ∅),?_⟩;refine Gk _ _ ⟨(D.trans u).out X,rs++[⟨x,y,z,1+rt/5%4,le⟩],_,_,_,_,_,_,_,rfl,⟨qs++[q],?_,?_⟩,by rw[az,ei];rfl,λr s=>?_⟩
   ·rw[av,aO];rfl
   ·rw[aO]
    exact (c8.snoc U (cW.of B)).mono λb x=>cW.past UN jD cu
   ·rcases bz.mp s with w'|w'
    ·exact S r w'
    ·rw[bf.mp w']
     exact⟨J,L,C,M,R,hz,by show 1<=1+rt/5%4;lia,by show 1+rt/5%4<=4;lia,le1,le7⟩
  ·rintro d v ⟨D,rs,v5,v6,v7,W,I,p,f,rfl,hR,ei,S⟩
   exact⟨_,rfl,k l v rs D X hR (by rw[ei];simpa using hm) S⟩
theorem Le{K:af}{H:Hp}{l q:Addr}{qs:List Addr}{cl:List (Nat×Nat)}{pl a:Nat}(hl:H l=some (.lst (qs.map V.ref)))(d:c8 K H qs (cl.map λc=>[.int c.1,.int c.2]))(e:H q=some (.tup [V.int pl,.int a])) :
 (upd H l (.lst (qs.map V.ref++[.ref q]))) l=some (.lst ((qs++[q]).map V.ref))/\c8 K (upd H l (.lst (qs.map V.ref++[.ref q]))) (qs++[q]) ((cl++[(pl,a)]).map λc=>[.int c.1,.int c.2]):=by
 refine⟨by rw[av,aO];rfl,?_⟩;rw[aO];exact (c8.snoc d (cW.of e)).mono λb x=>cW.past hl jD cu
inductive Gm(K:af)(vs:List V)(H:Hp)(Q:VK)(E:XK):Prop
 |mk (a:Addr) (cs:List Int) (n g:Nat):vs=[.ref a,.int n,.int g]->bK K H a (cs.map V.int)->1<=n->n<=10->g<3->(∀l (qs:List Addr) H' (cl:List (Nat×Nat)),aD H H'->H l=none->H' l=some (.lst (qs.map V.ref))->c8 K H' qs (cl.map λc=>[.int c.1,.int c.2])->1<=cl.length->cl.length<=20->(∀c∈cl,c.1<n/\c.2<3)->Q (.ref l) H')->Gm K vs H Q E
theorem MN{t:Ad}(T:Txt K mg t):b6 P w K mg base iH 2 t.qw t.vd ["_law_script","_law_size","_law_group"]  (Gm K):=by
 refine T.FP.F.jJ ku λH Q E S h=>?_
 ·obtain⟨a,cs,n,g,rfl,W,hn1,hn,hg,k⟩:=h
  refine⟨_,(ak (sS 3 ku (gZ gD)) (ak (sS 4 ku (xL (gZ (HN aA aA aA)) (aY dF (aY eV (cG (gp T) S T.gq (oA (pv 0) aA)) aA) aA))) (ak (fS (d8 rfl T.gV (fY (aY fC aA (aY dF (aY eV (cG (gp T) S T.gq (oA (pv 0) aA)) aA) (pv 4))))) (gT 5 ku) (ak (sS 6 ku (aY eV (cG (gp T) S T.gq (oA (pv 0) (aY fC aA (aY dF (pv 5) aA)))) (aY fC aA (aY PF aA (aY eV (pv 5) aA))))) (ak (sS 7 ku (aY dF (pv 6) (pv 1))) (br (b4 (qT wO (aY dF (aY eV (pv 6) aA) aA) aA) (oE (uJ bJ bN bM fR (pv 3) (fY (iE (oA (pv 7) (aY dF (aY fC (aY fC (pv 2) aA) (aY dF (aY eV (pv 6) aA) aA)) aA)))))) (oE (uJ bJ bN bM fR (pv 3) (fY (iE (oA (pv 7) (pv 2))))))))))) (oR (pv 3))))),?_⟩
  left
  refine⟨bE _,λl J=>?_⟩;have s0:=aD.new (o:=.lst []) J;have Ng:=av (H:=H) (a:=l) (o:=.lst []);generalize upd H l (.lst [])=H0 at s0 Ng;refine⟨iT,λl1 h1=>?_⟩;have O:=aD.new (o:=.lst [V.int 6,V.int 6,V.int 20]) h1;have G:=av (H:=H0) (a:=l1) (o:=.lst [V.int 6,V.int 6,V.int 20]);have C:=O _ _ Ng;have N:=s0.trans O;generalize upd H0 l1 (.lst [V.int 6,V.int 6,V.int 20])=H1 at O G C N;refine⟨_,rfl,a,cs,1,rfl,N.seq W,!_,_,_,rfl,rfl,⟨!_,!_⟩,_,_,rfl,rfl,(by show (0:Int)<3;decide),?_⟩;obtain⟨v,hmo,X⟩:=ahF (x:=6) (y:=6) (z:=20) (i:=cs.getD (1:Int).toNat 0/7%3) 1 20 (!_) (!_) (!_) (bQ _ (!_)) (bV _ (!_));refine⟨l1,_,_,_,rfl,rfl,bK.of G,X,?_⟩;dsimp only[iG];refine⟨_,rfl,a,cs,1,rfl,N.seq W,!_,_,_,rfl,rfl,⟨!_,!_⟩,_,rfl,_,_,rfl,rfl,(by show 0<v;lia),_,_,rfl,rfl,?_⟩;have q1:=bQ (cs.getD (1:Int).toNat 0/36) (show v≠0 by lia);have q2:=bV (cs.getD (1:Int).toNat 0/36) (show 0<v by lia);obtain⟨m,em⟩:∃m:Nat,1+cs.getD (1:Int).toNat 0/36%v=(m:Int):=⟨(1+cs.getD (1:Int).toNat 0/36%v).toNat,∅⟩;have hm1:1<=m:=∅
  have amS:m<=20:=∅
  refine⟨(m:Int),(by rw[<- em]),∅,∅,?_⟩;refine Hz (n:=m) (λi R p=>aD H p/\∃(D:List Addr) (cl:List (Nat×Nat)) (v5 v6 v7:Option V),R=[some (.ref a),some (.int n),some (.int g),some (.ref l),some (.int v),v5,v6,v7]/\p l=some (.lst (D.map V.ref))/\c8 K p D (cl.map λc=>[.int c.1,.int c.2])/\cl.length=i/\∀c∈cl,c.1<n/\c.2<3)
   ⟨N,[],[],_,_,_,rfl,C,⟨rfl,λi q x e=>by cases e⟩,rfl,λc hc=>ee hc (-_)⟩ ?_ ?_
  ·rintro i R p Nf Gk hi ⟨A,D,cl,v5,v6,v7,rfl,d,u,ei,I⟩
   rw[fB];have e6:=bQ (i:Int) (show (6:Int)≠0 by decide);have d6:0<=(i:Int)/6:=Int.ediv_nonneg ∅ (!_);have d6':(i:Int)/6<=20:=∅
   refine⟨_,rfl,_,rfl,_,_,rfl,rfl,(by show (0:Int)<6;decide),_,_,rfl,rfl,a,cs,_,rfl,A.seq W,∅,_,rfl,_,_,rfl,rfl,⟨!_,!_⟩,_,_,rfl,rfl,.inl ⟨!_,!_⟩,_,_,rfl,rfl,_,_,rfl,rfl,⟨∅,∅⟩,?_⟩;dsimp only[iG];generalize cs.getD _ 0/(1+7*((i:Int)/6))=c;refine⟨_,rfl,_,rfl,_,_,rfl,rfl,(by show (0:Int)<n;lia),?_⟩;dsimp only[iG];have L:=bQ c (show (n:Int)≠0 by lia);have M:=bV c (show (0:Int)<n by lia);obtain⟨s,U⟩:∃s:Nat,c%(n:Int)=(s:Int):=⟨(c%(n:Int)).toNat,∅⟩;rw[U];have B:s<n:=∅
   refine⟨_,rfl,_,_,rfl,rfl,⟨!_,!_⟩,_,_,rfl,rfl,(by show (0:Int)<4;decide),rfl,_,rfl,jC (λe=>?_) (λe=>?_)⟩
   ·have g1:=bQ ((g:Int)+1+c/44%2) (show (3:Int)≠0 by decide)
    have g2:=bV ((g:Int)+1+c/44%2) (show (0:Int)<3 by decide);obtain⟨gr,Y⟩:∃gr:Nat,((g:Int)+1+c/44%2)%3=(gr:Int):=⟨(((g:Int)+1+c/44%2)%3).toNat,∅⟩;refine⟨_,rfl,.inl ⟨rfl,_,bK.of d⟩,_,rfl,_,rfl,_,_,rfl,rfl,_,rfl,_,_,rfl,rfl,⟨!_,!_⟩,_,_,rfl,rfl,(by show (0:Int)<2;decide),_,_,rfl,rfl,_,_,rfl,rfl,(by show (0:Int)<3;decide),fy,λq Z=>?_⟩;have r:=aD.new (o:=.tup [V.int s,.int (((g:Int)+1+c/44%2)%3)]) Z;have f:=av (H:=p) (a:=q) (o:=.tup [V.int s,.int (((g:Int)+1+c/44%2)%3)]);generalize upd p q (.tup [V.int s,.int (((g:Int)+1+c/44%2)%3)])=H3 at r f;rw[Y] at f;have j:=r _ _ d;obtain⟨L,M⟩:=Le (cl:=cl) j (u.mono λb x=>r.dw) f;refine⟨l,_,_,rfl,rfl,j,(by rw[ah,u.len,ah];exact ck ∅),Gk _ _ ⟨(A.trans r).out J,_,_,_,_,_,rfl,L,M,by rw[az,ei];rfl,λz hz=>?_⟩⟩;rcases bz.mp hz with w'|w'
    ·exact I z w'
    ·rw[bf.mp w']
     exact⟨B,by show gr<3;lia⟩
   ·refine⟨_,rfl,.inl ⟨rfl,_,bK.of d⟩,_,rfl,_,rfl,fy,λq Z=>?_⟩
    have r:=aD.new (o:=.tup [V.int s,.int g]) Z;have f:=av (H:=p) (a:=q) (o:=.tup [V.int s,.int g]);generalize upd p q (.tup [V.int s,.int g])=H3 at r f;have j:=r _ _ d;obtain⟨L,M⟩:=Le (cl:=cl) j (u.mono λb x=>r.dw) f;refine⟨l,_,_,rfl,rfl,j,(by rw[ah,u.len,ah];exact ck ∅),Gk _ _ ⟨(A.trans r).out J,_,_,_,_,_,rfl,L,M,by rw[az,ei];rfl,λz hz=>?_⟩⟩;rcases bz.mp hz with w'|w'
    ·exact I z w'
    ·rw[bf.mp w']
     exact⟨B,hg⟩
  ·rintro R p ⟨A,D,cl,v5,v6,v7,rfl,d,u,ei,I⟩
   exact⟨_,rfl,k l D p cl A J d u ∅ ∅ I⟩
inductive Jm(K:af)(CT C:Addr)(vs:List V)(H:Hp)(Q:VK)(E:XK):Prop
 |mk (p dx tp ln lr:Addr) (ns:List Int) (rs:List R5):vs=[.ref p,.ref tp]->H p=some (.ins C dx [])->cY K CT H tp ln lr ns rs->rs.length<=20->(∀r∈rs,1<=r.d/\r.d<=4)->(∀lu (ls:List Addr) H',H lu=none->(∀l∈ls,H l=none)->lu∉ls->ls.Nodup->ls.length=rs.length->H' p=some (.ins C dx [("town",.ref tp),("upright",.ref lu)])->H' lu=some (.lst (ls.map V.ref))->(∀(j:Nat) l r,ls[j]?=some l->rs[j]?=some r->H' l=some (.lst (bC (au r.d.toNat))))->(∀b o,H b=some o->b≠p->H' b=some o)->Q .fE H')->Jm K CT C vs H Q E
theorem Ea{t:Ad}(T:Txt K mg t):b6 P w K mg base iH 3 t.iO t.kB ["self","town"]  (Jm K t.aV t.cN):=by
 refine T.xw.F.jJ uS λH Q E hr h=>?_
 ·obtain⟨p,U,A,ln,lr,ns,rs,rfl,hp,hT,zF,hw,k⟩:=h
  refine⟨_,(ak (fN (pv 0) (pv 1) rfl) (br (fN (pv 0) (gU (kO uS ["rope","town"] [none,some 1]) rfl (d8 rfl T.gV (fY (aR (pv 1) rfl))) (λ_ _ _ _=>by exact (gS 0 Ak)) (λ_ _ _ _=>by exact ko) (λ_ _ _ _=>by exact (gu (P7 rfl) (by rfl) T.vU boot_list (fY (gu Ni (by rfl) T.gV boot_range (fY (cG (Gj T) hr T.CH (oA (pv 1) (pv 0))))))))) rfl))),?_⟩
  left
  obtain⟨⟨dt,htp⟩,_⟩:=id hT;have ntp:A≠p:=m5 htp hp λz=>by have:=(HO.ins.inj z).2.2;cases this
  refine⟨_,rfl,_,rfl,p,_,U,[],rfl,hp,T.dM,T.kh,!_,?_⟩;rw[dD (names:=[]) rfl rfl];generalize L:upd H p (.ins t.cN U ([]++[(Str.ofString "town",V.ref A)]))=H1;have Z:∀b o,H b=some o->b≠p->H1 b=some o:=λb o e W=>by rw[<- L,aF W];exact e
  have v:H1 p=some (.ins t.cN U [(Str.ofString "town",V.ref A)]):=by rw[<- L];exact av
  have G:=hT.but Z hp ntp;have f1:∀{l:Addr},H1 l=none->H l=none:=λ{l} e=>by
   cases q:H l with
   |none=>rfl
   |some o =>
    by_cases z:l=p
    ·rw[z,v] at e;cases e
    ·have:=Z _ _ q z
     rw[e] at this;cases this
  obtain⟨⟨dt,ah2⟩,_⟩:=id G;refine⟨_,rfl,A,_,dt,_,_,rfl,ah2,T.fj,T.vh,rfl,_,rfl,(by show -(2^62)<=((rs.length:Nat):Int);lia),(by show ((rs.length:Nat):Int)<2^62;lia),λc a=>?_⟩;refine fG (n:=(((rs.length:Nat):Int)).toNat) (λi ys R=>∃f:List Addr,ys=f.map V.ref/\f.length=i/\f.Nodup/\(∀l∈f,H l=none/\R l≠none)/\∀(j:Nat) l r,f[j]?=some l->rs[j]?=some r->R l=some (.lst (bC (au r.d.toNat)))/\l≠c) a xV ng ⟨[],rfl,rfl,lG,λl u=>(by cases u),λj l r e=>by simp at e⟩ ?_ ?_
  ·rintro i ys R X B N ⟨f,rfl,s,nd,g,m⟩ x H3 ⟨rfl,rfl⟩
   have X:i<rs.length:=by simpa using X
   have G2:rs[i]?=some rs[i]:=aa X;have wi:=hw _ (aU G2);obtain⟨d,ed⟩:∃d:Nat,rs[i].d=(d:Int):=⟨rs[i].d.toNat,∅⟩;refine⟨_,rfl,_,rfl,A,ln,lr,ns,rs,i,rs[i],(by show [V.ref A,V.int (0+(i:Int))]=_;rw[fB]),G.mono B,G2,?_⟩;refine⟨rs[i].d,rfl,λq hq=>?_⟩;have O:=aD.new (o:=.US 0 rs[i].d) hq;refine⟨q,d,rfl,(by rw[av,ed]),∅,λl u=>?_⟩;have Ng:H l=none:=f1 ((B.trans O).free u);have nl:l∉f:=λz=>(g l z).2 (O.free u);have C:=O.trans (aD.new (o:=.lst ((au d).map λk=>V.int (k:Nat))) u);have WQ:=C _ _ N;have Y:(upd (upd H3 q (.US 0 rs[i].d)) l (.lst ((au d).map λk=>V.int (k:Nat)))) l=some (.lst (bC (au d))):=av;have y:l≠c:=(aH (O _ _ N) u).symm;generalize upd (upd H3 q (.US 0 rs[i].d)) l (.lst ((au d).map λk=>V.int (k:Nat)))=H4 at C WQ Y;refine dR a (by simpa using X) (B.trans C) WQ (by rw[ah,s];exact ck ∅) ⟨f++[l],by rw[aO];rfl,by rw[az,s];rfl,Gr.Cn nd nl,λD hl'=>?_,λj D r M I=>?_⟩
   ·rcases bz.mp hl' with z|z
    ·obtain⟨z1,S⟩:=g D z
     refine⟨z1,?_⟩;by_cases q:D=c
     ·rw[q,av];exact aM _
     ·rw[aF q]
      cases e:H3 D with
      |none=>exact ee e S
      |some o=>rw[C _ _ e];exact aM _
    ·rw[bf.mp z]
     exact⟨Ng,by rw[aF y,Y];exact aM _⟩
   ·rcases xX M with M|⟨rfl,rfl⟩
    ·obtain⟨z1,S⟩:=m j D r M I
     exact⟨by rw[aF S];exact C _ _ z1,S⟩
    ·rw[s,G2] at I
     cases I;rw[ed,gi];exact⟨by rw[aF y];exact Y,y⟩
  ·rintro ys R B N ⟨f,rfl,s,nd,g,m⟩
   have s:f.length=rs.length:=by simpa using s
   have npa:p≠c:=aH v a;have J:=B _ _ v;refine⟨_,rfl,p,_,U,_,rfl,J,T.dM,T.fW,(by show 1<1000;decide),?_⟩;rw[dD (names:=["town"]) rfl (by decide +kernel)];refine k c f _ (f1 a) (λl u=>(g l u).1) (λz=>?_) nd s av (by rw[aF (bP npa)];exact N) (λj l r M I=>?_) λb o e W=>by rw[aF W];exact B _ _ (Z _ _ e W)
   ·obtain⟨j,hj⟩:=oK z
    have hjl:=(ai.mp hj).1;exact (m j c _ hj (aa (s▸hjl))).2 rfl
   ·have z:=(m j l r M I).1
    rw[aF (m5 z J (by intro z;cases z))];exact z
inductive Gn(K:af)(C:Addr)(vs:List V)(H:Hp)(Q:VK)(E:XK):Prop
 |mk (tp ln lr:Addr) (ns:List Int) (rs:List R5):vs=[.ref tp]->cY K C H tp ln lr ns rs->ns.length<=12->(∀l (qs:List Addr) H',aD H H'->H l=none->H' l=some (.lst (qs.map V.ref))->c8 K H' qs (gF ns.length (zD ns))->Q (.ref l) H')->Gn K C vs H Q E
theorem Ke{t:Ad}(T:Txt K mg t):b6 P w K mg base iH 3 t.nO t.sj ["town"]  (Gn K t.aV):=by
 refine T.DN.F.jJ BJ λH Q E B h=>?_
 ·obtain⟨s,G,y,ns,z,rfl,u,D,k⟩:=h
  refine⟨_,(oR (gU (kO BJ ["house","town"] [none,some 0]) rfl (d8 rfl T.gV (fY (aR (pv 0) rfl))) (λ_ _ _ _=>by exact (gS 0 EX)) (λ_ _ _ _=>by exact ko) (λ_ _ _ _=>by exact (cG (Jd T) B T.EY (oA (pv 1) (pv 0)))))),?_⟩
  left
  obtain⟨⟨C,o⟩,_⟩:=id u;refine⟨_,rfl,s,_,C,_,_,rfl,o,T.fj,T.mS,rfl,(ns.length:Int),rfl,∅,∅,λl a=>?_⟩;refine fG (n:=((ns.length:Int)).toNat) (λi m j=>∃c:List Addr,m=c.map V.ref/\c8 K j c (gF i (zD ns))) a xV ng ⟨[],rfl,⟨rfl,λi q x e=>by cases e⟩⟩ ?_ ?_
  ·rintro i m j f g r ⟨c,rfl,d⟩ x J ⟨rfl,rfl⟩
   have f:i<ns.length:=by simpa using f
   rw[fB];refine⟨_,rfl,_,rfl,s,G,y,ns,z,i,ns[i],rfl,u.mono g,aa f,λq L p A=>?_⟩;have v:=p _ _ r;have I:c.length=i:=by rw[d.len];simp[gF]
   refine dR a (by simpa using f) (g.trans p) v (by rw[ah];exact ck ∅) ⟨c++[q],by rw[aO];rfl,?_⟩;have e:gF (i+1) (zD ns)=gF i (zD ns)++[c5 ⟨ns[i],0,0,-1⟩]:=by
    unfold gF;rw[gz,aO,bT,List.map_nil];congr 3;unfold zD;rw[aq,aa f];rfl
   rw[e];exact (c8.snoc (d.mono λb x=>p.dw) A).mono λb x=>cW.past v jD cu
  ·rintro m j g r ⟨c,rfl,d⟩
   rw[show ((ns.length:Int)).toNat=ns.length from rfl] at d;exact k l c j g a r d
inductive A8(K:af)(C:Addr)(vs:List V)(H:Hp)(Q:VK)(E:XK):Prop
 |mk (tp ln lr lc:Addr) (ns:List Int) (rs:List R5) (qs:List Addr) (cl:List (Nat×Nat)):vs=[.ref tp,.ref lc]->cY K C H tp ln lr ns rs->bK K H lc (qs.map V.ref)->c8 K H qs (cl.map λc=>[.int c.1,.int c.2])->cl.length<=20->(∀c∈cl,c.1<ns.length/\c.2<3)->Q .fE H->A8 K C vs H Q E
theorem Fl{t:Ad}(T:Txt K mg t):b6 P w K mg base iH 1 t.ju t.lR ["town","callers"]  (A8 K t.aV):=by
 refine T.zj.F.jJ w6 λH Q E O h=>?_
 ·obtain⟨x,R,L,l,ns,M,e,cl,rfl,C,s,A,N,p,k⟩:=h
  refine⟨_,(ak (b4 (qT Rj (lS T.gR (pv 1)) (lH rfl T.Ir (v:=.int 20) ⟨_,rfl⟩)) dJ aW) (br (fS (gj (pv 1)) (gT 2 w6) (ak (b4 (qT qd (lS T.gR (pv 2)) aA) dJ aW) (ak (b4 (gY (jl qe rM aA (xT (pv 2) aA) (aR (pv 0) rfl))) dJ aW) (br (b4 (gY (jl qe rM aA (xT (pv 2) aA) (lS T.gR (lH rfl T.kE (v:=.ref t.dZ) rfl)))) dJ aW))))))),?_⟩
  left
  obtain⟨⟨G,o⟩,_⟩:=id C;have J:e.length=cl.length:=by rw[A.len,ah]
  refine⟨_,rfl,l,_,rfl,.inl s,_,_,rfl,rfl,_,rfl,KH (eL (by rw[ah];lia)) ?_⟩;refine⟨_,rfl,l,rfl,⟨_,s⟩,sO (K:=K) (a:=l) (xs:=e.map V.ref) (λi g f=>f=H/\∃m:Option V,g=[some (.ref x),some (.ref l),m]) ⟨rfl,_,rfl⟩ (λi g f _ z=>by rw[z.1];exact s) ?_ ?_⟩
  ·rintro i y g f n ⟨rfl,m,rfl⟩
   have b:=(ai.mp n).1;rw[ah] at b;have c:i<cl.length:=J▸b;have D:y=.ref e[i]:=by
    rw[aj,aa b] at n;exact (aN n).symm
   subst D;have d:cW K f e[i] [.int cl[i].1,.int cl[i].2]:=A.at' i _ _ (aa b) (by rw[aj,aa c];rfl);obtain⟨u,B⟩:=p _ (aK c);generalize e[i]=q at d;generalize cl[i]=cc at d u B;obtain⟨r,j⟩:=cc;refine⟨_,rfl,q,_,rfl,.inr d,rfl,_,rfl,KH (by show (!decide (V.int 2=V.int 2))=false;rw[eH rfl];rfl) ?_⟩;refine⟨_,rfl,q,_,_,_,rfl,rfl,d,rfl,_,_,rfl,rfl,_,rfl,?_⟩;rw[eH (show (0:Int)<=(r:Int) by lia)];refine fF ⟨_,rfl,x,_,G,_,_,rfl,o,T.fj,T.mS,rfl,_,_,rfl,rfl,_,rfl,?_⟩;rw[eH (show (r:Int)<(ns.length:Int) by have:r<ns.length:=u;lia)];refine dQ ?_;refine⟨_,rfl,q,_,_,_,rfl,rfl,d,rfl,_,_,rfl,rfl,_,rfl,?_⟩;rw[eH (show (0:Int)<=(j:Int) by lia)];refine fF ⟨_,_,rfl,.inr (T.fL _),_,_,rfl,rfl,_,rfl,?_⟩;have I:decide ((j:Int)<((([.int 1,.int 2,.int 4]:List V).length:Nat):Int))=true:=eH (by show (j:Int)<3;have:j<3:=B;lia);rw[I];exact dQ ⟨rfl,_,rfl⟩
  ·rintro g f ⟨rfl,m,rfl⟩
   exact k
end
noncomputable abbrev nc(t:Ad):NC:=⟨t.cC,t.cN,t.eG,t.jv,t.iR,t.fV,t.jd⟩
section
variable{P:Program}{w:World}{K:af}{mg:Str->Option Value}{base:Heap}
inductive Lf(K:af)(CT:Addr)(c:NC)(vs:List V)(H:Hp)(Q:VK)(E:XK):Prop
 |mk (p dx tp ln lr lc:Addr) (ns:List Int) (rs:List R5) (qs:List Addr) (cl:List (Nat×Nat)):vs=[.ref p,.ref tp,.ref lc]->H p=some (.ins c.cV dx [])->cY K CT H tp ln lr ns rs->ns.length<=12->rs.length<=20->(∀r∈rs,1<=r.d/\r.d<=4)->bK K H lc (qs.map V.ref)->c8 K H qs (cl.map λc=>[.int c.1,.int c.2])->cl.length<=20->(∀c∈cl,c.1<ns.length/\c.2<3)->(∀F H',dm K c H' F p tp ns.length (S0 ns rs cl)->(∀b o,H b=some o->b≠p->H' b=some o)->(∀b,F b->b=p∨H b=none)->Q .fE H')->Lf K CT c vs H Q E
noncomputable abbrev nf(fs:List (Str×V))(k:Str)(v:V):List (Str×V):=fs++[(k,v)]
structure Gp(K:af)(CT:Addr)(H:Hp)(tp ln lr lc:Addr)(ns:List Int)(rs:List R5)(qs:List Addr)(cl:List (Nat×Nat)):Prop where
 qh:cY K CT H tp ln lr ns rs
 YV:bK K H lc (qs.map V.ref)
 tup:c8 K H qs (cl.map λc=>[.int c.1,.int c.2])
theorem Gp.mono{g e f a d:Addr}{H c:Hp}{ns:List Int}{rs:List R5}{qs:List Addr}{cl:List (Nat×Nat)}(h:Gp K g H e f a d ns rs qs cl)(s:aD H c):Gp K g c e f a d ns rs qs cl:=⟨h.qh.mono s,s.seq h.YV,h.tup.mono λb x=>s.dw⟩
theorem Gp.put{d a i f g p C l:Addr}{H:Hp}{ns:List Int}{rs:List R5}{qs:List Addr}{cl:List (Nat×Nat)}{j:List (Str×V)}{o:HO}(h:Gp K d H a i f g ns rs qs cl)(c:H p=some (.ins C l j))(n:a≠p):Gp K d (upd H p o) a i f g ns rs qs cl :=
 ⟨h.qh.but (λb u e k=>by rw[aF k];exact e) c n,bK.past c V1 cu h.YV,h.tup.mono λb x=>cW.past c nj cu⟩
theorem xK(la:Nat->Addr)(i:Nat)(l:Addr):(au (i+1)).map (λg=>V.ref (iB la i l g))=(au i).map (λg=>V.ref (la g))++[.ref l]:=by
 rw[gz,aO,bT,List.map_nil,cZ];congr 1;refine cF λg a=>?_;rw[fH (bD (cT.mp a))]
noncomputable def ab3(loc:Role->Addr)(acc:Addr)(la:Nat->Addr):Role->Addr
 |.uO=>acc
 |.rows g=>la g
 |r=>loc r
noncomputable def obR(ob:Role->Option HO)(la:Nat->Addr)(rq:Nat->List Addr)(i:Nat):Role->Option HO
 |.uO=>some (.lst ((au i).map λg=>.ref (la g)))
 |.rows g=>if g<i then some (.lst ((rq g).map V.ref)) else none
 |r=>ob r
noncomputable def YW(loc:Role->Addr)(acc:Addr)(lb ld:Nat->Addr):Role->Addr
 |.i0=>acc
 |.book g=>lb g
 |.fh g=>ld g
 |r=>loc r
noncomputable def Jf(C:Addr)(ob:Role->Option HO)(QX lb ld:Nat->Addr)(i:Nat):Role->Option HO
 |.i0=>some (.lst ((au i).map λg=>.ref (lb g)))
 |.book g=>if g<i then some (.ins C (QX g) [("kept",.ref (ld g))]) else none
 |.fh g=>if g<i then some (.dT []) else none
 |r=>ob r
noncomputable def aeU(loc:Role->Addr)(acc:Addr)(lh:Nat->Addr):Role->Addr
 |.jG=>acc
 |.handed g=>lh g
 |r=>loc r
noncomputable def obH(ob:Role->Option HO)(lh:Nat->Addr)(i:Nat):Role->Option HO
 |.jG=>some (.lst ((au i).map λg=>.ref (lh g)))
 |.handed g=>if g<i then some (.lst []) else none
 |r=>ob r
noncomputable def dxF(dx WY:Addr)(QX:Nat->Addr):Role->Addr
 |.cV=>dx
 |.cK=>WY
 |.book g=>QX g
 |_=>0
noncomputable def aeV(p sp lu:Addr)(ls:List Addr)(acc:Addr)(la:Nat->Addr)(acb:Addr)(lb ld:Nat->Addr)(XD YX YY:Addr)(lh:Nat->Addr)(acl ia:Addr):Role->Addr
 |.cV=>p
 |.cK=>sp
 |.c6=>lu
 |.f9 i=>ls.getD i 0
 |.uO=>acc
 |.rows g=>la g
 |.i0=>acb
 |.book g=>lb g
 |.fh g=>ld g
 |.bg=>XD
 |.groups=>YX
 |.jG=>YY
 |.handed i=>lh i
 |.cD=>acl
 |.eX=>ia
 |_=>0
theorem Kf{t:Ad}(T:Txt K mg t):b6 P w K mg base iH 5 t.nL t.r8 ["self","town","callers"]  (Lf K t.aV (nc t)):=by
 refine T.DL.F.jJ jx λH Q E hr h=>?_
 ·obtain⟨p,s,y,ln,lr,lc,ns,rs,qs,cl,rfl,hp,hT,h12,zF,hw,hL,wJ,WZ,hok,k⟩:=h
  refine⟨_,(ak (fq (cG (Fl T) hr T.zj (oA (pv 1) (pv 2)))) (ak (fN (pv 0) (pv 1) rfl) (ak (fN (pv 0) (cI T.xw (Ea T) hr T.T9 (fY (pv 1))) rfl) (ak (fN (pv 0) (gU (kO jx ["bit","town"] [none,some 1]) rfl (PD (lH rfl T.kE (v:=.ref t.dZ) rfl)) (λ_ _ _ _=>by exact (gS 0 ES)) (λ_ _ _ _=>by exact ko) (λ_ _ _ _=>by exact (cG (Ke T) hr T.DN (fY (pv 1))))) rfl) (ak (fN (pv 0) (gU (kO jx ["bit"] [none]) rfl (PD (lH rfl T.kE (v:=.ref t.dZ) rfl)) (λ_ _ _ _=>by exact (gS 0 ET)) (λ_ _ _ _=>by exact ko) (λ_ _ _ _=>by exact (Vn T.vP.M (Jk T) (hr.mono (!_)) rfl T.abS T.vP.B .nil kG))) rfl) (ak (fN (pv 0) (gU (kO jx ["caller"] [none]) rfl (gj (pv 2)) (λ_ _ _ _=>by exact (gS 0 EU)) (λ_ _ _ _=>by exact ko) (λ_ _ _ _=>by exact (yT K (pv 0) aA))) rfl) (ak (fN (pv 0) (gU (kO jx ["caller"] [none]) rfl (gj (pv 2)) (λ_ _ _ _=>by exact (gS 0 EV)) (λ_ _ _ _=>by exact ko) (λ_ _ _ _=>by exact (yT K (pv 0) aA))) rfl) (ak (fN (pv 0) (gU (kO jx ["caller"] [none]) rfl (gj (pv 2)) (λ_ _ _ _=>by exact (gS 0 EW)) (λ_ _ _ _=>by exact ko) (λ_ _ _ _=>by exact (gZ gD))) rfl) (ak (fN (pv 0) (gZ gD) rfl) (br (fN (pv 0) (gZ gD) rfl))))))))))),?_⟩
  left
  obtain⟨⟨dt,htp⟩,htn,vs,htr,_⟩:=id hT;have Z:y≠p:=m5 htp hp λz=>by have:=(HO.ins.inj z).2.2;cases this
  refine bZ λNx L=>?_;refine⟨_,rfl,_,rfl,y,ln,lr,lc,ns,rs,qs,cl,rfl,hT,hL,wJ,WZ,hok,L _ _ ?_⟩;have B0:Gv H H p (λ_=>p) (λr=>if r=.cV then some (.ins t.cC s []) else none):=by
   refine⟨⟨λr o e=>?_,λr q h1 h2 _=>?_⟩,rfl,-_,λb o e _=>e,λb hb=>.inl ?_⟩
   ·by_cases z:r=.cV
    ·rw[b3 z] at e;cases e;exact hp
    ·rw[b5 z] at e;cases e
   ·have g:∀{r:Role},(if r=Role.cV then some (HO.ins t.cC s []) else none)≠none->r=.cV:=λ{r} h=>by
     by_cases z:r=.cV
     ·exact z
     ·rw[b5 z] at h;exact ee rfl h
    rw[g h1,g h2]
   ·obtain⟨_,_,e⟩:=hb
    exact e.symm
  refine bZ λNx L=>?_;refine⟨_,rfl,_,rfl,p,_,s,[],rfl,hp,T.bw,T.mG,!_,?_⟩;rw[dD (names:=[]) rfl rfl];refine L _ _ ?_;have B1:=B0.put (.ins t.cC s ([]++[(Str.ofString "town",V.ref y)]));have hT1:cY K t.aV (upd H p (.ins t.cC s ([]++[(Str.ofString "town",V.ref y)]))) y ln lr ns rs:=hT.but (λb o e n=>by rw[aF n];exact e) hp Z;have hp1:=av (H:=H) (a:=p) (o:=.ins t.cC s ([]++[(Str.ofString "town",V.ref y)]));have kq1:∀b x,cW K H b x->cW K (upd H p (.ins t.cC s ([]++[(Str.ofString "town",V.ref y)]))) b x:=λb x=>cW.past hp nj cu;have hL1:=bK.past hp V1 (cu (o:=.ins t.cC s ([]++[(Str.ofString "town",V.ref y)]))) hL;have ab5:=wJ.mono kq1;generalize upd H p (.ins t.cC s ([]++[(Str.ofString "town",V.ref y)]))=H1 at B1 hT1 hp1 hL1 ab5;refine bZ λNx L=>?_;refine⟨_,rfl,λI WY nsp su hne=>?_⟩;have t2:aD H1 (upd (upd H1 WY (.own I)) I (.ins t.cN WY [])):=(aD.new su).trans (aD.new (by rw[aF (bP hne)];exact nsp));refine⟨I,WY,y,ln,lr,ns,rs,rfl,av,hT1.mono t2,zF,hw,λlu J H2 Pr hls nlu nd el h2p h2u h2w kp=>⟨rfl,?_⟩⟩;have s2:aD H1 H2:=λb o e=>kp b o (t2 b o e) (aH e nsp);have aeX:H1 lu=none:=t2.free Pr;have aeY:∀l∈J,H1 l=none:=λl hl=>t2.free (hls l hl);have OS:vD H2 (YA I lu J) (TU t.cN WY y lu J (rs.map λr=>au r.d.toNat)):=by
   refine abJ h2p h2u (by rw[ah];exact el) (λi l w' e1 e2=>?_) nd nlu;rw[aj] at e2;cases e3:rs[i]? with
   |none=>rw[e3] at e2;cases e2
   |some r=>rw[e3] at e2;cases e2;exact h2w i l r e1 e3
  have B2:=B1.join OS rfl (λr m=>by
   cases r <;> first|exact ee rfl m|skip
   ·exact nsp
   ·exact aeX
   ·rename_i i
    show H1 (J.getD i 0)=none;by_cases z:i<J.length
    ·rw[aq,aa z]
     exact aeY _ (aK z)
    ·exact ee (show ((rs.map λr:R5=>au r.d.toNat)[i]?.map λw=>HO.lst (bC w))=none by rw[jj (by rw[ah];lia)];rfl) m) s2
  have aeZ:Gp K t.aV H2 y ln lr lc ns rs qs cl:=⟨hT1.mono s2,s2.seq hL1,ab5.mono λb x=>s2.dw⟩;have hp2:=s2 _ _ hp1;refine⟨_,rfl,p,_,s,_,rfl,hp2,T.bw,T.lB,(by show 1<1000;decide),?_⟩;rw[dD (names:=["town"]) rfl (by decide +kernel)];refine L _ _ ?_;have B3:=B2.put (.ins t.cC s (([]++[(Str.ofString "town",V.ref y)])++[(Str.ofString "strands",V.ref I)]));have ab7:=aeZ.put hp2 Z (o:=.ins t.cC s (([]++[(Str.ofString "town",V.ref y)])++[(Str.ofString "strands",V.ref I)]));have hp3:=av (H:=H2) (a:=p) (o:=.ins t.cC s (([]++[(Str.ofString "town",V.ref y)])++[(Str.ofString "strands",V.ref I)]));generalize upd H2 p (.ins t.cC s (([]++[(Str.ofString "town",V.ref y)])++[(Str.ofString "strands",V.ref I)]))=H3 at B3 ab7 hp3;generalize ah5:(λr=>if (TU t.cN WY y lu J (rs.map λr:R5=>au r.d.toNat) r).isSome=true then YA I lu J r else p)=Jo at B3;generalize xy:(iA (λr=>if (TU t.cN WY y lu J (rs.map λr:R5=>au r.d.toNat) r).isSome=true then TU t.cN WY y lu J (rs.map λr:R5=>au r.d.toNat) r else iA (λr=>if r=.cV then some (.ins t.cC s []) else none) .cV (.ins t.cC s ([]++[(Str.ofString "town",V.ref y)])) r) .cV (.ins t.cC s (([]++[(Str.ofString "town",V.ref y)])++[(Str.ofString "strands",V.ref I)])))=lV at B3;refine bZ λNx L=>?_;refine⟨_,rfl,⟨_,T.fL _⟩,λA hacc=>?_⟩;refine fG (n:=3) (λi ys U=>∃(W:Nat->Addr) (G:Nat->List Addr),ys=(au i).map (λg=>.ref (W g))/\Gv H U p (ab3 Jo A W) (obR lV W G i)/\(∀g,g<i->c8 K U (G g) (gF ns.length (zD ns)))) hacc (Qc (T.fL _)) (Hy (T.fL _)) ?_ ?_ ?_
  ·refine⟨λ_=>0,λ_=>[],rfl,(B3.new hacc (r:=.uO) (!_) (.lst [])).ext (λr=>?_) (λr m=>?_),λg D=>ee D ∅⟩
   ·cases r <;> first|rfl|skip
    rename_i g;show lV (.rows g)=_;rw[show lV (.rows g)=none by rw[<- xy];rfl];show none=(if g<0 then some (HO.lst (([]:List Addr).map V.ref)) else none);rw[b5 (Nat.not_lt_zero g)]
   ·cases r <;> first|rfl|skip
    rename_i g;exact ee (show lV (.rows g)=none by rw[<- xy];rfl) m
  ·rintro i ys U X sx O ⟨W,G,rfl,B,hR⟩ x H4 ⟨rfl,hx⟩
   refine⟨_,rfl,y,ln,lr,ns,rs,rfl,(ab7.mono sx).qh,h12,λl Ek H5 s5 hl h5 ht=>?_⟩;have hy5:=s5 _ _ O;have B5:=((B.add s5 hl h5 (r:=.rows i) (λz=>by cases z)).abI (r:=.uO) (aM _) (λz=>by cases z) (.lst ((au i).map (λg=>V.ref (W g))++[.ref l])));have hl5:l≠A:=(aH O hl).symm;refine dR hacc X (sx.trans s5) hy5 (by rw[ah,aX];exact ck ∅) ⟨iB W i l,iB G i Ek,(xK W i l).symm,B5.ext (λr=>?_) (λr m=>?_),λg D=>?_⟩
   ·cases r <;> first|rfl|skip
    ·show some (HO.lst _)=some (HO.lst _)
     rw[xK]
    ·rename_i g
     show iA (obR lV W G i) (.rows i) _ (.rows g)=if g<i+1 then some (HO.lst ((iB G i Ek g).map V.ref)) else none
     by_cases z:g=i
     ·subst z
      rw[dB,b3 ∅,cZ]
     ·rw[cJ (λe=>z (by cases e;rfl)),fH z]
      show (if g<i then some (HO.lst ((G g).map V.ref)) else none)=_;by_cases z2:g<i
      ·rw[b3 z2,b3 ∅]
      ·rw[b5 z2,b5 ∅]
   ·cases r <;> first|rfl|skip
    rename_i g;show qJ (ab3 Jo A W) (.rows i) l (.rows g)=iB W i l g;by_cases z:g=i
    ·subst z
     rw[fD,cZ]
    ·rw[eY (λe=>z (by cases e;rfl)),fH z]
     rfl
   ·by_cases z:g=i
    ·subst z
     rw[cZ];exact ht.mono λb x=>cW.past hy5 jD cu
    ·rw[fH z]
     exact ((hR g ∅).mono λb x=>s5.dw).mono λb x=>cW.past hy5 jD cu
  rintro ys H4 s4 O ⟨W,G,rfl,B4,hR4⟩;have ae1:=ab7.mono s4;have UK:=s4 _ _ hp3;refine⟨_,rfl,p,_,s,_,rfl,UK,T.bw,T.kL,(by show 2<1000;decide),?_⟩;rw[dD (names:=["town","strands"]) rfl (by decide +kernel)];refine L _ _ ?_;generalize eo5:HO.ins t.cC s ((([]++[(Str.ofString "town",V.ref y)])++[(Str.ofString "strands",V.ref I)])++[(Str.ofString "rows_by_group",V.ref A)])=o5;have B5:=B4.put o5;have ab8:=ae1.put UK Z (o:=o5);have hp5:=av (H:=H4) (a:=p) (o:=o5);have hR5:∀g,g<3->c8 K (upd H4 p o5) (G g) (gF ns.length (zD ns)):=λg D=>(hR4 g D).mono λb x=>cW.past UK nj cu;generalize upd H4 p o5=H5 at B5 ab8 hp5 hR5;generalize ae3:ab3 Jo A W=W0 at B5;generalize ab9:iA (obR lV W G 3) .cV o5=YZ at B5;have n5:∀g,YZ .i0=none/\YZ (.book g)=none/\YZ (.fh g)=none:=λg=>by rw[<- ab9,<- xy];exact⟨rfl,rfl,rfl⟩
  refine bZ λNx L=>?_;refine⟨_,rfl,⟨_,T.fL _⟩,λC Y0=>?_⟩;refine fG (n:=3) (λi ys U=>∃(N ld QX:Nat->Addr),ys=(au i).map (λg=>.ref (N g))/\Gv H U p (YW W0 C N ld) (Jf t.eG YZ QX N ld i)) Y0 (Qc (T.fL _)) (Hy (T.fL _)) ?_ ?_ ?_
  ·refine⟨λ_=>0,λ_=>0,λ_=>0,rfl,(B5.new Y0 (r:=.i0) (λz=>by cases z) (.lst [])).ext (λr=>?_) (λr m=>?_)⟩
   ·cases r <;> first|rfl|skip
    ·rename_i g
     show YZ (.book g)=(if g<0 then some (HO.ins t.eG 0 [("kept",.ref 0)]) else none);rw[b5 (Nat.not_lt_zero g)];exact (n5 g).2.1
    ·rename_i g
     show YZ (.fh g)=(if g<0 then some (HO.dT []) else none);rw[b5 (Nat.not_lt_zero g)];exact (n5 g).2.2
   ·cases r <;> first|rfl|skip
    ·rename_i g
     exact ee (n5 g).2.1 m
    ·rename_i g
     exact ee (n5 g).2.2 m
  ·rintro i ys U X sx O ⟨N,ld,QX,rfl,B⟩ x H6 ⟨rfl,hx⟩
   refine λbp Ej nbp ah9 hne=>?_;have t6:aD H6 (upd (upd H6 Ej (.own bp)) bp (.ins t.eG Ej [])):=(aD.new ah9).trans (aD.new (by rw[aF (bP hne)];exact nbp));refine⟨bp,Ej,rfl,av,λd H7 hd hB kp=>⟨rfl,?_⟩⟩;have s7:aD H6 H7:=λb o e=>kp b o (t6 b o e) (aH e nbp);have hd6:H6 d=none:=t6.free hd;obtain⟨⟨V6,h7b⟩,h7d⟩:=hB;have nbd:bp≠d:=Qn h7b h7d (λe=>by cases e);have sm:aD H6 (hide H7 d):=λb o e=>by
    have nb:b≠d:=aH e hd6;show (if b=d then none else H7 b)=some o;rw[b5 nb];exact s7 _ _ e
   have sm2:aD (hide H7 d) H7:=λb o e=>by
    have e:(if b=d then none else H7 b)=some o:=e;by_cases z:b=d
    ·rw[b3 z] at e;cases e
    ·rw[b5 z] at e;exact e
   have hmb:(hide H7 d) bp=some (.ins t.eG V6 [("kept",.ref d)]):=by
    show (if bp=d then none else H7 bp)=_;rw[b5 nbd];exact h7b
   have hmd:(hide H7 d) d=none:=b3 rfl;have B1:=B.add sm nbp hmb (r:=.book i) (λz=>by cases z);have B2:=B1.add sm2 hmd h7d (r:=.fh i) (λz=>by cases z);have B3:=B2.abI (r:=.i0) (aM _) (λz=>by cases z) (.lst ((au i).map (λg=>V.ref (N g))++[.ref bp]));refine dR Y0 X (sx.trans s7) (s7 _ _ O) (by rw[ah,aX];exact ck ∅) ⟨iB N i bp,iB ld i d,iB QX i V6,(xK N i bp).symm,B3.ext (λr=>?_) (λr m=>?_)⟩
   ·cases r <;> first|rfl|skip
    ·show some (HO.lst _)=some (HO.lst _)
     rw[xK]
    ·rename_i g
     show iA (Jf t.eG YZ QX N ld i) (.book i) _ (.book g)=if g<i+1 then some (HO.ins t.eG (iB QX i V6 g) [("kept",.ref (iB ld i d g))]) else none
     by_cases z:g=i
     ·subst z
      rw[dB,b3 ∅,cZ,cZ]
     ·rw[cJ (λe=>z (by cases e;rfl)),fH z,fH z]
      show (if g<i then some (HO.ins t.eG (QX g) [("kept",.ref (ld g))]) else none)=_;by_cases z2:g<i
      ·rw[b3 z2,b3 ∅]
      ·rw[b5 z2,b5 ∅]
    ·rename_i g
     show iA (iA (Jf t.eG YZ QX N ld i) (.book i) _) (.fh i) _ (.fh g)=if g<i+1 then some (HO.dT []) else none
     by_cases z:g=i
     ·subst z
      rw[dB,b3 ∅];rfl
     ·rw[cJ (λe=>z (by cases e;rfl))]
      show (if g<i then some (HO.dT []) else none)=_;by_cases z2:g<i
      ·rw[b3 z2,b3 ∅]
      ·rw[b5 z2,b5 ∅]
   ·cases r <;> first|rfl|skip
    ·rename_i g
     show qJ (YW W0 C N ld) (.book i) bp (.book g)=iB N i bp g;by_cases z:g=i
     ·subst z
      rw[fD,cZ]
     ·rw[eY (λe=>z (by cases e;rfl)),fH z]
      rfl
    ·rename_i g
     show qJ (qJ (YW W0 C N ld) (.book i) bp) (.fh i) d (.fh g)=iB ld i d g;by_cases z:g=i
     ·subst z
      rw[fD,cZ]
     ·rw[eY (λe=>z (by cases e;rfl)),fH z]
      rfl
  rintro ys H6 s6 O ⟨N,ld,QX,rfl,B6⟩;have ae4:=ab8.mono s6;have hR6:∀g,g<3->c8 K H6 (G g) (gF ns.length (zD ns)):=λg D=>(hR5 g D).mono λb x=>s6.dw;have uw:=s6 _ _ hp5;subst eo5;refine⟨_,rfl,p,_,s,_,rfl,uw,T.bw,T.qz,(by show 3<1000;decide),?_⟩;rw[dD (names:=["town","strands","rows_by_group"]) rfl (by decide +kernel)];refine L _ _ ?_;generalize eo7:HO.ins t.cC s (((([]++[(Str.ofString "town",V.ref y)])++[(Str.ofString "strands",V.ref I)])++[(Str.ofString "rows_by_group",V.ref A)])++[(Str.ofString "books",V.ref C)])=o7;have B7:=B6.put o7;have QY:=ae4.put uw Z (o:=o7);have hp7:=av (H:=H6) (a:=p) (o:=o7);have hR7:∀g,g<3->c8 K (upd H6 p o7) (G g) (gF ns.length (zD ns)):=λg D=>(hR6 g D).mono λb x=>cW.past uw nj cu;generalize upd H6 p o7=H7 at B7 QY hp7 hR7;have yz:(qs.map V.ref).length=cl.length:=by rw[ah,QY.tup.len,ah]
  have ae6:∀{i:Nat} {x:V} {U:Hp},(qs.map V.ref)[i]?=some x->Gp K t.aV U y ln lr lc ns rs qs cl->∃(X:i<cl.length) (q:Addr),x=.ref q/\cW K U q [.int cl[i].1,.int cl[i].2]:=λ{i x U} hx ev=>by
   have X:=(ai.mp hx).1;rw[yz] at X;have hq:i<qs.length:=by rw[<- ah (f:=V.ref),yz];exact X
   refine⟨X,qs[i],?_,ev.tup.at' i _ _ (aa hq) (by rw[aj,aa X];rfl)⟩;rw[aj,aa hq] at hx;exact (aN hx).symm
  refine bZ λNx L=>?_;refine⟨_,rfl,lc,rfl,⟨_,QY.YV⟩,λXD acf=>?_⟩;refine RI (λi=>cl[i]?.map λc=>V.int (c.1:Nat)) acf QY.YV ∅ (λi x U R S hx sx h1 h2=>?_) (λH8 s8 O=>?_)
  ·obtain⟨X,q,rfl,hq⟩:=ae6 hx (QY.mono sx)
   exact⟨_,rfl,q,_,_,_,rfl,rfl,hq,rfl,h1 _ _ (aD.refl _) (by rw[aa X];rfl)⟩
  rw[yz,HJ] at O;have B8:=B7.add s8 acf O (r:=.bg) (λz=>by cases z);have ae7:=QY.mono s8;have Y3:=s8 _ _ hp7;subst eo7;refine⟨_,rfl,p,_,s,_,rfl,Y3,T.bw,T.qA,(by show 4<1000;decide),?_⟩;rw[dD (names:=["town","strands","rows_by_group","books"]) rfl (by decide +kernel)];refine L _ _ ?_;generalize eo9:HO.ins t.cC s ((((([]++[(Str.ofString "town",V.ref y)])++[(Str.ofString "strands",V.ref I)])++[(Str.ofString "rows_by_group",V.ref A)])++[(Str.ofString "books",V.ref C)])++[(Str.ofString "homes",V.ref XD)])=o9;have B9:=B8.put o9;have Uo:=ae7.put Y3 Z (o:=o9);have hp9:=av (H:=H8) (a:=p) (o:=o9);have hR9:∀g,g<3->c8 K (upd H8 p o9) (G g) (gF ns.length (zD ns)):=λg D=>((hR7 g D).mono λb x=>s8.dw).mono λb x=>cW.past Y3 nj cu;generalize upd H8 p o9=H9 at B9 Uo hp9 hR9;refine bZ λNx L=>?_;refine⟨_,rfl,lc,rfl,⟨_,Uo.YV⟩,λYX aci=>?_⟩;refine RI (λi=>cl[i]?.map λc=>V.int (c.2:Nat)) aci Uo.YV ∅ (λi x U R S hx sx h1 h2=>?_) (λPo C8 O=>?_)
  ·obtain⟨X,q,rfl,hq⟩:=ae6 hx (Uo.mono sx)
   exact⟨_,rfl,q,_,_,_,rfl,rfl,hq,rfl,h1 _ _ (aD.refl _) (by rw[aa X];rfl)⟩
  rw[yz,HJ] at O;have B10:=B9.add C8 aci O (r:=.groups) (λz=>by cases z);have aao:=Uo.mono C8;have Y4:=C8 _ _ hp9;subst eo9;refine⟨_,rfl,p,_,s,_,rfl,Y4,T.bw,T.oi,(by show 5<1000;decide),?_⟩;rw[dD (names:=["town","strands","rows_by_group","books","homes"]) rfl (by decide +kernel)];refine L _ _ ?_;generalize aie:HO.ins t.cC s (((((([]++[(Str.ofString "town",V.ref y)])++[(Str.ofString "strands",V.ref I)])++[(Str.ofString "rows_by_group",V.ref A)])++[(Str.ofString "books",V.ref C)])++[(Str.ofString "homes",V.ref XD)])++[(Str.ofString "groups",V.ref YX)])=l5;have V7:=B10.put l5;have Sd:=aao.put Y4 Z (o:=l5);have acj:=av (H:=Po) (a:=p) (o:=l5);have ack:∀g,g<3->c8 K (upd Po p l5) (G g) (gF ns.length (zD ns)):=λg D=>((hR9 g D).mono λb x=>C8.dw).mono λb x=>cW.past Y4 nj cu;generalize upd Po p l5=n7 at V7 Sd acj ack;generalize acm:qJ (qJ (YW W0 C N ld) .bg XD) .groups YX=aap at V7;generalize aaq:iA (iA (iA (iA (iA (Jf t.eG YZ QX N ld 3) .cV _) .bg _) .cV _) .groups _) .cV l5=W1 at V7;have n11:∀g,W1 .jG=none/\W1 (.handed g)=none:=λg=>by rw[<- aaq,<- ab9,<- xy];exact⟨rfl,rfl⟩
  refine bZ λNx L=>?_;refine⟨_,rfl,lc,rfl,⟨_,Sd.YV⟩,λYY Um=>?_⟩;refine fG (n:=(qs.map V.ref).length) (λi ys U=>∃Y:Nat->Addr,ys=(au i).map (λg=>.ref (Y g))/\Gv H U p (aeU aap YY Y) (obH W1 Y i)) Um (zU Sd.YV) (qg Sd.YV) ?_ ?_ ?_
  ·refine⟨λ_=>0,rfl,(V7.new Um (r:=.jG) (λz=>by cases z) (.lst [])).ext (λr=>?_) (λr m=>?_)⟩
   ·cases r <;> first|rfl|skip
    rename_i g;show W1 (.handed g)=(if g<0 then some (HO.lst []) else none);rw[b5 (Nat.not_lt_zero g)];exact (n11 g).2
   ·cases r <;> first|rfl|skip
    rename_i g;exact ee (n11 g).2 m
  ·rintro i ys U X sx O ⟨Y,rfl,B⟩ x Y5 ⟨rfl,hx⟩
   refine⟨bE _,λl hl=>?_⟩;have u:=aD.new (o:=.lst []) hl;have B3:=(B.new hl (r:=.handed i) (λz=>by cases z) (.lst [])).abI (r:=.jG) (aM _) (λz=>by cases z) (.lst ((au i).map (λg=>V.ref (Y g))++[.ref l]));refine dR Um X (sx.trans u) (u _ _ O) (by rw[ah,aX];exact ck ∅) ⟨iB Y i l,(xK Y i l).symm,B3.ext (λr=>?_) (λr m=>?_)⟩
   ·cases r <;> first|rfl|skip
    ·show some (HO.lst _)=some (HO.lst _)
     rw[xK]
    ·rename_i g
     show iA (obH W1 Y i) (.handed i) _ (.handed g)=if g<i+1 then some (HO.lst []) else none
     by_cases z:g=i
     ·subst z
      rw[dB,b3 ∅]
     ·rw[cJ (λe=>z (by cases e;rfl))]
      show (if g<i then some (HO.lst []) else none)=_;by_cases z2:g<i
      ·rw[b3 z2,b3 ∅]
      ·rw[b5 z2,b5 ∅]
   ·cases r <;> first|rfl|skip
    rename_i g;show qJ (aeU aap YY Y) (.handed i) l (.handed g)=iB Y i l g;by_cases z:g=i
    ·subst z
     rw[fD,cZ]
    ·rw[eY (λe=>z (by cases e;rfl)),fH z]
     rfl
  rintro ys Y5 s12 O ⟨Y,rfl,B12⟩;rw[yz] at B12;have ae9:∀g,g<3->c8 K Y5 (G g) (gF ns.length (zD ns)):=λg D=>(ack g D).mono λb x=>s12.dw;have acn:=s12 _ _ acj;subst aie;refine⟨_,rfl,p,_,s,_,rfl,acn,T.bw,T.DO,(by show 6<1000;decide),?_⟩;rw[dD (names:=["town","strands","rows_by_group","books","homes","groups"]) rfl (by decide +kernel)];refine L _ _ ?_;generalize aih:HO.ins t.cC s ((((((([]++[(Str.ofString "town",V.ref y)])++[(Str.ofString "strands",V.ref I)])++[(Str.ofString "rows_by_group",V.ref A)])++[(Str.ofString "books",V.ref C)])++[(Str.ofString "homes",V.ref XD)])++[(Str.ofString "groups",V.ref YX)])++[(Str.ofString "handed",V.ref YY)])=MP;have B13:=B12.put MP;have acp:=av (H:=Y5) (a:=p) (o:=MP);have acq:∀g,g<3->c8 K (upd Y5 p MP) (G g) (gF ns.length (zD ns)):=λg D=>(ae9 g D).mono λb x=>cW.past acn nj cu;generalize upd Y5 p MP=jb at B13 acp acq;refine bZ λNx L=>?_;refine⟨bE _,λacl acs=>?_⟩;have B14:=B13.new acs (r:=.cD) (λz=>by cases z) (.lst []);have u14:=aD.new (o:=.lst []) acs;have Y6:=u14 _ _ acp;have acu:∀g,g<3->c8 K (upd jb acl (.lst [])) (G g) (gF ns.length (zD ns)):=λg D=>(acq g D).mono λb x=>u14.dw;generalize upd jb acl (.lst [])=H14 at B14 Y6 acu;subst aih;refine⟨_,rfl,p,_,s,_,rfl,Y6,T.bw,T.dS,(by show 7<1000;decide),?_⟩;rw[dD (names:=["town","strands","rows_by_group","books","homes","groups","handed"]) rfl (by decide +kernel)];refine L _ _ ?_;generalize aim:HO.ins t.cC s (((((((([]++[(Str.ofString "town",V.ref y)])++[(Str.ofString "strands",V.ref I)])++[(Str.ofString "rows_by_group",V.ref A)])++[(Str.ofString "books",V.ref C)])++[(Str.ofString "homes",V.ref XD)])++[(Str.ofString "groups",V.ref YX)])++[(Str.ofString "handed",V.ref YY)])++[(Str.ofString "letters",V.ref acl)])=JH;have B15:=B14.put JH;have afa:=av (H:=H14) (a:=p) (o:=JH);have afb:∀g,g<3->c8 K (upd H14 p JH) (G g) (gF ns.length (zD ns)):=λg D=>(acu g D).mono λb x=>cW.past Y6 nj cu;generalize upd H14 p JH=H15 at B15 afa afb;refine⟨bE _,λia afc=>?_⟩;have B16:=B15.new afc (r:=.eX) (λz=>by cases z) (.lst []);have u16:=aD.new (o:=.lst []) afc;have acv:=u16 _ _ afa;have afd:∀g,g<3->c8 K (upd H15 ia (.lst [])) (G g) (gF ns.length (zD ns)):=λg D=>(afb g D).mono λb x=>u16.dw;generalize upd H15 ia (.lst [])=H16 at B16 acv afd;subst aim;refine⟨_,rfl,p,_,s,_,rfl,acv,T.bw,T.je,(by show 8<1000;decide),?_⟩;rw[dD (names:=["town","strands","rows_by_group","books","homes","groups","handed","letters"]) rfl (by decide +kernel)];generalize ain:HO.ins t.cC s ((((((((([]++[(Str.ofString "town",V.ref y)])++[(Str.ofString "strands",V.ref I)])++[(Str.ofString "rows_by_group",V.ref A)])++[(Str.ofString "books",V.ref C)])++[(Str.ofString "homes",V.ref XD)])++[(Str.ofString "groups",V.ref YX)])++[(Str.ofString "handed",V.ref YY)])++[(Str.ofString "letters",V.ref acl)])++[(Str.ofString "copies",V.ref ia)])=o17;have B17:=B16.put o17;have afe:∀g,g<3->c8 K (upd H16 p o17) (G g) (gF ns.length (zD ns)):=λg D=>(afd g D).mono λb x=>cW.past acv nj cu;generalize upd H16 p o17=H17 at B17 afe;subst ain aaq acm ab9 ae3 xy ah5;have hws:(rs.map λr:R5=>au r.d.toNat).length=J.length:=by rw[ah];exact el.symm
  have aip:J.map V.ref=(au (rs.map λr:R5=>au r.d.toNat).length).map λi=>V.ref (J.getD i 0):=by
   rw[hws];refine xR (-_) λi h1 h2=>?_;simp at h1;simp[h1]
  have U9:Gv H H17 p (aeV p I lu J A W C N ld XD YX YY Y acl ia) (desc (nc t) (dxF s WY QX) y (aeV p I lu J A W C N ld XD YX YY Y acl ia) ⟨G,λ_=>[],[]⟩ (S0 ns rs cl)):=by
   refine B17.ext (λr=>?_) (λr m=>?_)
   ·cases r <;> first|rfl|skip
    case c6 =>
     show some (HO.lst (J.map V.ref))=some (HO.lst ((au (rs.map λr:R5=>au r.d.toNat).length).map λi=>V.ref (J.getD i 0)));rw[<- aip]
    case f9 j =>
     show (if ((rs.map λr:R5=>au r.d.toNat)[j]?.map λw=>HO.lst (bC w)).isSome=true then ((rs.map λr:R5=>au r.d.toNat)[j]?.map λw=>HO.lst (bC w)) else none)=((rs.map λr:R5=>au r.d.toNat)[j]?.map λw=>HO.lst (bC w));cases (rs.map λr:R5=>au r.d.toNat)[j]? <;> rfl
    case bg =>
     show some (HO.lst _)=some (HO.lst ((cl.map (·.1)).map _));rw[cz];rfl
    case groups =>
     show some (HO.lst _)=some (HO.lst ((cl.map (·.2)).map _));rw[cz];rfl
    case jG =>
     show some (HO.lst ((au cl.length).map λg=>V.ref (Y g)))=some (HO.lst ((au (cl.map λ_=>([]:List Nat)).length).map λg=>V.ref (Y g)));rw[ah]
    case handed j =>
     show (if j<cl.length then some (HO.lst []) else none)=((cl.map λ_=>([]:List Nat))[j]?.map λw=>HO.lst (bC w));rw[aj];by_cases z:j<cl.length
     ·rw[b3 z,aa z]
      rfl
     ·rw[b5 z,jj ∅]
      rfl
   ·cases r <;> first|rfl|exact ee rfl m|skip
    case f9 j =>
     show (if ((rs.map λr:R5=>au r.d.toNat)[j]?.map λw=>HO.lst (bC w)).isSome=true then J.getD j 0 else p)=J.getD j 0;have m:(if ((rs.map λr:R5=>au r.d.toNat)[j]?.map λw=>HO.lst (bC w)).isSome=true then ((rs.map λr:R5=>au r.d.toNat)[j]?.map λw=>HO.lst (bC w)) else none)≠none:=m;cases e:(rs.map λr:R5=>au r.d.toNat)[j]? with
     |none=>rw[e] at m;exact ee rfl m
     |some w'=>rfl
  refine k _ H17 ⟨_,dxF s WY QX,⟨G,λ_=>[],[]⟩,U9.np,U9.own,λb=>Iff.rfl,⟨afe,λi l e=>?_,⟨rfl,λi q x e=>by cases e⟩⟩⟩ U9.kp U9.fr;cases e
inductive MO(K:af)(c:NC)(vs:List V)(H:Hp)(Q:VK)(E:XK):Prop
 |mk (F:Addr->Prop) (p tp:Addr) (n g:Nat) (s:NS):vs=[.ref p,.int g]->dm K c H F p tp n s->g<3->(∀l (qs:List Addr) H',aD H H'->H l=none->H' l=some (.lst (qs.map V.ref))->c8 K H' qs (gF n (s.R g))->Q (.ref l) H')->MO K c vs H Q E
theorem mU{t:Ad}(T:Txt K mg t):b6 P w K mg base iH 2 t.tO t.yk ["self","group"]  (MO K (nc t)):=by
 refine T.mE.F.jJ NP λH Q E i h=>?_
 ·obtain⟨F,p,m,n,g,st,rfl,⟨a,s,q,j,O,r,f⟩,c,k⟩:=h
  refine⟨_,(ak (fq (Bf (uA T) (i.mono (!_)) rfl T.eS.g T.eS.F.kp T.eS.B .nil KD (fY (pv 1)))) (oR (gu iy (by rfl) T.vU boot_list (fY (xL (aR (pv 0) rfl) (pv 1)))))),?_⟩
  left
  have e:=O.get .cV _ rfl;rw[j] at e;refine⟨_,rfl,g,rfl,λ_=>?_,λz=>ee ⟨∅,∅⟩ z⟩;refine⟨_,rfl,p,_,_,_,_,rfl,e,T.bw,T.kL,rfl,_,rfl,a .uO,_,_,_,rfl,rfl,bK.of (O.get .uO _ rfl),oS c,a (.rows g),_,rfl,.inl (bK.of (O.get (.rows g) _ (b3 c))),λl d=>?_⟩;have u:=aD.new (o:=.lst ((q.rq g).map V.ref)) d;exact k l (q.rq g) _ u d av ((f.rows g c).mono λb x=>u.dw)
inductive Se(K:af)(CT:Addr)(c:NC)(vs:List V)(H:Hp)(Q:VK)(E:XK):Prop
 |mk (F:Addr->Prop) (p tp ln lr:Addr) (ns:List Int) (rs:List R5) (s:NS) (g:Nat):vs=[.ref p,.int g]->NW K c CT H F p tp ln lr ns rs s->eZ ns rs->zZ ns rs s->g<3->(∀l H',aD H H'->H l=none->H' l=some (.lst (bC (uP rs s.ws g)))->Q (.ref l) H')->Se K CT c vs H Q E
theorem A9{t:Ad}(T:Txt K mg t):b6 P w K mg base iH 3 t.tP t.yl ["self","group"]  (Se K t.aV (nc t)):=by
 refine T.yu.F.jJ NQ λH Q E n h=>?_
 ·obtain⟨F,p,d,C,f,A,j,st,g,rfl,N,ok,u,I,k⟩:=h
  refine⟨_,(oR (rS (aR (pv 0) rfl) T.dM T.tW.m (GJ T) (n.mono (!_)) T.tW.B .nil KD (fY (pv 1)))),?_⟩
  left
  obtain⟨a,y,q,v,O,G,D⟩:=N.cV;have c:=O.get .cV _ rfl;rw[v] at c;refine⟨_,rfl,p,_,_,_,_,rfl,c,T.bw,T.lB,rfl,a .cK,y .cK,_,rfl,O.get .cK _ rfl,rfl,_,rfl,a .cK,d,a .c6,C,f,A,j,st.ws,g,rfl,N.qh,O.strAt,u.wl,ok.sC,(λr b=>⟨(ok.ok r b).e1,(ok.ok r b).e7⟩),λi l o J _ x s e=>?_,λz=>ee ⟨∅,∅⟩ z⟩
  have:i=g:=∅
  subst this;exact k l o x s e
inductive Jp(K:af)(CT:Addr)(c:NC)(vs:List V)(H:Hp)(Q:VK)(E:XK):Prop
 |mk (F:Addr->Prop) (p tp ln lr:Addr) (ns:List Int) (rs:List R5) (s:NS) (o:eZ ns rs) (g:Nat):vs=[.ref p,.int g]->NW K c CT H F p tp ln lr ns rs s->zZ ns rs s->g<3->(∀l os H',aD H H'->H l=none->H' l=some (.lst (bC os))->d9 (mh ns rs o s.ws g) (s.R g) os->os.length<=12->Q (.ref l) H')->Jp K CT c vs H Q E
theorem yZ{t:Ad}(T:Txt K mg t):b6 P w K mg base iH 6 t.qq t.uY ["self","group"]  (Jp K t.aV (nc t)):=by
 refine T.ve.F.jJ Mc λH Q E e h=>?_
 ·obtain⟨F,p,d,r,m,ns,n,st,ok,g,rfl,N,o,f,k⟩:=h
  refine⟨_,(oR (Bf (Ou T) (e.mono (!_)) rfl T.Az T.DJ.F.kp T.DJ.B .nil kG (HN (aR (pv 0) rfl) (cM (pv 0) T.bw T.yu (A9 T) e (fY (pv 1))) (cM (pv 0) T.bw T.mE (mU T) e (fY (pv 1)))))),?_⟩
  left
  obtain⟨s,Y,q,L,O,U,S⟩:=id N.cV;have c:=O.get .cV _ rfl;rw[L] at c;refine⟨_,rfl,p,_,_,_,_,rfl,c,T.bw,T.mG,rfl,?_⟩;refine⟨_,rfl,p,_,_,rfl,c,rfl,_,rfl,F,p,d,r,m,ns,n,st,g,rfl,N,ok,o,f,λv V a J M=>?_⟩;have j:=N.mono a;refine⟨_,rfl,p,_,_,rfl,a _ _ c,rfl,_,rfl,F,p,d,ns.length,g,st,rfl,j.cV,f,λx W X b y C D=>?_⟩;refine⟨d,r,m,v,x,ns,n,_,ok.nd,ok.ok,z6,st.R g,rfl,j.qh.mono b,bK.of (b _ _ M),D.LV (bK.of C),by have:=ok.MV;lia,ok.sC,o.fit g f,λl os A I z u G i=>?_⟩;exact k l os A (a.trans (b.trans I)) ((a.trans b).free z) u G i
inductive Jq(K:af)(c:NC)(vs:List V)(H:Hp)(Q:VK)(E:XK):Prop
 |mk (F:Addr->Prop) (p tp:Addr) (n g:Nat) (s:NS):vs=[.ref p,.int g]->dm K c H F p tp n s->g<3->(s.ts g).length<2000->(∀l (qs:List Addr) (us:List T3) H',aD H H'->H l=none->H' l=some (.lst (qs.map V.ref))->ic K H' qs us->us.Perm (s.ts g)->pJ us->Q (.ref l) H')->Jq K c vs H Q E
theorem Eb{t:Ad}(T:Txt K mg t):b6 P w K mg base iH 2 t.qt t.uZ ["self","group"]  (Jq K (nc t)):=by
 refine T.Ax.F.jJ Me λH Q E d h=>?_
 ·obtain⟨F,p,j,n,g,st,rfl,⟨a,i,q,f,O,o,l⟩,b,c,k⟩:=h
  refine⟨_,(ak (fq (Bf (uA T) (d.mono (!_)) rfl T.eS.g T.eS.F.kp T.eS.B .nil KD (fY (pv 1)))) (oR (iL (xL (aR (pv 0) rfl) (pv 1)) T.yy T.yt.m (Kd T) (d.mono (!_)) T.yt.B .nil kG))),?_⟩
  left
  have e:=O.get .cV _ rfl;rw[f] at e;refine⟨_,rfl,g,rfl,λ_=>?_,λz=>ee ⟨∅,∅⟩ z⟩;exact⟨_,rfl,p,_,_,_,_,rfl,e,T.bw,T.qz,rfl,_,rfl,a .i0,_,_,_,rfl,rfl,bK.of (O.get .i0 _ rfl),oS b,a (.book g),i (.book g),_,rfl,O.get (.book g) _ (b3 b),rfl,a (.book g),a (.fh g),st.ts g,rfl,O.LU b,c,k⟩
inductive OE(K:af)(CT:Addr)(c:NC)(vs:List V)(H:Hp)(Q:VK)(E:XK):Prop
 |mk (F:Addr->Prop) (p tp ln lr:Addr) (ns:List Int) (rs:List R5) (s:NS) (h:Nat):vs=[.ref p,.int h]->NW K c CT H F p tp ln lr ns rs s->h<ns.length->Q .fE H->OE K CT c vs H Q E
theorem C5{t:Ad}(T:Txt K mg t):b6 P w K mg base iH 1 t.iD t.jI ["self","house"]  (OE K t.aV (nc t)):=by
 refine T.vg.F.jJ CF λH Q E n h=>?_
 ·obtain⟨F,p,d,r,i,ns,j,st,x,rfl,N,m,k⟩:=h
  refine⟨_,(br (b4 (gY (jl qe rM aA (pv 1) (aR (aR (pv 0) rfl) rfl))) dJ aW)),?_⟩
  left
  obtain⟨c,o,q,f,O,l,g⟩:=id N.cV;obtain⟨⟨e,a⟩,_⟩:=id N.qh;have b:=O.get .cV _ rfl;rw[f] at b;refine⟨_,rfl,_,_,rfl,rfl,_,rfl,?_⟩;rw[eH (show (0:Int)<=(x:Int) by lia)];refine fF ⟨_,rfl,p,_,_,_,_,rfl,b,T.bw,T.mG,rfl,d,_,e,_,_,rfl,a,T.fj,T.mS,rfl,_,_,rfl,rfl,_,rfl,?_⟩;rw[eH (show (x:Int)<(ns.length:Int) by lia)];exact dQ k
inductive Lg(K:af)(c:NC)(vs:List V)(H:Hp)(Q:VK)(E:XK):Prop
 |mk (F:Addr->Prop) (p tp:Addr) (n x:Nat) (s:NS):vs=[.ref p,.int x]->dm K c H F p tp n s->x<s.bg.length->Q .fE H->Lg K c vs H Q E
theorem rP{t:Ad}(T:Txt K mg t):b6 P w K mg base iH 1 t.gO t.i9 ["self","caller"]  (Lg K (nc t)):=by
 refine T.mF.F.jJ BF λH Q E i h=>?_
 ·obtain⟨F,p,d,n,x,st,rfl,⟨a,j,q,c,O,f,e⟩,g,k⟩:=h
  refine⟨_,(br (b4 (gY (jl qe rM aA (pv 1) (lS T.gR (aR (pv 0) rfl)))) dJ aW)),?_⟩
  left
  have b:=O.get .cV _ rfl;rw[c] at b;refine⟨_,rfl,_,_,rfl,rfl,_,rfl,?_⟩;rw[eH (show (0:Int)<=(x:Int) by lia)];refine fF ⟨_,rfl,p,_,_,_,_,rfl,b,T.bw,T.qA,rfl,a .bg,_,rfl,.inl (bK.of (O.get .bg _ rfl)),_,_,rfl,rfl,_,rfl,?_⟩;rw[ah,eH (show (x:Int)<(st.bg.length:Int) by lia)];exact dQ k
inductive OF(K:af)(CT:Addr)(c:NC)(vs:List V)(H:Hp)(Q:VK)(E:XK):Prop
 |mk (F:Addr->Prop) (p tp ln lr:Addr) (ns:List Int) (rs:List R5) (s:NS) (h g:Nat):vs=[.ref p,.int h,.int g]->NW K c CT H F p tp ln lr ns rs s->h<ns.length->g<3->(∀q H',aD H H'->cW K H' q (c5 (s.R g h))->Q (.ref q) H')->OF K CT c vs H Q E
theorem Kg{t:Ad}(T:Txt K mg t):b6 P w K mg base iH 3 t.nM t.se ["self","house","group"]  (OF K t.aV (nc t)):=by
 refine T.DM.F.jJ JN λH Q E f h=>?_
 ·obtain⟨F,p,d,z,m,ns,n,st,x,g,rfl,N,e,s,k⟩:=h
  refine⟨_,(ak (fq (cM (pv 0) T.bw T.vg (C5 T) f (fY (pv 1)))) (oR (xL (cM (pv 0) T.bw T.mE (mU T) f (fY (pv 2))) (pv 1)))),?_⟩
  left
  obtain⟨j,G,q,u,O,B,A⟩:=id N.cV;have b:=O.get .cV _ rfl;rw[u] at b;refine⟨_,rfl,p,_,_,rfl,b,rfl,_,rfl,F,p,d,z,m,ns,n,st,x,rfl,N,e,?_⟩;refine⟨_,rfl,p,_,_,rfl,b,rfl,_,rfl,F,p,d,ns.length,g,st,rfl,N.cV,s,λl c y r C o i=>?_⟩;have D:c.length=ns.length:=by rw[i.len];simp[gF]
  have a:x<c.length:=∅
  refine⟨_,rfl,l,_,_,_,rfl,rfl,bK.of o,dX (v:=.ref c[x]) (by rw[aj,aa a];rfl),k _ y r (i.at' x _ _ (aa a) ?_)⟩;unfold gF;rw[aj,gh e];rfl
inductive Lh(K:af)(c:NC)(vs:List V)(H:Hp)(Q:VK)(E:XK):Prop
 |mk (F:Addr->Prop) (p tp:Addr) (n:Nat) (s:NS):vs=[.ref p]->dm K c H F p tp n s->(∀l (qs:List Addr) H',aD H H'->H l=none->H' l=some (.lst (qs.map V.ref))->c8 K H' qs (s.cps.map Cp.vs)->Q (.ref l) H')->Lh K c vs H Q E
theorem pZ{t:Ad}(T:Txt K mg t):b6 P w K mg base iH 1 t.nN t.sf ["self"]  (Lh K (nc t)):=by
 refine T.gm.F.jJ JO λH Q E j h=>?_
 ·obtain⟨F,p,g,n,st,rfl,N,k⟩:=h
  refine⟨_,(oR (gu iy (by rfl) T.vU boot_list (fY (aR (pv 0) rfl)))),?_⟩
  left
  obtain⟨a,m,q,f,O,i,e⟩:=id N;have d:=O.get .cV _ rfl;rw[f] at d;refine⟨_,rfl,p,_,_,_,_,rfl,d,T.bw,T.je,rfl,a .eX,_,rfl,.inl (bK.of (O.get .eX _ rfl)),λl c=>?_⟩;have u:=aD.new (o:=.lst (q.cq.map V.ref)) c;exact k l q.cq _ u c av (e.cps.mono λb x=>u.dw)
noncomputable def GO(g:Nat)(l:LS):LS:=if l.grp=g then {l with old:=true} else l
noncomputable def Li(s:NS)(g:Nat):NS:={s with ts:=iB s.ts g [],ls:=s.ls.map (GO g)}
inductive Sf(K:af)(c:NC)(vs:List V)(H:Hp)(Q:VK)(E:XK):Prop
 |mk (F:Addr->Prop) (p tp:Addr) (n g:Nat) (s:NS):vs=[.ref p,.int g]->dm K c H F p tp n s->g<3->(∀F' H',dm K c H' F' p tp n (Li s g)->Step H F H' F'->Q .fE H')->Sf K c vs H Q E
theorem xM{t:Ad}(T:Txt K mg t):b6 P w K mg base iH 2 t.jr t.lQ ["self","group"]  (Sf K (nc t)):=by
 refine T.qW.F.jJ wZ λH Q E hr h=>?_
 ·obtain⟨F,p,U,n,g,st,rfl,⟨c,dx,q,Z,O,hF,hT⟩,v,k⟩:=h
  refine⟨_,(ak (fq (iL (xL (aR (pv 0) rfl) (pv 1)) T.yy T.vQ.m (Jl T) (hr.mono (!_)) T.vQ.B .nil kG)) (br (fS (gj (aR (pv 0) rfl)) (gT 2 wZ) (br (b4 (qT wO (aR (pv 2) rfl) (pv 1)) (br (fN (pv 2) Kn rfl)) aW))))),?_⟩
  left
  have Y:=O.get .cV _ rfl;rw[Z] at Y;refine⟨_,rfl,p,_,_,_,_,rfl,Y,T.bw,T.qz,rfl,_,rfl,c .i0,_,_,_,rfl,rfl,bK.of (O.get .i0 _ rfl),oS v,c (.book g),dx (.book g),_,rfl,O.get (.book g) _ (b3 v),rfl,c (.book g),c (.fh g),st.ts g,rfl,O.LU v,λd' W D hB kp=>?_⟩;obtain⟨⟨V6,J⟩,L⟩:=hB;obtain⟨s,N',N⟩:=Qq Z O hF hT v D J L kp;obtain⟨b,I,S,Yc,C,M,R⟩:=N';have X:kr K (nc t) W s b I S p U n {st with ts:=iB st.ts g []}:=⟨Yc,C,M,R⟩;have r:=C.get .cV _ rfl;rw[Yc] at r;have Sg:=C.get .cD _ rfl;refine⟨_,rfl,p,_,_,_,_,rfl,r,T.bw,T.dS,rfl,b .cD,rfl,⟨_,bK.of Sg⟩,sO (K:=K) (a:=b .cD) (xs:=(au st.ls.length).map λi=>.ref (b (.bS i))) (λi u o=>kr K (nc t) o s b I S p U n {st with ts:=iB st.ts g [],ls:=(st.ls.take i).map (GO g)++st.ls.drop i}/\Step W s o s/\∃A:Option V,u=[some (.ref p),some (.int g),A]) ⟨by rw[List.take_zero,List.drop_zero];exact X,Step.refl' (aD.refl _),_,rfl⟩ (λi u o _ z=>?_) ?_ ?_⟩
  ·have e:=z.1.own.get .cD _ rfl
   have el:((st.ls.take i).map (GO g)++st.ls.drop i).length=st.ls.length:=by
    rw[az,ah,<- az,wL]
   refine bK.of (e.trans ?_);show some (HO.lst ((au ((st.ls.take i).map (GO g)++st.ls.drop i).length).map _))=_;rw[el]
  ·rintro i y u o G ⟨l,f,A,rfl⟩
   have d:i<st.ls.length:=by
    have:=(ai.mp G).1
    rw[ah,aX] at this;exact this
   rw[aj,gh d] at G;cases G;have j:((st.ls.take i).map (GO g)++st.ls.drop i)[i]?=some st.ls[i]:=by
    rw[bL (by rw[ah,bY];lia),ah,bY,Nat.min_eq_left ∅,iF,List.getElem?_drop,Nat.add_zero];exact aa d
   have JB:=l.own.get (.bS i) (mR (nc t) I b i st.ls[i]) (by show (((st.ls.take i).map (GO g)++st.ls.drop i)[i]?.map _)=_;rw[j];rfl);have next:(st.ls.take (i+1)).map (GO g)++st.ls.drop (i+1)=((st.ls.take i).map (GO g)++st.ls.drop i).set i (GO g st.ls[i]):=by
    rw[List.take_add_one,aa d,aO,fz,List.set_append_right _ _ (by rw[ah,bY];lia),ah,bY,Nat.min_eq_left ∅,iF,p8 d];rfl
   rw[next];refine⟨_,rfl,_,_,_,_,_,rfl,JB,T.c7,T.kg,rfl,_,rfl,rfl,_,rfl,jC (λe=>?_) (λe=>?_)⟩
   ·have e:(st.ls[i]).grp=g:=by
     have:=V.int.inj (ff e)
     lia
    refine⟨_,rfl,_,_,_,_,rfl,JB,T.c7,T.yx,(by show 5<1000;decide),?_⟩;obtain⟨X3,x⟩:=YD l j;refine⟨?_,f.trans x,_,rfl⟩;unfold GO;rw[b3 e];exact X3
   ·have e:¬(st.ls[i]).grp=g:=λz=>e (eH (by rw[z]))
    refine⟨?_,f,_,rfl⟩
    have:GO g st.ls[i]=st.ls[i]:=b5 e
    rw[this,HM j];exact l
  ·rintro u o ⟨l,f,A,rfl⟩
   rw[ah,aX,eO (ay _),List.drop_eq_nil_of_le (ay _),cS] at l;exact k s o l.cV (N.trans f)
noncomputable def OG(s:NS)(g x:Nat)(d:RM.Row):NS:=if d=s.R g x then s else Li {s with R:=iB s.R g (RM.upd (s.R g) x d)} g
inductive OH(K:af)(CT:Addr)(c:NC)(vs:List V)(H:Hp)(Q:VK)(E:XK):Prop
 |mk (F:Addr->Prop) (p tp ln lr:Addr) (ns:List Int) (rs:List R5) (s:NS) (o:eZ ns rs) (x g:Nat):vs=[.ref p,.int x,.int g]->NW K c CT H F p tp ln lr ns rs s->zZ ns rs s->x<ns.length->g<3->(∀d F' H',RM.VN (N:=mh ns rs o s.ws g) ns.length (s.R g) x d->Eu ns.length rs.length d->dm K c H' F' p tp ns.length (OG s g x d)->Step H F H' F'->Q (.bl (!decide (d=s.R g x))) H')->OH K CT c vs H Q E
theorem OI{t:Ad}(T:Txt K mg t):b6 P w K mg base iH 4 t.tQ t.ym ["self","house","group"]  (OH K t.aV (nc t)):=by
 refine T.Ii.F.jJ Am λH Q E i h=>?_
 ·obtain⟨F,p,j,I,U,ns,W,st,ok,x,g,rfl,N,u,f,a,k⟩:=h
  refine⟨_,(ak (sS 3 Am (cM (pv 0) T.bw T.DM (Kg T) i (oA (pv 1) (pv 2)))) (ak (sS 4 Am (cG (abW T) i T.Z8 (Z3 (aR (pv 0) rfl) (cM (pv 0) T.bw T.yu (A9 T) i (fY (pv 2))) (cM (pv 0) T.bw T.mE (mU T) i (fY (pv 2))) (pv 1)))) (ak (b4 (qT zT (pv 4) (pv 3)) oB aW) (ak (Lz (pv 4) (Ly (xL (aR (pv 0) rfl) (pv 2)) (pv 1) set_list)) (ak (fq (cM (pv 0) T.bw T.qW (xM T) i (fY (pv 2)))) oB))))),?_⟩
  left
  obtain⟨loc,dx,q,hp,O,hF,hT⟩:=id N.cV;have L:=O.get .cV _ rfl;rw[hp] at L;refine⟨_,rfl,p,_,_,rfl,L,rfl,_,rfl,_,rfl,F,p,j,I,U,ns,W,st,x,g,rfl,N,f,a,λq1 H1 X M=>?_⟩;have Y:=N.mono X;have G:=X _ _ L;refine⟨_,rfl,p,_,_,_,_,rfl,G,T.bw,T.mG,rfl,?_⟩;refine⟨_,rfl,p,_,_,rfl,G,rfl,_,rfl,F,p,j,I,U,ns,W,st,g,rfl,Y,ok,u,a,λl2 H2 A hl2 h2=>?_⟩;have Z:=Y.mono A;refine⟨_,rfl,p,_,_,rfl,A _ _ G,rfl,_,rfl,F,p,j,ns.length,g,st,rfl,Z.cV,a,λl3 qs H3 B hl3 h3 ht=>?_⟩;have N3:=Z.mono B;refine⟨_,rfl,j,I,U,l2,l3,ns,W,_,ok.nd,ok.ok,z6,st.R g,x,rfl,N3.qh,bK.of (B _ _ h2),ht.LV (bK.of h3),f,ok.sC,(u.fit g a).abt,λq4 d H4 s4 UL c=>?_⟩;have D:=Yr (u.fit g a) f ok.pos c;have N4:=N3.mono s4;have n:=A.trans (B.trans s4);have m:=X.trans n;refine⟨_,rfl,_,rfl,RM.uG d,RM.uG (st.R g x),RM.wR UL,RM.wR (n.dw M),RM.wU _,RM.wU _,bH (bW (aJ (eU _ _) (by rw[RM.Et];decide:(RM.uG d).depth<=64)) _) i.units,?_⟩;rw[RM.Nl D.by1 (u.fit g a x f).by1];refine⟨_,rfl,jC (λe=>?_) (λe=>?_)⟩
  ·have s:d=st.R g x:=ff e
   have:=k d F H4 c D (by unfold OG;rw[b3 s];exact N4.cV) (Step.refl' m)
   rw[eH s] at this;exact this
  ·have s:¬d=st.R g x:=λz=>e (eH z)
   obtain⟨b,XE,r,UK,v,J,o⟩:=id N4.cV;have Ba:=v.get .cV _ rfl;rw[UK] at Ba;have S:(r.rq g).length=ns.length:=by rw[(o.rows g a).len];simp[gF]
   obtain⟨F5,y,Pj⟩:=YB UK v J o a f UL;refine⟨_,rfl,_,rfl,p,_,_,_,_,rfl,Ba,T.bw,T.kL,rfl,_,rfl,b .uO,_,_,_,rfl,rfl,bK.of (v.get .uO _ rfl),oS a,_,rfl,b (.rows g),_,_,_,rfl,rfl,v.get (.rows g) _ (b3 a),Du (by rw[ah,S];exact f),?_⟩;generalize upd H4 (b (.rows g)) (.lst (((r.rq g).map V.ref).set x (.ref q4)))=H5 at y Pj;obtain⟨W0,dx5,q5,C,O5,hF5,hT5⟩:=id y;have l:=O5.get .cV _ rfl;rw[C] at l;refine⟨_,rfl,p,_,_,rfl,l,rfl,_,rfl,F5,p,j,ns.length,g,_,rfl,y,a,λF6 H6 N6 Y7=>?_⟩
   have:=k d F6 H6 c D (by unfold OG;rw[b5 s];exact N6) ((Step.refl' m).trans (Pj.trans Y7))
   rw[eL s] at this;exact this
noncomputable def rQ(s:NS)(e:Int)(m:Nat):NS:=(au m).foldl (λs g=>if KG e g=true then Li s g else s) s
theorem C6{s:NS}{e:Int}{m:Nat}:rQ s e (m+1)=if KG e m=true then Li (rQ s e m) m else rQ s e m:=by
 unfold rQ;rw[gz,List.foldl_append];rfl
inductive Gq(K:af)(CT:Addr)(c:NC)(vs:List V)(H:Hp)(Q:VK)(E:XK):Prop
 |mk (F:Addr->Prop) (p tp ln lr:Addr) (ns:List Int) (rs:List R5) (s:NS) (i:Nat) (r:R5):vs=[.ref p,.int i]->NW K c CT H F p tp ln lr ns rs s->eZ ns rs->rs[i]?=some r->(∀F' H',NW K c CT H' F' p tp ln lr ns rs (rQ s r.e 3)->Step H F H' F'->Q .fE H')->Gq K CT c vs H Q E
theorem lD{t:Ad}(T:Txt K mg t):b6 P w K mg base iH 3 t.eE t.fU ["self","rope"]  (Gq K t.aV (nc t)):=by
 refine T.iS.F.jJ kT λH Q E A h=>?_
 ·obtain⟨F,p,l,G,x,ns,y,st,i,r,rfl,N,tok,D,k⟩:=h
  have j:=tok.ok r (aU D);refine⟨_,(br (fS (d8 rfl T.gV (fY (lS T.gR (lH rfl T.kE (v:=.ref t.dZ) rfl)))) (gT 2 kT) (br (b4 (jB (cM (aR (pv 0) rfl) T.fj T.Aw (D9 T) A (oA (pv 1) (pv 2)))) (oE (cM (pv 0) T.bw T.qW (xM T) A (fY (pv 2)))) aW)))),?_⟩
  left
  refine⟨_,_,rfl,.inr (T.fL _),(3:Int),rfl,∅,∅,?_⟩;refine sF (n:=3) (λg o f=>∃(c:Addr->Prop) (m:Option V),NW K (nc t) t.aV f c p l G x ns y (rQ st r.e g)/\Step H F f c/\o=[some (.ref p),some (.int i),m]) ⟨F,_,N,Step.refl' (aD.refl _),rfl⟩ ?_ ?_
  ·rintro g o f B ⟨c,m,b,a,rfl⟩
   rw[fB];obtain⟨I,X,q,R,O,U,S⟩:=id b.cV;obtain⟨⟨L,s⟩,_⟩:=id b.qh;have u:=O.get .cV _ rfl;rw[R] at u;obtain⟨z,C⟩:=ael B;refine⟨_,rfl,p,_,_,_,_,rfl,u,T.bw,T.mG,rfl,l,L,_,rfl,s,rfl,_,rfl,_,rfl,l,G,x,ns,y,i,r,g,z,rfl,b.qh,D,C,_,rfl,?_⟩;rw[Nt j.e1 j.e7 C];refine jC (λe=>?_) (λe=>?_)
   ·refine⟨_,rfl,p,_,_,rfl,u,rfl,_,rfl,c,p,l,ns.length,g,_,rfl,b.cV,B,λM W J d=>?_⟩
    refine⟨M,_,?_,a.trans d,rfl⟩;rw[C6,b3 e];exact b.done d J
   ·refine⟨c,_,?_,a,rfl⟩
    rw[C6,b5 e];exact b
  ·rintro o f ⟨c,m,b,a,rfl⟩
   exact k c f b a
theorem wK{n:Nat}(h:n<=1000000):n<sizeLine:=bH h (by show 1000000<2^24;decide)
theorem QZ{s:NS}{i B:Nat}{d:iW}(h:∀l∈s.ls,l.aE.length<=B):∀l∈(dc s i d).ls,l.aE.length<=B+1:=by
 intro l a;unfold dc at a;cases e:s.ls[i]? with
 |none=>rw[e] at a;exact jL (h l a)
 |some b =>
  rw[e] at a;rcases p6 a with z|rfl
  ·exact jL (h l z)
  ·show (b.aE++[d]).length<=B+1
   rw[az];exact oH (h b (aU e)) 1
theorem OJ{s:NS}{i x B:Nat}(h:∀l∈s.ls,l.aE.length<=B):∀m,m<=s.cps.length->∀l∈(iM s i x m).ls,l.aE.length<=B+m
 |0,_=>by rw[sY];exact h
 |m+1,c=>by
  have a:=OJ (i:=i) (x:=x) h m ∅;rw[sZ ∅];unfold uQ;split
  ·exact QZ a
  ·exact λl b=>jL (a l b)
inductive Sh(K:af)(c:NC)(vs:List V)(H:Hp)(Q:VK)(E:XK):Prop
 |mk (F:Addr->Prop) (p tp:Addr) (n:Nat) (i x:Nat) (s:NS) (B:Nat):vs=[.ref p,.int i,.int x]->dm K c H F p tp n s->(∀cp∈s.cps,cp.l<s.ls.length)->(∀l∈s.ls,l.aE.length<=B)->B+s.cps.length<=1000000->(∀F' H',dm K c H' F' p tp n (ze s i x)->Step H F H' F'->Q .fE H')->Sh K c vs H Q E
theorem C7{t:Ad}(T:Txt K mg t):b6 P w K mg base iH 1 t.iC t.jH ["self","rope","wire"]  (Sh K (nc t)):=by
 refine T.vf.F.jJ mz λH Q E hr h=>?_
 ·obtain⟨F,p,tp,n,i,x,st,B,rfl,N,hc,hB,hBm,k⟩:=h
  refine⟨_,(ak (sS 3 mz (gZ gD)) (ak (fS (gj (aR (pv 0) rfl)) (gT 4 mz) (br (b4 (qT zT (wQ LF (pv 4) (rT aA) (rT aA)) (iE (oA (pv 1) (pv 2)))) (oE (uJ bJ bN bM fR (aR (xL (aR (pv 0) rfl) (xT (pv 4) aA)) rfl) (fY (iE (HN gX (xT (pv 4) aA) (pv 1)))))) (oE (uJ bJ bN bM fR (pv 3) (fY (pv 4))))))) (br (fN (pv 0) (pv 3) rfl)))),?_⟩
  left
  refine bZ λNx c9=>?_;refine⟨bE _,λl hl=>c9 _ _ ?_⟩;have u1:=aD.new (o:=.lst []) hl;have h1:=av (H:=H) (a:=l) (o:=.lst []);generalize upd H l (.lst [])=H1 at u1 h1;have nF:¬F l:=λz=>by
   obtain⟨o,e⟩:=N.there z;rw[hl] at e;cases e
  obtain⟨m,dx,q,hp,O,hF,hT⟩:=id (N.mono u1);have X:kr K (nc t) H1 F m dx q p tp n st:=⟨hp,O,hF,hT⟩;have bR:=O.get .cV _ rfl;rw[hp] at bR;have hco:=O.get .eX _ rfl;have u:q.cq.length=st.cps.length:=by
   have:=hT.cps.len
   rw[ah] at this;exact this
  refine bZ λNx c9=>?_;refine⟨_,rfl,p,_,_,_,_,rfl,bR,T.bw,T.je,rfl,m .eX,rfl,⟨_,bK.of hco⟩,Ew (K:=K) (a:=m .eX) (xs:=q.cq.map V.ref) (λj σ D=>∃(S:TQ) (I:List Addr) (v4:Option V),kr K (nc t) D F m dx S p tp n (iM st i x j)/\S.cq=q.cq/\Step H F D F/\D l=some (.lst (I.map V.ref))/\c8 K D I (((st.cps.take j).filter λc=>!Pq i x c).map Cp.vs)/\σ=[some (.ref p),some (.int i),some (.int x),some (.ref l),v4]) ⟨q,[],_,by rw[sY];exact X,rfl,Step.refl' u1,h1,⟨rfl,λi q x e=>by cases e⟩,rfl⟩ (λj σ D _ z=>?_) ?_ ?_⟩
  ·obtain⟨S,I,v4,s,W,_⟩:=z
   have:=s.own.get .eX _ rfl
   refine bK.of (this.trans ?_);rw[W]
  ·rintro j y σ D Nf C hj ⟨S,I,v4,s,W,R,L,Z,rfl⟩
   have hjl:j<q.cq.length:=by
    have:=(ai.mp hj).1
    rw[ah] at this;exact this
   have J:j<st.cps.length:=∅
   rw[aj,aa hjl] at hj;cases hj;have A:cW K D q.cq[j] (st.cps[j]).vs:=s.tup.cps.at' j _ _ (by rw[W];exact aa hjl) (by rw[TZ,aj,aa J];rfl);have hcm:=aK J;rw[sZ J] at C;have efs:=EA (f:=λc:Cp=>!Pq i x c) J;rw[efs] at C;generalize st.cps[j]=g at A hcm C;generalize q.cq[j]=a at A;have nw:¬(HT.lX g.vs.length 0 (some 1)=0/\HT.lX g.vs.length g.vs.length (some 3)=g.vs.length):=λz=>ee z.1 (by show HT.lX 4 0 (some 1)≠0;decide);refine⟨_,rfl,_,rfl,_,rfl,a,_,rfl,A,nw,λz1 hz1=>?_⟩;have ct:Dk g.vs (some 1) (some 3)=[V.int g.r,V.int g.w]:=rfl;rw[ct];have v1:=aD.new (o:=.tup [V.int g.r,V.int g.w]) hz1;refine⟨_,rfl,_,rfl,fy,λz2 hz2=>?_⟩;have v2:=aD.new (o:=.tup [V.int i,V.int x]) hz2;refine⟨.tuple (([(g.r:Int),(g.w:Int)]:List Int).map .int),.tuple (([(i:Int),(x:Int)]:List Int).map .int),Rep.Hl (ns:=[(g.r:Int),(g.w:Int)]) (cW.of (v2 _ _ av)),Rep.Hl (ns:=[(i:Int),(x:Int)]) (cW.of av),jm _,jm _,bH (bW (aJ (eU _ _) (by show PyData.depthAll _+1<=64;rw[oO];decide)) _) hr.units,_,rfl,?_⟩;rw[RP];have Pw:=v1.trans v2;have G:=s.mono Pw;have U:=Pw _ _ L;have Y8:=Pw.dw A;have Y9:=Z.mono λb x=>Pw.dw (a:=b) (xs:=x);have JA:=R.trans (Step.refl' (F:=F) Pw);generalize upd (upd D z1 (.tup [V.int g.r,V.int g.w])) z2 (.tup [V.int i,V.int x])=H4 at G U Y8 Y9 JA;refine jC (λe=>?_) (λe=>?_)
   ·have on:Pq i x g=true:=by
     obtain⟨e1,e2⟩:=ff e;exact eH ⟨∅,∅⟩
    have u:g.l<(iM st i x j).ls.length:=by rw[Ez];exact hc g hcm
    have v:(iM st i x j).ls[g.l]?=some (iM st i x j).ls[g.l]:=aa u;have hdl:((iM st i x j).ls[g.l]).aE.length<=B+j:=OJ hB j ∅ _ (aK u);have Ba:=G.own.get .cV _ rfl;rw[G.hp] at Ba;have ais:=G.own.get .cD _ rfl;have ait:=G.own.get (.bS g.l) (mR (nc t) dx m g.l _) (by show ((iM st i x j).ls[g.l]?.map _)=_;rw[v];rfl);have afg:=G.own.get (.aE g.l) (.lst ((S.dq g.l).map V.ref)) (by show ((iM st i x j).ls[g.l]?.map _)=_;rw[v];rfl);have MX:=(G.tup.aE g.l _ v).len;rw[ah] at MX;unfold uQ at C;rw[b3 on,e9 v,on] at C;refine⟨_,rfl,p,_,_,_,_,rfl,Ba,T.bw,T.dS,rfl,_,rfl,a,_,0,_,rfl,rfl,Y8,rfl,m .cD,_,_,_,rfl,rfl,bK.of ais,oS u,m (.bS g.l),_,_,_,_,rfl,ait,T.c7,T.gP,rfl,.inl ⟨rfl,_,bK.of afg⟩,_,rfl,a,_,3,_,rfl,rfl,Y8,rfl,_,rfl,iT,λz3 Z7=>?_⟩;have Y:=aD.new (o:=.tup [V.str "lost",V.int g.h,V.int i]) Z7;have X5:=G.mono Y;refine⟨m (.aE g.l),_,_,rfl,rfl,Y _ _ afg,wK (by rw[ah,MX];lia),?_⟩;obtain⟨X6,Y7⟩:=z7 X5 v (d:=.Qo g.h i) (cW.of av);refine C _ _ ⟨_,I,_,X6,W,(JA.trans (Step.refl' (F:=F) Y)).trans Y7,Y7.kp _ _ (Y _ _ U) nF,?_,rfl⟩;rw[b5 (!_),cS];exact (Y9.mono λb x=>Y.dw (a:=b) (xs:=x)).mono λb x=>X5.cV.tup Y7.kp
   ·have on:Pq i x g=false:=eL λz=>e (eH ⟨∅,∅⟩)
    unfold uQ at C;rw[on,b5 (!_)] at C;have hql:I.length<=j:=by
     rw[Y9.len,ah];refine aJ (aT _ _) ?_;rw[bY];exact eU _ _
    refine⟨_,rfl,.inl ⟨rfl,_,bK.of U⟩,_,rfl,l,_,_,rfl,rfl,U,wK (by rw[ah];lia),?_⟩;have M:=cu (H:=H4) (z:=l) (o:=.lst (I.map V.ref++[.ref a]));have X5:=G.past U jD nF M;refine C _ _ ⟨S,I++[a],_,X5,W,⟨λb o e z=>M _ _ (JA.kp b o e z) (aH e hl),JA.fr⟩,by rw[av,aO];rfl,?_,rfl⟩;rw[b3 (!_),aO];exact (Y9.snoc Y8).mono λb x=>cW.past U jD M
  ·rintro σ D ⟨S,I,v4,s,W,R,L,Z,rfl⟩
   refine c9 _ _ ?_;rw[ah,u] at s Z;rw[kQ] at Z;obtain⟨F',N',kp,hpF,fr⟩:=Qs s.hp s.own s.fp s.tup L nF Z;have Ec:=s.own.get .cV _ rfl;rw[s.hp] at Ec;refine⟨_,rfl,_,rfl,p,_,_,_,rfl,Ec,T.bw,T.je,(by show 9<1000;decide),?_⟩;refine k F' _ N' ⟨λb o e z=>kp _ _ (R.kp _ _ e z) (λy=>z (y▸hpF)),λb z=>?_⟩;rcases fr b z with y|rfl
   ·exact .inl y
   ·exact .inr hl
noncomputable def Lj(s:NS)(i x:Nat)(w:List Nat)(e:Int):NS :=
 if (w.filter λz=>decide (z≠x)).isEmpty=true then rQ (ze {s with ws:=s.ws.set i (w.filter λz=>decide (z≠x))} i x) e 3 else ze {s with ws:=s.ws.set i (w.filter λz=>decide (z≠x))} i x
inductive OL(K:af)(CT:Addr)(c:NC)(vs:List V)(H:Hp)(Q:VK)(E:XK):Prop
 |mk (F:Addr->Prop) (p tp ln lr:Addr) (ns:List Int) (rs:List R5) (s:NS) (i x:Nat) (w:List Nat) (r:R5) (B:Nat):vs=[.ref p,.int i,.int x]->NW K c CT H F p tp ln lr ns rs s->eZ ns rs->zZ ns rs s->(∀cp∈s.cps,cp.l<s.ls.length)->(∀l∈s.ls,l.aE.length<=B)->B+s.cps.length<=1000000->s.ws[i]?=some w->rs[i]?=some r->x∈w->(∀F' H',NW K c CT H' F' p tp ln lr ns rs (Lj s i x w r.e)->Step H F H' F'->Q (.bl (w.filter λz=>decide (z≠x)).isEmpty) H')->OL K CT c vs H Q E
theorem OM{t:Ad}(T:Txt K mg t):b6 P w K mg base iH 4 t.tR t.yo ["self","rope","wire"]  (OL K t.aV (nc t)):=by
 refine T.Ij.F.jJ FL λH Q E C h=>?_
 ·obtain⟨F,p,y,Y,S,ns,rs,st,i,x,L,r,B,rfl,N,M,D,hc,hB,J,l,Tr,X,k⟩:=h
  refine⟨_,(ak (sS 3 FL (rS (aR (pv 0) rfl) T.dM T.tV.m (GI T) (C.mono (!_)) T.tV.B .nil KD (oA (pv 1) (pv 2)))) (ak (fq (cM (pv 0) T.bw T.vf (C7 T) C (oA (pv 1) (pv 2)))) (ak (b4 (jB (pv 3)) (oE (cM (pv 0) T.bw T.iS (lD T) C (fY (pv 1)))) aW) (oR (pv 3))))),?_⟩
  left
  obtain⟨c,dx,q,hp,O,hF,hT⟩:=id N.cV;have bR:=O.get .cV _ rfl;rw[hp] at bR;have s:=(ai.mp l).1;have G2:i<rs.length:=by rw[<- D.wl];exact s
  refine⟨_,rfl,p,_,_,_,_,rfl,bR,T.bw,T.lB,rfl,c .cK,dx .cK,_,rfl,O.get .cK _ rfl,rfl,_,rfl,_,rfl,c .cK,y,c .c6,Y,S,ns,rs,st.ws,i,x,rfl,N.qh,O.strAt,D.wl,D.w4,λj b w2 ls a H1 ej ek v hk Pr ha W G kp=>?_,λz=>ee ⟨∅,∅⟩ z,λj w2 H1 ej v hk _=>?_⟩
  case refine_2 =>
   have:j=i:=∅
   subst this;rw[l] at v;cases v;exact ee rfl (hk x X)
  have:j=i:=∅
  subst this
  have:b=x:=∅
  subst this;rw[l] at v;cases v;obtain⟨F1,A,d⟩:=NB hp O hF hT s Pr ha W G kp;have V:=N.done d A;obtain⟨aiy,dx1,q1,I,O1,hF1,hT1⟩:=id A;have iY:=O1.get .cV _ rfl;rw[I] at iY;dsimp only[iG];refine⟨_,rfl,p,_,_,rfl,iY,rfl,_,rfl,_,rfl,F1,p,y,ns.length,j,b,_,B,rfl,A,hc,hB,J,λF2 H2 N2 g=>?_⟩;have o:=V.done g N2;unfold Lj at k;generalize (L.filter λz=>decide (z≠b)).isEmpty=eb at k;obtain⟨am7,Uq,q2,U,O2,hF2,hT2⟩:=id N2;have Ec:=O2.get .cV _ rfl;rw[U] at Ec
  try dsimp only
  refine nh (λZ u=>∃n:Addr->Prop,NW K (nc t) t.aV u n p y Y S ns rs (if eb=true then rQ (ze {st with ws:=st.ws.set j (L.filter λz=>decide (z≠b))} j b) r.e 3 else ze {st with ws:=st.ws.set j (L.filter λz=>decide (z≠b))} j b)/\Step H F u n/\Z=[some (.ref p),some (.int j),some (.int b),some (.bl eb)]) ?_ λN' nx=>?_
  case refine_2 =>
   refine⟨_,rfl,_,rfl,jC (λe=>?_) (λe=>?_)⟩
   ·rw[b3 e] at nx
    refine⟨_,rfl,p,_,_,rfl,Ec,rfl,_,rfl,F2,p,y,Y,S,ns,rs,_,j,r,rfl,o,M,Tr,λn u R f=>?_⟩;exact nx _ _ ⟨n,R,d.trans (g.trans f),rfl⟩
   ·rw[b5 e] at nx
    exact nx _ _ ⟨F2,o,d.trans g,rfl⟩
  rintro Z u ⟨n,R,f,rfl⟩;exact⟨_,rfl,k n u R f⟩
inductive Xa(K:af)(CT C NW:Addr)(vs:List V)(H:Hp)(Q:VK)(E:XK):Prop
 |mk (p tp lu ln lr:Addr) (ns:List Int) (rs:List R5) (ws:List (List Nat)) (i x:Int):vs=[.ref p,.int i,.int x]->cY K CT H tp ln lr ns rs->uM C H p tp lu ws->ws.length=rs.length->(∀w∈ws,w.length<=4)->(∀(j k:Nat) w w' r (ls:List Addr) (q:Addr) H',i=(j:Int)->x=(k:Int)->ws[j]?=some w->rs[j]?=some r->x<r.d->k∉w->w'.Perm (w++[k])->w'.Pairwise (·<=·)->H lu=some (.lst (ls.map V.ref))->H q=none->H' q=some (.lst (bC w'))->H' lu=some (.lst ((ls.map V.ref).set j (.ref q)))->(∀b o,H b=some o->b≠lu->H' b=some o)->Q (.bl w.isEmpty) H')->(¬(0<=i/\i<rs.length)->E (.ref NW) none H)->(∀(j:Nat) w r H',i=(j:Int)->ws[j]?=some w->rs[j]?=some r->¬(0<=x/\x<r.d)∨(∃k∈w,x=(k:Nat))->aD H H'->E (.ref NW) none H')->Xa K CT C NW vs H Q E
theorem Jr{t:Ad}(T:Txt K mg t):b6 P w K mg base (Ei P w) 3 t.lg t.pS ["self","rope","wire"]  (Xa K t.aV t.cN t.xu):=by
 refine T.vS.F.T4 Al λH Q E M h=>?_
 ·obtain⟨p,tp,I,ln,lr,ns,u,ws,i,x,rfl,hT,hW,ew,h4,k,kx,ky⟩:=h
  obtain⟨⟨dx,Z⟩,U,Pr,els,hls⟩:=id hW;refine⟨_,(ak (sS 3 Al (rS (pv 0) T.dM T.d7.m (kP T) (M.mono (!_)) T.d7.B .nil RE (fY (pv 1)))) (ak (b4 (PW.pt (Dg (gY (jl qe rM aA (pv 2) (cG (Gj T) M T.CH (oA (aR (pv 0) rfl) (pv 1))))) (zJ (kj sG (pv 2) (pv 3) (by with_unfolding_all rfl))))) (br (Dr rfl T.Ip T.Iq M.hd gX)) aW) (ak (Lz (cB zW T.Iu boot_sorted (fY (aY abc (pv 3) (gZ (fY (pv 2)))))) (Ly (aR (pv 0) rfl) (pv 1) set_list)) (oR (qE zT (pv 3) (gZ gD)))))),?_⟩
  left
  refine⟨_,rfl,p,dx,_,rfl,Z,rfl,_,rfl,p,tp,I,ln,lr,ns,u,ws,i,rfl,hT,hW,ew,λj c l D ej C y Ng S=>?_,kx⟩;subst ej;have hjl:=(ai.mp C).1;have w4:=h4 _ (aU C);have J:u[j]?=some u[j]:=aa ∅;have hp1:=y _ _ Z;have hT1:=hT.mono y;refine⟨_,rfl,_,_,rfl,rfl,_,rfl,?_⟩;by_cases h0:0<=x
  case neg =>
   rw[eL h0];exact dQ ⟨_,rfl,fF (fF (ky j c _ D rfl C J (.inl λz=>h0 z.1) y))⟩
  rw[eH h0];refine fF ?_;refine⟨_,rfl,p,_,dx,_,_,rfl,hp1,T.dM,T.kh,rfl,_,rfl,tp,ln,lr,ns,u,j,u[j],rfl,hT1,J,_,_,rfl,rfl,_,rfl,?_⟩;by_cases N:x<u[j].d
  case neg =>
   rw[eL N];exact fF (fF (ky j c _ D rfl C J (.inl λz=>N z.2) y))
  rw[eH N];refine dQ ?_;obtain⟨f,rfl⟩:∃f:Nat,x=(f:Int):=⟨x.toNat,∅⟩;refine⟨_,rfl,_,rfl,l,_,rfl,.inl (bK.of S),rfl,mQ c,_,rfl,?_⟩
  try dsimp only
  rw[b5 aC,wV];by_cases W:f∈c
  case pos =>
   rw[eH W];exact fF (ky j c _ D rfl C J (.inr ⟨f,W,rfl⟩) y)
  rw[eL W];refine dQ ?_;refine⟨_,rfl,_,rfl,Uz,λq hq=>?_⟩;have s2:=aD.new (o:=.lst [.int (f:Nat)]) hq;refine⟨l,q,_,_,rfl,rfl,s2 _ _ S,av,?_,λX h3=>?_⟩
  ·rw[ah]
   exact ji (ck (by show c.length+1<=1000;lia))
  have Y:=s2.trans (aD.new (o:=.lst (bC c++[.int (f:Nat)])) h3);have L:(upd (upd D q (.lst [.int (f:Nat)])) X (.lst (bC c++[.int (f:Nat)]))) X=some (.lst (((c++[f]).map λk:Nat=>(k:Int)).map V.int)):=by rw[av,<- gE,eW]
  generalize upd (upd D q (.lst [.int (f:Nat)])) X (.lst (bC c++[.int (f:Nat)]))=H3 at Y L;refine⟨X,_,rfl,bK.of L,(by rw[ah,az];show c.length+1<64;lia),λv xs MW afh afi=>?_⟩;obtain⟨A,rfl,hz1,hz2⟩:=LQ afh afi;have R:=Y.trans (aD.new (o:=.lst ((A.map λk:Nat=>(k:Int)).map V.int)) MW);have s:(upd H3 v (.lst ((A.map λk:Nat=>(k:Int)).map V.int))) v=some (.lst (bC A)):=by rw[av,eW]
  generalize upd H3 v (.lst ((A.map λk:Nat=>(k:Int)).map V.int))=H4 at R s;have g:=y.trans R;have n:=g _ _ Pr;have UK:=g _ _ Z;have UM:j<U.length:=∅
  refine⟨_,rfl,p,_,dx,_,_,rfl,UK,T.dM,T.fW,rfl,_,rfl,I,_,_,j,rfl,rfl,n,(by rw[ah];exact Du UM),?_⟩;generalize G:upd H4 I (.lst ((U.map V.ref).set j (.ref v)))=H5;have k5:∀b o,H4 b=some o->b≠I->H5 b=some o:=λb o e nb=>by rw[<- G,aF nb];exact e
  have hu5:H5 I=some (.lst ((U.map V.ref).set j (.ref v))):=by rw[<- G];exact av
  have UN:H5 v=some (.lst (bC A)):=k5 _ _ s (m5 s n λz=>wW (aa UM) (HO.lst.inj z));have nu:H5 l=some (.lst (bC c)):=k5 _ _ (R _ _ S) (m5 (R _ _ S) n λz=>wW (aa UM) (HO.lst.inj z));refine⟨_,rfl,bE _,λq2 hq2=>?_⟩;have O:=aD.new (o:=.lst []) hq2;refine⟨.list ((c.map λk:Nat=>(k:Int)).map .int),.list [],⟨l,_,rfl,bK.of (O _ _ nu),(by rw[eW];exact mP _)⟩,⟨q2,_,rfl,bK.of av,rfl⟩,jm _,rfl,bH (bW (aJ (Nat.min_le_right _ _) (!_)) _) M.units,?_⟩;have z:=k j f c A u[j] U v _ rfl rfl C J N W hz1 hz2 Pr ((y.trans Y).free MW) (O _ _ UN) (O _ _ hu5) (λb o e nb=>O _ _ (k5 _ _ (g _ _ e) nb));cases c with
  |nil=>exact z
  |cons a r=>exact z
noncomputable def Ur(s:NS)(i:Nat)(w w2:List Nat)(e:Int):NS :=
 if w.isEmpty=true then rQ {s with ws:=s.ws.set i w2} e 3 else {s with ws:=s.ws.set i w2}
inductive Si(K:af)(CT:Addr)(c:NC)(vs:List V)(H:Hp)(Q:VK)(E:XK):Prop
 |mk (F:Addr->Prop) (p tp ln lr:Addr) (ns:List Int) (rs:List R5) (s:NS) (i x:Nat) (w:List Nat) (r:R5):vs=[.ref p,.int i,.int x]->NW K c CT H F p tp ln lr ns rs s->eZ ns rs->zZ ns rs s->s.ws[i]?=some w->rs[i]?=some r->(x:Int)<r.d->x∉w->(∀w2 F' H',w2.Perm (w++[x])->w2.Pairwise (·<=·)->NW K c CT H' F' p tp ln lr ns rs (Ur s i w w2 r.e)->Step H F H' F'->Q (.bl w.isEmpty) H')->Si K CT c vs H Q E
theorem Q0{t:Ad}(T:Txt K mg t):b6 P w K mg base iH 4 t.xj t.Bs ["self","rope","wire"]  (Si K t.aV (nc t)):=by
 refine T.KU.F.jJ Ic λH Q E hr h=>?_
 ·obtain⟨F,p,v,X,U,D,rs,st,i,x,w',r,rfl,N,R,G,f,Tr,L,W,k⟩:=h
  refine⟨_,(ak (sS 3 Ic (rS (aR (pv 0) rfl) T.dM T.vS.m (Jr T) (hr.mono (!_)) T.vS.B .nil KD (oA (pv 1) (pv 2)))) (ak (b4 (jB (pv 3)) (oE (cM (pv 0) T.bw T.iS (lD T) hr (fY (pv 1)))) aW) (oR (pv 3)))),?_⟩
  left
  obtain⟨b,dx,q,hp,O,hF,hT⟩:=id N.cV;have bR:=O.get .cV _ rfl;rw[hp] at bR;have l:=(ai.mp f).1;have G2:i<rs.length:=by rw[<- G.wl];exact l
  refine⟨_,rfl,p,_,_,_,_,rfl,bR,T.bw,T.lB,rfl,b .cK,dx .cK,_,rfl,O.get .cK _ rfl,rfl,_,rfl,_,rfl,b .cK,v,b .c6,X,U,D,rs,st.ws,i,x,rfl,N.qh,O.strAt,G.wl,G.w4,λj kk w1 u r2 ls a H1 ej ek s M hkd hk C A Pr ha V I kp=>?_,λz=>ee ⟨∅,∅⟩ z,λj u r2 H1 ej s M hz _=>?_⟩
  case refine_2 =>
   have:j=i:=∅
   subst this;rw[f] at s;cases s;rw[Tr] at M;cases M;rcases hz with z|⟨y,hy,e⟩
   ·exact ee ⟨∅,L⟩ z
   ·have:y=x:=∅
    subst this;exact ee hy W
  have:j=i:=∅
  subst this
  have:kk=x:=∅
  subst this;rw[f] at s;cases s;obtain⟨F1,Z,c⟩:=NB hp O hF hT l Pr ha V I kp;have n:=N.done c Z;obtain⟨aiy,dx1,q1,J,O1,hF1,hT1⟩:=id Z;have iY:=O1.get .cV _ rfl;rw[J] at iY;dsimp only[iG];have k:=k u;unfold Ur at k;generalize w'.isEmpty=eb at k;refine nh (λY o=>∃g:Addr->Prop,NW K (nc t) t.aV o g p v X U D rs (if eb=true then rQ {st with ws:=st.ws.set j u} r.e 3 else {st with ws:=st.ws.set j u})/\Step H F o g/\Y=[some (.ref p),some (.int j),some (.int kk),some (.bl eb)]) ?_ λN' nx=>?_
  case refine_2 =>
   refine⟨_,rfl,_,rfl,jC (λe=>?_) (λe=>?_)⟩
   ·rw[b3 e] at nx
    refine⟨_,rfl,p,_,_,rfl,iY,rfl,_,rfl,F1,p,v,X,U,D,rs,_,j,r,rfl,n,R,Tr,λg o S d=>?_⟩;exact nx _ _ ⟨g,S,c.trans d,rfl⟩
   ·rw[b5 e] at nx
    exact nx _ _ ⟨F1,n,c,rfl⟩
  rintro Y o ⟨g,S,d,rfl⟩;exact⟨_,rfl,k g o C A S d⟩
inductive Sj(K:af)(c:NC)(vs:List V)(H:Hp)(Q:VK)(E:XK):Prop
 |mk (F:Addr->Prop) (p tp:Addr) (n x:Nat) (to:Option Nat) (s:NS):vs=[.ref p,.int x,zY (to.map λy:Nat=>(y:Int))]->dm K c H F p tp n s->x<s.bg.length->s.groups.length=s.bg.length->(∀y,to=some y->y<s.bg.length/\s.groups[y]?=s.groups[x]?)->Q .fE H->Sj K c vs H Q E
theorem Ed{t:Ad}(T:Txt K mg t):b6 P w K mg base iH 2 t.iQ t.kD ["self","sender","to"]  (Sj K (nc t)):=by
 refine T.xA.F.jJ DC λH Q E j h=>?_
 ·obtain⟨F,p,i,n,x,o,st,rfl,N,m,u,g,k⟩:=h
  refine⟨_,(ak (fq (cM (pv 0) T.bw T.mF (rP T) j (fY (pv 1)))) (br (b4 (qT GR (pv 2) lW) (ak (fq (cM (pv 0) T.bw T.mF (rP T) j (fY (pv 2)))) (br (b4 (qT qd (xL (aR (pv 0) rfl) (pv 1)) (xL (aR (pv 0) rfl) (pv 2))) dJ aW))) aW))),?_⟩
  left
  obtain⟨a,A,q,s,O,z,v⟩:=id N;have c:=O.get .cV _ rfl;rw[s] at c;refine⟨_,rfl,p,_,_,rfl,c,rfl,_,rfl,F,p,i,n,x,st,rfl,N,m,?_⟩;cases o with
  |none=>exact⟨_,rfl,rfl,_,rfl,dQ k⟩
  |some y =>
   obtain⟨r,l⟩:=g y rfl;refine⟨_,rfl,rfl,_,rfl,fF ?_⟩;refine⟨_,rfl,p,_,_,rfl,c,rfl,_,rfl,F,p,i,n,y,st,rfl,N,r,?_⟩;have d:=bK.of (K:=K) (O.get .groups _ rfl);have f:x<st.groups.length:=∅
   have b:y<st.groups.length:=∅
   have e:st.groups[y]=st.groups[x]:=by
    rw[aa b,aa f] at l;exact aN l
   refine⟨_,rfl,p,_,_,_,_,rfl,c,T.bw,T.oi,rfl,_,rfl,a .groups,_,_,_,rfl,rfl,d,qi f,_,rfl,p,_,_,_,_,rfl,c,T.bw,T.oi,rfl,_,rfl,a .groups,_,_,_,rfl,rfl,d,qi b,rfl,_,rfl,?_⟩;rw[e,eH rfl];exact dQ k
noncomputable def Js(s:NS)(h g x:Nat):Bool:=decide (s.bg[x]?=some h/\s.groups[x]?=some g)
noncomputable def zz(s:NS)(h g:Nat):List Nat:=(au s.bg.length).filter (Js s h g)
theorem y9{f:Nat->Bool}{i:Nat}:(au (i+1)).filter f=(au i).filter f++if f i=true then [i] else []:=by
 rw[gz,eN];congr 1;cases e:f i
 ·rw[b5 (!_),sN (by rw[e];decide)];rfl
 ·rw[b3 rfl,sM e];rfl
inductive Sk(K:af)(c:NC)(vs:List V)(H:Hp)(Q:VK)(E:XK):Prop
 |mk (F:Addr->Prop) (p tp:Addr) (n h g:Nat) (s:NS):vs=[.ref p,.int h,.int g]->dm K c H F p tp n s->s.groups.length=s.bg.length->s.bg.length<=20->(∀l H',aD H H'->H l=none->H' l=some (.lst (bC (zz s h g)))->Q (.ref l) H')->Sk K c vs H Q E
theorem Ef{t:Ad}(T:Txt K mg t):b6 P w K mg base iH 1 t.iP t.kC ["self","house","group"]  (Sk K (nc t)):=by
 refine T.xx.F.jJ nD λH Q E X h=>?_
 ·obtain⟨F,p,tp,n,c,g,st,rfl,N,hgl,zF,k⟩:=h
  refine⟨_,(ak (sS 3 nD (iE (oA (pv 1) (pv 2)))) (oR (gU (kO nD ["caller","self","there"] [none,some 0,some 3]) rfl (d8 rfl T.gV (fY (lS T.gR (aR (pv 0) rfl)))) (λ_ _ _ _=>by exact (gS 0 An)) (λ_ _ _ _=>by exact (lI (qT (Yk K rfl X.units) (iE (oA (yL K (GW K rfl (pv 1) rfl) (pv 0)) (yL K (GW K rfl (pv 1) rfl) (pv 0)))) (pv 2)))) (λ_ _ _ _=>by exact (pv 0))))),?_⟩
  left
  refine⟨_,rfl,_,rfl,fy,λG v=>?_⟩;have m:=aD.new (o:=.tup [V.int c,V.int g]) v;have R:=av (H:=H) (a:=G) (o:=.tup [V.int c,V.int g]);generalize upd H G (.tup [V.int c,V.int g])=H1 at m R;obtain⟨d,dx,q,Z,O,hF,hT⟩:=N.mono m;have A:=O.get .cV _ rfl;rw[Z] at A;have l:=bK.of (K:=K) (O.get .bg _ rfl);have C:=bK.of (K:=K) (O.get .groups _ rfl);refine⟨_,rfl,p,_,_,_,_,rfl,A,T.bw,T.qA,rfl,d .bg,_,rfl,.inl l,(((bC st.bg).length:Nat):Int),rfl,∅,by rw[ah];lia,λr b=>?_⟩;rw[ah];refine fG (n:=((st.bg.length:Int)).toNat) (λi x _=>x=bC ((au i).filter (Js st c g))) b xV ng rfl ?_ ?_
  ·rintro i x L J e B rfl y H4 ⟨rfl,rfl⟩
   rw[fB];have f:i<st.bg.length:=∅
   have j:i<st.groups.length:=∅
   have M:=e _ _ A;refine⟨_,rfl,p,_,_,_,_,rfl,M,T.bw,T.qA,rfl,_,rfl,d .bg,_,_,_,rfl,rfl,e.seq l,qi f,_,rfl,p,_,_,_,_,rfl,M,T.bw,T.oi,rfl,_,rfl,d .groups,_,_,_,rfl,rfl,e.seq C,qi j,fy,λz1 s=>?_⟩;have U:=aD.new (o:=.tup [V.int (st.bg[i]:Nat),V.int (st.groups[i]:Nat)]) s;have z:=e.trans U;have W:=U _ _ B;refine⟨_,rfl,.tuple (([(st.bg[i]:Int),(st.groups[i]:Int)]:List Int).map .int),.tuple (([(c:Int),(g:Int)]:List Int).map .int),Rep.Hl (ns:=[(st.bg[i]:Int),(st.groups[i]:Int)]) (cW.of av),Rep.Hl (ns:=[(c:Int),(g:Int)]) (cW.of (z _ _ R)),jm _,jm _,(by show PyData.depthAll _+1<=64;rw[oO];decide),_,rfl,?_⟩
   try dsimp only
   have Y:Js st c g i=decide ((st.bg[i]:Int)=(c:Int)/\(st.groups[i]:Int)=(g:Int)):=by
    unfold Js;rw[aa f,aa j,decide_eq_decide];constructor
    ·rintro⟨S,I⟩
     exact⟨by rw[aN S],by rw[aN I]⟩
    ·rintro⟨S,I⟩
     exact⟨e8 some ∅,e8 some ∅⟩
   rw[RP,<- Y];refine jC (λD=>?_) (λD=>?_)
   ·refine⟨_,rfl,?_⟩
    refine dR b J z W ?_ ?_
    ·rw[ah]
     refine ck (aJ (aT _ _) ?_);rw[aX];lia
    ·rw[y9,b3 D,gE]
   ·refine gv J z W ?_
    rw[y9,b5 D,cS]
  ·rintro x L e B rfl
   have u:=m.trans e;exact k r L u (m.free b) B
inductive Lk(K:af)(CT C NW:Addr)(vs:List V)(H:Hp)(Q:VK)(E:XK):Prop
 |mk (p tp lu ln lr:Addr) (ns:List Int) (rs:List R5) (ws:List (List Nat)) (i x:Int):vs=[.ref p,.int i,.int x]->cY K CT H tp ln lr ns rs->uM C H p tp lu ws->ws.length=rs.length->(∀(j:Nat) w H',i=(j:Int)->ws[j]?=some w->aD H H'->(w=[]->Q .fE H')/\(∀k:Nat,w[(x%(w.length:Int)).toNat]?=some k->w≠[]->Q (.int (k:Nat)) H'))->(¬(0<=i/\i<rs.length)->E (.ref NW) none H)->Lk K CT C NW vs H Q E
theorem BG{t:Ad}(T:Txt K mg t):b6 P w K mg base (Ei P w) 2 t.gM t.i8 ["self","rope","number"]  (Lk K t.aV t.cN t.xu):=by
 refine T.mD.F.T4 rO λH Q E f h=>?_
 ·obtain⟨p,A,v,ln,I,Z,J,s,i,x,rfl,G,r,W,k,S⟩:=h
  obtain⟨⟨Y,U⟩,_⟩:=id r;refine⟨_,(ak (sS 3 rO (rS (pv 0) T.dM T.d7.m (kP T) (f.mono (!_)) T.d7.B .nil RE (fY (pv 1)))) (ak (b4 (qT zT (pv 3) (gZ gD)) (oR lW) aW) (oR (xL (pv 3) (aY dF (pv 2) (lS T.gR (pv 3))))))),?_⟩
  left
  refine⟨_,rfl,p,Y,_,rfl,U,rfl,_,rfl,p,A,v,ln,I,Z,J,s,i,rfl,G,r,W,λj d l H1 u R L Ng N=>?_,S⟩;refine⟨_,rfl,bE _,λq M=>?_⟩;have g:=aD.new (o:=.lst []) M;have c:=g _ _ N;refine⟨.list ((d.map λk:Nat=>(k:Int)).map .int),.list [],⟨l,_,rfl,bK.of c,(by rw[eW];exact mP _)⟩,⟨q,_,rfl,bK.of av,rfl⟩,jm _,rfl,bH (bW (aJ (Nat.min_le_right _ _) (!_)) _) f.units,_,rfl,?_⟩;obtain⟨D,O⟩:=k j d _ u R (L.trans g);cases d with
  |nil=>exact fF (D rfl)
  |cons y a =>
   refine dQ ?_;have b:(0:Int)<(((y::a).length:Nat):Int):=by rw[bq];lia
   have X:=bQ x (show (((y::a).length:Nat):Int)≠0 by lia);have C:=bV x b;have e:(x%(((y::a).length:Nat):Int)).toNat<(y::a).length:=∅
   refine⟨_,rfl,_,rfl,_,rfl,l,_,rfl,.inl (bK.of c),_,_,rfl,(by rw[ah]),b,?_⟩;obtain⟨z,n⟩:∃z,(y::a)[(x%(((y::a).length:Nat):Int)).toNat]?=some z:=⟨_,aa e⟩;refine⟨l,_,_,V.int (z:Nat),rfl,rfl,bK.of c,?_,O z n (by intro z;cases z)⟩;rw[show x%(((y::a).length:Nat):Int)=(((x%(((y::a).length:Nat):Int)).toNat:Nat):Int) by lia];exact dX (by rw[aj,n];rfl)
noncomputable def Cf(l:LS)(h:Nat):Bool:=(Dp (l.done.map λh:Nat=>((gy (h:Int):Key),V.bl true)) (gy (h:Int))).isSome
inductive Sm(K:af)(CT:Addr)(c:NC)(vs:List V)(H:Hp)(Q:VK)(E:XK):Prop
 |mk (F:Addr->Prop) (loc dx:Role->Addr) (q:TQ) (p tp ln lr:Addr) (ns:List Int) (rs:List R5) (s:NS) (o:eZ ns rs) (i r h:Nat) (l:LS):vs=[.ref p,.ref (loc (.bS i)),.int r,.int h]->kr K c H F loc dx q p tp ns.length s->NW K c CT H F p tp ln lr ns rs s->zZ ns rs s->s.ls[i]?=some l->l.grp<3->(∀os H',aD H H'->d9 (mh ns rs o s.ws l.grp) (s.R l.grp) os->os.length<=12->Q (.str (if r∈os then (if Cf l h=true then "twice" else "come") else "lost")) H')->Sm K CT c vs H Q E
theorem Jt{t:Ad}(T:Txt K mg t):b6 P w K mg base iH 7 t.lz t.pU ["self","posted","rope","house"]  (Sm K t.aV (nc t)):=by
 refine T.BQ.F.jJ Ie λH Q E n h=>?_
 ·obtain⟨F,a,D,q,p,v,I,x,G,y,st,o,i,r,z,l,rfl,X,N,C,b,B,k⟩:=h
  refine⟨_,(ak (b4 (kj m7 (pv 2) (cM (pv 0) T.bw T.ve (yZ T) n (fY (aR (pv 1) rfl))) (by with_unfolding_all rfl)) (oR gX) aW) (oR (zK (aaQ (abf (Nd n) (pv 3) (aR (pv 1) rfl)) (by with_unfolding_all rfl)) gX gX))),?_⟩
  left
  have s:=X.own.get .cV _ rfl;rw[X.hp] at s;have u:=X.own.get (.bS i) (mR (nc t) D a i l) (by show (st.ls[i]?.map _)=_;rw[b];rfl);have c:=X.own.get (.done i) (.dK (l.done.map λh:Nat=>(gy (h:Int),.bl true))) (by show (st.ls[i]?.map _)=_;rw[b];rfl);refine⟨_,rfl,_,rfl,p,_,_,rfl,s,rfl,_,rfl,a (.bS i),_,_,_,_,rfl,u,T.c7,T.kg,rfl,F,p,v,I,x,G,y,st,o,l.grp,rfl,N,C,B,λlo os A f J j g m=>⟨lo,_,rfl,.inl (bK.of j),rfl,mQ _,_,rfl,?_⟩⟩
  try dsimp only
  rw[b3 rfl,wV];have k:=k os A f g m;by_cases e:r∈os
  ·rw[b3 e] at k
   rw[eH e];refine dQ ?_;refine⟨_,rfl,_,rfl,a (.bS i),_,_,_,_,rfl,f _ _ u,T.c7,T.oX,rfl,a (.done i),_,rfl,JF.k (k:=.inl (z:Int)) (f _ _ c),_,rfl,?_⟩;unfold Cf at k;refine jC (λd=>?_) (λd=>?_)
   ·rw[b3 d] at k
    exact k
   ·rw[b5 d] at k
    exact k
  ·rw[b5 e] at k
   rw[eL e];exact fF k
noncomputable def jE(l:LS):Nat:=if l.kd=1 then l.s+l.to+1 else l.s
theorem Zb{t:Ad}(T:Txt K mg t){b a:Role->Addr}{f:L2.St}{H:Hp}{Q:VK}{i:Nat}{l:LS}(h:∀Q:VK,Q (.ref (a (.bS i))) H->Ci 4 f H Q)(j:H (a (.bS i))=some (mR (nc t) b a i l))(c:H (a (.letter i))=some (rW (nc t) (b (.letter i)) l))(q:Q (.int (jE l:Nat)) H) :
 zM t.iR (Str.ofString "number") (By K) [] E0 (Hh K (Ci 4) (Str.ofString "letter")) zC f H Q∨zM t.fV (Str.ofString "number") (Fk t.fV) [] E0 (Hh K (Ci 4) (Str.ofString "letter")) zC f H Q∨zM t.jd (Str.ofString "number") (By K) [] E0 (Hh K (Ci 4) (Str.ofString "letter")) zC f H Q:=by
 by_cases e:l.kd=1
 ·have d:H (a (.letter i))=some (.ins t.fV (b (.letter i)) [("sender",.int l.s),("to",.int l.to)]):=by rw[c];unfold rW;rw[b3 e]
  have g:V.int ((l.s:Int)+(l.to:Int)+1)=.int (jE l:Nat):=by unfold jE;rw[b3 e];rfl
  refine .inr (.inl ?_);unfold zM Hh;exact (h _ ⟨a (.bS i),_,_,_,_,rfl,j,T.c7,T.ig,rfl,a (.letter i),b (.letter i),_,rfl,d,rfl,a (.letter i),b (.letter i),l.s,l.to,rfl,d,(by rw[g];exact q)⟩)
 ·have d:H (a (.letter i))=some (.ins t.jd (b (.letter i)) [("sender",.int l.s)]):=by rw[c];unfold rW;rw[b5 e]
  have g:V.int (l.s:Int)=.int (jE l:Nat):=by unfold jE;rw[b5 e]
  refine .inr (.inr ?_);unfold zM Hh;exact (h _ ⟨a (.bS i),_,_,_,_,rfl,j,T.c7,T.ig,rfl,a (.letter i),b (.letter i),_,rfl,d,rfl,a (.letter i),t.jd,b (.letter i),l.s,rfl,d,T.yw,T.oh,(by rw[g];exact q)⟩)
noncomputable def ON(s:NS)(i h r x f:Nat):NS:={dc s i (.send h r x) with cps:=s.cps++[⟨i,r,x,f⟩]}
inductive Sn(K:af)(CT:Addr)(c:NC)(vs:List V)(H:Hp)(Q:VK)(E:XK):Prop
 |mk (F:Addr->Prop) (p tp ln lr:Addr) (ns:List Int) (rs:List R5) (s:NS) (i h r:Nat) (l:LS) (re:R5) (w:List Nat) (x:Nat):vs=[.ref p,.int i,.int h,.int r]->NW K c CT H F p tp ln lr ns rs s->eZ ns rs->zZ ns rs s->s.ls[i]?=some l->l.aE.length<1000000->s.cps.length<1000000->rs[r]?=some re->s.ws[r]?=some w->w[(((jE l:Nat):Int)%(w.length:Int)).toNat]?=some x->w≠[]->(∀F' H',NW K c CT H' F' p tp ln lr ns rs (ON s i h r x (f6 re h))->Step H F H' F'->Q .fE H')->Sn K CT c vs H Q E
theorem OO{t:Ad}(T:Txt K mg t):b6 P w K mg base iH 3 t.tS t.yp ["self","number","house","rope"]  (Sn K t.aV (nc t)):=by
 refine T.Ik.F.jJ Ao λH Q E n h=>?_
 ·obtain⟨F,p,y,ln,lr,ns,C,st,i,c,r,l,re,w',x,rfl,N,tok,zG,b,hld,hcl,f,hw,L,hwn,k⟩:=h
  refine⟨_,(ak (sS 4 Ao (xL (aR (pv 0) rfl) (pv 1))) (ak (sS 5 Ao (rS (aR (pv 0) rfl) T.dM T.mD.m (BG T) (n.mono (!_)) T.mD.B .nil KD (oA (pv 3) (Ex (iL (aR (pv 4) rfl) T.Im T.lT.m (xJ T) (n.mono (!_)) T.lT.B .nil kG) (Ex (iL (aR (pv 4) rfl) T.pX T.tU.m (GN T) (n.mono (!_)) T.tU.B .nil kG) (iL (aR (pv 4) rfl) T.yw T.Io (xJ T) (n.mono (!_)) T.lT.B .nil kG)))))) (ak (fq (uJ bJ bN bM fR (aR (pv 4) rfl) (fY (iE (Z3 gX (pv 2) (pv 3) (pv 5)))))) (oE (uJ bJ bN bM fR (aR (pv 0) rfl) (fY (iE (Z3 (pv 1) (pv 3) (pv 5) (cM (aR (pv 0) rfl) T.fj T.n9 (rK T) n (oA (pv 3) (pv 2))))))))))),?_⟩
  left
  obtain⟨a,A,q,hp,O,hF,hT⟩:=id N.cV;have W:=O.get .cV _ rfl;rw[hp] at W;have X:=(ai.mp b).1;have hrl:=(ai.mp f).1;have Sg:=O.get .cD _ rfl;have JB:=O.get (.bS i) (mR (nc t) A a i l) (by show (st.ls[i]?.map _)=_;rw[b];rfl);have Y:=O.get (.letter i) (rW (nc t) (A (.letter i)) l) (by show (st.ls[i]?.map _)=_;rw[b];rfl);refine⟨_,rfl,p,_,_,_,_,rfl,W,T.bw,T.dS,rfl,_,rfl,a .cD,_,_,_,rfl,rfl,bK.of Sg,oS X,?_⟩;refine⟨_,rfl,p,_,_,_,_,rfl,W,T.bw,T.lB,rfl,a .cK,A .cK,_,rfl,O.get .cK _ rfl,rfl,_,rfl,?_⟩;have s:=O.get (.aE i) (.lst ((q.dq i).map V.ref)) (by show (st.ls[i]?.map _)=_;rw[b];rfl);refine Zb T (l:=l) (λQ q=>⟨_,rfl,q⟩) JB Y ?_;refine⟨a .cK,y,a .c6,ln,lr,ns,C,st.ws,r,(jE l:Nat),rfl,N.qh,O.strAt,zG.wl,λj w2 H1 ej D v=>⟨λz=>?_,λkk hk _=>?_⟩,λz=>ee ⟨∅,∅⟩ z⟩
  ·have:j=r:=∅
   subst this;rw[hw] at D;cases D;exact ee z hwn
  have:j=r:=∅
  subst this;rw[hw] at D;cases D;rw[L] at hk;cases hk;have X1:kr K (nc t) H1 F a A q p y ns.length st:=kr.mono ⟨hp,O,hF,hT⟩ v;have MX:=(X1.tup.aE i _ b).len;rw[ah] at MX;refine⟨_,rfl,a (.bS i),_,_,_,_,rfl,v _ _ JB,T.c7,T.gP,rfl,.inl ⟨rfl,_,bK.of (v _ _ s)⟩,_,rfl,_,rfl,_,rfl,Te,λz1 U=>?_⟩;have G:=aD.new (o:=.tup [V.str "send",V.int c,V.int j,V.int x]) U;refine⟨a (.aE i),_,_,rfl,rfl,G _ _ (v _ _ s),wK (by rw[ah,MX];lia),?_⟩;obtain⟨e,Z⟩:=z7 (X1.mono G) b (d:=.send c j x) (cW.of av);have g:=(Step.refl' (F:=F) (v.trans G)).trans Z;have M:=N.done g e.cV;generalize upd (upd H1 z1 (.tup [V.str "send",V.int c,V.int j,V.int x])) (a (.aE i)) (.lst ((q.dq i).map V.ref++[.ref z1]))=H2 at e g M;have S:=e.own.get .cV _ rfl;rw[e.hp] at S;have u:=e.own.get .eX _ rfl;obtain⟨⟨dt,I⟩,_⟩:=id M.qh;have J:q.cq.length=st.cps.length:=by
   have z:=e.tup.cps.len;rw[ah] at z;exact z
  obtain⟨_,rfl⟩:=ai.mp f;refine⟨_,rfl,p,_,_,_,_,rfl,S,T.bw,T.je,rfl,.inl ⟨rfl,_,bK.of u⟩,_,rfl,_,rfl,_,rfl,_,rfl,p,_,_,_,_,rfl,S,T.bw,T.mG,rfl,y,dt,_,rfl,I,rfl,_,rfl,_,rfl,y,ln,lr,ns,C,j,_,c,rfl,M.qh,f,?_⟩;rw[RG (h:=c) hrl tok.ok];refine⟨Te,λz2 R=>?_⟩;have u2:=aD.new (o:=.tup [V.int i,V.int j,V.int x,V.int (f6 C[j] c:Nat)]) R;refine⟨a .eX,_,_,rfl,rfl,u2 _ _ u,wK (by rw[ah,J];lia),?_⟩;have X3:=e.mono u2;obtain⟨X4,JA⟩:=RO X3 (qs:=q.cq++[z2]) (cps:=st.cps++[⟨i,j,x,f6 C[j] c⟩]) (by rw[aO];exact X3.tup.cps.snoc (cW.of av));rw[aO] at X4 JA;have Pj:=(g.trans (Step.refl' (F:=F) u2)).trans JA;refine k F _ ?_ Pj;unfold ON;rw[e9 b];exact N.done Pj X4.cV
end
section
noncomputable def qB(ds:List Nat)(h:Nat):List Nat:=if h∈ds then ds else ds++[h]
theorem Us{ds:List Nat}{h:Nat}:putK (ds.map λh:Nat=>((gy (h:Int):Key),V.bl true)) (gy (h:Int)) (V.bl true)=(qB ds h).map λh:Nat=>((gy (h:Int):Key),V.bl true):=by
 have e:((ds.map λh:Nat=>((gy (h:Int):Key),V.bl true)).any λb=>decide (b.1=(gy (h:Int):Key)))=decide (h∈ds):=by
  rw[iK,List.any_map,xS,decide_eq_true_iff];constructor
  ·rintro⟨x,a,e⟩
   have e:=Sum.inl.inj (ff e)
   have:x=h:=∅
   exact this▸a
  ·exact λa=>⟨h,a,eH rfl⟩
 unfold putK qB;rw[e];by_cases z:h∈ds
 ·rw[b3 (eH z),b3 z,cz]
  refine cF λx _=>?_;show (if _ then _ else _)=_;split <;> rfl
 ·rw[b5 (by rw[decide_eq_true_iff];exact z),b5 z,aO]
  rfl
structure Fr(s s':NS):Prop where
 ws:s'.ws=s.ws
 R:s'.R=s.R
 ts:s'.ts=s.ts
 bg:s'.bg=s.bg
 groups:s'.groups=s.groups
 lt:∀(i:Nat) (l:LS),s.ls[i]?=some l->∃l':LS,s'.ls[i]?=some l'/\l'.s=l.s/\l'.to=l.to/\l'.kd=l.kd/\l'.grp=l.grp/\l'.old=l.old
theorem Fr.refl(s:NS):Fr s s:=⟨rfl,rfl,rfl,rfl,rfl,λ_ l h=>⟨l,h,rfl,rfl,rfl,rfl,rfl⟩⟩
theorem Fr.trans{a b c:NS}(f:Fr a b)(g:Fr b c):Fr a c:=by
 refine⟨g.ws.trans f.ws,g.R.trans f.R,g.ts.trans f.ts,g.bg.trans f.bg,g.groups.trans f.groups,λi l h=>?_⟩;obtain⟨d,t,q,k,r,s,m⟩:=f.lt i l h;obtain⟨e,o,f1,f2,n,p,j⟩:=g.lt i d t;exact⟨e,o,f1.trans q,f2.trans k,n.trans r,p.trans s,j.trans m⟩
theorem Fr.ok{ns:List Int}{rs:List R5}{s s':NS}(f:Fr s s')(h:zZ ns rs s):zZ ns rs s' :=
 ⟨by rw[f.ws];exact h.wl,by rw[f.ws];exact h.w4,by rw[f.R];exact h.fit⟩
theorem aau{s:NS}{i:Nat}{l a:LS}{had:List (List Nat)}{cps:List Cp}(hl:s.ls[i]?=some l)(g:a.s=l.s)(f:a.to=l.to)(d:a.kd=l.kd)(e:a.grp=l.grp)(c:a.old=l.old):Fr s {s with ls:=s.ls.set i a,had:=had,cps:=cps}:=by
 refine⟨rfl,rfl,rfl,rfl,rfl,λk b h=>?_⟩;show ∃b,(s.ls.set i a)[k]?=some b/\_;rw[gG (ai.mp hl).1];by_cases z:k=i
 ·subst z
  rw[hl] at h;cases h;exact⟨a,b3 rfl,g,f,d,e,c⟩
 ·exact⟨b,by rw[b5 z];exact h,rfl,rfl,rfl,rfl,rfl⟩
theorem So{s:NS}{i:Nat}{d:iW}:Fr s (dc s i d):=by
 cases h:s.ls[i]? with
 |none=>unfold dc;rw[h];exact Fr.refl s
 |some l=>rw[e9 h];exact aau h rfl rfl rfl rfl rfl
structure Bd(n m D:Nat)(s:NS):Prop where
 gl:s.groups.length=s.bg.length
 zF:s.bg.length<=20
 g3:∀g∈s.groups,g<3
 hm:∀h∈s.bg,h<n
 hl:s.had.length=s.bg.length
 hb:∀w∈s.had,w.length<=D
 ll:s.ls.length<=D
 lb:∀l∈s.ls,l.aE.length+s.cps.length<=D/\l.done.length<=D/\l.grp<3/\(l.kd=1∨l.kd=2)
 cb:s.cps.length<=D
 cl:∀c∈s.cps,c.l<s.ls.length/\c.r<m/\c.h<n
 tb:∀g,50*(s.ts g).length<=D/\iz (s.ts g)
theorem Bd.mono{n m D a:Nat}{s:NS}(b:Bd n m D s)(h:D<=a):Bd n m a s :=
 ⟨b.gl,b.zF,b.g3,b.hm,b.hl,λw z=>aJ (b.hb w z) h,aJ b.ll h,λl z=>⟨aJ (b.lb l z).1 h,aJ (b.lb l z).2.1 h,(b.lb l z).2.2⟩,aJ b.cb h,b.cl,λg=>⟨aJ (b.tb g).1 h,(b.tb g).2⟩⟩
theorem Bd.set{n m D:Nat}{s:NS}{i:Nat}{l a:LS}(b:Bd n m D s)(k:Nat)(hl:s.ls[i]?=some l){cps:List Cp}{had:List (List Nat)}(u:cps.length<=s.cps.length+1)(k2:cps.length<=s.cps.length∨2<=k)(k1:1<=k)(t:a.aE.length+cps.length<=l.aE.length+s.cps.length+k)(v:a.done.length<=l.done.length+k)(p:a.grp=l.grp)(j:a.kd=l.kd)
 (q:∀c∈cps,c∈s.cps∨(c.l<s.ls.length/\c.r<m/\c.h<n)) (o:had.length=s.had.length) (f:∀w∈had,w.length<=D+k):Bd n m (D+k) {s with ls:=s.ls.set i a,had:=had,cps:=cps}:=by
 have d:=b.lb l (aU hl);refine⟨b.gl,b.zF,b.g3,b.hm,o.trans b.hl,f,?_,λe z=>?_,?_,λc z=>?_,λg=>⟨aJ (b.tb g).1 (xQ _ _),(b.tb g).2⟩⟩
 ·show (s.ls.set i a).length<=_
  rw[bA]
  have:=b.ll
  lia
 ·rcases p6 z with z|rfl
  ·have h:=b.lb e z
   refine⟨?_,?_,h.2.2⟩
   ·show e.aE.length+cps.length<=_
    have:=h.1
    lia
   ·have:=h.2.1
    lia
  ·refine⟨?_,?_,p▸d.2.2.1,j▸d.2.2.2⟩
   ·show e.aE.length+cps.length<=_
    have:=d.1
    lia
   ·have:=d.2.1
    lia
 ·show cps.length<=_
  have:=b.cb
  lia
 ·show c.l<(s.ls.set i a).length/\_
  rw[bA];rcases q c z with y|y
  ·exact b.cl c y
  ·exact y
theorem Bd.anb{n m D:Nat}{s:NS}(b:Bd n m D s)(i:Nat)(d:iW):Bd n m (D+1) (dc s i d):=by
 cases h:s.ls[i]? with
 |none=>unfold dc;rw[h];exact b.mono (dO D)
 |some l =>
  rw[e9 h];refine b.set 1 h (dO _) (.inl (ay _)) (ay _) ?_ (dO _) rfl rfl (λc z=>.inl z) rfl (λw z=>jL (b.hb w z));show (l.aE++[d]).length+_<=_;rw[az];show l.aE.length+1+_<=_;lia
noncomputable def eF(s:NS)(i h:Nat)(l:LS):NS:={s with ls:=s.ls.set i {l with done:=qB l.done h}}
theorem MQ{s:NS}{i h:Nat}{l:LS}(hl:s.ls[i]?=some l):Fr s (eF s i h l):=aau hl rfl rfl rfl rfl rfl
theorem Sq{n m D:Nat}{s:NS}{i h:Nat}{l:LS}(b:Bd n m D s)(hl:s.ls[i]?=some l):Bd n m (D+1) (eF s i h l):=by
 refine b.set 1 hl (dO _) (.inl (ay _)) (ay _) (dO _) ?_ rfl rfl (λc z=>.inl z) rfl (λw z=>jL (b.hb w z));show (qB l.done h).length<=_;unfold qB;split
 ·exact dO _
 ·rw[az];exact ay _
noncomputable def uB(s:NS)(i c:Nat):NS:={s with had:=s.had.set c (s.had.getD c []++[i])}
noncomputable def lE(i h:Nat)(s:NS)(c:Nat):NS:=dc (uB s i c) i (.hand h c)
theorem G3{s:NS}{i h c:Nat}:Fr s (lE i h s c):=Fr.trans (b:=uB s i c) ⟨rfl,rfl,rfl,rfl,rfl,λ_ l h=>⟨l,h,rfl,rfl,rfl,rfl,rfl⟩⟩ So
theorem MR{n m D:Nat}{s:NS}{i h c:Nat}(b:Bd n m D s):Bd n m (D+1) (lE i h s c):=by
 have q:∀w∈(uB s i c).had,w.length<=D+1:=λw z=>by
  rcases p6 z with y|rfl
  ·exact jL (b.hb w y)
  ·rw[az]
   refine oH ?_ 1;rw[aq];cases e:s.had[c]? with
   |none=>exact bE _
   |some w=>exact b.hb w (aU e)
 unfold lE;cases d:s.ls[i]? with
 |none =>
  unfold dc;rw[show (uB s i c).ls[i]?=none from d];have a:=b.mono (dO D);exact⟨a.gl,a.zF,a.g3,a.hm,by show (s.had.set _ _).length=_;rw[bA];exact a.hl,q,a.ll,a.lb,a.cb,a.cl,a.tb⟩
 |some l =>
  rw[e9 (show (uB s i c).ls[i]?=some l from d)];refine b.set 1 d (dO _) (.inl (ay _)) (ay _) ?_ (dO _) rfl rfl (λc z=>.inl z) (by show (s.had.set _ _).length=_;rw[bA]) q;show (l.aE++[_]).length+s.cps.length<=_;rw[az];show l.aE.length+1+s.cps.length<=_;lia
noncomputable def kH(ws:List (List Nat))(r k:Nat):Nat:=match ws[r]? with|some w=>w.getD (k%w.length) 0|none=>0
noncomputable def gx(rs:List R5)(r h:Nat):Nat:=match rs[r]? with|some re=>f6 re h|none=>0
noncomputable def Ut(s:NS)(i:Nat):Nat:=match s.ls[i]? with|some l=>jE l|none=>0
noncomputable def uC(rs:List R5)(i h:Nat)(s:NS)(r:Nat):NS:=ON s i h r (kH s.ws r (Ut s i)) (gx rs r h)
theorem G4{rs:List R5}{s:NS}{i h r:Nat}:Fr s (uC rs i h s r):=Fr.trans (So (i:=i) (d:=.send h r (kH s.ws r (Ut s i)))) ⟨rfl,rfl,rfl,rfl,rfl,λ_ l h=>⟨l,h,rfl,rfl,rfl,rfl,rfl⟩⟩
theorem Qd{ns:List Int}{rs:List R5}(o:eZ ns rs){r h:Nat}(a:r<rs.length):gx rs r h<ns.length:=by
 unfold gx;rw[aa a];have k:=o.ok _ (aK a);have e:=k.a0;have b:=k.b0;have c:=k.a1;have d:=k.b1;show f6 _ _<_;unfold f6;split <;> lia
theorem Ss{ns:List Int}{rs:List R5}(o:eZ ns rs){D:Nat}{s:NS}{i h r:Nat}(b:Bd ns.length rs.length D s)(d:i<s.ls.length)(e:r<rs.length):Bd ns.length rs.length (D+2) (uC rs i h s r):=by
 have a:=aa d;unfold uC ON;rw[e9 a];refine b.set 2 a (by rw[az];exact ay _) (.inr (ay _)) (!_) ?_ (xQ _ _) rfl rfl (λc z=>?_) rfl (λw z=>aJ (b.hb w z) (xQ _ _))
 ·show (s.ls[i].aE++[_]).length+(s.cps++[_]).length<=_
  rw[az,az];show s.ls[i].aE.length+1+(s.cps.length+1)<=_;lia
 ·rcases bz.mp z with y|y
  ·exact .inl y
  ·rw[bf] at y
   subst y;exact .inr ⟨d,e,Qd o e⟩
theorem zc{f:NS->Nat->NS}(h:∀s x,Fr s (f s x)):∀(xs:List Nat) (s:NS),Fr s (xs.foldl f s)
 |[],s=>Fr.refl s
 |x::xs,s=>(h s x).trans (zc h xs (f s x))
theorem BA{n m k:Nat}{f:NS->Nat->NS}(I:NS->Prop):∀(xs:List Nat) (s:NS) (D:Nat),(∀s x D,x∈xs->I s->Bd n m D s->I (f s x)/\Bd n m (D+k) (f s x))->I s->Bd n m D s->Bd n m (D+k*xs.length) (xs.foldl f s)
 |[],s,D,_,_,b=>b
 |x::xs,s,D,h,i,b=>by
  obtain⟨a,c⟩:=h s x D cE i b
  have:=BA I xs (f s x) (D+k) (λs y D z=>h s y D (aZ _ z)) a c
  refine this.mono (Nat.le_of_eq ?_);rw[bq,Nat.mul_succ];lia
theorem Ll{f:NS->Nat->NS}{xs:List Nat}{s:NS}{j:Nat}(h:j<xs.length):(xs.take (j+1)).foldl f s=f ((xs.take j).foldl f s) xs[j]:=by
 rw[fX h,List.foldl_append];rfl
noncomputable def oG(s:NS)(l:LS)(h:Nat):List Nat:=(zz s h l.grp).filter λc=>HF l.s l.to l.kd c
noncomputable def JC(rs:List R5)(s:NS)(l:LS)(h:Nat)(cP:Option Nat)(os:List Nat):List Nat:=(V3 (s.ts l.grp) (Bl l.to l.kd) h (cP.map λk:Nat=>(k:Int)) ((os.filter (isAt rs h)).map λk:Nat=>(k:Int)) ((zz s h l.grp).map λk:Nat=>(k:Int))).map mZ
noncomputable def Uu(rs:List R5)(s:NS)(i h:Nat)(l:LS)(cP:Option Nat)(os:List Nat):NS:=(JC rs s l h cP os).foldl (uC rs i h) ((oG s l h).foldl (lE i h) (eF s i h l))
theorem MS{ts:List T3}{a:Option Int}{c:Int}{cP:Option Int}{os b:List Int}:(∀x∈V3 ts a c cP os b,x∈os)/\(V3 ts a c cP os b).length<=os.length:=by
 have f:(∀x∈os.filter (kR cP),x∈os)/\(os.filter (kR cP)).length<=os.length:=⟨λx z=>(bU.mp z).1,aT _ _⟩;unfold V3;split
 ·exact f
 ·split
  ·exact⟨λx z=>ee z (-_),bE _⟩
  ·split
   ·split
    ·rename_i r _ d
     refine⟨λx z=>?_,?_⟩
     ·have:=(bU.mp z).1
      rw[bf] at this;exact this▸d
     ·refine aJ (aT _ _) ?_
      show 1<=os.length;cases os with
      |nil=>cases d
      |cons=>simp
    ·exact f
   ·exact f
theorem Zc{rs:List R5}{s:NS}{l:LS}{h:Nat}{cP:Option Nat}{os:List Nat}:(V3 (s.ts l.grp) (Bl l.to l.kd) h (cP.map λk:Nat=>(k:Int)) ((os.filter (isAt rs h)).map λk:Nat=>(k:Int)) ((zz s h l.grp).map λk:Nat=>(k:Int))).map V.int=bC (JC rs s l h cP os):=by
 unfold JC;rw[bC,cz];refine cF λx a=>?_;obtain⟨k,_,rfl⟩:=aS.mp (MS.1 x a);rfl
theorem Su{rs:List R5}{s:NS}{l:LS}{h:Nat}{cP:Option Nat}{os:List Nat}:(∀r∈JC rs s l h cP os,r∈os)/\(JC rs s l h cP os).length<=os.length:=by
 unfold JC;refine⟨λr b=>?_,?_⟩
 ·obtain⟨x,a,rfl⟩:=aS.mp b
  obtain⟨k,c,rfl⟩:=aS.mp (MS.1 x a);exact (bU.mp c).1
 ·rw[ah]
  refine aJ MS.2 ?_;rw[ah];exact aT _ _
theorem OP{s:NS}{l:LS}{h:Nat}:(∀c∈oG s l h,c<s.bg.length)/\(oG s l h).length<=s.bg.length:=by
 unfold oG zz;refine⟨λc z=>cT.mp (bU.mp (bU.mp z).1).1,?_⟩;refine aJ (aT _ _) (aJ (aT _ _) ?_);rw[aX];exact ay _
theorem BB{ns:List Int}{rs:List R5}{o:eZ ns rs}{s:NS}{g:Nat}{os:List Nat}(O:d9 (mh ns rs o s.ws g) (s.R g) os){r:Nat}(c:r∈os):r<rs.length/\∃w,s.ws[r]?=some w/\w≠[]:=by
 obtain⟨a,b,t⟩:=(O.2 r).mp c;have m:r∈uP rs s.ws g:=t.Bg.1;refine⟨z6 r m,?_⟩;have e:=(bU.mp m).2;unfold isLive at e;split at e
 ·rename_i f w h d
  refine⟨w,d,λz=>?_⟩;subst z;cases e
 ·cases e
theorem Xb{rs:List R5}{s:NS}{i h:Nat}{l:LS}{cP:Option Nat}{os:List Nat}(hl:s.ls[i]?=some l):Fr s (Uu rs s i h l cP os):=((MQ hl).trans (zc (λ_ _=>G3) _ _)).trans (zc (λ_ _=>G4) _ _)
end
section
variable{P:Program}{w:World}{K:af}{mg:Str->Option Value}{base:Heap}
theorem acz{c:NC}{H:Hp}{a b:Addr}{l:LS}{d:Addr}(h:H a=some (rW c b l))(k:l.kd=1∨l.kd=2):FH d c.let1 c.aeq H a l.s l.to l.kd:=by
 rcases k with e|e
 ·rw[e]
  refine .one b ?_;rw[h];unfold rW;rw[b3 e]
 ·rw[e]
  refine .all b ?_;rw[h];unfold rW;rw[b5 (by rw[e];decide)]
inductive aav(K:af)(CT:Addr)(c:NC)(vs:List V)(H:Hp)(Q:VK)(E:XK):Prop
 |mk (F:Addr->Prop) (p tp ln lr:Addr) (ns:List Int) (rs:List R5) (s:NS) (o:eZ ns rs) (i h:Nat) (cP:Option Nat) (l:LS) (D:Nat):vs=[.ref p,.int i,.int h,zY (cP.map λk:Nat=>(k:Int))]->NW K c CT H F p tp ln lr ns rs s->zZ ns rs s->Bd ns.length rs.length D s->D<=900000->s.ls[i]?=some l->(∀os F' H',d9 (mh ns rs o s.ws l.grp) (s.R l.grp) os->os.length<=12->NW K c CT H' F' p tp ln lr ns rs (Uu rs s i h l cP os)->Step H F H' F'->Q .fE H')->aav K CT c vs H Q E
theorem xN{t:Ad}(T:Txt K mg t):b6 P w K mg base iH 7 t.jq t.lP ["self","number","house","came"]  (aav K t.aV (nc t)):=by
 refine T.qV.F.jJ eB λH Q E hr h=>?_
 ·obtain⟨F,p,tp,ln,lr,ns,rs,st,o,i,f,W,l,D,rfl,N,zG,bd,hD,C,k⟩:=h
  refine⟨_,(ak (sS 4 eB (xL (aR (pv 0) rfl) (pv 1))) (ak (sS 5 eB (aR (pv 4) rfl)) (ak (Rz (Nd hr) (aR (pv 4) rfl) (pv 2) Kn rfl) (ak (sS 6 eB (cG (QT T) hr T.KS (Z3 (aR (pv 0) rfl) (cM (pv 0) T.bw T.yu (A9 T) hr (fY (pv 5))) (cM (pv 0) T.bw T.mE (mU T) hr (fY (pv 5))) (pv 2)))) (ak (sS 7 eB (cM (pv 0) T.bw T.xx (Ef T) hr (oA (pv 2) (pv 5)))) (ak (sS 8 eB (cG (QU T) hr T.KR (aN6 (xL (aR (pv 0) rfl) (pv 5)) (aR (pv 4) rfl) (pv 2) (pv 3) (pv 6) (pv 7)))) (ak (fS (gj (xT (pv 8) aA)) (gT 9 eB) (ak (fq (uJ bJ bN bM fR (xL (aR (pv 0) rfl) (pv 9)) (fY (pv 1)))) (oE (uJ bJ bN bM fR (aR (pv 4) rfl) (fY (iE (HN gX (pv 2) (pv 9)))))))) (br (fS (gj (xT (pv 8) aA)) (gT 10 eB) (oE (cM (pv 0) T.bw T.Ik (OO T) hr (HN (pv 1) (pv 2) (pv 10))))))))))))),?_⟩
  left
  obtain⟨g,dx,q,hp,O,hF,hT⟩:=id N.cV;have X:kr K (nc t) H F g dx q p tp ns.length st:=⟨hp,O,hF,hT⟩;have bR:=O.get .cV _ rfl;rw[hp] at bR;have hil:=(ai.mp C).1;obtain⟨lb1,lb2,hg,lkd⟩:=bd.lb l (aU C);have Sg:=O.get .cD _ rfl;have JB:=O.get (.bS i) (mR (nc t) dx g i l) (by show (st.ls[i]?.map _)=_;rw[C];rfl);have hdo:=O.get (.done i) (.dK (l.done.map λh:Nat=>(gy (h:Int),.bl true))) (by show (st.ls[i]?.map _)=_;rw[C];rfl);refine bZ λNx J=>?_;refine⟨_,rfl,p,_,_,_,_,rfl,bR,T.bw,T.dS,rfl,_,rfl,g .cD,_,_,_,rfl,rfl,bK.of Sg,oS hil,J _ _ ?_⟩;refine bZ λNx J=>?_;refine⟨_,rfl,g (.bS i),_,_,_,_,rfl,JB,T.c7,T.kg,rfl,J _ _ ?_⟩;refine bZ λNx J=>?_;refine⟨_,rfl,g (.bS i),_,_,_,_,rfl,JB,T.c7,T.oX,rfl,_,rfl,g (.done i),_,rfl,Na.k (k:=.inl (f:Int)) hdo (wK (by rw[ah];lia)),?_⟩;rw[Us];refine J _ _ ?_;obtain⟨X1,st1⟩:=V9 X C (qB l.done f);have N1:=N.done st1 X1.cV;generalize upd H (g (.done i)) (.dK ((qB l.done f).map λh:Nat=>((gy (h:Int):Key),V.bl true)))=H1 at X1 st1 N1;have fr1:=MQ (h:=f) C;have A:=Sq (h:=f) bd C;have es1:eF st i f l={st with ls:=st.ls.set i {l with done:=qB l.done f}}:=rfl;rw[<- es1] at X1 N1;have Fq:(eF st i f l).ls[i]?=some {l with done:=qB l.done f}:=by
   show (st.ls.set i _)[i]?=_;rw[gG hil,b3 rfl]
  have ets:(eF st i f l).ts=st.ts:=rfl;have ehe:zz (eF st i f l) f l.grp=zz st f l.grp:=rfl;have k1:∀os F' H',d9 (mh ns rs o (eF st i f l).ws l.grp) ((eF st i f l).R l.grp) os->os.length<=12->NW K (nc t) t.aV H' F' p tp ln lr ns rs ((JC rs st l f W os).foldl (uC rs i f) ((oG st l f).foldl (lE i f) (eF st i f l)))->Step H1 F H' F'->Q .fE H':=λos F' H' a b c d=>k os F' H' a b c (st1.trans d);have Uv:=fr1.ok zG;have ehd:oG st l f=(zz (eF st i f l) f l.grp).filter λc:Nat=>HF l.s l.to l.kd c:=rfl;have ego:∀os,JC rs st l f W os=(V3 ((eF st i f l).ts l.grp) (Bl l.to l.kd) f (W.map λk:Nat=>(k:Int)) ((os.filter (isAt rs f)).map λk:Nat=>(k:Int)) ((zz (eF st i f l) f l.grp).map λk:Nat=>(k:Int))).map mZ:=λos=>rfl;have hgi:∀os,(V3 ((eF st i f l).ts l.grp) (Bl l.to l.kd) f (W.map λk:Nat=>(k:Int)) ((os.filter (isAt rs f)).map λk:Nat=>(k:Int)) ((zz (eF st i f l) f l.grp).map λk:Nat=>(k:Int))).map V.int=bC (JC rs st l f W os):=λos=>Zc;have I:∀os,(∀r∈JC rs st l f W os,r∈os)/\(JC rs st l f W os).length<=os.length:=λos=>Su;have U:(∀c∈oG st l f,c<(eF st i f l).bg.length)/\(oG st l f).length<=(eF st i f l).bg.length:=OP;have hhi:((zz (eF st i f l) f l.grp).map λk:Nat=>(k:Int)).filter (HF l.s l.to l.kd)=(oG st l f).map λk:Nat=>(k:Int):=by
   rw[ehd,List.filter_map];rfl
  generalize JC rs st l f W=L at k1 hgi I;generalize oG st l f=n at k1 U hhi;generalize eF st i f l=m at X1 N1 A k1 Fq Uv hgi U hhi;have anh:=(ai.mp Fq).1;have iY:=X1.own.get .cV _ rfl;rw[X1.hp] at iY;refine bZ λNx J=>?_;refine⟨_,rfl,p,_,_,_,_,rfl,iY,T.bw,T.mG,rfl,?_⟩;refine⟨_,rfl,p,_,_,rfl,iY,rfl,_,rfl,F,p,tp,ln,lr,ns,rs,m,l.grp,rfl,N1,o,Uv,hg,λa1 H2 t2 ha1 h1=>?_⟩;refine⟨_,rfl,p,_,_,rfl,t2 _ _ iY,rfl,_,rfl,F,p,tp,ns.length,l.grp,m,rfl,(N1.mono t2).cV,hg,λa2 qs H3 t3 ha2 h2 ht=>?_⟩;refine⟨_,rfl,tp,ln,lr,a1,a2,ns,rs,_,o.nd,o.ok,z6,m.R l.grp,f,rfl,(N1.mono (t2.trans t3)).qh,bK.of (t3 _ _ h1),ht.LV (bK.of h2),by have:=o.MV;lia,o.sC,Uv.fit l.grp hg,λlo os H4 t4 WV hlo hO h12=>J _ _ ?_⟩;have ZY:=t2.trans (t3.trans t4);refine bZ λNx J=>?_;refine⟨_,rfl,p,_,_,rfl,ZY _ _ iY,rfl,_,rfl,_,rfl,F,p,tp,ns.length,f,l.grp,m,rfl,(N1.mono ZY).cV,A.gl,A.zF,λlh H5 t5 aiF hlh=>J _ _ ?_⟩;have ZV:=ZY.trans t5;have X5:=X1.mono ZV;have acA:=t5 _ _ hlo;have afn:=X5.own.get (.bS i) (mR (nc t) dx g i {l with done:=qB l.done f}) (by show (m.ls[i]?.map _)=_;rw[Fq];rfl);have afo:=X5.own.get (.letter i) (rW (nc t) (dx (.letter i)) {l with done:=qB l.done f}) (by show (m.ls[i]?.map _)=_;rw[Fq];rfl);rw[eW] at acA hlh;refine bZ λNx J=>?_;refine⟨_,rfl,p,_,_,_,_,rfl,ZV _ _ iY,T.bw,T.qz,rfl,_,rfl,g .i0,_,_,_,rfl,rfl,bK.of (X5.own.get .i0 _ rfl),oS hg,_,rfl,g (.bS i),_,_,_,_,rfl,afn,T.c7,T.ig,rfl,_,rfl,_,rfl,_,rfl,_,rfl,g (.book l.grp),g (.fh l.grp),g (.letter i),lo,lh,m.ts l.grp,l.s,l.to,l.kd,f,W.map λk:Nat=>(k:Int),_,_,rfl,X5.own.LU hg,acz afo lkd,bK.of acA,bK.of hlh,?_,?_,λtq b1 b2 H6 t6 aiI aiJ aiK ani htq hb1 hb2=>J _ _ ?_⟩
  ·rw[ah]
   have:=aT (isAt rs f) os
   lia
  ·rw[ah]
   unfold zz
   have:=aT (Js m f l.grp) (au m.bg.length)
   rw[aX] at this
   have:=A.zF
   lia
  rw[hhi,<- eW] at hb1;rw[hgi os] at hb2;have I:=I os;have k1:=k1 os;generalize L os=L at hb2 I k1;have t16:=ZV.trans t6;have X6:=X1.mono t16;have nF:∀{b},H5 b=none->¬F b:=λ{b} e z=>by
   obtain⟨u,e'⟩:=X5.cV.there z;rw[e] at e';cases e'
  have nq:=nF aiI;have n1:=nF aiJ;have n2:=nF aiK;have afp:Step H1 F H6 F:=Step.refl' t16;refine bZ λNx J=>?_;refine⟨_,rfl,tq,_,0,_,rfl,rfl,cW.of htq,rfl,b1,rfl,⟨_,bK.of hb1⟩,Ew (K:=K) (a:=b1) (xs:=bC n) (λj Z H7=>∃(q7:TQ) (v9:Option V),kr K (nc t) H7 F g dx q7 p tp ns.length ((n.take j).foldl (lE i f) m)/\Step H6 F H7 F/\Z=[some (.ref p),some (.int i),some (.int f),some (zY (W.map λk:Nat=>(k:Int))),some (.ref (g (.bS i))),some (.int l.grp),some (.ref lo),some (.ref lh),some (.ref tq),v9,none]) ⟨q,none,X6,Step.refl' (aD.refl _),rfl⟩ (λj Z H7 _ z=>?_) ?_ ?_⟩
  ·obtain⟨q7,v9,S,P5,rfl⟩:=z
   exact bK.of (P5.kp _ _ hb1 n1)
  ·rintro j y Z H7 Nf Gk hj ⟨q7,v9,S,P5,rfl⟩
   have G:j<n.length:=by
    have:=(ai.mp hj).1
    rw[ah] at this;exact this
   rw[aj,aa G] at hj;cases hj;rw[Ll G] at Gk;have b7:Bd ns.length rs.length (D+1+1*(n.take j).length) ((n.take j).foldl (lE i f) m):=BA (λ_=>True) _ _ _ (λs x D _ _ b=>⟨trivial,MR b⟩) trivial A;have f7:Fr m ((n.take j).foldl (lE i f) m):=zc (λ_ _=>G3) _ _;have hjt:(n.take j).length<=20:=by
    rw[bY]
    have:=U.2
    have:=A.zF
    lia
   obtain⟨l7,UN,_⟩:=f7.lt i _ Fq;have v:n[j]<((n.take j).foldl (lE i f) m).had.length:=by
    rw[b7.hl,f7.bg];exact U.1 _ (aK G)
   generalize (n.take j).foldl (lE i f) m=B at S b7 UN v Gk;show iG 9 (V.int ((n[j]:Nat):Int)) _ _ _;generalize n[j]=c at v Gk;have aax:=S.own.get .cV _ rfl;rw[S.hp] at aax;have hhc:=S.own.get (.handed c) (.lst (bC B.had[c])) (by show (B.had[c]?.map _)=_;rw[aa v];rfl);have hwl:=b7.hb _ (aK v);have hdl:=(b7.lb l7 (aU UN)).1;refine⟨_,rfl,p,_,_,_,_,rfl,aax,T.bw,T.DO,rfl,_,rfl,g .jG,_,_,_,rfl,rfl,bK.of (S.own.get .jG _ rfl),oS v,.inl ⟨rfl,_,bK.of hhc⟩,_,rfl,g (.handed c),_,_,rfl,rfl,hhc,wK (by rw[ah];lia),?_⟩;obtain⟨X8,Q3⟩:=Wa S v (B.had[c]++[i]);rw[gE] at X8 Q3;generalize upd H7 (g (.handed c)) (.lst (bC B.had[c]++[V.int i]))=H8 at X8 Q3;have es:{B with had:=B.had.set c (B.had[c]++[i])}=uB B i c:=by
    unfold uB;rw[aq,aa v];rfl
   rw[es] at X8;have Y:(uB B i c).ls[i]?=some l7:=UN;have aiL:=X8.own.get (.bS i) (mR (nc t) dx g i l7) (by show ((uB B i c).ls[i]?.map _)=_;rw[Y];rfl);have afq:=X8.own.get (.aE i) (.lst ((q7.dq i).map V.ref)) (by show ((uB B i c).ls[i]?.map _)=_;rw[Y];rfl);have MX:=(X8.tup.aE i _ Y).len;rw[ah] at MX;refine⟨_,rfl,g (.bS i),_,_,_,_,rfl,aiL,T.c7,T.gP,rfl,.inl ⟨rfl,_,bK.of afq⟩,_,rfl,_,rfl,iT,λz1 hz1=>?_⟩;have u1:=aD.new (o:=.tup [V.str "hand",V.int f,V.int c]) hz1;refine⟨g (.aE i),_,_,rfl,rfl,u1 _ _ afq,wK (by rw[ah,MX];lia),?_⟩;obtain⟨X9,Z0⟩:=z7 (X8.mono u1) Y (d:=.hand f c) (cW.of av);rw[<- e9 Y] at X9;exact Gk _ _ ⟨_,_,X9,(P5.trans Q3).trans ((Step.refl' (F:=F) u1).trans Z0),rfl⟩
  ·rintro Z H7 ⟨q7,v9,S,P5,rfl⟩
   refine J _ _ ?_;rw[ah,kQ] at S;have b7:Bd ns.length rs.length (D+1+1*n.length) (n.foldl (lE i f) m):=BA (λ_=>True) _ _ _ (λs x D _ _ b=>⟨trivial,MR b⟩) trivial A;have f7:Fr m (n.foldl (lE i f) m):=zc (λ_ _=>G3) _ _;have hjt:n.length<=20:=by
    have:=U.2
    have:=A.zF
    lia
   have N7:=N1.done (afp.trans P5) S.cV;obtain⟨l7,UN,_⟩:=f7.lt i _ Fq;have afr:=f7.ok Uv;have hO7:d9 (mh ns rs o (n.foldl (lE i f) m).ws l.grp) ((n.foldl (lE i f) m).R l.grp) os:=by rw[f7.ws,f7.R];exact hO
   generalize n.foldl (lE i f) m=B at S b7 UN N7 k1 afr hO7;refine⟨_,rfl,tq,_,1,_,rfl,rfl,cW.of (P5.kp _ _ htq nq),rfl,b2,rfl,⟨_,bK.of (P5.kp _ _ hb2 n2)⟩,Ew (K:=K) (a:=b2) (xs:=bC L) (λj Z H8=>∃(F8:Addr->Prop) (v10:Option V),NW K (nc t) t.aV H8 F8 p tp ln lr ns rs ((L.take j).foldl (uC rs i f) B)/\Step H6 F H8 F8/\Z=[some (.ref p),some (.int i),some (.int f),some (zY (W.map λk:Nat=>(k:Int))),some (.ref (g (.bS i))),some (.int l.grp),some (.ref lo),some (.ref lh),some (.ref tq),v9,v10]) ⟨F,none,N7,P5,rfl⟩ (λj Z H8 _ z=>?_) ?_ ?_⟩
   ·obtain⟨F8,v10,N8,Q3,rfl⟩:=z
    exact bK.of (Q3.kp _ _ hb2 n2)
   ·rintro j y Z H8 Nf Gk hj ⟨F8,v10,N8,Q3,rfl⟩
    have G:j<L.length:=by
     have:=(ai.mp hj).1
     rw[ah] at this;exact this
    rw[aj,aa G] at hj;cases hj;rw[Ll G] at Gk;have hgl:∀r∈L,r<rs.length:=λr hr=>(BB hO7 (I.1 r hr)).1;have f8:Fr B ((L.take j).foldl (uC rs i f) B):=zc (λ_ _=>G4) _ _;have b8:Bd ns.length rs.length (D+1+1*n.length+2*(L.take j).length) ((L.take j).foldl (uC rs i f) B):=BA (λs=>i<s.ls.length) _ _ _ (λs x D hx hi b=>⟨by
     obtain⟨l',e,_⟩:=(G4 (rs:=rs) (h:=f) (i:=i) (r:=x) (s:=s)).lt i _ (aa hi);exact (ai.mp e).1,Ss o b hi (hgl x (List.mem_of_mem_take hx))⟩) (ai.mp UN).1 b7
    have ank:(L.take j).length<=12:=by
     rw[bY]
     have:=I.2
     lia
    obtain⟨hrl,M,hw,hwn⟩:=BB hO7 (I.1 _ (aK G));rw[<- f8.ws] at hw;obtain⟨l8,Y,_⟩:=f8.lt i _ UN;have afs:=f8.ok afr;generalize (L.take j).foldl (uC rs i f) B=s8 at N8 b8 Y hw afs Gk;show iG 10 (V.int ((L[j]:Nat):Int)) _ _ _;generalize L[j]=r at hrl hw Gk;obtain⟨aiO,MY,q8,Y3,O8,hF8,hT8⟩:=id N8.cV;have OQ:=O8.get .cV _ rfl;rw[Y3] at OQ;have hdl:=(b8.lb l8 (aU Y)).1;have v:=b8.cb;have hwl:jE l8%M.length<M.length:=Nat.mod_lt _ (List.length_pos_iff.mpr hwn);have hwx:M[(((jE l8:Nat):Int)%(M.length:Int)).toNat]?=some M[jE l8%M.length]:=by
     rw[show (((jE l8:Nat):Int)%(M.length:Int))=((jE l8%M.length:Nat):Int) from rfl,gi];exact aa hwl
    have hre:=aa hrl;refine⟨_,rfl,p,_,_,rfl,OQ,rfl,_,rfl,_,rfl,_,rfl,F8,p,tp,ln,lr,ns,rs,s8,i,f,r,l8,rs[r],M,_,rfl,N8,o,afs,Y,∅,∅,hre,hw,hwx,hwn,λF9 H9 N9 Z0=>?_⟩;refine Gk _ _ ⟨F9,_,?_,Q3.trans Z0,rfl⟩;have e1:kH s8.ws r (Ut s8 i)=M[jE l8%M.length]:=by
     unfold kH Ut;rw[hw,Y];show M.getD (jE l8%M.length) 0=_;rw[aq,aa hwl];rfl
    have e2:gx rs r f=f6 rs[r] f:=by
     unfold gx;rw[hre]
    unfold uC;rw[e1,e2];exact N9
   ·rintro Z H8 ⟨F8,v10,N8,Q3,rfl⟩
    rw[ah,kQ] at N8;exact k1 F8 H8 hO h12 N8 (afp.trans Q3)
theorem acB{a b:TS}{D:Ends}{c:L2.St}{H:Hp}(J:L2.St->Hp->Prop)(d:∀c H,J c H->b D c H)(h:∀N:L2.St->Hp->Prop,(∀c H,J c H->N c H)->a {D with nx:=N} c H):UY a b D c H:=h _ d
inductive Sv(C:Addr)(vs:List V)(H:Hp)(Q:VK)(E:XK):Prop
 |mk (p dx la:Addr) (g:Int):vs=[.ref p,.ref la,.int g]->H p=some (.ins C dx [])->(∀da ea H',H da=none->H ea=none->da≠ea->H' p=some (.ins C dx [("letter",.ref la),("group",.int g),("old",.bl false),("done_at",.ref da),("deeds",.ref ea)])->H' da=some (.dK [])->H' ea=some (.lst [])->(∀b o,H b=some o->b≠p->H' b=some o)->Q .fE H')->Sv C vs H Q E
theorem Ft{t:Ad}(T:Txt K mg t):b6 P w K mg base iH 1 t.jo t.lO ["self","letter","group"]  (Sv t.jv):=by
 refine T.zh.F.jJ ER λH Q E u h=>?_
 ·obtain⟨p,j,s,g,rfl,r,k⟩:=h
  refine⟨_,(ak (fN (pv 0) (pv 1) rfl) (ak (fN (pv 0) (pv 2) rfl) (ak (fN (pv 0) Kn rfl) (ak (fN (pv 0) Vz rfl) (br (fN (pv 0) (gZ gD) rfl)))))),?_⟩
  left
  refine⟨_,rfl,_,rfl,p,_,j,_,rfl,r,T.c7,T.ig,(!_),?_⟩;rw[dD (names:=[]) rfl rfl];refine⟨_,rfl,_,rfl,p,_,j,_,rfl,av,T.c7,T.kg,(by show 1<1000;decide),?_⟩;rw[dD (names:=["letter"]) rfl (by decide +kernel),Lr];refine⟨_,rfl,p,_,j,_,rfl,av,T.c7,T.yx,(by show 2<1000;decide),?_⟩;rw[dD (names:=["letter","group"]) rfl (by decide +kernel),Lr];intro i a;have d:H i=none:=by
   by_cases z:i=p
   ·subst z;rw[av] at a;cases a
   ·rw[aF z] at a;exact a
  have q:p≠i:=aH r d;refine⟨_,rfl,p,_,j,_,rfl,(by rw[aF q];exact av),T.c7,T.oX,(by show 3<1000;decide),?_⟩;rw[dD (names:=["letter","group","old"]) rfl (by decide +kernel)];refine⟨bE _,λn c=>?_⟩;have l:n≠p:=λz=>by subst z;rw[av] at c;cases c
  rw[aF l] at c;have f:i≠n:=λz=>by subst z;rw[av] at c;cases c
  rw[aF (bP f),aF l] at c;refine⟨_,rfl,p,_,j,_,rfl,(by rw[aF (bP l)];exact av),T.c7,T.gP,(by show 4<1000;decide),?_⟩;rw[dD (names:=["letter","group","old","done_at"]) rfl (by decide +kernel)];refine k i n _ d c f av ?_ ?_ λb o e m=>?_
  ·rw[aF (bP q),aF f,aF (bP q)];exact av
  ·rw[aF l];exact av
  ·rw[aF m,aF (aH e c),aF m,aF (aH e d),aF m];exact e
noncomputable def fP(s:NS)(x:Nat)(to:Option Nat):LS:={s:=x,to:=to.getD 0,kd:=if to.isSome=true then 1 else 2,grp:=s.groups.getD x 0,old:=false,done:=[],aE:=[]}
noncomputable def Lm(s:NS)(l:LS):NS:={s with ls:=s.ls++[l]}
noncomputable def mV(s:NS)(x:Nat)(to:Option Nat):NS:={s with ls:=s.ls++[{fP s x to with aE:=[.post (s.bg.getD x 0)]}]}
noncomputable def rR(rs:List R5)(s:NS)(x:Nat)(to:Option Nat)(os:List Nat):NS:=Uu rs (mV s x to) s.ls.length (s.bg.getD x 0) {fP s x to with aE:=[.post (s.bg.getD x 0)]} none os
theorem Ux{s:NS}{x:Nat}{to:Option Nat}:dc (Lm s (fP s x to)) s.ls.length (.post (s.bg.getD x 0))=mV s x to:=by
 rw[e9 (l:=fP s x to) (by show (s.ls++[_])[s.ls.length]?=_;rw[bL (ay _),iF];rfl)];show {s with ls:=(s.ls++[_]).set s.ls.length _}={s with ls:=_};congr 1;rw[List.set_append_right _ _ (ay _),iF];rfl
theorem vn{s:NS}{l:LS}:(s.ls++[l])[s.ls.length]?=some l:=by rw[bL (ay _),iF];rfl
theorem Sw{n m D:Nat}{s:NS}{x:Nat}{to:Option Nat}(b:Bd n m D s)(e:x<s.bg.length):Bd n m (D+1) (mV s x to):=by
 have a:=b.mono (dO D);refine⟨a.gl,a.zF,a.g3,a.hm,a.hl,a.hb,?_,λl z=>?_,a.cb,λc z=>?_,a.tb⟩
 ·show (s.ls++[_]).length<=_
  rw[az];exact oH b.ll 1
 ·rcases bz.mp z with y|y
  ·exact a.lb l y
  ·rw[bf] at y
   subst y;refine⟨?_,bE _,?_,?_⟩
   ·show 1+s.cps.length<=D+1
    have:=b.cb
    lia
   ·show s.groups.getD x 0<3
    have d:x<s.groups.length:=by rw[b.gl];exact e
    rw[aq,aa d];exact b.g3 _ (aK d)
   ·show (if _ then (1:Int) else 2)=1∨(if _ then (1:Int) else 2)=2
    split
    ·exact .inl rfl
    ·exact .inr rfl
 ·obtain⟨g,f⟩:=b.cl c z
  refine⟨?_,f⟩;show c.l<(s.ls++[_]).length;rw[az];exact bG g (xQ _ _)
inductive Sx(K:af)(CT:Addr)(c:NC)(vs:List V)(H:Hp)(Q:VK)(E:XK):Prop
 |mk (F:Addr->Prop) (p tp ln lr:Addr) (ns:List Int) (rs:List R5) (s:NS) (o:eZ ns rs) (x:Nat) (to:Option Nat) (D:Nat):vs=[.ref p,.int x,zY (to.map λy:Nat=>(y:Int))]->NW K c CT H F p tp ln lr ns rs s->zZ ns rs s->Bd ns.length rs.length D s->D<=800000->x<s.bg.length->(∀y,to=some y->y<s.bg.length/\s.groups[y]?=s.groups[x]?)->(∀os F' H',d9 (mh ns rs o s.ws (s.groups.getD x 0)) (s.R (s.groups.getD x 0)) os->os.length<=12->NW K c CT H' F' p tp ln lr ns rs (rR rs s x to os)->Step H F H' F'->Q (.int s.ls.length) H')->Sx K CT c vs H Q E
theorem OR{t:Ad}(T:Txt K mg t):b6 P w K mg base iH 8 t.jc t.yr ["self","sender","to"]  (Sx K t.aV (nc t)):=by
 refine T.tX.jJ uT λH Q E Y h=>?_
 ·obtain⟨F,p,tp,ln,lr,ns,rs,st,o,x,c,D,rfl,N,zG,bd,hD,W,hto,k⟩:=h
  refine⟨_,(ak (fq (cM (pv 0) T.bw T.xA (Ed T) Y (oA (pv 1) (pv 2)))) (ak (sS 3 uT (zK (qT Vf (pv 2) lW) (Rk T.YL (xH T) (Y.mono (!_)) rfl T.YK T.qU.B .nil kG (fY (pv 1))) (cI T.Au (GL T) Y T.YJ (oA (pv 1) (pv 2))))) (ak (sS 4 uT (lS T.gR (aR (pv 0) rfl))) (ak (fq (uJ bJ bN bM fR (aR (pv 0) rfl) (fY (cI T.zh (Ft T) Y T.Ww (oA (pv 3) (xL (aR (pv 0) rfl) (pv 1))))))) (ak (sS 5 uT (xL (aR (pv 0) rfl) (pv 1))) (ak (fq (uJ bJ bN bM fR (aR (xL (aR (pv 0) rfl) (pv 4)) rfl) (fY (iE (oA gX (pv 5)))))) (ak (fq (cM (pv 0) T.bw T.qV (xN T) Y (HN (pv 4) (pv 5) lW))) (oR (pv 4))))))))),?_⟩
  left
  obtain⟨j,dx,q,hp,O,hF,hT⟩:=id N.cV;have bR:=O.get .cV _ rfl;rw[hp] at bR;have hxg:x<st.groups.length:=by rw[bd.gl];exact W
  refine bZ λZ m=>?_;refine⟨_,rfl,p,_,_,rfl,bR,rfl,_,rfl,_,rfl,F,p,tp,ns.length,x,c,st,rfl,N.cV,W,bd.gl,hto,m _ _ ?_⟩;refine acB (λσ r=>∃la LX,aD H r/\H la=none/\r la=some (rW (nc t) LX (fP st x c))/\σ=[some (.ref p),some (.int x),some (zY (c.map λy:Nat=>(y:Int))),some (.ref la),none,none]) ?_ (λN hN=>?_)
  rotate_left
  ·cases c with
   |none =>
    refine⟨_,rfl,rfl,_,rfl,fF ?_⟩;refine⟨_,rfl,λz dz U R G=>⟨z,_,dz,x,rfl,av,T.yw,T.oh,rfl,?_⟩⟩;exact hN _ _ ⟨z,dz,made U R G,U,av,rfl⟩
   |some y =>
    refine⟨_,rfl,rfl,_,rfl,dQ ?_⟩;refine⟨_,rfl,_,rfl,λz dz U R G=>⟨z,dz,x,y,rfl,av,λH3 hy3 kp=>⟨rfl,?_⟩⟩⟩;exact hN _ _ ⟨z,dz,λb u e=>kp b u (((aD.new R).trans (aD.new (by rw[aF (bP G)];exact U))) b u e) (aH e U),U,hy3,rfl⟩
  rintro σ r ⟨la,LX,s,Xc,hla,rfl⟩;have iY:=s _ _ bR;have N1:=N.mono s;obtain⟨O1,T1⟩:=And.intro (O.mono s) (hT.mono λb x=>s.dw (a:=b) (xs:=x));have Zd:=O1.get .cD _ rfl;refine bZ λZ m=>?_;refine⟨_,rfl,p,_,_,_,_,rfl,iY,T.bw,T.dS,rfl,j .cD,_,rfl,.inl (bK.of Zd),?_⟩;rw[ah,aX];refine m _ _ ?_;refine bZ λZ m=>?_;refine⟨_,rfl,p,_,_,_,_,rfl,iY,T.bw,T.dS,rfl,.inl ⟨rfl,_,bK.of Zd⟩,_,rfl,_,rfl,p,_,_,_,_,rfl,iY,T.bw,T.oi,rfl,_,rfl,j .groups,_,_,_,rfl,rfl,bK.of (O1.get .groups _ rfl),qi hxg,λpa Ej f Ze Zf=>⟨pa,Ej,la,_,rfl,av,λda ea H2 M Uw nde h2p h2d h2e JG=>⟨rfl,?_⟩⟩⟩;have n:aD r H2:=λb u e=>JG b u (((aD.new Ze).trans (aD.new (by rw[aF (bP Zf)];exact f))) b u e) (aH e f);have L:r da=none:=by
   cases e:r da with
   |none=>rfl
   |some u =>
    have:=((aD.new (o:=.own pa) Ze).trans (aD.new (o:=.ins t.jv Ej []) (by rw[aF (bP Zf)];exact f))) _ _ e
    rw[M] at this;cases this
  have A:r ea=none:=by
   cases e:r ea with
   |none=>rfl
   |some u =>
    have:=((aD.new (o:=.own pa) Ze).trans (aD.new (o:=.ins t.jv Ej []) (by rw[aF (bP Zf)];exact f))) _ _ e
    rw[Uw] at this;cases this
  have nF:∀{b},r b=none->¬F b:=λ{b} e z=>by
   obtain⟨u,e'⟩:=N1.cV.there z;rw[e] at e';cases e'
  have nFl:¬F la:=λz=>by
   obtain⟨u,e'⟩:=N.cV.there z;rw[Xc] at e';cases e'
  have npd:pa≠da:=λz=>by rw[<- z,av] at M;cases M
  have npe:pa≠ea:=λz=>by rw[<- z,av] at Uw;cases Uw
  have J:∀{b},r b=none->la≠b:=λ{b} e=>aH hla e;have eg:st.groups.getD x 0=st.groups[x]:=by rw[aq,aa hxg];rfl
  have acD:=n _ _ Zd;refine⟨j .cD,_,_,rfl,rfl,acD,wK (by rw[ah,aX];have:=bd.ll;lia),?_⟩;obtain⟨F3,N3,kp3,fr3⟩:=Wb (l:=fP st x c) (Ej:=Ej) (LX:=LX) (pa:=pa) (la:=la) (da:=da) (ea:=ea) hp (O1.mono n) hF (T1.mono λb x=>n.dw (a:=b) (xs:=x)) rfl (by show _=some (HO.ins _ _ [_,(_,V.int ((st.groups.getD x 0:Nat):Int)),_,_,_]);rw[eg];exact h2p) (n _ _ hla) h2d h2e (bP (J f)) npd npe (J L) (J A) nde (nF f) nFl (nF L) (nF A);have C:Step H F _ F3:=⟨λb u e z=>kp3 b u (n _ _ (s _ _ e)) z,λb z=>by
   rcases fr3 b z with y|rfl|rfl|rfl|rfl
   ·exact .inl y
   ·exact .inr (s.free f)
   ·exact .inr Xc
   ·exact .inr (s.free L)
   ·exact .inr (s.free A)⟩
  have W3:=N.done C N3;generalize upd H2 (j .cD) (.lst (((au st.ls.length).map λi=>V.ref (j (.bS i)))++[.ref pa]))=H3 at C W3 N3;refine m _ _ ?_;obtain⟨I,YT,q3,X,S,hF3,hT3⟩:=id W3.cV;have X3:kr K (nc t) H3 F3 I YT q3 p tp ns.length (Lm st (fP st x c)):=⟨X,S,hF3,hT3⟩;have Eg:=S.get .cV _ rfl;rw[X] at Eg;have g:(Lm st (fP st x c)).ls[st.ls.length]?=some (fP st x c):=vn;have Zg:st.ls.length<(Lm st (fP st x c)).ls.length:=(ai.mp g).1;have eh:st.bg.getD x 0=st.bg[x]:=by rw[aq,aa W];rfl
  refine bZ λZ m=>?_;refine⟨_,rfl,p,_,_,_,_,rfl,Eg,T.bw,T.qA,rfl,_,rfl,I .bg,_,_,_,rfl,rfl,bK.of (S.get .bg _ rfl),qi W,m _ _ ?_⟩;have Xd:=S.get (.bS st.ls.length) (mR (nc t) YT I st.ls.length (fP st x c)) (by show ((Lm st (fP st x c)).ls[st.ls.length]?.map _)=_;rw[g];rfl);have afu:=S.get (.aE st.ls.length) (.lst ((q3.dq st.ls.length).map V.ref)) (by show ((Lm st (fP st x c)).ls[st.ls.length]?.map _)=_;rw[g];rfl);have MX:=(X3.tup.aE _ _ g).len;rw[ah] at MX;refine bZ λZ m=>?_;refine⟨_,rfl,p,_,_,_,_,rfl,Eg,T.bw,T.dS,rfl,_,rfl,I .cD,_,_,_,rfl,rfl,bK.of (S.get .cD _ rfl),oS Zg,I (.bS st.ls.length),_,_,_,_,rfl,Xd,T.c7,T.gP,rfl,.inl ⟨rfl,_,bK.of afu⟩,_,rfl,fy,λz1 hz1=>?_⟩;have u1:=aD.new (o:=.tup [V.str "post",V.int (st.bg[x]:Nat)]) hz1;refine⟨I (.aE st.ls.length),_,_,rfl,rfl,u1 _ _ afu,wK (by rw[ah,MX];exact bE _),?_⟩;obtain⟨X4,JA⟩:=z7 (X3.mono u1) g (d:=.post st.bg[x]) (cW.of av);rw[<- e9 g,<- eh,Ux] at X4;rw[<- eh] at JA u1;rw[<- eh];have v:=C.trans ((Step.refl' (F:=F3) u1).trans JA);have W4:=N.done v X4.cV;generalize upd (upd H3 z1 (.tup [V.str "post",V.int (st.bg.getD x 0:Nat)])) (I (.aE st.ls.length)) (.lst ((q3.dq st.ls.length).map V.ref++[.ref z1]))=H4 at X4 v W4;refine m _ _ ?_;have Ba:=X4.own.get .cV _ rfl;rw[X4.hp] at Ba;have acF:zZ ns rs (mV st x c):=⟨zG.wl,zG.w4,zG.fit⟩;refine bZ λZ m=>?_;refine⟨_,rfl,p,_,_,rfl,Ba,rfl,_,rfl,_,rfl,F3,p,tp,ln,lr,ns,rs,mV st x c,o,st.ls.length,st.bg.getD x 0,none,{fP st x c with aE:=[.post (st.bg.getD x 0)]},D+1,rfl,W4,acF,Sw bd W,∅,vn,λos F5 H5 hO h12 W5 Pj=>?_⟩;exact m _ _ ⟨_,rfl,k os F5 H5 hO h12 W5 (v.trans Pj)⟩
theorem aay{ns:List Int}{rs:List R5}(o:eZ ns rs){D:Nat}{s:NS}{i h:Nat}{l:LS}{cP:Option Nat}{os:List Nat}(b:Bd ns.length rs.length D s)(hl:s.ls[i]?=some l)(O:d9 (mh ns rs o s.ws l.grp) (s.R l.grp) os)(p:os.length<=12):Bd ns.length rs.length (D+45) (Uu rs s i h l cP os):=by
 have n:=Sq (h:=h) b hl;have f1:=MQ (h:=h) hl;have m:Bd ns.length rs.length (D+1+1*(oG s l h).length) ((oG s l h).foldl (lE i h) (eF s i h l)):=BA (λ_=>True) _ _ _ (λs x D _ _ b=>⟨trivial,MR b⟩) trivial n;have q:Fr (eF s i h l) ((oG s l h).foldl (lE i h) (eF s i h l)):=zc (λ_ _=>G3) _ _;obtain⟨v,a,_⟩:=(f1.trans q).lt i l hl;have y:=(OP (s:=s) (l:=l) (h:=h)).2;have w:=b.zF;have c:=Su (rs:=rs) (s:=s) (l:=l) (h:=h) (cP:=cP) (os:=os);have u:=c.2;have g:=BA (k:=2) (f:=uC rs i h) (λs=>i<s.ls.length) (JC rs s l h cP os) _ _ (λs x D j d b=>⟨by
  obtain⟨t,e,_⟩:=(G4 (rs:=rs) (h:=h) (i:=i) (r:=x) (s:=s)).lt i _ (aa d);exact (ai.mp e).1,Ss o b d (BB O (c.1 x j)).1⟩) (ai.mp a).1 m
 exact g.mono ∅
noncomputable def zA(l:LS)(cp:Cp)(os:List Nat):Str:=if cp.r∈os then (if Cf l cp.h=true then "twice" else "come") else "lost"
noncomputable def oz(l:LS)(cp:Cp)(os:List Nat):iW:=if cp.r∈os then (if Cf l cp.h=true then .twice cp.h cp.r else .TR cp.h cp.r) else .Qo cp.h cp.r
theorem Zh{l:LS}{cp:Cp}{os:List Nat}:(oz l cp os).vs=[.str (zA l cp os),.int cp.h,.int cp.r]:=by
 unfold oz zA;split
 ·split <;> rfl
 ·rfl
noncomputable def comes(l:LS)(cp:Cp)(os:List Nat):Bool:=decide (cp.r∈os)&&!Cf l cp.h
theorem Uy{l:LS}{cp:Cp}{os:List Nat}:decide (V.str (zA l cp os)=V.str "come")=comes l cp os:=by
 unfold zA comes;by_cases e:cp.r∈os
 ·rw[b3 e,eH e]
  cases Cf l cp.h
  ·rw[b5 (!_)];decide +kernel
  ·rw[b3 rfl];decide +kernel
 ·rw[b5 e,eL e,Bool.false_and];decide +kernel
noncomputable def OT(s:NS)(a:Nat):NS:={s with cps:=s.cps.eraseIdx a}
noncomputable def Sy(s:NS)(g:Nat)(ts:List T3):NS:={s with ts:=iB s.ts g ts}
noncomputable def vp(s:NS)(a:Nat)(cp:Cp)(l:LS)(os:List Nat):NS:={s with cps:=s.cps.eraseIdx a,ls:=s.ls.set cp.l {l with aE:=l.aE++[oz l cp os]}}
noncomputable def fk(s:NS)(a:Nat)(cp:Cp)(l:LS)(os:List Nat)(ts:List T3):NS:=if l.old=true then vp s a cp l os else Sy (vp s a cp l os) l.grp ts
noncomputable def kI(rs:List R5)(s:NS)(a:Nat)(cp:Cp)(l:LS)(os:List Nat)(ts:List T3):NS :=
 if comes l cp os=true then Uu rs (fk s a cp l os ts) cp.l cp.h {l with aE:=l.aE++[oz l cp os]} (some cp.r) os else vp s a cp l os
theorem Fv{n m D:Nat}{s:NS}{a:Nat}{cp:Cp}{l:LS}{os:List Nat}(b:Bd n m D s)(hl:s.ls[cp.l]?=some l)(d:a<s.cps.length):Bd n m (D+1) (vp s a cp l os):=by
 have e:(s.cps.eraseIdx a).length+1=s.cps.length:=by
  rw[List.length_eraseIdx,b3 d];lia
 refine b.set 1 hl ∅ (.inl ∅) (ay _) ?_ (dO _) rfl rfl (λc z=>.inl (List.mem_of_mem_eraseIdx z)) rfl (λw z=>jL (b.hb w z));show (l.aE++[_]).length+_<=_;rw[az];show l.aE.length+1+_<=_;lia
theorem Xe{ts a:List T3}{h c r:Int}(p:a.Perm (put3 ts h c r)):a.length<=ts.length+1:=by
 rw[p.length_eq];unfold put3;rw[az];exact oH (aT _ _) 1
theorem Zi{n m D:Nat}{s:NS}{g:Nat}{ts:List T3}{h c r:Int}(b:Bd n m D s)(p:ts.Perm (put3 (s.ts g) h c r))(e:iz ts):Bd n m (D+50) (Sy s g ts):=by
 have a:=b.mono (xQ D 50);refine⟨a.gl,a.zF,a.g3,a.hm,a.hl,a.hb,a.ll,a.lb,a.cb,a.cl,λd=>?_⟩;show 50*(iB s.ts g ts d).length<=_/\iz (iB s.ts g ts d);by_cases z:d=g
 ·subst z
  rw[cZ];refine⟨?_,e⟩
  have:=Xe p
  have:=(b.tb d).1
  lia
 ·rw[fH z]
  exact a.tb d
theorem Fw{s:NS}{a:Nat}{cp:Cp}{l:LS}{os:List Nat}(hl:s.ls[cp.l]?=some l):(vp s a cp l os).ls[cp.l]?=some {l with aE:=l.aE++[oz l cp os]}:=by
 show (s.ls.set cp.l _)[cp.l]?=_;rw[gG (ai.mp hl).1,b3 rfl]
theorem Bb{s:NS}{a:Nat}{cp:Cp}{l:LS}{os:List Nat}{ts:List T3}(hl:s.ls[cp.l]?=some l):(fk s a cp l os ts).ls[cp.l]?=some {l with aE:=l.aE++[oz l cp os]}:=by
 unfold fk;split
 ·exact Fw hl
 ·exact Fw (a:=a) hl
theorem Bc{s:NS}{a:Nat}{cp:Cp}{l:LS}{os:List Nat}{ts:List T3}:(fk s a cp l os ts).ws=s.ws/\(fk s a cp l os ts).R=s.R/\(fk s a cp l os ts).bg=s.bg/\(fk s a cp l os ts).groups=s.groups:=by
 unfold fk;split <;> exact⟨rfl,rfl,rfl,rfl⟩
theorem OU{n m D:Nat}{s:NS}{a:Nat}{cp:Cp}{l:LS}{os:List Nat}{ts:List T3}{h c r:Int}(b:Bd n m D s)(hl:s.ls[cp.l]?=some l)(d:a<s.cps.length)(p:ts.Perm (put3 (s.ts l.grp) h c r))(e:iz ts):Bd n m (D+51) (fk s a cp l os ts):=by
 unfold fk;split
 ·exact (Fv b hl d).mono ∅
 ·exact (Zi (h:=h) (c:=c) (r:=r) (Fv b hl d) p e).mono ∅
theorem Zj{ns:List Int}{rs:List R5}(o:eZ ns rs){D:Nat}{s:NS}{a:Nat}{cp:Cp}{l:LS}{os:List Nat}{ts:List T3}{h c r:Int}(b:Bd ns.length rs.length D s)(hl:s.ls[cp.l]?=some l)(f:a<s.cps.length)(O:d9 (mh ns rs o s.ws l.grp) (s.R l.grp) os)(d:os.length<=12)(p:ts.Perm (put3 (s.ts l.grp) h c r))(g:iz ts):Bd ns.length rs.length (D+100) (kI rs s a cp l os ts):=by
 unfold kI;split
 ·have e:=Bc (s:=s) (a:=a) (cp:=cp) (l:=l) (os:=os) (ts:=ts)
  exact (aay o (OU (h:=h) (c:=c) (r:=r) b hl f p g) (Bb hl) (by rw[e.1,e.2.1];exact O) d).mono ∅
 ·exact (Fv b hl f).mono ∅
theorem _root_.TW.c8.erase{H:Hp}{qs:List Addr}{xs:List (List V)}(h:c8 K H qs xs)(a:Nat):c8 K H (qs.eraseIdx a) (xs.eraseIdx a):=by
 refine⟨by rw[List.length_eraseIdx,List.length_eraseIdx,h.len],λi q x c b=>?_⟩;rw[List.getElem?_eraseIdx] at c b;by_cases z:i<a
 ·rw[b3 z] at c b
  exact h.at' i q x c b
 ·rw[b5 z] at c b
  exact h.at' (i+1) q x c b
theorem Fx{α β:Type}(f:α->β):∀(xs:List α) (a:Nat),(xs.map f).eraseIdx a=(xs.eraseIdx a).map f
 |[],_=>rfl
 |_::_,0=>rfl
 |x::xs,a+1=>e8 (f x::·) (Fx f xs a)
theorem Xf{c:NC}{H d:Hp}{F:Addr->Prop}{a j:Role->Addr}{q:TQ}{p i:Addr}{n g:Nat}{s:NS}(X:kr K c H F a j q p i n s)(f:g<3)(ts:List T3)(y:d (a (.fh g))=some (.dT (ts.map iX)))(w:∀b o,H b=some o->b≠a (.fh g)->d b=some o) :
 kr K c d F a j q p i n (Sy s g ts)/\Step H F d F:=by
 obtain⟨v,h⟩:=Bm X (r:=.fh g) (o:=.dT (ts.map iX)) (q':=q) (s':=Sy s g ts) (by show (if g<3 then some _ else none)≠none;rw[b3 f];exact aM _) (λx=>by
  cases x <;> first|rfl|skip
  rename_i k;show iA (desc c j i a q s) (.fh g) _ (.fh k)=(if k<3 then some (HO.dT ((iB s.ts g ts k).map iX)) else none);by_cases z:k=g
  ·subst z
   rw[dB,b3 f,cZ]
  ·rw[cJ (λe=>z (by cases e;rfl)),fH z]
   rfl) (λm=>⟨λg f=>(X.tup.rows g f).mono m,λk l e=>(X.tup.aE k l e).mono m,X.tup.cps.mono m⟩)
 have t:aD (upd H (a (.fh g)) (.dT (ts.map iX))) d:=λb u e=>by
  by_cases z:b=a (.fh g)
  ·rw[z,av] at e
   cases e;rw[z];exact y
  ·rw[aF z] at e
   exact w b u e z
 exact⟨v.mono t,h.trans (Step.refl' t)⟩
theorem Zk{t:Ad}(T:Txt K mg t){b a:Role->Addr}{f:L2.St}{H:Hp}{Q:VK}{i:Nat}{l:LS}(g:∀Q:VK,Q (.ref (a (.bS i))) H->Ci 6 f H Q)(h:H (a (.bS i))=some (mR (nc t) b a i l))(c:H (a (.letter i))=some (rW (nc t) (b (.letter i)) l))(q:Q (.int l.s) H) :
 Hh K (Hh K (Ci 6) (Str.ofString "letter")) (Str.ofString "sender") f H Q:=by
 by_cases e:l.kd=1
 ·have d:H (a (.letter i))=some (.ins t.fV (b (.letter i)) [("sender",.int l.s),("to",.int l.to)]):=by rw[c];unfold rW;rw[b3 e]
  unfold Hh;exact (g _ ⟨a (.bS i),_,_,_,_,rfl,h,T.c7,T.ig,rfl,a (.letter i),_,b (.letter i),_,_,rfl,d,T.pX,T.tY,rfl,q⟩)
 ·have d:H (a (.letter i))=some (.ins t.jd (b (.letter i)) [("sender",.int l.s)]):=by rw[c];unfold rW;rw[b5 e]
  unfold Hh;exact (g _ ⟨a (.bS i),_,_,_,_,rfl,h,T.c7,T.ig,rfl,a (.letter i),_,b (.letter i),_,_,rfl,d,T.yw,T.oh,rfl,q⟩)
inductive Sz(K:af)(CT:Addr)(c:NC)(vs:List V)(H:Hp)(Q:VK)(E:XK):Prop
 |mk (F:Addr->Prop) (p tp ln lr:Addr) (ns:List Int) (rs:List R5) (s:NS) (o:eZ ns rs) (a D:Nat) (cp:Cp) (l:LS):vs=[.ref p,.int a]->NW K c CT H F p tp ln lr ns rs s->zZ ns rs s->Bd ns.length rs.length D s->D<=400000->s.cps[a]?=some cp->s.ls[cp.l]?=some l->(∀os ts F' H',d9 (mh ns rs o s.ws l.grp) (s.R l.grp) os->os.length<=12->ts.Perm (put3 (s.ts l.grp) cp.h l.s cp.r)->iz ts->NW K c CT H' F' p tp ln lr ns rs (kI rs s a cp l os ts)->Step H F H' F'->Q (.str (zA l cp os)) H')->Sz K CT c vs H Q E
theorem Ju{t:Ad}(T:Txt K mg t):b6 P w K mg base iH 8 t.fK t.pV ["self","at"]  (Sz K t.aV (nc t)):=by
 refine T.lA.jJ gI λH Q E hr h=>?_
 ·obtain⟨F,p,G,ln,lr,ns,A,st,o,a,D,cp,l,rfl,N,C,L,hD,S,g,k⟩:=h
  refine⟨_,(ak (b4 (gY (jl qe rM aA (pv 1) (lS T.gR (aR (pv 0) rfl)))) dJ aW) (ak (sS 2 gI (uJ bJ PySem.F.slot_list_pop PySem.F.type_list_pop Vw (aR (pv 0) rfl) (fY (pv 1)))) (ak (sS 3 gI (xT (pv 2) aA)) (ak (sS 4 gI (xT (pv 2) aA)) (ak (sS 5 gI (xT (pv 2) aA)) (ak (sS 6 gI (xL (aR (pv 0) rfl) (pv 3))) (ak (sS 7 gI (cM (pv 0) T.bw T.BQ (Jt T) hr (HN (pv 6) (pv 4) (pv 5)))) (ak (fq (uJ bJ bN bM fR (aR (pv 6) rfl) (fY (iE (HN (pv 7) (pv 5) (pv 4)))))) (ak (b4 (qT wO (pv 7) gX) (ak (b4 (gY (jB (aR (pv 6) rfl))) (oE (cM (xL (aR (pv 0) rfl) (aR (pv 6) rfl)) T.yy T.DH (Ka T) hr (HN (pv 5) (aR (aR (pv 6) rfl) rfl) (pv 4)))) aW) (oE (cM (pv 0) T.bw T.qV (xN T) hr (HN (pv 3) (pv 5) (pv 4))))) aW) (oR (pv 7))))))))))),?_⟩
  left
  obtain⟨b,y,q,hp,O,hF,hT⟩:=id N.cV;have X:kr K (nc t) H F b y q p G ns.length st:=⟨hp,O,hF,hT⟩;have bR:=O.get .cV _ rfl;rw[hp] at bR;have J:=(ai.mp S).1;have hil:=(ai.mp g).1;have hcb:=L.cb;obtain⟨lb1,lb2,hg,lkd⟩:=L.lb l (aU g);obtain⟨ts,ets,B,u⟩:=Qm (h:=(cp.h:Int)) (c:=(l.s:Int)) (r:=(cp.r:Int)) (List.Perm.refl (st.ts l.grp)) (L.tb l.grp).2;have x:=O.get .eX _ rfl;have I:q.cq.length=st.cps.length:=by
   have z:=hT.cps.len;rw[ah] at z;exact z
  have haq:a<q.cq.length:=∅
  refine bZ λv f=>?_;refine⟨_,rfl,_,_,rfl,rfl,_,rfl,?_⟩;rw[eH (show (0:Int)<=(a:Int) by lia)];refine fF ⟨_,rfl,p,_,_,_,_,rfl,bR,T.bw,T.je,rfl,b .eX,_,rfl,.inl (bK.of x),_,_,rfl,rfl,_,rfl,?_⟩;rw[ah,I,eH (show (a:Int)<(st.cps.length:Int) by lia)];refine dQ (f _ _ ?_);refine bZ λv f=>?_;refine⟨_,rfl,p,_,_,_,_,rfl,bR,T.bw,T.je,rfl,.inl ⟨rfl,_,bK.of x⟩,_,rfl,b .eX,_,a,a,_,rfl,rfl,x,∅,∅,(LH (by rw[ah,I];exact Du J)).1,(by rw[aj,aa haq];rfl),?_⟩;have htu:cW K H q.cq[a] cp.vs:=hT.cps.at' a _ _ (aa haq) (by rw[aj,S];rfl);obtain⟨n,m⟩:=RO X (qs:=q.cq.eraseIdx a) (cps:=st.cps.eraseIdx a) (by rw[<- Fx];exact hT.cps.erase a);rw[Fx];have Z:cW K _ q.cq[a] cp.vs:=N.cV.tup m.kp htu;generalize upd H (b .eX) (.lst ((q.cq.eraseIdx a).map V.ref))=H1 at n m Z;generalize q.cq[a]=qa at Z;refine f _ _ ?_;have es:{st with cps:=st.cps.eraseIdx a}=OT st a:=rfl;rw[es] at n;have M:(OT st a).ls[cp.l]?=some l:=g;have N1:=N.done m n.cV;have iY:=n.own.get .cV _ rfl;rw[n.hp] at iY;have afw:=n.own.get (.bS cp.l) (mR (nc t) y b cp.l l) (by show ((OT st a).ls[cp.l]?.map _)=_;rw[M];rfl);refine bZ λv f=>?_;refine⟨_,rfl,qa,_,0,_,rfl,rfl,Z,rfl,f _ _ ?_⟩;refine bZ λv f=>?_;refine⟨_,rfl,qa,_,1,_,rfl,rfl,Z,rfl,f _ _ ?_⟩;refine bZ λv f=>?_;refine⟨_,rfl,qa,_,3,_,rfl,rfl,Z,rfl,f _ _ ?_⟩;refine bZ λv f=>?_;refine⟨_,rfl,p,_,_,_,_,rfl,iY,T.bw,T.dS,rfl,_,rfl,b .cD,_,_,_,rfl,rfl,bK.of (n.own.get .cD _ rfl),oS hil,f _ _ ?_⟩;have Uv:zZ ns A (OT st a):=⟨C.wl,C.w4,C.fit⟩;refine bZ λv f=>?_;refine⟨_,rfl,p,_,_,rfl,iY,rfl,_,rfl,_,rfl,_,rfl,F,b,y,_,p,G,ln,lr,ns,A,OT st a,o,cp.l,cp.r,cp.h,l,rfl,n,N1,Uv,M,hg,λos H2 s2 hO h12=>?_⟩;have ef:(if cp.r∈os then (if Cf l cp.h=true then "twice" else "come") else "lost" : Str)=zA l cp os:=rfl;rw[ef];refine f _ _ ?_;have k:=k os ts;have X2:=n.mono s2;have afx:=s2 _ _ afw;have acH:=X2.own.get (.aE cp.l) (.lst ((q.dq cp.l).map V.ref)) (by show ((OT st a).ls[cp.l]?.map _)=_;rw[M];rfl);have MX:=(X2.tup.aE cp.l _ M).len;rw[ah] at MX;have MX:(q.dq cp.l).length=l.aE.length:=MX;refine bZ λv f=>?_;refine⟨_,rfl,b (.bS cp.l),_,_,_,_,rfl,afx,T.c7,T.gP,rfl,.inl ⟨rfl,_,bK.of acH⟩,_,rfl,_,rfl,_,rfl,iT,λz1 hz1=>?_⟩;have u1:=aD.new (o:=.tup [V.str (zA l cp os),V.int cp.h,V.int cp.r]) hz1;refine⟨b (.aE cp.l),_,_,rfl,rfl,u1 _ _ acH,wK (by rw[ah,MX];lia),?_⟩;obtain⟨i,st3⟩:=z7 (X2.mono u1) M (d:=oz l cp os) (by rw[Zh];exact cW.of av);have U:=(m.trans (Step.refl' (F:=F) (s2.trans u1))).trans st3;generalize upd (upd H2 z1 (.tup [V.str (zA l cp os),V.int cp.h,V.int cp.r])) (b (.aE cp.l)) (.lst ((q.dq cp.l).map V.ref++[.ref z1]))=H3 at i U;refine f _ _ ?_;have es:{OT st a with ls:=(OT st a).ls.set cp.l {l with aE:=l.aE++[oz l cp os]}}=vp st a cp l os:=rfl;rw[es] at i;have Eg:=i.own.get .cV _ rfl;rw[i.hp] at Eg;have Zg:=Fw (a:=a) (os:=os) g;have Xd:=i.own.get (.bS cp.l) (mR (nc t) y b cp.l {l with aE:=l.aE++[oz l cp os]}) (by show ((vp st a cp l os).ls[cp.l]?.map _)=_;rw[Zg];rfl);have aiR:=i.own.get (.letter cp.l) (rW (nc t) (y (.letter cp.l)) {l with aE:=l.aE++[oz l cp os]}) (by show ((vp st a cp l os).ls[cp.l]?.map _)=_;rw[Zg];rfl);have N3:=N.done U i.cV;refine⟨_,rfl,rfl,_,rfl,?_⟩;rw[Uy];by_cases e:comes l cp os=true
  ·have k:∀F' Y,NW K (nc t) t.aV Y F' p G ln lr ns A (Uu A (fk st a cp l os ts) cp.l cp.h {l with aE:=l.aE++[oz l cp os]} (some cp.r) os)->Step H F Y F'->Q (.str (zA l cp os)) Y:=λF' Y W z=>k F' Y hO h12 B u (by unfold kI;rw[b3 e];exact W) z
   rw[e];refine fF ?_;refine nh (λσ H4=>kr K (nc t) H4 F b y {q with cq:=q.cq.eraseIdx a,dq:=iB q.dq cp.l (q.dq cp.l++[z1])} p G ns.length (fk st a cp l os ts)/\Step H F H4 F/\σ=[some (.ref p),some (.int a),some (.ref qa),some (.int cp.l),some (.int cp.r),some (.int cp.h),some (.ref (b (.bS cp.l))),some (.str (zA l cp os))]) ?_ (λN' hN=>?_)
   ·rintro σ H4 ⟨X4,JA,rfl⟩
    have Ba:=X4.own.get .cV _ rfl;rw[X4.hp] at Ba;have ew:=Bc (s:=st) (a:=a) (cp:=cp) (l:=l) (os:=os) (ts:=ts);have acF:zZ ns A (fk st a cp l os ts):=⟨by rw[ew.1];exact C.wl,by rw[ew.1];exact C.w4,by rw[ew.2.1];exact C.fit⟩;refine⟨_,rfl,p,_,_,rfl,Ba,rfl,_,rfl,_,rfl,_,rfl,F,p,G,ln,lr,ns,A,fk st a cp l os ts,o,cp.l,cp.h,some cp.r,{l with aE:=l.aE++[oz l cp os]},D+51,rfl,N.done JA X4.cV,acF,OU L g J B u,∅,Bb g,λos' F5 H5 j _ W5 Pj=>?_⟩;have j:d9 (mh ns A o (fk st a cp l os ts).ws l.grp) ((fk st a cp l os ts).R l.grp) os':=j;rw[ew.1,ew.2.1] at j;rw[j.uniq hO] at W5;exact⟨_,rfl,k F5 H5 W5 (JA.trans Pj)⟩
   ·refine⟨_,rfl,b (.bS cp.l),_,_,_,_,rfl,Xd,T.c7,T.yx,rfl,_,rfl,?_⟩
    cases eo:l.old with
    |true =>
     refine dQ ?_;refine hN _ _ ⟨?_,U,rfl⟩;unfold fk;rw[b3 eo];exact i
    |false =>
     refine fF ?_;refine⟨_,rfl,p,_,_,_,_,rfl,Eg,T.bw,T.qz,rfl,_,rfl,b (.bS cp.l),_,_,_,_,rfl,Xd,T.c7,T.kg,rfl,b .i0,_,_,_,rfl,rfl,bK.of (i.own.get .i0 _ rfl),oS hg,b (.book l.grp),y (.book l.grp),_,rfl,i.own.get (.book l.grp) _ (b3 hg),rfl,_,rfl,?_⟩;refine Zk T (λQ q=>⟨_,rfl,q⟩) Xd aiR ?_;refine⟨_,rfl,b (.book l.grp),b (.fh l.grp),st.ts l.grp,cp.h,l.s,cp.r,rfl,i.own.LU hg,?_,λH4 h4 kp4=>?_⟩
     ·have:=(L.tb l.grp).1
      lia
     ·rw[ets] at h4
      obtain⟨X4,JA⟩:=Xf i hg ts h4 kp4;refine hN _ _ ⟨?_,U.trans JA,rfl⟩;unfold fk;rw[b5 (by rw[eo];decide)];exact X4
  ·have e':comes l cp os=false:=by simpa using e
   rw[e'];refine dQ ?_;refine⟨_,rfl,k F H3 hO h12 B u ?_ U⟩;unfold kI;rw[e',b5 (!_)];exact N3
end
section
inductive Rw(rs:List R5)(os:List Nat)(r0:Nat)(x:Nat):Nat->Prop
 |refl:Rw rs os r0 x x
 |step {y r:Nat} (t:Rw rs os r0 x y) (hr:r∈os) (ne:r≠r0) (ha:isAt rs (y:Int) r=true):Rw rs os r0 x (gx rs r y)
inductive Ds(N:RM.Net)(R:Nat->RM.Row)(c:Nat):Nat->Prop
 |self:Ds N R c c
 |on {r x y:Nat} (t:RM.oN N R r x y) (d:Ds N R c y):Ds N R c x
theorem Ds.rank{N:RM.Net}{R:Nat->RM.Row}{c x:Nat}(d:Ds N R c x):(R c).ho<=(R x).ho:=by
 induction d with
 |self=>exact jA _
 |on t _ a=>have:=t.ho;lia
variable{ns:List Int}{rs:List R5}{os:List Nat}{live:List Nat}{nd:ns.Nodup}{ok:∀r∈rs,r.Ok ns.length}{hl:∀k∈live,k<rs.length}{R:Nat->RM.Row}
theorem Q4{r x:Nat}(a:r∈live)(b:isAt rs (x:Int) r=true):RM.GX (aQ ns rs live nd ok hl) r x (gx rs r x):=by
 refine (uK a).mpr ⟨b,?_⟩;unfold gx;rw[aa (hl r a)]
theorem SA{N:RM.Net}{r a b x y:Nat}(h:RM.GX N r a b)(c:RM.GX N r x y):(a=x/\b=y)∨(a=y/\b=x):=by
 rcases h.2 with ⟨g,f⟩|⟨g,f⟩ <;> rcases c.2 with ⟨d,e⟩|⟨d,e⟩ <;> lia
theorem OV{r x:Nat}(f:r<rs.length)(ok:∀r∈rs,r.Ok ns.length)(c:isAt rs (x:Int) r=true):isAt rs ((gx rs r x:Nat):Int) r=true/\gx rs r (gx rs r x)=x/\gx rs r x≠x/\gx rs r x<ns.length:=by
 have o:=ok _ (aK f);have n:=o.a0;have k:=o.b0;have i:=o.ab;have l:=o.a1;have m:=o.b1;have h:∀y,gx rs r y=f6 rs[r] y:=λy=>by unfold gx;rw[aa f]
 have g:∀y:Int,isAt rs y r=(decide (y=rs[r].a) || decide (y=rs[r].b)):=λy=>by unfold isAt;rw[aa f]
 rw[h,h,g];rw[g] at c;have c:(decide ((x:Int)=rs[r].a) || decide ((x:Int)=rs[r].b))=true:=c;rw[Bool.or_eq_true,decide_eq_true_iff,decide_eq_true_iff] at c;show (decide _ || decide _)=true/\f6 rs[r] (f6 rs[r] x)=x/\f6 rs[r] x≠x/\f6 rs[r] x<_;rw[Bool.or_eq_true,decide_eq_true_iff,decide_eq_true_iff];unfold f6;rcases c with e|e
 ·rw[b3 e]
  have d:((rs[r].b.toNat:Nat):Int)=rs[r].b:=∅
  rw[d,b5 (bP i)];lia
 ·have j:¬(x:Int)=rs[r].a:=∅
  rw[b5 j];have d:((rs[r].a.toNat:Nat):Int)=rs[r].a:=∅
  rw[d,b3 rfl];lia
theorem SE(O:d9 (aQ ns rs live nd ok hl) R os){r0 c p:Nat}(j:RM.oN (aQ ns rs live nd ok hl) R r0 c p){r y z:Nat}(g:r∈os)(h:r≠r0)(e:RM.GX (aQ ns rs live nd ok hl) r y z)(d:Ds (aQ ns rs live nd ok hl) R c y):Ds (aQ ns rs live nd ok hl) R c z:=by
 obtain⟨a,b,t⟩:=(O.2 r).mp g;rcases SA t.Bg e with ⟨rfl,rfl⟩|⟨rfl,rfl⟩
 ·cases d with
  |self=>exact ee (t.uniq j).1 h
  |on f i =>
   obtain⟨_,rfl⟩:=t.uniq f;exact i
 ·exact .on t d
theorem Zl(O:d9 (aQ ns rs live nd ok hl) R os){r x:Nat}(f:r∈os)(g:isAt rs (x:Int) r=true):¬Rw rs os r x (gx rs r x):=by
 intro t;obtain⟨c,p,i⟩:=(O.2 r).mp f;have j:∀k∈os,k∈live:=λk q=>by
  obtain⟨a,b,t⟩:=(O.2 k).mp q;exact t.Bg.1
 have o:∀{y z:Nat},Rw rs os r y z->Ds (aQ ns rs live nd ok hl) R c y->Ds (aQ ns rs live nd ok hl) R c z:=λ{y z} t=>by
  induction t with
  |refl=>exact id
  |step t f l g m=>exact λd=>SE O i f l (Q4 (j _ f) g) (m d)
 have h:∀{y z:Nat},Rw rs os r y z->Ds (aQ ns rs live nd ok hl) R c z->Ds (aQ ns rs live nd ok hl) R c y:=λ{y z} t=>by
  induction t with
  |refl=>exact id
  |step t f l g m=>exact λd=>m (SE O i f l (Q4 (j _ f) g).symm d)
 have e:=i.ho;rcases SA i.Bg (Q4 (j r f) g) with ⟨rfl,n⟩|⟨s,rfl⟩
 ·have:=(o t .self).rank
  rw[<- n] at this;lia
 ·have:=(h t (s▸.self)).rank
  lia
theorem Rw.trans{r0 x y z:Nat}(a:Rw rs os r0 x y)(b:Rw rs os r0 y z):Rw rs os r0 x z:=by
 induction b with
 |refl=>exact a
 |step t e c f d=>exact .step d e c f
theorem Rw.symm{r0 x y:Nat}(ok:∀r∈rs,r.Ok ns.length)(lt:∀k∈os,k<rs.length)(a:Rw rs os r0 x y):Rw rs os r0 y x:=by
 induction a with
 |refl=>exact .refl
 |@step y r t b e c f =>
  obtain⟨g,d,_⟩:=OV (lt r b) ok c
  have:Rw rs os r0 (gx rs r y) y:=by
   have:=Rw.step (rs:=rs) (os:=os) (r0:=r0) (x:=gx rs r y) .refl b e g
   rw[d] at this;exact this
  exact this.trans f
structure En where
 h:Nat
 fr:Option (Nat×Nat)
noncomputable def En.by?(e:En):Option Nat:=e.fr.map (·.1)
noncomputable def goes(rs:List R5)(os:List Nat)(e:En):List Nat:=os.filter λr=>isAt rs (e.h:Int) r&&!decide (some r=e.by?)
theorem qC{e:En}{r:Nat}:r∈goes rs os e↔r∈os/\isAt rs (e.h:Int) r=true/\some r≠e.by?:=by
 unfold goes;rw[bU,dh,Bool.not_eq_true',decide_eq_false_iff_not]
end
section
variable{P:Program}{w:World}{K:af}{mg:Str->Option Value}{base:Heap}
inductive OW(K:af)(c:NC)(vs:List V)(H:Hp)(Q:VK)(E:XK):Prop
 |mk (F:Addr->Prop) (p tp:Addr) (n i:Nat) (s:NS) (l:LS):vs=[.ref p,.int i]->dm K c H F p tp n s->s.ls[i]?=some l->(∀a (qs:List Addr) H',aD H H'->H a=none->H' a=some (.lst (qs.map V.ref))->c8 K H' qs (l.aE.map iW.vs)->Q (.ref a) H')->OW K c vs H Q E
theorem sE{t:Ad}(T:Txt K mg t):b6 P w K mg base iH 1 t.qu t.u0 ["self","letter"]  (OW K (nc t)):=by
 refine T.qx.F.jJ Mf λH Q E B h=>?_
 ·obtain⟨F,p,z,n,i,st,l,rfl,N,d,k⟩:=h
  refine⟨_,(ak (b4 (gY (jl qe rM aA (pv 1) (lS T.gR (aR (pv 0) rfl)))) dJ aW) (oR (gu iy (by rfl) T.vU boot_list (fY (aR (xL (aR (pv 0) rfl) (pv 1)) rfl))))),?_⟩
  left
  obtain⟨c,v,q,s,O,A,r⟩:=id N;have f:=O.get .cV _ rfl;rw[s] at f;have g:=(ai.mp d).1;have m:=O.get .cD _ rfl;have y:=O.get (.bS i) (mR (nc t) v c i l) (by show (st.ls[i]?.map _)=_;rw[d];rfl);have e:=O.get (.aE i) (.lst ((q.dq i).map V.ref)) (by show (st.ls[i]?.map _)=_;rw[d];rfl);refine⟨_,rfl,_,_,rfl,rfl,_,rfl,?_⟩;rw[eH (show (0:Int)<=(i:Int) by lia)];refine fF ⟨_,rfl,p,_,_,_,_,rfl,f,T.bw,T.dS,rfl,c .cD,_,rfl,.inl (bK.of m),_,_,rfl,rfl,_,rfl,?_⟩;rw[ah,aX,eH (show (i:Int)<(st.ls.length:Int) by lia)];refine dQ ?_;refine⟨_,rfl,p,_,_,_,_,rfl,f,T.bw,T.dS,rfl,_,rfl,c .cD,_,_,_,rfl,rfl,bK.of m,oS g,c (.bS i),_,_,_,_,rfl,y,T.c7,T.gP,rfl,c (.aE i),_,rfl,.inl (bK.of e),λa j=>?_⟩;have u:=aD.new (o:=.lst ((q.dq i).map V.ref)) j;exact k a (q.dq i) _ u j av ((r.aE i l d).mono λb x=>u.dw)
noncomputable def dW:iW->Str
 |.post _=>"post"
 |.TR _ _=>"come"
 |.hand _ _=>"hand"
 |.send _ _ _=>"send"
 |.twice _ _=>"twice"
 |.Qo _ _=>"lost"
noncomputable def dI:iW->List Int
 |.post h=>[h]
 |.TR h r=>[h,r]
 |.hand h c=>[h,c]
 |.send h r w=>[h,r,w]
 |.twice h r=>[h,r]
 |.Qo h r=>[h,r]
theorem SG(d:iW):d.vs=.str (dW d)::(dI d).map V.int:=by cases d <;> rfl
theorem Zm(d:iW):1<=(dI d).length:=by cases d <;> simp[dI]
noncomputable def zd:List V:=[.str "post",.str "come",.str "hand",.str "send",.str "twice",.str "lost"]
theorem Zn(d:iW):Gs (.str (dW d)) zd=true:=by
 cases d
 ·exact (by decide +kernel:Gs (.str "post") zd=true)
 ·exact (by decide +kernel:Gs (.str "come") zd=true)
 ·exact (by decide +kernel:Gs (.str "hand") zd=true)
 ·exact (by decide +kernel:Gs (.str "send") zd=true)
 ·exact (by decide +kernel:Gs (.str "twice") zd=true)
 ·exact (by decide +kernel:Gs (.str "lost") zd=true)
theorem Eh(d:iW):FD (V.str (dW d)::(dI d).map V.int) 0=some (V.str (dW d)):=dX (j:=0) rfl
theorem Xh(d:iW):V.int ((((.str (dW d)::(dI d).map V.int:List V).length:Nat):Int))=V.int (2+(if (!decide (V.str (dW d)=V.str "post"))=true then 1 else 0)+(if decide (V.str (dW d)=V.str "send")=true then 1 else 0)):=by
 have a:∀h,(decide (V.str (dW (.post h))=V.str "post"))=true:=λh=>by show decide (V.str "post" = V.str "post")=true;decide +kernel
 cases d
 ·show V.int 2=V.int (2+(if (!decide (V.str "post" = V.str "post"))=true then 1 else 0)+(if decide (V.str "post" = V.str "send")=true then 1 else 0));decide +kernel
 ·show V.int 3=V.int (2+(if (!decide (V.str "come" = V.str "post"))=true then 1 else 0)+(if decide (V.str "come" = V.str "send")=true then 1 else 0));decide +kernel
 ·show V.int 3=V.int (2+(if (!decide (V.str "hand" = V.str "post"))=true then 1 else 0)+(if decide (V.str "hand" = V.str "send")=true then 1 else 0));decide +kernel
 ·show V.int 4=V.int (2+(if (!decide (V.str "send" = V.str "post"))=true then 1 else 0)+(if decide (V.str "send" = V.str "send")=true then 1 else 0));decide +kernel
 ·show V.int 3=V.int (2+(if (!decide (V.str "twice" = V.str "post"))=true then 1 else 0)+(if decide (V.str "twice" = V.str "send")=true then 1 else 0));decide +kernel
 ·show V.int 3=V.int (2+(if (!decide (V.str "lost" = V.str "post"))=true then 1 else 0)+(if decide (V.str "lost" = V.str "send")=true then 1 else 0));decide +kernel
inductive Xi(K:af)(vs:List V)(H:Hp)(Q:VK)(E:XK):Prop
 |mk (a:Addr) (qs:List Addr) (ds:List iW):vs=[.ref a]->bK K H a (qs.map V.ref)->c8 K H qs (ds.map iW.vs)->(∀H',aD H H'->Q (.bl true) H')->Xi K vs H Q E
theorem GP{t:Ad}(T:Txt K mg t):b6 P w K mg base iH 2 t.j7 t.nX ["_law_story"]  (Xi K):=by
 refine T.Ay.F.jJ qS λH Q E hr h=>?_
 ·obtain⟨a,u,J,rfl,I,X,k⟩:=h
  refine⟨_,(ak (b4 (gY (jB (cB Tn T.oj boot_isinstance (oA (pv 0) (Df rfl T.vU boot_list (v:=.ty "list") rfl))))) oB aW) (ak (fS (gj (pv 0)) (gT 1 qS) (ak (b4 (PW.pt (Dg (gY (jB (cB Tj T.oj boot_isinstance (oA (pv 1) (Df rfl T.YM boot_tuple (v:=.ty "tuple") rfl))))) (Dg (qT rM (lS T.gR (pv 1)) aA) (zJ (gY (jB (cB Hq T.oj boot_isinstance (oA (xT (pv 1) aA) (Df rfl T.aeK boot_str (v:=.ty "str") rfl))))))))) oB aW) (ak (b4 (gY (jB (cB (VH rfl) T.aeL boot_all (fY (gU (kO qS ["_law_one"] [none]) rfl (PD (wQ LF (pv 1) (rT aA) GV)) (λ_ _ _ _=>by exact (gS 0 CG)) (λ_ _ _ _=>by exact ko) (λ_ _ _ _=>by exact (cG (QS T) hr T.KW (fY (pv 0))))))))) oB aW) (ak (b4 (kj m7 (xT (pv 1) aA) (iE (aN6 gX gX gX gX gX gX)) (by with_unfolding_all rfl)) oB aW) (br (b4 (qT qd (lS T.gR (pv 1)) (aY fC (aY fC aA (gu Ko (by rfl) T.Wx boot_int (fY (qE qd (xT (pv 1) aA) gX)))) (gu Ko (by rfl) T.Wx boot_int (fY (qE wO (xT (pv 1) aA) gX))))) oB aW)))))) oB)),?_⟩
  left
  have eq:u.length=J.length:=by rw[X.len,ah]
  refine⟨_,rfl,a,_,_,_,rfl,I,rfl,_,rfl,dQ ?_⟩;refine⟨_,rfl,a,rfl,⟨_,I⟩,sO (K:=K) (a:=a) (xs:=u.map V.ref) (λi A m=>aD H m/\∃S:Option V,A=[some (.ref a),S]) ⟨aD.refl _,_,rfl⟩ (λi A m _ z=>z.1.seq I) ?_ ?_⟩
  ·rintro i y A m L ⟨D,S,rfl⟩
   have s:i<u.length:=by
    have:=(ai.mp L).1
    rw[ah] at this;exact this
   rw[aj,aa s] at L;cases L;have c:=D.dw (X.at' i u[i] (J[i]'∅).vs (aa s) (by rw[aj,aa ∅];rfl));generalize u[i]=q at c;generalize J[i]'∅=d at c;rw[SG] at c;have h1:=Zm d;refine⟨_,rfl,q,_,_,_,rfl,c,rfl,_,rfl,dQ ?_⟩;refine⟨_,rfl,q,_,rfl,.inr c,_,_,rfl,rfl,_,rfl,?_⟩;rw[eL (show ¬(((V.str (dW d)::(dI d).map V.int).length:Nat):Int)<2 by rw[bq,ah];lia)];refine dQ ⟨_,rfl,q,_,0,_,rfl,rfl,c,Eh d,_,_,_,_,rfl,.str _,rfl,_,rfl,dQ ?_⟩;have nw:¬(HT.lX (V.str (dW d)::(dI d).map V.int).length 0 (some 1)=0/\HT.lX (V.str (dW d)::(dI d).map V.int).length (V.str (dW d)::(dI d).map V.int).length none=(V.str (dW d)::(dI d).map V.int).length):=λz=>by
    have z1:=z.1;rw[show (1:Int)=((1:Nat):Int) from rfl,HT.GU,bq] at z1;lia
   refine⟨_,rfl,_,rfl,q,_,rfl,c,nw,λz hz=>?_⟩;have ct:Dk (V.str (dW d)::(dI d).map V.int) (some 1) none=(dI d).map V.int:=Nm _ 1;rw[ct];have Z:=aD.new (o:=.tup ((dI d).map V.int)) hz;have p:cW K _ z ((dI d).map V.int):=cW.of (av (H:=m) (a:=z) (o:=.tup ((dI d).map V.int)));generalize upd m z (.tup ((dI d).map V.int))=H3 at Z p;refine⟨z,rfl,⟨_,p⟩,λG e=>?_⟩;refine fG (n:=((dI d).map V.int).length) (λi M _=>∃g:List Bool,M=g.map V.bl/\g.length=i/\g.all id=true) e (Qc p) (Hy p) ⟨[],rfl,rfl,rfl⟩ ?_ ?_
   ·rintro j M H4 O C N ⟨g,rfl,r,l⟩ x H5 ⟨rfl,B⟩
    have B:=B _ (C.dw p);have R:j<(dI d).length:=by rw[ah] at O;exact O
    rw[aj,aa R] at B;cases B;have h3:(dI d).length<=3:=by cases d <;> simp[dI]
    refine⟨_,rfl,_,rfl,?_⟩;exact dR e O C N (by rw[ah];exact ck ∅) ⟨g++[true],-_,by simp[r],by simp[l]⟩
   rintro M H4 C N ⟨g,rfl,r,l⟩;refine⟨G,g,rfl,bK.of N,_,rfl,?_⟩;rw[l];refine dQ ?_;have U:=Z.trans C;have W:=U.dw c;refine⟨_,rfl,q,_,0,_,rfl,rfl,W,Eh d,aaw,λb hb=>?_⟩;have Y:=aD.new (o:=.tup zd) hb;refine⟨b,zd,rfl,.inr (cW.of av),rfl,!_,_,rfl,?_⟩
   try dsimp only
   rw[b3 rfl,Zn];refine dQ ?_;have f:=Y.dw W;refine⟨_,rfl,q,_,rfl,.inr f,_,rfl,q,_,0,_,rfl,rfl,f,Eh d,rfl,.inr ⟨_,rfl,_,_,rfl,rfl,_,rfl,q,_,0,_,rfl,rfl,f,Eh d,rfl,.inr ⟨_,rfl,_,_,rfl,rfl,rfl,_,rfl,?_⟩⟩⟩;rw[eH (Xh d)];exact dQ ⟨(D.trans U).trans Y,_,rfl⟩
  ·rintro A m ⟨D,S,rfl⟩
   exact k m D
end
section
structure Fo(ns:List Int)(rs:List R5)(os:List Nat):Prop where
 lt:∀r∈os,r<rs.length
 ok:∀r∈rs,r.Ok ns.length
 cut:∀r∈os,∀x:Nat,isAt rs (x:Int) r=true->¬Rw rs os r x (gx rs r x)
 ri:os.Pairwise (·<·)
variable{ns:List Int}{rs:List R5}{os:List Nat}
theorem Fo.of{live:List Nat}{nd:ns.Nodup}{ok:∀r∈rs,r.Ok ns.length}{hl:∀k∈live,k<rs.length}{R:Nat->RM.Row}(O:d9 (aQ ns rs live nd ok hl) R os):Fo ns rs os:=⟨VT O,ok,λ_ b _ a=>Zl O b a,O.1⟩
theorem Fo.back(F:Fo ns rs os){r x:Nat}(b:r∈os)(a:isAt rs (x:Int) r=true):isAt rs ((gx rs r x:Nat):Int) r=true/\gx rs r (gx rs r x)=x/\gx rs r x≠x/\gx rs r x<ns.length:=OV (F.lt r b) F.ok a
theorem Fo.two(F:Fo ns rs os){r x y:Nat}(g:r∈os)(f:isAt rs (x:Int) r=true)(d:isAt rs (y:Int) r=true):y=x∨y=gx rs r x:=by
 have c:=F.lt r g;have o:=F.ok _ (aK c);have i:=o.a0;have h:=o.b0;have e:∀y:Int,isAt rs y r=(decide (y=rs[r].a) || decide (y=rs[r].b)):=λy=>by unfold isAt;rw[aa c]
 rw[e,Bool.or_eq_true,decide_eq_true_iff,decide_eq_true_iff] at f d;unfold gx;rw[aa c];show y=x∨y=f6 rs[r] x;unfold f6;split <;> lia
theorem Fo.symm(F:Fo ns rs os){r0 x y:Nat}(a:Rw rs os r0 x y):Rw rs os r0 y x:=a.symm F.ok F.lt
theorem Fo.avoid(F:Fo ns rs os){q x z f:Nat}(g:q∈os)(d:isAt rs (x:Int) q=true)(a:isAt rs (x:Int) f=true)(t:Rw rs os q (gx rs q x) z):Rw rs os f (gx rs q x) z:=by
 induction t with
 |refl=>exact .refl
 |@step y r t b i c j =>
  refine .step j b (λe=>?_) c;subst e;rcases F.two b a c with e|e
  ·subst e
   exact F.cut q g y d (F.symm t)
  ·have h:=Rw.step t b i c
   rw[e,(F.back b a).2.1] at h;exact F.cut q g x d (F.symm h)
noncomputable def nx(rs:List R5)(e:En)(r:Nat):En:=⟨gx rs r e.h,some (r,e.h)⟩
structure WJ(ns:List Int)(rs:List R5)(os:List Nat)(f:Nat)(D Pn:List En):Prop where
 nd:((D++Pn).map (·.h)).Nodup
 fr:∀e∈D++Pn,∀r p,e.fr=some (r,p)->r∈os/\isAt rs (p:Int) r=true/\gx rs r p=e.h/\(∃e'∈D,e'.h=p)/\Rw rs os r f p
 f0:∀e∈D++Pn,e.fr=none->e.h=f
 lt:∀e∈D++Pn,e.h<ns.length
theorem WJ.zero{f:Nat}(b:f<ns.length):WJ ns rs os f [] [⟨f,none⟩] :=
 ⟨-_,λe a r p h=>(by rw[bf.mp a] at h;cases h),λe a _=>(by rw[bf.mp a]),λe a=>(by rw[bf.mp a];exact b)⟩
variable{f:Nat}{D Pn A B:List En}{e:En}
theorem WJ.side(F:Fo ns rs os)(w:WJ ns rs os f D Pn)(i:e∈D++Pn){r0:Nat}(n:r0∈os)(k:isAt rs (e.h:Int) r0=true)(l:some r0≠e.by?):Rw rs os r0 f e.h:=by
 cases z:e.fr with
 |none=>rw[w.f0 e i z];exact .refl
 |some q =>
  obtain⟨r,p⟩:=q;obtain⟨c,g,d,_,m⟩:=w.fr e i r p z;have a:r≠r0:=λq=>l (by unfold En.by?;rw[z,<- q];rfl);obtain⟨j,b,_⟩:=F.back c g;rw[d] at j b;have t:=F.avoid c j k (by rw[b];exact F.symm m);rw[b] at t
  have:=Rw.step (F.symm t) c a g
  rw[d] at this;exact this
theorem OX(nd:((D++Pn).map (·.h)).Nodup)(c:e∈Pn):∀a∈D,a.h≠e.h:=λa b z=>by
 rw[aO,jM] at nd;exact nd.2.2 _ (List.mem_map_of_mem b) _ (List.mem_map_of_mem c) z
theorem WJ.next(F:Fo ns rs os)(w:WJ ns rs os f D (A++e::B)){j:List Nat}(U:j.Nodup)(s:∀r∈j,r∈goes rs os e):WJ ns rs os f (D++[e]) (A++B++j.map (nx rs e)):=by
 have u:e∈A++e::B:=-_
 have n:e∈D++(A++e::B):=cR _ u;have L:=OX w.nd u;have pm:((D++[e])++(A++B++j.map (nx rs e))).Perm ((D++(A++e::B))++j.map (nx rs e)):=by
  have c:([e]++(A++B)).Perm (A++e::B):=by
   show (e::(A++B)).Perm _;exact List.perm_middle.symm
  have i:=(c.append_left D).append_right (j.map (nx rs e))
  simpa [fz] using i
 have K:∀r∈j,∀b∈D++(A++e::B),b.h≠gx rs r e.h:=λr m b g z=>by
  obtain⟨c,i,G⟩:=qC.mp (s r m);have O:=w.side F n c i G;obtain⟨V,Q,X,_⟩:=F.back c i;by_cases q:some r=b.by?
  ·unfold En.by? at q
   cases y:b.fr with
   |none=>rw[y] at q;cases q
   |some v =>
    obtain⟨W,p⟩:=v;rw[y] at q;have q:r=W:=aN q;subst q;obtain⟨_,t,E,⟨H,J,C⟩,_⟩:=w.fr b g r p y
    have:p=e.h:=by
     have:=(F.back c t).2.1
     rw[E,z,Q] at this;exact this.symm
    exact L H J (C.trans this)
  ·have M:=w.side F g c (by rw[z];exact V) q
   rw[z] at M;exact F.cut r c e.h i ((F.symm O).trans M)
 have l:∀b,b∈(D++[e])++(A++B++j.map (nx rs e))->b∈D++(A++e::B)∨∃r∈j,b=nx rs e r:=λb g=>by
  rcases bz.mp (pm.mem_iff.mp g) with h|h
  ·exact .inl h
  ·obtain⟨r,m,z⟩:=aS.mp h
   exact .inr ⟨r,m,z.symm⟩
 refine⟨?_,λb g r p h=>?_,λb g h=>?_,λb g=>?_⟩
 ·rw[(pm.map (·.h)).nodup_iff,aO,jM]
  refine⟨w.nd,?_,λx P y S=>?_⟩
  ·rw[cz]
   refine vz.mpr (List.Pairwise.imp_of_mem ?_ U);intro r k m d R z;obtain⟨c,i,_⟩:=qC.mp (s r m);obtain⟨I,t,_⟩:=qC.mp (s k d);have z:gx rs r e.h=gx rs k e.h:=z
   have:=Rw.step (rs:=rs) (os:=os) (r0:=r) (x:=e.h) .refl I (bP R) t
   rw[<- z] at this;exact F.cut r c e.h i this
  ·obtain⟨a,N,rfl⟩:=aS.mp P
   obtain⟨b,g,rfl⟩:=aS.mp S;obtain⟨r,m,rfl⟩:=aS.mp g;exact K r m a N
 ·rcases l b g with o|⟨k,d,rfl⟩
  ·obtain⟨I,t,E,⟨H,J,C⟩,T⟩:=w.fr b o r p h
   exact⟨I,t,E,⟨H,oJ _ J,C⟩,T⟩
  ·obtain⟨c,i,G⟩:=qC.mp (s k d)
   cases h;exact⟨c,i,rfl,⟨e,-_,rfl⟩,w.side F n c i G⟩
 ·rcases l b g with o|⟨k,d,rfl⟩
  ·exact w.f0 b o h
  ·cases h
 ·rcases l b g with o|⟨k,d,rfl⟩
  ·exact w.lt b o
  ·obtain⟨c,i,_⟩:=qC.mp (s k d)
   exact (F.back c i).2.2.2
end
section
variable{ns:List Int}{rs:List R5}{os:List Nat}{s:NS}{l:LS}{i h:Nat}
theorem OY:∀(cs:List Nat) (s:NS) (l:LS),s.ls[i]?=some l->∃had,cs.foldl (lE i h) s={s with had:=had,ls:=s.ls.set i {l with aE:=l.aE++cs.map (iW.hand h)}}
 |[],s,l,e=>⟨s.had,by
  show s={s with had:=s.had,ls:=s.ls.set i {l with aE:=l.aE++[]}};rw[cS,HM e]⟩
 |c::cs,s,l,e=>by
  have d:=(ai.mp e).1;have f:(uB s i c).ls[i]?=some l:=e;have a:lE i h s c={s with had:=s.had.set c (s.had.getD c []++[i]),ls:=s.ls.set i {l with aE:=l.aE++[.hand h c]}}:=by
   unfold lE;rw[e9 f];rfl
  obtain⟨had,b⟩:=OY cs (lE i h s c) {l with aE:=l.aE++[.hand h c]} (by rw[a];show (s.ls.set i _)[i]?=_;rw[gG d,b3 rfl]);refine⟨had,?_⟩;rw[mY,b,a];show {s with had:=had,ls:=(s.ls.set i _).set i _}=_;rw[List.set_set];simp only[fz,bT];rfl
theorem OZ:∀(a:List Nat) (s:NS) (l:LS),s.ls[i]?=some l->a.foldl (uC rs i h) s={s with cps:=s.cps++a.map λr=>⟨i,r,kH s.ws r (jE l),gx rs r h⟩,ls:=s.ls.set i {l with aE:=l.aE++a.map λr=>.send h r (kH s.ws r (jE l))}}
 |[],s,l,e=>by
  show s={s with cps:=s.cps++[],ls:=s.ls.set i {l with aE:=l.aE++[]}};rw[cS,cS,HM e]
 |r::a,s,l,e=>by
  have d:=(ai.mp e).1;have c:Ut s i=jE l:=by unfold Ut;rw[e]
  have b:uC rs i h s r={s with cps:=s.cps++[⟨i,r,kH s.ws r (jE l),gx rs r h⟩],ls:=s.ls.set i {l with aE:=l.aE++[.send h r (kH s.ws r (jE l))]}}:=by
   unfold uC ON;rw[e9 e,c]
  rw[mY,OZ a (uC rs i h s r) {l with aE:=l.aE++[.send h r (kH s.ws r (jE l))]} (by rw[b];show (s.ls.set i _)[i]?=_;rw[gG d,b3 rfl]),b];show {s with cps:=_,ls:=(s.ls.set i _).set i _}=_;rw[List.set_set];simp only[fz,bT];rfl
theorem aaA{cP:Option Nat}(e:s.ls[i]?=some l):∃had,Uu rs s i h l cP os={s with had:=had,cps:=s.cps++(JC rs s l h cP os).map λr=>⟨i,r,kH s.ws r (jE l),gx rs r h⟩,ls:=s.ls.set i {l with done:=qB l.done h,aE:=l.aE++((oG s l h).map (iW.hand h)++(JC rs s l h cP os).map λr=>.send h r (kH s.ws r (jE l)))}}:=by
 have a:=(ai.mp e).1;unfold Uu;have c:(eF s i h l).ls[i]?=some {l with done:=qB l.done h}:=by
  show (s.ls.set i _)[i]?=_;rw[gG a,b3 rfl]
 obtain⟨had,b⟩:=OY (h:=h) (oG s l h) (eF s i h l) _ c;refine⟨had,?_⟩;rw[b,OZ _ _ {l with done:=qB l.done h,aE:=l.aE++(oG s l h).map (iW.hand h)} (by show ((s.ls.set i _).set i _)[i]?=_;rw[gG (by rw[bA];exact a),b3 rfl])];show {s with had:=had,cps:=_,ls:=((s.ls.set i _).set i _).set i _}=_;rw[List.set_set,List.set_set];simp only[fz];rfl
theorem Xj{ds:List Nat}{h:Nat}{l:LS}(e:l.done=ds):Cf l h=decide (h∈ds):=by
 unfold Cf;rw[e];clear e;induction ds with
 |nil=>rfl
 |cons d ds a =>
  rw[bT];by_cases z:d=h
  ·subst z
   rw[zP rfl];simp
  ·rw[zQ (λe=>z (by have:=Sum.inl.inj e;lia)),a]
   have:¬h=d:=λe=>z e.symm
   simp[this]
theorem Zo{e:En}:((((os.filter (isAt rs e.h)).map λk:Nat=>(k:Int)).filter (kR (e.by?.map λk:Nat=>(k:Int)))).map mZ)=goes rs os e:=by
 unfold goes;rw[List.filter_map,cz,List.filter_filter]
 have:(mZ∘λk:Nat=>(k:Int))=id:=by funext k;exact gi k
 rw[this,qG];refine List.filter_congr λr _=>?_;rw[Bool.and_comm];congr 1;show kR (e.by?.map λk:Nat=>(k:Int)) (r:Int)=_;unfold kR;congr 1;rw[decide_eq_decide];cases e.by? with
 |none=>exact⟨λz=>(by cases z),λz=>(by cases z)⟩
 |some q=>exact⟨λz=>(by have z:V.int (r:Int)=V.int (q:Int):=z;have:=V.int.inj z;rw[show r=q by lia]),λz=>(by rw[aN z];rfl)⟩
theorem Zp(F:Fo ns rs os){e:En}:(goes rs os e).Nodup:=List.Nodup.sublist List.filter_sublist (F.ri.imp λh=>bD h)
noncomputable def Q6(rs:List R5)(c:Cp):En:=⟨c.h,some (c.r,gx rs c.r c.h)⟩
end
section
structure SD(ns:List Int)(rs:List R5)(bs:List (List Bool))(cl:List (Nat×Nat))(D:Nat)(s:NS):Prop where
 ok:zZ ns rs s
 bd:Bd ns.length rs.length D s
 ws:s.ws=bs.map stand
 fit:jw rs bs
 hm:s.bg=cl.map (·.1)
 gr:s.groups=cl.map (·.2)
variable{ns:List Int}{rs:List R5}{bs:List (List Bool)}{cl:List (Nat×Nat)}{D:Nat}{s:NS}
theorem SD.mono{a:Nat}(h:SD ns rs bs cl D s)(e:D<=a):SD ns rs bs cl a s:=⟨h.ok,h.bd.mono e,h.ws,h.fit,h.hm,h.gr⟩
theorem Zq{n m:Nat}{g:Nat}(b:Bd n m D s):Bd n m D (Li s g):=by
 refine⟨b.gl,b.zF,b.g3,b.hm,b.hl,b.hb,by show (s.ls.map _).length<=D;rw[ah];exact b.ll,λl z=>?_,b.cb,λc z=>by show c.l<(s.ls.map _).length/\_;rw[ah];exact b.cl c z,λa=>?_⟩
 ·obtain⟨d,e,rfl⟩:=aS.mp z
  unfold GO;split
  ·exact b.lb d e
  ·exact b.lb d e
 ·show 50*(iB s.ts g [] a).length<=D/\iz (iB s.ts g [] a)
  by_cases z:a=g
  ·subst z
   rw[cZ];exact⟨bE _,lG⟩
  ·rw[fH z]
   exact b.tb a
theorem SD.news(h:SD ns rs bs cl D s)(g:Nat):SD ns rs bs cl D (Li s g):=⟨⟨h.ok.wl,h.ok.w4,h.ok.fit⟩,Zq h.bd,h.ws,h.fit,h.hm,h.gr⟩
theorem SD.rQ(h:SD ns rs bs cl D s)(e:Int):∀m,SD ns rs bs cl D (rQ s e m)
 |0=>h
 |m+1=>by
  rw[C6];split
  ·exact (h.rQ e m).news m
  ·exact h.rQ e m
theorem SD.call{g x:Nat}{d:RM.Row}(h:SD ns rs bs cl D s)(b:Eu ns.length rs.length d):SD ns rs bs cl D (OG s g x d):=by
 unfold OG;split
 ·exact h
 ·refine SD.news (s:={s with R:=iB s.R g (RM.upd (s.R g) x d)}) ⟨⟨h.ok.wl,h.ok.w4,λk a=>?_⟩,⟨h.bd.gl,h.bd.zF,h.bd.g3,h.bd.hm,h.bd.hl,h.bd.hb,h.bd.ll,h.bd.lb,h.bd.cb,h.bd.cl,h.bd.tb⟩,h.ws,h.fit,h.hm,h.gr⟩ g
  show xW _ _ (iB s.R g (RM.upd (s.R g) x d) k);by_cases z:k=g
  ·subst z
   rw[cZ];intro i c;unfold RM.upd;split
   ·exact b
   ·exact h.ok.fit k a i c
  ·rw[fH z]
   exact h.ok.fit k a
theorem O0{P Q:LS->Prop}{i:Nat}{d:iW}(h:∀l∈s.ls,P l)(c:∀l,P l->Q l)(f:∀l,P l->Q {l with aE:=l.aE++[d]}):∀l∈(dc s i d).ls,Q l:=by
 intro l a;unfold dc at a;cases e:s.ls[i]? with
 |none=>rw[e] at a;exact c l (h l a)
 |some b =>
  rw[e] at a;rcases p6 a with z|rfl
  ·exact c l (h l z)
  ·exact f b (h b (aU e))
theorem Q7{i:Nat}{d:iW}:(dc s i d).ws=s.ws/\(dc s i d).R=s.R/\(dc s i d).ts=s.ts/\(dc s i d).bg=s.bg/\(dc s i d).groups=s.groups/\(dc s i d).had=s.had:=by
 unfold dc;cases s.ls[i]? <;> exact⟨rfl,rfl,rfl,rfl,rfl,rfl⟩
theorem Jv{i x:Nat}:∀m,m<=s.cps.length->(iM s i x m).ws=s.ws/\(iM s i x m).R=s.R/\(iM s i x m).ts=s.ts/\(iM s i x m).bg=s.bg/\(iM s i x m).groups=s.groups/\(iM s i x m).had=s.had
 |0,_=>by rw[sY];exact⟨rfl,rfl,rfl,rfl,rfl,rfl⟩
 |m+1,k=>by
  have a:=Jv (i:=i) (x:=x) m ∅;rw[sZ ∅];unfold uQ;split
  ·obtain⟨j,b,e,g,c,f⟩:=Q7 (s:=iM s i x m) (i:=(s.cps[m]).l) (d:=.Qo (s.cps[m]).h i)
   exact⟨j.trans a.1,b.trans a.2.1,e.trans a.2.2.1,g.trans a.2.2.2.1,c.trans a.2.2.2.2.1,f.trans a.2.2.2.2.2⟩
  ·exact a
theorem O7{i x:Nat}(h:∀l∈s.ls,l.aE.length+s.cps.length<=D/\l.done.length<=D/\l.grp<3/\(l.kd=1∨l.kd=2)):∀m,m<=s.cps.length->∀l∈(iM s i x m).ls,l.aE.length+((s.cps.take m).filter λc=>!Pq i x c).length+s.cps.length<=D+m/\l.done.length<=D/\l.grp<3/\(l.kd=1∨l.kd=2)
 |0,_=>by rw[sY];exact h
 |m+1,j=>by
  have d:=O7 (i:=i) (x:=x) h m ∅;have b:m<s.cps.length:=∅
  rw[sZ b,EA (f:=λc:Cp=>!Pq i x c) b,az];unfold uQ;cases e:Pq i x s.cps[m]
  ·rw[b5 (!_),b3 (!_)]
   intro l a;obtain⟨k,g⟩:=d l a;exact⟨by show l.aE.length+(_+1)+_<=_;lia,g⟩
  ·rw[b3 rfl,b5 (!_)]
   refine O0 d (λl a=>⟨by have:=a.1;show l.aE.length+(_+0)+_<=_;lia,a.2⟩) (λl a=>⟨?_,a.2⟩)
   have:=a.1
   show (l.aE++[_]).length+(_+0)+_<=_;rw[az];show l.aE.length+1+(_+0)+_<=_;lia
theorem SD.lose(h:SD ns rs bs cl D s)(i x:Nat):SD ns rs bs cl D (ze s i x):=by
 obtain⟨e,j,k,a,d,f⟩:=Jv (s:=s) (i:=i) (x:=x) s.cps.length (ay _);have lb:=O7 (i:=i) (x:=x) h.bd.lb s.cps.length (ay _);have ll:=Ez (s:=s) (i:=i) (x:=x) (m:=s.cps.length);rw[kQ] at lb;unfold ze;generalize iM s i x s.cps.length=s2 at e j k a d f lb ll;have b:=h.bd;refine⟨⟨e▸h.ok.wl,e▸h.ok.w4,j▸h.ok.fit⟩,⟨?_,?_,?_,?_,?_,?_,?_,λl hl=>?_,?_,λc o=>?_,?_⟩,e.trans h.ws,h.fit,a.trans h.hm,d.trans h.gr⟩
 ·show s2.groups.length=s2.bg.length;rw[a,d];exact b.gl
 ·show s2.bg.length<=20;rw[a];exact b.zF
 ·show ∀g∈s2.groups,g<3;rw[d];exact b.g3
 ·show ∀h∈s2.bg,h<ns.length;rw[a];exact b.hm
 ·show s2.had.length=s2.bg.length;rw[a,f];exact b.hl
 ·show ∀w∈s2.had,w.length<=D;rw[f];exact b.hb
 ·show s2.ls.length<=D;rw[ll];exact b.ll
 ·obtain⟨p,n⟩:=lb l hl
  exact⟨by show l.aE.length+(s.cps.filter λc=>!Pq i x c).length<=D;lia,n⟩
 ·exact aJ (aT _ _) b.cb
 ·show c.l<s2.ls.length/\_
  rw[ll];exact b.cl c (bU.mp o).1
 ·show ∀g,50*(s2.ts g).length<=D/\iz (s2.ts g);rw[k];exact b.tb
theorem SD.f9{i x:Nat}{b:List Bool}{v:Bool}(o:eZ ns rs)(h:SD ns rs bs cl D s)(hb:bs[i]?=some b):SD ns rs (bs.set i (b.set x v)) cl D {s with ws:=s.ws.set i (stand (b.set x v))}:=by
 have f:=h.fit.set hb (k:=x) (x:=v);have l:s.ws.set i (stand (b.set x v))=(bs.set i (b.set x v)).map stand:=by rw[h.ws,List.map_set]
 refine⟨⟨by show (s.ws.set i _).length=_;rw[bA];exact h.ok.wl,λu c=>?_,h.ok.fit⟩,⟨h.bd.gl,h.bd.zF,h.bd.g3,h.bd.hm,h.bd.hl,h.bd.hb,h.bd.ll,h.bd.lb,h.bd.cb,h.bd.cl,h.bd.tb⟩,l,f,h.hm,h.gr⟩;have c:u∈s.ws.set i (stand (b.set x v)):=c;rw[l] at c;obtain⟨m,d,rfl⟩:=aS.mp c;obtain⟨j,g,e⟩:=List.getElem_of_mem d;have a:j<rs.length:=by rw[<- f.1];exact g
 have:=f.2 j _ _ (aa a) (aa g)
 have n:=(o.ok _ (aK a)).d4
 have:=Tv m
 rw[e] at *;lia
theorem SD.aiT{i x:Nat}{b:List Bool}(o:eZ ns rs)(h:SD ns rs bs cl D s)(c:bs[i]?=some b)(e:Int):SD ns rs (bs.set i (b.set x false)) cl D (Lj s i x (stand b) e):=by
 have a:=(h.f9 (x:=x) (v:=false) o c).lose i x;unfold Lj;rw[sV];split
 ·exact a.rQ e 3
 ·exact a
theorem SD.lay{i x:Nat}{b:List Bool}(o:eZ ns rs)(h:SD ns rs bs cl D s)(c:bs[i]?=some b)(e:Int):SD ns rs (bs.set i (b.set x true)) cl D (Ur s i (stand b) (stand (b.set x true)) e):=by
 have a:=h.f9 (x:=x) (v:=true) o c;unfold Ur;split
 ·exact a.rQ e 3
 ·exact a
theorem Q8{i h:Nat}{l:LS}{cP:Option Nat}{os:List Nat}(hl:s.ls[i]?=some l):(Uu rs s i h l cP os).ws=s.ws/\(Uu rs s i h l cP os).R=s.R/\(Uu rs s i h l cP os).bg=s.bg/\(Uu rs s i h l cP os).groups=s.groups:=by
 have f:=Xb (rs:=rs) (h:=h) (cP:=cP) (os:=os) hl;exact⟨f.ws,f.R,f.bg,f.groups⟩
theorem SD.post{x:Nat}{to:Option Nat}{os:List Nat}(o:eZ ns rs)(h:SD ns rs bs cl D s)(e:x<s.bg.length)(O:d9 (mh ns rs o s.ws (s.groups.getD x 0)) (s.R (s.groups.getD x 0)) os)(b:os.length<=12):SD ns rs bs cl (D+100) (rR rs s x to os):=by
 obtain⟨a,d,g,j⟩:=Q8 (rs:=rs) (h:=s.bg.getD x 0) (cP:=none) (os:=os) (s:=mV s x to) (i:=s.ls.length) (l:={fP s x to with aE:=[.post (s.bg.getD x 0)]}) vn;have f:=aay o (h:=s.bg.getD x 0) (cP:=none) (Sw (to:=to) h.bd e) vn O b;exact⟨⟨(e8 List.length a).trans h.ok.wl,λw c=>h.ok.w4 w (by rw[show (rR rs s x to os).ws=s.ws from a] at c;exact c),by rw[show (rR rs s x to os).R=s.R from d];exact h.ok.fit⟩,f.mono ∅,a.trans h.ws,h.fit,g.trans h.hm,j.trans h.gr⟩
theorem SD.pass{a:Nat}{cp:Cp}{l:LS}{os:List Nat}{ts:List T3}{h' c r:Int}(o:eZ ns rs)(h:SD ns rs bs cl D s)(hl:s.ls[cp.l]?=some l)(m:a<s.cps.length)(O:d9 (mh ns rs o s.ws l.grp) (s.R l.grp) os)(f:os.length<=12)(p:ts.Perm (put3 (s.ts l.grp) h' c r))(v:iz ts):SD ns rs bs cl (D+100) (kI rs s a cp l os ts):=by
 have t:=Zj o (a:=a) (cp:=cp) h.bd hl m O f p v;have e:(kI rs s a cp l os ts).ws=s.ws/\(kI rs s a cp l os ts).R=s.R/\(kI rs s a cp l os ts).bg=s.bg/\(kI rs s a cp l os ts).groups=s.groups:=by
  unfold kI;split
  ·obtain⟨k,u,n,q⟩:=Bc (s:=s) (a:=a) (cp:=cp) (l:=l) (os:=os) (ts:=ts)
   obtain⟨b,d,g,i⟩:=Q8 (rs:=rs) (h:=cp.h) (cP:=some cp.r) (os:=os) (Bb (a:=a) (os:=os) (ts:=ts) hl);exact⟨b.trans k,d.trans u,g.trans n,i.trans q⟩
  ·exact⟨rfl,rfl,rfl,rfl⟩
 obtain⟨b,d,g,i⟩:=e;exact⟨⟨(e8 List.length b).trans h.ok.wl,λw j=>h.ok.w4 w (by rw[b] at j;exact j),by rw[d];exact h.ok.fit⟩,t,b.trans h.ws,h.fit,g.trans h.hm,i.trans h.gr⟩
end
section
variable{P:Program}{w:World}{K:af}{mg:Str->Option Value}{base:Heap}
noncomputable abbrev acI(cl:List (Nat×Nat)):List (List V):=cl.map λc=>[.int c.1,.int c.2]
structure DX(K:af)(CT:Addr)(h:Hp)(tp ln lr b0 ls:Addr)(jf:List Addr)(pl:Addr)(ns:List Int)(rs:List R5)(bs:List (List Bool))(cl:List (Nat×Nat)):Prop where
 qh:cY K CT h tp ln lr ns rs
 qb:Qt K h b0 rs
 sts:Yx h ls jf bs
 ry:∃qp:List Addr,h pl=some (.lst (qp.map V.ref))/\c8 K h qp (acI cl)
 nl:∀l∈jf,l≠tp/\l≠ln/\l≠lr/\l≠b0/\l≠ls/\l≠pl
 np:pl≠tp/\pl≠ln/\pl≠lr/\pl≠b0/\pl≠ls
def Kp(h h':Hp)(jf:List Addr)(pl:Addr):Prop:=∀b o,h b=some o->b∉jf->b≠pl->h' b=some o
section
variable{CT:Addr}{h h' h2:Hp}{tp ln lr b0 ls pl:Addr}{jf:List Addr}{ns:List Int}{rs:List R5}{bs:List (List Bool)}{cl:List (Nat×Nat)}
theorem Kp.of(s:aD h h'):Kp h h' jf pl:=λb o e _ _=>s b o e
theorem Kp.trans(a:Kp h h' jf pl)(b:Kp h' h2 jf pl):Kp h h2 jf pl:=λx o e d c=>b x o (a x o e d c) d c
theorem DX.mono(d:DX K CT h tp ln lr b0 ls jf pl ns rs bs cl)(s:aD h h'):DX K CT h' tp ln lr b0 ls jf pl ns rs bs cl:=by
 obtain⟨a,c,h2⟩:=d.ry;exact⟨d.qh.mono s,d.qb.keep (λo z=>s _ _ z) (λb x=>s.dw),d.sts.mono s,⟨a,s _ _ c,h2.mono λb x=>s.dw⟩,d.nl,d.np⟩
theorem DX.aiU(d:DX K CT h tp ln lr b0 ls jf pl ns rs bs cl){i x:Nat}{l:Addr}{b:List Bool}{v:Bool}(hl:jf[i]?=some l)(j:bs[i]?=some b):DX K CT (upd h l (.lst ((b.map V.bl).set x (V.bl v)))) tp ln lr b0 ls jf pl ns rs (bs.set i (b.set x v)) cl:=by
 obtain⟨r,m,g,u,f,k⟩:=d.nl l (aU hl);have t:=d.sts.it i l b hl j;have a:∀c y,cW K h c y->cW K (upd h l (.lst ((b.map V.bl).set x (V.bl v)))) c y:=λc y=>cW.past t jD cu;obtain⟨p,n,s⟩:=d.ry;refine⟨d.qh.keep (λc o e q=>cu c o e ?_) a,d.qb.keep (λo e=>cu _ o e (bP u)) a,d.sts.put hl cu (by rw[av,List.map_set]) (bP f),⟨p,cu _ _ n (bP k),s.mono a⟩,d.nl,d.np⟩;rcases q with rfl|rfl|rfl
 ·exact bP r
 ·exact bP m
 ·exact bP g
theorem _root_.TW.dm.past{c:NC}{H:Hp}{F:Addr->Prop}{p:Addr}{n:Nat}{s:NS}(N:dm K c H F p tp n s){z:Addr}{u o:HO}(f:Off H F z=some u)(g:uN u):dm K c (upd H z o) F p tp n s:=by
 obtain⟨nf,a⟩:=jT f;exact N.keep (λb v e d=>cu b v e λw=>nf (w▸d)) (λb x=>cW.past a g cu)
theorem Kp.upd{H:Hp}{F:Addr->Prop}{z:Addr}{o u:HO}(d:Off H F z=some u)(f:z∈jf∨z=pl):Kp (Off H F) (Off (upd H z o) F) jf pl:=λb v e c a=>by
 rw[RK (jT d).1];refine cu b v e λw=>?_;rcases f with y|y
 ·exact c (w▸y)
 ·exact a (w.trans y)
end
inductive Jw(K:af)(CT:Addr)(c:NC)(vs:List V)(H:Hp)(Q:VK)(E:XK):Prop
 |mk (F:Addr->Prop) (p tp ln lr:Addr) (ns:List Int) (rs:List R5) (bs:List (List Bool)) (cl:List (Nat×Nat)) (D:Nat) (s:NS) (g:Nat):vs=[.ref p,.int (ns.length:Nat),.int g]->eZ ns rs->NW K c CT H F p tp ln lr ns rs s->SD ns rs bs cl D s->g<3->(∀s' F' H',NW K c CT H' F' p tp ln lr ns rs s'->SD ns rs bs cl D s'->Step H F H' F'->Q .fE H')->Jw K CT c vs H Q E
theorem O9{t:Ad}(T:Txt K mg t):b6 P w K mg base iH 5 t.tT t.yq ["_law_net","_law_size","_law_group"]  (Jw K t.aV (nc t)):=by
 refine T.Il.F.jJ Aq λH Q E hr h=>?_
 ·obtain⟨F,p,A,L,B,ns,v,M,R,D,st,g,rfl,o,N,sd,hg,k⟩:=h
  refine⟨_,(br (fS (d8 rfl T.gV (fY (aY PF aA (pv 1)))) (gT 3 Aq) (br (fS (d8 rfl T.gV (fY (pv 1))) (gT 4 Aq) (oE (cM (pv 0) T.bw T.Ii (OI T) hr (oA (aY dF (aY fC (pv 4) (pv 3)) (pv 1)) (pv 2)))))))),?_⟩
  left
  have MV:=o.MV;have n1:=o.n1;refine⟨_,rfl,_,_,rfl,rfl,.inl ⟨!_,!_⟩,2*(ns.length:Int),rfl,∅,∅,sF (n:=(2*(ns.length:Int)).toNat) (λi c y=>∃(m:NS) (l:Addr->Prop) (C e:Option V),NW K (nc t) t.aV y l p A L B ns v m/\SD ns v M R D m/\Step H F y l/\c=[some (.ref p),some (.int (ns.length:Nat)),some (.int g),C,e]) ⟨st,F,_,_,N,sd,Step.refl' (aD.refl _),rfl⟩ ?_ ?_⟩
  ·rintro i c y hi ⟨m,l,C,e,J,G,f,rfl⟩
   refine⟨_,rfl,(ns.length:Int),rfl,∅,∅,sF (n:=(ns.length:Int).toNat) (λj c z=>∃(r:NS) (s:Addr->Prop) (e:Option V),NW K (nc t) t.aV z s p A L B ns v r/\SD ns v M R D r/\Step H F z s/\c=[some (.ref p),some (.int (ns.length:Nat)),some (.int g),some (.int (0+(i:Int))),e]) ⟨m,l,_,J,G,f,rfl⟩ ?_ ?_⟩
   ·rintro j c z hj ⟨r,s,e,u,a,b,rfl⟩
    obtain⟨W,dx,q,hp,O,hF,hT⟩:=id u.cV;have S:=O.get .cV _ rfl;rw[hp] at S;have I:(0:Int)<=(0+(j:Int)+(0+(i:Int)))%(ns.length:Int):=bQ _ ∅;have Y:(0+(j:Int)+(0+(i:Int)))%(ns.length:Int)<(ns.length:Int):=bV _ ∅;obtain⟨x,X⟩:∃x:Nat,(0+(j:Int)+(0+(i:Int)))%(ns.length:Int)=(x:Int):=⟨_,(Int.toNat_of_nonneg I).symm⟩;have hx:x<ns.length:=∅
    refine⟨_,rfl,p,_,_,rfl,S,rfl,_,rfl,_,rfl,_,_,rfl,rfl,_,rfl,_,_,rfl,rfl,∅,?_⟩
    try dsimp only
    rw[X];refine⟨_,rfl,s,p,A,L,B,ns,v,r,o,x,g,rfl,u,a.ok,hx,hg,λd Z H4 hd hf N4 U=>?_⟩;exact⟨_,Z,_,u.done U N4,a.call hf,b.trans U,rfl⟩
   ·rintro c z ⟨r,s,e,u,a,b,rfl⟩
    exact⟨r,s,_,_,u,a,b,rfl⟩
  ·rintro c y ⟨m,l,C,e,J,G,f,rfl⟩
   exact k m l y J G f
noncomputable def zH(x:List Int):PyData:=.tuple (x.map .int)
theorem uD{H:Hp}:∀{qs:List Addr} {xs:List (List Int)},c8 K H qs (xs.map λx=>x.map V.int)->cH K H (xs.map zH) (qs.map V.ref)
 |[],[],_=>rfl
 |[],_::_,h=>by cases h.len
 |_::_,[],h=>by cases h.len
 |q::qs,x::xs,h=>⟨.ref q,qs.map V.ref,rfl,Rep.Hl (ns:=x) (h.at' 0 q _ rfl rfl),uD ⟨Nat.succ.inj h.len,λi p y a b=>h.at' (i+1) p y a b⟩⟩
theorem uE:∀xs:List (List Int),PyData.canLayAll0 (xs.map zH)=true
 |[]=>rfl
 |x::xs=>by
  show (PyData.canLayAll0 (x.map .int)&&PyData.canLayAll0 (xs.map zH))=true;rw[uE xs,jm];rfl
theorem xO:∀xs:List (List Int),PyData.depthAll (xs.map zH)<=1
 |[]=>!_
 |x::xs=>by
  show max (PyData.depthAll (x.map .int)+1) (PyData.depthAll (xs.map zH))<=1
  have:=xO xs
  have:=oO x
  lia
theorem MT{ds:List PyData}:(PyData.list ds).eqv (.list [])=ds.isEmpty:=by cases ds <;> rfl
theorem G5(y:Int){n:Nat}(h:0<n):∃x:Nat,y%(n:Int)=(x:Int)/\x<n:=by
 have b:=bQ y (show (n:Int)≠0 by lia);have a:=bV y (show (0:Int)<(n:Int) by lia);exact⟨(y%(n:Int)).toNat,∅,∅⟩
noncomputable def Px(c:Cp):List Int:=[c.l,c.r,c.w,c.h]
theorem Jx(cps:List Cp):cps.map Cp.vs=(cps.map Px).map λx=>x.map V.int:=by rw[cz];rfl
theorem afB(rs:List R5):rs.map R5.vs=(rs.map R5.ns).map λx=>x.map V.int:=by rw[cz];rfl
noncomputable def Ln(cl:List (Nat×Nat))(x y:Nat):Bool:=decide ((cl.getD y (0,0)).2=(cl.getD x (0,0)).2)
inductive afC(K:af)(vs:List V)(H:Hp)(Q:VK)(E:XK):Prop
 |mk (pl:Addr) (qp:List Addr) (cl:List (Nat×Nat)) (x:Nat) (kk:Int):vs=[.ref pl,.int x,.int kk]->bK K H pl (qp.map V.ref)->c8 K H qp (acI cl)->x<cl.length->cl.length<=20->(∀(to:Option Nat) H',aD H H'->(∀y,to=some y->y<cl.length/\(cl.map (·.2))[y]?=(cl.map (·.2))[x]?)->Q (zY (to.map λy:Nat=>(y:Int))) H')->afC K vs H Q E
theorem Zr{t:Ad}(T:Txt K mg t):b6 P w K mg base iH 1 t.Ig t.Mn ["_law_places","_law_sender","_law_number"]  (afC K):=by
 refine T.Wt.F.jJ Mh λH Q E X h=>?_
 ·obtain⟨A,o,cl,x,J,rfl,v,m,l,W,k⟩:=h
  refine⟨_,(ak (l9 (i:=3) Mh.nd rfl (Or.inl rfl) (kO Mh ["_law_caller","_law_places","_law_sender"] [none,some 0,some 1]) rfl (d8 rfl T.gV (fY (lS T.gR (pv 0)))) (λ_ _ _ _=>by exact (gS 0 Qz)) (λ_ _ _ _=>by exact (lI (qT wO (yT K (yL K (pv 1) (pv 0)) aA) (yT K (yL K (pv 1) (pv 2)) aA)))) (λ_ _ _ _=>by exact (pv 0))) (ak (b4 (qT wO (aY dF (pv 2) aA) aA) (oR lW) aW) (oR (xL (pv 3) (aY dF (aY eV (pv 2) aA) (lS T.gR (pv 3))))))),?_⟩
  left
  have S:o.length=cl.length:=by rw[m.len,ah]
  have at':∀{y:Nat} (a:y<cl.length),FD (o.map V.ref) (y:Int)=some (.ref (o[y]'∅))/\cW K H (o[y]'∅) [.int cl[y].1,.int cl[y].2]:=λ{y} a=>⟨dX (by rw[aj,aa];rfl),m.at' y _ _ (aa _) (by rw[aj,aa a];rfl)⟩;have q:∀{y:Nat} (a:y<cl.length),(cl.getD y (0,0))=cl[y]:=λ{y} a=>by rw[aq,aa a];rfl
  refine⟨_,rfl,A,_,rfl,.inl v,(((o.map V.ref).length:Nat):Int),rfl,∅,by rw[ah];lia,λf d=>?_⟩;rw[ah,S];refine fG (n:=((cl.length:Int)).toNat) (λi r _=>r=bC ((au i).filter (Ln cl x))) d xV ng rfl ?_ ?_
  ·rintro i r u C b a rfl y Y ⟨rfl,rfl⟩
   rw[fB];have g:i<cl.length:=∅
   obtain⟨M,O⟩:=at' g;obtain⟨G,U⟩:=at' l;refine⟨_,rfl,_,rfl,A,_,_,_,rfl,rfl,b.seq v,M,_,_,1,_,rfl,rfl,b.dw O,rfl,_,rfl,_,rfl,A,_,_,_,rfl,rfl,b.seq v,G,_,_,1,_,rfl,rfl,b.dw U,rfl,rfl,_,rfl,?_⟩;have R:decide (V.int ((cl[i].2:Nat):Int)=V.int ((cl[x].2:Nat):Int))=Ln cl x i:=by
    unfold Ln;rw[q g,q l,decide_eq_decide];exact⟨λz=>by have:=V.int.inj z;lia,λz=>by rw[z]⟩
   try dsimp only
   rw[R];refine jC (λB=>?_) (λB=>?_)
   ·refine⟨_,rfl,?_⟩
    refine dR d C b a ?_ ?_
    ·rw[ah]
     refine ck (aJ (aT _ _) ?_);rw[aX];lia
    ·rw[y9,b3 B,gE]
   ·refine gv C b a ?_
    rw[y9,b5 B,cS]
  rintro r u b a rfl;rw[gi] at a;have c:∀y∈(au cl.length).filter (Ln cl x),y<cl.length/\(cl.map (·.2))[y]?=(cl.map (·.2))[x]?:=λy z=>by
   obtain⟨L,N⟩:=bU.mp z;have a:=cT.mp L;refine⟨a,?_⟩
   have:=ff N
   rw[q a,q l] at this;rw[aj,aj,aa a,aa l];exact e8 some this
  have p:x∈(au cl.length).filter (Ln cl x):=bU.mpr ⟨cT.mpr l,eH rfl⟩;generalize (au cl.length).filter (Ln cl x)=ms at a c p;refine⟨_,rfl,_,_,rfl,rfl,(by show (0:Int)<2;decide),rfl,_,rfl,jC (λe=>?_) (λe=>?_)⟩
  ·exact k none u b (λy z=>by cases z)
  ·have s:0<ms.length:=List.length_pos_of_mem p
   obtain⟨j,I,D⟩:=G5 (J/2) s;refine⟨_,rfl,_,rfl,_,_,rfl,rfl,⟨!_,!_⟩,_,rfl,f,_,rfl,.inl (bK.of a),_,_,rfl,rfl,(by show (0:Int)<(((bC ms).length:Nat):Int);rw[ah];lia),?_⟩
   try dsimp only
   rw[ah,I];refine⟨f,_,_,_,rfl,rfl,bK.of a,qi D,?_⟩;exact k (some ms[j]) u b (λy z=>by cases z;exact c _ (aK D))
end
section
variable{K:af}
noncomputable def Zs(t:T3):PyData:=.tuple (([t.1,t.2.1,t.2.2]:List Int).map .int)
theorem Pa{H:Hp}:∀{qs:List Addr} {us:List T3},ic K H qs us->cH K H (us.map Zs) (qs.map V.ref)
 |[],[],_=>rfl
 |[],_::_,h=>by cases h.1
 |_::_,[],h=>by cases h.1
 |q::qs,u::us,h=>⟨.ref q,qs.map V.ref,rfl,Rep.Hl (ns:=[u.1,u.2.1,u.2.2]) (h.2 0 q u rfl rfl),Pa ⟨Nat.succ.inj h.1,λi p x a b=>h.2 (i+1) p x a b⟩⟩
theorem Pb:∀us:List T3,PyData.canLayAll0 (us.map Zs)=true
 |[]=>rfl
 |u::us=>by
  show (PyData.canLayAll0 (([u.1,u.2.1,u.2.2]:List Int).map .int)&&PyData.canLayAll0 (us.map Zs))=true;rw[Pb us,jm];rfl
theorem Lo:∀us:List T3,PyData.depthAll (us.map Zs)<=1
 |[]=>!_
 |u::us=>by
  show max (PyData.depthAll (([u.1,u.2.1,u.2.2]:List Int).map .int)+1) (PyData.depthAll (us.map Zs))<=1
  have:=Lo us
  have:=oO [u.1,u.2.1,u.2.2]
  lia
end
section
variable{K:af}{H H' H2:Hp}{G:Addr->Prop}
def Ls(H:Hp)(G:Addr->Prop):Prop:=∀b,G b->∃o,H b=some o/\uN o
theorem Ls.mono(h:Ls H G)(s:aD H H'):Ls H' G:=λb z=>by
 obtain⟨o,c,a⟩:=h b z;exact⟨o,s _ _ c,a⟩
theorem Ls.free(h:Ls H G){b:Addr}(e:H b=none):¬G b:=λz=>by
 obtain⟨o,a,_⟩:=h b z;rw[e] at a;cases a
theorem Ls.Zt(h:Ls H G){b:Addr}{x:List V}(e:cW K H b x):cW K (Off H G) b x:=by
 rcases e with (e|⟨o,e⟩)|e
 ·refine .inl (.inl (jU (λz=>?_) e))
  obtain⟨u,a,c⟩:=h b z;rw[e] at a;cases a;exact (c x).1 rfl
 ·refine .inl (.inr ⟨o,jU (λz=>?_) e⟩)
  obtain⟨u,a,c⟩:=h b z;rw[e] at a;cases a;exact (c x).2 o rfl
 ·exact .inr e
theorem Ls.or(h:Ls H G){b:Addr}{xs:List V}(e:H b=some (.lst xs)):Ls H λx=>G x∨x=b:=λx z=>by
 rcases z with z|rfl
 ·exact h x z
 ·exact⟨_,e,jD⟩
theorem acJ{z:Addr}{o:HO}(a:G z):Off (upd H z o) G=Off H G:=by
 funext b;unfold TW.Off;split
 ·rfl
 ·rename_i n
  exact aF λe=>n (e▸a)
def Dt(K:af)(H H':Hp)(d:PyData)(v:V):Prop:=∀G,Ls H G->Rep K (Off H' G) d v
theorem Dt.rep{d:PyData}{v:V}(h:Dt K H H' d v):Rep K H' d v:=(h (λ_=>False) λ_ z=>z.elim).mono cy
end
section
variable{ns:List Int}{rs:List R5}{os:List Nat}{s:NS}
theorem Zu{i k:Nat}{d:iW}{l:LS}(h:s.ls[k]?=some l):∃ds,(dc s i d).ls[k]?=some {l with aE:=ds}:=by
 unfold dc;cases e:s.ls[i]? with
 |none=>exact⟨l.aE,h⟩
 |some a =>
  show ∃ds,(s.ls.set i _)[k]?=_;rw[gG (ai.mp e).1];by_cases z:k=i
  ·subst z
   rw[e] at h;cases h;exact⟨_,b3 rfl⟩
  ·rw[b5 z]
   exact⟨l.aE,h⟩
theorem Pc{i x k:Nat}{l:LS}(h:s.ls[k]?=some l):∀m,m<=s.cps.length->∃ds,(iM s i x m).ls[k]?=some {l with aE:=ds}
 |0,_=>by rw[sY];exact⟨l.aE,h⟩
 |m+1,c=>by
  obtain⟨ds,e⟩:=Pc (i:=i) (x:=x) h m ∅;rw[sZ ∅];unfold uQ;split
  ·obtain⟨a,b⟩:=Zu (l:={l with aE:=ds}) e
   exact⟨a,b⟩
  ·exact⟨ds,e⟩
theorem Zv{i x k:Nat}{l:LS}(h:s.ls[k]?=some l):∃ds,(ze s i x).ls[k]?=some {l with aE:=ds}:=Pc h _ (ay _)
theorem Xk(F:Fo ns rs os){l:LS}{e:En}:(JC rs s l e.h e.by? os).Nodup/\∀r∈JC rs s l e.h e.by? os,r∈goes rs os e:=by
 have a:((((os.filter (isAt rs e.h)).map λk:Nat=>(k:Int)).filter (kR (e.by?.map λk:Nat=>(k:Int)))).map mZ).Nodup/\∀r∈(((os.filter (isAt rs e.h)).map λk:Nat=>(k:Int)).filter (kR (e.by?.map λk:Nat=>(k:Int)))).map mZ,r∈goes rs os e:=by
  rw[Zo];exact⟨Zp F,λ_ h=>h⟩
 unfold JC V3;split
 ·exact a
 ·split
  ·exact⟨lG,λr b=>by cases b⟩
  ·split
   ·rename_i q _
    split
    ·rename_i f
     have sub:∀r∈([q].filter (kR (e.by?.map λk:Nat=>(k:Int)))).map mZ,r∈goes rs os e:=λr b=>by
      refine a.2 r ?_;obtain⟨y,g,c⟩:=aS.mp b;obtain⟨i,d⟩:=bU.mp g;rw[bf.mp i] at c d;exact aS.mpr ⟨q,bU.mpr ⟨f,d⟩,c⟩
     refine⟨?_,sub⟩;rw[dg];split <;> simp
    ·exact a
   ·exact a
theorem WJ.sub{f:Nat}{D c b:List En}(w:WJ ns rs os f D c)(h:b.Sublist c):WJ ns rs os f D b:=by
 have m:∀e∈D++b,e∈D++c:=λe a=>by
  rcases bz.mp a with z|z
  ·exact oJ _ z
  ·exact cR _ (h.subset z)
 exact⟨w.nd.sublist ((h.append_left D).map _),λe a=>w.fr e (m e a),λe a=>w.f0 e (m e a),λe a=>w.lt e (m e a)⟩
theorem WJ.RL(F:Fo ns rs os){f:Nat}{D i:List En}(w:WJ ns rs os f D i):(D++i).length<=rs.length+1:=by
 have l:∀L:List En,(L.map (·.h)).Nodup->(∀e∈L,e∈D++i)->(∀e∈L,e.fr≠none)->L.length<=rs.length:=λL nd sub fr=>by
  have s:(L.map λe=>e.by?.getD rs.length).Nodup:=by
   rw[List.Nodup,vz] at nd ⊢;refine List.Pairwise.imp_of_mem ?_ nd;intro a b C E O t;cases p:a.fr with
   |none=>exact fr a C p
   |some R =>
    cases u:b.fr with
    |none=>exact fr b E u
    |some T =>
     obtain⟨x,K⟩:=R;obtain⟨Q,U⟩:=T;have S:x=Q:=by
      unfold En.by? at t;rw[p,u] at t;exact t
     subst S;obtain⟨G,v,P,_,I⟩:=w.fr a (sub a C) _ _ p;obtain⟨V,M,y,_,H⟩:=w.fr b (sub b E) _ _ u;rcases F.two G v M with z|z
     ·rw[z] at y
      exact O (P.symm.trans y)
     ·rw[z] at H
      exact F.cut x G K v ((F.symm I).trans H)
  have J:∀r∈L.map (λe=>e.by?.getD rs.length),r∈au rs.length:=λr o=>by
   obtain⟨e,c,d⟩:=aS.mp o;cases z:e.fr with
   |none=>exact ee z (fr e c)
   |some q =>
    obtain⟨N,W⟩:=q;unfold En.by? at d;rw[z] at d;have d:N=r:=d;subst d;exact cT.mpr (F.lt _ (w.fr e (sub e c) _ _ z).1)
  have:=s.length_le_of_subset J
  rwa [ah,aX] at this
 by_cases o:∃e∈D++i,e.fr=none
 ·obtain⟨e,c,d⟩:=o
  obtain⟨A,B,m⟩:=List.append_of_mem c;have nd:=w.nd;rw[m] at nd ⊢;have pm:(A++e::B).Perm (e::(A++B)):=List.perm_middle;have g:((e::(A++B)).map (·.h)).Nodup:=(pm.map _).nodup_iff.mp nd;rw[bT,mW] at g;have k:∀j∈A++B,j∈D++i:=λj n=>by
   rw[m];exact pm.mem_iff.mpr (aZ _ n)
  have:=l (A++B) g.2 k λj n z=>g.1 (by
   rw[w.f0 e c d,<- w.f0 j (k j n) z];exact List.mem_map_of_mem n)
  rw[pm.length_eq];simp only[bq];lia
 ·have:=l (D++i) w.nd (λe c=>c) λe c z=>o ⟨e,c,z⟩
  lia
structure J5(ns:List Int)(rs:List R5)(os:List Nat)(i g num:Nat)(D:List En)(s:NS):Prop where
 all:∀c∈s.cps,c.l=i
 wj:∃f,WJ ns rs os f D (s.cps.map (Q6 rs))
 lt:∃l,s.ls[i]?=some l/\l.done=D.map (·.h)/\l.grp=g/\jE l=num
def Wd(os:List Nat)(ws:List (List Nat))(num:Nat)(ds:List iW):Prop:=∀d∈ds,∀h r x,d=.send h r x->r∈os/\x=kH ws r num
theorem aaB{h num:Nat}{i b:List Nat}{ws:List (List Nat)}(g:∀r∈b,r∈os):Wd os ws num (i.map (iW.hand h)++b.map λr=>.send h r (kH ws r num)):=λd j m r x e=>by
 rcases bz.mp j with z|z
 ·obtain⟨c,_,f⟩:=aS.mp z
  rw[<- f] at e;cases e
 ·obtain⟨l,a,k⟩:=aS.mp z
  rw[<- k] at e;cases e;exact⟨g _ a,rfl⟩
theorem Pd(F:Fo ns rs os){i h num:Nat}{e:En}(c:e.h=h){a:List Nat}{ws:List (List Nat)}(d:∀r∈a,r∈goes rs os e):(a.map λr=>(⟨i,r,kH ws r num,gx rs r h⟩:Cp)).map (Q6 rs)=a.map (nx rs e):=by
 rw[cz];refine cF λr g=>?_;obtain⟨f,b,_⟩:=qC.mp (d r g);subst c;show (⟨gx rs r e.h,some (r,gx rs r (gx rs r e.h))⟩:En)=⟨gx rs r e.h,some (r,e.h)⟩;rw[(F.back f b).2.1]
theorem J5.post{n m u x:Nat}{to:Option Nat}(F:Fo ns rs os)(t:Bd n m u s)(y:n=ns.length)(o:x<s.bg.length)(H:s.cps=[]) :
 ∃l,(rR rs s x to os).ls[s.ls.length]?=some l/\J5 ns rs os s.ls.length (s.groups.getD x 0) (jE (fP s x to)) [⟨s.bg.getD x 0,none⟩] (rR rs s x to os)/\Wd os s.ws (jE (fP s x to)) l.aE/\(rR rs s x to os).ls.length=s.ls.length+1:=by
 have p:s.bg.getD x 0<ns.length:=by
  rw[<- y];refine t.hm _ ?_;rw[aq,aa o];exact aK o
 generalize q:s.bg.getD x 0=f at p;have v:rR rs s x to os=Uu rs (mV s x to) s.ls.length f {fP s x to with aE:=[.post f]} none os:=by unfold rR;rw[q]
 obtain⟨I,G⟩:=aaA (rs:=rs) (os:=os) (h:=f) (cP:=none) (s:=mV s x to) (i:=s.ls.length) (l:={fP s x to with aE:=[.post f]}) (by show (s.ls++[_])[s.ls.length]?=_;rw[q];exact vn);have go:(JC rs (mV s x to) {fP s x to with aE:=[.post f]} f none os).Nodup/\∀r∈JC rs (mV s x to) {fP s x to with aE:=[.post f]} f none os,r∈goes rs os ⟨f,none⟩:=Xk (e:=⟨f,none⟩) F;rw[v,G];generalize JC rs (mV s x to) {fP s x to with aE:=[.post f]} f none os=gs at go;generalize oG (mV s x to) {fP s x to with aE:=[.post f]} f=hs;have g:∀j,(mV s x to).ls.set s.ls.length j=s.ls++[j]:=λj=>by
  show (s.ls++[_]).set s.ls.length j=_;rw[List.set_append_right _ _ (ay _),iF];rfl
 have J:∀z C,jE {fP s x to with aE:=z,done:=C}=jE (fP s x to):=λ_ _=>rfl;have w:=(WJ.zero (rs:=rs) (os:=os) p).next (A:=[]) (B:=[]) F go.1 go.2;have k:(mV s x to).cps++gs.map (λr=>(⟨s.ls.length,r,kH s.ws r (jE (fP s x to)),gx rs r f⟩:Cp))=gs.map λr=>⟨s.ls.length,r,kH s.ws r (jE (fP s x to)),gx rs r f⟩:=by
  show s.cps++_=_;rw[H];rfl
 obtain⟨L,b⟩:∃L:LS,L={fP s x to with done:=qB [] f,aE:=[.post f]++(hs.map (iW.hand f)++gs.map λr=>.send f r (kH s.ws r (jE (fP s x to))))}:=⟨_,rfl⟩;refine⟨L,?_,⟨λc a=>?_,⟨f,?_⟩,L,?_,by rw[b];rfl,by rw[b];rfl,by rw[b];rfl⟩,?_,?_⟩
 ·show ((mV s x to).ls.set s.ls.length _)[s.ls.length]?=_
  rw[g,b];exact vn
 ·have a:c∈(mV s x to).cps++gs.map λr=>(⟨s.ls.length,r,kH s.ws r (jE (fP s x to)),gx rs r f⟩:Cp):=a
  rw[k] at a;obtain⟨r,_,rfl⟩:=aS.mp a;rfl
 ·show WJ ns rs os f _ (((mV s x to).cps++gs.map λr=>(⟨s.ls.length,r,kH s.ws r (jE (fP s x to)),gx rs r f⟩:Cp)).map (Q6 rs))
  rw[k,Pd F (e:=⟨f,none⟩) rfl go.2];exact w
 ·show ((mV s x to).ls.set s.ls.length _)[s.ls.length]?=_
  rw[g,b];exact vn
 ·rw[b]
  intro d hd h r E e;rcases bx.mp hd with rfl|hd
  ·cases e
  ·exact aaB (λr D=>(qC.mp (go.2 r D)).1) d hd h r E e
 ·show ((mV s x to).ls.set s.ls.length _).length=_
  rw[bA];exact az
theorem J5.pass{i g num:Nat}{D:List En}{cp:Cp}{l:LS}{ts:List T3}(F:Fo ns rs os)(j:J5 ns rs os i g num D s)(b:s.cps[0]?=some cp)(hl:s.ls[cp.l]?=some l) :
 zA l cp os = "come" /\ ∃e m q,J5 ns rs os i g num (D++[e]) (kI rs s 0 cp l os ts)/\(kI rs s 0 cp l os ts).ls[i]?=some m/\m.aE=l.aE++q/\Wd os s.ws num q/\(kI rs s 0 cp l os ts).ls.length=s.ls.length:=by
 obtain⟨f,wj⟩:=j.wj;obtain⟨l0,J,N,U,L⟩:=j.lt;have u:=j.all cp (aU b);rw[u,J] at hl;cases hl;obtain⟨rest,t⟩:∃rest,s.cps=cp::rest:=by
  cases e:s.cps with
  |nil=>rw[e] at b;cases b
  |cons c r=>rw[e] at b;cases b;exact⟨r,rfl⟩
 rw[t,bT] at wj;generalize M:Q6 rs cp=e at wj;have o:e.h=cp.h:=by rw[<- M];rfl
 have I:e.fr=some (cp.r,gx rs cp.r cp.h):=by rw[<- M];rfl
 have Q:e.by?=some cp.r:=by unfold En.by?;rw[I];rfl
 have E:e∈D++e::rest.map (Q6 rs):=-_
 obtain⟨H,q2,q3,q4,q5⟩:=wj.fr e E _ _ I;have nd:e.h∉l.done:=λz=>by
  rw[N] at z;obtain⟨y,R,O⟩:=aS.mp z;exact OX wj.nd (-_) y R O
 have k:Cf l cp.h=false:=by rw[Xj rfl,<- o];exact eL nd
 have v:comes l cp os=true:=by
  unfold comes;rw[k,eH H];rfl
 refine⟨by unfold zA;rw[b3 H,k,b5 (!_)],e,?_⟩;have x:oz l cp os=.TR cp.h cp.r:=by
  unfold oz;rw[k,b3 H,b5 (!_)]
 have n:s.ls[cp.l]?=some l:=by rw[u];exact J
 have G:=(ai.mp n).1;have C:=Bb (a:=0) (os:=os) (ts:=ts) n;obtain⟨Y,X⟩:=aaA (rs:=rs) (os:=os) (h:=cp.h) (cP:=some cp.r) C;have go:=Xk (s:=fk s 0 cp l os ts) (l:={l with aE:=l.aE++[oz l cp os]}) (e:=e) F;rw[Q,o] at go;unfold kI;rw[b3 v,X];generalize JC rs (fk s 0 cp l os ts) {l with aE:=l.aE++[oz l cp os]} cp.h (some cp.r) os=gs at go;generalize oG (fk s 0 cp l os ts) {l with aE:=l.aE++[oz l cp os]} cp.h=hs;have S:(fk s 0 cp l os ts).ws=s.ws:=Bc.1;have Z:(fk s 0 cp l os ts).cps=rest:=by
  unfold fk;split
  ·show s.cps.eraseIdx 0=rest
   rw[t];rfl
  ·show s.cps.eraseIdx 0=rest
   rw[t];rfl
 have K:(fk s 0 cp l os ts).ls.length=s.ls.length:=by
  unfold fk;split
  ·exact bA
  ·exact bA
 have W:jE {l with aE:=l.aE++[oz l cp os]}=num:=L;rw[S,Z,W];have w:=wj.next (A:=[]) (B:=rest.map (Q6 rs)) F go.1 go.2;have p:∀m,((fk s 0 cp l os ts).ls.set cp.l m)[i]?=some m:=λm=>by
  rw[<- u,cO,b3 rfl,b3 (by rw[K];exact G)]
 refine⟨_,[.TR cp.h cp.r]++(hs.map (iW.hand cp.h)++gs.map λr=>.send cp.h r (kH s.ws r num)),⟨λc T=>?_,⟨f,?_⟩,_,p _,?_,U,L⟩,p _,?_,?_,?_⟩
 ·rcases bz.mp T with z|z
  ·exact j.all c (by rw[t];exact aZ _ z)
  ·obtain⟨r,_,rfl⟩:=aS.mp z
   exact u
 ·show WJ ns rs os f _ ((rest++gs.map λr=>(⟨cp.l,r,kH s.ws r num,gx rs r cp.h⟩:Cp)).map (Q6 rs))
  rw[aO,Pd F o go.2];exact w
 ·show qB l.done cp.h=_
  unfold qB;rw[b5 (by rw[<- o];exact nd),N,aO,<- o];rfl
 ·show (l.aE++[oz l cp os])++_=_
  rw[x,fz]
 ·intro d hd h r V e
  rcases bx.mp hd with rfl|hd
  ·cases e
  ·exact aaB (λr P=>(qC.mp (go.2 r P)).1) d hd h r V e
 ·show ((fk s 0 cp l os ts).ls.set cp.l _).length=_
  rw[bA];exact K
theorem J5.lose{i g num r x:Nat}{D:List En}(j:J5 ns rs os i g num D s)(ws:List (List Nat)):J5 ns rs os i g num D (ze {s with ws:=ws} r x):=by
 obtain⟨f,wj⟩:=j.wj;obtain⟨l,k,b,a,d⟩:=j.lt;obtain⟨m,e⟩:=Zv (s:={s with ws:=ws}) (i:=r) (x:=x) k;exact⟨λc h=>j.all c (bU.mp h).1,⟨f,wj.sub (List.filter_sublist.map _)⟩,_,e,b,a,d⟩
theorem J5.lay{i g num:Nat}{D:List En}(j:J5 ns rs os i g num D s)(ws:List (List Nat)):J5 ns rs os i g num D {s with ws:=ws}:=⟨j.all,j.wj,j.lt⟩
theorem J5.len(F:Fo ns rs os){i g num:Nat}{D:List En}(j:J5 ns rs os i g num D s):D.length+s.cps.length<=rs.length+1:=by
 obtain⟨f,wj⟩:=j.wj
 have:=wj.RL F
 rwa [az,ah] at this
theorem Zw{a:Nat}{cp:Cp}{l:LS}{ts:List T3}(hl:s.ls[cp.l]?=some l):(kI rs s a cp l os ts).ws=s.ws/\(kI rs s a cp l os ts).R=s.R:=by
 unfold kI;split
 ·obtain⟨c,b,_⟩:=Bc (s:=s) (a:=a) (cp:=cp) (l:=l) (os:=os) (ts:=ts)
  obtain⟨e,d,_⟩:=Q8 (rs:=rs) (h:=cp.h) (cP:=some cp.r) (os:=os) (Bb (a:=a) (os:=os) (ts:=ts) hl);exact⟨e.trans c,d.trans b⟩
 ·exact⟨rfl,rfl⟩
theorem _root_.TW.c8.drop{K:af}{H:Hp}{qs:List Addr}{xs:List (List V)}(h:c8 K H qs xs)(n:Nat):c8 K H (qs.drop n) (xs.drop n):=by
 refine⟨by rw[qD,qD,h.len],λi q x b a=>?_⟩;rw[List.getElem?_drop] at b a;exact h.at' (n+i) q x b a
end
section
variable{P:Program}{w:World}{K:af}{mg:Str->Option Value}{base:Heap}
def WdB(bs:List (List Bool))(num:Nat)(ds:List iW):Prop:=∀d∈ds,∀h r x,d=.send h r x->∃b,bs[r]?=some b/\stand b≠[]/\b.length<=4/\x=(stand b).getD (num%(stand b).length) 0
theorem Xl{d:iW}(h:∀a r x,d≠.send a r x):decide (V.str (dW d)=V.str "send")=false:=by
 cases d
 ·exact (by decide +kernel:decide (V.str "post" = V.str "send")=false)
 ·exact (by decide +kernel:decide (V.str "come" = V.str "send")=false)
 ·exact (by decide +kernel:decide (V.str "hand" = V.str "send")=false)
 ·exact ee rfl (h _ _ _)
 ·exact (by decide +kernel:decide (V.str "twice" = V.str "send")=false)
 ·exact (by decide +kernel:decide (V.str "lost" = V.str "send")=false)
inductive Lp(K:af)(vs:List V)(H:Hp)(Q:VK)(E:XK):Prop
 |mk (ls a:Addr) (jf qs:List Addr) (bs:List (List Bool)) (ds:List iW) (num:Nat):vs=[.ref ls,.int num,.ref a]->Yx H ls jf bs->bK K H a (qs.map V.ref)->c8 K H qs (ds.map iW.vs)->WdB bs num ds->(∀H',aD H H'->Q (.bl true) H')->Lp K vs H Q E
theorem Jy{t:Ad}(T:Txt K mg t):b6 P w K mg base iH 1 t.xr t.Bw ["_law_stood","_law_number","_law_story"]  (Lp K):=by
 refine T.EZ.F.jJ yg λH Q E hr h=>?_
 ·obtain⟨S,a,Y,G,bs,C,num,rfl,O,Z,wJ,wd,k⟩:=h
  refine⟨_,(ak (fS (gj (pv 2)) (gT 3 yg) (br (b4 (qT wO (xT (pv 3) aA) gX) (ak (l9 (i:=4) yg.nd rfl (Or.inl rfl) (kO yg ["_law_wire","_law_row","_law_stood"] [none,some 3,some 0]) rfl (d8 rfl T.gV (fY (lS T.gR (xL (pv 0) (xT (pv 3) aA))))) (λ_ _ _ _=>by exact (gS 0 JP)) (λ_ _ _ _=>by exact (lI (jB (yL K (yL K (pv 2) (yT K (pv 1) aA)) (pv 0))))) (λ_ _ _ _=>by exact (pv 0))) (br (b4 (qT qd (xT (pv 3) aA) (xL (pv 4) (aY dF (pv 1) (lS T.gR (pv 4))))) oB aW))) aW))) oB),?_⟩
  left
  have eq:G.length=C.length:=by rw[wJ.len,ah]
  refine⟨_,rfl,a,rfl,⟨_,Z⟩,sO (K:=K) (a:=a) (xs:=G.map V.ref) (λi I s=>aD H s/\∃L J:Option V,I=[some (.ref S),some (.int num),some (.ref a),L,J]) ⟨aD.refl _,_,_,rfl⟩ (λi I s _ z=>z.1.seq Z) ?_ ?_⟩
  ·rintro i y I s g ⟨m,L,J,rfl⟩
   have D:i<G.length:=by
    have:=(ai.mp g).1
    rw[ah] at this;exact this
   rw[aj,aa D] at g;cases g;have u:C[i]'∅∈C:=aK _;have f:=m.dw (wJ.at' i G[i] (C[i]'∅).vs (aa D) (by rw[aj,aa ∅];rfl));generalize G[i]=q at f;generalize C[i]'∅=d at f u;refine⟨_,rfl,q,_,0,_,rfl,rfl,f,(by rw[SG];exact Eh d),rfl,_,rfl,?_⟩;by_cases hs:∃h r x,d=.send h r x
   ·obtain⟨h,r,x,rfl⟩:=hs
    obtain⟨b,hb,U,hb4,ex⟩:=wd _ u h r x rfl;have e1:decide (V.str (dW (.send h r x))=V.str "send")=true:=(by decide +kernel:decide (V.str "send" = V.str "send")=true);rw[e1];refine fF ?_;have f:cW K s q [.str "send",.int h,.int r,.int x]:=f;have R:=(ai.mp hb).1;obtain⟨l,hl⟩:∃l,Y[r]?=some l:=⟨_,aa (by rw[O.len];exact R)⟩;have B:FD ([.str "send",.int h,.int r,.int x]:List V) 2=some (.int r):=rfl;have N:FD ([.str "send",.int h,.int r,.int x]:List V) 3=some (.int x):=rfl;have Q9:FD (Y.map V.ref) (r:Int)=some (.ref l):=dX (by rw[aj,hl];rfl);have v:=m _ _ O.at_;have Sg:=m _ _ (O.it r l b hl hb);refine bZ λNx c9=>?_;refine⟨_,rfl,_,rfl,q,_,2,_,rfl,rfl,f,B,S,_,_,_,rfl,rfl,bK.of v,Q9,l,_,rfl,.inl (bK.of Sg),_,rfl,(by show -(2^62)<=(((b.map V.bl).length:Nat):Int);lia),(by show (((b.map V.bl).length:Nat):Int)<2^62;rw[ah];lia),λp j=>?_⟩;have en:((((b.map V.bl).length:Nat):Int)).toNat=b.length:=by rw[ah];rfl
    rw[en];refine fG (n:=b.length) (λi M _=>M=bC (Bk b i)) j xV ng rfl ?_ ?_
    ·rintro i M H3 g c o rfl y H4 ⟨rfl,rfl⟩
     rw[fB];have Zx:FD (b.map V.bl) (i:Int)=some (V.bl b[i]):=dX (by rw[aj,aa g];rfl);have X:b.getD i false=b[i]:=by rw[aq,aa g];rfl
     refine⟨_,rfl,_,rfl,q,_,2,_,rfl,rfl,c.dw f,B,S,_,_,_,rfl,rfl,bK.of (c _ _ v),Q9,_,rfl,l,_,_,_,rfl,rfl,bK.of (c _ _ Sg),Zx,_,rfl,?_⟩;refine jC (λe=>?_) (λe=>?_)
     ·refine⟨_,rfl,dR j g c o ?_ ?_⟩
      ·rw[ah]
       refine ck (aJ (aT _ _) ?_);rw[aX];lia
      ·rw[ni,X,b3 e,gE]
     ·refine gv g c o ?_
      rw[ni,X,b5 e,cS]
    rintro M H3 c o rfl;have o:H3 p=some (.lst (bC (stand b))):=o;refine c9 _ _ ?_;have Rl:0<(stand b).length:=List.length_pos_iff.mpr U;have hm:num%(stand b).length<(stand b).length:=Nat.mod_lt _ Rl;have A:(((bC (stand b)).length:Nat):Int)=((stand b).length:Int):=by rw[ah]
    refine⟨_,rfl,q,_,3,_,rfl,rfl,c.dw f,N,_,rfl,_,rfl,_,rfl,p,_,rfl,.inl (bK.of o),_,_,rfl,rfl,(by rw[A];lia),?_⟩
    try dsimp only
    rw[A];refine⟨p,_,_,_,rfl,rfl,bK.of o,(by rw[<- Int.natCast_emod];exact qi hm),rfl,_,rfl,?_⟩;have W:x=(stand b)[num%(stand b).length]:=by rw[ex,aq,aa hm];rfl
    rw[<- W,eH rfl];exact dQ ⟨m.trans c,_,_,rfl⟩
   ·rw[Xl λa r x z=>hs ⟨a,r,x,z⟩]
    exact dQ ⟨m,_,_,rfl⟩
  ·rintro I s ⟨m,L,J,rfl⟩
   exact k s m
noncomputable def Xm(w:List Nat):PyData:=.list ((w.map λk:Nat=>(k:Int)).map .int)
noncomputable def MU(n:Nat)(s:NS)(g:Nat)(os:List Nat)(us:List T3):PyData:=.list [RM.Hu n (s.R g),Xm os,.list (us.map Zs)]
theorem Zy{n:Nat}{s:NS}{g:Nat}{os:List Nat}{us:List T3}:PyData.canLay0 (MU n s g os us)=true:=by
 show ((RM.Hu n (s.R g)).canLay0&&(PyData.canLayAll0 ((os.map λk:Nat=>(k:Int)).map .int)&&(PyData.canLayAll0 (us.map Zs)&&true)))=true;rw[RM.Tt,jm,Pb];rfl
theorem Xn{n:Nat}{s:NS}{g:Nat}{os:List Nat}{us:List T3}:PyData.depth (MU n s g os us)<=4:=by
 show max (RM.Hu n (s.R g)).depth (max (PyData.depthAll ((os.map λk:Nat=>(k:Int)).map .int)+1) (max (PyData.depthAll (us.map Zs)+1) 0))+1<=4;have c:=RM.Qa n (s.R g);have a:=oO (os.map λk:Nat=>(k:Int));have b:=Lo us;lia
theorem Pe{n:Nat}{s:NS}{os:Nat->List Nat}{us:Nat->List T3}:∀l:List Nat,PyData.canLayAll0 (l.map λg=>MU n s g (os g) (us g))=true
 |[]=>rfl
 |g::l=>by
  show (PyData.canLay0 (MU n s g (os g) (us g))&&PyData.canLayAll0 (l.map λg=>MU n s g (os g) (us g)))=true;rw[Zy,Pe l];rfl
theorem Lq{n:Nat}{s:NS}{os:Nat->List Nat}{us:Nat->List T3}:∀l:List Nat,PyData.depthAll (l.map λg=>MU n s g (os g) (us g))<=4
 |[]=>bE _
 |g::l=>by
  show max (PyData.depth (MU n s g (os g) (us g))) (PyData.depthAll (l.map λg=>MU n s g (os g) (us g)))<=4
  have:=Xn (n:=n) (s:=s) (g:=g) (os:=os g) (us:=us g)
  have:=Lq (n:=n) (s:=s) (os:=os) (us:=us) l
  lia
theorem Xo{t:Ad}(T:Txt K mg t){τ:L2.St}{H:Hp}{Q:VK}{F:Addr->Prop}{p Y ln lr:Addr}{ns:List Int}{rs:List R5}{s:NS}(o:eZ ns rs)(W:NW K (nc t) t.aV H F p Y ln lr ns rs s)(zG:zZ ns rs s)(SH:∀g,(s.ts g).length<2000)
 (k:∀la (os:Nat->List Nat) (us:Nat->List T3) H',aD H H'->H la=none->(∀g,g<3->d9 (mh ns rs o s.ws g) (s.R g) (os g))->(∀g,g<3->pJ (us g)/\(us g).Perm (s.ts g))->Dt K H H' (.list ((au 3).map λg=>MU ns.length s g (os g) (us g))) (.ref la)->Q (.ref la) H') :
 VD (ZP (gC (tC (V.int 3)) zC)) [none,some 0] (iG 0) ZW (adZ (gC (zM t.cC "rows" (MO K (nc t)) [] E0 (Ci 1) (gC (Ci 0) zC)) (gC (zM t.cC "opens" (Jp K t.aV (nc t)) [] E0 (Ci 1) (gC (Ci 0) zC)) (gC (zM t.cC "notes" (Jq K (nc t)) [] E0 (Ci 1) (gC (Ci 0) zC)) zC)))) (some (.ref p)::τ) H Q:=by
 obtain⟨loc,za,q,hp,O,hF,hT⟩:=id W.cV;have bR:=O.get .cV _ rfl;rw[hp] at bR;refine⟨3,rfl,!_,!_,λv r=>?_⟩;refine fG (n:=(3:Int).toNat) (λi ys X=>∃(as:List Addr) (e:List (List Nat)) (d:List (List T3)),ys=as.map V.ref/\as.length=i/\e.length=i/\d.length=i/\(∀(m:Nat) os,e[m]?=some os->d9 (mh ns rs o s.ws m) (s.R m) os)/\(∀(m:Nat) us,d[m]?=some us->pJ us/\us.Perm (s.ts m))/\∀G,Ls H G->cH K (Off X λb=>G b∨b=v) ((au i).map λg=>MU ns.length s g (e.getD g []) (d.getD g [])) (as.map V.ref)) r xV ng ⟨[],[],[],rfl,rfl,rfl,rfl,λm l z=>(by simp at z),λm l z=>(by simp at z),λG _=>rfl⟩ ?_ ?_
 ·rintro i ys X hi B Z ⟨as,e,d,rfl,e1,U,N,y,E,h⟩ x H9 ⟨rfl,rfl⟩
  rw[fB];have w:i<3:=hi;refine⟨_,rfl,p,_,_,rfl,B _ _ bR,rfl,_,rfl,F,p,Y,ns.length,i,s,rfl,W.cV.mono B,w,λrb qr Po A ai0 hrb htr=>?_⟩;have C:=B.trans A;refine⟨_,rfl,p,_,_,rfl,C _ _ bR,rfl,_,rfl,F,p,Y,ln,lr,ns,rs,s,o,i,rfl,W.mono C,zG,w,λlo os n7 I WV hlo hO h12=>?_⟩;have Xp:=C.trans I;refine⟨_,rfl,p,_,_,rfl,Xp _ _ bR,rfl,_,rfl,F,p,Y,ns.length,i,s,rfl,W.cV.mono Xp,w,SH i,λL qs5 c Y5 j ai1 hl5 P hP5 hS5=>?_⟩;refine⟨iT,λM Ng=>?_⟩;have f:=aD.new (o:=.lst [V.ref rb,V.ref lo,V.ref L]) Ng;have S:=av (H:=Y5) (a:=M) (o:=.lst [V.ref rb,V.ref lo,V.ref L]);generalize upd Y5 M (.lst [V.ref rb,V.ref lo,V.ref L])=jb at f S;have D:=A.trans (I.trans (j.trans f));have ai3:=D _ _ Z;refine dR r hi (B.trans D) ai3 (by rw[ah,e1];exact ck ∅) ⟨as++[M],e++[os],d++[c],by rw[aO];rfl,by rw[az,e1];rfl,by rw[az,U];rfl,by rw[az,N];rfl,λm os' z=>?_,λm us' z=>?_,λG m=>?_⟩
  ·rcases xX z with z|⟨rfl,rfl⟩
   ·exact y m os' z
   ·rw[U];exact hO
  ·rcases xX z with z|⟨rfl,rfl⟩
   ·exact E m us' z
   ·rw[N];exact⟨hS5,hP5⟩
  ·rw[acJ (G:=λb=>G b∨b=v) (.inr rfl),aO,gz,aO]
   have J:=(m.mono B).or Z;have r1:Rep K (Off jb λb=>G b∨b=v) (RM.Hu ns.length (s.R i)) (.ref rb):=(((htr.mono λb x=>(J.mono A).Zt).LV (bK.of (jU (J.free ai0) hrb))).data).mono (b9 (I.trans (j.trans f)));have r2:Rep K (Off jb λb=>G b∨b=v) (Xm os) (.ref lo):=Rep.mono (b9 (j.trans f)) (Rep.ints (eW os▸bK.of (jU ((J.mono A).free WV) hlo)));have r3:Rep K (Off jb λb=>G b∨b=v) (.list (c.map Zs)) (.ref L):=Rep.mono (b9 f) ⟨L,_,rfl,bK.of (jU ((J.mono (A.trans I)).free ai1) hl5),Pa ⟨P.1,λi q u a b=>(J.mono (A.trans (I.trans j))).Zt (P.2 i q u a b)⟩⟩;have r0:Rep K (Off jb λb=>G b∨b=v) (MU ns.length s i os c) (.ref M):=⟨M,_,rfl,bK.of (jU ((J.mono (A.trans (I.trans j))).free Ng) S),⟨_,_,rfl,r1,_,_,rfl,r2,_,_,rfl,r3,rfl⟩⟩;have eo:(e++[os]).getD i []=os:=by rw[aq,bL ∅,U,iF];rfl
   have eu:(d++[c]).getD i []=c:=by rw[aq,bL ∅,N,iF];rfl
   have em:(au i).map (λg=>MU ns.length s g ((e++[os]).getD g []) ((d++[c]).getD g []))=(au i).map λg=>MU ns.length s g (e.getD g []) (d.getD g []):=cF λg hg=>by
    have:=cT.mp hg
    rw[aq,aq,bI ∅,bI ∅,aq,aq]
   rw[em];refine cH.snoc ((h G m).mono (b9 D)) ?_;show Rep K _ (MU ns.length s i ((e++[os]).getD i []) ((d++[c]).getD i [])) _;rw[eo,eu];exact r0
 ·rintro ys X B Z ⟨as,e,d,rfl,e1,U,N,y,E,h⟩
  have e2':e.length=3:=U;have e3':d.length=3:=N;refine k v (λg=>e.getD g []) (λg=>d.getD g []) X B r (λg hg=>y g _ ?_) (λg hg=>E g _ ?_) λG m=>⟨v,_,rfl,bK.of (jU (m.free r) Z),(h G m).mono (YC λb z=>.inl z)⟩
  ·rw[aq,aa ∅];rfl
  ·rw[aq,aa ∅];rfl
theorem or2{b:Bool}{A R:Prop}(a:Prop)(c:a->A)(d:b=true->a)(f:(a->A)->¬b=true->R):if b=true then A else R:=jC (λe=>c (d e)) (λe=>f c e)
def gn(F:Addr->Prop)(jf:List Addr)(lt:Addr):Addr->Prop:=λb=>F b∨b∈jf∨b=lt
theorem DX.mut{g:Addr}{e m i k ls pl p:Addr}{jf:List Addr}{ns:List Int}{rs:List R5}{bs:List (List Bool)}{cl:List (Nat×Nat)}{c:NC}{H:Hp}{F:Addr->Prop}{n:Nat}{s:NS}(N:dm K c H F p e n s)(d:DX K g (Off H F) e m i k ls jf pl ns rs bs cl):Ls H (gn F jf pl):=λb z=>by
 rcases z with z|z|rfl
 ·obtain⟨o,h⟩:=N.there z
  exact⟨o,h,N.V5 z h⟩
 ·obtain⟨j,f⟩:=oK z
  have a:=(ai.mp f).1;rw[d.sts.len] at a;exact⟨_,cy _ _ (d.sts.it j b _ f (aa a)),jD⟩
 ·obtain⟨q,l,_⟩:=d.ry
  exact⟨_,cy _ _ l,jD⟩
theorem Kp.big{jf:List Addr}{pl:Addr}{H c:Hp}{F f:Addr->Prop}(k:Kp (Off H F) (Off c f) jf pl):aD (Off H (gn F jf pl)) c:=λb o e=>by
 obtain⟨a,d⟩:=jT e;exact cy _ _ (k b o (jU (λz=>a (.inl z)) d) (λz=>a (.inr (.inl z))) λz=>a (.inr (.inr z)))
structure Q5(ns:List Int)(rs:List R5)(s s':NS):Prop where
 R:s'.R=s.R
 ts:s'.ts=s.ts
 hm:s'.bg=s.bg
 gr:s'.groups=s.groups
 lv:∀g,uP rs s'.ws g=uP rs s.ws g
 ll:s'.ls.length=s.ls.length
 j5:∀os i g num D,J5 ns rs os i g num D s->J5 ns rs os i g num D s'
theorem Q5.refl{ns:List Int}{rs:List R5}(s:NS):Q5 ns rs s s:=⟨rfl,rfl,rfl,rfl,λ_=>rfl,rfl,λ_ _ _ _ _ h=>h⟩
theorem Pf{rs:List R5}{ws:List (List Nat)}{i:Nat}{w a:List Nat}(h:ws[i]?=some w)(d:w≠[])(b:a≠[])(g:Nat):uP rs (ws.set i a) g=uP rs ws g:=by
 have c:=(ai.mp h).1;unfold uP xY;refine List.filter_congr λk _=>?_;unfold isLive;rw[cO];by_cases z:i=k
 ·subst z
  rw[b3 rfl,b3 c,h];cases rs[i]? with
  |none=>rfl
  |some r =>
   cases w with
   |nil=>exact ee rfl d
   |cons=>cases a with
    |nil=>exact ee rfl b
    |cons=>rfl
 ·rw[b5 z]
theorem Q5.opens{ns:List Int}{rs:List R5}{s s':NS}{o:eZ ns rs}{g:Nat}{os a:List Nat}(h:Q5 ns rs s s')(O:d9 (mh ns rs o s.ws g) (s.R g) os)(m:d9 (mh ns rs o s'.ws g) (s'.R g) a):a=os:=by
 have e:∀(w d:List (List Nat)),uP rs d g=uP rs w g->∀{R:Nat->RM.Row} {os:List Nat},d9 (mh ns rs o d g) R os->d9 (mh ns rs o w g) R os:=λw d n {R os} O=>by
  unfold mh at O ⊢;have f:∀(b c:List Nat) (l:∀k∈b,k<rs.length) (j:∀k∈c,k<rs.length),b=c->d9 (aQ ns rs b o.nd o.ok l) R os->d9 (aQ ns rs c o.nd o.ok j) R os:=λb c l j e O=>by
   subst e;exact O
  exact f _ _ _ _ n O
 have i:=e s.ws s'.ws (h.lv g) m;rw[h.R] at i;exact i.uniq O
theorem Q5.told{ns:List Int}{rs:List R5}{s s':NS}{o:eZ ns rs}{os c:Nat->List Nat}{us a:Nat->List T3}(h:Q5 ns rs s s')(O:∀g,g<3->d9 (mh ns rs o s.ws g) (s.R g) (os g))(i:∀g,g<3->d9 (mh ns rs o s'.ws g) (s'.R g) (c g))(p:∀g,g<3->pJ (us g)/\(us g).Perm (s.ts g))(d:∀g,g<3->pJ (a g)/\(a g).Perm (s'.ts g)) :
 ((au 3).map λg=>MU ns.length s' g (c g) (a g))=(au 3).map λg=>MU ns.length s g (os g) (us g):=cF λg b=>by
 have b:=cT.mp b;have e:=h.opens (O g b) (i g b);have f:a g=us g:=LR ((d g b).2.trans (by rw[h.ts];exact (p g b).2.symm)) (d g b).1 (p g b).1;unfold MU;rw[e,f,h.R]
inductive Pg(K:af)(CT:Addr)(c:NC)(vs:List V)(H:Hp)(Q:VK)(E:XK):Prop
 |mk (F:Addr->Prop) (p tp ln lr b0 ls:Addr) (jf:List Addr) (pl:Addr) (ns:List Int) (rs:List R5) (bs:List (List Bool)) (cl:List (Nat×Nat)) (D:Nat) (s:NS) (kk:Int):vs=[.ref p,.ref b0,.ref ls,.int kk]->eZ ns rs->dm K c H F p tp ns.length s->DX K CT (Off H F) tp ln lr b0 ls jf pl ns rs bs cl->SD ns rs bs cl D s->D<=90000->rs≠[]->(∀s' bs' F' H',dm K c H' F' p tp ns.length s'->DX K CT (Off H' F') tp ln lr b0 ls jf pl ns rs bs' cl->SD ns rs bs' cl D s'->Q5 ns rs s s'->Kp (Off H F) (Off H' F') jf pl->Q (.bl true) H')->Pg K CT c vs H Q E
theorem UA{t:Ad}(T:Txt K mg t):b6 P w K mg base iH 7 t.Ar t.DG ["_law_net","_law_ropes_here","_law_stood","_law_number"]  (Pg K t.aV (nc t)):=by
 refine T.NX.F.jJ gw λH Q E C h=>?_
 ·obtain⟨F,p,tp,ln,lr,b0,ls,jf,pl,ns,rs,bs,cl,D,st,kk,rfl,o,N,dx,G,hD,hne,k⟩:=h
  refine⟨_,(ak (sS 4 gw (aY dF (pv 3) (lS T.gR (pv 1)))) (ak (sS 5 gw (aY dF (aY eV (pv 3) (lS T.gR (pv 1))) (xT (xL (pv 1) (pv 4)) aA))) (ak (l9 (i:=6) gw.nd rfl (Or.inl rfl) (kO gw ["_law_one","_law_rope","_law_stood","_law_wire"] [none,some 4,some 2,some 5]) rfl (d8 rfl T.gV (fY (xT (xL (pv 1) (pv 4)) aA))) (λ_ _ _ _=>by exact (gS 0 Mi)) (λ_ _ _ _=>by exact (lI (PW.pt (Lw (qT qd (pv 0) (pv 3)) (GQ (jB (yL K (yL K (pv 2) (pv 1)) (pv 0)))))))) (λ_ _ _ _=>by exact (pv 0))) (ak (b4 (qT zT (pv 6) (gZ gD)) oB aW) (ak (l9 (i:=7) gw.nd rfl (Or.inl rfl) (kO gw ["_law_one","_law_net"] [none,some 0]) rfl (d8 rfl T.gV (fY aA)) (λ_ _ _ _=>by exact (gS 0 Mj)) (λ_ _ _ _=>by exact ko) (λ_ _ _ _=>by exact (gZ (HN (cM (pv 1) T.bw T.mE (mU T) C (fY (pv 0))) (cM (pv 1) T.bw T.ve (yZ T) C (fY (pv 0))) (cM (pv 1) T.bw T.Ax (Eb T) C (fY (pv 0))))))) (ak (sS 8 gw (iL (pv 0) T.bw T.gm.m (pZ T) (C.mono (!_)) T.gm.B .nil kG)) (ak (b4 (jB (xL (xL (pv 2) (pv 4)) (pv 5))) (ak (sS 9 gw (cM (pv 0) T.bw T.Ij (OM T) C (oA (pv 4) (pv 5)))) (br (l9 (i:=8) gw.nd rfl (Or.inl rfl) (kO gw ["_law_one","_law_rope","_law_wire"] [none,some 4,some 5]) rfl (gj (pv 8)) (λ_ _ _ _=>by exact (gS 0 Ml)) (λ_ _ _ _=>by exact (lI (PW.pt (Dg (qT qd (yT K (pv 0) aA) (pv 1)) (zJ (qT qd (yT K (pv 0) aA) (pv 2))))))) (λ_ _ _ _=>by exact (pv 0))))) (br (sS 9 gw (cM (pv 0) T.bw T.KU (Q0 T) C (oA (pv 4) (pv 5)))))) (ak (Lz (UX (xL (xL (pv 2) (pv 4)) (pv 5))) (Ly (xL (pv 2) (pv 4)) (pv 5) set_list)) (ak (b4 (PW.pt (Dg (qT Tu (pv 9) Kn) (zJ (qT Ho (iL (pv 0) T.bw T.gm.m (pZ T) (C.mono (!_)) T.gm.B .nil kG) (pv 8))))) oB aW) (oR (qE zT (gU (kO gw ["_law_one","_law_net"] [none,some 0]) rfl (d8 rfl T.gV (fY aA)) (λ_ _ _ _=>by exact (gS 0 Mm)) (λ_ _ _ _=>by exact ko) (λ_ _ _ _=>by exact (gZ (HN (cM (pv 1) T.bw T.mE (mU T) C (fY (pv 0))) (cM (pv 1) T.bw T.ve (yZ T) C (fY (pv 0))) (cM (pv 1) T.bw T.Ax (Eb T) C (fY (pv 0))))))) (pv 7)))))))))))),?_⟩
  left
  obtain⟨us,hL0,afJ⟩:=dx.qb;have hL:=cy _ _ hL0;have S9:us.length=rs.length:=by rw[afJ.len,ah]
  have hrl:0<rs.length:=List.length_pos_iff.mpr hne;have ZA:(((us.map V.ref).length:Nat):Int)=(rs.length:Int):=by rw[ah,S9]
  obtain⟨i,ei,hi⟩:=G5 kk hrl;refine bZ λNx u=>?_;refine⟨_,rfl,_,rfl,b0,_,rfl,.inl (bK.of hL),_,_,rfl,rfl,(by rw[ZA];lia),?_⟩
  try dsimp only
  rw[ZA,ei];refine u _ _ ?_;have G2:rs[i]?=some rs[i]:=aa hi;have oki:=o.ok _ (aK hi);have hq:(us.map V.ref)[i]?=some (V.ref (us[i]'∅)):=by rw[aj,aa];rfl
  have hqt:cW K H (us[i]'∅) (rs[i]).vs:=cy.dw (afJ.at' i (us[i]'∅) (rs[i]).vs (aa _) (by rw[aj,G2];rfl));have d1:=oki.d1;have d4:=oki.d4;obtain⟨x,ex⟩:∃x:Nat,kk/(rs.length:Int)%rs[i].d=(x:Int):=⟨_,(Int.toNat_of_nonneg (bQ _ (show rs[i].d≠0 by lia))).symm⟩;have hx:(x:Int)<rs[i].d:=by
   have:=bV (kk/(rs.length:Int)) (show (0:Int)<rs[i].d by lia)
   lia
  refine bZ λNx u=>?_;refine⟨_,rfl,_,rfl,b0,_,rfl,.inl (bK.of hL),_,_,rfl,rfl,(by rw[ZA];exact⟨∅,by have:=o.sC;lia⟩),?_⟩
  try dsimp only
  rw[ZA];refine⟨_,rfl,_,rfl,b0,_,_,_,rfl,rfl,bK.of hL,dX hq,_,_,3,_,rfl,rfl,hqt,rfl,_,_,rfl,rfl,(by show (0:Int)<rs[i].d;lia),?_⟩
  try dsimp only
  rw[ex];refine u _ _ ?_;obtain⟨b,hb,hbl⟩:=G.fit.at G2;have X:x<b.length:=∅
  have hbi:=(ai.mp hb).1;obtain⟨l,hl⟩:∃l,jf[i]?=some l:=⟨_,aa (by rw[dx.sts.len];exact hbi)⟩;have hsl:=dx.sts.at_;have Sg:=dx.sts.it i l b hl hb;have Q9:FD (jf.map V.ref) (i:Int)=some (.ref l):=dX (by rw[aj,hl];rfl);have Zx:FD (b.map V.bl) (x:Int)=some (V.bl b[x]):=dX (by rw[aj,aa X];rfl);refine bZ λNx u=>?_;refine⟨_,rfl,_,rfl,b0,_,_,_,rfl,rfl,bK.of hL,dX hq,_,_,3,_,rfl,rfl,hqt,rfl,rs[i].d,rfl,∅,∅,λacc hacc=>?_⟩;have hbd:rs[i].d.toNat=b.length:=∅
  rw[hbd];refine fG (n:=b.length) (λi ys _=>ys=bC ((Bk b i).filter λz=>decide (z≠x))) hacc xV ng rfl ?_ ?_
  ·rintro m ys H3 W U S rfl y H4 ⟨rfl,rfl⟩
   rw[fB];have ai4:FD (b.map V.bl) (m:Int)=some (V.bl b[m]):=dX (by rw[aj,aa W];rfl);have eg:b.getD m false=b[m]:=by rw[aq,aa W];rfl
   have Pu:(bC ((Bk b m).filter λz=>decide (z≠x))).length<sizeLine:=by
    rw[ah];refine ck (aJ (aT _ _) (aJ (aT _ _) ?_));rw[aX];lia
   refine⟨_,rfl,_,rfl,rfl,_,rfl,?_⟩;by_cases em:m=x
   ·subst em
    rw[eH rfl];refine dQ (gv W U S ?_);rw[ni,eN];split <;> simp
   ·have:decide (V.int (m:Int)=V.int (x:Int))=false:=eL λz=>em (by have:=V.int.inj z;lia)
    rw[this];refine fF ⟨_,rfl,_,rfl,ls,_,_,_,rfl,rfl,bK.of (U _ _ (cy _ _ hsl)),Q9,_,rfl,l,_,_,_,rfl,rfl,bK.of (U _ _ (cy _ _ Sg)),ai4,_,rfl,?_⟩;refine jC (λe=>?_) (λe=>?_)
    ·refine⟨_,rfl,dR hacc W U S Pu ?_⟩
     rw[ni,eg,b3 e,eN,<- gE];simp[em]
    ·refine gv W U S ?_
     rw[ni,eg,b5 e,cS]
  rintro ys H1 s1 hy1 rfl;have hy1:H1 acc=some (.lst (bC ((stand b).filter λz=>decide (z≠x)))):=hy1;rw[sV] at hy1;refine u _ _ ?_;refine bZ λNx u=>?_;refine⟨_,rfl,bE _,λc hc=>?_⟩;have u2:=aD.new (o:=.lst []) hc;have hc2:=av (H:=H1) (a:=c) (o:=.lst []);generalize upd H1 c (.lst [])=H2 at u2 hc2;have r1:Rep K H2 (Xm (stand (b.set x false))) (.ref acc):=Rep.ints (eW (stand (b.set x false))▸bK.of (u2 _ _ hy1));refine⟨Xm (stand (b.set x false)),.list [],r1,⟨c,[],rfl,bK.of hc2,rfl⟩,jm _,rfl,bH (bW (aJ (eU _ _) (by show PyData.depthAll _+1<=64;rw[oO];decide)) _) C.units,_,rfl,?_⟩;have Ul:=s1.trans u2;by_cases eo:stand (b.set x false)=[]
  ·rw[eo]
   exact fF (k st bs F H2 (N.mono Ul) (dx.mono (b9 Ul)) G (Q5.refl _) (Kp.of (b9 Ul)))
  have:(Xm (stand (b.set x false))).eqv (.list [])=false:=by
   cases e:stand (b.set x false) with
   |nil=>exact ee e eo
   |cons=>rfl
  rw[this];refine dQ (u _ _ ?_);have N2:=N.mono Ul;have Uq:=dx.mono (b9 (F:=F) Ul);have JG:Kp (Off H F) (Off H2 F) jf pl:=Kp.of (b9 Ul);have anw:=Uq.sts.at_;have acD:=Uq.sts.it i l b hl hb;have W2:NW K (nc t) t.aV H2 F p tp ln lr ns rs st:=Uq.qh.nw N2 λb z=>z;have SH:∀g,(st.ts g).length<2000:=λg=>by
   have:=(G.bd.tb g).1
   lia
  refine bZ λNx u=>?_;refine Xo T o W2 G.ok SH λla os Z H3 U Xc hos hus hdt=>?_;refine u _ _ ?_;have mu:=Uq.mut N2;have rp3:=hdt _ mu;obtain⟨loc,za,q,hp,O,hF,hT⟩:=id N2;have bR:=O.get .cV _ rfl;rw[hp] at bR;have N3:=N2.mono U;refine bZ λNx u=>?_;refine⟨_,rfl,p,_,_,rfl,U _ _ bR,rfl,F,p,tp,ns.length,st,rfl,N3,λlf qf H4 s4 ZC uH t8=>?_⟩;refine u _ _ ?_;have XF:=U.trans s4;have mu4:=mu.mono XF;have N4:=N2.mono XF;have XE:=Uq.mono (b9 (F:=F) XF);have W4:=W2.mono XF;have rp4:=rp3.mono (b9 (F:=gn F jf pl) s4);have afK:Off H4 (gn F jf pl) lf=some (.lst (qf.map V.ref)):=jU ((mu.mono U).free ZC) uH;have acM:c8 K (Off H4 (gn F jf pl)) qf (st.cps.map Cp.vs):=t8.mono λb x=>mu4.Zt;have kp4:Kp (Off H F) (Off H4 F) jf pl:=JG.trans (Kp.of (b9 XF))
  replace bR:=XF _ _ bR
  have Y:st.ws[i]?=some (stand b):=by rw[G.ws,aj,hb];rfl
  have R:b[x]?=some b[x]:=aa X;have acN:stand b≠[]:=λz=>eo (by rw[<- sV,z];rfl);have eqf:qf.length=st.cps.length:=by rw[acM.len,ah]
  refine nh (λσ J=>∃(I:NS) (A:Addr->Prop) (v8:V),NW K (nc t) t.aV J A p tp ln lr ns rs I/\SD ns rs (bs.set i (b.set x (!b[x]))) cl D I/\aD (Off H4 F) (Off J A)/\Q5 ns rs st I/\(∀L F9,Kp (Off J A) (Off L F9) jf pl->Rep K L (.list ((I.cps.map Px).map zH)) v8)/\σ=[some (.ref p),some (.ref b0),some (.ref ls),some (.int kk),some (.int i),some (.int x),some (.ref acc),some (.ref la),some v8,some (.bl false)]) ?_ (λN' hN=>?_)
  rotate_left
  ·refine⟨_,rfl,_,rfl,ls,_,_,_,rfl,rfl,bK.of (cy _ _ XE.sts.at_),Q9,_,rfl,l,_,_,_,rfl,rfl,bK.of (cy _ _ (XE.sts.it i l b hl hb)),Zx,_,rfl,?_⟩
   cases eb:b[x] with
   |true =>
    refine fF ?_;rw[eb] at R hN;have hc:∀cp∈st.cps,cp.l<st.ls.length:=λcp z=>(G.bd.cl cp z).1;have hBd:∀l∈st.ls,l.aE.length<=D:=λl z=>by have:=(G.bd.lb l z).1;lia
    have anz:=G.bd.cb;refine bZ λNx u=>?_;refine⟨_,rfl,p,_,_,rfl,bR,rfl,_,rfl,_,rfl,F,p,tp,ln,lr,ns,rs,st,i,x,stand b,rs[i],D,rfl,W4,o,G.ok,hc,hBd,∅,Y,G2,kq.mpr R,λA J W8 Q3=>?_⟩;have Xq:=G.aiT (x:=x) o hb rs[i].e;have ie:((stand b).filter λz=>decide (z≠x)).isEmpty=false:=by
     rw[sV];cases e:stand (b.set x false) with
     |nil=>exact ee e eo
     |cons=>rfl
    have es:Lj st i x (stand b) rs[i].e=ze {st with ws:=st.ws.set i (stand (b.set x false))} i x:=by
     unfold Lj;rw[ie,b5 (!_),sV]
    rw[es] at W8 Xq;rw[ie];refine u _ _ ?_;have q8:Q5 ns rs st (ze {st with ws:=st.ws.set i (stand (b.set x false))} i x):=by
     obtain⟨e1,e2,e3,e4,e5,_⟩:=Jv (s:={st with ws:=st.ws.set i (stand (b.set x false))}) (i:=i) (x:=x) st.cps.length (ay _);refine⟨e2,e3,e4,e5,λg=>?_,Ez,λos i' g num D0 j=>j.lose _⟩;show uP rs (iM _ i x st.cps.length).ws g=_;rw[e1];exact Pf Y acN eo g
    have S8:=sX Q3;have afM:aD (Off H4 (gn F jf pl)) J:=(Kp.of (jf:=jf) (pl:=pl) S8).big;have afN:=afM _ _ afK;have ai5:c8 K J qf (st.cps.map Cp.vs):=acM.mono λb x=>afM.dw;refine⟨_,rfl,lf,rfl,⟨_,bK.of afN⟩,λac hac=>?_⟩;have nt:=bK.of (K:=K) afN;refine fG (n:=(qf.map V.ref).length) (λm ys L=>∃ZD:List Addr,ys=ZD.map V.ref/\ZD.length<=m/\c8 K L ZD (((st.cps.take m).filter λc=>!Pq i x c).map Cp.vs)) hac (zU nt) (qg nt) ⟨[],rfl,ay _,⟨rfl,λj q x z=>by simp at z⟩⟩ ?_ ?_
    ·rintro m ys L W s9 S ⟨ZD,rfl,el,M⟩ y Po ⟨rfl,hy'⟩
     have hy':=hy' _ (s9.seq nt);have hm':m<qf.length:=by rw[ah] at W;exact W
     have hmc:m<st.cps.length:=∅
     rw[aj,aa hm'] at hy';cases hy';have UR:=s9.dw (ai5.at' m qf[m] (st.cps[m]).vs (aa hm') (by rw[aj,aa hmc];rfl));have etk:=EA (f:=λc:Cp=>!Pq i x c) hmc;generalize st.cps[m]=c at UR etk;generalize qf[m]=qc at UR;have UR:cW K _ qc [.int c.l,.int c.r,.int c.w,.int c.h]:=UR;refine⟨_,rfl,qc,_,1,_,rfl,rfl,UR,rfl,_,rfl,rfl,_,rfl,?_⟩;have hsz:(ZD.map V.ref).length<sizeLine:=by rw[ah];exact L1 (by have:=G.bd.cb;lia)
     refine or2 (Pq i x c=false) (λhon=>⟨_,rfl,dR hac W s9 S hsz ⟨ZD++[qc],by rw[aO];rfl,by rw[az];show ZD.length+1<=m+1;lia,?_⟩⟩) (λe=>?_) (λadd e=>?_)
     ·rw[etk,hon,Bool.not_false,b3 rfl,aO]
      exact c8.snoc (M.mono λb x=>cW.past S jD cu) (cW.past S jD cu UR)
     ·unfold Pq
      exact eL λz=>by
       rw[z.1,eH rfl] at e;cases e
     ·refine⟨_,rfl,qc,_,2,_,rfl,rfl,UR,rfl,_,rfl,rfl,_,rfl,jC (λe2=>add ?_) (λe2=>gv W s9 S ⟨ZD,rfl,∅,?_⟩)⟩
      ·unfold Pq
       exact eL λz=>by
        rw[z.2,eH rfl] at e2;cases e2
      ·have e1:c.r=i:=by
        have e:decide (V.int (c.r:Int)=V.int (i:Int))=true:=by simpa using e
        have:=V.int.inj (ff e)
        lia
       have e3:c.w=x:=by
        have e2:decide (V.int (c.w:Int)=V.int (x:Int))=true:=by simpa using e2
        have:=V.int.inj (ff e2)
        lia
       have:Pq i x c=true:=eH ⟨e1,e3⟩
       rw[etk,this,Bool.not_true,b5 (!_),cS];exact M
    ·rintro ys L s9 S ⟨ZD,rfl,el,M⟩
     have eT:st.cps.take (qf.map V.ref).length=st.cps:=eO (by rw[ah];lia);rw[eT] at M;have S89:=S8.trans (b9 (F:=A) s9);refine hN _ _ ⟨_,A,.ref ac,W8.mono s9,Xq,S89,q8,λPo F10 Xr=>?_,rfl⟩;have Zz:=(XE.mono S8).mut W8.cV;have r9:Rep K (Off L (gn A jf pl)) (.list (((ze {st with ws:=st.ws.set i (stand (b.set x false))} i x).cps.map Px).map zH)) (.ref ac):=⟨ac,_,rfl,bK.of (jU (Zz.free hac) S),uD (by
      rw[<- Jx];exact M.mono λb x=>(Zz.mono s9).Zt)⟩
     exact r9.mono Xr.big
   |false =>
    refine dQ ?_;rw[eb] at R hN;refine⟨_,rfl,p,_,_,rfl,bR,rfl,_,rfl,_,rfl,F,p,tp,ln,lr,ns,rs,st,i,x,stand b,rs[i],rfl,W4,o,G.ok,Y,G2,hx,λz=>?_,λw2 A J hp2 hs2 W8 Q3=>?_⟩
    ·rw[kq,R] at z
     cases z
    ·have ew:=Tw R hp2 hs2
     subst ew;have Xq:=G.lay (x:=x) o hb rs[i].e;have ie:(stand b).isEmpty=false:=by
      cases e:stand b with
      |nil=>exact ee e acN
      |cons=>rfl
     have es:Ur st i (stand b) (stand (b.set x true)) rs[i].e={st with ws:=st.ws.set i (stand (b.set x true))}:=by
      unfold Ur;rw[ie,b5 (!_)]
     rw[es] at W8 Xq;rw[ie];have S8:=sX Q3;have ai8:stand (b.set x true)≠[]:=λz=>by
      have:x∈stand (b.set x true):=kq.mpr (by rw[cO,b3 rfl,b3 X])
      rw[z] at this;cases this
     refine hN _ _ ⟨_,A,.ref lf,W8,Xq,S8,⟨rfl,rfl,rfl,rfl,λg=>Pf Y acN ai8 g,rfl,λos i' g num D0 j=>j.lay _⟩,λPo F10 Xr=>?_,rfl⟩;have r4:Rep K (Off H4 (gn F jf pl)) (.list ((st.cps.map Px).map zH)) (.ref lf):=⟨lf,_,rfl,bK.of afK,uD (by rw[<- Jx];exact acM)⟩;exact r4.mono ((Kp.of S8).trans Xr).big
  rintro σ J ⟨I,A,v8,W8,Xq,S8,q8,rp8,rfl⟩;have MY:=XE.mono S8;have acP:=cy _ _ MY.sts.at_;have UB:=MY.sts.it i l b hl hb;refine bZ λNx u=>?_;refine⟨_,rfl,_,rfl,ls,_,_,_,rfl,rfl,bK.of acP,Q9,_,rfl,l,_,_,_,rfl,rfl,bK.of (cy _ _ UB),Zx,_,rfl,?_⟩;refine⟨_,rfl,_,rfl,ls,_,_,_,rfl,rfl,bK.of acP,Q9,_,rfl,l,_,_,x,rfl,rfl,cy _ _ UB,(by rw[ah];exact Du X),u _ _ ?_⟩;have N9:=W8.cV.past (o:=.lst ((b.map V.bl).set x (V.bl (!b[x])))) UB jD;have XG:=MY.aiU (x:=x) (v:=!b[x]) hl hb;rw[<- RK (jT UB).1] at XG;have kp9:Kp (Off J A) (Off (upd J l (.lst ((b.map V.bl).set x (V.bl (!b[x]))))) A) jf pl:=Kp.upd UB (.inl (aU hl));generalize upd J l (.lst ((b.map V.bl).set x (V.bl (!b[x]))))=L at N9 XG kp9;have afO:Kp (Off H4 F) (Off L A) jf pl:=(Kp.of S8).trans kp9;have rp9:=rp4.mono afO.big;have rf9:=rp8 L A kp9;have W9:NW K (nc t) t.aV L A p tp ln lr ns rs I:=XG.qh.nw N9 λb z=>z;obtain⟨loc,za,q,hp,O,hF,hT⟩:=id N9;have aaD:=O.get .cV _ rfl;rw[hp] at aaD;refine bZ λNx u=>?_;refine⟨_,rfl,false,false,rfl,rfl,_,rfl,dQ ?_⟩;refine⟨_,rfl,p,_,_,rfl,aaD,rfl,A,p,tp,ns.length,I,rfl,N9,λlf2 qf2 Po C8 alc aja ajb=>?_⟩;have r2:Rep K Po (.list ((I.cps.map Px).map zH)) (.ref lf2):=⟨lf2,_,rfl,bK.of aja,uD (by rw[<- Jx];exact ajb)⟩;have dp:(PyData.list ((I.cps.map Px).map zH)).depth<=64:=by
   show PyData.depthAll _+1<=64
   have:=xO (I.cps.map Px)
   lia
  refine⟨_,rfl,_,_,r2,rf9.mono C8,uE _,uE _,bH (bW (aJ (eU _ _) dp) _) C.units,_,rfl,?_⟩;rw[SeqAt.eqv_refl (.list ((I.cps.map Px).map zH)) (uE _)];refine dQ (u _ _ ?_);dsimp only[XN,Vb];refine Xo T o (W9.mono C8) Xq.ok (λg=>by rw[q8.ts];exact SH g) λlb os2 us2 n7 Xz anE ajc ajd aje=>?_;have et:=q8.told hos ajc hus ajd;have dl:=Pe (n:=ns.length) (s:=st) (os:=os) (us:=Z) (au 3);have dd:(PyData.list ((au 3).map λg=>MU ns.length st g (os g) (Z g))).depth<=64:=by
   show PyData.depthAll _+1<=64
   have:=Lq (n:=ns.length) (s:=st) (os:=os) (us:=Z) (au 3)
   lia
  have r3:=aje.rep;rw[et] at r3;refine⟨_,rfl,_,_,r3,rp9.mono (C8.trans Xz),dl,dl,bH (bW (aJ (eU _ _) dd) _) C.units,?_⟩;rw[SeqAt.eqv_refl (.list ((au 3).map λg=>MU ns.length st g (os g) (Z g))) dl];have acQ:=C8.trans Xz;exact k I _ A n7 (N9.mono acQ) (XG.mono (b9 acQ)) Xq q8 ((kp4.trans afO).trans (Kp.of (b9 acQ)))
theorem ZE(rs:List R5):(rs.map λr=>bB r.d.toNat true).map stand=rs.map λr=>au r.d.toNat:=by
 rw[cz];exact cF λr _=>Qe _
theorem Xs{n:Nat}{rs:List R5}(ok:∀r∈rs,r.Ok n):jw rs (rs.map λr=>bB r.d.toNat true):=by
 refine⟨ah _,λi r b c a=>?_⟩;rw[aj,c] at a;cases a;rw[List.length_replicate]
 have:=(ok r (aU c)).d1
 lia
theorem afP{ns:List Int}{rs:List R5}{cl:List (Nat×Nat)}(o:eZ ns rs)(j:cl.length<=20)(e:∀c∈cl,c.1<ns.length/\c.2<3):SD ns rs (rs.map λr=>bB r.d.toNat true) cl 0 (S0 ns rs cl):=by
 refine⟨⟨ah _,λw a=>?_,λg _ i b=>⟨?_,jA _,⟨jA _,by show (0:Int)<(ns.length:Int);lia⟩,.inl rfl⟩⟩,⟨?_,?_,λg m=>?_,λh f=>?_,?_,λw a=>?_,bE _,λl z=>(by cases z),bE _,λc z=>(by cases z),λg=>⟨bE _,lG⟩⟩,(ZE rs).symm,Xs o.ok,rfl,rfl⟩
 ·obtain⟨r,k,rfl⟩:=aS.mp a
  rw[aX]
  have:=(o.ok r k).d4
  lia
 ·show 0<=ns.getD i 0
  rw[aq,aa b];exact o.pos _ (aK b)
 ·show (cl.map _).length=(cl.map _).length
  rw[ah,ah]
 ·show (cl.map _).length<=20
  rw[ah];exact j
 ·obtain⟨c,z,rfl⟩:=aS.mp m
  exact (e c z).2
 ·obtain⟨c,z,rfl⟩:=aS.mp f
  exact (e c z).1
 ·show (cl.map _).length=(cl.map _).length
  rw[ah,ah]
 ·obtain⟨c,z,rfl⟩:=aS.mp a
  exact bE _
theorem UC{a:Addr}{xs:List V}{g:TG}{k:TS}{D:Ends}{b:L2.St}{H:Hp}(f:Nat->L2.St->Hp->Prop)(r:f 0 b H)(hl:∀i b H,i<=xs.length->f i b H->bK K H a xs)
 (l:∀i x b H p (N:L2.St->Hp->Prop),(∀c d,f (i+1) c d->N c d)->xs[i]?=some x->f i b H->H p=none->g (.ref p) b (upd H p (.tup [.int (i:Nat),x])) λe h=>k {D with nx:=N,ct:=N,bk:=D.nx} e h) (o:∀b H,f xs.length b H->D.nx b H) :
 ∃W:Nat->Nat->L2.St->Hp->Prop,(∃m,W 0 m b H)/\∀i m b H,W i m b H ->
  ((XA K a).stop i H/\D.nx b H)∨((XA K a).go i H/\∃N:L2.St->Hp->Prop,(∀c d,N c d->∃j,j<m/\W (i+1) j c d)/\∀x d,(XA K a).LA i H x d->g x b d λe h=>k {D with nx:=N,ct:=N,bk:=D.nx} e h) :=
 VJ f r hl (λi x b H p n z q=>l i x b H p _ (λ_ _ x=>x) n z q) o
inductive Xu(K:af)(vs:List V)(H:Hp)(Q:VK)(E:XK):Prop
 |mk (a:Addr) (ns:List Int):vs=[.ref a]->bK K H a (ns.map V.int)->ns.length<=63->(∀H',Q (.bl true) H')->Xu K vs H Q E
theorem acR{t:Ad}(T:Txt K mg t):b6 P w K mg base iH 9 t.NU t.NV ["_law_script"]  (Xu K):=by
 refine T.Wu.F.jJ kK λH Q E u h=>?_
 ·obtain⟨a,cs,rfl,hS,hlen,k⟩:=h
  refine⟨_,(ak (sS 1 kK (aY fC aA (aY dF (cG (gp T) u T.gq (oA (pv 0) aA)) aA))) (ak (sS 2 kK (aY dF (cG (gp T) u T.gq (oA (pv 0) aA)) aA)) (ak (sS 3 kK (cG (QW T) u T.KZ (HN (pv 0) (pv 1) (pv 2)))) (ak (sS 4 kK (cG (MN T) u T.FP (HN (pv 0) (pv 1) (pv 2)))) (ak (sS 5 kK (cI T.DL (Kf T) u T.aeH (oA (cI T.BN (Jc T) u T.abR (oA (cG (QV T) u T.KY (oA (pv 0) (pv 1))) (gu iy (by rfl) T.vU boot_list (fY (pv 3))))) (gu iy (by rfl) T.vU boot_list (fY (pv 4)))))) (ak (fq (cG (O9 T) u T.Il (HN (pv 5) (pv 1) (pv 2)))) (ak (l9 (i:=6) kK.nd rfl (Or.inl rfl) (kO kK ["_law_rope"] [none]) rfl (gj (pv 3)) (λ_ _ _ _=>by exact (gS 0 T8)) (λ_ _ _ _=>by exact ko) (λ_ _ _ _=>by exact (aY abd (gZ (fY Kn)) (yT K (pv 0) aA)))) (ak (fS (RC rfl T.FQ (fY (wQ Rr (pv 0) (rT aA) (rT aA)))) (U1 (n:=2) rfl (wM (gT 7 kK) (wM (gT 8 kK) Lx))) (ak (sS 9 kK (aY dF (pv 8) (lS T.gR (pv 4)))) (ak (sS 10 kK (cG (Zr T) u T.Wt (HN (pv 4) (pv 9) (aY eV (pv 8) aA)))) (ak (sS 11 kK (pv 9)) (ak (b4 (qT GR (pv 10) lW) (br (sS 11 kK (aY fC (aY fC (pv 9) (pv 10)) aA))) aW) (ak (b4 (PW.pt (Dg (qT qd (rS (pv 5) T.bw T.QB (OR T) (u.mono (!_)) T.QA .nil kG (oA (pv 9) (pv 10))) (pv 7)) (zJ (gY (jB (cG (Jy T) u T.EZ (HN (pv 6) (pv 11) (cM (pv 5) T.bw T.qx (sE T) u (fY (pv 7)))))))))) oB aW) (ak (b4 (PW.pt (Lw (qT Ho (pv 3) (gZ gD)) (GQ (gY (jB (cG (UA T) u T.NX (Z3 (pv 5) (pv 3) (pv 6) (aY eV (pv 8) aA)))))))) oB aW) (ak (fS (d8 rfl T.gV (fY (aY PF aA (lS T.gR (pv 3))))) (gT 12 kK) (br (b4 (qT Ho (iL (pv 5) T.bw T.gm.m (pZ T) (u.mono (!_)) T.gm.B .nil kG) (gZ gD)) (ak (sS 13 kK (lS T.gR (cM (pv 5) T.bw T.qx (sE T) u (fY (pv 7))))) (br (b4 (PW.pt (Dg (qT qd (iL (pv 5) T.bw T.JR (Ju T) (u.mono (!_)) T.JQ (show bX [V.int 0] [_] from .cons ⟨_,rfl⟩ .nil) kG) gX) (zJ (gY (jB (cG (Jy T) u T.EZ (HN (pv 6) (pv 11) (wQ Rr (cM (pv 5) T.bw T.qx (sE T) u (fY (pv 7))) (rT (pv 13)) GV)))))))) oB aW))) aW))) (br (b4 (PW.pt (Dg (qT Ho (iL (pv 5) T.bw T.gm.m (pZ T) (u.mono (!_)) T.gm.B .nil kG) (gZ gD)) (zJ (gY (jB (cG (GP T) u T.Ay (fY (cM (pv 5) T.bw T.qx (sE T) u (fY (pv 7)))))))))) oB aW)))))))))) oB)))))))),?_⟩
  left
  refine⟨_,rfl,a,cs,0,rfl,hS,!_,_,_,rfl,rfl,(by show (0:Int)<10;decide),_,_,rfl,rfl,?_⟩;obtain⟨n,hn,hn1,Xv⟩:∃n:Nat,1+cs.getD (0:Int).toNat 0%10=(n:Int)/\1<=n/\n<=10:=by
   have h1:=bQ (cs.getD (0:Int).toNat 0) (show (10:Int)≠0 by decide);have h2:=bV (cs.getD (0:Int).toNat 0) (show (0:Int)<10 by decide);exact⟨(1+cs.getD (0:Int).toNat 0%10).toNat,∅,∅,∅⟩
  show iG 1 (V.int (1+cs.getD (0:Int).toNat 0%10)) _ _ _;rw[hn];refine⟨_,rfl,a,cs,1,rfl,hS,!_,_,_,rfl,rfl,(by show (0:Int)<3;decide),?_⟩;obtain⟨g,hge,hg⟩:∃g:Nat,cs.getD (1:Int).toNat 0%3=(g:Int)/\g<3:=G5 _ (!_);show iG 2 (V.int (cs.getD (1:Int).toNat 0%3)) _ _ _;rw[hge];refine⟨_,rfl,_,rfl,_,rfl,a,cs,n,g,rfl,hS,hn1,Xv,hg,λZ H1 rs s1 hb0 hR1 l14 ok=>?_⟩;refine⟨_,rfl,_,rfl,_,rfl,a,cs,n,g,rfl,s1.seq hS,hn1,Xv,hg,λcb qs H2 cl f afQ hcb hcq hc1 WZ acS=>?_⟩;have s12:=s1.trans f;refine⟨_,rfl,_,rfl,a,cs,n,rfl,s12.seq hS,hn1,Xv,λa0 H3 ns s3 ha0 hA3 eln nd nn=>?_⟩;subst eln;have s13:=s12.trans s3;obtain⟨us,hB1,afR⟩:=hR1;have RB:=(f.trans s3) _ _ hB1;have Xw:c8 K H3 us (rs.map R5.vs):=afR.mono λb x=>(f.trans s3).dw;have Ra:=s3 _ _ hcb;have afT:c8 K H3 qs (acI cl):=hcq.mono λb x=>s3.dw;have hS3:=s13.seq hS;have tok:eZ ns rs:=⟨nd,ok,hn1,Xv,∅,nn⟩;have hw4:∀r∈rs,1<=r.d/\r.d<=4:=λr hr'=>⟨(ok r hr').d1,(ok r hr').d4⟩;have he7:∀r∈rs,1<=r.e/\r.e<=7:=λr hr'=>⟨(ok r hr').e1,(ok r hr').e7⟩;have afU:cb≠Z:=(aH hB1 afQ).symm;refine⟨_,rfl,Z,_,rfl,.inl (bK.of RB),λA h2=>?_⟩;have t2:=aD.new (o:=.lst (us.map V.ref)) h2;have hl2:=av (H:=H3) (a:=A) (o:=.lst (us.map V.ref));generalize upd H3 A (.lst (us.map V.ref))=H4 at t2 hl2;refine λv dx np su nep=>?_;have t7:aD H4 (upd (upd H4 dx (.own v)) v (.ins t.aV dx [])):=(aD.new su).trans (aD.new (by rw[aF (bP nep)];exact np));refine⟨v,dx,a0,A,ns,rs,rfl,av,bK.of (t7 _ _ (t2 _ _ hA3)),⟨A,_,rfl,bK.of (t7 _ _ hl2),Qt.RL (l:=A) (Xw.mono λb x=>(t2.trans t7).dw)⟩,hn1,Xv,nn,nd,∅,ok,λln lr H5 hln hlr hT kp=>⟨rfl,?_⟩⟩;have t5:aD H3 H5:=t2.trans λb o e=>kp b o (t7 b o e) (aH e np);have ncb:cb≠v/\cb≠ln/\cb≠lr:=⟨aH (t2 _ _ Ra) np,aH (t7 _ _ (t2 _ _ Ra)) hln,aH (t7 _ _ (t2 _ _ Ra)) hlr⟩;refine⟨_,rfl,cb,_,rfl,.inl (bK.of (t5 _ _ Ra)),λl3 h3=>?_⟩;have t6:=aD.new (o:=.lst (qs.map V.ref)) h3;have hl3:=av (H:=H5) (a:=l3) (o:=.lst (qs.map V.ref));have Qu:=hT.mono t6;have Za:=t5.trans t6;generalize upd H5 l3 (.lst (qs.map V.ref))=H6 at t6 hl3 Qu Za;refine λp Ej npp su nep=>?_;have t7:aD H6 (upd (upd H6 Ej (.own p)) p (.ins t.cC Ej [])):=(aD.new su).trans (aD.new (by rw[aF (bP nep)];exact npp));refine⟨p,Ej,v,ln,lr,l3,ns,rs,qs,cl,rfl,av,Qu.mono t7,∅,∅,hw4,bK.of (t7 _ _ hl3),afT.mono λb x=>(Za.trans t7).dw,WZ,acS,λF H7 N kp fr=>⟨rfl,?_⟩⟩;have S7:aD H6 (Off H7 F):=V8 t7 npp kp fr;have vV:=Qu.mono S7;have M:=Za.trans S7;have s37:=M.trans cy;have kF:=afP tok WZ acS;refine⟨_,rfl,_,rfl,_,rfl,F,p,v,ln,lr,ns,rs,_,cl,0,_,g,rfl,tok,vV.nw N (λb z=>z),kF,hg,λs7 F' S W7 kF P5=>?_⟩;have S7':=sX P5
  replace vV:=vV.mono S7'
  replace M:=M.trans S7'
  have s37:=M.trans cy;have N:=W7.cV;have hB7:=s37 _ _ RB;have afX:c8 K S us (rs.map R5.vs):=Xw.mono λb x=>s37.dw;have S9:us.length=rs.length:=by rw[Xw.len,ah]
  refine⟨_,rfl,Z,rfl,⟨_,bK.of hB7⟩,λls hls=>?_⟩;have hq7:=bK.of (K:=K) hB7;refine fG (n:=(us.map V.ref).length) (λi L H8=>∃J:List Addr,L=J.map V.ref/\J.length=i/\J.Nodup/\∀(j:Nat) l r,J[j]?=some l->rs[j]?=some r->H8 l=some (.lst ((bB r.d.toNat true).map V.bl))/\l≠ls/\S l=none) hls (zU hq7) (qg hq7) ⟨[],rfl,rfl,lG,λj l r e=>by simp at e⟩ ?_ ?_
  ·rintro i L H8 hi X hy ⟨J,rfl,el,hnd,Ph⟩ x H9 ⟨rfl,hx⟩
   have hx:=hx _ (X.seq hq7);have hi':i<us.length:=by rw[ah] at hi;exact hi
   have G2:rs[i]?=some rs[i]:=aa ∅;have hq:=afX.at' i us[i] (rs[i]).vs (aa hi') (by rw[aj,G2];rfl);rw[aj,aa hi'] at hx;cases hx;have w4:=hw4 _ (aU G2);refine⟨Uz,λl1 h1=>?_⟩;have Y:=aD.new (o:=.lst [.bl true]) h1;refine⟨_,rfl,us[i],_,_,_,rfl,rfl,(X.trans Y).dw hq,rfl,l1,rs[i].d,_,rfl,rfl,av,∅,∅,(by show 1*rs[i].d.toNat<=sizeLine;exact ji (ck ∅)),λA h2=>?_⟩;rw[TW.abx];have C8:=Y.trans (aD.new (o:=.lst ((bB rs[i].d.toNat true).map V.bl)) h2);have afY:=av (H:=upd H9 l1 (.lst [.bl true])) (a:=A) (o:=.lst ((bB rs[i].d.toNat true).map V.bl));have afZ:=C8 _ _ hy;have nl2:A≠ls:=(aH (Y _ _ hy) h2).symm;have hn8:H9 A=none:=Y.free h2;have hn7:S A=none:=X.free hn8;generalize upd (upd H9 l1 (.lst [.bl true])) A (.lst ((bB rs[i].d.toNat true).map V.bl))=Po at C8 afY afZ;refine dR hls hi (X.trans C8) afZ (by rw[ah,el];exact ck ∅) ⟨J++[A],by rw[aO];rfl,by rw[az,el];rfl,?_,λj l' r e1 e2=>?_⟩
   ·rw[jM]
    refine⟨hnd,-_,λx hx y hy'=>?_⟩
    have:y=A:=by simpa using hy'
    subst this;obtain⟨j,hj⟩:=oK hx;have hjl:=(ai.mp hj).1;exact aH (Ph j x _ hj (aa ∅)).1 hn8
   ·rcases xX e1 with e1|⟨rfl,rfl⟩
    ·obtain⟨z1,z2⟩:=Ph j l' r e1 e2
     exact⟨by rw[aF z2.1];exact C8 _ _ z1,z2⟩
    ·rw[el,G2] at e2
     cases e2;exact⟨by rw[aF nl2];exact afY,nl2,hn7⟩
  rintro L H8 X hy ⟨J,rfl,el,hnd,Ph⟩;rw[ah] at el;have nF:∀b,S b=none->¬F' b:=λb e z=>by
   obtain⟨o,h⟩:=N.there z;rw[e] at h;cases h
  have new:∀l∈J,S l=none/\l≠ls:=λl hl=>by
   obtain⟨j,hj⟩:=oK hl;have hjl:=(ai.mp hj).1;exact⟨(Ph j l _ hj (aa ∅)).2.2,(Ph j l _ hj (aa ∅)).2.1⟩
  have hX8:Yx (Off H8 F') ls J (rs.map λr=>bB r.d.toNat true):=by
   refine⟨jU (nF ls hls) hy,by rw[ah];lia,hnd,λi l b e1 e2=>?_⟩;rw[aj] at e2;cases e3:rs[i]? with
   |none=>rw[e3] at e2;cases e2
   |some r =>
    rw[e3] at e2;cases e2;exact jU (nF l (Ph i l r e1 e3).2.2) (Ph i l r e1 e3).1
  have N8:=N.mono X;have S78:=b9 (F:=F') X;have hT8:=vV.mono S78;have n6:=M.trans S78;have s38:=n6.trans cy;have hS8:bK K (Off H8 F') a (cs.map V.int):=n6.seq hS3;have af0:=n6 _ _ Ra;have UD:∀{b o},Off S F' b=some o->∀l,S l=none->l≠b:=λ{b o} e l hl z=>by
   have:=cy _ _ e
   rw[<- z,hl] at this;cases this
  obtain⟨⟨dt,htp⟩,hln,_,hlr,_⟩:=id vV;have af1:=M _ _ RB;have acV:=M _ _ Ra;have MY:DX K t.aV (Off H8 F') v ln lr Z ls J cb ns rs (rs.map λr=>bB r.d.toNat true) cl:=by
   refine⟨hT8,⟨us,n6 _ _ RB,Xw.mono λb x=>n6.dw⟩,hX8,⟨qs,af0,afT.mono λb x=>n6.dw⟩,λl hl=>?_,⟨ncb.1,ncb.2.1,ncb.2.2,afU,aH (cy _ _ acV) hls⟩⟩;obtain⟨z1,z2⟩:=new l hl;exact⟨UD htp l z1,UD hln l z1,UD hlr l z1,UD af1 l z1,z2,UD acV l z1⟩
  generalize (rs.map λr=>bB r.d.toNat true)=bs at MY kF;have zF:=WZ;obtain⟨L,eys,lys⟩:∃L:List Int,Dk (cs.map V.int) (some 30) (some 46)=L.map V.int/\L.length<=16:=VR cs 30 46;have cp7:s7.cps=[]:=sJ.mp (by have:=kF.bd.cb;lia);have ls7:s7.ls.length=0:=by have:=kF.bd.ll;lia
  refine⟨_,rfl,_,rfl,_,rfl,a,_,rfl,cy.seq hS8,λlq O3=>?_⟩;rw[eys];have u1:=aD.new (o:=.lst (L.map V.int)) O3;have acW:=av (H:=H8) (a:=lq) (o:=.lst (L.map V.int));have nFq:¬F' lq:=λz=>by
   obtain⟨o,h⟩:=N8.there z;rw[O3] at h;cases h
  have nlq:lq∉J:=λz=>by
   obtain⟨j,hj⟩:=oK z;have hjl:=(ai.mp hj).1;rw[MY.sts.len] at hjl;exact aH (cy _ _ (MY.sts.it j lq _ hj (aa hjl))) O3 rfl
  have npq:lq≠cb:=λz=>by
   obtain⟨qp,h1,_⟩:=MY.ry;exact aH (cy _ _ h1) O3 z.symm
  generalize upd H8 lq (.lst (L.map V.int))=H9 at u1 acW;have N9:=N8.mono u1;have XG:=MY.mono (b9 (F:=F') u1);have UR:Off H9 F' lq=some (.lst (L.map V.int)):=jU nFq acW;refine⟨lq,_,rfl,bK.of (cy _ _ UR),UC (K:=K) (a:=lq) (xs:=L.map V.int) (λj U H2=>∃(f:NS) (W:Addr->Prop) (XH:List (List Bool)) (v7 v8 v9 v10 v11 Pw ZF:Option V),dm K (nc t) H2 W p v ns.length f/\DX K t.aV (Off H2 W) v ln lr Z ls J cb ns rs XH cl/\SD ns rs XH cl (2900*j) f/\f.cps=[]/\f.ls.length=j/\Off H2 W lq=some (.lst (L.map V.int))/\U=[some (.ref a),some (.int (ns.length:Nat)),some (.int g),some (.ref Z),some (.ref cb),some (.ref p),some (.ref ls),v7,v8,v9,v10,v11,Pw,ZF])
   ⟨s7,F',bs,_,_,_,_,_,_,_,N9,XG,kF,cp7,ls7,UR,rfl⟩ (λj U H2 _ z=>?_) ?_ ?_⟩
  ·obtain⟨f,W,XH,v7,v8,v9,v10,v11,Pw,ZF,_,_,_,_,_,h5,_⟩:=z
   exact bK.of (cy _ _ h5)
  ·rintro j y U H2 p0 Nf Gk hj ⟨f,W,XH,v7,v8,v9,v10,v11,Pw,ZF,N2,Uq,UO,cp2,ls2,hq2,rfl⟩ hp0
   have hjl:j<L.length:=by
    have:=(ai.mp hj).1
    rw[ah] at this;exact this
   rw[aj,aa hjl] at hj;cases hj;generalize L[j]=cell;have w0:=aD.new (o:=.tup [V.int (j:Nat),V.int cell]) hp0;have hp1:=av (H:=H2) (a:=p0) (o:=.tup [V.int (j:Nat),V.int cell]);have N3:=N2.mono w0;have YT:=Uq.mono (b9 (F:=W) w0);have UJ:=b9 (F:=W) w0 _ _ hq2;generalize upd H2 p0 (.tup [V.int (j:Nat),V.int cell])=H3 at w0 hp1 N3 YT UJ;refine⟨p0,_,rfl,cW.of hp1,rfl,_,_,rfl,_,_,rfl,rfl,?_⟩;have hml:f.bg.length=cl.length:=by rw[UO.hm,ah]
   obtain⟨qp,af3,af4⟩:=YT.ry;have hpl:=cy _ _ af3;have hqp:=af4.mono λb x z=>cy.dw z;have eqp:qp.length=cl.length:=by rw[hqp.len,ah]
   have acX:(((qp.map V.ref).length:Nat):Int)=(cl.length:Int):=by rw[ah,eqp]
   obtain⟨x,ex,hx⟩:=G5 cell (show 0<cl.length by lia);refine bZ λNx c9=>?_;refine⟨_,rfl,_,rfl,cb,_,rfl,.inl (bK.of hpl),_,_,rfl,rfl,(by rw[acX];lia),?_⟩
   try dsimp only
   rw[acX,ex];refine c9 _ _ ?_;refine bZ λNx c9=>?_;refine⟨_,rfl,_,rfl,_,rfl,_,_,rfl,rfl,⟨!_,!_⟩,cb,qp,cl,x,cell/6,rfl,bK.of hpl,hqp,hx,zF,λto H4 c hto=>?_⟩;refine c9 _ _ ?_;have N4:=N3.mono c;have XE:=YT.mono (b9 (F:=W) c);have UL:=b9 (F:=W) c _ _ UJ;have eto:∀y,to=some y->y<f.bg.length/\f.groups[y]?=f.groups[x]?:=λy z=>by
    obtain⟨h1,h2⟩:=hto y z;rw[UO.gr];exact⟨∅,h2⟩
   refine bZ λNx c9=>?_;refine⟨_,rfl,?_⟩;refine c9 _ _ ?_;have hgx:f.groups.getD x 0<3:=by
    rw[aq,UO.gr,aj,aa hx];exact (acS _ (aK hx)).2
   refine nh (λU H5=>aD H4 H5/\U=[some (.ref a),some (.int (ns.length:Nat)),some (.int g),some (.ref Z),some (.ref cb),some (.ref p),some (.ref ls),some (.int (j:Nat)),some (.int cell),some (.int x),some (zY (to.map λy:Nat=>(y:Int))),some (.int (jE (fP f x to):Nat)),Pw,ZF]) ?_ (λN' hN=>?_)
   rotate_left
   ·refine⟨_,rfl,rfl,_,rfl,?_⟩
    cases to with
    |none=>exact dQ (hN _ _ ⟨aD.refl _,rfl⟩)
    |some y =>
     have e1:(!decide (zY ((some y:Option Nat).map λy:Nat=>(y:Int))=V.fE))=true:=rfl;rw[e1];refine fF ⟨_,rfl,_,rfl,_,_,rfl,rfl,_,_,rfl,rfl,hN _ _ ⟨aD.refl _,?_⟩⟩;have e2:((x:Int)+(y:Int)+1)=(jE (fP f x (some y)):Nat):=rfl;rw[<- e2];rfl
   rintro U H5 ⟨s5,rfl⟩;have N5:=N4.mono s5;have dx5:=XE.mono (b9 (F:=W) s5);have hq5:=b9 (F:=W) s5 _ _ UL;obtain⟨loc,za,q,hp,O,hF,hT⟩:=id N5;have bR:=O.get .cV _ rfl;rw[hp] at bR;have W5:NW K (nc t) t.aV H5 W p v ln lr ns rs f:=dx5.qh.nw N5 λb z=>z;refine bZ λNx c9=>?_;refine⟨_,rfl,p,_,_,rfl,bR,rfl,_,rfl,_,rfl,W,p,v,ln,lr,ns,rs,f,tok,x,to,2900*j,rfl,W5,UO.ok,UO.bd,∅,∅,eto,λos F6 H6 hO h12 W6 Y7=>?_⟩;have F0:Fo ns rs os:=Fo.of hO;obtain⟨l6,nu,j6,z4,ll6⟩:=J5.post (s:=f) (x:=x) (to:=to) F0 UO.bd rfl ∅ cp2;have pe:=UO.post tok (to:=to) ∅ hO h12;have dx6:=dx5.mono (sX Y7);have hq6:=sX Y7 _ _ hq5;have fr6:=Xb (rs:=rs) (h:=f.bg.getD x 0) (cP:=none) (os:=os) (s:=mV f x to) (i:=f.ls.length) (l:={fP f x to with aE:=[.post (f.bg.getD x 0)]}) vn;have eW6:(rR rs f x to os).ws=f.ws:=fr6.ws;have eR6:(rR rs f x to os).R=f.R:=fr6.R;have Rn:d9 (mh ns rs tok (rR rs f x to os).ws (f.groups.getD x 0)) ((rR rs f x to os).R (f.groups.getD x 0)) os:=by rw[eW6,eR6];exact hO
   rw[ls2] at nu j6 ll6;generalize jE (fP f x to)=num at j6 z4;generalize f.groups.getD x 0=gg at hgx Rn j6;have wdB:∀(s':NS) (bs':List (List Bool)) (ds:List iW),SD ns rs bs' cl (2900*(j+1)) s'->d9 (mh ns rs tok s'.ws gg) (s'.R gg) os->Wd os s'.ws num ds->WdB bs' num ds:=λs' bs' ds sd' O' wd d hd h r x e=>by
    obtain⟨h1,h2⟩:=wd d hd h r x e;obtain⟨hrl,w,hw,ajn⟩:=BB (s:=s') O' h1;obtain⟨b,hb,hbl⟩:=sd'.fit.at (aa hrl);have hw2:=hw;rw[sd'.ws,aj,hb] at hw;have hw:stand b=w:=aN hw;have d4:=(tok.ok _ (aK hrl)).d4;refine⟨b,hb,by rw[hw];exact ajn,∅,?_⟩;rw[h2];unfold kH;rw[hw2,hw]
   obtain⟨anS,anT,q6,uw,O6,hF6,Qu⟩:=id W6.cV;have Xx:=O6.get .cV _ rfl;rw[uw] at Xx;have pe:SD ns rs XH cl (2900*j+100) (rR rs f x to os):=pe;have z4:Wd os (rR rs f x to os).ws num l6.aE:=by rw[eW6];exact z4
   have wB6:=wdB _ XH l6.aE (pe.mono ∅) Rn z4;generalize rR rs f x to os=s6 at *;refine⟨_,rfl,rfl,_,rfl,?_⟩;rw[ls2,eH rfl];refine dQ ?_;refine⟨_,rfl,_,rfl,_,rfl,p,_,_,rfl,Xx,rfl,_,rfl,F6,p,v,ns.length,j,s6,l6,rfl,W6.cV,nu,λao qo H7 k9 acZ hao sD=>?_⟩;refine⟨ls,ao,J,qo,XH,l6.aE,num,rfl,dx6.sts.mono (cy.trans k9),bK.of hao,sD,wB6,λH8 X=>⟨_,rfl,dQ (c9 _ _ ?_)⟩⟩;have s68:=k9.trans X;have W8:=W6.mono s68;have MY:=dx6.mono (b9 (F:=F6) s68);have nt:=b9 (F:=F6) s68 _ _ hq6;obtain⟨us8,hB8,ac0⟩:=id MY.qb;have anV:us8.length=rs.length:=by rw[ac0.len,ah]
   refine nh (λU H9=>∃(Y:NS) (F9:Addr->Prop) (G:List (List Bool)),NW K (nc t) t.aV H9 F9 p v ln lr ns rs Y/\DX K t.aV (Off H9 F9) v ln lr Z ls J cb ns rs G cl/\SD ns rs G cl (2900*j+100) Y/\(∃D0:List En,D0.length=1/\J5 ns rs os j gg num D0 Y)/\d9 (mh ns rs tok Y.ws gg) (Y.R gg) os/\Y.ls.length=j+1/\Off H9 F9 lq=some (.lst (L.map V.int))/\U=[some (.ref a),some (.int (ns.length:Nat)),some (.int g),some (.ref Z),some (.ref cb),some (.ref p),some (.ref ls),some (.int (j:Nat)),some (.int cell),some (.int x),some (zY (to.map λy:Nat=>(y:Int))),some (.int (num:Nat)),Pw,ZF]) ?_ (λN' hN=>?_)
   rotate_left
   ·refine⟨_,rfl,bE _,λb hb=>?_⟩
    have u9:=aD.new (o:=.lst []) hb;have hb9:=av (H:=H8) (a:=b) (o:=.lst []);generalize upd H8 b (.lst [])=H9 at u9 hb9;have ajp:c8 K H9 us8 ((rs.map R5.ns).map λx=>x.map V.int):=by
     rw[<- afB];exact ac0.mono λb x z=>u9.dw (cy.dw z)
    refine⟨.list ((rs.map R5.ns).map zH),.list [],⟨Z,_,rfl,bK.of (u9 _ _ (cy _ _ hB8)),uD ajp⟩,⟨b,[],rfl,bK.of hb9,rfl⟩,uE _,rfl,bH (bW (aJ (eU _ _) (by show PyData.depthAll _+1<=64;have:=xO (rs.map R5.ns);lia)) _) u.units,_,rfl,?_⟩;rw[MT];by_cases er:rs=[]
    ·have:((rs.map R5.ns).map zH).isEmpty=true:=by rw[er];rfl
     rw[this];exact dQ (hN _ _ ⟨s6,F6,XH,W8.mono u9,MY.mono (b9 u9),pe,⟨_,rfl,j6⟩,Rn,ll6,b9 u9 _ _ nt,rfl⟩)
    ·have:((rs.map R5.ns).map zH).isEmpty=false:=by
      cases rs with
      |nil=>exact ee rfl er
      |cons=>rfl
     rw[this];refine fF ?_;refine⟨_,rfl,_,rfl,_,rfl,_,rfl,_,_,rfl,rfl,⟨!_,!_⟩,F6,p,v,ln,lr,Z,ls,J,cb,ns,rs,XH,cl,2900*j+100,s6,cell/72,rfl,tok,(W8.mono u9).cV,MY.mono (b9 u9),pe,∅,er,λC8 ajq F10 Po N10 af6 ajr lC Xr=>⟨_,rfl,dQ (hN _ _ ⟨C8,F10,ajq,af6.qh.nw N10 (λb z=>z),af6,ajr,⟨_,rfl,lC.j5 _ _ _ _ _ j6⟩,?_,by rw[lC.ll];exact ll6,Xr _ _ (b9 u9 _ _ nt) nlq npq,rfl⟩)⟩⟩;have e:∀(w w':List (List Nat)),uP rs w' gg=uP rs w gg->∀{R:Nat->RM.Row} {os:List Nat},d9 (mh ns rs tok w gg) R os->d9 (mh ns rs tok w' gg) R os:=λw w' ew {R os} O=>by
      unfold mh at O ⊢;have key:∀(l1 A:List Nat) (h1:∀k∈l1,k<rs.length) (h2:∀k∈A,k<rs.length),l1=A->d9 (aQ ns rs l1 tok.nd tok.ok h1) R os->d9 (aQ ns rs A tok.nd tok.ok h2) R os:=λl1 A h1 h2 e O=>by
       subst e;exact O
      exact key _ _ _ _ ew.symm O
     rw[lC.R];exact e s6.ws C8.ws (lC.lv gg) Rn
   rintro U H9 ⟨Y,F9,G,W9,XG,sd9,⟨D0,ed0,j9⟩,hO9,ll9,UR,rfl⟩;obtain⟨us9,hB9,ajs⟩:=id XG.qb;have ajt:us9.length=rs.length:=by rw[ajs.len,ah]
   have aju:(((us9.map V.ref).length:Nat):Int)=(rs.length:Int):=by rw[ah,ajt]
   refine bZ λNx c9=>?_;refine⟨_,rfl,Z,_,rfl,.inl (bK.of (cy _ _ hB9)),_,_,rfl,rfl,.inl ⟨!_,!_⟩,2*(rs.length:Int),by rw[aju],∅,∅,sF (n:=(2*(rs.length:Int)).toNat) (λi U H4=>∃(c:NS) (F4:Addr->Prop) (D1:List En) (Pw ZF:Option V),NW K (nc t) t.aV H4 F4 p v ln lr ns rs c/\SD ns rs G cl (2900*j+100+100*i) c/\J5 ns rs os j gg num D1 c/\(i+1<=D1.length∨c.cps=[])/\d9 (mh ns rs tok c.ws gg) (c.R gg) os/\c.ls.length=j+1/\aD (Off H9 F9) (Off H4 F4)/\U=[some (.ref a),some (.int (ns.length:Nat)),some (.int g),some (.ref Z),some (.ref cb),some (.ref p),some (.ref ls),some (.int (j:Nat)),some (.int cell),some (.int x),some (zY (to.map λy:Nat=>(y:Int))),some (.int (num:Nat)),Pw,ZF]) ⟨Y,F9,D0,_,_,W9,sd9,j9,.inl ∅,hO9,ll9,aD.refl _,rfl⟩ ?_ ?_⟩
   ·rintro i U H4 hi ⟨c,F4,D1,Pw,ZF,W4,I,j4,hd4,RA,Nn,o4,rfl⟩
    have hi':i<28:=∅
    obtain⟨loc,za,q,hp,O,hF,hT⟩:=id W4.cV;have bR:=O.get .cV _ rfl;rw[hp] at bR;refine⟨_,rfl,p,_,_,rfl,bR,rfl,F4,p,v,ns.length,c,rfl,W4.cV,λlf qf H5 s5 ZC uH t8=>?_⟩;refine⟨bE _,λb hb=>?_⟩;have u6:=aD.new (o:=.lst []) hb;have vo:=av (H:=H5) (a:=b) (o:=.lst []);generalize upd H5 b (.lst [])=H6 at u6 vo;have ac1:c8 K H6 qf ((c.cps.map Px).map λx=>x.map V.int):=by
     rw[<- Jx];exact t8.mono λb x z=>u6.dw z
    refine⟨.list ((c.cps.map Px).map zH),.list [],⟨lf,_,rfl,bK.of (u6 _ _ uH),uD ac1⟩,⟨b,[],rfl,bK.of vo,rfl⟩,uE _,rfl,bH (bW (aJ (eU _ _) (by show PyData.depthAll _+1<=64;have:=xO (c.cps.map Px);lia)) _) u.units,_,rfl,?_⟩;rw[MT];have ZG:=s5.trans u6;cases ec:c.cps with
    |nil=>exact dQ ⟨c,F4,D1,_,_,W4.mono ZG,I.mono ∅,j4,.inr ec,RA,Nn,o4.trans (b9 ZG),rfl⟩
    |cons c0 cs0 =>
     rw[<- ec]
     have:((c.cps.map Px).map zH).isEmpty=false:=by rw[ec];rfl
     rw[this];refine fF ?_;obtain⟨C,MW,an1,af8,an2⟩:=j4.lt;have ac2:0<c.cps.length:=by rw[ec];exact Nat.zero_lt_succ _
     have hc0:c.cps[0]?=some c.cps[0]:=aa ac2;have hcl:c.cps[0].l=j:=j4.all _ (aK ac2);generalize c.cps[0]=cp at hc0 hcl;have hli:c.ls[cp.l]?=some C:=by rw[hcl];exact MW
     refine bZ λNx c9=>?_;refine⟨_,rfl,p,_,_,rfl,ZG _ _ bR,rfl,_,rfl,F4,p,v,ns.length,j,c,C,rfl,W4.cV.mono ZG,MW,λao qo H7 k9 acZ hao sD=>?_⟩;have eqo:qo.length=C.aE.length:=by rw[sD.len,ah]
     refine⟨ao,_,rfl,.inl (bK.of hao),?_⟩
     try dsimp only
     rw[ah,eqo];refine c9 _ _ ?_;have s47:=ZG.trans k9;refine⟨_,rfl,p,_,_,rfl,s47 _ _ bR,rfl,F4,p,v,ln,lr,ns,rs,c,tok,0,2900*j+100+100*i,cp,C,rfl,W4.mono s47,I.ok,I.bd,∅,hc0,hli,λD ts F8 H8 hO' ajx pts oe W8 Q3=>?_⟩;rw[af8] at hO';have eo:D=os:=hO'.uniq RA;subst eo;obtain⟨ef,e,l8,new,j8,Pu,ed8,Xg,ll8⟩:=J5.pass (ts:=ts) F0 j4 hc0 hli;have Xq:=I.pass tok hli ac2 (by rw[af8];exact hO') ajx pts oe;rw[ef];refine⟨rfl,_,rfl,?_⟩;rw[eH rfl];refine dQ ?_;obtain⟨eW8,eR8⟩:=Zw (rs:=rs) (os:=D) (a:=0) (ts:=ts) hli;have hO8:d9 (mh ns rs tok (kI rs c 0 cp C D ts).ws gg) ((kI rs c 0 cp C D ts).R gg) D:=by rw[eW8,eR8];exact RA
     have Xg:Wd D (kI rs c 0 cp C D ts).ws num new:=by rw[eW8];exact Xg
     have o8:=o4.trans (sX ((Step.refl' s47).trans Q3));have MY:=XG.mono o8;have wB8:=wdB _ G new (Xq.mono ∅) hO8 Xg;have lc8:=j8.len F0;have lc4:=j4.len F0;rw[Nn] at ll8;generalize kI rs c 0 cp C D ts=X at *;obtain⟨aiO,an7,q8,Y3,O8,hF8,hT8⟩:=id W8.cV;have OQ:=O8.get .cV _ rfl;rw[Y3] at OQ;refine⟨_,rfl,_,rfl,_,rfl,p,_,_,rfl,OQ,rfl,_,rfl,F8,p,v,ns.length,j,X,l8,rfl,W8.cV,Pu,λa2 q2 Po C8 an8 ha2 hq2=>?_⟩;refine⟨_,rfl,_,rfl,a2,_,rfl,bK.of ha2,λa3 ha3=>?_⟩;rw[Nm,<- List.map_drop];have X7:=aD.new (o:=.lst ((q2.drop C.aE.length).map V.ref)) ha3;have af9:=av (H:=Po) (a:=a3) (o:=.lst ((q2.drop C.aE.length).map V.ref));generalize upd Po a3 (.lst ((q2.drop C.aE.length).map V.ref))=n7 at X7 af9;have UJ:c8 K n7 (q2.drop C.aE.length) (new.map iW.vs):=by
      have:=(hq2.drop C.aE.length).mono λb x=>X7.dw (a:=b) (xs:=x)
      rw[ed8,aO,List.drop_left' (ah _)] at this;exact this
     have Xp:=C8.trans X7;refine⟨ls,a3,J,q2.drop C.aE.length,G,new,num,rfl,MY.sts.mono (cy.trans Xp),bK.of af9,UJ,wB8,λY5 s12=>⟨_,rfl,dQ ?_⟩⟩;have aga:=Xp.trans s12;refine⟨X,F8,D1++[e],_,_,W8.mono aga,Xq,j8,.inl ?_,hO8,ll8,o8.trans (b9 aga),rfl⟩;rcases hd4 with z|z
     ·rw[az]
      show i+1+1<=D1.length+1;lia
     ·rw[ec] at z
      cases z
   rintro U H4 ⟨c,F4,D1,aoa,aob,W4,I,j4,hd4,RA,Nn,o4,rfl⟩;refine c9 _ _ ?_;have XE:=XG.mono o4;have UL:=o4 _ _ UR;have I:SD ns rs G cl (2900*(j+1)) c:=I.mono ∅;have cp4:c.cps=[]:=by
    rcases hd4 with z|z
    ·have:=j4.len F0
     exact sJ.mp ∅
    ·exact z
   obtain⟨C,MW,_⟩:=j4.lt;obtain⟨loc,za,q,hp,O,hF,hT⟩:=id W4.cV;have bR:=O.get .cV _ rfl;rw[hp] at bR;refine⟨_,rfl,p,_,_,rfl,bR,rfl,F4,p,v,ns.length,c,rfl,W4.cV,λlf qf H5 s5 ZC uH t8=>?_⟩;refine⟨bE _,λb hb=>?_⟩;have u6:=aD.new (o:=.lst []) hb;have vo:=av (H:=H5) (a:=b) (o:=.lst []);generalize upd H5 b (.lst [])=H6 at u6 vo;have ac1:c8 K H6 qf ((c.cps.map Px).map λx=>x.map V.int):=by
    rw[<- Jx];exact t8.mono λb x z=>u6.dw z
   refine⟨.list ((c.cps.map Px).map zH),.list [],⟨lf,_,rfl,bK.of (u6 _ _ uH),uD ac1⟩,⟨b,[],rfl,bK.of vo,rfl⟩,uE _,rfl,bH (bW (aJ (eU _ _) (by show PyData.depthAll _+1<=64;have:=xO (c.cps.map Px);lia)) _) u.units,_,rfl,?_⟩;have en:((c.cps.map Px).map zH).isEmpty=true:=by rw[cp4];rfl
   rw[MT,en];have ZG:=s5.trans u6;refine dQ ⟨_,rfl,p,_,_,rfl,ZG _ _ bR,rfl,_,rfl,F4,p,v,ns.length,j,c,C,rfl,W4.cV.mono ZG,MW,λao qo H7 k9 acZ hao sD=>?_⟩;refine⟨ao,qo,C.aE,rfl,bK.of hao,sD,λH8 X=>⟨_,rfl,dQ (Gk _ _ ?_)⟩⟩;have s48:=(ZG.trans k9).trans X;exact⟨c,F4,G,_,_,_,_,_,_,_,W4.cV.mono s48,XE.mono (b9 s48),I,cp4,Nn,b9 s48 _ _ UL,rfl⟩
  ·rintro U H2 ⟨f,W,XH,v7,v8,v9,v10,v11,Pw,ZF,_,_,_,_,_,_,rfl⟩
   exact k _
end
theorem walk{l:PySem.W.OpenLaw}{q:Program}{b:List Str}{XP:(Str->Option Value)->Heap->Prop}{o:World->Heap->Prop}{d:DefRec}{K:Params->af}(y:l.most=some 63)(j:d.params.defaults=[])(m:d.name = "law")
 (B:∀(w:World) (h:Heap),o w h->(K w.params).In h)
 (F:∀(w:World) (i:Str->Option Value) (h:Heap),(K w.params).In h->h.Ns mainGlobals i->∃t,Txt (K w.params) i t) :
 PySem.W.WalkO q b XP o l.row.toRowW d [] (λf vs=>PySem.call f vs) :=
 L2.Yb (n:=63) (k:=9) (x:="_law_script") (CX:=λ_=>iH) (sp:=λw=>Xu (K w.params)) y (!_) j ⟨rfl,!_,!_⟩ B
  (λw i D h u G c=>by
   obtain⟨t,T⟩:=F w i h u G;rw[m] at c;have e:=c.symm.trans T.Wu.g;cases e;refine⟨t.NV,λs v=>?_,λp _ _=>acR T⟩;obtain⟨_,_,_,_,_,_,_,_,_,e,_⟩:=T.Wu.F.ex;rw[e];exact .of_eq rfl)
  (λ_ _ a C A _ r=>⟨a,C,rfl,r,A,λ_=>rfl⟩) λ_ _ _ _ _ z=>z
end fQ
end
structure PySem.W.Fast:Prop where(tw10308353256671751381 tw10841506299067318910 tw12906924432399596191 tw9554973389384847123 tw12505096256388879041 tw2025004135877685807 tw4492416716560641300 tw7695794123425402210 tw14567390487205293754 tw13416733995047618436 tw4686845313682707723 tw3832550250399548553 tw1533365290713197950 tw6910379896872809034 tw8705471632828509915 tw6756543976717982285 tw6498607230285372710 tw6051051487187215491 tw1950296637608955002 tw9099992235007170302 tw1303872125316451133 tw12770795994720282082 tw11626825927204196828 tw962158823702706585 tw12720622164573486663 tw11588977144866448853 tw13219507733642499629 tw9655023416522184780 tw4984549912625296691 tw13806678070360926548 tw8366956899490893684 tw11267569502091014494 tw8258284934730071503 tw9380129390697107007 tw6207817732572233587 tw2280117095819321178 tw3347772979156730476 tw4934675754377855418 tw5330057432188143604 tw12667442256989621532 tw15062897178149653939 tw9179955399627851819 tw10223107187287752503 tw13719149968143563629 tw7257029374157102697 tw16260212667445606104 tw15547182034638148042 tw17764360378620125145 tw15948368373866443597 tw3500836904782380366 tw4662568886636329895 tw1041489204333908646 tw9819423575017246646 tw15165232945829689818 tw14491216776042680414 tw12641494273492276517 tw145715115497493253 tw8924625110361170485 tw6705969171326614994 tw13298518772253233431 tw2313893678664051983 tw2550093908387742281 tw11119727915153071481 tw16408619652490293667 tw3823639294896713843 tw1356883891593777962 tw12083141093654711740 tw2471388310237184505 tw5421629362233622665 tw14168081808388848954 tw16386031136946392609 tw6564623572251214761 tw1508125345762464976 tw9988358301784527242 tw14617959007245191002 tw617533954873851800 tw9185162532499545935 tw3595858470693332037 tw22498370064653016 tw7465973362930261554 tw9788691853406233976 tw10179174353397071081 tw8610437845706646460 tw5299091072378411486 tw14651993916935373276 tw13031166263233964435 tw11467758352396784491 tw8618541078318976768 tw6106191141827441555 tw4626226905657312736 tw11756577685259289642 tw981571930621035547 tw3155692520437229285 tw9176362887184993716 tw5792222817482511224 tw13862256344468737993 tw5959002150861629357 tw9053815681292649256 tw17941309615031079716 tw15679022959794114041 tw13811452256323854983 tw398364678836894754 tw16089349088823921362 tw2680831980236072248 tw17306083123163689346 tw4767816626654114087 tw6867519278696184511 tw13009217446420497263 tw1064546190484460079 tw2072499075056806412 tw10699057955046655951 tw7054431689710655164 tw12787521810155641573 tw12482477963589762747 tw4497247405755097911 tw806754433181678721 tw1936503130931663763 tw2751423228385567552 tw5239816875484830952 tw16540687883037157290 tw2536910112667430979 tw1826175666272320695 tw9401176581861431008 tw2596862550520708365 tw16457114473427493770 tw12532390145480632010 tw12059149188710407221 tw5918051868090903659 tw3680811723049780996 tw6669790223277691116 tw632920904831785499 tw1859916307008947575 tw4725887742039745223 tw2647383829943669178 tw3128256153640232555 tw13417818218679034029 tw9750352454429548718 tw1491380950936785225 tw12071409070115665553 tw2929114277805216985 tw5814787057155674492 tw9619303959609500983 tw16728680964368918499 tw6653233575399189455 tw6600998209397551461 tw5217087440849409209 tw14104751781795501473 tw15042429386640934019 tw1883068215522618632 tw1800994814776923587 tw12527192437533199196 tw2731018100240524480 tw15379171883997550516 tw5897974876709318410 tw1277441865657261865 tw1882892963024464671 tw14270087183089419032 tw13653103657069829363 tw13313012681367794553 tw18422666814296656943 tw16658131344847869605 tw307716933673917899 tw12123699892559673118 tw13025769956358548231 tw17654524395294337652 tw3597666143326469787 tw11677187975574970764 tw5848808523208862382 tw17126465957403613 tw9213137109048878922 tw3158474194938340685 tw16829816434918263402 tw12163624178735733729 tw13580075427366473228 tw3797975302285183247 tw16729969707972944635 tw14184206054617612746 tw10816907816765560308 tw6876124677427474493 tw9048447711712181608 tw7989626419941403509 tw17895534500723414958 tw2541110617264229917 tw10152986146106270435 tw9657038475853018731 tw9923269301944140462 tw14945145003051354890 tw3917429435298757793 tw6903569267677834620 tw14858740750059350641 tw15838624715621961256 tw15140643279606684308 tw12946992242396798805 tw7256455545922949802 tw16833012097953766055 tw479337232389041010 tw1417532026796856077 tw12892540189655173155 tw15106990082201944385 tw4469548887459062666 tw7785972692968335312 tw15080683887330781843 tw8158940831475734433 tw10138394841390594334 tw6428933992222205822 tw18294560933791206820 tw17527729639116562399 tw9440871251771139856 tw7635717664372393181 tw6645654646408870730 tw16741452070797149045 tw17294622034488696629 tw6488845148396678699 tw7540870384127182917 tw17137906799762242913 tw8432358033497883289 tw9500841096172352956 tw6032110483967233238 tw5532278215713646771 tw4086577004358730070 tw13273952794021461470 tw754932429762668263 tw12841861728586159390 tw14109703211168023063 tw13844080089510890429 tw15901618525851665604 tw5014592856431397697 tw12021648481910969216 tw2873056199194421333 tw17164445757125852749 tw16818371628209733168 tw17779684047856663763 tw10125722815729854611 tw2748432757556300404 tw18300607564404484109 tw14631436528147520510 tw553660351314685033 tw2813645695533199429 tw356893984577983685 tw16177088191303604088 tw6312394788476655554 tw1134161159324499460 tw10208541737373700618 tw3382855610180637576 tw6144321191631041095 tw47228211121350595 tw3036672470069989084 tw12721820268650299654 tw10770124182594917233 tw3707588985544289365 tw2277319940367854258 tw3931553187230886413 tw9731922279878457826 tw15879446752386172426 tw6337888153728558096 tw8721424384374467370 tw5931505997605430863 tw17484835323103134549 tw15143354712165748087 tw10389348597641625566 tw5118256781853551071 tw4673351398123052333 tw303007625558039267 tw8205705565872723917 tw4891554190444236381 tw13667148209321322962 tw12364295130103674917 tw16265569272169233923 tw5347770107787830290 tw9829273653481966980 tw3997339692030131858 tw7833163934647811969 tw13343023267213757727 tw5264051703809219257 tw3888027740282424458 tw10907641556484339268 tw2419447901751943530 tw645837092691057929 tw13779822675887300756 tw11493684911703262931 tw304206105397439556 tw18208855271054807294 tw8501772921028583440 tw10373733142399067829 tw16402835933934946419 tw8168930000101266596 tw2112680782607853295 tw10055741126177837726 tw6540007778480782162 tw4391426126464777847 tw3172818652142090921 tw10540890923019852239 tw4079226351680670466 tw18035609062776072937 tw16041232997491524021 tw13953791836063920820 tw12915727004602072162 tw12564200480062212411 tw8411443451028628611 tw17686604065613214622 tw15763052879108592981 tw1709955062869189556 tw8531890680295888652 tw1025502618200253359 tw12971165257247240506 tw6703275480818936866 tw444918924691490411 tw4131693480836723290 tw15371712036118927080 tw18001181191137442472 tw15255203540709965532 tw17937299191949923839 tw13844561141823147369 tw7909865835833368762 tw746061423014394104 tw13491153162850937971 tw12192852198437078082 tw5817773598106487980 tw4520091515410748759 tw1590744220751309189 tw13263735782943919062 tw10767737415832506454 tw1076435236725531711 tw1971557193704749753 tw9952429806239864296 tw13625427609701652603 tw12556810828362502486 tw1625633570725191577 tw11327120048286401059 tw7164315479346886278 tw498868587748715388 tw3762077259229641856 tw8454461518250627956 tw5484215638129490377 tw10087426570850391603 tw9081495058884806794 tw6170153882088978383 tw6019810174790385593 tw4775159502865713522 tw2104722875100291037 tw2075856288362823035 tw17452545105979017855 tw16494464843163763100 tw13252180494260774763 tw12779717232342598225 tw62880500808861560 tw3233562166363082275 tw15504248231416394563 tw9428911163063980540 tw9030361576946526819 tw8868628776107019471 tw8202164377970782854 tw650105758241118976 tw6421454498475015557 tw5198467598212696996 tw4316639447579343410 tw2720588216244225028 tw2278916438218588671 tw1823075197356067879 tw18159305873570199943 tw17907483180866373817 tw17013771338194155255 tw16399629572714522634 tw16389953156018078669 tw16092706407599127050 tw15749280725994410211 tw15735798674559423511 tw15200944056675502534 tw13955761126030518624 tw13534564754762659507 tw13274942054605048359 tw12745558092808115712 tw12656837424428500556 tw12258154195818004925 tw11931926346577721383 tw10736541296488305761 tw12101446267491418040 tw11724037265113035352 tw3921766159100960702 tw9868923611252906061 tw9907508866641163223 tw7229916557038390127 tw2427343136263559773 tw1047381794617060527 tw288334410252610263 tw16861483484581597075 tw18009629626891566858 tw17895317939332931909 tw12079133399576463906 tw17591354023259251980 tw1626409867133066217 tw5104501606722458798 tw5604922365221859012 tw9307913003688677812 tw13075830541197012947 tw10131294438164774013 tw1102615258772156627 tw4752262677839552798 tw2847701133142907325 tw9379467190289720772 tw2600218888544169985 tw10463755896774887944 tw5377172071629363673 tw10254837180835532349 tw17071425102882317209 tw7391805861827835039 tw4943876568978807458 tw1139731326734978862 tw11278996930963393438 tw951092845967584863 tw13272672663447352249 tw15214402691822914388 tw9044276809934399663 tw5253218827926734329 tw18172511319709304187 tw10048396044397347718 tw823686470788785787 tw6527876412038901656 tw6804090008564002765 tw5794897507848172194 tw6227117098941882600 tw7692120257421432285 tw8371176676027479934 tw15032003779315478578 tw17510957297429792654 tw8246631953034592043 tw6667305280485388830 tw3307911218652807712 tw17768023261886320948 tw14941970595111588373 tw15470457346499141574 tw1161852450374482872 tw11469913914448290476 tw12630919297627924896 tw9588405599453900424 tw10561680598230977626 tw15259075118367453298 tw4320992079607787321 tw3344749098629377163 tw17801714446621181463 tw485241751853031124 tw742117971954642902 tw2235995591179450248 tw10977424384678207060 tw7553320479412024322 tw11451436401909111455 tw587255118318526166 tw17442139661450868853 tw17542738057840262435 tw1564089557060632108 tw5616236871264054469 tw8751763361198375231 tw9592619266056087723 tw5414127272577659941 tw16213040114854216909 tw946430279949590559 tw11757185814269485290 tw14144090728699906541 tw11985871701756365246 tw997097827518139510 tw4684052053047818395 tw3849766576072984319 tw3601025300946849936 tw12012761378349694389 tw2824992118051952654 tw10736603213935328160 tw12150976422891688851 tw5849353789332380490 tw12130258830858382653 tw2659808757528867103 tw824399299763194838 tw6463757076364381096 tw1578501678165705360 tw1070064056856103453 tw7534948205804486418 tw8754007607682072214 tw14872709983711079636 tw7743040146234621144 tw4324025516684925022 tw11745764040280365302 tw844186015870448799 tw5823251125898210849 tw8508473305451829328 tw2597887740144465068 tw4487867887836838527 tw17896787574785127987 tw16231871900193646467 tw6153108938477181075 tw14526828490255176494 tw7258496612127979525 tw9936581998918244983 tw531552838976155085 tw16436711091985539862 tw9508409521872614780 tw14559572446774887319 tw461010112291007274 tw426053781293101049 tw11363057765038365357 tw5138201125621856109 tw16632903629965766495 tw18082921888596189433 tw9059174676551549426 tw10690688355323386673 tw2276608258931438885 tw758671939777305904 tw17689011593792553942 tw5299148711713033090 tw16719132977056196224 tw13781688747142081014 tw6999275745695471597 tw8413376590881422890 tw3383445990956780421 tw17897219319497862068 tw797938508390583687 tw9320512811865042553 tw9260333678418391393 tw2869823242673295718 tw8063691025226410208 tw14263450009564827129 tw18014736482259343247 tw11030076140333091902 tw14165156424481438874 tw11859007457896979223 tw9881641345979984728 tw16657062539824122204 tw12821425462423611390 tw6495072583567727660 tw6708985034209100146 tw18243521633533044019 tw10809226604464654431 tw9217063615204407773 tw14311557651302723898 tw2439533529728986947 tw2614390371925896242 tw12093266588474663328 tw3900118513000343237 tw18351026279247681501 tw10556171631891099360 tw7609252876985446419 tw10001570261607899979 tw17512196607688146429 tw10836480348924098069 tw18154761534104771587 tw4606796960148627187 tw14584119683617453843 tw1172546432255729573 tw6416549205285353332 tw1987409724450631763 tw11705630289691961983 tw7770399497675780743 tw9404402025006726386 tw17757864552271152429 tw913079061904456209 tw6711504390442097370 tw4553490388637675271 tw10606042630254938014 tw13094405441437193346 tw3315070696360517629 tw6103229134607171434 tw9701208265835776741 tw11078947482557130245 tw4548760617442756735 tw11597697027808606731 tw16791256144062479701 tw5887141839810092380 tw563340265833577166 tw9319285970774484619 tw14539869672830754756 tw16806956806916266753 tw14442237236850170468 tw63363487969685463 tw3609974315461757678 tw11409845644398725732 tw12111465707054193999 tw17123904791221226006 tw9689815018450446012 tw6919369258557540979 tw14125633041548214560 tw17409132237522762522 tw16484361178630279335:True)
open PySem PySem.W PyProof.Rows
set_option maxRecDepth 100000 in
set_option maxHeartbeats 0 in
theorem PySem.Challenge.cw_knotless_k35_wires_of_a_rope_holds : PySem.Challenge.rw_knotless_k35_wires_of_a_rope.Holds := by
 w_on;o_law;k_head;(case hw=>w_witness2)
 k_fill
 refine fQ.walk (l:=PySem.Challenge.rw_knotless_k35_wires_of_a_rope) rfl rfl rfl (fun w h Y=>PySem.W.kIn_of Y) ?F
 case F =>
  intro w mg h KX G
  refine' fQ.abU KX G ?E4 ?IC ?ID ?E5 ?Mw ?CJ ?Mx ?QD ?vW ?yC ?yD ?yE ?vX ?E6 ?CK ?qX ?t9 ?ua ?qY ?uc ?vY ?vZ ?ud ?wc ?E7 ?My ?Wy ?Wz ?Mz ?E8 ?MA ?we ?AH ?AI ?qZ ?ue ?AJ ?wg ?wk ?yF ?AK ?oZ ?uf ?wm ?mH ?mJ ?ug ?CL ?wo ?rm ?yG ?CM ?CN ?AL ?AM ?yH ?CO ?CP ?E9 ?CQ ?CS ?CU ?CV ?yI ?AN ?yJ ?wu ?wz ?wA ?wB ?pY ?uh ?AO ?wC ?rz ?o6 ?CY ?oq ?rA ?iU ?ou ?mK ?pq ?yK ?rB ?AQ ?Fb ?Fc ?Fd ?AR ?CZ ?um ?QE ?Fe ?IE ?WA ?AS ?pC ?yM ?DP ?rC ?AU ?DQ ?rD ?AV ?AW ?pD ?rE ?wD ?ow ?rF ?IF ?kM ?kN ?yN ?yO ?xB ?rG ?mL ?IG ?yP ?Oc ?AX ?uo ?ki ?yQ ?yR ?wF ?wG ?uq ?wH ?ur ?uu ?rH ?II ?pF ?pG ?pH ?Ff ?Fg ?C0 ?C1 ?wI ?yS ?yU ?yV ?uv ?yW ?yX ?WB ?yY ?WC ?QF ?QG ?MB ?MC ?AY ?WD ?WE ?WG ?WH ?IJ
  case E4|IC|ID|E5|Mw|CJ|Mx|QD | CQ|CS|CU|CV|yI|AN | wu|wz|wA|wB|pY|uh | pC|yM | rC|AU | rD|AV | pD|rE|wD|ow|rF | kM|kN|yN|yO | rG|mL | yP | AX|uo|ki|yQ|yR|wF|wG|uq|wH|ur|uu|rH|II|pF|pG|pH|Ff | C0 | wI|yS|yU|yV|uv|yW|yX|WB|yY|WC|QF|QG|MB|MC|AY|WD|WE|WG|WH|IJ=>k_is
  case vW|yC|yD|yE|vX | qX|t9|ua|qY|uc|vY|vZ|ud|wc | we|AH|AI|qZ|ue|AJ | oZ|uf|wm|mH|mJ|ug | rm|yG|CM|CN|AL|AM|yH|CO|CP|E9 | yJ | AO|wC|rz|o6|CY|oq|rA|iU|ou|mK|pq=>exact L2.g8 (by k_is) (by k_is) (by k_is) (by k_is) (by k_is)
  case E6|CK | E7|My|Wy|Wz|Mz|E8|MA | wg|wk|yF|AK | CL|wo | yK|rB|AQ|Fb|Fc|Fd|AR|CZ|um|QE|Fe|IE|WA=>exact L2.wh KX G (by k_is) (by k_is) (by k_is) (by k_is)
  case AS | DP | DQ | AW | IF | xB | IG | Oc=>exact L2.Z5 (by k_is) (by k_is) (by k_is) (by k_is) (by k_is) (by k_is)
  case Fg | C1=>exact⟨by k_exc,by k_is,by k_is,by k_is,by k_is,by k_is,by k_is,by k_is,by k_is⟩
#print axioms PySem.Challenge.cw_knotless_k35_wires_of_a_rope_holds
