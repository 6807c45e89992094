import PyProof.Rows.All
import Wide.All
import OpenK.AllK
import Wide.FinOn
import Lean
import PyProof.EqAt
import PyProof.EqKinds
import PyProof.TupleCall
import PySem.Challenge.RW_knotless_k33_lost_and_twice
set_option Elab.async false
noncomputable section
universe u v
section
local macro_rules|`(∅)=>`(by lia)
local macro_rules|`(!_)=>`(by decide)
local macro_rules|`(-_)=>`(by simp)
local macro_rules|`(⟨$x,*⟩)=>do
 let qa<-`(_);let qb<-`(rfl);let qc<-`(?_);let qd<-`(∅);let qf<-`(⟨!_,!_⟩)
 let mut a:=#[];let mut b:=false
 for e in x.getElems do
  if let some n:=e.raw.isNatLit? then
   b:=true
   for c in n.repr.toList do a:=a++match c with |'0'=>#[qb,qa,qb]|'1'=>#[qa,qb]|'2'=>#[qb]|'3'=>#[qa]|'4'=>#[qc]|'5'=>#[qa,qb,qa,qa,qb,qb,qf]|'6'=>#[qd]|'7'=>#[qa,qa,qa,qa,qb]|'8'=>#[qa,qb,qa,qb]|_=>#[qa,qa,qb,qb]
  else a:=a.push e
 if b then `(⟨$a,*⟩) else Lean.Macro.throwUnsupported
local macro_rules|`(tactic|exists $x,*)=>`(tactic|refine⟨$x,*⟩)
theorem Xe:1<=PySem.sizeLine:=!_
theorem jD:2<=PySem.sizeLine:=!_
theorem k9:3<=PySem.sizeLine:=!_
theorem aaT:4<=PySem.sizeLine:=!_
theorem aaV:5<=PySem.sizeLine:=!_
theorem aaY:6<=PySem.sizeLine:=!_
def eL:=@if_pos.{u}
def e8:=@if_neg.{u}
def fy:=@decide_eq_true
def gn:=@decide_eq_false
def j9:=@of_decide_eq_true
def ff:=@absurd.{v}
def gw:=@congrArg.{u,v}
def kF:=@decide_eq_true_iff
open List renaming getElem?_eq_getElem -> aa, length_map -> af, getElem?_eq_some_iff -> aj, getElem?_map -> ak, getD_eq_getElem?_getD -> ao, length_append -> av, mem_of_getElem? -> ay, range -> aB, map_append -> aK, getElem_mem -> aP, length_set -> aQ, length_filter_le -> aR, size_toArray -> aU, getElem?_append_left -> bu, length_cons -> bC, mem_filter -> bD, getElem?_set -> bE, mem_map -> bH, length_range -> bJ, map_cons -> bK, replicate -> bL, getElem?_of_mem -> bM, mem_cons -> bR, mem_cons_of_mem -> bS, mem_append -> bU, mem_singleton -> bV, getElem?_append_right -> bZ, append_nil -> b5, length_take -> b6, mem_cons_self -> cK, take_length -> cQ, mem_range -> cS, map_congr_left -> cT, map_map -> cU, mem_or_eq_of_mem_set -> dm, filter_cons -> dM, filter_cons_of_pos -> dU, filter_cons_of_neg -> dX, filter_append -> eO, mem_append_right -> fq, filterMap_cons -> fz, lookup_cons -> gi, take_add_one -> gv, nodup_cons -> gG, foldl_cons -> gH, map_set -> gQ, range_succ -> iH, nodup_nil -> jh, append_assoc -> jj, replicate_succ -> jm, getElem?_range -> jn, getElem?_eq_none -> jY, take_succ_eq_append_getElem -> kE, length_eq_zero_iff -> mG, set_append_right -> oJ, getElem?_concat_length -> oK, getElem?_inj -> p8, lookup -> r9, flatMap_append -> se, map_nil -> tH, find?_cons -> uo, nodup_append -> wK, length -> wL, foldl_append -> wM, flatten_cons -> wN, flatMap_cons -> wO, set_set -> yc, not_mem_nil -> yY, ext_getElem -> yZ, any_eq_true -> y9
open PySem.W renaming Frag -> ai, findIn -> aN, nsIn -> bX, mg_none_of -> cX, mg_of -> dJ, kia_one -> fk, keepIn -> fD, fnOf -> fU, emptyDict -> iu, codeIn -> kq, instObj -> kQ, hasDictIn -> wI, plainGet -> yX
open Nat renaming le_refl -> az, le_trans -> aJ, zero_le -> aS, ne_of_lt -> bY, lt_of_lt_of_le -> cj, lt_of_le_of_lt -> dh, le_succ -> eB, add_le_add_left -> fm, sub_self -> gq, le_succ_of_le -> gu, le_of_lt -> iG, lt_irrefl -> jf, add_le_add_right -> kM, le_add_right -> mP, min_le_left -> oH, not_lt_zero -> um
open Bool renaming false_ne_true -> aH, and_eq_true -> dg, eq_false_iff -> iw, eq_iff_iff -> jo, true_and -> uq, or_eq_true -> ur
open Option.some renaming inj -> aO
open PySem.F renaming plainAttrs_list -> aV, type_list_append -> bh, slot_list_append -> bq, plainAttrs_dict -> uh
open Option renaming some_ne_none -> aW
open Ne renaming symm -> bT
open Int renaming emod_nonneg -> cu, emod_lt_of_pos -> cz, toNat_natCast -> cN, zero_add -> dQ, toNat_of_nonneg -> sf
open Array renaming length_toList -> iy, getElem?_eq_some_iff -> jL, getD_eq_getD_getElem? -> oM, getElem?_toList -> yd
open Sum renaming inl -> iF
open True renaming intro -> kP
open ForInStep renaming yield -> kR
open False renaming elim -> kT
open PySem renaming mem_of_lookup -> r8
open PyProof.Rows renaming slot_tuple_getitem -> wJ
open Option renaming some -> ac, none -> ae
open Bool renaming true -> ag, false -> al
open PySem renaming Addr -> am, Value -> ar, Shared -> aw, wpAny_bind -> ax, wpAny_pure -> a6, sizeLine -> bc, mainGlobals -> bi, starEach -> bn, compareOp -> bv, wpAny -> cf, Program -> ci, Around -> cm
open PySem.Heap renaming get?_push_of_some -> a7, get?_push_size -> a8, lt_size -> a9, get?_update_other -> ce
open PySem.Str renaming ofString -> ba
open PySem.PyData renaming depthAll -> bj, canLayAll0 -> bo
open PySem.NameKind renaming free -> bt
set_option linter.all false
set_option maxRecDepth 100000
namespace L2
open PySem PySem.Spec PyProof.Rows
abbrev Key:=Sum Int Str
noncomputable def MV:Key->ar->Bool
 |.inl k,v=>Value.isInt k v
 |.inr x,v=>Value.isStrOf x v
noncomputable def amA(w:World):Key->Int
 |.inl k=>hashInt k
 |.inr x=>hashStr w x
theorem i0:∀{k:Key}{v:ar},MV k v=ag->(∃i t,k=iF i/\v=Value.int i t)∨(∃x t,k=Sum.inr x/\v=Value.str x t)
 |.inl i,v,h=>by
  obtain⟨t,e⟩:=Value.isInt_shape (k:=i) (v:=v) h;exact .inl ⟨i,t,2,e⟩
 |.inr x,v,h=>by
  obtain⟨t,e⟩:=Value.isStrOf_shape (x:=x) (v:=v) h;exact .inr ⟨x,t,2,e⟩
theorem WM(i:Int)(t:Tok):MV (.inl i) (.int i t)=ag:=by simp[MV,Value.isInt]
theorem WN(x:Str)(t:Tok):MV (.inr x) (.str x t)=ag:=by simp[MV,Value.isStrOf]
theorem afu(a b:Int):decide ((iF a:Key)=iF b)=(a==b):=by by_cases e:a=b;subst e;simp;have h:¬(iF a:Key)=iF b:=λq=>e (Sum.inl.inj q);rw[gn h];exact (beq_eq_false_iff_ne.mpr e).symm
theorem afv(a b:Str):decide ((Sum.inr a:Key)=Sum.inr b)=decide (a=b):=by by_cases e:a=b;subst e;simp;have h:¬(Sum.inr a:Key)=Sum.inr b:=λq=>e (Sum.inr.inj q);rw[gn h,gn e]
theorem afw(a:Int)(b:Str):decide ((iF a:Key)=Sum.inr b)=al:=gn (λq=>nomatch q)
theorem afx(a:Str)(b:Int):decide ((Sum.inr a:Key)=iF b)=al:=gn (λq=>nomatch q)
noncomputable def i6(prog:ci)(w:World):PySem.KeyKind prog w Key where
 is:=MV
 hash:=amA w
 inj:=λv a b ha hb=>by
  rcases i0 ha with ⟨i,t,rfl,rfl⟩|⟨x,t,rfl,rfl⟩
  ·rcases i0 hb with ⟨j,u,rfl,e⟩|⟨y,u,rfl,e⟩
   ·injection e with e1 _;rw[e1]
   ·exact nomatch e
  ·rcases i0 hb with ⟨j,u,rfl,e⟩|⟨y,u,rfl,e⟩
   ·exact nomatch e
   ·injection e with e1 _;rw[e1]
 byValue:=λk v h=>by
  rcases i0 h with ⟨i,t,rfl,rfl⟩|⟨x,t,rfl,rfl⟩ <;> rfl
 pyHash:=λhv h=>by
  rcases i0 hv with ⟨i,t,rfl,rfl⟩|⟨x,t,rfl,rfl⟩
  ·exact wpAny_pyHash_int h
  ·exact wpAny_pyHash_str h
 eqBool:=λhu hv h=>by
  rcases i0 hu with ⟨i,t,rfl,rfl⟩|⟨x,t,rfl,rfl⟩
  ·rcases i0 hv with ⟨j,u,rfl,rfl⟩|⟨y,u,rfl,rfl⟩
   ·rw[afu] at h;exact wpAny_eqBool_int h
   ·rw[afw] at h;exact SeqAt.EqAt.int_str i t y u _ _ _ _ h
  ·rcases i0 hv with ⟨j,u,rfl,rfl⟩|⟨y,u,rfl,rfl⟩
   ·rw[afx] at h;exact SeqAt.EqAt.str_int x t j u _ _ _ _ h
   ·rw[afv] at h;exact wpAny_eqBool_str h
 «strs»:=λk x t v h=>by
  rcases i0 h with ⟨i,u,rfl,e⟩|⟨y,u,rfl,e⟩
  ·exact nomatch e
  ·injection e with e1 _
   subst e1;cases v <;> rfl
theorem QF(prog:ci)(w:World)(i:Int)(t:Tok):(i6 prog w).is (.inl i) (.int i t)=ag:=WM i t
theorem QG(prog:ci)(w:World)(x:Str)(t:Tok):(i6 prog w).is (.inr x) (.str x t)=ag:=WN x t
inductive V where
 |gk|bl (b:Bool)|int (i:Int)|str (x:Str)|Vs (b:Array UInt8)|flt (b:UInt64)|ref (a:am)|ty (n:String)
 deriving DecidableEq
def RelV:V->ar->Prop
 |.gk,u=>u=Value.none
 |.bl b,u=>u=Value.bool b
 |.int i,u=>∃t,u=Value.int i t
 |.str x,u=>∃t,u=Value.str x t
 |.Vs b,u=>∃t,u=Value.bytes b t
 |.flt b,u=>∃t,u=Value.float b t
 |.ref a,u=>u=Value.ref a
 |.ty n,u=>u=Value.type n
abbrev cO:List V->List ar->Prop:=Paired RelV
theorem cO.length{xs:List V}{us:List ar}(r:cO xs us):wL xs=us.length:=Paired.length r
theorem cO.get:∀{xs:List V}{us:List ar}{i:Nat}{x:V},cO xs us->xs[i]?=ac x->∃u,us[i]?=ac u/\RelV x u
 |_,_,_,_,.nil,e=>by simp at e
 |_,_,0,_,.cons r _,e=>by simp at e;subst e;exists 1,r
 |_,_,i+1,x,.cons _ t,e=>by
  obtain⟨u,b,a⟩:=cO.get (i:=i) (x:=x) t (by simpa using e);exists u,by simpa using b,a
theorem cO.set{x:V}{u:ar}(r:RelV x u):∀{xs:List V}{us:List ar}(i:Nat),cO xs us->cO (xs.set i x) (us.set i u)
 |_,_,_,.nil=>.nil
 |_,_,0,.cons _ t=>.cons r t
 |_,_,i+1,.cons q t=>.cons q (cO.set r i t)
theorem cO.append:∀{xs a:List V}{us ws:List ar},cO xs us->cO a ws->cO (xs++a) (us++ws)
 |_,_,_,_,.nil,s=>s
 |_,_,_,_,.cons r t,s=>.cons r (cO.append t s)
theorem cO.take:∀{xs:List V}{us:List ar}(n:Nat),cO xs us->cO (xs.take n) (us.take n)
 |_,_,0,_=>.nil
 |_,_,_+1,.nil=>.nil
 |_,_,n+1,.cons r t=>.cons r (cO.take n t)
theorem cO.drop:∀{xs:List V}{us:List ar}(n:Nat),cO xs us->cO (xs.drop n) (us.drop n)
 |_,_,0,r=>r
 |_,_,_+1,.nil=>.nil
 |_,_,n+1,.cons _ t=>cO.drop n t
def AM:Option V->Option ar->Prop
 |some v,ac u=>RelV v u
 |none,ae=>True
 |_,_=>False
def KV{κ:Type}:List (κ×V)->List (κ×ar)->Prop:=Paired λ(p:κ×V)(q:κ×ar)=>p.1=q.1/\RelV p.2 q.2
noncomputable def kV:Key->V
 |.inl i=>.int i
 |.inr x=>.str x
inductive HO where
 |lst (xs:List V)
 |tup (xs:List V)
 |dK (kvs:List (Key×V))|dT (kvs:List (List Key×V))
 |set (S:Int->Bool) (n:Nat)
 |ins (C dx:am) (fs:List (Str×V))
 |own (x:am)
 |xd (fs:List (Str×V))
 |met (f x:am)
 |YT (lo hi:Int)
 |AN (o:Obj) (u:HO)
 |x8 (ps:Array ar)
 |ext (φ:Heap->Prop)
abbrev Hp:=am->Option HO
noncomputable def upd(H:Hp)(a:am)(o:HO):Hp:=λb=>if b=a then ac o else H b
theorem au{H:Hp}{a:am}{o:HO}:upd H a o a=ac o:=by unfold upd;rw[eL rfl]
theorem aI{H:Hp}{a b:am}{o:HO}(h:b≠a):upd H a o b=H b:=by unfold upd;rw[e8 h]
theorem OG{H:Hp}{a:am}{o u:HO}:upd (upd H a o) a u=upd H a u:=by funext b;unfold upd;split <;> rfl
theorem oN{H:Hp}{a b:am}{o u:HO}(h:H a=ac o)(h':H b=ac u)(d:o≠u):a≠b:=by intro e;subst e;rw[h] at h';exact d (aO h')
theorem aC{H:Hp}{a b:am}{o:HO}(h:H a=ac o)(h':H b=ae):a≠b:=by intro e;subst e;rw[h] at h';cases h'
section
variable(P:ci)(w:World)
def gI(H:Hp)(h:Heap)(a:am):HO->Prop
 |.lst xs=>xs.length<=bc/\∃(its:List ar)(n:Nat),cO xs its/\h.get? a=ac {cls:=.type "list",data:=.seq its.toArray n}
 |.tup xs=>xs.length<=bc/\∃its:List ar,cO xs its/\IsTup h a its.toArray
 |.dK kvs=>kvs.length<=bc/\(a==sysModules)=al/\∃vs,KV kvs vs/\h.DictOf (i6 P w) a vs
 |.dT kvs=>kvs.length<=bc/\(a==sysModules)=al/\∃xs:List (List Key×am×ar),
  Paired (λ(p:List Key×V)(q:List Key×am×ar)=>p.1=q.1/\H q.2.1=ac (.tup (p.1.map kV))/\RelV p.2 q.2.2) kvs xs /\
  ∃o es ep,h.get? a=ac o/\o.ExactDict/\o.data=.dict es ep/\es.toList=xs.map (entryOfKey (tupleKind (i6 P w)))/\(xs.map (·.1)).Nodup
 |.set S n=>h.SetOf (intKind P w) a S n
 |.ins C dx fs=>H dx=ac (.own a)/\wL fs<=1000/\dx≠a/\h.get? a=ac (kQ C dx) /\
  ∃mA,h.Ns1 dx mA/\(∀f,AM (fs.lookup f) (mA f))/\PySem.Within mA (fs.map (·.1))
 |.own _=>∃o,h.get? a=ac o
 |.xd fs=>∃mA,h.Ns1 a mA/\∀f,AM (fs.lookup f) (mA f)
 |.YT lo hi=>∃t u v,h.get? a=ac {cls:=.type "range",data:=.fields #[.int lo t,.int hi u,.int 1 v]}
 |.AN o u=>h.get? a=ac o/\gI H h a u
 |.x8 ps=>h.get? a=ac {cls:=.none,data:=.fields ps}
 |.met f x=>h.get? a=ac (PySem.W.methodObj (.ref f) (.ref x))
 |.ext φ=>φ h/\(∃o,h.get? a=ac o)/\∀h1 h2:Heap,φ h1->(∀o,h1.get? a=ac o->h2.get? a=ac o)->φ h2
def AS(H:Hp)(h:Heap):Prop:=∀a o,H a=ac o->gI P w H h a o
end
section
variable{P:ci}{w:World}{H H':Hp}{h h':Heap}{a:am}{o:HO}
theorem gI.lt(x:gI P w H h a o):a<h.objs.size:=by cases o with|lst d=>obtain⟨_,_,_,_,e⟩:=x;exact a9 e|tup d=>obtain⟨_,_,_,p⟩:=x;exact p.lt|dK b=>obtain⟨_,_,_,_,o,_,_,e,_⟩:=x;exact a9 e|dT b=>obtain⟨_,_,_,_,o,_,_,e,_⟩:=x;exact a9 e|set S n=>obtain⟨o,_,_,_,e,_⟩:=x;exact a9 e|ins C l c=>obtain⟨_,_,_,e,_⟩:=x;exact a9 e|own y=>obtain⟨_,e⟩:=x;exact a9 e|xd c=>obtain⟨_,⟨_,_,_,e,_⟩,_⟩:=x;exact a9 e|YT lo i=>obtain⟨_,_,_,e⟩:=x;exact a9 e|AN g u=>obtain⟨e,_⟩:=x;exact a9 e|x8 k=>exact a9 (show h.get? a=ac _ from x)|met f y=>exact a9 (show h.get? a=ac _ from x)|ext j=>obtain⟨_,⟨_,e⟩,_⟩:=x;exact a9 e
theorem Paired.ab0{c d:Type}{F G:c->d->Prop}:∀{l₁:List c}{l₂:List d},Paired F l₁ l₂->(∀a b,F a b->G a b)->Paired G l₁ l₂
 |_,_,.nil,_=>.nil
 |_,_,.cons r t,f=>.cons (f _ _ r) (Paired.ab0 t f)
theorem gI.stay(x:gI P w H h a o)(k:∀b u,(b=a∨H b=ac (.own a))->h.get? b=ac u->h'.get? b=ac u)(G:∀b,H b=ac (.own a)->H' b=ac (.own a))(K:∀b xs,H b=ac (.tup xs)->H' b=ac (.tup xs)):gI P w H' h' a o:=by induction o with|lst xs=>obtain⟨z,l,n,r,e⟩:=x;exact⟨z,l,n,r,k _ _ (.inl rfl) e⟩|tup xs=>obtain⟨z,l,r,g,e,c⟩:=x;exact⟨z,l,r,g,k _ _ (.inl rfl) e,c⟩|dK m=>obtain⟨z,y,D,r,g,j,i,e,c⟩:=x;exact⟨z,y,D,r,g,j,i,k _ _ (.inl rfl) e,c⟩|dT m=>obtain⟨z,y,xs,r,g,j,i,e,c⟩:=x;exact⟨z,y,xs,Paired.ab0 r λp q z=>⟨z.1,K _ _ z.2.1,z.2.2⟩,g,j,i,k _ _ (.inl rfl) e,c⟩|set S n=>obtain⟨g,j,i,t,e,c⟩:=x;exact⟨g,j,i,t,k _ _ (.inl rfl) e,c⟩|ins C N E=>obtain⟨d,z,J,e,s,⟨A,j,i,F,c⟩,r⟩:=x;exact⟨G _ d,z,J,k _ _ (.inl rfl) e,s,⟨A,j,i,k _ _ (.inr d) F,c⟩,r⟩|own y=>obtain⟨g,e⟩:=x;exact⟨g,k _ _ (.inl rfl) e⟩|xd E=>obtain⟨s,⟨A,j,i,e,c⟩,r⟩:=x;exact⟨s,⟨A,j,i,k _ _ (.inl rfl) e,c⟩,r⟩|YT lo L=>obtain⟨t,u,v,e⟩:=x;exact⟨t,u,v,k _ _ (.inl rfl) e⟩|AN g u I=>obtain⟨e,q⟩:=x;exact⟨k _ _ (.inl rfl) e,I q⟩|x8 B=>have e:h.get? a=ac {cls:=.none,data:=.fields B}:=x;show h'.get? a=ac {cls:=.none,data:=.fields B};exact k a _ (.inl rfl) e|met f y=>have e:h.get? a=ac (PySem.W.methodObj (.ref f) (.ref y)):=x;show h'.get? a=ac (PySem.W.methodObj (.ref f) (.ref y));exact k a _ (.inl rfl) e|ext M=>obtain⟨p,⟨o,e⟩,st⟩:=x;exists st _ _ p λo q=>k _ _ (.inl rfl) q,⟨o,k _ _ (.inl rfl) e⟩,st
theorem AS.lt(x:AS P w H h)(e:H a=ac o):a<h.objs.size:=(x a o e).lt
theorem AS.fresh(x:AS P w H h)(e:h.objs.size<=a):H a=ae:=by cases q:H a with|none=>rfl|some u=>exact ff (cj (x.lt q) e) (jf _)
theorem AS.kept(x:AS P w H h)(k:∀b u,h.get? b=ac u->h'.get? b=ac u):AS P w H h':=λa o e => (x a o e).stay (λb u _ q=>k b u q) (λ_ q=>q) λ_ _ q=>q
theorem AS.laid(x:AS P w H h)(k:∀b u,h.get? b=ac u->h'.get? b=ac u)(i:h.objs.size<=a)(d:gI P w (upd H a o) h' a o):AS P w (upd H a o) h':=λb u e=>by
 have g:=x.fresh i;by_cases f:b=a
 ·subst f;rw[au] at e;cases e;exact d
 ·rw[aI f] at e
  exact (x b u e).stay (λc v _ q=>k c v q) (λc q=>by rw[aI (aC q g)];exact q) λc j q=>by rw[aI (aC q g)];exact q
end
def Rd(H:Hp)(a:am)(u:HO):Prop:=H a=ac u∨∃o,H a=ac (.AN o u)
theorem Rd.ok{P:ci}{w:World}{H:Hp}{h:Heap}{a:am}{u:HO}(r:Rd H a u)(x:AS P w H h):gI P w H h a u:=by rcases r with r|⟨o,r⟩;exact x a u r;obtain⟨_,q⟩:=x a _ r;exact q
def Mut:Option HO->Prop
 |some (.lst _)=>True
 |some (.dK _)=>True
 |some (.dT _)=>True
 |some (.set _ _)=>True
 |some (.ins _ _ _)=>True
 |some (.ext _)=>True
 |_=>False
section
variable{P:ci}{w:World}{H:Hp}{h h':Heap}{x e:am}{o':HO}
theorem AS.write(ok:AS P w H h)(i:Mut (H x))(n:e=x∨H e=ac (.own x))(k:∀b u,b≠e->h.get? b=ac u->h'.get? b=ac u)(j:∃u,h'.get? e=ac u)
 (l:gI P w (upd H x o') h' x o'):AS P w (upd H x o') h':=λb u q=>by
 have d:∀c y,H c=ac (.own y)->c≠x:=λc y r z=>by subst z;rw[r] at i;exact i
 have m:∀c f,H c=ac (.tup f)->c≠x:=λc f r z=>by subst z;rw[r] at i;exact i
 by_cases g:b=x
 ·subst g;rw[au] at q;cases q;exact l
 ·rw[aI g] at q
  by_cases a:b=e
  ·have o:H b=ac (.own x):=by
    rcases n with z|z
    ·exact ff (a.trans z) g
    ·rw[a];exact z
   rw[q] at o;cases o;obtain⟨v,p⟩:=j;exists v,by rw[a];exact p
  ·refine (ok b u q).stay (λc v hc r=>k c v ?_ r) (λc r=>by rw[aI (d c b r)];exact r) λc f r=>by rw[aI (m c f r)];exact r
   rcases hc with rfl|hc
   ·exact a
   ·rintro rfl
    rcases n with z|z
    ·exact d c b hc z
    ·rw[hc] at z;cases z;exact g rfl
end
structure Un(fs ex:List am)(H H':Hp)(h h':Heap):Prop where
 keep:∀b o,h.get? b=ac o->H b=ae->b∉fs->b∉ex->h'.get? b=ac o
 slot:∀b o,h.get? b=ac o->H b=ae->b∈fs->b∉ex->∃sl,h'.get? b=ac {o with slots:=sl}
 free:∀b o,h.get? b=ac o->H b=ae->b∉ex->H' b=ae
 there:∀b o,h.get? b=ac o->b∉ex->∃o',h'.get? b=ac o'
 tups:∀b xs,H b=ac (.tup xs)->H' b=ac (.tup xs)
 Df:∀b o u,H b=ac (.AN o u)->H' b=ac (.AN o u)
 EV:∀b ps,H b=ac (.x8 ps)->∃more,H' b=ac (.x8 (ps++more))
section
variable{fs fs' ex ex':List am}{H H1 H2:Hp}{h h1 h2 h':Heap}{a x e:am}{o:HO}
theorem Un.any(u:Un fs ex H H1 h h1){b:am}{ob:Obj}(q:h.get? b=ac ob)(n:H b=ae)(a:b∉ex):∃d,h1.get? b=ac {ob with slots:=d}:=by by_cases c:b∈fs;exact u.slot b ob q n c a;exists ob.slots,u.keep b ob q n c a
theorem Un.trans(a:Un fs ex H H1 h h1)(b:Un fs ex H1 H2 h1 h2):Un fs ex H H2 h h2 where
 keep:=λc e q n g d=>b.keep c e (a.keep c e q n g d) (a.free c e q n d) g d
 slot:=λc e q n g d=>by
  obtain⟨r,f⟩:=a.slot c e q n g d;obtain⟨k,j⟩:=b.slot c _ f (a.free c e q n d) g d;exists k,j
 free:=λc e q n d=>by
  obtain⟨l,f⟩:=a.there c e q d;exact b.free c l f (a.free c e q n d) d
 there:=λc e q d=>by
  obtain⟨l,f⟩:=a.there c e q d;exact b.there c l f d
 tups:=λc i q=>b.tups c i (a.tups c i q)
 Df:=λc e i q=>b.Df c e i (a.Df c e i q)
 EV:=λc p q=>by
  obtain⟨o,f⟩:=a.EV c p q;obtain⟨m,j⟩:=b.EV c _ f;exists o++m,by rw[j,Array.append_assoc]
theorem Un.kept(k:∀b u,h.get? b=ac u->h'.get? b=ac u):Un fs ex H H h h' :=⟨λb a q _ _ _=>k b a q,λb a q _ _ _=>⟨a.slots,k b a q⟩,λ_ _ _ n _=>n,λb a q _=>⟨a,k b a q⟩,λ_ _ q=>q,λ_ _ _ q=>q,λ_ c q=>⟨#[],by rw[q];simp⟩⟩
theorem Un.refl:Un fs ex H H h h:=Un.kept λ_ _ q=>q
theorem Un.laid(k:∀b u,h.get? b=ac u->h'.get? b=ac u)(e:h.objs.size<=a)(c:H a=ae):Un fs ex H (upd H a o) h h' where
 keep:=λb u q _ _ _=>k b u q
 slot:=λb u q _ _ _=>⟨u.slots,k b u q⟩
 free:=λb u q n _=>by rw[aI (bY (cj (a9 q) e))];exact n
 there:=λb u q _=>⟨u,k b u q⟩
 tups:=λb d q=>by rw[aI (aC q c)];exact q
 Df:=λb u d q=>by rw[aI (aC q c)];exact q
 EV:=λb f q=>⟨#[],by rw[aI (aC q c),q];simp⟩
theorem Un.write(c:Mut (H x))(j:e=x∨H e=ac (.own x))(k:∀b u,b≠e->h.get? b=ac u->h'.get? b=ac u)(f:∃u,h'.get? e=ac u):Un fs ex H (upd H x o) h h':=by
 have i:∀b,H b=ae->b≠x:=λb n z=>(by subst z;rw[n] at c;exact c);have g:∀b,H b=ae->b≠e:=λb n z=>(by subst z;rcases j with r|r;exact i b n r;rw[n] at r;cases r);have d:∀b u,H b=ac u->¬Mut (ac u)->b≠x:=λb u q m z=>(by subst z;rw[q] at c;exact m c)
 refine⟨λb u q n _ _=>k b u (g b n) q,λb u q n _ _=>⟨u.slots,k b u (g b n) q⟩,λb u q n _=>by rw[aI (i b n)];exact n,λb u q _=>?_,
  λb l q=>by rw[aI (d b _ q λz=>z)];exact q,λb u l q=>by rw[aI (d b _ q λz=>z)];exact q,λb p q=>⟨#[],by rw[aI (d b _ q λz=>z),q];simp⟩⟩
 by_cases a:b=e;subst a;exact f;exists u,k b u a q
end
noncomputable def trk(h:Heap)(H:Hp):List am:=(aB h.objs.size).filter λa=>(H a).isSome
noncomputable def OH(h:Heap)(H:Hp):Heap:=PySem.W.hideAll h (trk h H)
theorem WO(h:Heap)(H:Hp):(OH h H).objs.size=h.objs.size:=PySem.W.hideAll_size _ _
theorem YU{h:Heap}{H:Hp}{b:am}{o:Obj}(e:h.get? b=ac o)(n:H b=ae):(OH h H).get? b=ac o:=
 PySem.W.hideAll_get _ e λa=>by
  have q:(H b).isSome=ag:=(bD.mp a).2;rw[n] at q;simp at q
theorem ab1{h:Heap}{H:Hp}{b:am}{o:Obj}(e:(OH h H).get? b=ac o):h.get? b=ac o/\H b=ae:=by have a:h.get? b=ac o:=PySem.W.of_hideAll (trk h H) e;exists a,4;cases q:H b with|none=>rfl|some x=>have c:b∈trk h H:=bD.mpr ⟨cS.mpr (a9 a),by simp[q]⟩;have z:(OH h H).get? b=ae:=PySem.W.hideAll_none (trk h H) c;rw[z] at e;cases e
noncomputable def EW(g h:Heap)(L:am):List (am×Obj):=(aB h.objs.size).filterMap λa=>if a=L∨(g.get? a).isSome=ag then ae else (h.get? a).map λo=>(a,o)
theorem HP{g h:Heap}{L a:am}{o:Obj}(d:a≠L)(c:g.get? a=ae)(b:h.get? a=ac o):(a,o)∈EW g h L :=List.mem_filterMap.mpr ⟨a,cS.mpr (a9 b),by simp[d,c,b]⟩
theorem JE{g h:Heap}{L:am}{p:am×Obj}(c:p∈EW g h L):p.1≠L/\g.get? p.1=ae/\h.get? p.1=ac p.2:=by obtain⟨b,_,e⟩:=List.mem_filterMap.mp c;split at e;cases e;rename_i a;cases q:h.get? b with|none=>rw[q] at e;simp at e|some u=>(rw[q] at e;simp only[Option.map_some,Option.some.injEq] at e;subst e;exists λz=>a (.inl z),4,q;show g.get? b=ae;cases r:g.get? b with|none=>rfl|some v=>exact (a (.inr (by simp[r]))).elim)
noncomputable def rest(g h:Heap)(L d:am):List (am×Obj):=(EW g h L).filter λp=>decide (p.1≠d)
theorem YV{g h:Heap}{L:am}:News g L h (EW g h L):=λp d=>let ⟨a,b,c⟩:=JE d;⟨c,a,b⟩
structure Mod(K:ai)(mg:Str->Option ar)(base:Heap):Prop where
 kin:K.In base
 glob:base.Ns bi mg
 blt:∃mb,base.Ns builtinsNs mb/\∀x:Str,x≠"__name__" -> mb x=bootBuiltins x
 nolimit:base.NoLimit
structure Cx where
 prog:ci
 w:World
 K:ai
 mg:Str->Option ar
 base:Heap
 A:cm
 N:List Str
 s₀:aw
 H₀:Hp
 env:Env
 outer:List Env
 stack:List Env
 ex:List am
 fn:Str->Bool
 calm:Bool
 pn:List (am×Obj)
 xe:ar->aw->Prop
noncomputable def frs(l:List Env):List am:=l.filterMap (·.frame)
noncomputable abbrev Cx.fs(X:Cx):List am:=frs X.outer
def Vis(sc:Scope)(x:Str):Prop:=sc.names.lookup x=ac .local∨sc.names.lookup x=ac .cell∨sc.names.lookup x=ac .free
def Loc(sc:Scope)(x:Str):Prop:=sc.names.lookup x=ac .local∨sc.names.lookup x=ac .cell
def Look(env:Env)(h:Heap)(m:Str->Option ar)(x:Str)(u:ar):Prop:=
 (env.kindOf x=ac .local/\m x=ac u)∨((env.kindOf x=ac .cell∨env.kindOf x=ac .free)/\∃c,env.cells.lookup x=ac c/\h.IsCell c (ac u))
structure Cx.Ok(X:Cx):Prop where
 mod:Mod X.K X.mg X.base
 kind:X.env.scope.kind=.function
 glob:X.env.globals=bi
 blt:X.env.builtins=builtinsNs
 above:X.s₀.heap.objs.size<=X.env.locals
 inj:∀x y c,X.env.cells.lookup x=ac c->X.env.cells.lookup y=ac c->x=y
 has:∀x,(X.env.kindOf x=ac .cell∨X.env.kindOf x=ac .free)->∃c,X.env.cells.lookup x=ac c
 cab:∀x c,X.fn x=ag->X.env.cells.lookup x=ac c->X.s₀.heap.objs.size<=c
 hd:X.calm=ag->X.A.handled=ae
 frames:X.A.frames=ac X.stack
 stk:X.stack=X.outer∨(X.stack=X.env::X.outer/\X.env.frame=ac X.env.locals)
 exf:∀b∈X.ex,b≠X.env.locals/\∀x c,X.env.cells.lookup x=ac c->c≠b
 bs:∀b o,X.base.get? b=ac o->X.s₀.heap.get? b=ac o/\X.H₀ b=ae
 YW:X.base.objs.size<=X.s₀.heap.objs.size
 WQ:∀b o,X.base.get? b=ac o->b∉X.ex
 YX:∀b∈X.ex,b∉X.fs
 EX:X.s₀.heap.FunFrames X.base X.outer
 Qj:∀b∈X.fs,X.H₀ b=ae
structure Inv(X:Cx)(pins:List (am×Obj))(σ:List (Option V))(H:Hp)(s:aw):Prop where
 ok:X.Ok
 os:s.os=X.s₀.os
 bare:AllBare s.gens
 base:Un X.fs X.ex X.H₀ H X.s₀.heap s.heap
 loc:∃m,s.heap.Ns X.env.locals m/\∀(i:Nat)(x:Str)(v:V),X.N[i]?=ac x->σ[i]?=ac (ac v)->Vis X.env.scope x->∃u,RelV v u/\Look X.env s.heap m x u
 cell:∀x c,X.env.cells.lookup x=ac c->∃v,s.heap.IsCell c v
 free:H X.env.locals=ae
 vO:∀x c,X.env.cells.lookup x=ac c->H c=ae
 pin:∀p∈X.pn++pins,s.heap.get? p.1=ac p.2/\H p.1=ae/\p.1≠X.env.locals/\p.1∉X.fs/\∀v,p.2.data≠.cell v
 hok:AS X.prog X.w H s.heap
 len:σ.length=X.N.length
section
variable{X:Cx}{pins:List (am×Obj)}{σ:List (Option V)}{H H':Hp}{s:aw}{h':Heap}
theorem Cx.Ok.amE(ok:X.Ok){b:am}{o:Obj}(e:X.base.get? b=ac o):b∉X.fs:=λa=>by
 have:=(ok.EX.mem a).1
 rw[e] at this;cases this
theorem Inv.bs(I:Inv X pins σ H s):∀b o,X.base.get? b=ac o->s.heap.get? b=ac o/\H b=ae:=λb o e => ⟨I.base.keep b o (I.ok.bs b o e).1 (I.ok.bs b o e).2 (I.ok.amE e) (I.ok.WQ b o e),I.base.free b o (I.ok.bs b o e).1 (I.ok.bs b o e).2 (I.ok.WQ b o e)⟩
theorem Inv.bk(I:Inv X pins σ H s):∀b o,X.base.get? b=ac o->s.heap.get? b=ac o:=λb o e=>(I.bs b o e).1
theorem Inv.mod(I:Inv X pins σ H s):Mod X.K X.mg X.base:=I.ok.mod
theorem Inv.DQ(I:Inv X pins σ H s):X.K.In s.heap:=I.ok.mod.kin.keeps I.bk
theorem Inv.fr(I:Inv X pins σ H s):∃m,Fr X.base X.env.locals s.heap m:=
 let ⟨m,a,_⟩:=I.loc
 ⟨m,a,I.bk,aJ I.ok.YW I.ok.above⟩
theorem Inv.lt(I:Inv X pins σ H s):X.env.locals<s.heap.objs.size:=let ⟨_,a,_⟩:=I.loc;a.lt
theorem Inv.sz(I:Inv X pins σ H s):X.s₀.heap.objs.size<=s.heap.objs.size:=aJ I.ok.above (iG I.lt)
theorem Inv.amF(I:Inv X pins σ H s){a:am}(h:s.heap.objs.size<=a):a∉X.fs:=λc=>by
 obtain⟨_,o,b,_⟩:=I.ok.EX.mem c;exact ff (cj (a9 b) (aJ I.sz h)) (jf _)
theorem Inv.cne(I:Inv X pins σ H s):∀x c,X.env.cells.lookup x=ac c->c≠X.env.locals:=λx c e z=>by
 obtain⟨v,o,f,d⟩:=I.cell x c e;obtain⟨m,⟨i,g,h,b,a,_⟩,_⟩:=I.loc;rw[z,b] at f;cases f;rw[a] at d;cases d
theorem Inv.EX(I:Inv X pins σ H s):s.heap.FunFrames X.base X.outer:=by have f:∀(l:List Env),(∀b∈frs l,b∈X.fs)->X.s₀.heap.FunFrames X.base l->s.heap.FunFrames X.base l:=(by intro l;induction l with|nil=>intro _ _;trivial|cons i r p=>intro g n;obtain⟨h,⟨L,o,a,m,k,j⟩,q⟩:=n;have c:L∈X.fs:=g L (by unfold frs;rw[fz,a];exact cK);obtain⟨t,e⟩:=I.base.slot L o k (I.ok.Qj L c) c λz=>I.ok.YX L z c;exists h,⟨L,_,a,m,e,j⟩,p (λb d=>g b (by unfold frs;rw[fz,a];exact bS _ d)) q);exact f X.outer (λ_ d=>d) I.ok.EX
theorem Inv.stack(I:Inv X pins σ H s):s.heap.FunFrames X.base X.stack:=by rcases I.ok.stk with e|⟨e,b⟩;rw[e];exact I.EX;rw[e];obtain⟨m,a,_⟩:=I.loc;refine .cons (by rw[I.ok.kind];decide) b a ?_ I.EX;exact Heap.get?_none_of_le (aJ I.ok.YW I.ok.above)
theorem Inv.GA(I:Inv X pins σ H s):∀b∈frs X.stack,b∈X.env.locals::X.fs:=λb a=>by
 rcases I.ok.stk with e|⟨e,c⟩
 ·rw[e] at a;exact bS _ a
 ·rw[e] at a
  unfold frs at a;rw[fz,c] at a;exact a
theorem Inv.OI(I:Inv X pins σ H s):∀b∈frs X.stack,H b=ae:=λb hb=>by
 rcases bR.mp (I.GA b hb) with e|hb
 ·rw[e];exact I.free
 ·obtain⟨_,o,a,_⟩:=I.ok.EX.mem hb
  exact I.base.free b o a (I.ok.Qj b hb) λz=>I.ok.YX b z hb
theorem Inv.step{g':Array GenState}{t':Nat}{d':Drawn}{ch:List am}(I:Inv X pins σ H s)(f:∀b∈ch,(b∈X.ex∨X.s₀.heap.objs.size<=b)/\b≠X.env.locals/\(∀x c,X.env.cells.lookup x=ac c->c≠b)/\∀p∈X.pn++pins,p.1≠b)(keep:∀b o,b≠X.env.locals->b∉X.fs->b∉ch->s.heap.get? b=ac o->H b=ae->h'.get? b=ac o)(slot:∀b o,b≠X.env.locals->b∈X.fs->b∉ch->s.heap.get? b=ac o->H b=ae->∃J,h'.get? b=ac {o with slots:=J})(free:∀b o,b∉ch->s.heap.get? b=ac o->H b=ae->H' b=ae)(there:∀b o,b∉ch->s.heap.get? b=ac o->∃C,h'.get? b=ac C)(tups:∀b y,H b=ac (.tup y)->H' b=ac (.tup y))(Df:∀b o u,H b=ac (.AN o u)->H' b=ac (.AN o u))(EV:∀b G,H b=ac (.x8 G)->∃E,H' b=ac (.x8 (G++E)))(R:∀m,s.heap.Ns X.env.locals m->h'.Ns X.env.locals m)(M:AS X.prog X.w H' h')(W:AllBare g') :Inv X pins σ H' {s with heap:=h',gens:=g',drawn:=d',toks:=t'}:=by have F:∀b o,X.s₀.heap.get? b=ac o->b≠X.env.locals:=λb o e=>bY (cj (a9 e) I.ok.above);have j:∀b o,X.s₀.heap.get? b=ac o->b∉X.ex->b∉ch:=λb o e a A=>(by rcases (f b A).1 with z|z;exact a z;exact ff (cj (a9 e) z) (jf _));have g:∀x c,X.env.cells.lookup x=ac c->∀v,s.heap.IsCell c v->h'.IsCell c v:=λx c e v ⟨o,B,K⟩=>(by have h:c∉ch:=λz=>(f c z).2.2.1 x c e rfl;by_cases N:c∈X.fs;obtain⟨J,q⟩:=slot c o (I.cne x c e) N h B (I.vO x c e);exists _,q,K;exists o,keep c o (I.cne x c e) N h B (I.vO x c e),K);exists I.ok,I.os,W,⟨λb o e n A a=>?_,λb o e n A a=>?_,λb o e n a=>?_,λb o e a=>?_,λb y e=>tups b y (I.base.tups b y e),λb o y e=>Df b o y (I.base.Df b o y e),λb G e=>?_⟩,4,λx c e=>?_,4,λx c e=>?_,λp P=>?_,M,I.len;exact keep b o (F b o e) A (j b o e a) (I.base.keep b o e n A a) (I.base.free b o e n a);obtain⟨J,t⟩:=I.base.slot b o e n A a;obtain⟨L,D⟩:=slot b _ (F b o e) A (j b o e a) t (I.base.free b o e n a);exists L,D;obtain⟨C,t⟩:=I.base.there b o e a;exact free b C (j b o e a) t (I.base.free b o e n a);obtain⟨C,t⟩:=I.base.there b o e a;exact there b C (j b o e a) t;obtain⟨U,t⟩:=I.base.EV b G e;obtain⟨Q,D⟩:=EV b _ t;exact⟨U++Q,by rw[D,Array.append_assoc]⟩;obtain⟨m,S,T⟩:=I.loc;exists m,R m S,λi x v t D V=>?_;obtain⟨u,r,l⟩:=T i x v t D V;exists u,r,4;rcases l with l|⟨k,c,e,z⟩;exact .inl l;exact .inr ⟨k,c,e,g x c e _ z⟩;obtain⟨v,z⟩:=I.cell x c e;exists v,g x c e v z;obtain⟨m,⟨o,_,_,B,_⟩,_⟩:=I.loc;exact free _ o (λz=>(f _ z).2.1 rfl) B I.free;obtain⟨v,o,B,K⟩:=I.cell x c e;exact free c o (λz=>(f c z).2.2.1 x c e rfl) B (I.vO x c e);obtain⟨e,n,O,nf,d⟩:=I.pin p P;have h:p.1∉ch:=λz=>(f p.1 z).2.2.2 p P rfl;exists keep p.1 p.2 O nf h e n,free p.1 p.2 h e n,O,nf,d
theorem Inv.un{t':Nat}(I:Inv X pins σ H s)(u:Un X.fs [] H H' s.heap h')(g:AS X.prog X.w H' h'):Inv X pins σ H' {s with heap:=h',toks:=t'}:=by obtain⟨m,⟨o,t,l,h,r⟩,_⟩:=id I.loc;obtain⟨p,j⟩:=u.any h I.free (-_);exact I.step (g':=s.gens) (d':=s.drawn) (ch:=[]) (λ_ z=>nomatch z) (λb o _ c _ e n=>u.keep b o e n c (-_)) (λb o _ c _ e n=>u.slot b o e n c (-_)) (λb o _ e n=>u.free b o e n (-_)) (λb o _ e=>u.there b o e (-_)) u.tups u.Df u.EV (λv i=>by obtain⟨q,f,d,a,k⟩:=i;rw[h] at a;cases a;exists _,f,d,j,k) g I.bare
theorem Inv.call{g':Array GenState}{t':Nat}{d':Drawn}{ch:List am}(I:Inv X pins σ H s)(u:Un (frs X.stack) ch H H' s.heap h')(j:AS X.prog X.w H' h')(t:AllBare g')(f:∀b∈ch,(b∈X.ex∨X.s₀.heap.objs.size<=b)/\b≠X.env.locals/\(∀x c,X.env.cells.lookup x=ac c->c≠b)/\∀p∈X.pn++pins,p.1≠b) :Inv X pins σ H' {s with heap:=h',gens:=g',drawn:=d',toks:=t'}:=by obtain⟨m,⟨o,C,y,k,r⟩,_⟩:=id I.loc;obtain⟨A,g⟩:=u.any k I.free λz=>(f _ z).2.1 rfl;exact I.step (ch:=ch) f (λb o g q a e n=>u.keep b o e n (λz=>(bR.mp (I.GA b z)).elim g q) a) (λb o _ _ a e n=>u.any e n a) (λb o a e n=>u.free b o e n a) (λb o a e=>u.there b o e a) u.tups u.Df u.EV (λD l=>by obtain⟨B,i,h,d,v⟩:=l;rw[k] at d;cases d;exists _,i,h,g,v) j t
theorem Inv.turned{t':Nat}{a:am}(I:Inv X pins σ H s)(k:∀b o,b≠a->s.heap.get? b=ac o->h'.get? b=ac o)(y:H a=ae)(g:a≠X.env.locals)(l:a∈X.ex∨X.s₀.heap.objs.size<=a)(j:∀x c,X.env.cells.lookup x=ac c->c≠a)(B:∀p∈X.pn++pins,p.1≠a):Inv X pins σ H {s with heap:=h',toks:=t'}:=by have f:∀b u,H b=ac u->b≠a:=λb u e z=>(by rw[z,y] at e;cases e);refine I.step (g':=s.gens) (d':=s.drawn) (ch:=[a]) (λb w=>?_) (λb o _ _ d e _=>k b o (λz=>d (by simp[z])) e) (λb o _ _ d e _=>⟨o.slots,k b o (λz=>d (by simp[z])) e⟩) (λ_ _ _ _ n=>n) (λb o d e=>⟨o,k b o (λz=>d (by simp[z])) e⟩) (λ_ _ e=>e) (λ_ _ _ e=>e) (λb C e=>⟨#[],by rw[e];simp⟩) (λm h=>?_) (λb u e=>?_) I.bare;have e:b=a:=(by simpa using w);subst e;exists l,g,j,B;obtain⟨o,A,i,t,r⟩:=h;exists o,A,i,k _ o (bT g) t,r;refine (I.hok b u e).stay (λc v d q=>k c v ?_ q) (λ_ q=>q) λ_ _ q=>q;rcases d with z|z;rw[z];exact f b u e;exact f c _ z
theorem Inv.tok(I:Inv X pins σ H s)(t:Nat):Inv X pins σ H {s with toks:=t}:=I.un (h':=s.heap) (t':=t) Un.refl I.hok
theorem Inv.kept{t':Nat}(I:Inv X pins σ H s)(k:∀b u,s.heap.get? b=ac u->h'.get? b=ac u):Inv X pins σ H {s with heap:=h',toks:=t'}:=I.un (Un.kept k) (I.hok.kept k)
theorem Inv.laid{a:am}{o:HO}{t':Nat}(I:Inv X pins σ H s)(k:∀b u,s.heap.get? b=ac u->h'.get? b=ac u)(d:s.heap.objs.size<=a)(c:gI X.prog X.w (upd H a o) h' a o) :Inv X pins σ (upd H a o) {s with heap:=h',toks:=t'}:=I.un (Un.laid k d (I.hok.fresh d)) (I.hok.laid k d c)
theorem Inv.write{x e:am}{o:HO}{t':Nat}(I:Inv X pins σ H s)(d:Mut (H x))(f:e=x∨H e=ac (.own x))(k:∀b u,b≠e->s.heap.get? b=ac u->h'.get? b=ac u)(a:∃u,h'.get? e=ac u)(c:gI X.prog X.w (upd H x o) h' x o):Inv X pins σ (upd H x o) {s with heap:=h',toks:=t'}:=I.un (Un.write d f k a) (I.hok.write d f k a c)
theorem Inv.Vt{a:List (am×Obj)}(I:Inv X pins σ H s)(h:∀p∈a,s.heap.get? p.1=ac p.2/\H p.1=ae/\p.1≠X.env.locals/\p.1∉X.fs/\∀v,p.2.data≠.cell v):Inv X a σ H s :=⟨I.ok,I.os,I.bare,I.base,I.loc,I.cell,I.free,I.vO,λp b=>(bU.mp b).elim (λz=>I.pin p (List.mem_append_left _ z)) (h p),I.hok,I.len⟩
theorem QH{N:List Str}(e:N.Nodup){i j:Nat}{x:Str}(a:N[i]?=ac x)(b:N[j]?=ac x):i=j:=by obtain⟨g,c⟩:=aj.mp a;obtain⟨f,d⟩:=aj.mp b;exact (List.getElem_inj e).mp (c.trans d.symm)
theorem MX{M:Model}{A:cm}{E:ar->aw->Prop}{i:Nat}{x:Str}{v:V}{u:ar}{Q:Unit->aw->Prop}(I:Inv X pins σ H s)(hN:X.N.Nodup)(L:X.N[i]?=ac x)(t:Loc X.env.scope x)(r:RelV v u)(h:∀s',Inv X pins (σ.set i (ac v)) H s'->(∃a,Heap.SameBut a s.heap s'.heap/\(a=X.env.locals∨X.env.cells.lookup x=ac a))->Q () s')(hf:X.fn x=ag∨X.env.scope.names.lookup x=ac .local:=by first|exact .inl rfl|exact .inr rfl|assumption):cf M A (storeName X.env x u) Q E s:=by obtain⟨m,hn,hl⟩:=id I.loc;have R:(X.env.scope.kind==.class || (X.env.scope.kind==.module&&X.env.locals != X.env.globals))=al:=(by rw[I.ok.kind];rfl);have P:i<σ.length:=(by rw[I.len];exact (aj.mp L).1);have cne:=I.cne;have g:∀{a:am}{h':Heap},(∃o,s.heap.get? a=ac o/\H a=ae)->Heap.SameBut a s.heap h'->AS X.prog X.w H h':=λ{a h'}ha f b ob e=>(by obtain⟨_,_,B⟩:=ha;refine (I.hok b ob e).stay (λc U hc q=>(f.2 c ?_).trans q) (λ_ q=>q) λ_ _ q=>q;rintro rfl;rcases hc with rfl|hc;rw[B] at e;cases e;rw[B] at hc;cases hc);rcases t with hk|hk;refine wpAny_storeName_local hk hn (λh' hn' f=>?_) R;obtain⟨oL,_,_,hoL,_⟩:=id hn;refine h _ ⟨I.ok,I.os,I.bare,⟨λb o e n D t=>?_,λb o e n D t=>?_,I.base.free,λb o e t=>?_,I.base.tups,I.base.Df,I.base.EV⟩,⟨_,hn',λj y W l C e3=>?_⟩,λy c e=>?_,I.free,I.vO,λp hp=>?_,g ⟨oL,hoL,I.free⟩ f,by simpa using I.len⟩ ⟨_,f,.inl rfl⟩;exact (f.2 b (bY (cj (a9 e) I.ok.above))).trans (I.base.keep b o e n D t);obtain⟨Y,l⟩:=I.base.slot b o e n D t;exists Y,(f.2 b (bY (cj (a9 e) I.ok.above))).trans l;obtain⟨o',l⟩:=I.base.there b o e t;exists o',(f.2 b (bY (cj (a9 e) I.ok.above))).trans l;by_cases F:j=i;subst F;rw[L] at l;cases l;rw[List.getElem?_set_self P] at C;cases C;exists u,r,.inl ⟨hk,-_⟩;rw[List.getElem?_set_ne (bT F)] at C;obtain⟨u',r',q⟩:=hl j y W l C e3;exists u',r',4;rcases q with ⟨k,e⟩|⟨k,c,e,z⟩;refine .inl ⟨k,4⟩;have:y≠x:=λe=>F (QH hN l (e▸L));simp[this,e];exact .inr ⟨k,c,e,z.sameBut f (cne y c e)⟩;obtain⟨U,z⟩:=I.cell y c e;exists U,z.sameBut f (cne y c e);obtain⟨e,n,T,nf,d⟩:=I.pin p hp;exists (f.2 p.1 T).trans e,n,T,nf,d;have G:X.fn x=ag:=(by rcases hf with z|z;exact z;rw[z] at hk;cases hk);obtain⟨c,hc⟩:=I.ok.has x (.inl hk);obtain⟨U,z⟩:=I.cell x c hc;refine wpAny_storeName_cell I.ok.kind hk hc z (λh' K f=>?_);obtain⟨oc,O,Z⟩:=id z;refine h {s with heap:=h'} ⟨I.ok,I.os,I.bare,⟨λb o e n D t=>?_,λb o e n D t=>?_,I.base.free,λb o e t=>?_,I.base.tups,I.base.Df,I.base.EV⟩,⟨m,hn.sameBut f (bT (cne x c hc)),λj y W l C e3=>?_⟩,λy S e=>?_,I.free,I.vO,λp hp=>?_,g ⟨oc,O,I.vO x c hc⟩ f,by simpa using I.len⟩ ⟨c,f,.inr hc⟩;exact (f.2 b (bY (cj (a9 e) (I.ok.cab x c G hc)))).trans (I.base.keep b o e n D t);obtain⟨Y,l⟩:=I.base.slot b o e n D t;exists Y,(f.2 b (bY (cj (a9 e) (I.ok.cab x c G hc)))).trans l;obtain⟨o',l⟩:=I.base.there b o e t;exists o',(f.2 b (bY (cj (a9 e) (I.ok.cab x c G hc)))).trans l;by_cases F:j=i;subst F;rw[L] at l;cases l;rw[List.getElem?_set_self P] at C;cases C;exists u,r,.inr ⟨.inl hk,c,hc,K⟩;rw[List.getElem?_set_ne (bT F)] at C;obtain⟨u',r',q⟩:=hl j y W l C e3;exists u',r',4;rcases q with q|⟨k,S,e,z'⟩;exact .inl q;refine .inr ⟨k,S,e,z'.sameBut f ?_⟩;rintro rfl;exact F (QH hN l (I.ok.inj _ _ _ e hc▸L));by_cases J:S=c;subst J;exists _,K;obtain⟨w2,z2⟩:=I.cell y S e;exists w2,z2.sameBut f J;obtain⟨e,n,T,nf,d⟩:=I.pin p hp;exists (f.2 p.1 ?_).trans e,n,T,nf,d;intro q;rw[q,O] at e;have q':oc=p.2:=aO e;exact d U (by rw[<- q'];exact Z)
theorem EY{M:Model}{A:cm}{E:ar->aw->Prop}{i:Nat}{x:Str}{v:V}{u:ar}{Q:Unit->aw->Prop}(I:Inv X pins σ H s)(d:X.N.Nodup)(b:X.N[i]?=ac x)(a:Loc X.env.scope x)(r:RelV v u)(h:∀s',Inv X pins (σ.set i (ac v)) H s'->Q () s')(e:X.fn x=ag∨X.env.scope.names.lookup x=ac .local:=by first|exact .inl rfl|exact .inr rfl|assumption):cf M A (storeName X.env x u) Q E s :=MX I d b a r (λs' c _=>h s' c) e
theorem Inv.aek{s':aw}{ch:List am}(I:Inv X pins σ H s)(f:s'.os=s.os)(u:Un (frs X.stack) ch H H' s.heap s'.heap)(d:AS X.prog X.w H' s'.heap)(h:AllBare s'.gens)(a:∀b∈ch,(b∈X.ex∨X.s₀.heap.objs.size<=b)/\b≠X.env.locals/\(∀x c,X.env.cells.lookup x=ac c->c≠b)/\∀p∈X.pn++pins,p.1≠b):Inv X pins σ H' s':=by obtain⟨h',g',d',t',g⟩:=s';have e:g=s.os:=f;subst e;exact I.call (g':=g') (t':=t') (d':=d') u d h a
end
abbrev XK:=ar->Option am->Hp->Prop
abbrev St:=List (Option V)
abbrev VK:=V->Hp->Prop
abbrev TE:=St->Hp->VK->Prop
abbrev TT:=St->Hp->(Bool->Hp->Prop)->Prop
abbrev TA:=St->Hp->(List V->Hp->Prop)->Prop
structure Ends where
 nx:St->Hp->Prop
 rt:VK
 bk:St->Hp->Prop:=λ_ _=>False
 ct:St->Hp->Prop:=λ_ _=>False
abbrev TS:=Ends->St->Hp->Prop
inductive EP(X:Cx)(pins:List (am×Obj))(σ:St)(Q:VK)(u:ar)(s':aw):Prop
 |mk(v:V)(H':Hp)(a:Inv X pins σ H' s')(b:RelV v u)(c:Q v H'):EP X pins σ Q u s'
inductive TP(X:Cx)(pins:List (am×Obj))(σ:St)(Q:Bool->Hp->Prop)(b:Bool)(s':aw):Prop
 |mk(H':Hp)(a:Inv X pins σ H' s')(c:Q b H'):TP X pins σ Q b s'
inductive AP(X:Cx)(pins:List (am×Obj))(σ:St)(Q:List V->Hp->Prop)(us:List ar)(s':aw):Prop
 |mk(vs:List V)(H':Hp)(a:Inv X pins σ H' s')(b:cO vs us)(c:Q vs H'):AP X pins σ Q us s'
def SP(X:Cx)(pins:List (am×Obj))(D:Ends)(f:Flow)(s':aw):Prop:=
 match f with
 |.next=>∃σ' H',Inv X pins σ' H' s'/\D.nx σ' H'
 |.brk=>∃σ' H',Inv X pins σ' H' s'/\D.bk σ' H'
 |.cont=>∃σ' H',Inv X pins σ' H' s'/\D.ct σ' H'
 |.ret u=>∃v σ' H',Inv X pins σ' H' s'/\RelV v u/\D.rt v H'
def PE(X:Cx)(e:Expr)(t:TE):Prop:=
 ∀(pins:List (am×Obj))(s:aw)(σ:St)(H:Hp)(Q:VK),Inv X pins σ H s->t σ H Q->cf (model X.prog X.w) X.A (eval e X.env) (EP X pins σ Q) X.xe s
def PT(X:Cx)(e:Expr)(t:TT):Prop:=
 ∀(pins:List (am×Obj))(s:aw)(σ:St)(H:Hp)(Q:Bool->Hp->Prop),Inv X pins σ H s->t σ H Q->cf (model X.prog X.w) X.A (isTrue e X.env (eval e X.env)) (TP X pins σ Q) X.xe s
def PW(X:Cx)(e:Expr)(t:TT):Prop:=
 ∀(whole:Sem ar)(pins:List (am×Obj))(s:aw)(σ:St)(H:Hp)(Q:Bool->Hp->Prop),Inv X pins σ H s->t σ H Q->cf (model X.prog X.w) X.A (isTrue e X.env whole) (TP X pins σ Q) X.xe s
theorem PW.pt{X:Cx}{e:Expr}{t:TT}(h:PW X e t):PT X e t:=h _
def PA(X:Cx)(es:List Expr)(t:TA):Prop:=
 ∀(pos:Pos)(pins:List (am×Obj))(s:aw)(σ:St)(H:Hp)(Q:List V->Hp->Prop),Inv X pins σ H s->t σ H Q->cf (model X.prog X.w) X.A (spliced (backTo pos (bn es X.env))) (AP X pins σ Q) X.xe s
def PS(X:Cx)(st:Stmt)(t:TS):Prop:=
 ∀(pins:List (am×Obj))(s:aw)(σ:St)(H:Hp)(D:Ends),Inv X pins σ H s->t D σ H->cf (model X.prog X.w) X.A (exec st X.env) (SP X pins D) X.xe s
def iE(X:Cx)(st:List Stmt)(t:TS):Prop:=
 ∀(pins:List (am×Obj))(s:aw)(σ:St)(H:Hp)(D:Ends),Inv X pins σ H s->t D σ H->cf (model X.prog X.w) X.A (execs st X.env) (SP X pins D) X.xe s
theorem ir{c:Type}{t:Sem c}{Q b:c->aw->Prop}{M:Model}{A:cm}{E:ar->aw->Prop}{s:aw}(h:cf M A t Q E s)(d:∀a s,Q a s->b a s):cf M A t b E s:=wpAny_mono h d λ_ _ x=>x
section
variable{X:Cx}
inductive Mf(i:Nat)(σ:St)(H:Hp)(Q:VK):Prop
 |mk(v:V)(a:σ[i]?=ac (ac v))(b:Q v H):Mf i σ H Q
def tC(v:V):TE:=λ_ H Q=>Q v H
theorem afD{i:Nat}{x:Str}{j:Pos}(q:X.N[i]?=ac x)(p:Vis X.env.scope x)(f:(x==("__debug__" : Str))=al:=by decide)(g:(x==("__classdict__" : Str))=al:=by decide):PE X (.Name x j) (Mf i):=by intro d s o H Q I h;obtain⟨v,e,h⟩:=h;obtain⟨m,t,w⟩:=I.loc;obtain⟨u,r,l⟩:=w i x v q e p;have b:EP X d o Q u s:=⟨v,H,I,r,h⟩;rcases l with ⟨hk,n⟩|⟨hk,c,k,a⟩;exact wpAny_Name (wpAny_loadName_local I.ok.kind hk t n b) f;rcases hk with hk|hk;exact wpAny_Name (wpAny_loadName_cell I.ok.kind hk k a b) f;exact wpAny_Name (wpAny_loadName_free I.ok.kind hk k a b g) f
theorem aA{i j pos}:PE X (.Constant (.int i) j pos) (tC (.int i)):=λ_ _ _ H _ I h=>wpAny_Constant_int ⟨.int i,H,I.tok _,⟨1⟩,h⟩
theorem MY{b j pos}:PE X (.Constant (.bool b) j pos) (tC (.bl b)):=λ_ _ _ H _ I h=>Constant_bool ⟨.bl b,H,I,2,h⟩
theorem kr{j pos}:PE X (.Constant .none j pos) (tC .gk):=λ_ _ _ H _ I h=>Constant_none ⟨.gk,H,I,2,h⟩
theorem fH{x j pos}:PE X (.Constant (.str x) j pos) (tC (.str x)):=λ_ _ _ H _ I h=>Calls.Constant_str ⟨.str x,H,I.tok _,⟨1⟩,h⟩
def Gl(X:Cx)(x:Str):Prop:=X.env.kindOf x=ac .globalImplicit
theorem EZ{E:ar->aw->Prop}{a:List (am×Obj)}{s:aw}{e:St}{H:Hp}{x:Str}{u:ar}{b:Pos}{Q:ar->aw->Prop}(I:Inv X a e H s)(f:Gl X x)(d:X.mg x=ac u)(h:Q u s)(c:(x==("__debug__" : Str))=al:=by decide):cf (model X.prog X.w) X.A (eval (.Name x b) X.env) Q E s :=Calls.Name_function_global I.ok.kind f (Calls.loadGlobal_global (by rw[I.ok.glob];exact I.mod.glob.keeps I.bk) d h) c
theorem JF{E:ar->aw->Prop}{a:List (am×Obj)}{s:aw}{d:St}{H:Hp}{x:Str}{u:ar}{b:Pos}{Q:ar->aw->Prop}(I:Inv X a d H s)(k:Gl X x)(c:X.mg x=ae)(e:bootBuiltins x=ac u)(h:Q u s) (j:x≠"__name__" := by decide) (f:(x==("__debug__" : Str))=al:=by decide):cf (model X.prog X.w) X.A (eval (.Name x b) X.env) Q E s:=by obtain⟨l,i,g⟩:=I.mod.blt;exact Calls.Name_function_global I.ok.kind k (Calls.loadGlobal_builtin (by rw[I.ok.glob];exact I.mod.glob.keeps I.bk) c (by rw[I.ok.blt];exact i.keeps I.bk) ((g x j).trans e) h) f
theorem nv{x:Str}{v:V}{u:ar}{a:Pos}(d:Gl X x)(c:X.mg x=ac u)(r:RelV v u)(b:(x==("__debug__" : Str))=al:=by decide):PE X (.Name x a) (tC v) :=λ_ _ _ H _ I h=>EZ I d c ⟨v,H,I,r,h⟩ b
theorem CG{x:Str}{v:V}{u:ar}{a:Pos}(d:Gl X x)(c:X.mg x=ae)(e:bootBuiltins x=ac u)(r:RelV v u)(f:x≠"__name__" := by decide)(b:(x==("__debug__" : Str))=al:=by decide):PE X (.Name x a) (tC v) :=λ_ _ _ H _ I h=>JF I d c e ⟨v,H,I,r,h⟩ f b
variable{a b:Expr}{ta tb:TE}{pos:Pos}
def PC(X:Cx)(op:CmpOp)(a b:Expr)(t:TE):Prop:=
 ∀(pins:List (am×Obj))(s:aw)(σ:St)(H:Hp)(Q:VK),Inv X pins σ H s->t σ H Q ->
  cf (model X.prog X.w) X.A (eval a X.env) (λv s₁=>cf (model X.prog X.w) X.A (eval b X.env) (λu s₂=>cf (model X.prog X.w) X.A (bv op v u) (EP X pins σ Q) X.xe s₂) X.xe s₁) X.xe s
inductive BlR(Q:Bool->Hp->Prop)(x:V)(H1:Hp):Prop
 |mk(c:Bool)(a:x=.bl c)(b:Q c H1):BlR Q x H1
def tB(t:TE):TT:=λσ H Q=>t σ H (BlR Q)
theorem YY{op:CmpOp}{t:TE}(h:PC X op a b t)(f:behindInMarks op b=al:=by first|exact aiz _ (!_) (!_)|rfl):PT X (.Compare a [op] [b] pos) (tB t):=by intro e s g H Q I n;refine wpAny_isTrue_Compare1 (ir (h e s g H _ I n) λv r f=>ir f λu o k=>ir k λc p ⟨x,i,l,j,m⟩=>?_) f;obtain⟨d,rfl,q⟩:=m;cases j;exact wpAny_truthy_bool ⟨i,l,q⟩
theorem ku{e:Expr}{t:TE}(h:PE X e t)(f:∀a,isTrue e X.env a=(do let v <- a;standAt e.pos;holding [v] (truthy v)):=by intro _;rfl):PT X e (tB t):=by intro b s c H Q I l;refine isTrue_plain (ir (h b s c H _ I l) λv m ⟨x,g,j,i,k⟩=>?_) (f _);obtain⟨d,rfl,q⟩:=k;cases i;exact wpAny_truthy_bool ⟨g,j,q⟩
variable{tA tB':TT}{rest:List Expr}
def amJ(t u:TT):TT:=λσ H Q=>t σ H λc H1=>if c=ag then u σ H1 Q else Q al H1
def tOr(t u:TT):TT:=λσ H Q=>t σ H λc H1=>if c=ag then Q ag H1 else u σ H1 Q
def amK(t:TT):TT:=λσ H Q=>t σ H λc H1=>Q (!c) H1
theorem tO(f:PT X a tA):PW X (.BoolOp .And [a] pos) tA:=by intro g b s d H Q I h;refine isTrue_and (ir (f b s d H Q I h) λc i e=>?_);cases c with|true=>exact isTrue_and_nil e|false=>exact e
theorem DR(f:PT X a tA):PW X (.BoolOp .Or [a] pos) tA:=by intro g b s d H Q I h;refine isTrue_or (ir (f b s d H Q I h) λc i e=>?_);cases c with|false=>exact isTrue_or_nil e|true=>exact e
theorem wQ(j:PT X a tA)(k:PW X (.BoolOp .And (b::rest) pos) tB'):PW X (.BoolOp .And (a::b::rest) pos) (amJ tA tB'):=by intro l d s e H Q I h;refine isTrue_and (ir (j d s e H _ I h) λc m ⟨f,g,i⟩=>?_);cases c with|true=>exact k l d m e f Q g i|false=>exists f,g,i
theorem HQ(j:PT X a tA)(k:PW X (.BoolOp .Or (b::rest) pos) tB'):PW X (.BoolOp .Or (a::b::rest) pos) (tOr tA tB'):=by intro l d s e H Q I h;refine isTrue_or (ir (j d s e H _ I h) λc m ⟨f,g,i⟩=>?_);cases c with|true=>exact⟨f,g,i⟩|false=>exact k l d m e f Q g i
theorem jg(g:PT X a tA):PT X (.UnaryOp .Not a pos) (amK tA):=by intro b s f H Q I h;exact isTrue_not (ir (g b s f H (λc d=>Q (!c) d) I h) λ_ _ ⟨d,i,e⟩=>⟨d,i,e⟩)
def aiA(ta tb:TE):TE:=λσ H Q=>ta σ H λx H1=>∃c,x=.bl c/\if c=ag then tb σ H1 Q else Q (.bl al) H1
def aiB(ta:TE):TE:=λσ H Q=>ta σ H λx H1=>∃c,x=.bl c/\Q (.bl (!c)) H1
theorem Tu{op}{t:TE}(h:PE X a t):PE X (.BoolOp op [a] pos) t:=λb s d H Q I c=>BoolOp_one (h b s d H Q I c)
theorem OJ(j:PE X a ta)(l:PE X (.BoolOp .And (b::rest) pos) tb):PE X (.BoolOp .And (a::b::rest) pos) (aiA ta tb):=by intro d s f H Q I h;refine BoolOp_and (ir (j d s f H _ I h) λv m ⟨x,g,i,k,e⟩=>?_);obtain⟨c,rfl,e⟩:=e;cases k;refine wpAny_truthy_bool ?_;cases c with|true=>exact l d m f g Q i e|false=>exists .bl al,g,i,2,e
theorem YZ(f:PE X a ta):PE X (.UnaryOp .Not a pos) (aiB ta):=by intro b s e H Q I h;refine UnaryOp_ (ir (f b s e H _ I h) λv k ⟨x,i,j,g,d⟩=>?_);obtain⟨c,rfl,d⟩:=d;cases g;exact not_of (wpAny_truthy_bool ⟨.bl (!c),i,j,2,d⟩)
def tIf(t:TT)(ta tb:TE):TE:=λσ H Q=>t σ H λc H1=>if c=ag then ta σ H1 Q else tb σ H1 Q
theorem AU{c:Expr}(l:PT X c tA)(m:PE X a ta)(n:PE X b tb):PE X (.IfExp c a b pos) (tIf tA ta tb):=by intro e s f H Q I h;refine wpAny_IfExp (ir (l e s f H _ I h) λd i ⟨j,k,g⟩=>?_);cases d with|true=>exact m e i f j Q k g|false=>exact n e i f j Q k g
end
def bI(K:ai)(H:Hp)(a:am)(xs:List V):Prop:=
 Rd H a (.lst xs) ∨
  ∃(o:Obj)(its:Array ar)(n:Nat),K.lookup a=ac o/\o.cls=.type "list" /\ o.dict=ae/\o.data=.seq its n/\its.size<=bc/\cO xs its.toList
def cD(K:ai)(H:Hp)(a:am)(xs:List V):Prop:=
 Rd H a (.tup xs) ∨
  ∃(o:Obj)(its:Array ar)(n:Nat),K.lookup a=ac o/\o.cls=.type "tuple" /\ o.data=.seq its n/\its.size<=bc/\cO xs its.toList
noncomputable def amL:ar->Option V
 |.none=>ac .gk
 |.bool b=>ac (.bl b)
 |.int i _=>ac (.int i)
 |.str x _=>ac (.str x)
 |.bytes b _=>ac (.Vs b)
 |.float b _=>ac (.flt b)
 |.ref a=>ac (.ref a)
 |.type n=>ac (.ty n)
 |_=>ae
theorem RelV.abs{x:V}{u:ar}(r:RelV x u):amL u=ac x:=by cases x with|gk=>cases r;rfl|bl _=>cases r;rfl|int _=>obtain⟨t,rfl⟩:=r;rfl|str _=>obtain⟨t,rfl⟩:=r;rfl|Vs _=>obtain⟨t,rfl⟩:=r;rfl|flt _=>obtain⟨t,rfl⟩:=r;rfl|ref _=>cases r;rfl|ty _=>cases r;rfl
theorem RelV.inj{x y:V}{u:ar}(r:RelV x u)(q:RelV y u):x=y:=aO (r.abs.symm.trans q.abs)
theorem cO.inj:∀{xs a:List V}{us:List ar},cO xs us->cO a us->xs=a
 |_,_,_,.nil,.nil=>rfl
 |_,_,_,.cons r t,.cons b t'=>by rw[r.inj b,cO.inj t t']
section
variable{X:Cx}{pins:List (am×Obj)}{σ:St}{H:Hp}{s:aw}{a:am}{xs ys:List V}
theorem bI.of{K:ai}(h:H a=ac (.lst xs)):bI K H a xs:=.inl (.inl h)
theorem cD.of{K:ai}(h:H a=ac (.tup xs)):cD K H a xs:=.inl (.inl h)
theorem Inv.list(I:Inv X pins σ H s)(h:bI X.K H a xs):∃b:List ar,cO xs b/\PlainL s.heap a b.toArray/\wL xs<=bc:=by rcases h with h|⟨o,b,n,g,f,c,d,i,r⟩;obtain⟨z,b,n,r,e⟩:=h.ok I.hok;exists b,r,⟨_,n,e,222⟩,z;exists b.toList,r,⟨o,n,I.DQ a o g,f,c,by simpa using d⟩,4;have e:=r.length;simp only[iy] at e;lia
theorem Inv.tuple(I:Inv X pins σ H s)(h:cD X.K H a xs):∃b:List ar,cO xs b/\IsTup s.heap a b.toArray/\wL xs<=bc:=by rcases h with h|⟨o,b,n,f,d,c,g,r⟩;obtain⟨z,b,r,p⟩:=h.ok I.hok;exists b,r,p,z;exists b.toList,r,⟨o,I.DQ a o f,d,n,by simpa using c⟩,4;have e:=r.length;simp only[iy] at e;lia
theorem Inv.QI(I:Inv X pins σ H s)(h:bI X.K H a xs)(h':bI X.K H a ys):xs=ys:=by
 obtain⟨c,r,⟨o,n,e,_,_,d⟩,_⟩:=I.list h;obtain⟨b,i,⟨k,j,f,_,_,g⟩,_⟩:=I.list h';rw[e] at f;cases f;rw[d] at g;injection g with d1 _
 have:c=b:=(by simpa using gw Array.toList d1);subst this;exact r.inj i
theorem Inv.WR(I:Inv X pins σ H s)(h:cD X.K H a xs)(h':cD X.K H a ys):xs=ys:=by
 obtain⟨c,r,⟨o,e,_,n,d⟩,_⟩:=I.tuple h;obtain⟨b,i,⟨k,f,_,j,g⟩,_⟩:=I.tuple h';rw[e] at f;cases f;rw[d] at g;injection g with d1 _
 have:c=b:=(by simpa using gw Array.toList d1);subst this;exact r.inj i
end
noncomputable abbrev Cx.Mg(X:Cx)(E:ar->aw->Prop):Cx:={X with xe:=E}
noncomputable abbrev Cx.Hx(X:Cx):Cx:=X.Mg λ_ _=>False
theorem Cx.Ok.Mg{X:Cx}(ok:X.Ok)(E:ar->aw->Prop):(X.Mg E).Ok :=⟨ok.mod,ok.kind,ok.glob,ok.blt,ok.above,ok.inj,ok.has,ok.cab,ok.hd,ok.frames,ok.stk,ok.exf,ok.bs,ok.YW,ok.WQ,ok.YX,ok.EX,ok.Qj⟩
theorem Cx.Ok.AV{X:Cx}{E:ar->aw->Prop}(ok:(X.Mg E).Ok):X.Ok :=⟨ok.mod,ok.kind,ok.glob,ok.blt,ok.above,ok.inj,ok.has,ok.cab,ok.hd,ok.frames,ok.stk,ok.exf,ok.bs,ok.YW,ok.WQ,ok.YX,ok.EX,ok.Qj⟩
section
variable{X:Cx}{pins:List (am×Obj)}{σ:St}{H:Hp}{s:aw}{E:ar->aw->Prop}
theorem Inv.Mg(I:Inv X pins σ H s)(E:ar->aw->Prop):Inv (X.Mg E) pins σ H s:=⟨I.ok.Mg E,I.os,I.bare,I.base,I.loc,I.cell,I.free,I.vO,I.pin,I.hok,I.len⟩
theorem Inv.AV(I:Inv (X.Mg E) pins σ H s):Inv X pins σ H s:=⟨I.ok.AV,I.os,I.bare,I.base,I.loc,I.cell,I.free,I.vO,I.pin,I.hok,I.len⟩
theorem SP.AV{D:Ends}{f:Flow}{s':aw}(h:SP (X.Mg E) pins D f s'):SP X pins D f s':=by cases f with|next=>obtain⟨a,b,I,q⟩:=h;exact⟨a,b,I.AV,q⟩|brk=>obtain⟨a,b,I,q⟩:=h;exact⟨a,b,I.AV,q⟩|cont=>obtain⟨a,b,I,q⟩:=h;exact⟨a,b,I.AV,q⟩|ret u=>obtain⟨v,a,b,I,r,q⟩:=h;exists v,a,b,I.AV,r,q
theorem iE.Hx{st:List Stmt}{t:TS}(h:iE X.Hx st t):iE X st t:=λpins s σ H D I a => wpAny_mono (h pins s σ H D (I.Mg _) a) (λ_ _ q=>q.AV) λ_ _ z=>kT z
end
section
variable{X:Cx}{st:Stmt}{rest:List Stmt}{t u:TS}{e:Expr}{te:TE}{pos:Pos}
def aiC:TS:=λD σ H=>D.nx σ H
def Y0(t u:TS):TS:=λD σ H=>t {D with nx:=u D} σ H
theorem bw:iE X [] aiC:=λ_ _ a H _ I h=>wpAny_execs_nil ⟨a,H,I,h⟩
theorem aq(g:PS X st t)(e:iE X rest u):iE X (st::rest) (Y0 t u):=by intro a s c H D I h;refine wpAny_execs_cons (ir (g a s c H {D with nx:=u D} I h) λf i q=>?_);cases f with|next=>obtain⟨b,d,j,q⟩:=q;exact e a i b d D j q|ret v=>exact q|brk=>exact q|cont=>exact q
theorem bz(c:PS X st t):iE X [st] t:=by intro a s b H D I h;refine wpAny_execs_cons (ir (c a s b H D I h) λf d q=>?_);cases f with|next=>exact wpAny_execs_nil q|ret v=>exact q|brk=>exact q|cont=>exact q
theorem Inv.quiet{a:List (am×Obj)}{b:St}{H:Hp}{s:aw}(I:Inv X a b H s):interactive X.env=al:=by simp[interactive,I.ok.kind]
def aem(te:TE):TS:=λD σ H=>te σ H λ_ H1=>D.nx σ H1
theorem eE(f:PE X e te)(c:swapsWith e ae pos.line X.env=pure al:=by rfl):PS X (.Expr e pos) (aem te):=by intro a s b H D I h;exact wpAny_Expr_any (ir (f a s b H _ I h) λv j ⟨x,g,i,k,d⟩=>⟨b,g,i,d⟩) I.quiet c
def afE(te:TE):TS:=λD σ H=>te σ H D.rt
theorem Y3(d:PE X e te):PS X (.Return (ac e) pos) (afE te):=by intro a s b H D I h;exact wpAny_Return_some (ir (d a s b H _ I h) λv j ⟨x,f,i,g,c⟩=>⟨x,b,f,i,g,c⟩)
def OL(c:TT)(t u:TS):TS:=λD σ H=>c σ H λb H1=>if b=ag then t D σ H1 else u D σ H1
theorem cC{c:Expr}{a b:List Stmt}{i:TT}(o:PT X c i)(m:iE X a t)(n:iE X b u):PS X (.If c a b pos) (OL i t u):=by intro e s f H D I h;refine wpAny_If (ir (o e s f H _ I h) λd l ⟨g,j,k⟩=>?_);cases d with|true=>exact m e l f g D j k|false=>exact n e l f g D j k
def afF:TS:=λ_ _ _=>False
theorem fh{a:List Stmt}:iE X a afF:=λ_ _ _ _ _ _ h=>h.elim
end
abbrev TG:=V->St->Hp->(St->Hp->Prop)->Prop
abbrev TGs:=List V->St->Hp->(St->Hp->Prop)->Prop
def PG(X:Cx)(target:Expr)(t:TG):Prop:=
 ∀(pins:List (am×Obj))(s:aw)(σ:St)(H:Hp)(v:V)(u:ar)(Q:St->Hp->Prop),Inv X pins σ H s->RelV v u->t v σ H Q ->
  cf (model X.prog X.w) X.A (assign target X.env u) (λ_ s'=>∃σ' H',Inv X pins σ' H' s'/\Q σ' H') X.xe s
def jW(X:Cx)(ts:List Expr)(t:TGs):Prop:=
 ∀(pins:List (am×Obj))(s:aw)(σ:St)(H:Hp)(vs:List V)(us:List ar)(Q:St->Hp->Prop),Inv X pins σ H s->cO vs us->t vs σ H Q ->
  cf (model X.prog X.w) X.A (assignInOrder ((assignEach ts X.env).map (·.2)) us) (λ_ s'=>∃σ' H',Inv X pins σ' H' s'/\Q σ' H') X.xe s
abbrev afH:=V->V->V->Hp->(Hp->Prop)->Prop
def aiD(X:Cx)(t:afH):Prop:=
 ∀(pins:List (am×Obj))(s:aw)(σ:St)(H:Hp)(o i v:V)(ov iv u:ar)(Q:Hp->Prop),Inv X pins σ H s->RelV o ov->RelV i iv->RelV v u->t o i v H Q ->
  cf (model X.prog X.w) X.A (setItem ov iv u) (λ_ s'=>∃H',Inv X pins σ H' s'/\Q H') X.xe s
abbrev TIp:=V->V->Hp->VK->Prop
def PIp(X:Cx)(op:Operator)(t:TIp):Prop:=
 ∀(pins:List (am×Obj))(s:aw)(σ:St)(H:Hp)(x y:V)(v u:ar)(Q:VK),Inv X pins σ H s->RelV x v->RelV y u->t x y H Q ->
  cf (model X.prog X.w) X.A (inplaceOp op v u) (EP X pins σ Q) X.xe s
section
variable{X:Cx}{pos:Pos}
def jq(i:Nat):TG:=λv σ H Q=>Q (σ.set i (ac v)) H
theorem Vu{i:Nat}{x:Str}(e:X.N.Nodup)(c:X.N[i]?=ac x)(b:Loc X.env.scope x)(f:X.fn x=ag∨X.env.scope.names.lookup x=ac .local:=by first|exact .inl rfl|exact .inr rfl|assumption):PG X (.Name x pos) (jq i):=by intro a s g H v u Q I r h;exact wpAny_assign_Name (EY I e c b r (λj d=>⟨_,H,d,h⟩) f)
def amM:TGs:=λvs σ H Q=>vs=[]/\Q σ H
inductive aen(t:TG)(u:TGs)(vs:List V)(σ:St)(H:Hp)(Q:St->Hp->Prop):Prop
 |mk(v:V)(r:List V)(a:vs=v::r)(b:t v σ H λσ' H'=>u r σ' H' Q):aen t u vs σ H Q
theorem za:jW X [] amM:=by intro a s b H c d Q I r h;obtain⟨e,h⟩:=h;subst e;cases r;exact assignInOrder_nil ⟨b,H,I,h⟩
theorem gJ{e:Expr}{b:List Expr}{t:TG}{u:TGs}(k:PG X e t)(g:jW X b u)(o:(assignEach (e::b) X.env).map (·.2)=assign e X.env::(assignEach b X.env).map (·.2):=by rfl):jW X (e::b) (aen t u):=by intro a s d H p w Q I r h;obtain⟨v,q,j,h⟩:=h;subst j;cases r with|cons r i=>rw[o];refine assignInOrder_cons (ir (k a s d H _ _ _ I r h) λ_ n ⟨c,f,l,m⟩=>?_);exact g a n c f _ _ Q l i m
inductive afI(K:ai)(n:Nat)(t:TGs)(v:V)(σ:St)(H:Hp)(Q:St->Hp->Prop):Prop
 |mk(a:am)(xs:List V)(h1:v=.ref a)(h2:cD K H a xs)(h3:wL xs=n)(h4:t xs σ H Q):afI K n t v σ H Q
theorem JG{d:List Expr}{k:Nat}{t:TGs}{n:Nat}(y:X.calm=ag)(h:jW X d t)(x:(assignEach d X.env).length=n:=by rfl)(f:(assignEach d X.env).findIdx? (·.1)=ae:=by rfl):PG X (.Tuple d k pos) (afI X.K n t):=by intro c s i H v u Q I r g;obtain⟨a,l,m,z,w,g⟩:=g;subst m;cases r;obtain⟨C,j,B,D⟩:=I.tuple z;refine assign_Tuple_tuple (I.ok.hd y) B (by simp[x,<- w,j.length]) f λA q=>?_;have p:Inv X c i H {s with heap:=A}:=I.kept (t':=s.toks) λb o e=>q b o (bY (a9 e)) e;exact h c _ i H l _ Q p (by simpa using j) g
def amN(to ti:TE)(t:afH):TG:=λv σ H Q=>to σ H λo H1=>ti σ H1 λi H2=>t o i v H2 λH3=>Q σ H3
theorem GB{o i:Expr}{to e:TE}{t:afH}(q:PE X o to)(p:PE X i e)(D:aiD X t)
 (g:∀v,assign (.Subscript o i pos) X.env v=(do
  let b <- holding [v] (eval o X.env);let c <- holding [v,b] (eval i X.env)
  standAt pos
  holding [v,b,c] (setItem b c v)
  release [v,b,c] []):=by intro _;rfl):PG X (.Subscript o i pos) (amN to e t):=by intro a s d H v u Q I r h;rw[g];refine ax (wpAny_holding (ir (q a s d H _ I h) λb C ⟨x,k,w,l,A⟩=>?_));refine ax (wpAny_holding (ir (p a C d k _ w A) λc n ⟨y,f,F,z,B⟩=>?_));refine ax (wpAny_standAt (ax (wpAny_holding (ir (D a n d f x y v b c u _ F l z r B) λ_ G ⟨j,m,E⟩=>?_))));exact wpAny_release ⟨d,j,m,E⟩
def ab2(te:TE)(g:TG):TS:=λD σ H=>te σ H λx H1=>g x σ H1 D.nx
theorem wR{b e:Expr}{d:TE}{g:TG}(f:PE X e d)(o:PG X b g)(r:swapsWithSole [b] e pos.line X.env=pure al:=by rfl)(p:swappedStores [b] e X.env=pure ae:=by rfl)(k:(assignEach [b] X.env).map (·.2)=[assign b X.env]:=by rfl):PS X (.Assign [b] e pos) (ab2 d g):=by intro a s c H D I h;refine wpAny_Assign_stores (ir (f a s c H _ I h) λv n ⟨x,i,l,j,m⟩=>?_) r p;rw[k];exact ir (o a n c i x v _ l j m) λ_ t q=>q
theorem afJ{i:Nat}{x:Str}{e:Expr}{c:TE}{a:Pos}(k:X.N.Nodup)(m:X.N[i]?=ac x)(o:Loc X.env.scope x)(f:PE X e c)(q:swapsWith e (ac (.Name x a)) pos.line X.env=pure al:=by rfl)(l:X.fn x=ag∨X.env.scope.names.lookup x=ac .local:=by first|exact .inl rfl|exact .inr rfl|assumption) :PS X (.Assign [.Name x a] e pos) (ab2 c (jq i)):=by intro b s d H D I h;refine wpAny_Assign_Name (ir (f b s d H _ I h) λv u ⟨y,g,n,j,p⟩=>?_) q;exact EY n k m o j (λt r=>⟨_,g,r,p⟩) l
def amO(i j:Nat)(ta:TA):TS:=λD σ H=>ta σ H λvs H1=>∃v w,vs=[v,w]/\D.nx ((σ.set i (ac v)).set j (ac w)) H1
theorem afK{i j:Nat}{x y:Str}{a b:Expr}{G:TA}{k t l:Pos}{kt k2 pt2}(T:X.calm=ag)(C:X.N.Nodup)(P:X.N[i]?=ac x)(Z:X.N[j]?=ac y)(m:i≠j) (E:X.env.scope.names.lookup x=ac .local) (J:X.env.scope.names.lookup y=ac .local) (K:PA X [a,b] G) (W:swappedStores [.Tuple [.Name x k,.Name y t] kt l] (.Tuple [a,b] k2 pt2) X.env=pure (ac [x,y])) (Y:swapsWithSole [.Tuple [.Name x k,.Name y t] kt l] (.Tuple [a,b] k2 pt2) pos.line X.env=pure al:=by rfl) :PS X (.Assign [.Tuple [.Name x k,.Name y t] kt l] (.Tuple [a,b] k2 pt2) pos) (amO i j G):=by intro c s z H D I h;rw[exec_Assign_arm];refine ax (wpAny_standAt ?_);rw[Y];refine ax (a6 ?_);rw[e8 (!_)];refine ax (Tuple_ (ir (K _ c s z H _ I h) λS f ⟨vs,B,R,L,r⟩=>?_));obtain⟨v,w,Q,r⟩:=r;subst Q;obtain⟨d,g,rfl,U,n⟩:∃d g,S=[d,g]/\RelV v d/\RelV w g:=(by cases L with|cons p q=>(cases q with|cons V q'=>cases q';exists 31,p,V));refine wpAny_newObj_type ?_ jD;have I2:Inv X c z B {f with heap:=f.heap.push {cls:=.type "tuple",data:=.seq [d,g].toArray}}:=R.kept (t':=f.toks) λb o e=>a7 _ e;rw[W];refine ax (a6 ?_);show cf (model X.prog X.w) X.A (do rule "assign.swapped-stores";let items <- unpackItems (.ref f.heap.objs.size) 2 ae;assignInOrder [λv=>bindName X.env y v,λv=>bindName X.env x v] items.reverse;pure Flow.next) _ _ _;refine ax (wpAny_rule (ax (unpackItems_tuple (items:=#[d,g]) (I.ok.hd T) (IsTup.new f.heap _) λh' u=>?_)));have M:=I2.kept (h':=h') (t':=f.toks) λb o e=>u b o (bY (a9 e)) e;show cf _ _ (assignInOrder [λv=>bindName X.env y v,λv=>bindName X.env x v] [g,d] >>= λ_=>pure Flow.next) _ _ _;refine ax (assignInOrder_cons (wpAny_bindName (EY M C Z (.inl J) n (λs2 O=>?_) (.inr J))));refine assignInOrder_cons (wpAny_bindName (EY O C P (.inl E) U (λs3 F=>assignInOrder_nil (a6 ?_)) (.inr E)));rw[List.set_comm _ _ (bT m)] at F;exists _,B,F,r
def ipI(f:Int->Int->Int):TIp:=λx y H Q=>∃i j,x=.int i/\y=.int j/\Q (.int (f i j)) H
theorem afL:PIp X .Add (ipI λi j=>i+j):=by intro a s f H x y v u Q I b e h;obtain⟨i,j,d,c,q⟩:=h;subst d;subst c;obtain⟨t,rfl⟩:=b;obtain⟨g,rfl⟩:=e;exact iadd_int ⟨.int _,H,I.tok _,⟨1⟩,q⟩
def Y4(c:TT)(tb:TS):TS:=λD σ H=>∃W:Nat->St->Hp->Prop,(∃m,W m σ H)/\∀m σ H,W m σ H ->
 c σ H λb H1=>if b=ag then ∃N:St->Hp->Prop,(∀σ' H',N σ' H'->∃m',m'<m/\W m' σ' H')/\tb {D with nx:=N,ct:=N,bk:=D.nx} σ H1 else D.nx σ H1
theorem Y5{c:Expr}{g:List Stmt}{z:TT}{u:TS}(F:PassesOwn (model X.prog X.w) X.A X.env X.xe)(O:PT X c z)(L:iE X g u):PS X (.While c g [] pos) (Y4 z u):=by intro d s J H D I h;obtain⟨W,⟨S,R⟩,j⟩:=h;refine wpAny_While (codeAny_whileLoop (λn P=>∃k C,Inv X d k C P/\W n k C) ?_ S ⟨J,H,I,R⟩);rintro n Q ⟨e,y,M,G⟩;refine wpAny_passesOwn F (ir (O d Q e y _ M (j n e y G)) λb K ⟨x,E,l⟩=>?_);cases b with|true=>(obtain⟨N,B,l⟩:=l;rw[eL rfl];refine wpAny_passesOwn F (ir (L d K e x _ E l) λf T m=>?_);cases f with|next=>obtain⟨a,i,p,q⟩:=m;obtain⟨r,o,t⟩:=B a i q;exact⟨r,o,a,i,p,t⟩|cont=>obtain⟨a,i,p,q⟩:=m;obtain⟨r,o,t⟩:=B a i q;exact⟨r,o,a,i,p,t⟩|brk=>exact m|ret v=>exact m)|false=>rw[e8 aH];exact wpAny_execs_nil ⟨e,x,E,l⟩
end
structure It where
 go:Nat->Hp->Prop
 QJ:Nat->Hp->V->Hp->Prop
 stop:Nat->Hp->Prop
def E1(X:Cx)(pins:List (am×Obj))(H:Hp)(b:am):Prop:=
 H b=ae/\b≠X.env.locals/\b∉X.fs/\(b∈X.ex∨X.s₀.heap.objs.size<=b)/\(∀x c,X.env.cells.lookup x=ac c->c≠b)/\∀p∈X.pn++pins,p.1≠b
theorem Inv.Y6{X:Cx}{a:List (am×Obj)}{g:St}{H f:Hp}{s:aw}{b:am}(I:Inv X a g H s)(d:s.heap.objs.size<=b)(i:f b=ae):E1 X a f b:=by exists i,Nat.ne_of_gt (cj I.lt d),I.amF d,.inr (aJ I.sz d),λx c e z=>?_,λp h z=>?_;obtain⟨v,q⟩:=I.cell x c e;exact ff (cj q.lt (by rw[z];exact d)) (jf _);exact ff (cj (a9 (I.pin p h).1) (by rw[z];exact d)) (jf _)
structure Turn(P:ci)(w:World)(K:ai)(tg:Expr)(J:It)(fp:List am)(it:am)(tn:Nat->Heap->Prop):Prop where
 mem:it∈fp
 obj:∀i h,tn i h->∀b∈fp,∃o,h.get? b=ac o/\∀v,o.data≠.cell v
 keep:∀i h h',tn i h->(∀b∈fp,∀o,h.get? b=ac o->h'.get? b=ac o)->tn i h'
 item:∀(X:Cx),X.prog=P->X.w=w->X.K=K->X.calm=ag->∀(i:Nat)(pins:List (am×Obj))(s:aw)(σ:St)(H:Hp)(E:ar->aw->Prop),Inv X pins σ H s->(∀b∈fp,E1 X pins H b)->tn i s.heap->J.go i H ->
  cf (model P w) X.A (pyNext (.ref it)) (λr s1=>∃u,r=ac u /\
   cf (model P w) X.A (letOwnedTupleGo tg (.ref it) u) (λ_ s2=>∃x H',Inv X pins σ H' s2/\RelV x u/\J.QJ i H x H'/\tn (i+1) s2.heap/\∀b∈fp,H' b=ae) E s1) E s
 done:∀(X:Cx),X.prog=P->X.w=w->X.K=K->X.calm=ag->∀(i:Nat)(pins:List (am×Obj))(s:aw)(σ:St)(H:Hp)(E:ar->aw->Prop),Inv X pins σ H s->(∀b∈fp,E1 X pins H b)->tn i s.heap->J.stop i H ->
  cf (model P w) X.A (pyNext (.ref it)) (λr s1=>r=ae/\Inv X pins σ H s1) E s
 self:∀(A:cm)(i:Nat)(s:aw)(Q:ar->aw->Prop)(E:ar->aw->Prop),tn i s.heap->Q (.ref it) s->cf (model P w) A (pyIter (.ref it)) Q E s
abbrev TI:=St->Hp->(It->Hp->Prop)->Prop
def PIE(X:Cx)(pins:List (am×Obj))(σ:St)(tg:Expr)(R:It->Hp->Prop)(itv:ar)(s2:aw):Prop:=
 ∃(it:am)(fp:List am)(tn:Nat->Heap->Prop)(J:It)(H':Hp),itv=.ref it/\Inv X pins σ H' s2/\Turn X.prog X.w X.K tg J fp it tn/\tn 0 s2.heap/\(∀b∈fp,E1 X pins H' b)/\R J H'
def PI(X:Cx)(tg iter:Expr)(wi:TI):Prop:=
 ∀(pins:List (am×Obj))(s:aw)(σ:St)(H:Hp)(R:It->Hp->Prop),Inv X pins σ H s->wi σ H R ->
  cf (model X.prog X.w) X.A (eval iter X.env) (λv s1=>cf (model X.prog X.w) X.A (pyIter v) (PIE X pins σ tg R) X.xe s1) X.xe s
theorem Y7{M:Model}{A:cm}{E:ar->aw->Prop}{s:aw}{c:Expr}{b:am}{u:ar}{o:Obj}{n:String}{vs:Array ar}{Q:Unit->aw->Prop}(e:s.heap.get? b=ac o)(g:o.cls=.type n)(d:o.data=.fields vs)(f:["enumerate","zip","dict_itemiterator","dict_reverseitemiterator","odict_iterator","itertools.zip_longest","itertools.pairwise"].contains n=al)(a:Q () s):cf M A (letOwnedTupleGo c (.ref b) u) Q E s:=by
 unfold letOwnedTupleGo;cases c <;> first
  |exact a6 a
  | (cases u <;> first
   |exact a6 a
   | (refine ax (wpAny_load e ?_)
      rw[g,d];show cf M A (if (["enumerate","zip","dict_itemiterator","dict_reverseitemiterator","odict_iterator","itertools.zip_longest","itertools.pairwise"].contains n&&vs[0]?==ac (rawInt _))=ag then _ else _) Q E s;rw[e8 (by intro h;rw[f,Bool.false_and] at h;cases h)];exact a6 a))
noncomputable def OM(K:ai)(a:am):It:=
 ⟨λi H=>∃xs x,bI K H a xs/\xs[i]?=ac x,λi H x H'=>H'=H/\∀xs,bI K H a xs->xs[i]?=ac x,λi H=>∃xs,bI K H a xs/\wL xs<=i⟩
noncomputable def Itt(K:ai)(a:am):It:=
 ⟨λi H=>∃xs x,cD K H a xs/\xs[i]?=ac x,λi H x H'=>H'=H/\∀xs,cD K H a xs->xs[i]?=ac x,λi H=>∃xs,cD K H a xs/\wL xs<=i⟩
noncomputable def Y8(lo:Int)(n:Nat):It:=⟨λi _=>i<n,λi H x H'=>H'=H/\x=.int (lo+i),λi _=>n<=i⟩
theorem WS{P:ci}{w:World}{K:ai}{Z:Expr}(a g:am):Turn P w K Z (OM K a) [g] g (λi h=>h.IsListIter g a i) where
 mem:=-_
 obj:=λi h st b j=>by
  have e:b=g:=by simpa using j
  subst e;obtain⟨o,e,c,d⟩:=st;exists o,e,λv z=>by rw[d] at z;cases z
 keep:=λi h q st k=>st.at λo e=>k g (-_) o e
 item:=by
  intro X L G r O i f s N H E I m st F;subst L G r;obtain⟨R,x,n,t⟩:=F;obtain⟨M,J,p,hz⟩:=I.list n;obtain⟨u,S,T⟩:=J.get t;obtain⟨D,A,Q,B,y,C⟩:=m g (-_);refine wpAny_pyNext_list_item st p.isList (x:=u) (by simpa using S) λq l W=>?_;have U:Inv X f N H {s with heap:=q}:=I.turned (t':=s.toks) (λb o j e=>(W.2 b j).trans e) D A B y C;obtain⟨o,e,c,d⟩:=id l;exists u,2,Y7 (s:={s with heap:=q}) e c d (!_) ⟨x,H,U,T,⟨2,λys Y=>by rw[I.QI Y n];exact t⟩,l,λb j=>(m b j).1⟩
 done:=by
  intro X L G r O i f s N H E I m st F;subst L G r;obtain⟨R,n,t⟩:=F;obtain⟨M,J,p,hz⟩:=I.list n;obtain⟨D,A,Q,B,y,C⟩:=m g (-_);have hl:=J.length;exact wpAny_pyNext_list_end (I.ok.hd O) st p.isList (by simp;lia) λq V=>⟨2,I.turned (t':=s.toks) (λb o j e=>V b o j e) D A B y C⟩
 self:=λ_ _ _ _ _ st h=>wpAny_pyIter_listiter st h
theorem Tv{P:ci}{w:World}{K:ai}{Z:Expr}(a g:am):Turn P w K Z (Itt K a) [g] g (λi h=>h.IsTupleIter g a i) where
 mem:=-_
 obj:=λi h st b j=>by
  have e:b=g:=by simpa using j
  subst e;obtain⟨o,e,c,d⟩:=st;exists o,e,λv z=>by rw[d] at z;cases z
 keep:=λi h r st k=>st.at λo e=>k g (-_) o e
 item:=by
  intro X M J t O i f s N H E I n st G;subst M J t;obtain⟨R,x,q,y⟩:=G;obtain⟨l,L,p,hz⟩:=I.tuple q;obtain⟨u,S,T⟩:=L.get y;obtain⟨F,B,Q,C,A,D⟩:=n g (-_);refine wpAny_pyNext_tuple_item st (show s.heap.IsTuple a l.toArray from p) (x:=u) (by simpa using S) λr m W=>?_;have U:Inv X f N H {s with heap:=r}:=I.turned (t':=s.toks) (λb o j e=>(W.2 b j).trans e) F B C A D;obtain⟨o,e,c,d⟩:=id m;exists u,2,Y7 (s:={s with heap:=r}) e c d (!_) ⟨x,H,U,T,⟨2,λys Y=>by rw[I.WR Y q];exact y⟩,m,λb j=>(n b j).1⟩
 done:=by
  intro X M J t O i f s N H E I n st G;subst M J t;obtain⟨R,q,y⟩:=G;obtain⟨l,L,p,hz⟩:=I.tuple q;obtain⟨F,B,Q,C,A,D⟩:=n g (-_);have hl:=L.length;exact wpAny_pyNext_tuple_end (I.ok.hd O) st (show s.heap.IsTuple a l.toArray from p) (by simp;lia) λr V=>⟨2,I.turned (t':=s.toks) (λb o j e=>V b o j e) F B C A D⟩
 self:=λ_ _ _ _ _ st h=>wpAny_pyIter_tupleiter st h
theorem Tw{P:ci}{w:World}{K:ai}{O:Expr}(a:am)(lo:Int)(n:Nat):Turn P w K O (Y8 lo n) [a] a (λi h=>IsRangeIter h a (lo+(i:Nat)*1) ((n:Int)-(i:Nat)) 1) where
 mem:=-_
 obj:=λi h st b d=>by
  have e:b=a:=by simpa using d
  subst e;exact⟨_,st,λv z=>by
   have J:Data.fields _=Data.cell v:=z;cases J⟩
 keep:=λi h j st k=>k a (-_) _ st
 item:=by
  intro X A y l m i c s C H E I g st x;subst A y l;obtain⟨u,q,G,r,p,B⟩:=g a (-_);have W:=Walks.range (prog:=X.prog) (w:=X.w) (I.ok.hd m) a lo 1 n;refine W.item i s _ _ x st λv j D F f N=>?_;obtain⟨t,rfl⟩:=F;have L:Inv X c C H {s with heap:=j,toks:=D}:=I.turned (λb o d e=>N b o (by simpa using d) e) u q r p B;exists 1,Y7 (s:={s with heap:=j,toks:=D}) (n:="range_iterator") f rfl rfl (!_) ⟨.int (lo+i),H,L,⟨t,4⟩,⟨22⟩,f,λb d=>(g b d).1⟩;rw[Int.mul_one]
 done:=by
  intro X A y l m i c s C H E I g st x;subst A y l;obtain⟨u,q,G,r,p,B⟩:=g a (-_);exact wpAny_pyNext_range_end (I.ok.hd m) st (by have:n<=i:=x;lia) λj M=>⟨2,I.turned (t':=s.toks) (λb o d e=>M b o d e) u q r p B⟩
 self:=λ_ _ _ _ _ st h=>wpAny_pyIter_rangeiter st h
section
variable{X:Cx}{tg:Expr}
inductive aeo(K:ai)(R:It->Hp->Prop)(x:V)(H1:Hp):Prop
 |mk(a:am)(h1:x=.ref a)(h2:∃xs,bI K H1 a xs)(h3:R (OM K a) H1):aeo K R x H1
def aiE(K:ai)(tl:TE):TI:=λσ H R=>tl σ H (aeo K R)
def amQ(K:ai)(tl:TE):TI:=λσ H R=>tl σ H λx H1=>∃a,x=.ref a/\(∃xs,cD K H1 a xs)/\R (Itt K a) H1
theorem eW{l:Expr}{g:TE}(hl:PE X l g):PI X tg l (aiE X.K g):=by intro c s i H R I h;refine ir (hl c s i H _ I h) λv f ⟨x,j,d,k,n⟩=>?_;obtain⟨a,e,⟨u,r⟩,q⟩:=n;subst e;cases k;obtain⟨t,w,p,y⟩:=d.list r;refine wpAny_pyIter_list p.isList ?_;exists f.heap.objs.size,[f.heap.objs.size],33,j,2,d.kept (t':=f.toks) λb o e=>a7 _ e,WS a _,⟨_,a8 _ rfl,22⟩,λb m=>?_,q;have e:b=f.heap.objs.size:=(by simpa using m);subst e;exact d.Y6 (az _) (d.hok.fresh (az _))
theorem Tz{l:Expr}{i:TE}(hl:PE X l i):PI X tg l (amQ X.K i):=by intro d s j H R I h;refine ir (hl d s j H _ I h) λv c ⟨x,k,f,m,r⟩=>?_;obtain⟨a,e,⟨u,t⟩,q⟩:=r;subst e;cases m;obtain⟨g,w,p,y⟩:=f.tuple t;refine wpAny_pyIter_tuple (show c.heap.IsTuple a g.toArray from p) ?_;exists c.heap.objs.size,[c.heap.objs.size],33,k,2,f.kept (t':=c.toks) λb o e=>a7 _ e,Tv a _,⟨_,a8 _ rfl,22⟩,λb n=>?_,q;have e:b=c.heap.objs.size:=(by simpa using n);subst e;exact f.Y6 (az _) (f.hok.fresh (az _))
theorem Y9{c:List (am×Obj)}{d:St}{H:Hp}{s:aw}{R:It->Hp->Prop}{E:ar->aw->Prop}{lo a:Int}{t u v:Tok}{tk:Nat}(I:Inv X c d H s)(k:-(2^62)<=lo)(i:lo<2^62)(m:-(2^62)<=a)(h:a<2^62)(q:R (Y8 lo (a-lo).toNat) H):cf (model X.prog X.w) X.A (pyIter (.ref s.heap.objs.size)) (PIE X c d tg R) E {s with heap:=s.heap.push {cls:=.type "range",data:=.fields #[.int lo t,.int a u,.int 1 v]},toks:=tk}:=by
 refine wpAny_pyIter_range (IsRange.new ..) (small_one k i m h) ?_;have f:Inv X c d H {s with heap:=s.heap.push {cls:=.type "range",data:=.fields #[.int lo t,.int a u,.int 1 v]},toks:=tk}:=I.kept λb o e=>a7 _ e;refine⟨(s.heap.push {cls:=.type "range",data:=.fields #[.int lo t,.int a u,.int 1 v]}).objs.size,[(s.heap.push {cls:=.type "range",data:=.fields #[.int lo t,.int a u,.int 1 v]}).objs.size],33,H,2,
  f.kept (t':=tk) λb o e=>a7 _ e,Tw _ lo (a-lo).toNat,4,λb l=>?_,q⟩
 ·have j:lo+((0:Nat):Int)*1=lo:=-_;have g:(((a-lo).toNat:Nat):Int)-((0:Nat):Int)=Builtin.Range.rangeSize lo a 1:=(by rw[rangeSize_one];split <;> lia);show IsRangeIter _ _ (lo+((0:Nat):Int)*1) ((((a-lo).toNat:Nat):Int)-((0:Nat):Int)) 1;rw[j,g];exact a8 _ rfl
 have e:b=(s.heap.push {cls:=.type "range",data:=.fields #[.int lo t,.int a u,.int 1 v]}).objs.size:=(by simpa using l);subst e;exact f.Y6 (az _) (f.hok.fresh (az _))
inductive aep(R:It->Hp->Prop)(vs:List V)(H1:Hp):Prop
 |mk(j:Int)(h1:vs=[.int j])(h2:-(2^62)<=j)(h3:j<2^62)(h4:R (Y8 0 j.toNat) H1):aep R vs H1
def aiF(ta:TA):TI:=λσ H R=>ta σ H (aep R)
theorem eF{a:Expr}{f:TA}{p c:Pos}(u:Gl X "range")(g:X.mg "range" = ae)(k:PA X [a] f)(v:bn [a] X.env=[(al,eval a X.env)]:=by rfl):PI X tg (.Call (.Name "range" p) [a] [] c) (aiF f):=by intro b s i H R I h;refine Call_ (JF I u g boot_range (PyProof.Rows.callWith_type1 (ir (k c b s i H _ I h) λy z ⟨w,x,n,l,d⟩=>?_) v rfl));obtain⟨j,e,d,o,q⟩:=d;subst e;cases l with|cons r m=>cases m;obtain⟨t,rfl⟩:=r;exact call_range_1 (Y9 n ∅ ∅ d o (by simpa using q))
def aiG(wi:TI)(g:TG)(tb:TS):TS:=λD σ H=>wi σ H λJ H1=>∃W:Nat->Nat->St->Hp->Prop,(∃m,W 0 m σ H1)/\∀i m σ H,W i m σ H ->
 (J.stop i H/\D.nx σ H)∨(J.go i H/\∃N:St->Hp->Prop,(∀σ' H',N σ' H'->∃m',m'<m/\W (i+1) m' σ' H')/\∀x H',J.QJ i H x H'->g x σ H' λσ2 H2=>tb {D with nx:=N,ct:=N,bk:=D.nx} σ2 H2)
noncomputable def JH(fp:List am)(h:Heap):List (am×Obj):=fp.filterMap λb=>(h.get? b).map λo=>(b,o)
theorem DS{fp:List am}{h:Heap}{b:am}{o:Obj}(a:b∈fp)(e:h.get? b=ac o):(b,o)∈JH fp h:=List.mem_filterMap.mpr ⟨b,a,by rw[e];rfl⟩
theorem WT{fp:List am}{h:Heap}{p:am×Obj}(d:p∈JH fp h):p.1∈fp/\h.get? p.1=ac p.2:=by obtain⟨b,c,e⟩:=List.mem_filterMap.mp d;cases q:h.get? b with|none=>rw[q] at e;cases e|some o=>rw[q] at e;have a:(b,o)=p:=aO e;subst a;exists c,q
theorem Inv.pinned{a:List (am×Obj)}{c:St}{H:Hp}{s:aw}{fp:List am}(I:Inv X a c H s)(i:∀b∈fp,E1 X a H b)(j:∀b∈fp,∃o,s.heap.get? b=ac o/\∀v,o.data≠.cell v):Inv X (a++JH fp s.heap) c H s:=
 I.Vt λp m=>(bU.mp m).elim (λz=>I.pin p (fq _ z)) λz=>by
  obtain⟨f,e⟩:=WT z;obtain⟨l,k,h,_⟩:=i p.1 f;obtain⟨o,g,d⟩:=j p.1 f;rw[e] at g;cases g;exists e,l,k,h,d
theorem Inv.E2{a pl:List (am×Obj)}{b:St}{H:Hp}{s:aw}(I:Inv X (a++pl) b H s):Inv X a b H s:=I.Vt λp c=>I.pin p (fq _ (List.mem_append_left _ c))
theorem afM{c:Expr}{B:List Stmt}{wi:TI}{g:TG}{tb:TS}{R:Pos}(M:PassesOwn (model X.prog X.w) X.A X.env X.xe)(hc:X.calm=ag)(hi:PI X tg c wi)(hg:PG X tg g)(k:iE X B tb)(hs:∀x,foldedSetIterable c X.env x=pure x:=by intro _;rfl):PS X (.For tg c B [] R) (aiG wi g tb):=by intro a s σ H D I h;refine wpAny_For (ir (hi a s σ H _ I h) λv s1 h1=>ir h1 λitv s2 h2=>?_) hs;obtain⟨it,E,tn,J,H2,e,I2,T,Z,f2,W,⟨m0,w0⟩,O⟩:=h2;subst e;have y:∀{z:Hp},(∀b∈E,z b=ae)->∀b∈E,E1 X a z b:=λhn b k=>⟨hn b k,(f2 b k).2⟩;refine codeAny_forLoop_any (λn s'=>∃i q z,Inv X a q z s'/\tn i s'.heap/\(∀b∈E,z b=ae)/\W i n q z) ?_ m0 ⟨(0),σ,H2,I2,Z,λb k=>(f2 b k).1,w0⟩;rintro n s3 ⟨i,l,P,I3,G,L,w3⟩;rcases O i n l P w3 with ⟨F,qn⟩|⟨go,N,hN,step⟩;refine wpAny_passesOwn M (ir (T.done X rfl rfl rfl hc i a s3 l P X.xe I3 (y L) G F) λr s4 ⟨hr,I4⟩=>?_);subst hr;exact wpAny_execs_nil ⟨l,P,I4,qn⟩;·refine wpAny_passesOwn M (ir (T.item X rfl rfl rfl hc i a s3 l P X.xe I3 (y L) G go) λr s4 ⟨u,hr,h4⟩=>?_);subst hr;refine wpAny_passesOwn M (ir h4 λ_ s5 ⟨x,H5,I5,r5,y5,Q,U⟩=>?_);have V:=I5.pinned (y U) (T.obj _ _ Q);refine wpAny_passesOwn M (ir (hg _ s5 l H5 x u _ V r5 (step x H5 y5)) λ_ s6 ⟨Y,H6,I6,q6⟩=>?_);refine wpAny_passesOwn M (ir (k _ s6 Y H6 _ I6 q6) λf S C=>?_);have again:∀{j:St}{p:Hp},Inv X (a++JH E s5.heap) j p S->N j p->∃m,m<n/\∃i q z,Inv X a q z S/\tn i S.heap/\(∀b∈E,z b=ae)/\W i m q z:=λ{j p}t K=>(by obtain⟨m',hm,w7⟩:=hN j p K;exists m',hm,i+1,j,p,t.E2,T.keep _ _ _ Q λb k o e=>(t.pin (b,o) (fq _ (fq _ (DS k e)))).1,λb k=>?_,w7;obtain⟨o,e,d⟩:=T.obj _ _ Q b k;exact (t.pin (b,o) (fq _ (fq _ (DS k e)))).2.1);cases f with|next=>obtain⟨j,p,t,K⟩:=C;exact again t K|cont=>obtain⟨j,p,t,K⟩:=C;exact again t K|brk=>obtain⟨j,p,t,C⟩:=C;exact⟨j,p,t.E2,C⟩|ret v=>obtain⟨x7,j,p,t,r7,C⟩:=C;exists x7,j,p,t.E2,r7,C
end
theorem ye{K:ai}{a:am}{xs:List V}{g:TG}{l:TS}{D:Ends}{b:St}{H:Hp}(c:Nat->St->Hp->Prop)(r:c 0 b H)(hl:∀i b H,i<=wL xs->c i b H->bI K H a xs)(u:∀i x b H,xs[i]?=ac x->c i b H->g x b H λf k=>l {D with nx:=c (i+1),ct:=c (i+1),bk:=D.nx} f k)(o:∀b H,c (wL xs) b H->D.nx b H) :∃W:Nat->Nat->St->Hp->Prop,(∃m,W 0 m b H)/\∀i m b H,W i m b H ->((OM K a).stop i H/\D.nx b H)∨((OM K a).go i H/\∃N:St->Hp->Prop,(∀h d,N h d->∃n,n<m/\W (i+1) n h d)/\∀x d,(OM K a).QJ i H x d->g x b d λf k=>l {D with nx:=N,ct:=N,bk:=D.nx} f k):=by exists λi m b H=>m=xs.length-i/\i<=wL xs/\c i b H,⟨xs.length,-_,aS _,r⟩,4;rintro i m b H ⟨rfl,s,p⟩;have q:=hl i b H s p;by_cases j:i<wL xs;refine .inr ⟨⟨xs,xs[i],q,by simp[j]⟩,c (i+1),λh d t=>⟨wL xs-(i+1),62,j,t⟩,λx d y=>?_⟩;obtain⟨e,y⟩:=y;subst e;exact u i x b _ (y xs q) p;have e:i=xs.length:=∅;subst e;exact .inl ⟨⟨xs,q,az _⟩,o b H p⟩
theorem yf{lo:Int}{n:Nat}{g:TG}{k:TS}{D:Ends}{a:St}{H:Hp}(b:Nat->St->Hp->Prop)(q:b 0 a H)(s:∀i a H,i<n->b i a H->g (.int (lo+i)) a H λd j=>k {D with nx:=b (i+1),ct:=b (i+1),bk:=D.nx} d j)(o:∀a H,b n a H->D.nx a H) :∃W:Nat->Nat->St->Hp->Prop,(∃m,W 0 m a H)/\∀i m a H,W i m a H ->((Y8 lo n).stop i H/\D.nx a H)∨((Y8 lo n).go i H/\∃N:St->Hp->Prop,(∀f c,N f c->∃l,l<m/\W (i+1) l f c)/\∀x c,(Y8 lo n).QJ i H x c->g x a c λd j=>k {D with nx:=N,ct:=N,bk:=D.nx} d j):=by exists λi m a H=>m=n-i/\i<=n/\b i a H,⟨n,-_,aS _,q⟩,4;rintro i m a H ⟨rfl,t,p⟩;by_cases h:i<n;refine .inr ⟨h,b (i+1),λf c r=>⟨n-(i+1),62,h,r⟩,λx c y=>?_⟩;obtain⟨e,y⟩:=y;subst e y;exact s i a _ h p;have e:i=n:=∅;subst e;exact .inl ⟨az _,o a H p⟩
theorem Zb{c:TT}{j:TS}{D:Ends}{a:St}{H:Hp}(g:St->Hp->Prop)(i:St->Hp->Nat)(n:g a H)(r:∀a H,g a H->c a H λb e=>if b=ag then j {D with nx:=λd f=>g d f/\i d f<i a H,ct:=λd f=>g d f/\i d f<i a H,bk:=D.nx} a e else D.nx a e)(h:∀a H Q k,(∀b e,Q b e->k b e)->c a H Q->c a H k):Y4 c j D a H:=by exists λm a H=>m=i a H/\g a H,⟨1,n⟩,4;rintro m a H ⟨rfl,p⟩;refine h a H _ _ (λb e q=>?_) (r a H p);cases b with|true=>exact⟨_,λd f ⟨o,l⟩=>⟨_,l,2,o⟩,q⟩|false=>exact q
abbrev R2:=V->V->Hp->VK->Prop
def ya(X:Cx)(f:ar->ar->Sem ar)(r:R2):Prop:=
 ∀(pins:List (am×Obj))(s:aw)(σ:St)(H:Hp)(x y:V)(v u:ar)(Q:VK),Inv X pins σ H s->RelV x v->RelV y u->r x y H Q ->
  cf (model X.prog X.w) X.A (f v u) (EP X pins σ Q) X.xe s
def UnR(X:Cx)(f:ar->Sem ar)(r:V->Hp->VK->Prop):Prop:=
 ∀(pins:List (am×Obj))(s:aw)(σ:St)(H:Hp)(x:V)(v:ar)(Q:VK),Inv X pins σ H s->RelV x v->r x H Q ->
  cf (model X.prog X.w) X.A (f v) (EP X pins σ Q) X.xe s
def qg(X:Cx)(f:ar)(r:List V->Hp->VK->Prop):Prop:=
 ∀(pins:List (am×Obj))(s:aw)(σ:St)(H:Hp)(xs:List V)(us:List ar)(Q:VK),Inv X pins σ H s->cO xs us->r xs H Q ->
  cf (model X.prog X.w) X.A (call f us) (EP X pins σ Q) X.xe s
def amS(X:Cx)(r:V->Hp->(Bool->Hp->Prop)->Prop):Prop:=
 ∀(pins:List (am×Obj))(s:aw)(σ:St)(H:Hp)(x:V)(v:ar)(Q:Bool->Hp->Prop),Inv X pins σ H s->RelV x v->r x H Q ->
  cf (model X.prog X.w) X.A (truthy v) (TP X pins σ Q) X.xe s
def nT(r:R2)(ta tb:TE):TE:=λσ H Q=>ta σ H λx H1=>tb σ H1 λy H2=>r x y H2 Q
def tUn(r:V->Hp->VK->Prop)(ta:TE):TE:=λσ H Q=>ta σ H λx H1=>r x H1 Q
inductive rI(C:Int->Int->Prop)(g:Int->Int->V)(x y:V)(H:Hp)(Q:VK):Prop
 |mk(i j:Int)(h1:x=.int i)(h2:y=.int j)(h3:C i j)(h4:Q (g i j) H):rI C g x y H Q
inductive Zc(g:Int->Int->V)(x y:V)(H:Hp)(Q:VK):Prop
 |mk(i j:Int)(h1:x=.int i)(h2:y=.int j)(h3:Q (g i j) H):Zc g x y H Q
def rU(g:Int->V):V->Hp->VK->Prop:=λx H Q=>∃i,x=.int i/\Q (g i) H
section
variable{X:Cx}{a b c:Expr}{ta tb tc:TE}{pos:Pos}
theorem afN(l:PE X a ta)(o:PE X b tb){c:List (am×Obj)}{s:aw}{d:St}{H:Hp}{R:V->V->Hp->Prop}(I:Inv X c d H s)(h:ta d H λx k=>tb d k λy e=>R x y e){Q:ar->aw->Prop}{f:ar->ar->Sem ar}(n:∀v u j x y e,Inv X c d e j->RelV x v->RelV y u->R x y e->cf (model X.prog X.w) X.A (f v u) Q X.xe j) :cf (model X.prog X.w) X.A (eval a X.env) (λv g=>cf (model X.prog X.w) X.A (eval b X.env) (λu i=>cf (model X.prog X.w) X.A (f v u) Q X.xe i) X.xe g) X.xe s:=by refine ir (l c s d H _ I h) λv z ⟨x,k,p,m,r⟩=>?_;refine ir (o c z d k _ p r) λu j ⟨y,e,B,q,t⟩=>?_;exact n v u j x y e B m q t
theorem bf{op:Operator}{r:R2}(j:ya X (binaryOp op) r)(f:PE X a ta)(k:PE X b tb):PE X (.BinOp a op b pos) (nT r ta tb):=by intro c s d H Q I h;exact wpAny_BinOp (afN f k I h λv u g x y e m l i q=>j c g d e x y v u Q m l i q)
theorem aeq{op:UnaryOp}{r:V->Hp->VK->Prop}(j:UnR X (unaryOp op) r)(e:PE X a ta):PE X (.UnaryOp op a pos) (tUn r ta):=by intro b s c H Q I h;exact UnaryOp_ (ir (e b s c H _ I h) λv f ⟨x,g,k,i,d⟩=>j b f c g x v Q k i d)
theorem opI{f:ar->ar->Sem ar}{C:Int->Int->Prop}{g:Int->Int->Int}(rule:∀(i j:Int)(t u:Tok)(s:aw)(Q:ar->aw->Prop)(E:ar->aw->Prop),C i j->Q (.int (g i j) s.toks) {s with toks:=s.toks+1}->cf (model X.prog X.w) X.A (f (.int i t) (.int j u)) Q E s) :ya X f (rI C λi j=>.int (g i j)):=by intro a s k H x y v u Q I d b h;obtain⟨i,j,rfl,rfl,c,q⟩:=h;obtain⟨t,rfl⟩:=d;obtain⟨e,rfl⟩:=b;exact rule i j t e s _ _ c ⟨.int (g i j),H,I.tok _,⟨1⟩,q⟩
theorem ab3{f:ar->ar->Sem ar}{g:Int->Int->Int}(rule:∀(i j:Int)(t u:Tok)(s:aw)(Q:ar->aw->Prop)(E:ar->aw->Prop),Q (.int (g i j) s.toks) {s with toks:=s.toks+1}->cf (model X.prog X.w) X.A (f (.int i t) (.int j u)) Q E s) :ya X f (Zc λi j=>.int (g i j)):=by intro a s e H x y v u Q I c b h;obtain⟨i,j,rfl,rfl,q⟩:=h;obtain⟨t,rfl⟩:=c;obtain⟨d,rfl⟩:=b;exact rule i j t d s _ _ ⟨.int (g i j),H,I.tok _,⟨1⟩,q⟩
theorem ab4{f:ar->ar->Sem ar}{g:Int->Int->Bool}(rule:∀(i j:Int)(t u:Tok)(s:aw)(Q:ar->aw->Prop)(E:ar->aw->Prop),Q (.bool (g i j)) s->cf (model X.prog X.w) X.A (f (.int i t) (.int j u)) Q E s) :ya X f (Zc λi j=>.bl (g i j)):=by intro a s e H x y v u Q I c b h;obtain⟨i,j,rfl,rfl,q⟩:=h;obtain⟨t,rfl⟩:=c;obtain⟨d,rfl⟩:=b;exact rule i j t d s _ _ ⟨.bl (g i j),H,I,2,q⟩
def amT(i j:Int):Prop:=0<j/\j<1073741824
def aiI(i j:Int):Prop:=0<=j/\j<=1000000/\i.natAbs<2^64
def afO(i j:Int):Prop:=(-(2^64)<i/\i<2^64)∨(-(2^64)<j/\j<2^64)
theorem afO.ok{i j:Int}(h:afO i j):IntMulOk i j:=by rcases h with ⟨b,a⟩|⟨b,a⟩;exact .of_left (intBits_le_64 b a);exact .of_right (intBits_le_64 b a)
theorem TF(k:Nat):(0:Int)<=2^k:=by rw[two_pow_cast];exact Int.natCast_nonneg _
theorem gm:ya X (binaryOp .Add) (Zc λi j=>.int (i+j)):=ab3 λ_ _ _ _ _ _ _ q=>add_int q
theorem zb:ya X (binaryOp .Sub) (Zc λi j=>.int (i-j)):=ab3 λ_ _ _ _ _ _ _ q=>sub_int q
theorem Zd:ya X (binaryOp .Mult) (rI afO λi j=>.int (i*j)):=opI λ_ _ _ _ _ _ _ a q=>mul_int q a.ok
theorem eG:ya X (binaryOp .FloorDiv) (rI amT λi j=>.int (i/j)):=opI λi j _ _ _ _ _ a q=>by
 have c:(0:Int)<j:=a.1;have b:j<1073741824:=a.2;exact floordiv_int ∅ (by rw[Int.fdiv_eq_ediv_of_nonneg i ∅];exact q) (.inl (PyProof.noPylong_small ∅))
theorem dc:ya X (binaryOp .Mod) (rI (λ_ j=>0<j) λi j=>.int (i%j)):=opI λi j _ _ _ _ _ a q=>by
 have b:(0:Int)<j:=a;exact mod_int' ∅ (by rw[Int.fmod_eq_emod_of_nonneg i ∅];exact q)
theorem Ze:ya X (binaryOp .Pow) (rI aiI λi j=>.int (i^j.toNat)):=opI λ_ _ _ _ _ _ _ a q=>pow_int_small a.1 a.2.1 a.2.2 q
theorem afP:ya X (binaryOp .LShift) (rI aiI λi j=>.int (i*2^j.toNat)):=opI λ_ _ _ _ _ _ _ a q=>lshift_int_small a.1 a.2.1 a.2.2 q
theorem afQ:ya X (binaryOp .RShift) (rI (λ_ j=>0<=j) λi j=>.int (i/2^j.toNat)):=opI λi j _ _ _ _ _ a q => rshift_int a (by rw[Int.fdiv_eq_ediv_of_nonneg i (TF _)];exact q)
theorem Zf:ya X (binaryOp .BitAnd) (Zc λi j=>.int (Builtin.bitAnd i j)):=ab3 λ_ _ _ _ _ _ _ q=>and_int q
theorem aiJ:ya X (binaryOp .BitOr) (Zc λi j=>.int (Builtin.bitOr i j)):=ab3 λ_ _ _ _ _ _ _ q=>or_int q
theorem unI{f:ar->Sem ar}{g:Int->Int}(rule:∀(i:Int)(t:Tok)(s:aw)(Q:ar->aw->Prop)(E:ar->aw->Prop),Q (.int (g i) s.toks) {s with toks:=s.toks+1}->cf (model X.prog X.w) X.A (f (.int i t)) Q E s) :UnR X f (rU λi=>.int (g i)):=by intro a s c H x v Q I b h;obtain⟨i,rfl,q⟩:=h;obtain⟨t,rfl⟩:=b;exact rule i t s _ _ ⟨.int (g i),H,I.tok _,⟨1⟩,q⟩
theorem Zg:UnR X (unaryOp .USub) (rU λi=>.int (-i)):=unI λ_ _ _ _ _ q=>neg_int q
end
noncomputable def afR:V->V->Bool
 |.gk,.gk=>ag|.gk,.int _=>ag|.int _,.gk=>ag|.gk,.bl _=>ag|.bl _,.gk=>ag|.gk,.str _=>ag|.str _,.gk=>ag
 |.int _,.int _=>ag|.bl _,.bl _=>ag|.str _,.str _=>ag|.Vs _,.Vs _=>ag
 |.int _,.str _=>ag|.str _,.int _=>ag|.bl _,.str _=>ag|.str _,.bl _=>ag
 |_,_=>al
inductive rEq(x y:V)(H:Hp)(Q:VK):Prop
 |mk(a:afR x y=ag)(b:Q (.bl (decide (x=y))) H):rEq x y H Q
inductive rNe(x y:V)(H:Hp)(Q:VK):Prop
 |mk(a:afR x y=ag)(b:Q (.bl (!decide (x=y))) H):rNe x y H Q
theorem Vv{i j:Int}:decide (V.int i=V.int j)=(i==j):=by rw[jo];simp
theorem Zh{i j:Bool}:decide (V.bl i=V.bl j)=(i==j):=by rw[jo];simp
theorem Vw{i j:Str}:decide (V.str i=V.str j)=(i==j):=by rw[jo];simp
theorem Vx{i j:Array UInt8}:decide (V.Vs i=V.Vs j)=(i.toList==j.toList):=by rw[jo];cases i;cases j;simp
section
variable{X:Cx}{a b c:Expr}{ta tb tc:TE}{pos:Pos}
theorem eT{a:List (am×Obj)}{c:St}{H:Hp}{s:aw}{Q:VK}{k b:Bool}(I:Inv X a c H s)(q:Q (.bl k) H)(e:k=b):EP X a c Q (.bool b) s:=by subst e;exists .bl k,H,I,2,q
theorem kU:ya X (bv .Eq) rEq:=by intro e s f H x y v u Q I d a h;obtain⟨c,q⟩:=h;cases x with|gk=>(cases d;cases y with|gk=>cases a;exact PySem.EqNone.eq_none_none (eT I q (-_))|bl j=>cases a;exact PySem.EqNone.eq_none_bool (eT I q (-_))|int j=>obtain⟨b,rfl⟩:=a;exact PySem.EqNone.eq_none_int (eT I q (-_))|str j=>obtain⟨b,rfl⟩:=a;exact PySem.EqNone.eq_none_str (eT I q (-_))|_=>exact ff (show al=ag from c) aH)|bl i=>(cases d;cases y with|gk=>cases a;exact PySem.EqNone.eq_bool_none (eT I q (-_))|bl j=>cases a;exact eq_bool (eT I q Zh)|str j=>obtain⟨b,rfl⟩:=a;exact PySem.EqMixed.eq_bool_str (eT I q (-_))|_=>exact ff (show al=ag from c) aH)|int i=>(obtain⟨t,rfl⟩:=d;cases y with|gk=>cases a;exact PySem.EqNone.eq_int_none (eT I q (-_))|int j=>obtain⟨b,rfl⟩:=a;exact eq_int (eT I q Vv)|str j=>obtain⟨b,rfl⟩:=a;exact PySem.EqMixed.eq_int_str (eT I q (-_))|_=>exact ff (show al=ag from c) aH)|str i=>(obtain⟨t,rfl⟩:=d;cases y with|gk=>cases a;exact PySem.EqNone.eq_str_none (eT I q (-_))|bl j=>cases a;exact PySem.EqMixed.eq_str_bool (eT I q (-_))|int j=>obtain⟨b,rfl⟩:=a;exact PySem.EqMixed.eq_str_int (eT I q (-_))|str j=>obtain⟨b,rfl⟩:=a;exact eq_str (eT I q Vw)|_=>exact ff (show al=ag from c) aH)|Vs i=>(obtain⟨t,rfl⟩:=d;cases y with|Vs j=>obtain⟨b,rfl⟩:=a;exact PySem.W.eq_bytes (eT I q Vx)|_=>exact ff (show al=ag from c) aH)|_=>cases y <;> exact ff (show al=ag from c) aH
theorem rJ:ya X (bv .NotEq) rNe:=by intro e s f H x y v u Q I d a h;obtain⟨c,q⟩:=h;cases x with|gk=>(cases d;cases y with|gk=>cases a;exact PySem.EqNone.ne_none_none (eT I q (-_))|bl j=>cases a;exact PySem.EqNone.ne_none_bool (eT I q (-_))|int j=>obtain⟨b,rfl⟩:=a;exact PySem.EqNone.ne_none_int (eT I q (-_))|str j=>obtain⟨b,rfl⟩:=a;exact PySem.EqNone.ne_none_str (eT I q (-_))|_=>exact ff (show al=ag from c) aH)|bl i=>(cases d;cases y with|gk=>cases a;exact PySem.EqNone.ne_bool_none (eT I q (-_))|bl j=>cases a;exact ne_bool (eT I q (gw not Zh))|str j=>obtain⟨b,rfl⟩:=a;exact PySem.EqMixed.ne_bool_str (eT I q (-_))|_=>exact ff (show al=ag from c) aH)|int i=>(obtain⟨t,rfl⟩:=d;cases y with|gk=>cases a;exact PySem.EqNone.ne_int_none (eT I q (-_))|int j=>obtain⟨b,rfl⟩:=a;exact ne_int (eT I q (gw not Vv))|str j=>obtain⟨b,rfl⟩:=a;exact PySem.EqMixed.ne_int_str (eT I q (-_))|_=>exact ff (show al=ag from c) aH)|str i=>(obtain⟨t,rfl⟩:=d;cases y with|gk=>cases a;exact PySem.EqNone.ne_str_none (eT I q (-_))|bl j=>cases a;exact PySem.EqMixed.ne_str_bool (eT I q (-_))|int j=>obtain⟨b,rfl⟩:=a;exact PySem.EqMixed.ne_str_int (eT I q (-_))|str j=>obtain⟨b,rfl⟩:=a;exact ne_str (eT I q (gw not Vw))|_=>exact ff (show al=ag from c) aH)|Vs i=>(obtain⟨t,rfl⟩:=d;cases y with|Vs j=>obtain⟨b,rfl⟩:=a;exact PySem.W.ne_bytes (eT I q (gw not Vx))|_=>exact ff (show al=ag from c) aH)|_=>cases y <;> exact ff (show al=ag from c) aH
theorem oO:ya X (bv .Lt) (Zc λi j=>.bl (decide (i<j))):=ab4 λ_ _ _ _ _ _ _ q=>lt_int q
theorem rK:ya X (bv .LtE) (Zc λi j=>.bl (decide (i<=j))):=ab4 λ_ _ _ _ _ _ _ q=>le_int q
theorem Vy:ya X (bv .Gt) (Zc λi j=>.bl (decide (j<i))):=ab4 λ_ _ _ _ _ _ _ q=>gt_int q
theorem aiK:ya X (bv .GtE) (Zc λi j=>.bl (decide (j<=i))):=ab4 λ_ _ _ _ _ _ _ q=>ge_int q
theorem TH:ya X (bv .Is) (λx y H Q=>y=.gk/\Q (.bl (decide (x=.gk))) H):=by
 intro b s d H x y v u Q I a c h;obtain⟨rfl,q⟩:=h;cases c;refine is_none_gen (eT I q ?_);cases x <;> first
  | (cases a;rfl)
  | (obtain⟨t,rfl⟩:=a;rfl)
theorem E3:ya X (bv .IsNot) (λx y H Q=>y=.gk/\Q (.bl (!decide (x=.gk))) H):=by
 intro b s d H x y v u Q I a c h;obtain⟨rfl,q⟩:=h;cases c;refine isnot_none_gen (eT I q ?_);cases x <;> first
  | (cases a;rfl)
  | (obtain⟨t,rfl⟩:=a;rfl)
theorem Zi(b:Expr){op:CmpOp}(h:op≠.In:=by decide)(a:op≠.NotIn:=by decide):behindInMarks op b=al:=by have c:(op==CmpOp.In)=al:=(by cases op <;> first|rfl|exact ff rfl h);have d:(op==CmpOp.NotIn)=al:=(by cases op <;> first|rfl|exact ff rfl a);cases b <;> simp[behindInMarks,c,d]
theorem ab5{op:CmpOp}{r:R2}(k:ya X (bv op) r)(g:PE X a ta)(l:PE X b tb)(d:behindInMarks op b=al):PE X (.Compare a [op] [b] pos) (nT r ta tb):=by intro c s e H Q I h;exact wpAny_Compare1 (afN g l I h λv u i x y f n m j q=>k c i e f x y v u Q n m j q) d
def Zj(t:TE):TT:=λσ H Q=>t σ H (BlR Q)
theorem iU{op:CmpOp}{r:R2}(q:ya X (bv op) r)(j:PE X a ta)(t:PE X b tb)(g:behindInMarks op b=al):PT X (.Compare a [op] [b] pos) (Zj (nT r ta tb)):=by intro d s f H Q I h;refine wpAny_isTrue_Compare1 (ir (j d s f H _ I h) λv E ⟨x,m,w,n,C⟩=>ir (t d E f m _ w C) λu p ⟨y,i,G,B,D⟩ => ir (q d p f i x y v u _ G n B D) λc J ⟨z,l,o,A,k,e,F⟩=>?_) g;subst e;cases A;exact wpAny_truthy_bool ⟨l,o,F⟩
def Zk(r r':R2)(ta tb tc:TE):TE:=λσ H Q=>ta σ H λx H1=>tb σ H1 λy H2=>r x y H2 λz H3=>∃k,z=.bl k /\
 (if k=ag then tc σ H3 λw' H4=>r' y w' H4 Q else Q (.bl al) H3)
theorem QK{op g:CmpOp}{r p:R2}(G:ya X (bv op) r)(j:ya X (bv g) p)(A:PE X a ta)(M:PE X b tb)(P:PE X c tc)(q:lastMarks [op,g] [b,c]=al:=by with_unfolding_all rfl):PE X (.Compare a [op,g] [b,c] pos) (Zk r p ta tb tc):=by intro f s i H Q I h;refine Compare_chain (ir (A f s i H _ I h) λv T ⟨x,B,L,C,R⟩=>chain_link (ir (M f T i B _ L R) λu E ⟨y,w,V,n,S⟩ => ir (G f E i w x y v u _ V C n S) λd O ⟨z,l,m,N,k,e,o⟩=>?_)) q;subst e;cases N;refine wpAny_truthy_bool ?_;cases k with|false=>exact ite_ff ⟨.bl al,l,m,2,o⟩|true=>exact ite_tt (chain_last (ir (P f O i l _ m o) λW J ⟨F,K,D,t,U⟩=>j f J i K y F u W Q D n t U))
theorem jZ{op g:CmpOp}{r p:R2}(L:ya X (bv op) r)(j:ya X (bv g) p)(A:PE X a ta)(P:PE X b tb)(V:PE X c tc)(q:lastMarks [op,g] [b,c]=al:=by with_unfolding_all rfl):PT X (.Compare a [op,g] [b,c] pos) (Zj (Zk r p ta tb tc)):=by intro f s i H Q I h;refine isTrue_chain (ir (A f s i H _ I h) λv Z ⟨x,B,O,C,U⟩=>test_link (ir (P f Z i B _ O U) λu F ⟨y,w,I2,n,W⟩ => ir (L f F i w x y v u _ I2 C n W) λd T ⟨z,l,m,S,k,e,o⟩=>?_)) q;subst e;cases S;refine wpAny_truthy_bool ?_;cases k with|false=>obtain⟨k',Y,q'⟩:=o;cases Y;exact ite_ff ⟨l,m,q'⟩|true=>refine ite_tt (test_last (ir (V f T i l _ m o) λw' M ⟨K,N,E,t,q4⟩=>ir (j f M i N y K u w' _ E n t q4) λd' s5 ⟨z2,D,R,J,k2,G,q5⟩=>?_));subst G;cases J;exact wpAny_truthy_bool ⟨D,R,q5⟩
def afS(K:ai)(x:V)(H:Hp)(k:Bool):Prop:=
 match x with
 |.gk=>k=al
 |.bl b=>k=b
 |.int i=>k=(i != 0)
 |.str y=>y.length<=bc/\k=((y.length:Int) != 0)
 |.Vs y=>y.size<=bc/\k=((y.size:Int) != 0)
 |.ref p=>(∃xs,bI K H p xs/\k=!xs.isEmpty)∨(∃xs,cD K H p xs/\k=!xs.isEmpty)∨∃kvs,H p=ac (.dK kvs)/\k=!kvs.isEmpty
 |_=>False
theorem TJ{a:Type}{kvs:List (a×V)}{vs:List (a×ar)}(r:KV kvs vs):(!vs.isEmpty)=!kvs.isEmpty:=by cases r <;> rfl
theorem JI{xs:List V}{a:List ar}(r:cO xs a):(!a.toArray.isEmpty)=!xs.isEmpty:=by cases r <;> simp
theorem JJ:(bc:Nat)<2^63:=by rw[sizeLine_eq];decide
theorem afT:amS X (λx H Q=>∃k,afS X.K x H k/\Q k H):=by intro u s C H x v Q I g h;obtain⟨k,e,q⟩:=h;have D:=JJ;have E:bc=16777216:=sizeLine_eq;cases x with|gk=>cases g;have a:k=al:=e;subst a;exact truthy_none ⟨H,I,q⟩|bl b=>cases g;have a:k=b:=e;subst a;exact wpAny_truthy_bool ⟨H,I,q⟩|int i=>obtain⟨t,rfl⟩:=g;have a:k=(i != 0):=e;subst a;exact PySem.P.truthy_int ⟨H,I,q⟩|str y=>obtain⟨t,rfl⟩:=g;obtain⟨B,a⟩:y.length<=bc/\k=((y.length:Int) != 0):=e;subst a;exact PySem.P.truthy_str ∅ ⟨H,I.tok _,q⟩|Vs y=>obtain⟨t,rfl⟩:=g;obtain⟨B,a⟩:y.size<=bc/\k=((y.size:Int) != 0):=e;subst a;exact PySem.W.truthy_bytes ∅ ⟨H,I.tok _,q⟩|ref p=>(cases g;have a:(∃f,bI X.K H p f/\k=!f.isEmpty)∨(∃f,cD X.K H p f/\k=!f.isEmpty)∨∃c,H p=ac (.dK c)/\k=!c.isEmpty:=e;rcases a with ⟨f,j,a⟩|⟨f,j,a⟩|⟨c,j,a⟩;subst a;obtain⟨o,r,n,z⟩:=I.list j;have d:=r.length;exact wpAny_truthy_list n.isList (by simp only[aU];lia) ⟨H,I.tok _,by rw[JI r];exact q⟩;subst a;obtain⟨o,r,n,z⟩:=I.tuple j;have d:=r.length;exact truthy_tuple n (by simp only[aU];lia) ⟨H,I.tok _,by rw[JI r];exact q⟩;subst a;obtain⟨z,A,l,r,m⟩:wL c<=bc/\(p==sysModules)=al/\∃l,KV c l/\s.heap.DictOf (i6 X.prog X.w) p l:=I.hok p _ j;have d:wL c=l.length:=Paired.length r;exact wpAny_truthy_dict A m ∅ ⟨H,I.tok _,by rw[TJ r];exact q⟩)|_=>exact (show False from e).elim
theorem Zl(g:PE X a ta)(f:∀b,isTrue a X.env b=(do let v <- b;standAt a.pos;holding [v] (truthy v))) :PT X a (λd H Q=>ta d H λx e=>∃k,afS X.K x e k/\Q k e):=by intro c s d H Q I h;exact isTrue_plain (ir (g c s d H _ I h) λv n ⟨x,i,l,j,m⟩=>afT c n d i x v Q l j m) (f _)
theorem vals1{x:V}{us:List ar}(r:cO [x] us):∃u,us=[u]/\RelV x u:=by cases r with|cons b a=>cases a;exists 1,b
theorem vals2{x y:V}{us:List ar}(r:cO [x,y] us):∃u a,us=[u,a]/\RelV x u/\RelV y a:=by cases r with|cons d b=>(cases b with|cons e c=>cases c;exists 31,d,e)
theorem WU(c:X.calm=ag):qg X (.builtin "max") (λxs H Q=>∃i j,xs=[.int i,.int j]/\Q (.int (if j > i then j else i)) H):=by intro b s d H xs e Q I r h;obtain⟨i,j,rfl,q⟩:=h;obtain⟨u,l,rfl,⟨t,rfl⟩,⟨m,rfl⟩⟩:=vals2 r;refine max_two_ints (I.ok.hd c) λg f k=>⟨_,H,I.kept k,4,q⟩;by_cases a:j > i;rw[eL a,eL a];exists 1;rw[e8 a,e8 a];exists 1
theorem MZ:qg X (.type "int") (λxs H Q=>(∃i,xs=[.int i]/\Q (.int i) H)∨∃k,xs=[.bl k]/\Q (.int (if k then 1 else 0)) H):=by intro a s c H xs d Q I r h;rcases h with ⟨i,rfl,q⟩|⟨k,rfl,q⟩;obtain⟨u,rfl,t,rfl⟩:=vals1 r;exact call_int_int ⟨.int i,H,I,⟨1⟩,q⟩;obtain⟨u,rfl,b⟩:=vals1 r;cases b;exact call_int_bool ⟨.int (if k then 1 else 0),H,I.tok _,⟨1⟩,q⟩
end
structure TL(h:Heap)(x dx C:am)(mA:Str->Option ar):Prop where
 obj:h.get? x=ac (kQ C dx)
 ns:h.Ns1 dx mA
 ne:dx≠x
theorem M0{h:Heap}{d:am}{c:Str->Option ar}(n:h.Ns1 d c):∃g,h.get? d=ac g/\∀name,PySem.W.lookIn name g=ac (c name):=by obtain⟨o,f,r,m,l,j,_,i⟩:=n;exists o,m,λname=>?_;have e:=i name;unfold nsFind findBy at e;rw[<- Array.find?_toList] at e;unfold PySem.W.lookIn;rw[l];dsimp only;split;rename_i y q;rw[q] at e;exact gw ac e;rename_i q;rw[q] at e;have a:f.toList.any (·.refKey)=al:=(by rw[List.any_eq_false];intro y p;obtain⟨z,t,b⟩:=j y (Array.mem_toList_iff.mp p);simp[DictEntry.refKey,b]);have k:¬f.toList.any (·.refKey)=ag:=(by rw[a];exact aH);rw[e8 k];exact gw ac e
theorem TL.look{h:Heap}{x b C:am}{c:Str->Option ar}(I:TL h x b C c):∃a,PySem.W.InstAt h x (kQ C b) C (ac a)/\∀name,PySem.W.lookIn name a=ac (c name):=
 let ⟨a,d,e⟩:=M0 I.ns
 ⟨a,⟨I.obj,22,d⟩,e⟩
section
variable{prog:ci}{w:World}{A:cm}{E:ar->aw->Prop}{s:aw}{K:ai}{x dx C f:am}{mA:Str->Option ar}{name:Str}{v:ar}
theorem get_map{a:Bool}{Q:ar->aw->Prop}(X:K.In s.heap)(I:TL s.heap x dx C mA)(c:yX K C name=ag)(d:wI K C=ag)(e:aN K (.ref C) name=ac ae)(f:mA name=ac v)(b:PySem.W.handedIn v=ag)(h:Q v {s with toks:=s.toks+1}) :cf (model prog w) A (getAttr (.ref x) name a) Q E s:=by obtain⟨i,J,g⟩:=I.look;exact PySem.W.get_value X J (PySem.W.plainGet_of c).1 (PySem.W.findObj_own d e rfl (by rw[g,f])) b h
theorem Zm{pl:Sem Bool}{Q:ar×List ar->aw->Prop}(X:K.In s.heap)(I:TL s.heap x dx C mA)(a:yX K C name=ag)(e:aN K (.ref C) name=ac (ac (.ref f)))(d:PySem.W.isFn K (.ref f)=ag)(c:mA name=ae)(h:Q (.ref f,[.ref x]) s) :cf (model prog w) A (getMethod (.ref x) name pl) Q E s:=by obtain⟨b,J,g⟩:=I.look;exact PySem.W.method_fn X J (PySem.W.plainGet_of a).1 (PySem.W.plainGet_of a).2 e (beq_iff_eq.mp d) (by show (PySem.W.lookIn name b).map (·.isSome)=ac al;rw[g,c];rfl) h
theorem ab6{ns:List Str}{Q:Unit->aw->Prop}(X:K.In s.heap)(I:TL s.heap x dx C mA) (p:aN K (.ref C) "__setattr__" = ac (ac (.builtin "object.__setattr__"))) (t:PySem.W.plainOver K C=ag) (q:PySem.W.takerIn K C name=ac ae) (j:wI K C=ag) (o:PySem.Within mA ns) (hsz:wL ns<=bc) (h:∀h',TL h' x dx C (λy=>if y=name then ac v else mA y)->Heap.SameBut dx s.heap h'->Q () {s with heap:=h',toks:=s.toks+2}) :cf (model prog w) A (setAttr (.ref x) name v) Q E s:=by obtain⟨D,J,B⟩:=I.look;refine PySem.W.set_plain X J p (PySem.W.osa_open (s:={s with toks:=s.toks+1}) (r:=ae) X J t q λb=>?_);obtain⟨u,l,g⟩:=PySem.W.any_some j;have k:s.heap.get? x=ac ⟨.ref C,ac dx,.plain,#[]⟩:=I.obj;refine ax (a6 (ax (ax (wpAny_loadPart k (ax (PySem.W.Looks.here (s:={s with toks:=s.toks+1}) (PySem.W.looks_clsIn X l) ?_))))));rw[g];refine a6 (a:=ac dx) (ax (a6 (ax ?_)));refine wpAny_nsSet1 (s:={s with toks:=s.toks+1}) I.ns λh' c d=>?_;obtain⟨z,n,m,f,i,e⟩:=c.count (PySem.Within.cons name v o);refine ax (wpAny_lookBehind f (by rw[i];exact pastItsLine_dict (aJ e (by rw[bC];lia))) ?_);exact a6 (h _ ⟨(d.2 _ (bT I.ne)).trans I.obj,c,I.ne⟩ d)
theorem Zn{R:Result->aw->Prop}{vs:List ar}{b:List (Str×ar)}(X:K.In s.heap)(c:PySem.W.makesIn K C=ag) (i:aN K (.ref C) "__init__" = ac (ac (.ref f))) (e:PySem.W.typeIn K (.ref f)=ac (.type "function")) (h:codeAny (model prog w) (A.under (.builtin "type.__call__" ⟨.ref C::vs,b⟩)) (.call (.ref f) ⟨.ref (s.heap.objs.size+1)::vs,b⟩) (PySem.W.InitBack (s.heap.objs.size+1) R) {s with heap:=(s.heap.push iu).push (kQ C s.heap.objs.size)}) :codeAny (model prog w) A (.call (.ref C) ⟨vs,b⟩) R s:=by obtain⟨j,g,d,t,os⟩:=s;exact PySem.W.make_core (PySem.W.makes_of X c) (PySem.W.looks_findIn X i) (λa=>PySem.W.bind_fn X a e) (.inl rfl) h
end
noncomputable def AO(f:Str)(v:V):List (Str×V)->List (Str×V)
 |[]=>[(f,v)]
 | (g,x)::r=>if g=f then (g,v)::r else (g,x)::AO f v r
theorem HR(f g:Str)(v:V):∀c:List (Str×V),(AO f v c).lookup g=if g=f then ac v else c.lookup g
 |[]=>by
  show r9 g [(f,v)]=_;by_cases h:g=f
  ·have a:(g==f)=ag:=beq_iff_eq.mpr h
   simp only[r9,a,eL h]
  ·have a:(g==f)=al:=beq_eq_false_iff_ne.mpr h
   simp only[r9,a,e8 h]
 | (k,x)::r=>by
  have d:=HR f g v r;rw[show AO f v ((k,x)::r)=(if k=f then (k,v)::r else (k,x)::AO f v r) from rfl];by_cases b:k=f
  ·rw[eL b]
   by_cases h:g=k
   ·have a:(g==k)=ag:=beq_iff_eq.mpr h
    simp only[r9,a,eL (h.trans b)]
   ·have a:(g==k)=al:=beq_eq_false_iff_ne.mpr h
    simp only[r9,a,e8 (λe:g=f=>h (e.trans b.symm))]
  ·rw[e8 b]
   by_cases h:g=k
   ·have a:(g==k)=ag:=beq_iff_eq.mpr h
    simp only[r9,a,e8 (λe:g=f=>b (h.symm.trans e))]
   ·have a:(g==k)=al:=beq_eq_false_iff_ne.mpr h
    simp only[r9,a];exact d
theorem GC(f:Str)(v:V):∀a:List (Str×V),f∈(AO f v a).map (·.1)/\∀g,g∈a.map (·.1)->g∈(AO f v a).map (·.1)
 |[]=>⟨by simp[AO],λg h=>by simp at h⟩
 | (k,x)::r=>by
  obtain⟨c,d⟩:=GC f v r;rw[show AO f v ((k,x)::r)=(if k=f then (k,v)::r else (k,x)::AO f v r) from rfl];by_cases b:k=f
  ·rw[eL b]
   subst b;exists -_,λg h=>by simpa using h
  ·rw[e8 b]
   exists 4,λg h=>?_
   ·rw[bK]
    exact bS _ c
   ·rw[bK] at h ⊢
    rcases bR.mp h with e|e
    ·exact bR.mpr (.inl e)
    ·exact bS _ (d g e)
theorem HS(f:Str)(v:V):∀a:List (Str×V),(AO f v a).length<=wL a+1
 |[]=>by simp[AO]
 | (k,x)::r=>by
  have c:=HS f v r;rw[show AO f v ((k,x)::r)=(if k=f then (k,v)::r else (k,x)::AO f v r) from rfl];by_cases b:k=f
  ·rw[eL b,bC,bC];lia
  ·rw[e8 b,bC,bC];lia
theorem AM.some_of{v:V}{o:Option ar}(r:AM (ac v) o):∃u,o=ac u/\RelV v u:=by cases o with|none=>exact (show False from r).elim|some u=>exists u,2,r
theorem AM.none_of{o:Option ar}(r:AM ae o):o=ae:=by cases o with|none=>rfl|some u=>exact (show False from r).elim
theorem WV{v:V}{u:ar}(r:RelV v u):PySem.W.handedIn u=ag:=by cases v with|gk=>cases (show u=Value.none from r);rfl|bl b=>cases (show u=Value.bool b from r);rfl|int i=>obtain⟨t,e⟩:=(show ∃t,u=Value.int i t from r);cases e;rfl|str x=>obtain⟨t,e⟩:=(show ∃t,u=Value.str x t from r);cases e;rfl|Vs b=>obtain⟨t,e⟩:=(show ∃t,u=Value.bytes b t from r);cases e;rfl|flt b=>obtain⟨t,e⟩:=(show ∃t,u=Value.float b t from r);cases e;rfl|ref a=>cases (show u=Value.ref a from r);rfl|ty n=>cases (show u=Value.type n from r);rfl
section
variable{P:ci}{w:World}{H H':Hp}{h h':Heap}{a C dx:am}{fs fs':List (Str×V)}
theorem Jm(c:AS P w H h)(e:H a=ac (.ins C dx fs)):∃b,TL h a dx C b/\(∀f,AM (fs.lookup f) (b f))/\PySem.Within b (fs.map (·.1))/\wL fs<=1000/\H dx=ac (.own a):=by obtain⟨d,z,g,i,b,n,r,q⟩:=(show gI P w H h a (.ins C dx fs) from c a _ e);exists b,⟨i,n,g⟩,r,q,z,d
end
structure Mc(K:ai)(C:am):Prop where
 pg:yX K C Str.empty=ag
 hd:wI K C=ag
 po:PySem.W.plainOver K C=ag
 sa:aN K (.ref C) "__setattr__" = ac (ac (.builtin "object.__setattr__"))
theorem Mc.get{K:ai}{C:am}(c:Mc K C)(f:Str):yX K C f=ag:=c.pg
def d7(K:ai)(C:am)(f:Str):Prop:=aN K (.ref C) f=ac ae
theorem d7.aiL{K:ai}{C:am}{f:Str}(n:d7 K C f):PySem.W.takerIn K C f=ac ae:=by unfold PySem.W.takerIn;rw[show aN K (.ref C) f=ac ae from n];rfl
structure ON(K:ai)(C:am)(m:Str)(f:am):Prop where
 at_:aN K (.ref C) m=ac (ac (.ref f))
 fn:PySem.W.isFn K (.ref f)=ag
 kp:fD K (.ref f)=ag
section
variable{X:Cx}{pins:List (am×Obj)}{σ:St}{H:Hp}{s:aw}{a C dx:am}{fs:List (Str×V)}{f:Str}{v:V}{A:cm}{E:ar->aw->Prop}
theorem TM{b:Bool}{Q:ar->aw->Prop}(I:Inv X pins σ H s)(e:H a=ac (.ins C dx fs))(c:Mc X.K C)(n:d7 X.K C f)(l:fs.lookup f=ac v)(h:∀u s',Inv X pins σ H s'->RelV v u->Q u s'):cf (model X.prog X.w) A (getAttr (.ref a) f b) Q E s:=by obtain⟨i,O,r,_,_,_⟩:=Jm I.hok e;obtain⟨u,g,d⟩:=AM.some_of (v:=v) (o:=i f) (by rw[<- l];exact r f);exact get_map I.DQ O (c.get f) c.hd n g (WV d) (h u _ (I.tok _) d)
theorem JK{m:Str}{g:am}{pl:Sem Bool}{Q:ar×List ar->aw->Prop}(I:Inv X pins σ H s)(e:H a=ac (.ins C dx fs))(c:Mc X.K C)(k:ON X.K C m g)(l:fs.lookup m=ae)(h:Q (.ref g,[.ref a]) s):cf (model X.prog X.w) A (getMethod (.ref a) m pl) Q E s:=by obtain⟨d,O,r,_,_,_⟩:=Jm I.hok e;have b:d m=ae:=AM.none_of (by rw[<- l];exact r m);exact Zm I.DQ O (c.get m) k.at_ k.fn b h
theorem TN{y:V}{u:ar}{Q:Unit->aw->Prop}(I:Inv X pins σ H s)(e:H a=ac (.ins C dx fs))(c:Mc X.K C)(n:d7 X.K C f)(hl:wL fs<1000)(l:RelV y u)(h:∀s',Inv X pins σ (upd H a (.ins C dx (AO f y fs))) s'->Q () s'):cf (model X.prog X.w) A (setAttr (.ref a) f u) Q E s:=by obtain⟨i,O,r,k,_,j⟩:=Jm I.hok e;have D:(fs.map (·.1)).length<=bc:=(by rw[af,sizeLine_eq];lia);refine ab6 I.DQ O c.sa c.po n.aiL c.hd k D λt d B=>h _ ?_;have hd:∃o,t.get? dx=ac o:=let ⟨o,_,_,p,_⟩:=d.ns;⟨o,p⟩;refine I.write (x:=a) (e:=dx) (by rw[e];exact kP) (.inr j) (λb q m z=>(B.2 b m).trans z) hd ?_;exists by rw[aI O.ne];exact j,4,O.ne,d.obj,_,d.ns,λg=>?_,λg v=>?_;have:=HS f y fs;lia;show AM ((AO f y fs).lookup g) (if g=f then ac u else i g);rw[HR];by_cases q:g=f;rw[eL q,eL q];exact l;rw[e8 q,e8 q];exact r g;by_cases q:g=f;rw[q];exact (GC f y fs).1;refine (GC f y fs).2 g (k g λz=>v ?_);show (if g=f then ac u else i g)=ae;rw[e8 q];exact z
theorem Inv.made(I:Inv X pins σ H s):Inv X pins σ (upd (upd H s.heap.objs.size (.own (s.heap.objs.size+1))) (s.heap.objs.size+1) (.ins C s.heap.objs.size [])) {s with heap:=(s.heap.push iu).push (kQ C s.heap.objs.size)}:=by have c:(s.heap.push iu).get? s.heap.objs.size=ac iu:=a8 s.heap rfl;have g:((s.heap.push iu).push (kQ C s.heap.objs.size)).get? (s.heap.objs.size+1)=ac (kQ C s.heap.objs.size):=(by have:=a8 (s.heap.push iu) (o:=kQ C s.heap.objs.size) rfl;rwa [Heap.size_push] at this);have i:(s.heap.push iu).Ns s.heap.objs.size (λ_=>ae):=⟨iu,#[],_,c,2,(λe f=>ff f (-_)),λ_=>rfl⟩;have h:=I.laid (a:=s.heap.objs.size) (o:=.own (s.heap.objs.size+1)) (h':=s.heap.push iu) (t':=s.toks) (λb u q=>a7 _ q) (az _) ⟨_,c⟩;refine h.laid (a:=s.heap.objs.size+1) (o:=.ins C s.heap.objs.size []) (t':=s.toks) (λb u q=>a7 _ q) (Nat.le_of_eq (Heap.size_push _ _)) ?_;have d:s.heap.objs.size≠s.heap.objs.size+1:=bY (Nat.lt_succ_self _);exists by rw[aI d,au],aS _,d,g,λ_=>ae,(Heap.Ns1.of_empty i).at λo q=>a7 _ q,λ_=>kP,λy j=>ff rfl j
theorem ab7{prog:ci}{w:World}{env:Env}{e:Expr}{f:Str}{b:Pos}{s:aw}{Q:ar->aw->Prop}(c:attributeBase e f env (eval e env)=eval e env)(h:cf (model prog w) A (eval e env) (λo a=>cf (model prog w) A (getAttr o f ag) Q E a) E s):cf (model prog w) A (eval (.Attribute e f b) env) Q E s :=Attribute_any_ h (by rw[arm_eval_Attribute,c])
end
inductive aiM(K:ai)(f:Str)(Q:VK)(x:V)(H1:Hp):Prop
 |mk(a C dx:am)(fs:List (Str×V))(v:V)(h1:x=.ref a)(h2:H1 a=ac (.ins C dx fs))(h3:Mc K C)(h4:d7 K C f)(h5:fs.lookup f=ac v)(h6:Q v H1):aiM K f Q x H1
def JL(K:ai)(ta:TE)(f:Str):TE:=λσ H Q=>ta σ H (aiM K f Q)
def amU(K:ai)(ta tv:TE)(f:Str):TS:=λD σ H=>tv σ H λy H1=>ta σ H1 λx H2=>∃a C dx fs,x=.ref a/\H2 a=ac (.ins C dx fs)/\Mc K C/\d7 K C f/\wL fs<1000 /\
 D.nx σ (upd H2 a (.ins C dx (AO f y fs)))
section
variable{X:Cx}{o e value:Expr}{f:Str}{pos pos' tpos:Pos}{ta tv:TE}
theorem bg(g:PE X e ta)(m:attributeBase e f X.env (eval e X.env)=eval e X.env):PE X (.Attribute e f pos) (JL X.K ta f):=by intro b s d H Q I h;refine ab7 m (ir (g b s d H _ I h) λu A ⟨x,i,o,p,a,C,B,w,v,r,j,c,n,l,q⟩=>?_);subst r;obtain rfl:u=Value.ref a:=p;exact TM o j c n l λz y t k=>⟨v,i,t,k,q⟩
theorem gK(e:PE X o ta)(g:PE X value tv)(A:swapsWith value (ac (.Attribute o f pos')) pos.line X.env=pure al):PS X (.Assign [.Attribute o f pos'] value pos) (amU X.K ta tv f):=by intro b s d H D I h;refine plainObj_wpAny_Assign_Attribute (ir (g b s d H _ I h) λu t ⟨y,i,p,k,q⟩=>ir (e b t d i _ p q) λv G ⟨x,F,B,w,a,C,L,E,z,m,c,n,l,r⟩=>?_) A;subst z;obtain rfl:v=Value.ref a:=w;exact TN B m c n l k λJ j=>⟨d,_,j,r⟩
end
section
variable{X:Cx}{pins:List (am×Obj)}{σ:St}{H:Hp}{s:aw}{A:cm}{E:ar->aw->Prop}{Q:ar->aw->Prop}{c:ar}{b:Bool}
inductive GD(K:ai)(H:Hp):V->ar->Prop where
 |gk:GD K H .gk (.type "NoneType")
 |bl (x:Bool):GD K H (.bl x) (.type "bool")
 |int (i:Int):GD K H (.int i) (.type "int")
 |str (x:Str):GD K H (.str x) (.type "str")
 |flt (x:UInt64):GD K H (.flt x) (.type "float")
 |lst {a:am} {xs:List V} (e:H a=ac (.lst xs)):GD K H (.ref a) (.type "list")
 |AN {a:am} {o:Obj} {xs:List V} (e:H a=ac (.AN o (.lst xs))):GD K H (.ref a) (.type "list")
 |tup {a:am} {xs:List V} (e:H a=ac (.tup xs)):GD K H (.ref a) (.type "tuple")
 |dK {a:am} {kvs:List (Key×V)} (e:H a=ac (.dK kvs)):GD K H (.ref a) (.type "dict")
 |dT {a:am} {kvs:List (List Key×V)} (e:H a=ac (.dT kvs)):GD K H (.ref a) (.type "dict")
 |ins {a C dx:am} {fs:List (Str×V)} (e:H a=ac (.ins C dx fs)) (cl:Mc K C) (ha:aN K (.ref C) "__class__" = ac (ac (.builtin "object.__class__")))
  (hn:PySem.W.specialIn K (.builtin "object.__class__") "__get__" = ac (ac (.builtin "getset_descriptor.__get__"))) (htk:PySem.W.takesIn K (.builtin "object.__class__")=ac ag)
  (hm:PySem.W.mroIn K C (.type "object")=ac ag):GD K H (.ref a) (.ref C)
theorem WW{x:V}{u t:ar}(I:Inv X pins σ H s)(f:RelV x u)(D:GD X.K H x t)(e:PySem.W.kitOne X.K t c=ac b)(h:∀tk,Q (.bool b) {s with toks:=tk}) :cf (model X.prog X.w) A (call (.builtin "isinstance") [u,c]) Q E s:=by cases D with|gk=>cases (show u=Value.none from f);exact fk PySem.W.kitx_none I.DQ kP e (λz=>nomatch z) h|bl y=>cases (show u=Value.bool y from f);exact fk PySem.W.kitx_bool I.DQ kP e (λz=>nomatch z) h|int i=>obtain⟨t,q⟩:=(show ∃t,u=Value.int i t from f);cases q;exact fk PySem.W.kitx_int I.DQ kP e (λz=>nomatch z) h|str y=>obtain⟨t,q⟩:=(show ∃t,u=Value.str y t from f);cases q;exact fk PySem.W.kitx_str I.DQ kP e (λz=>nomatch z) h|flt y=>obtain⟨t,q⟩:=(show ∃t,u=Value.float y t from f);cases q;exact fk PySem.W.kitx_float I.DQ kP e (λz=>nomatch z) h|@lst a k d=>cases (show u=Value.ref a from f);obtain⟨_,_,n,_,g⟩:=(show gI X.prog X.w H s.heap a (.lst k) from I.hok a _ d);exact fk PySem.W.kitx_list I.DQ ⟨_,g,2⟩ e (λz=>nomatch z) h|@AN a F k d=>cases (show u=Value.ref a from f);obtain⟨_,_,_,n,_,g⟩:=(show gI X.prog X.w H s.heap a (.AN F (.lst k)) from I.hok a _ d);exact fk PySem.W.kitx_list I.DQ ⟨_,g,2⟩ e (λz=>nomatch z) h|@tup a k d=>cases (show u=Value.ref a from f);obtain⟨_,_,_,p⟩:=(show gI X.prog X.w H s.heap a (.tup k) from I.hok a _ d);obtain⟨o,g,l,_⟩:=p;exact fk PySem.W.kitx_tuple I.DQ ⟨o,g,l⟩ e (λz=>nomatch z) h|@dK a j d=>cases (show u=Value.ref a from f);obtain⟨_,_,M,_,p⟩:=(show gI X.prog X.w H s.heap a (.dK j) from I.hok a _ d);obtain⟨o,L,B,g,l,_⟩:=p;exact fk PySem.W.kitx_dict I.DQ ⟨o,g,l.1⟩ e (λz=>nomatch z) h|@dT a j d=>cases (show u=Value.ref a from f);obtain⟨_,_,k,_,o,L,B,g,l,_⟩:=(show gI X.prog X.w H s.heap a (.dT j) from I.hok a _ d);exact fk PySem.W.kitx_dict I.DQ ⟨o,g,l.1⟩ e (λz=>nomatch z) h|@ins a C R N d cl v G m r=>cases (show u=Value.ref a from f);obtain⟨P,O,_⟩:=Jm I.hok d;obtain⟨S,J,_⟩:=O.look;exact fk (PySem.W.kitx_own (cl.get _) cl.hd v G m r) I.DQ J e (λz=>nomatch z) h
end
structure kW(k:Nat)(A:cm):Prop where
 hd:A.handled=ae
 dp:A.depth+3*k+5<recursionLimit
 un:A.units+16*k+200<cLine
theorem kW.mono{j k:Nat}{A:cm}(r:kW k A)(h:j<=k):kW j A:=⟨r.hd,by have:=r.dp;lia,by have:=r.un;lia⟩
theorem kW.deeper{k:Nat}{A:cm}(r:kW (k+1) A)(env:Env):kW k (A.deeper env) :=⟨r.hd,by have:=r.dp;show A.depth+1+3*k+5<_;lia,by have:=r.un;show A.units+3+16*k+200<_;lia⟩
theorem TR{A:cm}{C:am}{us:List ar}{a:List (Str×ar)}:(A.under (.builtin "type.__call__" ⟨.ref C::us,a⟩)).depth=A.depth+1:=by (first|rfl|simp[Around.under,Code.weight,Code.isCreation,Code.isGuard,Code.isCaller,Code.frames,Code.isFrame,guardIds])
theorem TU{A:cm}{C:am}{us:List ar}{a:List (Str×ar)}:(A.under (.builtin "type.__call__" ⟨.ref C::us,a⟩)).units=A.units+1:=by (first|rfl|simp[Around.under,Code.cUnits,Code.frames,Code.isFrame])
theorem kW.make{k:Nat}{A:cm}(r:kW (k+1) A)(C:am)(us:List ar)(a:List (Str×ar)):kW k (A.under (.builtin "type.__call__" ⟨.ref C::us,a⟩)) :=⟨r.hd,by have:=r.dp;rw[TR];lia,by have:=r.un;rw[TU];lia⟩
theorem kW.depth{k:Nat}{A:cm}(r:kW k A):A.depth<recursionLimit:=by have:=r.dp;lia
theorem kW.units{k:Nat}{A:cm}(r:kW k A):A.units+64<cLine:=by have:=r.un;lia
def E4:TA:=λ_ H Q=>Q [] H
def iI(ta:TE)(tr:TA):TA:=λσ H Q=>ta σ H λx H1=>tr σ H1 λxs H2=>Q (x::xs) H2
section
variable{X:Cx}{e:Expr}{es:List Expr}{te:TE}{t:TA}{pos:Pos}
theorem gM:PA X [] E4:=λ_ _ _ _ H Q I h=>Calls.spliced_nil ⟨[],H,I,.nil,h⟩
theorem ab8(d:PE X e te)(q:PA X es t)(o:bn (e::es) X.env=(al,eval e X.env)::bn es X.env:=by rfl):PA X (e::es) (iI te t):=by intro pos a s b H Q I h;rw[o];show cf _ _ (spliced ((al,eval e X.env)::backTo pos (bn es X.env))) _ _ s;refine Calls.spliced_cons (ir (d a s b H _ I h) λu n ⟨x,f,j,g,l⟩=>?_);exact ir (q pos a n b f _ j l) λv r ⟨i,c,p,k,m⟩=>⟨x::i,c,p,.cons g k,m⟩
def amV(t:TA):TE:=λσ H Q=>t σ H λxs H1=>xs.length<=bc/\∀p,H1 p=ae->Q (.ref p) (upd H1 p (.tup xs))
def amW(t:TA):TE:=λσ H Q=>t σ H λxs H1=>xs.length<=bc/\∀p,H1 p=ae->Q (.ref p) (upd H1 p (.lst xs))
theorem dY{x1}(h:PA X es t):PE X (.Tuple es x1 pos) (amV t):=by intro a s g H Q I l;refine wpAny_Tuple_spliced (ir (h pos a s g H _ I l) λk c ⟨i,d,f,r,z,q⟩=>⟨by rw[<- r.length];exact z,4⟩);have j:d c.heap.objs.size=ae:=f.hok.fresh (az _);exists .ref c.heap.objs.size,upd d c.heap.objs.size (.tup i),f.laid (t':=c.toks) (λb u e=>a7 _ e) (az _) ?_,2,q _ j;exists z,k,r,⟨_,a8 _ rfl,21⟩
theorem fX(h:PA X es t):PE X (.List es pos) (amW t):=by intro a s g H Q I l;refine wpAny_List_spliced (ir (h pos a s g H _ I l) λk c ⟨i,d,f,r,z,q⟩=>⟨by rw[<- r.length];exact z,4⟩);have j:d c.heap.objs.size=ae:=f.hok.fresh (az _);exists .ref c.heap.objs.size,upd d c.heap.objs.size (.lst i),f.laid (t':=c.toks) (λb u e=>a7 _ e) (az _) ?_,2,q _ j;exists z,k,(0),r,a8 _ rfl
end
abbrev Sp:=List V->Hp->VK->XK->Prop
abbrev WY:=List Env->Hp->aw->XK->ar->aw->Prop
structure TV(P:ci)(w:World)(K:ai)(mg:Str->Option ar)(base:Heap)(A:cm)(outer:List Env)(s:aw)(H:Hp):Prop where
 frames:A.frames=ac outer
 mod:Mod K mg base
 bs:∀b o,base.get? b=ac o->s.heap.get? b=ac o/\H b=ae
 YW:base.objs.size<=s.heap.objs.size
 EX:s.heap.FunFrames base outer
 Qj:∀b∈frs outer,H b=ae
 hok:AS P w H s.heap
 bare:AllBare s.gens
def CE(outer:List Env)(P:ci)(w:World)(H:Hp)(s:aw)(Q:VK)(u:ar)(s':aw):Prop:=
 ∃v H',s'.os=s.os/\AllBare s'.gens/\Un (frs outer) [] H H' s.heap s'.heap/\AS P w H' s'.heap/\RelV v u/\Q v H'
def CR(CX:WY)(outer:List Env)(P:ci)(w:World)(H:Hp)(s:aw)(Q:VK)(E:XK)(r:Result)(s':aw):Prop:=
 match r with
 |.ok (.ret u)=>CE outer P w H s Q u s'
 |.ok _=>False
 |.error e=>CX outer H s E e s'
structure cH(P:ci)(w:World)(K:ai)(mg:Str->Option ar)(base:Heap)(CX:WY)(k:Nat)(f:am)(fd:FuncData)(ps:List Str)(sp:Sp):Prop where
 len:∀vs H Q E,sp vs H Q E->wL vs=ps.length
 run:∀(A:cm)(outer:List Env)(s:aw)(H:Hp)(args:Args)(us:List ar)(vs:List V)(Q:VK)(E:XK),kW k A->TV P w K mg base A outer s H->BindsTo s fd args (ps.zip us)->cO vs us->sp vs H Q E ->
  codeAny (model P w) A (.call (.ref f) args) (CR CX outer P w H s Q E) s
theorem TV.make{P:ci}{w:World}{K:ai}{b:Str->Option ar}{base:Heap}{A:cm}{a:List Env}{s:aw}{H:Hp}(e:TV P w K b base A a s H)(C:am)(us:List ar)(c:List (Str×ar)) :TV P w K b base (A.under (.builtin "type.__call__" ⟨.ref C::us,c⟩)) a s H:=⟨by first|exact e.frames|(simpa [Around.under,Code.envs,Code.isFrame,pushEnvs] using e.frames),e.mod,e.bs,e.YW,e.EX,e.Qj,e.hok,e.bare⟩
section
variable{X:Cx}{pins:List (am×Obj)}{σ:St}{H:Hp}{s s':aw}
theorem Inv.aiN(I:Inv X pins σ H s):TV X.prog X.w X.K X.mg X.base X.A X.stack s H :=⟨I.ok.frames,I.ok.mod,I.bs,aJ I.ok.YW I.sz,I.stack,I.OI,I.hok,I.bare⟩
theorem Inv.after{Q:VK}{u:ar}(I:Inv X pins σ H s)(h:CE X.stack X.prog X.w H s Q u s'):EP X pins σ Q u s':=by obtain⟨v,j,os,a,i,e,r,q⟩:=h;obtain⟨f,g,d,t,c⟩:=s';obtain rfl:c=s.os:=os;exists v,j,I.call (h':=f) (g':=g) (d':=d) (t':=t) (ch:=[]) i e a (λb z=>ff z (-_)),r,q
end
def aer(sp:Sp)(DT:List V)(E:XK)(t:TA):TE:=λσ H Q=>t σ H λvs H1=>sp (vs++DT) H1 Q E
inductive aes(C:am)(m:Str)(sp:Sp)(DT:List V)(E:XK)(t:TA)(σ:St)(Q:VK)(x:V)(H1:Hp):Prop
 |mk(a dx:am)(fs:List (Str×V))(h1:x=.ref a)(h2:H1 a=ac (.ins C dx fs))(h3:fs.lookup m=ae)(h4:t σ H1 λvs H2=>sp (x::(vs++DT)) H2 Q E):aes C m sp DT E t σ Q x H1
def HU(C:am)(m:Str)(sp:Sp)(DT:List V)(E:XK)(ta:TE)(t:TA):TE:=λσ H Q=>ta σ H (aes C m sp DT E t σ Q)
def Zo(C:am)(sp:Sp)(DT:List V)(E:XK)(t:TA):TE:=λσ H Q=>t σ H λvs H1=>∀x dx,H1 x=ae->H1 dx=ae->dx≠x ->
 sp (.ref x::(vs++DT)) (upd (upd H1 dx (.own x)) x (.ins C dx [])) (λv H2=>v=.gk/\Q (.ref x) H2) E
def Binds(K:ai)(fd:FuncData)(ps:List Str)(ds:List ar):Prop:=
 ∀(s:aw)(us:List ar),K.In s.heap->(us++ds).length=ps.length->BindsTo s fd ⟨us,[]⟩ (ps.zip (us++ds))
theorem Binds.all{K:ai}{a:FuncData}{ps:List Str}(h:∀us:List ar,wL us=ps.length->bindArgs a ⟨us,[]⟩=pure (ps.zip us)):Binds K a ps []:=λs us _ b=>by
 rw[b5] at b ⊢;exact .of_eq (h us b)
def uu(CX:WY)(X:Cx)(E:XK):Prop:=∀(pins:List (am×Obj))(σ:St)(H:Hp)(s:aw)(e:ar)(s':aw),Inv X pins σ H s->CX X.stack H s E e s'->X.xe e s'
section
variable{X:Cx}{CX:WY}{k:Nat}{f C:am}{fd:FuncData}{ps:List Str}{sp:Sp}{DT:List V}{ds:List ar}{E:XK}{x m:Str}{p pos apos:Pos}{e o:Expr}{es:List Expr}{ta:TE}{t:TA}
theorem OO{a:List (am×Obj)}{c:St}{H:Hp}{s:aw}{Q:VK}{us:List ar}{vs:List V}(F:cH X.prog X.w X.K X.mg X.base CX k f fd ps sp)(o:kW k X.A)(i:Binds X.K fd ps ds)(g:cO DT ds)(j:uu CX X E)(I:Inv X a c H s)(r:cO vs us)(h:sp (vs++DT) H Q E):cf (model X.prog X.w) X.A (call (.ref f) us) (EP X a c Q) X.xe s:=by have d:cO (vs++DT) (us++ds):=r.append g;have l:(us++ds).length=ps.length:=(by rw[<- d.length];exact F.len _ _ _ _ h);refine wpAny_call (codeAny_mono (F.run X.A X.stack s H ⟨us,[]⟩ (us++ds) (vs++DT) Q E o I.aiN (i s us I.DQ l) d h) λr n b=>?_);cases r with|error e=>exact j a c H s e n I b|ok m=>(cases m with|ret u=>exact I.after b|next=>exact kT b|brk=>exact kT b|cont=>exact kT b)
theorem CH(F:cH X.prog X.w X.K X.mg X.base CX k f fd ps sp)(y:kW k X.A)(v:Gl X x)(g:X.mg x=ac (.ref f))(m:fD X.K (.ref f)=ag)(o:Binds X.K fd ps ds)(n:cO DT ds)(u:uu CX X E)(l:PA X (e::es) t)(c:(x==("__debug__" : Str))=al:=by decide)(j:bn (e::es) X.env=(al,eval e X.env)::bn es X.env:=by rfl)(b:(backTo pos (bn es X.env)).any (·.1)=al:=by rfl) :PE X (.Call (.Name x p) (e::es) [] pos) (aer sp DT E t):=by intro a s i H Q I h;refine wpAny_Call_Name_kw (EZ I v g ?_ c);refine PySem.W.callWith_K (h₀:=X.base) I.ok.mod.kin m (ir (l pos a s i H _ I h) λC D ⟨z,B,d,r,q⟩=>⟨d.DQ,4⟩) j b;exact OO F y o n u d r q
theorem qQ{pl:Sem Bool}(v:PE X o ta)(c:Mc X.K C)(hm:ON X.K C m f)(F:cH X.prog X.w X.K X.mg X.base CX k f fd ps sp)(R:kW k X.A)(G:Binds X.K fd ps ds)(D:cO DT ds)(J:uu CX X E)(y:PA X (e::es) t)
 (d:bn (e::es) X.env=(al,eval e X.env)::bn es X.env:=by rfl) (g:(backTo pos (bn es X.env)).any (·.1)=al:=by rfl)
 (P:eval (.Call (.Attribute o m apos) (e::es) [] pos) X.env=(do
  let n <- eval o X.env
  standAt apos.atName
  let (f,first) <- holding [n] (getMethod n m pl)
  callWith pos f first (backTo pos (bn (e::es) X.env)) (backToKw pos (keywordEach [] X.env))):=by rfl):
 PE X (.Call (.Attribute o m apos) (e::es) [] pos) (HU C m sp DT E ta t):=by intro b s i H Q I h;refine PySem.W.methodCall_KW (pl:=pl) (ir (v b s i H _ I h) λu M ⟨x,z,j,N,a,V,S,O,B,l,q⟩=>?_) P;subst O;obtain rfl:u=Value.ref a:=N;refine JK j B c hm l ?_;refine PySem.W.callWith_K (first:=[.ref a]) (h₀:=X.base) I.ok.mod.kin hm.kp (ir (y pos b M i z _ j q) λus U ⟨vs,T,p,r,L⟩=>⟨p.DQ,4⟩) d g;exact OO (us:=.ref a::us) (vs:=.ref a::vs) F R G D J p (.cons rfl r) L
theorem i7{pl:Sem Bool}(i:PE X o ta)(c:Mc X.K C)(hm:ON X.K C m f)(F:cH X.prog X.w X.K X.mg X.base CX k f fd ps sp)(z:kW k X.A)(p:Binds X.K fd ps ds)(n:cO DT ds)(r:uu CX X E)
 (y:eval (.Call (.Attribute o m apos) [] [] pos) X.env=(do
  let e <- eval o X.env
  standAt apos.atName
  let (f,first) <- holding [e] (getMethod e m pl)
  callWith pos f first (backTo pos (bn [] X.env)) (backToKw pos (keywordEach [] X.env))):=by rfl):
 PE X (.Call (.Attribute o m apos) [] [] pos) (HU C m sp DT E ta E4):=by intro b s g H Q I h;refine PySem.W.methodCall_KW (pl:=pl) (ir (i b s g H _ I h) λu G ⟨x,D,d,t,a,J,B,v,j,l,q⟩=>?_) y;subst v;obtain rfl:u=Value.ref a:=t;refine JK d j c hm l ?_;exact PySem.W.callWith_K0 (first:=[.ref a]) d.DQ hm.kp (OO (us:=[.ref a]) (vs:=[.ref a]) F z p n r d (.cons rfl .nil) q)
structure Mk(K:ai)(C f:am):Prop where
 makes:PySem.W.makesIn K C=ag
 init:aN K (.ref C) "__init__" = ac (ac (.ref f))
 fn:PySem.W.isFn K (.ref f)=ag
 kp:fD K (.ref C)=ag
theorem QL{b:List (am×Obj)}{g:St}{H:Hp}{s:aw}{Q:VK}{us:List ar}{vs:List V}(M:Mk X.K C f)(F:cH X.prog X.w X.K X.mg X.base CX k f fd ps sp)(G:kW (k+1) X.A)(p:Binds X.K fd ps ds)(n:cO DT ds)(q:uu CX X E)(I:Inv X b g H s)(r:cO vs us)(h:∀x c,H x=ae->H c=ae->c≠x->sp (.ref x::(vs++DT)) (upd (upd H c (.own x)) x (.ins C c [])) (λv l=>v=.gk/\Q (.ref x) l) E) :cf (model X.prog X.w) X.A (call (.ref C) us) (EP X b g Q) X.xe s:=by have j:=h (s.heap.objs.size+1) s.heap.objs.size (I.hok.fresh (eB _)) (I.hok.fresh (az _)) (bY (Nat.lt_succ_self _));have d:=Inv.made (C:=C) I;have i:cO (V.ref (s.heap.objs.size+1)::(vs++DT)) (Value.ref (s.heap.objs.size+1)::(us++ds)):=.cons rfl (r.append n);have t:(Value.ref (s.heap.objs.size+1)::us++ds).length=ps.length:=(by have e:=i.length;rw[F.len _ _ _ _ j] at e;exact e.symm);refine wpAny_call (Zn (f:=f) I.DQ M.makes M.init (beq_iff_eq.mp M.fn) (codeAny_mono (F.run _ X.stack _ _ ⟨Value.ref (s.heap.objs.size+1)::us,[]⟩ (Value.ref (s.heap.objs.size+1)::(us++ds)) _ _ E (G.make C us []) (d.aiN.make C us []) (p _ (Value.ref (s.heap.objs.size+1)::us) d.DQ t) i j) λr y a=>?_));cases r with|error e=>exact q b g _ _ e y d a|ok J=>(cases J with|ret u=>obtain⟨v,o,m,z,D,B⟩:=d.after a;subst D;exact⟨z,⟨V.ref (s.heap.objs.size+1),o,m,2,B⟩⟩|next=>exact kT a|brk=>exact kT a|cont=>exact kT a)
theorem Vz(M:Mk X.K C f)(F:cH X.prog X.w X.K X.mg X.base CX k f fd ps sp)(v:kW (k+1) X.A)(u:Gl X x)(g:X.mg x=ac (.ref C))(n:Binds X.K fd ps ds)(m:cO DT ds)(o:uu CX X E)(l:PA X (e::es) t)(c:(x==("__debug__" : Str))=al:=by decide)(j:bn (e::es) X.env=(al,eval e X.env)::bn es X.env:=by rfl)(b:(backTo pos (bn es X.env)).any (·.1)=al:=by rfl) :PE X (.Call (.Name x p) (e::es) [] pos) (Zo C sp DT E t):=by intro a s i H Q I h;refine wpAny_Call_Name_kw (EZ I u g ?_ c);refine PySem.W.callWith_K (h₀:=X.base) I.ok.mod.kin M.kp (ir (l pos a s i H _ I h) λB D ⟨y,z,d,r,q⟩=>⟨d.DQ,4⟩) j b;exact QL M F v n m o d r q
theorem Zp(M:Mk X.K C f)(F:cH X.prog X.w X.K X.mg X.base CX k f fd ps sp)(g:kW (k+1) X.A)(j:Gl X x)(d:X.mg x=ac (.ref C))(e:Binds X.K fd ps ds)(c:cO DT ds)(i:uu CX X E)(a:(x==("__debug__" : Str))=al:=by decide):PE X (.Call (.Name x p) [] [] pos) (Zo C sp DT E E4):=by intro b s l H Q I h;refine wpAny_Call_Name_kw (EZ I j d ?_ a);exact PySem.W.callWith_K0 I.DQ M.kp (QL (us:=[]) M F g e c i I .nil h)
end
structure aM(N P:List Str)(sc:Scope):Prop where
 kind:sc.kind=.function
 co:sc.isCoroutine=al
 gen:sc.isGenerator=al
 nd:N.Nodup
 pre:N.take P.length=P
 par:∀x∈P,sc.names.lookup x=ac .local∨sc.names.lookup x=ac .cell
 afU:∀y∈sc.names,y.2≠.free
theorem M2{kindOf:Str->Option NameKind}{x:Str}:∀{a:List (Str×ar)}{m:Str->Option ar},(∀v,(x,v)∉a)->bindL kindOf a m x=m x
 |[],_,_=>rfl
 | (n,v)::r,m,h=>by
  unfold bindL;rw[M2 λw b=>h w (bS _ b)];split
  ·have:x≠n:=by rintro rfl;exact h v cK
   simp[this]
  ·rfl
theorem M3{kindOf:Str->Option NameKind}{x:Str}:∀{a:List (Str×ar)}{m:Str->Option ar},(∀v,(x,v)∉a)->bindC kindOf a m x=m x
 |[],_,_=>rfl
 | (n,v)::r,m,h=>by
  unfold bindC;rw[M3 λw b=>h w (bS _ b)];split
  ·rfl
  ·have:x≠n:=by rintro rfl;exact h v cK
   simp[this]
theorem M4{kindOf:Str->Option NameKind}{x:Str}{v:ar}:∀{P:List Str}{vs:List ar}{i:Nat}{m:Str->Option ar},P.Nodup->P[i]?=ac x->vs[i]?=ac v->kindOf x=ac .local ->
 bindL kindOf (P.zip vs) m x=ac v
 |[],_,_,_,_,h,_,_=>by simp at h
 |_::_,[],_,_,_,_,h,_=>by simp at h
 |p::P,w::vs,0,m,nd,b,a,c=>by
  simp at b a;subst b;subst a;show bindL kindOf ((p,w)::P.zip vs) m p=_;unfold bindL;rw[M2 λv d=>(gG.mp nd).1 (List.of_mem_zip d).1,eL c];simp
 |p::P,w::vs,i+1,m,nd,b,a,c=>by
  show bindL kindOf ((p,w)::P.zip vs) m x=_;unfold bindL;exact M4 (i:=i) (gG.mp nd).2 (by simpa using b) (by simpa using a) c
theorem M5{kindOf:Str->Option NameKind}{x:Str}{v:ar}:∀{P:List Str}{vs:List ar}{i:Nat}{m:Str->Option ar},P.Nodup->P[i]?=ac x->vs[i]?=ac v->kindOf x≠ac .local ->
 bindC kindOf (P.zip vs) m x=ac v
 |[],_,_,_,_,h,_,_=>by simp at h
 |_::_,[],_,_,_,_,h,_=>by simp at h
 |p::P,w::vs,0,m,nd,b,a,c=>by
  simp at b a;subst b;subst a;show bindC kindOf ((p,w)::P.zip vs) m p=_;unfold bindC;rw[M3 λv d=>(gG.mp nd).1 (List.of_mem_zip d).1,e8 c];simp
 |p::P,w::vs,i+1,m,nd,b,a,c=>by
  show bindC kindOf ((p,w)::P.zip vs) m x=_;unfold bindC;exact M5 (i:=i) (gG.mp nd).2 (by simpa using b) (by simpa using a) c
noncomputable def start(N:List Str)(vs:List V):St:=vs.map ac++bL (wL N-vs.length) ae
noncomputable def qk(CX:WY)(P:ci)(w:World)(K:ai)(mg:Str->Option ar)(base:Heap)(N:List Str)(qual:Str)(scope:Scope)(f:am)(cd:ar)(A:cm)(outer:List Env)(s:aw)(H:Hp)(E:XK):Cx where
 prog:=P
 w:=w
 K:=K
 mg:=mg
 base:=base
 A:=A.deeper (envOfC qual scope s.heap.objs.size f cd)
 N:=N
 s₀:=s
 H₀:=H
 env:=envOfC qual scope s.heap.objs.size f cd
 outer:=outer
 stack:=envOfC qual scope s.heap.objs.size f cd::outer
 ex:=[]
 calm:=ag
 fn:=λ_=>ag
 pn:=[]
 xe:=λe s'=>cf (model P w) (A.deeper (envOfC qual scope s.heap.objs.size f cd)) (leaving (envOfC qual scope s.heap.objs.size f cd) e) (λ_ s''=>CX outer H s E e s'') (λe' s''=>CX outer H s E e' s'') s'
theorem QM{a:Scope}{n:Nat}{x:Str}(h:a.names.lookup x=ac .cell):∃c,(cellsFrom n a.names []).lookup x=ac c:=by have q:=PySem.W.cellsFrom_some a.names n [] (.inl h);exact Option.isSome_iff_exists.mp q
theorem WZ{CX:WY}{P:ci}{w:World}{K:ai}{F:Str->Option ar}{base:Heap}{N ps:List Str}{g:Str}{scope:Scope}{f:am}{B:ar}{A:cm}{d:List Env}{s J:aw}{H:Hp}{E:XK}{us:List ar}{vs:List V}(S:aM N ps scope)(M:A.handled=ae)(l:TV P w K F base A d s H)(hl:wL vs=ps.length)(r:cO vs us)(x:InCallC s s.heap.objs.size (bindL (envOfC g scope s.heap.objs.size f B).kindOf (ps.zip us) λ_=>ae) (cellsFrom (s.heap.objs.size+1) scope.names []) (bindC (envOfC g scope s.heap.objs.size f B).kindOf (ps.zip us) λ_=>ae) J) :Inv (qk CX P w K F base N g scope f B A d s H E) [] (start N vs) H J:=by
 have Q:wL ps<=wL N:=(by have:=gw wL S.pre;rw[b6] at this;lia);obtain⟨D,R,rfl,G⟩:=x.done;have m:∀b:am,b∉(qk CX P w K F base N g scope f B A d s H E).ex:=λb z=>ff (show b∈([]:List am) from z) (-_);refine⟨⟨l.mod,S.kind,22,az _,λy z c D j=>?_,λy hy=>?_,λy c _ h=>?_,λ_=>M,Around.frames_deeper l.frames,.inr ⟨22⟩,λb z=>ff z (m b),l.bs,l.YW,λb _ _=>m b,λb z=>ff z (m b),l.EX,l.Qj⟩,
  rfl,l.bare,Un.kept G,⟨_,x.toInCall.ns,λi y v D j T=>?_⟩,λy c h=>⟨_,x.cell y c h⟩,l.hok.fresh (az _),λy c h=>?_,λp t=>ff (show p∈([]:List (am×Obj)) from t) (-_),l.hok.kept G,4⟩
 exact name_of_addr x.apart (r8 D) (r8 j);have hy:scope.names.lookup y=ac .cell∨scope.names.lookup y=ac .free:=hy;rcases hy with hy|hy;exact QM hy;exact ff rfl (S.afU _ (r8 hy));exact iG (x.above y c (r8 h));·have C:i<wL vs:=(by unfold start at j;by_cases C:i<wL vs;exact C;·rw[bZ (by simpa using C)] at j;rw[List.getElem?_replicate] at j;split at j <;> cases j);have L:vs[i]?=ac v:=(by unfold start at j;rw[bu (by simpa using C),ak] at j;cases e:vs[i]? with|none=>rw[e] at j;cases j|some a=>rw[e] at j;cases j;rfl);obtain⟨u,I,O⟩:=r.get L;have t:ps[i]?=ac y:=(by rw[<- S.pre,List.getElem?_take_of_lt ∅];exact D);have o:ps.Nodup:=(by rw[<- S.pre];exact S.nd.sublist (List.take_sublist _ _));exists u,O,4;rcases S.par y (ay t) with k|k;exact .inl ⟨k,M4 o t I k⟩;obtain⟨c,e⟩:=QM (n:=s.heap.objs.size+1) k;refine .inr ⟨.inl k,c,e,4⟩;have q:=x.cell y c e;rw[M5 o t I (by show scope.names.lookup y≠_;rw[k];decide)] at q;exact q
 exact l.hok.fresh (iG (x.above y c (r8 h)));unfold start;show _=N.length;rw[av,af,List.length_replicate];lia
theorem Zq{CX:WY}{P:ci}{w:World}{K:ai}{F:Str->Option ar}{base:Heap}{k:Nat}{f:am}{name c:Str}{g:Arguments}{h:List Stmt}{scope:Scope}{U kV B Z d ct oc:ar}{an od:Option am}{G:Array (Option ar)}{N ps:List Str}{sp:Sp}(lk:K.lookup f=ac ⟨oc,od,.func (fU name c g h scope U kV B Z an d ct),G⟩)(O:kq K d c=ag)(S:aM N ps scope)(z:∀vs H Q E,sp vs H Q E->wL vs=ps.length)(l:∀(A:cm)(a:List Env)(s:aw)(H:Hp)(vs:List V)(Q:VK)(E:XK),kW k (A.deeper (envOfC c scope s.heap.objs.size f d))->sp vs H Q E ->∃t,iE (qk CX P w K F base N c scope f d A a s H E) h t/\t {nx:=λ_ j=>Q .gk j,rt:=Q} (start N vs) H) :cH P w K F base CX (k+1) f (fU name c g h scope U kV B Z an d ct) ps sp:=by
 exists z,λA a s H Y us vs Q E T D hb r VA=>?_;have hl:=z _ _ _ _ VA;have KX:K.In s.heap:=D.mod.kin.keeps λb o e=>(D.bs b o e).1;have M:s.heap.NoLimit:=D.mod.nolimit.keeps λb o e=>(D.bs b o e).1;have m:∀y∈ps.zip us,scope.names.lookup y.1=ac .local∨(scope.names.lookup y.1=ac .cell/\((cellsFrom (s.heap.objs.size+1) scope.names []).lookup y.1).isSome=ag):=λ⟨n,v⟩hy=>(by rcases S.par n (List.of_mem_zip hy).1 with q|q;exact .inl q;exact .inr ⟨q,PySem.W.cellsFrom_some _ _ _ (.inl q)⟩)
 refine codeAny_call_function T.depth (KX _ _ lk) rfl S.co S.gen rfl (PySem.W.codeRec_of KX O) (hb _ _ _ _ ?_);refine wpAny_newFunctionEnv_cells S.kind m λenv he X x=>?_;subst he;exists M.keeps x.toInCall.keep,codeAny_func ?_;obtain⟨t,ht,hq⟩:=l A a s H vs Q E (T.deeper _) VA;have I:Inv (qk CX P w K F base N c scope f d A a s H E) [] (start N vs) H X:=WZ S T.hd D hl r x;refine wpAny_mono (ht [] X (start N vs) H _ I hq) (λfl L p=>?_) λe L p=>p;have C:∀{i:St}{j:Hp}{v:V}{u:ar},Inv (qk CX P w K F base N c scope f d A a s H E) [] i j L->RelV v u->Q v j->CE a P w H s Q u L:=
  λ{i j v u}J R q=>⟨v,j,J.os,J.bare,J.base,J.hok,R,q⟩
 cases fl with|ret u=>obtain⟨v,i,j,J,R,q⟩:=p;exact C J R q|next=>obtain⟨i,j,J,q⟩:=p;exact C (v:=V.gk) (u:=Value.none) J rfl q|brk=>obtain⟨_,_,_,q⟩:=p;exact kT q|cont=>obtain⟨_,_,_,q⟩:=p;exact kT q
section
variable{X:Cx}{x:Str}{p pos:Pos}{e:Expr}{es:List Expr}{t:TA}{id T:String}{r:List V->Hp->VK->Prop}
def tCB(r:List V->Hp->VK->Prop)(t:TA):TE:=λσ H Q=>t σ H λvs H1=>r vs H1 Q
theorem QN(u:qg X (.builtin id) r)(y:Gl X x)(f:X.mg x=ae)(j:bootBuiltins x=ac (.builtin id))(k:PA X (e::es) t)(o:x≠"__name__" := by decide)(c:(x==("__debug__" : Str))=al:=by decide) (g:bn (e::es) X.env=(al,eval e X.env)::bn es X.env:=by rfl) (b:(backTo pos (bn es X.env)).any (·.1)=al:=by rfl):PE X (.Call (.Name x p) (e::es) [] pos) (tCB r t):=by intro a s d H Q I h;refine wpAny_Call_Name_kw (JF I y f j ?_ o c);exact PyProof.Rows.callWith_builtin1 (ir (k pos a s d H _ I h) λq w ⟨i,l,n,m,v⟩=>u a w d l i q Q n m v) g b
theorem gx(u:qg X (.type T) r)(y:Gl X x)(f:X.mg x=ae)(j:bootBuiltins x=ac (.type T))(k:PA X (e::es) t)(o:x≠"__name__" := by decide)(c:(x==("__debug__" : Str))=al:=by decide) (g:bn (e::es) X.env=(al,eval e X.env)::bn es X.env:=by rfl) (b:(backTo pos (bn es X.env)).any (·.1)=al:=by rfl):PE X (.Call (.Name x p) (e::es) [] pos) (tCB r t):=by intro a s d H Q I h;refine wpAny_Call_Name_kw (JF I y f j ?_ o c);exact PyProof.Rows.callWith_type1 (ir (k pos a s d H _ I h) λq w ⟨i,l,n,m,v⟩=>u a w d l i q Q n m v) g b
end
end L2
open L2.HO renaming lst -> cx, ins -> c0
open L2.V renaming int -> cn, ref -> cr, str -> cv, bl -> cw
namespace HT
open PySem PyProof.Rows
theorem QO(A:cm)(s:aw)(a:Int)(t:Tok)(c:Int)(u:Tok):∃e,SeqAt.EqAt A s (.int a t) (.int c u) e/\(e=ag↔a=c) :=⟨(a==c),SeqAt.EqAt.int_int a t c u,-_⟩
theorem Zr(A:cm)(s:aw)(a:Int)(t:Tok)(c:Int)(u:Tok)(prog:ci)(w:World)(E:ar->aw->Prop)(Q:ar->aw->Prop)(h:Q (.bool (decide (a<c))) s) :cf (model prog w) A (richCompare .Lt (.int a t) (.int c u)) Q E s :=(PyProof.Rows.lt_int h:cf (model prog w) A (bv .Lt (.int a t) (.int c u)) Q E s)
section
open PySem.SeqAt
open PySem.AutoSeq1 (wpAny_loadPart')
open PySem.MeetsSeq PySem.MeetsSeq2 PySem.MeetsSeq3
end
section
variable{prog:ci}{w:World}{A:cm}{E:ar->aw->Prop}{s:aw}
theorem ab9{t b:am}{vs ws:List ar}{Q:ar->aw->Prop}(y:IsTup s.heap t vs.toArray)(v:IsTup s.heap b ws.toArray)(k:vs≠[])(u:ws=[]->Q (.ref t) s)(r:ws≠[]->Q (.ref s.heap.objs.size) {s with heap:=s.heap.push {cls:=.type "tuple",data:=.seq (vs++ws).toArray}})(j:wL vs+wL ws<=bc):cf (model prog w) A (binaryOp .Add (.ref t) (.ref b)) Q E s:=by obtain⟨⟨cls,o,data,l⟩,h,p,n,m⟩:=id y;obtain⟨⟨x,g,data2,c⟩,a,f,q,d⟩:=id v;simp only at p m f d;subst p m f d;have e:vs.toArray++ws.toArray=(vs++ws).toArray:=-_;by_cases i:ws=[];exact concat_meets ⟨_,h,2⟩ ⟨_,a,2⟩ noFill_tuple_add seq_tuple_add PySem.F.slot_tuple_add PySem.F.entry_tuple_add (PySem.F.args_tuple_add_2 _ _) (tuple_addW1 t b vs.toArray ws.toArray n q o g l c (by simpa using k) (by simp[i])) ⟨h,a,u i⟩;refine concat_meets ⟨_,h,2⟩ ⟨_,a,2⟩ noFill_tuple_add seq_tuple_add PySem.F.slot_tuple_add PySem.F.entry_tuple_add (PySem.F.args_tuple_add_2 _ _) (tuple_addW2 t b vs.toArray ws.toArray n q o g l c (by simpa using k) (by simpa using i) (by rw[aU,aU];exact j)) ⟨h,a,4⟩;rw[e];exact r i
noncomputable def lV(n d:Nat):Option Int->Nat
 |none=>d
 |some v=>if v<0 then (v+(n:Int)).toNat else min v.toNat n
theorem OP(n d k:Nat):lV n d (ac (k:Int))=min k n:=by show (if (k:Int)<0 then ((k:Int)+(n:Int)).toNat else min (k:Int).toNat n)=min k n;rw[e8 ∅,cN]
theorem afV(n d:Nat)(b:d<=n)(o:Option Int):lV n d o<=n:=by cases o with|none=>exact b|some v=>show (if v<0 then (v+(n:Int)).toNat else min v.toNat n)<=n;by_cases a:v<0;rw[eL a];lia;rw[e8 a];exact Nat.min_le_right _ _
theorem VB(v:Int)(n d:Nat):(if v<0 then max (v+(n:Int)) 0 else min v (n:Int))=((lV n d (ac v):Nat):Int):=by show (if v<0 then max (v+(n:Int)) 0 else min v (n:Int))=(((if v<0 then (v+(n:Int)).toNat else min v.toNat n):Nat):Int);by_cases a:v<0;simp only[eL a];lia;simp only[e8 a];lia
theorem TY(lo a:Option Int)(n:Nat):Builtin.Slice.sliceAdjust lo a 1 (n:Int)=(((lV n 0 lo:Nat):Int),((lV n n a:Nat):Int)):=by
 have b:¬((1:Int)<0):=∅;unfold Builtin.Slice.sliceAdjust;simp only[b,if_false];refine Prod.ext ?_ ?_;cases lo with|none=>rfl|some v=>exact VB v n 0
 cases a with|none=>rfl|some v=>exact VB v n n
theorem TZ(i j:Nat):Builtin.Slice.slicePlaces (i:Int) (j:Int) 1=j-i:=by unfold Builtin.Slice.slicePlaces;have a:(1:Int) > 0:=∅;simp only[a,if_true,Int.ediv_one];split <;> lia
theorem JM{v:ar}{o:Option Int}{Q:Option Int->aw->Prop}(p:IsPart v o)(h:Q o s):cf (model prog w) A (Builtin.Slice.slicePartIndex v) Q E s:=by cases p with|none=>exact slicePart_none h|int i t=>exact slicePart_int h
theorem GF{f:am}{d e:ar}{lo c:Option Int}{n:Nat}{Q:Int×Int×Nat->aw->Prop}(g:s.heap.IsSliceOf f d e .none)(pl:IsPart d lo)(i:IsPart e c)(h:Q (((lV n 0 lo:Nat):Int),1,lV n n c-lV n 0 lo) s):cf (model prog w) A (Builtin.Slice.sliceApplied (.ref f) (pure (n:Int))) Q E s:=by obtain⟨os,b,j,a⟩:=id g;unfold Builtin.Slice.sliceApplied Builtin.Slice.sliceFields;refine ax (ax (wpAny_field b a (x:=d) rfl (ax (wpAny_field b a (x:=e) rfl (ax (wpAny_field b a (x:=.none) rfl (a6 ?_)))))));refine ax (slicePart_none ?_);show cf _ _ (if ((1:Int)==0)=ag then _ else _) _ _ s;rw[e8 (!_)];refine ax (JM pl (ax (JM i (ax (a6 ?_)))));show cf _ _ (match Builtin.Slice.sliceAdjust lo c 1 (n:Int) with|(lo,c)=>pure (lo,(1:Int),Builtin.Slice.slicePlaces lo c 1)) _ _ s;rw[TY lo c n];show cf _ _ (pure (((lV n 0 lo:Nat):Int),(1:Int),Builtin.Slice.slicePlaces ((lV n 0 lo:Nat):Int) ((lV n n c:Nat):Int) 1)) _ _ s;rw[TZ];exact a6 h
theorem Zs(xs:Array ar)(i k:Nat):((aB k).filterMap λ(m:Nat)=>xs[((i:Int)+(m:Int)*1).toNat]?).toArray=((xs.toList.drop i).take k).toArray:=by have e:(λ(m:Nat)=>xs[((i:Int)+(m:Int)*1).toNat]?)=λm=>xs[i+m]?:=(by funext m;have:((i:Int)+(m:Int)*1).toNat=i+m:=∅;rw[this]);rw[e];have:=pick_run xs i k;rw[List.filterMap_map] at this;have a:((λx=>xs[x]?)∘λx=>i+x)=λm=>xs[i+m]?:=rfl;rw[a] at this;rw[this]
theorem E5{t d:am}{items:Array ar}{l j:ar}{lo a:Option Int}{Q:ar->aw->Prop}(c:IsTup s.heap t items)(k:s.heap.IsSliceOf d l j .none)(pl:IsPart l lo)(o:IsPart j a)(r:¬(lV items.size 0 lo=0/\lV items.size items.size a=items.size))(h:Q (.ref s.heap.objs.size) {s with heap:=s.heap.push {cls:=.type "tuple",data:=.seq ((items.toList.drop (lV items.size 0 lo)).take (lV items.size items.size a-lV items.size 0 lo)).toArray}})(n:items.size<=bc):cf (model prog w) A (getItem (.ref t) (.ref d)) Q E s:=by
 have b:sizeOk (.seq ((items.toList.drop (lV items.size 0 lo)).take (lV items.size items.size a-lV items.size 0 lo)).toArray):=(by show ((items.toList.drop (lV items.size 0 lo)).take (lV items.size items.size a-lV items.size 0 lo)).toArray.size<=bc;rw[aU,b6,List.length_drop,iy];lia);have x:lV items.size items.size a<=items.size:=afV _ _ (az _) a;obtain⟨os,e,g,p⟩:=id k;have f:s.TypeIs (.ref d) "slice" := ⟨os,e,g⟩;unfold getItem;(try with_reducible refine wpAny_holding ?_);(first|refine ax (a6 ?_)|skip);refine ax (wpAny_sequenceKey c.typeIs (!_) ?_);refine ax (wpAny_callSpecial?_slot (name:=ba "__getitem__") c.typeIs wJ (wpAny_call_entry wJ c.typeIs entry_tuple_getitem ?_ (args_tuple_getitem _ _)));show cf _ _ (Builtin.Tuple.tupleItemsOf (.ref t) >>= _) _ _ s;refine ax (tupleItemsOf_ c ?_);refine ax (wpAny_typeOf f ?_);rw[eL (!_)];refine ax (GF k pl o ?_);have i:¬((((lV items.size 0 lo:Nat):Int)==0&&(1:Int)==1&&(lV items.size items.size a-lV items.size 0 lo)==items.size)=ag):=(by intro q;rw[dg,dg] at q;have u:((lV items.size 0 lo:Nat):Int)=0:=eq_of_beq q.1.1;have v:lV items.size items.size a-lV items.size 0 lo=items.size:=eq_of_beq q.2;exact r ⟨66⟩);show cf _ _ (if (((lV items.size 0 lo:Nat):Int)==0&&(1:Int)==1&&(lV items.size items.size a-lV items.size 0 lo)==items.size)=ag then _ else _) _ _ s;rw[e8 i,Zs]
 first
  |exact ax (m:=Builtin.Tuple.tupleExact _) (wpAny_newObj_type (a6 ⟨1,a6 h⟩) b)
  |exact ax (m:=Builtin.Tuple.tupleExact _) (wpAny_newObj_type (ax (a6 (a6 ⟨1,a6 h⟩))) b)
  |exact ax (ax (m:=Builtin.Tuple.tupleExact _) (wpAny_newObj_type (a6 (a6 ⟨1,a6 h⟩)) b))
  |exact ax (ax (m:=Builtin.Tuple.tupleExact _) (wpAny_newObj_type (a6 ⟨1,a6 h⟩) b))
end
end HT
namespace L2
open PySem PySem.Spec PyProof.Rows
abbrev TO:=St->Hp->(Option Int->Hp->Prop)->Prop
def PO(X:Cx)(e:Option Expr)(t:TO):Prop:=
 ∀(pins:List (am×Obj))(s:aw)(σ:St)(H:Hp)(Q:Option Int->Hp->Prop),Inv X pins σ H s->t σ H Q ->
  cf (model X.prog X.w) X.A (evalPart e X.env) (λu s'=>∃o H',Inv X pins σ H' s'/\IsPart u o/\Q o H') X.xe s
def ace:TO:=λ_ H Q=>Q ae H
inductive aet(Q:Option Int->Hp->Prop)(x:V)(H1:Hp):Prop
 |mk(i:Int)(a:x=.int i)(b:Q (ac i) H1):aet Q x H1
def aiP(t:TE):TO:=λσ H Q=>t σ H (aet Q)
theorem intsAre_of{ns:List Int}:∀{us:List ar},cO (ns.map cn) us->IntsAre us ns:=by induction ns with|nil=>intro us r;rw[tH] at r;cases r;exact .nil|cons n ns b=>(intro us r;rw[bK] at r;cases r with|cons c a=>obtain⟨t,e⟩:=c;subst e;exact .cons n t (b a))
section
variable{X:Cx}{e:Expr}{te:TE}{lo hi:Option Expr}{tl th:TO}{pos p2:Pos}
theorem E6:PO X ae ace:=by intro a s b H Q I h;rw[evalPart_none];exact a6 ⟨ae,H,I,.none,h⟩
theorem qR(h:PE X e te):PO X (ac e) (aiP te):=by intro a s b H Q I j;rw[evalPart_some];refine ir (h a s b H _ I j) λu k ⟨x,c,f,d,g⟩=>?_;obtain⟨i,rfl,q⟩:=g;obtain⟨t,rfl⟩:=d;exists ac i,c,f,.int i t,q
def SlR(X:Cx)(r:V->Option Int->Option Int->Hp->VK->Prop):Prop:=
 ∀(pins:List (am×Obj))(s:aw)(σ:St)(H:Hp)(x:V)(v vl vu:ar)(lo hi:Option Int)(sl:am)(Q:VK),Inv X pins σ H s->RelV x v->s.heap.IsSliceOf sl vl vu .none->IsPart vl lo->IsPart vu hi->r x lo hi H Q ->
  ∃T id,typeLookup (.type T) "__getitem__" = pure (ac (.builtin id))/\s.TypeIs v T/\cf (model X.prog X.w) X.A (getItem v (.ref sl)) (EP X pins σ Q) X.xe s
def tSl(r:V->Option Int->Option Int->Hp->VK->Prop)(te:TE)(tl th:TO):TE:=λσ H Q=>te σ H λx H1=>tl σ H1 λl H2=>th σ H2 λu H3=>r x l u H3 Q
theorem uv{r:V->Option Int->Option Int->Hp->VK->Prop}(N:SlR X r)(m:PE X e te)(hl:PO X lo tl)(z:PO X hi th):PE X (.Subscript e (.Slice lo hi ae p2) pos) (tSl r te tl th):=by intro a s d H Q I h;refine Subscript_ (ir (m a s d H _ I h) λv G ⟨x,n,D,o,E⟩=>?_);refine wpAny_Slice (ir (hl a G d n _ D E) λg y ⟨l,k,L,j,F⟩=>ir (z a y d k _ L F) λf c ⟨u,i,p,B,K⟩=>?_);rw[evalPart_none];refine a6 ?_;have t:Inv X a d i {c with heap:=c.heap.push {cls:=.type "slice",data:=.fields #[g,f,.none]}}:=p.kept (t':=c.toks) λb O q=>a7 _ q;obtain⟨T,id,C,M,J⟩:=N a {c with heap:=c.heap.push {cls:=.type "slice",data:=.fields #[g,f,.none]}} d i x v g f l u c.heap.objs.size Q t o (Heap.IsSliceOf.new ..) j B K;show cf (model X.prog X.w) X.A (subscriptTail e (.Slice lo hi ae p2) v (.ref c.heap.objs.size)) (EP X a d Q) X.xe {c with heap:=c.heap.push {cls:=.type "slice",data:=.fields #[g,f,.none]}};exact tail_any (ops:=[.ref c.heap.objs.size,v]) M C J (by with_unfolding_all rfl)
noncomputable def DU(xs:List V)(lo hi:Option Int):List V:=(xs.drop (HT.lV (wL xs) 0 lo)).take (HT.lV (wL xs) (wL xs) hi-HT.lV (wL xs) 0 lo)
theorem HV(xs:List V)(lo hi:Option Int):(DU xs lo hi).length<=wL xs:=by unfold DU;rw[b6,List.length_drop];lia
def aiQ(K:ai):V->Option Int->Option Int->Hp->VK->Prop:=λx lo hi H Q=>∃a xs,x=.ref a/\cD K H a xs /\
 ¬(HT.lV (wL xs) 0 lo=0/\HT.lV (wL xs) (wL xs) hi=xs.length)/\∀p,H p=ae->Q (.ref p) (upd H p (.tup (DU xs lo hi)))
theorem GG:SlR X (aiQ X.K):=by intro f s t H x v z u lo hi w Q I m p j k h;obtain⟨a,d,rfl,l,n,q⟩:=h;cases m;obtain⟨e,r,g,i⟩:=I.tuple l;have c:e.toArray.size=d.length:=(by rw[aU];exact r.length.symm);exists "tuple",_,wJ.lookup,g.typeIs,4;refine HT.E5 g p j k (by rw[c];exact n) ?_ (by rw[c];exact i);rw[c];exists .ref s.heap.objs.size,_,I.laid (t':=s.toks) (o:=.tup (DU d lo hi)) (λb y q=>a7 _ q) (az _) ?_,2,q _ (I.hok.fresh (az _));exists aJ (HV d lo hi) i,_,(r.drop (HT.lV d.length 0 lo)).take (HT.lV d.length d.length hi-HT.lV d.length 0 lo),IsTup.new _ _
def aeu(K:ai):R2:=λx y H Q=>∃a b xs ys,x=.ref a/\y=.ref b/\cD K H a xs/\cD K H b ys/\xs≠[]/\wL xs+wL ys<=bc /\
 (ys=[]->Q (.ref a) H)/\(ys≠[]->∀p,H p=ae->Q (.ref p) (upd H p (.tup (xs++ys))))
theorem cO.OQ{xs:List V}{us:List ar}(r:cO xs us):us=[]↔xs=[]:=by cases r with|nil=>simp|cons _ _=>simp
theorem acf:ya X (binaryOp .Add) (aeu X.K):=by intro f s C H x y v u Q I t k h;obtain⟨a,b,j,A,rfl,rfl,i,m,n,g,p,r⟩:=h;cases t;cases k;obtain⟨B,d,l,_⟩:=I.tuple i;obtain⟨e,c,p2,_⟩:=I.tuple m;refine HT.ab9 l p2 (λz=>n (d.OQ.mp z)) (λz=>⟨.ref a,H,I,2,p (c.OQ.mp z)⟩) (λz=>?_) (by rw[<- d.length,<- c.length];exact g);exists .ref s.heap.objs.size,_,I.laid (t':=s.toks) (o:=.tup (j++A)) (λb D q=>a7 _ q) (az _) ?_,2,r (λw=>z (c.OQ.mpr w)) _ (I.hok.fresh (az _));exists by rw[av];exact g,_,d.append c,IsTup.new _ _
end
noncomputable def ud(n:Nat)(i:Int):Option Nat:=if 0<=i then (if i<n then ac i.toNat else ae) else if -(n:Int)<=i then ac (i+n).toNat else ae
noncomputable def yb{α:Type}(xs:List α)(i:Int):Option α:=(ud (wL xs) i).bind λj=>xs[j]?
theorem Jo{n:Nat}{i:Int}{j:Nat}(h:ud n i=ac j):seqIndex? i n=ac j/\j<n/\-(n:Int)<=i/\i<n:=by unfold ud at h;by_cases b:0<=i;rw[eL b] at h;by_cases a:i<n;rw[eL a] at h;have e:i.toNat=j:=aO h;exists by rw[seqIndex_of b a,e],66,a;rw[e8 a] at h;cases h;rw[e8 b] at h;by_cases a:-(n:Int)<=i;rw[eL a] at h;have e:(i+n).toNat=j:=aO h;exists by rw[seqIndex_neg ∅ a,e],6,a,6;rw[e8 a] at h;cases h
theorem VD{a:Type}{xs:List a}{i:Int}{v:a}(h:yb xs i=ac v):∃j,seqIndex? i xs.length=ac j/\xs[j]?=ac v/\j<wL xs/\-(xs.length:Int)<=i/\i<wL xs:=by unfold yb at h;cases e:ud (wL xs) i with|none=>rw[e] at h;cases h|some j=>rw[e] at h;obtain⟨f,c,d,b⟩:=Jo e;exists j,f,h,c,d,b
theorem bO{a:Type}{xs:List a}{j:Nat}{v:a}(h:xs[j]?=ac v):yb xs (j:Int)=ac v:=by have b:j<wL xs:=(aj.mp h).1;have e:ud (wL xs) (j:Int)=ac j:=(by unfold ud;rw[eL ∅,eL ∅];simp);unfold yb;rw[e];exact h
def E7(b:Expr):Prop:=∀o i,subscripted b al o i=operate [o,i] (getItem o i)
def IxR(X:Cx)(r:R2):Prop:=
 ∀(value slice:Expr)(pins:List (am×Obj))(s:aw)(σ:St)(H:Hp)(x y:V)(v u:ar)(Q:VK),Inv X pins σ H s->RelV x v->RelV y u->r x y H Q ->
  subscripted slice al v u=operate [v,u] (getItem v u)->cf (model X.prog X.w) X.A (subscriptTail value slice v u) (EP X pins σ Q) X.xe s
def MtR(X:Cx)(id:String)(r:V->List V->Hp->VK->Prop):Prop:=
 ∀(pins:List (am×Obj))(s:aw)(σ:St)(H:Hp)(x:V)(xs:List V)(v:ar)(us:List ar)(Q:VK),Inv X pins σ H s->RelV x v->cO xs us->r x xs H Q ->
  cf (model X.prog X.w) X.A (call (.builtin id) (v::us)) (EP X pins σ Q) X.xe s
section
variable{X:Cx}{a b:Expr}{ta tb:TE}{pos:Pos}
theorem VE{r:R2}(n:IxR X r)(f:PE X a ta)(j:PE X b tb)(l:E7 b):PE X (.Subscript a b pos) (nT r ta tb):=by intro c s d H Q I h;exact Subscript_ (afN f j I h λv u g x y e m k i q=>n a b c g d e x y v u Q m k i q (l _ _))
inductive T4(K:ai)(x y:V)(H:Hp)(Q:VK):Prop
 |mk(p:am)(xs:List V)(i:Int)(v:V)(h1:x=.ref p)(h2:y=.int i)(h3:bI K H p xs)(h4:yb xs i=ac v)(h5:Q v H):T4 K x y H Q
inductive W0(K:ai)(x y:V)(H:Hp)(Q:VK):Prop
 |mk(p:am)(xs:List V)(i:Int)(v:V)(h1:x=.ref p)(h2:y=.int i)(h3:cD K H p xs)(h4:yb xs i=ac v)(h5:Q v H):W0 K x y H Q
theorem VF:IxR X (T4 X.K):=by intro k g a s m H x y v u Q I M C h A;obtain⟨p,N,i,z,rfl,rfl,L,B,q⟩:=h;cases M;obtain⟨t,rfl⟩:=C;obtain⟨l,r,d,R⟩:=I.list L;obtain⟨j,c,E,P,D,G⟩:=VD B;obtain⟨w,o,e⟩:=r.get E;have F:=r.length;have O:=JJ;have b:EP X a m Q w s:=⟨z,H,I,e,q⟩;by_cases n:0<=i;have f:i.toNat=j:=(by rw[seqIndex_of n G] at c;exact aO c);exact item_listR d.isList n ∅ (by rw[f];simpa using o) b A;·have f:(i+(l.toArray.size:Int)).toNat=j:=(by rw[seqIndex_neg ∅ D] at c;rw[aU,<- F];exact aO c);exact subscriptTail_builtinR (x:=w) d.isList.typeIs slot_list_getitem.lookup (wpAny_getItem_list_neg (Q:=λr J=>r=w/\EP X a m Q r J) d.isList ∅ (by rw[aU] <;> lia) ∅ (by rw[f];simpa using o) ⟨2,b⟩) A
theorem Zt:IxR X (W0 X.K):=by
 intro e d a s f H x y v u Q I C l h E;obtain⟨p,G,i,z,rfl,rfl,B,k,q⟩:=h;cases C;obtain⟨t,rfl⟩:=l;obtain⟨F,r,g,O⟩:=I.tuple B;obtain⟨j,n,m,N,J,M⟩:=VD k;obtain⟨w,D,b⟩:=r.get m;have o:=r.length;have L:=JJ;have c:EP X a f Q w s:=⟨z,H,I,b,q⟩;exact subscriptTail_builtinR (x:=w) g.typeIs slot_tuple_getitem.lookup
  (getItem_tuple (j:=j) (Q:=λr A=>r=w/\EP X a f Q r A) g ∅ ∅ (by rw[aU,<- o];exact n) (by simpa using D) ⟨2,c⟩) E
theorem T5(a:List ar)(n j:Nat)(u:ar):Obj.mapSeq (·.setIfInBounds j u) {cls:=.type "list",data:=.seq a.toArray n}={cls:=.type "list",data:=.seq (a.set j u).toArray n}:=by simp[Obj.mapSeq]
theorem Inv.lst{b:List (am×Obj)}{c:St}{H:Hp}{s:aw}{p:am}{xs:List V}(I:Inv X b c H s)(h:H p=ac (.lst xs)) :∃(a:List ar)(n:Nat),cO xs a/\s.heap.get? p=ac {cls:=.type "list",data:=.seq a.toArray n}/\wL xs<=bc:=by obtain⟨z,a,n,r,e⟩:=I.hok p _ h;exists a,n,r,e,z
theorem Inv.afW{a:List (am×Obj)}{i:St}{H:Hp}{s:aw}{p:am}{xs g:List V}{c its':List ar}{n d:Nat}{f:Obj->Obj}(I:Inv X a i H s)(h:H p=ac (.lst xs)) (k:s.heap.get? p=ac {cls:=.type "list",data:=.seq c.toArray n}) (j:f {cls:=.type "list",data:=.seq c.toArray n}={cls:=.type "list",data:=.seq its'.toArray d}) (r:cO g its') (m:wL g<=bc) (t:Nat) :Inv X a i (upd H p (.lst g)) {s with heap:=s.heap.update p f,toks:=t}:=by have e:(s.heap.update p f).get? p=ac {cls:=.type "list",data:=.seq its'.toArray d}:=(by rw[Heap.get?_update_self f k (by rw[j] <;> rfl),j]);refine I.write (x:=p) (e:=p) (by rw[h];trivial) (.inl rfl) (λb u l q=>(ce _ _ (bT l)).trans q) ⟨_,e⟩ ?_;exists m,its',d,r,e
def aiS:V->V->V->Hp->(Hp->Prop)->Prop:=λo i v H Q=>∃p xs k j,o=.ref p/\i=.int k/\H p=ac (.lst xs)/\ud (wL xs) k=ac j/\Q (upd H p (.lst (xs.set j v)))
theorem set_list:aiD X aiS:=by
 intro a s y H o i v K F u Q I C A B h;obtain⟨p,z,k,j,rfl,rfl,m,D,q⟩:=h;cases C;obtain⟨t,rfl⟩:=A;obtain⟨b,n,r,e,E⟩:=I.lst m;obtain⟨c,G,w,g⟩:=Jo D;have f:=r.length;have J:=JJ;have x:Inv X a y (upd H p (.lst (z.set j v))) {s with heap:=s.heap.update p (Obj.mapSeq (·.setIfInBounds j u))}:=
  I.afW m e (T5 b n j u) (r.set B j) (by rw[aQ];exact E) s.toks
 by_cases l:0<=k;have d:k.toNat=j:=(by rw[seqIndex_of l g] at c;exact aO c);exact PySem.W.ki_setAt e l ∅ (by rw[aU,<- f];exact g) (by rw[d];exists _,x,q);have d:(k+(b.toArray.size:Int)).toNat=j:=(by rw[seqIndex_neg ∅ w] at c;rw[aU,<- f];exact aO c);exact PySem.W.ki_setBack e ∅ (by rw[aU,<- f];exact w) ∅ (by rw[d];exists _,x,q)
theorem OR(lo a:Option Int)(n:Nat):(sliceBounds lo a ae n).1=((HT.lV n 0 lo:Nat):Int)/\(sliceBounds lo a ae n).2.1=((HT.lV n n a:Nat):Int)/\(sliceBounds lo a ae n).2.2=1:=by
 exists 442;·cases lo with|none=>simp[sliceBounds,HT.lV]|some i=>simp only[sliceBounds,HT.lV,Option.getD_none,show (1:Int) > 0 by decide,if_true];by_cases h:i<0;(·simp only[h,if_true] <;> lia);·simp only[h,if_false] <;> lia
 ·cases a with|none=>simp[sliceBounds,HT.lV]|some i=>simp only[sliceBounds,HT.lV,Option.getD_none,show (1:Int) > 0 by decide,if_true];by_cases h:i<0;(·simp only[h,if_true] <;> lia);·simp only[h,if_false] <;> lia
theorem Mh(a:List ar)(lo b:Option Int):slicePick a.toArray lo b ae=((a.drop (HT.lV a.length 0 lo)).take (HT.lV a.length a.length b-HT.lV a.length 0 lo)).toArray:=by obtain⟨e,c,d⟩:=OR lo b a.toArray.size;unfold slicePick;rw[e,c,d];simp only[sliceRange_one,pick_run,aU] <;> rfl
def amZ(K:ai):V->Option Int->Option Int->Hp->VK->Prop:=λx lo hi H Q=>∃a xs,x=.ref a/\bI K H a xs/\∀p,H p=ae->Q (.ref p) (upd H p (.lst (DU xs lo hi)))
theorem acj:SlR X (amZ X.K):=by intro f s t H x v z u lo e w Q I l m i j h;obtain⟨a,c,rfl,k,q⟩:=h;cases l;obtain⟨p,r,g,n⟩:=I.list k;have d:=r.length;exists "list",_,slot_list_getitem.lookup,g.isList.typeIs,4;refine wpAny_getItem_list_slice g.isList m i j .none (-_) ?_ (by rw[aU] <;> lia);rw[Mh,<- d];exists .ref s.heap.objs.size,_,I.laid (t':=s.toks) (o:=.lst (DU c lo e)) (λb y q=>a7 _ q) (az _) ?_,2,q _ (I.hok.fresh (az _));exists aJ (HV c lo e) n,_,(0),(r.drop (HT.lV c.length 0 lo)).take (HT.lV c.length c.length e-HT.lV c.length 0 lo),a8 _ rfl
noncomputable def AW:V->Bool
 |.gk=>ag
 |.bl _=>ag
 |.int _=>ag
 |.str _=>ag
 |_=>al
noncomputable def W8:V->V->Bool
 |.gk,.gk=>ag
 |.bl a,.bl b=>a==b
 |.bl a,.int b=>(if a then 1 else 0)==b
 |.int a,.bl b=>a==(if b then 1 else 0)
 |.int a,.int b=>a==b
 |.str a,.str b=>a==b
 |_,_=>al
theorem afX{A:cm}{s:aw}{y x:V}{u v:ar}(e:RelV y u)(c:RelV x v)(g:AW y=ag)(f:AW x=ag):SeqAt.EqAt A s u v (W8 y x):=by cases y with|gk=>(cases e;cases x with|gk=>cases c;exact SeqAt.EqAt.same _|bl b=>cases c;exact SeqAt.EqAt.none_bool b|int b=>obtain⟨t,rfl⟩:=c;exact SeqAt.EqAt.none_int b t|str b=>obtain⟨t,rfl⟩:=c;exact SeqAt.EqAt.none_str b t|_=>exact ff (show al=ag from f) aH)|bl a=>(cases e;cases x with|gk=>cases c;exact SeqAt.EqAt.bool_none a|bl b=>cases c;exact SeqAt.EqAt.bool_bool a b|int b=>obtain⟨t,rfl⟩:=c;exact SeqAt.EqAt.bool_int a b t|str b=>obtain⟨t,rfl⟩:=c;exact SeqAt.EqAt.bool_str a b t|_=>exact ff (show al=ag from f) aH)|int a=>(obtain⟨d,rfl⟩:=e;cases x with|gk=>cases c;exact SeqAt.EqAt.int_none a d|bl b=>cases c;exact SeqAt.EqAt.int_bool a d b|int b=>obtain⟨t,rfl⟩:=c;exact SeqAt.EqAt.int_int a d b t|str b=>obtain⟨t,rfl⟩:=c;exact SeqAt.EqAt.int_str a d b t|_=>exact ff (show al=ag from f) aH)|str a=>(obtain⟨d,rfl⟩:=e;cases x with|gk=>cases c;exact SeqAt.EqAt.str_none a d|bl b=>cases c;exact SeqAt.EqAt.str_bool a d b|int b=>obtain⟨t,rfl⟩:=c;exact SeqAt.EqAt.str_int a d b t|str b=>obtain⟨t,rfl⟩:=c;exact SeqAt.EqAt.str_str a d b t|_=>exact ff (show al=ag from f) aH)|_=>exact ff (show al=ag from g) aH
noncomputable def T6(x:V)(u:ar):Bool:=match u with
 |.none=>W8 .gk x
 |.bool b=>W8 (.bl b) x
 |.int i _=>W8 (.int i) x
 |.str z _=>W8 (.str z) x
 |_=>al
theorem Zu{x y:V}{u:ar}(r:RelV y u)(f:AW y=ag):T6 x u=W8 y x:=by cases y with|gk=>cases r;rfl|bl b=>cases r;rfl|int i=>obtain⟨t,rfl⟩:=r;rfl|str z=>obtain⟨t,rfl⟩:=r;rfl|_=>exact ff (show al=ag from f) aH
theorem E8{x:V}:∀{xs:List V}{us:List ar},cO xs us->xs.all AW=ag->us.any (T6 x)=xs.any λy=>W8 y x
 |_,_,.nil,_=>rfl
 |y::xs,u::us,.cons r t,f=>by
  rw[List.all_cons,dg] at f;rw[List.any_cons,List.any_cons,Zu r f.1,E8 t f.2]
theorem AX{A:cm}{s:aw}{x:V}{v:ar}(b:RelV x v)(a:AW x=ag):∀{xs:List V}{us:List ar},cO xs us->xs.all AW=ag->∀u∈us,SeqAt.EqAt A s u v (T6 x u)
 |_,_,.nil,_=>λu hu=>by cases hu
 |y::xs,u::us,.cons r t,f=>λc hu=>by
  rw[List.all_cons,dg] at f;rcases bR.mp hu with rfl|hu
  ·rw[Zu r f.1];exact afX r b f.1 a
  ·exact AX b a t f.2 c hu
noncomputable def Av(x:V)(xs:List V):Bool:=xs.any λy=>W8 y x
inductive rIn(K:ai)(neg:Bool)(x y:V)(H:Hp)(Q:VK):Prop
 |mk(p:am)(xs:List V)(h1:y=.ref p)(h2:bI K H p xs∨cD K H p xs)(h3:AW x=ag)(h4:xs.all AW=ag)(h5:Q (.bl (if neg then !Av x xs else Av x xs)) H):rIn K neg x y H Q
theorem oq:ya X (bv .In) (rIn X.K al):=by intro g s k H x y v u Q I e i h;obtain⟨p,l,rfl,hq,f,b,q⟩:=h;cases i;rcases hq with hq|hq;obtain⟨a,r,c,j⟩:=I.list hq;refine SeqAt.in_listAt (T6 x) c.isList (λw d=>AX e f r b w (by simpa using d)) ⟨.bl _,H,I,24⟩;rw[show a.toArray.any (T6 x)=a.any (T6 x) by simp,E8 r b];exact q;obtain⟨a,r,c,j⟩:=I.tuple hq;refine SeqAt.in_tupleAt (T6 x) c (λw d=>AX e f r b w (by simpa using d)) ⟨.bl _,H,I,24⟩;rw[show a.toArray.any (T6 x)=a.any (T6 x) by simp,E8 r b];exact q
theorem lW:ya X (bv .NotIn) (rIn X.K ag):=by intro g s k H x y v u Q I e i h;obtain⟨p,l,rfl,hq,f,b,q⟩:=h;cases i;rcases hq with hq|hq;obtain⟨a,r,c,j⟩:=I.list hq;refine SeqAt.notIn_listAt (T6 x) c.isList (λw d=>AX e f r b w (by simpa using d)) ⟨.bl _,H,I,24⟩;rw[show a.toArray.any (T6 x)=a.any (T6 x) by simp,E8 r b];exact q;obtain⟨a,r,c,j⟩:=I.tuple hq;refine SeqAt.notIn_tupleAt (T6 x) c (λw d=>AX e f r b w (by simpa using d)) ⟨.bl _,H,I,24⟩;rw[show a.toArray.any (T6 x)=a.any (T6 x) by simp,E8 r b];exact q
theorem OT:qg X (.builtin "len") (λxs H Q=>∃p b,xs=[.ref p]/\(bI X.K H p b∨cD X.K H p b)/\Q (.int b.length) H):=by
 intro f s j H xs l Q I r h;obtain⟨p,b,rfl,hq,q⟩:=h;obtain⟨u,rfl,g⟩:=vals1 r;cases g;have k:=JJ;rcases hq with hq|hq;·obtain⟨e,d,c,i⟩:=I.list hq;have a:=d.length;exact Calls.call_len_list c.isList (by simp only[aU] <;> lia) ⟨.int b.length,H,I.tok _,⟨s.toks+1,by rw[aU,a]⟩,q⟩
 ·obtain⟨e,d,c,i⟩:=I.tuple hq;have a:=d.length;exact len_tuple c (by simp only[aU] <;> lia) ⟨.int b.length,H,I.tok _,⟨s.toks+1,by rw[aU,a]⟩,q⟩
theorem gC:qg X (.type "list") (λxs H Q=>∃p g,xs=[.ref p]/\(bI X.K H p g∨cD X.K H p g)/\∀l,H l=ae->Q (.ref l) (upd H l (.lst g))):=by
 intro m s B H xs D Q I r h;obtain⟨p,g,rfl,hq,q⟩:=h;obtain⟨u,rfl,C⟩:=vals1 r;cases C;have k:∀(a:List ar),cO g a->wL g<=bc->∀(c:Heap)(d:Nat),(∀b A,s.heap.get? b=ac A->c.get? b=ac A) ->
  c.get? s.heap.objs.size=ac {cls:=.type "list",dict:=ae,data:=.seq a.toArray d,slots:=#[]}->EP X m B Q (.ref s.heap.objs.size) {s with heap:=c}:=λa f t c d i e=>
  ⟨.ref s.heap.objs.size,_,I.laid (t':=s.toks) i (az _) (show gI X.prog X.w _ c _ (.lst g) from ⟨t,a,d,f,e⟩),2,q _ (I.hok.fresh (az _))⟩
 rcases hq with hq|hq;·obtain⟨a,f,v,t⟩:=I.list hq;have j:=f.length;obtain⟨o,y,z,n,x⟩:=v.isList;exact call_list_seq p (.inl rfl) y z x (λc d i e=>k a f t c d i e) (by simp only[aU] <;> lia)
 ·obtain⟨a,f,v,t⟩:=I.tuple hq;have j:=f.length;obtain⟨o,y,z,n,x⟩:=v;exact call_list_seq p (.inr rfl) y z x (λc d i e=>k a f t c d i e) (by simp only[aU] <;> lia)
def tyV(K:ai)(T:String)(x:V)(H:Hp):Prop:=match x with
 |.str _=>T = "str"
 |.int _=>T = "int"
 |.ref p=>(T = "list" /\ ∃xs,bI K H p xs)∨(T = "tuple" /\ ∃o,K.lookup p=ac o/\o.cls=.type "tuple" /\ o.dict=ae) ∨
  (T = "dict" /\ ((∃kvs,H p=ac (.dK kvs))∨∃kvs,H p=ac (.dT kvs)))∨(T = "set" /\ ∃S n,H p=ac (.set S n))
 |_=>False
theorem Zv{f:List (am×Obj)}{m:St}{H:Hp}{s:aw}{T:String}{x:V}{v:ar}(I:Inv X f m H s)(r:RelV x v)(g:tyV X.K T x H) :s.TypeIs v T/\∀a,v=.ref a->∃ob,s.heap.get? a=ac ob/\ob.dict=ae:=by cases x with|str z=>obtain⟨t,rfl⟩:=r;cases (show T = "str" from g);exact⟨typeIs_str s z t,λ_ e=>nomatch e⟩|int i=>obtain⟨t,rfl⟩:=r;cases (show T = "int" from g);exact⟨typeIs_int s i t,λ_ e=>nomatch e⟩|ref p=>(cases r;rcases g with ⟨rfl,y,u⟩|⟨rfl,o,b,q,k⟩|⟨rfl,b⟩|⟨rfl,S,n,b⟩;obtain⟨w,_,l,_⟩:=I.list u;exists l.isList.typeIs,λa e=>?_;cases e;obtain⟨o,n,e,c,k,_⟩:=l;exists o,e,k;exists ⟨o,I.DQ p o b,q⟩,λa e=>?_;cases e;exists o,I.DQ _ o b,k;have z:∃o,s.heap.get? p=ac o/\o.ExactDict:=(by rcases b with ⟨h,b⟩|⟨h,b⟩;obtain⟨_,_,_,_,o,_,_,e,d,_⟩:=I.hok p _ b;exists o,e,d;obtain⟨_,_,_,_,o,_,_,e,d,_⟩:=I.hok p _ b;exists o,e,d);obtain⟨o,e,d⟩:=z;exists ⟨o,e,d.1⟩,λa j=>?_;cases j;exists o,e,d.2.1;obtain⟨o,_,_,_,e,d,_⟩:=I.hok p _ b;exists ⟨o,e,d.1⟩,λa j=>?_;cases j;exists o,e,d.2.1)|_=>exact kT g
def am0(K:ai)(T:String)(r:V->List V->Hp->VK->Prop)(to:TE):TE:=λσ H Q=>to σ H λx H1=>tyV K T x H1/\r x [] H1 Q
def tBM(K:ai)(T:String)(r:V->List V->Hp->VK->Prop)(to:TE)(t:TA):TE:=λσ H Q=>to σ H λx H1=>tyV K T x H1/\t σ H1 λxs H2=>r x xs H2 Q
variable{o e:Expr}{es:List Expr}{to:TE}{t:TA}{name:Str}{apos cpos:Pos}{T id:String}{r:V->List V->Hp->VK->Prop}
theorem T7(pa:PlainAttrs T)(d:Slot T name id)(e:typeOf (.builtin id)=pure (.type "method_descriptor"))(j:MtR X id r)(p:PE X o to)(c:attributeBase o name X.env (eval o X.env)=eval o X.env:=by rfl)(b:(apos.endLine==cpos.line)=ag:=by rfl):PE X (.Call (.Attribute o name apos) [] [] cpos) (am0 X.K T r to):=by intro a s f H Q I h;refine wpAny_Call_method0_late c b (ir (p a s f H _ I h) λv t ⟨x,k,i,g,l,q⟩=>?_);obtain⟨n,m⟩:=Zv i g l;exists T,id,pa,d,e,n,m,Calls.callWith_builtin rfl (PySem.evalArgs_none (j a t f k x [] v [] Q i g .nil q))
theorem mQ(pa:PlainAttrs T)(g:Slot T name id)(j:typeOf (.builtin id)=pure (.type "method_descriptor"))(n:MtR X id r)(C:PE X o to)(u:PA X (e::es) t)(d:attributeBase o name X.env (eval o X.env)=eval o X.env:=by rfl)(f:((backTo cpos (bn (e::es) X.env)).all (λx=>!x.1)&&(backToKw cpos (keywordEach [] X.env)).all (λx=>x.1.isSome) && decide ((e::es).length+([]:List Keyword).length+(if ([]:List Keyword).isEmpty then 0 else 1)<30))=ag:=by rfl)(c:(apos.endLine==cpos.line)=ag:=by rfl)(L:bn (e::es) X.env=(al,eval e X.env)::bn es X.env:=by rfl)(b:(backTo cpos (bn es X.env)).any (·.1)=al:=by rfl) :PE X (.Call (.Attribute o name apos) (e::es) [] cpos) (tBM X.K T r to t):=by intro a s i H Q I h;refine wpAny_Call_method_late d f c rfl (ir (C a s i H _ I h) λv J ⟨x,w,l,k,z,F⟩=>?_);obtain⟨B,A⟩:=Zv l k z;exists T,id,pa,g,j,B,A,4;have m:=u cpos a J i w _ l F;rw[L] at m ⊢;refine Calls.callWith_builtin (by show (al || (backTo cpos (bn es X.env)).any (·.1))=al;rw[b] <;> rfl) (Calls.evalArgs_plain ?_);exact ir m λD y ⟨p,q,M,E,G⟩=>n a y i q x p v D Q M k E G
end
def MtM(X:Cx)(id:String)(r:V->List V->Hp->VK->Prop):Prop:=
 ∀(pins:List (am×Obj))(s:aw)(σ:St)(H:Hp)(x:V)(xs:List V)(v:ar)(us:List ar)(Q:VK),Inv X pins σ H s->RelV x v->cO xs us->r x xs H Q ->
  cf (model X.prog X.w) X.A (call (.builtin id) (v::us)) (EP X pins σ Q) X.xe s
theorem cO.one:∀{x:V}{us:List ar},cO [x] us->∃u,us=[u]/\RelV x u
 |_,_,.cons r .nil=>⟨1,r⟩
theorem cO.two:∀{x y:V}{us:List ar},cO [x,y] us->∃u v,us=[u,v]/\RelV x u/\RelV y v
 |_,_,_,.cons r (.cons q .nil)=>⟨31,r,q⟩
theorem cO.zero:∀{us:List ar},cO [] us->us=[]
 |_,.nil=>rfl
theorem cO.eraseIdx:∀{xs:List V}{us:List ar}(i:Nat),cO xs us->cO (xs.eraseIdx i) (us.eraseIdx i)
 |_,_,_,.nil=>.nil
 |_,_,0,.cons _ t=>t
 |_,_,i+1,.cons r t=>.cons r (cO.eraseIdx i t)
theorem cO.rep{xs:List V}{us:List ar}(h:cO xs us):∀k:Nat,cO (bL k xs).flatten (bL k us).flatten
 |0=>.nil
 |k+1=>by
  rw[jm,jm,wN,wN];exact cO.append h (cO.rep h k)
theorem M6{a:Type}:∀(l:List a)(i:Nat),(l.eraseIdx i).length<=wL l
 |[],_=>az _
 |_::_,0=>eB _
 |_::r,i+1=>Nat.succ_le_succ (M6 r i)
theorem foldl_rep(b:List ar):∀(k:Nat)(a:List ar),
 List.foldl (λc f=>c++f) a.toArray (bL k b.toArray)=(a++(bL k b).flatten).toArray
 |0,a=>-_
 |k+1,a=>by
  have e:a.toArray++b.toArray=(a++b).toArray:=-_
  have d:(a++b)++(bL k b).flatten=a++(bL (k+1) b).flatten:=by
   rw[jm,wN,jj]
  rw[<- d,<- foldl_rep b k (a++b),<- e,jm,gH]
section
variable{X:Cx}{pins:List (am×Obj)}{σ:St}{H:Hp}{s:aw}{l b:am}{xs ys zs:List V}
theorem Inv.aiT{a its':List ar}{n:Nat}{f:Array ar->Array ar}{t':Nat}(I:Inv X pins σ H s)(h:H l=ac (.lst xs))(e:s.heap.get? l=ac {cls:=.type "list",data:=.seq a.toArray n})(c:f a.toArray=its'.toArray)(b:cO ys its')(i:wL ys<=bc) :Inv X pins σ (upd H l (.lst ys)) {s with heap:=s.heap.update l (Obj.mapSeq f),toks:=t'}:=by have q:=PySem.IsL.update e f;rw[c] at q;refine I.write (x:=l) (e:=l) (by rw[h];exact trivial) (.inl rfl) (λj u g d=>(ce s.heap (Obj.mapSeq f) (bT g)).trans d) ⟨_,q⟩ ?_;exists i,its',_,b,q
theorem Inv.aiU{a:List ar}{t':Nat}(I:Inv X pins σ H s)(b:cO ys a)(hz:wL ys<=bc) :Inv X pins σ (upd H s.heap.objs.size (.lst ys)) {s with heap:=s.heap.push {cls:=.type "list",data:=.seq a.toArray},toks:=t'} :=I.laid (λ_ _ q=>a7 _ q) (az _) ⟨hz,a,(0),b,a8 _ rfl⟩
theorem Inv.fresh(I:Inv X pins σ H s):H s.heap.objs.size=ae:=I.hok.fresh (az _)
theorem Inv.Zw(I:Inv X pins σ H s)(b:H l=ac (.lst xs)):wL xs<=bc/\∃(a:List ar)(n:Nat),cO xs a/\wL xs=a.length/\s.heap.get? l=ac {cls:=.type "list",data:=.seq a.toArray n}:=by obtain⟨z,a,n,r,e⟩:=I.hok l _ b;exists z,a,n,r,r.length,e
theorem Zx{n:Nat}(h:n<=bc):Builtin.List.listTooLong n=al:=by unfold Builtin.List.listTooLong;exact gn ∅
end
section
variable{X:Cx}
inductive Jp(x:V)(vs:List V)(H:Hp)(Q:VK):Prop
 |mk(l:am)(xs:List V)(y:V)(h1:x=.ref l)(h2:vs=[y])(h3:H l=ac (.lst xs))(h4:wL xs<bc)(h5:Q .gk (upd H l (.lst (xs++[y])))):Jp x vs H Q
theorem dZ:MtM X "list.append" Jp:=by intro c s i H x j v m Q I f g h;obtain⟨l,k,y,rfl,rfl,b,p,q⟩:=h;cases f;obtain⟨u,rfl,d⟩:=g.one;obtain⟨z,a,n,r,o,e⟩:=I.Zw b;refine call_meets F.slot_list_append ⟨_,e,2⟩ F.entry_list_append (F.args_list_append_2 _ _) (PySem.list_append l a.toArray n u (by rw[aU];lia)) ⟨e,4⟩;exists .gk,_,I.aiT (its':=a++[u]) b e (-_) (r.append (.cons d .nil)) ?_,2,q;rw[av,List.length_singleton];lia
def afY:V->List V->Hp->VK->Prop:=λx vs H Q=>∃l xs i k y,x=.ref l/\vs=[.int i]/\H l=ac (.lst xs)/\-(2^63)<=i/\i<2^63/\seqIndex? i xs.length=ac k/\xs[k]?=ac y/\Q y (upd H l (.lst (xs.eraseIdx k)))
theorem QS:MtM X "list.pop" afY:=by intro d s E H x G v J Q I A B h;obtain⟨l,f,i,k,y,rfl,rfl,c,m,j,g,D,q⟩:=h;cases A;obtain⟨u,rfl,o⟩:=B.one;obtain⟨t,rfl⟩:=o;obtain⟨z,a,n,r,p,e⟩:=I.Zw c;obtain⟨w,C,b⟩:=r.get D;refine call_meets F.slot_list_pop ⟨_,e,2⟩ F.entry_list_pop (F.args_list_pop_2 _ _) (MeetsSeq.list_pop_at l a.toArray n i t k w (fitsIndex_both m j) (by rw[aU,<- p];exact g) (by rw[<- yd];exact C) (by rw[aU];lia)) ⟨e,4⟩;exists y,_,I.aiT (its':=a.eraseIdx k) c e ?_ (r.eraseIdx k) ?_,b,q;show a.toArray.eraseIdxIfInBounds k=(a.eraseIdx k).toArray;rw[List.eraseIdxIfInBounds_toArray];have:=M6 f k;lia
def aiV:R2:=λx y H Q=>∃l b xs zs,x=.ref l/\y=.ref b/\H l=ac (.lst xs)/\H b=ac (.lst zs)/\wL xs+wL zs<=bc/\∀p,H p=ae->Q (.ref p) (upd H p (.lst (xs++zs)))
theorem JN:ya X (binaryOp .Add) aiV:=by intro d s w H x y v u Q I o i h;obtain⟨l,b,A,B,rfl,rfl,m,p,E,q⟩:=h;cases o;cases i;obtain⟨z,c,n,r,C,e⟩:=I.Zw m;obtain⟨t,a,D,k,f,g⟩:=I.Zw p;refine PySem.P.add_list e g ?_ (by rw[aU,aU];lia);have j:c.toArray++a.toArray=(c++a).toArray:=-_;rw[j];exists .ref _,_,I.aiU (t':=s.toks) (r.append k) (by rw[av];lia),2,q _ I.fresh
def am2:R2:=λx y H Q=>∃l k xs,x=.ref l/\y=.int k/\H l=ac (.lst xs)/\-(2^63)<=k/\k<2^63/\wL xs*k.toNat<=bc /\
 ∀p,H p=ae->Q (.ref p) (upd H p (.lst (bL k.toNat xs).flatten))
theorem len_rep{a:Type}(xs:List a)(k:Nat):(bL k xs).flatten.length=k*wL xs:=by induction k with|zero=>simp|succ k b=>rw[jm,wN,av,b,Nat.succ_mul,Nat.add_comm]
theorem afZ:ya X (binaryOp .Mult) am2:=by intro p s L H x y v u Q I J A h;obtain⟨l,k,M,rfl,rfl,E,C,B,w,q⟩:=h;cases J;obtain⟨t,rfl⟩:=A;obtain⟨z,b,n,r,D,e⟩:=I.Zw E;have d:b.toArray.size*k.toNat<=bc:=(by rw[aU,<- D];exact w);have c:¬b.toArray.size*k.toNat > (2^63-1)/8:=(by have:(bc:Nat)<=(2^63-1)/8:=!_;lia);have f:¬(!Builtin.List.listFitsIndex k)=ag:=(by rw[fitsIndex_both C B];exact aH);have o:¬Builtin.List.listTooLong (b.toArray.size*k.toNat)=ag:=(by rw[Zx d];exact aH);have g:List.foldl (λi j=>i++j) #[] (bL (if b.toArray.isEmpty=ag then 0 else k.toNat) b.toArray)=(bL k.toNat b).flatten.toArray:=(by have K:∀m:Nat,List.foldl (λi j=>i++j) #[] (bL m b.toArray)=(bL m b).flatten.toArray:=λm=>(by have:=foldl_rep b m [];rw[List.nil_append] at this;exact this);rw[K];cases b with|nil=>simp|cons a N=>rw[e8 (-_)]);refine wpAny_binaryOp_repeat_ref (T:="list") (U:="int") (!_) ⟨_,e,2⟩ (λG=>typeIs_int G k t) noFill_list_mul F.fills_int_mul F.slot_int_rmul repeat_list F.slot_int_index.lookup (call_meets F.slot_int_rmul (typeIs_int s k t) F.entry_int_rmul (F.args_int_rmul_2 _ _) (int___rmul___int_list k t l b.toArray n) ⟨e,2,⟨_,e,2⟩,call_meets F.slot_list_mul ⟨_,e,2⟩ F.entry_list_mul (F.args_list_mul_2 _ _) (AutoListH.list___mul___list_int_3 l b.toArray n k t f c o) ⟨e,4⟩⟩);rw[g];exists .ref _,_,I.aiU (t':=s.toks) (r.rep k.toNat) (by rw[len_rep,Nat.mul_comm];exact w),2,q _ I.fresh
end
section
variable{κ:Type}[DecidableEq κ]
noncomputable def E9(kvs:List (κ×V))(k:κ):Option V:=(kvs.find? λkv=>decide (kv.1=k)).map (·.2)
noncomputable def putK(kvs:List (κ×V))(k:κ)(v:V):List (κ×V):=
 if (kvs.any λkv=>decide (kv.1=k))=ag then kvs.map (λkv=>if kv.1=k then (kv.1,v) else kv) else kvs++[(k,v)]
theorem AY{p:κ×V}{r:List (κ×V)}{k:κ}(e:p.1=k):E9 (p::r) k=ac p.2:=by simp[E9,uo,e]
theorem AZ{p:κ×V}{r:List (κ×V)}{k:κ}(e:¬p.1=k):E9 (p::r) k=E9 r k:=by simp[E9,uo,e]
theorem QT(k:κ):∀kvs:List (κ×V),(kvs.any λkv=>decide (kv.1=k))=(E9 kvs k).isSome
 |[]=>rfl
 |p::r=>by
  rw[List.any_cons];by_cases e:p.1=k
  ·simp only[AY e,fy e,Bool.true_or,Option.isSome_some]
  ·rw[AZ e,gn e,Bool.false_or];exact QT k r
theorem HW(kvs:List (κ×V))(k:κ)(v:V):(putK kvs k v).length<=wL kvs+1:=by unfold putK;split;rw[af];lia;rw[av,bC,List.length_nil];lia
theorem AM.GH{o:Option V}{u:Option ar}(r:AM o u):o.isSome=u.isSome:=by
 cases o with
 |none=>cases u with
  |none=>rfl
  |some _=>exact (show False from r).elim
 |some _=>cases u with
  |none=>exact (show False from r).elim
  |some _=>rfl
theorem AM.getD{o:Option V}{u:Option ar}{d:V}{d':ar}(r:AM o u)(a:RelV d d'):RelV (o.getD d) (u.getD d'):=by
 cases o with
 |none=>cases u with
  |none=>exact a
  |some _=>exact (show False from r).elim
 |some _=>cases u with
  |none=>exact (show False from r).elim
  |some _=>exact r
theorem KV.val{kvs:List (κ×V)}{vs:List (κ×ar)}(r:KV kvs vs)(k:κ):AM (E9 kvs k) (valueAt vs k):=by unfold KV at r;induction r with|nil=>exact kP|@cons p q i a h t g=>obtain⟨d,f⟩:=h;by_cases e:p.1=k;have c:q.1=k:=d.symm.trans e;have b:valueAt (q::a) k=ac q.2:=(by simp[valueAt,uo,c]);rw[AY e,b];exact f;have c:¬q.1=k:=λz=>e (d.trans z);have b:valueAt (q::a) k=valueAt a k:=(by simp[valueAt,uo,c]);rw[AZ e,b];exact g
theorem KV.any{kvs:List (κ×V)}{vs:List (κ×ar)}(r:KV kvs vs)(k:κ):(kvs.any λkv=>decide (kv.1=k))=vs.any λkv=>decide (kv.1=k):=by unfold KV at r;induction r with|nil=>rfl|cons h t a=>rw[List.any_cons,List.any_cons,a,h.1]
theorem KV.repl{kvs:List (κ×V)}{vs:List (κ×ar)}(r:KV kvs vs)(k:κ){y:V}{u:ar}(b:RelV y u) :KV (kvs.map λkv=>if kv.1=k then (kv.1,y) else kv) (vs.map λkv=>if kv.1=k then (kv.1,u) else kv):=by unfold KV at r ⊢;induction r with|nil=>exact .nil|@cons p q g f h t d=>rw[bK,bK];refine .cons ?_ d;obtain⟨a,c⟩:=h;by_cases e:p.1=k;rw[eL e,eL (a.symm.trans e)];exists a,b;rw[e8 e,e8 (λz=>e (a.trans z))];exists a,c
theorem KV.put{kvs:List (κ×V)}{vs:List (κ×ar)}(r:KV kvs vs)(k:κ){y:V}{u:ar}(a:RelV y u):KV (putK kvs k y) (stored vs k u):=by unfold putK stored;rw[r.any k];by_cases e:(vs.any λkv=>decide (kv.1=k))=ag;rw[eL e,eL e];exact r.repl k a;rw[e8 e,e8 e];exact Paired.snoc r ⟨2,a⟩
theorem KV.length{kvs:List (κ×V)}{vs:List (κ×ar)}(r:KV kvs vs):wL kvs=vs.length:=Paired.length r
end
theorem QU{P:ci}{w:World}{k:Key}{u:ar}(r:RelV (kV k) u):(i6 P w).is k u=ag:=by cases k with|inl i=>obtain⟨t,e⟩:=(show ∃t,u=Value.int i t from r);subst e;exact QF P w i t|inr x=>obtain⟨t,e⟩:=(show ∃t,u=Value.str x t from r);subst e;exact QG P w x t
theorem M7{P:ci}{w:World}:∀{a:List Key}{us:List ar},cO (a.map kV) us->ItemsAre (i6 P w) a us
 |[],_,r=>by rw[tH] at r;cases r;exact .nil
 |k::a,_,r=>by
  rw[bK] at r;cases r with
  |cons h t=>exact .cons (QU h) (M7 t)
abbrev KT(H:Hp):List (List Key×V)->List (List Key×am×ar)->Prop:=Paired λp q=>p.1=q.1/\H q.2.1=ac (.tup (p.1.map kV))/\RelV p.2 q.2.2
theorem KT.val{H:Hp}{kvs:List (List Key×V)}{xs:List (List Key×am×ar)}(r:KT H kvs xs)(k:List Key):AM (E9 kvs k) ((atKey xs k).map (·.2)):=by induction r with|nil=>exact kP|@cons p q i a h t g=>obtain⟨d,_,f⟩:=h;by_cases e:p.1=k;have c:q.1=k:=d.symm.trans e;have b:atKey (q::a) k=ac q.2:=(by simp[atKey,uo,c]);rw[AY e,b];exact f;have c:¬q.1=k:=λz=>e (d.trans z);have b:atKey (q::a) k=atKey a k:=(by simp[atKey,uo,c]);rw[AZ e,b];exact g
theorem KT.repl{H:Hp}{kvs:List (List Key×V)}{xs:List (List Key×am×ar)}(r:KT H kvs xs)(k:List Key){y:V}{u:ar}(c:RelV y u) :KT H (kvs.map λkv=>if kv.1=k then (kv.1,y) else kv) (xs.map (putAt k u)):=by induction r with|nil=>exact .nil|@cons p q i g h t d=>rw[bK,bK];refine .cons ?_ d;obtain⟨a,b,f⟩:=h;unfold putAt;by_cases e:p.1=k;rw[eL e,eL (a.symm.trans e)];exists a,b,c;rw[e8 e,e8 (λz=>e (a.trans z))];exists a,b,f
theorem KT.put{H:Hp}{kvs:List (List Key×V)}{xs:List (List Key×am×ar)}(r:KT H kvs xs)(k:List Key){b:am}{y:V}{u:ar}(c:H b=ac (.tup (k.map kV)))(a:RelV y u) :KT H (putK kvs k y) (storedH xs k b u):=by have e:(kvs.any λkv=>decide (kv.1=k))=(atKey xs k).isSome:=(by rw[QT,(r.val k).GH,Option.isSome_map]);unfold putK storedH;rw[e];by_cases q:(atKey xs k).isSome=ag;rw[eL q,eL q];exact r.repl k a;rw[e8 q,e8 q];exact Paired.snoc r ⟨2,c,a⟩
theorem KT.keeps{H a:Hp}{kvs:List (List Key×V)}{xs:List (List Key×am×ar)}(r:KT H kvs xs)(d:∀b c,H b=ac (.tup c)->a b=ac (.tup c)):KT a kvs xs :=Paired.ab0 r λ_ _ z=>⟨z.1,d _ _ z.2.1,z.2.2⟩
section
variable{P:ci}{w:World}{H:Hp}{h:Heap}{a:am}
theorem aev{u:HO}(ok:AS P w H h)(e:Rd H a u):gI P w H h a u:=e.ok ok
theorem M8{kvs:List (Key×V)}(ok:AS P w H h)(e:Rd H a (.dK kvs)):wL kvs<=bc/\(a==sysModules)=al/\∃vs,KV kvs vs/\h.DictOf (i6 P w) a vs:=
 show gI P w H h a (.dK kvs) from aev ok e
theorem aiX{kvs:List (Key×V)}(ok:AS P w H h)(e:H a=ac (.dK kvs)):wL kvs<=bc/\(a==sysModules)=al/\∃vs,KV kvs vs/\h.DictOf (i6 P w) a vs:=M8 ok (.inl e)
theorem JO{b:List Key}(ok:AS P w H h)(e:H a=ac (.tup (b.map kV))):(tupleKind (i6 P w)).is h b a:=by obtain⟨_,c,r,o,g,d,n,f⟩:=(show gI P w H h a (.tup (b.map kV)) from ok a _ e);exists o,c.toArray,n,g,d,f,by simpa using M7 r
theorem M9{kvs:List (List Key×V)}(ok:AS P w H h)(e:Rd H a (.dT kvs)):wL kvs<=bc/\(a==sysModules)=al /\∃xs,KT H kvs xs/\h.DictOfH (tupleKind (i6 P w)) a xs:=by obtain⟨z,y,xs,r,o,n,d,i,g,s,f,k⟩:=(show gI P w H h a (.dT kvs) from aev ok e);exists z,y,xs,r,o,n,d,i,g,s,f,λx hx=>?_,k;have b:∀{l:List (List Key×V)}{m:List (List Key×am×ar)},KT H l m->∀x∈m,(tupleKind (i6 P w)).is h x.1 x.2.1:=(by intro l m q;induction q with|nil=>(intro x hx;exact nomatch hx)|@cons p q v u c t j=>(intro x hx;rcases bR.mp hx with e|hx;subst e;exact JO ok (by rw[<- c.1];exact c.2.1);exact j x hx));exact b r x hx
theorem aew{kvs:List (List Key×V)}(ok:AS P w H h)(e:H a=ac (.dT kvs)):wL kvs<=bc/\(a==sysModules)=al /\∃xs,KT H kvs xs/\h.DictOfH (tupleKind (i6 P w)) a xs:=M9 ok (.inl e)
end
def DV(H:Hp)(a:am)(y:V)(r:Option V):Prop:=
 (∃kvs k,Rd H a (.dK kvs)/\y=kV k/\r=E9 kvs k)∨∃kvs k b,Rd H a (.dT kvs)/\y=.ref b/\H b=ac (.tup (k.map kV))/\r=E9 kvs k
def OU(H:Hp)(a:am)(y v:V)(H':Hp):Prop:=
 (∃kvs k,H a=ac (.dK kvs)/\y=kV k/\wL kvs<bc/\H'=upd H a (.dK (putK kvs k v))) ∨
 ∃kvs k b,H a=ac (.dT kvs)/\y=.ref b/\H b=ac (.tup (k.map kV))/\wL kvs<bc/\H'=upd H a (.dT (putK kvs k v))
theorem DV.k{H:Hp}{a:am}{kvs:List (Key×V)}{k:Key}(e:H a=ac (.dK kvs)):DV H a (kV k) (E9 kvs k):=.inl ⟨kvs,k,.inl e,22⟩
theorem DV.t{H:Hp}{a b:am}{kvs:List (List Key×V)}{k:List Key}(e:H a=ac (.dT kvs))(c:H b=ac (.tup (k.map kV))):DV H a (.ref b) (E9 kvs k):=.inr ⟨kvs,k,b,.inl e,2,c,2⟩
theorem OU.k{H:Hp}{a:am}{kvs:List (Key×V)}{k:Key}{v:V}(e:H a=ac (.dK kvs))(hl:wL kvs<bc):OU H a (kV k) v (upd H a (.dK (putK kvs k v))):=.inl ⟨kvs,k,e,2,hl,2⟩
theorem OU.t{H:Hp}{a b:am}{kvs:List (List Key×V)}{k:List Key}{v:V}(e:H a=ac (.dT kvs))(c:H b=ac (.tup (k.map kV)))(hl:wL kvs<bc) :OU H a (.ref b) v (upd H a (.dT (putK kvs k v))):=.inr ⟨kvs,k,b,e,2,c,hl,2⟩
section
variable{X:Cx}{pins:List (am×Obj)}{σ:St}{H:Hp}{s:aw}{a:am}{y v:V}{u r:ar}{o:Option V}{A:cm}{E:ar->aw->Prop}
theorem Inv.big(I:Inv X pins σ H s):sysModules<s.heap.objs.size:=by have h:bi<s.heap.objs.size:=(I.mod.glob.keeps I.bk).lt;exact Nat.lt_trans (!_) h
theorem W9{Q:ar->aw->Prop}(B:A.units+1<cLine)(I:Inv X pins σ H s)(g:DV H a y (ac v))(q:RelV y u)(h:∀d s',Inv X pins σ H s'->RelV v d->Q d s') :cf (model X.prog X.w) A (getItem (.ref a) u) Q E s:=by rcases g with ⟨f,k,e,j,l⟩|⟨f,k,b,e,j,C,l⟩;subst j;obtain⟨z,x,r,rel,i⟩:=M8 I.hok e;obtain⟨d,m,c⟩:=AM.some_of (v:=v) (o:=valueAt r k) (by rw[l];exact rel.val k);exact wpAny_getItem_of (QU q) i.mapOf m (h d _ (I.tok _) c);subst j;cases (show u=Value.ref b from q);obtain⟨z,x,t,rel,i⟩:=M9 I.hok e;obtain⟨d,m,c⟩:=AM.some_of (v:=v) (o:=(atKey t k).map (·.2)) (by rw[l];exact rel.val k);obtain⟨p,D,n⟩:=Option.map_eq_some_iff.mp m;refine wpAny_getItem_heap (tupleKind_room_in1 B) (JO I.hok C) i D ?_;rw[n];exact h d _ (I.tok _) c
theorem am3{Q:ar->aw->Prop}(m:A.units+1<cLine)(I:Inv X pins σ H s)(g:DV H a y o)(j:RelV y u)(h:∀s',Inv X pins σ H s'->Q (.bool o.isSome) s') :cf (model X.prog X.w) A (bv .In u (.ref a)) Q E s:=by rcases g with ⟨c,k,e,i,l⟩|⟨c,k,b,e,i,n,l⟩;subst i;obtain⟨z,d,p,rel,f⟩:=M8 I.hok e;refine wpAny_in_of (QU j) d f.mapOf ?_;rw[<- (rel.val k).GH,<- l];exact h _ (I.tok _);subst i;cases (show u=Value.ref b from j);obtain⟨z,d,r,rel,f⟩:=M9 I.hok e;refine wpAny_in_heap (tupleKind_room_in1 m) (JO I.hok n) d f ?_;have q:=(rel.val k).GH;rw[Option.isSome_map] at q;rw[<- q,<- l];exact h _ (I.tok _)
theorem OV{h':Heap}{t':Nat}{ob:HO}(I:Inv X pins σ H s)(f:Mut (H a))(d:Heap.SameBut a s.heap h')(g:∃q,h'.get? a=ac q)(c:gI X.prog X.w (upd H a ob) h' a ob) :Inv X pins σ (upd H a ob) {s with heap:=h',toks:=t'} :=I.write (x:=a) (e:=a) f (.inl rfl) (λb q h z=>(d.2 b h).trans z) g c
theorem af0{P:ci}{w:World}{d:Hp}{h':Heap}{kvs:List (Key×V)}{vs:List (Key×ar)}(z:wL kvs<=bc)(c:(a==sysModules)=al)(b:KV kvs vs)(dd:h'.DictOf (i6 P w) a vs) :gI P w d h' a (.dK kvs):=⟨z,c,vs,b,dd⟩
theorem Xa{C:Hp}{Q:Unit->aw->Prop}(P:A.units+1<cLine)(I:Inv X pins σ H s)(g:OU H a y v C)(B:RelV y u)(J:RelV v r)(h:∀s',Inv X pins σ C s'->Q () s') :cf (model X.prog X.w) A (setItem (.ref a) u r) Q E s:=by rcases g with ⟨d,k,e,n,l,t⟩|⟨d,k,b,e,n,D,l,t⟩;subst n t;obtain⟨z,j,L,rel,m⟩:=aiX I.hok e;have x:wL L<=bc:=(by rw[<- rel.length];exact z);have o:(putK d k v).length<=bc:=(by have:=HW d k v;lia);refine wpAny_setItem_pairs (hsz:=x) (QU B) m λG f p=>h _ ?_;have K:∃q,G.get? a=ac q:=let ⟨q,_,_,i,_⟩:=f;⟨q,i⟩;exact OV I (by rw[e];exact kP) p K (af0 o j (rel.put k J) f);subst n t;cases (show u=Value.ref b from B);obtain⟨z,j,M,rel,m⟩:=aew I.hok e;have x:wL M<=bc:=(by rw[<- Paired.length rel];exact z);have o:(putK d k v).length<=bc:=(by have:=HW d k v;lia);refine wpAny_setItem_heap (hsz:=x) (tupleKind_room_in1 P) (JO I.hok D) m λG f p=>h _ ?_;obtain⟨q,T,N,i,R,U,O,_,S⟩:=f;refine OV I (by rw[e];exact kP) p ⟨q,i⟩ ⟨o,j,_,(rel.put k D J).keeps λc V F=>?_,q,T,N,i,R,U,O,S⟩;rw[aI (oN F e (λz=>nomatch z))];exact F
end
def aiY(i:Expr):Prop:=∀ov iv,subscripted i al ov iv=operate [ov,iv] (getItem ov iv)
theorem ack{prog:ci}{w:World}{A:cm}{E:ar->aw->Prop}{s:aw}{env:Env}{b a:Expr}{l:Pos}{T id:String}{Q:ar->aw->Prop}(hl:typeLookup (.type T) "__getitem__" = pure (ac (.builtin id)))(n:aiY a)(h:cf (model prog w) A (eval b env) (λo e=>cf (model prog w) A (eval a env) (λi c=>c.TypeIs o T/\cf (model prog w) A (getItem o i) Q E c) E e) E s) :cf (model prog w) A (eval (.Subscript b a l) env) Q E s:=by
 refine Subscript_ (wpAny_mono h (λo e k=>wpAny_mono k (λi c d=>?_) λ_ _ x=>x) λ_ _ x=>x);obtain⟨m,d⟩:=d;unfold subscriptTail;refine ax ?_;rw[getitemInPython_of_ne m.not_modules];refine ax (wpAny_specialOf m hl ?_);have g:cf (model prog w) A (subscripted a al o i) (λr f=>cf (model prog w) A (letTemporaryGo b o r >>= λ_=>pure r) Q E f) E c:=(by rw[n o i];exact wpAny_operating (wpAny_mono d (λr f j=>ax (wpAny_letTemporaryGo (a6 j))) λ_ _ x=>x))
 first
  |exact a6 (ax g)
  |exact ax (a6 (ax g))
  |exact ax g
theorem QV{X:Cx}{c:List (am×Obj)}{h:St}{H:Hp}{s:aw}{a:am}{y:V}{o:Option V}(I:Inv X c h H s)(g:DV H a y o):s.TypeIs (.ref a) "dict":=by rcases g with ⟨d,k,e,_,_⟩|⟨d,k,b,e,_,_,_⟩;obtain⟨_,_,i,_,f⟩:=M8 I.hok e;exact f.typeIs;obtain⟨_,_,j,_,f⟩:=M9 I.hok e;exact f.typeIs
def aiZ(td ty:TE):TE:=λσ H Q=>td σ H λx H1=>ty σ H1 λy H2=>∃a v,x=.ref a/\DV H2 a y (ac v)/\Q v H2
def am4(ty td:TE):TE:=λσ H Q=>ty σ H λy H1=>td σ H1 λx H2=>∃a o,x=.ref a/\DV H2 a y o/\Q (.bl o.isSome) H2
def ai0(td ty tv:TE):TS:=λD σ H=>tv σ H λv H1=>td σ H1 λx H2=>ty σ H2 λy H3=>∃a H4,x=.ref a/\OU H3 a y v H4/\D.nx σ H4
section
variable{X:Cx}{o i e value:Expr}{pos pos' tpos:Pos}{td ty tv:TE}
theorem acm(m:X.A.units+1<cLine)(p:PE X o td)(n:PE X i ty)(C:aiY i):PE X (.Subscript o i pos) (aiZ td ty):=by intro b s d H Q I h;refine ack PySem.F.slot_dict_getitem.lookup C (ir (p b s d H _ I h) λu w ⟨x,j,q,z,r⟩=>ir (n b w d j _ q r) λD E ⟨y,f,e,l,a,v,B,g,t⟩=>?_);subst B;obtain rfl:u=Value.ref a:=z;exists QV e g,W9 m e g l λJ G k c=>⟨v,f,k,c,t⟩
theorem Zy(k:X.A.units+1<cLine)(l:PE X i ty)(m:PE X o td):PC X .In i o (am4 ty td):=by intro b s c H Q I h;refine ir (l b s c H _ I h) λB r ⟨y,e,n,j,p⟩=>ir (m b r c e _ n p) λu C ⟨x,d,z,t,a,v,w,g,q⟩=>?_;subst w;obtain rfl:u=Value.ref a:=t;exact am3 k z g j λD f=>⟨.bl v.isSome,d,f,2,q⟩
theorem OW(n:X.A.units+1<cLine)(q:PE X o td)(p:PE X i ty)(e:PE X value tv)(J:swapsWith value (ac (.Subscript o i pos')) pos.line X.env=pure al) :PS X (.Assign [.Subscript o i pos'] value pos) (ai0 td ty tv):=by intro b s c H D I h;refine wpAny_Assign_Subscript (ir (e b s c H _ I h) λr C ⟨v,f,w,G,z⟩=>ir (q b C c f _ w z) λu l ⟨x,d,L,E,B⟩=>ir (p b l c d _ L B) λM P ⟨y,N,j,m,a,t,F,g,K⟩=>?_) J;subst F;obtain rfl:u=Value.ref a:=E;exact Xa n j g m G λO k=>⟨c,t,k,K⟩
end
theorem Zz{P:ci}{w:World}{H:Hp}(h:Heap)(a:sysModules<h.objs.size):gI P w H (h.push {cls:=.type "dict",data:=.dict #[]}) h.objs.size (.dK []) :=⟨aS _,beq_eq_false_iff_ne.mpr (bT (bY a)),[],.nil,Heap.DictOf.new h⟩
theorem ZA{P:ci}{w:World}{H:Hp}(h:Heap)(a:sysModules<h.objs.size):gI P w H (h.push {cls:=.type "dict",data:=.dict #[]}) h.objs.size (.dT []) :=⟨aS _,beq_eq_false_iff_ne.mpr (bT (bY a)),[],.nil,_,#[],(0),a8 _ rfl,⟨222⟩,22,jh⟩
def af1:TE:=λ_ H Q=>∀p,H p=ae->Q (.ref p) (upd H p (.dK []))
def af2:TE:=λ_ H Q=>∀p,H p=ae->Q (.ref p) (upd H p (.dT []))
section
variable{X:Cx}{pos:Pos}
theorem ZC:PE X (.Dict [] [] pos) af1:=λb s c H Q I h => wpAny_Dict_empty ⟨.ref s.heap.objs.size,_,I.laid (a:=s.heap.objs.size) (o:=.dK []) (t':=s.toks) (λ_ _ q=>a7 _ q) (az _) (Zz s.heap I.big),2,h _ (I.hok.fresh (az _))⟩
theorem A0:PE X (.Dict [] [] pos) af2:=λb s c H Q I h => wpAny_Dict_empty ⟨.ref s.heap.objs.size,_,I.laid (a:=s.heap.objs.size) (o:=.dT []) (t':=s.toks) (λ_ _ q=>a7 _ q) (az _) (ZA s.heap I.big),2,h _ (I.hok.fresh (az _))⟩
end
structure M1(X:Cx)(o:Expr)(m:Str)(apos:Pos)(e:Expr)(cpos:Pos):Prop where
 base:attributeBase o m X.env (eval o X.env)=eval o X.env
 few:((backTo cpos (bn [e] X.env)).all (λx=>!x.1)&&(backToKw cpos (keywordEach [] X.env)).all (λx=>x.1.isSome)
  && decide (([e]:List Expr).length+([]:List Keyword).length+(if ([]:List Keyword).isEmpty then 0 else 1)<30))=ag
 line:(apos.endLine==cpos.line)=ag
 trees:backTo cpos (bn [e] X.env)=[(al,eval e X.env)]
def IsD(H:Hp)(a:am):Prop:=(∃kvs,Rd H a (.dK kvs))∨∃kvs,Rd H a (.dT kvs)
theorem af3{X:Cx}{f:List (am×Obj)}{k:St}{H:Hp}{s:aw}{a:am}(I:Inv X f k H s)(d:IsD H a) :s.TypeIs (.ref a) "dict" /\ (∀b,Value.ref a=.ref b->∃ob,s.heap.get? b=ac ob/\ob.dict=ae)/\(a==sysModules)=al:=by rcases d with ⟨g,e⟩|⟨g,e⟩;obtain⟨_,h,l,_,c⟩:=M8 I.hok e;exists c.typeIs,λb q=>?_,h;cases q;obtain⟨ob,_,_,j,i,_⟩:=c;exists ob,j,i.2.1;obtain⟨_,h,m,_,c⟩:=M9 I.hok e;exists c.typeIs,λb q=>?_,h;cases q;obtain⟨ob,_,_,j,i,_⟩:=c;exists ob,j,i.2.1
section
variable{X:Cx}{pins:List (am×Obj)}{σ:St}{H:Hp}{s:aw}{a:am}{y d:V}{u r:ar}{o:Option V}{A:cm}{E:ar->aw->Prop}
theorem af4{Q:ar->aw->Prop}(p:A.units+1<cLine)(I:Inv X pins σ H s)(g:DV H a y o)(j:RelV y u)(h:∀m s',Inv X pins σ H s'->RelV (o.getD .gk) m->Q m s') :cf (model X.prog X.w) A (call (.builtin "dict.get") [.ref a,u]) Q E s:=by rcases g with ⟨d,k,e,i,l⟩|⟨d,k,b,e,i,q,l⟩;subst i;obtain⟨z,f,r,rel,c⟩:=M8 I.hok e;refine call_meetsIn PySem.F.slot_dict_get c.typeIs PySem.F.entry_dict_get (PySem.F.args_dict_get_2 _ _) (meets_dict_get (i6 X.prog X.w) a (QU j) f) ⟨_,c.mapOf,h _ _ (I.tok _) ?_⟩;rw[l];exact (rel.val k).getD rfl;subst i;cases (show u=Value.ref b from j);obtain⟨z,f,n,rel,c⟩:=M9 I.hok e;refine call_meetsIn PySem.F.slot_dict_get c.typeIs PySem.F.entry_dict_get (PySem.F.args_dict_get_2 _ _) (meetsH_dict_get (tupleKind (i6 X.prog X.w)) a b f) ⟨tupleKind_room_in1 p,k,n,JO I.hok q,c,h _ _ (I.tok _) ?_⟩;rw[l];exact (rel.val k).getD rfl
end
def af5(td ty:TE):TE:=λσ H Q=>td σ H λx H1=>∃a,x=.ref a/\IsD H1 a/\ty σ H1 λy H2=>∃o,DV H2 a y o/\Q (o.getD .gk) H2
section
variable{X:Cx}{o e f:Expr}{apos cpos:Pos}{td ty tx:TE}
theorem ZD(q:X.A.units+1<cLine)(r:PE X o td)(j:PE X e ty)(m:M1 X o "get" apos e cpos):PE X (.Call (.Attribute o "get" apos) [e] [] cpos) (af5 td ty):=by intro b s f H Q I h;refine wpAny_Call_method m.base m.few m.line uh PySem.F.slot_dict_get PySem.F.type_dict_get (ir (r b s f H _ I h) λu z ⟨x,l,i,B,a,C,d,v⟩=>?_);subst C;obtain rfl:u=Value.ref a:=B;obtain⟨t,E,_⟩:=af3 i d;exists t,E,4;rw[m.trees];refine Calls.callWith_builtin rfl (Calls.evalArgs_plain (Calls.spliced_cons (ir (j b z f l _ i v) λG J ⟨y,k,D,p,L,g,w⟩=>Calls.spliced_nil ?_)));exact af4 q D g p λM K n c=>⟨_,k,n,c,w⟩
end
end L2
namespace Att
open PySem PySem.W PySem.Calls PyProof.Rows
theorem IU{P:Params}{h:Heap}:∀(ns:List Int)(vs:List ar),WellAll P h vs (ns.map WData.int)->IntsAre vs ns:=by intro ns;induction ns with|nil=>intro vs w;rw[tH] at w;cases w;exact .nil|cons n ns c=>(intro vs w;rw[bK] at w;cases w with|cons a b=>cases a;exact .cons _ _ (c _ b))
theorem Xb{l:OpenLaw}{n:Nat}(u:l.most=ac n){P:Params}{h:Heap}{args:List WData}{c:List ar}(b:l.row.toRowW.claim.pre args=ag)(k:WellAll P h c args) :∃a vs ns,c=[Value.ref a]/\args=[WData.list (ns.map WData.int)]/\h.get? a=ac {cls:=.type "list",data:=.seq vs.toArray}/\IntsAre vs ns/\wL ns<=n:=by
 have j:WShape.hasAll [] args [.list .int]=ag:=(pre_splitW b).1;have m:l.pre.holds [] {args:=args}=ag:=(pre_splitW b).2;obtain⟨d,r,rfl,s,p⟩:=hasAllW_cons j;obtain rfl:=hasAllW_nil p;obtain⟨y,rfl,w⟩:=hasW_list s;obtain⟨ns,rfl⟩:=items_int w;have e:wL ns<=n:=by
  unfold OpenLaw.pre at m;have g:(WTm.not (.lt (.lit (.int (n:Int))) (.len (.arg 0)))).holds [] {args:=[.list (ns.map .int)]}=ag:=(by have g:=(holds_andW m).1;rw[u] at g;exact g);have i:=condW_of g (w_not (w_lt w_lit (w_len_list (w_arg rfl))));rw[af] at i;refine Nat.le_of_not_lt λq=>?_;have x:(n:Int)<((ns.length:Nat):Int):=∅
  first
   | (rw[fy x] at i;exact ff i (!_))
   | (simp at i;lia)
 cases k with|cons o v=>(cases v;cases o with|list t f=>exists 33,ns,22,t,IU ns _ f,e)
theorem Xc(l:OpenLaw)(args:List WData):l.row.toRowW.claim.post args (.bool ag) args=ag :=postW_of (r:=l.row.toRowW) (X:=(ag==ag)) (show WShape.has [] (.bool ag) .bool=ag by first|rfl|decide|simp[WShape.has,WShape.arms,WShape.armsAll]) (show (WTm.eq .res (.lit (.bool ag))).value [] {args:=args,res:=ac (.bool ag),after:=args}=ac (.bool (ag==ag)) from w_eq_bool (w_res rfl) w_lit) rfl
theorem QW{l:OpenLaw}{n:Nat}{q:ci}{c:List Str}{XP:(Str->Option ar)->Heap->Prop}{C:World->Heap->Prop}{d:DefRec}(N:l.most=ac n)(y:d.params.defaults=[])(call:∀(w:World)(e b:aw)(t u:Str->Option ar)(k:am)(o:Obj)(A p g:ar)(a:am)(vs:List ar)(ns:List Int),Ground q c [] XP w e t u b.heap->C w b.heap ->b.heap.get? k=ac o->o.data=.func (docDef d.name d.params d.body d.scope A p g)->b.heap.CodeRec p d.name->t d.name=ac (.ref k) ->b.heap.get? a=ac {cls:=.type "list",data:=.seq vs.toArray}->IntsAre vs ns->wL ns<=n->b.gens=#[] ->codeAny (model l.prog w) callerA (.call (.ref k) ⟨[.ref a],[]⟩) (λr s=>r=.ok (.ret (.bool ag))/\OldK b.heap s.heap/\s.os=b.os/\AllBare s.gens) b) :WalkO q c XP C l.row.toRowW d [] (λf vs=>PySem.call f vs):=by intro w e b t u G Y k o A p g H kV M I v hD z Q E D S j B P x J;obtain rfl:H=.none:=Dflts.none hD y;obtain rfl:kV=.none:=Dflts.noKw hD;obtain⟨a,vs,ns,rfl,rfl,m,h,i⟩:=Xb N j x;refine enter_call (codeAny_mono (call w e b t u k o A p g a vs ns G Y M (fd_plain I) v z m h i Q) λr s O=>?_);obtain⟨rfl,L,R,K⟩:=O;exists .inl ⟨.bool ag,.bool ag,[],2,λ_=>rfl,.bool ag,Xc l _,λ_=>⟨List.Pairwise.nil,λ_ F=>(nomatch F)⟩⟩,L,R,K
end Att
namespace L2
open PySem PySem.Spec PyProof.Rows
theorem Na:∀{vs:List ar}{ns:List Int},IntsAre vs ns->cO (ns.map cn) vs
 |_,_,.nil=>.nil
 |_,_,.cons n t h=>.cons ⟨t,2⟩ (Na h)
def af6(H:Hp):Prop:=∀b,H b=ae∨∃o xs,H b=ac (.AN o (.lst xs))
theorem ZE{P:ci}{w:World}{K:ai}{C L:Str->Option ar}{CX:WY}{k:Nat}{O a:am}{W:FuncData}{x:Str}{sp:Sp}{c:aw}{vs:List ar}{ns:List Int} (KX:K.In c.heap) (p:c.heap.Ns bi C) (f:c.heap.Ns builtinsNs L) (S:∀x:Str,x≠"__name__" -> L x=bootBuiltins x) (G:c.heap.NoLimit) (hg:c.gens=#[]) (I:c.heap.get? a=ac {cls:=.type "list",data:=.seq vs.toArray}) (X:IntsAre vs ns) (Z:wL ns<=bc) (hr:kW k callerA) (F:∀base:Heap,K.In base->base.Ns bi C->cH P w K C base CX k O W [x] sp) (l:∀(s:aw) (u:ar),BindsTo s W ⟨[u],[]⟩ [(x,u)]) (VA:∀H:Hp,af6 H->bI K H a (ns.map cn)->sp [.ref a] H (λv _=>v=.bl ag) λ_ _ _=>False) (Q:∀H e g,CX [] H c (λ_ _ _=>False) e g->False) :codeAny (model P w) callerA (.call (.ref O) ⟨[.ref a],[]⟩) (λr g=>r=.ok (.ret (.bool ag))/\OldK c.heap g.heap/\g.os=c.os/\AllBare g.gens) c:=by
 have rv:=Na X;have M:=X.length;have j:∀H:Hp,af6 H->bI K H a (ns.map cn)->AS P w H c.heap->(∀b,H b≠ae->b=a)->(H a≠ae->K.lookup a=ae) ->
  codeAny (model P w) callerA (.call (.ref O) ⟨[.ref a],[]⟩) (λr g=>r=.ok (.ret (.bool ag))/\OldK c.heap g.heap/\g.os=c.os/\AllBare g.gens) c:=by
  intro H Y hS E hA hK;have VG:∀{b:am}{o:Obj},c.heap.get? b=ac o->H b=ae->(OH c.heap H).get? b=ac o:=λe n=>YU e n;have J:∀{b:am}{o:Obj}{B:Array DictEntry}{y:Nat},c.heap.get? b=ac o->o.data=.dict B y->H b=ae:=λ{b o B y}e d=>by
   cases q:H b with
   |none=>rfl
   |some u=>
    have R:b=a:=hA b (by rw[q];simp);subst R;rw[I] at e;cases e;have d':Data.seq vs.toArray _=Data.dict B y:=d;cases d'
  have i:∀{b:am}{m:Str->Option ar},c.heap.Ns b m->(OH c.heap H).Ns b m:=λ{b m} ⟨o,B,y,e,d,r⟩=>⟨o,B,y,VG e (J e d),d,r⟩;have A:K.In (OH c.heap H):=λb o e=>VG (KX b o e) (by
   cases q:H b with
   |none=>rfl
   |some u=>
    have R:b=a:=hA b (by rw[q];simp);subst R;rw[hK (by rw[q];simp)] at e;cases e)
  have hM:Mod K C (OH c.heap H):=⟨A,i p,⟨L,i f,S⟩,let ⟨mc,h1,h2⟩:=G;⟨mc,i h1,h2⟩⟩;have e0:TV P w K C (OH c.heap H) callerA [] c H:=⟨2,hM,λb o e=>ab1 e,Nat.le_of_eq (WO _ _),trivial,λb f=>ff (show b∈([]:List am) from f) (-_),E,.of_eq hg⟩;refine codeAny_mono ((F _ A (i p)).run callerA [] c H ⟨[.ref a],[]⟩ [.ref a] [.ref a] _ _ hr e0 (l c (.ref a)) (.cons rfl .nil) (VA H Y hS)) λr g h=>?_;cases r with
  |error e=>exact (Q H e g h).elim
  |ok fl=>
   cases fl with
   |next=>exact kT h
   |brk=>exact kT h
   |cont=>exact kT h
   |ret u=>
    obtain⟨v,H',os,D,un,T,r',q⟩:=h;have q':v=.bl ag:=q;subst q';obtain rfl:u=Value.bool ag:=r';exists 2,OldK.of_keep λb o e=>?_,os,D;cases q:H b with
    |none=>exact un.keep b o e q (by intro z;exact ff (show b∈([]:List am) from z) (-_)) (-_)
    |some u=>
     rcases Y b with z|⟨ob,xs,z⟩
     ·rw[q] at z;cases z
     ·have z2:=un.Df b ob _ z
      obtain⟨U,_⟩:=E b _ z;obtain⟨e2,_⟩:=T b _ z2;rw[e] at U;cases U;exact e2
 cases N:K.lookup a with|some o=>have e:=KX a o N;rw[I] at e;cases e;refine j (λ_=>ae) (λ_=>.inl rfl) (.inr ⟨_,vs.toArray,_,N,222,by rw[aU,M];exact Z,by simpa using rv⟩) (λb u z=>by have t:(ae:Option HO)=ac u:=z;cases t) (λb z=>ff rfl z) λz=>ff rfl z|none=>refine j (λb=>if b=a then ac (.AN {cls:=.type "list",data:=.seq vs.toArray} (.lst (ns.map cn))) else ae) (λb=>?_) (.inl (.inr ⟨{cls:=.type "list",data:=.seq vs.toArray},eL rfl⟩)) (λb u z=>?_) (λb z=>?_) λ_=>N;by_cases f:b=a;exact .inr ⟨33,eL f⟩;exact .inl (e8 f);by_cases f:b=a;have t:=(eL f).symm.trans z;cases t;subst f;exists I,by rw[af];exact Z,vs,_,rv,I;have t:=(e8 f).symm.trans z;cases t;by_cases f:b=a;exact f;exact ff (e8 f) z
theorem acn{l:PySem.W.OpenLaw}{n k:Nat}{q:ci}{i:List Str}{XP:(Str->Option ar)->Heap->Prop}{D:World->Heap->Prop}{d:DefRec}{K:Params->ai}{CX:World->WY}{sp:World->Sp}{x:Str}(P:l.most=ac n)(y:n<=bc)(B:d.params.defaults=[])(X:kW k callerA)(U:∀(w:World)(h:Heap),D w h->(K w.params).In h)(F:∀(w:World)(m:Str->Option ar)(t:am)(h:Heap),(K w.params).In h->h.Ns bi m->m d.name=ac (.ref t) ->∃z:FuncData,(∀(s:aw)(u:ar),BindsTo s z ⟨[u],[]⟩ [(x,u)]) /\∀base:Heap,(K w.params).In base->base.Ns bi m->cH l.prog w (K w.params) m base (CX w) k t z [x] (sp w))(R:∀(w:World)(H:Hp)(a:am)(ns:List Int),wL ns<=n->af6 H->bI (K w.params) H a (ns.map cn)->sp w [.ref a] H (λv _=>v=.bl ag) λ_ _ _=>False)(A:∀(w:World)(H:Hp)(s:aw)(e:ar)(s':aw),CX w [] H s (λ_ _ _=>False) e s'->False) :PySem.W.WalkO q i XP D l.row.toRowW d [] (λf vs=>PySem.call f vs):=by refine Att.QW P B λw E p m Z t o pm cd L a vs ns G Y ho hd M C r j c S=>?_;have I:=U w _ Y;obtain⟨z,O,J⟩:=F w m t _ I G.T.g C;exact ZE I G.T.g G.T.b G.T.builtins G.T.nolimit S r j (aJ c y) X J O (λH N Q=>R w H a ns c N Q) λH e s'=>A w H p e s'
noncomputable def inClass(s:Stmt)(j:Nat):Stmt:=match s with
 |.ClassDef _ _ _ body _ _ _ _ _ _ _=>body.getD j (.Pass ⟨(0),(0),(0),(0)⟩)
 |_=>.Pass ⟨(0),(0),(0),(0)⟩
noncomputable def kG(s:Stmt):Arguments:=match s with
 |.FunctionDef _ a _ _ _ _ _ _ _ _=>a
 |_=>{posonlyargs:=[],args:=[],vararg:=ae,kwonlyargs:=[],kw_defaults:=[],kwarg:=ae,defaults:=[]}
noncomputable def gR(s:Stmt):List Stmt:=match s with
 |.FunctionDef _ _ b _ _ _ _ _ _ _=>b
 |_=>[]
noncomputable def aE(s:Stmt):Scope:=match s with
 |.FunctionDef _ _ _ _ _ _ sc _ _ _=>sc
 |_=>{kind:=.function,names:=[],isGenerator:=al,isCoroutine:=al}
abbrev iJ:WY:=λ_ _ _ _ _ _=>False
abbrev E0:XK:=λ_ _ _=>False
theorem kH{X:Cx}:uu iJ X E0:=λ_ _ _ _ _ _ _ h=>h.elim
structure Tt(K:ai)(x qual:Str)(st:Stmt)(f:am)(fd:FuncData):Prop where
 ex:∃(oc:ar)(od:Option am)(kV doc pm:ar)(an:Option am)(cdv ct:ar)(osl:Array (Option ar)),
  fd=fU x qual (kG st) (gR st) (aE st) .none kV doc pm an cdv ct/\K.lookup f=ac ⟨oc,od,.func fd,osl⟩/\kq K cdv qual=ag
 kp:fD K (.ref f)=ag
section
variable{P:ci}{w:World}{K:ai}{mg:Str->Option ar}{base:Heap}
theorem Tt.ok{x b:Str}{st:Stmt}{f:am}{i:FuncData}{N ps:List Str}{k:Nat}{sp:Sp}(F:Tt K x b st f i)(S:aM N ps (aE st))(g:∀vs H Q E,sp vs H Q E->wL vs=ps.length)(d:∀(c:ar)(A:cm)(a:List Env)(s:aw)(H:Hp)(vs:List V)(Q:VK)(E:XK),kW k (A.deeper (envOfC b (aE st) s.heap.objs.size f c))->sp vs H Q E ->∃t,iE (qk iJ P w K mg base N b (aE st) f c A a s H E).Hx (gR st) t/\t {nx:=λ_ m=>Q .gk m,rt:=Q} (start N vs) H):cH P w K mg base iJ (k+1) f i ps sp:=by obtain⟨r,u,kV,l,y,p,c,v,j,rfl,lk,e⟩:=F.ex;refine Zq lk e S g λA a s H vs Q E o n=>?_;obtain⟨t,h,q⟩:=d c A a s H vs Q E o n;exists t,h.Hx,q
theorem Tt.binds{x a:Str}{st:Stmt}{f:am}{g:FuncData}{ps:List Str}(F:Tt K x a st f g)(h:∀(kV b e:ar)(d:Option am)(c ct:ar)(us:List ar),wL us=ps.length->bindArgs (fU x a (kG st) (gR st) (aE st) .none kV b e d c ct) ⟨us,[]⟩=pure (ps.zip us)):Binds K g ps []:=by obtain⟨k,l,kV,b,e,d,c,ct,i,rfl,lk,j⟩:=F.ex;exact .all (h kV b e d c ct)
theorem ZF{x a:Str}{st:Stmt}{f:am}{j:ar}{i g:Option am}{e:Array (Option ar)}{kV d h b ct:ar}(l:K.lookup f=ac ⟨j,i,.func (fU x a (kG st) (gR st) (aE st) .none kV d h g b ct),e⟩)(c:kq K b a=ag)(k:fD K (.ref f)=ag):Tt K x a st f (fU x a (kG st) (gR st) (aE st) .none kV d h g b ct):=⟨⟨j,i,kV,d,h,g,b,ct,e,2,l,c⟩,k⟩
end
theorem HX{A:cm}{k:Nat}(a:kW k A):A.units+1<cLine:=dh (fm (by decide:1<=64) _) a.units
theorem b9{n:Nat}(h:n<=1000):n<bc:=dh h (!_)
section
variable{X:Cx}
theorem pv(i:Nat){x:Str}{b:Pos}(e:X.N[i]?=ac x:=by rfl)(d:Vis X.env.scope x:=by first|exact Or.inl rfl|exact Or.inr (Or.inl rfl)|exact Or.inr (Or.inr rfl))(c:(x==("__debug__" : Str))=al:=by decide) (a:(x==("__classdict__" : Str))=al:=by decide):PE X (.Name x b) (Mf i):=afD e d c a
end
theorem e9{A B:Prop}(h:B):if al=ag then A else B:=by rw[e8 aH];exact h
theorem fY{A B:Prop}(h:A):if ag=ag then A else B:=by rw[eL rfl];exact h
theorem iW{c A B:Prop}[Decidable c](b:c->A)(a:¬c->B):if c then A else B:=by by_cases h:c;rw[eL h];exact b h;rw[e8 h];exact a h
def aG(H H':Hp):Prop:=∀b o,H b=ac o->H' b=ac o
theorem aG.refl(H:Hp):aG H H:=λ_ _ h=>h
theorem aG.trans{H e d:Hp}(a:aG H e)(b:aG e d):aG H d:=λc o h=>b c o (a c o h)
theorem aG.free{H a:Hp}(e:aG H a){l:am}(h:a l=Option.none):H l=Option.none:=by cases q:H l with|none=>rfl|some o=>rw[e l o q] at h;cases h
theorem aG.seq{K:ai}{H b:Hp}{a:am}{xs:List V}(e:aG H b)(h:bI K H a xs):bI K b a xs:=by rcases h with (h|⟨o,h⟩)|h;exact .inl (.inl (e _ _ h));exact .inl (.inr ⟨o,e _ _ h⟩);exact .inr h
theorem Xd{env:Env}{x:Str}{c:am}(h:env.cells.lookup x=ac c):cellOf env x=pure c:=by unfold cellOf;rw[h]
noncomputable def oQ(env:Env):List (Str×NameKind)->List (Str×am)->List (Str×am)
 |[],cs=>cs
 | (n,k)::r,cs=>oQ env r (if k==.free then (n,(env.cells.lookup n).getD 0)::cs else cs)
theorem OX{env:Env}:∀(ns:List (Str×NameKind))(cs:List (Str×am)),(∀n,(n,bt)∈ns->∃c,env.cells.lookup n=ac c) ->
 (forIn (m:=Sem) ns cs λx r=>match x with
  | (a,d)=>if (d==bt)=ag then do let c <- cellOf env a;pure (kR ((a,c)::r)) else pure (kR r))=pure (oQ env ns cs)
 |[],cs,_=>rfl
 | (n,k)::r,cs,h=>by
  rw[List.forIn_cons];by_cases b:(k==bt)=ag
  ·have g:k=.free:=by simpa using b
   obtain⟨c,e⟩:=h n (by rw[g];exact cK);simp only[b,if_true,Xd e];have q:=OX r ((n,c)::cs) λm f=>h m (bS _ f);show (forIn (m:=Sem) r ((n,c)::cs) _)=pure (oQ env r (if (k==.free)=ag then (n,(env.cells.lookup n).getD 0)::cs else cs));rw[eL b,e];exact q
  ·simp only[b]
   have q:=OX r cs λm f=>h m (bS _ f);show (forIn (m:=Sem) r cs _)=pure (oQ env r (if (k==.free)=ag then (n,(env.cells.lookup n).getD 0)::cs else cs));rw[e8 b];exact q
theorem Dl{scope:Scope}{env:Env}(h:∀n,(n,bt)∈scope.names->∃c,env.cells.lookup n=ac c):closureFor scope env=pure (oQ env scope.names []):=by
 have e:=OX scope.names [] h;unfold closureFor;show (forIn (m:=Sem) scope.names [] (λx r=>match x with
  | (a,b)=>if (b==bt)=ag then do let c <- cellOf env a;pure (kR ((a,c)::r)) else pure (kR r)) >>= λs=>pure s)=_
 rw[e];rfl
theorem nQ{env:Env}{x:Str}{c:am}:∀(ns:List (Str×NameKind))(cs:List (Str×am)),(∀n,(n,bt)∈ns->∃c,env.cells.lookup n=ac c)->(cs.lookup x=ac c->env.cells.lookup x=ac c) ->
 (oQ env ns cs).lookup x=ac c->env.cells.lookup x=ac c
 |[],_,_,a,h=>a h
 | (n,k)::r,cs,g,a,h=>by
  unfold oQ at h;refine nQ r _ (λm i=>g m (bS _ i)) (λq=>?_) h;by_cases b:(k==bt)=ag
  ·have j:k=.free:=by simpa using b
   subst j;obtain⟨d,e⟩:=g n cK;rw[eL b,e,gi] at q;by_cases f:(x==n)=ag
   ·have l:x=n:=by simpa using f
    rw[f] at q;subst l;rw[e];exact q
   ·simp only[f] at q
    exact a q
  ·rw[e8 b] at q
   exact a q
theorem DW{env:Env}{x:Str}:∀(ns:List (Str×NameKind))(cs:List (Str×am)),((cs.lookup x).isSome=ag∨(x,bt)∈ns)->((oQ env ns cs).lookup x).isSome=ag
 |[],_,h=>h.elim id λz=>ff z (-_)
 | (n,k)::r,cs,h=>by
  unfold oQ;refine DW r _ ?_;rcases h with h|h
  ·refine .inl ?_
   split
   ·rw[gi]
    split
    ·rfl
    ·exact h
   ·exact h
  ·rcases bR.mp h with e|h
   ·cases e
    refine .inl ?_;rw[eL (show (bt==bt)=ag from rfl),gi];simp
   ·exact .inr h
noncomputable def kX(cap:List (Option Nat))(σ:St):St:=cap.map λo=>o.bind λj=>(σ[j]?).join
noncomputable def nR(X:Cx)(scope:Scope)(N':List Str)(fp:List am)(pins:List (am×Obj))(s₃:aw)(am8:Hp):Cx where
 prog:=X.prog
 w:=X.w
 K:=X.K
 mg:=X.mg
 base:=X.base
 A:=X.A
 N:=N'
 s₀:=s₃
 H₀:=am8
 env:=compEnvC scope (oQ X.env scope.names []) s₃.heap.objs.size X.env
 outer:=X.stack
 stack:=X.stack
 ex:=fp
 fn:=λ_=>al
 calm:=X.calm
 pn:=X.pn++pins
 xe:=λ_ _=>False
structure kY(X:Cx)(scope:Scope)(N':List Str)(cap:List (Option Nat)):Prop where
 kind:scope.kind=.function
 T8:∀y∈scope.names,y.2≠.cell
 loc:∀y∈scope.names,y.2=.local->scope.names.lookup y.1=ac .local
 fr:∀y∈scope.names,y.2=.free->X.env.kindOf y.1=ac .cell
 frl:∀y∈scope.names,y.2=.free->scope.names.lookup y.1=ac .free
 nd:N'.Nodup
 len:wL cap=N'.length
 cap:∀(i j:Nat)(x:Str),cap[i]?=ac (ac j)->N'[i]?=ac x->X.N[j]?=ac x/\(x,bt)∈scope.names
section
variable{X:Cx}{scope:Scope}{N':List Str}{cap:List (Option Nat)}{fp:List am}{pins:List (am×Obj)}{s:aw}{σ:St}{H:Hp}
theorem kY.clos(S:kY X scope N' cap)(ok:X.Ok):∀n,(n,bt)∈scope.names->∃c,X.env.cells.lookup n=ac c:=λn a=>ok.has n (.inl (S.fr _ a rfl))
theorem zc{env:Env}{x:Str}:∀{names:List (Str×NameKind)}{k:NameKind},
 (names.map λ(n,k)=>if (k==bt&&env.scope.kind==.function&&env.kindOf n==ac .cell) then (n,NameKind.cell) else (n,k)).lookup x=ac k->k=.cell∨k=.free->(∀y∈names,y.2≠.cell)->(x,bt)∈names
 |[],_,h,_,_=>by simp at h
 | (n,q)::r,k,h,hk,d=>by
  have h':r9 x ((if (q==bt&&env.scope.kind==.function&&env.kindOf n==ac .cell)=ag then (n,NameKind.cell) else (n,q))::(r.map λ(n,k)=>if (k==bt&&env.scope.kind==.function&&env.kindOf n==ac .cell) then (n,NameKind.cell) else (n,k)))=ac k:=h;by_cases b:(x==n)=ag
  ·have f:x=n:=by simpa using b
   subst f;by_cases c:(q==bt&&env.scope.kind==.function&&env.kindOf x==ac .cell)=ag
   ·have:q=.free:=by
     rw[dg,dg] at c
     simpa using c.1.1
    subst this;exact cK
   ·rw[e8 c,gi,b] at h'
    have e:q=k:=aO h';subst e;rcases hk with hk|hk
    ·exact ff hk (d _ cK)
    ·rw[hk];exact cK
  ·have a:(x==n)=al:=by simpa using b
   refine bS _ (zc (env:=env) (k:=k) ?_ hk λy g=>d y (bS _ g));split at h'
   ·rw[gi,a] at h';exact h'
   ·rw[gi,a] at h';exact h'
theorem Fb{env:Env}{x:Str}(c:env.scope.kind=.function)(b:env.kindOf x=ac .cell):∀{names:List (Str×NameKind)},names.lookup x=ac .free ->
 (names.map λ(n,k)=>if (k==bt&&env.scope.kind==.function&&env.kindOf n==ac .cell) then (n,NameKind.cell) else (n,k)).lookup x=ac .cell
 |[],h=>by simp at h
 | (n,k)::r,h=>by
  show r9 x ((if (k==bt&&env.scope.kind==.function&&env.kindOf n==ac .cell)=ag then (n,NameKind.cell) else (n,k))::_)=_;cases a:x==n with
  |true=>
   have e:x=n:=by simpa using a
   subst e;simp only[gi,a] at h;have f:k=.free:=aO h;subst f;rw[eL (by rw[c,b];rfl),gi,a]
  |false=>
   simp only[gi,a] at h;have d:=Fb c b h;split
   ·rw[gi,a];exact d
   ·rw[gi,a];exact d
theorem kY.ok(S:kY X scope N' cap)(I:Inv X pins σ H s)(d:∀b∈fp,E1 X pins H b)(f:∀b∈fp,∃o,s.heap.get? b=ac o):(nR X scope N' fp pins s H).Ok where
 mod:=I.ok.mod
 kind:=S.kind
 glob:=I.ok.glob
 blt:=I.ok.blt
 above:=az _
 inj:=λx y c j i=>I.ok.inj x y c (nQ _ _ (S.clos I.ok) (λz=>by simp at z) j) (nQ _ _ (S.clos I.ok) (λz=>by simp at z) i)
 has:=λx hx=>by
  have g:(x,bt)∈scope.names:=by
   rcases hx with hx|hx
   ·exact zc (env:=X.env) hx (.inl rfl) S.T8
   ·exact zc (env:=X.env) hx (.inr rfl) S.T8
  exact Option.isSome_iff_exists.mp (DW scope.names [] (.inr g))
 cab:=λx c h=>by cases h
 hd:=I.ok.hd
 frames:=I.ok.frames
 stk:=.inl rfl
 exf:=λb a=>by
  obtain⟨o,e⟩:=f b a;exists bY (a9 e),λx c h=>(d b a).2.2.2.2.1 x c (nQ _ _ (S.clos I.ok) (λz=>by simp at z) h)
 bs:=I.bs
 YW:=aJ I.ok.YW I.sz
 WQ:=λb o e a=>by
  rcases (d b a).2.2.2.1 with z|z
  ·exact I.ok.WQ b o e z
  ·exact ff (cj (a9 e) (aJ I.ok.YW z)) (jf _)
 YX:=λb a k=>by
  rcases bR.mp (I.GA b k) with z|z
  ·exact (d b a).2.1 z
  ·exact (d b a).2.2.1 z
 EX:=I.stack
 Qj:=I.OI
theorem kY.look(S:kY X scope N' cap)(I:Inv X pins σ H s){f:Heap}{m:Str->Option ar}(k:∀x c v,X.env.cells.lookup x=ac c->s.heap.IsCell c v->f.IsCell c v)(i:Nat)(x:Str)(v:V)(K:N'[i]?=ac x)(J:(kX cap σ)[i]?=ac (ac v)) :∃u,RelV v u/\Look (compEnvC scope (oQ X.env scope.names []) s.heap.objs.size X.env) f m x u:=by have G:∀x c,(oQ X.env scope.names []).lookup x=ac c->X.env.cells.lookup x=ac c:=λx c h=>nQ _ _ (S.clos I.ok) (λz=>by simp at z) h;have d:((cap[i]?).map λo=>o.bind λj=>(σ[j]?).join)=ac (ac v):=(by have:=J;unfold kX at this;rw[ak] at this;exact this);cases t:cap[i]? with|none=>rw[t] at d;cases d|some o=>(cases o with|none=>rw[t] at d;cases d|some j=>(rw[t] at d;obtain⟨E,a⟩:=S.cap i j x t K;have n:(σ[j]?).join=ac v:=aO d;have D:σ[j]?=ac (ac v):=(by cases w:σ[j]? with|none=>rw[w] at n;cases n|some y=>(cases y with|none=>rw[w] at n;cases n|some z=>rw[w] at n;have e:z=v:=aO n;rw[e]));have b:=S.fr _ a rfl;obtain⟨M,F,L⟩:=I.loc;obtain⟨u,r,l⟩:=L j x v E D (.inr (.inl b));exists u,r,4;rcases l with ⟨B,_⟩|⟨B,c,C,g⟩;have z:X.env.kindOf x=ac .cell:=b;rw[B] at z;cases z;obtain⟨q,p⟩:=Option.isSome_iff_exists.mp (DW (env:=X.env) (x:=x) scope.names [] (.inr a));have A:q=c:=(by have:=G x q p;rw[C] at this;exact (aO this).symm);subst A;exact .inr ⟨.inl (Fb I.ok.kind b (S.frl _ a rfl)),q,p,k x q _ C g⟩))
theorem kY.start(S:kY X scope N' cap)(I:Inv X pins σ H s)(u:∀b∈fp,E1 X pins H b)(k:∀b∈fp,∃o,s.heap.get? b=ac o){a:Heap}{tk:Nat}{m:Str->Option ar}(r:a.Ns s.heap.objs.size m)(j:∀b o,s.heap.get? b=ac o->a.get? b=ac o):Inv (nR X scope N' fp pins s H) [] (kX cap σ) H {s with heap:=a,toks:=tk}:=by have t:∀x c,(oQ X.env scope.names []).lookup x=ac c->X.env.cells.lookup x=ac c:=λx c h=>nQ _ _ (S.clos I.ok) (λz=>by simp at z) h;have f:∀{c:am}{v:Option ar},s.heap.IsCell c v->a.IsCell c v:=λ{c v} ⟨o,e,d⟩=>⟨o,j c o e,d⟩;exists S.ok I u k,2,I.bare,Un.kept j,⟨m,r,λi x v y w C=>S.look I (λ_ _ _ _ z=>f z) i x v y w⟩,λx c h=>?_,I.hok.fresh (az _),λx c h=>I.vO x c (t x c h),λp B=>?_,I.hok.kept j,4;obtain⟨v,z⟩:=I.cell x c (t x c h);exists v,f z;have g:p∈(X.pn++pins)++[]:=B;have l:p∈X.pn++pins:=(by rw[b5] at g;exact g);obtain⟨e,n,A,nf,d⟩:=I.pin p l;exists j _ _ e,n,bY (a9 e),λz=>?_,d;rcases bR.mp (I.GA p.1 z) with q|q;exact A q;exact nf q;unfold kX;rw[af];exact S.len
theorem kY.again(S:kY X scope N' cap)(I:Inv X pins σ H s)(k:∀b∈fp,E1 X pins H b){f:St}{g:Hp}{j:aw}(a:Inv (nR X scope N' fp pins s H) [] f g j):Inv (nR X scope N' fp pins s H) [] (kX cap σ) g j:=by obtain⟨m,t,_⟩:=a.loc;exists a.ok,a.os,a.bare,a.base,⟨m,t,λi x v p n z=>S.look I (λy c u h l=>?_) i x v p n⟩,a.cell,a.free,a.vO,a.pin,a.hok,4;obtain⟨o,e,d⟩:=l;obtain⟨w,q⟩:=a.base.any e (I.vO y c h) λr=>(k c r).2.2.2.2.1 y c h rfl;exists _,q,d;unfold kX;rw[af];exact S.len
theorem kY.back{g k:Hp}{f s3 s':aw}{s:St}{i:am}{d:Heap}(S:kY X scope N' cap)(x:Inv X pins σ g f)(C:∀b∈fp,E1 X pins g b){o:HO}(J:s3.heap.objs.size=f.heap.objs.size+1)(k3:∀b u,f.heap.get? b=ac u->s3.heap.get? b=ac u)(t:i=f.heap.objs.size)(I:s3.os=f.os)(p:Inv (nR X scope N' fp pins s3 (upd g i o)) [] s k s')(r:Heap.SameBut s3.heap.objs.size s'.heap d):Inv X pins σ k {s' with heap:=d}:=by
 have y:Un (frs X.stack) fp g (upd g i o) f.heap s3.heap:=Un.laid k3 (by rw[t];exact az _) (x.hok.fresh (by rw[t];exact az _));have j:Un (frs X.stack) fp g k f.heap s'.heap:=y.trans p.base;have h:∀b a,f.heap.get? b=ac a->b≠s3.heap.objs.size:=λb a e=>(by have:=a9 e;rw[J];exact bY (Nat.lt_succ_of_lt this));have hC:k s3.heap.objs.size=ae:=p.free;have H:Un (frs X.stack) fp g k f.heap d:=
  ⟨λb a e n l m=>(r.2 b (h b a e)).trans (j.keep b a e n l m),λb a e n l m=>by
   obtain⟨A,q⟩:=j.slot b a e n l m;exact⟨A,(r.2 b (h b a e)).trans q⟩,j.free,λb a e m=>by
   obtain⟨B,q⟩:=j.there b a e m;exact⟨B,(r.2 b (h b a e)).trans q⟩,j.tups,j.Df,j.EV⟩
 have hok:AS X.prog X.w k d:=λb a e=>(p.hok b a e).stay (λc v D q=>(r.2 c (by rintro rfl;rcases D with z|z;rw[<- z,hC] at e;cases e;rw[hC] at z;cases z)).trans q) (λ_ q=>q) λ_ _ q=>q;refine x.aek (s':={s' with heap:=d}) (ch:=fp) (p.os.trans I) H hok p.bare λb l=>?_;obtain⟨_,F,_,G,E,K⟩:=C b l;exists G,F,E,K
def jX(X:Cx)(ifs:List Expr)(t:TT):Prop:=
 ∀(pins:List (am×Obj))(s:aw)(σ:St)(H:Hp)(Q:Bool->Hp->Prop),Inv X pins σ H s->t σ H Q ->
  cf (model X.prog X.w) X.A (forIn ifs ag λc r=>if r=ag then do let ok <- isTrue c X.env (eval c X.env);pure (kR ok) else pure (kR r)) (TP X pins σ Q) X.xe s
def ai3:TT:=λ_ H Q=>Q ag H
theorem jk:jX X [] ai3:=λ_ _ _ H _ I h=>wpAny_tests_nil ⟨H,I,h⟩
theorem jM{c:Expr}{t:TT}(h:PT X c t):jX X [c] t:=λpins s σ H Q I a=>wpAny_tests_one (h pins s σ H Q I a)
def aey(wi:TI)(cap:List (Option Nat))(g:TG)(tc:TT)(te:TE):TE:=λσ H Q=>wi σ H λJ H1=>∀acc,H1 acc=ae->∃W:Nat->Nat->Hp->Prop,(∃m,W 0 m (upd H1 acc (.lst [])))/\∀i m H,W i m H ->
 (J.stop i H/\Q (.ref acc) H)∨(J.go i H/\∀x H',J.QJ i H x H'->g x (kX cap σ) H' λσ2 H2=>tc σ2 H2 λb H3=>if b=ag then te σ2 H3 λy H4=>∃xs,H4 acc=ac (.lst xs)/\wL xs<bc /\
  ∃m',m'<m/\W (i+1) m' (upd H4 acc (.lst (xs++[y]))) else ∃m',m'<m/\W (i+1) m' H3)
theorem Xf{o a g:PySem.Expr}{p:List PySem.Expr}{scope:Scope}{D:Pos}{E q:ar}{env:Env}{prog:ci}{w:World}{A:cm}{s:aw}{R:Result->aw->Prop}(I:Nat->aw->Prop)
 (y:∀n s,I n s->cf (model prog w) A (pyNext E) (λr b=>match r with
  |none=>R (.ok .next) b
  |some v=>cf (model prog w) A (letOwnedTupleGo a E v) (λ_ j=>cf (model prog w) A (assign a env v) (λ_ i=>
   cf (model prog w) A (forIn p ag λc r=>if r=ag then do let ok <- isTrue c env (eval c env);pure (kR ok) else pure (kR r)) (λok d=>if ok=ag then cf (model prog w) A (eval o env) (λx f=>
    cf (model prog w) A (call (.builtin "list.append") [q,x]) (λ_ k=>∃m,m<n/\I m k) (λ_ _=>False) f) (λ_ _=>False) d
    else ∃m,m<n/\I m d) (λ_ _=>False) i)
   (λ_ _=>False) j) (λ_ _=>False) b) (λ_ _=>False) s)
 (n:Nat) (h:I n s):codeAny (model prog w) A (.compLoop (.ListComp o [⟨a,g,p,(0)⟩] scope D) 0 E q env) R s:=by refine codeAny_loop rfl I (λn s G=>?_) n h;show cf _ A ((compTurn (.ListComp o [⟨a,g,p,(0)⟩] scope D) 0 E q env).onRaise (λx=>do noteFrame x env;theTreesLotGoes x)) _ _ s;refine wpAny_noted ?_;rw[compTurn_list];refine ax (wpAny_standAt (ax (wpAny_mono (y n s G) (λr b l=>?_) λ_ _ z=>z.elim)));cases r with|none=>exact a6 l|some v=>(refine ax (wpAny_mono l (λ_ j t=>?_) λ_ _ z=>z.elim);refine ax (wpAny_mono t (λ_ i C=>?_) λ_ _ z=>z.elim);refine ax (wpAny_mono C (λF d e=>?_) λ_ _ z=>z.elim);cases F with|false=>exact a6 ⟨2,e⟩|true=>exact ax (ax (wpAny_mono e (λx f u=>ax (wpAny_mono u (λ_ k B=>a6 (a6 ⟨2,B⟩)) λ_ _ z=>z.elim)) λ_ _ z=>z.elim)))
theorem JP{O tg F:Expr}{V:List Expr}{pos:Pos}{g:TG}{tc:TT}{te:TE}{Q:VK}{a:aw}{D:Hp}{it:am}{tn:Nat->Heap->Prop}{J:It}{E:ar->aw->Prop}{RR:ar->am->Result->aw->Prop}(S:kY X scope N' cap)(hc:X.calm=ag)(hg:∀fp pins s H,PG (nR X scope N' fp pins s H) tg g)(hts:∀fp pins s H,jX (nR X scope N' fp pins s H) V tc)(he:∀fp pins s H,PE (nR X scope N' fp pins s H) O te)(I2:Inv X pins σ D a)(T:Turn X.prog X.w X.K tg J fp it tn)(R:tn 0 a.heap)(Y:∀b∈fp,E1 X pins D b)(h:∀k,D k=ae->∃W:Nat->Nat->Hp->Prop,(∃m,W 0 m (upd D k (.lst [])))/\∀i m H,W i m H ->(J.stop i H/\Q (.ref k) H)∨(J.go i H/\∀x j,J.QJ i H x j->g x (kX cap σ) j λZ D=>tc Z D λb H3=>if b=ag then te Z H3 λy H4=>∃xs,H4 k=ac (.lst xs)/\wL xs<bc /\∃t,t<m/\W (i+1) t (upd H4 k (.lst (xs++[y]))) else ∃t,t<m/\W (i+1) t H3))(hRR:∀C s' j,(∃m,s'.heap.Ns C m)->(∀U,Heap.SameBut C s'.heap U->Inv X pins σ j {s' with heap:=U})->Q (.ref a.heap.objs.size) j->j C=ae->a.heap.objs.size<C ->RR (.ref a.heap.objs.size) C (.ok .next) s') :cf (model X.prog X.w) X.A (newList []) (λk s₃=>cf (model X.prog X.w) X.A (newFunctionEnv scope X.env.globals (oQ X.env scope.names []) [] X.env.qual ae .none (ac X.env)) (λL s₄ => codeAny (model X.prog X.w) X.A (.compStart (.ListComp O [⟨tg,F,V,(0)⟩] scope pos) 0 (.ref it) k {L with scope:=relabel scope X.env}) (RR k L.locals) s₄) E s₃) E a:=by refine wpAny_newObj_type (wpAny_newFunctionEnv S.T8 (by intro y hy;simp at hy) (λv T9 Ua=>?_) S.kind);dsimp only at T9 Ua ⊢;have hfr:D a.heap.objs.size=ae:=I2.hok.fresh (az _);generalize P:a.heap.push {cls:=.type "list",dict:=ae,data:=.seq ([]:List ar).toArray}=h3 at T9 Ua ⊢;have e3:h3.objs.size=a.heap.objs.size+1:=(by rw[<- P,Heap.size_push]);have k3:∀b u,a.heap.get? b=ac u->h3.get? b=ac u:=λb u e=>(by rw[<- P];exact a7 _ e);have I3:Inv X pins σ (upd D a.heap.objs.size (.lst [])) {a with heap:=h3,toks:=a.toks}:=(by refine I2.laid (t':=a.toks) k3 (az _) ?_;exists aS _,[],(0),.nil,by rw[<- P];exact a8 _ rfl);have f3:∀b∈fp,E1 X pins (upd D a.heap.objs.size (.lst [])) b:=λb f=>(by obtain⟨o,e,_⟩:=T.obj _ _ R b f;exists by rw[aI (bY (a9 e))];exact (Y b f).1,(Y b f).2);have ex3:∀b∈fp,∃o,h3.get? b=ac o:=λb f=>(by obtain⟨o,e,_⟩:=T.obj _ _ R b f;exists o,k3 b o e);have kp:∀b o,h3.get? b=ac o->v.get? b=ac o:=λb o e=>Ua.extBut b o (bY (a9 e)) (a7 _ e);have I4:=S.start (fp:=fp) (tk:=a.toks+([]:List (Str×ar)).length) I3 f3 ex3 T9 kp;have Jq:tn 0 v:=T.keep _ _ _ R λb _ o e=>kp b o (k3 b o e);obtain⟨W,⟨m0,w0⟩,turn⟩:=h a.heap.objs.size hfr;let I:=nR X scope N' fp pins {a with heap:=h3,toks:=a.toks} (upd D a.heap.objs.size (.lst []));have B:∀{MW:List (am×Obj)}{j:Hp},(∀p∈MW,p.1∉fp)->(∀b∈fp,j b=ae)->∀b∈fp,E1 I MW j b:=λ{MW j}hpn hn b f=>(by obtain⟨o,e⟩:=ex3 b f;exists hn b f,bY (a9 e),λz=>?_,.inl f,λx c hx=>(f3 b f).2.2.2.2.1 x c (nQ _ _ (S.clos I2.ok) (λz=>by simp at z) hx),λp hp=>?_;rcases bR.mp (I2.GA b z) with q|q;exact (Y b f).2.1 q;exact (Y b f).2.2.1 q;rcases bU.mp hp with q|q;exact (Y b f).2.2.2.2.2 p q;exact λz=>hpn p q (z▸f));have G:codeAny (model X.prog X.w) X.A (.compLoop (.ListComp O [⟨tg,F,V,(0)⟩] scope pos) 0 (.ref it) (.ref a.heap.objs.size) I.env) (RR (.ref a.heap.objs.size) h3.objs.size) {a with heap:=v,toks:=a.toks+([]:List (Str×ar)).length}:=(by refine Xf (λn s'=>∃i j,Inv I [] (kX cap σ) j s'/\tn i s'.heap/\(∀b∈fp,j b=ae)/\W i n j) ?_ m0 ⟨(0),_,I4,Jq,λb f=>(f3 b f).1,w0⟩;rintro n s5 ⟨i,H5,I5,Tr,fr5,w5⟩;rcases turn i n H5 w5 with ⟨stop,qn⟩|⟨go,step⟩;(·refine wpAny_mono (T.done I rfl rfl rfl hc i [] s5 (kX cap σ) H5 (λ_ _=>False) I5 (B (λ_ z=>ff z (-_)) fr5) Tr stop) (λr s6 ⟨hr,I6⟩=>?_) λ_ _ z=>z;subst hr;refine hRR _ s6 H5 ?_ (λU sb=>S.back I2 Y (s3:={a with heap:=h3,toks:=a.toks}) e3 k3 rfl rfl I6 sb) qn I6.free (by rw[e3];exact Nat.lt_succ_self _);obtain⟨m,hn,_⟩:=I6.loc;exists m,hn);refine wpAny_mono (T.item I rfl rfl rfl hc i [] s5 (kX cap σ) H5 (λ_ _=>False) I5 (B (λ_ z=>ff z (-_)) fr5) Tr go) (λr s6 ⟨u,hr,h6⟩=>?_) λ_ _ z=>z;subst hr;refine wpAny_mono h6 (λ_ s7 ⟨x,H7,I7,r7,y7,Ub,fr7⟩=>?_) λ_ _ z=>z;have I7':=I7.pinned (B (λ_ z=>ff z (-_)) fr7) (T.obj _ _ Ub);have again:∀{l:St}{N:Hp}{M:aw},Inv I ([]++JH fp s7.heap) l N M->(∃t,t<n/\W (i+1) t N)->∃m,m<n/\∃i j,Inv I [] (kX cap σ) j M/\tn i M.heap/\(∀b∈fp,j b=ae)/\W i m j:=λ{l N M}I8 n8=>(by obtain⟨t,hm,w8⟩:=n8;have pn:∀b∈fp,∃o,s7.heap.get? b=ac o/\M.heap.get? b=ac o/\N b=ae:=λb f=>(by obtain⟨o,e,d⟩:=T.obj _ _ Ub b f;have q:=I8.pin (b,o) (fq _ (fq _ (DS f e)));exists o,e,q.1,q.2.1);exists t,hm,i+1,N,S.again I3 f3 I8.E2,T.keep _ _ _ Ub λb f o e=>?_,λb f=>?_,w8;obtain⟨o',e',q,_⟩:=pn b f;rw[e] at e';cases e';exact q;obtain⟨_,_,_,q⟩:=pn b f;exact q);refine wpAny_mono (hg fp pins _ _ _ s7 (kX cap σ) H7 x u _ I7' r7 (step x H7 y7)) (λ_ M ⟨l,N,I8,q8⟩=>?_) λ_ _ z=>z;refine wpAny_mono (hts fp pins _ _ _ M l N _ I8 q8) (λb s9 ⟨H9,I9,q9⟩=>?_) λ_ _ z=>z;cases b with|false=>exact again I9 q9|true=>refine wpAny_mono (he fp pins _ _ _ s9 l H9 _ I9 q9) (λu Fc ⟨y,Nb,I10,r10,xs,hx,hl,q10⟩=>?_) λ_ _ z=>z;refine wpAny_mono (dZ (X:=I) _ Fc l Nb (.ref a.heap.objs.size) [y] (.ref a.heap.objs.size) [u] (λ_ j=>∃t,t<n/\W (i+1) t j) I10 rfl (.cons r10 .nil) ⟨_,xs,y,22,hx,hl,q10⟩) (λ_ s11 ⟨_,qC,I11,_,q11⟩=>again I11 q11) λ_ _ z=>z);exact codeAny_compStart_list G (T.self _ 0 _ _ _ Jq G)
theorem fE{b k a:Expr}{c:List Expr}{l:Pos}{p:TI}{g:TG}{n:TT}{o:TE}(S:kY X scope N' cap)(G:X.calm=ag)(D:PI X k a p)(L:∀fp pins s H,PG (nR X scope N' fp pins s H) k g)(f:∀fp pins s H,jX (nR X scope N' fp pins s H) c n)(r:∀fp pins s H,PE (nR X scope N' fp pins s H) b o)(N:∀x,foldedSetIterable a X.env x=pure x:=by intro _;rfl) :PE X (.ListComp b [⟨k,a,c,(0)⟩] scope l) (aey p cap g n o):=by intro pins s σ H Q I h;rw[eval_ListComp];refine wpAny_comprehension_free (use:=ae) rfl N (Dl (S.clos I.ok)) S.kind S.loc (ir (D pins s σ H _ I h) λv W E=>ir E λP u z=>?_);obtain⟨U,fp,Y,J,R,e,O,T,i,t,q⟩:=z;subst e;refine JP (RR:=λj C=>compPost (model X.prog X.w) X.A X.xe ae (EP X pins σ Q) j C) S G L f r O T i t q ?_;intro C V y ⟨m,F⟩ B K _ _;exists m,F,λd M=>⟨.ref u.heap.objs.size,y,B d M,2,K⟩
theorem qm{j u d:Expr}{k:List Expr}{t:Pos}{wi:TI}{g:TG}{Y:TT}{Z:TE}{i:Nat}{x:Str}{f n:Pos}(hN:X.N.Nodup)(O:X.N[i]?=ac x)(hx:Loc X.env.scope x)(S:kY X scope N' cap)(hc:X.calm=ag)(hi:PI X u d wi)(hg:∀fp pins s H,PG (nR X scope N' fp pins s H) u g)(G:∀fp pins s H,jX (nR X scope N' fp pins s H) k Y)(he:∀fp pins s H,PE (nR X scope N' fp pins s H) j Z)(hs:∀x,foldedSetIterable d X.env x=pure x:=by intro _;rfl)(L:swapsWith (.ListComp j [⟨u,d,k,(0)⟩] scope t) (ac (.Name x f)) n.line X.env=pure ag:=by rfl)(hf:X.fn x=ag∨X.env.scope.names.lookup x=ac .local:=by first|exact .inl rfl|exact .inr rfl|assumption) :PS X (.Assign [.Name x f] (.ListComp j [⟨u,d,k,(0)⟩] scope t) n) (ab2 (aey wi cap g Y Z) (jq i)):=by intro pins s σ H D I h;rw[exec_Assign_Name_used _ _ _ _ L];refine ax (wpAny_standAt (ax ?_));show cf _ X.A (do let _ <- comprehension (.ListComp j [⟨u,d,k,(0)⟩] scope t) scope X.env _ (newList []) al (eval d X.env) (ac (assign (.Name x f) X.env))) _ _ s;refine ax (wpAny_mono (wpAny_comprehension_free (use:=ac (assign (.Name x f) X.env)) (Q:=λ_ l=>SP X pins D .next l) rfl hs (Dl (S.clos I.ok)) S.kind S.loc (ir (hi pins s σ H _ I h) λv s1 h1=>ir h1 λitv V h2=>?_)) (λ_ l U=>a6 (a6 U)) λ_ _ e=>e);obtain⟨it,fp,tn,J,H2,e,r,T,R,f2,hW⟩:=h2;subst e;refine JP (RR:=λP C=>compPost (model X.prog X.w) X.A X.xe (ac (assign (.Name x f) X.env)) (λ_ l=>SP X pins D .next l) P C) (Q:=λx H1=>jq i x σ H1 D.nx) S hc hg G he r T R f2 hW ?_;intro C l H' ⟨m,hn⟩ hI U hC B;have I':Inv X pins σ H' l:=hI l.heap (.refl ..);show cf _ _ (assign (.Name x f) X.env (.ref V.heap.objs.size)) _ _ l;refine wpAny_assign_Name (MX (v:=.ref V.heap.objs.size) I' hN O hx rfl (λs6 I6 ⟨a,sb,ha⟩=>?_) hf);have E:∀b,b<V.heap.objs.size->b≠C:=λb K=>bY (Nat.lt_trans K B);have F:a≠C:=(by rcases ha with z|z;rw[z];exact E _ r.lt;obtain⟨_,q⟩:=r.cell x a z;exact E _ q.lt);exists m,hn.sameBut sb (bT F),λh' W=>⟨_,H',I6.turned (t':=s6.toks) (λb o K e=>(W.2 b K).trans e) hC (bT (E _ r.lt)) (.inr (aJ r.sz (iG B))) (λy c M=>?_) (λp hp=>?_),U⟩;obtain⟨_,q⟩:=r.cell y c M;exact E _ q.lt;exact E _ (a9 (r.pin p hp).1)
end
section
variable{X:Cx}
noncomputable def Ite(K:ai)(a:am):It:=
 ⟨λi H=>∃xs x,bI K H a xs/\xs[i]?=ac x,λi H x H'=>∃p v,H p=ae/\x=.ref p/\H'=upd H p (.tup [.int (i:Nat),v])/\∀xs,bI K H a xs->xs[i]?=ac v,λi H=>∃xs,bI K H a xs/\wL xs<=i⟩
theorem Xg{P:ci}{w:World}{K:ai}{F:List Expr}{x1}{pos:Pos}(a e f:am)(D:e≠f):
 Turn P w K (.Tuple F x1 pos) (Ite K a) [e,f] e (λi h=>∃old,IsEnum h e f (i:Nat) old/\h.IsListIter f a i) where
 mem:=-_
 obj:=λi h ⟨old,st,y⟩b hb=>by
  rcases bR.mp hb with z|hb
  ·subst z
   exact⟨_,st,λv z=>by
    have z':Data.fields _=Data.cell v:=z;cases z'⟩
  ·have z:b=f:=by simpa using hb
   subst z;obtain⟨o,e,c,d⟩:=y;exists o,e,λv z=>by rw[d] at z;cases z
 keep:=λi h h' ⟨old,st,y⟩k=>⟨old,k e (-_) _ st,y.at λo q=>k f (-_) o q⟩
 item:=by
  intro X N U Z g i t s σ H E I l ⟨old,st,y⟩ T;subst N U Z;obtain⟨W,x,J,hx⟩:=T;obtain⟨L,rv,p,hz⟩:=I.list J;obtain⟨u,hu,ru⟩:=rv.get hx;refine wpAny_pyNext_enum_item st y p.isList (x:=u) (by simpa using hu) D λh' eo S tu sz kp=>?_;exists 1,wpAny_letOwnedTupleGo_enum eo λC e2 A=>?_;have j:H s.heap.objs.size=ae:=I.hok.fresh (az _);have nE:∀b o,H b=ac o->b≠e:=λb o q z=>by rw[z,(l e (-_)).1] at q;cases q
  have nI:∀b o,H b=ac o->b≠f:=λb o q z=>by rw[z,(l f (-_)).1] at q;cases q
  have G:∀b o,b≠e->b≠f->s.heap.get? b=ac o->C.get? b=ac o:=λb o h1 h3 q=>(A.2 b h1).trans (kp b o h1 h3 q);have R:e<s.heap.objs.size:=a9 st;have Y:C.get? s.heap.objs.size=ac {cls:=.type "tuple",data:=.seq #[.int (i:Nat) s.toks,u]}:=(A.2 _ (Nat.ne_of_gt R)).trans tu;have li2:C.IsListIter f a (i+1):=S.at λo q=>(A.2 f (bT D)).trans q;have B:∀b,b∉[e,f]->b≠e/\b≠f:=λb hb=>⟨λz=>hb (by simp[z]),λz=>hb (by simp[z])⟩;have V:∀b∈[e,f],upd H s.heap.objs.size (.tup [.int (i:Nat),x]) b=ae:=λb hb=>by
   obtain⟨o,q,_⟩:∃o,s.heap.get? b=ac o/\True:=by
    rcases bR.mp hb with z|hb
    ·subst z;exists _,st,trivial
    ·have z:b=f:=by simpa using hb
     subst z;obtain⟨o,q,_⟩:=y;exists o,q,trivial
   rw[aI (bY (a9 q))];exact (l b hb).1
  have I1:Inv X t σ (upd H s.heap.objs.size (.tup [.int (i:Nat),x])) {s with heap:=C,toks:=s.toks+1}:=by
   refine I.step (g':=s.gens) (d':=s.drawn) (ch:=[e,f]) (λb hb=>?_) (λb o _ _ g q _=>G b o (B b g).1 (B b g).2 q) (λb o _ _ g q _=>⟨o.slots,G b o (B b g).1 (B b g).2 q⟩)
    (λb o _ q n=>by rw[aI (bY (a9 q))];exact n) (λb o g q=>⟨o,G b o (B b g).1 (B b g).2 q⟩) (λb W q=>by rw[aI (aC q j)];exact q) (λb o u q=>by rw[aI (aC q j)];exact q)
    (λb ps q=>⟨#[],by rw[aI (aC q j),q];simp⟩) (λm hm=>?_) (λb o q=>?_) I.bare
   ·obtain⟨_,Q,_,f3,M,f5⟩:=l b hb
    exists f3,Q,M,f5
   ·obtain⟨o,es,ep,ho,r⟩:=hm
    exists o,es,ep,G _ o (bT (l e (-_)).2.1) (bT (l f (-_)).2.1) ho,r
   ·by_cases hb:b=s.heap.objs.size
    ·subst hb
     rw[au] at q;cases q;exists by show 2<=bc;decide,[.int (i:Nat) s.toks,u],.cons ⟨1⟩ (.cons ru .nil),⟨_,Y,21⟩
    ·rw[aI hb] at q
     refine (I.hok b o q).stay (λc v g r=>G c v ?_ ?_ r) (λc r=>by rw[aI (aC r j)];exact r) λc W r=>by rw[aI (aC r j)];exact r
     ·rcases g with z|z
      ·rw[z];exact nE b o q
      ·exact nE c _ z
     ·rcases g with z|z
      ·rw[z];exact nI b o q
      ·exact nI c _ z
  exists .ref s.heap.objs.size,_,I1,2,⟨_,x,j,22,λys hy=>by rw[I.QI hy J];exact hx⟩,⟨u,4,li2⟩,V;have O:IsEnum C e f ((i:Int)+1) u:=e2;show IsEnum C e f (((i+1:Nat):Int)) u;rw[Int.natCast_add];exact O
 done:=by
  intro X N U Z g i t s σ H E I l ⟨old,st,y⟩ T;subst N U Z;obtain⟨W,J,hx⟩:=T;obtain⟨L,rv,p,hz⟩:=I.list J;obtain⟨f0,Q,f2,f3,M,f5⟩:=l f (-_);have hl:=rv.length;exact wpAny_pyNext_enum_end (I.ok.hd g) st y p.isList (by simp;lia) λh' eb=>⟨2,I.turned (t':=s.toks) (λb o hb q=>eb b o hb q) f0 Q f3 M f5⟩
 self:=λ_ _ _ _ _ ⟨_,st,_⟩h=>wpAny_pyIter_enum st h
def ai5(K:ai)(ta:TA):TI:=λσ H R=>ta σ H λvs H1=>∃a xs,vs=[.ref a]/\bI K H1 a xs/\R (Ite K a) H1
theorem acp{l:Expr}{o:TA}{p i:Pos}{g:List Expr}{x1}{f:Pos}(E:Gl X "enumerate")(u:X.mg "enumerate" = ae)(x:PA X [l] o)(F:bn [l] X.env=[(al,eval l X.env)]:=by rfl) :PI X (.Tuple g x1 f) (.Call (.Name "enumerate" p) [l] [] i) (ai5 X.K o):=by intro c s m H R I h;refine Call_ (JF I E u boot_enumerate (PyProof.Rows.callWith_type1 (ir (x i c s m H _ I h) λO d ⟨M,k,j,y,B⟩=>?_) F rfl));obtain⟨a,N,e,C,q⟩:=B;subst e;cases y with|cons r A=>(cases A;cases r;obtain⟨L,Q,v,S⟩:=j.list C;refine call_enumerate_list v.isList λD t G P w=>wpAny_pyIter_enum t ?_;have J:Inv X c m k {d with heap:=D,toks:=d.toks}:=j.kept w;have n:∀b,d.heap.objs.size<=b->E1 X c k b:=λb hb=>j.Y6 hb (j.hok.fresh hb);exists d.heap.objs.size+1,[d.heap.objs.size+1,d.heap.objs.size],33,k,2,J,Xg a _ _ (Nat.succ_ne_self _),⟨.none,t,G⟩,λb hb=>?_,q;rcases bR.mp hb with z|hb;subst z;exact n _ ∅;have z:b=d.heap.objs.size:=(by simpa using hb);subst z;exact n _ ∅)
end
theorem aG.bP{K:ai}{H b:Hp}{a:am}{xs:List V}(e:aG H b)(h:cD K H a xs):cD K b a xs:=by rcases h with (h|⟨o,h⟩)|h;exact .inl (.inl (e _ _ h));exact .inl (.inr ⟨o,e _ _ h⟩);exact .inr h
theorem aG.new{H:Hp}{p:am}{o:HO}(h:H p=ae):aG H (upd H p o):=λb u e=>by rw[aI (aC e h)];exact e
theorem aG.out{a H:Hp}{p:am}{o:HO}(s:aG a H)(h:a p=ae):aG a (upd H p o):=λb u e=>by rw[aI (aC e h)];exact s b u e
mutual
def Rep(K:ai)(H:Hp):PyData->V->Prop
 |.none,v=>v=.gk
 |.bool b,v=>v=.bl b
 |.int i,v=>v=.int i
 |.str x,v=>v=.str x
 |.list ds,v=>∃a vs,v=.ref a/\bI K H a vs/\dw K H ds vs
 |.tuple ds,v=>∃a vs,v=.ref a/\cD K H a vs/\dw K H ds vs
 |.dict _,_=>False
def dw(K:ai)(H:Hp):List PyData->List V->Prop
 |[],vs=>vs=[]
 |d::ds,vs=>∃v r,vs=v::r/\Rep K H d v/\dw K H ds r
end
section
variable{K:ai}{H H':Hp}
mutual
theorem Rep.mono(s:aG H H'):∀{d:PyData}{v:V},Rep K H d v->Rep K H' d v
 |.none,_,h=>h
 |.bool _,_,h=>h
 |.int _,_,h=>h
 |.str _,_,h=>h
 |.list ds,_,⟨a,vs,e,q,r⟩=>⟨a,vs,e,s.seq q,dw.mono s r⟩
 |.tuple ds,_,⟨a,vs,e,q,r⟩=>⟨a,vs,e,s.bP q,dw.mono s r⟩
 |.dict _,_,h=>h
theorem dw.mono(s:aG H H'):∀{ds:List PyData}{vs:List V},dw K H ds vs->dw K H' ds vs
 |[],_,h=>h
 |_::_,_,⟨v,r,e,q,t⟩=>⟨v,r,e,q.mono s,dw.mono s t⟩
end
theorem dw.length:∀{ds:List PyData}{vs:List V},dw K H ds vs->wL vs=ds.length
 |[],_,h=>by rw[h];rfl
 |_::_,_,⟨v,r,e,_,t⟩=>by rw[e,bC,bC,dw.length t]
theorem dw.get:∀{ds:List PyData}{vs:List V}{i:Nat}{d:PyData},dw K H ds vs->ds[i]?=ac d->∃v,vs[i]?=ac v/\Rep K H d v
 |[],_,_,_,_,e=>by simp at e
 |x::ds,_,0,d,⟨v,r,e,q,t⟩,h=>by
  subst e;have z:x=d:=by simpa using h
  subst z;exists v,2,q
 |_::ds,_,i+1,d,⟨v,r,e,q,t⟩,h=>by
  subst e;obtain⟨y,b,a⟩:=dw.get (i:=i) (d:=d) t (by simpa using h);exists y,by simpa using b,a
theorem kZ:∀ns:List Int,dw K H (ns.map PyData.int) (ns.map cn)
 |[]=>rfl
 |n::ns=>⟨.int n,12,kZ ns⟩
theorem A1:∀{ns:List Int}{vs:List V},dw K H (ns.map PyData.int) vs->vs=ns.map cn
 |[],_,h=>h
 |n::ns,_,⟨v,r,e,q,t⟩=>by
  have q':v=.int n:=q;rw[e,q',A1 t];rfl
theorem Rep.A2{ns:List Int}{a:am}(h:cD K H a (ns.map cn)):Rep K H (.tuple (ns.map .int)) (.ref a):=⟨a,1,h,kZ ns⟩
theorem Rep.A3{ns:List Int}{v:V}(h:Rep K H (.tuple (ns.map .int)) v):∃a,v=.ref a/\cD K H a (ns.map cn):=by obtain⟨a,b,e,q,r⟩:=h;rw[A1 r] at q;exists a,e,q
end
section
variable{X:Cx}{pins:List (am×Obj)}{σ:St}{H:Hp}{s:aw}
mutual
theorem Rep.reads(I:Inv X pins σ H s):∀{d:PyData}{v:V}{u:ar},Rep X.K H d v->RelV v u->∃k,Reads s.heap u d k
 |.none,_,_,h,r=>by cases h;cases r;exists _,.none
 |.bool b,_,_,h,r=>by cases h;cases r;exists _,.bool b
 |.int i,_,_,h,r=>by cases h;obtain⟨t,rfl⟩:=r;exists _,.int i t
 |.str x,_,_,h,r=>by cases h;obtain⟨t,rfl⟩:=r;exists _,.str x t
 |.list w,_,_,⟨a,p,e,q,t⟩,r=>by
  subst e;cases r;obtain⟨m,l,⟨o,n,j,f,y,c⟩,_⟩:=I.list q;obtain⟨k,g⟩:=dw.reads I t l;exists _,.list j f c (by simpa using g)
 |.tuple w,_,_,⟨a,p,e,q,t⟩,r=>by
  subst e;cases r;obtain⟨m,l,⟨o,j,f,n,c⟩,_⟩:=I.tuple q;obtain⟨k,g⟩:=dw.reads I t l;exists _,.tuple j f c (by simpa using g)
 |.dict _,_,_,h,_=>h.elim
theorem dw.reads(I:Inv X pins σ H s):∀{ds:List PyData}{vs:List V}{us:List ar},dw X.K H ds vs->cO vs us->∃a,ReadsAll s.heap us ds a
 |[],_,_,h,r=>by cases h;cases r;exists _,.nil
 |_::_,_,_,⟨v,i,e,q,t⟩,r=>by
  subst e;cases r with
  |cons b f=>
   obtain⟨a,d⟩:=q.reads I b;obtain⟨g,c⟩:=dw.reads I t f;exists _,.cons d c
end
end
section
variable{X:Cx}
def anb(K:ai)(u:Nat):R2:=λx y H Q=>∃da db,Rep K H da x/\Rep K H db y/\da.canLay0=ag/\db.canLay0=ag/\u+min da.depth db.depth<cLine/\Q (.bl (PyData.eqv da db)) H
def anc(K:ai)(u:Nat):R2:=λx y H Q=>∃da db,Rep K H da x/\Rep K H db y/\da.canLay0=ag/\db.canLay0=ag/\u+min da.depth db.depth<cLine/\Q (.bl (!PyData.eqv da db)) H
theorem zd:ya X (bv .Eq) (anb X.K X.A.units):=by intro a s l H x y v u Q I i c ⟨k,o,b,f,j,g,d,q⟩;obtain⟨n,e⟩:=b.reads I i;obtain⟨m,h⟩:=f.reads I c;exact SeqAt.compareEq_reads e h j g d ⟨.bl _,H,I,2,q⟩
theorem DY:ya X (bv .NotEq) (anc X.K X.A.units):=by intro a s l H x y v u Q I i c ⟨k,o,b,f,j,g,d,q⟩;obtain⟨n,e⟩:=b.reads I i;obtain⟨m,h⟩:=f.reads I c;exact SeqAt.compareNe_reads e h j g d ⟨.bl _,H,I,2,q⟩
theorem Fd:qg X (.builtin "isinstance") (λxs H Q=>∃x n t b,xs=[x,.ty n]/\GD X.K H x t/\PySem.W.kitOne X.K t (.type n)=ac b/\Q (.bl b) H):=by intro c s g H xs h Q I r ⟨x,n,t,b,e,ty,k,q⟩;subst e;obtain⟨u,i,e,d,a⟩:=cO.two r;subst e;cases a;exact WW I d ty k λf=>⟨.bl _,H,I.tok f,2,q⟩
theorem Xi(t:X.calm=ag):qg X (.type "set") (λxs H Q=>∃(a:am)(ns:List Int),xs=[.ref a]/\bI X.K H a (ns.map cn)/\wL ns+1<scanBound /\∀p,H p=ae->Q (.ref p) (upd H p (.set (λd=>(firstMet (λi=>ns.getD i 0) (wL ns)).any (·==d)) (firstMet (λi=>ns.getD i 0) (wL ns)).length))):=by intro k s w H xs x Q I r ⟨a,ns,e,v,n,q⟩;subst e;obtain⟨u,e,m⟩:=cO.one r;subst e;cases m;obtain⟨f,j,p,A⟩:=I.list v;have h:=j.length;rw[af] at h;have c:f.toArray.size=ns.length:=(by simp[h]);refine call_set_list (I.ok.hd t) p.isList (ns:=ns) (by simpa using intsAre_of j) (by rw[c];exact n) λz y g l=>?_;rw[c] at g;exists .ref s.heap.objs.size,_,I.laid (o:=.set (λd=>(firstMet (λi=>ns.getD i 0) (wL ns)).any (·==d)) (firstMet (λi=>ns.getD i 0) (wL ns)).length) (λb o e=>l b o (a9 e) e) (az _) g,2,q _ (I.hok.fresh (az _))
theorem Xj:qg X (.builtin "len") (λxs H Q=>∃(a:am)(S:Int->Bool)(n:Nat),xs=[.ref a]/\H a=ac (.set S n)/\Q (.int n) H):=by intro b s m H xs x Q I r ⟨a,S,n,e,i,q⟩;subst e;obtain⟨u,e,g⟩:=cO.one r;subst e;cases g;obtain⟨o,l,p,t,f,d,k,v,y,h,j,c⟩:=(show s.heap.SetOf (intKind X.prog X.w) a S n from I.hok a _ i);subst c;refine call_len_set f d k j ?_ ⟨.int _,H,I.tok _,⟨1⟩,q⟩;have:l.size<2^62:=cj h (!_);lia
theorem Xk(z:X.calm=ag):qg X (.builtin "min") (λxs H Q=>∃(a:am)(ns:List Int),xs=[.ref a]/\bI X.K H a (ns.map cn)/\0<wL ns/\∀m,m∈ns->(∀n∈ns,m<=n)->Q (.int m) H):=by intro l s D H xs F Q I r ⟨a,ns,e,A,f,q⟩;subst e;obtain⟨u,e,y⟩:=cO.one r;subst e;cases y;obtain⟨d,B,p,L⟩:=I.list A;have h:IntsAre d ns:=intsAre_of B;have i:=p.isList;obtain⟨xs,e⟩:=h.allInts.items;have b:ns=xs.toList.map (·.1):=(by rw[<- h.numsOf,<- nums_intItems,<- e]);have c:0<xs.size:=(by have k:=f;rw[b,af,iy] at k;exact k);rw[e] at i;refine min_intList (I.ok.hd z) i c λv J G o w=>?_;obtain⟨t,rfl⟩:=intItems_at o;obtain⟨E,x⟩:=argBest_lt (numAt xs) (xs.size-1);exists .int _,H,I.kept w,⟨t,2⟩,q _ ?_ λa g=>?_;rw[b,numAt_eq];exact getD_mem (by rw[af,iy];lia);rw[b] at g;obtain⟨j,C,rfl⟩:=mem_getD g;rw[af,iy] at C;rw[<- numAt_eq];exact x j ∅
end
noncomputable def OY(scope dsc:Scope)(N0 N2:List Str)(cap:List (Option Nat)):Bool:=
 (scope.kind==.function)&&(scope.names.all λy=>y.2 != .cell)&&(scope.names.all λy=>y.2 != .local || scope.names.lookup y.1==ac .local) &&
 (scope.names.all λy=>y.2 != .free || dsc.names.lookup y.1==ac .cell)&&(scope.names.all λy=>y.2 != .free || scope.names.lookup y.1==ac .free)&&decide N2.Nodup&&(wL cap==N2.length) &&
 ((aB cap.length).all λi=>match cap[i]?,N2[i]? with
   |some (ac j),ac x=>N0[j]?==ac x&&scope.names.any (λy=>y.1==x&&y.2==.free)
   |_,_=>ag)
theorem Xl{X:Cx}{scope c:Scope}{o m:List Str}{b:List (Option Nat)}(t:X.env.scope=c)(s:X.N=o)(h:OY scope c o m b=ag):kY X scope m b:=by unfold OY at h;simp only[dg] at h;obtain⟨⟨⟨⟨⟨⟨⟨v,g⟩,n⟩,f⟩,l⟩,w⟩,B⟩,d⟩:=h;rw[List.all_eq_true] at g n f l d;exists by simpa using v,λy a e=>?_,λy a e=>?_,λy a e=>?_,λy a e=>?_,j9 w,by simpa using B,λi j x k r=>?_;have:=g y a;rw[e] at this;exact ff this (!_);have:=n y a;rw[e] at this;simpa using this;have:=f y a;rw[e] at this;show X.env.scope.names.lookup y.1=ac .cell;rw[t];simpa using this;have:=l y a;rw[e] at this;simpa using this;have u:i<wL b:=(aj.mp k).1;have q:=d i (cS.mpr u);rw[k,r] at q;simp only[dg] at q;exists by rw[s];simpa using q.1,4;obtain⟨y,a,z⟩:=y9.mp q.2;simp only[dg] at z;have A:y.1=x:=(by simpa using z.1);have p:y.2=.free:=(by simpa using z.2);rw[<- A,<- p];exact a
def CW(H1:Hp)(acc:am)(n:Nat)(P:Nat->List V->Hp->Prop):Nat->Nat->Hp->Prop:=
 λi m H=>m=n-i/\i<=n/\aG H1 H/\∃ys,H acc=ac (.lst ys)/\P i ys H
theorem eX{J:It}{n:Nat}{j:List (Option Nat)}{g:TG}{w:TT}{A:TE}{v:St}{z:Hp->Prop}{f:Hp}{a:am}(P:Nat->List V->Hp->Prop)(q:f a=ae)(go:∀i H,i<n->aG f H->J.go i H)(stop:∀H,aG f H->J.stop n H)(C:P 0 [] (upd f a (.lst [])))(step:∀i h H,i<n->aG f H->H a=ac (.lst h)->P i h H->∀x l,J.QJ i H x l->g x (kX j v) l λc t=>w c t λb k=>if b=ag then A c k λy o=>∃xs,o a=ac (.lst xs)/\wL xs<bc /\∃d,d<n-i/\CW f a n P (i+1) d (upd o a (.lst (xs++[y]))) else ∃d,d<n-i/\CW f a n P (i+1) d k)(u:∀h H,aG f H->H a=ac (.lst h)->P n h H->z H) :∃W:Nat->Nat->Hp->Prop,(∃m,W 0 m (upd f a (.lst [])))/\∀i m H,W i m H ->(J.stop i H/\z H)∨(J.go i H/\∀x l,J.QJ i H x l->g x (kX j v) l λc t=>w c t λb k=>if b=ag then A c k λy o=>∃xs,o a=ac (.lst xs)/\wL xs<bc /\∃d,d<m/\W (i+1) d (upd o a (.lst (xs++[y]))) else ∃d,d<m/\W (i+1) d k):=by exists CW f a n P,⟨n,2,aS _,aG.new q,[],au,C⟩,4;rintro i m H ⟨rfl,D,s,h,B,p⟩;by_cases r:i<n;exact .inr ⟨go i H r s,step i h H r s B p⟩;·have e:i=n:=∅;subst e;exact .inl ⟨stop H s,u h H s B p⟩
theorem dF{e d:Hp}{a:am}{n i:Nat}{P:Nat->List V->Hp->Prop}{c:List V}{y:V}(b:e a=ae)(h:i<n)(s:aG e d)(g:d a=ac (.lst c))(hl:wL c<bc)(p:P (i+1) (c++[y]) (upd d a (.lst (c++[y])))) :∃xs,d a=ac (.lst xs)/\wL xs<bc/\∃f,f<n-i/\CW e a n P (i+1) f (upd d a (.lst (xs++[y]))) :=⟨c,g,hl,n-(i+1),62,h,s.out b,_,au,p⟩
theorem gU{d b:Hp}{a:am}{n i:Nat}{P:Nat->List V->Hp->Prop}{e:List V}(g:i<n)(s:aG d b)(f:b a=ac (.lst e))(p:P (i+1) e b):∃c,c<n-i/\CW d a n P (i+1) c b :=⟨n-(i+1),62,g,s,_,f,p⟩
theorem wU{K:ai}{a:am}{xs:List V}{b:Hp}(h:bI K b a xs):∀i H,i<wL xs->aG b H->(OM K a).go i H:=λi H c s=>⟨xs,xs[i],s.seq h,by simp[c]⟩
theorem mR{K:ai}{a:am}{xs:List V}{b:Hp}(h:bI K b a xs):∀H,aG b H->(OM K a).stop (wL xs) H:=λH s=>⟨xs,s.seq h,az _⟩
theorem af7{K:ai}{a:am}{xs:List V}{b:Hp}(h:bI K b a xs):∀i H,i<wL xs->aG b H->(Ite K a).go i H:=λi H c s=>⟨xs,xs[i],s.seq h,by simp[c]⟩
theorem ZG{K:ai}{a:am}{xs:List V}{b:Hp}(h:bI K b a xs):∀H,aG b H->(Ite K a).stop (wL xs) H:=λH s=>⟨xs,s.seq h,az _⟩
theorem uw{lo:Int}{n:Nat}{b:Hp}:∀i H,i<n->aG b H->(Y8 lo n).go i H:=λi H a s=>a
theorem k7{lo:Int}{n:Nat}{a:Hp}:∀H,aG a H->(Y8 lo n).stop n H:=λH s=>az n
noncomputable def hide(H:Hp)(l:am):Hp:=λb=>if b=l then ae else H b
theorem af8{a:Type}{xs:List a}{i:Int}{v:a}(b:0<=i)(h:xs[i.toNat]?=ac v):yb xs i=ac v:=by obtain⟨k,rfl⟩:=Int.eq_ofNat_of_zero_le b;exact bO (by simpa using h)
theorem ZH{ns:List Int}{i:Int}(a:0<=i)(h:i<wL ns):yb (ns.map cn) i=ac (.int (ns.getD i.toNat 0)):=by have b:i.toNat<wL ns:=∅;refine af8 a ?_;rw[ak,ao,aa b];rfl
section
variable{X:Cx}
theorem ZI(K:ai)(h:X.K=K):IxR X (T4 K):=by subst h;exact VF
theorem acq(K:ai)(h:X.K=K):IxR X (W0 K):=by subst h;exact Zt
theorem acr(K:ai)(h:X.K=K):SlR X (aiQ K):=by subst h;exact GG
theorem ze(K:ai)(h:X.K=K):ya X (bv .In) (rIn K al):=by subst h;exact oq
theorem Jr(K:ai)(h:X.K=K){e:Expr}{f:Str}{a:Pos}{b:TE}(c:PE X e b)(d:attributeBase e f X.env (eval e X.env)=eval e X.env):PE X (.Attribute e f a) (JL K b f):=by subst h;exact bg c d
theorem OZ(K:ai)(h:X.K=K){a:List Expr}{k:Nat}{c:Pos}{t:TGs}{n:Nat}(d:X.calm=ag)(h':jW X a t)(e:(assignEach a X.env).length=n:=by rfl)(b:(assignEach a X.env).findIdx? (·.1)=ae:=by rfl):PG X (.Tuple a k c) (afI K n t):=by subst h;exact JG d h' e b
theorem Xm:qg X (.builtin "isinstance") (λxs H Q=>∃(a:am) (d:List V) (n:String) (b:Bool),xs=[.ref a,.ty n]/\cD X.K H a d/\PySem.W.kitOne X.K (.type "tuple") (.type n)=ac b/\Q (.bl b) H):=by intro f s p H xs t Q I r ⟨a,d,n,b,e,l,k,q⟩;subst e;obtain⟨u,w,e,i,c⟩:=cO.two r;subst e;cases c;cases i;obtain⟨m,v,⟨o,h,g,_⟩,_⟩:=I.tuple l;exact fk PySem.W.kitx_tuple I.DQ ⟨o,h,g⟩ k (λz=>nomatch z) λj=>⟨.bl _,H,I.tok j,2,q⟩
theorem Xn:qg X (.builtin "isinstance") (λxs H Q=>∃(a:am) (d:List V) (n:String) (b:Bool),xs=[.ref a,.ty n]/\bI X.K H a d/\PySem.W.kitOne X.K (.type "list") (.type n)=ac b/\Q (.bl b) H):=by intro f s p H xs v Q I r ⟨a,d,n,b,e,l,k,q⟩;subst e;obtain⟨u,x,e,i,c⟩:=cO.two r;subst e;cases c;cases i;obtain⟨m,w,⟨o,t,h,g,_⟩,_⟩:=I.list l;exact fk PySem.W.kitx_list I.DQ ⟨o,h,g⟩ k (λz=>nomatch z) λj=>⟨.bl _,H,I.tok j,2,q⟩
noncomputable def fJ:Expr->Bool
 |.Starred _ _=>al
 |_=>ag
theorem QX{e:Expr}{a:List Expr}{env:Env}(h:fJ e=ag):bn (e::a) env=(al,eval e env)::bn a env:=by cases e <;> first|rfl|(exact Bool.noConfusion h)|simp[bn]
theorem mH{e:Expr}{b:List Expr}{a:TE}{t:TA}(d:PE X e a)(f:PA X b t)(c:fJ e=ag:=by rfl):PA X (e::b) (iI a t):=ab8 d f (QX c)
theorem acs{bs:List Bool}{us:List ar}(r:cO (bs.map cw) us){i:Nat}{v:ar}(h:us[i]?=ac v):v=.bool (bs.getD i ag):=by have c:=r.length;rw[af] at c;have d:i<wL us:=(aj.mp h).1;have e:(bs.map cw)[i]?=ac (.bl (bs.getD i ag)):=(by rw[ak,aa ∅,ao,aa ∅];rfl);obtain⟨u,a,b⟩:=r.get e;rw[h] at a;cases a;exact b
theorem range_all(bs:List Bool):((aB (wL bs)).all λi=>bs.getD i ag)=bs.all id:=by rw[jo,List.all_eq_true,List.all_eq_true];constructor;intro h x b;obtain⟨i,a,e⟩:=List.getElem_of_mem b;have:=h i (cS.mpr a);rw[ao,aa a,e] at this;exact this;intro h i a;have a:=cS.mp a;have:=h bs[i] (aP a);rw[ao,aa a];exact this
theorem ZJ(m:X.calm=ag):qg X (.builtin "all") (λxs H Q=>∃(a:am)(bs:List Bool),xs=[.ref a]/\bI X.K H a (bs.map cw)/\Q (.bl (bs.all id)) H):=by intro h s y H xs B Q I r ⟨a,bs,e,w,q⟩;subst e;obtain⟨u,e,k⟩:=cO.one r;subst e;cases k;obtain⟨c,g,p,D⟩:=I.list w;have f:=g.length;rw[af] at f;refine call_all_walk (wpAny_pyIter_list p.isList ?_);have d:a<s.heap.objs.size:=(by obtain⟨o,n,e,_⟩:=p;exact a9 e);exists s.heap.objs.size,33333,λi=>bs.getD i ag,2,Walks.list (A:=X.A.in1) (show X.A.in1.handled=ae from I.ok.hd m) _ a (bY d) c.toArray,⟨⟨_,a8 _ rfl,22⟩,p.isList.at λo e=>a7 _ e⟩,4,λC t j=>?_;intro i v s Q E x l;have e:=acs g (show c[i]?=ac v by simpa using x);subst e;exact wpAny_truthy_bool l;have e:(aB c.toArray.size).all (λi=>bs.getD i ag)=bs.all id:=(by rw[show c.toArray.size=bs.length by simp[f]];exact range_all bs);rw[e];exists .bl _,H,I.kept (t':=t) λb o e=>j b o (by intro z;have:b=s.heap.objs.size:=(by simpa using z);exact ff (a9 e) (by rw[this];exact jf _)) (a7 _ e),2,q
end
end L2
namespace Gr
abbrev Ps:=List (Int×Int)
def CI(ps:Ps)(k:Nat)(x y:Int):Prop:=ps[k]?=ac (x,y)∨ps[k]?=ac (y,x)
theorem GI{f:Type}[DecidableEq f]:∀{xs B:List f},xs.Nodup->(∀x∈xs,x∈B)->wL xs<=wL B
 |[],_,_,_=>aS _
 |x::xs,B,c,a=>by
  have d:=a x cK;have g:∀y∈xs,y∈B.erase x:=λy b=>by
   have h:y≠x:=λe=>(gG.mp c).1 (e▸b);exact (List.mem_erase_of_ne h).mpr (a y (bS _ b))
  have j:=GI (gG.mp c).2 g;have i:=List.length_erase_of_mem d;have k:0<wL B:=List.length_pos_of_mem d;rw[bC];lia
theorem ux{c:Type}{xs:List c}{x:c}(h:xs.Nodup)(g:x∉xs):(xs++[x]).Nodup:=by rw[wK];exists h,-_,λa d b f=>?_;have:b=x:=(by simpa using f);rw[this];exact λe=>g (e▸d)
noncomputable def ends(ps:Ps):List Int:=ps.flatMap λp=>[p.1,p.2]
end Gr
namespace L2
open PySem Gr
def ZK(K:ai)(ta:TE):TT:=λσ H Q=>ta σ H λx H'=>∃k,afS K x H' k/\Q k H'
theorem Xo{X:Cx}{a:Expr}{c:TE}(e:PE X a c)(d:∀b,isTrue a X.env b=(do let v <- b;standAt a.pos;holding [v] (truthy v))):PT X a (ZK X.K c):=Zl e d
end L2
namespace L2
open PySem PySem.Spec PyProof.Rows
section
variable{X:Cx}
theorem QY:qg X (.type "range") (λxs H Q=>∃j:Int,xs=[.int j]/\∀p,H p=ae->Q (.ref p) (upd H p (.YT 0 j))):=by intro c s f H xs g Q I r ⟨j,e,q⟩;subst e;obtain⟨u,e,d⟩:=cO.one r;subst e;obtain⟨t,rfl⟩:=d;refine call_range_1 ⟨.ref s.heap.objs.size,_,I.laid (a:=s.heap.objs.size) (o:=.YT 0 j) (λb o e=>a7 _ e) (az _) ?_,2,q _ (I.hok.fresh (az _))⟩;exists 333,a8 _ rfl
theorem Uc{a:Array ar}{n:Nat}(hl:a.size=n)(h:∀(i:Nat)(v:ar),a[i]?=ac v->∃t,v=Value.int (0+(i:Int)*1) t):cO ((aB n).map λk=>cn (k:Nat)) a.toList:=by have c:∀(b:List ar)(m:Nat),(∀(i:Nat)(v:ar),b[i]?=ac v->∃t,v=Value.int ((m+i:Nat):Int) t)->cO ((List.range' m b.length).map λk=>cn (k:Nat)) b:=(by intro b;induction b with|nil=>intro m _;exact .nil|cons u b f=>intro m d;rw[bC,List.range'_succ,bK];refine .cons (d 0 u rfl) (f (m+1) λi v e=>?_);obtain⟨t,q⟩:=d (i+1) v (by simpa using e);exists t,by rw[q];congr 1;lia);have:=c a.toList 0 λi v e=>(by obtain⟨t,q⟩:=h i v (by simpa using e);exists t,by rw[q];congr 1;lia);rw[iy,hl,<- List.range_eq_range'] at this;exact this
theorem Ud(y:X.calm=ag):qg X (.type "list") (λxs H Q=>∃(p:am)(j:Nat),xs=[.ref p]/\H p=ac (.YT 0 j)/\j<=1000/\∀l,H l=ae->Q (.ref l) (upd H l (.lst ((aB j).map λk=>.int (k:Nat))))):=by intro f s D H xs E Q I r ⟨p,j,e,C,A,q⟩;subst e;obtain⟨u,e,x⟩:=cO.one r;subst e;cases x;obtain⟨t,u,v,B⟩:=(show gI X.prog X.w H s.heap p (.YT 0 j) from I.hok p _ C);refine call_list_range (I.ok.hd y) (n:=j) B (small_one ∅ ∅ ∅ ∅) (by rw[rangeSize_one];split <;> lia) ∅ λG F b i h z m=>?_;obtain⟨c,d⟩:=m;have g:=Uc c d;exists .ref s.heap.objs.size,_,I.laid (a:=s.heap.objs.size) (o:=.lst ((aB j).map λk=>.int (k:Nat))) h (az _) ⟨4,b.toList,i,g,by simpa using z⟩,2,q _ (I.hok.fresh (az _));rw[af,bJ];exact iG (b9 A)
end
end L2
namespace Gr
end Gr
namespace L2
open PySem PySem.Spec PyProof.Rows
def xy(h:Heap)(e T:am)(cls fl:ar):Prop:=
 ∃oe vs oT ts,h.get? e=ac oe/\oe.cls=cls/\oe.dict=ae/\oe.data=.fields vs/\vs[1]?=ac (.ref T)/\T≠e/\h.get? T=ac oT/\oT.data=.fields ts/\ts[3]?=ac fl
structure Nc(F R:List am)(h h':Heap):Prop where
 keep:∀b o,b∉F->b∉R->h.get? b=ac o->h'.get? b=ac o
 slot:∀b o,b∈F->b∉R->h.get? b=ac o->∃sl,h'.get? b=ac {o with slots:=sl}
theorem Nc.mono{F R d:List am}{h h':Heap}(t:Nc F R h h')(f:∀b∈R,b∈d):Nc F d h h' :=⟨λb o c a e=>t.keep b o c (λz=>a (f b z)) e,λb o c a e=>t.slot b o c (λz=>a (f b z)) e⟩
theorem Nc.trans{F R:List am}{h j i:Heap}(a:Nc F R h j)(b:Nc F R j i):Nc F R h i:=
 ⟨λc o d f e=>b.keep c o d f (a.keep c o d f e),λc o d f e=>by
  obtain⟨m,k⟩:=a.slot c o d f e;obtain⟨g,l⟩:=b.slot c _ d f k;exact⟨g,l⟩⟩
theorem Nc.ai6{F:List am}{h:Heap}{a:am}{g:Obj->Obj}:Nc F [a] h (h.update a g) :=⟨λb o _ c e=>(ce _ _ (λz=>c (by simp[z]))).trans e,λb o _ c e=>⟨o.slots,(ce _ _ (λz=>c (by simp[z]))).trans e⟩⟩
theorem Xp{f:Array ar->Array ar}{o:Obj}:(Obj.mapFields f o).dict=o.dict:=by obtain⟨c,d,a,b⟩:=o;cases a <;> rfl
section
variable{M:Model}{A:cm}{E:ar->aw->Prop}{s:aw}{base:Heap}{env:Env}{outer:List Env}{L e:am}
theorem JQ(hl:s.heap.FunFrames base (env::outer)){c:Obj}{vs:Array ar}(g:s.heap.get? e=ac c)(d:c.data=.fields vs):e∉frs (env::outer):=λf=>by
 obtain⟨_,o,b,a⟩:=hl.mem f;rw[g] at b;cases b;exact a vs d
theorem Nd{c:Obj}{vs:Array ar}{a:ar}{G:Bool}{Q:Unit->aw->Prop}(m:A.frames=ac (env::outer))(hl:s.heap.FunFrames base (env::outer))(D:env.frame=ac L)(w:s.heap.get? e=ac c)(n:c.dict=ae)(k:c.data=.fields vs)(hsz:1<vs.size)(h:∀h',xy h' e s.heap.objs.size c.cls (rawInt L)->Nc (frs (env::outer)) [e] s.heap h'->Q () {s with heap:=h'}) :cf M A (do let B <- frameOf env;let j <- entryPlaceOf L G;let y <- EntryCells.newEntry a B .none (rawInt L) .none j;setField (.ref e) 1 y) Q E s:=by
 have v:=JQ hl w k;refine ax (wpAny_frameOf_fun m hl D λg1 F=>?_);obtain⟨u,i,t⟩:=F;refine ax (wpAny_entryPlaceOf λj f=>?_);unfold EntryCells.newEntry newFields;refine ax (wpAny_newObj_type ?_ (f.sizeOk5 _ _ _ _ _));have p:g1.get? e=ac c:=(i e v).trans w;have g:g1.objs.size≠e:=Nat.ne_of_gt (a9 p);refine wpAny_setField (a7 _ p) k hsz (h _ ?_ ?_);·have d:=Obj.data_mapFields k (·.setIfInBounds 1 (Value.ref g1.objs.size));have qT:=(ce _ (Obj.mapFields (·.setIfInBounds 1 (Value.ref g1.objs.size))) (bT g)).trans (a8 g1 (o:={cls:=.type "traceback",dict:=ae,data:=.fields ([a,.ref L,.none,rawInt L,.none]++(if j.isEmpty then bL 6 Value.none else j)).toArray}) rfl);rw[<- u];exists 3333,Heap.get?_update_self _ (a7 _ p) (Obj.isFreed_of_fields d),Obj.cls_mapFields _ _,4,d,4,g,qT,24;rw[Xp];exact n;simp[hsz];·rcases f with rfl|⟨_,_,_,_,_,_,_,rfl⟩ <;> simp
 exists λb o x l r=>?_,λb o x l r=>?_;rw[ce _ _ (λz=>l (by simp[z]))];exact a7 _ ((i b x).trans r);obtain⟨C,q⟩:=t b o r;exists C,4;rw[ce _ _ (λz=>l (by simp[z]))];exact a7 _ q
theorem Ue{a:Obj}{vs:Array ar}{Q:Unit->aw->Prop}(b:A.frames=ac (env::outer))(hl:s.heap.FunFrames base (env::outer))(i:env.frame=ac L)(f:s.heap.get? e=ac a)(c:a.dict=ae)(d:a.data=.fields vs)(g:vs[1]?=ac .none)(h:∀h',xy h' e s.heap.objs.size a.cls (rawInt L)->Nc (frs (env::outer)) [e] s.heap h'->Q () {s with heap:=h'}):cf M A (noteFrame (.ref e) env) Q E s:=by unfold noteFrame;simp only[i];refine ax (wpAny_field f d g ?_);rw[e8 (!_)];exact Nd b hl i f c d (jL.mp g).1 h
theorem Xq{T:am}{cls:ar}{Q:Unit->aw->Prop}(i:A.frames=ac (env::outer))(hl:s.heap.FunFrames base (env::outer))(m:env.frame=ac L)(C:xy s.heap e T cls .none)(h:∀h',xy h' e s.heap.objs.size cls (rawInt L)->Nc (frs (env::outer)) [e,T] s.heap h'->Q () {s with heap:=h'}):cf M A (noteFrame (.ref e) env) Q E s:=by obtain⟨t,D,F,u,l,w,j,n,p,x,f,c,q⟩:=C;subst w;unfold noteFrame;simp only[m];refine ax (wpAny_field l n p ?_);rw[eL (-_)];refine ax (wpAny_field f c q ?_);rw[e8 (by simp[rawInt])];refine ax (wpAny_setField f c (jL.mp q).1 ?_);have v:=JQ (e:=T) hl f c;have g:(s.heap.update T (Obj.mapFields (·.setIfInBounds 3 Value.none))).objs.size=s.heap.objs.size:=Heap.size_after_update ..;have a:∀b,b≠T->(s.heap.update T (Obj.mapFields (·.setIfInBounds 3 Value.none))).get? b=s.heap.get? b:=λb d=>ce _ _ (bT d);refine Nd (s:={s with heap:=s.heap.update T (Obj.mapFields (·.setIfInBounds 3 Value.none))}) (base:=base) i (hl.of_keeps λb o d k=>⟨o,(a b λz=>?_).trans d,2⟩) m ((a e (bT x)).trans l) j n (jL.mp p).1 λh' y B=>?_;rw[z,f] at d;cases d;exact k u c;have r:xy h' e s.heap.objs.size t.cls (rawInt L):=g▸y;exact h h' r ((Nc.ai6.mono (-_)).trans (B.mono (-_)))
theorem HY{T:am}{cls r:ar}{Q:Unit->aw->Prop}(f:xy s.heap e T cls r)(h:∀h',xy h' e T cls .none->(∀F,Nc F [T] s.heap h')->h'.objs.size=s.heap.objs.size->Q () {s with heap:=h'}) :cf M A (setFlight (.ref e) ae) Q E s:=by obtain⟨n,m,t,o,g,p,d,i,j,l,k,c,q⟩:=f;have a:3<o.size:=(jL.mp q).1;unfold setFlight;refine ax (wpAny_field g i j ?_);rw[eL (-_)];refine wpAny_setField k c a (h _ ?_ (λF=>Nc.ai6) (Heap.size_after_update ..));have b:=Obj.data_mapFields c (·.setIfInBounds 3 ((ae:Option am).elim Value.none λf=>rawInt f));exists n,m,33,(ce _ _ l).trans g,p,d,i,j,l,Heap.get?_update_self _ k (Obj.isFreed_of_fields b),b,by simp[a]
end
theorem gI.there{P:ci}{w:World}{H:Hp}{h:Heap}{a:am}:∀{o:HO},gI P w H h a o->∃ob,h.get? a=ac ob
 |.lst _,⟨_,_,_,_,e⟩=>⟨_,e⟩
 |.tup _,⟨_,_,_,o,e,_⟩=>⟨o,e⟩
 |.dK _,⟨_,_,_,_,o,_,_,e,_⟩=>⟨o,e⟩
 |.dT _,⟨_,_,_,_,o,_,_,e,_⟩=>⟨o,e⟩
 |.set _ _,⟨o,_,_,_,e,_⟩=>⟨o,e⟩
 |.ins _ _ _,⟨_,_,_,e,_⟩=>⟨_,e⟩
 |.own _,e=>e
 |.xd _,⟨_,n,_⟩=>let ⟨o,e,_⟩:=M0 n;⟨o,e⟩
 |.met _ _,e=>⟨_,e⟩
 |.YT _ _,⟨_,_,_,e⟩=>⟨_,e⟩
 |.AN o _,⟨e,_⟩=>⟨o,e⟩
 |.x8 _,e=>⟨_,e⟩
 |.ext _,⟨_,e,_⟩=>e
theorem AS.trn{P:ci}{w:World}{H:Hp}{h h':Heap}{F R:List am}(ok:AS P w H h)(t:Nc F R h h')(c:∀b∈F,H b=ae)(d:∀b∈R,H b=ae):AS P w H h':=λa o e=>
 (ok a o e).stay (λb u hb q=>t.keep b u (λz=>by
  have:=c b z
  rcases hb with rfl|hb
  ·rw[e] at this;cases this
  ·rw[hb] at this;cases this) (λz=>by
  have:=d b z
  rcases hb with rfl|hb
  ·rw[e] at this;cases this
  ·rw[hb] at this;cases this) q) (λ_ q=>q) λ_ _ q=>q
def Rec(X:Cx)(pins:List (am×Obj))(H:Hp)(b:am):Prop:=
 H b=ae/\b≠X.env.locals/\b∉X.fs/\X.s₀.heap.get? b=ae/\(∀x c,X.env.cells.lookup x=ac c->c≠b)/\∀p∈X.pn++pins,p.1≠b
section
variable{X:Cx}{pins:List (am×Obj)}{σ:St}{H H':Hp}{s:aw}{h':Heap}
theorem Inv.acv(I:Inv X pins σ H s)(f:X.ex=[]){b:am}(g:H' b=ae)(d:s.heap.get? b=ae):Rec X pins H' b:=by
 exists g,λz=>?_,λz=>?_,4,λx c e z=>?_,λp h z=>?_;obtain⟨m,⟨o,_,_,a,_⟩,_⟩:=I.loc;rw[<- z,d] at a;cases a;obtain⟨_,o,a,_⟩:=I.EX.mem z;rw[d] at a;cases a;cases q:X.s₀.heap.get? b with|none=>rfl|some o=>obtain⟨i,e⟩:=I.base.there b o q (by rw[f];simp);rw[d] at e;cases e
 obtain⟨v,o,a,_⟩:=I.cell x c e;rw[z,d] at a;cases a;have:=(I.pin p h).1;rw[z,d] at this;cases this
theorem Inv.QZ(I:Inv X pins σ H s)(a:X.ex=[]):Rec X pins H s.heap.objs.size:=by refine I.acv a (I.hok.fresh (az _)) ?_;cases q:s.heap.get? s.heap.objs.size with|none=>rfl|some o=>exact ff (a9 q) (jf _)
theorem Inv.trn{R:List am}{t':Nat}(I:Inv X pins σ H s)(A:∀b∈R,Rec X pins H b)(t:Nc (frs X.stack) R s.heap h'):Inv X pins σ H {s with heap:=h',toks:=t'}:=by
 have F:∀b∈frs X.stack,H b=ae:=λb a=>I.OI b a;have g:∀b o,b∉R->s.heap.get? b=ac o->∃w,h'.get? b=ac {o with slots:=w}:=λb o D e=>(by by_cases a:b∈frs X.stack;exact t.slot b o a D e;exists o.slots,t.keep b o a D e);have j:∀b o,b≠X.env.locals->b∉X.fs->b∉R->s.heap.get? b=ac o->h'.get? b=ac o:=λb o O a D e=>
  t.keep b o (λz=>(bR.mp (I.GA b z)).elim O a) D e
 have J:∀b o,X.s₀.heap.get? b=ac o->b≠X.env.locals:=λb o e=>bY (cj (a9 e) I.ok.above);have h:∀b o,X.s₀.heap.get? b=ac o->b∉R:=λb o e z=>(by rw[(A b z).2.2.2.1] at e;cases e);have f:∀x c,X.env.cells.lookup x=ac c->∀v,s.heap.IsCell c v->h'.IsCell c v:=λx c e v ⟨o,E,N⟩=>(by obtain⟨w,q⟩:=g c o (λz=>(A c z).2.2.2.2.1 x c e rfl) E;exists _,q,N);exists I.ok,I.os,I.bare,⟨λb o e n a C=>?_,λb o e n a C=>?_,I.base.free,λb o e C=>?_,I.base.tups,I.base.Df,I.base.EV⟩,4,λx c e=>?_,I.free,I.vO,λp L=>?_,I.hok.trn t F (λb a=>(A b a).1),I.len;exact j b o (J b o e) a (h b o e) (I.base.keep b o e n a C);obtain⟨w,B⟩:=I.base.slot b o e n a C;obtain⟨G,y⟩:=g b _ (h b o e) B;exists G,y;obtain⟨U,B⟩:=I.base.there b o e C;obtain⟨w,y⟩:=g b _ (h b o e) B;exists _,y;obtain⟨m,⟨o,T,M,E,r⟩,Q⟩:=I.loc;obtain⟨w,q⟩:=g _ o (λz=>(A _ z).2.1 rfl) E;exists m,⟨_,T,M,q,r⟩,λi x v B y S=>?_;obtain⟨u,P,l⟩:=Q i x v B y S;exists u,P,4;rcases l with l|⟨k,c,e,z⟩;exact .inl l;exact .inr ⟨k,c,e,f x c e _ z⟩;obtain⟨v,z⟩:=I.cell x c e;exists v,f x c e v z;obtain⟨e,n,K,nf,d⟩:=I.pin p L;exists j p.1 p.2 K nf (λz=>(A p.1 z).2.2.2.2.2 p L rfl) e,n,K,nf,d
end
def XP(X:Cx)(pins:List (am×Obj))(σ:St)(E:XK)(e:ar)(s':aw):Prop:=
 ∃ea T cls H',e=.ref ea/\Inv X pins σ H' s'/\xy s'.heap ea T cls .none/\Rec X pins H' ea/\Rec X pins H' T/\E cls ae H'
def Gx(P:ci)(w:World):WY:=λouter H s E e s'=>
 ∃ea T cls H',e=.ref ea/\s'.os=s.os/\AllBare s'.gens/\Un (frs outer) [] H H' s.heap s'.heap/\AS P w H' s'.heap/\xy s'.heap ea T cls .none/\s.heap.get? ea=ae/\s.heap.get? T=ae/\H' ea=ae/\H' T=ae/\E cls ae H'
theorem ai9{X:Cx}{a:List (am×Obj)}{i:St}{H:Hp}{s s':aw}{E:XK}{e:ar}(I:Inv X a i H s)(d:X.ex=[])(h:Gx X.prog X.w X.stack H s E e s'):XP X a i E e s':=by obtain⟨l,T,f,m,j,os,c,k,g,t,r,p,o,n,q⟩:=h;exists l,T,f,m,j,I.aek (ch:=[]) os k g c (λb z=>ff z (-_)),t,I.acv d o r,I.acv d n p,q
theorem ZL{X:Cx}{a:List (am×Obj)}{d:St}{H:Hp}{s:aw}{R:List am}{h':Heap}(I:Inv X a d H s)(c:X.ex=[])(e:∀b∈R,Rec X a H b)(t:Nc (frs X.stack) R s.heap h'):Un X.fs [] X.H₀ H X.s₀.heap h':=by have:=(I.trn (t':=s.toks) e t).base;rw[c] at this;exact this
section
variable{P:ci}{w:World}{K:ai}{mg:Str->Option ar}{base:Heap}{N:List Str}{qual:Str}{scope:Scope}{f:am}{cd:ar}{A:cm}{outer:List Env}{s0:aw}{H0:Hp}{E:XK}
theorem aja{a:List (am×Obj)}{n:St}{e:ar}{s:aw}(h:XP (qk (Gx P w) P w K mg base N qual scope f cd A outer s0 H0 E) a n E e s):(qk (Gx P w) P w K mg base N qual scope f cd A outer s0 H0 E).xe e s:=by obtain⟨d,T,i,k,rfl,I,x,g,t,q⟩:=h;show cf _ _ (leaving _ (.ref d)) _ _ s;unfold leaving;refine ax (Xq (base:=base) I.ok.frames I.stack rfl x λy u r=>?_);refine HY u λp o v B=>?_;have j:=I.QZ rfl;have l:∀b∈[d,T,s.heap.objs.size],Rec (qk (Gx P w) P w K mg base N qual scope f cd A outer s0 H0 E) a k b:=(by intro b m;simp only[bR,yY,or_false] at m;rcases m with z|z|z;rw[z];exact g;rw[z];exact t;rw[z];exact j);have c:Nc (frs (qk (Gx P w) P w K mg base N qual scope f cd A outer s0 H0 E).stack) [d,T,s.heap.objs.size] s.heap p:=(r.mono (-_)).trans ((v _).mono (-_));have J:=I.trn (t':=s.toks) l c;exists d,_,i,k,2,I.os,I.bare,ZL I rfl l c,J.hok,o,g.2.2.2.1,j.2.2.2.1,g.1,j.1,q
theorem VI:uu (Gx P w) (qk (Gx P w) P w K mg base N qual scope f cd A outer s0 H0 E) E:=λa b H s e c I h=>aja (ai9 I rfl h)
theorem Tt.okX{x qual:Str}{st:Stmt}{f:am}{e:FuncData}{N ps:List Str}{k:Nat}{sp:Sp}(F:Tt K x qual st f e)(S:aM N ps (aE st))(d:∀vs H Q E,sp vs H Q E->wL vs=ps.length)(b:∀(a:ar)(A:cm)(outer:List Env)(s:aw)(H:Hp)(vs:List V)(Q:VK)(E:XK),kW k (A.deeper (envOfC qual (aE st) s.heap.objs.size f a))->sp vs H Q E ->∃t,iE (qk (Gx P w) P w K mg base N qual (aE st) f a A outer s H E) (gR st) t/\t {nx:=λ_ i=>Q .gk i,rt:=Q} (start N vs) H):cH P w K mg base (Gx P w) (k+1) f e ps sp:=by obtain⟨n,o,kV,h,q,m,a,p,g,rfl,lk,c⟩:=F.ex;exact Zq lk c S d λA outer s H vs Q E l j=>b a A outer s H vs Q E l j
end
theorem Ng{P:ci}{w:World}{X:Cx}:uu (Gx P w) X E0:=λ_ _ _ _ _ _ _ h=>by
 obtain⟨_,_,_,_,_,_,_,_,_,_,_,_,_,_,q⟩:=h;exact q.elim
abbrev ajc:List ar:=[.type "ValueError",.type "Exception",.type "BaseException",.type "object"]
structure ZM(K:ai)(C:am):Prop where
 ex:PySem.W.excIn K C ajc "ValueError.__new__" = ag
 ga:aN K (.ref C) "__getattribute__" = ac (ac (.builtin "BaseException.__getattribute__"))
 gb:aN K (.ref C) "__getattr__" = ac ae
 hd:wI K C=ag
 ca:aN K (.ref C) "__class__" = ac (ac (.builtin "object.__class__"))
 cg:PySem.W.specialIn K (.builtin "object.__class__") "__get__" = ac (ac (.builtin "getset_descriptor.__get__"))
 ct:PySem.W.takesIn K (.builtin "object.__class__")=ac ag
 mo:PySem.W.mroIn K C (.type "object")=ac ag
 mb:PySem.W.mroIn K C (.type "BaseException")=ac ag
theorem acw{K:ai}{h:Heap}{C:am}{a:List ar}{g:String}(X:K.In h)(q:PySem.W.excIn K C a g=ag) :∃bm N nm b bs d sn c ab col dd k0 k1 k2 k3 k5 l,h.get? C=ac (excClassObj nm b C N bs bm d sn c ab col dd k0 k1 k2 k3 k5 g)/\h.Ns N l/\l "__init__" = ae/\OwnTail h a bm/\bm.contains (.type "BaseException")=a.contains (.type "BaseException"):=by unfold PySem.W.excIn at q;split at q;rename_i dd t i v;obtain⟨nm,bs,s,j,b,d,sn,c,ab,col,w⟩:=t;obtain⟨i⟩:=i;split at q;rename_i D bm k0 k1 k2 k3 n k5 f o;simp only[dg,beq_iff_eq,Bool.not_eq_true'] at q;obtain⟨⟨⟨⟨⟨u,r⟩,m⟩,p⟩,e⟩,k⟩:=q;dsimp only at f o m e k;subst u r f o m;have T:=PySem.W.tail_of_in X p;exists bm,j,nm,b,bs,d,sn,c,ab,col,dd,k0,k1,k2,k3,k5,h.nsMap j,X _ _ v,.of_isNs (PySem.W.isNs_of_in X e),PySem.W.nsMap_none_of_in X e k,T,T.hasType rfl;cases q;cases q
section
variable{P:ci}{w:World}{K:ai}{mg:Str->Option ar}{base:Heap}{N:List Str}{qual:Str}{scope:Scope}{f:am}{cd:ar}{A:cm}{outer:List Env}{s0:aw}{H0:Hp}{E:XK}
theorem raised{a:List (am×Obj)}{j:St}{H:Hp}{s:aw}{h':Heap}{e C:am}{vs:List ar}(I:Inv (qk (Gx P w) P w K mg base N qual scope f cd A outer s0 H0 E) a j H s)(hm:Heap.MadeExcOf s.heap h' e (.ref C) vs)(q:E (.ref C) ae H):(qk (Gx P w) P w K mg base N qual scope f cd A outer s0 H0 E).xe (.ref e) {s with heap:=h'}:=by have h:H e=ae:=(by cases z:H e with|none=>rfl|some o=>obtain⟨y,k⟩:=(I.hok e o z).there;rw[hm.new] at k;cases k);have g:=I.acv rfl h hm.new;have d:Inv (qk (Gx P w) P w K mg base N qual scope f cd A outer s0 H0 E) a j H {s with heap:=h'}:=I.kept (t':=s.toks) hm.keeps;obtain⟨t,n,_,_⟩:=hm.there;show cf _ _ (leaving _ (.ref e)) _ _ _;unfold leaving;refine ax (Ue (base:=base) d.ok.frames d.stack rfl n rfl rfl rfl λB v u=>?_);refine HY v λr p x D=>?_;have i:=d.QZ rfl;have l:∀b∈[e,h'.objs.size],Rec (qk (Gx P w) P w K mg base N qual scope f cd A outer s0 H0 E) a H b:=(by intro b m;simp only[bR,yY,or_false] at m;rcases m with z|z;rw[z];exact g;rw[z];exact i);have c:Nc (frs (qk (Gx P w) P w K mg base N qual scope f cd A outer s0 H0 E).stack) [e,h'.objs.size] h' r:=(u.mono (-_)).trans ((x _).mono (-_));have J:=d.trn (t':=s.toks) l c;exists e,_,.ref C,H,2,I.os,I.bare,ZL d rfl l c,J.hok,p,g.2.2.2.1,i.2.2.2.1,g.1,i.1,q
theorem Fe{x:Str}{C:am}{a:Expr}{Q b l:Pos}{n:TE}(R:Gl (qk (Gx P w) P w K mg base N qual scope f cd A outer s0 H0 E) x)(p:mg x=ac (.ref C))(J:ZM K C)(t:A.handled=ae)(u:PE (qk (Gx P w) P w K mg base N qual scope f cd A outer s0 H0 E) a n)(k:(x==("__debug__" : Str))=al:=by decide)(o:backTo b (bn [a] (qk (Gx P w) P w K mg base N qual scope f cd A outer s0 H0 E).env)=[(al,eval a (qk (Gx P w) P w K mg base N qual scope f cd A outer s0 H0 E).env)]:=by rfl) :PS (qk (Gx P w) P w K mg base N qual scope f cd A outer s0 H0 E) (.Raise (ac (.Call (.Name x Q) [a] [] b)) ae l) (λ_ g H=>n g H λ_ m=>E (.ref C) ae m):=by intro c s g H D I h;obtain⟨bm,O,nm,r,bs,L,sn,B,ab,col,dd,k0,k1,k2,k3,k5,V,hC,z,i,T,G⟩:=acw I.ok.mod.kin J.ex;refine wpAny_Raise_call_subT (C:=C) (nm:=nm) (q:=r) (N:=O) (bs:=bs) (bm:=bm) (hdct:=L) (sn:=sn) (sub:=B) (ab:=ab) (col:=col) (dd:=dd) (k0:=k0) (k1:=k1) (k2:=k2) (k3:=k3) (k5:=k5) PySem.F.excBase_ValueError (by rw[G];decide) t (by rw[o];rfl) i (EZ I R p ⟨24⟩ k);rw[o];refine Calls.evalArgs_plain (Calls.spliced_cons (ir (u c s g H _ I h) λv U ⟨y,m,d,S,M⟩=>Calls.spliced_nil ?_));exists 2,by show 1<=bc;decide,d.bk _ _ hC,z.keeps d.bk,T.keeps d.bk,λW e j=>raised d j M
end
end L2
namespace RM
structure Row where
 hd:Int
 co:Int
 ho:Int
 by_:Int
deriving DecidableEq
theorem Row.ext'{r s:Row}(d:r.hd=s.hd)(b:r.co=s.co)(c:r.ho=s.ho)(a:r.by_=s.by_):r=s:=by cases r;cases s;simp_all
def lt(r s:Row):Prop:=r.hd<s.hd∨(r.hd=s.hd/\(r.co<s.co∨(r.co=s.co/\(r.ho<s.ho∨(r.ho=s.ho/\r.by_<s.by_)))))
instance (r s:Row):Decidable (lt r s):=by unfold lt;infer_instance
def le(r s:Row):Prop:=¬lt s r
instance (r s:Row):Decidable (le r s):=by unfold le;infer_instance
theorem le_refl(r:Row):le r r:=by unfold le lt;lia
theorem aga{a b c:Int}{g d i:Prop}(h:¬g->¬d->¬i)(k:¬(b<a∨(b=a/\g)))(f:¬(c<b∨(c=b/\d))):¬(c<a∨(c=a/\i)):=by have j:a<=b:=Int.not_lt.mp λy=>k (.inl y);have l:b<=c:=Int.not_lt.mp λy=>f (.inl y);intro z;rcases z with z|⟨z,n⟩;exact Int.not_lt.mpr (Int.le_trans j l) z;subst z;have e:=Int.le_antisymm j l;subst e;exact h (λy=>k (.inr ⟨2,y⟩)) (λy=>f (.inr ⟨2,y⟩)) n
theorem le_trans{r s t:Row}(d:le r s)(c:le s t):le r t :=aga (aga (aga λa b=>Int.not_lt.mpr (Int.le_trans (Int.not_lt.mp a) (Int.not_lt.mp b)))) d c
theorem aeB{r s:Row}(h:lt r s):le r s:=by unfold le lt at *;lia
structure Net where
 n:Nat
 nm:Nat->Int
 a:Nat->Nat
 b:Nat->Nat
 c:Nat->Int
 live:List Nat
 inj:∀i j,i<n->j<n->nm i=nm j->i=j
 ab:∀k∈live,a k<n/\b k<n/\a k≠b k
 c1:∀k∈live,1<=c k
section
variable(N:Net)
def Js(k h g:Nat):Prop:=k∈N.live/\((N.a k=h/\N.b k=g)∨(N.b k=h/\N.a k=g))
noncomputable def own(h:Nat):Row:=⟨N.nm h,(0),(0),-1⟩
noncomputable def over(k:Nat)(r:Row):Row:=⟨r.hd,r.co+N.c k,r.ho+1,k⟩
end
variable{N:Net}
theorem Js.symm{k h g:Nat}(e:Js N k h g):Js N k g h:=⟨e.1,e.2.elim (λz=>.inr ⟨z.2,z.1⟩) λz=>.inl ⟨z.2,z.1⟩⟩
theorem Js.lt{k h g:Nat}(e:Js N k h g):h<N.n/\g<N.n/\h≠g:=by obtain⟨d,e⟩:=e;obtain⟨c,a,b⟩:=N.ab k d;rcases e with ⟨rfl,rfl⟩|⟨rfl,rfl⟩;exists c,a,b;exists a,c,bT b
theorem Js.cost{k h g:Nat}(e:Js N k h g):1<=N.c k:=N.c1 k e.1
structure ZN(cut:Int)(R:Nat->Row)(h:Nat)(d:Row):Prop where
 one:d=own N h∨∃k g,Js N k h g/\(R g).ho+1<cut/\d=over N k (R g)
 own:le d (RM.own N h)
 all:∀k g,Js N k h g->(R g).ho+1<cut->le d (over N k (R g))
def Sane(N:Net)(R:Nat->Row):Prop:=∀h,h<N.n->0<=(R h).ho/\(R h).ho<N.n
noncomputable def upd(R:Nat->Row)(h:Nat)(d:Row):Nat->Row:=λx=>if x=h then d else R x
structure qo(N:Net)(R:Nat->Row)(k h g:Nat):Prop where
 CI:Js N k h g
 cut:(R g).ho+1<N.n
 eq:R h=over N k (R g)
theorem Js.far{k h g g':Nat}(a:Js N k h g)(b:Js N k h g'):g=g':=by obtain⟨c,e⟩:=a;obtain⟨_,d⟩:=b;have:=(N.ab k c).2.2;lia
section
variable{R:Nat->Row}{k h g:Nat}
theorem qo.ho(t:qo N R k h g):(R h).ho=(R g).ho+1:=by rw[t.eq];rfl
theorem qo.by(t:qo N R k h g):(R h).by_=k:=by rw[t.eq];rfl
theorem qo.uniq{a g':Nat}(t:qo N R k h g)(u:qo N R a h g'):k=a/\g=g':=by have c:=t.by;have b:=u.by;have e:k=a:=∅;subst e;exists 2,t.CI.far u.CI
theorem qo.one{h' g':Nat}(t:qo N R k h g)(u:qo N R k h' g'):h=h'/\g=g':=by obtain⟨i,e⟩:=t.CI;obtain⟨_,b⟩:=u.CI;have f:=t.ho;have d:=u.ho;have a:h=h'∨(h=g'/\g=h'):=(by rcases e with ⟨rfl,rfl⟩|⟨rfl,rfl⟩ <;> rcases b with ⟨rfl,rfl⟩|⟨rfl,rfl⟩ <;> simp);rcases a with a|⟨a,c⟩;subst a;exists 2,t.CI.far u.CI;subst a c;lia
end
end RM
namespace RM
variable{N:Net}
end RM
namespace L2
open PySem PySem.Spec PyProof.Rows
inductive Q0:List ar->List ar->Bool->Prop
 |nil:Q0 [] [] al
 |ne {a c:Int} {t u:Tok} {vs ws:List ar} (h:a≠c):Q0 (.int a t::vs) (.int c u::ws) (decide (a<c))
 |eq {a:Int} {t u:Tok} {vs ws:List ar} {r:Bool} (h:Q0 vs ws r):Q0 (.int a t::vs) (.int a u::ws) r
section
open PySem.SeqAt
open PySem.AutoSeq1 (wpAny_loadPart')
open PySem.MeetsSeq PySem.MeetsSeq2 PySem.MeetsSeq3
theorem Ug(l b:am)(items f:Array ar)(n N:Nat)(dd G:Option am)(J C:Array (Option ar))(r:Bool)(K:Q0 items.toList f.toList r)(hsz:items.size=f.size):
 Meets (Builtin.«tuple.__lt__» ⟨[.ref l,.ref b],[]⟩)
  (λ_ R s=>s.heap.get? l=ac {cls:=.type "tuple",dict:=dd,data:=.seq items n,slots:=J}/\s.heap.get? b=ac {cls:=.type "tuple",dict:=G,data:=.seq f N,slots:=C} /\
   R (.ok (.ret (.bool r))) s):=
 .of_wp λi w A R s h=>by
  obtain⟨z,g,d,v,os⟩:=s;obtain⟨M,L,h⟩:=h;have O:=AutoSeq1.sub_tuple_tuple
  wp_walk using wpAny_loadPart' M,wpAny_loadPart' L,wpAny_forIn_list _ (λrest b D=>b.1=ae/\D=⟨z,g,d,v,os⟩/\∃(p q:List ar),rest=p.zip q/\Q0 p q r) _
  case turn=>
   rintro⟨y,x⟩ rest b D ⟨m,rfl,p,q,k,o⟩;cases o with
   |nil=>rw[List.zip_nil_left] at k;cases k
   |@ne a c t u p q F=>
    rw[List.zip_cons_cons] at k;injection k with hyx hrest
    injection hyx with hy o
    subst hy o;obtain⟨e,B,j⟩:=HT.QO A.in1 ⟨z,g,d,v,os⟩ a t c u;refine ax (B i w _ _ ?_);cases e with
    |true=>exact ff (j.mp rfl) F
    |false=>
     have I:=HT.Zr A.in1 ⟨z,g,d,v,os⟩ a t c u i w
     wp_walk using I
     exists 1,by simpa using h
   |@eq a t u p q Q E=>
    rw[List.zip_cons_cons] at k;injection k with hyx hrest
    injection hyx with hy o
    subst hy o;obtain⟨e,B,j⟩:=HT.QO A.in1 ⟨z,g,d,v,os⟩ a t a u;refine ax (B i w _ _ ?_);cases e with
    |true=>
     wp_walk
     exists 2233,hrest,E
    |false=>exact ff (j.mpr rfl) aH
  case fin=>
   rintro⟨S,P⟩ D ⟨m,rfl,p,q,k,o⟩;simp only at m;subst m;cases o with
   |nil=>
    have H:decide (items.size<f.size)=al:=gn ∅;rw[<- H] at h
    wp_walk
    exists 1,by simpa [Builtin.Tuple.tupleCompareSizes] using h
   |ne=>rw[List.zip_cons_cons] at k;cases k
   |eq=>rw[List.zip_cons_cons] at k;cases k
  case h=>
   exists 22,items.toList,f.toList,2,K
end
theorem acy{prog:ci}{w:World}{A:cm}{E:ar->aw->Prop}{s:aw}{l b:am}{items a:Array ar}{r:Bool}{Q:ar->aw->Prop}(hl:IsTup s.heap l items)(v:IsTup s.heap b a)(u:Q0 items.toList a.toList r)(hsz:items.size=a.size)(q:A.units<cLine)(h:Q (.bool r) s):cf (model prog w) A (bv .Lt (.ref l) (.ref b)) Q E s:=by obtain⟨⟨t,p,i,o⟩,k,m,n,j⟩:=id hl;obtain⟨⟨y,g,data2,f⟩,e,d,z,c⟩:=id v;simp only at m j d c;subst m j d c;exact richCompare_meets_room (op:=.Lt) ⟨_,k,2⟩ ⟨_,e,2⟩ PySem.F.slot_tuple_lt PySem.F.entry_tuple_lt (PySem.F.args_tuple_lt_2 _ _) (Ug l b items a n z p g o f r u hsz) ⟨k,e,show Value.bool r≠Value.notImplemented/\Q (.bool r) s from ⟨(λx=>nomatch x),h⟩⟩ q
inductive JR:List V->List V->Bool->Prop
 |nil:JR [] [] al
 |ne {a c:Int} {vs ws:List V} (h:a≠c):JR (.int a::vs) (.int c::ws) (decide (a<c))
 |eq {a:Int} {vs ws:List V} {r:Bool} (h:JR vs ws r):JR (.int a::vs) (.int a::ws) r
theorem JR.vals{vs ws:List V}{r:Bool}(h:JR vs ws r):∀{us a:List ar},cO vs us->cO ws a->Q0 us a r:=by induction h with|nil=>intro us a b c;cases b;cases c;exact .nil|ne h=>(intro us a b c;cases b with|cons d _=>(cases c with|cons e _=>obtain⟨t,rfl⟩:=d;obtain⟨u,rfl⟩:=e;exact .ne h))|eq _ g=>(intro us a b c;cases b with|cons d f=>(cases c with|cons e i=>obtain⟨t,rfl⟩:=d;obtain⟨u,rfl⟩:=e;exact .eq (g f i)))
section
variable{X:Cx}
def anf(K:ai):R2:=λx y H Q=>∃a b xs ys r,x=.ref a/\y=.ref b/\cD K H a xs/\cD K H b ys/\wL xs=ys.length/\JR xs ys r/\Q (.bl r) H
theorem agb(j:X.A.units<cLine):ya X (bv .Lt) (anf X.K):=by intro f s w H x y v u Q I o i h;obtain⟨a,b,z,B,r,rfl,rfl,g,l,n,m,q⟩:=h;cases o;cases i;obtain⟨t,c,k,_⟩:=I.tuple g;obtain⟨d,e,p,_⟩:=I.tuple l;exact acy k p (m.vals c e) (by rw[aU,aU,<- c.length,<- e.length];exact n) j ⟨.bl r,H,I,2,q⟩
end
end L2
namespace RM
open PySem L2
noncomputable def jr(b:Int):V:=if b<0 then .gk else .int b
noncomputable abbrev cW(r:Row):List V:=[.int r.hd,.int r.co,.int r.ho,jr r.by_]
theorem aZ{b:Int}(h:b<0):jr b=.gk:=eL h
theorem aX{b:Int}(h:0<=b):jr b=.int b:=e8 ∅
end RM
namespace L2
open PySem PySem.Spec PyProof.Rows
end L2
namespace L2
open PySem PySem.Spec PyProof.Rows RM
end L2
namespace L2
open PySem PySem.Spec PyProof.Rows
section
variable{X:Cx}
def ang(K:ai):R2:=λx y H Q=>∃da db,Rep K H da x/\Rep K H db y/\da.canLay0=ag/\db.canLay0=ag/\da.depth<=64/\Q (.bl (PyData.eqv da db)) H
theorem VJ(K:ai)(e:X.K=K)(h:X.A.units+64<cLine):ya X (bv .Eq) (ang K):=by subst e;intro a s c H x y v u Q I k f ⟨b,l,d,i,m,j,g,q⟩;exact zd a s c H x y v u Q I k f ⟨b,l,d,i,m,j,dh (fm (aJ (oH _ _) g) _) h,q⟩
end
end L2
namespace RM
open PySem L2
noncomputable def YC(b:Int):PyData:=if b<0 then .none else .int b
noncomputable def GJ(r:Row):PyData:=.tuple [.int r.hd,.int r.co,.int r.ho,YC r.by_]
theorem acz{K:ai}{H:Hp}(b:Int):Rep K H (YC b) (jr b):=by unfold YC jr;by_cases h:b<0;rw[eL h,eL h];rfl;rw[e8 h,e8 h];rfl
theorem A4{K:ai}{H:Hp}{p:am}{r:Row}(h:cD K H p (cW r)):Rep K H (GJ r) (.ref p) :=⟨p,1,h,99931,acz _,2⟩
theorem A5(r:Row):(GJ r).canLay0=ag:=by show (ag&&(ag&&(ag&&((YC r.by_).canLay0&&ag))))=ag;unfold YC;split <;> rfl
theorem Nh(r:Row):(GJ r).depth=1:=by show max 0 (max 0 (max 0 (max (YC r.by_).depth 0)))+1=1;unfold YC;split <;> rfl
theorem Q3{r s:Row}(i:-1<=r.by_)(g:-1<=s.by_):PyData.eqv (GJ r) (GJ s)=decide (r=s):=by have e:PyData.eqv (GJ r) (GJ s)=((r.hd==s.hd)&&((r.co==s.co)&&((r.ho==s.ho)&&(PyData.eqv (YC r.by_) (YC s.by_)&&ag)))):=rfl;rw[e];have f:PyData.eqv (YC r.by_) (YC s.by_)=decide (r.by_=s.by_):=(by unfold YC;by_cases c:r.by_<0 <;> by_cases a:s.by_<0;rw[eL c,eL a];exact (fy ∅).symm;rw[eL c,e8 a];exact (gn ∅).symm;rw[e8 c,eL a];exact (gn ∅).symm;rw[e8 c,e8 a];show (r.by_==s.by_)=_;by_cases b:r.by_=s.by_;rw[fy b,b];exact beq_self_eq_true _;rw[gn b];exact beq_eq_false_iff_ne.mpr b);rw[f];by_cases h:r=s;subst h;simp;rw[gn h];have:¬(r.hd=s.hd/\r.co=s.co/\r.ho=s.ho/\r.by_=s.by_):=λz=>h (Row.ext' z.1 z.2.1 z.2.2.1 z.2.2.2);simp only[Bool.and_true];by_cases c:r.hd=s.hd;by_cases a:r.co=s.co;by_cases b:r.ho=s.ho;have d:¬r.by_=s.by_:=λz=>this ⟨c,a,b,z⟩;simp[d];simp[b];simp[a];simp[c]
end RM
namespace L2
open PySem PySem.Spec PyProof.Rows
end L2
namespace RM
open PySem L2
theorem acA{r s:Row}(h:r.hd=s.hd->r.co=s.co->r.ho=s.ho->¬lt r s):JR [.int r.hd,.int r.co,.int r.ho] [.int s.hd,.int s.co,.int s.ho] (decide (lt r s)):=by obtain⟨k,i,n,o⟩:=r;obtain⟨j,m,l,p⟩:=s;dsimp only at h;have a:∀{b g:Bool}{vs ws},JR vs ws b->b=g->JR vs ws g:=λh e=>e▸h;by_cases f:k=j;subst f;by_cases c:i=m;subst c;by_cases d:n=l;subst d;exact a (.eq (.eq (.eq .nil))) (gn (h rfl rfl rfl)).symm;exact a (.eq (.eq (.ne d))) (by unfold lt;simp[d]);exact a (.eq (.ne c)) (by unfold lt;simp[c]);exact a (.ne f) (by unfold lt;simp[f])
end RM
namespace L2
open PySem PySem.Spec PyProof.Rows
end L2
set_option maxHeartbeats 4000000
namespace TW
open PySem L2 PyProof.Rows
open RM (cW jr aZ aX)
seal L2.PE L2.PA L2.PT L2.PW L2.PS L2.iE L2.PG L2.jW L2.PI L2.jX
structure ZO(n:Int)(a b c d e:Int):Prop where
 a0:0<=a
 a1:a<n
 b0:0<=b
 b1:b<n
 ab:a≠b
 c1:1<=c
 d1:1<=d
 d4:d<=4
 e1:1<=e
 e7:e<=7
noncomputable abbrev Xs(a b c d e:Int):List V:=[.int a,.int b,.int c,.int d,.int e]
structure R5 where
 a:Int
 b:Int
 c:Int
 d:Int
 e:Int
noncomputable abbrev R5.vs(r:R5):List V:=Xs r.a r.b r.c r.d r.e
noncomputable abbrev R5.ns(r:R5):List Int:=[r.a,r.b,r.c,r.d,r.e]
noncomputable def R5.D(r:R5):PyData:=.tuple (r.ns.map .int)
abbrev R5.Ok(n:Int)(r:R5):Prop:=ZO n r.a r.b r.c r.d r.e
def JS(K:ai)(H:Hp)(l:am)(rs:List R5):Prop:=Rep K H (.list (rs.map R5.D)) (.ref l)
section
variable{K:ai}{H H':Hp}{l:am}{rs:List R5}
theorem JS.mono(s:aG H H')(h:JS K H l rs):JS K H' l rs:=Rep.mono s h
theorem JS.at(h:JS K H l rs):∃vs,bI K H l vs/\wL vs=rs.length/\∀(i:Nat)r,rs[i]?=ac r->∃p,vs[i]?=ac (.ref p)/\cD K H p r.vs:=by obtain⟨a,vs,e,q,r⟩:=h;cases e;exists vs,q,by rw[r.length,af],λi x g=>?_;obtain⟨v,f,b⟩:=r.get (i:=i) (d:=x.D) (by rw[ak,g];rfl);obtain⟨p,e,c⟩:=Rep.A3 (ns:=x.ns) b;subst e;exists p,f,c
end
theorem JT:∀(ns:List Int),ns.Nodup->(firstMet (λi=>ns.getD i 0) (wL ns)).length=ns.length:=by intro ns g;have e:(aB (wL ns)).map (λi=>ns.getD i 0)=ns:=(by apply yZ;simp;intro i d m;simp at d;simp[ao,d]);have c:∀(b a:List Int),(a++b).Nodup->b.foldl step_dedup a=a++b:=(by intro b;induction b with|nil=>intro a _;simp|cons x b l=>intro a h;have k:x∉a:=λf=>(by rw[wK] at h;exact h.2.2 x f x (-_) rfl);have j:step_dedup a x=a++[x]:=(by unfold step_dedup;simp[k]);rw[gH,j,l _ (by simpa using h)];simp);unfold firstMet;rw[e,c ns [] (by simpa using g)];simp
theorem eS{f:Str}{v:V}:∀{a:List (Str×V)}{names:List Str},a.map (·.1)=names->names.contains f=al->AO f v a=a++[(f,v)]
 |[],_,_,_=>rfl
 | (g,u)::r,_,e,h=>by
  subst e;rw[bK,List.contains_cons,Bool.or_eq_false_iff] at h;have b:¬g=f:=λz=>by
   have:=h.1
   rw[z] at this;simp at this
  show (if g=f then (g,v)::r else (g,u)::AO f v r)=_;rw[e8 b,eS rfl h.2];rfl
theorem CJ{K:ai}{H c:Hp}{p C f:am}{e:List (Str×V)}{a:am}{xs:List V}(k:∀b o,H b=ac o->b≠p->c b=ac o)(d:H p=ac (.ins C f e))(h:bI K H a xs):bI K c a xs:=by rcases h with (h|⟨o,h⟩)|h;exact .inl (.inl (k _ _ h (oN h d (by intro z;cases z))));exact .inl (.inr ⟨o,k _ _ h (oN h d (by intro z;cases z))⟩);exact .inr h
theorem acB{K:ai}{H c:Hp}{p C f:am}{e:List (Str×V)}{a:am}{xs:List V}(k:∀b o,H b=ac o->b≠p->c b=ac o)(d:H p=ac (.ins C f e))(h:cD K H a xs):cD K c a xs:=by rcases h with (h|⟨o,h⟩)|h;exact .inl (.inl (k _ _ h (oN h d (by intro z;cases z))));exact .inl (.inr ⟨o,k _ _ h (oN h d (by intro z;cases z))⟩);exact .inr h
mutual
theorem acC{K:ai}{H f:Hp}{p C i:am}{g:List (Str×V)}(k:∀b o,H b=ac o->b≠p->f b=ac o)(c:H p=ac (.ins C i g)):∀{d:PyData}{v:V},Rep K H d v->Rep K f d v
 |.none,_,h=>h
 |.bool _,_,h=>h
 |.int _,_,h=>h
 |.str _,_,h=>h
 |.list ds,_,⟨a,vs,e,q,r⟩=>⟨a,vs,e,CJ k c q,k8 k c r⟩
 |.tuple ds,_,⟨a,vs,e,q,r⟩=>⟨a,vs,e,acB k c q,k8 k c r⟩
 |.dict _,_,h=>h
theorem k8{K:ai}{H a:Hp}{p C f:am}{d:List (Str×V)}(k:∀b o,H b=ac o->b≠p->a b=ac o)(c:H p=ac (.ins C f d)):∀{ds:List PyData}{vs:List V},dw K H ds vs->dw K a ds vs
 |[],_,h=>h
 |_::_,_,⟨v,r,e,q,t⟩=>⟨v,r,e,acC k c q,k8 k c t⟩
end
noncomputable abbrev anh(ln lr:am)(n m:Nat):List (Str×V):=[("house_names",.ref ln),("rope_tuples",.ref lr),("size",.int n),("many",.int m)]
structure dN(K:ai)(C:am)(H:Hp)(p ln lr:am)(ns:List Int)(rs:List R5):Prop where
 ob:∃dx,H p=ac (.ins C dx (anh ln lr (wL ns) (wL rs)))
 nl:H ln=ac (.lst (ns.map cn))
 rl:∃vs,H lr=ac (.lst vs)/\dw K H (rs.map R5.D) vs
section
variable{K:ai}{C:am}{H H':Hp}{p ln lr:am}{ns:List Int}{rs:List R5}
theorem dN.mono(s:aG H H')(h:dN K C H p ln lr ns rs):dN K C H' p ln lr ns rs:=by obtain⟨⟨f,e⟩,b,c,d,a⟩:=h;exists ⟨f,s _ _ e⟩,s _ _ b,c,s _ _ d,a.mono s
end
theorem O0(a x:Int):W8 (.int a) (.int x)=decide (x=a):=by show (a==x)=decide (x=a);by_cases e:x=a;rw[fy e,e];exact beq_self_eq_true a;rw[gn e];exact beq_eq_false_iff_ne.mpr (bT e)
theorem ly(x:Int)(xs:List Int):Av (.int x) (xs.map cn)=decide (x∈xs):=by unfold Av;induction xs with|nil=>simp|cons y c d=>rw[bK,List.any_cons,d,O0];by_cases a:x=y;subst a;simp;by_cases b:x∈c;simp[a,b];simp[a,b]
theorem qq(xs:List Int):(xs.map cn).all AW=ag:=by rw[List.all_eq_true];intro v a;obtain⟨x,_,rfl⟩:=bH.mp a;rfl
noncomputable def above(xs:List Int)(x:Int):Nat:=(xs.filter λy=>decide (x<=y)).length
theorem ZP{xs:List Int}{x:Int}(h:x∈xs):above xs (x+1)<above xs x:=by unfold above;induction xs with|nil=>cases h|cons y c d=>have f:(c.filter λy=>decide (x+1<=y)).length<=(c.filter λy=>decide (x<=y)).length:=(by clear d h;induction c with|nil=>simp|cons z j b=>simp only[dM];by_cases a:x+1<=z;rw[eL (by simpa using a),eL (by simp;lia)];simp;exact b;rw[e8 (by simpa using a)];split;simp;lia;exact b);simp only[dM];by_cases g:x=y;subst g;rw[e8 (by simp;lia),eL (-_)];simp;lia;have i:x∈c:=(by rcases bR.mp h with e|e;exact ff e g;exact e);have:=d i;by_cases a:x+1<=y;rw[eL (by simpa using a),eL (by simp;lia)];simp;exact this;rw[e8 (by simpa using a),e8 (by simp;lia)];exact this
theorem acD{n x y:Int}(i:2<=n):0<=x%n/\x%n<n/\0<=(x%n+1+y%(n-1))%n/\(x%n+1+y%(n-1))%n<n/\x%n≠(x%n+1+y%(n-1))%n:=by have f:=cu x (show n≠0 by lia);have d:=cz x (show 0<n by lia);have j:=cu y (show n-1≠0 by lia);have h:=cz y (show 0<n-1 by lia);have e:=cu (x%n+1+y%(n-1)) (show n≠0 by lia);have g:=cz (x%n+1+y%(n-1)) (show 0<n by lia);exists f,d,e,g,4;generalize x%n=a at *;generalize y%(n-1)=b at *;by_cases c:a+1+b<n;rw[Int.emod_eq_of_lt ∅ c];lia;rw[<- Int.sub_emod_right,Int.emod_eq_of_lt ∅ ∅];lia
theorem agc{c:TT}{t u r:TS}{D:Ends}{a:L2.St}{H:Hp}(J:L2.St->Hp->Prop)(b:∀a H,J a H->r D a H)(h:(∀a H,J a H->r D a H)->OL c t u {D with nx:=r D} a H):Y0 (OL c t u) r D a H:=h b
theorem Uh{K:ai}{a:am}{xs:List V}{b:Hp}(h:cD K b a xs):∀i H,i<wL xs->aG b H->(Itt K a).go i H:=λi H c s=>⟨xs,xs[i],s.bP h,by simp[c]⟩
theorem JU{K:ai}{a:am}{xs:List V}{b:Hp}(h:cD K b a xs):∀H,aG b H->(Itt K a).stop (wL xs) H:=λH s=>⟨xs,s.bP h,az _⟩
structure DZ(n m:Nat)(r:RM.Row):Prop where
 hd:0<=r.hd
 co:0<=r.co
 ho:0<=r.ho/\r.ho<n
 by_:r.by_=-1∨(0<=r.by_/\r.by_<m)
noncomputable abbrev aT(ks:List Nat):List V:=ks.map λk=>cn (k:Nat)
theorem gy(a:List Nat)(k:Nat):aT (a++[k])=aT a++[cn (k:Nat)]:=by unfold aT;rw[aK];rfl
theorem acE{K:ai}{H:Hp}{q a:am}{xs b:List V}{o:HO}(c:H q=ac (.lst xs))(h:cD K H a b):cD K (upd H q o) a b:=by rcases h with (h|⟨d,h⟩)|h;exact .inl (.inl (by rw[aI (oN h c (by intro z;cases z))];exact h));exact .inl (.inr ⟨d,by rw[aI (oN h c (by intro z;cases z))];exact h⟩);exact .inr h
noncomputable def bA(ns:List Int)(rs:List R5)(live:List Nat)(nd:ns.Nodup)(ok:∀r∈rs,r.Ok (wL ns))(hl:∀k∈live,k<wL rs):RM.Net where
 n:=ns.length
 nm i:=ns.getD i 0
 a k:=((rs[k]?).map λr=>r.a.toNat).getD 0
 b k:=((rs[k]?).map λr=>r.b.toNat).getD 0
 c k:=((rs[k]?).map λr=>r.c).getD 0
 live:=live
 inj i j hi hj e:=by
  have e1:ns.getD i 0=ns[i]:=by simp[ao,hi]
  have e2:ns.getD j 0=ns[j]:=by simp[ao,hj]
  have e:ns[i]=ns[j]:=by rw[<- e1,<- e2];exact e
  exact (p8 hi nd).mp (by rw[aa hi,aa hj,e])
 ab k hk:=by
  have h:=hl k hk;have o:=ok _ (aP h);simp only[aa h,Option.map_some,Option.getD_some];have h1:=o.a0;have h2:=o.a1;have h3:=o.b0;have h4:=o.b1;have h5:=o.ab;exists 666
 c1 k hk:=by
  have h:=hl k hk;have o:=ok _ (aP h);simp only[aa h,Option.map_some,Option.getD_some];exact o.c1
def zf(K:ai)(H:Hp)(l:am)(n:Nat)(R:Nat->RM.Row):Prop:=∃ps:List am,bI K H l (ps.map cr)/\wL ps=n/\∀(i:Nat)p,ps[i]?=ac p->cD K H p (cW (R i))
theorem zf.mono{K:ai}{H a:Hp}{l:am}{n:Nat}{R:Nat->RM.Row}(s:aG H a)(h:zf K H l n R):zf K a l n R:=by obtain⟨f,d,b,c⟩:=h;exists f,s.seq d,b,λi p e=>s.bP (c i p e)
theorem ic:∀ns:List Int,bo (ns.map .int)=ag
 |[]=>rfl
 |n::ns=>by
  show (PyData.canLay0 (.int n)&&bo (ns.map .int))=ag;rw[ic ns];rfl
theorem lX:∀ns:List Int,bj (ns.map .int)=0
 |[]=>rfl
 |n::ns=>by
  show max (PyData.depth (.int n)) (bj (ns.map .int))=0;rw[lX ns];rfl
theorem ZQ(xs:List V)(i:Nat):DU xs (ac (i:Int)) ae=xs.drop i:=by unfold DU;rw[HT.OP];show (xs.drop (min i (wL xs))).take (wL xs-min i (wL xs))=_;by_cases h:i<=wL xs;rw[Nat.min_eq_left h,List.take_of_length_le (by rw[List.length_drop];exact az _)];rw[Nat.min_eq_right ∅,List.drop_of_length_le (az _),List.drop_of_length_le ∅];simp
section
variable{ns:List Int}{rs:List R5}{live:List Nat}{nd:ns.Nodup}{ok:∀r∈rs,r.Ok ns.length}{hl:∀k∈live,k<wL rs}
def zg(n m:Nat)(R:Nat->RM.Row):Prop:=∀i,i<n->DZ n m (R i)
theorem zg.agd{m:Nat}{R:Nat->RM.Row}(h:zg (wL ns) m R):RM.Sane (bA ns rs live nd ok hl) R:=λi a=>(h i a).ho
theorem acF{R:Nat->RM.Row}{h:Nat}{d:RM.Row}(l:zg (wL ns) (wL rs) R)(b:h<wL ns)(j:∀x∈ns,0<=x)(i:RM.ZN (N:=bA ns rs live nd ok hl) (wL ns) R h d):DZ (wL ns) (wL rs) d:=by rcases i.one with e|⟨k,g,a,c,e⟩;rw[e];have m:(bA ns rs live nd ok hl).nm h=ns[h]:=(by show ns.getD h 0=_;simp[ao,b]);exists 4,Int.le_refl _,⟨Int.le_refl _,4⟩,.inl rfl;show 0<=(bA ns rs live nd ok hl).nm h;rw[m];exact j _ (aP b);show (0:Int)<wL ns;lia;have f:=l g a.lt.2.1;have n:=a.cost;have o:k<wL rs:=hl k a.1;rw[e];exists f.hd,4,⟨4,c⟩,.inr ⟨44⟩;show 0<=(R g).co+(bA ns rs live nd ok hl).c k;have:=f.co;lia;show 0<=(R g).ho+1;have:=f.ho.1;lia;show (0:Int)<=(k:Nat);lia;show ((k:Nat):Int)<(rs.length:Nat);lia
end
theorem DZ.by1{n m:Nat}{r:RM.Row}(h:DZ n m r):-1<=r.by_:=by have:=h.by_;lia
noncomputable def isAt(rs:List R5)(h:Int)(i:Nat):Bool:=match rs[i]? with|some r=>decide (h=r.a) || decide (h=r.b)|none=>al
noncomputable def YD(rs:List R5)(h:Int)(n:Nat):List Nat:=(aB n).filter (isAt rs h)
theorem Q4(rs:List R5)(h:Int)(n:Nat):YD rs h (n+1)=YD rs h n++(if isAt rs h n then [n] else []):=by unfold YD;rw[iH,eO];congr 1;by_cases a:isAt rs h n=ag;rw[eL a];simp[a];rw[e8 a];simp[a]
theorem acG(rs:List R5)(h:Int)(n:Nat):(YD rs h n).length<=n:=by have:=aR (isAt rs h) (aB n);rw[bJ] at this;exact this
theorem Ui(x a b:Int):Av (cn x) [cn a,cn b]=(decide (x=a) || decide (x=b)):=by show (W8 (.int a) (.int x) || (W8 (.int b) (.int x) || al))=_;rw[O0,O0,Bool.or_false]
theorem eU(a:List Nat):aT a=(a.map λk:Nat=>(k:Int)).map cn:=by unfold aT;rw[cU];rfl
theorem yg(x:Nat)(xs:List Nat):Av (.int (x:Nat)) (aT xs)=decide (x∈xs):=by rw[eU,ly];by_cases h:x∈xs;rw[fy h];exact fy (bH.mpr ⟨x,h,2⟩);rw[gn h];refine gn λz=>h ?_;obtain⟨y,a,e⟩:=bH.mp z;have:y=x:=∅;exact this▸a
theorem kh(xs:List Nat):(aT xs).all AW=ag:=by rw[eU];exact qq _
theorem ZR(rs:List R5)(h:Int)(n:Nat):(YD rs h n).Pairwise (·<·):=List.Pairwise.filter _ List.pairwise_lt_range
theorem acH{a:List Nat}(h:a.Pairwise (·<·)){j:Nat}(b:j<wL a){k:Nat}(d:k∈a.take j):k<a[j]:=by obtain⟨i,c,e⟩:=List.getElem_of_mem d;rw[b6] at c;rw[List.getElem_take] at e;rw[<- e];exact List.pairwise_iff_getElem.mp h i j ∅ b ∅
theorem CK{rs:List R5}{h:Int}{n k:Nat}:k∈YD rs h n↔k<n/\isAt rs h k=ag:=by unfold YD;rw[bD,cS]
section
variable{ns:List Int}{rs:List R5}{live:List Nat}{nd:ns.Nodup}{ok:∀r∈rs,r.Ok ns.length}{hl:∀k∈live,k<wL rs}
noncomputable def gO(r:R5)(h:Nat):Nat:=(if (h:Int)=r.a then r.b else r.a).toNat
theorem vP{k h g:Nat}(i:k∈live):RM.Js (bA ns rs live nd ok hl) k h g↔isAt rs (h:Int) k=ag/\g=gO (rs[k]'(hl k i)) h:=by have d:=hl k i;have o:=ok _ (aP d);have f:rs[k]?=ac rs[k]:=aa d;have j:(bA ns rs live nd ok hl).a k=rs[k].a.toNat:=(by show ((rs[k]?).map λr=>r.a.toNat).getD 0=_;rw[f];rfl);have l:(bA ns rs live nd ok hl).b k=rs[k].b.toNat:=(by show ((rs[k]?).map λr=>r.b.toNat).getD 0=_;rw[f];rfl);unfold RM.Js isAt gO;rw[j,l,f];dsimp only;generalize rs[k]=r at o;have p:=o.a0;have m:=o.b0;have n:=o.ab;constructor;rintro⟨_,⟨e,c⟩|⟨e,c⟩⟩;have z:(h:Int)=r.a:=∅;rw[eL z];exists by simp[z],c.symm;have z:(h:Int)=r.b:=∅;rw[e8 ∅];exists by simp[z],c.symm;rintro⟨e,c⟩;exists i,4;have e:(h:Int)=r.a∨(h:Int)=r.b:=(by simpa using e);by_cases z:(h:Int)=r.a;rw[eL z] at c;exact .inl ⟨6,c.symm⟩;rw[e8 z] at c;exact .inr ⟨6,c.symm⟩
end
theorem CL{a:Type}{xs:List a}{x y:a}{j:Nat}(h:(xs++[x])[j]?=ac y):xs[j]?=ac y∨(j=xs.length/\y=x):=by by_cases b:j<wL xs;rw[bu b] at h;exact .inl h;have:=(aj.mp h).1;rw[av] at this;have e:j=xs.length:=(by have:j<wL xs+1:=this;lia);subst e;rw[bZ (az _),gq] at h;cases h;exact .inr ⟨22⟩
theorem tP{n i:Nat}(h:i<n):ud n (i:Int)=ac i:=by unfold ud;rw[eL ∅,eL ∅];simp
section
variable{ns:List Int}{rs:List R5}{live:List Nat}{nd:ns.Nodup}{ok:∀r∈rs,r.Ok ns.length}{hl:∀k∈live,k<wL rs}
theorem ajd{k:Nat}(h:k<wL rs):(bA ns rs live nd ok hl).c k=rs[k].c:=by show ((rs[k]?).map λr=>r.c).getD 0=_;rw[aa h];rfl
end
end TW
namespace TW
open PySem L2 PyProof.Rows
theorem aY{a b:TS}{D:Ends}{e:L2.St}{H:Hp}(h:∀N:L2.St->Hp->Prop,(∀c d,b D c d->N c d)->a {D with nx:=N} e H):Y0 a b D e H:=h _ λ_ _ x=>x
theorem jN{K:ai}{H:Hp}{Q:VK}{p:am}{xs:List V}{i:Int}{v:V}(h:bI K H p xs)(e:yb xs i=ac v)(k:Q v H):T4 K (.ref p) (.int i) H Q:=⟨p,xs,i,v,22,h,e,k⟩
theorem oS{K:ai}{a:L2.St}{H:Hp}{Q:VK}{p:am}{xs:List V}{i:Int}{v:V}(h:bI K H p xs)(e:yb xs i=ac v)(k:Q v H):tC (.int i) a H λy b=>T4 K (.ref p) y b Q:=⟨p,xs,i,v,22,h,e,k⟩
theorem fN{K:ai}{a:L2.St}{H:Hp}{Q:VK}{p:am}{xs:List V}{i:Int}{v:V}(h:cD K H p xs)(e:yb xs i=ac v)(k:Q v H):tC (.int i) a H λy b=>W0 K (.ref p) y b Q:=⟨p,xs,i,v,22,h,e,k⟩
theorem jO{c:TT}{t u r:TS}{D:Ends}{a:L2.St}{H:Hp}(J:L2.St->Hp->Prop)(b:∀a H,J a H->r D a H)(h:∀N:L2.St->Hp->Prop,(∀a H,J a H->N a H)->OL c t u {D with nx:=N} a H):Y0 (OL c t u) r D a H:=h _ b
theorem zh{lo:Int}{n:Nat}{g:TG}{h:TS}{D:Ends}{a:L2.St}{H:Hp}(e:Nat->L2.St->Hp->Prop)(l:e 0 a H)(q:∀i a H(N:L2.St->Hp->Prop),(∀b c,e (i+1) b c->N b c)->i<n->e i a H->g (.int (lo+i)) a H λd f=>h {D with nx:=N,ct:=N,bk:=D.nx} d f)(k:∀a H,e n a H->D.nx a H) :∃W:Nat->Nat->L2.St->Hp->Prop,(∃m,W 0 m a H)/\∀i m a H,W i m a H ->((Y8 lo n).stop i H/\D.nx a H)∨((Y8 lo n).go i H/\∃N:L2.St->Hp->Prop,(∀b c,N b c->∃j,j<m/\W (i+1) j b c)/\∀x c,(Y8 lo n).QJ i H x c->g x a c λd f=>h {D with nx:=N,ct:=N,bk:=D.nx} d f) :=yf e l (λi a H o p=>q i a H _ (λ_ _ x=>x) o p) k
theorem qu{K:ai}{a:am}{xs:List V}{g:TG}{j:TS}{D:Ends}{b:L2.St}{H:Hp}(f:Nat->L2.St->Hp->Prop)(n:f 0 b H)(hl:∀i b H,i<=wL xs->f i b H->bI K H a xs)(q:∀i x b H(N:L2.St->Hp->Prop),(∀c d,f (i+1) c d->N c d)->xs[i]?=ac x->f i b H->g x b H λe h=>j {D with nx:=N,ct:=N,bk:=D.nx} e h)(l:∀b H,f (wL xs) b H->D.nx b H) :∃W:Nat->Nat->L2.St->Hp->Prop,(∃m,W 0 m b H)/\∀i m b H,W i m b H ->((OM K a).stop i H/\D.nx b H)∨((OM K a).go i H/\∃N:L2.St->Hp->Prop,(∀c d,N c d->∃k,k<m/\W (i+1) k c d)/\∀x d,(OM K a).QJ i H x d->g x b d λe h=>j {D with nx:=N,ct:=N,bk:=D.nx} e h) :=ye f n hl (λi x b H o p=>q i x b H _ (λ_ _ x=>x) o p) l
end TW
namespace TW
open PySem L2 PyProof.Rows
open RM (cW jr aZ aX)
seal L2.PE L2.PA L2.PT L2.PW L2.PS L2.iE L2.PG L2.jW L2.PI L2.jX
section
open Classical
noncomputable def A6(N:RM.Net)(R:Nat->RM.Row)(h:Nat):Option (Nat×Nat):=
 if e:∃p:Nat×Nat,RM.qo N R p.1 h p.2 then ac (choose e) else ae
end
theorem vQ{N:RM.Net}{R:Nat->RM.Row}{h k g:Nat}:A6 N R h=ac (k,g)↔RM.qo N R k h g:=by unfold A6;constructor;intro e;split at e;rename_i q;have:=Classical.choose_spec q;rw[aO e] at this;exact this;cases e;intro t;have q:∃p:Nat×Nat,RM.qo N R p.1 h p.2:=⟨(k,g),t⟩;rw[dif_pos q];have u:=Classical.choose_spec q;obtain⟨a,b⟩:=u.uniq t;exact gw ac (Prod.ext a b)
theorem Q5{N:RM.Net}{R:Nat->RM.Row}{h:Nat}(q:∀k g,¬RM.qo N R k h g):A6 N R h=ae:=by cases e:A6 N R h with|none=>rfl|some p=>exact ff (vQ.mp e) (q p.1 p.2)
def wV(K:ai)(H:Hp)(v:V):Option (Nat×Nat)->Prop
 |none=>v=.gk
 |some p=>∃t,v=.ref t/\cD K H t [.int (p.1:Nat),.int (p.2:Nat)]
theorem wV.mono{K:ai}{H a:Hp}{v:V}{o:Option (Nat×Nat)}(s:aG H a)(h:wV K H v o):wV K a v o:=by cases o with|none=>exact h|some p=>obtain⟨t,e,q⟩:=h;exists t,e,s.bP q
theorem wV.lst{K:ai}{H:Hp}{v:V}{o:Option (Nat×Nat)}{l:am}{xs:List V}{ob:HO}(hl:H l=ac (.lst xs))(h:wV K H v o):wV K (upd H l ob) v o:=by cases o with|none=>exact h|some p=>obtain⟨t,e,q⟩:=h;exists t,e,acE hl q
def age(K:ai)(H:Hp)(l:am)(n:Nat)(u:Nat->Option (Nat×Nat)):Prop:=∃vs:List V,H l=ac (.lst vs)/\wL vs=n/\∀(i:Nat)v,vs[i]?=ac v->wV K H v (u i)
section
variable{ns:List Int}{rs:List R5}{live:List Nat}{nd:ns.Nodup}{ok:∀r∈rs,r.Ok ns.length}{hl:∀k∈live,k<wL rs}
theorem ZS{R:Nat->RM.Row}{k h:Nat}(a:k∈live):(∃g,RM.qo (bA ns rs live nd ok hl) R k h g)↔isAt rs (h:Int) k=ag/\(R (gO (rs[k]'(hl k a)) h)).ho+1<wL ns/\R h=RM.over (bA ns rs live nd ok hl) k (R (gO (rs[k]'(hl k a)) h)):=by constructor;rintro⟨g,t⟩;obtain⟨b,c⟩:=(vP a).mp t.CI;subst c;exists b,t.cut,t.eq;rintro⟨b,c,d⟩;exists _,(vP a).mpr ⟨b,2⟩,c,d
theorem agf{R:Nat->RM.Row}{k h g:Nat}(t:RM.qo (bA ns rs live nd ok hl) R k h g):g=gO (rs[k]'(hl k t.CI.1)) h:=((vP t.CI.1).mp t.CI).2
theorem Uj{k h:Nat}(a:k<wL rs)(ok:∀r∈rs,r.Ok (wL ns)):gO rs[k] h<wL ns:=by have o:=ok _ (aP a);have e:=o.a0;have c:=o.a1;have d:=o.b0;have b:=o.b1;unfold gO;split <;> lia
theorem VL{k h:Nat}(c:k<wL rs)(ok:∀r∈rs,r.Ok (wL ns)):(if (h:Int)=rs[k].a then rs[k].b else rs[k].a)=((gO rs[k] h:Nat):Int):=by have o:=ok _ (aP c);have e:=o.a0;have d:=o.b0;unfold gO;split <;> lia
end
theorem anj{x y z i:Int}(lo a:Int)(c:lo<=x/\x<=a)(b:lo<=y/\y<=a)(hz:lo<=z/\z<=a)(d:0<=i)(e:i<3):∃w,(lo<=w/\w<=a)/\yb [cn x,cn y,cn z] i=ac (.int w):=by have:i=0∨i=1∨i=2:=∅;rcases this with rfl|rfl|rfl;exists x,c,2;exists y,b,2;exists z,hz,2
theorem acI(xs:List Nat):Av .gk (aT xs)=al:=by unfold Av;rw[iw];intro h;obtain⟨x,a,e⟩:=y9.mp h;obtain⟨y,_,rfl⟩:=bH.mp a;cases e
end TW
namespace L2
open PySem PySem.Spec PyProof.Rows
theorem O6{us:List ar}{ns:List Int}(h:IntsAre us ns):cO (ns.map cn) us:=by induction h with|nil=>exact .nil|cons n t _ a=>exact .cons ⟨t,2⟩ a
section
variable{X:Cx}
def acJ(K:ai):List V->Hp->VK->Prop:=λxs H Q=>∃(a:am)(ns:List Int),xs=[.ref a]/\bI K H a (ns.map cn)/\wL ns<64/\∀l(ns':List Int),H l=ae->ns'.Perm ns->ns'.Pairwise (·<=·)->Q (.ref l) (upd H l (.lst (ns'.map cn)))
theorem A7:qg X (.builtin "sorted") (acJ X.K):=by intro h s w H x y Q I r ⟨a,k,e,m,v,q⟩;subst e;obtain⟨u,e,l⟩:=cO.one r;subst e;cases l;obtain⟨c,t,p,z⟩:=I.list m;have g:IntsAre c k:=intsAre_of t;have f:=IntsAre.length g;refine sorted_ints (vs:=c) p.isList g ∅ λout d j a2 n=>?_;obtain⟨e,i⟩:=sortedAll_at s.heap c out;exists .ref (s.heap.objs.size+1),_,I.laid (a:=s.heap.objs.size+1) (o:=.lst (d.map cn)) (t':=s.toks) (λb o e=>sortedAll_old e) (eB _) ⟨4,out.toList,e,O6 j,4⟩,2,q _ d (I.hok.fresh (eB _)) a2 n;rw[af,a2.length_eq];exact iG (b9 ∅);rw[i]
end
end L2
namespace TW
open PySem L2 PyProof.Rows
open RM (cW jr aZ aX)
seal L2.PE L2.PA L2.PT L2.PW L2.PS L2.iE L2.PG L2.jW L2.PI L2.jX
theorem Ni:∀{xs c:List Nat},xs.Pairwise (·<·)->c.Pairwise (·<·)->(∀k,k∈xs↔k∈c)->xs=c
 |[],[],_,_,_=>rfl
 |[],y::c,_,_,h=>ff ((h y).mpr cK) (-_)
 |x::xs,[],_,_,h=>ff ((h x).mp cK) (-_)
 |x::xs,y::c,d,f,h=>by
  have b:=List.pairwise_cons.mp d;have a:=List.pairwise_cons.mp f;have e:x=y:=by
   rcases bR.mp ((h x).mp cK) with z|z
   ·exact z
   ·rcases bR.mp ((h y).mpr cK) with w|w
    ·exact w.symm
    ·have:=a.1 x z
     have:=b.1 y w
     lia
  subst e;rw[Ni b.2 a.2 λk=>?_];constructor
  ·intro z
   rcases bR.mp ((h k).mp (bS _ z)) with w|w
   ·have:=b.1 k z;lia
   ·exact w
  ·intro z
   rcases bR.mp ((h k).mpr (bS _ z)) with w|w
   ·have:=a.1 k z;lia
   ·exact w
theorem qo.lt{N:RM.Net}{R:Nat->RM.Row}{k h g:Nat}(t:RM.qo N R k h g):h<N.n/\g<N.n:=⟨t.CI.lt.1,t.CI.lt.2.1⟩
def ie(N:RM.Net)(R:Nat->RM.Row)(os:List Nat):Prop:=os.Pairwise (·<·)/\∀k,k∈os↔∃h g,RM.qo N R k h g
theorem ie.uniq{N:RM.Net}{R:Nat->RM.Row}{xs c:List Nat}(a:ie N R xs)(b:ie N R c):xs=c:=Ni a.1 b.1 λk=>(a.2 k).trans (b.2 k).symm
theorem Q6{i:List Nat}{c:List Int}(p:c.Perm (i.map λk:Nat=>(k:Int)))(q:c.Pairwise (·<=·))(nd:i.Nodup):∃os:List Nat,c.map cn=aT os/\os.Pairwise (·<·)/\(∀k,k∈os↔k∈i)/\wL os=i.length:=by have j:∀m∈c,∃k:Nat,m=(k:Int)/\k∈i:=λm d=>(by obtain⟨k,f,e⟩:=bH.mp (p.mem_iff.mp d);exists k,e.symm,f);have r:(c.map Int.toNat).map (λk:Nat=>(k:Int))=c:=(by rw[cU];(conv=>rhs;rw[<- List.map_id c]);apply cT;intro m d;obtain⟨k,e,_⟩:=j m d;rw[e];rfl);have l:c.Nodup:=(by refine p.nodup_iff.mpr ?_;unfold List.Nodup;rw[List.pairwise_map];exact nd.imp λh e=>h ∅);refine⟨c.map Int.toNat,44,λk=>?_,by rw[af,p.length_eq,af]⟩;rw[eU,r];rw[List.pairwise_map];have g:=List.pairwise_and_iff.mpr ⟨q,l⟩;refine List.Pairwise.imp_of_mem (λ{a b}o s h=>?_) g;obtain⟨x,w,_⟩:=j a o;obtain⟨y,n,_⟩:=j b s;have v:=h.1;have u:=h.2;lia;constructor;intro f;obtain⟨m,d,e⟩:=bH.mp f;obtain⟨y,n,t⟩:=j m d;rw[n] at e;have:y=k:=(by rw[<- e];rfl);exact this▸t;intro f;have:((k:Nat):Int)∈c:=p.mem_iff.mpr (bH.mpr ⟨k,f,2⟩);exact bH.mpr ⟨_,this,2⟩
end TW
namespace TW
open PySem L2 PyProof.Rows Gr
open RM (cW jr aZ aX)
section
variable{ns:List Int}{rs:List R5}{live:List Nat}{nd:ns.Nodup}{ok:∀r∈rs,r.Ok ns.length}{hl:∀k∈live,k<wL rs}
theorem ZT{R:Nat->RM.Row}{os:List Nat}(O:ie (bA ns rs live nd ok hl) R os):∀k∈os,k<wL rs:=λk a=>by
 obtain⟨h,g,t⟩:=(O.2 k).mp a;exact hl k t.CI.1
end
end TW
namespace L2
open PySem PySem.Calls PySem.Spec PyProof.Rows PyProof.V PySem.W
end L2
namespace Gr
end Gr
namespace TW
open PySem L2 PyProof.Rows Gr
end TW
namespace L2
open PySem PySem.Calls PySem.Spec PyProof.Rows PyProof.V PySem.W
end L2
namespace TW
open PySem L2 PyProof.Rows Gr
end TW
namespace TW
open PySem L2 PyProof.Rows
noncomputable def stand(b:List Bool):List Nat:=(aB b.length).filter λk=>b.getD k al
theorem lY{b:List Bool}{k:Nat}:k∈stand b↔b[k]?=ac ag:=by unfold stand;rw[bD,cS,ao];constructor;rintro⟨a,c⟩;rw[aa a] at c ⊢;simpa using c;intro h;have a:=(aj.mp h).1;exists a,by rw[h];rfl
theorem uy(b:List Bool):(stand b).Pairwise (·<·):=List.Pairwise.filter _ List.pairwise_lt_range
theorem Nj(b:List Bool):(stand b).length<=wL b:=by have:=aR (λk=>b.getD k al) (aB b.length);rw[bJ] at this;exact this
theorem Ff:∀{xs b:List Nat},xs.Pairwise (·<·)->b.Pairwise (·<·)->(∀k,k∈xs↔k∈b)->xs=b
 |[],[],_,_,_=>rfl
 |[],y::b,_,_,h=>ff ((h y).mpr (-_)) (-_)
 |x::xs,[],_,_,h=>ff ((h x).mp (-_)) (-_)
 |x::xs,y::b,c,d,h=>by
  rw[List.pairwise_cons] at c d;have e:x=y:=by
   have h1:=(h x).mp (-_);have h2:=(h y).mpr (-_);rw[bR] at h1 h2;rcases h1 with h1|h1
   ·exact h1
   ·rcases h2 with h2|h2
    ·exact h2.symm
    ·have:=c.1 _ h2
     have:=d.1 _ h1
     lia
  subst e;rw[Ff c.2 d.2 λk=>?_];constructor
  ·intro a
   rcases bR.mp ((h k).mp (bS _ a)) with rfl|z
   ·exact ff (c.1 _ a) (jf _)
   ·exact z
  ·intro a
   rcases bR.mp ((h k).mpr (bS _ a)) with rfl|z
   ·exact ff (d.1 _ a) (jf _)
   ·exact z
theorem Uk{b:List Bool}{k:Nat}:(stand b).filter (λj=>decide (j≠k))=stand (b.set k al):=by refine Ff (List.Pairwise.filter _ (uy b)) (uy _) λj=>?_;rw[bD,lY,lY,bE];by_cases e:k=j;subst e;simp;rw[e8 e];simp[bT e]
theorem Xu{b:List Bool}{k:Nat}{xs:List Nat}(f:b[k]?=ac al)(d:xs.Perm (stand b++[k]))(g:xs.Pairwise (·<=·)):xs=stand (b.set k ag):=by have h:(stand b++[k]).Nodup:=(by rw[wK];exists (uy b).imp λz=>bY z,-_,λx a y i=>?_;have:y=k:=(by simpa using i);subst this;intro e;subst e;rw[lY,f] at a;cases a);have a:=(d.nodup_iff).mpr h;have l:xs.Pairwise (·<·):=(g.and a).imp λz=>Nat.lt_of_le_of_ne z.1 z.2;refine Ff l (uy _) λj=>?_;have c:=(aj.mp f).1;rw[d.mem_iff,bU,lY,lY,bE,bV];by_cases e:k=j;subst e;rw[eL rfl,eL c];simp;rw[e8 e];simp[bT e]
theorem Ul(n:Nat):stand (bL n ag)=aB n:=by refine Ff (uy _) List.pairwise_lt_range λj=>?_;rw[lY,List.getElem?_replicate,cS];by_cases h:j<n;simp[h];simp[h]
theorem O7{w:List Nat}{xs:List Int}(b:xs.Perm (w.map λk:Nat=>(k:Int)))(c:xs.Pairwise (·<=·)):∃a:List Nat,xs=a.map (λk:Nat=>(k:Int))/\a.Perm w/\a.Pairwise (·<=·):=by have e:xs=(xs.map Int.toNat).map λk:Nat=>(k:Int):=(by rw[cU];refine Eq.symm ((cT λx f=>?_).trans (List.map_id xs));obtain⟨k,_,rfl⟩:=bH.mp (b.mem_iff.mp f);rfl);exists xs.map Int.toNat,e,44;have:=b.map Int.toNat;rw[cU] at this;have d:(Int.toNat∘λk:Nat=>(k:Int))=id:=rfl;rw[d,List.map_id] at this;exact this;rw[List.pairwise_map];exact c.imp λz=>Int.toNat_le_toNat z
theorem agg(k:Nat):(bL k [cw ag]).flatten=(bL k ag).map cw:=by induction k with|zero=>rfl|succ k a=>rw[jm,wN,a,jm];rfl
def Yr(rs:List R5)(bs:List (List Bool)):Prop:=bs.length=rs.length/\∀(i:Nat)r b,rs[i]?=ac r->bs[i]?=ac b->(b.length:Int)=r.d
theorem Yr.set{rs:List R5}{bs:List (List Bool)}{i k:Nat}{b:List Bool}{x:Bool}(h:Yr rs bs)(d:bs[i]?=ac b):Yr rs (bs.set i (b.set k x)):=by exists by rw[aQ];exact h.1,λj r e c a=>?_;rw[bE] at a;by_cases z:i=j;subst z;rw[eL rfl,eL (aj.mp d).1] at a;cases a;rw[aQ];exact h.2 i r b c d;rw[e8 z] at a;exact h.2 j r e c a
theorem Yr.at{rs:List R5}{bs:List (List Bool)}{i:Nat}{r:R5}(h:Yr rs bs)(a:rs[i]?=ac r):∃b,bs[i]?=ac b/\(b.length:Int)=r.d:=by have:=(aj.mp a).1;exists _,aa (by have:=h.1;lia),h.2 i r _ a (aa (by have:=h.1;lia))
structure vR(C:am)(H:Hp)(p tp lu:am)(ws:List (List Nat)):Prop where
 ob:∃dx,H p=ac (.ins C dx [("town",.ref tp),("upright",.ref lu)])
 up:∃ls:List am,H lu=ac (.lst (ls.map cr))/\wL ls=ws.length/\∀(i:Nat)l w,ls[i]?=ac l->ws[i]?=ac w->H l=ac (.lst (aT w))
section
variable{C:am}{H H':Hp}{p tp lu:am}{ws:List (List Nat)}
theorem vR.mono(s:aG H H')(h:vR C H p tp lu ws):vR C H' p tp lu ws:=by obtain⟨⟨j,g⟩,e,d,f,c⟩:=h;exists ⟨j,s _ _ g⟩,e,s _ _ d,f,λi l w a b=>s _ _ (c i l w a b)
theorem yh{w:List Nat}{ls:List am}{i:Nat}{l:am}(e:ls[i]?=ac l):aT w≠ls.map cr:=by intro z;have a:(aT w)[i]?=ac (cr l):=(by rw[z,ak,e];rfl);rw[ak] at a;cases b:w[i]? with|none=>rw[b] at a;cases a|some k=>rw[b] at a;cases a
theorem vR.ne(h:vR C H p tp lu ws):p≠lu:=by obtain⟨⟨d,b⟩,c,a,_⟩:=h;exact oN b a (by intro z;cases z)
theorem vR.put{i:Nat}{q:am}{w:List Nat}{ls:List am}(h:vR C H p tp lu ws)(e:H lu=ac (.lst (ls.map cr)))(m:H q=ac (.lst (aT w)))(x:i<wL ws)(k:∀b u,H b=ac u->b≠lu->H' b=ac u)(s:H' lu=ac (.lst ((ls.map cr).set i (.ref q)))):vR C H' p tp lu (ws.set i w):=by have d:=h.ne;obtain⟨⟨B,y⟩,c,f,D,r⟩:=h;rw[e] at f;have z:=HO.lst.inj (aO f);have z:ls=c:=(by have:=gw (List.map λv=>match v with|V.ref a=>a|_=>0) z;rw[cU,cU] at this;have t:((λv=>match v with|V.ref a=>a|_=>0)∘cr)=(id:am->am):=rfl;rw[t,List.map_id,List.map_id] at this;exact this);subst z;have g:i<wL ls:=∅;have A:q≠lu:=(by refine oN m e λz=>?_;exact yh (aa g) (HO.lst.inj z));exists ⟨B,k _ _ y d⟩,ls.set i q,by rw[s,gQ],by rw[aQ,aQ,D],λj l E a b=>?_;rw[bE] at a b;by_cases n:i=j;subst n;rw[eL rfl,eL g] at a;rw[eL rfl,eL x] at b;cases a;cases b;exact k _ _ m A;rw[e8 n] at a b;have o:=r j l E a b;exact k _ _ o (oN o e λz=>yh a (HO.lst.inj z))
structure wh(H:Hp)(ls:am)(dB:List am)(bs:List (List Bool)):Prop where
 at_:H ls=ac (.lst (dB.map cr))
 len:wL dB=bs.length
 nd:dB.Nodup
 it:∀(i:Nat)l b,dB[i]?=ac l->bs[i]?=ac b->H l=ac (.lst (b.map cw))
theorem wh.mono{ls:am}{dB:List am}{bs:List (List Bool)}(s:aG H H')(h:wh H ls dB bs):wh H' ls dB bs:=⟨s _ _ h.at_,h.len,h.nd,λi l b x y=>s _ _ (h.it i l b x y)⟩
theorem wh.put{ls:am}{dB:List am}{bs:List (List Bool)}{i:Nat}{l:am}{b:List Bool}(h:wh H ls dB bs)(d:dB[i]?=ac l)(k:∀c u,H c=ac u->c≠l->H' c=ac u)(hl:H' l=ac (.lst (b.map cw)))(f:ls≠l):wh H' ls dB (bs.set i b):=by exists k _ _ h.at_ f,by rw[aQ,h.len],h.nd,λj g m x y=>?_;have a:i<wL bs:=(by rw[<- h.len];exact (aj.mp d).1);rw[bE] at y;by_cases e:i=j;subst e;rw[eL rfl,eL a] at y;cases y;rw[d] at x;cases x;exact hl;rw[e8 e] at y;refine k _ _ (h.it j g m x y) λz=>e ?_;subst z;have o:=aj.mp d;have n:=aj.mp x;obtain⟨r,a2⟩:=o;obtain⟨q,p⟩:=n;exact (List.getElem_inj h.nd).mp (a2.trans p.symm)
theorem dN.but{K:ai}{C n r:am}{j:List (Str×V)}{tp c f:am}{ns:List Int}{rs:List R5}(h:dN K C H tp c f ns rs)(k:∀b o,H b=ac o->b≠p->H' b=ac o)(a:H p=ac (.ins n r j))(q:tp≠p):dN K C H' tp c f ns rs:=by obtain⟨⟨d,m⟩,e,i,g,l⟩:=h;exists ⟨d,k _ _ m q⟩,k _ _ e (oN e a (by intro z;cases z)),i,k _ _ g (oN g a (by intro z;cases z)),k8 k a l
end
end TW
namespace L2
open PySem PySem.Spec PyProof.Rows
section
variable{X:Cx}
theorem Xv(K:ai)(f:X.K=K){a:Expr}{c:TE}(e:PE X a c)(d:∀b,isTrue a X.env b=(do let v <- b;standAt a.pos;holding [v] (truthy v))):PT X a (ZK K c):=by subst f;exact Xo e d
end
end L2
namespace TW
open PySem L2 PyProof.Rows
noncomputable def lz(e:Int)(g:Nat):Bool:=decide (e/2^g%2=1)
theorem Q7{e z:Int}{g:Nat}(d:1<=e)(c:e<=7)(hz:([1,2,4]:List Int)[g]?=ac z):(!decide (Builtin.bitAnd e z=0))=lz e g:=by have b:g=0∨g=1∨g=2:=(by have:=(aj.mp hz).1;simp at this;lia);have a:e=1∨e=2∨e=3∨e=4∨e=5∨e=6∨e=7:=∅;rcases b with rfl|rfl|rfl <;> cases hz <;> rcases a with rfl|rfl|rfl|rfl|rfl|rfl|rfl <;> decide +kernel
theorem ajf{g:Nat}(h:g<3):∃z,([1,2,4]:List Int)[g]?=ac z:=⟨_,aa (by simpa using h)⟩
noncomputable def isLive(rs:List R5)(ws:List (List Nat))(g i:Nat):Bool:=match rs[i]?,ws[i]? with|some r,ac w=>(!w.isEmpty)&&lz r.e g|_,_=>al
noncomputable def wW(rs:List R5)(ws:List (List Nat))(g n:Nat):List Nat:=(aB n).filter (isLive rs ws g)
theorem A8(rs:List R5)(ws:List (List Nat))(g n:Nat):wW rs ws g (n+1)=wW rs ws g n++(if isLive rs ws g n=ag then [n] else []):=by unfold wW;rw[iH,eO];congr 1;by_cases h:isLive rs ws g n=ag;rw[eL h,dM,eL h];rfl;rw[e8 h,dM,e8 h];rfl
theorem Um(rs:List R5)(ws:List (List Nat))(g n:Nat):(wW rs ws g n).length<=n:=by have:=aR (isLive rs ws g) (aB n);rw[bJ] at this;exact this
end TW
namespace L2
open PySem PySem.Spec PyProof.Rows
structure aeD(K:ai)(C:am)(m:Str)(f:am):Prop where
 hg:PySem.W.specialIn K (.ref C) "__getattribute__" = ac (ac (.builtin "type.__getattribute__"))
 hr:PySem.W.readsIn K C (.type "type")=ag
 md:PySem.W.findCls K (.ref C) (.type "type") m=ac (.val (.ref f))
 kp:fD K (.ref f)=ag
section
variable{X:Cx}
theorem GK{e:Expr}{t u:TE}(d:PE X e t)(c:PE X e u):PE X e (λb H Q=>t b H Q∨u b H Q):=λa s b H Q I h=>h.elim (d a s b H Q I) (c a s b H Q I)
end
def ajg(C:am)(sp:Sp)(DT:List V)(E:XK)(ta:TE)(t:TA):TE:=λσ H Q=>ta σ H λx H1=>x=.ref C/\t σ H1 λvs H2=>sp (vs++DT) H2 Q E
section
variable{X:Cx}{CX:WY}{k:Nat}{f C:am}{fd:FuncData}{ps:List Str}{sp:Sp}{DT:List V}{ds:List ar}{E:XK}{x m:Str}{p pos apos:Pos}{e o:Expr}{es:List Expr}{ta:TE}{t:TA}
theorem Uo{pl:Sem Bool}(n:PE X o ta)(c:aeD X.K C m f)
 (F:cH X.prog X.w X.K X.mg X.base CX k f fd ps sp) (hr:kW k X.A) (z:Binds X.K fd ps ds) (y:cO DT ds) (B:uu CX X E) (p:PA X (e::es) t)
 (d:bn (e::es) X.env=(al,eval e X.env)::bn es X.env:=by rfl) (g:(backTo pos (bn es X.env)).any (·.1)=al:=by rfl)
 (N:eval (.Call (.Attribute o m apos) (e::es) [] pos) X.env=(do
  let l <- eval o X.env
  standAt apos.atName
  let (f,first) <- holding [l] (getMethod l m pl)
  callWith pos f first (backTo pos (bn (e::es) X.env)) (backToKw pos (keywordEach [] X.env))):=by rfl):
 PE X (.Call (.Attribute o m apos) (e::es) [] pos) (ajg C sp DT E ta t):=by intro a s i H Q I h;refine PySem.W.methodCall_KW (pl:=pl) (ir (n a s i H _ I h) λu G ⟨x,v,b,J,L,q⟩=>?_) N;subst L;obtain rfl:u=Value.ref C:=J;refine PySem.W.method_cls b.DQ c.hg (PySem.W.cls_value b.DQ c.hr c.md rfl ?_);have M:=b.tok (G.toks+1);refine PySem.W.callWith_K (first:=[]) (h₀:=X.base) I.ok.mod.kin c.kp (ir (p pos a _ i v _ M q) λus P ⟨vs,O,j,r,D⟩=>⟨j.DQ,4⟩) d g;exact OO (us:=us) (vs:=vs) F hr z y B j r D
end
end L2
namespace TW
open PySem L2 PyProof.Rows
theorem qh{b:Bool}{A B:Prop}(e:b=al)(h:B):if b=ag then A else B:=by subst e;exact e9 h
theorem Aw{b:Bool}{A B:Prop}(e:b=ag)(h:A):if b=ag then A else B:=by subst e;exact fY h
inductive HZ(cL c1 cA:am)(H:Hp)(a:am)(s to:Int):Int->Prop
 |bare (dx:am) (h:H a=ac (.ins cL dx [("sender",.int s)])):HZ cL c1 cA H a s to 0
 |one (dx:am) (h:H a=ac (.ins c1 dx [("sender",.int s),("to",.int to)])):HZ cL c1 cA H a s to 1
 |all (dx:am) (h:H a=ac (.ins cA dx [("sender",.int s)])):HZ cL c1 cA H a s to 2
section
variable{cL c1 cA:am}{H H':Hp}{a lh q:am}{s to k:Int}{xs:List V}
theorem HZ.mono(h:HZ cL c1 cA H a s to k)(e:aG H H'):HZ cL c1 cA H' a s to k:=by cases h with|bare b h=>exact .bare b (e _ _ h)|one b h=>exact .one b (e _ _ h)|all b h=>exact .all b (e _ _ h)
end
end TW
namespace L2
open PySem PySem.W PyProof.Rows
section
variable{n:Nat}{r:Nat->Int}{cmp:Nat->Nat->(Bool->aw->Prop)->aw->Prop}{s:aw}
def Pm(n:Nat)(p:Array Nat):Prop:=p.Perm (List.toArray (aB n))
theorem Pm.size{p:Array Nat}(h:Pm n p):p.size=n:=by have:=h.size_eq;simpa using this
theorem Pm.lt{p:Array Nat}(h:Pm n p){k:Nat}(b:k<n):p.getD k 0<n:=by have a:=h.size;have e:p.getD k 0=p[k]'∅:=(by simp[Array.getD,a,b]);rw[e];have:p[k]'∅∈p:=Array.getElem_mem _;have:=(h.mem_iff).mp this;simpa using this
noncomputable def kv(r:Nat->Int)(p:Array Nat)(k:Nat):Int:=r (p.getD k 0)
def Fg(r:Nat->Int)(p:Array Nat)(m:Nat):Prop:=∀i j,i<j->j<m->kv r p i<=kv r p j
def JV(r:Nat->Int)(p:Array Nat)(m:Nat):Prop:=∀i j,i<j->j<m->kv r p j<=kv r p i
def Xw(r:Nat->Int)(p:Array Nat)(a b:Nat):Prop:=∀i j,a<=i->i<b->a<=j->j<b->kv r p i=kv r p j
theorem Fg.next{p:Array Nat}{m:Nat}(h:Fg r p m)(f:1<=m)(b:kv r p (m-1)<=kv r p m):Fg r p (m+1):=λi j a d=>by
 by_cases e:j=m
 ·subst e
  by_cases c:i=j-1
  ·rw[c];exact b
  ·exact Int.le_trans (h i (j-1) ∅ ∅) b
 ·exact h i j a ∅
theorem JV.next{p:Array Nat}{m:Nat}(h:JV r p m)(f:1<=m)(b:kv r p m<=kv r p (m-1)):JV r p (m+1):=λi j a d=>by
 by_cases e:j=m
 ·subst e
  by_cases c:i=j-1
  ·rw[c];exact b
  ·exact Int.le_trans b (h i (j-1) ∅ ∅)
 ·exact h i j a ∅
theorem agh{p:Array Nat}{m:Nat}:Xw r p (m+1-(0+1)) (m+1):=λi j a b c d=>by
 have:i=j:=∅
 rw[this]
theorem agi{p:Array Nat}:Fg r p 1:=λi j a b=>∅
theorem JW{p:Array Nat}{a b k:Nat}(f:b<=p.size)(d:a<=b):kv r (kas_rev p a b) k=if a<=k/\k<b then kv r p (a+b-1-k) else kv r p k:=by
 unfold kv;have e:(kas_rev p a b)[k]?=if a<=k/\k<b then p[a+b-1-k]? else p[k]?:=by unfold kas_rev;rw[getElem?_mirror f ((b-a)/2) ∅ k];by_cases h:a<=k/\k<b;rw[eL h];by_cases c:a<=k/\k<a+(b-a)/2∨b-(b-a)/2<=k/\k<b;rw[eL c];rw[e8 c];congr 1;lia;rw[e8 h,e8 ∅]
 have g:∀(q:Array Nat)(i:Nat),q.getD i 0=(q[i]?).getD 0:=λq i=>(by simp[oM]);rw[g,e];by_cases h:a<=k/\k<b;rw[eL h,eL h,g];rw[e8 h,e8 h,g]
theorem Pm.rev{p:Array Nat}(h:Pm n p)(a b:Nat):Pm n (kas_rev p a b):=(mirror_perm _ _ _ _).trans h
theorem Xx{p:Array Nat}{m:Nat}(a:m<=p.size)(h:JV r p m):Fg r (kas_rev p 0 m) m:=λi j c b=>by
 rw[JW a (aS _),JW a (aS _),eL ⟨aS _,6⟩,eL ⟨aS _,b⟩];exact h _ _ ∅ ∅
theorem GL{p:Array Nat}{a m:Nat}(d:m<=p.size)(b:a<=m)(h:JV r p m)(e:Xw r p a m):JV r (kas_rev p a m) m/\∀k,m<=k->kv r (kas_rev p a m) k=kv r p k:=by have same:∀k,kv r (kas_rev p a m) k=kv r p k:=λk=>(by rw[JW d b];by_cases h:a<=k/\k<m;rw[eL h];exact e _ _ ∅ ∅ h.1 h.2;rw[e8 h]);exists λi j c f=>by rw[same,same];exact h i j c f,λk _=>same k
variable(hc:∀i j C,i<n->j<n->C (decide (r i<r j)) s->cmp i j C s)
include hc
theorem Up{p:Array Nat}(i:Pm n p):∀(f m:Nat){Q:Nat->aw->Prop},1<=m->m+f=n->Fg r p m ->
 (∀e,m<=e->e<=n->Fg r p e->(e<n->kv r p e<kv r p (e-1))->Q e s)->(kas_asc p f m).kasWp cmp Q s
 |0,m,Q,j,l,g,k=>k m (az _) ∅ g (λz=>∅)
 |f+1,m,Q,j,l,g,k=>by
  refine hc _ _ _ (i.lt ∅) (i.lt ∅) ?_;by_cases h:kv r p m<kv r p (m-1)
  ·rw[show decide (r (p.getD m 0)<r (p.getD (m-1) 0))=ag from fy h]
   exact k m (az _) ∅ g λ_=>h
  ·rw[show decide (r (p.getD m 0)<r (p.getD (m-1) 0))=al from gn h]
   exact Up i f (m+1) ∅ ∅ (g.next j ∅) λe a b c d=>k e ∅ b c d
theorem Jt:∀(f:Nat)(p:Array Nat)(m q:Nat){Q:Array Nat×Nat×Nat->aw->Prop},Pm n p->1<=m->m+f=n->q+1<=m->JV r p m->Xw r p (m-(q+1)) m ->
 (∀t h q',Pm n t->1<=h->h<=n->q'+1<=h->JV r t h->Xw r t (h-(q'+1)) h->Q (t,h,q') s)->(kas_desc f p m q).kasWp cmp Q s
 |0,p,m,q,Q,e,o,A,w,hd,l,k=>k p m q e o ∅ w hd l
 |f+1,p,m,q,Q,e,o,A,w,hd,l,k=>by
  have hz:=e.size;refine hc _ _ _ (e.lt ∅) (e.lt ∅) ?_;by_cases y:kv r p m<kv r p (m-1)
  ·rw[show decide (r (p.getD m 0)<r (p.getD (m-1) 0))=ag from fy y]
   show ((if ag=ag then (if q > 0 then kas_desc f (kas_rev p (m-(q+1)) m) (m+1) 0 else kas_desc f p (m+1) 0) else _):KasT _).kasWp cmp Q s;rw[eL rfl];have g:∀{t:Array Nat},Xw r t (m+1-(0+1)) (m+1):=λi j a b c d=>by
    have:i=j:=∅
    rw[this]
   by_cases u:q > 0
   ·rw[eL u]
    obtain⟨C,E⟩:=GL ∅ (Nat.sub_le _ _) hd l;refine Jt f _ (m+1) 0 (e.rev _ _) ∅ ∅ ∅ (C.next o ?_) g k;rw[E m (az _)]
    have:kv r (kas_rev p (m-(q+1)) m) (m-1)=kv r p (m-1):=by
     rw[JW ∅ (Nat.sub_le _ _)];split
     ·exact l _ _ ∅ ∅ ∅ ∅
     ·rfl
    lia
   ·rw[e8 u]
    exact Jt f p (m+1) 0 e ∅ ∅ ∅ (hd.next o ∅) g k
  ·rw[show decide (r (p.getD m 0)<r (p.getD (m-1) 0))=al from gn y]
   refine hc _ _ _ (e.lt ∅) (e.lt ∅) ?_;by_cases z:kv r p (m-1)<kv r p m
   ·rw[show decide (r (p.getD (m-1) 0)<r (p.getD m 0))=ag from fy z]
    exact k p m q e o ∅ w hd l
   ·rw[show decide (r (p.getD (m-1) 0)<r (p.getD m 0))=al from gn z]
    have B:kv r p m=kv r p (m-1):=∅
    refine Jt f p (m+1) (q+1) e ∅ ∅ ∅ (hd.next o ∅) (λi j a b c d=>?_) k;have v:∀x,m+1-(q+1+1)<=x->x<m+1->kv r p x=kv r p (m-1):=λx a b=>by
     by_cases D:x=m
     ·rw[D];exact B
     ·exact l x (m-1) ∅ ∅ ∅ ∅
    rw[v i a b,v j c d]
theorem Q8{m:Nat}{p:Array Nat}{Q:Nat×Array Nat->aw->Prop}(e:Pm n p)(h:1<=m)(i:m<=n)(g:JV r p m)(k:∀d f,Pm n f->1<=d->d<=n->Fg r f d->Q (d,f) s):(kas_tail3 m n p).kasWp cmp Q s:=by unfold kas_tail3;rw[KasT.kasWp_bind];exact Up hc (e.rev 0 m) (n-m) m h ∅ (Xx (by have:=e.size;lia) g) λd a b c _=>k d _ (e.rev 0 m) ∅ b c
theorem Ia{m:Nat}{p:Array Nat}{Q:Nat×Array Nat->aw->Prop}(i:Pm n p)(q:1<=m)(l:m<n)(h:JV r p (m+1))(k:∀a b,Pm n b->1<=a->a<=n->Fg r b a->Q (a,b) s):(kas_descPart m n p).kasWp cmp Q s:=by unfold kas_descPart;rw[KasT.kasWp_bind];refine Jt hc (n-(m+1)) p (m+1) 0 i ∅ ∅ ∅ h agh λb a j a1 c e o f g=>?_;dsimp only;by_cases d:j > 0;rw[eL d];exact Q8 hc (a1.rev _ _) c e (GL (by have:=a1.size;lia) (Nat.sub_le _ _) f g).1 k;rw[e8 d];exact Q8 hc a1 c e f k
theorem ZU{p:Array Nat}{Q:Nat×Array Nat->aw->Prop}(c:Pm n p)(H:1<=n)(k:∀g t,Pm n t->1<=g->g<=n->Fg r t g->Q (g,t) s):(kas_count n p).kasWp cmp Q s:=by unfold kas_count;rw[KasT.kasWp_bind];refine Up hc c (n-1) 1 (az _) ∅ agi λm a b f q=>?_;by_cases e:m=n;rw[eL (by simp[e])];exact k m p c a b f;rw[e8 (by simp[e])];have q:=q ∅;by_cases u:m > 1;rw[eL u];refine hc _ _ _ (c.lt ∅) (c.lt ∅) ?_;by_cases v:kv r p 0<kv r p (m-1);rw[show decide (r (p.getD 0 0)<r (p.getD (m-1) 0))=ag from fy v];exact k m p c a b f;rw[show decide (r (p.getD 0 0)<r (p.getD (m-1) 0))=al from gn v];have h:Xw r p 0 m:=(by have d:∀x,x<m->kv r p x=kv r p 0:=λx o=>(by by_cases C:x=0;rw[C];have E:=f 0 x ∅ o;by_cases z:x=m-1;rw[z] at E ⊢;lia;have:=f x (m-1) ∅ ∅;lia);exact λi j _ G _ A=>(by rw[d i G,d j A]));have y:JV r p m:=λi j l w=>(by rw[h i j (aS _) ∅ (aS _) w];exact Int.le_refl _);obtain⟨D,F⟩:=GL (by have:=c.size;lia) (aS _) y h;refine Ia hc (c.rev 0 m) ∅ ∅ (D.next ∅ ?_) k;rw[F m (az _),JW (by have:=c.size;lia) (aS _),eL ⟨aS _,6⟩];have:=h (0+m-1-(m-1)) (m-1) (aS _) ∅ (aS _) ∅;lia;rw[e8 u];have B:m=1:=∅;subst B;refine Ia hc c (az _) ∅ (λi j l w=>?_) k;have:i=0/\j=1:=∅;rw[this.1,this.2];exact Int.le_of_lt q
theorem JX{p:Array Nat}{d:Nat}(o:Pm n p)(q:d<n)(m:Fg r p d):∀(f l u:Nat){Q:Nat->aw->Prop},l<=u->u<=d->u-l<=f->(∀i,i<l->kv r p i<=kv r p d)->(∀i,u<=i->i<d->kv r p d<kv r p i) ->
 (∀j,j<=d->(∀i,i<j->kv r p i<=kv r p d)->(∀i,j<=i->i<d->kv r p d<kv r p i)->Q j s)->(kas_place p d f l u).kasWp cmp Q s
 |0,l,u,Q,v,g,t,a,b,k=>k l ∅ a (λi h=>b i ∅)
 |f+1,l,u,Q,v,g,t,a,b,k=>by
  show ((if l≥u then KasT.ret l else _):KasT Nat).kasWp cmp Q s;by_cases h:l≥u
  ·rw[eL h]
   exact k l ∅ a (λi h=>b i ∅)
  ·rw[e8 h]
   refine hc _ _ _ (o.lt q) (o.lt ∅) ?_;by_cases c:kv r p d<kv r p ((l+u)/2)
   ·rw[show decide (r (p.getD d 0)<r (p.getD ((l+u)/2) 0))=ag from fy c]
    refine JX o q m f l ((l+u)/2) ∅ ∅ ∅ a (λi x w=>?_) k;by_cases e:i=(l+u)/2
    ·rw[e];exact c
    ·exact Int.lt_of_lt_of_le c (m _ i ∅ w)
   ·rw[show decide (r (p.getD d 0)<r (p.getD ((l+u)/2) 0))=al from gn c]
    refine JX o q m f ((l+u)/2+1) u ∅ g ∅ (λi x=>?_) b k;by_cases e:i=(l+u)/2
    ·rw[e];lia
    ·have:=m i ((l+u)/2) ∅ ∅
     lia
omit hc in
theorem ZV{p:Array Nat}{a d k:Nat}(e:a<p.size)(c:d<=a):kv r (bubble p a d) k=if k=a-d then kv r p a else if a-d<k/\k<=a then kv r p (k-1) else kv r p k:=by unfold kv;have g:∀(q:Array Nat)(i:Nat),q.getD i 0=(q[i]?).getD 0:=λq i=>(by simp[oM]);rw[g,getElem?_bubble e d c k];by_cases h:k=a-d;rw[eL h,eL h,g];rw[e8 h,e8 h];by_cases b:a-d<k/\k<=a;rw[eL b,eL b,g];rw[e8 b,e8 b,g]
theorem ZW:∀(f:Nat)(p:Array Nat)(m:Nat){Q:Array Nat->aw->Prop},Pm n p->m+f=n->Fg r p m->(∀t,Pm n t->Fg r t n->Q t s)->(kas_bin f p m).kasWp cmp Q s
 |0,p,m,Q,o,u,c,k=>k p o (by rw[<- u];exact c)
 |f+1,p,m,Q,o,u,c,k=>by
  show ((kas_place p m m 0 m).bind λl=>kas_bin f (bubble p m (m-l)) (m+1)).kasWp cmp Q s;rw[KasT.kasWp_bind];refine JX hc o ∅ c m 0 m (aS _) (az _) ∅ (λi h=>∅) (λi z y=>∅) λl hl a b=>?_;have hz:=o.size;refine ZW f _ (m+1) ((bubble_perm _ _ _).trans o) ∅ (λi j q A=>?_) k;have w:m-(m-l)=l:=∅
  rw[ZV ∅ (Nat.sub_le _ _),ZV ∅ (Nat.sub_le _ _),w];by_cases v:i=l
  ·rw[eL v,e8 ∅,eL ∅]
   exact Int.le_of_lt (b (j-1) ∅ ∅)
  ·rw[e8 v]
   by_cases d:l<i/\i<=m
   ·rw[eL d,e8 ∅,eL ∅]
    exact c (i-1) (j-1) ∅ ∅
   ·rw[e8 d]
    by_cases g:j=l
    ·rw[eL g];exact a i ∅
    ·rw[e8 g]
     by_cases e:l<j/\j<=m
     ·rw[eL e]
      by_cases x:i=j-1
      ·rw[x];exact Int.le_refl _
      ·exact c i (j-1) ∅ ∅
     ·rw[e8 e]
      exact c i j q ∅
theorem acL{Q:Array Nat->aw->Prop}(f:1<=n)(k:∀p,Pm n p->Fg r p n->Q p s):(kas_sort n).kasWp cmp Q s:=by unfold kas_sort;rw[KasT.kasWp_bind];refine ZU hc (Array.Perm.refl _) f λm p d a b c=>?_;dsimp only;by_cases h:m<n;rw[eL h];have e:max m 1=m:=∅;rw[e];exact ZW hc (n-m) p m d ∅ c k;rw[e8 h];have:m=n:=∅;subst this;exact k p d c
end
end L2
namespace L2
open PySem PySem.W PySem.Spec PyProof.Rows
abbrev T3:=Int×Int×Int
noncomputable def A9(x y:T3):Bool:=decide (x.1<y.1) || (decide (x.1=y.1)&&(decide (x.2.1<y.2.1) || (decide (x.2.1=y.2.1)&&decide (x.2.2<y.2.2))))
theorem zj{x y:T3}:A9 x y=ag↔x.1<y.1∨(x.1=y.1/\(x.2.1<y.2.1∨(x.2.1=y.2.1/\x.2.2<y.2.2))):=by unfold A9;simp[ur,dg]
theorem Xy{x y z:T3}(a:A9 x y=ag)(b:A9 y z=ag):A9 x z=ag:=by rw[zj] at *;lia
theorem acM(x:T3):A9 x x=al:=by rw[iw];intro z;rw[zj] at z;lia
theorem le3{x y z:T3}(a:A9 x y=al)(b:A9 z y=ag):A9 z x=ag:=by have c:¬A9 x y=ag:=(by rw[a];exact aH);rw[zj] at *;lia
noncomputable def Nk(ts:List T3)(x:T3):Int:=((ts.filter λz=>A9 z x).length:Nat)
theorem filter_le{c:Type}{p q:c->Bool}:∀{l:List c},(∀z,p z=ag->q z=ag)->(l.filter p).length<=(l.filter q).length
 |[],_=>az _
 |a::l,h=>by
  have d:=filter_le (l:=l) h;rw[dM,dM];by_cases b:p a=ag
  ·rw[eL b,eL (h a b),bC,bC];lia
  ·rw[e8 b]
   split
   ·rw[bC];lia
   ·exact d
theorem filter_lt{b:Type}{p q:b->Bool}{x:b}:∀{l:List b},(∀z,p z=ag->q z=ag)->x∈l->p x=al->q x=ag->(l.filter p).length<(l.filter q).length
 |a::l,h,hx,e,d=>by
  rw[dM,dM];rcases bR.mp hx with rfl|hx
  ·rw[e8 (by rw[e];exact aH),eL d,bC]
   have:=filter_le (l:=l) h
   lia
  ·have f:=filter_lt h hx e d
   by_cases c:p a=ag
   ·rw[eL c,eL (h a c),bC,bC];lia
   ·rw[e8 c]
    split
    ·rw[bC];lia
    ·exact f
theorem Q9{ts:List T3}{x y:T3}(b:x∈ts):decide (Nk ts x<Nk ts y)=A9 x y:=by unfold Nk;cases e:A9 x y with|true=>refine fy ?_;have:=filter_lt (l:=ts) (p:=λz=>A9 z x) (q:=λz=>A9 z y) (x:=x) (λz a=>Xy a e) b (acM x) e;lia|false=>refine gn ?_;have:=filter_le (l:=ts) (p:=λz=>A9 z y) (q:=λz=>A9 z x) (λz a=>le3 e a);lia
noncomputable abbrev t3V(x:T3):List V:=[.int x.1,.int x.2.1,.int x.2.2]
def Tri(h:Heap)(v:ar)(x:T3):Prop:=∃(q:am)(o:Obj)(n:Nat)(t1 t2 t3:Tok),v=.ref q/\h.get? q=ac o/\o.cls=.type "tuple" /\ o.data=.seq #[.int x.1 t1,.int x.2.1 t2,.int x.2.2 t3] n
section
variable{prog:ci}{w:World}{A:cm}{s:aw}
theorem agk{E:ar->aw->Prop}{u v:ar}{x y:T3}{C:Bool->aw->Prop}(g:Tri s.heap u x)(f:Tri s.heap v y)(k:C (A9 x y) s):cf (model prog w) A (keyLt' (tuples' ag) u v) C E s:=by
 obtain⟨p,o,n,G,J,B,rfl,i,m,j⟩:=g;obtain⟨q,D,t,r,I,H,rfl,h,F,l⟩:=f;refine kat_lt i j h l ?_;refine kat_cons (wpAny_eqBool_int (kat_go (λb=>kat_yes ?_) λb=>kat_no (oneLt_int ?_)));case refine_2=>have d:¬x.1=y.1:=(by simpa using b);have e:A9 x y=decide (x.1<y.1):=(by unfold A9;rw[gn d];simp);rw[<- e];exact k
 have b:x.1=y.1:=(by simpa using b);refine kat_cons (wpAny_eqBool_int (kat_go (λa=>kat_yes ?_) λa=>kat_no (kat_one _ _ (lt_int ?_))));case refine_2=>have d:¬x.2.1=y.2.1:=(by simpa using a);have e:A9 x y=decide (x.2.1<y.2.1):=(by rw[jo,zj,decide_eq_true_eq];lia);rw[<- e];exact k
 have a:x.2.1=y.2.1:=(by simpa using a);refine kat_cons (wpAny_eqBool_int (kat_go (λc=>kat_yes (kat_nil ?_)) λc=>kat_no (kat_one _ _ (lt_int ?_))));have c:x.2.2=y.2.2:=(by simpa using c);have e:A9 x y=al:=(by rw[iw];intro z;rw[zj] at z;lia);rw[e] at k;exact k;have e:A9 x y=decide (x.2.2<y.2.2):=(by rw[jo,zj,decide_eq_true_eq];lia);rw[<- e];exact k
theorem JY{h:Heap}:∀{vs:List ar}{ts:List T3},wL vs=ts.length->(∀(i:Nat)v x,vs[i]?=ac v->ts[i]?=ac x->Tri h v x)->∃d,KatTups h vs d/\wL d=vs.length/\∀f∈d,∃i t,f=Value.int i t
 |[],[],_,_=>⟨[],trivial,2,λ_ hf=>ff hf (-_)⟩
 |v::vs,x::ts,hl,h=>by
  obtain⟨d,a,b,c⟩:=JY (vs:=vs) (ts:=ts) (by simpa using hl) λi v x k g=>h (i+1) v x (by simpa using k) (by simpa using g);obtain⟨q,o,n,l,r,p,rfl,j,e,m⟩:=h 0 v x rfl rfl;exists .int x.1 l::d,KatTups.cons j e m rfl a,by simp[b],λf hf=>?_;rcases bR.mp hf with rfl|hf
  ·exists 31
  ·exact c f hf
end
section
variable{prog:ci}{w:World}{A:cm}{s:aw}{E:ar->aw->Prop}
theorem ZX{d:am}{v:ar}{c:Nat}{P:PySem.Fin->aw->Prop}(a:s.heap.get? d=ac (seqObj "list" [v].toArray c))(k:P (.done (.ret .none)) {s with heap:=sortedHeap s.heap d [v] #[v]}) :cf (model prog w) A (Builtin.«list.sort» ⟨[.ref d],[]⟩) P E s:=by
 have j:d<s.heap.objs.size:=a9 a;rw[list_sort_plain];refine ax (listItems_at a rfl (ax (listUpdate_at a rfl ?_)));have b:∃e,(s.heap.update d (Obj.mapSeq λ_=>#[])).get? d=ac (seqObj "list" #[] e):=⟨_,get?_update_seq a (λ_=>#[])⟩;obtain⟨e,b⟩:=b;refine ax (seqEpoch_at b rfl (ax (wpAny_newTuple (ax (wpAny_newList (wpAny_holding ?_))))));have i:(s.heap.update d (Obj.mapSeq λ_=>#[])).objs.size=s.heap.objs.size:=Heap.size_update _ _ _;have h:(((s.heap.update d (Obj.mapSeq λ_=>#[])).push (seqObj "tuple" [v].toArray 0)).push (seqObj "list" #[] 0)).get? d=ac (seqObj "list" #[] e):=
  a7 _ (a7 _ b)
 show cf (model prog w) A _ P E {s with heap:=((s.heap.update d (Obj.mapSeq λ_=>#[])).push (seqObj "tuple" [v].toArray 0)).push (seqObj "list" #[] 0)};have g:[v].toArray.size<2:=-_;have f:(arrOf (SortSt.mk' general' (#[v].zip #[v]) #[] 7 ae)).map (·.2)=#[v]:=(by show (#[v].zip #[v]).map (·.2)=#[v];simp);dsimp only;rw[eL g,eL g];refine ax (a6 ?_);rw[StateT.run_pure];refine ax (a6 (ax (seqEpoch_at h rfl (ax (listUpdate_at h rfl ?_ (hsz2:=?_))))));simp only[bne_self_eq_false,Bool.false_eq_true,if_false];refine a6 ?_;rw[f];exact k;show ((arrOf (SortSt.mk' general' (#[v].zip #[v]) #[] 7 ae)).map (·.2)).size<=bc+1;rw[f];show 1<=bc+1;exact Nat.le_add_left _ _
theorem Uq{l:am}{v:ar}{Q:ar->aw->Prop}(hl:s.heap.IsList l [v].toArray)(k:Q (.ref (s.heap.objs.size+1)) {s with heap:=sortedAll s.heap [v] #[v]}):cf (model prog w) A (call (.builtin "sorted") [.ref l]) Q E s:=by refine Calls.call_function_entry kind_sorted plain_sorted entry_sorted (args_sorted1 _) ?_;unfold Builtin.«sorted»;refine ax (m:=checkCount "sorted" 1 1 _) (a6 (ax (collect_list hl (ax (wpAny_newList ?_)))));have b:((s.heap.push (seqObj "list" #[] 0)).update s.heap.objs.size (Obj.mapSeq (·++[v].toArray))).objs.size=s.heap.objs.size+1:=(Heap.size_update _ _ _).trans (size_push' _ _);have a:(((s.heap.push (seqObj "list" #[] 0)).update s.heap.objs.size (Obj.mapSeq (·++[v].toArray))).push (seqObj "list" [v].toArray 0)).get? (s.heap.objs.size+1)=ac (seqObj "list" [v].toArray 0):=b▸a8 _ rfl;show cf _ _ _ _ _ {s with heap:=((s.heap.push (seqObj "list" #[] 0)).update s.heap.objs.size (Obj.mapSeq (·++[v].toArray))).push (seqObj "list" [v].toArray 0)};rw[b];exact ax (wpAny_holding (wpAny_call_entry slot_list_sort ⟨_,a,2⟩ entry_list_sort (ZX a ⟨1,a6 ⟨1,k⟩⟩) (args_list_sort _)))
end
def gP(K:ai)(H:Hp)(qs:List am)(ts:List T3):Prop:=qs.length=ts.length/\∀(i:Nat)q t,qs[i]?=ac q->ts[i]?=ac t->cD K H q (t3V t)
theorem gP.mono{K:ai}{H c:Hp}{qs:List am}{ts:List T3}(s:aG H c)(h:gP K H qs ts):gP K c qs ts:=⟨h.1,λi q t a b=>s.bP (h.2 i q t a b)⟩
def CM(ts:List T3):Prop:=∀(i j:Nat)(x y:T3),i<j->ts[i]?=ac x->ts[j]?=ac y->A9 y x=al
section
variable{X:Cx}
def ZY(K:ai):List V->Hp->VK->Prop:=λxs H Q=>∃(a:am)(qs:List am)(ts:List T3),xs=[.ref a]/\bI K H a (qs.map cr)/\gP K H qs ts/\wL ts<64 /\
 ∀l(Ur:List am)(ts':List T3),H l=ae->ts'.Perm ts->CM ts'->gP K H Ur ts'->Q (.ref l) (upd H l (.lst (Ur.map cr)))
theorem VM:∀{qs:List am}{a:List ar},cO (qs.map cr) a->a=qs.map Value.ref
 |[],_,r=>by cases r;rfl
 |q::qs,_,r=>by
  cases r with
  |cons h t=>
   have h:_=Value.ref q:=h;rw[h,VM t];rfl
theorem Nl:∀qs:List am,cO (qs.map cr) (qs.map Value.ref)
 |[]=>.nil
 |q::qs=>.cons rfl (Nl qs)
theorem map_getD{b:Type}(d:b):∀l:List b,(aB l.length).map (λi=>l.getD i d)=l:=λl=>by
 apply yZ
 ·simp
 ·intro i a c
  simp at a;simp[a]
theorem Fi:qg X (.builtin "sorted") (ZY X.K):=by
 intro U s σ H xs us Q I r ⟨a,w,ts,e,hq,ht,h64,q⟩;subst e;obtain⟨u,e,ru⟩:=cO.one r;subst e;cases ru;obtain⟨its,rv,p,hz⟩:=I.list hq;have ank:=VM rv;subst ank;have W:=ht.1;by_cases h0:wL ts=0;have d:w=[]:=mG.mp ∅;subst d;have B:ts=[]:=mG.mp h0;subst B;refine A7 U s σ H [cr a] [Value.ref a] Q I (.cons rfl .nil) ⟨a,[],2,hq,!_,λl ns' hl P _=>?_⟩;have:ns'=[]:=List.Perm.eq_nil P;subst this;exact q l [] [] hl (List.Perm.refl _) (λi j x y _ h=>by simp at h) ⟨2,λi q t h=>by simp at h⟩;by_cases h1:wL ts=1;obtain⟨E,d⟩:∃E,w=[E]:=List.length_eq_one_iff.mp ∅;subst d;refine Uq (v:=.ref E) p.isList ?_;obtain⟨e,he⟩:=sortedAll_at s.heap [.ref E] #[.ref E];exists .ref (s.heap.objs.size+1),_,I.laid (a:=s.heap.objs.size+1) (o:=.lst [.ref E]) (t':=s.toks) (λb o e=>sortedAll_old e) (eB _) ⟨4,[.ref E],e,.cons rfl .nil,he⟩,2,q _ [E] ts (I.hok.fresh (eB _)) (List.Perm.refl _) (λi j x y hij h1' N=>?_) ht;show 1<=bc;decide;have:=(aj.mp N).1;lia;have h2:2<=wL ts:=∅;obtain⟨m,F⟩:=I.fr;have anl:∀(i:Nat)v x,(w.map Value.ref)[i]?=ac v->ts[i]?=ac x->Tri s.heap v x:=λi v x d B=>by
  rw[ak] at d;cases e3:w[i]? with
  |none=>rw[e3] at d;cases d
  |some E=>
   rw[e3] at d;cases d;obtain⟨jt,rj,tp,_⟩:=I.tuple (ht.2 i E x e3 B);obtain⟨o,ho,hc,n,hd⟩:=tp;cases rj with
   |cons x1 r1=>cases r1 with
    |cons x2 r2=>cases r2 with
     |cons x3 r3=>
      cases r3;obtain⟨t1,rfl⟩:=x1;obtain⟨t2,rfl⟩:=x2;obtain⟨t3,rfl⟩:=x3;exists E,o,n,t1,t2,t3,2,ho,hc,hd
 have aeE:∀{h':Heap} {m':Str->Option ar},Fr X.base X.env.locals h' m'->(∀p∈EW X.base s.heap X.env.locals,h'.get? p.1=ac p.2)->∀b o,b≠X.env.locals->s.heap.get? b=ac o->h'.get? b=ac o:=λ{h' m'} F' N' b o G e=>(by cases g:X.base.get? b with|some u=>have:=I.bk b u g;rw[e] at this;cases this;exact F'.keep b _ g|none=>exact N' (b,o) (HP G g e));have anm:∀{h':Heap},(∀b o,b≠X.env.locals->s.heap.get? b=ac o->h'.get? b=ac o)->∀(i:Nat) v x,(w.map Value.ref)[i]?=ac v->ts[i]?=ac x->Tri h' v x:=λ{h'} kp i v x d B=>(by obtain⟨E,o,n,t1,t2,t3,rfl,ho,hc,hd⟩:=anl i v x d B;exists E,o,n,t1,t2,t3,2,kp E o (λz=>?_) ho,hc,hd;obtain⟨m0,⟨oL,es,ep,hoL,hdL,_⟩,_⟩:=I.loc;rw[z,hoL] at ho;cases ho;rw[hdL] at hd;cases hd);refine kat_sorted (vs:=w.map Value.ref) F (YV (g:=X.base) (h:=s.heap) (L:=X.env.locals)) p.isList (by rw[af];lia) (by rw[af];lia) λD d h' F' N' hD=>?_;have kp':=aeE F' λp P=>(N' p (.tail _ P)).1;have Z:=anm kp';obtain⟨fs,kt,fl,fi⟩:=JY (h:=h') (vs:=w.map Value.ref) (ts:=ts) (by rw[af];exact W) Z;refine kat_kind (s:={s with heap:=h'}) (T:=.type "int") kt (by rw[fl,af];lia) (λf hf=>?_) rfl ?_;obtain⟨i,t,rfl⟩:=fi f hf;exact Looks.of_pure rfl;have ano:(Value.type "int" != Value.type "tuple")=ag:=!_;rw[ano];have hn:(w.map Value.ref).length=ts.length:=(by rw[af];exact W);have A:∀i,i<wL ts->(w.map Value.ref)[i]?=ac ((w.map Value.ref).getD i Value.none)/\ts[i]?=ac (ts.getD i (0,0,0)):=λi Y=>(by constructor;rw[ao,aa ∅];rfl;rw[ao,aa Y];rfl);refine acL (n:=(w.map Value.ref).length) (r:=λi=>Nk ts (ts.getD i (0,0,0))) (λi j C Y hj k=>?_) ∅ λpp P hu=>?_;rw[hn] at Y hj;unfold kas_ask;refine agk (x:=ts.getD i (0,0,0)) (y:=ts.getD j (0,0,0)) (Z i _ _ (A i Y).1 (A i Y).2) (Z j _ _ (A j hj).1 (A j hj).2) ?_;rw[<- Q9 (ts:=ts) (ay (A i Y).2)];exact k;have hDn:s.heap.get? D=ae:=(by cases g:s.heap.get? D with|none=>rfl|some o=>have hx:=N' (D,seqObj "list" #[] d) (.head _);have:=hD (D,o) (HP hx.2.1 hx.2.2 g);exact ff this (jf _));have hHD:H D=ae:=(by cases g:H D with|none=>rfl|some o=>obtain⟨ob,hob⟩:=(I.hok D o g).there;rw[hDn] at hob;cases hob);have J:pp.toList.Perm (aB (wL ts)):=(by have:=P.toList;rw[hn] at this;simpa using this);refine KasFin.intro F' N' (UpdF.head λp P=>bY (hD p P)) λN c F2 N2=>?_;have Mi:=aeE F2 λp P=>(N2 p (.tail _ P)).1;have hgD:=(N2 _ (.head _)).1;have anp:(pp.toList.map λi=>(w.map Value.ref).getD i Value.none)=(pp.toList.map λi=>w.getD i 0).map Value.ref:=(by rw[cU];refine cT λi Y=>?_;have hil:i<wL w:=(by have:=(J.mem_iff).mp Y;rw[cS] at this;lia);show (w.map Value.ref).getD i Value.none=Value.ref (w.getD i 0);rw[ao,ao,ak,aa hil];rfl);rw[anp] at hgD;have aji:wL pp.toList=ts.length:=(by rw[J.length_eq,bJ]);have neD:∀b o,s.heap.get? b=ac o->b≠D:=λb o e z=>(by rw[z,hDn] at e;cases e);have M:∀b o,H b=ac o->b≠D:=λb o e=>aC e hHD;have neL:∀b o,H b=ac o->b≠X.env.locals:=λb o e=>aC e I.free;exists .ref D,upd H D (.lst ((pp.toList.map λi=>w.getD i 0).map cr)),42,q D (pp.toList.map λi=>w.getD i 0) (pp.toList.map λi=>ts.getD i (0,0,0)) hHD ?_ ?_ ?_;show Inv X U σ _ {s with heap:=N,gens:=s.gens,drawn:=s.drawn,toks:=s.toks};refine I.step (s:=s) (t':=s.toks) (g':=s.gens) (d':=s.drawn) (h':=N) (ch:=[]) (λ_ z=>nomatch z) (λb o G _ _ e _=>Mi b o G e) (λb o G _ _ e _=>⟨o.slots,Mi b o G e⟩) (λb o _ e n=>by rw[aI (neD b o e)];exact n) (λb o _ e=>?_) (λb xs e=>by rw[aI (M b _ e)];exact e) (λb o u e=>by rw[aI (M b _ e)];exact e) (λb ps e=>⟨#[],by rw[aI (M b _ e),e];simp⟩) (λm' hm'=>?_) (λb o e=>?_) I.bare;by_cases G:b=X.env.locals;obtain⟨o',_,_,ho',_⟩:=F2.ns;exact⟨o',by rw[G];exact ho'⟩;exists o,Mi b o G e;have em:m'=m:=(by obtain⟨o1,es1,ep1,O,d1,k1,f1⟩:=hm';obtain⟨o2,es2,ep2,S,d2,k2,f2⟩:=F.ns;rw[O] at S;cases S;rw[d1] at d2;cases d2;funext x;rw[<- f1 x,<- f2 x]);rw[em];exact F2.ns;by_cases G:b=D;subst G;rw[au] at e;cases e;exists 4,(pp.toList.map λi=>w.getD i 0).map Value.ref,c,Nl _,hgD;rw[af,af,aji];exact iG (b9 ∅);rw[aI G] at e;refine (I.hok b o e).stay (λc u hc r=>?_) (λc r=>by rw[aI (M c _ r)];exact r) λc xs r=>(by rw[aI (M c _ r)];exact r);rcases hc with z|z;rw[z] at r ⊢;exact Mi b u (neL b o e) r;exact Mi c u (neL c _ z) r;have:=J.map λi=>ts.getD i (0,0,0);rw[map_getD] at this;exact this;intro i j x y hij d B;rw[ak] at d B;cases O:pp.toList[i]? with|none=>rw[O] at d;cases d|some R=>(cases S:pp.toList[j]? with|none=>rw[S] at B;cases B|some a2=>rw[O] at d;rw[S] at B;cases d;cases B;have hj:=(aj.mp S).1;have z:=hu i j hij ∅;have z:Nk ts (ts.getD (pp.getD i 0) (0,0,0))<=Nk ts (ts.getD (pp.getD j 0) (0,0,0)):=z;show A9 (ts.getD a2 (0,0,0)) (ts.getD R (0,0,0))=al;have k1:pp.getD i 0=R:=(by rw[oM,<- yd,O];rfl);have k2:pp.getD j 0=a2:=(by rw[oM,<- yd,S];rfl);rw[k1,k2] at z;have m2:a2<wL ts:=(by have:=(J.mem_iff).mp (ay S);rwa [cS] at this);rw[<- Q9 (ts:=ts) (ay (A a2 m2).2)];exact gn ∅)
 exists by rw[af,af],λi E t0 d B=>?_;rw[ak] at d B;cases O:pp.toList[i]? with|none=>rw[O] at d;cases d|some R=>rw[O] at d B;cases d;cases B;have m1:R<wL ts:=(by have:=(J.mem_iff).mp (ay O);rwa [cS] at this);refine ht.2 R _ _ ?_ (A R m1).2;show w[R]?=ac (w.getD R 0);rw[ao,aa ∅];rfl
end
section
variable{X:Cx}{pins:List (am×Obj)}{σ:St}{H:Hp}{s:aw}
theorem Inv.anq{d:am}{o:Obj}{u:HO}(I:Inv X pins σ H s)(l:H d=ac (.AN o u))(C:∀f h,X.H₀ d≠ac (.AN f h)):Inv X pins σ (upd H d u) s:=by have m:∀b v,H b=ac v->(∀f h,v≠.AN f h)->b≠d:=λb v e B z=>(by rw[z,l] at e;cases e;exact B _ _ rfl);have k:∀b,H b=ae->(upd H d u) b=ae:=λb e=>(by rw[aI (λz=>by rw[z,l] at e;cases e)];exact e);have w:∀b y,H b=ac (.own y)->(upd H d u) b=ac (.own y):=λb y e=>(by rw[aI (m b _ e (by intro _ _ z;cases z))];exact e);have t:∀b g,H b=ac (.tup g)->(upd H d u) b=ac (.tup g):=λb g e=>(by rw[aI (m b _ e (by intro _ _ z;cases z))];exact e);exists I.ok,I.os,I.bare,⟨I.base.keep,I.base.slot,λb f e n D=>k b (I.base.free b f e n D),I.base.there,λb g e=>t b g (I.base.tups b g e),λb f h e=>?_,λb E e=>?_⟩,I.loc,I.cell,k _ I.free,λx c e=>k c (I.vO x c e),λp F=>?_,λb v e=>?_,I.len;have j:=I.base.Df b f h e;rw[aI (λz=>C f h (by rw[<- z];exact e))];exact j;obtain⟨i,j⟩:=I.base.EV b E e;exact⟨i,by rw[aI (m b _ j (by intro _ _ z;cases z))];exact j⟩;obtain⟨a,b,c⟩:=I.pin p F;exists a,k _ b,c;by_cases A:b=d;subst A;rw[au] at e;cases e;obtain⟨_,q⟩:=I.hok b _ l;exact q.stay (λc v _ r=>r) (λc r=>w c _ r) t;rw[aI A] at e;exact (I.hok b v e).stay (λc v _ r=>r) (λc r=>w c _ r) t
def ajk(t:TE):TE:=λσ H Q=>∃d kvs,H d=ac (.dT kvs)/\t σ H λv H1=>∃o,H1 d=ac (.AN o (.dT kvs))/\Q v (upd H1 d (.dT kvs))
theorem VN{e:Expr}{t:TE}(h:PE X e t):PE X e (ajk t):=by intro pins s σ H Q I ⟨d,b,f,q⟩;refine ir (h pins s σ H _ I q) λv m ⟨x,l,j,a,o,i,k⟩=>⟨x,_,j.anq i (λc g z=>?_),a,k⟩;have:=I.base.Df d c g z;rw[f] at this;cases this
end
section
variable{prog:ci}{w:World}{A:cm}{E:ar->aw->Prop}{s:aw}{d v it:am}{od:Obj}{es:Array DictEntry}{ep:Nat}
theorem Us{Q:ar->aw->Prop}(lo:(d==sysModules)=al)(c:s.heap.get? d=ac od)(b:od.ExactDict)(e:od.data=.dict es ep) (k:Q (.ref s.heap.objs.size) {s with heap:=s.heap.push {cls:=.type "dict_items",data:=.fields #[.ref d]}}):cf (model prog w) A (call (.builtin "dict.items") [.ref d]) Q E s:=by have a:s.TypeIs (.ref d) "dict" := ⟨od,c,b.1⟩;refine wpAny_call_entry F.slot_dict_items a F.entry_dict_items ?_ (F.args_dict_items_1 _);unfold Builtin.«dict.items» Builtin.Dict.noArgs Builtin.Dict.showsAll;refine ax (ax (wpAny_notOrdered_dict a (a6 ?_)));rw[e8 (by rw[lo];exact aH)];exact ax (a6 (ax (wpAny_newObj_type (a6 ⟨1,k⟩))))
theorem Ut{Q:ar->aw->Prop}(a:s.heap.IsItemsView v d)(c:s.heap.get? d=ac od)(b:od.data=.dict es ep) (k:Q (.ref s.heap.objs.size) {s with heap:=s.heap.push {cls:=.type "dict_itemiterator",data:=.fields #[.none,.bool al,.ref d,.int 0 0,.int es.size 0,.int ep 0,.none,.none]}}):cf (model prog w) A (pyIter (.ref v)) Q E s:=by obtain⟨g,f,h,e⟩:=id a;have own:Builtin.Dict_items.ownsTuple "dict_itemiterator" = ag:=!_;refine wpAny_pyIter_slot a.typeIs F.slot_dict_items_iter (wpAny_call_entry F.slot_dict_items_iter a.typeIs F.entry_dict_items_iter ?_ (F.args_dict_items_iter_1 _));unfold Builtin.«dict_items.__iter__» Builtin.Dict_items.dictOf Builtin.Dict_items.newIterator;refine ax (a6 (ax (ax (wpAny_field f e (x:=.ref d) rfl (a6 (ax (ax (wpAny_dictEntries c b (ax (wpAny_dictEpoch c b ?_))))))))));simp only[own,if_true];refine wpAny_newObj_type (a6 ⟨1,"dict_itemiterator",_,⟨_,a8 _ rfl,2⟩,F.slot_dict_itemiterator_next.lookup,4⟩) ?_;simpa [rawInt,Builtin.Dict_items.ownedTupleFields] using k;simp[sizeOk,Builtin.Dict_items.ownedTupleFields,sizeLine_eq]
theorem Uu{i:Nat}{a:DictEntry}{ok t:ar}{Q:Option ar->aw->Prop}(y:IsItemIter s.heap it d i es.size ep ok t)(V:s.heap.get? d=ac od)(Z:od.data=.dict es ep)(T:es[i]?=ac a) (k:∀h',IsItemIterOut h' it d (i+1) es.size ep a.key a.val s.heap.objs.size->h'.get? s.heap.objs.size=ac {cls:=.type "tuple",data:=.seq #[a.key,a.val]}->h'.objs.size=s.heap.objs.size+1 ->(∀b o,b≠it->s.heap.get? b=ac o->h'.get? b=ac o)->Q (ac (.ref s.heap.objs.size)) {s with heap:=h'}):cf (model prog w) A (pyNext (.ref it)) Q E s:=by obtain⟨h,g,l,r,os⟩:=s;have n:Shared.TypeIs ⟨h,g,l,r,os⟩ (.ref it) "dict_itemiterator" := ⟨_,y,2⟩;have own:Builtin.Dict_items.ownsTuple "dict_itemiterator" = ag:=!_;obtain⟨hlt,hen⟩:=jL.mp T;unfold pyNext;refine ax (wpAny_attempt (wpAny_callSpecial?_slot (name:=ba "__next__") n F.slot_dict_itemiterator_next (wpAny_call_entry F.slot_dict_itemiterator_next n F.entry_dict_itemiterator_next ?_ (F.args_dict_itemiterator_next_1 _))));refine ax (a6 (ax (ax (ax (wpAny_typeNameOfWhole_itemiter n (a6 (ax (wpAny_fieldsOf y rfl ?_))))))));simp only[own,if_true];have nn:¬(Value.ref d==Value.none)=ag:=aH;have O:¬(i:Int)<0:=∅;show cf (model prog w) A.in1 (if (Value.ref d==Value.none)=ag then _ else _) _ _ _;rw[e8 nn];refine ax (a6 (ax (wpAny_dictEntries V Z ?_)));rw[e8 (-_)];refine ax (a6 (ax (wpAny_dictEpoch V Z ?_)));rw[e8 (-_)];refine a6 ?_;simp only[O,if_false,cN,T];refine ax (ax (wpAny_typeNameOfWhole_itemiter n (a6 (ax (wpAny_isOneOf_itemiter n ?_)))));have t0:(rawInt ((i:Int)+1))=Value.int ((i+1:Nat):Int) 0:=(by show Value.int ((i:Int)+1) 0=_;rw[show ((i+1:Nat):Int)=(i:Int)+1 by lia]);show cf _ _ (setField (.ref it) 3 (rawInt ((i:Int)+1)) >>= _) _ _ ⟨h,g,l,r,os⟩;rw[t0];refine ax (wpAny_setField_rec y (-_) λj z e=>ax (wpAny_holding ?_));have z:IsItemIter j it d (i+1) es.size ep ok t:=z;have e:Heap.SameBut it h j:=e;have p:Shared.TypeIs ⟨j,g,l,r,os⟩ (.ref it) "dict_itemiterator" := ⟨_,z,2⟩;have K:j.objs.size=h.objs.size:=e.1;have H:it<h.objs.size:=a9 y;refine ax (wpAny_isOneOf_itemiter p (ax (wpAny_isOneOf_itemiter p ?_)));show cf _ _ (Builtin.Dict_items.pairFromOwner (.ref it) 6 a.key a.val) _ _ ⟨j,g,l,r,os⟩;unfold Builtin.Dict_items.pairFromOwner;refine ax (wpAny_newTuple ?_);obtain⟨f,u⟩:∃f,j.push {cls:=.type "tuple",data:=.seq #[a.key,a.val]}=f:=⟨1⟩;have v:IsItemIter f it d (i+1) es.size ep ok t:=u▸a7 _ z;have I:f.get? h.objs.size=ac {cls:=.type "tuple",data:=.seq #[a.key,a.val]}:=(by rw[<- u,<- K];exact a8 _ rfl);have z5:f.objs.size=h.objs.size+1:=(by rw[<- u,Heap.size_push,K]);have k5:∀b o,b≠it->h.get? b=ac o->f.get? b=ac o:=λb o c q=>u▸a7 _ (e.extBut b o c q);show cf _ _ (Builtin.Dict_items.ownedTupleIsFree (.ref it) >>= _) _ _ ⟨j.push {cls:=.type "tuple",data:=.seq #[a.key,a.val]},g,l,r,os⟩;rw[u,K];unfold Builtin.Dict_items.ownedTupleIsFree;refine ax (ax (wpAny_field v rfl (x:=.none) rfl (a6 ?_)));simp only[if_true];refine ax (wpAny_field v rfl (x:=ok) rfl (ax (wpAny_field v rfl (x:=t) rfl ?_)));refine ax (wpAny_setField_rec v (-_) λJ G P=>?_);have G:IsItemIter J it d (i+1) es.size ep a.key t:=G;refine ax (wpAny_setField_rec G (-_) λR L D=>?_);have L:IsItemIter R it d (i+1) es.size ep a.key a.val:=L;refine ax (wpAny_setField_rec L (-_) λB M N=>?_);have M:IsItemIterOut B it d (i+1) es.size ep a.key a.val h.objs.size:=M;refine ax (wpAny_setField_rec M (-_) λm C S=>?_);have C:IsItemIterOut m it d (i+1) es.size ep a.key a.val h.objs.size:=C;have Y:Heap.SameBut it f J:=P;have X:Heap.SameBut it J R:=D;have s8:Heap.SameBut it R B:=N;have U:Heap.SameBut it B m:=S;have W:∀b o,b≠it->f.get? b=ac o->m.get? b=ac o:=λb o c q=>U.extBut b o c (s8.extBut b o c (X.extBut b o c (Y.extBut b o c q)));refine ax (wpAny_letGo (a6 (a6 ⟨1,a6 (k m C (W _ _ (Nat.ne_of_gt H) I) ?_ λb o c q=>W b o c (k5 b o c q))⟩)));show m.objs.size=h.objs.size+1;rw[U.1,s8.1,X.1,Y.1,z5]
theorem Xz{i:Nat}{ok o:ar}{Q:Option ar->aw->Prop}(l:A.handled=ae)(e:IsItemIter s.heap it d i es.size ep ok o)(g:s.heap.get? d=ac od)(h:od.data=.dict es ep)(j:es.size<=i) (k:∀h',Heap.ExtBut it s.heap h'->Q ae {s with heap:=h'}):cf (model prog w) A (pyNext (.ref it)) Q E s:=by have c:s.TypeIs (.ref it) "dict_itemiterator" := ⟨_,e,2⟩;have own:Builtin.Dict_items.ownsTuple "dict_itemiterator" = ag:=!_;have n:¬(Value.ref d==Value.none)=ag:=aH;have f:¬(i:Int)<0:=∅;unfold pyNext;refine ax (wpAny_attempt (wpAny_callSpecial?_slot (name:=ba "__next__") c F.slot_dict_itemiterator_next (wpAny_call_entry F.slot_dict_itemiterator_next c F.entry_dict_itemiterator_next ?_ (F.args_dict_itemiterator_next_1 _))));refine ax (a6 (ax (ax (ax (wpAny_typeNameOfWhole_itemiter c (a6 (ax (wpAny_fieldsOf e rfl ?_))))))));simp only[own,if_true];show cf (model prog w) A.in1 (if (Value.ref d==Value.none)=ag then _ else _) _ _ _;rw[e8 n];refine ax (a6 (ax (wpAny_dictEntries g h ?_)));rw[e8 (-_)];refine ax (a6 (ax (wpAny_dictEpoch g h ?_)));rw[e8 (-_)];refine a6 ?_;simp only[f,if_false,cN,Array.getElem?_eq_none j];refine ax (ax (wpAny_typeNameOfWhole_itemiter c (a6 ?_)));show cf _ _ (setField (.ref it) 2 .none >>= _) _ _ s;refine ax (wpAny_setField e rfl (-_) ?_);unfold newExc newTuple raiseNew;refine ax (ax (wpAny_newObj_type (ax (m:=firstArgMember _ _) (wpAny_of_eq (a:=Value.none) rfl (wpAny_newObj_type (ax (wpAny_handled ?_)) (by size_fits)))) (by size_fits)));rw[show A.in1.handled=ae from l];refine ax (a6 (wpAny_throw ?_));refine ax ?_;refine wpAny_isInstance (T:="StopIteration") (b:=ag) ⟨_,a8 _ rfl,2⟩ isSubtype_stop ?_;have up:=(Heap.SameBut.update s.heap it (Obj.mapFields λx=>x.setIfInBounds 2 Value.none)).extBut;exact a6 (k _ ((up.push _).push _))
end
noncomputable def Dm(v d:am):HO:=.ext λh=>h.IsItemsView v d
section
variable{X:Cx}
def agm:V->List V->Hp->VK->Prop:=λx vs H Q=>∃d kvs,x=.ref d/\vs=[]/\H d=ac (.dT kvs)/\∀v,H v=ae->Q (.ref v) (upd H v (Dm v d))
theorem Ra:MtR X "dict.items" agm:=by intro g s B H x C v G Q I t y h;obtain⟨d,c,rfl,rfl,m,q⟩:=h;cases t;have f:=y.zero;subst f;obtain⟨z,lo,D,r,o,K,E,p,n,A,_⟩:=(show gI X.prog X.w H s.heap d (.dT c) from I.hok d _ m);refine Us lo p n A ⟨.ref s.heap.objs.size,_,I.laid (a:=s.heap.objs.size) (o:=Dm s.heap.objs.size d) (t':=s.toks) (λb o e=>a7 _ e) (az _) ⟨⟨_,a8 _ rfl,22⟩,⟨_,a8 _ rfl⟩,λJ F ⟨l,j,i,u⟩k=>⟨l,k _ j,i,u⟩⟩,2,q _ (I.hok.fresh (az _))⟩
noncomputable def Itx(d:am)(o:Obj)(kvs:List (List Key×V)):It:=
 ⟨λi H=>H d=ac (.AN o (.dT kvs))/\i<wL kvs,
  λi H x H'=>∃p kb k v,H p=ae/\x=.ref p/\H'=upd H p (.tup [.ref kb,v])/\kvs[i]?=ac (k,v)/\H kb=ac (.tup (k.map kV)),
  λi H=>H d=ac (.AN o (.dT kvs))/\wL kvs<=i⟩
theorem JZ{c d:Type}{F:c->d->Prop}:∀{l₁:List c}{l₂:List d},Paired F l₁ l₂->∀{i:Nat}{a:c},l₁[i]?=ac a->∃b,l₂[i]?=ac b/\F a b
 |_,_,.cons h t,0,a,e=>by cases e;exists 1,h
 |_,_,.cons h t,i+1,a,e=>JZ t (by simpa using e)
theorem Uv{P:ci}{w:World}{K:ai}{G:List Expr}{x1}{pos:Pos}(d f:am){o:Obj}{Q:Array DictEntry}{ep:Nat}{kvs:List (List Key×V)}(N:o.data=.dict Q ep):
 Turn P w K (.Tuple G x1 pos) (Itx d o kvs) [f] f (λi h=>∃ok x,IsItemIter h f d i Q.size ep ok x) where
 mem:=-_
 obj:=λi h ⟨ok,x,st⟩b a=>by
  have e:b=f:=by simpa using a
  subst e;exact⟨_,st,λv z=>by
   have z':Data.fields _=Data.cell v:=z;cases z'⟩
 keep:=λi h h' ⟨ok,x,st⟩k=>⟨ok,x,k f (-_) _ st⟩
 item:=by
  intro X Z hw hK j i l s σ H E I T ⟨ok,x,st⟩ hg;subst Z hw hK;obtain⟨e,B⟩:=hg;obtain⟨J,z,lo,xs,p,o',es',Y,D,g3,L,g5,g6⟩:=(show gI X.prog X.w H s.heap d (.AN o (.dT kvs)) from I.hok d _ e);rw[J] at D;cases D;rw[N] at L;cases L;obtain⟨R,O,f2,f3,U,f5⟩:=T f (-_);obtain⟨⟨k2,F,u⟩,hx,hk1,hk2,W⟩:=JZ p (aa B);have he:Q[i]?=ac (entryOfKey (tupleKind (i6 X.prog X.w)) (k2,F,u)):=by
   rw[<- yd,g5,ak,hx];rfl
  refine Uu st J N he λh' io tu sz kp=>⟨1,wpAny_letOwnedTupleGo_items io λS e2 M=>?_⟩;have g:H s.heap.objs.size=ae:=I.hok.fresh (az _);have lt:f<s.heap.objs.size:=a9 st;have A:∀b q,b≠f->s.heap.get? b=ac q->S.get? b=ac q:=λb q a r=>(M.2 b a).trans (kp b q a r);have C:∀b q,H b=ac q->b≠f:=λb q r z=>by rw[z,R] at r;cases r
  have tu2:S.get? s.heap.objs.size=ac {cls:=.type "tuple",data:=.seq #[.ref F,u]}:=(M.2 _ (Nat.ne_of_gt lt)).trans tu;have I1:Inv X l σ (upd H s.heap.objs.size (.tup [.ref F,kvs[i].2])) {s with heap:=S,toks:=s.toks}:=by
   refine I.step (g':=s.gens) (d':=s.drawn) (ch:=[f]) (λb a=>?_) (λb q _ _ j r _=>A b q (λz=>j (by simp[z])) r) (λb q _ _ j r _=>⟨q.slots,A b q (λz=>j (by simp[z])) r⟩)
    (λb q _ r n=>by rw[aI (bY (a9 r))];exact n) (λb q j r=>⟨q,A b q (λz=>j (by simp[z])) r⟩) (λb ys r=>by rw[aI (aC r g)];exact r) (λb q y r=>by rw[aI (aC r g)];exact r)
    (λb ps r=>⟨#[],by rw[aI (aC r g),r];simp⟩) (λm hm=>?_) (λb q r=>?_) I.bare
   ·have e:b=f:=by simpa using a
    subst e;exists f3,O,U,f5
   ·obtain⟨q,es2,ep2,hq,r⟩:=hm
    exists q,es2,ep2,A _ q (bT O) hq,r
   ·by_cases a:b=s.heap.objs.size
    ·subst a
     rw[au] at r;cases r;exists by show 2<=bc;decide,[.ref F,u],.cons rfl (.cons W .nil),⟨_,tu2,21⟩
    ·rw[aI a] at r
     refine (I.hok b q r).stay (λc y j t=>?_) (λc t=>by rw[aI (aC t g)];exact t) λc ys t=>by rw[aI (aC t g)];exact t
     rcases j with e|e
     ·rw[e] at t ⊢;exact A b y (C b q r) t
     ·exact A c y (C c _ e) t
  exists .ref s.heap.objs.size,_,I1,2,⟨_,F,kvs[i].1,kvs[i].2,g,22,aa B,hk2⟩,⟨33,e2⟩,λb a=>?_;have e:b=f:=by simpa using a
  subst e;rw[aI (bY lt)];exact R
 done:=by
  intro X Z hw hK j i l s σ H E I T ⟨ok,x,st⟩ hg;subst Z hw hK;obtain⟨e,hle⟩:=hg;obtain⟨J,z,lo,xs,p,o',es',Y,D,g3,L,g5,g6⟩:=(show gI X.prog X.w H s.heap d (.AN o (.dT kvs)) from I.hok d _ e);rw[J] at D;cases D;rw[N] at L;cases L;obtain⟨R,O,f2,f3,U,f5⟩:=T f (-_);have hl:Q.size=kvs.length:=by
   have:=gw wL g5
   rw[af,<- Paired.length p] at this
   simpa using this
  exact Xz (I.ok.hd j) st J N ∅ λh' eb=>⟨2,I.turned (t':=s.toks) (λb o a e=>eb b o a e) R O f3 U f5⟩
 self:=λ_ _ _ _ _ ⟨_,_,st⟩h=>kcp_self st h
def ago(td:TE):TI:=λσ H R=>td σ H λx H1=>∃v d kvs,x=.ref v/\H1 v=ac (Dm v d)/\H1 d=ac (.dT kvs)/\∀o,R (Itx d o kvs) (upd H1 d (.AN o (.dT kvs)))
theorem Rb{l:Expr}{C:TE}{i:List Expr}{x1}{g:Pos}(hl:PE X l C):PI X (.Tuple i x1 g) l (ago C):=by intro c s B H R I h;refine ir (hl c s B H _ I h) λv a ⟨x,k,m,J,O⟩=>?_;obtain⟨A,d,f,e,E,n,q⟩:=O;subst e;cases J;obtain⟨z,lo,K,r,o,Q,L,j,P,t,G⟩:=(show gI X.prog X.w k a.heap d (.dT f) from m.hok d _ n);obtain⟨F,_,_⟩:=(show gI X.prog X.w k a.heap A (Dm A d) from m.hok A _ E);have D:Inv X c B (upd k d (.AN o (.dT f))) a:=m.write (t':=a.toks) (h':=a.heap) (x:=d) (e:=d) (by rw[n];exact kP) (.inl rfl) (λb u _ q=>q) ⟨o,j⟩ ⟨j,z,lo,K,Paired.ab0 r λp q y=>⟨y.1,by rw[aI (oN y.2.1 n (by intro z;cases z))];exact y.2.1,y.2.2⟩,o,Q,L,j,P,t,G⟩;have N:(upd k d (.AN o (.dT f))) a.heap.objs.size=ae:=(by rw[aI (bT (bY (a9 j)))];exact m.hok.fresh (az _));refine Ut F j t ?_;exists a.heap.objs.size,[a.heap.objs.size],331,D.kept (t':=a.toks) λb o e=>a7 _ e,Uv d _ t,⟨33,a8 _ rfl⟩,λb M=>?_,q o;have e:b=a.heap.objs.size:=(by simpa using M);subst e;exact D.Y6 (az _) N
theorem ZZ{d:am}{o:Obj}{kvs:List (List Key×V)}{a:Hp}(h:a d=ac (.AN o (.dT kvs))):∀i H,i<wL kvs->aG a H->(Itx d o kvs).go i H:=λi H b s=>⟨s _ _ h,b⟩
theorem Rc{d:am}{o:Obj}{kvs:List (List Key×V)}{a:Hp}(h:a d=ac (.AN o (.dT kvs))):∀H,aG a H->(Itx d o kvs).stop kvs.length H:=λH s=>⟨s _ _ h,az _⟩
end
end L2
namespace L2
theorem Z0{X:Cx}(K:ai)(a:X.K=K):ya X (PySem.binaryOp .Add) (aeu K):=by subst a;exact acf
end L2
namespace TW
open PySem L2 PyProof.Rows
theorem O9{xs m:List T3}(h:xs.Perm m)(u:CM xs)(y:CM m):xs=m:=by have c:∀a b:T3,A9 a b=al->A9 b a=al->a=b:=λa b k g=>(by have e:¬A9 a b=ag:=(by rw[k];exact aH);have d:¬A9 b a=ag:=(by rw[g];exact aH);rw[zj] at e d;obtain⟨p,o,w⟩:=a;obtain⟨A,r,B⟩:=b;have t:p=A:=(by simp at e d;lia);subst t;have q:o=r:=(by simp at e d;lia);subst q;have x:w=B:=(by simp at e d;lia);rw[x]);have n:∀{l:List T3},CM l->l.Pairwise λa b=>A9 b a=al:=λ{l}v=>(by rw[List.pairwise_iff_getElem];intro i j s z f;exact v i j _ _ f (aa s) (aa z));exact List.Perm.eq_of_pairwise (λa b _ _ k g=>c a b g k) (n u) (n y) h
noncomputable def eY(t:T3):List Key×V:=([.inl t.1,.inl t.2.1],.int t.2.2)
noncomputable abbrev keyOf(h c:Int):List Key:=[.inl h,.inl c]
def eZ(ts:List T3):Prop:=(ts.map λt=>(t.1,t.2.1)).Nodup
noncomputable def oU(ts:List T3)(h c:Int):Option Int:=(ts.find? λt=>decide (t.1=h/\t.2.1=c)).map λt=>t.2.2
noncomputable def put3(ts:List T3)(h c r:Int):List T3:=(ts.filter λt=>!decide (t.1=h/\t.2.1=c))++[(h,c,r)]
theorem yi{ts:List T3}(n:eZ ts){h c r:Int}:oU ts h c=ac r↔(h,c,r)∈ts:=by
 unfold oU;constructor;intro e;cases f:ts.find? λt=>decide (t.1=h/\t.2.1=c) with|none=>rw[f] at e;cases e|some t=>rw[f] at e;cases e;have a:=List.find?_some f;have b:=List.mem_of_find?_eq_some f;have a:t.1=h/\t.2.1=c:=(by simpa using a);obtain⟨o,p,m⟩:=t;obtain⟨rfl,rfl⟩:=a;exact b
 intro e;cases f:ts.find? λt=>decide (t.1=h/\t.2.1=c) with|none=>have:=List.find?_eq_none.mp f _ e;simp at this|some t=>have a:=List.find?_some f;have b:=List.mem_of_find?_eq_some f;have a:t.1=h/\t.2.1=c:=(by simpa using a);obtain⟨i,g⟩:=bM e;obtain⟨j,d⟩:=bM b;have k:(ts.map λt=>(t.1,t.2.1))[i]?=ac (h,c):=(by rw[ak,g];rfl);have l:(ts.map λt=>(t.1,t.2.1))[j]?=ac (h,c):=(by rw[ak,d,<- a.1,<- a.2];rfl);have:i=j:=(p8 (aj.mp k).1 n).mp (k.trans l.symm);subst this;rw[g] at d;cases d;rfl
theorem Uw{xs a:List T3}(b:xs.Perm a)(nx:eZ xs){h c:Int}:oU xs h c=oU a h c:=by have d:eZ a:=(b.map _).nodup_iff.mp nx;cases e:oU a h c with|some r=>exact (yi nx).mpr (b.mem_iff.mpr ((yi d).mp e))|none=>(cases f:oU xs h c with|none=>rfl|some r=>have:=(yi d).mpr (b.mem_iff.mp ((yi nx).mp f));rw[e] at this;cases this)
theorem Z1{ts:List T3}(n:eZ ts){h c r:Int}:eZ (put3 ts h c r):=by unfold eZ put3;rw[aK,wK];exists 4,-_,λx d y b=>?_;exact List.Nodup.sublist ((List.filter_sublist).map _) n;obtain⟨t,f,rfl⟩:=bH.mp d;have a:=(bD.mp f).2;have e:y=(h,c):=(by simpa using b);rw[e];intro z;have g:t.1=h/\t.2.1=c:=⟨(Prod.mk.inj z).1,(Prod.mk.inj z).2⟩;simp[g] at a
theorem qv(t:T3)(h c:Int):(eY t).1=keyOf h c↔t.1=h/\t.2.1=c:=by unfold eY keyOf;constructor;intro e;have a:=(List.cons.inj e).1;have b:=(List.cons.inj (List.cons.inj e).2).1;exists Sum.inl.inj a,Sum.inl.inj b;rintro⟨rfl,rfl⟩;rfl
theorem zk:∀(ts:List T3)(h c:Int),E9 (ts.map eY) (keyOf h c)=(oU ts h c).map cn
 |[],h,c=>rfl
 |t::ts,h,c=>by
  rw[bK];by_cases e:t.1=h/\t.2.1=c
  ·rw[AY ((qv t h c).mpr e)]
   unfold oU;rw[List.find?_cons_of_pos (by simp[e])];rfl
  ·rw[AZ (λz=>e ((qv t h c).mp z)),zk ts h c]
   unfold oU;rw[List.find?_cons_of_neg (by rw[gn e];exact aH)]
noncomputable def Fj(h c r:Int)(t:T3):T3:=if t.1=h/\t.2.1=c then (h,c,r) else t
theorem Z2(h c r:Int)(t:T3):((Fj h c r t).1,(Fj h c r t).2.1)=(t.1,t.2.1):=by unfold Fj;split;rename_i e;show (h,c)=(t.1,t.2.1);rw[e.1,e.2];rfl
theorem Nm{h c r:Int}:∀{ts:List T3},eZ ts->(∃t∈ts,t.1=h/\t.2.1=c)->(ts.map (Fj h c r)).Perm (put3 ts h c r)
 |[],_,⟨_,h,_⟩=>by cases h
 |t::ts,n,j=>by
  have f:eZ ts:=(gG.mp n).2;have d:=(gG.mp n).1;unfold put3;by_cases e:t.1=h/\t.2.1=c
  ·have b:∀u∈ts,¬(u.1=h/\u.2.1=c):=λu hu z=>d (bH.mpr ⟨u,hu,Prod.ext (z.1.trans e.1.symm) (z.2.trans e.2.symm)⟩)
   have i:ts.map (Fj h c r)=ts:=by
    refine (cT λu hu=>?_).trans (List.map_id ts);unfold Fj;rw[e8 (b u hu)];rfl
   have g:ts.filter (λu=>!decide (u.1=h/\u.2.1=c))=ts:=List.filter_eq_self.mpr λu hu=>by rw[gn (b u hu)];rfl
   rw[bK,i,dM,e8 (by simp[e]),g];have a:Fj h c r t=(h,c,r):=by unfold Fj;rw[eL e]
   rw[a];exact (List.perm_append_comm (l₁:=[(h,c,r)]) (l₂:=ts))
  ·have a:Fj h c r t=t:=by unfold Fj;rw[e8 e]
   rw[bK,a,dM,eL (by rw[gn e];rfl)];refine List.Perm.cons t (Nm f ?_);obtain⟨u,hu,z⟩:=j;rcases bR.mp hu with rfl|hu
   ·exact ff z e
   ·exists u,hu,z
theorem Np{xs a:List T3}(b:xs.Perm a)(h c r:Int):(put3 xs h c r).Perm (put3 a h c r):=(b.filter _).append_right _
theorem J0{ts f:List T3}{h c r:Int}(g:ts.Perm f)(n:eZ ts):∃b,putK (ts.map eY) (keyOf h c) (cn r)=b.map eY/\b.Perm (put3 f h c r)/\eZ b:=by unfold putK;by_cases a:((ts.map eY).any λkv=>decide (kv.1=keyOf h c))=ag;rw[eL a];exists ts.map (Fj h c r),444;rw[cU,cU];refine cT λt _=>?_;show (if (eY t).1=keyOf h c then ((eY t).1,cn r) else eY t)=eY (Fj h c r t);unfold Fj;by_cases e:t.1=h/\t.2.1=c;rw[eL ((qv t h c).mpr e),eL e,(qv t h c).mpr e];rfl;rw[e8 (λz=>e ((qv t h c).mp z)),e8 e];refine (Nm n ?_).trans (Np g h c r);obtain⟨kv,k,j⟩:=y9.mp a;obtain⟨t,d,rfl⟩:=bH.mp k;exists t,d,(qv t h c).mp (j9 j);unfold eZ;rw[cU];have:((λt:T3=>(t.1,t.2.1))∘Fj h c r)=λt:T3=>(t.1,t.2.1):=funext λt=>Z2 h c r t;rw[this];exact n;rw[e8 a];have l:∀t∈ts,¬(t.1=h/\t.2.1=c):=λt d z=>a (y9.mpr ⟨eY t,bH.mpr ⟨t,d,2⟩,fy ((qv t h c).mpr z)⟩);have e:put3 ts h c r=ts++[(h,c,r)]:=(by unfold put3;rw[List.filter_eq_self.mpr λu i=>by rw[gn (l u i)];rfl]);exists ts++[(h,c,r)],by rw[aK];rfl,e▸Np g h c r,e▸Z1 n
structure sj(C:am)(H:Hp)(p d:am)(ts:List T3):Prop where
 ob:∃dx,H p=ac (.ins C dx [("kept",.ref d)])
 di:H d=ac (.dT (ts.map eY))
theorem sj.mono{C:am}{H a:Hp}{p d:am}{ts:List T3}(s:aG H a)(h:sj C H p d ts):sj C a p d ts:=by obtain⟨⟨e,c⟩,b⟩:=h;exists ⟨e,s _ _ c⟩,s _ _ b
def uz(u:HO):Prop:=∀xs,u≠.tup xs/\∀o,u≠.AN o (.tup xs)
theorem c7{a:List V}:uz (.lst a):=λb=>⟨λe=>(by cases e),λo e=>(by cases e)⟩
theorem Ib{kvs:List (List Key×V)}:uz (.dT kvs):=λa=>⟨λe=>(by cases e),λo e=>(by cases e)⟩
theorem Z3{o:Obj}{kvs:List (List Key×V)}:uz (.AN o (.dT kvs)):=λa=>⟨λe=>(by cases e),λo e=>(by cases e)⟩
theorem oV{C b:am}{a:List (Str×V)}:uz (.ins C b a):=λc=>⟨λe=>(by cases e),λo e=>(by cases e)⟩
theorem cD.past{K:ai}{H f:Hp}{z a:am}{u:HO}{xs:List V}(hz:H z=ac u)(d:uz u)(c:∀b v,H b=ac v->b≠z->f b=ac v)(h:cD K H a xs):cD K f a xs:=by rcases h with (h|⟨o,h⟩)|h;exact .inl (.inl (c _ _ h λe=>by subst e;rw[hz] at h;exact (d xs).1 (aO h)));exact .inl (.inr ⟨o,c _ _ h λe=>by subst e;rw[hz] at h;exact (d xs).2 o (aO h)⟩);exact .inr h
theorem gP.past{K:ai}{H d:Hp}{z:am}{u:HO}{qs:List am}{ts:List T3}(hz:H z=ac u)(e:uz u)(c:∀b v,H b=ac v->b≠z->d b=ac v)(h:gP K H qs ts):gP K d qs ts :=⟨h.1,λi q t a b=>cD.past hz e c (h.2 i q t a b)⟩
theorem br{H:Hp}{z:am}{o:HO}:∀b v,H b=ac v->b≠z->(upd H z o) b=ac v:=λb v e a=>by rw[aI a];exact e
theorem gP.snoc{K:ai}{H:Hp}{qs:List am}{ts:List T3}{q:am}{t:T3}(h:gP K H qs ts)(d:cD K H q (t3V t)):gP K H (qs++[q]) (ts++[t]):=by exists by rw[av,av,h.1];rfl,λi a u b c=>?_;by_cases z:i<wL qs;rw[bu z] at b;rw[bu (h.1▸z)] at c;exact h.2 i a u b c;have e:i=qs.length:=(by have:=(aj.mp b).1;rw[av] at this;have:i<wL qs+1:=this;lia);subst e;rw[oK] at b;rw[h.1,oK] at c;cases b;cases c;exact d
theorem gP.nil{K:ai}{H:Hp}:gP K H [] []:=⟨2,λi q t a=>by cases a⟩
theorem Ux{H:Hp}{a b:am}{u v:HO}(d:H a=ac u)(c:H b=ac v)(n:u≠v):a≠b:=λe=>by
 subst e;rw[d] at c;exact n (aO c)
end TW
namespace L2
open PySem PySem.W PySem.Spec PyProof.Rows
end L2
namespace TW
open PySem L2 PyProof.Rows
theorem Rf{J:It}{n:Nat}{o:List (Option Nat)}{g:TG}{C:TT}{I:TE}{B:L2.St}{E:Hp->Prop}{k:Hp}{d:am}(D:Nat->V)(f:Nat->Option V)(j:k d=ae)(go:∀i H,i<n->aG k H->J.go i H)(stop:∀H,aG k H->J.stop n H)(QJ:∀i H x a,i<n->aG k H->J.QJ i H x a->a=H/\x=D i)(L:n<=1000)(step:∀(i:Nat)(H:Hp)(R:V->Hp->Prop)(S:Hp->Prop),i<n->aG k H->(∀y a,aG H a->f i=ac y->R y a)->(∀a,aG H a->f i=ae->S a) ->g (D i) (kX o B) H λc u=>C c u λb l=>if b=ag then I c l R else S l)(z:∀H,aG k H->H d=ac (.lst ((aB n).filterMap f))->E H) :∃W:Nat->Nat->Hp->Prop,(∃m,W 0 m (upd k d (.lst [])))/\∀i m H,W i m H ->(J.stop i H/\E H)∨(J.go i H/\∀x a,J.QJ i H x a->g x (kX o B) a λc u=>C c u λb l=>if b=ag then I c l λy w=>∃xs,w d=ac (.lst xs)/\wL xs<bc /\∃r,r<m/\W (i+1) r (upd w d (.lst (xs++[y]))) else ∃r,r<m/\W (i+1) r l):=by
 have p:∀i,((aB i).filterMap f).length<=i:=λi=>(by have:=List.length_filterMap_le f (aB i);rwa [bJ] at this);refine eX (n:=n) (λi A _=>A=(aB i).filterMap f) j go stop rfl ?_ ?_;·rintro i A H q s t rfl x a K;obtain⟨rfl,rfl⟩:=QJ i H x a q s K;have e:(aB (i+1)).filterMap f=(aB i).filterMap f++(f i).toList:=(by rw[iH,List.filterMap_append];cases h:f i <;> simp[h]);refine step i a _ _ q s (λy w F v=>?_) (λl G v=>?_);refine dF j q (s.trans F) (F _ _ t) (b9 (aJ (p i) (aJ (iG q) L))) ?_;show _=(aB (i+1)).filterMap f;rw[e,v];rfl;refine gU q (s.trans G) (G _ _ t) ?_;show _=(aB (i+1)).filterMap f;rw[e,v];simp
 rintro A H s t rfl;exact z H s t
theorem tQ{a b:Type}:∀(xs:List a)(F:a->Option b),(aB (wL xs)).filterMap (λi=>xs[i]?.bind F)=xs.filterMap F
 |[],F=>rfl
 |x::xs,F=>by
  have e:((λi:Nat=>(x::xs)[i]?.bind F)∘Nat.succ)=λi=>xs[i]?.bind F:=funext λi=>-_
  rw[bC,List.range_succ_eq_map,fz,List.filterMap_map,e,tQ xs F,fz];rfl
theorem XA{K:ai}{l d:am}{xs:List Int}{h:List (Option Nat)}{g:TG}{z:TT}{E:TE}{w:L2.St}{B:Hp->Prop}{k:Hp}(F:Int->Option V)(p:k d=ae)(hl:bI K k l (xs.map cn))(J:wL xs<=1000)(step:∀(x:Int)(H:Hp)(R:V->Hp->Prop)(S:Hp->Prop),x∈xs->aG k H->(∀y a,aG H a->F x=ac y->R y a)->(∀a,aG H a->F x=ae->S a) ->g (.int x) (kX h w) H λc r=>z c r λb j=>if b=ag then E c j R else S j)(v:∀H,aG k H->H d=ac (.lst (xs.filterMap F))->B H) :∃W:Nat->Nat->Hp->Prop,(∃m,W 0 m (upd k d (.lst [])))/\∀i m H,W i m H ->((OM K l).stop i H/\B H)∨((OM K l).go i H/\∀x a,(OM K l).QJ i H x a->g x (kX h w) a λc r=>z c r λb j=>if b=ag then E c j λy D=>∃xs,D d=ac (.lst xs)/\wL xs<bc /\∃q,q<m/\W (i+1) q (upd D d (.lst (xs++[y]))) else ∃q,q<m/\W (i+1) q j):=by have C:(xs.map cn).length=xs.length:=af _;refine Rf (n:=xs.length) (λi=>(xs.map cn).getD i .gk) (λi=>xs[i]?.bind F) p (λi H f s=>wU hl i H (by rw[C];exact f) s) (λH s=>by have:=mR hl H s;rwa [C] at this) (λi H x a f s o=>?_) J (λi H R S f s I G=>?_) (λH s L=>v H s (by rw[<- tQ];exact L));obtain⟨rfl,o⟩:=o;have o:=o _ (s.seq hl);exact⟨2,by rw[ao,o];rfl⟩;have e:(xs.map cn).getD i .gk=cn xs[i]:=(by rw[ao,ak,aa f];rfl);have A:xs[i]?=ac xs[i]:=aa f;rw[e];refine step _ H R S (aP f) s (λy a u t=>I y a u ?_) (λa u t=>G a u ?_);show xs[i]?.bind F=_;rw[A];exact t;show xs[i]?.bind F=_;rw[A];exact t
theorem XC(xs:List Int)(f:Int->Bool):xs.filterMap (λx=>if f x=ag then ac (cn x) else ae)=(xs.filter f).map cn:=by induction xs with|nil=>rfl|cons x xs a=>by_cases h:f x=ag;rw[dU h,bK,<- a,fz];simp only[h,if_true];rw[dX h,<- a,fz];simp only[h];rfl
theorem nS{K:ai}{l d:am}{xs:List Int}{e:List (Option Nat)}{g:TG}{u:TT}{z:TE}{t:L2.St}{v:Hp->Prop}{j:Hp}(f:Int->Bool)(k:j d=ae)(hl:bI K j l (xs.map cn))(D:wL xs<=1000)(step:∀(x:Int)(H:Hp)(R:V->Hp->Prop)(S:Hp->Prop),x∈xs->aG j H->(∀a,aG H a->f x=ag->R (.int x) a)->(∀a,aG H a->f x=al->S a) ->g (.int x) (kX e t) H λc o=>u c o λb h=>if b=ag then z c h R else S h)(r:∀H,aG j H->H d=ac (.lst ((xs.filter f).map cn))->v H) :∃W:Nat->Nat->Hp->Prop,(∃m,W 0 m (upd j d (.lst [])))/\∀i m H,W i m H ->((OM K l).stop i H/\v H)∨((OM K l).go i H/\∀x a,(OM K l).QJ i H x a->g x (kX e t) a λc o=>u c o λb h=>if b=ag then z c h λy w=>∃xs,w d=ac (.lst xs)/\wL xs<bc /\∃n,n<m/\W (i+1) n (upd w d (.lst (xs++[y]))) else ∃n,n<m/\W (i+1) n h):=by refine XA (λx=>if f x=ag then ac (cn x) else ae) k hl D (λx H R S C s B A=>step x H R S C s (λa q p=>B _ a q (eL p)) (λa q p=>A a q (e8 (by rw[p];exact aH)))) (λH s E=>r H s (by rw[<- XC];exact E))
def aeF(u:HO):Prop:=∀xs,u≠.lst xs/\∀o,u≠.AN o (.lst xs)
theorem Z4{C b:am}{a:List (Str×V)}:aeF (.ins C b a):=λc=>⟨λe=>(by cases e),λo e=>(by cases e)⟩
theorem bI.past{K:ai}{H f:Hp}{z a:am}{u:HO}{xs:List V}(hz:H z=ac u)(d:aeF u)(c:∀b v,H b=ac v->b≠z->f b=ac v)(h:bI K H a xs):bI K f a xs:=by rcases h with (h|⟨o,h⟩)|h;exact .inl (.inl (c _ _ h λe=>by subst e;rw[hz] at h;exact (d xs).1 (aO h)));exact .inl (.inr ⟨o,c _ _ h λe=>by subst e;rw[hz] at h;exact (d xs).2 o (aO h)⟩);exact .inr h
noncomputable def kB(c:Option Int):V:=(c.map cn).getD .gk
theorem uA(i:Int)(c:Option Int):afR (.int i) (kB c)=ag:=by cases c <;> rfl
theorem Rg(c:Option Int):AW (kB c)=ag:=by cases c <;> rfl
theorem Fk(xs:List Int):Av .gk (xs.map cn)=al:=by unfold Av;rw[List.any_map,List.any_eq_false];intro x _;show ¬(W8 (.int x) .gk)=ag;simp[W8]
noncomputable def j0(c:Option Int)(r:Int):Bool:=!decide (cn r=kB c)
noncomputable def Ju(ts:List T3)(so:Option Int)(oW:Int)(bF:Option Int)(os hs:List Int):List Int:=
 match so with
 |none=>os.filter (j0 bF)
 |some to=>if to∈hs then [] else match oU ts oW to with
  |some r=>if r∈os then [r].filter (j0 bF) else os.filter (j0 bF)
  |none=>os.filter (j0 bF)
noncomputable def D0(s to k c:Int):Bool:=if k=1 then decide (cn c=cn to) else if k=2 then !decide (cn c=cn s) else al
noncomputable def tR(to k:Int):Option Int:=if k=1 then ac to else ae
theorem made{H:Hp}{x a C:am}{d:List (Str×V)}(e:H x=ae)(b:H a=ae)(c:a≠x):aG H (upd (upd (upd H a (.own x)) x (.ins C a [])) x (.ins C a d)):=by rw[OG];exact (aG.new b).trans (aG.new (by rw[aI (bT c)];exact e))
theorem neT{b:Bool}(h:¬b=ag):b=al:=by cases b;rfl;exact ff rfl h
end TW
namespace TX
open PySem PySem.StrLaws PySem.Builtin PySem.Builtin.Str
noncomputable abbrev cs(x:Str):List Nat:=x.cps.toList
end TX
namespace TX
open PySem PySem.StrLaws PySem.Builtin PySem.Builtin.Str PySem.NumText
end TX
namespace TX
open PySem PySem.StrLaws PySem.Builtin PySem.Builtin.Str
end TX
namespace L2
open PySem PySem.W PySem.Spec PyProof.Rows
theorem J1{a c:Type}{f g:a->Option c}:∀{l:List a},(∀x∈l,f x=g x)->l.filterMap f=l.filterMap g
 |[],_=>rfl
 |x::l,h=>by
  rw[fz,fz,h x (cK ..),J1 λy b=>h y (bS _ b)]
theorem XD{c:Type}(xs:List c):((aB (wL xs)).map (λk=>xs.length-1-k)).filterMap (λi=>xs.toArray[i]?)=xs.reverse:=by have b:(aB (wL xs)).map (λk=>xs.length-1-k)=(aB (wL xs)).reverse:=(by refine yZ (-_) λi b a=>?_;simp at b a;simp[List.getElem_reverse]);rw[b,List.filterMap_reverse];congr 1;refine List.ext_getElem? λi=>?_;have a:(aB (wL xs)).filterMap (λi=>xs.toArray[i]?)=xs:=(by have:=TW.tQ xs (λx=>ac x);rw[List.filterMap_some] at this;refine Eq.trans (J1 λi d=>?_) this;rw[List.getElem?_toArray];cases xs[i]? <;> rfl);rw[a]
theorem J2(a:List ar):slicePick a.toArray ae ae (ac (-1))=a.reverse.toArray:=by unfold slicePick;congr 1;have e:sliceBounds ae ae (ac (-1)) a.toArray.size=((a.length:Int)-1,-1,-1):=(by simp[sliceBounds]);rw[e,<- XD a];congr 1;unfold sliceRange;by_cases h:wL a=0;simp[h];have b:((a.length:Int)-1) > -1:=∅;have d:((a.length:Int)-1 - -1 - -1-1)/(- -1)=(a.length:Int):=(by have:((a.length:Int)-1 - -1 - -1-1)=(a.length:Int):=∅;rw[this];show (a.length:Int)/1=_;exact Int.ediv_one _);simp only[show ¬((-1:Int) > 0) by decide,if_false,b,if_true,d,cN];refine cT λk c=>?_;have:=cS.mp c;lia
section
variable{X:Cx}
def agp(K:ai)(te:TE)(ts:TO):TE:=λσ H Q=>te σ H λx H1=>ts σ H1 λo H2=>∃a xs,x=.ref a/\o=ac (-1)/\bI K H2 a xs/\∀p,H2 p=ae->Q (.ref p) (upd H2 p (.lst xs.reverse))
theorem XE{xs:List V}{us:List ar}(h:cO xs us):cO xs.reverse us.reverse:=by induction h with|nil=>exact .nil|cons r t a=>rw[List.reverse_cons,List.reverse_cons];exact a.append (.cons r .nil)
theorem Rh{e st:Expr}{m:TE}{ts:TO}{n j:Pos}(y:PE X e m)(N:PO X (ac st) ts):PE X (.Subscript e (.Slice ae ae (ac st) n) j) (agp X.K m ts):=by intro c s f H Q I h;refine Subscript_ (ir (y c s f H _ I h) λv M ⟨x,z,G,B,J⟩=>?_);refine wpAny_Slice ?_;rw[evalPart_none];refine a6 ?_;refine a6 ?_;refine ir (N c M f z _ G J) λk d ⟨o,u,O,t,a,C,F,D,L,q⟩=>?_;subst F D;cases B;have g:Inv X c f u {d with heap:=d.heap.push {cls:=.type "slice",data:=.fields #[.none,.none,k]}}:=O.kept (t':=d.toks) λb E q=>a7 _ q;obtain⟨i,r,p,P⟩:=g.list L;have l:=r.length;show cf (model X.prog X.w) X.A (subscriptTail e (.Slice ae ae (ac st) n) (.ref a) (.ref d.heap.objs.size)) (EP X c f Q) X.xe {d with heap:=d.heap.push {cls:=.type "slice",data:=.fields #[.none,.none,k]}};refine tail_any (ops:=[.ref a,.ref d.heap.objs.size]) p.isList.typeIs slot_list_getitem.lookup ?_ (by with_unfolding_all rfl);refine wpAny_getItem_list_slice p.isList (Heap.IsSliceOf.new ..) .none .none t (-_) ?_ (by rw[aU] <;> lia);rw[J2];exists .ref _,_,g.laid (t':=d.toks) (o:=.lst C.reverse) (λb E q=>a7 _ q) (az _) ?_,2,q _ (g.hok.fresh (az _));exists by rw[List.length_reverse];exact P,i.reverse,(0),XE r,a8 _ rfl
end
end L2
namespace TW
open PySem L2 PyProof.Rows
theorem VO{K:ai}{l c:am}{xs:List V}{h:List (Option Nat)}{g:TG}{w:TT}{B:TE}{v:L2.St}{z:Hp->Prop}{k:Hp}(f:Nat->Option V)(q:k c=ae)(hl:bI K k l xs)(E:wL xs<=1000)(step:∀(i:Nat)(x:V)(H:Hp)(R:V->Hp->Prop)(S:Hp->Prop),xs[i]?=ac x->aG k H->(∀y d,aG H d->f i=ac y->R y d)->(∀d,aG H d->f i=ae->S d) ->g x (kX h v) H λa r=>w a r λb j=>if b=ag then B a j R else S j)(u:∀H,aG k H->H c=ac (.lst ((aB (wL xs)).filterMap f))->z H) :∃W:Nat->Nat->Hp->Prop,(∃m,W 0 m (upd k c (.lst [])))/\∀i m H,W i m H ->((OM K l).stop i H/\z H)∨((OM K l).go i H/\∀x d,(OM K l).QJ i H x d->g x (kX h v) d λa r=>w a r λb j=>if b=ag then B a j λy A=>∃xs,A c=ac (.lst xs)/\wL xs<bc /\∃p,p<m/\W (i+1) p (upd A c (.lst (xs++[y]))) else ∃p,p<m/\W (i+1) p j):=by refine Rf (n:=xs.length) (λi=>xs.getD i .gk) f q (wU hl) (mR hl) (λi H x d t s o=>?_) E (λi H R S t s D C=>?_) u;obtain⟨rfl,o⟩:=o;have o:=o _ (s.seq hl);exact⟨2,by rw[ao,o];rfl⟩;have e:xs.getD i .gk=xs[i]:=(by rw[ao,aa t];rfl);rw[e];exact step i _ H R S (aa t) s D C
theorem J3{b c:Type}(xs:List b)(h:b->c):(aB (wL xs)).filterMap (λi=>xs[i]?.map h)=xs.map h:=by have e:∀l:List b,l.filterMap (λx=>ac (h x))=l.map h:=λl=>(by induction l with|nil=>rfl|cons a l d=>rw[fz,d];rfl);rw[<- e,<- tQ xs (λx=>ac (h x))];refine J1 λi _=>?_;cases xs[i]? <;> rfl
inductive Role where
 |dO|cZ|dR|ig (i:Nat)|uB|rows (g:Nat)|ju|book (g:Nat)|gj (g:Nat)
 |aL|groups|i8|handed (c:Nat)|cV|cF (i:Nat)|letter (i:Nat)|done (i:Nat)|aF (i:Nat)|fQ
 deriving DecidableEq
structure wX(H:Hp)(loc:Role->am)(ob:Role->Option HO):Prop where
 get:∀r o,ob r=ac o->H (loc r)=ac o
 inj:∀r q,ob r≠ae->ob q≠ae->loc r=loc q->r=q
noncomputable def i9(ob:Role->Option HO)(r:Role)(o:HO):Role->Option HO:=λq=>if q=r then ac o else ob q
noncomputable def sq(loc:Role->am)(r:Role)(a:am):Role->am:=λq=>if q=r then a else loc q
theorem eK{ob:Role->Option HO}{r:Role}{o:HO}:i9 ob r o r=ac o:=eL rfl
theorem c5{ob:Role->Option HO}{r q:Role}{o:HO}(h:q≠r):i9 ob r o q=ob q:=e8 h
theorem gA{b:Role->am}{r:Role}{a:am}:sq b r a r=a:=eL rfl
theorem fZ{b:Role->am}{r q:Role}{a:am}(h:q≠r):sq b r a q=b q:=e8 h
def Fp(loc:Role->am)(ob:Role->Option HO)(b:am):Prop:=∃r,ob r≠ae/\loc r=b
section
variable{H H':Hp}{loc:Role->am}{ob:Role->Option HO}
theorem wX.mono(h:wX H loc ob)(s:aG H H'):wX H' loc ob:=⟨λr o e=>s _ _ (h.get r o e),h.inj⟩
theorem wX.keep(h:wX H loc ob)(k:∀b o,H b=ac o->Fp loc ob b->H' b=ac o):wX H' loc ob :=⟨λr o e=>k _ _ (h.get r o e) ⟨r,by rw[e];exact aW o,2⟩,h.inj⟩
theorem wX.set(h:wX H loc ob){r:Role}(c:ob r≠ae)(o:HO):wX (upd H (loc r) o) loc (i9 ob r o):=by have a:∀q,i9 ob r o q≠ae->ob q≠ae:=λq b=>(by by_cases e:q=r;rw[e];exact c;rw[c5 e] at b;exact b);exists λq u e=>?_,λq d g f e=>h.inj q d (a q g) (a d f) e;by_cases z:q=r;subst z;rw[eK] at e;cases e;exact au;rw[c5 z] at e;rw[aI (λw=>z (h.inj q r (by rw[e];exact aW u) c w))];exact h.get q u e
theorem wX.new(h:wX H loc ob){p:am}(j:H p=ae)(r:Role)(o:HO):wX (upd H p o) (sq loc r p) (i9 ob r o):=by have g:∀q,q≠r->ob q≠ae->loc q≠p:=λq k f e=>(by cases i:ob q with|none=>exact f i|some u=>have:=h.get q u i;rw[e,j] at this;cases this);exists λq u e=>?_,λq d c b e=>?_;by_cases z:q=r;subst z;rw[eK] at e;cases e;rw[gA];exact au;rw[c5 z] at e;rw[fZ z,aI (g q z (by rw[e];exact aW u))];exact h.get q u e;by_cases z:q=r;by_cases a:d=r;rw[z,a];rw[z,gA,fZ a] at e;rw[c5 a] at b;exact ff e.symm (g d a b);by_cases a:d=r;rw[a,gA,fZ z] at e;rw[c5 z] at c;exact ff e (g q z c);rw[fZ z,fZ a] at e;rw[c5 z] at c;rw[c5 a] at b;exact h.inj q d c b e
theorem wX.Z5(h:wX H loc ob){p:am}{r:Role}{o:HO}{b:am}(d:Fp (sq loc r p) (i9 ob r o) b):Fp loc ob b∨b=p:=by obtain⟨q,c,a⟩:=d;by_cases z:q=r;rw[z,gA] at a;exact .inr a.symm;rw[c5 z] at c;rw[fZ z] at a;exact .inl ⟨q,c,a⟩
theorem J4{r:Role}(d:ob r≠ae){o:HO}{b:am}:Fp loc (i9 ob r o) b↔Fp loc ob b:=by constructor;rintro⟨q,a,c⟩;exists q,4,c;by_cases z:q=r;rw[z];exact d;rw[c5 z] at a;exact a;rintro⟨q,a,c⟩;exists q,4,c;by_cases z:q=r;rw[z,eK];exact aW o;rw[c5 z];exact a
end
inductive ck where
 |post (h:Nat)|Ri (h r:Nat)|hand (h c:Nat)|send (h r w:Nat)|twice (h r:Nat)|Dg (h r:Nat)
noncomputable def ck.vs:ck->List V
 |.post h=>[.str "post",.int h]
 |.Ri h r=>[.str "come",.int h,.int r]
 |.hand h c=>[.str "hand",.int h,.int c]
 |.send h r w=>[.str "send",.int h,.int r,.int w]
 |.twice h r=>[.str "twice",.int h,.int r]
 |.Dg h r=>[.str "lost",.int h,.int r]
structure LS where
 s:Nat
 to:Nat
 kd:Int
 grp:Nat
 old:Bool
 done:List Nat
 aF:List ck
structure Cp where
 l:Nat
 r:Nat
 w:Nat
 h:Nat
noncomputable def Cp.vs(c:Cp):List V:=[.int c.l,.int c.r,.int c.w,.int c.h]
structure NS where
 ws:List (List Nat)
 R:Nat->Nat->RM.Row
 ts:Nat->List T3
 aL:List Nat
 groups:List Nat
 had:List (List Nat)
 ls:List LS
 cps:List Cp
structure TQ where
 rq:Nat->List am
 dq:Nat->List am
 cq:List am
structure NC where
 dO:am
 str:am
 book:am
 post:am
 asF:am
 let1:am
 ajl:am
noncomputable def tS(c:NC)(dx:am)(l:LS):HO:=if l.kd=1 then .ins c.let1 dx [("sender",.int l.s),("to",.int l.to)] else .ins c.ajl dx [("sender",.int l.s)]
noncomputable def desc(c:NC)(dx:Role->am)(tp:am)(loc:Role->am)(q:TQ)(s:NS):Role->Option HO
 |.dO=>ac (.ins c.dO (dx .dO) [("town",.ref tp),("strands",.ref (loc .cZ)),("rows_by_group",.ref (loc .uB)),("books",.ref (loc .ju)),("homes",.ref (loc .aL)),("groups",.ref (loc .groups)),("handed",.ref (loc .i8)),("letters",.ref (loc .cV)),("copies",.ref (loc .fQ))])
 |.cZ=>ac (.ins c.str (dx .cZ) [("town",.ref tp),("upright",.ref (loc .dR))])
 |.dR=>ac (.lst ((aB s.ws.length).map λi=>.ref (loc (.ig i))))
 |.ig i=>s.ws[i]?.map λw=>.lst (aT w)
 |.uB=>ac (.lst ((aB 3).map λg=>.ref (loc (.rows g))))
 |.rows g=>if g<3 then ac (.lst ((q.rq g).map cr)) else ae
 |.ju=>ac (.lst ((aB 3).map λg=>.ref (loc (.book g))))
 |.book g=>if g<3 then ac (.ins c.book (dx (.book g)) [("kept",.ref (loc (.gj g)))]) else ae
 |.gj g=>if g<3 then ac (.dT ((s.ts g).map eY)) else ae
 |.aL=>ac (.lst (aT s.aL))
 |.groups=>ac (.lst (aT s.groups))
 |.i8=>ac (.lst ((aB s.had.length).map λi=>.ref (loc (.handed i))))
 |.handed i=>s.had[i]?.map λw=>.lst (aT w)
 |.cV=>ac (.lst ((aB (wL s.ls)).map λi=>.ref (loc (.cF i))))
 |.cF i=>s.ls[i]?.map λl=>.ins c.post (dx (.cF i)) [("letter",.ref (loc (.letter i))),("group",.int l.grp),("old",.bl l.old),("done_at",.ref (loc (.done i))),("deeds",.ref (loc (.aF i)))]
 |.letter i=>s.ls[i]?.map λl=>tS c (dx (.letter i)) l
 |.done i=>s.ls[i]?.map λl=>.dK (l.done.map λh:Nat=>(iF (h:Int),.bl ag))
 |.aF i=>s.ls[i]?.map λl=>.lst ((q.dq i).map cr)
 |.fQ=>ac (.lst (q.cq.map cr))
mutual
noncomputable def Rj:PyData->Bool
 |.none=>ag
 |.bool _=>ag
 |.int _=>ag
 |.str _=>ag
 |.list _=>al
 |.tuple ds=>GN ds
 |.dict _=>ag
noncomputable def GN:List PyData->Bool
 |[]=>ag
 |d::ds=>Rj d&&GN ds
end
structure cP(K:ai)(H:Hp)(qs:List am)(xs:List (List V)):Prop where
 len:wL qs=xs.length
 at':∀(i:Nat)q x,qs[i]?=ac q->xs[i]?=ac x->cD K H q x
theorem cP.mono{K:ai}{H c:Hp}{qs:List am}{xs:List (List V)}(h:cP K H qs xs)(k:∀b x,cD K H b x->cD K c b x):cP K c qs xs:=⟨h.len,λi q x a b=>k _ _ (h.at' i q x a b)⟩
noncomputable def iK(n:Nat)(R:Nat->RM.Row):List (List V):=(aB n).map λi=>RM.cW (R i)
structure oX(K:ai)(H:Hp)(n:Nat)(q:TQ)(s:NS):Prop where
 rows:∀g,g<3->cP K H (q.rq g) (iK n (s.R g))
 aF:∀i l,s.ls[i]?=ac l->cP K H (q.dq i) (l.aF.map ck.vs)
 cps:cP K H q.cq (s.cps.map Cp.vs)
theorem oX.mono{K:ai}{H a:Hp}{n:Nat}{q:TQ}{s:NS}(h:oX K H n q s)(k:∀b x,cD K H b x->cD K a b x):oX K a n q s :=⟨λg c=>(h.rows g c).mono k,λi l e=>(h.aF i l e).mono k,h.cps.mono k⟩
inductive cE(K:ai)(c:NC)(H:Hp)(F:am->Prop)(p tp:am)(n:Nat)(s:NS):Prop
 |mk(loc dx:Role->am)(q:TQ):loc .dO=p->wX H loc (desc c dx tp loc q s)->(∀b,F b↔Fp loc (desc c dx tp loc q s) b)->oX K H n q s->cE K c H F p tp n s
structure Step(H:Hp)(F:am->Prop)(H':Hp)(F':am->Prop):Prop where
 kp:∀b o,H b=ac o->¬F b->H' b=ac o
 fr:∀b,F' b->F b∨H b=ae
theorem Uy{c:NC}{n:Role->am}{m:am}{i:Role->am}{q:TQ}{s:NS}{r:Role}{o:HO}(h:desc c n m i q s r=ac o):uz o:=by
 have b:∀{g:Type}{f:g->HO}{x:Option g},(∀a,uz (f a))->x.map f=ac o->uz o:=λ{g f x}k e=>(by cases x with|none=>cases e|some a=>cases e;exact k a);have ins:∀{C d:am}{j:List (Str×V)},uz (.ins C d j):=oV;cases r <;> simp only[desc] at h
 all_goals first
  | (cases h;exact oV)
  | (cases h;exact c7)
  |exact b (λ_=>c7) h
  |exact b (λ_=>oV) h
  | (split at h
     ·cases h;first|exact c7|exact oV|exact Ib
     ·cases h)
  | (refine b (λl=>?_) h;unfold tS;split <;> exact oV)
  | (refine b (λl=>?_) h;exact λp=>⟨λe=>(by cases e),λo e=>(by cases e)⟩)
section
variable{K:ai}{c:NC}{CT:am}{H H':Hp}{F F':am->Prop}{p tp ln lr:am}{n:Nat}{s s':NS}{ns:List Int}{rs:List R5}
theorem cE.mono(h:cE K c H F p tp n s)(e:aG H H'):cE K c H' F p tp n s:=by obtain⟨a,j,q,i,f,g,d⟩:=h;exists a,j,q,i,f.mono e,g,d.mono λb x=>e.bP
theorem cE.VP(h:cE K c H F p tp n s){b:am}{o:HO}(g:F b)(e:H b=ac o):uz o:=by obtain⟨d,i,q,m,f,j,l⟩:=h;obtain⟨r,k,rfl⟩:=(j b).mp g;cases a:desc c i tp d q s r with|none=>exact ff a k|some u=>have:=f.get r u a;rw[e] at this;cases this;exact Uy a
theorem cE.there(h:cE K c H F p tp n s){b:am}(e:F b):∃o,H b=ac o:=by obtain⟨a,j,q,l,f,g,k⟩:=h;obtain⟨r,i,rfl⟩:=(g b).mp e;cases d:desc c j tp a q s r with|none=>exact ff d i|some u=>exists u,f.get r u d
theorem cE.tup(h:cE K c H F p tp n s)(a:∀b o,H b=ac o->¬F b->H' b=ac o){b:am}{x:List V}(e:cD K H b x):cD K H' b x:=by rcases e with (e|⟨o,e⟩)|e;exact .inl (.inl (a _ _ e λz=>(h.VP z e x).1 rfl));exact .inl (.inr ⟨o,a _ _ e λz=>(h.VP z e x).2 o rfl⟩);exact .inr e
theorem cE.keep(h:cE K c H F p tp n s)(j:∀b o,H b=ac o->F b->H' b=ac o)(f:∀b x,cD K H b x->cD K H' b x):cE K c H' F p tp n s:=by obtain⟨a,l,q,k,i,d,g⟩:=h;exists a,l,q,k,i.keep λb o e z=>j b o e ((d b).mpr z),d,g.mono f
end
mutual
theorem Rep.tups{K:ai}{H g:Hp}(c:∀b x,cD K H b x->cD K g b x):∀{d:PyData}{v:V},Rj d=ag->Rep K H d v->Rep K g d v
 |.none,_,_,h=>h
 |.bool _,_,_,h=>h
 |.int _,_,_,h=>h
 |.str _,_,_,h=>h
 |.list _,_,f,_=>by simp[Rj] at f
 |.tuple ds,_,f,⟨a,vs,e,q,r⟩=>⟨a,vs,e,c _ _ q,dw.tups c f r⟩
 |.dict _,_,_,h=>h
theorem dw.tups{K:ai}{H c:Hp}(a:∀b x,cD K H b x->cD K c b x):∀{ds:List PyData}{vs:List V},GN ds=ag->dw K H ds vs->dw K c ds vs
 |[],_,_,h=>h
 |d::ds,_,f,⟨v,r,e,q,t⟩=>by
  have f:(Rj d&&GN ds)=ag:=f;rw[dg] at f;exists v,r,e,Rep.tups a f.1 q,dw.tups a f.2 t
end
theorem J5:∀rs:List R5,GN (rs.map R5.D)=ag
 |[]=>rfl
 |r::rs=>by
  show (Rj r.D&&GN (rs.map R5.D))=ag;rw[J5 rs];rfl
section
variable{K:ai}{c:NC}{CT:am}{H H':Hp}{F F':am->Prop}{p tp ln lr:am}{n:Nat}{s s':NS}{ns:List Int}{rs:List R5}
theorem dN.keep(h:dN K CT H tp ln lr ns rs)(k1:∀b o,H b=ac o->b=tp∨b=ln∨b=lr->H' b=ac o)(a:∀b x,cD K H b x->cD K H' b x):dN K CT H' tp ln lr ns rs:=by obtain⟨⟨i,g⟩,d,e,f,c⟩:=h;exists ⟨i,k1 _ _ g (.inl rfl)⟩,k1 _ _ d (.inr (.inl rfl)),e,k1 _ _ f (.inr (.inr rfl)),dw.tups a (J5 rs) c
structure NW(K:ai)(c:NC)(CT:am)(H:Hp)(F:am->Prop)(p tp ln lr:am)(ns:List Int)(rs:List R5)(s:NS):Prop where
 dO:cE K c H F p tp (wL ns) s
 lA:dN K CT H tp ln lr ns rs
 o1:¬F tp
 o2:¬F ln
 o3:¬F lr
theorem NW.mono(h:NW K c CT H F p tp ln lr ns rs s)(e:aG H H'):NW K c CT H' F p tp ln lr ns rs s:=⟨h.dO.mono e,h.lA.mono e,h.o1,h.o2,h.o3⟩
theorem NW.done(h:NW K c CT H F p tp ln lr ns rs s)(st:Step H F H' F')(g:cE K c H' F' p tp (wL ns) s'):NW K c CT H' F' p tp ln lr ns rs s':=by have a:∀b x,cD K H b x->cD K H' b x:=λb x=>h.dO.tup st.kp;obtain⟨⟨m,f⟩,d,k,i,l⟩:=id h.lA;have nf:∀b o,H b=ac o->¬F b->¬F' b:=λb o e j z=>(by rcases st.fr b z with w|w;exact j w;rw[e] at w;cases w);exists g,h.lA.keep (λb o e q=>st.kp b o e ?_) a,nf _ _ f h.o1,nf _ _ d h.o2,nf _ _ i h.o3;rcases q with rfl|rfl|rfl;exact h.o1;exact h.o2;exact h.o3
theorem Step.refl'(e:aG H H'):Step H F H' F:=⟨λb o q _=>e _ _ q,λb z=>.inl z⟩
theorem Step.trans{d:Hp}{c:am->Prop}(a:Step H F H' F')(b:Step H' F' d c):Step H F d c:=by exists λx o e nf=>b.kp x o (a.kp x o e nf) λz=>?_,λx z=>?_;rcases a.fr x z with w|w;exact nf w;rw[e] at w;cases w;rcases b.fr x z with w|w;exact a.fr x w;by_cases q:F x;exact .inl q;refine .inr ?_;cases f:H x with|none=>rfl|some o=>have:=a.kp x o f q;rw[this] at w;cases w
end
theorem wX.join{H:Hp}{k i:Role->am}{j c:Role->Option HO}(a:wX H k j)(b:wX H i c)(l:∀r q,j r≠ae->c q≠ae->k r≠i q) :wX H (λr=>if (c r).isSome=ag then i r else k r) (λr=>if (c r).isSome=ag then c r else j r):=by have m:∀{r},(c r).isSome=ag->c r≠ae:=λ{r}h e=>(by rw[e] at h;cases h);exists λr o e=>?_,λr q f d e=>?_;by_cases z:(c r).isSome=ag;rw[eL z] at e ⊢;exact b.get r o e;rw[e8 z] at e ⊢;exact a.get r o e;by_cases z:(c r).isSome=ag;by_cases g:(c q).isSome=ag;simp only[z,g,if_true] at f d e;exact b.inj r q f d e;simp only[z,g,if_true,if_false] at f d e;exact ff e.symm (l q r (by simpa using d) (m z));by_cases g:(c q).isSome=ag;simp only[z,g,if_true,if_false] at f d e;exact ff e (l r q (by simpa using f) (m g));simp only[z,g,if_false] at f d e;exact a.inj r q (by simpa using f) (by simpa using d) e
structure IV(H0 H:Hp)(p:am)(loc:Role->am)(ob:Role->Option HO):Prop where
 own:wX H loc ob
 np:loc .dO=p
 hn:ob .dO≠ae
 kp:∀b o,H0 b=ac o->b≠p->H b=ac o
 fr:∀b,Fp loc ob b->b=p∨H0 b=ae
section
variable{H0 H H':Hp}{p:am}{loc:Role->am}{ob:Role->Option HO}
theorem IV.free(h:IV H0 H p loc ob){a:am}(b:H a=ae):H0 a=ae:=by cases e:H0 a with|none=>rfl|some o=>by_cases z:a=p;(exfalso;cases c:ob .dO with|none=>exact h.hn c|some u=>have:=h.own.get .dO u c;rw[h.np,<- z,b] at this;cases this);have:=h.kp a o e z;rw[b] at this;cases this
theorem IV.new(h:IV H0 H p loc ob){a:am}(c:H a=ae){r:Role}(d:r≠.dO)(o:HO):IV H0 (upd H a o) p (sq loc r a) (i9 ob r o):=by exists h.own.new c r o,by rw[fZ (bT d)];exact h.np,by rw[c5 (bT d)];exact h.hn,λb u e n=>?_,λb f=>?_;have:=h.kp b u e n;rw[aI (aC this c)];exact this;rcases h.own.Z5 f with z|rfl;exact h.fr b z;exact .inr (h.free c)
theorem IV.put(h:IV H0 H p loc ob)(o:HO):IV H0 (upd H p o) p loc (i9 ob .dO o):=by have e:=h.own.set (r:=.dO) h.hn o;rw[h.np] at e;exists e,h.np,by rw[eK];exact aW o,λb u q n=>?_,λb a=>h.fr b ((J4 h.hn).mp a);rw[aI n];exact h.kp b u q n
theorem wX.add{H H':Hp}{loc:Role->am}{ob:Role->Option HO}(h:wX H loc ob)(s:aG H H'){a:am}(c:H a=ae){o:HO}(e:H' a=ac o)(r:Role):wX H' (sq loc r a) (i9 ob r o):=by have d:=h.new c r o;exists λq u b=>?_,d.inj;by_cases z:q=r;subst z;rw[eK] at b;cases b;rw[gA];exact e;rw[c5 z] at b;rw[fZ z];exact s _ _ (h.get q u b)
theorem IV.add(h:IV H0 H p loc ob)(s:aG H H'){a:am}(d:H a=ae){o:HO}(e:H' a=ac o){r:Role}(f:r≠.dO):IV H0 H' p (sq loc r a) (i9 ob r o):=by have c:=h.new d f o;exists h.own.add s d e r,c.np,c.hn,λb u q n=>s _ _ (h.kp b u q n),c.fr
theorem IV.agq(h:IV H0 H p loc ob){r:Role}(a:ob r≠ae)(d:r≠.dO)(o:HO):IV H0 (upd H (loc r) o) p loc (i9 ob r o):=by exists h.own.set a o,h.np,by rw[c5 (bT d)];exact h.hn,λb u e n=>?_,λb c=>h.fr b ((J4 a).mp c);have f:b≠loc r:=λz=>(by rcases h.fr (loc r) ⟨r,a,2⟩ with w|w;exact n (z.trans w);rw[z,w] at e;cases e);rw[aI f];exact h.kp b u e n
theorem IV.ext{loc':Role->am}{VQ:Role->Option HO}(h:IV H0 H p loc ob)(d:∀r,ob r=VQ r)(c:∀r,ob r≠ae->loc r=loc' r):IV H0 H p loc' VQ:=by have e:ob=VQ:=funext d;subst e;exists ⟨λr o e=>?_,λr q a b e=>h.own.inj r q a b ?_⟩,4,h.hn,h.kp,λb f=>?_;rw[<- c r (by rw[e];exact aW o)];exact h.own.get r o e;rw[c r a,c q b];exact e;rw[<- c .dO h.hn];exact h.np;obtain⟨r,a,e⟩:=f;exact h.fr b ⟨r,a,(c r a).trans e⟩
theorem IV.join{f:Role->am}{a:Role->Option HO}(h:IV H0 H p loc ob)(b:wX H' f a)(i:a .dO=ae)(fresh:∀r,a r≠ae->H (f r)=ae)(s:aG H H') :IV H0 H' p (λr=>if (a r).isSome=ag then f r else loc r) (λr=>if (a r).isSome=ag then a r else ob r):=by
 exists (h.own.mono s).join b λr q d c e=>?_,44,λb o e n=>s _ _ (h.kp b o e n),λx j=>?_;cases g:ob r with|none=>exact d g|some u=>have:=h.own.get r u g;rw[e,fresh q c] at this;cases this
 show (if (a .dO).isSome=ag then _ else _)=p;rw[i];exact h.np;show (if (a .dO).isSome=ag then _ else _)≠ae;rw[i];exact h.hn;obtain⟨r,d,c⟩:=j;by_cases z:(a r).isSome=ag;simp only[z,if_true] at d c;rw[<- c];exact .inr (h.free (fresh r d));simp only[z,if_false] at d c;exact h.fr x ⟨r,by simpa using d,by simpa using c⟩
end
noncomputable def AQ(ns:List Int)(i:Nat):RM.Row:=⟨ns.getD i 0,(0),(0),-1⟩
noncomputable def S0(ns:List Int)(rs:List R5)(cl:List (Nat×Nat)):NS where
 ws:=rs.map λr=>aB r.d.toNat
 R:=λ_=>AQ ns
 ts:=λ_=>[]
 aL:=cl.map (·.1)
 groups:=cl.map (·.2)
 had:=cl.map λ_=>[]
 ls:=[]
 cps:=[]
noncomputable def XF(C dx tp lu:am)(ls:List am)(ws:List (List Nat)):Role->Option HO
 |.cZ=>ac (.ins C dx [("town",.ref tp),("upright",.ref lu)])
 |.dR=>ac (.lst (ls.map cr))
 |.ig i=>ws[i]?.map λw=>.lst (aT w)
 |_=>ae
noncomputable def acN(sp lu:am)(ls:List am):Role->am
 |.cZ=>sp
 |.dR=>lu
 |.ig i=>ls.getD i 0
 |_=>0
theorem agr{H:Hp}{C sp s p d:am}{ls:List am}{ws:List (List Nat)}(m:H sp=ac (.ins C s [("town",.ref p),("upright",.ref d)]))(t:H d=ac (.lst (ls.map cr)))(hl:wL ls=ws.length) (y:∀(i:Nat) l w,ls[i]?=ac l->ws[i]?=ac w->H l=ac (.lst (aT w))) (nd:ls.Nodup) (D:d∉ls):wX H (acN sp d ls) (XF C s p d ls ws):=by
 have b:∀{i:Nat},XF C s p d ls ws (.ig i)≠ae->∃(a:i<wL ls),acN sp d ls (.ig i)=ls[i]:=λ{i}h=>(by have a:i<wL ls:=(by rw[hl];by_cases z:i<wL ws;exact z;exact ff (show (ws[i]?.map λw=>cx (aT w))=ae by rw[jY ∅];rfl) h);exists a,4;show ls.getD i 0=ls[i];rw[ao,aa a];rfl);have A:∀{i:Nat}(a:i<wL ls),∃w,H ls[i]=ac (.lst (aT w)):=λ{i}a=>⟨ws[i]'(hl▸a),y i _ _ (aa a) (aa (hl▸a))⟩;have u:sp≠d:=Ux m t (λe=>by cases e);have x:∀{i:Nat}(a:i<wL ls),sp≠ls[i]:=λ{i}a=>(by obtain⟨w,k⟩:=A a;exact Ux m k (λe=>by cases e));have v:∀{i:Nat}(a:i<wL ls),d≠ls[i]:=λ{i}a e=>D (e▸aP a);exists λr o e=>?_,λr q g f e=>?_;·(cases r <;> first|(cases e;done)|skip);(case cZ=>cases e;exact m);(case dR=>cases e;exact t);case ig i=>obtain⟨a,c⟩:=b (i:=i) (by rw[e];exact aW o);have k:=aa (hl▸a:i<wL ws);have e:(ws[i]?.map λw=>cx (aT w))=ac o:=e;rw[k] at e;cases e;rw[c];exact y i _ _ (aa a) k
 ·(cases r <;> first|exact ff rfl g|skip);(all_goals cases q <;> first|exact ff rfl f|rfl|skip);(case cZ.dR=>exact ff e u);(case cZ.ig i=>obtain⟨a,c⟩:=b f;exact ff (e.trans c) (x a));(case dR.cZ=>exact ff e.symm u);(case dR.ig i=>obtain⟨a,c⟩:=b f;exact ff (e.trans c) (v a));(case ig.cZ i=>obtain⟨a,c⟩:=b g;exact ff (e.symm.trans c) (x a));(case ig.dR i=>obtain⟨a,c⟩:=b g;exact ff (e.symm.trans c) (v a));case ig.ig i j=>obtain⟨a,c⟩:=b g;obtain⟨B,n⟩:=b f;rw[c,n] at e;have q:ls[i]?=ls[j]?:=(by rw[aa a,aa B,e]);have:=(p8 a nd).mp q;rw[this]
structure cR(ns:List Int)(rs:List R5):Prop where
 nd:ns.Nodup
 ok:∀r∈rs,r.Ok (wL ns)
 n1:1<=wL ns
 n10:wL ns<=10
 Z6:wL rs<=20
 pos:∀x∈ns,0<=x
structure Dh(ns:List Int)(rs:List R5)(s:NS):Prop where
 wl:wL s.ws=rs.length
 w4:∀w∈s.ws,wL w<=4
 fit:∀g,g<3->zg (wL ns) (wL rs) (s.R g)
noncomputable abbrev Ax(rs:List R5)(ws:List (List Nat))(g:Nat):List Nat:=wW rs ws g (wL rs)
theorem Ba{rs:List R5}{ws:List (List Nat)}{g:Nat}:∀k∈Ax rs ws g,k<wL rs:=λk a=>cS.mp (bD.mp a).1
noncomputable def p9(ns:List Int)(rs:List R5)(o:cR ns rs)(ws:List (List Nat))(g:Nat):RM.Net:=bA ns rs (Ax rs ws g) o.nd o.ok Ba
section
variable{K:ai}{c:NC}{CT:am}{H H':Hp}{loc dx:Role->am}{q:TQ}{p tp ln lr:am}{n:Nat}{s:NS}{ns:List Int}{rs:List R5}
theorem wX.strAt(O:wX H loc (desc c dx tp loc q s)):vR c.str H (loc .cZ) tp (loc .dR) s.ws:=by exists ⟨dx .cZ,O.get .cZ _ rfl⟩,(aB s.ws.length).map λi=>loc (.ig i),4,by rw[af,bJ],λi l w a b=>?_;have:=O.get .dR _ rfl;rw[this,cU];rfl;have d:=(aj.mp b).1;rw[ak,jn d] at a;cases a;exact O.get (.ig i) _ (by show (s.ws[i]?.map _)=_;rw[b];rfl)
theorem wX.Pa(O:wX H loc (desc c dx tp loc q s)){g:Nat}(a:g<3):sj c.book H (loc (.book g)) (loc (.gj g)) (s.ts g) :=⟨⟨dx (.book g),O.get (.book g) _ (eL a)⟩,O.get (.gj g) _ (eL a)⟩
theorem oY{f:Nat->V}{m g:Nat}(h:g<m):yb ((aB m).map f) (g:Int)=ac (f g):=bO (by rw[ak,jn h];rfl)
theorem cP.Uz{l:am}{qs:List am}{R:Nat->RM.Row}(h:cP K H qs (iK n R))(hl:bI K H l (qs.map cr)):zf K H l n R:=by have e:wL qs=n:=(by rw[h.len];simp[iK]);exists qs,hl,e,λi p a=>h.at' i p _ a ?_;have b:=(aj.mp a).1;unfold iK;rw[ak,jn ∅];rfl
theorem oZ{xs:List Nat}{i:Nat}(h:i<wL xs):yb (aT xs) (i:Int)=ac (.int (xs[i]:Nat)):=bO (by rw[ak,aa h];rfl)
end
noncomputable def fc{α:Type}(f:Nat->α)(i:Nat)(v:α):Nat->α:=λg=>if g=i then v else f g
theorem cJ{a:Type}{f:Nat->a}{i:Nat}{v:a}:fc f i v i=v:=eL rfl
theorem dG{a:Type}{f:Nat->a}{i g:Nat}{v:a}(h:g≠i):fc f i v g=f g:=e8 h
theorem wX.ext{H:Hp}{c loc':Role->am}{ob VQ:Role->Option HO}(h:wX H c ob)(f:∀r,ob r=VQ r)(d:∀r,ob r≠ae->c r=loc' r):wX H loc' VQ/\∀b,Fp c ob b↔Fp loc' VQ b:=by have e:ob=VQ:=funext f;subst e;exists ⟨λr o e=>?_,λr q a b e=>h.inj r q a b ?_⟩,λb=>⟨λ⟨r,a,e⟩=>⟨r,a,(d r a).symm.trans e⟩,λ⟨r,a,e⟩=>⟨r,a,(d r a).trans e⟩⟩;rw[<- d r (by rw[e];exact aW o)];exact h.get r o e;rw[d r a,d q b];exact e
section
variable{K:ai}{c:NC}{H H':Hp}{F:am->Prop}{loc dx:Role->am}{q:TQ}{p tp:am}{n g:Nat}{s:NS}
theorem UA(J:loc .dO=p)(O:wX H loc (desc c dx tp loc q s))(u:∀b,F b↔Fp loc (desc c dx tp loc q s) b)(m:oX K H n q s)(y:g<3){d' d:am}(j:H d'=ae) (Q:H' (loc (.book g))=ac (.ins c.book d [("kept",.ref d')])) (M:H' d'=ac (.dT [])) (C:∀b o,H b=ac o->b≠loc (.book g)->H' b=ac o) :∃I,cE K c H' I p tp n {s with ts:=fc s.ts g []}/\Step H F H' I:=by have B:desc c dx tp loc q s (.book g)≠ae:=(by show (if g<3 then ac _ else ae)≠ae;rw[eL y];exact aW _);have G:F (loc (.book g)):=(u _).mpr ⟨.book g,B,2⟩;have h:∀b o,H b=ac o->¬F b->H' b=ac o:=λb o e z=>C b o e λw=>z (w▸G);have t:cE K c H F p tp n s:=⟨loc,dx,q,J,O,u,m⟩;have D:=O.set B (.ins c.book d [("kept",.ref d')]);have A:d'≠loc (.book g):=λz=>(by have:=t.there G;obtain⟨o,e⟩:=this;rw[z,e] at j;cases j);have v:(upd H (loc (.book g)) (.ins c.book d [("kept",.ref d')])) d'=ae:=(by rw[aI A];exact j);have N:=D.new v (.gj g) (.dT []);have T:wX H' (sq loc (.gj g) d') (i9 (i9 (desc c dx tp loc q s) (.book g) (.ins c.book d [("kept",.ref d')])) (.gj g) (.dT [])):=(by refine N.keep λb o e _=>?_;by_cases z:b=d';rw[z,au] at e;cases e;rw[z];exact M;rw[aI z] at e;by_cases f:b=loc (.book g);rw[f,au] at e;cases e;rw[f];exact Q;rw[aI f] at e;exact C b o e f);obtain⟨P,S⟩:=T.ext (VQ:=desc c (λr=>if r=.book g then d else dx r) tp (sq loc (.gj g) d') q {s with ts:=fc s.ts g []}) (loc':=sq loc (.gj g) d') (λr=>by (cases r <;> first|rfl|skip);rename_i k;show i9 (desc c dx tp loc q s) (.book g) _ (.book k)=(if k<3 then ac (c0 c.book (if Role.book k=.book g then d else dx (.book k)) [("kept",.ref (sq loc (.gj g) d' (.gj k)))]) else ae);by_cases z:k=g;subst z;rw[eK,eL y,eL rfl,gA];have E:Role.book k≠.book g:=λe=>z (by cases e;rfl);have a:Role.gj k≠.gj g:=λe=>z (by cases e;rfl);rw[c5 E,e8 E,fZ a];rfl;rename_i k;show i9 (i9 (desc c dx tp loc q s) (.book g) _) (.gj g) _ (.gj k)=(if k<3 then ac (HO.dT ((fc s.ts g [] k).map eY)) else ae);by_cases z:k=g;subst z;rw[eK,eL y,cJ];rfl;have a:Role.gj k≠.gj g:=λe=>z (by cases e;rfl);rw[c5 a,dG z];rfl) (λr _=>rfl);exists Fp _ _,⟨33,q,4,P,λb=>Iff.rfl,⟨λk L=>(m.rows k L).mono λb x=>t.tup h,λi l e=>(m.aF i l e).mono λb x=>t.tup h,m.cps.mono λb x=>t.tup h⟩⟩,h,λb R=>?_;rw[fZ (λz=>by cases z)];exact J;rcases D.Z5 ((S b).mpr R) with z|rfl;exact .inl ((u b).mpr ((J4 B).mp z));exact .inr j
theorem acO(I:loc .dO=p)(O:wX H loc (desc c dx tp loc q s))(t:∀b,F b↔Fp loc (desc c dx tp loc q s) b)(j:oX K H n q s)(E:g<3){x:Nat}(U:x<n){a:am}{d:RM.Row}(L:cD K H a (RM.cW d)) :∃G,cE K c (upd H (loc (.rows g)) (.lst (((q.rq g).map cr).set x (.ref a)))) G p tp n {s with R:=fc s.R g (RM.upd (s.R g) x d)}/\Step H F (upd H (loc (.rows g)) (.lst (((q.rq g).map cr).set x (.ref a)))) G:=by have A:desc c dx tp loc q s (.rows g)≠ae:=(by show (if g<3 then ac _ else ae)≠ae;rw[eL E];exact aW _);have S:F (loc (.rows g)):=(t _).mpr ⟨.rows g,A,2⟩;have B:∀b o,H b=ac o->¬F b->(upd H (loc (.rows g)) (.lst (((q.rq g).map cr).set x (.ref a)))) b=ac o:=λb o e z=>(by have J:b≠loc (.rows g):=λw=>z (w▸S);rw[aI J];exact e);have T:cE K c H F p tp n s:=⟨loc,dx,q,I,O,t,j⟩;have h:∀{b x},cD K H b x->_:=λ{b x}e=>T.tup B (b:=b) (x:=x) e;have M:=O.set A (.lst (((q.rq g).map cr).set x (.ref a)));obtain⟨N,Q⟩:=M.ext (VQ:=desc c dx tp loc {q with rq:=fc q.rq g ((q.rq g).set x a)} {s with R:=fc s.R g (RM.upd (s.R g) x d)}) (loc':=loc) (λr=>by (cases r <;> first|rfl|skip);rename_i k;show i9 (desc c dx tp loc q s) (.rows g) _ (.rows k)=(if k<3 then ac (cx ((fc q.rq g ((q.rq g).set x a) k).map cr)) else ae);by_cases z:k=g;subst z;rw[eK,eL E,cJ,gQ];rw[c5 (λe=>z (by cases e;rfl)),dG z];rfl) (λr _=>rfl);exists Fp _ _,⟨loc,dx,_,I,N,λb=>Iff.rfl,⟨λk C=>?_,λi l e=>(j.aF i l e).mono λb x=>h,j.cps.mono λb x=>h⟩⟩,B,λb P=>.inl ((t b).mpr ((J4 A).mp ((Q b).mpr P)));show cP K _ (fc q.rq g ((q.rq g).set x a) k) (iK n (fc s.R g (RM.upd (s.R g) x d) k));by_cases z:k=g;subst z;rw[cJ,cJ];have D:=j.rows k C;have y:(q.rq k).length=n:=(by rw[D.len];simp[iK]);exists by rw[aQ,y];simp[iK],λi b v f u=>?_;have m:=(aj.mp f).1;rw[aQ,y] at m;unfold iK at u;rw[ak,jn m] at u;cases u;rw[bE] at f;by_cases w:x=i;subst w;rw[eL rfl,eL (by rw[y];exact m)] at f;cases f;have:RM.upd (s.R k) x d x=d:=(by unfold RM.upd;rw[eL rfl]);show cD K _ a (RM.cW (RM.upd (s.R k) x d x));rw[this];exact h L;rw[e8 w] at f;have:RM.upd (s.R k) x d i=s.R k i:=(by unfold RM.upd;rw[e8 (bT w)]);show cD K _ b (RM.cW (RM.upd (s.R k) x d i));rw[this];exact h (D.at' i b _ f (by unfold iK;rw[ak,jn m];rfl));rw[dG z,dG z];exact (j.rows k C).mono λb x=>h
end
section
variable{K:ai}{c:NC}{H H':Hp}{F:am->Prop}{loc dx:Role->am}{q:TQ}{p tp:am}{n j:Nat}{s:NS}
theorem Rk(G:loc .dO=p)(O:wX H loc (desc c dx tp loc q s))(u:∀b,F b↔Fp loc (desc c dx tp loc q s) b)(h:oX K H n q s)(W:j<wL s.ws){a:am}{w:List Nat}{ls:List am}(J:H (loc .dR)=ac (.lst (ls.map cr)))(f:H a=ae)(R:H' a=ac (.lst (aT w)))(L:H' (loc .dR)=ac (.lst ((ls.map cr).set j (.ref a))))(B:∀b o,H b=ac o->b≠loc .dR->H' b=ac o) :∃E,cE K c H' E p tp n {s with ws:=s.ws.set j w}/\Step H F H' E:=by have A:desc c dx tp loc q s .dR≠ae:=aW _;have D:F (loc .dR):=(u _).mpr ⟨.dR,A,2⟩;have g:∀b o,H b=ac o->¬F b->H' b=ac o:=λb o e z=>B b o e λw=>z (w▸D);have m:cE K c H F p tp n s:=⟨loc,dx,q,G,O,u,h⟩;have t:ls.map cr=(aB s.ws.length).map λi=>cr (loc (.ig i)):=(by have:=O.get .dR _ rfl;rw[J] at this;exact HO.lst.inj (aO this));have C:=O.set A (.lst ((ls.map cr).set j (.ref a)));have v:a≠loc .dR:=λz=>(by obtain⟨o,e⟩:=m.there D;rw[z,e] at f;cases f);have y:(upd H (loc .dR) (.lst ((ls.map cr).set j (.ref a)))) a=ae:=(by rw[aI v];exact f);have M:=C.new y (.ig j) (.lst (aT w));have U:wX H' (sq loc (.ig j) a) (i9 (i9 (desc c dx tp loc q s) .dR (.lst ((ls.map cr).set j (.ref a)))) (.ig j) (.lst (aT w))):=(by refine M.keep λb o e _=>?_;by_cases z:b=a;rw[z,au] at e;cases e;rw[z];exact R;rw[aI z] at e;by_cases d:b=loc .dR;rw[d,au] at e;cases e;rw[d];exact L;rw[aI d] at e;exact B b o e d);obtain⟨P,T⟩:=U.ext (VQ:=desc c dx tp (sq loc (.ig j) a) q {s with ws:=s.ws.set j w}) (loc':=sq loc (.ig j) a) (λr=>by (cases r <;> first|rfl|skip);show ac (cx ((ls.map cr).set j (.ref a)))=ac (cx ((aB (s.ws.set j w).length).map λi=>cr (sq loc (.ig j) a (.ig i))));rw[t,aQ];congr 2;refine yZ (-_) λi Q X=>?_;simp only[aQ,af,bJ] at Q;rw[List.getElem_set];by_cases z:j=i;subst z;simp[gA];have N:Role.ig i≠.ig j:=λe=>z (by cases e;rfl);simp[z,fZ N];rename_i i;show i9 (i9 (desc c dx tp loc q s) .dR _) (.ig j) _ (.ig i)=((s.ws.set j w)[i]?.map λw=>cx (aT w));by_cases z:i=j;subst z;rw[eK,bE,eL rfl,eL W];rfl;rw[c5 (λe=>z (by cases e;rfl)),bE,e8 (bT z)];rfl) (λr _=>rfl);exists Fp _ _,⟨_,dx,q,4,P,λb=>Iff.rfl,⟨λk I=>(h.rows k I).mono λb x=>m.tup g,λi l e=>(h.aF i l e).mono λb x=>m.tup g,h.cps.mono λb x=>m.tup g⟩⟩,g,λb S=>?_;rw[fZ (λz=>by cases z)];exact G;rcases C.Z5 ((T b).mpr S) with z|rfl;exact .inl ((u b).mpr ((J4 A).mp z));exact .inr f
theorem UB(u:loc .dO=p)(O:wX H loc (desc c dx tp loc q s))(j:∀b,F b↔Fp loc (desc c dx tp loc q s) b)(C:oX K H n q s){l:am}{qs:List am}{cps:List Cp}(hl:H l=ac (.lst (qs.map cr)))(G:¬F l)(R:cP K H qs (cps.map Cp.vs)) :∃I,cE K c (upd H p (.ins c.dO (dx .dO) [("town",.ref tp),("strands",.ref (loc .cZ)),("rows_by_group",.ref (loc .uB)),("books",.ref (loc .ju)),("homes",.ref (loc .aL)),("groups",.ref (loc .groups)),("handed",.ref (loc .i8)),("letters",.ref (loc .cV)),("copies",.ref l)])) I p tp n {s with cps:=cps} /\(∀b o,H b=ac o->b≠p->(upd H p (.ins c.dO (dx .dO) [("town",.ref tp),("strands",.ref (loc .cZ)),("rows_by_group",.ref (loc .uB)),("books",.ref (loc .ju)),("homes",.ref (loc .aL)),("groups",.ref (loc .groups)),("handed",.ref (loc .i8)),("letters",.ref (loc .cV)),("copies",.ref l)])) b=ac o)/\F p/\∀b,I b->F b∨b=l:=by generalize L:c0 c.dO (dx .dO) [("town",.ref tp),("strands",.ref (loc .cZ)),("rows_by_group",.ref (loc .uB)),("books",.ref (loc .ju)),("homes",.ref (loc .aL)),("groups",.ref (loc .groups)),("handed",.ref (loc .i8)),("letters",.ref (loc .cV)),("copies",.ref l)]=o1;have t:desc c dx tp loc q s .dO≠ae:=aW _;have f:F p:=(j _).mpr ⟨.dO,t,u⟩;have S:cE K c H F p tp n s:=⟨loc,dx,q,u,O,j,C⟩;have y:∀b o,H b=ac o->b≠p->(upd H p o1) b=ac o:=λb o e z=>(by rw[aI z];exact e);have v:∀{b x},cD K H b x->cD K (upd H p o1) b x:=λ{b x} e=>S.tup (λb o e z=>y b o e λw=>z (w▸f)) e;have A:=O.set t o1;rw[u] at A;have D:l≠p:=λz=>G (z▸f);have M:wX (upd H p o1) (sq loc .fQ l) (i9 (i9 (desc c dx tp loc q s) .dO o1) .fQ (.lst (qs.map cr))):=(by exists λr o e=>?_,λr E a b e=>?_;by_cases z:r=.fQ;subst z;rw[eK] at e;cases e;rw[gA];exact y _ _ hl D;rw[c5 z] at e;rw[fZ z];exact A.get r o e;have g:∀{r:Role},r≠.fQ->i9 (desc c dx tp loc q s) .dO o1 r≠ae->loc r≠l:=λ{r} z h e=>(by refine G ((j _).mpr ⟨r,4,e⟩);by_cases w:r=.dO;rw[w];exact t;rw[c5 w] at h;exact h);by_cases z:r=.fQ;by_cases d:E=.fQ;rw[z,d];rw[z,gA,fZ d] at e;rw[c5 d] at b;exact ff e.symm (g d b);by_cases d:E=.fQ;rw[d,gA,fZ z] at e;rw[c5 z] at a;exact ff e (g z a);rw[fZ z,fZ d] at e;rw[c5 z] at a;rw[c5 d] at b;exact A.inj r E a b e);obtain⟨N,Q⟩:=M.ext (VQ:=desc c dx tp (sq loc .fQ l) {q with cq:=qs} {s with cps:=cps}) (loc':=sq loc .fQ l) (λr=>by subst L;cases r <;> rfl) (λr _=>rfl);exists Fp _ _,⟨_,dx,34,N,λb=>Iff.rfl,⟨λk J=>(C.rows k J).mono λb x=>v,λi l e=>(C.aF i l e).mono λb x=>v,R.mono λb x=>v⟩⟩,y,f,λb P=>?_;rw[fZ (λz=>by cases z)];exact u;obtain⟨r,B,m⟩:=(Q b).mpr P;by_cases z:r=.fQ;rw[z,gA] at m;exact .inr m.symm;rw[fZ z] at m;rw[c5 z] at B;refine .inl ((j b).mpr ⟨r,4,m⟩);by_cases w:r=.dO;rw[w];exact t;rw[c5 w] at B;exact B
end
end TW
namespace TW
open PySem L2 PyProof.Rows
open Classical in
noncomputable def Off(H:Hp)(F:am->Prop):Hp:=λb=>if F b then ae else H b
section
variable{K:ai}{c:NC}{CT:am}{H H':Hp}{F F' F1 F2 G:am->Prop}{p tp ln lr:am}{n:Nat}{s:NS}{ns:List Int}{rs:List R5}
theorem c9{b:am}{o:HO}(h:Off H F b=ac o):¬F b/\H b=ac o:=by unfold Off at h;by_cases z:F b;rw[eL z] at h;cases h;rw[e8 z] at h;exists z,h
theorem gB{b:am}{o:HO}(z:¬F b)(h:H b=ac o):Off H F b=ac o:=by unfold Off;rw[e8 z];exact h
theorem aD:aG (Off H F) H:=λb o e=>(c9 e).2
theorem fB(st:Step H F H' F'):aG (Off H F) (Off H' F'):=λb o e=>by
 obtain⟨c,a⟩:=c9 e;refine gB (λz=>?_) (st.kp b o a c);rcases st.fr b z with w|w
 ·exact c w
 ·rw[a] at w;cases w
theorem bN(e:aG H H'):aG (Off H F) (Off H' F):=fB (Step.refl' e)
theorem nA{z:am}{o:HO}(a:¬F z):Off (upd H z o) F=upd (Off H F) z o:=by funext b;by_cases e:b=z;subst e;rw[au];exact gB a au;rw[aI e];unfold Off;rw[aI e]
theorem rL{b:am}(h:H b=ae):Off H F b=ae:=by cases e:Off H F b with|none=>rfl|some o=>have:=(c9 e).2;rw[h] at this;cases this
theorem cE.J6(h:cE K c H F p tp n s){b:am}{x:List V}(e:cD K H b x):cD K (Off H F) b x:=by rcases e with (e|⟨o,e⟩)|e;exact .inl (.inl (gB (λz=>(h.VP z e x).1 rfl) e));exact .inl (.inr ⟨o,gB (λz=>(h.VP z e x).2 o rfl) e⟩);exact .inr e
theorem dN.nw(a:dN K CT (Off H G) tp ln lr ns rs)(N:cE K c H F p tp (wL ns) s)(sub:∀b,F b->G b):NW K c CT H F p tp ln lr ns rs s:=by obtain⟨⟨i,f⟩,d,h,e,g⟩:=id a;exists N,a.mono aD,λz=>(c9 f).1 (sub _ z),λz=>(c9 d).1 (sub _ z),λz=>(c9 e).1 (sub _ z)
end
inductive J7(K:ai)(H:Hp)(l:am)(rs:List R5):Prop
 |mk(qs:List am):H l=ac (.lst (qs.map cr))->cP K H qs (rs.map R5.vs)->J7 K H l rs
theorem J7.keep{K:ai}{H a:Hp}{l:am}{rs:List R5}(h:J7 K H l rs)(k:∀o,H l=ac o->a l=ac o)(c:∀b x,cD K H b x->cD K a b x):J7 K a l rs:=by obtain⟨f,e,d⟩:=h;exists f,k _ e,d.mono c
theorem J7.aeG{K:ai}{H:Hp}{l:am}:∀{rs:List R5}{qs:List am},cP K H qs (rs.map R5.vs)->dw K H (rs.map R5.D) (qs.map cr)
 |[],[],_=>rfl
 |[],_::_,h=>by cases h.len
 |_::_,[],h=>by cases h.len
 |r::rs,q::qs,h=>⟨.ref q,qs.map cr,2,Rep.A2 (ns:=r.ns) (h.at' 0 q _ rfl rfl),J7.aeG (l:=l) ⟨Nat.succ.inj h.len,λi p x a b=>h.at' (i+1) p x a b⟩⟩
theorem Z8{H a d:Hp}{F:am->Prop}{p:am}(t:aG H a)(c:H p=ae)(f:∀b o,a b=ac o->b≠p->d b=ac o)(g:∀b,F b->b=p∨a b=ae):aG H (Off d F):=λb o e=>gB (λz=>by
 rcases g b z with rfl|w
 ·rw[e] at c;cases c
 ·rw[t _ _ e] at w;cases w) (f b o (t b o e) (aC e c))
end TW
namespace L2
open PySem PySem.Spec PyProof.Rows
structure Pb(K:ai)(x qual:Str)(st:Stmt)(f:am)(fd:FuncData)(dv:ar):Prop where
 ex:∃(oc:ar)(od:Option am)(T:am)(o:Obj)(n:Nat)(kV doc pm:ar)(an:Option am)(cdv ct:ar)(osl:Array (Option ar)),
  fd=fU x qual (kG st) (gR st) (aE st) (.ref T) kV doc pm an cdv ct/\K.lookup f=ac ⟨oc,od,.func fd,osl⟩/\kq K cdv qual=ag/\K.lookup T=ac o/\o.data=.seq #[dv] n
 kp:fD K (.ref f)=ag
section
variable{P:ci}{w:World}{K:ai}{mg:Str->Option ar}{base:Heap}
theorem Pb.ok{x b:Str}{st:Stmt}{f:am}{i:FuncData}{j:ar}{N ps:List Str}{k:Nat}{sp:Sp}(F:Pb K x b st f i j)(S:aM N ps (aE st))(g:∀vs H Q E,sp vs H Q E->wL vs=ps.length)(d:∀(c:ar)(A:cm)(a:List Env)(s:aw)(H:Hp)(vs:List V)(Q:VK)(E:XK),kW k (A.deeper (envOfC b (aE st) s.heap.objs.size f c))->sp vs H Q E ->∃t,iE (qk iJ P w K mg base N b (aE st) f c A a s H E).Hx (gR st) t/\t {nx:=λ_ p=>Q .gk p,rt:=Q} (start N vs) H):cH P w K mg base iJ (k+1) f i ps sp:=by obtain⟨y,z,T,o,n,kV,m,C,v,c,B,l,rfl,lk,e,_⟩:=F.ex;refine Zq lk e S g λA a s H vs Q E u r=>?_;obtain⟨t,h,q⟩:=d c A a s H vs Q E u r;exists t,h.Hx,q
theorem Pb.binds{x a:Str}{st:Stmt}{f:am}{i:FuncData}{g:ar}{ps:List Str}{ds:List ar}{m:Nat}(F:Pb K x a st f i g)(v:m+wL ds=ps.length)(h:∀(T:am)(kV b e:ar)(d:Option am)(c ct:ar)(us:List ar),wL us=m ->∃k,bindArgs (fU x a (kG st) (gR st) (aE st) (.ref T) kV b e d c ct) ⟨us,[]⟩=seqItems? (.ref T) >>= k/\k (ac #[g])=pure (ps.zip (us++ds))):Binds K i ps ds:=by obtain⟨w,y,T,o,n,kV,b,e,d,c,ct,j,rfl,lk,q,lt,t⟩:=F.ex;intro s us l u;obtain⟨k,r,p⟩:=h T kV b e d c ct us (by rw[av] at u;lia);exact PySem.W.binds_K l rfl lt t r p
theorem VR{x a:Str}{st:Stmt}{f T:am}{o:Obj}{n:Nat}{i:ar}{j:ar}{m g:Option am}{e:Array (Option ar)}{kV d h b ct:ar}(l:K.lookup f=ac ⟨j,m,.func (fU x a (kG st) (gR st) (aE st) (.ref T) kV d h g b ct),e⟩)(c:kq K b a=ag)(k:fD K (.ref f)=ag)(lt:K.lookup T=ac o)(p:o.data=.seq #[i] n):Pb K x a st f (fU x a (kG st) (gR st) (aE st) (.ref T) kV d h g b ct) i:=⟨⟨j,m,T,o,n,kV,d,h,g,b,ct,e,2,l,c,lt,p⟩,k⟩
end
end L2
namespace TW
open PySem L2 PyProof.Rows
structure kC(K:ai)(c:NC)(H:Hp)(F:am->Prop)(loc dx:Role->am)(q:TQ)(p tp:am)(n:Nat)(s:NS):Prop where
 hp:loc .dO=p
 own:wX H loc (desc c dx tp loc q s)
 fp:∀b,F b↔Fp loc (desc c dx tp loc q s) b
 tup:oX K H n q s
section
variable{K:ai}{c:NC}{H H':Hp}{F:am->Prop}{loc dx:Role->am}{q:TQ}{p tp:am}{n:Nat}{s:NS}
theorem kC.dO(h:kC K c H F loc dx q p tp n s):cE K c H F p tp n s:=⟨loc,dx,q,h.hp,h.own,h.fp,h.tup⟩
theorem kC.mono(h:kC K c H F loc dx q p tp n s)(e:aG H H'):kC K c H' F loc dx q p tp n s:=⟨h.hp,h.own.mono e,h.fp,h.tup.mono λb x=>e.bP⟩
theorem zl(X:kC K c H F loc dx q p tp n s){r:Role}(f:desc c dx tp loc q s r≠ae){o:HO}{q':TQ}{s':NS}(i:∀x,i9 (desc c dx tp loc q s) r o x=desc c dx tp loc q' s' x)(d:(∀b x,cD K H b x->cD K (upd H (loc r) o) b x)->oX K (upd H (loc r) o) n q' s') :kC K c (upd H (loc r) o) F loc dx q' p tp n s'/\Step H F (upd H (loc r) o) F:=by obtain⟨h,O,a,k⟩:=X;have m:F (loc r):=(a _).mpr ⟨r,f,2⟩;have t:cE K c H F p tp n s:=⟨loc,dx,q,h,O,a,k⟩;have g:∀b u,H b=ac u->¬F b->(upd H (loc r) o) b=ac u:=λb u e z=>br b u e λw=>z (w▸m);obtain⟨j,l⟩:=(O.set f o).ext (VQ:=desc c dx tp loc q' s') (loc':=loc) i (λx _=>rfl);exists ⟨h,j,λb=>(a b).trans ((J4 f).symm.trans (l b)),d λb x=>t.tup g⟩,g,λb z=>.inl z
theorem iz{ls:List LS}{i k:Nat}{a:LS}(b:i<wL ls):(ls.set i a)[k]?=if k=i then ac a else ls[k]?:=by rw[bE];by_cases z:i=k;subst z;rw[eL rfl,eL b,eL rfl];rw[e8 z,e8 (bT z)]
noncomputable def ou(c:NC)(dx:Role->am)(loc:Role->am)(i:Nat)(l:LS):HO:=.ins c.post (dx (.cF i)) [("letter",.ref (loc (.letter i))),("group",.int l.grp),("old",.bl l.old),("done_at",.ref (loc (.done i))),("deeds",.ref (loc (.aF i)))]
theorem acP(X:kC K c H F loc dx q p tp n s){i:Nat}{l:LS}(hl:s.ls[i]?=ac l) :kC K c (upd H (loc (.cF i)) (ou c dx loc i {l with old:=ag})) F loc dx q p tp n {s with ls:=s.ls.set i {l with old:=ag}}/\Step H F (upd H (loc (.cF i)) (ou c dx loc i {l with old:=ag})) F:=by
 have a:=(aj.mp hl).1;refine zl X (r:=.cF i) (q':=q) (by show (s.ls[i]?.map _)≠ae;rw[hl];exact aW _) (λx=>?_) (λb=>⟨λg f=>(X.tup.rows g f).mono b,λk d e=>?_,X.tup.cps.mono b⟩);·(cases x <;> first|rfl|skip);show ac _=ac (cx ((aB (s.ls.set i _).length).map _));rw[aQ];(all_goals rename_i k);show i9 (desc c dx tp loc q s) (.cF i) _ (.cF k)=((s.ls.set i _)[k]?.map λl=>ou c dx loc k l);rw[iz a];by_cases z:k=i;subst z;rw[eK,eL rfl];rfl;rw[c5 (λe=>z (by cases e;rfl)),e8 z];rfl;show (s.ls[k]?.map λl=>tS c (dx (.letter k)) l)=((s.ls.set i _)[k]?.map λl=>tS c (dx (.letter k)) l);rw[iz a];by_cases z:k=i;subst z;rw[eL rfl,hl];rfl;rw[e8 z];show (s.ls[k]?.map λl=>HO.dK (l.done.map λh:Nat=>(iF (h:Int),.bl ag)))=((s.ls.set i _)[k]?.map λl=>HO.dK (l.done.map λh:Nat=>(iF (h:Int),.bl ag)));rw[iz a];by_cases z:k=i;subst z;rw[eL rfl,hl];rfl;rw[e8 z];show (s.ls[k]?.map λ_=>cx ((q.dq k).map cr))=((s.ls.set i _)[k]?.map λ_=>cx ((q.dq k).map cr));rw[iz a];by_cases z:k=i;subst z;rw[eL rfl,hl];rfl;rw[e8 z]
 have e:(s.ls.set i _)[k]?=ac d:=e;rw[iz a] at e;by_cases z:k=i;subst z;rw[eL rfl] at e;cases e;exact (X.tup.aF k l hl).mono b;rw[e8 z] at e;exact (X.tup.aF k d e).mono b
theorem Z9(X:kC K c H F loc dx q p tp n s){i:Nat}{l:LS}(hl:s.ls[i]?=ac l)(ds:List Nat) :kC K c (upd H (loc (.done i)) (.dK (ds.map λh:Nat=>(iF (h:Int),.bl ag)))) F loc dx q p tp n {s with ls:=s.ls.set i {l with done:=ds}}/\Step H F (upd H (loc (.done i)) (.dK (ds.map λh:Nat=>(iF (h:Int),.bl ag)))) F:=by
 have a:=(aj.mp hl).1;refine zl X (r:=.done i) (q':=q) (by show (s.ls[i]?.map _)≠ae;rw[hl];exact aW _) (λx=>?_) (λb=>⟨λg f=>(X.tup.rows g f).mono b,λk d e=>?_,X.tup.cps.mono b⟩);·(cases x <;> first|rfl|skip);show ac _=ac (cx ((aB (s.ls.set i _).length).map _));rw[aQ];(all_goals rename_i k);show (s.ls[k]?.map λl=>ou c dx loc k l)=((s.ls.set i _)[k]?.map λl=>ou c dx loc k l);rw[iz a];by_cases z:k=i;subst z;rw[eL rfl,hl];rfl;rw[e8 z];show (s.ls[k]?.map λl=>tS c (dx (.letter k)) l)=((s.ls.set i _)[k]?.map λl=>tS c (dx (.letter k)) l);rw[iz a];by_cases z:k=i;subst z;rw[eL rfl,hl];rfl;rw[e8 z];show i9 (desc c dx tp loc q s) (.done i) _ (.done k)=((s.ls.set i _)[k]?.map λl=>HO.dK (l.done.map λh:Nat=>(iF (h:Int),.bl ag)));rw[iz a];by_cases z:k=i;subst z;rw[eK,eL rfl];rfl;rw[c5 (λe=>z (by cases e;rfl)),e8 z];rfl;show (s.ls[k]?.map λ_=>cx ((q.dq k).map cr))=((s.ls.set i _)[k]?.map λ_=>cx ((q.dq k).map cr));rw[iz a];by_cases z:k=i;subst z;rw[eL rfl,hl];rfl;rw[e8 z]
 have e:(s.ls.set i _)[k]?=ac d:=e;rw[iz a] at e;by_cases z:k=i;subst z;rw[eL rfl] at e;cases e;exact (X.tup.aF k l hl).mono b;rw[e8 z] at e;exact (X.tup.aF k d e).mono b
theorem Bb(X:kC K c H F loc dx q p tp n s){i:Nat}{l:LS}(hl:s.ls[i]?=ac l){a:am}{d:ck}(w:cD K H a d.vs) :kC K c (upd H (loc (.aF i)) (.lst ((q.dq i).map cr++[.ref a]))) F loc dx {q with dq:=fc q.dq i (q.dq i++[a])} p tp n {s with ls:=s.ls.set i {l with aF:=l.aF++[d]}}/\Step H F (upd H (loc (.aF i)) (.lst ((q.dq i).map cr++[.ref a]))) F:=by
 have o:=(aj.mp hl).1;refine zl X (r:=.aF i) (q':={q with dq:=fc q.dq i (q.dq i++[a])}) (by show (s.ls[i]?.map _)≠ae;rw[hl];exact aW _) (λx=>?_) (λf=>⟨λg y=>(X.tup.rows g y).mono f,λk v e=>?_,X.tup.cps.mono f⟩);·(cases x <;> first|rfl|skip);show ac _=ac (cx ((aB (s.ls.set i _).length).map _));rw[aQ];(all_goals rename_i k);show (s.ls[k]?.map λl=>ou c dx loc k l)=((s.ls.set i _)[k]?.map λl=>ou c dx loc k l);rw[iz o];by_cases z:k=i;subst z;rw[eL rfl,hl];rfl;rw[e8 z];show (s.ls[k]?.map λl=>tS c (dx (.letter k)) l)=((s.ls.set i _)[k]?.map λl=>tS c (dx (.letter k)) l);rw[iz o];by_cases z:k=i;subst z;rw[eL rfl,hl];rfl;rw[e8 z];show (s.ls[k]?.map λl=>HO.dK (l.done.map λh:Nat=>(iF (h:Int),.bl ag)))=((s.ls.set i _)[k]?.map λl=>HO.dK (l.done.map λh:Nat=>(iF (h:Int),.bl ag)));rw[iz o];by_cases z:k=i;subst z;rw[eL rfl,hl];rfl;rw[e8 z];show i9 (desc c dx tp loc q s) (.aF i) _ (.aF k)=((s.ls.set i _)[k]?.map λ_=>cx ((fc q.dq i (q.dq i++[a]) k).map cr));rw[iz o];by_cases z:k=i;subst z;rw[eK,eL rfl,cJ,aK];rfl;rw[c5 (λe=>z (by cases e;rfl)),e8 z,dG z];rfl
 show cP K _ (fc q.dq i (q.dq i++[a]) k) _;have e:(s.ls.set i _)[k]?=ac v:=e;rw[iz o] at e;by_cases z:k=i;subst z;rw[eL rfl] at e;cases e;rw[cJ];show cP K _ _ ((l.aF++[d]).map ck.vs);rw[aK];have t:=(X.tup.aF k l hl).mono f;exists by rw[av,av,t.len];rfl,λj b x u m=>?_;rcases CL u with u|⟨rfl,rfl⟩;have A:=(aj.mp u).1;rw[bu (by rw[<- t.len];exact A)] at m;exact t.at' j b x u m;rw[t.len,bZ (az _)] at m;rw[gq] at m;cases m;exact f _ _ w;rw[e8 z] at e;rw[dG z];exact (X.tup.aF k v e).mono f
theorem VS(X:kC K c H F loc dx q p tp n s){qs:List am}{cps:List Cp}(b:cP K H qs (cps.map Cp.vs)) :kC K c (upd H (loc .fQ) (.lst (qs.map cr))) F loc dx {q with cq:=qs} p tp n {s with cps:=cps}/\Step H F (upd H (loc .fQ) (.lst (qs.map cr))) F :=zl X (r:=.fQ) (q':={q with cq:=qs}) (aW _) (λx=>by cases x <;> rfl) (λa=>⟨λg d=>(X.tup.rows g d).mono a,λk l e=>(X.tup.aF k l e).mono a,b.mono a⟩)
theorem aaa(X:kC K c H F loc dx q p tp n s)(b:List Nat) :kC K c (upd H (loc .aL) (.lst (aT b))) F loc dx q p tp n {s with aL:=b}/\Step H F (upd H (loc .aL) (.lst (aT b))) F :=zl X (r:=.aL) (q':=q) (aW _) (λx=>by cases x <;> rfl) (λa=>⟨λg d=>(X.tup.rows g d).mono a,λk l e=>(X.tup.aF k l e).mono a,X.tup.cps.mono a⟩)
theorem aab(X:kC K c H F loc dx q p tp n s){i:Nat}(d:i<wL s.had)(a:List Nat) :kC K c (upd H (loc (.handed i)) (.lst (aT a))) F loc dx q p tp n {s with had:=s.had.set i a}/\Step H F (upd H (loc (.handed i)) (.lst (aT a))) F:=by
 refine zl X (r:=.handed i) (q':=q) (by show (s.had[i]?.map _)≠ae;rw[aa d];exact aW _) (λx=>?_) (λb=>⟨λg f=>(X.tup.rows g f).mono b,λk l e=>(X.tup.aF k l e).mono b,X.tup.cps.mono b⟩);cases x <;> first|rfl|skip
 show ac _=ac (cx ((aB (s.had.set i _).length).map _));rw[aQ];rename_i k;show i9 (desc c dx tp loc q s) (.handed i) _ (.handed k)=((s.had.set i a)[k]?.map λw=>cx (aT w));rw[bE];by_cases z:k=i;subst z;rw[eK,eL rfl,eL d];rfl;rw[c5 (λe=>z (by cases e;rfl)),e8 (bT z)];rfl
end
theorem uC{a:Type}{xs:List a}{i:Nat}{x:a}(h:xs[i]?=ac x):xs.set i x=xs:=by obtain⟨b,rfl⟩:=aj.mp h;exact List.set_getElem_self b
noncomputable def AR(c:NC)(Gy Pc la da ea:am)(n:Nat)(l:LS):Role->Option HO
 |.cF i=>if i=n then ac (.ins c.post Gy [("letter",.ref la),("group",.int l.grp),("old",.bl l.old),("done_at",.ref da),("deeds",.ref ea)]) else ae
 |.letter i=>if i=n then ac (tS c Pc l) else ae
 |.done i=>if i=n then ac (.dK (l.done.map λh:Nat=>(iF (h:Int),.bl ag))) else ae
 |.aF i=>if i=n then ac (.lst []) else ae
 |_=>ae
noncomputable def newL(pa la da ea:am):Role->am
 |.cF _=>pa
 |.letter _=>la
 |.done _=>da
 |.aF _=>ea
 |_=>0
section
variable{K:ai}{c:NC}{H H':Hp}{F:am->Prop}{loc dx:Role->am}{q:TQ}{p tp:am}{n:Nat}{s:NS}
theorem ags{Gy Pc pa la da ea:am}{l:LS}(v:H pa=ac (.ins c.post Gy [("letter",.ref la),("group",.int l.grp),("old",.bl l.old),("done_at",.ref da),("deeds",.ref ea)]))(u:H la=ac (tS c Pc l))(w:H da=ac (.dK (l.done.map λh:Nat=>(iF (h:Int),.bl ag))))(t:H ea=ac (.lst [])) (m:pa≠la) (s:pa≠da) (p:pa≠ea) (k:la≠da) (j:la≠ea) (q:da≠ea):wX H (newL pa la da ea) (AR c Gy Pc la da ea n l):=by
 have d:∀{i:Nat}{o:HO}{g:HO},(if i=n then ac o else ae)=ac g->o=g/\i=n:=λ{i o g}e=>(by by_cases z:i=n;rw[eL z] at e;cases e;exists 2,z;rw[e8 z] at e;cases e);have f:∀{i:Nat}{o:HO},(if i=n then ac o else ae)≠ae->i=n:=λ{i o}e=>(by by_cases z:i=n;exact z;rw[e8 z] at e;exact ff rfl e);exists λr o e=>?_,λr x a b e=>?_;·(cases r <;> first|(cases e;done)|skip);rw[<- (d e).1];exact v;rw[<- (d e).1];exact u;rw[<- (d e).1];exact w;rw[<- (d e).1];exact t
 ·(cases r <;> first|exact ff rfl a|skip);(all_goals cases x <;> first|exact ff rfl b|skip)
  all_goals first
   | (rw[f a,f b];done)
   |exact ff e m
   |exact ff e.symm m
   |exact ff e s
   |exact ff e.symm s
   |exact ff e p
   |exact ff e.symm p
   |exact ff e k
   |exact ff e.symm k
   |exact ff e j
   |exact ff e.symm j
   |exact ff e q
   |exact ff e.symm q
theorem aac(E:loc .dO=p)(O:wX H loc (desc c dx tp loc q s))(j:∀b,F b↔Fp loc (desc c dx tp loc q s) b)(m:oX K H n q s){Gy Pc pa la da ea:am}{l:LS}(I:l.aF=[]) (R:H pa=ac (.ins c.post Gy [("letter",.ref la),("group",.int l.grp),("old",.bl l.old),("done_at",.ref da),("deeds",.ref ea)])) (N:H la=ac (tS c Pc l)) (h3:H da=ac (.dK (l.done.map λh:Nat=>(iF (h:Int),.bl ag)))) (L:H ea=ac (.lst [])) (W:pa≠la) (d2:pa≠da) (X:pa≠ea) (M:la≠da) (G:la≠ea) (Z:da≠ea) (n1:¬F pa) (n2:¬F la) (n3:¬F da) (n4:¬F ea) :∃D,cE K c (upd H (loc .cV) (.lst (((aB (wL s.ls)).map λi=>.ref (loc (.cF i)))++[.ref pa]))) D p tp n {s with ls:=s.ls++[l]} /\(∀b o,H b=ac o->¬F b->(upd H (loc .cV) (.lst (((aB (wL s.ls)).map λi=>.ref (loc (.cF i)))++[.ref pa]))) b=ac o)/\∀b,D b->F b∨b=pa∨b=la∨b=da∨b=ea:=by
 have v:=ags (n:=s.ls.length) (c:=c) R N h3 L W d2 X M G Z;have N0:cE K c H F p tp n s:=⟨loc,dx,q,E,O,j,m⟩;have A:desc c dx tp loc q s .cV≠ae:=aW _;have Y:F (loc .cV):=(j _).mpr ⟨.cV,A,2⟩;have y:∀r,AR c Gy Pc la da ea (wL s.ls) l r≠ae->¬F (newL pa la da ea r):=λr h=>(by cases r <;> first|exact ff rfl h|assumption);have C:∀b o,H b=ac o->¬F b->(upd H (loc .cV) (.lst (((aB (wL s.ls)).map λi=>.ref (loc (.cF i)))++[.ref pa]))) b=ac o:=λb u e z=>br b u e λw=>z (w▸Y);have t:∀b x,cD K H b x->cD K _ b x:=λb x=>N0.tup C;have J:=O.join v λr q' a b e=>y q' b (e▸(j _).mpr ⟨r,a,2⟩);have S:=J.set (r:=.cV) A (.lst (((aB (wL s.ls)).map λi=>cr (loc (.cF i)))++[.ref pa]));have f:∀{k:Nat},k≠s.ls.length->(s.ls++[l])[k]?=s.ls[k]?:=λ{k}z=>(by by_cases w:k<wL s.ls;exact bu w;rw[jY (by rw[av];show s.ls.length+1<=k;lia),jY ∅]);have d:(s.ls++[l])[s.ls.length]?=ac l:=(by rw[bZ (az _),gq];rfl);obtain⟨P,U⟩:=S.ext (VQ:=desc c (λr=>if r=.cF (wL s.ls) then Gy else if r=.letter (wL s.ls) then Pc else dx r) tp (λr=>if (AR c Gy Pc la da ea (wL s.ls) l r).isSome=ag then newL pa la da ea r else loc r) {q with dq:=fc q.dq (wL s.ls) []} {s with ls:=s.ls++[l]})
  (loc':=λr=>if (AR c Gy Pc la da ea (wL s.ls) l r).isSome=ag then newL pa la da ea r else loc r) (λr=>by
   cases r <;> first|rfl|skip
   ·
    show ac _=ac (cx ((aB (s.ls++[l]).length).map _));rw[av];show _=ac (cx ((aB (wL s.ls+1)).map _));rw[iH,aK];congr 2;congr 1
    ·refine cT λi Q=>?_
     have z:i≠s.ls.length:=by have:=cS.mp Q;lia
     simp[AR,z]
    ·simp[AR,newL]
   all_goals rename_i k
   all_goals by_cases z:k=s.ls.length
   all_goals first|subst z|skip
   all_goals rw[c5 (λe=>by cases e)]
   ·simp[AR,newL,desc,d]
   ·have:=f z
    simp[AR,newL,desc,z,this]
   ·simp[AR,newL,desc,d]
   ·have:=f z
    simp[AR,newL,desc,z,this]
   ·simp[AR,newL,desc,d]
   ·have:=f z
    simp[AR,newL,desc,z,this]
   ·simp[AR,newL,desc,d,cJ]
   ·have:=f z
    simp[AR,newL,desc,z,this,dG z]) (λr _=>rfl)
 exists Fp _ _,⟨λr=>if (AR c Gy Pc la da ea (wL s.ls) l r).isSome=ag then newL pa la da ea r else loc r,33,E,P,λb=>Iff.rfl,⟨λg hg=>(m.rows g hg).mono t,λk B e=>?_,m.cps.mono t⟩⟩,C,λb T=>?_;have e:(s.ls++[l])[k]?=ac B:=e;show cP K _ (fc q.dq (wL s.ls) [] k) _;by_cases z:k=s.ls.length;subst z;rw[d] at e;cases e;rw[cJ,I];exact⟨2,λi b x e=>by cases e⟩;rw[f z] at e;rw[dG z];exact (m.aF k B e).mono t;·obtain⟨r,a,e⟩:=(J4 (ob:=λr=>if (AR c Gy Pc la da ea (wL s.ls) l r).isSome=ag then AR c Gy Pc la da ea (wL s.ls) l r else desc c dx tp loc q s r) (r:=.cV) A).mp ((U b).mpr T);by_cases z:(AR c Gy Pc la da ea (wL s.ls) l r).isSome=ag;(·simp only[z,if_true] at e;(subst e;right;cases r <;> first|(cases z;done)|skip);exact .inl rfl;exact .inr (.inl rfl);exact .inr (.inr (.inl rfl));exact .inr (.inr (.inr rfl)));simp only[z,if_false] at a e;exact .inl ((j b).mpr ⟨r,by simpa using a,by simpa using e⟩)
end
theorem Jv(a b x y:Int):PyData.eqv (.tuple (([a,b]:List Int).map .int)) (.tuple (([x,y]:List Int).map .int))=decide (a=x/\b=y):=by show (PyData.eqv (.int a) (.int x)&&(PyData.eqv (.int b) (.int y)&&ag))=_;show ((a==x)&&((b==y)&&ag))=_;rw[Bool.and_true,jo];simp
section
variable{K:ai}{c:NC}{H H':Hp}{F:am->Prop}{loc dx:Role->am}{q:TQ}{p tp:am}{n:Nat}{s:NS}
theorem kC.past(X:kC K c H F loc dx q p tp n s){z:am}{u:HO}(hz:H z=ac u)(d:uz u)(f:¬F z)(a:∀b v,H b=ac v->b≠z->H' b=ac v):kC K c H' F loc dx q p tp n s :=⟨X.hp,X.own.keep λb o e y=>a b o e λw=>f (w▸(X.fp b).mpr y),X.fp,X.tup.mono λb x=>cD.past hz d a⟩
end
noncomputable def VT(i x:Nat)(c:Cp):Bool:=decide (c.r=i/\c.w=x)
noncomputable def c6(s:NS)(i:Nat)(d:ck):NS:=match s.ls[i]? with|some l=>{s with ls:=s.ls.set i {l with aF:=l.aF++[d]}}|none=>s
theorem gf{s:NS}{i:Nat}{d:ck}{l:LS}(h:s.ls[i]?=ac l):c6 s i d={s with ls:=s.ls.set i {l with aF:=l.aF++[d]}}:=by unfold c6;rw[h]
noncomputable def kI(i x:Nat)(s:NS)(c:Cp):NS:=if VT i x c=ag then c6 s c.l (.Dg c.h i) else s
noncomputable def ji(s:NS)(i x:Nat)(m:Nat):NS:=(s.cps.take m).foldl (kI i x) s
noncomputable def jK(s:NS)(i x:Nat):NS:={ji s i x (wL s.cps) with cps:=s.cps.filter λc=>!VT i x c}
theorem Rl{s:NS}{i:Nat}{d:ck}:(c6 s i d).ls.length=s.ls.length:=by unfold c6;cases s.ls[i]? with|none=>rfl|some l=>exact aQ
theorem XG{i x:Nat}{s:NS}{c:Cp}:(kI i x s c).ls.length=s.ls.length:=by unfold kI;split;exact Rl;rfl
theorem Rm{s:NS}{i:Nat}{d:ck}:(c6 s i d).cps=s.cps:=by unfold c6;cases s.ls[i]? <;> rfl
theorem XH{i x:Nat}{s:NS}{c:Cp}:(kI i x s c).cps=s.cps:=by unfold kI;split;exact Rm;rfl
theorem Nq{i x:Nat}:∀{cs:List Cp}{s:NS},(cs.foldl (kI i x) s).ls.length=s.ls.length
 |[],_=>rfl
 |c::cs,s=>by rw[gH,Nq,XG]
theorem Nr{i x:Nat}:∀{cs:List Cp}{s:NS},(cs.foldl (kI i x) s).cps=s.cps
 |[],_=>rfl
 |c::cs,s=>by rw[gH,Nr,XH]
theorem zm{s:NS}{i x:Nat}:ji s i x 0=s:=by unfold ji;rw[List.take_zero];rfl
theorem zo{s:NS}{i x m:Nat}(h:m<wL s.cps):ji s i x (m+1)=kI i x (ji s i x m) s.cps[m]:=by unfold ji;rw[kE h,wM];rfl
theorem Nt{s:NS}{i x m:Nat}:(ji s i x m).ls.length=s.ls.length:=Nq
theorem XI{s:NS}{i x m:Nat}:(ji s i x m).cps=s.cps:=Nr
theorem Nu{a:Type}{f:a->Bool}{xs:List a}{i:Nat}(b:i<wL xs):(xs.take (i+1)).filter f=(xs.take i).filter f++if f xs[i]=ag then [xs[i]] else []:=by rw[kE b,eO];congr 1;cases e:f xs[i];rw[e8 (!_),dX (by rw[e];decide)];rfl;rw[eL rfl,dU e];rfl
theorem cP.snoc{K:ai}{H:Hp}{qs:List am}{xs:List (List V)}{a:am}{x:List V}(h:cP K H qs xs)(e:cD K H a x):cP K H (qs++[a]) (xs++[x]):=by exists by rw[av,av,h.len];rfl,λj b y c d=>?_;rcases CL c with c|⟨rfl,rfl⟩;have f:=(aj.mp c).1;rw[bu (by rw[<- h.len];exact f)] at d;exact h.at' j b y c d;rw[h.len,bZ (az _),gq] at d;cases d;exact e
end TW
namespace RM
variable{N:Net}{S:Nat->Row}
end RM
namespace Gr
end Gr
namespace L2
open PySem PySem.Spec PyProof.Rows
section
variable{X:Cx}{pos:Pos}
theorem sS(i:Nat){x:Str}{e:Expr}{b:TE}{a:Pos}{ps:List Str}{h:Scope}(S:aM X.N ps h)(d:PE X e b)(g:X.N[i]?=ac x:=by rfl)(j:Loc X.env.scope x:=by first|exact Or.inl rfl|exact Or.inr rfl)(c:swapsWith e (ac (.Name x a)) pos.line X.env=pure al:=by rfl)(f:X.fn x=ag∨X.env.scope.names.lookup x=ac .local:=by first|exact .inl rfl|exact .inr rfl|assumption) :PS X (.Assign [.Name x a] e pos) (ab2 b (jq i)):=afJ S.nd g j d c f
theorem gS(i:Nat){x:Str}(c:X.N.Nodup)(b:X.N[i]?=ac x:=by rfl)(a:Loc X.env.scope x:=by first|exact Or.inl rfl|exact Or.inr rfl)(d:X.fn x=ag∨X.env.scope.names.lookup x=ac .local:=by first|exact .inl rfl|exact .inr rfl|assumption):PG X (.Name x pos) (jq i):=Vu c b a d
theorem gT(i:Nat){x:Str}{ps:List Str}{c:Scope}(S:aM X.N ps c)(b:X.N[i]?=ac x:=by rfl)(d:Loc X.env.scope x:=by first|exact Or.inl rfl|exact Or.inr rfl)(a:X.fn x=ag∨X.env.scope.names.lookup x=ac .local:=by first|exact .inl rfl|exact .inr rfl|assumption):PG X (.Name x pos) (jq i):=Vu S.nd b d a
theorem oR{e:Expr}{a:TE}(b:PE X e a):iE X [.Return (ac e) pos] (afE a):=bz (Y3 b)
theorem oB{b j pos'}:iE X [.Return (ac (.Constant (.bool b) j pos')) pos] (afE (tC (.bl b))):=bz (Y3 MY)
theorem oE{e:Expr}{a:TE}(c:PE X e a)(b:swapsWith e ae pos.line X.env=pure al:=by rfl):iE X [.Expr e pos] (aem a):=bz (eE c b)
theorem fR{a:Expr}{b:TE}(d:PE X a b)(c:fJ a=ag:=by rfl):PA X [a] (iI b E4):=(mH d gM c)
theorem kN{a b:Expr}{d c:TE}(g:PE X a d)(e:PE X b c)(f:fJ a=ag:=by rfl)(h:fJ b=ag:=by rfl):PA X [a,b] (iI d (iI c E4)):=(mH g (mH e gM h) f)
theorem Ic{a b c:Expr}{f d e:TE}(j:PE X a f)(g:PE X b d)(h:PE X c e)(i:fJ a=ag:=by rfl)(k:fJ b=ag:=by rfl)(l:fJ c=ag:=by rfl):PA X [a,b,c] (iI f (iI d (iI e E4))):=(mH j (mH g (mH h gM l) k) i)
theorem nO{a b d c:Expr}{h f g e:TE}(m:PE X a h)(j:PE X b f)(k:PE X d g)(i:PE X c e)(l:fJ a=ag:=by rfl)(o:fJ b=ag:=by rfl)(p:fJ d=ag:=by rfl)(n:fJ c=ag:=by rfl):PA X [a,b,d,c] (iI h (iI f (iI g (iI e E4)))):=(mH m (mH j (mH k (mH i gM n) p) o) l)
theorem aN5{c b e a d:Expr}{h j g i f:TE}(o:PE X c h)(n:PE X b j)(t:PE X e g)(m:PE X a i)(r:PE X d f)(s:fJ c=ag:=by rfl)(l:fJ b=ag:=by rfl)(q:fJ e=ag:=by rfl)(p:fJ a=ag:=by rfl)(k:fJ d=ag:=by rfl):PA X [c,b,e,a,d] (iI h (iI j (iI g (iI i (iI f E4))))):=(mH o (mH n (mH t (mH m (mH r gM k) p) q) l) s)
theorem aN6{c b f a e d:Expr}{i l h k g j:TE}(q:PE X c i)(p:PE X b l)(w:PE X f h)(o:PE X a k)(u:PE X e g)(r:PE X d j)(v:fJ c=ag:=by rfl)(n:fJ b=ag:=by rfl)(t:fJ f=ag:=by rfl)(s:fJ a=ag:=by rfl)(m:fJ e=ag:=by rfl)(x:fJ d=ag:=by rfl):PA X [c,b,f,a,e,d] (iI i (iI l (iI h (iI k (iI g (iI j E4)))))):=(mH q (mH p (mH w (mH o (mH u (mH r gM x) m) s) t) n) v)
theorem aN7{c b g a e d f:Expr}{j n i m h k l:TE}(s:PE X c j)(r:PE X b n)(z:PE X g i)(q:PE X a m)(w:PE X e h)(t:PE X d k)(B:PE X f l)(x:fJ c=ag:=by rfl)(p:fJ b=ag:=by rfl)(v:fJ g=ag:=by rfl)(u:fJ a=ag:=by rfl)(o:fJ e=ag:=by rfl)(A:fJ d=ag:=by rfl)(y:fJ f=ag:=by rfl):PA X [c,b,g,a,e,d,f] (iI j (iI n (iI i (iI m (iI h (iI k (iI l E4))))))):=(mH s (mH r (mH z (mH q (mH w (mH t (mH B gM y) A) o) u) v) p) x)
theorem kO{N ps:List Str}{a scope:Scope}(S:aM N ps a)(c:List Str)(b:List (Option Nat))(d:X.env.scope=a:=by rfl)(e:X.N=N:=by rfl)(h:OY scope a N c b=ag:=by decide +kernel):kY X scope c b:=Xl d e h
end
section
variable{X:Cx}{a b tg iter:Expr}{ta tb:TE}{pos:Pos}{op:CmpOp}{r:R2}{body:List Stmt}{wi:TI}{g:TG}{ts:TS}
theorem xL(e:PE X a ta)(d:PE X b tb)(c:E7 b:=by exact λ_ _=>rfl):PE X (.Subscript a b pos) (nT (T4 X.K) ta tb):=VE VF e d c
theorem xT(e:PE X a ta)(d:PE X b tb)(c:E7 b:=by exact λ_ _=>rfl):PE X (.Subscript a b pos) (nT (W0 X.K) ta tb):=VE Zt e d c
theorem yL(K:ai)(d:PE X a ta)(e:PE X b tb)(f:X.K=K:=by rfl)(c:E7 b:=by exact λ_ _=>rfl):PE X (.Subscript a b pos) (nT (T4 K) ta tb):=VE (ZI K f) d e c
theorem yT(K:ai)(d:PE X a ta)(e:PE X b tb)(f:X.K=K:=by rfl)(c:E7 b:=by exact λ_ _=>rfl):PE X (.Subscript a b pos) (nT (W0 K) ta tb):=VE (acq K f) d e c
theorem qE(f:ya X (bv op) r)(d:PE X a ta)(g:PE X b tb)(e:op≠.In:=by decide)(c:op≠.NotIn:=by decide):PE X (.Compare a [op] [b] pos) (nT r ta tb):=ab5 f d g (Zi b e c)
theorem qT(f:ya X (bv op) r)(d:PE X a ta)(g:PE X b tb)(e:op≠.In:=by decide)(c:op≠.NotIn:=by decide):PT X (.Compare a [op] [b] pos) (Zj (nT r ta tb)):=iU f d g (Zi b e c)
theorem fS(c:PI X tg iter wi)(f:PG X tg g)(d:iE X body ts)(e:PassesOwn (model X.prog X.w) X.A X.env X.xe:=by exact PassesOwn.never)(b:X.calm=ag:=by rfl)(a:∀x,foldedSetIterable iter X.env x=pure x:=by intro _;rfl):PS X (.For tg iter body [] pos) (aiG wi g ts):=afM e b c f d a
end
section
variable{X:Cx}{x:Str}{p pos:Pos}{e:Expr}{es:List Expr}{te:TE}{t:TA}{id:String}{r:List V->Hp->VK->Prop}
theorem cB(d:qg X (.builtin id) r)(c:X.mg x=ae)(g:bootBuiltins x=ac (.builtin id))(h:PA X (e::es) t)(j:Gl X x:=by rfl)(i:x≠"__name__" := by decide)(b:(x==("__debug__" : Str))=al:=by decide) (f:bn (e::es) X.env=(al,eval e X.env)::bn es X.env:=by rfl) (a:(backTo pos (bn es X.env)).any (·.1)=al:=by rfl):PE X (.Call (.Name x p) (e::es) [] pos) (tCB r t):=QN d j c g h i b f a
theorem lS(d:X.mg "len" = ae)(g:PE X e te)(i:Gl X "len" := by rfl)(a:fJ e=ag:=by rfl)(f:bn [e] X.env=(al,eval e X.env)::bn [] X.env:=by rfl)(c:(backTo pos (bn [] X.env)).any (·.1)=al:=by rfl) :PE X (.Call (.Name "len" p) [e] [] pos) (tCB (λh H Q=>∃p b,h=[.ref p]/\(bI X.K H p b∨cD X.K H p b)/\Q (.int b.length) H) (iI te E4)):=QN OT i d PySem.boot_len (mH g gM a) (!_) (!_) f c
end
theorem je{N P:List Str}{a:Scope}(g:a.kind=.function:=by rfl)(c:a.isCoroutine=al:=by rfl)(d:a.isGenerator=al:=by rfl)(b:N.Nodup:=by decide +kernel)(e:N.take P.length=P:=by rfl)(h:∀x∈P,a.names.lookup x=ac .local∨a.names.lookup x=ac .cell:=by decide +kernel)(f:∀y∈a.names,y.2≠.free:=by decide +kernel):aM N P a:=⟨g,c,d,b,e,h,f⟩
structure kD(K:ai)(mg:Str->Option ar)(x key:Str)(st:Stmt)(f:am)(d:FuncData)(ps:List Str):Prop where
 F:Tt K x key st f d
 B:Binds K d ps []
 g:mg x=ac (.ref f)
structure ja(K:ai)(C:am)(x key:Str)(st:Stmt)(f:am)(d:FuncData)(ps:List Str):Prop where
 F:Tt K x key st f d
 B:Binds K d ps []
 m:ON K C x f
structure Rn(K:ai)(C:am)(key:Str)(st:Stmt)(f:am)(d:FuncData)(ps:List Str):Prop where
 F:Tt K "__init__" key st f d
 B:Binds K d ps []
 M:Mk K C f
def EG(K:ai)(mg:Str->Option ar)(x key:Str)(st:Stmt)(f:am):Prop:=∃d,Tt K x key st f d/\mg x=ac (.ref f)
def EM(K:ai)(C:am)(x key:Str)(st:Stmt)(f:am):Prop:=∃d,Tt K x key st f d/\ON K C x f
structure EC(K:ai)(C:am):Prop where
 c:Mc K C
 LC:PySem.W.makesIn K C=ag
 kc:fD K (.ref C)=ag
section
variable{K:ai}{h:Heap}{mg:Str->Option ar}{x key:Str}{st:Stmt}{C f:am}{oc:ar}{od an:Option am}{osl:Array (Option ar)}{kV doc pm cdv ct:ar}
theorem exG(X:K.In h)(G:h.Ns bi mg)(a:bX K bi x=ac (ac (.ref f)))(l:K.lookup f=ac ⟨oc,od,.func (fU x key (kG st) (gR st) (aE st) .none kV doc pm an cdv ct),osl⟩)(c:kq K cdv key=ag)(k:fD K (.ref f)=ag):EG K mg x key st f:=⟨_,ZF l c k,dJ X G a⟩
theorem exM(a:aN K (.ref C) x=ac (ac (.ref f)))(i:PySem.W.isFn K (.ref f)=ag)(l:K.lookup f=ac ⟨oc,od,.func (fU x key (kG st) (gR st) (aE st) .none kV doc pm an cdv ct),osl⟩)(c:kq K cdv key=ag)(k:fD K (.ref f)=ag):EM K C x key st f:=⟨_,ZF l c k,⟨a,i,k⟩⟩
theorem Tf(e:yX K C Str.empty=ag)(b:wI K C=ag)(c:PySem.W.plainOver K C=ag)(a:aN K (.ref C) "__setattr__" = ac (ac (.builtin "object.__setattr__")))(d:PySem.W.makesIn K C=ag)(f:fD K (.ref C)=ag):EC K C:=⟨⟨e,b,c,a⟩,d,f⟩
end
section
variable{X:Cx}{k k':Nat}{f C:am}{fd:FuncData}{ps:List Str}{sp:Sp}{x m key:Str}{st:Stmt}{p pos apos:Pos}{e o:Expr}{es:List Expr}{ta:TE}{t:TA}
theorem cG(F:cH X.prog X.w X.K X.mg X.base iJ k f fd ps sp)(j:kW k' X.A)(c:kD X.K X.mg x key st f fd ps)(i:PA X (e::es) t)(a:k<=k':=by decide)(l:Gl X x:=by rfl)(d:(x==("__debug__" : Str))=al:=by decide)(h:bn (e::es) X.env=(al,eval e X.env)::bn es X.env:=by rfl)(b:(backTo pos (bn es X.env)).any (·.1)=al:=by rfl) :PE X (.Call (.Name x p) (e::es) [] pos) (aer sp [] E0 t):=CH F (j.mono a) l c.g c.F.kp c.B .nil kH i d h b
theorem cM{pl:Sem Bool}(i:PE X o ta)(c:Mc X.K C)(u:ja X.K C m key st f fd ps)(F:cH X.prog X.w X.K X.mg X.base iJ k f fd ps sp)(l:kW k' X.A)(h:PA X (e::es) t)(a:k<=k':=by decide)
 (b:bn (e::es) X.env=(al,eval e X.env)::bn es X.env:=by rfl) (d:(backTo pos (bn es X.env)).any (·.1)=al:=by rfl)
 (j:eval (.Call (.Attribute o m apos) (e::es) [] pos) X.env=(do
  let g <- eval o X.env
  standAt apos.atName
  let (f,first) <- holding [g] (getMethod g m pl)
  callWith pos f first (backTo pos (bn (e::es) X.env)) (backToKw pos (keywordEach [] X.env))):=by rfl):
 PE X (.Call (.Attribute o m apos) (e::es) [] pos) (HU C m sp [] E0 ta t):=qQ i c u.m F (l.mono a) u.B .nil kH h b d j
theorem cI(u:Rn X.K C key st f fd ps)(F:cH X.prog X.w X.K X.mg X.base iJ k f fd ps sp)(i:kW k' X.A)(d:X.mg x=ac (.ref C))(h:PA X (e::es) t)(a:k+1<=k':=by decide)(j:Gl X x:=by rfl)(b:(x==("__debug__" : Str))=al:=by decide)(g:bn (e::es) X.env=(al,eval e X.env)::bn es X.env:=by rfl)(c:(backTo pos (bn es X.env)).any (·.1)=al:=by rfl) :PE X (.Call (.Name x p) (e::es) [] pos) (Zo C sp [] E0 t):=Vz u.M F (i.mono a) j d u.B .nil kH h b g c
end
section
variable{P:ci}{w:World}{K:ai}{mg:Str->Option ar}{base:Heap}
theorem Tt.jv{x a:Str}{st:Stmt}{f:am}{e:FuncData}{N ps:List Str}{k:Nat}{sp:Sp}(F:Tt K x a st f e)(S:aM N ps (aE st))(i:∀{c:ar}{A:cm}{b:List Env}{s:aw}{vs:List V}(H:Hp)(Q:VK)(E:XK),kW k (A.deeper (envOfC a (aE st) s.heap.objs.size f c))->sp vs H Q E ->∃t,iE (qk iJ P w K mg base N a (aE st) f c A b s H E).Hx (gR st) t/\t {nx:=λ_ g=>Q .gk g,rt:=Q} (start N vs) H)(d:∀vs H Q E,sp vs H Q E->wL vs=ps.length:=by intro _ _ _ _ h;cases h;subst_vars;rfl):cH P w K mg base iJ (k+1) f e ps sp:=F.ok S d λ_ _ _ _ H _ Q E j h=>i H Q E j h
theorem Tt.XJ{x a:Str}{st:Stmt}{f:am}{e:FuncData}{N ps:List Str}{k:Nat}{sp:Sp}(F:Tt K x a st f e)(S:aM N ps (aE st))(i:∀{c:ar}{A:cm}{b:List Env}{s:aw}{vs:List V}(H:Hp)(Q:VK)(E:XK),kW k (A.deeper (envOfC a (aE st) s.heap.objs.size f c))->sp vs H Q E ->∃t,iE (qk (Gx P w) P w K mg base N a (aE st) f c A b s H E) (gR st) t/\t {nx:=λ_ g=>Q .gk g,rt:=Q} (start N vs) H)(d:∀vs H Q E,sp vs H Q E->wL vs=ps.length:=by intro _ _ _ _ h;cases h;subst_vars;rfl):cH P w K mg base (Gx P w) (k+1) f e ps sp:=F.okX S d λ_ _ _ _ H _ Q E j h=>i H Q E j h
theorem Pb.jv{x a:Str}{st:Stmt}{f:am}{e:FuncData}{g:ar}{N ps:List Str}{k:Nat}{sp:Sp}(F:Pb K x a st f e g)(S:aM N ps (aE st))(j:∀{c:ar}{A:cm}{b:List Env}{s:aw}{vs:List V}(H:Hp)(Q:VK)(E:XK),kW k (A.deeper (envOfC a (aE st) s.heap.objs.size f c))->sp vs H Q E ->∃t,iE (qk iJ P w K mg base N a (aE st) f c A b s H E).Hx (gR st) t/\t {nx:=λ_ i=>Q .gk i,rt:=Q} (start N vs) H)(d:∀vs H Q E,sp vs H Q E->wL vs=ps.length:=by intro _ _ _ _ h;cases h;subst_vars;rfl):cH P w K mg base iJ (k+1) f e ps sp:=F.ok S d λ_ _ _ _ H _ Q E l h=>j H Q E l h
end
end L2
namespace L2
open PySem PySem.W PySem.Spec PyProof.Rows
abbrev T2:=Int×Int
noncomputable def lt2(x y:T2):Bool:=decide (x.1<y.1) || (decide (x.1=y.1)&&decide (x.2<y.2))
end L2
namespace L2
open PySem PySem.W PySem.Spec PySem.Calls PyProof.Rows
end L2
namespace L2
open PySem PySem.Spec PyProof.Rows
end L2
namespace L2
open PySem PySem.Spec PyProof.Rows PySem.Builtin PySem.Builtin.Str
end L2
namespace TX
open PySem PySem.Builtin PySem.Builtin.Str
end TX
namespace TX
open PySem PySem.StrLaws PySem.Builtin PySem.Builtin.Str
end TX
namespace ST
open PySem
end ST
namespace ST
open PySem PyProof.Rows
end ST
namespace L2
open PySem PySem.Spec PyProof.Rows ST
end L2
namespace ST
open PySem PyProof.Rows
end ST
namespace L2
open PySem PySem.Spec PyProof.Rows ST
end L2
namespace L2
open PySem PySem.W PySem.Spec PyProof.Rows TW
section
variable{X:Cx}{pins:List (am×Obj)}{σ:St}{H:Hp}{s:aw}
open Classical in
open Classical in
end
section
variable{X:Cx}
def ajr(K:ai)(to ti tv:TE):TS:=λD σ H=>to σ H λx H1=>ti σ H1 λy H2=>∃(p:am)(xs:List V)(j:Nat)(v:Int),x=.ref p/\y=.int (j:Nat)/\H2 p=ac (.lst xs)/\xs[j]?=ac (.int v)/\wL xs<=1000/\tv σ H2 λy2 H3=>∃k:Int,y2=.int k/\H3 p=ac (.lst xs)/\D.nx σ (upd H3 p (.lst (xs.set j (.int (v+k)))))
theorem acQ{o i b:Expr}{f A:Pos}{to B F:TE}(T:PE X o to)(hi:PE X i B)(hv:PE X b F)(ha:∀l e c,augStore i l e c=(do holding [c,l,e] (setItem l e c);release [c,l,e] [];pure .next)):PS X (.AugAssign (.Subscript o i f) .Add b A) (ajr X.K to B F):=by intro a s d H D I h;refine wpAny_AugAssign_SubscriptAny (ir (T a s d H _ I h) λu O ⟨x,R,U,rx,W⟩=>ir (hi a O d R _ U W) λe s2 ⟨y,H2,N,E,p,L,j,v,P,ey,hp,C,hl,Y⟩=>?_) ha;subst P ey;cases rx;have t:=E;obtain⟨tk,rfl⟩:=E;obtain⟨its,r,pl,hz⟩:=N.list (bI.of hp);obtain⟨w0,ew,n⟩:=r.get C;have q:=(aj.mp C).1;have J:=r.length;refine wpAny_getItem_list (k:=(j:Int)) pl.isList ∅ ∅ (by rw[cN];simpa using ew) ?_;refine ir (hv a s2 d H2 _ N Y) λw2 s3 ⟨y2,G,S,w,k,Z,m,q3⟩=>?_;subst Z;refine ir (afL a s3 d G (.int v) (.int k) w0 w2 (λz g=>z=cn (v+k)/\g=G) S n w ⟨v,k,2222⟩) λw3 s4 ⟨z,g,I4,rz,ez,eH⟩=>?_;subst ez eH;refine ir (set_list a s4 d g (.ref p) (.int (j:Nat)) (.int (v+k)) _ _ w3 (λM=>M=upd g p (.lst (L.set j (.int (v+k))))) I4 rfl t rz ⟨p,L,_,j,22,m,tP q,2⟩) λ_ s5 ⟨M,I5,Q⟩=>?_;subst Q;exists d,_,I5,q3
theorem agu:ya X (bv .Is) (λx y H Q=>∃a b:Bool,x=.bl a/\y=.bl b/\Q (.bl (decide (a=b))) H):=by intro c s f H x y v u Q I e d h;obtain⟨a,b,rfl,rfl,q⟩:=h;cases e;cases d;exact wpAny_is_plain rfl (eT I q (by cases a <;> cases b <;> rfl))
def acR:V->List V->Hp->VK->Prop:=λx vs H Q=>∃(a:am)(kvs:List (List Key×V)),x=.ref a/\vs=[]/\H a=ac (.dT kvs)/\Q .gk (upd H a (.dT []))
theorem XM:MtM X "dict.clear" acR:=by intro w s L H x M v P Q I E G ⟨a,y,i,C,r,q⟩;subst i C;cases E;have j:=G.zero;subst j;obtain⟨z,D,N,l,o,K,p,c,k,b,B,m,O⟩:=aew I.hok r;have f:K.size<=bc:=(by rw[<- iy,B,af,<- Paired.length l];exact z);refine call_meetsIn PySem.F.slot_dict_clear (s:=s) ⟨o,c,k.1⟩ PySem.F.entry_dict_clear (PySem.F.args_dict_clear_1 _) (MeetsIn.of_wp (S:=λ_ R u=>u=s/\∀e,(∃q,e.get? a=ac q/\q.ExactDict/\q.data=.dict #[] (p+1))->Heap.SameBut a s.heap e->R (.ok (.ret .none)) {s with heap:=e}) λA R u ⟨i,g⟩=>?_) ⟨2,λe ⟨t,d,n,h⟩J=>?_⟩;subst i;have g:=g _ ⟨_,Heap.get?_update_self (Obj.mapDictKeys λ_=>#[]) c (Obj.isFreed_of_dict (Obj.data_mapDictKeys b _)),k.mapDictKeys _,Obj.data_mapDictKeys b _⟩ (Heap.SameBut.update ..);unfold Builtin.«dict.clear» Builtin.Dict.noArgs;refine ax (ax (wpAny_notOrdered_dict ⟨o,c,k.1⟩ (a6 ?_)));refine ax (wpAny_dictEntries c b ?_);unfold bearsInstanceDictMark;refine ax (ax (wpAny_load c (a6 ?_)));refine ax (wpAny_updateDictKeys (hz:=f) c b ?_);split;exact ax (wpAny_letGo (a6 ⟨.none,2,g⟩));exact ax (a6 (a6 ⟨.none,2,g⟩));exists .gk,_,OV (t':=s.toks) (ob:=.dT []) I (by rw[r];exact kP) J ⟨t,d⟩ ⟨aS _,D,[],.nil,t,#[],p+1,d,n,h,2,jh⟩,2,q
end
end L2
namespace ee
open PySem L2
noncomputable def top(i:Nat):Stmt:=PySem.Challenge.pw_knotless_k33_lost_and_twice.main.body.getD i (.Pass ⟨(0),(0),(0),(0)⟩)
noncomputable abbrev wY:Stmt:=(inClass (top 2) 0)
noncomputable abbrev zp:Stmt:=(inClass (top 2) 1)
noncomputable abbrev zq:Stmt:=(inClass (top 2) 2)
noncomputable abbrev zu:Stmt:=(inClass (top 2) 3)
noncomputable abbrev wZ:Stmt:=(inClass (top 2) 4)
noncomputable abbrev GO:Stmt:=(top 4)
noncomputable abbrev D3:Stmt:=(top 5)
noncomputable abbrev sr:Stmt:=(inClass (top 17) 0)
noncomputable abbrev uD:Stmt:=(inClass (top 17) 1)
noncomputable abbrev uE:Stmt:=(inClass (top 17) 2)
noncomputable abbrev sy:Stmt:=(inClass (top 17) 3)
noncomputable abbrev uF:Stmt:=(inClass (top 18) 0)
noncomputable abbrev w6:Stmt:=(inClass (top 18) 1)
noncomputable abbrev w9:Stmt:=(inClass (top 18) 2)
noncomputable abbrev uG:Stmt:=(inClass (top 18) 3)
noncomputable abbrev xg:Stmt:=(inClass (top 19) 0)
noncomputable abbrev GP:Stmt:=(top 21)
noncomputable abbrev Pd:Stmt:=(top 22)
noncomputable abbrev aae:Stmt:=(top 23)
noncomputable abbrev aaf:Stmt:=(top 25)
noncomputable abbrev Pe:Stmt:=(top 26)
noncomputable abbrev GQ:Stmt:=(top 28)
noncomputable abbrev Pf:Stmt:=(top 29)
noncomputable abbrev xh:Stmt:=(inClass (top 36) 0)
noncomputable abbrev Bc:Stmt:=(inClass (top 36) 1)
noncomputable abbrev Be:Stmt:=(inClass (top 36) 2)
noncomputable abbrev sA:Stmt:=(inClass (top 36) 3)
noncomputable abbrev uH:Stmt:=(inClass (top 36) 4)
noncomputable abbrev Bf:Stmt:=(inClass (top 36) 5)
noncomputable abbrev xj:Stmt:=(top 37)
noncomputable abbrev xm:Stmt:=(top 38)
noncomputable abbrev zv:Stmt:=(top 39)
noncomputable abbrev Bg:Stmt:=(top 40)
noncomputable abbrev qx:Stmt:=(inClass (top 42) 0)
noncomputable abbrev uI:Stmt:=(inClass (top 42) 1)
noncomputable abbrev xo:Stmt:=(inClass (top 42) 2)
noncomputable abbrev nU:Stmt:=(inClass (top 42) 3)
noncomputable abbrev nV:Stmt:=(inClass (top 42) 4)
noncomputable abbrev uJ:Stmt:=(inClass (top 42) 5)
noncomputable abbrev D4:Stmt:=(top 43)
noncomputable abbrev xq:Stmt:=(top 44)
noncomputable abbrev sD:Stmt:=(inClass (top 47) 0)
noncomputable abbrev zw:Stmt:=(inClass (top 48) 0)
noncomputable abbrev D5:Stmt:=(inClass (top 48) 1)
noncomputable abbrev D6:Stmt:=(inClass (top 48) 2)
noncomputable abbrev Bh:Stmt:=(inClass (top 48) 3)
noncomputable abbrev Bj:Stmt:=(inClass (top 48) 4)
noncomputable abbrev zx:Stmt:=(inClass (top 48) 6)
noncomputable abbrev D7:Stmt:=(inClass (top 48) 7)
noncomputable abbrev D8:Stmt:=(inClass (top 48) 8)
noncomputable abbrev GR:Stmt:=(inClass (top 48) 9)
noncomputable abbrev GS:Stmt:=(inClass (top 48) 11)
noncomputable abbrev D9:Stmt:=(inClass (top 48) 12)
noncomputable abbrev jP:Stmt:=(inClass (top 48) 13)
noncomputable abbrev zy:Stmt:=(inClass (top 48) 14)
noncomputable abbrev gD:Stmt:=(inClass (top 48) 15)
noncomputable abbrev Bk:Stmt:=(inClass (top 48) 16)
noncomputable abbrev xr:Stmt:=(inClass (top 48) 17)
noncomputable abbrev sE:Stmt:=(inClass (top 48) 18)
noncomputable abbrev qz:Stmt:=(inClass (top 48) 19)
noncomputable abbrev Ea:Stmt:=(inClass (top 48) 20)
noncomputable abbrev pe:Stmt:=(inClass (top 48) 21)
noncomputable abbrev sF:Stmt:=(inClass (top 48) 22)
noncomputable abbrev jw:Stmt:=(inClass (top 48) 23)
noncomputable abbrev pq:Stmt:=(inClass (top 48) 24)
noncomputable abbrev nW:Stmt:=(inClass (top 48) 25)
noncomputable abbrev qA:Stmt:=(inClass (top 48) 26)
noncomputable abbrev zz:Stmt:=(top 49)
noncomputable abbrev sG:Stmt:=(top 50)
noncomputable abbrev Bl:Stmt:=(top 52)
noncomputable abbrev GU:Stmt:=(top 53)
noncomputable abbrev GV:Stmt:=(top 54)
noncomputable abbrev GW:Stmt:=(top 55)
noncomputable abbrev Bm:Stmt:=(top 56)
noncomputable abbrev Eb:Stmt:=(top 57)
noncomputable abbrev uK:Stmt:=(top 58)
noncomputable abbrev Ec:Stmt:=(top 59)
noncomputable abbrev UC:Stmt:=(top 60)
noncomputable abbrev J8:Stmt:=(top 61)
noncomputable abbrev J9:Stmt:=(top 62)
noncomputable abbrev Ka:Stmt:=(top 63)
noncomputable abbrev Ed:Stmt:=(top 64)
noncomputable abbrev Bo:Stmt:=(top 65)
noncomputable abbrev Kc:Stmt:=(top 66)
noncomputable abbrev Ke:Stmt:=(top 67)
noncomputable abbrev GX:Stmt:=(top 68)
noncomputable abbrev GY:Stmt:=(top 69)
noncomputable abbrev aag:Stmt:=(top 70)
theorem Kf:aM ["self"] ["self"] (aE wY):=je
theorem Mj:aM ["self","house","caller","rope"] ["self","house","caller","rope"] (aE zp):=je
theorem Ml:aM ["self","house","caller"] ["self","house","caller"] (aE zq):=je
theorem Dp:aM ["self"] ["self"] (aE zu):=je
theorem yj:(["noted","rope"]:List Str).Nodup:=by decide +kernel
theorem Kg:aM ["self"] ["self"] (aE wZ):=je
theorem Ef:aM ["book","letter","house","came","open_here","here","handed"] ["book","letter","house","came","open_here","here"] (aE GO):=je
theorem Mm:(["caller","letter"]:List Str).Nodup:=by decide +kernel
theorem vS:aM ["book","sought","house","came","open_here","here","noted","leading"] ["book","sought","house","came","open_here","here"] (aE D3):=je
theorem Kh:(["rope","came"]:List Str).Nodup:=by decide +kernel
theorem GZ:aM ["self","sender"] ["self","sender"] (aE sr):=je
theorem IW:aM ["self","caller"] ["self","caller"] (aE uD):=je
theorem IX:aM ["self"] ["self"] (aE uE):=je
theorem G0:aM ["self"] ["self"] (aE sy):=je
theorem IY:aM ["self","sender","to"] ["self","sender","to"] (aE uF):=je
theorem Km:aM ["self","caller"] ["self","caller"] (aE w6):=je
theorem Kn:aM ["self"] ["self"] (aE w9):=je
theorem IZ:aM ["self"] ["self"] (aE uG):=je
theorem Ko:aM ["self","caller"] ["self","caller"] (aE xg):=je
theorem UD:aM ["town","house"] ["town","house"] (aE GP):=je
theorem Ro:aM ["town","row","rope","hops"] ["town","row","rope"] (aE Pd):=je
theorem Kq:aM ["town","live","rows","house","least","rope","made"] ["town","live","rows","house"] (aE aae):=je
theorem aah:aM ["town","live","rows"] ["town","live","rows"] (aE aaf):=je
theorem XN:(["house","live","rows","town"]:List Str).Nodup:=by decide +kernel
theorem Rp:aM ["town","live","rows"] ["town","live","rows"] (aE Pe):=je
theorem Rq:(["up"]:List Str).Nodup:=by decide +kernel
theorem Eg:aM ["town","live","rows","house","joined"] ["town","live","rows","house"] (aE GQ):=je
theorem Mn:(["rope","joined"]:List Str).Nodup:=by decide +kernel
theorem Kr:aM ["town","live","rows","house","rope","other"] ["town","live","rows","house"] (aE Pf):=je
theorem Ks:aM ["self","names","ropes"] ["self","names","ropes"] (aE xh):=je
theorem Pg:aM ["self","house"] ["self","house"] (aE Bc):=je
theorem Pj:aM ["self","number"] ["self","number"] (aE Be):=je
theorem yk:aM ["self","house"] ["self","house"] (aE sA):=je
theorem tK:(["number","rope","house"]:List Str).Nodup:=by decide +kernel
theorem Ay:aM ["self","rope","house","ends"] ["self","rope","house"] (aE uH):=je
theorem Pk:aM ["self","rope","group"] ["self","rope","group"] (aE Bf):=je
theorem Ku:aM ["names"] ["names"] (aE xj):=je
theorem Bp:aM ["size","ropes","rope"] ["size","ropes"] (aE xm):=je
theorem Mp:aM ["size","rope"] ["size","rope"] (aE zv):=je
theorem Po:aM ["size","one","other"] ["size","one","other"] (aE Bg):=je
theorem vU:aM ["self","town"] ["self","town"] (aE qx):=je
theorem Bq:(["rope","town"]:List Str).Nodup:=by decide +kernel
theorem sH:aM ["self","rope","wire","ahead"] ["self","rope","wire"] (aE uI):=je
theorem Eh:(["each","wire"]:List Str).Nodup:=by decide +kernel
theorem Br:aM ["self","rope","wire","ahead"] ["self","rope","wire"] (aE xo):=je
theorem Di:aM ["self","rope"] ["self","rope"] (aE nU):=je
theorem tL:aM ["self","rope","number","stand"] ["self","rope","number"] (aE nV):=je
theorem Az:aM ["self","group"] ["self","group"] (aE uJ):=je
theorem Ei:(["rope","group","self"]:List Str).Nodup:=by decide +kernel
theorem Rr:aM ["town","rope"] ["town","rope"] (aE D4):=je
theorem Kv:aM ["group"] ["group"] (aE xq):=je
theorem G1:aM ["self","letter","group"] ["self","letter","group"] (aE sD):=je
theorem ki:aM ["self","town","callers"] ["self","town","callers"] (aE zw):=je
theorem G2:(["bit","town"]:List Str).Nodup:=by decide +kernel
theorem G3:(["bit"]:List Str).Nodup:=by decide +kernel
theorem G4:(["caller"]:List Str).Nodup:=by decide +kernel
theorem G5:(["caller"]:List Str).Nodup:=by decide +kernel
theorem G6:(["caller"]:List Str).Nodup:=by decide +kernel
theorem Rt:aM ["self","group"] ["self","group"] (aE D5):=je
theorem Ru:aM ["self","group"] ["self","group"] (aE D6):=je
theorem Pp:aM ["self","group"] ["self","group"] (aE Bh):=je
theorem Pq:aM ["self","group"] ["self","group"] (aE Bj):=je
theorem Mq:aM ["self","house","group"] ["self","house","group"] (aE zx):=je
theorem Bs:aM ["self","house","group","ahead","row"] ["self","house","group"] (aE D7):=je
theorem Ie:aM ["self","rope","wire","ended"] ["self","rope","wire"] (aE D8):=je
theorem Ky:aM ["self","rope","wire","began"] ["self","rope","wire"] (aE GR):=je
theorem UE:aM ["self","caller"] ["self","caller"] (aE GS):=je
theorem Rv:aM ["self","caller","house"] ["self","caller","house"] (aE D9):=je
theorem vV:aM ["self","sender","to","letter","number","house"] ["self","sender","to"] (aE jP):=je
theorem Mr:aM ["self"] ["self"] (aE zy):=je
theorem iL:aM ["self","at","landed","number","rope","house","posted","fate"] ["self","at"] (aE gD):=je
theorem Pr:aM ["self","letter"] ["self","letter"] (aE Bk):=je
theorem Kz:aM ["self","posted","rope","house"] ["self","posted","rope","house"] (aE xr):=je
theorem fL:aM ["self","number","house","came","posted","group","open_here","here","found","caller","rope"] ["self","number","house","came"] (aE sE):=je
theorem pA:aM ["self","house","group","there"] ["self","house","group"] (aE qz):=je
theorem Bt:(["caller","self","there"]:List Str).Nodup:=by decide +kernel
theorem Bu:aM ["self","number","house","rope","posted","wire"] ["self","number","house","rope"] (aE Ea):=je
theorem nX:aM ["self","rope","wire","left","flown"] ["self","rope","wire"] (aE pe):=je
theorem yl:aM ["self","group","posted"] ["self","group"] (aE sF):=je
theorem mS:aM ["self","rope","group"] ["self","rope"] (aE jw):=je
theorem Ej:aM ["self","house"] ["self","house"] (aE pq):=je
theorem Dj:aM ["self","caller"] ["self","caller"] (aE nW):=je
theorem Fl:aM ["self","sender","to"] ["self","sender","to"] (aE qA):=je
theorem Dq:aM ["town"] ["town"] (aE zz):=je
theorem G7:(["house","town"]:List Str).Nodup:=by decide +kernel
theorem ym:aM ["town","callers","caller"] ["town","callers"] (aE sG):=je
theorem Pu:aM ["_law_script","_law_k"] ["_law_script","_law_k"] (aE Bl):=je
theorem UG:aM ["_law_found"] ["_law_found"] (aE GU):=je
theorem nY:aM ["_law_script","_law_size","_law_names_here","_law_k","_law_cell","_law_name"] ["_law_script","_law_size"] (aE GV):=je
theorem eV:aM ["_law_script","_law_size","_law_group","_law_ropes_here","_law_many","_law_k","_law_cell","_law_one","_law_other_here","_law_rest","_law_cost","_law_lets"] ["_law_script","_law_size","_law_group"] (aE GW):=je
theorem lZ:aM ["_law_script","_law_size","_law_group","_law_callers_here","_law_most","_law_k","_law_cell","_law_place"] ["_law_script","_law_size","_law_group"] (aE Bm):=je
theorem Bv:aM ["_law_net","_law_size","_law_group","_law_turn","_law_house"] ["_law_net","_law_size","_law_group"] (aE Eb):=je
theorem sI:aM ["_law_story","_law_row"] ["_law_story"] (aE uK):=je
theorem Ek:(["_law_one"]:List Str).Nodup:=by decide +kernel
theorem Bw:aM ["_law_net","_law_ropes_here","_law_stood","_law_number","_law_rope","_law_wire_here"] ["_law_net","_law_ropes_here","_law_stood","_law_number"] (aE Ec):=je
theorem Pw:aM ["_law_places","_law_sender","_law_number","_law_mates"] ["_law_places","_law_sender","_law_number"] (aE UC):=je
theorem UH:(["_law_caller","_law_places","_law_sender"]:List Str).Nodup:=by decide +kernel
theorem G8:aM ["_law_ropes_here","_law_opened","_law_notes_here","_law_here","_law_house","_law_came","_law_to_here"] ["_law_ropes_here","_law_opened","_law_notes_here","_law_here","_law_house","_law_came","_law_to_here"] (aE J8):=je
theorem Px:(["_law_rope","_law_came"]:List Str).Nodup:=by decide +kernel
theorem Py:(["_law_rope","_law_came","_law_house","_law_ropes_here"]:List Str).Nodup:=by decide +kernel
theorem iC:aM ["_law_ropes_here","_law_stood","_law_opened","_law_notes_here","_law_places","_law_letter","_law_house","_law_came","_law_group","_law_sender","_law_to_here","_law_here","_law_work_here","_law_number","_law_rope","_law_some"] ["_law_ropes_here","_law_stood","_law_opened","_law_notes_here","_law_places","_law_letter","_law_house","_law_came"] (aE J9):=je
theorem Pz:(["_law_caller","_law_group","_law_house","_law_places"]:List Str).Nodup:=by decide +kernel
theorem PB:(["_law_caller","_law_house","_law_sender","_law_to_here"]:List Str).Nodup:=by decide +kernel
theorem PD:(["_law_wire_here","_law_rope","_law_stood"]:List Str).Nodup:=by decide +kernel
theorem G9:aM ["_law_net","_law_ropes_here","_law_had","_law_number","_law_flies","_law_work_here","_law_row","_law_far"] ["_law_net","_law_ropes_here","_law_had","_law_number","_law_flies","_law_work_here"] (aE Ka):=je
theorem jb:aM ["_law_net","_law_ropes_here","_law_stood","_law_places","_law_letters","_law_world","_law_number","_law_sender","_law_to_here","_law_house","_law_group","_law_letter","_law_flies","_law_opened","_law_work_here"] ["_law_net","_law_ropes_here","_law_stood","_law_places","_law_letters","_law_world","_law_number"] (aE Ed):=je
theorem dH:aM ["_law_net","_law_ropes_here","_law_stood","_law_places","_law_letters","_law_world","_law_at","_law_flies","_law_number","_law_rope","_law_wire_here","_law_house","_law_letter","_law_opened","_law_before","_law_ought","_law_work_here"] ["_law_net","_law_ropes_here","_law_stood","_law_places","_law_letters","_law_world","_law_at"] (aE Bo):=je
theorem I0:(["_law_row"]:List Str).Nodup:=by decide +kernel
theorem XO:aM ["_law_world","_law_group"] ["_law_world","_law_group"] (aE Kc):=je
theorem iY:aM ["_law_net","_law_ropes_here","_law_stood","_law_letters","_law_world","_law_number","_law_flies","_law_ought","_law_rope","_law_wire_here","_law_fell","_law_told","_law_left","_law_one","_law_group"] ["_law_net","_law_ropes_here","_law_stood","_law_letters","_law_world","_law_number"] (aE Ke):=je
theorem PF:(["_law_letter","_law_net"]:List Str).Nodup:=by decide +kernel
theorem PJ:(["_law_letter","_law_net"]:List Str).Nodup:=by decide +kernel
theorem uL:aM ["_law_net","_law_size","_law_ropes_here","_law_stood","_law_places","_law_letters","_law_world","_law_deed","_law_more","_law_group","_law_caller","_law_house"] ["_law_net","_law_size","_law_ropes_here","_law_stood","_law_places","_law_letters","_law_world","_law_deed","_law_more"] (aE GX):=je
theorem zA:aM ["_law_net","_law_world","_law_group","_law_ought"] ["_law_net","_law_world"] (aE GY):=je
theorem Dr:(["_law_pair","_law_rope"]:List Str).Nodup:=by decide +kernel
theorem jx:aM ["_law_script","_law_size","_law_group","_law_ropes_here","_law_callers_here","_law_net","_law_stood","_law_places","_law_letters","_law_world","_law_cell","_law_deed","_law_more","_law_flies","_law_fine"] ["_law_script"] (aE aag):=je
theorem XQ:(["_law_rope"]:List Str).Nodup:=by decide +kernel
theorem XR:(["_law_caller"]:List Str).Nodup:=by decide +kernel
theorem XS:(["_law_caller","_law_net"]:List Str).Nodup:=by decide +kernel
set_option genInjectivity false in
structure Ad where
 (mT pB pC pD mU yo uM fF lB iM gZ lD mV mW lE mX yp Fq Rx Ry zB yr Ft mY rM rN j3 lF rO mZ m5 pF rP jy lG m6 iN iO lH uN m7 j4 pG uO uP rQ rR pH uQ uR yt yu uS pI rS m8 j5 jz uT jc j6 fM jd iP jA pJ j7 rT yv yw yx rV uU lI uV KA Bx By BA uW rW BB BC yy yz Rz:am)
 (qU tT tU tV qV CN zC nB pK pL nC pM qW qX pN qY CO Jw VU VV Jx CP Jy qZ vW vX nD pO vY rm rA tW vZ l6 pP rB jQ jR pQ zD rC nG tX zE zF we wg tY zG zH CQ CU zI tZ wj rD nH mh zJ kJ nJ gV kK jS mj t8 nK wm CV CY CZ wo zK pR zL PK Fv Fw Fx zM wu Fy Fz C0 C1 RA:FuncData)
 jT:am
 zN:FuncData
 gE:am
 rE:FuncData
 kj:Tok
 jB:am
 gW:am
 jU:am
 j8:am
 be:am
 c8:am
 fT:am
 cY:am
 yC:am
 C2:am
 rF:Tok
 t9:Tok
 ua:Tok
 uc:Tok
 pS:Tok
 fG:am
structure Txt(K:ai)(mg:Str->Option ar)(t:Ad):Prop where
 xu:Rn K t.fT "Book.__init__" wY t.mT t.qU ["self"]
 FA:ja K t.fT "learn" "Book.learn" zp t.pB t.tT ["self","house","caller","rope"]
 FD:ja K t.fT "known" "Book.known" zq t.pC t.tU ["self","house","caller"]
 zO:ja K t.fT "notes" "Book.notes" zu t.pD t.tV ["self"]
 xw:ja K t.fT "forget" "Book.forget" wZ t.mU t.qV ["self"]
 Nv:kD K mg "targets" "targets" GO t.yo t.CN ["book","letter","house","came","open_here","here"]
 KC:kD K mg "ropes_on" "ropes_on" D3 t.uM t.zC ["book","sought","house","came","open_here","here"]
 sJ:Rn K t.jB "Letter.__init__" sr t.fF t.nB ["self","sender"]
 BD:ja K t.jB "meant" "Letter.meant" uD t.lB t.pK ["self","caller"]
 pT:ja K t.jB "seeks" "Letter.seeks" uE t.iM t.pL ["self"]
 nL:ja K t.jB "number" "Letter.number" sy t.gZ t.nC ["self"]
 BE:Rn K t.gW "ToOne.__init__" uF t.lD t.pM ["self","sender","to"]
 Dt:ja K t.gW "meant" "ToOne.meant" w6 t.mV t.qW ["self","caller"]
 xx:ja K t.gW "seeks" "ToOne.seeks" w9 t.mW t.qX ["self"]
 uX:ja K t.gW "number" "ToOne.number" uG t.lE t.pN ["self"]
 Du:ja K t.jU "meant" "ToAll.meant" xg t.mX t.qY ["self","caller"]
 Hf:kD K mg "own_row" "own_row" GP t.yp t.CO ["town","house"]
 PL:kD K mg "offer" "offer" Pd t.Fq t.Jw ["town","row","rope"]
 aeJ:kD K mg "due" "due" aae t.Rx t.VU ["town","live","rows","house"]
 aeK:kD K mg "ups" "ups" aaf t.Ry t.VV ["town","live","rows"]
 FE:kD K mg "opens" "opens" Pe t.zB t.Jx ["town","live","rows"]
 NB:kD K mg "open_at" "open_at" GQ t.yr t.CP ["town","live","rows","house"]
 VW:kD K mg "up_of" "up_of" Pf t.Ft t.Jy ["town","live","rows","house"]
 Dv:Rn K t.be "Town.__init__" xh t.mY t.qZ ["self","names","ropes"]
 Ig:ja K t.be "name" "Town.name" Bc t.rM t.vW ["self","house"]
 BF:ja K t.be "rope" "Town.rope" Be t.rN t.vX ["self","number"]
 nM:ja K t.be "ropes_at" "Town.ropes_at" sA t.j3 t.nD ["self","house"]
 pU:ja K t.be "far_end" "Town.far_end" uH t.lF t.pO ["self","rope","house"]
 BG:ja K t.be "lets" "Town.lets" Bf t.rO t.vY ["self","rope","group"]
 Dw:kD K mg "check_names" "check_names" xj t.mZ t.rm ["names"]
 Dy:kD K mg "check_ropes" "check_ropes" xm t.m5 t.rA ["size","ropes"]
 FF:kD K mg "check_rope" "check_rope" zv t.pF t.tW ["size","rope"]
 Ih:kD K mg "joins_two" "joins_two" Bg t.rP t.vZ ["size","one","other"]
 yD:Rn K t.c8 "Strands.__init__" qx t.jy t.l6 ["self","town"]
 uY:ja K t.c8 "fall" "Strands.fall" uI t.lG t.pP ["self","rope","wire"]
 xA:ja K t.c8 "lay" "Strands.lay" xo t.m6 t.rB ["self","rope","wire"]
 fK:ja K t.c8 "standing" "Strands.standing" nU t.iN t.jQ ["self","rope"]
 nZ:ja K t.c8 "wire_for" "Strands.wire_for" nV t.iO t.jR ["self","rope","number"]
 uZ:ja K t.c8 "live" "Strands.live" uJ t.lH t.pQ ["self","group"]
 El:kD K mg "wires_of" "wires_of" D4 t.uN t.zD ["town","rope"]
 fW:kD K mg "check_group" "check_group" xq t.m7 t.rC ["group"]
 AA:Rn K t.j8 "Posted.__init__" sD t.j4 t.nG ["self","letter","group"]
 FG:Rn K t.cY "Net.__init__" zw t.pG t.tX ["self","town","callers"]
 u0:ja K t.cY "rows" "Net.rows" D5 t.uO t.zE ["self","group"]
 zP:ja K t.cY "live" "Net.live" D6 t.uP t.zF ["self","group"]
 wz:ja K t.cY "opens" "Net.opens" Bh t.rQ t.we ["self","group"]
 Ii:ja K t.cY "notes" "Net.notes" Bj t.rR t.wg ["self","group"]
 FH:ja K t.cY "row_at" "Net.row_at" zx t.pH t.tY ["self","house","group"]
 Em:ja K t.cY "call" "Net.call" D7 t.uQ t.zG ["self","house","group"]
 KD:ja K t.cY "fall" "Net.fall" D8 t.uR t.zH ["self","rope","wire"]
 ND:ja K t.cY "lay" "Net.lay" GR t.yt t.CQ ["self","rope","wire"]
 NF:ja K t.cY "had" "Net.had" GS t.yu t.CU ["self","caller"]
 KE:ja K t.cY "move" "Net.move" D9 t.uS t.zI ["self","caller","house"]
 u9:Pb K "post" "Net.post" jP t.jT t.zN (.none)
 agv:Binds K t.zN ["self","sender","to"] [.none]
 UI:Binds K t.zN ["self","sender","to"] []
 UJ:ON K t.cY "post" t.jT
 eN:ja K t.cY "flying" "Net.flying" zy t.pI t.tZ ["self"]
 m9:Pb K "pass_on" "Net.pass_on" gD t.gE t.rE (.int 0 t.kj)
 abI:Binds K t.rE ["self","at"] [.int 0 t.kj]
 Ms:Binds K t.rE ["self","at"] []
 Mt:ON K t.cY "pass_on" t.gE
 lJ:ja K t.cY "story" "Net.story" Bk t.rS t.wj ["self","letter"]
 Dz:ja K t.cY "fate_of" "Net.fate_of" xr t.m8 t.rD ["self","posted","rope","house"]
 sL:ja K t.cY "do_letter" "Net.do_letter" sE t.j5 t.nH ["self","number","house","came"]
 yE:ja K t.cY "callers_at" "Net.callers_at" qz t.jz t.mh ["self","house","group"]
 KG:ja K t.cY "send" "Net.send" Ea t.uT t.zJ ["self","number","house","rope"]
 wA:ja K t.cY "lose_copies" "Net.lose_copies" pe t.jc t.kJ ["self","rope","wire"]
 nN:ja K t.cY "take_news" "Net.take_news" sF t.j6 t.nJ ["self","group"]
 jC:ja K t.cY "take_news_of_rope" "Net.take_news_of_rope" jw t.fM t.gV ["self","rope"]
 pV:ja K t.cY "check_house" "Net.check_house" pq t.jd t.kK ["self","house"]
 iQ:ja K t.cY "check_caller" "Net.check_caller" nW t.iP t.jS ["self","caller"]
 yF:ja K t.cY "check_pair" "Net.check_pair" qA t.jA t.mj ["self","sender","to"]
 FI:kD K mg "first_rows" "first_rows" zz t.pJ t.t8 ["town"]
 AB:kD K mg "check_callers" "check_callers" sG t.j7 t.nK ["town","callers"]
 iB:kD K mg "_law_cell_at" "_law_cell_at" Bl t.rT t.wm ["_law_script","_law_k"]
 NH:kD K mg "_law_whole" "_law_whole" GU t.yv t.CV ["_law_found"]
 NI:kD K mg "_law_names" "_law_names" GV t.yw t.CY ["_law_script","_law_size"]
 NJ:kD K mg "_law_ropes" "_law_ropes" GW t.yx t.CZ ["_law_script","_law_size","_law_group"]
 Ij:kD K mg "_law_callers" "_law_callers" Bm t.rV t.wo ["_law_script","_law_size","_law_group"]
 KH:kD K mg "_law_rounds" "_law_rounds" Eb t.uU t.zK ["_law_net","_law_size","_law_group"]
 BH:kD K mg "_law_story_kind" "_law_story_kind" uK t.lI t.pR ["_law_story"]
 KI:kD K mg "_law_toggle" "_law_toggle" Ec t.uV t.zL ["_law_net","_law_ropes_here","_law_stood","_law_number"]
 aai:kD K mg "_law_to" "_law_to" UC t.KA t.PK ["_law_places","_law_sender","_law_number"]
 RB:kD K mg "_law_over" "_law_over" J8 t.Bx t.Fv ["_law_ropes_here","_law_opened","_law_notes_here","_law_here","_law_house","_law_came","_law_to_here"]
 KJ:kD K mg "_law_work" "_law_work" J9 t.By t.Fw ["_law_ropes_here","_law_stood","_law_opened","_law_notes_here","_law_places","_law_letter","_law_house","_law_came"]
 KL:kD K mg "_law_done" "_law_done" Ka t.BA t.Fx ["_law_net","_law_ropes_here","_law_had","_law_number","_law_flies","_law_work_here"]
 KN:kD K mg "_law_posted" "_law_posted" Ed t.uW t.zM ["_law_net","_law_ropes_here","_law_stood","_law_places","_law_letters","_law_world","_law_number"]
 Ik:kD K mg "_law_arrives" "_law_arrives" Bo t.rW t.wu ["_law_net","_law_ropes_here","_law_stood","_law_places","_law_letters","_law_world","_law_at"]
 FJ:kD K mg "_law_news" "_law_news" Kc t.BB t.Fy ["_law_world","_law_group"]
 RC:kD K mg "_law_wire" "_law_wire" Ke t.BC t.Fz ["_law_net","_law_ropes_here","_law_stood","_law_letters","_law_world","_law_number"]
 NK:kD K mg "_law_other" "_law_other" GX t.yy t.C0 ["_law_net","_law_size","_law_ropes_here","_law_stood","_law_places","_law_letters","_law_world","_law_deed","_law_more"]
 NL:kD K mg "_law_notes" "_law_notes" GY t.yz t.C1 ["_law_net","_law_world"]
 aaj:kD K mg "law" "law" aag t.Rz t.RA ["_law_script"]
 KO:Mc K t.jB
 aak:mg "Letter" = ac (.ref t.jB)
 YF:d7 K t.jB "sender"
 aeL:d7 K t.jB "to"
 rG:Mc K t.gW
 acS:mg "ToOne" = ac (.ref t.gW)
 vc:d7 K t.gW "sender"
 zQ:d7 K t.gW "to"
 zR:Mc K t.jU
 acT:mg "ToAll" = ac (.ref t.jU)
 pW:d7 K t.jU "sender"
 agw:d7 K t.jU "to"
 dS:Mc K t.j8
 aal:mg "Posted" = ac (.ref t.j8)
 iZ:d7 K t.j8 "letter"
 lK:d7 K t.j8 "group"
 zS:d7 K t.j8 "old"
 qB:d7 K t.j8 "done_at"
 iR:d7 K t.j8 "deeds"
 gp:Mc K t.be
 agx:mg "Town" = ac (.ref t.be)
 vd:d7 K t.be "house_names"
 iS:d7 K t.be "rope_tuples"
 ow:d7 K t.be "size"
 wB:d7 K t.be "many"
 fj:Mc K t.c8
 XT:mg "Strands" = ac (.ref t.c8)
 lM:d7 K t.c8 "town"
 gX:d7 K t.c8 "upright"
 zT:Mc K t.fT
 agy:mg "Book" = ac (.ref t.fT)
 rX:d7 K t.fT "kept"
 bG:Mc K t.cY
 ajs:mg "Net" = ac (.ref t.cY)
 n9:d7 K t.cY "town"
 ni:d7 K t.cY "strands"
 mJ:d7 K t.cY "rows_by_group"
 rY:d7 K t.cY "books"
 lN:d7 K t.cY "homes"
 mq:d7 K t.cY "groups"
 zU:d7 K t.cY "handed"
 fC:d7 K t.cY "letters"
 jV:d7 K t.cY "copies"
 BI:mg "opens_opens" = ac (.ref t.zB)
 Mu:ON K t.jU "seeks" t.iM
 KP:ON K t.jU "number" t.gZ
 acU:Mk K t.jU t.fF
 Hg:aeD K t.jB "__init__" t.fF
 KQ:mg "NoWire" = ac (.ref t.yC)
 KR:ZM K t.yC
 XU:mg "NoGroup" = ac (.ref t.C2)
 XW:ZM K t.C2
 Mv:mg "MOST_HOUSES" = ac (.int 10 t.rF)
 PM:mg "MOST_ROPES" = ac (.int 20 t.t9)
 PN:mg "MOST_WIRES" = ac (.int 4 t.ua)
 PR:mg "ALL_GROUPS" = ac (.int 7 t.uc)
 KS:mg "MOST_CALLERS" = ac (.int 20 t.pS)
 mw:mg "GROUP_BITS" = ac (.ref t.fG)
 gF:∀H,cD K H t.fG [.int 1,.int 2,.int 4]
 fV:mg "len" = ae
 mz:mg "isinstance" = ae
 aam:mg "int" = ae
 aan:mg "bool" = ae
 sM:mg "list" = ae
 acV:mg "tuple" = ae
 gY:mg "range" = ae
 RD:mg "enumerate" = ae
 ajt:mg "min" = ae
 aju:mg "max" = ae
 ajv:mg "set" = ae
 ajw:mg "str" = ae
 ajx:mg "all" = ae
 FL:mg "sorted" = ae
theorem UK{a:Type}{M:List a->Prop}(h:∀b,M [b]):∀us:List a,wL us=1->M us
 |[_],_=>h _
theorem yW{a:Type}{M:List a->Prop}(h:∀c b,M [c,b]):∀us:List a,wL us=2->M us
 |[_,_],_=>h _ _
theorem Hh{a:Type}{M:List a->Prop}(h:∀c b d,M [c,b,d]):∀us:List a,wL us=3->M us
 |[_,_,_],_=>h _ _ _
theorem YG{a:Type}{M:List a->Prop}(h:∀d b e c,M [d,b,e,c]):∀us:List a,wL us=4->M us
 |[_,_,_,_],_=>h _ _ _ _
theorem el6{a:Type}{M:List a->Prop}(h:∀d b g c e f,M [d,b,g,c,e,f]):∀us:List a,wL us=6->M us
 |[_,_,_,_,_,_],_=>h _ _ _ _ _ _
theorem el7{a:Type}{M:List a->Prop}(h:∀d b i c e f g,M [d,b,i,c,e,f,g]):∀us:List a,wL us=7->M us
 |[_,_,_,_,_,_,_],_=>h _ _ _ _ _ _ _
theorem el8{a:Type}{M:List a->Prop}(h:∀d b j c f g i e,M [d,b,j,c,f,g,i,e]):∀us:List a,wL us=8->M us
 |[_,_,_,_,_,_,_,_],_=>h _ _ _ _ _ _ _ _
theorem el9{a:Type}{M:List a->Prop}(h:∀e c k d g i j f b,M [e,c,k,d,g,i,j,f,b]):∀us:List a,wL us=9->M us
 |[_,_,_,_,_,_,_,_,_],_=>h _ _ _ _ _ _ _ _ _
theorem agz{K:ai}{h:Heap}{a:Str->Option ar}(X:K.In h)(G:h.Ns bi a){mT pB pC pD mU yo uM u lB Z gZ lD mV mW lE mX yp Fq Rx Ry zB yr Ft mY rM rN j3 lF rO mZ m5 pF rP jy lG m6 iN iO lH uN m7 j4 pG uO uP rQ rR pH uQ uR yt yu uS pI rS m8 j5 jz uT jc j6 fM jd iP jA pJ j7 rT yv yw yx rV uU lI uV KA Bx By BA uW rW BB BC yy yz Rz:am} {RE Il Im Io BJ Ip:ar} {RG Iq:Option am} {RH:Array (Option ar)} {l:am} {Eo:am} {PU:Option am} {RI:Nat} {PV:Array (Option ar)} {KU BK BL BN w BO:ar} {KW BP:Option am} {KY:Array (Option ar)} {r:am} {xB:am} {Ja:Option am} {KZ:Nat} {Jb:Array (Option ar)} {U:Tok} {e:am} {k:am} {i:am} {g:am} {d:am} {f:am} {j:am} {b:am} {K0:am} {Y:am} {rF:Tok} {t9:Tok} {ua:Tok} {uc:Tok} {pS:Tok} {C:am} {Mw:Option am} {PX:Nat} {Mx My Mz:Tok} {MA:Array (Option ar)} (Hj:bX K bi "Letter" = ac (ac (.ref e))) (K1:bX K bi "ToOne" = ac (ac (.ref k))) (K2:bX K bi "ToAll" = ac (ac (.ref i))) (Hl:bX K bi "Posted" = ac (ac (.ref g))) (PY:bX K bi "Town" = ac (ac (.ref d))) (Ep:bX K bi "Strands" = ac (ac (.ref f))) (PZ:bX K bi "Book" = ac (ac (.ref j))) (UL:bX K bi "Net" = ac (ac (.ref b))) (xC:EM K j "__init__" "Book.__init__" wY mT) (zW:EM K j "learn" "Book.learn" zp pB) (zX:EM K j "known" "Book.known" zq pC) (zY:EM K j "notes" "Book.notes" zu pD) (xD:EM K j "forget" "Book.forget" wZ mU) (Ho:EG K a "targets" "targets" GO yo) (Er:EG K a "ropes_on" "ropes_on" D3 uM) (sN:EM K e "__init__" "Letter.__init__" sr u) (vf:EM K e "meant" "Letter.meant" uD lB) (vg:EM K e "seeks" "Letter.seeks" uE Z) (sO:EM K e "number" "Letter.number" sy gZ) (vh:EM K k "__init__" "ToOne.__init__" uF lD) (xE:EM K k "meant" "ToOne.meant" w6 mV) (xF:EM K k "seeks" "ToOne.seeks" w9 mW) (vj:EM K k "number" "ToOne.number" uG lE) (xG:EM K i "meant" "ToAll.meant" xg mX) (Hq:EG K a "own_row" "own_row" GP yp) (P0:EG K a "offer" "offer" Pd Fq) (v:EG K a "due" "due" aae Rx) (aap:EG K a "ups" "ups" aaf Ry) (P1:EG K a "opens" "opens" Pe zB) (Hr:EG K a "open_at" "open_at" GQ yr) (P4:EG K a "up_of" "up_of" Pf Ft) (xH:EM K d "__init__" "Town.__init__" xh mY) (BQ:EM K d "name" "Town.name" Bc rM) (BR:EM K d "rope" "Town.rope" Be rN) (sP:EM K d "ropes_at" "Town.ropes_at" sA j3) (vm:EM K d "far_end" "Town.far_end" uH lF) (BS:EM K d "lets" "Town.lets" Bf rO) (xJ:EG K a "check_names" "check_names" xj mZ) (xK:EG K a "check_ropes" "check_ropes" xm m5) (zZ:EG K a "check_rope" "check_rope" zv pF) (BU:EG K a "joins_two" "joins_two" Bg rP) (qD:EM K f "__init__" "Strands.__init__" qx jy) (vn:EM K f "fall" "Strands.fall" uI lG) (xM:EM K f "lay" "Strands.lay" xo m6) (oh:EM K f "standing" "Strands.standing" nU iN) (oi:EM K f "wire_for" "Strands.wire_for" nV iO) (vp:EM K f "live" "Strands.live" uJ lH) (Es:EG K a "wires_of" "wires_of" D4 uN) (xN:EG K a "check_group" "check_group" xq m7) (sQ:EM K g "__init__" "Posted.__init__" sD j4) (z6:EM K b "__init__" "Net.__init__" zw pG) (Et:EM K b "rows" "Net.rows" D5 uO) (Eu:EM K b "live" "Net.live" D6 uP) (BV:EM K b "opens" "Net.opens" Bh rQ) (BW:EM K b "notes" "Net.notes" Bj rR) (z7:EM K b "row_at" "Net.row_at" zx pH) (Ew:EM K b "call" "Net.call" D7 uQ) (Ex:EM K b "fall" "Net.fall" D8 uR) (Hs:EM K b "lay" "Net.lay" GR yt) (Ht:EM K b "had" "Net.had" GS yu) (Ey:EM K b "move" "Net.move" D9 uS) (Ez:aN K (.ref b) "post" = ac (ac (.ref l))) (EA:PySem.W.isFn K (.ref l)=ag) (EB:K.lookup l=ac ⟨RE,RG,.func (fU "post" "Net.post" (kG jP) (gR jP) (aE jP) (.ref Eo) Il Im Io Iq BJ Ip),RH⟩) (ED:kq K BJ "Net.post" = ag) (z8:fD K (.ref l)=ag) (BY:K.lookup Eo=ac ⟨.type "tuple",PU,.seq #[.none] RI,PV⟩) (z9:EM K b "flying" "Net.flying" zy pI) (xO:aN K (.ref b) "pass_on" = ac (ac (.ref r))) (xP:PySem.W.isFn K (.ref r)=ag) (xQ:K.lookup r=ac ⟨KU,KW,.func (fU "pass_on" "Net.pass_on" (kG gD) (gR gD) (aE gD) (.ref xB) BK BL BN BP w BO),KY⟩) (xR:kq K w "Net.pass_on" = ag) (rH:fD K (.ref r)=ag) (vq:K.lookup xB=ac ⟨.type "tuple",Ja,.seq #[.int 0 U] KZ,Jb⟩) (BZ:EM K b "story" "Net.story" Bk rS) (xS:EM K b "fate_of" "Net.fate_of" xr m8) (sR:EM K b "do_letter" "Net.do_letter" sE j5) (qF:EM K b "callers_at" "Net.callers_at" qz jz) (EE:EM K b "send" "Net.send" Ea uT) (pY:EM K b "lose_copies" "Net.lose_copies" pe jc) (sU:EM K b "take_news" "Net.take_news" sF j6) (jE:EM K b "take_news_of_rope" "Net.take_news_of_rope" jw fM) (pZ:EM K b "check_house" "Net.check_house" pq jd) (oj:EM K b "check_caller" "Net.check_caller" nW iP) (qG:EM K b "check_pair" "Net.check_pair" qA jA) (Aa:EG K a "first_rows" "first_rows" zz pJ) (sV:EG K a "check_callers" "check_callers" sG j7) (Ca:EG K a "_law_cell_at" "_law_cell_at" Bl rT) (Hu:EG K a "_law_whole" "_law_whole" GU yv) (Hv:EG K a "_law_names" "_law_names" GV yw) (Hw:EG K a "_law_ropes" "_law_ropes" GW yx) (Cb:EG K a "_law_callers" "_law_callers" Bm rV) (EF:EG K a "_law_rounds" "_law_rounds" Eb uU) (vt:EG K a "_law_story_kind" "_law_story_kind" uK lI) (EH:EG K a "_law_toggle" "_law_toggle" Ec uV) (UM:EG K a "_law_to" "_law_to" UC KA) (K3:EG K a "_law_over" "_law_over" J8 Bx) (K4:EG K a "_law_work" "_law_work" J9 By) (K5:EG K a "_law_done" "_law_done" Ka BA) (EI:EG K a "_law_posted" "_law_posted" Ed uW) (Cc:EG K a "_law_arrives" "_law_arrives" Bo rW) (K6:EG K a "_law_news" "_law_news" Kc BB) (K7:EG K a "_law_wire" "_law_wire" Ke BC) (Hy:EG K a "_law_other" "_law_other" GX yy) (Hz:EG K a "_law_notes" "_law_notes" GY yz) (S:EG K a "law" "law" aag Rz) (D:EC K e) (qH:aN K (.ref e) "sender" = ac ae) (Ab:aN K (.ref e) "to" = ac ae) (J:EC K k) (sW:aN K (.ref k) "sender" = ac ae) (Ce:aN K (.ref k) "to" = ac ae) (FO:EC K i) (sX:aN K (.ref i) "sender" = ac ae) (Cf:aN K (.ref i) "to" = ac ae) (y:EC K g) (qI:aN K (.ref g) "letter" = ac ae) (sY:aN K (.ref g) "group" = ac ae) (xU:aN K (.ref g) "old" = ac ae) (p5:aN K (.ref g) "done_at" = ac ae) (sZ:aN K (.ref g) "deeds" = ac ae) (K8:EC K d) (mK:aN K (.ref d) "house_names" = ac ae) (mL:aN K (.ref d) "rope_tuples" = ac ae) (Ac:aN K (.ref d) "size" = ac ae) (Ae:aN K (.ref d) "many" = ac ae) (yG:EC K f) (tw:aN K (.ref f) "town" = ac ae) (om:aN K (.ref f) "upright" = ac ae) (x:EC K j) (Af:aN K (.ref j) "kept" = ac ae) (F:EC K b) (Ci:aN K (.ref b) "town" = ac ae) (vz:aN K (.ref b) "strands" = ac ae) (lO:aN K (.ref b) "rows_by_group" = ac ae) (Ag:aN K (.ref b) "books" = ac ae) (Ah:aN K (.ref b) "homes" = ac ae) (xV:aN K (.ref b) "groups" = ac ae) (xW:aN K (.ref b) "handed" = ac ae) (vA:aN K (.ref b) "letters" = ac ae) (xX:aN K (.ref b) "copies" = ac ae) (vB:bX K bi "opens_opens" = ac (ac (.ref zB))) (vC:aN K (.ref i) "seeks" = ac (ac (.ref Z))) (tD:aN K (.ref i) "number" = ac (ac (.ref gZ))) (La:aN K (.ref i) "__init__" = ac (ac (.ref u))) (qJ:PySem.W.specialIn K (.ref e) "__getattribute__" = ac (ac (.builtin "type.__getattribute__"))) (qK:PySem.W.readsIn K e (.type "type")=ag) (qL:PySem.W.findCls K (.ref e) (.type "type") "__init__" = ac (.val (.ref u))) (HA:bX K bi "NoWire" = ac (ac (.ref K0))) (HB:ZM K K0) (EJ:bX K bi "NoGroup" = ac (ac (.ref Y))) (EK:ZM K Y) (xY:bX K bi "MOST_HOUSES" = ac (ac (.int 10 rF))) (Ai:bX K bi "MOST_ROPES" = ac (ac (.int 20 t9))) (Aj:bX K bi "MOST_WIRES" = ac (ac (.int 4 ua))) (Ak:bX K bi "ALL_GROUPS" = ac (ac (.int 7 uc))) (vD:bX K bi "MOST_CALLERS" = ac (ac (.int 20 pS))) (Al:bX K bi "GROUP_BITS" = ac (ac (.ref C))) (Am:K.lookup C=ac ⟨.type "tuple",Mw,.seq #[.int 1 Mx,.int 2 My,.int 4 Mz] PX,MA⟩) (aar:bX K bi "len" = ac ae) (An:bX K bi "isinstance" = ac ae) (M:bX K bi "int" = ac ae) (UN:bX K bi "bool" = ac ae) (UO:bX K bi "list" = ac ae) (P5:bX K bi "tuple" = ac ae) (P6:bX K bi "range" = ac ae) (Cj:bX K bi "enumerate" = ac ae) (Q:bX K bi "min" = ac ae) (P:bX K bi "max" = ac ae) (R:bX K bi "set" = ac ae) (V:bX K bi "str" = ac ae) (aax:bX K bi "all" = ac ae) (Lb:bX K bi "sorted" = ac ae):∃t,Txt K a t:=by
 obtain⟨qU,DA,DB⟩:=xC;obtain⟨tT,FP,P7⟩:=zW;obtain⟨tU,FQ,P8⟩:=zX;obtain⟨tV,FT,P9⟩:=zY;obtain⟨qV,DC,MB⟩:=xD;obtain⟨CN,NN,XX⟩:=Ho;obtain⟨zC,Lc,UP⟩:=Er;obtain⟨nB,AD,s⟩:=sN;obtain⟨pK,Ck,Le⟩:=vf;obtain⟨pL,Cm,vE⟩:=vg;obtain⟨nC,AE,E⟩:=sO;obtain⟨pM,Cn,Co⟩:=vh;obtain⟨qW,DE,MC⟩:=xE;obtain⟨qX,DF,MD⟩:=xF;obtain⟨pN,Cq,Lf⟩:=vj;obtain⟨qY,DG,ME⟩:=xG;obtain⟨CO,NO,XY⟩:=Hq;obtain⟨Jw,VX,T⟩:=P0;obtain⟨VU,p,ajy⟩:=v;obtain⟨VV,q,ajz⟩:=aap;obtain⟨Jx,VY,N⟩:=P1;obtain⟨CP,NP,XZ⟩:=Hr;obtain⟨Jy,VZ,acY⟩:=P4;obtain⟨qZ,DH,DI⟩:=xH;obtain⟨vW,Ir,RK⟩:=BQ;obtain⟨vX,Iu,RL⟩:=BR;obtain⟨nD,AF,Jc⟩:=sP;obtain⟨pO,Cr,Lg⟩:=vm;obtain⟨vY,Iv,RN⟩:=BS;obtain⟨rm,DJ,MF⟩:=xJ;obtain⟨rA,DK,MG⟩:=xK;obtain⟨tW,FU,Qa⟩:=zZ;obtain⟨vZ,Iw,RO⟩:=BU;obtain⟨l6,yH,yI⟩:=qD;obtain⟨pP,Cs,Lh⟩:=vn;obtain⟨rB,DL,MH⟩:=xM;obtain⟨jQ,vF,EL⟩:=oh;obtain⟨jR,vG,EN⟩:=oi;obtain⟨pQ,Ct,Li⟩:=vp;obtain⟨zD,Lj,UQ⟩:=Es;obtain⟨rC,DM,MI⟩:=xN;obtain⟨nG,AG,AH⟩:=sQ;obtain⟨tX,FW,FY⟩:=z6;obtain⟨zE,Lk,UR⟩:=Et;obtain⟨zF,Ll,US⟩:=Eu;obtain⟨we,Iz,RP⟩:=BV;obtain⟨wg,IA,RQ⟩:=BW;obtain⟨tY,FZ,Qc⟩:=z7;obtain⟨zG,Lm,UT⟩:=Ew;obtain⟨zH,Ln,UU⟩:=Ex;obtain⟨CQ,NQ,X0⟩:=Hs;obtain⟨CU,NR,Yb⟩:=Ht;obtain⟨zI,Lo,UW⟩:=Ey;have u9:=VR (st:=jP) EB ED z8 BY rfl;obtain⟨tZ,F7,Qd⟩:=z9;have A:=VR (st:=gD) xQ xR rH vq rfl;obtain⟨wj,IB,RS⟩:=BZ;obtain⟨rD,DN,MJ⟩:=xS;obtain⟨nH,AI,Jd⟩:=sR;obtain⟨mh,yJ,HC⟩:=qF;obtain⟨zJ,Lp,UX⟩:=EE;obtain⟨kJ,wC,Ga⟩:=pY;obtain⟨nJ,AJ,Je⟩:=sU;obtain⟨gV,oz,yK⟩:=jE;obtain⟨kK,wD,Gb⟩:=pZ;obtain⟨jS,vH,EO⟩:=oj;obtain⟨mj,yM,HD⟩:=qG;obtain⟨t8,Gc,Qe⟩:=Aa;obtain⟨nK,AK,Jf⟩:=sV;obtain⟨wm,IC,RT⟩:=Ca;obtain⟨CV,NT,Yc⟩:=Hu;obtain⟨CY,NU,Yd⟩:=Hv;obtain⟨CZ,NV,Ye⟩:=Hw;obtain⟨wo,ID,RU⟩:=Cb;obtain⟨zK,Lr,UY⟩:=EF;obtain⟨pR,Cu,Lu⟩:=vt;obtain⟨zL,Lv,UZ⟩:=EH;obtain⟨PK,o,O⟩:=UM;obtain⟨Fv,RV,I⟩:=K3;obtain⟨Fw,RW,z⟩:=K4;obtain⟨Fx,RX,aaB⟩:=K5;obtain⟨zM,Lw,U0⟩:=EI;obtain⟨wu,IE,RY⟩:=Cc;obtain⟨Fy,RZ,aaC⟩:=K6;obtain⟨Fz,R0,B⟩:=K7;obtain⟨C0,NX,Yg⟩:=Hy;obtain⟨C1,NY,Yh⟩:=Hz;obtain⟨RA,n,L⟩:=S;exact⟨⟨mT,pB,pC,pD,mU,yo,uM,u,lB,Z,gZ,lD,mV,mW,lE,mX,yp,Fq,Rx,Ry,zB,yr,Ft,mY,rM,rN,j3,lF,rO,mZ,m5,pF,rP,jy,lG,m6,iN,iO,lH,uN,m7,j4,pG,uO,uP,rQ,rR,pH,uQ,uR,yt,yu,uS,pI,rS,m8,j5,jz,uT,jc,j6,fM,jd,iP,jA,pJ,j7,rT,yv,yw,yx,rV,uU,lI,uV,KA,Bx,By,BA,uW,rW,BB,BC,yy,yz,Rz,qU,tT,tU,tV,qV,CN,zC,nB,pK,pL,nC,pM,qW,qX,pN,qY,CO,Jw,VU,VV,Jx,CP,Jy,qZ,vW,vX,nD,pO,vY,rm,rA,tW,vZ,l6,pP,rB,jQ,jR,pQ,zD,rC,nG,tX,zE,zF,we,wg,tY,zG,zH,CQ,CU,zI,tZ,wj,rD,nH,mh,zJ,kJ,nJ,gV,kK,jS,mj,t8,nK,wm,CV,CY,CZ,wo,zK,pR,zL,PK,Fv,Fw,Fx,zM,wu,Fy,Fz,C0,C1,RA,l,(fU "post" "Net.post" (kG jP) (gR jP) (aE jP) (.ref Eo) Il Im Io Iq BJ Ip),r,(fU "pass_on" "Net.pass_on" (kG gD) (gR gD) (aE gD) (.ref xB) BK BL BN BP w BO),U,e,k,i,g,d,f,j,b,K0,Y,rF,t9,ua,uc,pS,C⟩,⟨⟨DA,DA.binds λ_ _ _ _ _ _=>UK λ_=>rfl,⟨x.LC,DB.at_,DB.fn,x.kc⟩⟩,
  ⟨FP,FP.binds λ_ _ _ _ _ _=>YG λ_ _ _ _=>rfl,P7⟩,
  ⟨FQ,FQ.binds λ_ _ _ _ _ _=>Hh λ_ _ _=>rfl,P8⟩,
  ⟨FT,FT.binds λ_ _ _ _ _ _=>UK λ_=>rfl,P9⟩,
  ⟨DC,DC.binds λ_ _ _ _ _ _=>UK λ_=>rfl,MB⟩,
  ⟨NN,NN.binds λ_ _ _ _ _ _=>el6 λ_ _ _ _ _ _=>rfl,XX⟩,
  ⟨Lc,Lc.binds λ_ _ _ _ _ _=>el6 λ_ _ _ _ _ _=>rfl,UP⟩,
  ⟨AD,AD.binds λ_ _ _ _ _ _=>yW λ_ _=>rfl,⟨D.LC,s.at_,s.fn,D.kc⟩⟩,
  ⟨Ck,Ck.binds λ_ _ _ _ _ _=>yW λ_ _=>rfl,Le⟩,
  ⟨Cm,Cm.binds λ_ _ _ _ _ _=>UK λ_=>rfl,vE⟩,
  ⟨AE,AE.binds λ_ _ _ _ _ _=>UK λ_=>rfl,E⟩,
  ⟨Cn,Cn.binds λ_ _ _ _ _ _=>Hh λ_ _ _=>rfl,⟨J.LC,Co.at_,Co.fn,J.kc⟩⟩,
  ⟨DE,DE.binds λ_ _ _ _ _ _=>yW λ_ _=>rfl,MC⟩,
  ⟨DF,DF.binds λ_ _ _ _ _ _=>UK λ_=>rfl,MD⟩,
  ⟨Cq,Cq.binds λ_ _ _ _ _ _=>UK λ_=>rfl,Lf⟩,
  ⟨DG,DG.binds λ_ _ _ _ _ _=>yW λ_ _=>rfl,ME⟩,
  ⟨NO,NO.binds λ_ _ _ _ _ _=>yW λ_ _=>rfl,XY⟩,
  ⟨VX,VX.binds λ_ _ _ _ _ _=>Hh λ_ _ _=>rfl,T⟩,
  ⟨p,p.binds λ_ _ _ _ _ _=>YG λ_ _ _ _=>rfl,ajy⟩,
  ⟨q,q.binds λ_ _ _ _ _ _=>Hh λ_ _ _=>rfl,ajz⟩,
  ⟨VY,VY.binds λ_ _ _ _ _ _=>Hh λ_ _ _=>rfl,N⟩,
  ⟨NP,NP.binds λ_ _ _ _ _ _=>YG λ_ _ _ _=>rfl,XZ⟩,
  ⟨VZ,VZ.binds λ_ _ _ _ _ _=>YG λ_ _ _ _=>rfl,acY⟩,
  ⟨DH,DH.binds λ_ _ _ _ _ _=>Hh λ_ _ _=>rfl,⟨K8.LC,DI.at_,DI.fn,K8.kc⟩⟩,
  ⟨Ir,Ir.binds λ_ _ _ _ _ _=>yW λ_ _=>rfl,RK⟩,
  ⟨Iu,Iu.binds λ_ _ _ _ _ _=>yW λ_ _=>rfl,RL⟩,
  ⟨AF,AF.binds λ_ _ _ _ _ _=>yW λ_ _=>rfl,Jc⟩,
  ⟨Cr,Cr.binds λ_ _ _ _ _ _=>Hh λ_ _ _=>rfl,Lg⟩,
  ⟨Iv,Iv.binds λ_ _ _ _ _ _=>Hh λ_ _ _=>rfl,RN⟩,
  ⟨DJ,DJ.binds λ_ _ _ _ _ _=>UK λ_=>rfl,MF⟩,
  ⟨DK,DK.binds λ_ _ _ _ _ _=>yW λ_ _=>rfl,MG⟩,
  ⟨FU,FU.binds λ_ _ _ _ _ _=>yW λ_ _=>rfl,Qa⟩,
  ⟨Iw,Iw.binds λ_ _ _ _ _ _=>Hh λ_ _ _=>rfl,RO⟩,
  ⟨yH,yH.binds λ_ _ _ _ _ _=>yW λ_ _=>rfl,⟨yG.LC,yI.at_,yI.fn,yG.kc⟩⟩,
  ⟨Cs,Cs.binds λ_ _ _ _ _ _=>Hh λ_ _ _=>rfl,Lh⟩,
  ⟨DL,DL.binds λ_ _ _ _ _ _=>Hh λ_ _ _=>rfl,MH⟩,
  ⟨vF,vF.binds λ_ _ _ _ _ _=>yW λ_ _=>rfl,EL⟩,
  ⟨vG,vG.binds λ_ _ _ _ _ _=>Hh λ_ _ _=>rfl,EN⟩,
  ⟨Ct,Ct.binds λ_ _ _ _ _ _=>yW λ_ _=>rfl,Li⟩,
  ⟨Lj,Lj.binds λ_ _ _ _ _ _=>yW λ_ _=>rfl,UQ⟩,
  ⟨DM,DM.binds λ_ _ _ _ _ _=>UK λ_=>rfl,MI⟩,
  ⟨AG,AG.binds λ_ _ _ _ _ _=>Hh λ_ _ _=>rfl,⟨y.LC,AH.at_,AH.fn,y.kc⟩⟩,
  ⟨FW,FW.binds λ_ _ _ _ _ _=>Hh λ_ _ _=>rfl,⟨F.LC,FY.at_,FY.fn,F.kc⟩⟩,
  ⟨Lk,Lk.binds λ_ _ _ _ _ _=>yW λ_ _=>rfl,UR⟩,
  ⟨Ll,Ll.binds λ_ _ _ _ _ _=>yW λ_ _=>rfl,US⟩,
  ⟨Iz,Iz.binds λ_ _ _ _ _ _=>yW λ_ _=>rfl,RP⟩,
  ⟨IA,IA.binds λ_ _ _ _ _ _=>yW λ_ _=>rfl,RQ⟩,
  ⟨FZ,FZ.binds λ_ _ _ _ _ _=>Hh λ_ _ _=>rfl,Qc⟩,
  ⟨Lm,Lm.binds λ_ _ _ _ _ _=>Hh λ_ _ _=>rfl,UT⟩,
  ⟨Ln,Ln.binds λ_ _ _ _ _ _=>Hh λ_ _ _=>rfl,UU⟩,
  ⟨NQ,NQ.binds λ_ _ _ _ _ _=>Hh λ_ _ _=>rfl,X0⟩,
  ⟨NR,NR.binds λ_ _ _ _ _ _=>yW λ_ _=>rfl,Yb⟩,
  ⟨Lo,Lo.binds λ_ _ _ _ _ _=>Hh λ_ _ _=>rfl,UW⟩,
  u9,
  (u9.binds (ps:=["self","sender","to"]) (ds:=[.none]) (m:=2) rfl λ_ _ _ _ _ _ _=>yW λ_ _=>⟨12⟩),
  (u9.binds (ps:=["self","sender","to"]) (ds:=[]) (m:=3) rfl λ_ _ _ _ _ _ _=>Hh λ_ _ _=>⟨12⟩),
  ⟨Ez,EA,z8⟩,
  ⟨F7,F7.binds λ_ _ _ _ _ _=>UK λ_=>rfl,Qd⟩,
  A,
  (A.binds (ps:=["self","at"]) (ds:=[.int 0 U]) (m:=1) rfl λ_ _ _ _ _ _ _=>UK λ_=>⟨12⟩),
  (A.binds (ps:=["self","at"]) (ds:=[]) (m:=2) rfl λ_ _ _ _ _ _ _=>yW λ_ _=>⟨12⟩),
  ⟨xO,xP,rH⟩,
  ⟨IB,IB.binds λ_ _ _ _ _ _=>yW λ_ _=>rfl,RS⟩,
  ⟨DN,DN.binds λ_ _ _ _ _ _=>YG λ_ _ _ _=>rfl,MJ⟩,
  ⟨AI,AI.binds λ_ _ _ _ _ _=>YG λ_ _ _ _=>rfl,Jd⟩,
  ⟨yJ,yJ.binds λ_ _ _ _ _ _=>Hh λ_ _ _=>rfl,HC⟩,
  ⟨Lp,Lp.binds λ_ _ _ _ _ _=>YG λ_ _ _ _=>rfl,UX⟩,
  ⟨wC,wC.binds λ_ _ _ _ _ _=>Hh λ_ _ _=>rfl,Ga⟩,
  ⟨AJ,AJ.binds λ_ _ _ _ _ _=>yW λ_ _=>rfl,Je⟩,
  ⟨oz,oz.binds λ_ _ _ _ _ _=>yW λ_ _=>rfl,yK⟩,
  ⟨wD,wD.binds λ_ _ _ _ _ _=>yW λ_ _=>rfl,Gb⟩,
  ⟨vH,vH.binds λ_ _ _ _ _ _=>yW λ_ _=>rfl,EO⟩,
  ⟨yM,yM.binds λ_ _ _ _ _ _=>Hh λ_ _ _=>rfl,HD⟩,
  ⟨Gc,Gc.binds λ_ _ _ _ _ _=>UK λ_=>rfl,Qe⟩,
  ⟨AK,AK.binds λ_ _ _ _ _ _=>yW λ_ _=>rfl,Jf⟩,
  ⟨IC,IC.binds λ_ _ _ _ _ _=>yW λ_ _=>rfl,RT⟩,
  ⟨NT,NT.binds λ_ _ _ _ _ _=>UK λ_=>rfl,Yc⟩,
  ⟨NU,NU.binds λ_ _ _ _ _ _=>yW λ_ _=>rfl,Yd⟩,
  ⟨NV,NV.binds λ_ _ _ _ _ _=>Hh λ_ _ _=>rfl,Ye⟩,
  ⟨ID,ID.binds λ_ _ _ _ _ _=>Hh λ_ _ _=>rfl,RU⟩,
  ⟨Lr,Lr.binds λ_ _ _ _ _ _=>Hh λ_ _ _=>rfl,UY⟩,
  ⟨Cu,Cu.binds λ_ _ _ _ _ _=>UK λ_=>rfl,Lu⟩,
  ⟨Lv,Lv.binds λ_ _ _ _ _ _=>YG λ_ _ _ _=>rfl,UZ⟩,
  ⟨o,o.binds λ_ _ _ _ _ _=>Hh λ_ _ _=>rfl,O⟩,
  ⟨RV,RV.binds λ_ _ _ _ _ _=>el7 λ_ _ _ _ _ _ _=>rfl,I⟩,
  ⟨RW,RW.binds λ_ _ _ _ _ _=>el8 λ_ _ _ _ _ _ _ _=>rfl,z⟩,
  ⟨RX,RX.binds λ_ _ _ _ _ _=>el6 λ_ _ _ _ _ _=>rfl,aaB⟩,
  ⟨Lw,Lw.binds λ_ _ _ _ _ _=>el7 λ_ _ _ _ _ _ _=>rfl,U0⟩,
  ⟨IE,IE.binds λ_ _ _ _ _ _=>el7 λ_ _ _ _ _ _ _=>rfl,RY⟩,
  ⟨RZ,RZ.binds λ_ _ _ _ _ _=>yW λ_ _=>rfl,aaC⟩,
  ⟨R0,R0.binds λ_ _ _ _ _ _=>el6 λ_ _ _ _ _ _=>rfl,B⟩,
  ⟨NX,NX.binds λ_ _ _ _ _ _=>el9 λ_ _ _ _ _ _ _ _ _=>rfl,Yg⟩,
  ⟨NY,NY.binds λ_ _ _ _ _ _=>yW λ_ _=>rfl,Yh⟩,
  ⟨n,n.binds λ_ _ _ _ _ _=>UK λ_=>rfl,L⟩,
  D.c,
  (dJ X G Hj),
  qH,
  Ab,
  J.c,
  (dJ X G K1),
  sW,
  Ce,
  FO.c,
  (dJ X G K2),
  sX,
  Cf,
  y.c,
  (dJ X G Hl),
  qI,
  sY,
  xU,
  p5,
  sZ,
  K8.c,
  (dJ X G PY),
  mK,
  mL,
  Ac,
  Ae,
  yG.c,
  (dJ X G Ep),
  tw,
  om,
  x.c,
  (dJ X G PZ),
  Af,
  F.c,
  (dJ X G UL),
  Ci,
  vz,
  lO,
  Ag,
  Ah,
  xV,
  xW,
  vA,
  xX,
  (dJ X G vB),
  ⟨vC,vE.fn,vE.kp⟩,
  ⟨tD,E.fn,E.kp⟩,
  ⟨FO.LC,La,s.fn,FO.kc⟩,
  ⟨qJ,qK,qL,s.kp⟩,
  (dJ X G HA),
  HB,
  (dJ X G EJ),
  EK,
  (dJ X G xY),
  (dJ X G Ai),
  (dJ X G Aj),
  (dJ X G Ak),
  (dJ X G vD),
  (dJ X G Al),
  (λH=>.inr ⟨333,Am,22,k9,(.cons ⟨1⟩ (.cons ⟨1⟩ (.cons ⟨1⟩ .nil)))⟩),
  (cX X G aar),
  (cX X G An),
  (cX X G M),
  (cX X G UN),
  (cX X G UO),
  (cX X G P5),
  (cX X G P6),
  (cX X G Cj),
  (cX X G Q),
  (cX X G P),
  (cX X G R),
  (cX X G V),
  (cX X G aax),
  (cX X G Lb)⟩⟩
end ee
namespace ee
open PySem L2 TW PyProof.Rows
open RM (cW jr aZ aX)
seal L2.PE L2.PA L2.PT L2.PW L2.PS L2.iE L2.PG L2.jW L2.PI L2.jX
theorem bB{CX:WY}{P:ci}{w:World}{K:ai}{c:Str->Option ar}{base:Heap}{N:List Str}{b:Str}{scope:Scope}{f:am}{d:ar}{A:cm}{a:List Env}{s:aw}{H:Hp}{E:XK}:(qk CX P w K c base N b scope f d A a s H E).K=K:=rfl
local macro_rules|`(tactic|left)=>`(tactic|try dsimp only[bB])
section
variable{P:ci}{w:World}{K:ai}{mg:Str->Option ar}{base:Heap}
inductive V0(vs:List V)(H:Hp)(Q:VK)(E:XK):Prop
 |mk(i:Int):vs=[.int i]->Q (.bl ag) H->V0 vs H Q E
theorem U1{t:Ad}(T:Txt K mg t):cH P w K mg base iJ 1 t.yv t.CV ["_law_found"] V0:=by refine T.NH.F.jv UG λH Q E a h=>?_;·obtain⟨i,rfl,k⟩:=h;exists _,(oR (OJ (cB Fd T.mz boot_isinstance (kN (pv 0) (CG rfl T.aam boot_int (v:=.ty "int") rfl))) (Tu (YZ (cB Fd T.mz boot_isinstance (kN (pv 0) (CG rfl T.aan boot_bool (v:=.ty "bool") rfl))))))),4;left;exists 17,.int _,21,fY ?_;exists 17,.int _,214;exact k
inductive aaE(K:ai)(vs:List V)(H:Hp)(Q:VK)(E:XK):Prop
 |mk(a:am)(ns:List Int)(k:Int):vs=[.ref a,.int k]->bI K H a (ns.map cn)->0<=k->Q (.int (ns.getD k.toNat 0)) H->aaE K vs H Q E
theorem iA{t:Ad}(T:Txt K mg t):cH P w K mg base iJ 1 t.rT t.wm ["_law_script","_law_k"] (aaE K):=by refine T.iB.F.jv Pu λH Q E g h=>?_;·obtain⟨a,ns,i,rfl,b,f,k⟩:=h;exists _,(aq (cC (qT oO (pv 1) (lS T.fV (pv 0))) (oR (xL (pv 0) (pv 1))) bw) (oR aA)),4;left;exists 8,a,1,.inl b,914;refine iW (λc=>?_) (λc=>?_);have d:i<wL ns:=(by simpa using c);exists 8,a,39,b,ZH f d,k;have d:¬i<wL ns:=(by simpa using c);have e:ns.getD i.toNat 0=0:=(by rw[ao,jY ∅];rfl);rw[e] at k;exact k
inductive V1(vs:List V)(H:Hp)(Q:VK)(E:XK):Prop
 |mk(n a b:Int):vs=[.int n,.int a,.int b]->0<=a->a<n->0<=b->b<n->a≠b->Q (.bl ag) H->V1 vs H Q E
theorem Qf{t:Ad}(T:Txt K mg t):cH P w K mg base iJ 1 t.rP t.vZ ["size","one","other"] V1:=by refine T.Ih.F.jv Po λH Q E i h=>?_;·obtain⟨n,a,b,rfl,g,d,e,c,f,k⟩:=h;exists _,(oR (OJ (QK rK oO aA (pv 1) (pv 0)) (OJ (QK rK oO aA (pv 2) (pv 0)) (Tu (qE rJ (pv 1) (pv 2)))))),4;left;exists 1914;rw[fy g];refine fY ⟨1914⟩;rw[fy d];refine fY ⟨1914⟩;rw[fy e];refine fY ⟨1914⟩;rw[fy c];refine fY ⟨824⟩;rw[gn (λz=>f (V.int.inj z))];exact k
inductive IF(K:ai)(vs:List V)(H:Hp)(Q:VK)(E:XK):Prop
 |mk(n:Int)(p:am)(a b c d e:Int):vs=[.int n,.ref p]->cD K H p (Xs a b c d e)->ZO n a b c d e->Q .gk H->IF K vs H Q E
theorem MK{t:Ad}(T:Txt K mg t):cH P w K mg base iJ 2 t.pF t.tW ["size","rope"] (IF K):=by refine T.FF.F.jv Mp λH Q E x h=>?_;·obtain⟨n,p,a,b,c,d,e,rfl,f,l,k⟩:=h;obtain⟨q,o,s,m,r,y,u,i,j,g⟩:=l;exists _,(aq (cC (qT rJ (lS T.fV (pv 1)) aA) fh bw) (aq (cC (jg (ku (cG (Qf T) x T.Ih (Ic (pv 0) (xT (pv 1) aA) (xT (pv 1) aA))))) fh bw) (aq (cC (qT oO (xT (pv 1) aA) aA) fh bw) (aq (cC (jg (jZ rK rK aA (xT (pv 1) aA) (nv rfl T.PN (v:=.int 4) ⟨1⟩))) fh bw) (bz (cC (jg (jZ rK rK aA (xT (pv 1) aA) (nv rfl T.PR (v:=.int 7) ⟨1⟩))) fh bw)))))),4;left;exists 1,p,1,.inr f,21,e9 ?_;exists 8,p,39,f,21,p,39,f,24;exists 331,q,o,s,m,r,1,e9 ?_;exists 1,p,39,f,2914;rw[gn (show ¬c<1 by lia)];refine e9 ?_;exists 1,p,39,f,2914;rw[fy u];refine fY ?_;exists 914;rw[fy i];refine e9 ?_;exists 1,p,39,f,2914;rw[fy j];refine fY ?_;exists 914;rw[fy g];refine e9 ?_;exact k
inductive Gd(K:ai)(vs:List V)(H:Hp)(Q:VK)(E:XK):Prop
 |mk(n:Int)(l:am)(rs:List R5):vs=[.int n,.ref l]->JS K H l rs->wL rs<=20->(∀r∈rs,r.Ok n)->Q .gk H->Gd K vs H Q E
theorem Lx{t:Ad}(T:Txt K mg t):cH P w K mg base iJ 3 t.m5 t.rA ["size","ropes"] (Gd K):=by refine T.Dy.F.jv Bp λH Q E z h=>?_;·obtain⟨n,l,g,rfl,u,B,r,k⟩:=h;obtain⟨f,d,A,x⟩:=u.at;exists _,(aq (cC (qT Vy (lS T.fV (pv 1)) (nv rfl T.PM (v:=.int 20) ⟨1⟩)) fh bw) (bz (fS (eW (pv 1)) (gT 2 Bp) (oE (cG (MK T) z T.FF (kN (pv 0) (pv 2))))))),4;left;exists 1,l,1,.inl d,914;rw[gn (show ¬(20:Int)<wL f by lia)];refine e9 ?_;exists 1,l,2,⟨_,d⟩,ye (K:=K) (a:=l) (xs:=f) (λi b c=>c=H/\∃v,b=[ac (.int n),ac (.ref l),v]) ⟨21⟩ (λi b c _ ⟨e,_⟩=>by rw[e];exact d) ?_ ?_;rintro i y b c j ⟨rfl,v,rfl⟩;have q:i<wL f:=(aj.mp j).1;have o:g[i]?=ac g[i]:=-_;obtain⟨p,m,s⟩:=x i _ o;rw[j] at m;cases m;exists 8,n,p,37,s,r _ (ay o),21;rintro b c ⟨rfl,v,rfl⟩;exact k
inductive Ge(K:ai)(vs:List V)(H:Hp)(Q:VK)(E:XK):Prop
 |mk(l:am)(ns:List Int):vs=[.ref l]->bI K H l (ns.map cn)->1<=wL ns->wL ns<=10->(∀n∈ns,0<=n)->ns.Nodup->(∀H',aG H H'->Q .gk H')->Ge K vs H Q E
theorem Ly{t:Ad}(T:Txt K mg t):cH P w K mg base iJ 1 t.mZ t.rm ["names"] (Ge K):=by refine T.Dw.F.jv Ku λH Q E r h=>?_;·obtain⟨l,ns,rfl,a,q,n,j,e,k⟩:=h;exists _,(aq (cC (jg (jZ rK rK aA (lS T.fV (pv 0)) (nv rfl T.Mv (v:=.int 10) ⟨1⟩))) fh bw) (aq (cC (qT oO (cB (Xk rfl) T.ajt boot_min (fR (pv 0))) aA) fh bw) (bz (cC (qT rJ (cB Xj T.fV PySem.boot_len (fR (gx (Xi rfl) (by rfl) T.ajv boot_set (fR (pv 0))))) (lS T.fV (pv 0))) fh bw)))),4;left;exists 1,l,1,.inl a,914;rw[fy (show (1:Int)<=(ns.map cn).length by rw[af];lia)];refine fY ?_;exists 914;rw[fy (show ((ns.map cn).length:Int)<=10 by rw[af];lia)];refine e9 ?_;exists 1,l,ns,2,a,6,λm c d=>?_;exists 914;rw[gn (show ¬m<0 by have:=j m c;lia)];refine e9 ?_;exists 1,l,ns,2,a,cj (show ns.length+1<100 by lia) (!_),λp b=>?_;have g:=aG.new (o:=.set (λf=>(firstMet (λi=>ns.getD i 0) (wL ns)).any (·==f)) (firstMet (λi=>ns.getD i 0) (wL ns)).length) b;exists p,31,au,1,l,1,.inl (g.seq a),214;rw[JT ns e,af];simp only[decide_true,Bool.not_true];refine e9 ?_;exact k _ (aG.new b)
inductive aaF(K:ai)(C:am)(vs:List V)(H:Hp)(Q:VK)(E:XK):Prop
 |mk(p dx l1 l2:am)(ns:List Int)(rs:List R5):vs=[.ref p,.ref l1,.ref l2]->H p=ac (.ins C dx [])->bI K H l1 (ns.map cn)->JS K H l2 rs->1<=wL ns->wL ns<=10->(∀n∈ns,0<=n)->ns.Nodup->wL rs<=20->(∀r∈rs,r.Ok (wL ns))->(∀ln lr H',H ln=ae->H lr=ae->dN K C H' p ln lr ns rs->(∀b o,H b=ac o->b≠p->H' b=ac o)->Q .gk H')->aaF K C vs H Q E
theorem Lz{t:Ad}(T:Txt K mg t):cH P w K mg base iJ 4 t.mY t.qZ ["self","names","ropes"] (aaF K t.be):=by refine T.Dv.F.jv Ks λH Q E hr h=>?_;·obtain⟨p,i,z,y,ns,rs,rfl,hp,X,hR,h1,h2,h3,h4,h5,h6,k⟩:=h;exists _,(aq (eE (cG (Ly T) hr T.Dw (fR (pv 1)))) (aq (eE (cG (Lx T) hr T.Dy (kN (lS T.fV (pv 1)) (pv 2)))) (aq (gK (pv 0) (gx gC (by rfl) T.sM boot_list (fR (pv 1))) rfl) (aq (gK (pv 0) (gx gC (by rfl) T.sM boot_list (fR (pv 2))) rfl) (aq (gK (pv 0) (lS T.fV (pv 1)) rfl) (bz (gK (pv 0) (lS T.fV (pv 2)) rfl))))))),4;left;exists 1,z,ns,2,X,h1,h2,h3,h4,λS r=>?_;exists 1,z,1,.inl (r.seq X),4;exists 1,(ns.length:Int),y,rs,-_,hR.mono r,h5,h6,4;have g:=r _ _ hp;have R:=hR.mono r;have A:=r.seq X;obtain⟨_,c,e,hq,YH⟩:=id R;cases e;exists 1,z,1,.inl A,λd Y=>?_;have n:p≠d:=aC g Y;have s2:=aG.new (o:=.lst (ns.map cn)) Y;exists 1,p,_,i,[],2,s2 _ _ g,T.gp,T.vd,!_,?_;rw[eS (names:=[]) rfl rfl];generalize m:upd (upd S d (.lst (ns.map cn))) p (.ins t.be i ([]++[(ba "house_names",cr d)]))=H2;have C:∀b o,S b=ac o->b≠p->H2 b=ac o:=λb o e a=>(by rw[<- m,aI a];exact s2 _ _ e);have f:H2 p=ac (.ins t.be i [(ba "house_names",cr d)]):=(by rw[<- m];exact au);have M:H2 d=ac (.lst (ns.map cn)):=(by rw[<- m,aI (bT n),au]);have fr2:∀{b:am},S b=ae->b≠p->b≠d->H2 b=ae:=λ{b} e n1 n2=>(by rw[<- m,aI n1,aI n2];exact e);have hL2:bI K H2 z (ns.map cn):=CJ (λb o e a=>C b o e a) g A;have J:bI K H2 y c:=CJ (λb o e a=>C b o e a) g hq;have anw:dw K H2 (rs.map R5.D) c:=k8 (λb o e a=>C b o e a) g YH;exists 1,y,1,.inl J,λj x=>?_;have l:p≠j:=aC f x;have s3:=aG.new (o:=.lst c) x;exists 1,p,_,i,1,s3 _ _ f,T.gp,T.iS,(by show 1<1000;decide),4;rw[eS (names:=["house_names"]) rfl (by decide +kernel)];generalize v:upd (upd H2 j (.lst c)) p (.ins t.be i ([(ba "house_names",cr d)]++[(ba "rope_tuples",cr j)]))=H3;have G:∀b o,H2 b=ac o->b≠p->H3 b=ac o:=λb o e a=>(by rw[<- v,aI a];exact s3 _ _ e);have s:H3 p=ac (.ins t.be i [(ba "house_names",cr d),(ba "rope_tuples",cr j)]):=(by rw[<- v];exact au);have W:H3 j=ac (.lst c):=(by rw[<- v,aI (bT l),au]);have O:=G _ _ M (bT n);have N:bI K H3 z (ns.map cn):=CJ G f hL2;have U:bI K H3 y c:=CJ G f J;have anx:dw K H3 (rs.map R5.D) c:=k8 G f anw;exists 1,z,1,.inl N,1,p,_,i,1,s,T.gp,T.ow,(by show 2<1000;decide),4;rw[eS (names:=["house_names","rope_tuples"]) rfl (by decide +kernel)];generalize B:upd H3 p (.ins t.be i ([(ba "house_names",cr d),(ba "rope_tuples",cr j)]++[(ba "size",cn ((ns.map cn).length:Nat))]))=H4;have I:∀b o,H3 b=ac o->b≠p->H4 b=ac o:=λb o e a=>(by rw[<- B,aI a];exact e);have YI:H4 p=ac (.ins t.be i [(ba "house_names",cr d),(ba "rope_tuples",cr j),(ba "size",cn ((ns.map cn).length:Nat))]):=(by rw[<- B];exact au);have Z:bI K H4 y c:=CJ I s U;have anz:dw K H4 (rs.map R5.D) c:=k8 I s anx;exists 1,y,1,.inl Z,1,p,_,i,1,YI,T.gp,T.wB,(by show 3<1000;decide),4;rw[eS (names:=["house_names","rope_tuples","size"]) rfl (by decide +kernel)];have L:∀b o,H4 b=ac o->b≠p->∀u,(upd H4 p u) b=ac o:=λb o e a u=>(by rw[aI a];exact e);have YJ:wL c=rs.length:=(by rw[YH.length,af]);refine k d j _ (r.free Y) ?_ ⟨⟨i,4⟩,4,c,4,k8 (λb o e a=>L b o e a _) YI anz⟩ ?_;(cases q:H j with|none=>rfl|some o=>have:=C j o (r _ _ q) (λe=>l e.symm);rw[x] at this;cases this);rw[au,YJ,af];rfl;exact L _ _ (I _ _ O (bT n)) (bT n) _;exact L _ _ (I _ _ W (bT l)) (bT l) _;exact λb o e a=>L _ _ (I _ _ (G _ _ (C _ _ (r _ _ e) a) a) a) a _
inductive aaG(K:ai)(C:am)(vs:List V)(H:Hp)(Q:VK)(E:XK):Prop
 |mk(p ln lr:am)(ns:List Int)(rs:List R5)(i:Nat)(n:Int):vs=[.ref p,.int i]->dN K C H p ln lr ns rs->ns[i]?=ac n->Q (.int n) H->aaG K C vs H Q E
theorem Qg{t:Ad}(T:Txt K mg t):cH P w K mg base iJ 1 t.rM t.vW ["self","house"] (aaG K t.be):=by refine T.Ig.F.jv Pg λH Q E q h=>?_;·obtain⟨p,b,o,l,j,i,n,rfl,d,c,k⟩:=h;obtain⟨⟨f,g⟩,e,m,a,r⟩:=id d;exists _,(oR (xL (bg (pv 0) rfl) (pv 1))),4;left;exists 1,p,_,f,31,g,T.gp,T.vd,21,b,39,bI.of e,bO (v:=cn n) (by rw[ak,c];rfl),k
inductive aaH(K:ai)(C:am)(vs:List V)(H:Hp)(Q:VK)(E:XK):Prop
 |mk(p ln lr:am)(ns:List Int)(rs:List R5)(i:Nat)(r:R5):vs=[.ref p,.int i]->dN K C H p ln lr ns rs->rs[i]?=ac r->(∀q,H q=ac (.tup r.vs)∨cD K H q r.vs->Q (.ref q) H)->aaH K C vs H Q E
theorem Gf{t:Ad}(T:Txt K mg t):cH P w K mg base iJ 1 t.rN t.vX ["self","number"] (aaH K t.be):=by refine T.BF.F.jv Pj λH Q E y h=>?_;·obtain⟨p,o,l,ns,s,i,r,rfl,f,c,k⟩:=h;obtain⟨⟨j,m⟩,u,x,a,n⟩:=id f;obtain⟨v,b,hD⟩:=n.get (i:=i) (d:=r.D) (by rw[ak,c];rfl);obtain⟨q,e,g⟩:=Rep.A3 (ns:=r.ns) hD;subst e;exists _,(oR (xL (bg (pv 0) rfl) (pv 1))),4;left;exists 1,p,_,j,31,m,T.gp,T.iS,21,l,39,bI.of a,bO b,k q (.inr g)
inductive aeQ(K:ai)(C:am)(vs:List V)(H:Hp)(Q:VK)(E:XK):Prop
 |mk(p ln lr:am)(ns:List Int)(rs:List R5)(i:Nat)(r:R5)(h:Int):vs=[.ref p,.int i,.int h]->dN K C H p ln lr ns rs->rs[i]?=ac r->Q (.int (if h=r.a then r.b else r.a)) H->aeQ K C vs H Q E
theorem tF{t:Ad}(T:Txt K mg t):cH P w K mg base iJ 1 t.lF t.pO ["self","rope","house"] (aeQ K t.be):=by refine T.pU.F.jv Ay λH Q E C h=>?_;·obtain⟨p,y,o,ns,z,i,r,x,rfl,m,l,k⟩:=h;obtain⟨⟨n,s⟩,A,B,b,u⟩:=id m;obtain⟨v,j,hD⟩:=u.get (i:=i) (d:=r.D) (by rw[ak,l];rfl);obtain⟨q,e,g⟩:=Rep.A3 (ns:=r.ns) hD;subst e;exists _,(aq (sS 3 Ay (xL (bg (pv 0) rfl) (pv 1))) (oR (AU (qT kU (pv 2) (xT (pv 3) aA)) (xT (pv 3) aA) (xT (pv 3) aA)))),4;left;exists 1,p,_,n,31,s,T.gp,T.iS,21,o,39,bI.of b,bO j,4;exists 8,q,39,g,204;refine iW (λc=>?_) (λc=>?_);have f:x=r.a:=(by simpa using c);rw[eL f] at k;exists 1,q,39,g,2,k;have f:¬x=r.a:=(by simpa using c);rw[e8 f] at k;exists 1,q,39,g,2,k
inductive ajC(K:ai)(C:am)(vs:List V)(H:Hp)(Q:VK)(E:XK):Prop
 |mk(p ln lr:am)(ns:List Int)(rs:List R5)(h:Int):vs=[.ref p,.int h]->dN K C H p ln lr ns rs->wL rs<=20->(∀l H',aG H H'->H l=ae->H' l=ac (.lst (aT (YD rs h (wL rs))))->Q (.ref l) H')->ajC K C vs H Q E
theorem qM{t:Ad}(T:Txt K mg t):cH P w K mg base iJ 1 t.j3 t.nD ["self","house"] (ajC K t.be):=by refine T.nM.F.jv yk λH Q E hr h=>?_;·obtain⟨p,ln,lr,ns,rs,x,rfl,X,tM,k⟩:=h;obtain⟨⟨dx,hp⟩,hn,B,g,U⟩:=id X;have YJ:wL B=rs.length:=(by rw[U.length,af]);exists _,(oR (fE (kO yk ["number","rope","house"] [ae,ae,ac 1]) rfl (acp rfl T.RD (fR (bg (pv 0) rfl))) (λ_ _ _ _=>by exact (OZ K rfl (n:=2) rfl (gJ (gS 0 tK) (gJ (gS 1 tK) za)))) (λ_ _ _ _=>by exact (jM (iU (ze K rfl) (pv 2) (dY (kN (yT K (pv 1) aA) (yT K (pv 1) aA))) (by with_unfolding_all rfl)))) (λ_ _ _ _=>by exact (pv 0)))),4;left;exists 1,p,_,dx,31,hp,T.gp,T.iS,2,lr,B,2,bI.of g,λj f=>?_;refine eX (n:=B.length) (λi r _=>r=aT (YD rs x i)) f (af7 (bI.of g)) (ZG (bI.of g)) rfl ?_ ?_;(·rintro i r A L l C m y H3 ⟨q,v,I,rfl,rfl,W⟩;have J:=W B (l.seq (bI.of g));have S:rs[i]?=ac rs[i]:=-_;obtain⟨v',z,hD⟩:=U.get (i:=i) (d:=(rs[i]).D) (by rw[ak,S];rfl);rw[J] at z;cases z;obtain⟨b,e,Y⟩:=Rep.A3 (ns:=(rs[i]).ns) hD;subst e;have u:=(l.out (o:=.tup [.int (i:Nat),.ref b]) (l.free I)).bP Y;have nq:j≠q:=aC C I;exists q,1,cD.of au,23194;exists 8,b,39,u,21,b,39,u,2,jD,λc R=>?_;exists c,1,.inr (cD.of au),204;have eb:Av (cn x) [cn rs[i].a,cn rs[i].b]=isAt rs x i:=(by unfold isAt;rw[S];exact Ui _ _ _);have O:=l.out (o:=.tup [.int (i:Nat),.ref b]) (l.free I);have N:=O.out (o:=.tup [cn rs[i].a,cn rs[i].b]) (O.free R);have s:(upd (upd A q (HO.tup [cn (i:Nat),cr b])) c (HO.tup [cn rs[i].a,cn rs[i].b])) j=ac (.lst r):=(by have M:(upd A q (HO.tup [cn (i:Nat),cr b])) j=ac (.lst r):=(by rw[aI nq];exact C);rw[aI (aC M R)];exact M);(try dsimp only);rw[e8 aH,eb];have Z:wL r<bc:=(by rw[m,af];exact dh (aJ (acG rs x i) ∅) (b9 (az _)));refine iW (λG=>?_) (λG=>?_);exists 1,dF f L N s Z (by rw[m,Q4,eL G,gy]);exact gU L N s (by rw[m,Q4,e8 G,b5]));intro r A l C m;rw[YJ] at m;exact k j A l f (by rw[C,m])
inductive R1(K:ai)(C:am)(vs:List V)(H:Hp)(Q:VK)(E:XK):Prop
 |mk(p ln lr:am)(ns:List Int)(rs:List R5)(i:Nat)(n:Int):vs=[.ref p,.int i]->dN K C H p ln lr ns rs->ns[i]?=ac n->(∀q H',aG H H'->cD K H' q (cW ⟨n,(0),(0),-1⟩)->Q (.ref q) H')->R1 K C vs H Q E
theorem LA{t:Ad}(T:Txt K mg t):cH P w K mg base iJ 2 t.yp t.CO ["town","house"] (R1 K t.be):=by refine T.Hf.F.jv UD λH Q E l h=>?_;·obtain⟨p,b,j,d,c,i,n,rfl,a,e,k⟩:=h;obtain⟨⟨g,m⟩,_,_,_⟩:=id a;exists _,(oR (dY (nO (cM (pv 0) T.gp T.Ig (Qg T) l (fR (pv 1))) aA aA kr))),4;left;exists 1,p,g,1,m,21,p,b,j,d,c,i,n,2,a,e,aaT,λq f=>?_;exact k q _ (aG.new f) (cD.of au)
inductive V2(K:ai)(C:am)(vs:List V)(H:Hp)(Q:VK)(E:XK):Prop
 |mk(p ln lr:am)(ns:List Int)(rs:List R5)(i:Nat)(x:R5)(a:am)(r:RM.Row):vs=[.ref p,.ref a,.int i]->dN K C H p ln lr ns rs->rs[i]?=ac x->cD K H a (cW r)->(¬r.ho+1<wL ns->∀H',aG H H'->Q .gk H')->(r.ho+1<wL ns->∀q H',aG H H'->cD K H' q (cW ⟨r.hd,r.co+x.c,r.ho+1,i⟩)->Q (.ref q) H')->V2 K C vs H Q E
theorem R3{t:Ad}(T:Txt K mg t):cH P w K mg base iJ 2 t.Fq t.Jw ["town","row","rope"] (V2 K t.be):=by refine T.PL.F.jv Ro λH Q E B h=>?_;·obtain⟨p,k,A,ns,l,i,x,a,r,rfl,f,o,b,n,v⟩:=h;obtain⟨⟨g,j⟩,_,_,_⟩:=id f;exists _,(aq (sS 3 Ro (bf gm (xT (pv 1) aA) aA)) (aq (cC (qT aiK (pv 3) (bg (pv 0) rfl)) (oR kr) bw) (oR (dY (nO (xT (pv 1) aA) (bf gm (xT (pv 1) aA) (xT (cM (pv 0) T.gp T.BF (Gf T) B (fR (pv 2))) aA)) (pv 3) (pv 2)))))),4;left;exists 1,a,39,b,294;exists 8,p,_,g,31,j,T.gp,T.ow,2914;refine iW (λe=>?_) (λe=>?_);have s:(ns.length:Int)<=r.ho+1:=j9 e;exact n ∅ _ (aG.refl _);have s:¬(ns.length:Int)<=r.ho+1:=of_decide_eq_false (eq_false_of_ne_true e);exists 1,a,39,b,21,a,39,b,21,p,g,1,j,21,p,k,A,ns,l,i,x,2,f,o,λq y=>?_;have d:cD K H q x.vs:=y.elim (λz=>cD.of z) id;exists q,39,d,298,aaT,λu m=>?_;refine v ∅ u _ (aG.new m) (cD.of ?_);rw[au];show ac (HO.tup [.int r.hd,.int (r.co+x.c),.int (r.ho+1),.int (i:Int)])=ac (HO.tup [.int r.hd,.int (r.co+x.c),.int (r.ho+1),jr (i:Int)]);rw[aX ∅]
inductive aeR(K:ai)(C:am)(vs:List V)(H:Hp)(Q:VK)(E:XK):Prop
 |mk(p ln lr c b:am)(ns:List Int)(rs:List R5)(live:List Nat)(nd:ns.Nodup)(ok:∀r∈rs,r.Ok (wL ns))(hl:∀k∈live,k<wL rs)(R:Nat->RM.Row)(h:Nat):vs=[.ref p,.ref c,.ref b,.int h]->dN K C H p ln lr ns rs->bI K H c (aT live)->zf K H b (wL ns) R->h<wL ns->wL rs<=20->RM.Sane (bA ns rs live nd ok hl) R->(∀q d H',aG H H'->cD K H' q (cW d)->RM.ZN (N:=bA ns rs live nd ok hl) (wL ns) R h d->Q (.ref q) H')->aeR K C vs H Q E
theorem agC{t:Ad}(T:Txt K mg t):cH P w K mg base iJ 3 t.Rx t.VU ["town","live","rows","house"] (aeR K t.be):=by
 refine T.aeJ.F.jv Kq λH Q E hr h=>?_
 ·obtain⟨p,ln,lr,c,b,ns,rs,e,n,i,m,R,x,rfl,hT,hC,hR,hx,tM,agd,k⟩:=h;obtain⟨⟨dx,hp⟩,_,_,_⟩:=id hT;obtain⟨ps,hP,ePs,acZ⟩:=hR;have enm:(bA ns rs e n i m).nm x=ns[x]:=(by show ns.getD x 0=_;simp[ao,hx]);exists _,(aq (sS 4 Kq (cG (LA T) hr T.Hf (kN (pv 0) (pv 3)))) (aq (fS (eW (cM (pv 0) T.gp T.nM (qM T) hr (fR (pv 3)))) (gT 5 Kq) (bz (cC (iU oq (pv 5) (pv 1) (by with_unfolding_all rfl)) (aq (sS 6 Kq (cG (R3 T) hr T.PL (Ic (pv 0) (xL (pv 2) (cM (pv 0) T.gp T.pU (tF T) hr (kN (pv 5) (pv 3)))) (pv 5)))) (bz (cC (PW.pt (wQ (qT E3 (pv 6) kr) (tO (qT (agb (Nat.lt_of_succ_lt (HX hr))) (uv GG (pv 6) E6 (qR aA)) (uv GG (pv 4) E6 (qR aA)))))) (bz (sS 4 Kq (pv 6))) bw))) bw))) (oR (pv 4)))),4;left;exists 8,p,ln,lr,ns,rs,x,ns[x],2,hT,aa hx,λp0 H0 s0 hp0=>?_;have hown:cD K H0 p0 (cW (RM.own (bA ns rs e n i m) x)):=(by unfold RM.own;rw[enm];exact hp0)
  exists 1,p,dx,1,s0 _ _ hp,21,p,ln,lr,ns,rs,x,2,hT.mono s0,tM,λl H1 s1 Me Y=>?_;have s01:=s0.trans s1;exists l,2,⟨_,bI.of Y⟩,4;generalize O:YD rs (x:Int) rs.length=v at Y;refine ye (K:=K) (a:=l) (xs:=aT v) (λj σ H2=>aG H1 H2/\∃(q:am)(d:RM.Row)(v5 v6:Option V),σ=[ac (.ref p),ac (.ref c),ac (.ref b),ac (.int x),ac (.ref q),v5,v6]/\cD K H2 q (cW d) /\
   (d=RM.own (bA ns rs e n i m) x∨∃f g,f∈v.take j/\RM.Js (bA ns rs e n i m) f x g/\(R g).ho+1<wL ns/\d=RM.over (bA ns rs e n i m) f (R g))/\RM.le d (RM.own (bA ns rs e n i m) x) /\
   ∀f g,f∈v.take j->RM.Js (bA ns rs e n i m) f x g->(R g).ho+1<wL ns->RM.le d (RM.over (bA ns rs e n i m) f (R g)))
   ⟨aG.refl _,p0,RM.own (bA ns rs e n i m) x,31,s1.bP hown,.inl rfl,RM.le_refl _,λf g he=>by simp at he⟩ (λj σ H2 _ z=>bI.of (z.1 _ _ Y)) ?_ ?_
  (·rintro j y σ H2 hj ⟨s2,q,d,v5,v6,rfl,hq,d1,d2,X⟩;have J:j<wL v:=(by have:=(aj.mp hj).1;rw[af] at this;exact this);rw[ak,aa J] at hj;cases hj;have et:v.take (j+1)=v.take j++[v[j]]:=(by rw[gv,aa J];rfl);have U:v[j]∈v:=aP J;have aeS:∀A∈v.take j,A<v[j]:=λA s=>acH (O▸ZR rs (x:Int) (wL rs)) J s;have L:(d=RM.own (bA ns rs e n i m) x∨∃f g,f∈v.take j++[v[j]]/\RM.Js (bA ns rs e n i m) f x g/\(R g).ho+1<wL ns/\d=RM.over (bA ns rs e n i m) f (R g)):=d1.imp id λ⟨a1,a2,a3,a4⟩=>⟨a1,a2,List.mem_append_left _ a3,a4⟩;rw[et];show jq 5 (cn ((v[j]:Nat):Int)) _ _ _;generalize v[j]=f at U aeS L;rw[<- O,CK] at U;obtain⟨hkl,hat⟩:=U;have B:=s01.trans s2;exists 8,c,1,.inl (B.seq hC),2,kh e,14;(try dsimp only);rw[e8 aH,yg];refine iW (λN=>?_) (λN=>?_);(case refine_2=>have N:f∉e:=λz=>N (fy z);exists s2,q,d,31,hq,L,d2,λA g s CI Z=>?_;rcases bU.mp s with z|z;exact X A g z CI Z;rw[bV.mp z] at CI;exact ff CI.1 N);have N:f∈e:=j9 N;have S:rs[f]?=ac rs[f]:=aa hkl;have CI:RM.Js (bA ns rs e n i m) f x (gO rs[f] x):=(vP N).mpr ⟨hat,2⟩;have hgn:gO rs[f] x<wL ns:=CI.lt.2.1;have hgs:=agd _ hgn;have aaJ:(if (x:Int)=rs[f].a then rs[f].b else rs[f].a)=((gO rs[f] x:Nat):Int):=(by have o:=i _ (aP hkl);have h1:=o.a0;have h2:=o.b0;unfold gO;split <;> lia);have aaK:(bA ns rs e n i m).c f=rs[f].c:=(by show ((rs[f]?).map λr=>r.c).getD 0=_;rw[S];rfl);have fu:∀g,RM.Js (bA ns rs e n i m) f x g->g=gO rs[f] x:=λg a=>((vP N).mp a).2;generalize gO rs[f] x=g at CI hgn hgs aaJ fu;have hpg:ps[g]?=ac ps[g]:=aa ∅;have agD:yb (ps.map cr) (if (x:Int)=rs[f].a then rs[f].b else rs[f].a)=ac (.ref ps[g]):=(by rw[aaJ];exact bO (by rw[ak,hpg];rfl));have hrg:=B.bP (acZ g _ hpg);exists 18,p,dx,1,B _ _ hp,28,p,ln,lr,ns,rs,f,rs[f],x,2,hT.mono B,S,b,39,B.seq hP,agD,14;exists p,ln,lr,ns,rs,f,rs[f],ps[g],R g,2,hT.mono B,S,hrg,λZ H3 s3=>?_,λZ u H3 s3 hu=>?_;exists 10,e9 (e9 ?_);exists s2.trans s3,q,d,31,s3.bP hq,L,d2,λA G s D W=>?_;rcases bU.mp s with z|z;exact X A G z D W;rw[bV.mp z] at D;rw[fu G D] at W;exact ff W Z;have eov:(⟨(R g).hd,(R g).co+rs[f].c,(R g).ho+1,f⟩:RM.Row)=RM.over (bA ns rs e n i m) f (R g):=(by unfold RM.over;rw[aaK]);rw[eov] at hu;have I:=s3.bP hq;have M:=s2.trans s3;exists 10,fY ?_;have lex:JR [cn (RM.over (bA ns rs e n i m) f (R g)).hd,cn (RM.over (bA ns rs e n i m) f (R g)).co,cn (RM.over (bA ns rs e n i m) f (R g)).ho] [cn d.hd,cn d.co,cn d.ho] (decide (RM.lt (RM.over (bA ns rs e n i m) f (R g)) d)):=RM.acA (by rcases d1 with z|⟨A,G,s,_,_,z⟩;rw[z];intro _ _ e3;have:(R g).ho+1=0:=e3;lia;have hlt':=aeS A s;rw[z];intro e1 e2 e3 e4;rcases e4 with e4|⟨_,e4|⟨_,e4|⟨_,e4⟩⟩⟩;lia;lia;lia;have:((f:Nat):Int)<((A:Nat):Int):=e4;lia);have nw:∀r:RM.Row,¬(HT.lV (cW r).length 0 ae=0/\HT.lV (cW r).length (cW r).length (ac 3)=(cW r).length):=λr z=>ff z.2 (by show HT.lV 4 4 (ac 3)≠4;decide);have ct:∀r:RM.Row,DU (cW r) ae (ac 3)=[cn r.hd,cn r.co,cn r.ho]:=λr=>rfl;exists 8,u,1,hu,nw _,λz1 hz1=>?_;rw[ct];have t1:=aG.new (o:=.tup [cn (RM.over (bA ns rs e n i m) f (R g)).hd,cn (RM.over (bA ns rs e n i m) f (R g)).co,cn (RM.over (bA ns rs e n i m) f (R g)).ho]) hz1;exists 8,q,1,t1.bP I,nw _,λz2 hz2=>?_;rw[ct];have t2:=aG.new (o:=.tup [cn d.hd,cn d.co,cn d.ho]) hz2;have M:=M.trans (t1.trans t2);have hu:=(t1.trans t2).bP hu;have I:=(t1.trans t2).bP I;exists z1,z2,39,cD.of (t2 _ _ au),cD.of au,2,lex,14;by_cases C:RM.lt (RM.over (bA ns rs e n i m) f (R g)) d;rw[fy C];refine fY ?_;exists 1,M,u,331,hu,.inr ⟨f,g,fq _ (bV.mpr rfl),CI,Z,2⟩,RM.le_trans (RM.aeB C) d2,λA G s D W=>?_;rcases bU.mp s with z|z;exact RM.le_trans (RM.aeB C) (X A G z D W);rw[bV.mp z] at D ⊢;rw[fu G D];exact RM.le_refl _;rw[gn C];refine e9 ⟨M,q,d,31,I,L,d2,λA G s D W=>?_⟩;rcases bU.mp s with z|z;exact X A G z D W;rw[bV.mp z] at D ⊢;rw[fu G D];exact C);rintro σ H2 ⟨s2,q,d,v5,v6,rfl,hq,d1,d2,X⟩;rw[af,List.take_of_length_le (az _)] at X;exists 1,k q d H2 (s01.trans s2) hq ⟨d1.imp id λ⟨a1,a2,_,a4⟩=>⟨a1,a2,a4⟩,d2,λf g CI Z=>X f g ?_ CI Z⟩;rw[<- O,CK];exists m f CI.1,((vP CI.1).mp CI).1
inductive aaL(K:ai)(C:am)(vs:List V)(H:Hp)(Q:VK)(E:XK):Prop
 |mk(p ln lr c b:am)(ns:List Int)(rs:List R5)(live:List Nat)(nd:ns.Nodup)(ok:∀r∈rs,r.Ok (wL ns))(hl:∀k∈live,k<wL rs)(R:Nat->RM.Row)(h:Nat):vs=[.ref p,.ref c,.ref b,.int h]->dN K C H p ln lr ns rs->bI K H c (aT live)->zf K H b (wL ns) R->h<wL ns->wL rs<=20->zg (wL ns) (wL rs) R->(∀v H',aG H H'->wV K H' v (A6 (bA ns rs live nd ok hl) R h)->Q v H')->aaL K C vs H Q E
theorem aaM{t:Ad}(T:Txt K mg t):cH P w K mg base iJ 3 t.Ft t.Jy ["town","live","rows","house"] (aaL K t.be):=by refine T.VW.F.jv Kr λH Q E L h=>?_;·obtain⟨p,ln,lr,c,b,ns,rs,live,nd,ok,v,R,i,rfl,N,hC,S,hin,tM,fit,k⟩:=h;obtain⟨⟨dx,hp⟩,_,_,_⟩:=id N;obtain⟨s,M,ePs,I⟩:=id S;have G:s[i]?=ac s[i]:=aa ∅;have y:yb (s.map cr) (i:Int)=ac (.ref s[i]):=bO (by rw[ak,G];rfl);have W:=I i _ G;have fi:=fit i hin;exists _,(aq (sS 4 Kr (xT (xL (pv 2) (pv 3)) aA)) (aq (cC (PW.pt (HQ (iU lW (pv 4) (pv 1) (by with_unfolding_all rfl)) (DR (iU lW (pv 4) (cM (pv 0) T.gp T.nM (qM T) L (fR (pv 3))) (by with_unfolding_all rfl))))) (oR kr) bw) (aq (sS 5 Kr (cM (pv 0) T.gp T.pU (tF T) L (kN (pv 4) (pv 3)))) (aq (cC (qT DY (cG (R3 T) L T.PL (Ic (pv 0) (xL (pv 2) (pv 5)) (pv 4))) (xL (pv 2) (pv 3))) (oR kr) bw) (oR (dY (kN (pv 4) (pv 5)))))))),4;left;exists 8,jN M y (fN W rfl ?_);have f:∀{H3:Hp},aG H H3->(∀k g,¬RM.qo (bA ns rs live nd ok v) R k i g)->Q .gk H3:=λs3 no=>k .gk _ s3 (by rw[Q5 no];rfl);show jq 4 (jr (R i).by_) _ _ _;rcases fi.by_ with Y|⟨b0,b1⟩;(·rw[show jr (R i).by_=V.gk by rw[Y];rfl];exists 8,c,1,.inl hC,2,kh live,14;(try dsimp only);rw[eL rfl,acI];refine fY (fY (f (aG.refl _) λn g t=>?_));(have:=t.by);lia);obtain⟨d,ekk⟩:∃d:Nat,(R i).by_=(d:Int):=⟨(R i).by_.toNat,6⟩;have o:d<wL rs:=∅;rw[show jr (R i).by_=cn (d:Nat) by rw[ekk,aX ∅]];have q:∀n g,RM.qo (bA ns rs live nd ok v) R n i g->n=d:=λn g t=>(by have:=t.by;lia);exists 8,c,1,.inl hC,2,kh live,14;(try dsimp only);rw[eL rfl,yg];by_cases B:d∈live;(case neg=>rw[gn B];refine fY (fY (f (aG.refl _) λn g t=>?_));have:=q n g t;subst this;exact B t.CI.1);rw[fy B];refine e9 ?_;exists 8,p,dx,1,hp,21,p,ln,lr,ns,rs,i,2,N,tM,λl H1 x Me hl1=>?_;exists l,1,.inl (bI.of hl1),2,kh _,14;(try dsimp only);rw[eL rfl,yg];by_cases m:d∈YD rs (i:Int) (wL rs);(case neg=>rw[gn m];refine fY (f x λn g t=>?_);have:=q n g t;subst this;exact m (CK.mpr ⟨o,((vP B).mp t.CI).1⟩));rw[fy m];refine e9 ?_;have m:=(CK.mp m).2;have z:rs[d]?=ac rs[d]:=aa o;have D:=VL (h:=i) o ok;have X:gO rs[d] i<wL ns:=Uj o ok;have C:=ZS (ns:=ns) (rs:=rs) (live:=live) (nd:=nd) (ok:=ok) (hl:=v) (R:=R) (h:=i) B;have aaK:=ajd (ns:=ns) (live:=live) (nd:=nd) (ok:=ok) (hl:=v) o;have r:∀g,RM.qo (bA ns rs live nd ok v) R d i g->g=gO rs[d] i:=λg t=>agf t;exists 1,p,dx,1,x _ _ hp,28,p,ln,lr,ns,rs,d,rs[d],i,2,N.mono x,z,4;show jq 5 (cn (if (i:Int)=rs[d].a then rs[d].b else rs[d].a)) _ _ _;rw[D];generalize gO rs[d] i=g at D X C r;have J:s[g]?=ac s[g]:=aa ∅;have Z:yb (s.map cr) (g:Int)=ac (.ref s[g]):=bO (by rw[ak,J];rfl);exists 18,jN (x.seq M) Z ⟨1,p,ln,lr,ns,rs,d,rs[d],s[g],R g,2,N.mono x,z,x.bP (I g _ J),λLB H2 s2=>?_,λLB u H2 s2 hu=>?_⟩;have j:=x.trans s2;exists 8,jN (j.seq M) y ⟨.none,RM.GJ (R i),2,RM.A4 (j.bP W),2,RM.A5 _,dh (fm (aJ (oH _ _) (!_)) _) L.units,14⟩;refine fY (f j λn A t=>?_);have O:=q n A t;subst O;have e2:=r A t;subst e2;exact LB t.cut;·have j:=x.trans s2;have eov:(⟨(R g).hd,(R g).co+rs[d].c,(R g).ho+1,d⟩:RM.Row)=RM.over (bA ns rs live nd ok v) d (R g):=(by unfold RM.over;rw[aaK]);rw[eov] at hu;exists 8,jN (j.seq M) y ⟨RM.GJ (RM.over (bA ns rs live nd ok v) d (R g)),RM.GJ (R i),RM.A4 hu,RM.A4 (j.bP W),RM.A5 _,RM.A5 _,dh (fm (aJ (oH _ _) (by rw[RM.Nh];decide)) _) L.units,14⟩;rw[RM.Q3 (show (-1:Int)<=(d:Nat) by lia) fi.by1];by_cases e:RM.over (bA ns rs live nd ok v) d (R g)=R i;(case neg=>rw[gn e];refine fY (f j λn A t=>?_);have O:=q n A t;subst O;have e2:=r A t;subst e2;exact e t.eq.symm);rw[fy e];refine e9 ?_;have hh:RM.qo (bA ns rs live nd ok v) R d i g:=(by obtain⟨g2,t⟩:=C.mpr ⟨m,LB,e.symm⟩;have:=r g2 t;subst this;exact t);exists 8,jD,λo2 U=>?_;exact k (.ref o2) _ (j.trans (aG.new U)) (by rw[vQ.mpr hh];exists o2,2,cD.of au)
inductive aeU(K:ai)(C:am)(vs:List V)(H:Hp)(Q:VK)(E:XK):Prop
 |mk(p ln lr c b:am)(ns:List Int)(rs:List R5)(live:List Nat)(nd:ns.Nodup)(ok:∀r∈rs,r.Ok (wL ns))(hl:∀k∈live,k<wL rs)(R:Nat->RM.Row):vs=[.ref p,.ref c,.ref b]->dN K C H p ln lr ns rs->bI K H c (aT live)->zf K H b (wL ns) R->wL ns<=12->wL rs<=20->zg (wL ns) (wL rs) R->(∀l H',aG H H'->H l=ae->age K H' l (wL ns) (A6 (bA ns rs live nd ok hl) R)->Q (.ref l) H')->aeU K C vs H Q E
theorem agH{t:Ad}(T:Txt K mg t):cH P w K mg base iJ 4 t.Ry t.VV ["town","live","rows"] (aeU K t.be):=by refine T.aeK.F.jv aah λH Q E O h=>?_;·obtain⟨p,L,V,c,b,ns,B,d,G,C,A,R,rfl,D,hC,s,W,M,y,k⟩:=h;obtain⟨⟨U,X⟩,_,_,_⟩:=id D;exists _,(oR (fE (kO aah ["house","live","rows","town"] [ae,ac 1,ac 2,ac 0]) rfl (eF rfl T.gY (fR (bg (pv 0) rfl))) (λ_ _ _ _=>by exact (gS 0 XN)) (λ_ _ _ _=>by exact jk) (λ_ _ _ _=>by exact (cG (aaM T) O T.VW (nO (pv 3) (pv 1) (pv 2) (pv 0)))))),4;left;exists 1,p,_,U,31,X,T.gp,T.ow,2,(ns.length:Int),266,λu a=>?_;refine eX (n:=((ns.length:Int)).toNat) (λi l m=>l.length=i/\∀(j:Nat) v,l[j]?=ac v->wV K m v (A6 (bA ns B d G C A) R j)) a uw k7 ⟨2,λj v e=>by simp at e⟩ ?_ ?_;rintro i l m N g r ⟨o,f⟩ x Y ⟨rfl,rfl⟩;exists 88,p,L,V,c,b,ns,B,d,G,C,A,R,i,by rw[dQ];rfl,D.mono g,g.seq hC,s.mono g,6,M,y,λv Z q J=>?_;refine dF a N (g.trans q) (q _ _ r) (by rw[o];exact b9 ∅) ⟨by rw[av,o];rfl,λj w e=>?_⟩;refine wV.lst (q _ _ r) ?_;rcases CL e with z|⟨S,I⟩;exact (f j w z).mono q;rw[S,I,o];exact J;rintro l m g r ⟨o,f⟩;exact k u m g a ⟨l,r,6,f⟩
inductive V3(K:ai)(C:am)(vs:List V)(H:Hp)(Q:VK)(E:XK):Prop
 |mk(p ln lr c b:am)(ns:List Int)(rs:List R5)(live:List Nat)(nd:ns.Nodup)(ok:∀r∈rs,r.Ok (wL ns))(hl:∀k∈live,k<wL rs)(R:Nat->RM.Row):vs=[.ref p,.ref c,.ref b]->dN K C H p ln lr ns rs->bI K H c (aT live)->zf K H b (wL ns) R->wL ns<=12->wL rs<=20->zg (wL ns) (wL rs) R->(∀l os H',aG H H'->H l=ae->H' l=ac (.lst (aT os))->ie (bA ns rs live nd ok hl) R os->wL os<=12->Q (.ref l) H')->V3 K C vs H Q E
theorem R4{t:Ad}(T:Txt K mg t):cH P w K mg base iJ 5 t.zB t.Jx ["town","live","rows"] (V3 K t.be):=by refine T.FE.F.jv Rp λH Q E hr h=>?_;·obtain⟨p,ln,lr,c,b,ns,M,a,U,N,V,R,rfl,hT,hC,J,X,tM,W,k⟩:=h;exists _,(oR (cB A7 T.FL boot_sorted (fR (fE (kO Rp ["up"] [ae]) rfl (eW (cG (agH T) hr T.aeK (Ic (pv 0) (pv 1) (pv 2)))) (λ_ _ _ _=>by exact (gS 0 Rq)) (λ_ _ _ _=>by exact (jM (qT E3 (pv 0) kr))) (λ_ _ _ _=>by exact (yT K (pv 0) aA)))))),4;left;exists 18,p,ln,lr,c,b,ns,M,a,U,N,V,R,2,hT,hC,J,X,tM,W,λlu H2 s2 asZ hO=>?_;obtain⟨Z,f,evs,I⟩:=hO;exists lu,2,⟨_,bI.of f⟩,λO j=>?_;refine eX (n:=Z.length) (λi S _=>∃d:List Nat,S=aT d/\wL d<=i/\d.Nodup/\∀k,k∈d↔∃h g,h<i/\RM.qo (bA ns M a U N V) R k h g) j (wU (bI.of f)) (mR (bI.of f)) ⟨[],2,aS _,jh,λk=>⟨λz=>ff z (-_),λ⟨_,_,z,_⟩=>ff z (um _)⟩⟩ ?_ ?_;(rintro i S H3 D r C ⟨d,rfl,Y,G,u⟩ y H4 ⟨rfl,hv⟩;have x:=hv _ (r.seq (bI.of f));rw[aa D] at x;cases x;have o:=(I i _ (aa D)).mono r;generalize Z[i]=v at o;cases s:A6 (bA ns M a U N V) R i with|none=>rw[s] at o;have o:v=.gk:=o;subst o;exists 10,e9 ?_;refine gU D r C ⟨d,26,G,λk=>(u k).trans ⟨λ⟨h,g,z,t⟩=>⟨h,g,6,t⟩,λ⟨h,g,z,t⟩=>⟨h,g,4,t⟩⟩⟩;by_cases e:h=i;subst e;rw[vQ.mpr t] at s;cases s;lia|some q=>rw[s] at o;obtain⟨t1,rfl,ht⟩:=o;have m:=(vQ (k:=q.1) (g:=q.2)).mp s;exists 10,fY ?_;exists 1,t1,_,(0),12,ht,24;refine dF j D r C (by rw[af];exact b9 ∅) ⟨d++[q.1],by rw[gy],by rw[av];exact kM Y 1,Gr.ux G λz=>?_,λk=>?_⟩;obtain⟨h,g,z1,t⟩:=(u _).mp z;have:=(t.one m).1;lia;rw[bU,bV,u];constructor;rintro (⟨h,g,z,t⟩|rfl);exists h,g,6,t;exists i,q.2,6,m;rintro⟨h,g,z,t⟩;by_cases e:h=i;subst e;exact .inr (t.uniq m).1;exact .inl ⟨h,g,6,t⟩);rintro S H3 r C ⟨d,rfl,Y,G,u⟩;exists O,d.map λk:Nat=>(k:Int),2,bI.of (by rw[C,eU]),by rw[af];lia,λl ms hl A pw=>?_;obtain⟨os,L,o1,o2,o3⟩:=Q6 A pw G;rw[L];have B:=s2.trans r;refine k l os _ (B.trans (aG.new hl)) (B.free hl) au ⟨o1,λk=>?_⟩ ∅;rw[o2,u];constructor;rintro⟨h,g,_,t⟩;exists h,g,t;rintro⟨h,g,t⟩;have:h<wL ns:=(qo.lt t).1;exists h,g,6,t
theorem NZ{p:Nat->Bool}{xs:List Nat}{i:Nat}(a:i<wL xs):(xs.take (i+1)).filter p=(xs.take i).filter p++if p xs[i] then [xs[i]] else []:=by rw[kE a,eO];congr 1;cases e:p xs[i];rw[e8 (!_),dX (by rw[e];decide)];rfl;rw[eL rfl,dU e];rfl
inductive R6(K:ai)(C:am)(vs:List V)(H:Hp)(Q:VK)(E:XK):Prop
 |mk(p ln lr c b:am)(ns:List Int)(rs:List R5)(live:List Nat)(nd:ns.Nodup)(ok:∀r∈rs,r.Ok (wL ns))(hl:∀k∈live,k<wL rs)(R:Nat->RM.Row)(h:Int):vs=[.ref p,.ref c,.ref b,.int h]->dN K C H p ln lr ns rs->bI K H c (aT live)->zf K H b (wL ns) R->wL ns<=12->wL rs<=20->zg (wL ns) (wL rs) R->(∀l os H',aG H H'->H l=ae->H' l=ac (.lst (aT (os.filter (isAt rs h))))->ie (bA ns rs live nd ok hl) R os->wL os<=12->Q (.ref l) H')->R6 K C vs H Q E
theorem U3{t:Ad}(T:Txt K mg t):cH P w K mg base iJ 6 t.yr t.CP ["town","live","rows","house"] (R6 K t.be):=by refine T.NB.F.jv Eg λH Q E X h=>?_;·obtain⟨p,U,Y,c,b,W,rs,j,nd,ok,S,R,x,rfl,G,hC,D,O,V,M,k⟩:=h;exists _,(aq (sS 4 Eg (cM (pv 0) T.gp T.nM (qM T) X (fR (pv 3)))) (oR (fE (kO Eg ["rope","joined"] [ae,ac 4]) rfl (eW (CH (R4 T) (X.mono (!_)) rfl T.BI T.FE.F.kp T.FE.B .nil kH (Ic (pv 0) (pv 1) (pv 2)))) (λ_ _ _ _=>by exact (gS 0 Mn)) (λ_ _ _ _=>by exact (jM (iU (ze K rfl) (pv 0) (pv 1) (by with_unfolding_all rfl)))) (λ_ _ _ _=>by exact (pv 0))))),4;left;obtain⟨⟨dx,hp⟩,_⟩:=id G;exists 1,p,dx,1,hp,21,p,U,Y,W,rs,x,2,G,V,λZ H1 m as3 YK=>?_;exists 18,p,U,Y,c,b,W,rs,j,nd,ok,S,R,2,G.mono m,m.seq hC,D.mono m,O,V,M,λlo os H2 v R7 d l C=>?_;have s:=v _ _ YK;have u:∀k∈os,decide (k∈YD rs x (wL rs))=isAt rs x k:=λk hk=>(by obtain⟨h,g,t⟩:=(l.2 k).mp hk;have I:k<wL rs:=S k t.CI.1;by_cases z:isAt rs x k=ag;rw[z];exact fy (CK.mpr ⟨I,z⟩);rw[Bool.not_eq_true] at z;rw[z];refine gn λy=>?_;rw[(CK.mp y).2] at z;cases z);exists lo,2,⟨_,bI.of d⟩,λL a=>?_;refine eX (n:=(aT os).length) (λi N _=>N=aT ((os.take i).filter (isAt rs x))) a (wU (bI.of d)) (mR (bI.of d)) rfl ?_ ?_;(·rintro i N H3 r f o rfl y H4 ⟨rfl,q⟩;have q:=q _ (f.seq (bI.of d));have e:i<wL os:=(by rw[af] at r;exact r);rw[ak,aa e] at q;cases q;exists 8,Z,1,.inl (bI.of (f _ _ s)),2,kh _,14;(try dsimp only);rw[e8 aH,yg,u _ (aP e)];refine iW (λJ=>?_) (λJ=>?_);exists 14;refine dF a r f o ?_ ?_;rw[af];refine b9 (aJ (aR _ _) ?_);rw[b6];lia;rw[NZ e,eL J,gy];refine gU r f o ?_;rw[NZ e,e8 J,b5]);rintro N H3 f o rfl;rw[af,cQ] at o;have A:=(m.trans v).trans f;exact k L os _ A ((m.trans v).free a) o l C
inductive aaN(K:ai)(C:am)(vs:List V)(H:Hp)(Q:VK)(E:XK):Prop
 |mk(p ln lr:am)(ns:List Int)(rs:List R5)(i:Nat)(r:R5)(g:Nat)(z:Int):vs=[.ref p,.int i,.int g]->dN K C H p ln lr ns rs->rs[i]?=ac r->([1,2,4]:List Int)[g]?=ac z->Q (.bl (!decide (Builtin.bitAnd r.e z=0))) H->aaN K C vs H Q E
theorem Gg{t:Ad}(T:Txt K mg t):cH P w K mg base iJ 1 t.rO t.vY ["self","rope","group"] (aaN K t.be):=by refine T.BG.F.jv Pk λH Q E C h=>?_;·obtain⟨p,x,n,ns,y,i,r,g,z,rfl,f,c,o,k⟩:=h;obtain⟨⟨m,s⟩,A,B,a,u⟩:=id f;obtain⟨v,b,hD⟩:=u.get (i:=i) (d:=r.D) (by rw[ak,c];rfl);obtain⟨q,e,l⟩:=Rep.A3 (ns:=r.ns) hD;subst e;exists _,(oR (qE rJ (bf Zf (xT (xL (bg (pv 0) rfl) (pv 1)) aA) (xT (nv rfl T.mw (v:=.ref t.fG) rfl) (pv 2))) aA)),4;left;exists 1,p,_,m,31,s,T.gp,T.iS,21,n,39,bI.of a,bO b,4;exists q,39,l,24;have j:([.int 1,.int 2,.int 4]:List V)[g]?=ac (.int z):=(by have e:([.int 1,.int 2,.int 4]:List V)=([1,2,4]:List Int).map cn:=rfl;rw[e,ak,o];rfl);exists 172,T.gF H,bO j,924;have e:decide (cn (Builtin.bitAnd r.e z)=cn 0)=decide (Builtin.bitAnd r.e z=0):=-_;rw[e];exact k
inductive Oa(K:ai)(C:am)(vs:List V)(H:Hp)(Q:VK)(E:XK):Prop
 |mk(p ln lr:am)(ns:List Int)(rs:List R5)(i:Nat)(r:R5):vs=[.ref p,.int i]->dN K C H p ln lr ns rs->rs[i]?=ac r->Q (.int r.d) H->Oa K C vs H Q E
theorem IG{t:Ad}(T:Txt K mg t):cH P w K mg base iJ 2 t.uN t.zD ["town","rope"] (Oa K t.be):=by refine T.El.F.jv Rr λH Q E l h=>?_;·obtain⟨p,c,j,e,d,i,r,rfl,b,f,k⟩:=h;obtain⟨⟨g,m⟩,_⟩:=id b;exists _,(oR (xT (cM (pv 0) T.gp T.BF (Gf T) l (fR (pv 1))) aA)),4;left;exists 1,p,g,1,m,21,p,c,j,e,d,i,r,2,b,f,λq a=>?_;have a:cD K H q r.vs:=a.elim cD.of id;exists q,39,a,2,k
inductive LD(K:ai)(CT C NW:am)(vs:List V)(H:Hp)(Q:VK)(E:XK):Prop
 |mk(p tp lu ln lr:am)(ns:List Int)(rs:List R5)(ws:List (List Nat))(i:Int):vs=[.ref p,.int i]->dN K CT H tp ln lr ns rs->vR C H p tp lu ws->wL ws=rs.length->(∀(j:Nat)w l H',i=(j:Int)->ws[j]?=ac w->aG H H'->H l=ae->H' l=ac (.lst (aT w))->Q (.ref l) H')->(¬(0<=i/\i<wL rs)->E (.ref NW) ae H)->LD K CT C NW vs H Q E
theorem mO{t:Ad}(T:Txt K mg t):cH P w K mg base (Gx P w) 1 t.iN t.jQ ["self","rope"] (LD K t.be t.c8 t.yC):=by refine T.fK.F.XJ Di λH Q E G h=>?_;·obtain⟨p,C,y,I,M,J,rs,m,i,rfl,B,v,L,k,q⟩:=h;obtain⟨⟨r,s⟩,a,A,u,e⟩:=id v;obtain⟨⟨x,c⟩,_⟩:=id B;exists _,(aq (cC (jg (jZ rK oO aA (pv 1) (bg (bg (pv 0) rfl) rfl))) (bz (Fe rfl T.KQ T.KR G.hd fH)) bw) (oR (gx gC (by rfl) T.sM boot_list (fR (xL (bg (pv 0) rfl) (pv 1)))))),4;left;exists 1914;by_cases f:0<=i;(case neg=>rw[gn f];exact e9 ⟨1,fY (q λz=>f z.1)⟩);rw[fy f];refine fY ?_;exists 1,p,_,r,31,s,T.fj,T.lM,2,C,_,x,31,c,T.gp,T.wB,2914;by_cases g:i<(rs.length:Int);(case neg=>rw[gn g];exact fY (q λz=>g z.2));rw[fy g];refine e9 ?_;obtain⟨j,rfl⟩:∃j:Nat,i=(j:Int):=⟨i.toNat,6⟩;have D:j<wL m:=∅;have b:m[j]?=ac m[j]:=aa D;have n:a[j]?=ac a[j]:=aa ∅;have d:yb (a.map cr) (j:Int)=ac (.ref a[j]):=bO (by rw[ak,n];rfl);exists 1,p,_,r,31,s,T.fj,T.gX,21,y,39,bI.of A,d,a[j],1,.inl (bI.of (e j _ _ n b)),λl o=>?_;exact k j _ l _ rfl b (aG.new o) o au
inductive V4(K:ai)(CT C NW:am)(vs:List V)(H:Hp)(Q:VK)(E:XK):Prop
 |mk(p tp lu ln lr:am)(ns:List Int)(rs:List R5)(ws:List (List Nat))(i x:Int):vs=[.ref p,.int i,.int x]->dN K CT H tp ln lr ns rs->vR C H p tp lu ws->wL ws=rs.length->(∀w∈ws,wL w<=4)->(∀(j k:Nat)w(ls:List am)(q:am)H',i=(j:Int)->x=(k:Int)->ws[j]?=ac w->k∈w->H lu=ac (.lst (ls.map cr))->H q=ae->H' q=ac (.lst (aT (w.filter λz=>decide (z≠k))))->H' lu=ac (.lst ((ls.map cr).set j (.ref q)))->(∀b o,H b=ac o->b≠lu->H' b=ac o)->Q (.bl (w.filter λz=>decide (z≠k)).isEmpty) H')->(¬(0<=i/\i<wL rs)->E (.ref NW) ae H)->(∀(j:Nat)w H',i=(j:Int)->ws[j]?=ac w->(∀k∈w,x≠(k:Nat))->aG H H'->E (.ref NW) ae H')->V4 K CT C NW vs H Q E
theorem Jg{t:Ad}(T:Txt K mg t):cH P w K mg base (Gx P w) 2 t.lG t.pP ["self","rope","wire"] (V4 K t.be t.c8 t.yC):=by refine T.uY.F.XJ sH λH Q E hr h=>?_;·obtain⟨p,tp,C,ln,lr,ns,rs,ws,i,x,rfl,hT,hW,ew,h4,k,kx,ky⟩:=h;obtain⟨⟨dx,hp⟩,M,Qz,els,hls⟩:=id hW;exists _,(aq (sS 3 sH (qQ (pv 0) T.fj T.fK.m (mO T) (hr.mono (!_)) T.fK.B .nil VI (fR (pv 1)))) (aq (cC (iU lW (pv 2) (pv 3) (by with_unfolding_all rfl)) (bz (Fe rfl T.KQ T.KR hr.hd fH)) bw) (aq (wR (fE (kO sH ["each","wire"] [ae,ac 2]) rfl (eW (pv 3)) (λ_ _ _ _=>by exact (gS 0 Eh)) (λ_ _ _ _=>by exact (jM (qT rJ (pv 0) (pv 1)))) (λ_ _ _ _=>by exact (pv 0))) (GB (bg (pv 0) rfl) (pv 1) set_list)) (oR (qE zd (xL (bg (pv 0) rfl) (pv 1)) (fX gM)))))),4;left;exists 1,p,dx,1,hp,21,p,tp,C,ln,lr,ns,rs,ws,i,2,hT,hW,ew,λj c l H1 ej N s1 Me hl=>?_,kx;subst ej;have hjl:=(aj.mp N).1;have w4:=h4 _ (ay N);exists 8,l,1,.inl (bI.of hl),2,kh c,14;(try dsimp only);rw[eL rfl,eU,ly];by_cases O:x∈c.map λk:Nat=>(k:Int);(case neg=>rw[gn O];exact fY (ky j c H1 rfl N (λz D e=>O (bH.mpr ⟨z,D,e.symm⟩)) s1));rw[fy O];refine e9 ?_;obtain⟨g,hkk,rfl⟩:=bH.mp O;exists 1,l,2,⟨_,bI.of hl⟩,λd f=>?_;have hC:=bI.of (K:=K) hl;refine eX (n:=(aT c).length) (λi ys _=>ys=aT ((c.take i).filter λz=>decide (z≠g))) f (wU hC) (mR hC) rfl ?_ ?_;rintro i ys H2 U L u rfl y S ⟨rfl,R⟩;have R:=R _ (L.seq hC);have hi':i<wL c:=(by rw[af] at U;exact U);have G:c[i]?=ac c[i]:=aa hi';rw[ak,G] at R;cases R;exists 804;have et:c.take (i+1)=c.take i++[c[i]]:=(by rw[gv,G];rfl);by_cases D:c[i]=g;have Z:decide (cn (c[i]:Nat)=cn (g:Nat))=ag:=fy (by rw[D]);rw[Z];refine e9 (gU U L u ?_);rw[et,eO,D];simp;have Z:decide (cn (c[i]:Nat)=cn (g:Nat))=al:=gn λq=>D (by have:=V.int.inj q;lia);rw[Z];refine fY ⟨1,dF f U L u ?_ ?_⟩;rw[af];have:=aR (λz=>decide (z≠g)) (c.take i);rw[b6] at this;exact b9 ∅;rw[et,eO,<- gy];simp[D];rintro ys H2 L u rfl;rw[af,cQ] at u;have s:=s1.trans L;have v:=s _ _ Qz;have hp2:=s _ _ hp;have YK:j<wL M:=∅;exists 1,p,_,dx,31,hp2,T.fj,T.gX,21,C,33,j,22,v,(by rw[af];exact tP YK),4;have hW2:=hW.mono s;generalize I:upd H2 C (.lst ((M.map cr).set j (.ref d)))=S;have k3:∀b o,H2 b=ac o->b≠C->S b=ac o:=λb o e nb=>(by rw[<- I,aI nb];exact e);have A:S C=ac (.lst ((M.map cr).set j (.ref d))):=(by rw[<- I];exact au);have X:=hW2.put v u hjl k3 A;have J:S d=ac (.lst (aT (c.filter λz=>decide (z≠g)))):=k3 _ _ u (oN u v λz=>yh (aa YK) (HO.lst.inj z));obtain⟨⟨YL,Y⟩,_⟩:=id X;exists 1,p,_,YL,31,Y,T.fj,T.gX,21,C,33,cr d,22,bI.of A,bO (by rw[bE,eL rfl,eL (by rw[af];exact YK)]),aS _,λq hq=>?_;have W:=aG.new (o:=.lst []) hq;exists .list (((c.filter λz=>decide (z≠g)).map λk:Nat=>(k:Int)).map .int),.list [],⟨d,1,bI.of (W _ _ J),(by rw[eU];exact kZ _)⟩,⟨q,1,bI.of au,2⟩,ic _,2,dh (fm (aJ (Nat.min_le_right _ _) (!_)) _) hr.units,4;have z:=k j g c M d _ rfl rfl N hkk Qz (s1.free f) (W _ _ J) (W _ _ A) (λb o e nb=>W _ _ (k3 _ _ (s _ _ e) nb));cases e:c.filter λz=>decide (z≠g) with|nil=>rw[e] at z;exact z|cons a r=>rw[e] at z;exact z
inductive V5(NG:am)(vs:List V)(H:Hp)(Q:VK)(E:XK):Prop
 |mk(g:Int):vs=[.int g]->(0<=g/\g<3->Q .gk H)->(¬(0<=g/\g<3)->E (.ref NG) ae H)->V5 NG vs H Q E
theorem vI{t:Ad}(T:Txt K mg t):cH P w K mg base (Gx P w) 1 t.m7 t.rC ["group"] (V5 t.C2):=by refine T.fW.F.XJ Kv λH Q E d h=>?_;·obtain⟨g,rfl,k,c⟩:=h;exists _,(bz (cC (jg (jZ rK oO aA (pv 0) (lS T.fV (nv rfl T.mw (v:=.ref t.fG) rfl)))) (bz (Fe rfl T.XU T.XW d.hd fH)) bw)),4;left;exists 1914;by_cases a:0<=g;(case neg=>rw[gn a];exact e9 ⟨1,fY (c λz=>a z.1)⟩);rw[fy a];refine fY ?_;exists 31,.inr (T.gF H),914;by_cases b:g<3;(case neg=>have e:decide (g<((([.int 1,.int 2,.int 4]:List V).length:Nat):Int))=al:=gn b;rw[e];exact fY (c λz=>b z.2));have e:decide (g<((([.int 1,.int 2,.int 4]:List V).length:Nat):Int))=ag:=fy b;rw[e];exact e9 (k ⟨a,b⟩)
inductive aaO(K:ai)(CT C NG:am)(vs:List V)(H:Hp)(Q:VK)(E:XK):Prop
 |mk(p tp lu ln lr:am)(ns:List Int)(rs:List R5)(ws:List (List Nat))(g:Int):vs=[.ref p,.int g]->dN K CT H tp ln lr ns rs->vR C H p tp lu ws->wL ws=rs.length->wL rs<=20->(∀r∈rs,1<=r.e/\r.e<=7)->(∀(gg:Nat)l H',g=(gg:Int)->gg<3->aG H H'->H l=ae->H' l=ac (.lst (aT (wW rs ws gg (wL rs))))->Q (.ref l) H')->(¬(0<=g/\g<3)->E (.ref NG) ae H)->aaO K CT C NG vs H Q E
theorem Jh{t:Ad}(T:Txt K mg t):cH P w K mg base (Gx P w) 2 t.lH t.pQ ["self","group"] (aaO K t.be t.c8 t.C2):=by refine T.uZ.F.XJ Az λH Q E U h=>?_;·obtain⟨p,u,lu,Z,lr,ns,rs,d,g,rfl,O,X,ew,tM,Y,k,kx⟩:=h;obtain⟨⟨I,L⟩,y,Qz,W,v⟩:=id X;obtain⟨⟨N,j⟩,_⟩:=id O;exists _,(aq (eE (CH (vI T) (U.mono (!_)) rfl T.fW.g T.fW.F.kp T.fW.B .nil VI (fR (pv 1)))) (oR (fE (kO Az ["rope","group","self"] [ae,ac 1,ac 0]) rfl (eF rfl T.gY (fR (bg (bg (pv 0) rfl) rfl))) (λ_ _ _ _=>by exact (gS 0 Ei)) (λ_ _ _ _=>by exact (jM (PW.pt (wQ (Xv K rfl (yL K (Jr K rfl (pv 2) rfl) (pv 0)) (λ_=>rfl)) (tO (ku (cM (Jr K rfl (pv 2) rfl) T.gp T.BG (Gg T) U (kN (pv 0) (pv 1))))))))) (λ_ _ _ _=>by exact (pv 0))))),4;left;exists 1,g,2,λhg=>?_,kx;obtain⟨a,rfl⟩:∃a:Nat,g=(a:Int):=⟨g.toNat,6⟩;have o:a<3:=∅;obtain⟨z,S⟩:=ajf o;exists 1,p,_,I,31,L,T.fj,T.lM,2,u,_,N,31,j,T.gp,T.wB,21,(by show -(2^62)<=((rs.length:Nat):Int);lia),(by show ((rs.length:Nat):Int)<2^62;lia),λC c=>?_;refine eX (n:=(((rs.length:Nat):Int)).toNat) (λi J _=>J=aT (wW rs d a i)) c uw k7 rfl ?_ ?_;(rintro i J M s b r rfl x H3 ⟨rfl,rfl⟩;have D:i<wL rs:=(by simpa using s);have G:rs[i]?=ac rs[i]:=aa D;have l:d[i]?=ac d[i]:=aa ∅;have m:y[i]?=ac y[i]:=aa ∅;have QA:(aT (wW rs d a i)).length<bc:=(by rw[af];exact b9 (by have:=Um rs d a i;lia));have A:isLive rs d a i=((!(d[i]).isEmpty)&&lz (rs[i]).e a):=(by unfold isLive;rw[G,l]);exists 1,p,_,I,31,b _ _ L,T.fj,T.gX,21,lu,33,cr y[i],22,bI.of (b _ _ Qz),(by rw[dQ];exact bO (by rw[ak,m];rfl)),4;exists !(aT d[i]).isEmpty,44;exact .inl ⟨_,bI.of (b _ _ (v i _ _ m l)),2⟩;cases f:d[i] with|nil=>refine e9 (gU s b r ?_);rw[A8,A,f];simp|cons y0 r0=>(refine fY ?_;exists 1,p,_,I,31,b _ _ L,T.fj,T.lM,2,u,N,1,b _ _ j,28,u,Z,lr,ns,rs,i,rs[i],a,z,(by show [cr u,cn (0+(i:Int)),cn (a:Nat)]=_;rw[dQ]),O.mono b,G,S,14;have q:=Y _ (ay G);rw[Q7 q.1 q.2 S];cases R:lz rs[i].e a with|true=>refine fY ⟨1,dF c s b r QA ?_⟩;rw[A8,A,f,R,dQ];exact (gy _ _).symm|false=>refine e9 (gU s b r ?_);rw[A8,A,f,R];simp));rintro J M b r rfl;exact k a C M rfl o b c (by rw[r,cN])
inductive V6(K:ai)(vs:List V)(H:Hp)(Q:VK)(E:XK):Prop
 |mk (p C dx:am) (s:Int):vs=[.ref p,.int s]->H p=ac (.ins C dx [])->Mc K C->d7 K C "sender" -> Q .gk (upd H p (.ins C dx [("sender",.int s)]))->V6 K vs H Q E
theorem yN{t:Ad}(T:Txt K mg t):cH P w K mg base iJ 1 t.fF t.nB ["self","sender"] (V6 K):=by refine T.sJ.F.jv GZ λH Q E f h=>?_;·obtain⟨p,C,d,e,rfl,b,a,c,k⟩:=h;exists _,(bz (gK (pv 0) (pv 1) rfl)),4;left;exists 8,p,C,d,[],2,b,a,c,!_,k
inductive R8(vs:List V)(H:Hp)(Q:VK)(E:XK):Prop
 |mk(p:am)(c:Int):vs=[.ref p,.int c]->Q (.bl al) H->R8 vs H Q E
theorem Ji{t:Ad}(T:Txt K mg t):cH P w K mg base iJ 1 t.lB t.pK ["self","caller"] R8:=by refine T.BD.F.jv IW λH Q E a h=>?_;obtain⟨p,c,rfl,k⟩:=h;exists _,oB,k
inductive R9(vs:List V)(H:Hp)(Q:VK)(E:XK):Prop
 |mk(p:am):vs=[.ref p]->Q .gk H->R9 vs H Q E
theorem AL{t:Ad}(T:Txt K mg t):cH P w K mg base iJ 1 t.iM t.pL ["self"] R9:=by refine T.pT.F.jv IX λH Q E a h=>?_;obtain⟨p,rfl,k⟩:=h;exists _,(oR kr),k
inductive C4(K:ai)(vs:List V)(H:Hp)(Q:VK)(E:XK):Prop
 |mk (p C dx:am) (s:Int):vs=[.ref p]->H p=ac (.ins C dx [("sender",.int s)])->Mc K C->d7 K C "sender" -> Q (.int s) H->C4 K vs H Q E
theorem yO{t:Ad}(T:Txt K mg t):cH P w K mg base iJ 1 t.gZ t.nC ["self"] (C4 K):=by refine T.nL.F.jv G0 λH Q E f h=>?_;obtain⟨p,C,d,e,rfl,b,a,c,k⟩:=h;exists _,(oR (bg (pv 0) rfl)),1,p,C,d,31,b,a,c,2,k
inductive Ob(C:am)(vs:List V)(H:Hp)(Q:VK)(E:XK):Prop
 |mk (p dx:am) (s to:Int):vs=[.ref p,.int s,.int to]->H p=ac (.ins C dx [])->(∀H',H' p=ac (.ins C dx [("sender",.int s),("to",.int to)])->(∀b o,H b=ac o->b≠p->H' b=ac o)->Q .gk H')->Ob C vs H Q E
theorem Jj{t:Ad}(T:Txt K mg t):cH P w K mg base iJ 2 t.lD t.pM ["self","sender","to"] (Ob t.gW):=by refine T.BE.F.jv IY λH Q E f h=>?_;·obtain⟨p,a,d,i,rfl,g,k⟩:=h;exists _,(aq (eE (Uo (nv rfl T.aak (v:=.ref t.jB) rfl) T.Hg (yN T) (f.mono (!_)) T.sJ.B .nil kH (kN (pv 0) (pv 1)))) (bz (gK (pv 0) (pv 2) rfl))),4;left;exists 28,p,t.gW,a,d,2,g,T.rG,T.vc,4;exists 8,p,t.gW,a,1,au,T.rG,T.zQ,(by show 1<1000;decide),4;rw[eS (names:=["sender"]) rfl (by decide +kernel)];exact k _ au λb o e c=>(by rw[aI c,aI c];exact e)
inductive Sa(C:am)(vs:List V)(H:Hp)(Q:VK)(E:XK):Prop
 |mk (p dx:am) (s to c:Int):vs=[.ref p,.int c]->H p=ac (.ins C dx [("sender",.int s),("to",.int to)])->Q (.bl (decide (cn c=cn to))) H->Sa C vs H Q E
theorem LF{t:Ad}(T:Txt K mg t):cH P w K mg base iJ 1 t.mV t.qW ["self","caller"] (Sa t.gW):=by refine T.Dt.F.jv Km λH Q E f h=>?_;obtain⟨p,b,e,d,c,rfl,a,k⟩:=h;exists _,(oR (qE kU (pv 1) (bg (pv 0) rfl))),8,p,_,b,31,a,T.rG,T.zQ,22,k
inductive Sb(C:am)(vs:List V)(H:Hp)(Q:VK)(E:XK):Prop
 |mk (p dx:am) (s to:Int):vs=[.ref p]->H p=ac (.ins C dx [("sender",.int s),("to",.int to)])->Q (.int to) H->Sb C vs H Q E
theorem LG{t:Ad}(T:Txt K mg t):cH P w K mg base iJ 1 t.mW t.qX ["self"] (Sb t.gW):=by refine T.xx.F.jv Kn λH Q E e h=>?_;obtain⟨p,a,d,c,rfl,b,k⟩:=h;exists _,(oR (bg (pv 0) rfl)),1,p,_,a,31,b,T.rG,T.zQ,2,k
inductive HE(C:am)(vs:List V)(H:Hp)(Q:VK)(E:XK):Prop
 |mk (p dx:am) (s to:Int):vs=[.ref p]->H p=ac (.ins C dx [("sender",.int s),("to",.int to)])->Q (.int (s+to+1)) H->HE C vs H Q E
theorem Jk{t:Ad}(T:Txt K mg t):cH P w K mg base iJ 1 t.lE t.pN ["self"] (HE t.gW):=by refine T.uX.F.jv IZ λH Q E e h=>?_;obtain⟨p,a,d,c,rfl,b,k⟩:=h;exists _,(oR (bf gm (bf gm (bg (pv 0) rfl) (bg (pv 0) rfl)) aA)),1,p,_,a,31,b,T.rG,T.vc,21,p,_,a,31,b,T.rG,T.zQ,299,k
inductive Sd(C:am)(vs:List V)(H:Hp)(Q:VK)(E:XK):Prop
 |mk(p dx:am)(s c:Int):vs=[.ref p,.int c]->H p=ac (.ins C dx [("sender",.int s)])->Q (.bl (!decide (cn c=cn s))) H->Sd C vs H Q E
theorem LI{t:Ad}(T:Txt K mg t):cH P w K mg base iJ 1 t.mX t.qY ["self","caller"] (Sd t.jU):=by refine T.Du.F.jv Ko λH Q E e h=>?_;obtain⟨p,a,d,c,rfl,b,k⟩:=h;exists _,(oR (qE rJ (pv 1) (bg (pv 0) rfl))),8,p,_,a,31,b,T.zR,T.pW,22,k
inductive V7(C:am)(vs:List V)(H:Hp)(Q:VK)(E:XK):Prop
 |mk(p dx:am):vs=[.ref p]->H p=ac (.ins C dx [])->(∀d H',H d=ae->sj C H' p d []->(∀b o,H b=ac o->b≠p->H' b=ac o)->Q .gk H')->V7 C vs H Q E
theorem LJ{t:Ad}(T:Txt K mg t):cH P w K mg base iJ 1 t.mT t.qU ["self"] (V7 t.fT):=by refine T.xu.F.jv Kf λH Q E i h=>?_;·obtain⟨p,f,rfl,c,k⟩:=h;exists _,(bz (gK (pv 0) A0 rfl)),4;left;refine λd a=>⟨1,p,t.fT,f,[],24,T.zT,T.rX,!_,?_⟩;rw[aI (aC c a)];exact c;refine k d _ a ⟨⟨f,au⟩,4⟩ λb o e g=>?_;rw[aI (aC c a).symm];exact au;rw[aI g,aI (aC e a)];exact e
inductive V8(C:am)(vs:List V)(H:Hp)(Q:VK)(E:XK):Prop
 |mk(p d:am)(ts:List T3)(h c r:Int):vs=[.ref p,.int h,.int c,.int r]->sj C H p d ts->wL ts<10000->(∀H',H' d=ac (.dT (putK (ts.map eY) (keyOf h c) (.int r)))->(∀b o,H b=ac o->b≠d->H' b=ac o)->Q .gk H')->V8 C vs H Q E
theorem ML{t:Ad}(T:Txt K mg t):cH P w K mg base iJ 1 t.pB t.tT ["self","house","caller","rope"] (V8 t.fT):=by refine T.FA.F.jv Mj λH Q E n h=>?_;·obtain⟨p,d,g,f,s,r,rfl,⟨⟨j,q⟩,a⟩,i,k⟩:=h;exists _,(bz (OW (HX n) (bg (pv 0) rfl) (dY (kN (pv 1) (pv 2))) (pv 3) rfl)),4;left;exists 8,p,t.fT,j,31,q,T.zT,T.rX,28,jD,λb c=>?_;have m:d≠b:=aC a c;exists d,1,OU.t (k:=keyOf f s) (kvs:=g.map eY) (by rw[aI m];exact a) au (by rw[af];exact Nat.lt_trans i (by show 10000<2^24;decide)),4;exact k _ au λx o e l=>(by rw[aI l,aI (aC e c)];exact e)
inductive V9(C:am)(vs:List V)(H:Hp)(Q:VK)(E:XK):Prop
 |mk(p d:am)(ts:List T3)(h c:Int):vs=[.ref p,.int h,.int c]->sj C H p d ts->(∀H',aG H H'->Q (((oU ts h c).map cn).getD .gk) H')->V9 C vs H Q E
theorem MM{t:Ad}(T:Txt K mg t):cH P w K mg base iJ 1 t.pC t.tU ["self","house","caller"] (V9 t.fT):=by refine T.FD.F.jv Ml λH Q E j h=>?_;·obtain⟨p,d,m,a,f,rfl,⟨⟨i,l⟩,c⟩,k⟩:=h;exists _,(oR (ZD (HX j) (bg (pv 0) rfl) (dY (kN (pv 1) (pv 2))) ⟨2222⟩)),4;left;exists 1,p,t.fT,i,31,l,T.zT,T.rX,2,d,2,.inr ⟨_,.inl c⟩,8,jD,λb g=>?_;have e:=aG.new (o:=.tup [.int a,.int f]) g;exists _,DV.t (k:=keyOf a f) (e _ _ c) au,4;rw[zk];exact k _ e
inductive Wa(K:ai)(C:am)(vs:List V)(H:Hp)(Q:VK)(E:XK):Prop
 |mk(p d:am)(ts:List T3):vs=[.ref p]->sj C H p d ts->wL ts<64->(∀l(qs:List am)(us:List T3)H',aG H H'->H l=ae->H' l=ac (.lst (qs.map cr))->gP K H' qs us->us.Perm ts->CM us->Q (.ref l) H')->Wa K C vs H Q E
theorem MN{t:Ad}(T:Txt K mg t):cH P w K mg base iJ 1 t.pD t.tV ["self"] (Wa K t.fT):=by refine T.zO.F.jv Dp λH Q E hr h=>?_;·obtain⟨p,d,j,rfl,⟨⟨dx,hp⟩,C⟩,h64,k⟩:=h;exists _,(oR (cB Fi T.FL boot_sorted (fR (VN (fE (kO Dp ["noted","rope"] [ae,ae]) rfl (Rb (T7 uh PySem.F.slot_dict_items PySem.F.type_dict_items Ra (bg (pv 0) rfl))) (λ_ _ _ _=>by exact (OZ K rfl (n:=2) rfl (gJ (gS 0 yj) (gJ (gS 1 yj) za)))) (λ_ _ _ _=>by exact jk) (λ_ _ _ _=>by exact (bf (Z0 K rfl) (pv 0) (dY (fR (pv 1)))))))))),4;left;exists d,j.map eY,C,4;exists 1,p,t.fT,dx,31,hp,T.zT,T.rX,24;exists .inr (.inr (.inl ⟨2,.inr ⟨_,C⟩⟩)),d,12,C,λv hv=>?_;have W:=aG.new (o:=Dm v d) hv;have G:=au (H:=H) (a:=v) (o:=Dm v d);have D:=W _ _ C;generalize upd H v (Dm v d)=H1 at W G D;exists v,d,1,G,D,λo=>?_;intro I f;have g:=au (H:=H1) (a:=d) (o:=.AN o (.dT (j.map eY)));have U:∀{r:Hp},aG (upd H1 d (.AN o (.dT (j.map eY)))) r->aG H (upd r d (.dT (j.map eY))):=λ{r} m b u e=>(by by_cases z:b=d;subst z;rw[C] at e;cases e;exact au;rw[aI z];exact m _ _ (by rw[aI z];exact W _ _ e));generalize upd H1 d (.AN o (.dT (j.map eY)))=H2 at g U f;refine eX (n:=(j.map eY).length) (λi ys r=>∃s:List am,ys=s.map cr/\gP K r s (j.take i)) f (ZZ g) (Rc g) ⟨[],2,gP.nil⟩ ?_ ?_;rintro i ys r S m Z ⟨s,rfl,y⟩ x H4 ⟨q,kb,ky,vv,hq,rfl,rfl,B,A⟩;have J:i<wL j:=(by rw[af] at S;exact S);rw[ak,aa J] at B;cases B;generalize O:j[i]=u;have hu:j[i]?=ac u:=(by rw[aa J,O]);obtain⟨R,X,N⟩:=u;rw[O] at A;have u4:=aG.new (o:=.tup [.ref kb,.int N]) hq;exists q,1,cD.of au,23194;exists 8,Xe,λb hb=>?_;have u5:=aG.new (o:=.tup [cn N]) hb;exists kb,b,[.int R,.int X],12,cD.of (u5 _ _ (u4 _ _ A)),cD.of au,(-_),k9,λz=>(by cases z),λ_ c hc=>?_;have u6:=aG.new (o:=.tup ([cn R,.int X]++[.int N])) hc;have Y:=u4.trans (u5.trans u6);have L:=Y _ _ Z;have M:wL s=i:=(by rw[y.1,b6];lia);refine dF f S (m.trans Y) L (by rw[af];exact b9 ∅) ⟨s++[c],-_,4⟩;rw[gv,hu];exact gP.past L c7 br (gP.snoc (t:=(R,X,N)) (y.mono Y) (cD.of au));rintro ys r m Z ⟨s,rfl,y⟩;have Se:I≠d:=(aC g f).symm;rw[af,cQ] at y;exists o,m _ _ g,4;exists I,s,j,2,bI.of (by rw[aI Se];exact Z),gP.past (m _ _ g) Z3 br y,h64,λl Ur us M hp hs O=>?_;exact k l Ur us _ ((U m).trans (aG.new M)) ((U m).free M) au (O.mono (aG.new M)) hp hs
inductive Sf(C:am)(vs:List V)(H:Hp)(Q:VK)(E:XK):Prop
 |mk(p d:am)(ts:List T3):vs=[.ref p]->sj C H p d ts->(∀d' H',H d'=ae->sj C H' p d' []->(∀b o,H b=ac o->b≠p->H' b=ac o)->Q .gk H')->Sf C vs H Q E
theorem LK{t:Ad}(T:Txt K mg t):cH P w K mg base iJ 1 t.mU t.qV ["self"] (Sf t.fT):=by refine T.xw.F.jv Kg λH Q E m h=>?_;·obtain⟨p,d,j,rfl,⟨⟨f,c⟩,l⟩,k⟩:=h;exists _,(bz (gK (pv 0) A0 rfl)),4;left;refine λg a=>⟨1,p,t.fT,f,[("kept",.ref d)],24,T.zT,T.rX,(by show 1<1000;decide),4⟩;rw[aI (aC c a)];exact c;refine k g _ a ⟨⟨f,au⟩,4⟩ λb o e i=>?_;rw[aI (aC c a).symm];exact au;rw[aI i,aI (aC e a)];exact e
inductive ajG(K:ai)(C:am)(vs:List V)(H:Hp)(Q:VK)(E:XK):Prop
 |mk(bk d lo lh:am)(ts:List T3)(so bF:Option Int)(oW:Int)(os hs:List Int):vs=[.ref bk,kB so,.int oW,kB bF,.ref lo,.ref lh]->sj C H bk d ts->bI K H lo (os.map cn)->bI K H lh (hs.map cn)->wL os<=1000->(∀l H',aG H H'->H l=ae->H' l=ac (.lst ((Ju ts so oW bF os hs).map cn))->Q (.ref l) H')->ajG K C vs H Q E
theorem Sg{t:Ad}(T:Txt K mg t):cH P w K mg base iJ 2 t.uM t.zC ["book","sought","house","came","open_here","here"] (ajG K t.fT):=by
 refine T.KC.F.jv vS λH Q E hr h=>?_
 ·obtain⟨bk,d,lo,lh,I,Z,g,M,os,v,rfl,hB,G,hH,N,k⟩:=h;exists _,(aq (cC (iU oq (pv 1) (pv 5) (by with_unfolding_all rfl)) (oR (fX gM)) bw) (aq (sS 6 vS (AU (qT TH (pv 1) kr) kr (cM (pv 0) T.zT T.FD (MM T) hr (kN (pv 2) (pv 1))))) (aq (sS 7 vS (AU (iU oq (pv 6) (pv 4) (by with_unfolding_all rfl)) (fX (fR (pv 6))) (pv 4))) (oR (fE (kO vS ["rope","came"] [ae,ac 3]) rfl (eW (pv 7)) (λ_ _ _ _=>by exact (gS 0 Kh)) (λ_ _ _ _=>by exact (jM (qT rJ (pv 0) (pv 1)))) (λ_ _ _ _=>by exact (pv 0))))))),4;left;obtain⟨dx,J⟩:=hB.ob;exists 8,lh,1,.inl hH,Rg Z,qq v,14;cases Z with
  |none=>refine qh (by show Av .gk _=al;exact Fk v) ?_;exists 10,Aw (fy rfl) ?_;exists 8,lo,1,.inl G,2,qq os,1,qh (by show Av .gk _=al;exact Fk os) ?_;exists 8,lo,2,⟨_,G⟩,λc a=>?_;refine nS (j0 g) a G N (λx n R S _ q A j=>?_) (λn q i=>k c n q a i);exists 8,uA x g,14;exact iW (λe=>⟨1,A _ (aG.refl _) e⟩) (λe=>j _ (aG.refl _) (neT e))
  |some m=>
   refine iW (λe=>?_) (λe=>?_);exists aS _,λl u=>k l _ (aG.new u) u ?_;have O:m∈v:=(by have e:Av (.int m) (v.map cn)=ag:=e;rw[ly] at e;exact j9 e);show _=ac (cx (List.map cn (if m∈v then [] else _)));rw[eL O];exact au;have O:¬m∈v:=λz=>e (by show Av (.int m) (v.map cn)=ag;rw[ly];exact fy z)
   exists 10,qh (gn λz=>by cases z) ?_;exists 1,bk,dx,1,J,28,bk,d,I,M,m,2,hB,λX B=>?_;have p:∀l b,aG H b->H l=ae->b l=ac (.lst ((match oU I M m with
    |some r=>if r∈os then [r].filter (j0 g) else os.filter (j0 g)
    |none=>os.filter (j0 g)).map cn))->Q (.ref l) b:=λl b s u i=>k l b s u (by
    show _=ac (cx (List.map cn (if m∈v then [] else _)));rw[e8 O];exact i)
   have f:=B.seq G;cases Y:oU I M m with|none=>rw[Y] at p;exists 8,lo,1,.inl f,2,qq os,1,qh (by show Av .gk _=al;exact Fk os) ?_;exists 8,lo,2,⟨_,f⟩,λc a=>?_;refine nS (j0 g) a f N (λx n R S _ q A j=>?_) (λn q i=>p c n (B.trans q) (B.free a) i);exists 8,uA x g,14;exact iW (λe=>⟨1,A _ (aG.refl _) e⟩) (λe=>j _ (aG.refl _) (neT e))|some r=>rw[Y] at p;dsimp only[Option.map_some,Option.getD_some];exists 8,lo,1,.inl f,2,qq os,1,iW (λC=>?_) (λC=>?_);have y:r∈os:=(by have C:Av (.int r) (os.map cn)=ag:=C;rw[ly] at C;exact j9 C);have p:∀l b,aG H b->H l=ae->b l=ac (.lst (([r].filter (j0 g)).map cn))->Q (.ref l) b:=λl b s u i=>p l b s u (by show _=ac (cx (List.map cn (if r∈os then _ else _)));rw[eL y];exact i);exists 1,Xe,λD L=>?_;have U:=aG.new (o:=.lst [cn r]) L;have j:bI K (upd X D (.lst [cn r])) D ([r].map cn):=bI.of au;generalize upd X D (.lst [cn r])=n at U j;exists 1,D,2,⟨_,j⟩,λc a=>?_;refine nS (j0 g) a j (by show 1<=1000;decide) (λx W R S _ s3 A j=>?_) (λW s3 i=>p c W (B.trans (U.trans s3)) (B.free (U.free a)) i);exists 8,uA x g,14;exact iW (λe=>⟨1,A _ (aG.refl _) e⟩) (λe=>j _ (aG.refl _) (neT e));have y:¬r∈os:=λz=>C (by show Av (.int r) (os.map cn)=ag;rw[ly];exact fy z);have p:∀l b,aG H b->H l=ae->b l=ac (.lst ((os.filter (j0 g)).map cn))->Q (.ref l) b:=λl b s u i=>p l b s u (by show _=ac (cx (List.map cn (if r∈os then _ else _)));rw[e8 y];exact i);exists 8,lo,2,⟨_,f⟩,λc a=>?_;refine nS (j0 g) a f N (λx n R S _ q A j=>?_) (λn q i=>p c n (B.trans q) (B.free a) i);exists 8,uA x g,14;exact iW (λe=>⟨1,A _ (aG.refl _) e⟩) (λe=>j _ (aG.refl _) (neT e))
inductive Oc(K:ai)(C cL c1 cA:am)(vs:List V)(H:Hp)(Q:VK)(E:XK):Prop
 |mk(bk d la lo lh:am)(ts:List T3)(s to kd oW:Int)(bF:Option Int)(os hs:List Int):vs=[.ref bk,.ref la,.int oW,kB bF,.ref lo,.ref lh]->sj C H bk d ts->HZ cL c1 cA H la s to kd->bI K H lo (os.map cn)->bI K H lh (hs.map cn)->wL os<=1000->wL hs<=1000->(∀p l1 l2 H',aG H H'->H p=ae->H l1=ae->H l2=ae->l1≠l2->H' p=ac (.tup [.ref l1,.ref l2])->H' l1=ac (.lst ((hs.filter (D0 s to kd)).map cn))->H' l2=ac (.lst ((Ju ts (tR to kd) oW bF os hs).map cn))->Q (.ref p) H')->Oc K C cL c1 cA vs H Q E
theorem U4{t:Ad}(T:Txt K mg t):cH P w K mg base iJ 3 t.yo t.CN ["book","letter","house","came","open_here","here"] (Oc K t.fT t.jB t.gW t.jU):=by refine T.Nv.F.jv Ef λH Q E y h=>?_;·obtain⟨X,d,j,lo,J,C,G,z,kd,D,I,os,L,rfl,Y,Z,U,A,W,N,k⟩:=h;exists _,(aq (qm (i:=6) Ef.nd rfl (Or.inl rfl) (kO Ef ["caller","letter"] [ae,ac 1]) rfl (eW (pv 5)) (λ_ _ _ _=>by exact (gS 0 Mm)) (λ_ _ _ _=>by exact (jM (ku (GK (cM (pv 1) T.KO T.BD (Ji T) y (fR (pv 0))) (GK (cM (pv 1) T.rG T.Dt (LF T) y (fR (pv 0))) (cM (pv 1) T.zR T.Du (LI T) y (fR (pv 0)))))))) (λ_ _ _ _=>by exact (pv 0))) (oR (dY (kN (pv 6) (cG (Sg T) y T.KC (aN6 (pv 0) (GK (i7 (pv 1) T.KO T.pT.m (AL T) (y.mono (!_)) T.pT.B .nil kH) (GK (i7 (pv 1) T.rG T.xx.m (LG T) (y.mono (!_)) T.xx.B .nil kH) (i7 (pv 1) T.zR T.Mu (AL T) (y.mono (!_)) T.pT.B .nil kH))) (pv 2) (pv 3) (pv 4) (pv 5))))))),4;left;exists 1,J,2,⟨_,A⟩,λs q=>?_;refine nS (D0 G z kd) q A N (λx M R S _ b h1 O=>?_) (λM b hy=>?_);(have r:=Z.mono b;cases r with|bare f c=>exact .inl ⟨1,j,f,1,c,21,j,x,21,O _ (aG.refl _) rfl⟩|one f c=>refine .inr (.inl ⟨1,j,f,1,c,21,j,f,G,z,x,2,c,14⟩);exact iW (λe=>⟨1,h1 _ (aG.refl _) e⟩) (λe=>O _ (aG.refl _) (neT e))|all f c=>refine .inr (.inr ⟨1,j,f,1,c,21,j,f,G,x,2,c,14⟩);exact iW (λe=>⟨1,h1 _ (aG.refl _) e⟩) (λe=>O _ (aG.refl _) (neT e)));have r:=Z.mono b;have rest:∀g l,aG M l->M g=ae->l g=ac (.lst ((Ju C (tR z kd) D I os L).map cn))->2<=bc/\∀p,l p=ae->Q (.ref p) (upd l p (.tup [.ref s,.ref g])):=λg l n a v=>(by exists !_,λp hp=>?_;have u:=aG.new (o:=.tup [cr s,.ref g]) hp;exact k p s g _ ((b.trans n).trans u) (b.free (n.free hp)) q (b.free a) (aC hy a) au (u _ _ (n _ _ hy)) (u _ _ v));exists 84;cases r with|bare f c=>exact .inl ⟨1,j,f,1,c,2,j,288,X,d,lo,J,C,ae,I,D,os,L,2,Y.mono b,b.seq U,b.seq A,W,λg l n a v=>rest g l n a v⟩|one f c=>exact .inr (.inl ⟨1,j,f,1,c,2,j,f,G,z,2,c,88,X,d,lo,J,C,ac z,I,D,os,L,2,Y.mono b,b.seq U,b.seq A,W,λg l n a v=>rest g l n a v⟩)|all f c=>exact .inr (.inr ⟨1,j,f,1,c,2,j,288,X,d,lo,J,C,ae,I,D,os,L,2,Y.mono b,b.seq U,b.seq A,W,λg l n a v=>rest g l n a v⟩)
inductive Od(K:ai)(vs:List V)(H:Hp)(Q:VK)(E:XK):Prop
 |mk(a:am)(cs:List Int)(n:Nat):vs=[.ref a,.int n]->bI K H a (cs.map cn)->1<=n->n<=10->(∀l H'(xs:List Int),aG H H'->H l=ae->H' l=ac (.lst (xs.map cn))->wL xs=n->xs.Nodup->(∀x∈xs,0<=x)->Q (.ref l) H')->Od K vs H Q E
theorem U5{t:Ad}(T:Txt K mg t):cH P w K mg base iJ 2 t.yw t.CY ["_law_script","_law_size"] (Od K):=by refine T.NI.F.jv nY λH Q E M h=>?_;·obtain⟨a,cs,n,rfl,N,hn1,hn,k⟩:=h;exists _,(aq (sS 2 nY (fX gM)) (aq (fS (eF rfl T.gY (fR (pv 1))) (gT 3 nY) (aq (sS 4 nY (cG (iA T) M T.iB (kN (pv 0) (bf gm aA (pv 3))))) (aq (sS 5 nY (bf dc (bf eG (pv 4) aA) aA)) (aq (cC (qT kU (bf dc (pv 4) aA) aA) (bz (sS 5 nY (bf dc (bf eG (pv 4) aA) (bf zb (bf Ze aA aA) aA)))) bw) (aq (Y5 PassesOwn.never (iU oq (pv 5) (pv 2) (by with_unfolding_all rfl)) (bz (sS 5 nY (bf gm (pv 5) aA)))) (oE (mQ aV bq bh dZ (pv 2) (fR (pv 5))))))))) (aq (cC (qT kU (bf dc (bf eG (cG (iA T) M T.iB (kN (pv 0) aA)) aA) aA) aA) (oR (Rh (pv 2) (qR (aeq Zg aA)))) bw) (oR (pv 2))))),4;left;exists aS _,λl I=>?_;exists 1,(n:Int),2664;refine yf (n:=((n:Int)).toNat) (λi f m=>aG H m/\∃(d:List Int)(L J D:Option V),f=[ac (.ref a),ac (.int n),ac (.ref l),L,J,D]/\m l=ac (.lst (d.map cn))/\wL d=i/\d.Nodup/\∀x∈d,0<=x) ⟨aG.new I,[],ae,ae,ae,2,au,2,jh,λx g=>ff g (-_)⟩ ?_ ?_;(·rintro i f m hi ⟨j,d,L,J,D,rfl,g,R,r,p⟩;rw[dQ];exists 89,a,cs,1,j.seq N,64;dsimp only[jq];generalize cs.getD _ 0=c;exists 59,(by show (0:Int)<40;decide),4;dsimp only[jq];refine agc (λf C=>C=m/\∃z:Int,0<=z/\f=[ac (.ref a),ac (.int n),ac (.ref l),ac (.int (i:Nat)),ac (.int c),ac (.int z)]) ?_ λO=>?_;(case refine_2=>exists 19,(by show (0:Int)<3;decide),21,iW (λe=>?_) (λe=>?_);exists 59,⟨!_,!_,!_⟩,99,(by show (0:Int)<10^(60:Int).toNat-20;decide),O _ _ ⟨23,cu _ (!_),2⟩;exact O _ _ ⟨23,cu _ (!_),2⟩);rintro f C ⟨rfl,z,B,rfl⟩;refine Zb (λf G=>G=C/\∃x:Int,0<=x/\f=[ac (.ref a),ac (.int n),ac (.ref l),ac (.int (i:Nat)),ac (.int c),ac (.int x)]) (λ(f:L2.St)(_:Hp)=>match f[5]? with|some (ac (cn x))=>above d x|_=>0) ⟨23,B,2⟩ ?_ ?_;(·rintro f G ⟨rfl,x,A,rfl⟩;exists 8,l,1,.inl (bI.of g),2,qq d,14;(try dsimp only);rw[e8 aH,ly];refine iW (λc=>?_) (λc=>?_);have s:x∈d:=j9 c;exists 19,⟨2,x+1,62⟩,ZP s;have s:x∉d:=λz=>c (fy z);exists 1,.inl ⟨23,bI.of g⟩,1,l,9,g,44;rw[af];exact b9 ∅;exists j.out I,d++[x],33144,Gr.ux r s,4;rw[au,aK];rfl;simp[R];intro y hy;rcases bU.mp hy with z|z;exact p y z;have:y=x:=(by simpa using z);rw[this];exact A);rintro f G Q1 Q2 hq ⟨v,X,u,W,q,ys,e3,U,e5,Z,b,e7,S⟩;exists v,X,u,W,q,ys,e3,U,e5,Z,b,e7,hq _ _ S);rintro f m ⟨j,d,L,J,D,rfl,g,R,r,p⟩;exists 1,a,cs,(1),2,j.seq N,!_,_,_,rfl,rfl,⟨!_,!_⟩,_,_,rfl,rfl,(by show (0:Int)<2;decide),21,iW (λe=>?_) (λe=>?_);exists 18,l,12,bI.of g,λY o=>?_;rw[<- List.map_reverse];exact k Y _ d.reverse (j.trans (aG.new o)) (j.free o) au (by rw[List.length_reverse];lia) ((List.reverse_perm d).nodup_iff.mpr r) λx g=>p x (List.mem_reverse.mp g);exists 1,k l m d j I g ∅ r p
theorem ac2{x:Int}{g:Nat}(d:1<=x)(e:x<=7)(c:g<3):1<=Builtin.bitOr x (1*2^((g:Int)).toNat)/\Builtin.bitOr x (1*2^((g:Int)).toNat)<=7:=by have b:x=1∨x=2∨x=3∨x=4∨x=5∨x=6∨x=7:=∅;have a:g=0∨g=1∨g=2:=∅;rcases a with rfl|rfl|rfl <;> rcases b with rfl|rfl|rfl|rfl|rfl|rfl|rfl <;> decide +kernel
def aeW(K:ai)(H:Hp)(l:am)(rs:List R5):Prop:=∃qs:List am,H l=ac (.lst (qs.map cr))/\cP K H qs (rs.map R5.vs)
theorem cP.snoc{K:ai}{H:Hp}{qs:List am}{xs:List (List V)}{q:am}{x:List V}(h:cP K H qs xs)(d:cD K H q x):cP K H (qs++[q]) (xs++[x]):=by exists by rw[av,av,h.len];rfl,λi a u b c=>?_;by_cases z:i<wL qs;rw[bu z] at b;rw[bu (h.len▸z)] at c;exact h.at' i a u b c;have e:i=qs.length:=(by have:=(aj.mp b).1;rw[av] at this;have:i<wL qs+1:=this;lia);subst e;rw[oK] at b;rw[h.len,oK] at c;cases b;cases c;exact d
inductive Oe(K:ai)(vs:List V)(H:Hp)(Q:VK)(E:XK):Prop
 |mk(a:am)(cs:List Int)(n g:Nat):vs=[.ref a,.int n,.int g]->bI K H a (cs.map cn)->1<=n->n<=10->g<3->(∀l H'(rs:List R5),aG H H'->H l=ae->aeW K H' l rs->wL rs<=14->(∀r∈rs,r.Ok n)->Q (.ref l) H')->Oe K vs H Q E
theorem U6{t:Ad}(T:Txt K mg t):cH P w K mg base iJ 2 t.yx t.CZ ["_law_script","_law_size","_law_group"] (Oe K):=by refine T.NJ.F.jv eV λH Q E hr h=>?_;·obtain⟨a,cs,n,g,rfl,hS,hn1,hn,hg,k⟩:=h;exists _,(aq (sS 3 eV (fX gM)) (aq (sS 4 eV aA) (aq (cC (qT Vy (pv 1) aA) (bz (sS 4 eV (bf gm (bf zb (pv 1) aA) (bf dc (bf eG (cG (iA T) hr T.iB (kN (pv 0) aA)) aA) aA)))) bw) (aq (fS (eF rfl T.gY (fR (pv 4))) (gT 5 eV) (aq (sS 6 eV (cG (iA T) hr T.iB (kN (pv 0) (bf gm aA (pv 5))))) (aq (sS 7 eV (bf dc (bf eG (pv 6) aA) (pv 1))) (aq (sS 8 eV (bf dc (bf gm (bf gm (pv 7) aA) (bf dc (bf eG (pv 6) aA) (bf zb (pv 1) aA))) (pv 1))) (aq (cC (qT oO (pv 5) (bf zb (pv 1) aA)) (aq (sS 7 eV (bf gm (pv 5) aA)) (bz (sS 8 eV (bf dc (bf eG (pv 6) aA) (bf gm (pv 5) aA))))) bw) (aq (sS 9 eV (bf eG (pv 6) aA)) (aq (sS 10 eV (bf gm aA (bf dc (pv 9) aA))) (aq (cC (qT kU (bf dc (bf eG (pv 9) aA) aA) aA) (bz (sS 10 eV (bf gm aA (bf dc (bf eG (pv 9) aA) (bf zb (bf Ze aA aA) aA))))) bw) (aq (sS 11 eV (bf gm aA (bf dc (bf eG (pv 9) aA) aA))) (aq (cC (qT Vy (bf dc (bf eG (pv 9) aA) aA) aA) (bz (sS 11 eV (bf aiJ (pv 11) (bf afP aA (pv 2))))) bw) (aq (cC (qT kU (bf dc (pv 6) aA) aA) (bz (afK (i:=7) (j:=8) rfl eV.nd rfl rfl (!_) rfl rfl (kN (pv 8) (pv 7)) rfl)) bw) (oE (mQ aV bq bh dZ (pv 3) (fR (dY (aN5 (pv 7) (pv 8) (pv 10) (bf gm aA (bf dc (bf eG (pv 9) aA) aA)) (pv 11))))))))))))))))) (oR (pv 3)))))),4;left;exists aS _,λl hl=>?_;have s0:=aG.new (o:=.lst []) hl;have Me:=au (H:=H) (a:=l) (o:=.lst []);generalize upd H l (.lst [])=H0 at s0 Me;dsimp only[jq];refine aY λN hN=>?_;refine hN [ac (.ref a),ac (.int n),ac (.int g),ac (.ref l),ac (.int 0),ae,ae,ae,ae,ae,ae,ae] H0 ?_;refine jO (λd H1=>H1=H0/\∃m:Nat,m<=14/\(0<m->2<=n)/\d=[ac (.ref a),ac (.int n),ac (.int g),ac (.ref l),ac (.int (m:Nat)),ae,ae,ae,ae,ae,ae,ae]) ?_ λL f=>?_;(case refine_2=>exists 191,iW (λe=>?_) (λe=>?_);have h2:(1:Int)<n:=j9 e;exists 191,a,cs,(1),2,s0.seq hS,!_,_,_,rfl,rfl,⟨!_,!_⟩,_,_,rfl,rfl,(by show (0:Int)<6;decide),9,f _ _ ?_;generalize cs.getD _ 0/3=y;have q1:=cu y (show (6:Int)≠0 by decide);have q2:=cz y (show (0:Int)<6 by decide);exists 2,((n:Int)-1+y%6).toNat,6,λ_=>∅,4;rw[sf ∅];rfl;exact f _ _ ⟨2,(0),6,λz=>ff z (!_),2⟩);rintro d H1 ⟨rfl,m,hm,h2,rfl⟩;exists 1,(m:Int),2664;refine zh (n:=((m:Int)).toNat) (λi d A=>aG H A/\∃(rs:List R5)(W U v7 v8 I s p:Option V),d=[ac (.ref a),ac (.int n),ac (.int g),ac (.ref l),ac (.int (m:Nat)),W,U,v7,v8,I,s,p]/\aeW K A l rs/\wL rs=i/\∀r∈rs,r.Ok n) ⟨s0,[],3337,⟨[],Me,⟨2,λi q x e=>by cases e⟩⟩,2,λr u=>ff u (-_)⟩ ?_ ?_;(·rintro i d A Nf Jz hi ⟨S,rs,W,U,v7,v8,I,s,p,rfl,⟨qs,C,vM⟩,ei,ok⟩;rw[dQ];have hi':i<m:=(by simpa using hi);have h2:2<=n:=h2 ∅;refine aY λNx bW=>?_;exists 89,a,cs,1,S.seq hS,64;dsimp only[jq];generalize cs.getD _ 0=c;refine bW _ _ ?_;obtain⟨o1,o2,o3,o4,o5⟩:=acD (n:=n) (x:=c/2) (y:=c/13) ∅;exists 519,(by show (0:Int)<n;lia),4;exists 195199,(by show 0<(n:Int)-1;lia),919,(by show (0:Int)<n;lia),4;dsimp only[jq];refine jO (λd H3=>H3=A/\∃x y:Int,(0<=x/\x<n/\0<=y/\y<n/\x≠y)/\d=[ac (.ref a),ac (.int n),ac (.int g),ac (.ref l),ac (.int (m:Nat)),ac (.int (i:Nat)),ac (.int c),ac (.int x),ac (.int y),I,s,p]) ?_ λL f=>?_;(case refine_2=>exists 8991,iW (λe=>?_) (λe=>?_);have e:(i:Int)<(n:Int)-1:=j9 e;exists 194;exists 5199,(by show (0:Int)<(i:Int)+1;lia),f _ _ ⟨2,(i:Int)+1,c/2%((i:Int)+1),42⟩;have q1:=cu (c/2) (show (i:Int)+1≠0 by lia);have q2:=cz (c/2) (show (0:Int)<(i:Int)+1 by lia);lia;exact f _ _ ⟨233,⟨o1,o2,o3,o4,o5⟩,2⟩);rintro d H3 ⟨rfl,x,y,⟨R,J,M,G,D⟩,rfl⟩;exists 54;dsimp only[jq];generalize c/97=rt;exists 19,(by show (0:Int)<3;decide),94;dsimp only[jq];refine jO (λd Z=>Z=H3/\∃z:Int,1<=z/\d=[ac (.ref a),ac (.int n),ac (.int g),ac (.ref l),ac (.int (m:Nat)),ac (.int (i:Nat)),ac (.int c),ac (.int x),ac (.int y),ac (.int rt),ac (.int z),p]) ?_ λL f=>?_;(case refine_2=>exists 59,(by show (0:Int)<3;decide),21,iW (λe=>?_) (λe=>?_);exists 59,⟨!_,!_,!_⟩,99,(by show (0:Int)<10^(60:Int).toNat-1;decide),9,f _ _ ⟨2342⟩;have:=cu (rt/9) (show (10:Int)^(60:Int).toNat-1≠0 by decide);lia;refine f _ _ ⟨2342⟩;have:=cu rt (show (3:Int)≠0 by decide);lia);rintro d Z ⟨rfl,z,hz,rfl⟩;exists 59,(by show (0:Int)<7;decide),94;dsimp only[jq];refine jO (λd H5=>H5=Z/\∃e:Int,1<=e/\e<=7/\d=[ac (.ref a),ac (.int n),ac (.int g),ac (.ref l),ac (.int (m:Nat)),ac (.int (i:Nat)),ac (.int c),ac (.int x),ac (.int y),ac (.int rt),ac (.int z),ac (.int e)]) ?_ λL f=>?_;(case refine_2=>have q1:=cu (rt/11) (show (7:Int)≠0 by decide);have q2:=cz (rt/11) (show (0:Int)<7 by decide);exists 59,(by show (0:Int)<4;decide),91,iW (λe=>?_) (λe=>?_);have b:=ac2 (x:=1+rt/11%7) ∅ ∅ hg;exists 89,⟨∅,∅,!_⟩,9,f _ _ ⟨23,b.1,b.2,2⟩;exact f _ _ ⟨23662⟩);rintro d H5 ⟨rfl,le,X,le7,rfl⟩;refine jO (λd O=>aG H5 O/\∃x y:Int,(0<=x/\x<n/\0<=y/\y<n/\x≠y)/\d=[ac (.ref a),ac (.int n),ac (.int g),ac (.ref l),ac (.int (m:Nat)),ac (.int (i:Nat)),ac (.int c),ac (.int x),ac (.int y),ac (.int rt),ac (.int z),ac (.int le)]) ?_ λL f=>?_;(case refine_2=>exists 19,(by show (0:Int)<2;decide),21,iW (λe=>?_) (λe=>?_);exists 831,f _ _ ⟨aG.refl _,y,x,⟨M,G,R,J,bT D⟩,2⟩;exact f _ _ ⟨aG.refl _,x,y,⟨R,J,M,G,D⟩,2⟩);rintro d O ⟨s6,x,y,⟨R,J,M,G,D⟩,rfl⟩;have Y:=s6 _ _ C;exists 1,.inl ⟨23,bI.of Y⟩,1859,(by show (0:Int)<4;decide),91,aaV,λq hq=>?_;have u7:=aG.new (o:=.tup [cn x,.int y,.int z,.int (1+rt/5%4),.int le]) hq;have B:=au (H:=O) (a:=q) (o:=.tup [cn x,.int y,.int z,.int (1+rt/5%4),.int le]);generalize upd O q (.tup [cn x,.int y,.int z,.int (1+rt/5%4),.int le])=H7 at u7 B;have v:=s6.trans u7;have QB:=v _ _ C;have anH:=vM.mono λb x=>v.bP;have q1:=cu (rt/5) (show (4:Int)≠0 by decide);have q2:=cz (rt/5) (show (0:Int)<4 by decide);exists l,9,QB,(by rw[af,vM.len,af];exact b9 ∅),4;refine Jz _ _ ⟨(S.trans v).out hl,rs++[⟨x,y,z,1+rt/5%4,le⟩],3337,⟨qs++[q],44⟩,by rw[av,ei];rfl,λr u=>?_⟩;rw[au,aK];rfl;rw[aK];exact (cP.snoc anH (cD.of B)).mono λb x=>cD.past QB c7 br;rcases bU.mp u with w'|w';exact ok r w';rw[bV.mp w'];exists R,J,M,G,D,hz,by show 1<=1+rt/5%4;lia,by show 1+rt/5%4<=4;lia,X,le7);rintro d A ⟨S,rs,W,U,v7,v8,I,s,p,rfl,hR,ei,ok⟩;exists 1,k l A rs S hl hR (by rw[ei];simpa using hm) ok
theorem Of{K:ai}{H:Hp}{l q:am}{qs:List am}{cl:List (Nat×Nat)}{pl a:Nat}(hl:H l=ac (.lst (qs.map cr)))(d:cP K H qs (cl.map λc=>[.int c.1,.int c.2]))(e:H q=ac (.tup [cn pl,.int a])) :(upd H l (.lst (qs.map cr++[.ref q]))) l=ac (.lst ((qs++[q]).map cr))/\cP K (upd H l (.lst (qs.map cr++[.ref q]))) (qs++[q]) ((cl++[(pl,a)]).map λc=>[.int c.1,.int c.2]):=by exists by rw[au,aK];rfl,4;rw[aK];exact (cP.snoc d (cD.of e)).mono λb x=>cD.past hl c7 br
inductive II(K:ai)(vs:List V)(H:Hp)(Q:VK)(E:XK):Prop
 |mk(a:am)(cs:List Int)(n g:Nat):vs=[.ref a,.int n,.int g]->bI K H a (cs.map cn)->1<=n->n<=10->g<3->(∀l(qs:List am)H'(cl:List (Nat×Nat)),aG H H'->H l=ae->H' l=ac (.lst (qs.map cr))->cP K H' qs (cl.map λc=>[.int c.1,.int c.2])->1<=wL cl->wL cl<=20->(∀c∈cl,c.1<n/\c.2<3)->Q (.ref l) H')->II K vs H Q E
theorem Qh{t:Ad}(T:Txt K mg t):cH P w K mg base iJ 2 t.rV t.wo ["_law_script","_law_size","_law_group"] (II K):=by refine T.Ij.F.jv lZ λH Q E hr h=>?_;·obtain⟨a,cs,n,g,rfl,S,hn1,hn,hg,k⟩:=h;exists _,(aq (sS 3 lZ (fX gM)) (aq (sS 4 lZ (xL (fX (Ic aA aA aA)) (bf dc (bf eG (cG (iA T) hr T.iB (kN (pv 0) aA)) aA) aA))) (aq (fS (eF rfl T.gY (fR (bf gm aA (bf dc (bf eG (cG (iA T) hr T.iB (kN (pv 0) aA)) aA) (pv 4))))) (gT 5 lZ) (aq (sS 6 lZ (bf eG (cG (iA T) hr T.iB (kN (pv 0) (bf gm aA (bf dc (pv 5) aA)))) (bf gm aA (bf Zd aA (bf eG (pv 5) aA))))) (aq (sS 7 lZ (bf dc (pv 6) (pv 1))) (bz (cC (qT kU (bf dc (bf eG (pv 6) aA) aA) aA) (oE (mQ aV bq bh dZ (pv 3) (fR (dY (kN (pv 7) (bf dc (bf gm (bf gm (pv 2) aA) (bf dc (bf eG (pv 6) aA) aA)) aA)))))) (oE (mQ aV bq bh dZ (pv 3) (fR (dY (kN (pv 7) (pv 2))))))))))) (oR (pv 3))))),4;left;exists aS _,λl N=>?_;have s0:=aG.new (o:=.lst []) N;have Me:=au (H:=H) (a:=l) (o:=.lst []);generalize upd H l (.lst [])=H0 at s0 Me;exists k9,λl1 h1=>?_;have Y:=aG.new (o:=.lst [cn 6,cn 6,cn 20]) h1;have B:=au (H:=H0) (a:=l1) (o:=.lst [cn 6,cn 6,cn 20]);have C:=Y _ _ Me;have I:=s0.trans Y;generalize upd H0 l1 (.lst [cn 6,cn 6,cn 20])=H1 at Y B C I;exists 1,a,cs,(1),2,I.seq S,!_,_,_,rfl,rfl,⟨!_,!_⟩,_,_,rfl,rfl,(by show (0:Int)<3;decide),4;obtain⟨v,hmo,Z⟩:=anj (x:=6) (y:=6) (z:=20) (i:=cs.getD (1:Int).toNat 0/7%3) 1 20 (!_) (!_) (!_) (cu _ (!_)) (cz _ (!_));exists l1,39,bI.of B,Z,4;dsimp only[jq];exists 1,a,cs,(1),2,I.seq S,!_,_,_,rfl,rfl,⟨!_,!_⟩,_,rfl,_,_,rfl,rfl,(by show 0<v;lia),94;have q1:=cu (cs.getD (1:Int).toNat 0/36) (show v≠0 by lia);have q2:=cz (cs.getD (1:Int).toNat 0/36) (show 0<v by lia);obtain⟨m,em⟩:∃m:Nat,1+cs.getD (1:Int).toNat 0/36%v=(m:Int):=⟨(1+cs.getD (1:Int).toNat 0/36%v).toNat,6⟩;have hm1:1<=m:=∅;have ata:m<=20:=∅;exists (m:Int),(by rw[<- em]),664;refine zh (n:=m) (λi X p=>aG H p/\∃(D:List am)(cl:List (Nat×Nat))(R O v7:Option V),X=[ac (.ref a),ac (.int n),ac (.int g),ac (.ref l),ac (.int v),R,O,v7]/\p l=ac (.lst (D.map cr))/\cP K p D (cl.map λc=>[.int c.1,.int c.2])/\wL cl=i/\∀c∈cl,c.1<n/\c.2<3) ⟨I,[],[],331,C,⟨2,λi q x e=>by cases e⟩,2,λc hc=>ff hc (-_)⟩ ?_ ?_;rintro i X p Nf Jz hi ⟨G,D,cl,R,O,v7,rfl,f,u,ei,L⟩;rw[dQ];have e6:=cu (i:Int) (show (6:Int)≠0 by decide);have d6:0<=(i:Int)/6:=Int.ediv_nonneg ∅ (!_);have d6':(i:Int)/6<=20:=∅;exists 89,(by show (0:Int)<6;decide),9,a,cs,1,G.seq S,659,.inl ⟨!_,!_⟩,99,⟨66⟩,4;dsimp only[jq];generalize cs.getD _ 0/(1+7*((i:Int)/6))=c;exists 89,(by show (0:Int)<n;lia),4;dsimp only[jq];have M:=cu c (show (n:Int)≠0 by lia);have J:=cz c (show (0:Int)<n by lia);obtain⟨s,epl⟩:∃s:Nat,c%(n:Int)=(s:Int):=⟨(c%(n:Int)).toNat,6⟩;rw[epl];have A:s<n:=∅;exists 59,(by show (0:Int)<4;decide),21,iW (λe=>?_) (λe=>?_);have g1:=cu ((g:Int)+1+c/44%2) (show (3:Int)≠0 by decide);have g2:=cz ((g:Int)+1+c/44%2) (show (0:Int)<3 by decide);obtain⟨W,U⟩:∃W:Nat,((g:Int)+1+c/44%2)%3=(W:Int):=⟨(((g:Int)+1+c/44%2)%3).toNat,6⟩;exists 1,.inl ⟨23,bI.of f⟩,8959,(by show (0:Int)<2;decide),99,(by show (0:Int)<3;decide),jD,λq hq=>?_;have r:=aG.new (o:=.tup [cn s,.int (((g:Int)+1+c/44%2)%3)]) hq;have d:=au (H:=p) (a:=q) (o:=.tup [cn s,.int (((g:Int)+1+c/44%2)%3)]);generalize upd p q (.tup [cn s,.int (((g:Int)+1+c/44%2)%3)])=H3 at r d;rw[U] at d;have j:=r _ _ f;obtain⟨M,J⟩:=Of (cl:=cl) j (u.mono λb x=>r.bP) d;exists l,9,j,(by rw[af,u.len,af];exact b9 ∅),Jz _ _ ⟨(G.trans r).out N,37,M,J,by rw[av,ei];rfl,λz hz=>?_⟩;rcases bU.mp hz with w'|w';exact L z w';rw[bV.mp w'];exact⟨A,by show W<3;lia⟩;exists 1,.inl ⟨23,bI.of f⟩,8,jD,λq hq=>?_;have r:=aG.new (o:=.tup [cn s,.int g]) hq;have d:=au (H:=p) (a:=q) (o:=.tup [cn s,.int g]);generalize upd p q (.tup [cn s,.int g])=H3 at r d;have j:=r _ _ f;obtain⟨M,J⟩:=Of (cl:=cl) j (u.mono λb x=>r.bP) d;exists l,9,j,(by rw[af,u.len,af];exact b9 ∅),Jz _ _ ⟨(G.trans r).out N,37,M,J,by rw[av,ei];rfl,λz hz=>?_⟩;rcases bU.mp hz with w'|w';exact L z w';rw[bV.mp w'];exists A,hg;rintro X p ⟨G,D,cl,R,O,v7,rfl,f,u,ei,L⟩;exists 1,k l D p cl G N f u ∅ ∅ L
inductive LL(K:ai)(CT C:am)(vs:List V)(H:Hp)(Q:VK)(E:XK):Prop
 |mk (p dx tp ln lr:am) (ns:List Int) (rs:List R5):vs=[.ref p,.ref tp]->H p=ac (.ins C dx [])->dN K CT H tp ln lr ns rs->wL rs<=20->(∀r∈rs,1<=r.d/\r.d<=4)->(∀lu (ls:List am) H',H lu=ae->(∀l∈ls,H l=ae)->lu∉ls->ls.Nodup->wL ls=rs.length->H' p=ac (.ins C dx [("town",.ref tp),("upright",.ref lu)])->H' lu=ac (.lst (ls.map cr))->(∀(j:Nat) l r,ls[j]?=ac l->rs[j]?=ac r->H' l=ac (.lst (aT (aB r.d.toNat))))->(∀b o,H b=ac o->b≠p->H' b=ac o)->Q .gk H')->LL K CT C vs H Q E
theorem Gh{t:Ad}(T:Txt K mg t):cH P w K mg base iJ 3 t.jy t.l6 ["self","town"] (LL K t.be t.c8):=by refine T.yD.F.jv vU λH Q E hr h=>?_;·obtain⟨p,Y,B,ln,lr,ns,rs,rfl,hp,hT,tM,hw,k⟩:=h;exists _,(aq (gK (pv 0) (pv 1) rfl) (bz (gK (pv 0) (fE (kO vU ["rope","town"] [ae,ac 1]) rfl (eF rfl T.gY (fR (bg (pv 1) rfl))) (λ_ _ _ _=>by exact (gS 0 Bq)) (λ_ _ _ _=>by exact jk) (λ_ _ _ _=>by exact (gx (Ud rfl) (by rfl) T.sM boot_list (fR (gx QY (by rfl) T.gY boot_range (fR (cG (IG T) hr T.El (kN (pv 1) (pv 0))))))))) rfl))),4;left;obtain⟨⟨dt,htp⟩,_⟩:=id hT;have Hi:B≠p:=oN htp hp λz=>(by have:=(HO.ins.inj z).2.2;cases this);exists 8,p,_,Y,[],2,hp,T.fj,T.lM,!_,?_;rw[eS (names:=[]) rfl rfl];generalize M:upd H p (.ins t.c8 Y ([]++[(ba "town",cr B)]))=H1;have k1:∀b o,H b=ac o->b≠p->H1 b=ac o:=λb o e S=>(by rw[<- M,aI S];exact e);have v:H1 p=ac (.ins t.c8 Y [(ba "town",cr B)]):=(by rw[<- M];exact au);have D:=hT.but k1 hp Hi;have f1:∀{l:am},H1 l=ae->H l=ae:=λ{l} e=>(by cases q:H l with|none=>rfl|some o=>by_cases z:l=p;rw[z,v] at e;cases e;have:=k1 _ _ q z;rw[e] at this;cases this);obtain⟨⟨dt,Z⟩,_⟩:=id D;exists 1,B,_,dt,31,Z,T.gp,T.wB,21,(by show -(2^62)<=((rs.length:Nat):Int);lia),(by show ((rs.length:Nat):Int)<2^62;lia),λc a=>?_;refine eX (n:=(((rs.length:Nat):Int)).toNat) (λi ys U=>∃f:List am,ys=f.map cr/\wL f=i/\f.Nodup/\(∀l∈f,H l=ae/\U l≠ae)/\∀(j:Nat) l r,f[j]?=ac l->rs[j]?=ac r->U l=ac (.lst (aT (aB r.d.toNat)))/\l≠c) a uw k7 ⟨[],22,jh,λl u=>(by cases u),λj l r e=>by simp at e⟩ ?_ ?_;rintro i ys U W A R ⟨f,rfl,s,nd,m,g⟩ x H3 ⟨rfl,rfl⟩;have W:i<wL rs:=(by simpa using W);have C3:rs[i]?=ac rs[i]:=aa W;have wi:=hw _ (ay C3);obtain⟨d,ed⟩:∃d:Nat,rs[i].d=(d:Int):=⟨rs[i].d.toNat,6⟩;exists 8,B,ln,lr,ns,rs,i,rs[i],(by show [cr B,cn (0+(i:Int))]=_;rw[dQ]),D.mono A,C3,4;exists rs[i].d,2,λq hq=>?_;have X:=aG.new (o:=.YT 0 rs[i].d) hq;exists q,d,2,(by rw[au,ed]),6,λl u=>?_;have Me:H l=ae:=f1 ((A.trans X).free u);have nl:l∉f:=λz=>(m l z).2 (X.free u);have N:=X.trans (aG.new (o:=.lst ((aB d).map λk=>cn (k:Nat))) u);have G:=N _ _ R;have Yi:(upd (upd H3 q (.YT 0 rs[i].d)) l (.lst ((aB d).map λk=>cn (k:Nat)))) l=ac (.lst (aT (aB d))):=au;have y:l≠c:=(aC (X _ _ R) u).symm;generalize upd (upd H3 q (.YT 0 rs[i].d)) l (.lst ((aB d).map λk=>cn (k:Nat)))=H4 at N G Yi;refine dF a (by simpa using W) (A.trans N) G (by rw[af,s];exact b9 ∅) ⟨f++[l],by rw[aK];rfl,by rw[av,s];rfl,Gr.ux nd nl,λI hl'=>?_,λj I r C L=>?_⟩;rcases bU.mp hl' with z|z;(obtain⟨z1,O⟩:=m I z;exists z1,4;by_cases q:I=c;rw[q,au];exact aW _;rw[aI q];cases e:H3 I with|none=>exact ff e O|some o=>rw[N _ _ e];exact aW _);rw[bV.mp z];exact⟨Me,by rw[aI y,Yi];exact aW _⟩;rcases CL C with C|⟨rfl,rfl⟩;obtain⟨z1,O⟩:=g j I r C L;exists by rw[aI O];exact N _ _ z1,O;rw[s,C3] at L;cases L;rw[ed,cN];exists by rw[aI y];exact Yi,y;rintro ys U A R ⟨f,rfl,s,nd,m,g⟩;have s:wL f=rs.length:=(by simpa using s);have npa:p≠c:=aC v a;have J:=A _ _ v;exists 1,p,_,Y,1,J,T.fj,T.gX,(by show 1<1000;decide),4;rw[eS (names:=["town"]) rfl (by decide +kernel)];refine k c f _ (f1 a) (λl u=>(m l u).1) (λz=>?_) nd s au (by rw[aI (bT npa)];exact R) (λj l r C L=>?_) λb o e S=>(by rw[aI S];exact A _ _ (k1 _ _ e S));obtain⟨j,hj⟩:=bM z;have hjl:=(aj.mp hj).1;exact (g j c _ hj (aa (s▸hjl))).2 rfl;have z:=(g j l r C L).1;rw[aI (oN z J (by intro z;cases z))];exact z
inductive IJ(K:ai)(C:am)(vs:List V)(H:Hp)(Q:VK)(E:XK):Prop
 |mk(tp ln lr:am)(ns:List Int)(rs:List R5):vs=[.ref tp]->dN K C H tp ln lr ns rs->wL ns<=12->(∀l(qs:List am)H',aG H H'->H l=ae->H' l=ac (.lst (qs.map cr))->cP K H' qs (iK (wL ns) (AQ ns))->Q (.ref l) H')->IJ K C vs H Q E
theorem MO{t:Ad}(T:Txt K mg t):cH P w K mg base iJ 3 t.pJ t.t8 ["town"] (IJ K t.be):=by refine T.FI.F.jv Dq λH Q E G h=>?_;·obtain⟨v,y,D,ns,B,rfl,u,A,k⟩:=h;exists _,(oR (fE (kO Dq ["house","town"] [ae,ac 0]) rfl (eF rfl T.gY (fR (bg (pv 0) rfl))) (λ_ _ _ _=>by exact (gS 0 G7)) (λ_ _ _ _=>by exact jk) (λ_ _ _ _=>by exact (cG (LA T) G T.Hf (kN (pv 1) (pv 0)))))),4;left;obtain⟨⟨z,m⟩,_⟩:=id u;exists 1,v,_,z,31,m,T.gp,T.ow,2,(ns.length:Int),266,λp a=>?_;refine eX (n:=((ns.length:Int)).toNat) (λi s j=>∃c:List am,s=c.map cr/\cP K j c (iK i (AQ ns))) a uw k7 ⟨[],2,⟨2,λi q x e=>by cases e⟩⟩ ?_ ?_;rintro i s j g l r ⟨c,rfl,d⟩ x I ⟨rfl,rfl⟩;have g:i<wL ns:=(by simpa using g);rw[dQ];exists 8,v,y,D,ns,B,i,ns[i],2,u.mono l,aa g,λq J o C=>?_;have f:=o _ _ r;have L:wL c=i:=(by rw[d.len];simp[iK]);refine dF a (by simpa using g) (l.trans o) f (by rw[af];exact b9 ∅) ⟨c++[q],by rw[aK];rfl,4⟩;have e:iK (i+1) (AQ ns)=iK i (AQ ns)++[cW ⟨ns[i],(0),(0),-1⟩]:=(by unfold iK;rw[iH,aK,bK,tH];congr 3;unfold AQ;rw[ao,aa g];rfl);rw[e];exact (cP.snoc (d.mono λb x=>o.bP) C).mono λb x=>cD.past f c7 br;rintro s j l r ⟨c,rfl,d⟩;rw[show ((ns.length:Int)).toNat=ns.length from rfl] at d;exact k p c j l a r d
inductive Cv(K:ai)(C:am)(vs:List V)(H:Hp)(Q:VK)(E:XK):Prop
 |mk(tp ln lr lc:am)(ns:List Int)(rs:List R5)(qs:List am)(cl:List (Nat×Nat)):vs=[.ref tp,.ref lc]->dN K C H tp ln lr ns rs->bI K H lc (qs.map cr)->cP K H qs (cl.map λc=>[.int c.1,.int c.2])->wL cl<=20->(∀c∈cl,c.1<wL ns/\c.2<3)->Q .gk H->Cv K C vs H Q E
theorem HF{t:Ad}(T:Txt K mg t):cH P w K mg base iJ 1 t.j7 t.nK ["town","callers"] (Cv K t.be):=by refine T.AB.F.jv ym λH Q E R h=>?_;·obtain⟨A,L,O,l,ns,N,d,cl,rfl,G,o,u,M,s,k⟩:=h;exists _,(aq (cC (qT Vy (lS T.fV (pv 1)) (nv rfl T.KS (v:=.int 20) ⟨1⟩)) fh bw) (bz (fS (eW (pv 1)) (gT 2 ym) (aq (cC (qT rJ (lS T.fV (pv 2)) aA) fh bw) (aq (cC (jg (jZ rK oO aA (xT (pv 2) aA) (bg (pv 0) rfl))) fh bw) (bz (cC (jg (jZ rK oO aA (xT (pv 2) aA) (lS T.fV (nv rfl T.mw (v:=.ref t.fG) rfl)))) fh bw))))))),4;left;obtain⟨⟨C,m⟩,_⟩:=id G;have I:wL d=cl.length:=(by rw[u.len,af]);exists 1,l,1,.inl o,91,qh (gn (by rw[af];lia)) ?_;exists 1,l,2,⟨_,o⟩,ye (K:=K) (a:=l) (xs:=d.map cr) (λi g c=>c=H/\∃r:Option V,g=[ac (.ref A),ac (.ref l),r]) ⟨21⟩ (λi g c _ z=>by rw[z.1];exact o) ?_ ?_;rintro i y g c p ⟨rfl,r,rfl⟩;have b:=(aj.mp p).1;rw[af] at b;have e:i<wL cl:=I▸b;have D:y=.ref d[i]:=(by rw[ak,aa b] at p;exact (aO p).symm);subst D;have f:cD K c d[i] [.int cl[i].1,.int cl[i].2]:=u.at' i _ _ (aa b) (by rw[ak,aa e];rfl);obtain⟨B,x⟩:=s _ (aP e);generalize d[i]=q at f;generalize cl[i]=cc at f B x;obtain⟨n,j⟩:=cc;exists 1,q,1,.inr f,21,qh (by show (!decide (cn 2=cn 2))=al;rw[fy rfl];rfl) ?_;exists 1,q,39,f,2914;rw[fy (show (0:Int)<=(n:Int) by lia)];refine fY ⟨1,A,_,C,31,m,T.gp,T.ow,2914⟩;rw[fy (show (n:Int)<(ns.length:Int) by have:n<wL ns:=B;lia)];refine e9 ?_;exists 1,q,39,f,2914;rw[fy (show (0:Int)<=(j:Int) by lia)];refine fY ⟨31,.inr (T.gF _),914⟩;have J:decide ((j:Int)<((([.int 1,.int 2,.int 4]:List V).length:Nat):Int))=ag:=fy (by show (j:Int)<3;have:j<3:=x;lia);rw[J];exact e9 ⟨21⟩;rintro g c ⟨rfl,r,rfl⟩;exact k
end
noncomputable abbrev nc(t:Ad):NC:=⟨t.cY,t.c8,t.fT,t.j8,t.jB,t.gW,t.jU⟩
section
variable{P:ci}{w:World}{K:ai}{mg:Str->Option ar}{base:Heap}
inductive Og(K:ai)(CT:am)(c:NC)(vs:List V)(H:Hp)(Q:VK)(E:XK):Prop
 |mk(p dx tp ln lr lc:am)(ns:List Int)(rs:List R5)(qs:List am)(cl:List (Nat×Nat)):vs=[.ref p,.ref tp,.ref lc]->H p=ac (.ins c.dO dx [])->dN K CT H tp ln lr ns rs->wL ns<=12->wL rs<=20->(∀r∈rs,1<=r.d/\r.d<=4)->bI K H lc (qs.map cr)->cP K H qs (cl.map λc=>[.int c.1,.int c.2])->wL cl<=20->(∀c∈cl,c.1<wL ns/\c.2<3)->(∀F H',cE K c H' F p tp (wL ns) (S0 ns rs cl)->(∀b o,H b=ac o->b≠p->H' b=ac o)->(∀b,F b->b=p∨H b=ae)->Q .gk H')->Og K CT c vs H Q E
noncomputable abbrev nf(fs:List (Str×V))(k:Str)(v:V):List (Str×V):=fs++[(k,v)]
structure IK(K:ai)(CT:am)(H:Hp)(tp ln lr lc:am)(ns:List Int)(rs:List R5)(qs:List am)(cl:List (Nat×Nat)):Prop where
 lA:dN K CT H tp ln lr ns rs
 vo:bI K H lc (qs.map cr)
 tup:cP K H qs (cl.map λc=>[.int c.1,.int c.2])
theorem IK.mono{g e f a d:am}{H c:Hp}{ns:List Int}{rs:List R5}{qs:List am}{cl:List (Nat×Nat)}(h:IK K g H e f a d ns rs qs cl)(s:aG H c):IK K g c e f a d ns rs qs cl:=⟨h.lA.mono s,s.seq h.vo,h.tup.mono λb x=>s.bP⟩
theorem IK.put{f a d g i p C k:am}{H:Hp}{ns:List Int}{rs:List R5}{qs:List am}{cl:List (Nat×Nat)}{j:List (Str×V)}{o:HO}(h:IK K f H a d g i ns rs qs cl)(c:H p=ac (.ins C k j))(n:a≠p):IK K f (upd H p o) a d g i ns rs qs cl :=⟨h.lA.but (λb u e l=>by rw[aI l];exact e) c n,bI.past c Z4 br h.vo,h.tup.mono λb x=>cD.past c oV br⟩
theorem yP(la:Nat->am)(i:Nat)(l:am):(aB (i+1)).map (λg=>cr (fc la i l g))=(aB i).map (λg=>cr (la g))++[.ref l]:=by rw[iH,aK,bK,tH,cJ];congr 1;refine cT λg a=>?_;rw[dG (bY (cS.mp a))]
noncomputable def agJ(loc:Role->am)(acc:am)(la:Nat->am):Role->am
 |.uB=>acc
 |.rows g=>la g
 |r=>loc r
noncomputable def obR(ob:Role->Option HO)(la:Nat->am)(rq:Nat->List am)(i:Nat):Role->Option HO
 |.uB=>ac (.lst ((aB i).map λg=>.ref (la g)))
 |.rows g=>if g<i then ac (.lst ((rq g).map cr)) else ae
 |r=>ob r
noncomputable def ac5(loc:Role->am)(acc:am)(lb ld:Nat->am):Role->am
 |.ju=>acc
 |.book g=>lb g
 |.gj g=>ld g
 |r=>loc r
noncomputable def obB(C:am)(ob:Role->Option HO)(U7 lb ld:Nat->am)(i:Nat):Role->Option HO
 |.ju=>ac (.lst ((aB i).map λg=>.ref (lb g)))
 |.book g=>if g<i then ac (.ins C (U7 g) [("kept",.ref (ld g))]) else ae
 |.gj g=>if g<i then ac (.dT []) else ae
 |r=>ob r
noncomputable def ajI(loc:Role->am)(acc:am)(lh:Nat->am):Role->am
 |.i8=>acc
 |.handed g=>lh g
 |r=>loc r
noncomputable def obH(ob:Role->Option HO)(lh:Nat->am)(i:Nat):Role->Option HO
 |.i8=>ac (.lst ((aB i).map λg=>.ref (lh g)))
 |.handed g=>if g<i then ac (.lst []) else ae
 |r=>ob r
noncomputable def dxF(dx dxs:am)(U7:Nat->am):Role->am
 |.dO=>dx
 |.cZ=>dxs
 |.book g=>U7 g
 |_=>0
noncomputable def ajJ(p sp lu:am)(ls:List am)(acc:am)(la:Nat->am)(acb:am)(lb ld:Nat->am)(ach vN acd:am)(lh:Nat->am)(acl aco:am):Role->am
 |.dO=>p
 |.cZ=>sp
 |.dR=>lu
 |.ig i=>ls.getD i 0
 |.uB=>acc
 |.rows g=>la g
 |.ju=>acb
 |.book g=>lb g
 |.gj g=>ld g
 |.aL=>ach
 |.groups=>vN
 |.i8=>acd
 |.handed i=>lh i
 |.cV=>acl
 |.fQ=>aco
 |_=>0
theorem MP{t:Ad}(T:Txt K mg t):cH P w K mg base iJ 5 t.pG t.tX ["self","town","callers"] (Og K t.be (nc t)):=by refine T.FG.F.jv ki λH Q E hr h=>?_;·obtain⟨p,s,y,ln,lr,lc,ns,rs,qs,cl,rfl,hp,hT,h12,tM,hw,hL,vM,aaQ,hok,k⟩:=h;exists _,(aq (eE (cG (HF T) hr T.AB (kN (pv 1) (pv 2)))) (aq (gK (pv 0) (pv 1) rfl) (aq (gK (pv 0) (cI T.yD (Gh T) hr T.XT (fR (pv 1))) rfl) (aq (gK (pv 0) (fE (kO ki ["bit","town"] [ae,ac 1]) rfl (Tz (nv rfl T.mw (v:=.ref t.fG) rfl)) (λ_ _ _ _=>by exact (gS 0 G2)) (λ_ _ _ _=>by exact jk) (λ_ _ _ _=>by exact (cG (MO T) hr T.FI (fR (pv 1))))) rfl) (aq (gK (pv 0) (fE (kO ki ["bit"] [ae]) rfl (Tz (nv rfl T.mw (v:=.ref t.fG) rfl)) (λ_ _ _ _=>by exact (gS 0 G3)) (λ_ _ _ _=>by exact jk) (λ_ _ _ _=>by exact (Zp T.xu.M (LJ T) (hr.mono (!_)) rfl T.agy T.xu.B .nil kH))) rfl) (aq (gK (pv 0) (fE (kO ki ["caller"] [ae]) rfl (eW (pv 2)) (λ_ _ _ _=>by exact (gS 0 G4)) (λ_ _ _ _=>by exact jk) (λ_ _ _ _=>by exact (yT K (pv 0) aA))) rfl) (aq (gK (pv 0) (fE (kO ki ["caller"] [ae]) rfl (eW (pv 2)) (λ_ _ _ _=>by exact (gS 0 G5)) (λ_ _ _ _=>by exact jk) (λ_ _ _ _=>by exact (yT K (pv 0) aA))) rfl) (aq (gK (pv 0) (fE (kO ki ["caller"] [ae]) rfl (eW (pv 2)) (λ_ _ _ _=>by exact (gS 0 G6)) (λ_ _ _ _=>by exact jk) (λ_ _ _ _=>by exact (fX gM))) rfl) (aq (gK (pv 0) (fX gM) rfl) (bz (gK (pv 0) (fX gM) rfl))))))))))),4;left;obtain⟨⟨dt,htp⟩,htn,vs,htr,_⟩:=id hT;have Hi:y≠p:=oN htp hp λz=>(by have:=(HO.ins.inj z).2.2;cases this);refine aY λNx U=>?_;exists 8,y,ln,lr,lc,ns,rs,qs,cl,2,hT,hL,vM,aaQ,hok,U _ _ ?_;have B0:IV H H p (λ_=>p) (λr=>if r=.dO then ac (.ins t.cY s []) else ae):=(by exists ⟨λr o e=>?_,λr q h1 h2 _=>?_⟩,2,-_,λb o e _=>e,λb hb=>.inl ?_;by_cases z:r=.dO;rw[eL z] at e;cases e;exact hp;rw[e8 z] at e;cases e;have g:∀{r:Role},(if r=Role.dO then ac (c0 t.cY s []) else ae)≠ae->r=.dO:=λ{r} h=>(by by_cases z:r=.dO;exact z;rw[e8 z] at h;exact ff rfl h);rw[g h1,g h2];obtain⟨_,_,e⟩:=hb;exact e.symm);refine aY λNx U=>?_;exists 8,p,_,s,[],2,hp,T.bG,T.n9,!_,?_;rw[eS (names:=[]) rfl rfl];refine U _ _ ?_;have B1:=B0.put (.ins t.cY s ([]++[(ba "town",cr y)]));have hT1:dN K t.be (upd H p (.ins t.cY s ([]++[(ba "town",cr y)]))) y ln lr ns rs:=hT.but (λb o e n=>by rw[aI n];exact e) hp Hi;have hp1:=au (H:=H) (a:=p) (o:=.ins t.cY s ([]++[(ba "town",cr y)]));have kq1:∀b x,cD K H b x->cD K (upd H p (.ins t.cY s ([]++[(ba "town",cr y)]))) b x:=λb x=>cD.past hp oV br;have hL1:=bI.past hp Z4 (br (o:=.ins t.cY s ([]++[(ba "town",cr y)]))) hL;have aaR:=vM.mono kq1;generalize upd H p (.ins t.cY s ([]++[(ba "town",cr y)]))=H1 at B1 hT1 hp1 hL1 aaR;refine aY λNx U=>?_;exists 1,λI J nsp ndx hne=>?_;have t2:aG H1 (upd (upd H1 J (.own I)) I (.ins t.c8 J [])):=(aG.new ndx).trans (aG.new (by rw[aI (bT hne)];exact nsp));exists I,J,y,ln,lr,ns,rs,2,au,hT1.mono t2,tM,hw,λlu L H2 Qz hls nlu nd el h2p h2u h2w kp=>⟨24⟩;have s2:aG H1 H2:=λb o e=>kp b o (t2 b o e) (aC e nsp);have ajL:H1 lu=ae:=t2.free Qz;have ajM:∀l∈L,H1 l=ae:=λl hl=>t2.free (hls l hl);have OS:wX H2 (acN I lu L) (XF t.c8 J y lu L (rs.map λr=>aB r.d.toNat)):=(by refine agr h2p h2u (by rw[af];exact el) (λi l w' e1 e2=>?_) nd nlu;rw[ak] at e2;cases e3:rs[i]? with|none=>rw[e3] at e2;cases e2|some r=>rw[e3] at e2;cases e2;exact h2w i l r e1 e3);have B2:=B1.join OS rfl (λr m=>by (cases r <;> first|exact ff rfl m|skip);exact nsp;exact ajL;rename_i i;show H1 (L.getD i 0)=ae;by_cases z:i<wL L;rw[ao,aa z];exact ajM _ (aP z);exact ff (show ((rs.map λr:R5=>aB r.d.toNat)[i]?.map λw=>cx (aT w))=ae by rw[jY (by rw[af];lia)];rfl) m) s2;have ajN:IK K t.be H2 y ln lr lc ns rs qs cl:=⟨hT1.mono s2,s2.seq hL1,aaR.mono λb x=>s2.bP⟩;have hp2:=s2 _ _ hp1;exists 1,p,_,s,1,hp2,T.bG,T.ni,(by show 1<1000;decide),4;rw[eS (names:=["town"]) rfl (by decide +kernel)];refine U _ _ ?_;have B3:=B2.put (.ins t.cY s (([]++[(ba "town",cr y)])++[(ba "strands",cr I)]));have agM:=ajN.put hp2 Hi (o:=.ins t.cY s (([]++[(ba "town",cr y)])++[(ba "strands",cr I)]));have hp3:=au (H:=H2) (a:=p) (o:=.ins t.cY s (([]++[(ba "town",cr y)])++[(ba "strands",cr I)]));generalize upd H2 p (.ins t.cY s (([]++[(ba "town",cr y)])++[(ba "strands",cr I)]))=H3 at B3 agM hp3;generalize anL:(λr=>if (XF t.c8 J y lu L (rs.map λr:R5=>aB r.d.toNat) r).isSome=ag then acN I lu L r else p)=LM at B3;generalize eob:(i9 (λr=>if (XF t.c8 J y lu L (rs.map λr:R5=>aB r.d.toNat) r).isSome=ag then XF t.c8 J y lu L (rs.map λr:R5=>aB r.d.toNat) r else i9 (λr=>if r=.dO then ac (.ins t.cY s []) else ae) .dO (.ins t.cY s ([]++[(ba "town",cr y)])) r) .dO (.ins t.cY s (([]++[(ba "town",cr y)])++[(ba "strands",cr I)])))=ob3 at B3;refine aY λNx U=>?_;exists 1,⟨_,T.gF _⟩,λA hacc=>?_;refine eX (n:=3) (λi ys X=>∃(Z:Nat->am) (G:Nat->List am),ys=(aB i).map (λg=>.ref (Z g))/\IV H X p (agJ LM A Z) (obR ob3 Z G i)/\(∀g,g<i->cP K X (G g) (iK (wL ns) (AQ ns)))) hacc (Uh (T.gF _)) (JU (T.gF _)) ?_ ?_ ?_;(·exists λ_=>0,λ_=>[],2,(B3.new hacc (r:=.uB) (!_) (.lst [])).ext (λr=>?_) (λr m=>?_),λg D=>ff D ∅;(·(cases r <;> first|rfl|skip);rename_i g;show ob3 (.rows g)=_;rw[show ob3 (.rows g)=ae by rw[<- eob];rfl];show ae=(if g<0 then ac (cx (([]:List am).map cr)) else ae);rw[e8 (um g)]);·(cases r <;> first|rfl|skip);rename_i g;exact ff (show ob3 (.rows g)=ae by rw[<- eob];rfl) m);(·rintro i ys X hi sx Y ⟨Z,G,rfl,B,hR⟩ x H4 ⟨rfl,hx⟩;exists 1,y,ln,lr,ns,rs,2,(agM.mono sx).lA,h12,λl Ur H5 s5 hl h5 ht=>?_;have Sh:=s5 _ _ Y;have B5:=((B.add s5 hl h5 (r:=.rows i) (λz=>by cases z)).agq (r:=.uB) (aW _) (λz=>by cases z) (.lst ((aB i).map (λg=>cr (Z g))++[.ref l])));have LN:l≠A:=(aC Y hl).symm;refine dF hacc hi (sx.trans s5) Sh (by rw[af,bJ];exact b9 ∅) ⟨fc Z i l,fc G i Ur,(yP Z i l).symm,B5.ext (λr=>?_) (λr m=>?_),λg D=>?_⟩;(·(cases r <;> first|rfl|skip);show ac (cx _)=ac (cx _);rw[yP];rename_i g;(show i9 (obR ob3 Z G i) (.rows i) _ (.rows g)=if g<i+1 then ac (cx ((fc G i Ur g).map cr)) else ae);by_cases z:g=i;subst z;rw[eK,eL ∅,cJ];rw[c5 (λe=>z (by cases e;rfl)),dG z];show (if g<i then ac (cx ((G g).map cr)) else ae)=_;by_cases z2:g<i;rw[eL z2,eL ∅];rw[e8 z2,e8 ∅]);(·(cases r <;> first|rfl|skip);rename_i g;show sq (agJ LM A Z) (.rows i) l (.rows g)=fc Z i l g;by_cases z:g=i;subst z;rw[gA,cJ];rw[fZ (λe=>z (by cases e;rfl)),dG z];rfl);by_cases z:g=i;subst z;rw[cJ];exact ht.mono λb x=>cD.past Sh c7 br;rw[dG z];exact ((hR g ∅).mono λb x=>s5.bP).mono λb x=>cD.past Sh c7 br);rintro ys H4 s4 Y ⟨Z,G,rfl,B4,hR4⟩;have ajP:=agM.mono s4;have YI:=s4 _ _ hp3;exists 1,p,_,s,1,YI,T.bG,T.mJ,(by show 2<1000;decide),4;rw[eS (names:=["town","strands"]) rfl (by decide +kernel)];refine U _ _ ?_;generalize eo5:c0 t.cY s ((([]++[(ba "town",cr y)])++[(ba "strands",cr I)])++[(ba "rows_by_group",cr A)])=o5;have B5:=B4.put o5;have agN:=ajP.put YI Hi (o:=o5);have hp5:=au (H:=H4) (a:=p) (o:=o5);have hR5:∀g,g<3->cP K (upd H4 p o5) (G g) (iK (wL ns) (AQ ns)):=λg D=>(hR4 g D).mono λb x=>cD.past YI oV br;generalize upd H4 p o5=H5 at B5 agN hp5 hR5;generalize ajR:agJ LM A Z=aaS at B5;generalize agO:i9 (obR ob3 Z G 3) .dO o5=tE at B5;have n5:∀g,tE .ju=ae/\tE (.book g)=ae/\tE (.gj g)=ae:=λg=>(by rw[<- agO,<- eob];exists 222);refine aY λNx U=>?_;exists 1,⟨_,T.gF _⟩,λC ac9=>?_;refine eX (n:=3) (λi ys X=>∃(O ld U7:Nat->am),ys=(aB i).map (λg=>.ref (O g))/\IV H X p (ac5 aaS C O ld) (obB t.fT tE U7 O ld i)) ac9 (Uh (T.gF _)) (JU (T.gF _)) ?_ ?_ ?_;(·exists λ_=>0,λ_=>0,λ_=>0,2,(B5.new ac9 (r:=.ju) (λz=>by cases z) (.lst [])).ext (λr=>?_) (λr m=>?_);(·(cases r <;> first|rfl|skip);rename_i g;show tE (.book g)=(if g<0 then ac (c0 t.fT 0 [("kept",.ref 0)]) else ae);rw[e8 (um g)];exact (n5 g).2.1;rename_i g;show tE (.gj g)=(if g<0 then ac (HO.dT []) else ae);rw[e8 (um g)];exact (n5 g).2.2);·(cases r <;> first|rfl|skip);rename_i g;exact ff (n5 g).2.1 m;rename_i g;exact ff (n5 g).2.2 m);(·rintro i ys X hi sx Y ⟨O,ld,U7,rfl,B⟩ x H6 ⟨rfl,hx⟩;refine λbp Gy nbp anO hne=>?_;have t6:aG H6 (upd (upd H6 Gy (.own bp)) bp (.ins t.fT Gy [])):=(aG.new anO).trans (aG.new (by rw[aI (bT hne)];exact nbp));exists bp,Gy,2,au,λd H7 hd hB kp=>⟨24⟩;have s7:aG H6 H7:=λb o e=>kp b o (t6 b o e) (aC e nbp);have hd6:H6 d=ae:=t6.free hd;obtain⟨⟨YE,h7b⟩,h7d⟩:=hB;have nbd:bp≠d:=Ux h7b h7d (λe=>by cases e);have sm:aG H6 (hide H7 d):=λb o e=>(by have nb:b≠d:=aC e hd6;show (if b=d then ae else H7 b)=ac o;rw[e8 nb];exact s7 _ _ e);have sm2:aG (hide H7 d) H7:=λb o e=>(by have e:(if b=d then ae else H7 b)=ac o:=e;by_cases z:b=d;rw[eL z] at e;cases e;rw[e8 z] at e;exact e);have hmb:(hide H7 d) bp=ac (.ins t.fT YE [("kept",.ref d)]):=(by show (if bp=d then ae else H7 bp)=_;rw[e8 nbd];exact h7b);have hmd:(hide H7 d) d=ae:=eL rfl;have B1:=B.add sm nbp hmb (r:=.book i) (λz=>by cases z);have B2:=B1.add sm2 hmd h7d (r:=.gj i) (λz=>by cases z);have B3:=B2.agq (r:=.ju) (aW _) (λz=>by cases z) (.lst ((aB i).map (λg=>cr (O g))++[.ref bp]));refine dF ac9 hi (sx.trans s7) (s7 _ _ Y) (by rw[af,bJ];exact b9 ∅) ⟨fc O i bp,fc ld i d,fc U7 i YE,(yP O i bp).symm,B3.ext (λr=>?_) (λr m=>?_)⟩;(·(cases r <;> first|rfl|skip);show ac (cx _)=ac (cx _);rw[yP];rename_i g;(show i9 (obB t.fT tE U7 O ld i) (.book i) _ (.book g)=if g<i+1 then ac (c0 t.fT (fc U7 i YE g) [("kept",.ref (fc ld i d g))]) else ae);by_cases z:g=i;subst z;rw[eK,eL ∅,cJ,cJ];rw[c5 (λe=>z (by cases e;rfl)),dG z,dG z];show (if g<i then ac (c0 t.fT (U7 g) [("kept",.ref (ld g))]) else ae)=_;by_cases z2:g<i;rw[eL z2,eL ∅];rw[e8 z2,e8 ∅];rename_i g;(show i9 (i9 (obB t.fT tE U7 O ld i) (.book i) _) (.gj i) _ (.gj g)=if g<i+1 then ac (HO.dT []) else ae);by_cases z:g=i;subst z;rw[eK,eL ∅];rfl;rw[c5 (λe=>z (by cases e;rfl))];show (if g<i then ac (HO.dT []) else ae)=_;by_cases z2:g<i;rw[eL z2,eL ∅];rw[e8 z2,e8 ∅]);·(cases r <;> first|rfl|skip);rename_i g;show sq (ac5 aaS C O ld) (.book i) bp (.book g)=fc O i bp g;by_cases z:g=i;subst z;rw[gA,cJ];rw[fZ (λe=>z (by cases e;rfl)),dG z];rfl;rename_i g;show sq (sq (ac5 aaS C O ld) (.book i) bp) (.gj i) d (.gj g)=fc ld i d g;by_cases z:g=i;subst z;rw[gA,cJ];rw[fZ (λe=>z (by cases e;rfl)),dG z];rfl);rintro ys H6 s6 Y ⟨O,ld,U7,rfl,B6⟩;have ajS:=agN.mono s6;have hR6:∀g,g<3->cP K H6 (G g) (iK (wL ns) (AQ ns)):=λg D=>(hR5 g D).mono λb x=>s6.bP;have hp6:=s6 _ _ hp5;subst eo5;exists 1,p,_,s,1,hp6,T.bG,T.rY,(by show 3<1000;decide),4;rw[eS (names:=["town","strands","rows_by_group"]) rfl (by decide +kernel)];refine U _ _ ?_;generalize eo7:c0 t.cY s (((([]++[(ba "town",cr y)])++[(ba "strands",cr I)])++[(ba "rows_by_group",cr A)])++[(ba "books",cr C)])=o7;have B7:=B6.put o7;have U8:=ajS.put hp6 Hi (o:=o7);have hp7:=au (H:=H6) (a:=p) (o:=o7);have hR7:∀g,g<3->cP K (upd H6 p o7) (G g) (iK (wL ns) (AQ ns)):=λg D=>(hR6 g D).mono λb x=>cD.past hp6 oV br;generalize upd H6 p o7=H7 at B7 U8 hp7 hR7;have nh:(qs.map cr).length=cl.length:=(by rw[af,U8.tup.len,af]);have ajT:∀{i:Nat} {x:V} {X:Hp},(qs.map cr)[i]?=ac x->IK K t.be X y ln lr lc ns rs qs cl->∃(hi:i<wL cl) (q:am),x=.ref q/\cD K X q [.int cl[i].1,.int cl[i].2]:=λ{i x X} hx ev=>(by have hi:=(aj.mp hx).1;rw[nh] at hi;have hq:i<wL qs:=(by rw[<- af (f:=cr),nh];exact hi);exists hi,qs[i],4,ev.tup.at' i _ _ (aa hq) (by rw[ak,aa hi];rfl);rw[ak,aa hq] at hx;exact (aO hx).symm);refine aY λNx U=>?_;exists 1,lc,2,⟨_,U8.vo⟩,λN agP=>?_;refine VO (λi=>cl[i]?.map λc=>cn (c.1:Nat)) agP U8.vo ∅ (λi x X R S hx sx h1 h2=>?_) (λH8 s8 Y=>?_);obtain⟨hi,q,rfl,hq⟩:=ajT hx (U8.mono sx);exists 1,q,39,hq,2,h1 _ _ (aG.refl _) (by rw[aa hi];rfl);rw[nh,J3] at Y;have B8:=B7.add s8 agP Y (r:=.aL) (λz=>by cases z);have ajU:=U8.mono s8;have hp8:=s8 _ _ hp7;subst eo7;exists 1,p,_,s,1,hp8,T.bG,T.lN,(by show 4<1000;decide),4;rw[eS (names:=["town","strands","rows_by_group","books"]) rfl (by decide +kernel)];refine U _ _ ?_;generalize eo9:c0 t.cY s ((((([]++[(ba "town",cr y)])++[(ba "strands",cr I)])++[(ba "rows_by_group",cr A)])++[(ba "books",cr C)])++[(ba "homes",cr N)])=o9;have B9:=B8.put o9;have Yj:=ajU.put hp8 Hi (o:=o9);have hp9:=au (H:=H8) (a:=p) (o:=o9);have hR9:∀g,g<3->cP K (upd H8 p o9) (G g) (iK (wL ns) (AQ ns)):=λg D=>((hR7 g D).mono λb x=>s8.bP).mono λb x=>cD.past hp8 oV br;generalize upd H8 p o9=H9 at B9 Yj hp9 hR9;refine aY λNx U=>?_;exists 1,lc,2,⟨_,Yj.vo⟩,λvN agQ=>?_;refine VO (λi=>cl[i]?.map λc=>cn (c.2:Nat)) agQ Yj.vo ∅ (λi x X R S hx sx h1 h2=>?_) (λNb Fc Y=>?_);obtain⟨hi,q,rfl,hq⟩:=ajT hx (Yj.mono sx);exists 1,q,39,hq,2,h1 _ _ (aG.refl _) (by rw[aa hi];rfl);rw[nh,J3] at Y;have B10:=B9.add Fc agQ Y (r:=.groups) (λz=>by cases z);have aeZ:=Yj.mono Fc;have ada:=Fc _ _ hp9;subst eo9;exists 1,p,_,s,1,ada,T.bG,T.mq,(by show 5<1000;decide),4;rw[eS (names:=["town","strands","rows_by_group","books","homes"]) rfl (by decide +kernel)];refine U _ _ ?_;generalize anT:c0 t.cY s (((((([]++[(ba "town",cr y)])++[(ba "strands",cr I)])++[(ba "rows_by_group",cr A)])++[(ba "books",cr C)])++[(ba "homes",cr N)])++[(ba "groups",cr vN)])=o11;have B11:=B10.put o11;have Wb:=aeZ.put ada Hi (o:=o11);have agR:=au (H:=Nb) (a:=p) (o:=o11);have agS:∀g,g<3->cP K (upd Nb p o11) (G g) (iK (wL ns) (AQ ns)):=λg D=>((hR9 g D).mono λb x=>Fc.bP).mono λb x=>cD.past ada oV br;generalize upd Nb p o11=qC at B11 Wb agR agS;generalize agT:sq (sq (ac5 aaS C O ld) .aL N) .groups vN=ae0 at B11;generalize ae1:i9 (i9 (i9 (i9 (i9 (obB t.fT tE U7 O ld 3) .dO _) .aL _) .dO _) .groups _) .dO o11=aaU at B11;have n11:∀g,aaU .i8=ae/\aaU (.handed g)=ae:=λg=>(by rw[<- ae1,<- agO,<- eob];exists 22);refine aY λNx U=>?_;exists 1,lc,2,⟨_,Wb.vo⟩,λW Se=>?_;refine eX (n:=(qs.map cr).length) (λi ys X=>∃lh:Nat->am,ys=(aB i).map (λg=>.ref (lh g))/\IV H X p (ajI ae0 W lh) (obH aaU lh i)) Se (wU Wb.vo) (mR Wb.vo) ?_ ?_ ?_;(·exists λ_=>0,2,(B11.new Se (r:=.i8) (λz=>by cases z) (.lst [])).ext (λr=>?_) (λr m=>?_);(·(cases r <;> first|rfl|skip);rename_i g;show aaU (.handed g)=(if g<0 then ac (cx []) else ae);rw[e8 (um g)];exact (n11 g).2);·(cases r <;> first|rfl|skip);rename_i g;exact ff (n11 g).2 m);(·rintro i ys X hi sx Y ⟨lh,rfl,B⟩ x Wc ⟨rfl,hx⟩;exists aS _,λl hl=>?_;have u:=aG.new (o:=.lst []) hl;have B3:=(B.new hl (r:=.handed i) (λz=>by cases z) (.lst [])).agq (r:=.i8) (aW _) (λz=>by cases z) (.lst ((aB i).map (λg=>cr (lh g))++[.ref l]));refine dF Se hi (sx.trans u) (u _ _ Y) (by rw[af,bJ];exact b9 ∅) ⟨fc lh i l,(yP lh i l).symm,B3.ext (λr=>?_) (λr m=>?_)⟩;(·(cases r <;> first|rfl|skip);show ac (cx _)=ac (cx _);rw[yP];rename_i g;(show i9 (obH aaU lh i) (.handed i) _ (.handed g)=if g<i+1 then ac (cx []) else ae);by_cases z:g=i;subst z;rw[eK,eL ∅];rw[c5 (λe=>z (by cases e;rfl))];show (if g<i then ac (cx []) else ae)=_;by_cases z2:g<i;rw[eL z2,eL ∅];rw[e8 z2,e8 ∅]);·(cases r <;> first|rfl|skip);rename_i g;show sq (ajI ae0 W lh) (.handed i) l (.handed g)=fc lh i l g;by_cases z:g=i;subst z;rw[gA,cJ];rw[fZ (λe=>z (by cases e;rfl)),dG z];rfl);rintro ys Wc s12 Y ⟨lh,rfl,B12⟩;rw[nh] at B12;have ajW:∀g,g<3->cP K Wc (G g) (iK (wL ns) (AQ ns)):=λg D=>(agS g D).mono λb x=>s12.bP;have agU:=s12 _ _ agR;subst anT;exists 1,p,_,s,1,agU,T.bG,T.zU,(by show 6<1000;decide),4;rw[eS (names:=["town","strands","rows_by_group","books","homes","groups"]) rfl (by decide +kernel)];refine U _ _ ?_;generalize anV:c0 t.cY s ((((((([]++[(ba "town",cr y)])++[(ba "strands",cr I)])++[(ba "rows_by_group",cr A)])++[(ba "books",cr C)])++[(ba "homes",cr N)])++[(ba "groups",cr vN)])++[(ba "handed",cr W)])=mu;have B13:=B12.put mu;have agV:=au (H:=Wc) (a:=p) (o:=mu);have agW:∀g,g<3->cP K (upd Wc p mu) (G g) (iK (wL ns) (AQ ns)):=λg D=>(ajW g D).mono λb x=>cD.past agU oV br;generalize upd Wc p mu=X7 at B13 agV agW;refine aY λNx U=>?_;exists aS _,λacl agX=>?_;have B14:=B13.new agX (r:=.cV) (λz=>by cases z) (.lst []);have u14:=aG.new (o:=.lst []) agX;have adb:=u14 _ _ agV;have agY:∀g,g<3->cP K (upd X7 acl (.lst [])) (G g) (iK (wL ns) (AQ ns)):=λg D=>(agW g D).mono λb x=>u14.bP;generalize upd X7 acl (.lst [])=H14 at B14 adb agY;subst anV;exists 1,p,_,s,1,adb,T.bG,T.fC,(by show 7<1000;decide),4;rw[eS (names:=["town","strands","rows_by_group","books","homes","groups","handed"]) rfl (by decide +kernel)];refine U _ _ ?_;generalize anZ:c0 t.cY s (((((((([]++[(ba "town",cr y)])++[(ba "strands",cr I)])++[(ba "rows_by_group",cr A)])++[(ba "books",cr C)])++[(ba "homes",cr N)])++[(ba "groups",cr vN)])++[(ba "handed",cr W)])++[(ba "letters",cr acl)])=o15;have B15:=B14.put o15;have ajX:=au (H:=H14) (a:=p) (o:=o15);have ajY:∀g,g<3->cP K (upd H14 p o15) (G g) (iK (wL ns) (AQ ns)):=λg D=>(agY g D).mono λb x=>cD.past adb oV br;generalize upd H14 p o15=H15 at B15 ajX ajY;exists aS _,λaco aj0=>?_;have B16:=B15.new aj0 (r:=.fQ) (λz=>by cases z) (.lst []);have u16:=aG.new (o:=.lst []) aj0;have agZ:=u16 _ _ ajX;have aj1:∀g,g<3->cP K (upd H15 aco (.lst [])) (G g) (iK (wL ns) (AQ ns)):=λg D=>(ajY g D).mono λb x=>u16.bP;generalize upd H15 aco (.lst [])=Xh at B16 agZ aj1;subst anZ;exists 1,p,_,s,1,agZ,T.bG,T.jV,(by show 8<1000;decide),4;rw[eS (names:=["town","strands","rows_by_group","books","homes","groups","handed","letters"]) rfl (by decide +kernel)];generalize an0:c0 t.cY s ((((((((([]++[(ba "town",cr y)])++[(ba "strands",cr I)])++[(ba "rows_by_group",cr A)])++[(ba "books",cr C)])++[(ba "homes",cr N)])++[(ba "groups",cr vN)])++[(ba "handed",cr W)])++[(ba "letters",cr acl)])++[(ba "copies",cr aco)])=o17;have B17:=B16.put o17;have aj2:∀g,g<3->cP K (upd Xh p o17) (G g) (iK (wL ns) (AQ ns)):=λg D=>(aj1 g D).mono λb x=>cD.past agZ oV br;generalize upd Xh p o17=qb at B17 aj2;subst an0 ae1 agT agO ajR eob anL;have hws:(rs.map λr:R5=>aB r.d.toNat).length=L.length:=(by rw[af];exact el.symm);have an2:L.map cr=(aB (rs.map λr:R5=>aB r.d.toNat).length).map λi=>cr (L.getD i 0):=(by rw[hws];refine yZ (-_) λi h1 h2=>?_;simp at h1;simp[h1]);have B18:IV H qb p (ajJ p I lu L A Z C O ld N vN W lh acl aco) (desc (nc t) (dxF s J U7) y (ajJ p I lu L A Z C O ld N vN W lh acl aco) ⟨G,λ_=>[],[]⟩ (S0 ns rs cl)):=(by refine B17.ext (λr=>?_) (λr m=>?_);(·(cases r <;> first|rfl|skip);(case dR=>show ac (cx (L.map cr))=ac (cx ((aB (rs.map λr:R5=>aB r.d.toNat).length).map λi=>cr (L.getD i 0)));rw[<- an2]);(case ig j=>show (if ((rs.map λr:R5=>aB r.d.toNat)[j]?.map λw=>cx (aT w)).isSome=ag then ((rs.map λr:R5=>aB r.d.toNat)[j]?.map λw=>cx (aT w)) else ae)=((rs.map λr:R5=>aB r.d.toNat)[j]?.map λw=>cx (aT w));cases (rs.map λr:R5=>aB r.d.toNat)[j]? <;> rfl);(case aL=>show ac (cx _)=ac (cx ((cl.map (·.1)).map _));rw[cU];rfl);(case groups=>show ac (cx _)=ac (cx ((cl.map (·.2)).map _));rw[cU];rfl);(case i8=>show ac (cx ((aB (wL cl)).map λg=>cr (lh g)))=ac (cx ((aB (cl.map λ_=>([]:List Nat)).length).map λg=>cr (lh g)));rw[af]);case handed j=>show (if j<wL cl then ac (cx []) else ae)=((cl.map λ_=>([]:List Nat))[j]?.map λw=>cx (aT w));rw[ak];by_cases z:j<wL cl;rw[eL z,aa z];rfl;rw[e8 z,jY ∅];rfl);·(cases r <;> first|rfl|exact ff rfl m|skip);case ig j=>show (if ((rs.map λr:R5=>aB r.d.toNat)[j]?.map λw=>cx (aT w)).isSome=ag then L.getD j 0 else p)=L.getD j 0;have m:(if ((rs.map λr:R5=>aB r.d.toNat)[j]?.map λw=>cx (aT w)).isSome=ag then ((rs.map λr:R5=>aB r.d.toNat)[j]?.map λw=>cx (aT w)) else ae)≠ae:=m;cases e:(rs.map λr:R5=>aB r.d.toNat)[j]? with|none=>rw[e] at m;exact ff rfl m|some w'=>rfl);refine k _ qb ⟨_,dxF s J U7,⟨G,λ_=>[],[]⟩,B18.np,B18.own,λb=>Iff.rfl,⟨aj2,λi l e=>?_,⟨2,λi q x e=>by cases e⟩⟩⟩ B18.kp B18.fr;cases e
inductive Wd(K:ai)(c:NC)(vs:List V)(H:Hp)(Q:VK)(E:XK):Prop
 |mk(F:am->Prop)(p tp:am)(n g:Nat)(s:NS):vs=[.ref p,.int g]->cE K c H F p tp n s->g<3->(∀l(qs:List am)H',aG H H'->H l=ae->H' l=ac (.lst (qs.map cr))->cP K H' qs (iK n (s.R g))->Q (.ref l) H')->Wd K c vs H Q E
theorem wF{t:Ad}(T:Txt K mg t):cH P w K mg base iJ 2 t.uO t.zE ["self","group"] (Wd K (nc t)):=by refine T.u0.F.jv Rt λH Q E i h=>?_;·obtain⟨F,p,r,n,g,st,rfl,⟨a,s,q,j,O,m,f⟩,c,k⟩:=h;exists _,(aq (eE (CH (vI T) (i.mono (!_)) rfl T.fW.g T.fW.F.kp T.fW.B .nil Ng (fR (pv 1)))) (oR (gx gC (by rfl) T.sM boot_list (fR (xL (bg (pv 0) rfl) (pv 1)))))),4;left;have e:=O.get .dO _ rfl;rw[j] at e;exists 1,g,2,λ_=>?_,λz=>ff ⟨66⟩ z;exists 1,p,7,e,T.bG,T.mJ,21,a .uB,39,bI.of (O.get .uB _ rfl),oY c,a (.rows g),1,.inl (bI.of (O.get (.rows g) _ (eL c))),λl d=>?_;have u:=aG.new (o:=.lst ((q.rq g).map cr)) d;exact k l (q.rq g) _ u d au ((f.rows g c).mono λb x=>u.bP)
inductive We(K:ai)(CT:am)(c:NC)(vs:List V)(H:Hp)(Q:VK)(E:XK):Prop
 |mk(F:am->Prop)(p tp ln lr:am)(ns:List Int)(rs:List R5)(s:NS)(g:Nat):vs=[.ref p,.int g]->NW K c CT H F p tp ln lr ns rs s->cR ns rs->Dh ns rs s->g<3->(∀l H',aG H H'->H l=ae->H' l=ac (.lst (aT (Ax rs s.ws g)))->Q (.ref l) H')->We K CT c vs H Q E
theorem Cw{t:Ad}(T:Txt K mg t):cH P w K mg base iJ 3 t.uP t.zF ["self","group"] (We K t.be (nc t)):=by refine T.zP.F.jv Ru λH Q E A h=>?_;·obtain⟨F,p,n,d,x,i,e,st,g,rfl,N,ok,s,J,k⟩:=h;exists _,(oR (qQ (bg (pv 0) rfl) T.fj T.uZ.m (Jh T) (A.mono (!_)) T.uZ.B .nil Ng (fR (pv 1)))),4;left;obtain⟨a,v,q,C,O,D,G⟩:=N.dO;have c:=O.get .dO _ rfl;rw[C] at c;exists 1,p,7,c,T.bG,T.ni,2,a .cZ,v .cZ,1,O.get .cZ _ rfl,21,a .cZ,n,a .dR,d,x,i,e,st.ws,g,2,N.lA,O.strAt,s.wl,ok.Z6,(λr b=>⟨(ok.ok r b).e1,(ok.ok r b).e7⟩),λy l f I _ o j u=>?_,λz=>ff ⟨66⟩ z;have:y=g:=∅;subst this;exact k l f o j u
inductive Si(K:ai)(CT:am)(c:NC)(vs:List V)(H:Hp)(Q:VK)(E:XK):Prop
 |mk(F:am->Prop)(p tp ln lr:am)(ns:List Int)(rs:List R5)(s:NS)(o:cR ns rs)(g:Nat):vs=[.ref p,.int g]->NW K c CT H F p tp ln lr ns rs s->Dh ns rs s->g<3->(∀l os H',aG H H'->H l=ae->H' l=ac (.lst (aT os))->ie (p9 ns rs o s.ws g) (s.R g) os->wL os<=12->Q (.ref l) H')->Si K CT c vs H Q E
theorem Ao{t:Ad}(T:Txt K mg t):cH P w K mg base iJ 6 t.rQ t.we ["self","group"] (Si K t.be (nc t)):=by refine T.wz.F.jv Pp λH Q E i h=>?_;·obtain⟨F,p,e,j,r,ns,m,st,ok,g,rfl,N,o,f,k⟩:=h;exists _,(oR (CH (R4 T) (i.mono (!_)) rfl T.BI T.FE.F.kp T.FE.B .nil kH (Ic (bg (pv 0) rfl) (cM (pv 0) T.bG T.zP (Cw T) i (fR (pv 1))) (cM (pv 0) T.bG T.u0 (wF T) i (fR (pv 1)))))),4;left;obtain⟨J,Y,q,M,O,S,X⟩:=id N.dO;have c:=O.get .dO _ rfl;rw[M] at c;exists 1,p,7,c,T.bG,T.n9,24;exists 1,p,31,c,21,F,p,e,j,r,ns,m,st,g,2,N,ok,o,f,λv V b y C=>?_;have n:=N.mono b;exists 1,p,31,b _ _ c,21,F,p,e,ns.length,g,st,2,n.dO,f,λs W U a x z L=>?_;exists e,j,r,v,s,ns,m,_,ok.nd,ok.ok,Ba,st.R g,2,n.lA.mono a,bI.of (a _ _ C),L.Uz (bI.of z),by have:=ok.n10;lia,ok.Z6,o.fit g f,λl os u D G I A d=>?_;exact k l os u (b.trans (a.trans D)) ((b.trans a).free G) I A d
inductive Sj(K:ai)(c:NC)(vs:List V)(H:Hp)(Q:VK)(E:XK):Prop
 |mk(F:am->Prop)(p tp:am)(n g:Nat)(s:NS):vs=[.ref p,.int g]->cE K c H F p tp n s->g<3->(s.ts g).length<64->(∀l(qs:List am)(us:List T3)H',aG H H'->H l=ae->H' l=ac (.lst (qs.map cr))->gP K H' qs us->us.Perm (s.ts g)->CM us->Q (.ref l) H')->Sj K c vs H Q E
theorem Qi{t:Ad}(T:Txt K mg t):cH P w K mg base iJ 2 t.rR t.wg ["self","group"] (Sj K (nc t)):=by refine T.Ii.F.jv Pq λH Q E d h=>?_;·obtain⟨F,p,o,n,g,st,rfl,⟨a,f,q,i,O,j,l⟩,b,c,k⟩:=h;exists _,(aq (eE (CH (vI T) (d.mono (!_)) rfl T.fW.g T.fW.F.kp T.fW.B .nil Ng (fR (pv 1)))) (oR (i7 (xL (bg (pv 0) rfl) (pv 1)) T.zT T.zO.m (MN T) (d.mono (!_)) T.zO.B .nil kH))),4;left;have e:=O.get .dO _ rfl;rw[i] at e;exists 1,g,2,λ_=>?_,λz=>ff ⟨66⟩ z;exists 1,p,7,e,T.bG,T.rY,21,a .ju,39,bI.of (O.get .ju _ rfl),oY b,a (.book g),f (.book g),1,O.get (.book g) _ (eL b),2,a (.book g),a (.gj g),st.ts g,2,O.Pa b,c,k
inductive Sk(K:ai)(CT:am)(c:NC)(vs:List V)(H:Hp)(Q:VK)(E:XK):Prop
 |mk(F:am->Prop)(p tp ln lr:am)(ns:List Int)(rs:List R5)(s:NS)(h:Nat):vs=[.ref p,.int h]->NW K c CT H F p tp ln lr ns rs s->h<wL ns->Q .gk H->Sk K CT c vs H Q E
theorem vJ{t:Ad}(T:Txt K mg t):cH P w K mg base iJ 1 t.jd t.kK ["self","house"] (Sk K t.be (nc t)):=by refine T.pV.F.jv Ej λH Q E r h=>?_;·obtain⟨F,p,d,i,o,ns,j,st,x,rfl,N,m,k⟩:=h;exists _,(bz (cC (jg (jZ rK oO aA (pv 1) (bg (bg (pv 0) rfl) rfl))) fh bw)),4;left;obtain⟨e,n,q,f,O,g,l⟩:=id N.dO;obtain⟨⟨c,a⟩,_⟩:=id N.lA;have b:=O.get .dO _ rfl;rw[f] at b;exists 1914;rw[fy (show (0:Int)<=(x:Int) by lia)];refine fY ⟨1,p,7,b,T.bG,T.n9,2,d,_,c,31,a,T.gp,T.ow,2914⟩;rw[fy (show (x:Int)<(ns.length:Int) by lia)];exact e9 k
inductive Oh(K:ai)(c:NC)(vs:List V)(H:Hp)(Q:VK)(E:XK):Prop
 |mk(F:am->Prop)(p tp:am)(n x:Nat)(s:NS):vs=[.ref p,.int x]->cE K c H F p tp n s->x<wL s.aL->Q .gk H->Oh K c vs H Q E
theorem jl{t:Ad}(T:Txt K mg t):cH P w K mg base iJ 1 t.iP t.jS ["self","caller"] (Oh K (nc t)):=by refine T.iQ.F.jv Dj λH Q E j h=>?_;·obtain⟨F,p,g,n,x,st,rfl,⟨a,i,q,c,O,d,e⟩,f,k⟩:=h;exists _,(bz (cC (jg (jZ rK oO aA (pv 1) (lS T.fV (bg (pv 0) rfl)))) fh bw)),4;left;have b:=O.get .dO _ rfl;rw[c] at b;exists 1914;rw[fy (show (0:Int)<=(x:Int) by lia)];refine fY ⟨1,p,7,b,T.bG,T.lN,2,a .aL,1,.inl (bI.of (O.get .aL _ rfl)),914⟩;rw[af,fy (show (x:Int)<(st.aL.length:Int) by lia)];exact e9 k
inductive Sl(K:ai)(CT:am)(c:NC)(vs:List V)(H:Hp)(Q:VK)(E:XK):Prop
 |mk(F:am->Prop)(p tp ln lr:am)(ns:List Int)(rs:List R5)(s:NS)(h g:Nat):vs=[.ref p,.int h,.int g]->NW K c CT H F p tp ln lr ns rs s->h<wL ns->g<3->(∀q H',aG H H'->cD K H' q (cW (s.R g h))->Q (.ref q) H')->Sl K CT c vs H Q E
theorem MQ{t:Ad}(T:Txt K mg t):cH P w K mg base iJ 3 t.pH t.tY ["self","house","group"] (Sl K t.be (nc t)):=by refine T.FH.F.jv Mq λH Q E i h=>?_;·obtain⟨F,p,e,m,u,ns,o,st,x,g,rfl,N,d,s,k⟩:=h;exists _,(aq (eE (cM (pv 0) T.bG T.pV (vJ T) i (fR (pv 1)))) (oR (xL (cM (pv 0) T.bG T.u0 (wF T) i (fR (pv 2))) (pv 1)))),4;left;obtain⟨y,G,q,z,O,A,B⟩:=id N.dO;have c:=O.get .dO _ rfl;rw[z] at c;exists 1,p,31,c,21,F,p,e,m,u,ns,o,st,x,2,N,d,4;exists 1,p,31,c,21,F,p,e,ns.length,g,st,2,N.dO,s,λl b j n D r f=>?_;have C:wL b=ns.length:=(by rw[f.len];simp[iK]);have a:x<wL b:=∅;exists 1,l,39,bI.of r,bO (v:=.ref b[x]) (by rw[ak,aa a];rfl),k _ j n (f.at' x _ _ (aa a) ?_);unfold iK;rw[ak,jn d];rfl
inductive aaW(K:ai)(c:NC)(vs:List V)(H:Hp)(Q:VK)(E:XK):Prop
 |mk(F:am->Prop)(p tp:am)(n x:Nat)(s:NS)(hd:List Nat):vs=[.ref p,.int x]->cE K c H F p tp n s->x<wL s.aL->s.had[x]?=ac hd->(∀l H',aG H H'->H l=ae->H' l=ac (.lst (aT hd))->Q (.ref l) H')->aaW K c vs H Q E
theorem U9{t:Ad}(T:Txt K mg t):cH P w K mg base iJ 2 t.yu t.CU ["self","caller"] (aaW K (nc t)):=by refine T.NF.F.jv UE λH Q E i h=>?_;·obtain⟨F,p,g,n,x,st,e,rfl,N,f,b,k⟩:=h;exists _,(aq (eE (cM (pv 0) T.bG T.iQ (jl T) i (fR (pv 1)))) (oR (gx gC (by rfl) T.sM boot_list (fR (xL (bg (pv 0) rfl) (pv 1)))))),4;left;obtain⟨a,r,q,j,O,m,o⟩:=id N;have d:=O.get .dO _ rfl;rw[j] at d;have c:=(aj.mp b).1;exists 1,p,31,d,21,F,p,g,n,x,st,2,N,f,4;exists 1,p,7,d,T.bG,T.zU,21,a .i8,39,bI.of (O.get .i8 _ rfl),oY c,a (.handed x),1,.inl (bI.of (O.get (.handed x) (.lst (aT e)) (by show (st.had[x]?.map _)=_;rw[b];rfl))),λl c=>?_;exact k l _ (aG.new c) c au
inductive Oi(K:ai)(c:NC)(vs:List V)(H:Hp)(Q:VK)(E:XK):Prop
 |mk(F:am->Prop)(p tp:am)(n:Nat)(s:NS):vs=[.ref p]->cE K c H F p tp n s->(∀l(qs:List am)H',aG H H'->H l=ae->H' l=ac (.lst (qs.map cr))->cP K H' qs (s.cps.map Cp.vs)->Q (.ref l) H')->Oi K c vs H Q E
theorem ko{t:Ad}(T:Txt K mg t):cH P w K mg base iJ 1 t.pI t.tZ ["self"] (Oi K (nc t)):=by refine T.eN.F.jv Mr λH Q E m h=>?_;·obtain⟨F,p,i,n,st,rfl,N,k⟩:=h;exists _,(oR (gx gC (by rfl) T.sM boot_list (fR (bg (pv 0) rfl)))),4;left;obtain⟨a,j,q,f,O,g,e⟩:=id N;have d:=O.get .dO _ rfl;rw[f] at d;exists 1,p,7,d,T.bG,T.jV,2,a .fQ,1,.inl (bI.of (O.get .fQ _ rfl)),λl c=>?_;have u:=aG.new (o:=.lst (q.cq.map cr)) c;exact k l q.cq _ u c au (e.cps.mono λb x=>u.bP)
noncomputable def qe(g:Nat)(l:LS):LS:=if l.grp=g then {l with old:=ag} else l
noncomputable def rZ(s:NS)(g:Nat):NS:={s with ts:=fc s.ts g [],ls:=s.ls.map (qe g)}
inductive Wf(K:ai)(c:NC)(vs:List V)(H:Hp)(Q:VK)(E:XK):Prop
 |mk(F:am->Prop)(p tp:am)(n g:Nat)(s:NS):vs=[.ref p,.int g]->cE K c H F p tp n s->g<3->(∀F' H',cE K c H' F' p tp n (rZ s g)->Step H F H' F'->Q .gk H')->Wf K c vs H Q E
theorem qN{t:Ad}(T:Txt K mg t):cH P w K mg base iJ 2 t.j6 t.nJ ["self","group"] (Wf K (nc t)):=by refine T.nN.F.jv yl λH Q E hr h=>?_;·obtain⟨F,p,Y,n,g,st,rfl,⟨f,dx,q,Z,O,hF,hT⟩,A,k⟩:=h;exists _,(aq (eE (i7 (xL (bg (pv 0) rfl) (pv 1)) T.zT T.xw.m (LK T) (hr.mono (!_)) T.xw.B .nil kH)) (bz (fS (eW (bg (pv 0) rfl)) (gT 2 yl) (bz (cC (qT kU (bg (pv 2) rfl) (pv 1)) (bz (gK (pv 2) MY rfl)) bw))))),4;left;have cy:=O.get .dO _ rfl;rw[Z] at cy;exists 1,p,7,cy,T.bG,T.rY,21,f .ju,39,bI.of (O.get .ju _ rfl),oY A,f (.book g),dx (.book g),1,O.get (.book g) _ (eL A),2,f (.book g),f (.gj g),st.ts g,2,O.Pa A,λd' U G hB kp=>?_;obtain⟨⟨YE,L⟩,C⟩:=hB;obtain⟨v,N',D⟩:=UA Z O hF hT A G L C kp;obtain⟨b,j,q',s,M,R,S⟩:=N';have X:kC K (nc t) U v b j q' p Y n {st with ts:=fc st.ts g []}:=⟨s,M,R,S⟩;have u:=M.get .dO _ rfl;rw[s] at u;have Sm:=M.get .cV _ rfl;exists 1,p,7,u,T.bG,T.fC,2,b .cV,2,⟨_,bI.of Sm⟩,ye (K:=K) (a:=b .cV) (xs:=(aB (wL st.ls)).map λi=>.ref (b (.cF i))) (λi x r=>kC K (nc t) r v b j q' p Y n {st with ts:=fc st.ts g [],ls:=(st.ls.take i).map (qe g)++st.ls.drop i}/\Step U v r v/\∃N:Option V,x=[ac (.ref p),ac (.int g),N]) ⟨by rw[List.take_zero,List.drop_zero];exact X,Step.refl' (aG.refl _),1⟩ (λi x r _ z=>?_) ?_ ?_;have e:=z.1.own.get .cV _ rfl;have el:((st.ls.take i).map (qe g)++st.ls.drop i).length=st.ls.length:=(by rw[av,af,<- av,List.take_append_drop]);refine bI.of (e.trans ?_);show ac (cx ((aB ((st.ls.take i).map (qe g)++st.ls.drop i).length).map _))=_;rw[el];(·rintro i y x r I ⟨o,d,N,rfl⟩;have c:i<wL st.ls:=(by have:=(aj.mp I).1;rw[af,bJ] at this;exact this);rw[ak,jn c] at I;cases I;have l:((st.ls.take i).map (qe g)++st.ls.drop i)[i]?=ac st.ls[i]:=(by rw[bZ (by rw[af,b6];lia),af,b6,Nat.min_eq_left ∅,gq,List.getElem?_drop,Nat.add_zero];exact aa c);(have W:=o.own.get (.cF i) (ou (nc t) j b i st.ls[i]) (by show (((st.ls.take i).map (qe g)++st.ls.drop i)[i]?.map _)=_;rw[l];rfl);have next:(st.ls.take (i+1)).map (qe g)++st.ls.drop (i+1)=((st.ls.take i).map (qe g)++st.ls.drop i).set i (qe g st.ls[i]):=by rw[gv,aa c,aK,jj,oJ _ _ (by rw[af,b6];lia),af,b6,Nat.min_eq_left ∅,gq,List.drop_eq_getElem_cons c];rfl);rw[next];exists 137,W,T.dS,T.lK,210,iW (λe=>?_) (λe=>?_);have e:(st.ls[i]).grp=g:=(by have:=V.int.inj (j9 e);lia);exists 17,W,T.dS,T.zS,(by show 5<1000;decide),4;obtain⟨X3,J⟩:=acP o l;exists 4,d.trans J,1;unfold qe;rw[eL e];exact X3;have e:¬(st.ls[i]).grp=g:=λz=>e (fy (by rw[z]));exists 4,d,1;have:qe g st.ls[i]=st.ls[i]:=e8 e;rw[this,uC l];exact o);rintro x r ⟨o,d,N,rfl⟩;rw[af,bJ,List.take_of_length_le (az _),List.drop_eq_nil_of_le (az _),b5] at o;exact k v r o.dO (D.trans d)
noncomputable def nj(s:NS)(g x:Nat)(d:RM.Row):NS:=if d=s.R g x then s else rZ {s with R:=fc s.R g (RM.upd (s.R g) x d)} g
inductive Sn(K:ai)(CT:am)(c:NC)(vs:List V)(H:Hp)(Q:VK)(E:XK):Prop
 |mk(F:am->Prop)(p tp ln lr:am)(ns:List Int)(rs:List R5)(s:NS)(o:cR ns rs)(x g:Nat):vs=[.ref p,.int x,.int g]->NW K c CT H F p tp ln lr ns rs s->Dh ns rs s->x<wL ns->g<3->(∀d F' H',RM.ZN (N:=p9 ns rs o s.ws g) (wL ns) (s.R g) x d->DZ (wL ns) (wL rs) d->cE K c H' F' p tp (wL ns) (nj s g x d)->Step H F H' F'->(d=s.R g x->aG H H')->Q (.bl (!decide (d=s.R g x))) H')->Sn K CT c vs H Q E
theorem IL{t:Ad}(T:Txt K mg t):cH P w K mg base iJ 4 t.uQ t.zG ["self","house","group"] (Sn K t.be (nc t)):=by refine T.Em.F.jv Bs λH Q E l h=>?_;·obtain⟨F,p,s,M,J,ns,I,st,ok,x,g,rfl,N,v,i,a,k⟩:=h;exists _,(aq (sS 3 Bs (cM (pv 0) T.bG T.FH (MQ T) l (kN (pv 1) (pv 2)))) (aq (sS 4 Bs (cG (agC T) l T.aeJ (nO (bg (pv 0) rfl) (cM (pv 0) T.bG T.zP (Cw T) l (fR (pv 2))) (cM (pv 0) T.bG T.u0 (wF T) l (fR (pv 2))) (pv 1)))) (aq (cC (qT zd (pv 4) (pv 3)) oB bw) (aq (wR (pv 4) (GB (xL (bg (pv 0) rfl) (pv 2)) (pv 1) set_list)) (aq (eE (cM (pv 0) T.bG T.nN (qN T) l (fR (pv 2)))) oB))))),4;left;obtain⟨loc,dx,q,hp,O,hF,hT⟩:=id N.dO;have C:=O.get .dO _ rfl;rw[hp] at C;exists 1,p,31,C,28,F,p,s,M,J,ns,I,st,x,g,2,N,i,a,λq1 H1 A Y=>?_;have N1:=N.mono A;have D:=A _ _ C;exists 1,p,7,D,T.bG,T.n9,24;exists 1,p,31,D,21,F,p,s,M,J,ns,I,st,g,2,N1,ok,v,a,λl2 H2 W hl2 h2=>?_;have N2:=N1.mono W;exists 1,p,31,W _ _ D,21,F,p,s,ns.length,g,st,2,N2.dO,a,λl3 qs H3 X hl3 h3 ht=>?_;have N3:=N2.mono X;exists 1,s,M,J,l2,l3,ns,I,_,ok.nd,ok.ok,Ba,st.R g,x,2,N3.lA,bI.of (X _ _ h2),ht.Uz (bI.of h3),i,ok.Z6,(v.fit g a).agd,λq4 d H4 s4 o b=>?_;have S:=acF (v.fit g a) i ok.pos b;have N4:=N3.mono s4;have n:=W.trans (X.trans s4);have f:=A.trans n;exists 8,RM.GJ d,RM.GJ (st.R g x),RM.A4 o,RM.A4 (n.bP Y),RM.A5 _,RM.A5 _,dh (fm (aJ (oH _ _) (by rw[RM.Nh];decide:(RM.GJ d).depth<=64)) _) l.units,4;rw[RM.Q3 S.by1 (v.fit g a x i).by1];exists 1,iW (λe=>?_) (λe=>?_);have j:d=st.R g x:=j9 e;have:=k d F H4 b S (by unfold nj;rw[eL j];exact N4.dO) (Step.refl' f) (λ_=>f);rw[fy j] at this;exact this;have j:¬d=st.R g x:=λz=>e (fy z);obtain⟨c,dx4,r,YI,y,G,m⟩:=id N4.dO;have Cz:=y.get .dO _ rfl;rw[YI] at Cz;have B:(r.rq g).length=ns.length:=(by rw[(m.rows g a).len];simp[iK]);obtain⟨F5,L,Z⟩:=acO YI y G m a i o;exists 8,p,7,Cz,T.bG,T.mJ,21,c .uB,39,bI.of (y.get .uB _ rfl),oY a,1,c (.rows g),39,y.get (.rows g) _ (eL a),tP (by rw[af,B];exact i),4;generalize upd H4 (c (.rows g)) (.lst (((r.rq g).map cr).set x (.ref q4)))=H5 at L Z;obtain⟨aaS,dx5,q5,U,O5,hF5,hT5⟩:=id L;have u:=O5.get .dO _ rfl;rw[U] at u;exists 1,p,31,u,21,F5,p,s,ns.length,g,1,L,a,λF6 H6 N6 QC=>?_;have:=k d F6 H6 b S (by unfold nj;rw[e8 j];exact N6) ((Step.refl' f).trans (Z.trans QC)) (λz=>ff z j);rw[gn j] at this;exact this
noncomputable def iT(s:NS)(e:Int)(m:Nat):NS:=(aB m).foldl (λs g=>if lz e g=ag then rZ s g else s) s
theorem ia{s:NS}{e:Int}{m:Nat}:iT s e (m+1)=if lz e m=ag then rZ (iT s e m) m else iT s e m:=by unfold iT;rw[iH,wM];rfl
inductive IM(K:ai)(CT:am)(c:NC)(vs:List V)(H:Hp)(Q:VK)(E:XK):Prop
 |mk(F:am->Prop)(p tp ln lr:am)(ns:List Int)(rs:List R5)(s:NS)(i:Nat)(r:R5):vs=[.ref p,.int i]->NW K c CT H F p tp ln lr ns rs s->cR ns rs->rs[i]?=ac r->(∀F' H',NW K c CT H' F' p tp ln lr ns rs (iT s r.e 3)->Step H F H' F'->Q .gk H')->IM K CT c vs H Q E
theorem nk{t:Ad}(T:Txt K mg t):cH P w K mg base iJ 3 t.fM t.gV ["self","rope"] (IM K t.be (nc t)):=by refine T.jC.F.jv mS λH Q E G h=>?_;·obtain⟨F,p,l,x,C,ns,A,st,i,r,rfl,N,tok,y,k⟩:=h;have f:=tok.ok r (ay y);exists _,(bz (fS (eF rfl T.gY (fR (lS T.fV (nv rfl T.mw (v:=.ref t.fG) rfl)))) (gT 2 mS) (bz (cC (ku (cM (bg (pv 0) rfl) T.gp T.BG (Gg T) G (kN (pv 1) (pv 2)))) (oE (cM (pv 0) T.bG T.nN (qN T) G (fR (pv 2)))) bw)))),4;left;exists 31,.inr (T.gF _),(3:Int),2664;refine yf (n:=3) (λg o d=>∃(c:am->Prop)(s:Option V),NW K (nc t) t.be d c p l x C ns A (iT st r.e g)/\Step H F d c/\o=[ac (.ref p),ac (.int i),s]) ⟨F,_,N,Step.refl' (aG.refl _),2⟩ ?_ ?_;rintro g o d B ⟨c,s,b,a,rfl⟩;rw[dQ];obtain⟨M,X,q,R,O,S,W⟩:=id b.dO;obtain⟨⟨I,m⟩,_⟩:=id b.lA;have u:=O.get .dO _ rfl;rw[R] at u;obtain⟨z,D⟩:=ajf B;exists 1,p,7,u,T.bG,T.n9,2,l,I,1,m,28,l,x,C,ns,A,i,r,g,z,2,b.lA,y,D,14;rw[Q7 f.e1 f.e7 D];refine iW (λe=>?_) (λe=>?_);exists 1,p,31,u,21,c,p,l,ns.length,g,1,b.dO,B,λJ U L j=>?_;exists J,34,a.trans j,2;rw[ia,eL e];exact b.done j L;exists c,34,a,2;rw[ia,e8 e];exact b;rintro o d ⟨c,s,b,a,rfl⟩;exact k c d b a
theorem jF{n:Nat}(h:n<=1000000):n<bc:=dh h (by show 1000000<2^24;decide)
theorem Va{s:NS}{i B:Nat}{d:ck}(h:∀l∈s.ls,wL l.aF<=B):∀l∈(c6 s i d).ls,wL l.aF<=B+1:=by intro l a;unfold c6 at a;cases e:s.ls[i]? with|none=>rw[e] at a;exact gu (h l a)|some b=>(rw[e] at a;rcases dm a with z|rfl;exact gu (h l z);show (b.aF++[d]).length<=B+1;rw[av];exact kM (h b (ay e)) 1)
theorem So{s:NS}{i x B:Nat}(h:∀l∈s.ls,wL l.aF<=B):∀m,m<=wL s.cps->∀l∈(ji s i x m).ls,wL l.aF<=B+m
 |0,_=>by rw[zm];exact h
 |m+1,c=>by
  have a:=So (i:=i) (x:=x) h m ∅;rw[zo ∅];unfold kI;split
  ·exact Va a
  ·exact λl b=>gu (a l b)
inductive Wg(K:ai)(c:NC)(vs:List V)(H:Hp)(Q:VK)(E:XK):Prop
 |mk(F:am->Prop)(p tp:am)(n:Nat)(i x:Nat)(s:NS)(B:Nat):vs=[.ref p,.int i,.int x]->cE K c H F p tp n s->(∀cp∈s.cps,cp.l<wL s.ls)->(∀l∈s.ls,wL l.aF<=B)->B+wL s.cps<=1000000->(∀F' H',cE K c H' F' p tp n (jK s i x)->Step H F H' F'->Q .gk H')->Wg K c vs H Q E
theorem ER{t:Ad}(T:Txt K mg t):cH P w K mg base iJ 1 t.jc t.kJ ["self","rope","wire"] (Wg K (nc t)):=by refine T.wA.F.jv nX λH Q E hr h=>?_;·obtain⟨F,p,tp,n,i,x,st,B,rfl,N,hc,hB,hBm,k⟩:=h;exists _,(aq (sS 3 nX (fX gM)) (aq (fS (eW (bg (pv 0) rfl)) (gT 4 nX) (bz (cC (qT zd (uv GG (pv 4) (qR aA) (qR aA)) (dY (kN (pv 1) (pv 2)))) (oE (mQ aV bq bh dZ (bg (xL (bg (pv 0) rfl) (xT (pv 4) aA)) rfl) (fR (dY (Ic fH (xT (pv 4) aA) (pv 1)))))) (oE (mQ aV bq bh dZ (pv 3) (fR (pv 4))))))) (bz (gK (pv 0) (pv 3) rfl)))),4;left;refine aY λNx bW=>?_;exists aS _,λl hl=>bW _ _ ?_;have u1:=aG.new (o:=.lst []) hl;have h1:=au (H:=H) (a:=l) (o:=.lst []);generalize upd H l (.lst [])=H1 at u1 h1;have nF:¬F l:=λz=>(by obtain⟨o,e⟩:=N.there z;rw[hl] at e;cases e);obtain⟨m,dx,q,hp,O,hF,hT⟩:=id (N.mono u1);have X:kC K (nc t) H1 F m dx q p tp n st:=⟨hp,O,hF,hT⟩;have cy:=O.get .dO _ rfl;rw[hp] at cy;have hco:=O.get .fQ _ rfl;have u:wL q.cq=st.cps.length:=(by have:=hT.cps.len;rw[af] at this;exact this);refine aY λNx bW=>?_;exists 1,p,7,cy,T.bG,T.jV,2,m .fQ,2,⟨_,bI.of hco⟩,qu (K:=K) (a:=m .fQ) (xs:=q.cq.map cr) (λj σ I=>∃(U:TQ) (M:List am) (v4:Option V),kC K (nc t) I F m dx U p tp n (ji st i x j)/\U.cq=q.cq/\Step H F I F/\I l=ac (.lst (M.map cr))/\cP K I M (((st.cps.take j).filter λc=>!VT i x c).map Cp.vs)/\σ=[ac (.ref p),ac (.int i),ac (.int x),ac (.ref l),v4]) ⟨q,[],_,by rw[zm];exact X,2,Step.refl' u1,h1,⟨2,λi q x e=>by cases e⟩,2⟩ (λj σ I _ z=>?_) ?_ ?_;obtain⟨U,M,v4,s,Z,_⟩:=z;have:=s.own.get .fQ _ rfl;refine bI.of (this.trans ?_);rw[Z];rintro j y σ I Nf D hj ⟨U,M,v4,s,Z,W,Y,vM,rfl⟩;have hjl:j<wL q.cq:=(by have:=(aj.mp hj).1;rw[af] at this;exact this);have G:j<wL st.cps:=∅;rw[ak,aa hjl] at hj;cases hj;have R:cD K I q.cq[j] (st.cps[j]).vs:=s.tup.cps.at' j _ _ (by rw[Z];exact aa hjl) (by rw[XI,ak,aa G];rfl);have hcm:=aP G;rw[zo G] at D;have efs:=Nu (f:=λc:Cp=>!VT i x c) G;rw[efs] at D;generalize st.cps[j]=g at R hcm D;generalize q.cq[j]=a at R;have nw:¬(HT.lV g.vs.length 0 (ac 1)=0/\HT.lV g.vs.length g.vs.length (ac 3)=wL g.vs):=λz=>ff z.1 (by show HT.lV 4 0 (ac 1)≠0;decide);exists 18,a,1,R,nw,λz1 hz1=>?_;have ct:DU g.vs (ac 1) (ac 3)=[cn g.r,cn g.w]:=rfl;rw[ct];have v1:=aG.new (o:=.tup [cn g.r,cn g.w]) hz1;exists 8,jD,λz2 hz2=>?_;have v2:=aG.new (o:=.tup [cn i,cn x]) hz2;exists .tuple (([(g.r:Int),(g.w:Int)]:List Int).map .int),.tuple (([(i:Int),(x:Int)]:List Int).map .int),Rep.A2 (ns:=[(g.r:Int),(g.w:Int)]) (cD.of (v2 _ _ au)),Rep.A2 (ns:=[(i:Int),(x:Int)]) (cD.of au),ic _,ic _,dh (fm (aJ (oH _ _) (by show bj _+1<=64;rw[lX];decide)) _) hr.units,14;rw[Jv];have A:=v1.trans v2;have J:=s.mono A;have Yi:=A _ _ Y;have C:=A.bP R;have L:=vM.mono λb x=>A.bP (a:=b) (xs:=x);have Jq:=W.trans (Step.refl' (F:=F) A);generalize upd (upd I z1 (.tup [cn g.r,cn g.w])) z2 (.tup [cn i,cn x])=H4 at J Yi C L Jq;refine iW (λe=>?_) (λe=>?_);have on:VT i x g=ag:=(by obtain⟨e1,e2⟩:=j9 e;exact fy ⟨66⟩);have u:g.l<(ji st i x j).ls.length:=(by rw[Nt];exact hc g hcm);have v:(ji st i x j).ls[g.l]?=ac (ji st i x j).ls[g.l]:=aa u;have hdl:((ji st i x j).ls[g.l]).aF.length<=B+j:=So hB j ∅ _ (aP u);have Cz:=J.own.get .dO _ rfl;rw[J.hp] at Cz;have an5:=J.own.get .cV _ rfl;have an6:=J.own.get (.cF g.l) (ou (nc t) dx m g.l _) (by show ((ji st i x j).ls[g.l]?.map _)=_;rw[v];rfl);have aj4:=J.own.get (.aF g.l) (.lst ((U.dq g.l).map cr)) (by show ((ji st i x j).ls[g.l]?.map _)=_;rw[v];rfl);have QD:=(J.tup.aF g.l _ v).len;rw[af] at QD;unfold kI at D;rw[eL on,gf v,on] at D;exists 1,p,7,Cz,T.bG,T.fC,21,a,_,(0),12,C,2,m .cV,39,bI.of an5,oY u,m (.cF g.l),7,an6,T.dS,T.iR,2,.inl ⟨23,bI.of aj4⟩,1,a,_,(3),12,C,21,k9,λz3 Vb=>?_;have v3:=aG.new (o:=.tup [cv "lost",cn g.h,cn i]) Vb;have X5:=J.mono v3;exists m (.aF g.l),9,v3 _ _ aj4,jF (by rw[af,QD];lia),4;obtain⟨X6,QC⟩:=Bb X5 v (d:=.Dg g.h i) (cD.of au);refine D _ _ ⟨_,M,_,X6,Z,(Jq.trans (Step.refl' (F:=F) v3)).trans QC,QC.kp _ _ (v3 _ _ Yi) nF,42⟩;rw[e8 (!_),b5];exact (L.mono λb x=>v3.bP (a:=b) (xs:=x)).mono λb x=>X5.dO.tup QC.kp;have on:VT i x g=al:=gn λz=>e (fy ⟨66⟩);unfold kI at D;rw[on,e8 (!_)] at D;have hql:wL M<=j:=(by rw[L.len,af];refine aJ (aR _ _) ?_;rw[b6];exact oH _ _);exists 1,.inl ⟨23,bI.of Yi⟩,1,l,9,Yi,jF (by rw[af];lia),4;have S:=br (H:=H4) (z:=l) (o:=.lst (M.map cr++[.ref a]));have X5:=J.past Yi c7 nF S;refine D _ _ ⟨U,M++[a],_,X5,Z,⟨λb o e z=>S _ _ (Jq.kp b o e z) (aC e hl),Jq.fr⟩,by rw[au,aK];rfl,42⟩;rw[eL (!_),aK];exact (L.snoc C).mono λb x=>cD.past Yi c7 S;rintro σ I ⟨U,M,v4,s,Z,W,Y,vM,rfl⟩;refine bW _ _ ?_;rw[af,u] at s vM;rw[cQ] at vM;obtain⟨F',N',kp,hpF,fr⟩:=UB s.hp s.own s.fp s.tup Y nF vM;have yQ:=s.own.get .dO _ rfl;rw[s.hp] at yQ;exists 8,p,331,yQ,T.bG,T.jV,(by show 9<1000;decide),4;refine k F' _ N' ⟨λb o e z=>kp _ _ (W.kp _ _ e z) (λy=>z (y▸hpF)),λb z=>?_⟩;rcases fr b z with y|rfl;exact .inl y;exact .inr hl
noncomputable def p6(s:NS)(i x:Nat)(w:List Nat)(e:Int):NS:=
 if (w.filter λz=>decide (z≠x)).isEmpty=ag then iT (jK {s with ws:=s.ws.set i (w.filter λz=>decide (z≠x))} i x) e 3 else jK {s with ws:=s.ws.set i (w.filter λz=>decide (z≠x))} i x
inductive Sq(K:ai)(CT:am)(c:NC)(vs:List V)(H:Hp)(Q:VK)(E:XK):Prop
 |mk(F:am->Prop)(p tp ln lr:am)(ns:List Int)(rs:List R5)(s:NS)(i x:Nat)(w:List Nat)(r:R5)(B:Nat):vs=[.ref p,.int i,.int x]->NW K c CT H F p tp ln lr ns rs s->cR ns rs->Dh ns rs s->(∀cp∈s.cps,cp.l<wL s.ls)->(∀l∈s.ls,wL l.aF<=B)->B+wL s.cps<=1000000->s.ws[i]?=ac w->rs[i]?=ac r->x∈w->(∀F' H',NW K c CT H' F' p tp ln lr ns rs (p6 s i x w r.e)->Step H F H' F'->Q (.bl (w.filter λz=>decide (z≠x)).isEmpty) H')->Sq K CT c vs H Q E
theorem Ss{t:Ad}(T:Txt K mg t):cH P w K mg base iJ 4 t.uR t.zH ["self","rope","wire"] (Sq K t.be (nc t)):=by refine T.KD.F.jv Ie λH Q E Z h=>?_;·obtain⟨F,p,y,S,M,ns,rs,st,i,x,R,r,B,rfl,N,Y,I,hc,hB,V,c,Xr,W,k⟩:=h;exists _,(aq (sS 3 Ie (qQ (bg (pv 0) rfl) T.fj T.uY.m (Jg T) (Z.mono (!_)) T.uY.B .nil Ng (kN (pv 1) (pv 2)))) (aq (eE (cM (pv 0) T.bG T.wA (ER T) Z (kN (pv 1) (pv 2)))) (aq (cC (ku (pv 3)) (oE (cM (pv 0) T.bG T.jC (nk T) Z (fR (pv 1)))) bw) (oR (pv 3))))),4;left;obtain⟨f,dx,q,hp,O,hF,hT⟩:=id N.dO;have cy:=O.get .dO _ rfl;rw[hp] at cy;have v:=(aj.mp c).1;have C3:i<wL rs:=(by rw[<- I.wl];exact v);exists 1,p,7,cy,T.bG,T.ni,2,f .cZ,dx .cZ,1,O.get .cZ _ rfl,28,f .cZ,y,f .dR,S,M,ns,rs,st.ws,i,x,2,N.lA,O.strAt,I.wl,I.w4,λj b w2 ls a H1 ej ek o hk Qz ha J G kp=>?_,λz=>ff ⟨66⟩ z,λj w2 H1 ej o hk _=>?_;(case refine_2=>have:j=i:=∅;subst this;rw[c] at o;cases o;exact ff rfl (hk x W));have:j=i:=∅;subst this;have:b=x:=∅;subst this;rw[c] at o;cases o;obtain⟨F1,D,l⟩:=Rk hp O hF hT v Qz ha J G kp;have C:=N.done l D;obtain⟨aob,YM,q1,X,O1,hF1,hT1⟩:=id D;have iV:=O1.get .dO _ rfl;rw[X] at iV;dsimp only[jq];exists 1,p,31,iV,28,F1,p,y,ns.length,j,b,_,B,2,D,hc,hB,V,λF2 H2 N2 g=>?_;have u:=C.done g N2;unfold p6 at k;generalize (R.filter λz=>decide (z≠b)).isEmpty=eb at k;obtain⟨atp,dx2,q2,U,O2,hF2,hT2⟩:=id N2;have yQ:=O2.get .dO _ rfl;rw[U] at yQ;(try dsimp only);refine jO (λσ s=>∃n:am->Prop,NW K (nc t) t.be s n p y S M ns rs (if eb=ag then iT (jK {st with ws:=st.ws.set j (R.filter λz=>decide (z≠b))} j b) r.e 3 else jK {st with ws:=st.ws.set j (R.filter λz=>decide (z≠b))} j b)/\Step H F s n/\σ=[ac (.ref p),ac (.int j),ac (.int b),ac (.bl eb)]) ?_ λN' A=>?_;(case refine_2=>exists 8,iW (λe=>?_) (λe=>?_);rw[eL e] at A;exists 1,p,31,yQ,21,F2,p,y,S,M,ns,rs,_,j,r,2,u,Y,Xr,λn s L d=>?_;exact A _ _ ⟨n,L,l.trans (g.trans d),2⟩;rw[e8 e] at A;exact A _ _ ⟨F2,u,l.trans g,2⟩);rintro σ s ⟨n,L,d,rfl⟩;exists 1,k n s L d
inductive aaX(K:ai)(CT C NW:am)(vs:List V)(H:Hp)(Q:VK)(E:XK):Prop
 |mk(p tp lu ln lr:am)(ns:List Int)(rs:List R5)(ws:List (List Nat))(i x:Int):vs=[.ref p,.int i,.int x]->dN K CT H tp ln lr ns rs->vR C H p tp lu ws->wL ws=rs.length->(∀w∈ws,wL w<=4)->(∀(j k:Nat)w w' r(ls:List am)(q:am)H',i=(j:Int)->x=(k:Int)->ws[j]?=ac w->rs[j]?=ac r->x<r.d->k∉w->w'.Perm (w++[k])->w'.Pairwise (·<=·)->H lu=ac (.lst (ls.map cr))->H q=ae->H' q=ac (.lst (aT w'))->H' lu=ac (.lst ((ls.map cr).set j (.ref q)))->(∀b o,H b=ac o->b≠lu->H' b=ac o)->Q (.bl w.isEmpty) H')->(¬(0<=i/\i<wL rs)->E (.ref NW) ae H)->(∀(j:Nat)w r H',i=(j:Int)->ws[j]?=ac w->rs[j]?=ac r->¬(0<=x/\x<r.d)∨(∃k∈w,x=(k:Nat))->aG H H'->E (.ref NW) ae H')->aaX K CT C NW vs H Q E
theorem LO{t:Ad}(T:Txt K mg t):cH P w K mg base (Gx P w) 3 t.m6 t.rB ["self","rope","wire"] (aaX K t.be t.c8 t.yC):=by refine T.xA.F.XJ Br λH Q E W h=>?_;·obtain⟨p,tp,D,ln,lr,ns,s,ws,i,x,rfl,hT,hW,ew,h4,k,kx,ky⟩:=h;obtain⟨⟨dx,hp⟩,L,Qz,els,hls⟩:=id hW;exists _,(aq (sS 3 Br (qQ (pv 0) T.fj T.fK.m (mO T) (W.mono (!_)) T.fK.B .nil VI (fR (pv 1)))) (aq (cC (PW.pt (HQ (jg (jZ rK oO aA (pv 2) (cG (IG T) W T.El (kN (bg (pv 0) rfl) (pv 1))))) (DR (iU oq (pv 2) (pv 3) (by with_unfolding_all rfl))))) (bz (Fe rfl T.KQ T.KR W.hd fH)) bw) (aq (wR (cB A7 T.FL boot_sorted (fR (bf JN (pv 3) (fX (fR (pv 2)))))) (GB (bg (pv 0) rfl) (pv 1) set_list)) (oR (qE zd (pv 3) (fX gM)))))),4;left;exists 1,p,dx,1,hp,21,p,tp,D,ln,lr,ns,s,ws,i,2,hT,hW,ew,λj c l G ej C n Me U=>?_,kx;subst ej;have hjl:=(aj.mp C).1;have w4:=h4 _ (ay C);have g:s[j]?=ac s[j]:=aa ∅;have hp1:=n _ _ hp;have hT1:=hT.mono n;exists 1914;by_cases h0:0<=x;(case neg=>rw[gn h0];exact e9 ⟨1,fY (fY (ky j c _ G rfl C g (.inl λz=>h0 z.1) n))⟩);rw[fy h0];refine fY ?_;exists 1,p,_,dx,31,hp1,T.fj,T.lM,21,tp,ln,lr,ns,s,j,s[j],2,hT1,g,914;by_cases O:x<s[j].d;(case neg=>rw[gn O];exact fY (fY (ky j c _ G rfl C g (.inl λz=>O z.2) n)));rw[fy O];refine e9 ?_;obtain⟨f,rfl⟩:∃f:Nat,x=(f:Int):=⟨x.toNat,6⟩;exists 8,l,1,.inl (bI.of U),2,kh c,14;(try dsimp only);rw[e8 aH,yg];by_cases N:f∈c;(case pos=>rw[fy N];exact fY (ky j c _ G rfl C g (.inr ⟨f,N,2⟩) n));rw[gn N];refine e9 ?_;exists 8,Xe,λq hq=>?_;have s2:=aG.new (o:=.lst [.int (f:Nat)]) hq;exists l,q,9,s2 _ _ U,au,4,λM h3=>?_;rw[af];exact iG (b9 (by show c.length+1<=1000;lia));have s3:=s2.trans (aG.new (o:=.lst (aT c++[.int (f:Nat)])) h3);have J:(upd (upd G q (.lst [.int (f:Nat)])) M (.lst (aT c++[.int (f:Nat)]))) M=ac (.lst (((c++[f]).map λk:Nat=>(k:Int)).map cn)):=(by rw[au,<- gy,eU]);generalize upd (upd G q (.lst [.int (f:Nat)])) M (.lst (aT c++[.int (f:Nat)]))=H3 at s3 J;exists M,1,bI.of J,(by rw[af,av];show c.length+1<64;lia),λy xs Yi aj5 aj6=>?_;obtain⟨A,rfl,hz1,hz2⟩:=O7 aj5 aj6;have S:=s3.trans (aG.new (o:=.lst ((A.map λk:Nat=>(k:Int)).map cn)) Yi);have Z:(upd H3 y (.lst ((A.map λk:Nat=>(k:Int)).map cn))) y=ac (.lst (aT A)):=(by rw[au,eU]);generalize upd H3 y (.lst ((A.map λk:Nat=>(k:Int)).map cn))=H4 at S Z;have u:=n.trans S;have v:=u _ _ Qz;have YI:=u _ _ hp;have YK:j<wL L:=∅;exists 1,p,_,dx,31,YI,T.fj,T.gX,21,D,33,j,22,v,(by rw[af];exact tP YK),4;generalize I:upd H4 D (.lst ((L.map cr).set j (.ref y)))=H5;have k5:∀b o,H4 b=ac o->b≠D->H5 b=ac o:=λb o e nb=>(by rw[<- I,aI nb];exact e);have X:H5 D=ac (.lst ((L.map cr).set j (.ref y))):=(by rw[<- I];exact au);have QB:H5 y=ac (.lst (aT A)):=k5 _ _ Z (oN Z v λz=>yh (aa YK) (HO.lst.inj z));have Y:H5 l=ac (.lst (aT c)):=k5 _ _ (S _ _ U) (oN (S _ _ U) v λz=>yh (aa YK) (HO.lst.inj z));exists 1,aS _,λq2 hq2=>?_;have R:=aG.new (o:=.lst []) hq2;exists .list ((c.map λk:Nat=>(k:Int)).map .int),.list [],⟨l,1,bI.of (R _ _ Y),(by rw[eU];exact kZ _)⟩,⟨q2,1,bI.of au,2⟩,ic _,2,dh (fm (aJ (Nat.min_le_right _ _) (!_)) _) W.units,4;have z:=k j f c A s[j] L y _ rfl rfl C g O N hz1 hz2 Qz ((n.trans s3).free Yi) (R _ _ QB) (R _ _ X) (λb o e nb=>R _ _ (k5 _ _ (u _ _ e) nb));cases c with|nil=>exact z|cons a r=>exact z
noncomputable def CA(s:NS)(i:Nat)(w w2:List Nat)(e:Int):NS:=
 if w.isEmpty=ag then iT {s with ws:=s.ws.set i w2} e 3 else {s with ws:=s.ws.set i w2}
inductive Wh(K:ai)(CT:am)(c:NC)(vs:List V)(H:Hp)(Q:VK)(E:XK):Prop
 |mk(F:am->Prop)(p tp ln lr:am)(ns:List Int)(rs:List R5)(s:NS)(i x:Nat)(w:List Nat)(r:R5):vs=[.ref p,.int i,.int x]->NW K c CT H F p tp ln lr ns rs s->cR ns rs->Dh ns rs s->s.ws[i]?=ac w->rs[i]?=ac r->(x:Int)<r.d->x∉w->(∀w2 F' H',w2.Perm (w++[x])->w2.Pairwise (·<=·)->NW K c CT H' F' p tp ln lr ns rs (CA s i w w2 r.e)->Step H F H' F'->Q (.bl w.isEmpty) H')->Wh K CT c vs H Q E
theorem Vc{t:Ad}(T:Txt K mg t):cH P w K mg base iJ 4 t.yt t.CQ ["self","rope","wire"] (Wh K t.be (nc t)):=by refine T.ND.F.jv Ky λH Q E hr h=>?_;·obtain⟨F,p,X,S,R,C,rs,st,i,x,w',r,rfl,N,W,I,b,Xr,J,U,k⟩:=h;exists _,(aq (sS 3 Ky (qQ (bg (pv 0) rfl) T.fj T.xA.m (LO T) (hr.mono (!_)) T.xA.B .nil Ng (kN (pv 1) (pv 2)))) (aq (cC (ku (pv 3)) (oE (cM (pv 0) T.bG T.jC (nk T) hr (fR (pv 1)))) bw) (oR (pv 3)))),4;left;obtain⟨d,dx,q,hp,O,hF,hT⟩:=id N.dO;have cy:=O.get .dO _ rfl;rw[hp] at cy;have u:=(aj.mp b).1;have C3:i<wL rs:=(by rw[<- I.wl];exact u);exists 1,p,7,cy,T.bG,T.ni,2,d .cZ,dx .cZ,1,O.get .cZ _ rfl,28,d .cZ,X,d .dR,S,R,C,rs,st.ws,i,x,2,N.lA,O.strAt,I.wl,I.w4,λj kk w1 v r2 ls a H1 ej ek o g hkd hk Y D Qz ha L G kp=>?_,λz=>ff ⟨66⟩ z,λj v r2 H1 ej o g hz _=>?_;(case refine_2=>have:j=i:=∅;subst this;rw[b] at o;cases o;rw[Xr] at g;cases g;rcases hz with z|⟨y,hy,e⟩;exact ff ⟨6,J⟩ z;have:y=x:=∅;subst this;exact ff hy U);have:j=i:=∅;subst this;have:kk=x:=∅;subst this;rw[b] at o;cases o;obtain⟨Z,N1,f⟩:=Rk hp O hF hT u Qz ha L G kp;have n:=N.done f N1;obtain⟨aob,YM,q1,V,O1,hF1,hT1⟩:=id N1;have iV:=O1.get .dO _ rfl;rw[V] at iV;dsimp only[jq];have k:=k v;unfold CA at k;generalize w'.isEmpty=eb at k;refine jO (λσ s=>∃l:am->Prop,NW K (nc t) t.be s l p X S R C rs (if eb=ag then iT {st with ws:=st.ws.set j v} r.e 3 else {st with ws:=st.ws.set j v})/\Step H F s l/\σ=[ac (.ref p),ac (.int j),ac (.int kk),ac (.bl eb)]) ?_ λN' A=>?_;(case refine_2=>exists 8,iW (λe=>?_) (λe=>?_);rw[eL e] at A;exists 1,p,31,iV,21,Z,p,X,S,R,C,rs,_,j,r,2,n,W,Xr,λl s M c=>?_;exact A _ _ ⟨l,M,f.trans c,2⟩;rw[e8 e] at A;exact A _ _ ⟨Z,n,f,2⟩);rintro σ s ⟨l,M,c,rfl⟩;exists 1,k l s Y D M c
inductive Wi(K:ai)(c:NC)(vs:List V)(H:Hp)(Q:VK)(E:XK):Prop
 |mk(F:am->Prop)(p tp:am)(n x:Nat)(to:Option Nat)(s:NS):vs=[.ref p,.int x,kB (to.map λy:Nat=>(y:Int))]->cE K c H F p tp n s->x<wL s.aL->wL s.groups=s.aL.length->(∀y,to=ac y->y<wL s.aL/\s.groups[y]?=s.groups[x]?)->Q .gk H->Wi K c vs H Q E
theorem Gi{t:Ad}(T:Txt K mg t):cH P w K mg base iJ 2 t.jA t.mj ["self","sender","to"] (Wi K (nc t)):=by refine T.yF.F.jv Fl λH Q E l h=>?_;·obtain⟨F,p,j,n,x,m,st,rfl,N,r,o,g,k⟩:=h;exists _,(aq (eE (cM (pv 0) T.bG T.iQ (jl T) l (fR (pv 1)))) (bz (cC (qT E3 (pv 2) kr) (aq (eE (cM (pv 0) T.bG T.iQ (jl T) l (fR (pv 2)))) (bz (cC (qT rJ (xL (bg (pv 0) rfl) (pv 1)) (xL (bg (pv 0) rfl) (pv 2))) fh bw))) bw))),4;left;obtain⟨d,A,q,u,O,v,z⟩:=id N;have f:=O.get .dO _ rfl;rw[u] at f;exists 1,p,31,f,21,F,p,j,n,x,st,2,N,r,4;cases m with|none=>exact⟨10,e9 k⟩|some y=>obtain⟨s,i⟩:=g y rfl;exists 10,fY ?_;exists 1,p,31,f,21,F,p,j,n,y,st,2,N,s,4;have b:=bI.of (K:=K) (O.get .groups _ rfl);have a:x<wL st.groups:=∅;have c:y<wL st.groups:=∅;have e:st.groups[y]=st.groups[x]:=(by rw[aa c,aa a] at i;exact aO i);exists 1,p,7,f,T.bG,T.mq,21,d .groups,39,b,oZ a,1,p,7,f,T.bG,T.mq,21,d .groups,39,b,oZ c,214;rw[e,fy rfl];exact e9 k
noncomputable def p7(s:NS)(x h:Nat):NS:=if s.aL[x]?=ac h then s else rZ {s with aL:=s.aL.set x h} (s.groups.getD x 0)
inductive Wj(K:ai)(CT:am)(c:NC)(vs:List V)(H:Hp)(Q:VK)(E:XK):Prop
 |mk(F:am->Prop)(p tp ln lr:am)(ns:List Int)(rs:List R5)(s:NS)(x h:Nat):vs=[.ref p,.int x,.int h]->NW K c CT H F p tp ln lr ns rs s->x<wL s.aL->wL s.groups=s.aL.length->(∀g∈s.groups,g<3)->h<wL ns->(∀F' H',NW K c CT H' F' p tp ln lr ns rs (p7 s x h)->Step H F H' F'->Q .gk H')->Wj K CT c vs H Q E
theorem Su{t:Ad}(T:Txt K mg t):cH P w K mg base iJ 3 t.uS t.zI ["self","caller","house"] (Wj K t.be (nc t)):=by refine T.KE.F.jv Rv λH Q E r h=>?_;·obtain⟨F,p,l,v,J,ns,A,st,x,y,rfl,N,j,D,n,R,k⟩:=h;exists _,(aq (eE (cM (pv 0) T.bG T.iQ (jl T) r (fR (pv 1)))) (aq (eE (cM (pv 0) T.bG T.pV (vJ T) r (fR (pv 2)))) (bz (cC (qT rJ (pv 2) (xL (bg (pv 0) rfl) (pv 1))) (aq (wR (pv 2) (GB (bg (pv 0) rfl) (pv 1) set_list)) (oE (cM (pv 0) T.bG T.nN (qN T) r (fR (xL (bg (pv 0) rfl) (pv 1)))))) bw)))),4;left;obtain⟨a,I,q,hp,O,s,C⟩:=id N.dO;have X:kC K (nc t) H F a I q p l (wL ns) st:=⟨hp,O,s,C⟩;have i:=O.get .dO _ rfl;rw[hp] at i;have f:=O.get .aL _ rfl;have c:x<wL st.groups:=∅;exists 1,p,31,i,21,F,p,l,ns.length,x,st,2,N.dO,j,4;exists 1,p,31,i,21,F,p,l,v,J,ns,A,st,y,2,N,R,4;exists 8,p,7,i,T.bG,T.lN,21,a .aL,39,bI.of f,oZ j,214;unfold p7 at k;rw[aa j] at k;by_cases e:st.aL[x]=y;rw[eL (by rw[e])] at k;rw[e,fy rfl];exact e9 (k F H N (Step.refl' (aG.refl _)));rw[e8 (λz=>e (aO z))] at k;rw[gn (λz=>e (by have:=V.int.inj z;lia))];refine fY ?_;exists 8,p,7,i,T.bG,T.lN,21,a .aL,33,x,22,f,(by rw[af];exact tP j),4;have M:(aT st.aL).set x (.int (y:Nat))=aT (st.aL.set x y):=(by rw[aT,aT,gQ]);rw[M];obtain⟨d,b⟩:=aaa X (st.aL.set x y);generalize upd H (a .aL) (.lst (aT (st.aL.set x y)))=H1 at d b;have m:=d.own.get .dO _ rfl;rw[d.hp] at m;have o:=bI.of (K:=K) (d.own.get .groups _ rfl);have B:=N.done b d.dO;have G:st.groups.getD x 0=st.groups[x]:=(by rw[ao,aa c];rfl);rw[G] at k;exists 1,p,31,m,21,p,7,m,T.bG,T.mq,21,a .groups,39,o,oZ c,F,p,l,ns.length,st.groups[x],1,d.dO,n _ (aP c),λS u L g=>?_;exact k S u (B.done g L) (b.trans g)
noncomputable def HG(s:NS)(h g x:Nat):Bool:=decide (s.aL[x]?=ac h/\s.groups[x]?=ac g)
noncomputable def vK(s:NS)(h g:Nat):List Nat:=(aB s.aL.length).filter (HG s h g)
theorem lP{f:Nat->Bool}{i:Nat}:(aB (i+1)).filter f=(aB i).filter f++if f i=ag then [i] else []:=by rw[iH,eO];congr 1;cases e:f i;rw[e8 (!_),dX (by rw[e];decide)];rfl;rw[eL rfl,dU e];rfl
inductive Wk(K:ai)(c:NC)(vs:List V)(H:Hp)(Q:VK)(E:XK):Prop
 |mk(F:am->Prop)(p tp:am)(n h g:Nat)(s:NS):vs=[.ref p,.int h,.int g]->cE K c H F p tp n s->wL s.groups=s.aL.length->wL s.aL<=20->(∀l H',aG H H'->H l=ae->H' l=ac (.lst (aT (vK s h g)))->Q (.ref l) H')->Wk K c vs H Q E
theorem Gj{t:Ad}(T:Txt K mg t):cH P w K mg base iJ 1 t.jz t.mh ["self","house","group"] (Wk K (nc t)):=by refine T.yE.F.jv pA λH Q E Z h=>?_;·obtain⟨F,p,tp,n,c,g,st,rfl,N,X,tM,k⟩:=h;exists _,(aq (sS 3 pA (dY (kN (pv 1) (pv 2)))) (oR (fE (kO pA ["caller","self","there"] [ae,ac 0,ac 3]) rfl (eF rfl T.gY (fR (lS T.fV (bg (pv 0) rfl)))) (λ_ _ _ _=>by exact (gS 0 Bt)) (λ_ _ _ _=>by exact (jM (qT (VJ K rfl Z.units) (dY (kN (yL K (Jr K rfl (pv 1) rfl) (pv 0)) (yL K (Jr K rfl (pv 1) rfl) (pv 0)))) (pv 2)))) (λ_ _ _ _=>by exact (pv 0))))),4;left;exists 8,jD,λJ u=>?_;have r:=aG.new (o:=.tup [cn c,cn g]) u;have W:=au (H:=H) (a:=J) (o:=.tup [cn c,cn g]);generalize upd H J (.tup [cn c,cn g])=H1 at r W;obtain⟨d,dx,q,hp,O,hF,hT⟩:=N.mono r;have G:=O.get .dO _ rfl;rw[hp] at G;have f:=bI.of (K:=K) (O.get .aL _ rfl);have z:=bI.of (K:=K) (O.get .groups _ rfl);exists 1,p,7,G,T.bG,T.lN,2,d .aL,1,.inl f,(((aT st.aL).length:Nat):Int),26,by rw[af];lia,λB b=>?_;rw[af];refine eX (n:=((st.aL.length:Int)).toNat) (λi D _=>D=aT ((aB i).filter (HG st c g))) b uw k7 rfl ?_ ?_;(·rintro i D I R e C rfl y H4 ⟨rfl,rfl⟩;rw[dQ];have m:i<wL st.aL:=∅;have j:i<wL st.groups:=∅;have M:=e _ _ G;exists 1,p,7,M,T.bG,T.lN,21,d .aL,39,e.seq f,oZ m,1,p,7,M,T.bG,T.mq,21,d .groups,39,e.seq z,oZ j,jD,λz1 s=>?_;have U:=aG.new (o:=.tup [cn (st.aL[i]:Nat),cn (st.groups[i]:Nat)]) s;have x:=e.trans U;have l:=U _ _ C;exists 1,.tuple (([(st.aL[i]:Int),(st.groups[i]:Int)]:List Int).map .int),.tuple (([(c:Int),(g:Int)]:List Int).map .int),Rep.A2 (ns:=[(st.aL[i]:Int),(st.groups[i]:Int)]) (cD.of au),Rep.A2 (ns:=[(c:Int),(g:Int)]) (cD.of (x _ _ W)),ic _,ic _,(by show bj _+1<=64;rw[lX];decide),14;(try dsimp only);have Y:HG st c g i=decide ((st.aL[i]:Int)=(c:Int)/\(st.groups[i]:Int)=(g:Int)):=(by unfold HG;rw[aa m,aa j,decide_eq_decide];constructor;rintro⟨S,L⟩;exact⟨by rw[aO S],by rw[aO L]⟩;rintro⟨S,L⟩;exists gw ac ∅,gw ac ∅);rw[Jv,<- Y];refine iW (λA=>?_) (λA=>?_);exists 14;refine dF b R x l ?_ ?_;rw[af];refine b9 (aJ (aR _ _) ?_);rw[bJ];lia;rw[lP,eL A,gy];refine gU R x l ?_;rw[lP,e8 A,b5]);rintro D I e C rfl;have v:=r.trans e;exact k B I v (r.free b) C
inductive Ol(K:ai)(CT C NW:am)(vs:List V)(H:Hp)(Q:VK)(E:XK):Prop
 |mk(p tp lu ln lr:am)(ns:List Int)(rs:List R5)(ws:List (List Nat))(i x:Int):vs=[.ref p,.int i,.int x]->dN K CT H tp ln lr ns rs->vR C H p tp lu ws->wL ws=rs.length->(∀(j:Nat)w H',i=(j:Int)->ws[j]?=ac w->aG H H'->(w=[]->Q .gk H')/\(∀k:Nat,w[(x%(w.length:Int)).toNat]?=ac k->w≠[]->Q (.int (k:Nat)) H'))->(¬(0<=i/\i<wL rs)->E (.ref NW) ae H)->Ol K CT C NW vs H Q E
theorem Dk{t:Ad}(T:Txt K mg t):cH P w K mg base (Gx P w) 2 t.iO t.jR ["self","rope","number"] (Ol K t.be t.c8 t.yC):=by refine T.nZ.F.XJ tL λH Q E r h=>?_;·obtain⟨p,L,A,s,Y,G,u,N,i,x,rfl,I,f,R,k,W⟩:=h;obtain⟨⟨X,O⟩,_⟩:=id f;exists _,(aq (sS 3 tL (qQ (pv 0) T.fj T.fK.m (mO T) (r.mono (!_)) T.fK.B .nil VI (fR (pv 1)))) (aq (cC (qT zd (pv 3) (fX gM)) (oR kr) bw) (oR (xL (pv 3) (bf dc (pv 2) (lS T.fV (pv 3))))))),4;left;exists 1,p,X,1,O,21,p,L,A,s,Y,G,u,N,i,2,I,f,R,λj d l H1 Z hj S Me J=>?_,W;exists 1,aS _,λq U=>?_;have g:=aG.new (o:=.lst []) U;have c:=g _ _ J;exists .list ((d.map λk:Nat=>(k:Int)).map .int),.list [],⟨l,1,bI.of c,(by rw[eU];exact kZ _)⟩,⟨q,1,bI.of au,2⟩,ic _,2,dh (fm (aJ (Nat.min_le_right _ _) (!_)) _) r.units,14;obtain⟨D,M⟩:=k j d _ Z hj (S.trans g);cases d with|nil=>exact fY (D rfl)|cons y b=>refine e9 ?_;have a:(0:Int)<(((y::b).length:Nat):Int):=(by rw[bC];lia);have v:=cu x (show (((y::b).length:Nat):Int)≠0 by lia);have C:=cz x a;have e:(x%(((y::b).length:Nat):Int)).toNat<(y::b).length:=∅;exists 18,l,1,.inl (bI.of c),31,(by rw[af]),a,4;obtain⟨z,n⟩:∃z,(y::b)[(x%(((y::b).length:Nat):Int)).toNat]?=ac z:=⟨_,aa e⟩;exists l,33,cn (z:Nat),22,bI.of c,4,M z n (by intro z;cases z);rw[show x%(((y::b).length:Nat):Int)=(((x%(((y::b).length:Nat):Int)).toNat:Nat):Int) by lia];exact bO (by rw[ak,n];rfl)
noncomputable def Gk(l:LS)(h:Nat):Bool:=(E9 (l.done.map λh:Nat=>((iF (h:Int):Key),cw ag)) (iF (h:Int))).isSome
inductive Wl(K:ai)(CT:am)(c:NC)(vs:List V)(H:Hp)(Q:VK)(E:XK):Prop
 |mk (F:am->Prop) (loc dx:Role->am) (q:TQ) (p tp ln lr:am) (ns:List Int) (rs:List R5) (s:NS) (o:cR ns rs) (i r h:Nat) (l:LS):vs=[.ref p,.ref (loc (.cF i)),.int r,.int h]->kC K c H F loc dx q p tp (wL ns) s->NW K c CT H F p tp ln lr ns rs s->Dh ns rs s->s.ls[i]?=ac l->l.grp<3->(∀os H',aG H H'->ie (p9 ns rs o s.ws l.grp) (s.R l.grp) os->wL os<=12->Q (.str (if r∈os then (if Gk l h=ag then "twice" else "come") else "lost")) H')->Wl K CT c vs H Q E
theorem LP{t:Ad}(T:Txt K mg t):cH P w K mg base iJ 7 t.m8 t.rD ["self","posted","rope","house"] (Wl K t.be (nc t)):=by refine T.Dz.F.jv Kz λH Q E s h=>?_;·obtain⟨F,a,D,q,p,B,x,I,A,z,st,o,i,r,v,l,rfl,X,N,C,b,G,k⟩:=h;exists _,(aq (cC (iU lW (pv 2) (cM (pv 0) T.bG T.wz (Ao T) s (fR (bg (pv 1) rfl))) (by with_unfolding_all rfl)) (oR fH) bw) (oR (AU (YY (Zy (HX s) (pv 3) (bg (pv 1) rfl)) (by with_unfolding_all rfl)) fH fH))),4;left;have u:=X.own.get .dO _ rfl;rw[X.hp] at u;have n:=X.own.get (.cF i) (ou (nc t) D a i l) (by show (st.ls[i]?.map _)=_;rw[b];rfl);have d:=X.own.get (.done i) (.dK (l.done.map λh:Nat=>(iF (h:Int),.bl ag))) (by show (st.ls[i]?.map _)=_;rw[b];rfl);exists 8,p,31,u,21,a (.cF i),7,n,T.dS,T.lK,2,F,p,B,x,I,A,z,st,o,l.grp,2,N,C,G,λlo os y m J f j g=>⟨lo,1,.inl (bI.of f),2,kh _,14⟩;(try dsimp only);rw[eL rfl,yg];have k:=k os y m j g;by_cases e:r∈os;rw[eL e] at k;rw[fy e];refine e9 ?_;exists 8,a (.cF i),7,m _ _ n,T.dS,T.qB,2,a (.done i),1,DV.k (k:=.inl (v:Int)) (m _ _ d),14;unfold Gk at k;refine iW (λc=>?_) (λc=>?_);rw[eL c] at k;exact k;rw[e8 c] at k;exact k;rw[e8 e] at k;rw[gn e];exact fY k
noncomputable def iX(l:LS):Nat:=if l.kd=1 then l.s+l.to+1 else l.s
theorem adh{t:Ad}(T:Txt K mg t){b a:Role->am}{f:L2.St}{H:Hp}{Q:VK}{i:Nat}{l:LS}(h:∀Q:VK,Q (.ref (a (.cF i))) H->Mf 4 f H Q)(j:H (a (.cF i))=ac (ou (nc t) b a i l))(c:H (a (.letter i))=ac (tS (nc t) (b (.letter i)) l))(q:Q (.int (iX l:Nat)) H) :HU t.jB (ba "number") (C4 K) [] E0 (JL K (Mf 4) (ba "letter")) E4 f H Q∨HU t.gW (ba "number") (HE t.gW) [] E0 (JL K (Mf 4) (ba "letter")) E4 f H Q∨HU t.jU (ba "number") (C4 K) [] E0 (JL K (Mf 4) (ba "letter")) E4 f H Q:=by by_cases e:l.kd=1;have d:H (a (.letter i))=ac (.ins t.gW (b (.letter i)) [("sender",.int l.s),("to",.int l.to)]):=(by rw[c];unfold tS;rw[eL e]);have g:cn ((l.s:Int)+(l.to:Int)+1)=.int (iX l:Nat):=(by unfold iX;rw[eL e];rfl);refine .inr (.inl ?_);unfold HU JL;exact (h _ ⟨a (.cF i),7,j,T.dS,T.iZ,2,a (.letter i),b (.letter i),1,d,2,a (.letter i),b (.letter i),l.s,l.to,2,d,(by rw[g];exact q)⟩);have d:H (a (.letter i))=ac (.ins t.jU (b (.letter i)) [("sender",.int l.s)]):=(by rw[c];unfold tS;rw[e8 e]);have g:cn (l.s:Int)=.int (iX l:Nat):=(by unfold iX;rw[e8 e]);refine .inr (.inr ?_);unfold HU JL;exact (h _ ⟨a (.cF i),7,j,T.dS,T.iZ,2,a (.letter i),b (.letter i),1,d,2,a (.letter i),t.jU,b (.letter i),l.s,2,d,T.zR,T.pW,(by rw[g];exact q)⟩)
noncomputable def Sv(s:NS)(i h r x f:Nat):NS:={c6 s i (.send h r x) with cps:=s.cps++[⟨i,r,x,f⟩]}
inductive Wm(K:ai)(CT:am)(c:NC)(vs:List V)(H:Hp)(Q:VK)(E:XK):Prop
 |mk(F:am->Prop)(p tp ln lr:am)(ns:List Int)(rs:List R5)(s:NS)(i h r:Nat)(l:LS)(re:R5)(w:List Nat)(x:Nat):vs=[.ref p,.int i,.int h,.int r]->NW K c CT H F p tp ln lr ns rs s->cR ns rs->Dh ns rs s->s.ls[i]?=ac l->wL l.aF<1000000->wL s.cps<1000000->rs[r]?=ac re->s.ws[r]?=ac w->w[(((iX l:Nat):Int)%(w.length:Int)).toNat]?=ac x->w≠[]->(∀F' H',NW K c CT H' F' p tp ln lr ns rs (Sv s i h r x (gO re h))->Step H F H' F'->Q .gk H')->Wm K CT c vs H Q E
theorem Sw{t:Ad}(T:Txt K mg t):cH P w K mg base iJ 3 t.uT t.zJ ["self","number","house","rope"] (Wm K t.be (nc t)):=by refine T.KG.F.jv Bu λH Q E v h=>?_;·obtain⟨F,p,C,ln,lr,ns,A,st,i,c,r,l,re,w',x,rfl,N,tok,Cy,b,hld,hcl,e,hw,S,M,k⟩:=h;exists _,(aq (sS 4 Bu (xL (bg (pv 0) rfl) (pv 1))) (aq (sS 5 Bu (qQ (bg (pv 0) rfl) T.fj T.nZ.m (Dk T) (v.mono (!_)) T.nZ.B .nil Ng (kN (pv 3) (GK (i7 (bg (pv 4) rfl) T.KO T.nL.m (yO T) (v.mono (!_)) T.nL.B .nil kH) (GK (i7 (bg (pv 4) rfl) T.rG T.uX.m (Jk T) (v.mono (!_)) T.uX.B .nil kH) (i7 (bg (pv 4) rfl) T.zR T.KP (yO T) (v.mono (!_)) T.nL.B .nil kH)))))) (aq (eE (mQ aV bq bh dZ (bg (pv 4) rfl) (fR (dY (nO fH (pv 2) (pv 3) (pv 5)))))) (oE (mQ aV bq bh dZ (bg (pv 0) rfl) (fR (dY (nO (pv 1) (pv 3) (pv 5) (cM (bg (pv 0) rfl) T.gp T.pU (tF T) v (kN (pv 3) (pv 2))))))))))),4;left;obtain⟨a,D,q,hp,O,hF,hT⟩:=id N.dO;have J:=O.get .dO _ rfl;rw[hp] at J;have hil:=(aj.mp b).1;have G:=(aj.mp e).1;have Sm:=O.get .cV _ rfl;have Oj:=O.get (.cF i) (ou (nc t) D a i l) (by show (st.ls[i]?.map _)=_;rw[b];rfl);have Y:=O.get (.letter i) (tS (nc t) (D (.letter i)) l) (by show (st.ls[i]?.map _)=_;rw[b];rfl);exists 1,p,7,J,T.bG,T.fC,21,a .cV,39,bI.of Sm,oY hil,4;exists 1,p,7,J,T.bG,T.ni,2,a .cZ,D .cZ,1,O.get .cZ _ rfl,214;have u:=O.get (.aF i) (.lst ((q.dq i).map cr)) (by show (st.ls[i]?.map _)=_;rw[b];rfl);refine adh T (l:=l) (λQ q=>⟨1,q⟩) Oj Y ?_;exists a .cZ,C,a .dR,ln,lr,ns,A,st.ws,r,(iX l:Nat),2,N.lA,O.strAt,Cy.wl,λj w2 H1 ej y n=>⟨λz=>?_,λkk hk _=>?_⟩,λz=>ff ⟨66⟩ z;have:j=r:=∅;subst this;rw[hw] at y;cases y;exact ff z M;have:j=r:=∅;subst this;rw[hw] at y;cases y;rw[S] at hk;cases hk;have X1:kC K (nc t) H1 F a D q p C (wL ns) st:=kC.mono ⟨hp,O,hF,hT⟩ n;have QD:=(X1.tup.aF i _ b).len;rw[af] at QD;exists 1,a (.cF i),7,n _ _ Oj,T.dS,T.iR,2,.inl ⟨23,bI.of (n _ _ u)⟩,18,aaT,λz1 Z=>?_;have L:=aG.new (o:=.tup [cv "send",cn c,cn j,cn x]) Z;exists a (.aF i),9,L _ _ (n _ _ u),jF (by rw[af,QD];lia),4;obtain⟨g,X⟩:=Bb (X1.mono L) b (d:=.send c j x) (cD.of au);have f:=(Step.refl' (F:=F) (n.trans L)).trans X;have I:=N.done f g.dO;generalize upd (upd H1 z1 (.tup [cv "send",cn c,cn j,cn x])) (a (.aF i)) (.lst ((q.dq i).map cr++[.ref z1]))=H2 at g f I;have yQ:=g.own.get .dO _ rfl;rw[g.hp] at yQ;have s:=g.own.get .fQ _ rfl;obtain⟨⟨dt,W⟩,_⟩:=id I.lA;have hcq:wL q.cq=st.cps.length:=(by have z:=g.tup.cps.len;rw[af] at z;exact z);obtain⟨_,rfl⟩:=aj.mp e;exists 1,p,7,yQ,T.bG,T.jV,2,.inl ⟨23,bI.of s⟩,88,p,7,yQ,T.bG,T.n9,2,C,dt,1,W,28,C,ln,lr,ns,A,j,_,c,2,I.lA,e,4;rw[VL (h:=c) G tok.ok];exists aaT,λz2 U=>?_;have R:=aG.new (o:=.tup [cn i,cn j,cn x,cn (gO A[j] c:Nat)]) U;exists a .fQ,9,R _ _ s,jF (by rw[af,hcq];lia),4;have X3:=g.mono R;obtain⟨X4,Jq⟩:=VS X3 (qs:=q.cq++[z2]) (cps:=st.cps++[⟨i,j,x,gO A[j] c⟩]) (by rw[aK];exact X3.tup.cps.snoc (cD.of au));rw[aK] at X4 Jq;have Tr:=(f.trans (Step.refl' (F:=F) R)).trans Jq;refine k F _ ?_ Tr;unfold Sv;rw[gf b];exact N.done Tr X4.dO
end
section
noncomputable def kg(ds:List Nat)(h:Nat):List Nat:=if h∈ds then ds else ds++[h]
theorem Yk{ds:List Nat}{h:Nat}:putK (ds.map λh:Nat=>((iF (h:Int):Key),cw ag)) (iF (h:Int)) (cw ag)=(kg ds h).map λh:Nat=>((iF (h:Int):Key),cw ag):=by
 have e:((ds.map λh:Nat=>((iF (h:Int):Key),cw ag)).any λkv=>decide (kv.1=(iF (h:Int):Key)))=decide (h∈ds):=(by rw[jo,List.any_map,y9,kF];constructor;rintro⟨x,a,e⟩;have e:=Sum.inl.inj (j9 e);have:x=h:=∅;exact this▸a;exact λa=>⟨h,a,fy rfl⟩);unfold putK kg;rw[e];by_cases z:h∈ds;·rw[eL (fy z),eL z,cU];refine cT λx _=>?_;show (if _ then _ else _)=_;split <;> rfl
 rw[e8 (by rw[kF];exact z),e8 z,aK];rfl
structure Fr(s s':NS):Prop where
 ws:s'.ws=s.ws
 R:s'.R=s.R
 ts:s'.ts=s.ts
 aL:s'.aL=s.aL
 groups:s'.groups=s.groups
 lt:∀(i:Nat)(l:LS),s.ls[i]?=ac l->∃l':LS,s'.ls[i]?=ac l'/\l'.s=l.s/\l'.to=l.to/\l'.kd=l.kd/\l'.grp=l.grp/\l'.old=l.old
theorem Fr.refl(s:NS):Fr s s:=⟨22222,λ_ l h=>⟨l,h,22222⟩⟩
theorem Fr.trans{a b c:NS}(f:Fr a b)(g:Fr b c):Fr a c:=by exists g.ws.trans f.ws,g.R.trans f.R,g.ts.trans f.ts,g.aL.trans f.aL,g.groups.trans f.groups,λi l h=>?_;obtain⟨e,n,o,k,s,j,r⟩:=f.lt i l h;obtain⟨d,m,f1,f2,q,p,t⟩:=g.lt i e n;exists d,m,f1.trans o,f2.trans k,q.trans s,p.trans j,t.trans r
theorem Fr.ok{ns:List Int}{rs:List R5}{s s':NS}(f:Fr s s')(h:Dh ns rs s):Dh ns rs s' :=⟨by rw[f.ws];exact h.wl,by rw[f.ws];exact h.w4,by rw[f.R];exact h.fit⟩
theorem ae7{s:NS}{i:Nat}{l a:LS}{had:List (List Nat)}{cps:List Cp}(hl:s.ls[i]?=ac l)(d:a.s=l.s)(f:a.to=l.to)(g:a.kd=l.kd)(c:a.grp=l.grp)(e:a.old=l.old):Fr s {s with ls:=s.ls.set i a,had:=had,cps:=cps}:=by exists 22222,λk b h=>?_;show ∃b,(s.ls.set i a)[k]?=ac b/\_;rw[iz (aj.mp hl).1];by_cases z:k=i;subst z;rw[hl] at h;cases h;exists a,eL rfl,d,f,g,c,e;exists b,by rw[e8 z];exact h,22222
theorem Wn{s:NS}{i:Nat}{d:ck}:Fr s (c6 s i d):=by cases h:s.ls[i]? with|none=>unfold c6;rw[h];exact Fr.refl s|some l=>rw[gf h];exact ae7 h rfl rfl rfl rfl rfl
structure Bd(n m D:Nat)(s:NS):Prop where
 gl:wL s.groups=s.aL.length
 tM:wL s.aL<=20
 g3:∀g∈s.groups,g<3
 hm:∀h∈s.aL,h<n
 hl:wL s.had=s.aL.length
 hb:∀w∈s.had,wL w<=D
 ll:wL s.ls<=D
 lb:∀l∈s.ls,wL l.aF+wL s.cps<=D/\wL l.done<=D/\l.grp<3/\(l.kd=1∨l.kd=2)
 cb:wL s.cps<=D
 cl:∀c∈s.cps,c.l<wL s.ls/\c.r<m/\c.h<n
 tb:∀g,50*(s.ts g).length<=D/\eZ (s.ts g)
theorem Bd.mono{n m D a:Nat}{s:NS}(b:Bd n m D s)(h:D<=a):Bd n m a s :=⟨b.gl,b.tM,b.g3,b.hm,b.hl,λw z=>aJ (b.hb w z) h,aJ b.ll h,λl z=>⟨aJ (b.lb l z).1 h,aJ (b.lb l z).2.1 h,(b.lb l z).2.2⟩,aJ b.cb h,b.cl,λg=>⟨aJ (b.tb g).1 h,(b.tb g).2⟩⟩
theorem Bd.set{n m D:Nat}{s:NS}{i:Nat}{l a:LS}(b:Bd n m D s)(k:Nat)(hl:s.ls[i]?=ac l){cps:List Cp}{had:List (List Nat)}(u:wL cps<=wL s.cps+1)(k2:wL cps<=wL s.cps∨2<=k)(k1:1<=k)(t:wL a.aF+wL cps<=wL l.aF+wL s.cps+k)(v:wL a.done<=wL l.done+k)(j:a.grp=l.grp)(p:a.kd=l.kd)(o:∀c∈cps,c∈s.cps∨(c.l<wL s.ls/\c.r<m/\c.h<n))(f:wL had=s.had.length)(q:∀w∈had,wL w<=D+k):Bd n m (D+k) {s with ls:=s.ls.set i a,had:=had,cps:=cps}:=by have d:=b.lb l (ay hl);exists b.gl,b.tM,b.g3,b.hm,f.trans b.hl,q,4,λe z=>?_,4,λc z=>?_,λg=>⟨aJ (b.tb g).1 (mP _ _),(b.tb g).2⟩;show (s.ls.set i a).length<=_;rw[aQ];have:=b.ll;lia;rcases dm z with z|rfl;have h:=b.lb e z;exists 44,h.2.2;show e.aF.length+wL cps<=_;have:=h.1;lia;have:=h.2.1;lia;exists 44,j▸d.2.2.1,p▸d.2.2.2;show e.aF.length+wL cps<=_;have:=d.1;lia;have:=d.2.1;lia;show cps.length<=_;have:=b.cb;lia;show c.l<(s.ls.set i a).length/\_;rw[aQ];rcases o c z with y|y;exact b.cl c y;exact y
theorem Bd.att{n m D:Nat}{s:NS}(b:Bd n m D s)(i:Nat)(d:ck):Bd n m (D+1) (c6 s i d):=by cases h:s.ls[i]? with|none=>unfold c6;rw[h];exact b.mono (eB D)|some l=>rw[gf h];refine b.set 1 h (eB _) (.inl (az _)) (az _) ?_ (eB _) rfl rfl (λc z=>.inl z) rfl (λw z=>gu (b.hb w z));show (l.aF++[d]).length+_<=_;rw[av];show l.aF.length+1+_<=_;lia
noncomputable def fO(s:NS)(i h:Nat)(l:LS):NS:={s with ls:=s.ls.set i {l with done:=kg l.done h}}
theorem Qk{s:NS}{i h:Nat}{l:LS}(hl:s.ls[i]?=ac l):Fr s (fO s i h l):=ae7 hl rfl rfl rfl rfl rfl
theorem Wo{n m D:Nat}{s:NS}{i h:Nat}{l:LS}(b:Bd n m D s)(hl:s.ls[i]?=ac l):Bd n m (D+1) (fO s i h l):=by refine b.set 1 hl (eB _) (.inl (az _)) (az _) (eB _) ?_ rfl rfl (λc z=>.inl z) rfl (λw z=>gu (b.hb w z));show (kg l.done h).length<=_;unfold kg;split;exact eB _;rw[av];exact az _
noncomputable def tG(s:NS)(i c:Nat):NS:={s with had:=s.had.set c (s.had.getD c []++[i])}
noncomputable def kL(i h:Nat)(s:NS)(c:Nat):NS:=c6 (tG s i c) i (.hand h c)
theorem JA{s:NS}{i h c:Nat}:Fr s (kL i h s c):=Fr.trans (b:=tG s i c) ⟨22222,λ_ l h=>⟨l,h,22222⟩⟩ Wn
theorem Ql{n m D:Nat}{s:NS}{i h c:Nat}(b:Bd n m D s):Bd n m (D+1) (kL i h s c):=by have q:∀w∈(tG s i c).had,wL w<=D+1:=λw z=>(by rcases dm z with y|rfl;exact gu (b.hb w y);rw[av];refine kM ?_ 1;rw[ao];cases e:s.had[c]? with|none=>exact aS _|some w=>exact b.hb w (ay e));unfold kL;cases d:s.ls[i]? with|none=>unfold c6;rw[show (tG s i c).ls[i]?=ae from d];have a:=b.mono (eB D);exact⟨a.gl,a.tM,a.g3,a.hm,by show (s.had.set _ _).length=_;rw[aQ];exact a.hl,q,a.ll,a.lb,a.cb,a.cl,a.tb⟩|some l=>rw[gf (show (tG s i c).ls[i]?=ac l from d)];refine b.set 1 d (eB _) (.inl (az _)) (az _) ?_ (eB _) rfl rfl (λc z=>.inl z) (by show (s.had.set _ _).length=_;rw[aQ]) q;show (l.aF++[_]).length+wL s.cps<=_;rw[av];show l.aF.length+1+wL s.cps<=_;lia
noncomputable def lQ(ws:List (List Nat))(r k:Nat):Nat:=match ws[r]? with|some w=>w.getD (k%w.length) 0|none=>0
noncomputable def iD(rs:List R5)(r h:Nat):Nat:=match rs[r]? with|some re=>gO re h|none=>0
noncomputable def Yl(s:NS)(i:Nat):Nat:=match s.ls[i]? with|some l=>iX l|none=>0
noncomputable def tN(rs:List R5)(i h:Nat)(s:NS)(r:Nat):NS:=Sv s i h r (lQ s.ws r (Yl s i)) (iD rs r h)
theorem JB{rs:List R5}{s:NS}{i h r:Nat}:Fr s (tN rs i h s r):=Fr.trans (Wn (i:=i) (d:=.send h r (lQ s.ws r (Yl s i)))) ⟨22222,λ_ l h=>⟨l,h,22222⟩⟩
theorem Uj{ns:List Int}{rs:List R5}(o:cR ns rs){r h:Nat}(a:r<wL rs):iD rs r h<wL ns:=by unfold iD;rw[aa a];have k:=o.ok _ (aP a);have e:=k.a0;have c:=k.b0;have d:=k.a1;have b:=k.b1;show gO _ _<_;unfold gO;split <;> lia
theorem Wp{ns:List Int}{rs:List R5}(o:cR ns rs){D:Nat}{s:NS}{i h r:Nat}(b:Bd (wL ns) (wL rs) D s)(a:i<wL s.ls)(e:r<wL rs):Bd (wL ns) (wL rs) (D+2) (tN rs i h s r):=by have d:=aa a;unfold tN Sv;rw[gf d];refine b.set 2 d (by rw[av];exact az _) (.inr (az _)) (!_) ?_ (mP _ _) rfl rfl (λc z=>?_) rfl (λw z=>aJ (b.hb w z) (mP _ _));show (s.ls[i].aF++[_]).length+(s.cps++[_]).length<=_;rw[av,av];show s.ls[i].aF.length+1+(wL s.cps+1)<=_;lia;rcases bU.mp z with y|y;exact .inl y;rw[bV] at y;subst y;exact .inr ⟨a,e,Uj o e⟩
theorem Aq{f:NS->Nat->NS}(h:∀s x,Fr s (f s x)):∀(xs:List Nat)(s:NS),Fr s (xs.foldl f s)
 |[],s=>Fr.refl s
 |x::xs,s=>(h s x).trans (Aq h xs (f s x))
theorem C5{n m k:Nat}{f:NS->Nat->NS}(I:NS->Prop):∀(xs:List Nat)(s:NS)(D:Nat),(∀s x D,x∈xs->I s->Bd n m D s->I (f s x)/\Bd n m (D+k) (f s x))->I s->Bd n m D s->Bd n m (D+k*wL xs) (xs.foldl f s)
 |[],s,D,_,_,b=>b
 |x::xs,s,D,h,i,b=>by
  obtain⟨a,c⟩:=h s x D cK i b
  have:=C5 I xs (f s x) (D+k) (λs y D z=>h s y D (bS _ z)) a c
  refine this.mono (Nat.le_of_eq ?_);rw[bC,Nat.mul_succ];lia
theorem Om{f:NS->Nat->NS}{xs:List Nat}{s:NS}{j:Nat}(h:j<wL xs):(xs.take (j+1)).foldl f s=f ((xs.take j).foldl f s) xs[j]:=by rw[kE h,wM];rfl
noncomputable def jG(s:NS)(l:LS)(h:Nat):List Nat:=(vK s h l.grp).filter λc=>D0 l.s l.to l.kd c
noncomputable def ES(rs:List R5)(s:NS)(l:LS)(h:Nat)(bF:Option Nat)(os:List Nat):List Nat:=(Ju (s.ts l.grp) (tR l.to l.kd) h (bF.map λk:Nat=>(k:Int)) ((os.filter (isAt rs h)).map λk:Nat=>(k:Int)) ((vK s h l.grp).map λk:Nat=>(k:Int))).map Int.toNat
noncomputable def Qm(rs:List R5)(s:NS)(i h:Nat)(l:LS)(bF:Option Nat)(os:List Nat):NS:=(ES rs s l h bF os).foldl (tN rs i h) ((jG s l h).foldl (kL i h) (fO s i h l))
theorem C6{ts:List T3}{b:Option Int}{c:Int}{bF:Option Int}{os a:List Int}:(∀x∈Ju ts b c bF os a,x∈os)/\(Ju ts b c bF os a).length<=wL os:=by have f:(∀x∈os.filter (j0 bF),x∈os)/\(os.filter (j0 bF)).length<=wL os:=⟨λx z=>(bD.mp z).1,aR _ _⟩;unfold Ju;split;exact f;split;exists λx z=>ff z (-_),aS _;split;split;(rename_i r _ d;exists λx z=>?_,4;have:=(bD.mp z).1;rw[bV] at this;exact this▸d;refine aJ (aR _ _) ?_;show 1<=wL os;cases os with|nil=>cases d|cons=>simp);exact f;exact f
theorem adi{rs:List R5}{s:NS}{l:LS}{h:Nat}{bF:Option Nat}{os:List Nat}:(Ju (s.ts l.grp) (tR l.to l.kd) h (bF.map λk:Nat=>(k:Int)) ((os.filter (isAt rs h)).map λk:Nat=>(k:Int)) ((vK s h l.grp).map λk:Nat=>(k:Int))).map cn=aT (ES rs s l h bF os):=by unfold ES;rw[aT,cU];refine cT λx a=>?_;obtain⟨k,_,rfl⟩:=bH.mp (C6.1 x a);rfl
theorem JC{rs:List R5}{s:NS}{l:LS}{h:Nat}{bF:Option Nat}{os:List Nat}:(∀r∈ES rs s l h bF os,r∈os)/\(ES rs s l h bF os).length<=wL os:=by unfold ES;exists λr b=>?_,4;obtain⟨x,c,rfl⟩:=bH.mp b;obtain⟨k,a,rfl⟩:=bH.mp (C6.1 x c);exact (bD.mp a).1;rw[af];refine aJ C6.2 ?_;rw[af];exact aR _ _
theorem Gm{s:NS}{l:LS}{h:Nat}:(∀c∈jG s l h,c<wL s.aL)/\(jG s l h).length<=wL s.aL:=by unfold jG vK;exists λc z=>cS.mp (bD.mp (bD.mp z).1).1,4;refine aJ (aR _ _) (aJ (aR _ _) ?_);rw[bJ];exact az _
theorem C7{ns:List Int}{rs:List R5}{o:cR ns rs}{s:NS}{g:Nat}{os:List Nat}(O:ie (p9 ns rs o s.ws g) (s.R g) os){r:Nat}(d:r∈os):r<wL rs/\∃w,s.ws[r]?=ac w/\w≠[]:=by obtain⟨a,b,t⟩:=(O.2 r).mp d;have m:r∈Ax rs s.ws g:=t.CI.1;exists Ba r m,4;have e:=(bD.mp m).2;unfold isLive at e;split at e;rename_i h w f c;exists w,c,λz=>?_;subst z;cases e;cases e
theorem ag2{rs:List R5}{s:NS}{i h:Nat}{l:LS}{bF:Option Nat}{os:List Nat}(hl:s.ls[i]?=ac l):Fr s (Qm rs s i h l bF os):=((Qk hl).trans (Aq (λ_ _=>JA) _ _)).trans (Aq (λ_ _=>JB) _ _)
end
section
variable{P:ci}{w:World}{K:ai}{mg:Str->Option ar}{base:Heap}
theorem ag3{c:NC}{H:Hp}{a b:am}{l:LS}{d:am}(h:H a=ac (tS c b l))(k:l.kd=1∨l.kd=2):HZ d c.let1 c.ajl H a l.s l.to l.kd:=by rcases k with e|e;rw[e];refine .one b ?_;rw[h];unfold tS;rw[eL e];rw[e];refine .all b ?_;rw[h];unfold tS;rw[e8 (by rw[e];decide)]
inductive ae8(K:ai)(CT:am)(c:NC)(vs:List V)(H:Hp)(Q:VK)(E:XK):Prop
 |mk(F:am->Prop)(p tp ln lr:am)(ns:List Int)(rs:List R5)(s:NS)(o:cR ns rs)(i h:Nat)(bF:Option Nat)(l:LS)(D:Nat):vs=[.ref p,.int i,.int h,kB (bF.map λk:Nat=>(k:Int))]->NW K c CT H F p tp ln lr ns rs s->Dh ns rs s->Bd (wL ns) (wL rs) D s->D<=900000->s.ls[i]?=ac l->(∀os F' H',ie (p9 ns rs o s.ws l.grp) (s.R l.grp) os->wL os<=12->NW K c CT H' F' p tp ln lr ns rs (Qm rs s i h l bF os)->Step H F H' F'->Q .gk H')->ae8 K CT c vs H Q E
theorem yR{t:Ad}(T:Txt K mg t):cH P w K mg base iJ 7 t.j5 t.nH ["self","number","house","came"] (ae8 K t.be (nc t)):=by
 refine T.sL.F.jv fL λH Q E hr h=>?_
 ·obtain⟨F,p,tp,ln,lr,ns,rs,st,o,i,f,U,l,D,rfl,N,Cy,bd,hD,J,k⟩:=h;exists _,(aq (sS 4 fL (xL (bg (pv 0) rfl) (pv 1))) (aq (sS 5 fL (bg (pv 4) rfl)) (aq (OW (HX hr) (bg (pv 4) rfl) (pv 2) MY rfl) (aq (sS 6 fL (cG (U3 T) hr T.NB (nO (bg (pv 0) rfl) (cM (pv 0) T.bG T.zP (Cw T) hr (fR (pv 5))) (cM (pv 0) T.bG T.u0 (wF T) hr (fR (pv 5))) (pv 2)))) (aq (sS 7 fL (cM (pv 0) T.bG T.yE (Gj T) hr (kN (pv 2) (pv 5)))) (aq (sS 8 fL (cG (U4 T) hr T.Nv (aN6 (xL (bg (pv 0) rfl) (pv 5)) (bg (pv 4) rfl) (pv 2) (pv 3) (pv 6) (pv 7)))) (aq (fS (eW (xT (pv 8) aA)) (gT 9 fL) (aq (eE (mQ aV bq bh dZ (xL (bg (pv 0) rfl) (pv 9)) (fR (pv 1)))) (oE (mQ aV bq bh dZ (bg (pv 4) rfl) (fR (dY (Ic fH (pv 2) (pv 9)))))))) (bz (fS (eW (xT (pv 8) aA)) (gT 10 fL) (oE (cM (pv 0) T.bG T.KG (Sw T) hr (Ic (pv 1) (pv 2) (pv 10))))))))))))),4;left;obtain⟨g,dx,q,hp,O,hF,hT⟩:=id N.dO;have X:kC K (nc t) H F g dx q p tp (wL ns) st:=⟨hp,O,hF,hT⟩;have cy:=O.get .dO _ rfl;rw[hp] at cy;have hil:=(aj.mp J).1;obtain⟨lb1,lb2,hg,lkd⟩:=bd.lb l (ay J);have Sm:=O.get .cV _ rfl;have Oj:=O.get (.cF i) (ou (nc t) dx g i l) (by show (st.ls[i]?.map _)=_;rw[J];rfl);have hdo:=O.get (.done i) (.dK (l.done.map λh:Nat=>(iF (h:Int),.bl ag))) (by show (st.ls[i]?.map _)=_;rw[J];rfl);refine aY λNx M=>?_;exists 1,p,7,cy,T.bG,T.fC,21,g .cV,39,bI.of Sm,oY hil,M _ _ ?_;refine aY λNx M=>?_;exists 1,g (.cF i),7,Oj,T.dS,T.lK,2,M _ _ ?_;refine aY λNx M=>?_;exists 1,g (.cF i),7,Oj,T.dS,T.qB,21,g (.done i),1,OU.k (k:=.inl (f:Int)) hdo (jF (by rw[af];lia)),4;rw[Yk];refine M _ _ ?_;obtain⟨X1,st1⟩:=Z9 X J (kg l.done f);have N1:=N.done st1 X1.dO;generalize upd H (g (.done i)) (.dK ((kg l.done f).map λh:Nat=>((iF (h:Int):Key),cw ag)))=H1 at X1 st1 N1;have fr1:=Qk (h:=f) J;have C:=Wo (h:=f) bd J;have es1:fO st i f l={st with ls:=st.ls.set i {l with done:=kg l.done f}}:=rfl;rw[<- es1] at X1 N1;have HH:(fO st i f l).ls[i]?=ac {l with done:=kg l.done f}:=(by show (st.ls.set i _)[i]?=_;rw[iz hil,eL rfl]);have ets:(fO st i f l).ts=st.ts:=rfl;have ehe:vK (fO st i f l) f l.grp=vK st f l.grp:=rfl;have k1:∀os F' H',ie (p9 ns rs o (fO st i f l).ws l.grp) ((fO st i f l).R l.grp) os->wL os<=12->NW K (nc t) t.be H' F' p tp ln lr ns rs ((ES rs st l f U os).foldl (tN rs i f) ((jG st l f).foldl (kL i f) (fO st i f l)))->Step H1 F H' F'->Q .gk H':=λos F' H' a b c d=>k os F' H' a b c (st1.trans d);have Ym:=fr1.ok Cy;have ehd:jG st l f=(vK (fO st i f l) f l.grp).filter λc:Nat=>D0 l.s l.to l.kd c:=rfl;have ego:∀os,ES rs st l f U os=(Ju ((fO st i f l).ts l.grp) (tR l.to l.kd) f (U.map λk:Nat=>(k:Int)) ((os.filter (isAt rs f)).map λk:Nat=>(k:Int)) ((vK (fO st i f l) f l.grp).map λk:Nat=>(k:Int))).map Int.toNat:=λos=>rfl;have hgi:∀os,(Ju ((fO st i f l).ts l.grp) (tR l.to l.kd) f (U.map λk:Nat=>(k:Int)) ((os.filter (isAt rs f)).map λk:Nat=>(k:Int)) ((vK (fO st i f l) f l.grp).map λk:Nat=>(k:Int))).map cn=aT (ES rs st l f U os):=λos=>adi;have I:∀os,(∀r∈ES rs st l f U os,r∈os)/\(ES rs st l f U os).length<=wL os:=λos=>JC;have W:(∀c∈jG st l f,c<(fO st i f l).aL.length)/\(jG st l f).length<=(fO st i f l).aL.length:=Gm;have hhi:((vK (fO st i f l) f l.grp).map λk:Nat=>(k:Int)).filter (D0 l.s l.to l.kd)=(jG st l f).map λk:Nat=>(k:Int):=(by rw[ehd,List.filter_map];rfl);generalize ES rs st l f U=S at k1 hgi I;generalize jG st l f=n at k1 W hhi;generalize fO st i f l=m at X1 N1 C k1 HH Ym hgi W hhi;have aty:=(aj.mp HH).1;have iV:=X1.own.get .dO _ rfl;rw[X1.hp] at iV;refine aY λNx M=>?_;exists 1,p,7,iV,T.bG,T.n9,24;exists 1,p,31,iV,21,F,p,tp,ln,lr,ns,rs,m,l.grp,2,N1,o,Ym,hg,λa1 H2 t2 ha1 h1=>?_;exists 1,p,31,t2 _ _ iV,21,F,p,tp,ns.length,l.grp,m,2,(N1.mono t2).dO,hg,λa2 qs H3 t3 ha2 h2 ht=>?_;exists 1,tp,ln,lr,a1,a2,ns,rs,_,o.nd,o.ok,Ba,m.R l.grp,f,2,(N1.mono (t2.trans t3)).lA,bI.of (t3 _ _ h1),ht.Uz (bI.of h2),by have:=o.n10;lia,o.Z6,Ym.fit l.grp hg,λlo os H4 t4 R7 hlo hO h12=>M _ _ ?_;have t14:=t2.trans (t3.trans t4);refine aY λNx M=>?_;exists 1,p,31,t14 _ _ iV,28,F,p,tp,ns.length,f,l.grp,m,2,(N1.mono t14).dO,C.gl,C.tM,λlh H5 t5 aoi O3=>M _ _ ?_;have su:=t14.trans t5;have X5:=X1.mono su;have ag5:=t5 _ _ hlo;have aka:=X5.own.get (.cF i) (ou (nc t) dx g i {l with done:=kg l.done f}) (by show (m.ls[i]?.map _)=_;rw[HH];rfl);have akb:=X5.own.get (.letter i) (tS (nc t) (dx (.letter i)) {l with done:=kg l.done f}) (by show (m.ls[i]?.map _)=_;rw[HH];rfl);rw[eU] at ag5 O3;refine aY λNx M=>?_;exists 1,p,7,su _ _ iV,T.bG,T.rY,21,g .ju,39,bI.of (X5.own.get .ju _ rfl),oY hg,1,g (.cF i),7,aka,T.dS,T.iZ,288,g (.book l.grp),g (.gj l.grp),g (.letter i),lo,lh,m.ts l.grp,l.s,l.to,l.kd,f,U.map λk:Nat=>(k:Int),31,X5.own.Pa hg,ag3 akb lkd,bI.of ag5,bI.of O3,44,λtq b1 b2 H6 t6 aoj aok aol atz htq hb1 hb2=>M _ _ ?_;rw[af];have:=aR (isAt rs f) os;lia;rw[af];unfold vK;have:=aR (HG m f l.grp) (aB m.aL.length);rw[bJ] at this;have:=C.tM;lia;rw[hhi,<- eU] at hb1;rw[hgi os] at hb2;have I:=I os;have k1:=k1 os;generalize S os=S at hb2 I k1;have t16:=su.trans t6;have X6:=X1.mono t16;have nF:∀{b},H5 b=ae->¬F b:=λ{b}e z=>(by obtain⟨u,e'⟩:=X5.dO.there z;rw[e] at e';cases e');have nq:=nF aoj;have n1:=nF aok;have n2:=nF aol;have akc:Step H1 F H6 F:=Step.refl' t16;refine aY λNx M=>?_;exists 1,tq,_,(0),12,cD.of htq,2,b1,2,⟨_,bI.of hb1⟩,qu (K:=K) (a:=b1) (xs:=aT n) (λj σ H7=>∃(q7:TQ)(v9:Option V),kC K (nc t) H7 F g dx q7 p tp (wL ns) ((n.take j).foldl (kL i f) m)/\Step H6 F H7 F/\σ=[ac (.ref p),ac (.int i),ac (.int f),ac (kB (U.map λk:Nat=>(k:Int))),ac (.ref (g (.cF i))),ac (.int l.grp),ac (.ref lo),ac (.ref lh),ac (.ref tq),v9,ae]) ⟨q,ae,X6,Step.refl' (aG.refl _),2⟩ (λj σ H7 _ z=>?_) ?_ ?_;obtain⟨q7,v9,Y,Ub,rfl⟩:=z;exact bI.of (Ub.kp _ _ hb1 n1);rintro j y σ H7 Nf Jz hj ⟨q7,v9,Y,Ub,rfl⟩;have G:j<wL n:=(by have:=(aj.mp hj).1;rw[af] at this;exact this);rw[ak,aa G] at hj;cases hj;rw[Om G] at Jz;have b7:Bd (wL ns) (wL rs) (D+1+1*(n.take j).length) ((n.take j).foldl (kL i f) m):=C5 (λ_=>True) _ _ _ (λs x D _ _ b=>⟨trivial,Ql b⟩) trivial C;have f7:Fr m ((n.take j).foldl (kL i f) m):=Aq (λ_ _=>JA) _ _;have hjt:(n.take j).length<=20:=(by rw[b6];have:=W.2;have:=C.tM;lia);obtain⟨l7,QB,_⟩:=f7.lt i _ HH;have A:n[j]<((n.take j).foldl (kL i f) m).had.length:=(by rw[b7.hl,f7.aL];exact W.1 _ (aP G));generalize (n.take j).foldl (kL i f) m=B at Y b7 QB A Jz;show jq 9 (cn ((n[j]:Nat):Int)) _ _ _;generalize n[j]=c at A Jz;have afa:=Y.own.get .dO _ rfl;rw[Y.hp] at afa;have hhc:=Y.own.get (.handed c) (.lst (aT B.had[c])) (by show (B.had[c]?.map _)=_;rw[aa A];rfl);have hwl:=b7.hb _ (aP A);have hdl:=(b7.lb l7 (ay QB)).1;exists 1,p,7,afa,T.bG,T.zU,21,g .i8,39,bI.of (Y.own.get .i8 _ rfl),oY A,.inl ⟨23,bI.of hhc⟩,1,g (.handed c),9,hhc,jF (by rw[af];lia),4;obtain⟨X8,v⟩:=aab Y A (B.had[c]++[i]);rw[gy] at X8 v;generalize upd H7 (g (.handed c)) (.lst (aT B.had[c]++[cn i]))=H8 at X8 v;have es:{B with had:=B.had.set c (B.had[c]++[i])}=tG B i c:=(by unfold tG;rw[ao,aa A];rfl);rw[es] at X8;have Z:(tG B i c).ls[i]?=ac l7:=QB;have aom:=X8.own.get (.cF i) (ou (nc t) dx g i l7) (by show ((tG B i c).ls[i]?.map _)=_;rw[Z];rfl);have akd:=X8.own.get (.aF i) (.lst ((q7.dq i).map cr)) (by show ((tG B i c).ls[i]?.map _)=_;rw[Z];rfl);have QD:=(X8.tup.aF i _ Z).len;rw[af] at QD;exists 1,g (.cF i),7,aom,T.dS,T.iR,2,.inl ⟨23,bI.of akd⟩,8,k9,λz1 hz1=>?_;have u1:=aG.new (o:=.tup [cv "hand",cn f,cn c]) hz1;exists g (.aF i),9,u1 _ _ akd,jF (by rw[af,QD];lia),4;obtain⟨X9,st9⟩:=Bb (X8.mono u1) Z (d:=.hand f c) (cD.of au);rw[<- gf Z] at X9;exact Jz _ _ ⟨33,X9,(Ub.trans v).trans ((Step.refl' (F:=F) u1).trans st9),2⟩;rintro σ H7 ⟨q7,v9,Y,Ub,rfl⟩;refine M _ _ ?_;rw[af,cQ] at Y;have b7:Bd (wL ns) (wL rs) (D+1+1*wL n) (n.foldl (kL i f) m):=C5 (λ_=>True) _ _ _ (λs x D _ _ b=>⟨trivial,Ql b⟩) trivial C;have f7:Fr m (n.foldl (kL i f) m):=Aq (λ_ _=>JA) _ _;have hjt:wL n<=20:=(by have:=W.2;have:=C.tM;lia);have N7:=N1.done (akc.trans Ub) Y.dO;obtain⟨l7,QB,_⟩:=f7.lt i _ HH;have ake:=f7.ok Ym;have hO7:ie (p9 ns rs o (n.foldl (kL i f) m).ws l.grp) ((n.foldl (kL i f) m).R l.grp) os:=(by rw[f7.ws,f7.R];exact hO);generalize n.foldl (kL i f) m=B at Y b7 QB N7 k1 ake hO7;exists 1,tq,_,(1),12,cD.of (Ub.kp _ _ htq nq),2,b2,2,⟨_,bI.of (Ub.kp _ _ hb2 n2)⟩,qu (K:=K) (a:=b2) (xs:=aT S) (λj σ H8=>∃(F8:am->Prop)(v10:Option V),NW K (nc t) t.be H8 F8 p tp ln lr ns rs ((S.take j).foldl (tN rs i f) B)/\Step H6 F H8 F8/\σ=[ac (.ref p),ac (.int i),ac (.int f),ac (kB (U.map λk:Nat=>(k:Int))),ac (.ref (g (.cF i))),ac (.int l.grp),ac (.ref lo),ac (.ref lh),ac (.ref tq),v9,v10]) ⟨F,ae,N7,Ub,2⟩ (λj σ H8 _ z=>?_) ?_ ?_;obtain⟨F8,v10,N8,v,rfl⟩:=z;exact bI.of (v.kp _ _ hb2 n2);rintro j y σ H8 Nf Jz hj ⟨F8,v10,N8,v,rfl⟩;have G:j<wL S:=(by have:=(aj.mp hj).1;rw[af] at this;exact this);rw[ak,aa G] at hj;cases hj;rw[Om G] at Jz;have hgl:∀r∈S,r<wL rs:=λr hr=>(C7 hO7 (I.1 r hr)).1;have f8:Fr B ((S.take j).foldl (tN rs i f) B):=Aq (λ_ _=>JB) _ _;have b8:Bd (wL ns) (wL rs) (D+1+1*wL n+2*(S.take j).length) ((S.take j).foldl (tN rs i f) B):=C5 (λs=>i<wL s.ls) _ _ _ (λs x D hx hi b=>⟨by
   obtain⟨l',e,_⟩:=(JB (rs:=rs) (h:=f) (i:=i) (r:=x) (s:=s)).lt i _ (aa hi);exact (aj.mp e).1,Wp o b hi (hgl x (List.mem_of_mem_take hx))⟩) (aj.mp QB).1 b7
  have atB:(S.take j).length<=12:=(by rw[b6];have:=I.2;lia);obtain⟨hrl,L,hw,hwn⟩:=C7 hO7 (I.1 _ (aP G));rw[<- f8.ws] at hw;obtain⟨l8,Z,_⟩:=f8.lt i _ QB;have akf:=f8.ok ake;generalize (S.take j).foldl (tN rs i f) B=s8 at N8 b8 Z hw akf Jz;show jq 10 (cn ((S[j]:Nat):Int)) _ _ _;generalize S[j]=r at hrl hw Jz;obtain⟨atD,dx8,q8,hp8,O8,hF8,hT8⟩:=id N8.dO;have Oo:=O8.get .dO _ rfl;rw[hp8] at Oo;have hdl:=(b8.lb l8 (ay Z)).1;have A:=b8.cb;have hwl:iX l8%L.length<wL L:=Nat.mod_lt _ (List.length_pos_iff.mpr hwn);have hwx:L[(((iX l8:Nat):Int)%(L.length:Int)).toNat]?=ac L[iX l8%L.length]:=(by rw[show (((iX l8:Nat):Int)%(L.length:Int))=((iX l8%L.length:Nat):Int) from rfl,cN];exact aa hwl);have hre:=aa hrl;exists 1,p,31,Oo,218,F8,p,tp,ln,lr,ns,rs,s8,i,f,r,l8,rs[r],L,1,N8,o,akf,Z,66,hre,hw,hwx,hwn,λF9 H9 N9 st9=>?_;refine Jz _ _ ⟨F9,34,v.trans st9,2⟩;have e1:lQ s8.ws r (Yl s8 i)=L[iX l8%L.length]:=(by unfold lQ Yl;rw[hw,Z];show L.getD (iX l8%L.length) 0=_;rw[ao,aa hwl];rfl);have e2:iD rs r f=gO rs[r] f:=(by unfold iD;rw[hre]);unfold tN;rw[e1,e2];exact N9;rintro σ H8 ⟨F8,v10,N8,v,rfl⟩;rw[af,cQ] at N8;exact k1 F8 H8 hO h12 N8 (akc.trans v)
theorem ag6{a b:TS}{D:Ends}{c:L2.St}{H:Hp}(J:L2.St->Hp->Prop)(d:∀c H,J c H->b D c H)(h:∀N:L2.St->Hp->Prop,(∀c H,J c H->N c H)->a {D with nx:=N} c H):Y0 a b D c H:=h _ d
inductive Wq(C:am)(vs:List V)(H:Hp)(Q:VK)(E:XK):Prop
 |mk (p dx la:am) (g:Int):vs=[.ref p,.ref la,.int g]->H p=ac (.ins C dx [])->(∀da ea H',H da=ae->H ea=ae->da≠ea->H' p=ac (.ins C dx [("letter",.ref la),("group",.int g),("old",.bl al),("done_at",.ref da),("deeds",.ref ea)])->H' da=ac (.dK [])->H' ea=ac (.lst [])->(∀b o,H b=ac o->b≠p->H' b=ac o)->Q .gk H')->Wq C vs H Q E
theorem HJ{t:Ad}(T:Txt K mg t):cH P w K mg base iJ 1 t.j4 t.nG ["self","letter","group"] (Wq t.j8):=by refine T.AA.F.jv G1 λH Q E u h=>?_;·obtain⟨p,j,s,g,rfl,r,k⟩:=h;exists _,(aq (gK (pv 0) (pv 1) rfl) (aq (gK (pv 0) (pv 2) rfl) (aq (gK (pv 0) MY rfl) (aq (gK (pv 0) ZC rfl) (bz (gK (pv 0) (fX gM) rfl)))))),4;left;exists 8,p,_,j,1,r,T.dS,T.iZ,(!_),4;rw[eS (names:=[]) rfl rfl];exists 8,p,_,j,1,au,T.dS,T.lK,(by show 1<1000;decide),4;rw[eS (names:=["letter"]) rfl (by decide +kernel),OG];exists 1,p,_,j,1,au,T.dS,T.zS,(by show 2<1000;decide),4;rw[eS (names:=["letter","group"]) rfl (by decide +kernel),OG];intro i a;have d:H i=ae:=(by by_cases z:i=p;subst z;rw[au] at a;cases a;rw[aI z] at a;exact a);have q:p≠i:=aC r d;exists 1,p,_,j,1,(by rw[aI q];exact au),T.dS,T.qB,(by show 3<1000;decide),4;rw[eS (names:=["letter","group","old"]) rfl (by decide +kernel)];exists aS _,λm c=>?_;have l:m≠p:=λz=>(by subst z;rw[au] at c;cases c);rw[aI l] at c;have f:i≠m:=λz=>(by subst z;rw[au] at c;cases c);rw[aI (bT f),aI l] at c;exists 1,p,_,j,1,(by rw[aI (bT l)];exact au),T.dS,T.iR,(by show 4<1000;decide),4;rw[eS (names:=["letter","group","old","done_at"]) rfl (by decide +kernel)];refine k i m _ d c f au ?_ ?_ λb o e n=>?_;rw[aI (bT q),aI f,aI (bT q)];exact au;rw[aI l];exact au;rw[aI n,aI (aC e c),aI n,aI (aC e d),aI n];exact e
noncomputable def jH(s:NS)(x:Nat)(to:Option Nat):LS:={s:=x,to:=to.getD 0,kd:=if to.isSome=ag then 1 else 2,grp:=s.groups.getD x 0,old:=al,done:=[],aF:=[]}
noncomputable def Oq(s:NS)(l:LS):NS:={s with ls:=s.ls++[l]}
noncomputable def lR(s:NS)(x:Nat)(to:Option Nat):NS:={s with ls:=s.ls++[{jH s x to with aF:=[.post (s.aL.getD x 0)]}]}
noncomputable def oA(rs:List R5)(s:NS)(x:Nat)(to:Option Nat)(os:List Nat):NS:=Qm rs (lR s x to) (wL s.ls) (s.aL.getD x 0) {jH s x to with aF:=[.post (s.aL.getD x 0)]} ae os
theorem Yo{s:NS}{x:Nat}{to:Option Nat}:c6 (Oq s (jH s x to)) (wL s.ls) (.post (s.aL.getD x 0))=lR s x to:=by rw[gf (l:=jH s x to) (by show (s.ls++[_])[s.ls.length]?=_;rw[bZ (az _),gq];rfl)];show {s with ls:=(s.ls++[_]).set (wL s.ls) _}={s with ls:=_};congr 1;rw[oJ _ _ (az _),gq];rfl
theorem mC{s:NS}{l:LS}:(s.ls++[l])[s.ls.length]?=ac l:=by rw[bZ (az _),gq];rfl
theorem Wr{n m D:Nat}{s:NS}{x:Nat}{to:Option Nat}(b:Bd n m D s)(g:x<wL s.aL):Bd n m (D+1) (lR s x to):=by have a:=b.mono (eB D);exists a.gl,a.tM,a.g3,a.hm,a.hl,a.hb,4,λl z=>?_,a.cb,λc z=>?_,a.tb;show (s.ls++[_]).length<=_;rw[av];exact kM b.ll 1;rcases bU.mp z with y|y;exact a.lb l y;rw[bV] at y;subst y;exists 4,aS _,44;show 1+wL s.cps<=D+1;have:=b.cb;lia;show s.groups.getD x 0<3;have d:x<wL s.groups:=(by rw[b.gl];exact g);rw[ao,aa d];exact b.g3 _ (aP d);show (if _ then (1:Int) else 2)=1∨(if _ then (1:Int) else 2)=2;split;exact .inl rfl;exact .inr rfl;obtain⟨f,e⟩:=b.cl c z;exists 4,e;show c.l<(s.ls++[_]).length;rw[av];exact cj f (mP _ _)
inductive Ws(K:ai)(CT:am)(c:NC)(vs:List V)(H:Hp)(Q:VK)(E:XK):Prop
 |mk(F:am->Prop)(p tp ln lr:am)(ns:List Int)(rs:List R5)(s:NS)(o:cR ns rs)(x:Nat)(to:Option Nat)(D:Nat):vs=[.ref p,.int x,kB (to.map λy:Nat=>(y:Int))]->NW K c CT H F p tp ln lr ns rs s->Dh ns rs s->Bd (wL ns) (wL rs) D s->D<=800000->x<wL s.aL->(∀y,to=ac y->y<wL s.aL/\s.groups[y]?=s.groups[x]?)->(∀os F' H',ie (p9 ns rs o s.ws (s.groups.getD x 0)) (s.R (s.groups.getD x 0)) os->wL os<=12->NW K c CT H' F' p tp ln lr ns rs (oA rs s x to os)->Step H F H' F'->Q (.int (wL s.ls)) H')->Ws K CT c vs H Q E
theorem Sx{t:Ad}(T:Txt K mg t):cH P w K mg base iJ 8 t.jT t.zN ["self","sender","to"] (Ws K t.be (nc t)):=by refine T.u9.jv vV λH Q E hr h=>?_;·obtain⟨F,p,tp,ln,lr,ns,rs,st,o,x,c,D,rfl,N,Cy,bd,hD,hx,hto,k⟩:=h;exists _,(aq (eE (cM (pv 0) T.bG T.yF (Gi T) hr (kN (pv 1) (pv 2)))) (aq (sS 3 vV (AU (qT TH (pv 2) kr) (Vz T.acU (yN T) (hr.mono (!_)) rfl T.acT T.sJ.B .nil kH (fR (pv 1))) (cI T.BE (Jj T) hr T.acS (kN (pv 1) (pv 2))))) (aq (sS 4 vV (lS T.fV (bg (pv 0) rfl))) (aq (eE (mQ aV bq bh dZ (bg (pv 0) rfl) (fR (cI T.AA (HJ T) hr T.aal (kN (pv 3) (xL (bg (pv 0) rfl) (pv 1))))))) (aq (sS 5 vV (xL (bg (pv 0) rfl) (pv 1))) (aq (eE (mQ aV bq bh dZ (bg (xL (bg (pv 0) rfl) (pv 4)) rfl) (fR (dY (kN fH (pv 5)))))) (aq (eE (cM (pv 0) T.bG T.sL (yR T) hr (Ic (pv 4) (pv 5) kr))) (oR (pv 4))))))))),4;left;obtain⟨m,dx,q,hp,O,hF,hT⟩:=id N.dO;have cy:=O.get .dO _ rfl;rw[hp] at cy;have hxg:x<wL st.groups:=(by rw[bd.gl];exact hx);refine aY λNx n=>?_;exists 1,p,31,cy,28,F,p,tp,ns.length,x,c,st,2,N.dO,hx,bd.gl,hto,n _ _ ?_;refine ag6 (λσ r=>∃la Pc,aG H r/\H la=ae/\r la=ac (tS (nc t) Pc (jH st x c))/\σ=[ac (.ref p),ac (.int x),ac (kB (c.map λy:Nat=>(y:Int))),ac (.ref la),ae,ae]) ?_ (λN hN=>?_);rotate_left;(cases c with|none=>exists 10,fY ?_;exists 1,λz dz Y L I=>⟨z,_,dz,x,2,au,T.zR,T.pW,24⟩;exact hN _ _ ⟨z,dz,made Y L I,Y,au,2⟩|some y=>exists 10,e9 ?_;exists 8,λz dz Y L I=>⟨z,dz,x,y,2,au,λH3 hy3 kp=>⟨24⟩⟩;exact hN _ _ ⟨z,dz,λb u e=>kp b u (((aG.new L).trans (aG.new (by rw[aI (bT I)];exact Y))) b u e) (aC e Y),Y,hy3,2⟩);rintro σ r ⟨la,Pc,s,ag8,hla,rfl⟩;have iV:=s _ _ cy;have N1:=N.mono s;obtain⟨O1,T1⟩:=And.intro (O.mono s) (hT.mono λb x=>s.bP (a:=b) (xs:=x));have J:=O1.get .cV _ rfl;refine aY λNx n=>?_;exists 1,p,7,iV,T.bG,T.fC,2,m .cV,1,.inl (bI.of J),4;rw[af,bJ];refine n _ _ ?_;refine aY λNx n=>?_;exists 1,p,7,iV,T.bG,T.fC,2,.inl ⟨23,bI.of J⟩,8,p,7,iV,T.bG,T.mq,21,m .groups,39,bI.of (O1.get .groups _ rfl),oZ hxg,λpa Gy f A S=>⟨pa,Gy,la,1,au,λda ea H2 M Yn nde h2p h2d h2e Mi=>⟨24⟩⟩;have j:aG r H2:=λb u e=>Mi b u (((aG.new A).trans (aG.new (by rw[aI (bT S)];exact f))) b u e) (aC e f);have R:r da=ae:=(by cases e:r da with|none=>rfl|some u=>have:=((aG.new (o:=.own pa) A).trans (aG.new (o:=.ins t.j8 Gy []) (by rw[aI (bT S)];exact f))) _ _ e;rw[M] at this;cases this);have G:r ea=ae:=(by cases e:r ea with|none=>rfl|some u=>have:=((aG.new (o:=.own pa) A).trans (aG.new (o:=.ins t.j8 Gy []) (by rw[aI (bT S)];exact f))) _ _ e;rw[Yn] at this;cases this);have nF:∀{b},r b=ae->¬F b:=λ{b} e z=>(by obtain⟨u,e'⟩:=N1.dO.there z;rw[e] at e';cases e');have nFl:¬F la:=λz=>(by obtain⟨u,e'⟩:=N.dO.there z;rw[ag8] at e';cases e');have npd:pa≠da:=λz=>(by rw[<- z,au] at M;cases M);have npe:pa≠ea:=λz=>(by rw[<- z,au] at Yn;cases Yn);have U:∀{b},r b=ae->la≠b:=λ{b} e=>aC hla e;have eg:st.groups.getD x 0=st.groups[x]:=(by rw[ao,aa hxg];rfl);have akg:=j _ _ J;exists m .cV,9,akg,jF (by rw[af,bJ];have:=bd.ll;lia),4;obtain⟨F3,N3,Yp,fr3⟩:=aac (l:=jH st x c) (Gy:=Gy) (Pc:=Pc) (pa:=pa) (la:=la) (da:=da) (ea:=ea) hp (O1.mono j) hF (T1.mono λb x=>j.bP (a:=b) (xs:=x)) rfl (by show _=ac (c0 _ _ [_,(_,cn ((st.groups.getD x 0:Nat):Int)),_,_,_]);rw[eg];exact h2p) (j _ _ hla) h2d h2e (bT (U f)) npd npe (U R) (U G) nde (nF f) nFl (nF R) (nF G);have C:Step H F _ F3:=⟨λb u e z=>Yp b u (j _ _ (s _ _ e)) z,λb z=>by rcases fr3 b z with y|rfl|rfl|rfl|rfl;exact .inl y;exact .inr (s.free f);exact .inr ag8;exact .inr (s.free R);exact .inr (s.free G)⟩;have W3:=N.done C N3;generalize upd H2 (m .cV) (.lst (((aB (wL st.ls)).map λi=>cr (m (.cF i)))++[.ref pa]))=H3 at C W3 N3;refine n _ _ ?_;obtain⟨v,YL,q3,Z,X,hF3,hT3⟩:=id W3.dO;have X3:kC K (nc t) H3 F3 v YL q3 p tp (wL ns) (Oq st (jH st x c)):=⟨Z,X,hF3,hT3⟩;have CB:=X.get .dO _ rfl;rw[Z] at CB;have g:(Oq st (jH st x c)).ls[st.ls.length]?=ac (jH st x c):=mC;have adq:wL st.ls<(Oq st (jH st x c)).ls.length:=(aj.mp g).1;have eh:st.aL.getD x 0=st.aL[x]:=(by rw[ao,aa hx];rfl);refine aY λNx n=>?_;exists 1,p,7,CB,T.bG,T.lN,21,v .aL,39,bI.of (X.get .aL _ rfl),oZ hx,n _ _ ?_;have aaZ:=X.get (.cF (wL st.ls)) (ou (nc t) YL v (wL st.ls) (jH st x c)) (by show ((Oq st (jH st x c)).ls[st.ls.length]?.map _)=_;rw[g];rfl);have akh:=X.get (.aF (wL st.ls)) (.lst ((q3.dq (wL st.ls)).map cr)) (by show ((Oq st (jH st x c)).ls[st.ls.length]?.map _)=_;rw[g];rfl);have QD:=(X3.tup.aF _ _ g).len;rw[af] at QD;refine aY λNx n=>?_;exists 1,p,7,CB,T.bG,T.fC,21,v .cV,39,bI.of (X.get .cV _ rfl),oY adq,v (.cF (wL st.ls)),7,aaZ,T.dS,T.iR,2,.inl ⟨23,bI.of akh⟩,1,jD,λz1 hz1=>?_;have u1:=aG.new (o:=.tup [cv "post",cn (st.aL[x]:Nat)]) hz1;exists v (.aF (wL st.ls)),9,u1 _ _ akh,jF (by rw[af,QD];exact aS _),4;obtain⟨X4,Jq⟩:=Bb (X3.mono u1) g (d:=.post st.aL[x]) (cD.of au);rw[<- gf g,<- eh,Yo] at X4;rw[<- eh] at Jq u1;rw[<- eh];have W:=C.trans ((Step.refl' (F:=F3) u1).trans Jq);have W4:=N.done W X4.dO;generalize upd (upd H3 z1 (.tup [cv "post",cn (st.aL.getD x 0:Nat)])) (v (.aF (wL st.ls))) (.lst ((q3.dq (wL st.ls)).map cr++[.ref z1]))=H4 at X4 W W4;refine n _ _ ?_;have Cz:=X4.own.get .dO _ rfl;rw[X4.hp] at Cz;have aha:Dh ns rs (lR st x c):=⟨Cy.wl,Cy.w4,Cy.fit⟩;refine aY λNx n=>?_;exists 1,p,31,Cz,28,F3,p,tp,ln,lr,ns,rs,lR st x c,o,st.ls.length,st.aL.getD x 0,ae,{jH st x c with aF:=[.post (st.aL.getD x 0)]},D+1,2,W4,aha,Wr bd hx,6,mC,λos F5 H5 hO h12 W5 Tr=>?_;exact n _ _ ⟨1,k os F5 H5 hO h12 W5 (W.trans Tr)⟩
theorem afb{ns:List Int}{rs:List R5}(o:cR ns rs){D:Nat}{s:NS}{i h:Nat}{l:LS}{bF:Option Nat}{os:List Nat}(b:Bd (wL ns) (wL rs) D s)(hl:s.ls[i]?=ac l)(O:ie (p9 ns rs o s.ws l.grp) (s.R l.grp) os)(j:wL os<=12):Bd (wL ns) (wL rs) (D+45) (Qm rs s i h l bF os):=by
 have p:=Wo (h:=h) b hl;have f1:=Qk (h:=h) hl;have m:Bd (wL ns) (wL rs) (D+1+1*(jG s l h).length) ((jG s l h).foldl (kL i h) (fO s i h l)):=C5 (λ_=>True) _ _ _ (λs x D _ _ b=>⟨trivial,Ql b⟩) trivial p;have g:Fr (fO s i h l) ((jG s l h).foldl (kL i h) (fO s i h l)):=Aq (λ_ _=>JA) _ _;obtain⟨t,a,_⟩:=(f1.trans g).lt i l hl;have w:=(Gm (s:=s) (l:=l) (h:=h)).2;have v:=b.tM;have d:=JC (rs:=rs) (s:=s) (l:=l) (h:=h) (bF:=bF) (os:=os);have y:=d.2;have q:=C5 (k:=2) (f:=tN rs i h) (λs=>i<wL s.ls) (ES rs s l h bF os) _ _ (λs x D n c b=>⟨by
  obtain⟨u,e,_⟩:=(JB (rs:=rs) (h:=h) (i:=i) (r:=x) (s:=s)).lt i _ (aa c);exact (aj.mp e).1,Wp o b c (C7 O (d.1 x n)).1⟩) (aj.mp a).1 m
 exact q.mono ∅
noncomputable def jI(l:LS)(cp:Cp)(os:List Nat):Str:=if cp.r∈os then (if Gk l cp.h=ag then "twice" else "come") else "lost"
noncomputable def dP(l:LS)(cp:Cp)(os:List Nat):ck:=if cp.r∈os then (if Gk l cp.h=ag then .twice cp.h cp.r else .Ri cp.h cp.r) else .Dg cp.h cp.r
theorem Wt{l:LS}{cp:Cp}{os:List Nat}:(dP l cp os).vs=[.str (jI l cp os),.int cp.h,.int cp.r]:=by
 unfold dP jI;split;·split <;> rfl
 rfl
noncomputable def comes(l:LS)(cp:Cp)(os:List Nat):Bool:=decide (cp.r∈os)&&!Gk l cp.h
theorem Yq{l:LS}{cp:Cp}{os:List Nat}:decide (cv (jI l cp os)=cv "come")=comes l cp os:=by unfold jI comes;by_cases e:cp.r∈os;rw[eL e,fy e];cases Gk l cp.h;rw[e8 (!_)];decide +kernel;rw[eL rfl];decide +kernel;rw[e8 e,gn e,Bool.false_and];decide +kernel
noncomputable def Sy(s:NS)(a:Nat):NS:={s with cps:=s.cps.eraseIdx a}
noncomputable def Wu(s:NS)(g:Nat)(ts:List T3):NS:={s with ts:=fc s.ts g ts}
noncomputable def mD(s:NS)(a:Nat)(cp:Cp)(l:LS)(os:List Nat):NS:={s with cps:=s.cps.eraseIdx a,ls:=s.ls.set cp.l {l with aF:=l.aF++[dP l cp os]}}
noncomputable def bQ(s:NS)(a:Nat)(cp:Cp)(l:LS)(os:List Nat)(ts:List T3):NS:=if l.old=ag then mD s a cp l os else Wu (mD s a cp l os) l.grp ts
noncomputable def gh(rs:List R5)(s:NS)(a:Nat)(cp:Cp)(l:LS)(os:List Nat)(ts:List T3):NS:=
 if comes l cp os=ag then Qm rs (bQ s a cp l os ts) cp.l cp.h {l with aF:=l.aF++[dP l cp os]} (ac cp.r) os else mD s a cp l os
theorem HK{n m D:Nat}{s:NS}{a:Nat}{cp:Cp}{l:LS}{os:List Nat}(b:Bd n m D s)(hl:s.ls[cp.l]?=ac l)(d:a<wL s.cps):Bd n m (D+1) (mD s a cp l os):=by have e:(s.cps.eraseIdx a).length+1=s.cps.length:=(by rw[List.length_eraseIdx,eL d];lia);refine b.set 1 hl ∅ (.inl ∅) (az _) ?_ (eB _) rfl rfl (λc z=>.inl (List.mem_of_mem_eraseIdx z)) rfl (λw z=>gu (b.hb w z));show (l.aF++[_]).length+_<=_;rw[av];show l.aF.length+1+_<=_;lia
theorem Sz{ts a:List T3}{h c r:Int}(p:a.Perm (put3 ts h c r)):wL a<=wL ts+1:=by rw[p.length_eq];unfold put3;rw[av];exact kM (aR _ _) 1
theorem ads{n m D:Nat}{s:NS}{g:Nat}{ts:List T3}{h c r:Int}(b:Bd n m D s)(p:ts.Perm (put3 (s.ts g) h c r))(e:eZ ts):Bd n m (D+50) (Wu s g ts):=by have a:=b.mono (mP D 50);exists a.gl,a.tM,a.g3,a.hm,a.hl,a.hb,a.ll,a.lb,a.cb,a.cl,λd=>?_;show 50*(fc s.ts g ts d).length<=_/\eZ (fc s.ts g ts d);by_cases z:d=g;subst z;rw[cJ];exists 4,e;have:=Sz p;have:=(b.tb d).1;lia;rw[dG z];exact a.tb d
theorem C8{s:NS}{a:Nat}{cp:Cp}{l:LS}{os:List Nat}(hl:s.ls[cp.l]?=ac l):(mD s a cp l os).ls[cp.l]?=ac {l with aF:=l.aF++[dP l cp os]}:=by show (s.ls.set cp.l _)[cp.l]?=_;rw[iz (aj.mp hl).1,eL rfl]
theorem jJ{s:NS}{a:Nat}{cp:Cp}{l:LS}{os:List Nat}{ts:List T3}(hl:s.ls[cp.l]?=ac l):(bQ s a cp l os ts).ls[cp.l]?=ac {l with aF:=l.aF++[dP l cp os]}:=by unfold bQ;split;exact C8 hl;exact C8 (a:=a) hl
theorem CC{s:NS}{a:Nat}{cp:Cp}{l:LS}{os:List Nat}{ts:List T3}:(bQ s a cp l os ts).ws=s.ws/\(bQ s a cp l os ts).R=s.R/\(bQ s a cp l os ts).aL=s.aL/\(bQ s a cp l os ts).groups=s.groups:=by unfold bQ;split <;> exists 2222
theorem SA{n m D:Nat}{s:NS}{a:Nat}{cp:Cp}{l:LS}{os:List Nat}{ts:List T3}{h c r:Int}(b:Bd n m D s)(hl:s.ls[cp.l]?=ac l)(d:a<wL s.cps)(p:ts.Perm (put3 (s.ts l.grp) h c r))(e:eZ ts):Bd n m (D+51) (bQ s a cp l os ts):=by unfold bQ;split;exact (HK b hl d).mono ∅;exact (ads (h:=h) (c:=c) (r:=r) (HK b hl d) p e).mono ∅
theorem adt{ns:List Int}{rs:List R5}(o:cR ns rs){D:Nat}{s:NS}{a:Nat}{cp:Cp}{l:LS}{os:List Nat}{ts:List T3}{h c r:Int}(b:Bd (wL ns) (wL rs) D s)(hl:s.ls[cp.l]?=ac l)(f:a<wL s.cps)(O:ie (p9 ns rs o s.ws l.grp) (s.R l.grp) os)(d:wL os<=12)(p:ts.Perm (put3 (s.ts l.grp) h c r))(g:eZ ts):Bd (wL ns) (wL rs) (D+100) (gh rs s a cp l os ts):=by unfold gh;split;have e:=CC (s:=s) (a:=a) (cp:=cp) (l:=l) (os:=os) (ts:=ts);exact (afb o (SA (h:=h) (c:=c) (r:=r) b hl f p g) (jJ hl) (by rw[e.1,e.2.1];exact O) d).mono ∅;exact (HK b hl f).mono ∅
theorem _root_.TW.cP.erase{H:Hp}{qs:List am}{xs:List (List V)}(h:cP K H qs xs)(a:Nat):cP K H (qs.eraseIdx a) (xs.eraseIdx a):=by exists by rw[List.length_eraseIdx,List.length_eraseIdx,h.len],λi q x b c=>?_;rw[List.getElem?_eraseIdx] at b c;by_cases z:i<a;rw[eL z] at b c;exact h.at' i q x b c;rw[e8 z] at b c;exact h.at' (i+1) q x b c
theorem yS{b c:Type}(f:b->c):∀(xs:List b)(a:Nat),(xs.map f).eraseIdx a=(xs.eraseIdx a).map f
 |[],_=>rfl
 |_::_,0=>rfl
 |x::xs,a+1=>gw (f x::·) (yS f xs a)
theorem aa0{c:NC}{H d:Hp}{F:am->Prop}{a m:Role->am}{q:TQ}{p j:am}{n g:Nat}{s:NS}(X:kC K c H F a m q p j n s)(f:g<3)(ts:List T3)(w:d (a (.gj g))=ac (.dT (ts.map eY)))(v:∀b o,H b=ac o->b≠a (.gj g)->d b=ac o) :kC K c d F a m q p j n (Wu s g ts)/\Step H F d F:=by obtain⟨y,i⟩:=zl X (r:=.gj g) (o:=.dT (ts.map eY)) (q':=q) (s':=Wu s g ts) (by show (if g<3 then ac _ else ae)≠ae;rw[eL f];exact aW _) (λx=>by (cases x <;> first|rfl|skip);rename_i k;show i9 (desc c m j a q s) (.gj g) _ (.gj k)=(if k<3 then ac (HO.dT ((fc s.ts g ts k).map eY)) else ae);by_cases z:k=g;subst z;rw[eK,eL f,cJ];rw[c5 (λe=>z (by cases e;rfl)),dG z];rfl) (λh=>⟨λg f=>(X.tup.rows g f).mono h,λk l e=>(X.tup.aF k l e).mono h,X.tup.cps.mono h⟩);have t:aG (upd H (a (.gj g)) (.dT (ts.map eY))) d:=λb u e=>(by by_cases z:b=a (.gj g);rw[z,au] at e;cases e;rw[z];exact w;rw[aI z] at e;exact v b u e z);exists y.mono t,i.trans (Step.refl' t)
theorem adu{t:Ad}(T:Txt K mg t){b a:Role->am}{f:L2.St}{H:Hp}{Q:VK}{i:Nat}{l:LS}(h:∀Q:VK,Q (.ref (a (.cF i))) H->Mf 6 f H Q)(g:H (a (.cF i))=ac (ou (nc t) b a i l))(c:H (a (.letter i))=ac (tS (nc t) (b (.letter i)) l))(q:Q (.int l.s) H) :JL K (JL K (Mf 6) (ba "letter")) (ba "sender") f H Q:=by by_cases e:l.kd=1;have d:H (a (.letter i))=ac (.ins t.gW (b (.letter i)) [("sender",.int l.s),("to",.int l.to)]):=(by rw[c];unfold tS;rw[eL e]);unfold JL;exact (h _ ⟨a (.cF i),7,g,T.dS,T.iZ,2,a (.letter i),_,b (.letter i),31,d,T.rG,T.vc,2,q⟩);have d:H (a (.letter i))=ac (.ins t.jU (b (.letter i)) [("sender",.int l.s)]):=(by rw[c];unfold tS;rw[e8 e]);unfold JL;exact (h _ ⟨a (.cF i),7,g,T.dS,T.iZ,2,a (.letter i),_,b (.letter i),31,d,T.zR,T.pW,2,q⟩)
inductive Wv(K:ai)(CT:am)(c:NC)(vs:List V)(H:Hp)(Q:VK)(E:XK):Prop
 |mk(F:am->Prop)(p tp ln lr:am)(ns:List Int)(rs:List R5)(s:NS)(o:cR ns rs)(a D:Nat)(cp:Cp)(l:LS):vs=[.ref p,.int a]->NW K c CT H F p tp ln lr ns rs s->Dh ns rs s->Bd (wL ns) (wL rs) D s->D<=400000->s.cps[a]?=ac cp->s.ls[cp.l]?=ac l->(∀os ts F' H',ie (p9 ns rs o s.ws l.grp) (s.R l.grp) os->wL os<=12->ts.Perm (put3 (s.ts l.grp) cp.h l.s cp.r)->eZ ts->NW K c CT H' F' p tp ln lr ns rs (gh rs s a cp l os ts)->Step H F H' F'->Q (.str (jI l cp os)) H')->Wv K CT c vs H Q E
theorem LQ{t:Ad}(T:Txt K mg t):cH P w K mg base iJ 8 t.gE t.rE ["self","at"] (Wv K t.be (nc t)):=by refine T.m9.jv iL λH Q E hr h=>?_;·obtain⟨F,p,tp,ln,lr,ns,A,st,o,a,D,cp,l,rfl,N,I,bd,hD,U,g,k⟩:=h;exists _,(aq (cC (jg (jZ rK oO aA (pv 1) (lS T.fV (bg (pv 0) rfl)))) fh bw) (aq (sS 2 iL (mQ aV PySem.F.slot_list_pop PySem.F.type_list_pop QS (bg (pv 0) rfl) (fR (pv 1)))) (aq (sS 3 iL (xT (pv 2) aA)) (aq (sS 4 iL (xT (pv 2) aA)) (aq (sS 5 iL (xT (pv 2) aA)) (aq (sS 6 iL (xL (bg (pv 0) rfl) (pv 3))) (aq (sS 7 iL (cM (pv 0) T.bG T.Dz (LP T) hr (Ic (pv 6) (pv 4) (pv 5)))) (aq (eE (mQ aV bq bh dZ (bg (pv 6) rfl) (fR (dY (Ic (pv 7) (pv 5) (pv 4)))))) (aq (cC (qT kU (pv 7) fH) (aq (cC (jg (ku (bg (pv 6) rfl))) (oE (cM (xL (bg (pv 0) rfl) (bg (pv 6) rfl)) T.zT T.FA (ML T) hr (Ic (pv 5) (bg (bg (pv 6) rfl) rfl) (pv 4)))) bw) (oE (cM (pv 0) T.bG T.sL (yR T) hr (Ic (pv 3) (pv 5) (pv 4))))) bw) (oR (pv 7))))))))))),4;left;obtain⟨b,G,q,hp,O,hF,hT⟩:=id N.dO;have X:kC K (nc t) H F b G q p tp (wL ns) st:=⟨hp,O,hF,hT⟩;have cy:=O.get .dO _ rfl;rw[hp] at cy;have hal:=(aj.mp U).1;have hil:=(aj.mp g).1;have hcb:=bd.cb;obtain⟨lb1,lb2,hg,lkd⟩:=bd.lb l (ay g);obtain⟨ts,ets,C,y⟩:=J0 (h:=(cp.h:Int)) (c:=(l.s:Int)) (r:=(cp.r:Int)) (List.Perm.refl (st.ts l.grp)) (bd.tb l.grp).2;have v:=O.get .fQ _ rfl;have hcq:wL q.cq=st.cps.length:=(by have z:=hT.cps.len;rw[af] at z;exact z);have J:a<wL q.cq:=∅;refine aY λB f=>?_;exists 1914;rw[fy (show (0:Int)<=(a:Int) by lia)];refine fY ⟨1,p,7,cy,T.bG,T.jV,2,b .fQ,1,.inl (bI.of v),914⟩;rw[af,hcq,fy (show (a:Int)<(st.cps.length:Int) by lia)];refine e9 (f _ _ ?_);refine aY λB f=>?_;exists 1,p,7,cy,T.bG,T.jV,2,.inl ⟨23,bI.of v⟩,1,b .fQ,_,a,a,12,v,66,(Jo (by rw[af,hcq];exact tP hal)).1,(by rw[ak,aa J];rfl),4;have htu:cD K H q.cq[a] cp.vs:=hT.cps.at' a _ _ (aa J) (by rw[ak,U];rfl);obtain⟨n,u⟩:=VS X (qs:=q.cq.eraseIdx a) (cps:=st.cps.eraseIdx a) (by rw[<- yS];exact hT.cps.erase a);rw[yS];have Z:cD K _ q.cq[a] cp.vs:=N.dO.tup u.kp htu;generalize upd H (b .fQ) (.lst ((q.cq.eraseIdx a).map cr))=H1 at n u Z;generalize q.cq[a]=qa at Z;refine f _ _ ?_;have es:{st with cps:=st.cps.eraseIdx a}=Sy st a:=rfl;rw[es] at n;have HH:(Sy st a).ls[cp.l]?=ac l:=g;have N1:=N.done u n.dO;have iV:=n.own.get .dO _ rfl;rw[n.hp] at iV;have aki:=n.own.get (.cF cp.l) (ou (nc t) G b cp.l l) (by show ((Sy st a).ls[cp.l]?.map _)=_;rw[HH];rfl);refine aY λB f=>?_;exists 1,qa,_,(0),12,Z,2,f _ _ ?_;refine aY λB f=>?_;exists 1,qa,_,(1),12,Z,2,f _ _ ?_;refine aY λB f=>?_;exists 1,qa,_,(3),12,Z,2,f _ _ ?_;refine aY λB f=>?_;exists 1,p,7,iV,T.bG,T.fC,21,b .cV,39,bI.of (n.own.get .cV _ rfl),oY hil,f _ _ ?_;have Ym:Dh ns A (Sy st a):=⟨I.wl,I.w4,I.fit⟩;refine aY λB f=>?_;exists 1,p,31,iV,218,F,b,G,_,p,tp,ln,lr,ns,A,Sy st a,o,cp.l,cp.r,cp.h,l,2,n,N1,Ym,HH,hg,λos H2 s2 hO L=>?_;have ef:(if cp.r∈os then (if Gk l cp.h=ag then "twice" else "come") else "lost" : Str)=jI l cp os:=rfl;rw[ef];refine f _ _ ?_;have k:=k os ts;have X2:=n.mono s2;have akj:=s2 _ _ aki;have Y:=X2.own.get (.aF cp.l) (.lst ((q.dq cp.l).map cr)) (by show ((Sy st a).ls[cp.l]?.map _)=_;rw[HH];rfl);have QD:=(X2.tup.aF cp.l _ HH).len;rw[af] at QD;have QD:(q.dq cp.l).length=l.aF.length:=QD;refine aY λB f=>?_;exists 1,b (.cF cp.l),7,akj,T.dS,T.iR,2,.inl ⟨23,bI.of Y⟩,18,k9,λz1 hz1=>?_;have u1:=aG.new (o:=.tup [cv (jI l cp os),cn cp.h,cn cp.r]) hz1;exists b (.aF cp.l),9,u1 _ _ Y,jF (by rw[af,QD];lia),4;obtain⟨i,st3⟩:=Bb (X2.mono u1) HH (d:=dP l cp os) (by rw[Wt];exact cD.of au);have j:=(u.trans (Step.refl' (F:=F) (s2.trans u1))).trans st3;generalize upd (upd H2 z1 (.tup [cv (jI l cp os),cn cp.h,cn cp.r])) (b (.aF cp.l)) (.lst ((q.dq cp.l).map cr++[.ref z1]))=H3 at i j;refine f _ _ ?_;have es:{Sy st a with ls:=(Sy st a).ls.set cp.l {l with aF:=l.aF++[dP l cp os]}}=mD st a cp l os:=rfl;rw[es] at i;have CB:=i.own.get .dO _ rfl;rw[i.hp] at CB;have M:=C8 (a:=a) (os:=os) g;have x:=i.own.get (.cF cp.l) (ou (nc t) G b cp.l {l with aF:=l.aF++[dP l cp os]}) (by show ((mD st a cp l os).ls[cp.l]?.map _)=_;rw[M];rfl);have aos:=i.own.get (.letter cp.l) (tS (nc t) (G (.letter cp.l)) {l with aF:=l.aF++[dP l cp os]}) (by show ((mD st a cp l os).ls[cp.l]?.map _)=_;rw[M];rfl);have N3:=N.done j i.dO;exists 104;rw[Yq];by_cases e:comes l cp os=ag;(have k:∀F' S,NW K (nc t) t.be S F' p tp ln lr ns A (Qm A (bQ st a cp l os ts) cp.l cp.h {l with aF:=l.aF++[dP l cp os]} (ac cp.r) os)->Step H F S F'->Q (.str (jI l cp os)) S:=λF' S W z=>k F' S hO L C y (by unfold gh;rw[eL e];exact W) z;rw[e];refine fY ?_;refine jO (λσ H4=>kC K (nc t) H4 F b G {q with cq:=q.cq.eraseIdx a,dq:=fc q.dq cp.l (q.dq cp.l++[z1])} p tp (wL ns) (bQ st a cp l os ts)/\Step H F H4 F/\σ=[ac (.ref p),ac (.int a),ac (.ref qa),ac (.int cp.l),ac (.int cp.r),ac (.int cp.h),ac (.ref (b (.cF cp.l))),ac (.str (jI l cp os))]) ?_ (λN' hN=>?_);rintro σ H4 ⟨X4,Jq,rfl⟩;have Cz:=X4.own.get .dO _ rfl;rw[X4.hp] at Cz;have ew:=CC (s:=st) (a:=a) (cp:=cp) (l:=l) (os:=os) (ts:=ts);have aha:Dh ns A (bQ st a cp l os ts):=⟨by rw[ew.1];exact I.wl,by rw[ew.1];exact I.w4,by rw[ew.2.1];exact I.fit⟩;exists 1,p,31,Cz,218,F,p,tp,ln,lr,ns,A,bQ st a cp l os ts,o,cp.l,cp.h,ac cp.r,{l with aF:=l.aF++[dP l cp os]},D+51,2,N.done Jq X4.dO,aha,SA bd g hal C y,6,jJ g,λos' F5 H5 m _ W5 Tr=>?_;have m:ie (p9 ns A o (bQ st a cp l os ts).ws l.grp) ((bQ st a cp l os ts).R l.grp) os':=m;rw[ew.1,ew.2.1] at m;rw[m.uniq hO] at W5;exists 1,k F5 H5 W5 (Jq.trans Tr);exists 1,b (.cF cp.l),7,x,T.dS,T.zS,214;cases eo:l.old with|true=>refine e9 ?_;refine hN _ _ ⟨4,j,2⟩;unfold bQ;rw[eL eo];exact i|false=>refine fY ?_;exists 1,p,7,CB,T.bG,T.rY,21,b (.cF cp.l),7,x,T.dS,T.lK,2,b .ju,39,bI.of (i.own.get .ju _ rfl),oY hg,b (.book l.grp),G (.book l.grp),1,i.own.get (.book l.grp) _ (eL hg),214;refine adu T (λQ q=>⟨1,q⟩) x aos ?_;exists 1,b (.book l.grp),b (.gj l.grp),st.ts l.grp,cp.h,l.s,cp.r,2,i.own.Pa hg,4,λH4 h4 kp4=>?_;have:=(bd.tb l.grp).1;lia;rw[ets] at h4;obtain⟨X4,Jq⟩:=aa0 i hg ts h4 kp4;refine hN _ _ ⟨4,j.trans Jq,2⟩;unfold bQ;rw[e8 (by rw[eo];decide)];exact X4);have e':comes l cp os=al:=(by simpa using e);rw[e'];refine e9 ?_;exists 1,k F H3 hO L C y ?_ j;unfold gh;rw[e',e8 (!_)];exact N3
end
section
inductive Rw(rs:List R5)(os:List Nat)(r0:Nat)(x:Nat):Nat->Prop
 |refl:Rw rs os r0 x x
 |step {y r:Nat} (t:Rw rs os r0 x y) (hr:r∈os) (ne:r≠r0) (ha:isAt rs (y:Int) r=ag):Rw rs os r0 x (iD rs r y)
inductive Ds(N:RM.Net)(R:Nat->RM.Row)(c:Nat):Nat->Prop
 |self:Ds N R c c
 |on {r x y:Nat} (t:RM.qo N R r x y) (d:Ds N R c y):Ds N R c x
theorem Ds.rank{N:RM.Net}{R:Nat->RM.Row}{c x:Nat}(d:Ds N R c x):(R c).ho<=(R x).ho:=by induction d with|self=>exact Int.le_refl _|on t _ a=>have:=t.ho;lia
variable{ns:List Int}{rs:List R5}{os:List Nat}{live:List Nat}{nd:ns.Nodup}{ok:∀r∈rs,r.Ok ns.length}{hl:∀k∈live,k<wL rs}{R:Nat->RM.Row}
theorem Vd{r x:Nat}(a:r∈live)(b:isAt rs (x:Int) r=ag):RM.Js (bA ns rs live nd ok hl) r x (iD rs r x):=by refine (vP a).mpr ⟨b,4⟩;unfold iD;rw[aa (hl r a)]
theorem Ww{N:RM.Net}{r a b x y:Nat}(d:RM.Js N r a b)(c:RM.Js N r x y):(a=x/\b=y)∨(a=y/\b=x):=by rcases d.2 with ⟨e,g⟩|⟨e,g⟩ <;> rcases c.2 with ⟨h,f⟩|⟨h,f⟩ <;> lia
theorem SE{r x:Nat}(f:r<wL rs)(ok:∀r∈rs,r.Ok (wL ns))(c:isAt rs (x:Int) r=ag):isAt rs ((iD rs r x:Nat):Int) r=ag/\iD rs r (iD rs r x)=x/\iD rs r x≠x/\iD rs r x<wL ns:=by have o:=ok _ (aP f);have m:=o.a0;have l:=o.b0;have j:=o.ab;have k:=o.a1;have n:=o.b1;have g:∀y,iD rs r y=gO rs[r] y:=λy=>(by unfold iD;rw[aa f]);have h:∀y:Int,isAt rs y r=(decide (y=rs[r].a) || decide (y=rs[r].b)):=λy=>(by unfold isAt;rw[aa f]);rw[g,g,h];rw[h] at c;have c:(decide ((x:Int)=rs[r].a) || decide ((x:Int)=rs[r].b))=ag:=c;rw[ur,kF,kF] at c;show (decide _ || decide _)=ag/\gO rs[r] (gO rs[r] x)=x/\gO rs[r] x≠x/\gO rs[r] x<_;rw[ur,kF,kF];unfold gO;rcases c with e|e;rw[eL e];have d:((rs[r].b.toNat:Nat):Int)=rs[r].b:=∅;rw[d,e8 (bT j)];lia;have i:¬(x:Int)=rs[r].a:=∅;rw[e8 i];have d:((rs[r].a.toNat:Nat):Int)=rs[r].a:=∅;rw[d,eL rfl];lia
theorem Wx(O:ie (bA ns rs live nd ok hl) R os){r0 c p:Nat}(f:RM.qo (bA ns rs live nd ok hl) R r0 c p){r y z:Nat}(j:r∈os)(h:r≠r0)(e:RM.Js (bA ns rs live nd ok hl) r y z)(d:Ds (bA ns rs live nd ok hl) R c y):Ds (bA ns rs live nd ok hl) R c z:=by
 obtain⟨a,b,t⟩:=(O.2 r).mp j;rcases Ww t.CI e with ⟨rfl,rfl⟩|⟨rfl,rfl⟩;cases d with|self=>exact ff (t.uniq f).1 h|on i g=>obtain⟨_,rfl⟩:=t.uniq i;exact g
 exact .on t d
theorem adw(O:ie (bA ns rs live nd ok hl) R os){r x:Nat}(f:r∈os)(g:isAt rs (x:Int) r=ag):¬Rw rs os r x (iD rs r x):=by intro t;obtain⟨c,p,i⟩:=(O.2 r).mp f;have l:∀k∈os,k∈live:=λk n=>(by obtain⟨a,b,t⟩:=(O.2 k).mp n;exact t.CI.1);have s:∀{y z:Nat},Rw rs os r y z->Ds (bA ns rs live nd ok hl) R c y->Ds (bA ns rs live nd ok hl) R c z:=λ{y z}t=>(by induction t with|refl=>exact id|step t f m g j=>exact λd=>Wx O i f m (Vd (l _ f) g) (j d));have h:∀{y z:Nat},Rw rs os r y z->Ds (bA ns rs live nd ok hl) R c z->Ds (bA ns rs live nd ok hl) R c y:=λ{y z}t=>(by induction t with|refl=>exact id|step t f m g j=>exact λd=>j (Wx O i f m (Vd (l _ f) g).symm d));have e:=i.ho;rcases Ww i.CI (Vd (l r f) g) with ⟨rfl,o⟩|⟨q,rfl⟩;have:=(s t .self).rank;rw[<- o] at this;lia;have:=(h t (q▸.self)).rank;lia
theorem Rw.trans{r0 x y z:Nat}(a:Rw rs os r0 x y)(b:Rw rs os r0 y z):Rw rs os r0 x z:=by induction b with|refl=>exact a|step t d e c f=>exact .step f d e c
theorem Rw.symm{r0 x y:Nat}(ok:∀r∈rs,r.Ok (wL ns))(lt:∀k∈os,k<wL rs)(a:Rw rs os r0 x y):Rw rs os r0 y x:=by induction a with|refl=>exact .refl|@step y r t b g c f=>obtain⟨e,d,_⟩:=SE (lt r b) ok c;have:Rw rs os r0 (iD rs r y) y:=(by have:=Rw.step (rs:=rs) (os:=os) (r0:=r0) (x:=iD rs r y) .refl b g e;rw[d] at this;exact this);exact this.trans f
end
section
variable{P:ci}{w:World}{K:ai}{mg:Str->Option ar}{base:Heap}
inductive SG(K:ai)(c:NC)(vs:List V)(H:Hp)(Q:VK)(E:XK):Prop
 |mk(F:am->Prop)(p tp:am)(n i:Nat)(s:NS)(l:LS):vs=[.ref p,.int i]->cE K c H F p tp n s->s.ls[i]?=ac l->(∀a(qs:List am)H',aG H H'->H a=ae->H' a=ac (.lst (qs.map cr))->cP K H' qs (l.aF.map ck.vs)->Q (.ref a) H')->SG K c vs H Q E
theorem mE{t:Ad}(T:Txt K mg t):cH P w K mg base iJ 1 t.rS t.wj ["self","letter"] (SG K (nc t)):=by refine T.lJ.F.jv Pr λH Q E B h=>?_;·obtain⟨F,p,A,n,i,st,l,rfl,N,d,k⟩:=h;exists _,(aq (cC (jg (jZ rK oO aA (pv 1) (lS T.fV (bg (pv 0) rfl)))) fh bw) (oR (gx gC (by rfl) T.sM boot_list (fR (bg (xL (bg (pv 0) rfl) (pv 1)) rfl))))),4;left;obtain⟨c,v,q,y,O,z,s⟩:=id N;have g:=O.get .dO _ rfl;rw[y] at g;have e:=(aj.mp d).1;have j:=O.get .cV _ rfl;have r:=O.get (.cF i) (ou (nc t) v c i l) (by show (st.ls[i]?.map _)=_;rw[d];rfl);have f:=O.get (.aF i) (.lst ((q.dq i).map cr)) (by show (st.ls[i]?.map _)=_;rw[d];rfl);exists 1914;rw[fy (show (0:Int)<=(i:Int) by lia)];refine fY ⟨1,p,7,g,T.bG,T.fC,2,c .cV,1,.inl (bI.of j),914⟩;rw[af,bJ,fy (show (i:Int)<(st.ls.length:Int) by lia)];refine e9 ?_;exists 1,p,7,g,T.bG,T.fC,21,c .cV,39,bI.of j,oY e,c (.cF i),7,r,T.dS,T.iR,2,c (.aF i),1,.inl (bI.of f),λa m=>?_;have u:=aG.new (o:=.lst ((q.dq i).map cr)) m;exact k a (q.dq i) _ u m au ((s.aF i l d).mono λb x=>u.bP)
noncomputable def dW:ck->Str
 |.post _=>"post"
 |.Ri _ _=>"come"
 |.hand _ _=>"hand"
 |.send _ _ _=>"send"
 |.twice _ _=>"twice"
 |.Dg _ _=>"lost"
noncomputable def dI:ck->List Int
 |.post h=>[h]
 |.Ri h r=>[h,r]
 |.hand h c=>[h,c]
 |.send h r w=>[h,r,w]
 |.twice h r=>[h,r]
 |.Dg h r=>[h,r]
theorem Qn(d:ck):d.vs=.str (dW d)::(dI d).map cn:=by cases d <;> rfl
theorem adx(d:ck):1<=(dI d).length:=by cases d <;> simp[dI]
noncomputable def Ar:List V:=[.str "post",.str "come",.str "hand",.str "send",.str "twice",.str "lost"]
theorem ady(d:ck):Av (.str (dW d)) Ar=ag:=by cases d;exact (by decide +kernel:Av (.str "post") Ar=ag);exact (by decide +kernel:Av (.str "come") Ar=ag);exact (by decide +kernel:Av (.str "hand") Ar=ag);exact (by decide +kernel:Av (.str "send") Ar=ag);exact (by decide +kernel:Av (.str "twice") Ar=ag);exact (by decide +kernel:Av (.str "lost") Ar=ag)
theorem Gn(d:ck):yb (cv (dW d)::(dI d).map cn) 0=ac (cv (dW d)):=bO (j:=0) rfl
theorem aa2(d:ck):cn ((((.str (dW d)::(dI d).map cn:List V).length:Nat):Int))=cn (2+(if (!decide (cv (dW d)=cv "post"))=ag then 1 else 0)+(if decide (cv (dW d)=cv "send")=ag then 1 else 0)):=by have a:∀h,(decide (cv (dW (.post h))=cv "post"))=ag:=λh=>(by show decide (cv "post" = cv "post")=ag;decide +kernel);cases d;show cn 2=cn (2+(if (!decide (cv "post" = cv "post"))=ag then 1 else 0)+(if decide (cv "post" = cv "send")=ag then 1 else 0));decide +kernel;show cn 3=cn (2+(if (!decide (cv "come" = cv "post"))=ag then 1 else 0)+(if decide (cv "come" = cv "send")=ag then 1 else 0));decide +kernel;show cn 3=cn (2+(if (!decide (cv "hand" = cv "post"))=ag then 1 else 0)+(if decide (cv "hand" = cv "send")=ag then 1 else 0));decide +kernel;show cn 4=cn (2+(if (!decide (cv "send" = cv "post"))=ag then 1 else 0)+(if decide (cv "send" = cv "send")=ag then 1 else 0));decide +kernel;show cn 3=cn (2+(if (!decide (cv "twice" = cv "post"))=ag then 1 else 0)+(if decide (cv "twice" = cv "send")=ag then 1 else 0));decide +kernel;show cn 3=cn (2+(if (!decide (cv "lost" = cv "post"))=ag then 1 else 0)+(if decide (cv "lost" = cv "send")=ag then 1 else 0));decide +kernel
inductive aa3(K:ai)(vs:List V)(H:Hp)(Q:VK)(E:XK):Prop
 |mk(a:am)(qs:List am)(ds:List ck):vs=[.ref a]->bI K H a (qs.map cr)->cP K H qs (ds.map ck.vs)->(∀H',aG H H'->Q (.bl ag) H')->aa3 K vs H Q E
theorem Jl{t:Ad}(T:Txt K mg t):cH P w K mg base iJ 2 t.lI t.pR ["_law_story"] (aa3 K):=by refine T.BH.F.jv sI λH Q E hr h=>?_;·obtain⟨a,s,J,rfl,U,X,k⟩:=h;exists _,(aq (cC (jg (ku (cB Xn T.mz boot_isinstance (kN (pv 0) (CG rfl T.sM boot_list (v:=.ty "list") rfl))))) oB bw) (aq (fS (eW (pv 0)) (gT 1 sI) (aq (cC (PW.pt (HQ (jg (ku (cB Xm T.mz boot_isinstance (kN (pv 1) (CG rfl T.acV boot_tuple (v:=.ty "tuple") rfl))))) (HQ (qT oO (lS T.fV (pv 1)) aA) (DR (jg (ku (cB Fd T.mz boot_isinstance (kN (xT (pv 1) aA) (CG rfl T.ajw boot_str (v:=.ty "str") rfl))))))))) oB bw) (aq (cC (jg (ku (cB (ZJ rfl) T.ajx boot_all (fR (fE (kO sI ["_law_one"] [ae]) rfl (Tz (uv GG (pv 1) (qR aA) E6)) (λ_ _ _ _=>by exact (gS 0 Ek)) (λ_ _ _ _=>by exact jk) (λ_ _ _ _=>by exact (cG (U1 T) hr T.NH (fR (pv 0))))))))) oB bw) (aq (cC (iU lW (xT (pv 1) aA) (dY (aN6 fH fH fH fH fH fH)) (by with_unfolding_all rfl)) oB bw) (bz (cC (qT rJ (lS T.fV (pv 1)) (bf gm (bf gm aA (gx MZ (by rfl) T.aam boot_int (fR (qE rJ (xT (pv 1) aA) fH)))) (gx MZ (by rfl) T.aam boot_int (fR (qE kU (xT (pv 1) aA) fH))))) oB bw)))))) oB)),4;left;have eq:wL s=J.length:=(by rw[X.len,af]);exists 1,a,331,U,21,e9 ?_;exists 1,a,2,⟨_,U⟩,ye (K:=K) (a:=a) (xs:=s.map cr) (λi C f=>aG H f/\∃W:Option V,C=[ac (.ref a),W]) ⟨aG.refl _,1⟩ (λi C f _ z=>z.1.seq U) ?_ ?_;(·rintro i y C f L ⟨D,W,rfl⟩;have u:i<wL s:=(by have:=(aj.mp L).1;rw[af] at this;exact this);rw[ak,aa u] at L;cases L;have c:=D.bP (X.at' i s[i] (J[i]'∅).vs (aa u) (by rw[ak,aa ∅];rfl));generalize s[i]=q at c;generalize J[i]'∅=d at c;rw[Qn] at c;have h1:=adx d;exists 1,q,331,c,21,e9 ?_;exists 1,q,1,.inr c,914;rw[gn (show ¬(((cv (dW d)::(dI d).map cn).length:Nat):Int)<2 by rw[bC,af];lia)];refine e9 ⟨1,q,_,(0),12,c,Gn d,7,.str _,21,e9 ?_⟩;have nw:¬(HT.lV (cv (dW d)::(dI d).map cn).length 0 (ac 1)=0/\HT.lV (cv (dW d)::(dI d).map cn).length (cv (dW d)::(dI d).map cn).length ae=(cv (dW d)::(dI d).map cn).length):=λz=>(by have z1:=z.1;rw[show (1:Int)=((1:Nat):Int) from rfl,HT.OP,bC] at z1;lia);exists 8,q,1,c,nw,λz hz=>?_;have ct:DU (cv (dW d)::(dI d).map cn) (ac 1) ae=(dI d).map cn:=ZQ _ 1;rw[ct];have Y:=aG.new (o:=.tup ((dI d).map cn)) hz;have p:cD K _ z ((dI d).map cn):=cD.of (au (H:=f) (a:=z) (o:=.tup ((dI d).map cn)));generalize upd f z (.tup ((dI d).map cn))=H3 at Y p;exists z,2,⟨_,p⟩,λN e=>?_;refine eX (n:=((dI d).map cn).length) (λi S _=>∃m:List Bool,S=m.map cw/\wL m=i/\m.all id=ag) e (Uh p) (JU p) ⟨[],222⟩ ?_ ?_;(·rintro j S H4 R G O ⟨m,rfl,r,l⟩ x H5 ⟨rfl,I⟩;have I:=I _ (G.bP p);have M:j<(dI d).length:=(by rw[af] at R;exact R);rw[ak,aa M] at I;cases I;have h3:(dI d).length<=3:=(by cases d <;> simp[dI]);exists 84;exact dF e R G O (by rw[af];exact b9 ∅) ⟨m++[ag],-_,by simp[r],by simp[l]⟩);rintro S H4 G O ⟨m,rfl,r,l⟩;exists N,m,2,bI.of O,14;rw[l];refine e9 ?_;have A:=Y.trans G;have B:=A.bP c;exists 1,q,_,(0),12,B,Gn d,aaY,λb hb=>?_;have Z:=aG.new (o:=.tup Ar) hb;exists b,Ar,2,.inr (cD.of au),rfl,!_,_,rfl,?_;(try dsimp only);rw[eL rfl,ady];refine e9 ?_;have g:=Z.bP B;exists 1,q,1,.inr g,1,q,_,(0),12,g,Gn d,2,.inr ⟨191,q,_,(0),12,g,Gn d,2,.inr ⟨1904⟩⟩;rw[fy (aa2 d)];exact e9 ⟨(D.trans A).trans Z,1⟩);rintro C f ⟨D,W,rfl⟩;exact k f D
end
section
structure Fo(ns:List Int)(rs:List R5)(os:List Nat):Prop where
 lt:∀r∈os,r<wL rs
 ok:∀r∈rs,r.Ok (wL ns)
 cut:∀r∈os,∀x:Nat,isAt rs (x:Int) r=ag->¬Rw rs os r x (iD rs r x)
 ri:os.Pairwise (·<·)
variable{ns:List Int}{rs:List R5}{os:List Nat}
theorem Fo.of{live:List Nat}{nd:ns.Nodup}{ok:∀r∈rs,r.Ok ns.length}{hl:∀k∈live,k<wL rs}{R:Nat->RM.Row}(O:ie (bA ns rs live nd ok hl) R os):Fo ns rs os:=⟨ZT O,ok,λ_ b _ a=>adw O b a,O.1⟩
theorem Fo.back(F:Fo ns rs os){r x:Nat}(b:r∈os)(a:isAt rs (x:Int) r=ag):isAt rs ((iD rs r x:Nat):Int) r=ag/\iD rs r (iD rs r x)=x/\iD rs r x≠x/\iD rs r x<wL ns:=SE (F.lt r b) F.ok a
theorem Fo.two(F:Fo ns rs os){r x y:Nat}(f:r∈os)(g:isAt rs (x:Int) r=ag)(d:isAt rs (y:Int) r=ag):y=x∨y=iD rs r x:=by have c:=F.lt r f;have o:=F.ok _ (aP c);have i:=o.a0;have h:=o.b0;have e:∀y:Int,isAt rs y r=(decide (y=rs[r].a) || decide (y=rs[r].b)):=λy=>(by unfold isAt;rw[aa c]);rw[e,ur,kF,kF] at g d;unfold iD;rw[aa c];show y=x∨y=gO rs[r] x;unfold gO;split <;> lia
theorem Fo.symm(F:Fo ns rs os){r0 x y:Nat}(a:Rw rs os r0 x y):Rw rs os r0 y x:=a.symm F.ok F.lt
theorem Fo.avoid(F:Fo ns rs os){q x z g:Nat}(f:q∈os)(d:isAt rs (x:Int) q=ag)(a:isAt rs (x:Int) g=ag)(t:Rw rs os q (iD rs q x) z):Rw rs os g (iD rs q x) z:=by induction t with|refl=>exact .refl|@step y r t b j c i=>(refine .step i b (λe=>?_) c;subst e;rcases F.two b a c with e|e;subst e;exact F.cut q f y d (F.symm t);have h:=Rw.step t b j c;rw[e,(F.back b a).2.1] at h;exact F.cut q f x d (F.symm h))
variable{f:Nat}{D Pn A B:List En}{e:En}
end
section
variable{ns:List Int}{rs:List R5}{os:List Nat}{s:NS}{l:LS}{i h:Nat}
theorem SH:∀(cs:List Nat)(s:NS)(l:LS),s.ls[i]?=ac l->∃had,cs.foldl (kL i h) s={s with had:=had,ls:=s.ls.set i {l with aF:=l.aF++cs.map (ck.hand h)}}
 |[],s,l,e=>⟨s.had,by
  show s={s with had:=s.had,ls:=s.ls.set i {l with aF:=l.aF++[]}};rw[b5,uC e]⟩
 |c::cs,s,l,e=>by
  have b:=(aj.mp e).1;have d:(tG s i c).ls[i]?=ac l:=e;have a:kL i h s c={s with had:=s.had.set c (s.had.getD c []++[i]),ls:=s.ls.set i {l with aF:=l.aF++[.hand h c]}}:=by
   unfold kL;rw[gf d];rfl
  obtain⟨had,f⟩:=SH cs (kL i h s c) {l with aF:=l.aF++[.hand h c]} (by rw[a];show (s.ls.set i _)[i]?=_;rw[iz b,eL rfl]);exists had,4;rw[gH,f,a];show {s with had:=had,ls:=(s.ls.set i _).set i _}=_;rw[yc];simp only[jj,bK];rfl
theorem SI:∀(gs:List Nat)(s:NS)(l:LS),s.ls[i]?=ac l->gs.foldl (tN rs i h) s={s with cps:=s.cps++gs.map λr=>⟨i,r,lQ s.ws r (iX l),iD rs r h⟩,ls:=s.ls.set i {l with aF:=l.aF++gs.map λr=>.send h r (lQ s.ws r (iX l))}}
 |[],s,l,e=>by
  show s={s with cps:=s.cps++[],ls:=s.ls.set i {l with aF:=l.aF++[]}};rw[b5,b5,uC e]
 |r::gs,s,l,e=>by
  have b:=(aj.mp e).1;have c:Yl s i=iX l:=by unfold Yl;rw[e]
  have a:tN rs i h s r={s with cps:=s.cps++[⟨i,r,lQ s.ws r (iX l),iD rs r h⟩],ls:=s.ls.set i {l with aF:=l.aF++[.send h r (lQ s.ws r (iX l))]}}:=by
   unfold tN Sv;rw[gf e,c]
  rw[gH,SI gs (tN rs i h s r) {l with aF:=l.aF++[.send h r (lQ s.ws r (iX l))]} (by rw[a];show (s.ls.set i _)[i]?=_;rw[iz b,eL rfl]),a];show {s with cps:=_,ls:=(s.ls.set i _).set i _}=_;rw[yc];simp only[jj,bK];rfl
theorem IP{bF:Option Nat}(e:s.ls[i]?=ac l):∃had,Qm rs s i h l bF os={s with had:=had,cps:=s.cps++(ES rs s l h bF os).map λr=>⟨i,r,lQ s.ws r (iX l),iD rs r h⟩,ls:=s.ls.set i {l with done:=kg l.done h,aF:=l.aF++((jG s l h).map (ck.hand h)++(ES rs s l h bF os).map λr=>.send h r (lQ s.ws r (iX l)))}}:=by have a:=(aj.mp e).1;unfold Qm;have b:(fO s i h l).ls[i]?=ac {l with done:=kg l.done h}:=(by show (s.ls.set i _)[i]?=_;rw[iz a,eL rfl]);obtain⟨had,c⟩:=SH (h:=h) (jG s l h) (fO s i h l) _ b;exists had,4;rw[c,SI _ _ {l with done:=kg l.done h,aF:=l.aF++(jG s l h).map (ck.hand h)} (by show ((s.ls.set i _).set i _)[i]?=_;rw[iz (by rw[aQ];exact a),eL rfl])];show {s with had:=had,cps:=_,ls:=((s.ls.set i _).set i _).set i _}=_;rw[yc,yc];simp only[jj];rfl
theorem SJ{ds:List Nat}{h:Nat}{l:LS}(e:l.done=ds):Gk l h=decide (h∈ds):=by unfold Gk;rw[e];clear e;induction ds with|nil=>rfl|cons d ds a=>rw[bK];by_cases z:d=h;subst z;rw[AY rfl];simp;rw[AZ (λe=>z (by have:=Sum.inl.inj e;lia)),a];have:¬h=d:=λe=>z e.symm;simp[this]
end
section
noncomputable def Ve(rs:List R5)(h:Nat):Nat:=((aB (wL rs)).filter (isAt rs h)).length
noncomputable def wG(n:Nat)(rs:List R5)(done:List Nat):Nat:=(((aB n).filter λh=>!decide (h∈done)).map (Ve rs)).sum
noncomputable def Ph(n:Nat)(rs:List R5)(s:NS):Nat:=s.cps.length+(s.ls.map λl=>wG n rs l.done).sum
theorem sum_set{b:Type}{f:b->Nat}:∀{xs:List b}{i:Nat}{x:b}(y:b),xs[i]?=ac x->((xs.set i y).map f).sum+f x=(xs.map f).sum+f y
 |[],_,_,_,h=>by cases h
 |a::xs,0,x,y,h=>by
  cases h;show f y+(xs.map f).sum+f a=f a+(xs.map f).sum+f y;lia
 |a::xs,i+1,x,y,h=>by
  have:=sum_set (f:=f) (xs:=xs) (i:=i) y h
  show f a+((xs.set i y).map f).sum+f x=f a+(xs.map f).sum+f y;lia
theorem SK{f:Nat->Nat}{d:List Nat}{h:Nat}(b:h∉d):∀{L:List Nat},L.Nodup->(((L.filter λk=>!decide (k∈d++[h])).map f).sum+if h∈L then f h else 0)=((L.filter λk=>!decide (k∈d)).map f).sum
 |[],_=>rfl
 |a::L,nd=>by
  obtain⟨g,i⟩:=gG.mp nd;have c:=SK (f:=f) b i;by_cases z:a=h
  ·subst z
   rw[e8 g] at c;rw[eL cK,dX (-_),dU (by simp[b]),bK,List.sum_cons];lia
  ·have e:(if h∈a::L then f h else 0)=(if h∈L then f h else 0):=by
    have q:¬h=a:=λy=>z y.symm;simp[q]
   rw[e];by_cases y:a∈d
   ·rw[dX (by simp[y]),dX (by simp[y])]
    exact c
   ·rw[dU (by simp[y,z]),dU (by simp[y]),bK,bK,List.sum_cons,List.sum_cons]
    lia
theorem Ot{n:Nat}{rs:List R5}{d:List Nat}{h:Nat}(b:h<n)(a:h∉d):wG n rs (kg d h)+Ve rs h=wG n rs d:=by unfold wG kg;rw[e8 a];have:=SK (f:=Ve rs) a (List.nodup_range (n:=n));rw[eL (cS.mpr b)] at this;exact this
theorem ahe{n:Nat}{rs:List R5}{k:Nat}:((aB n).filter λh:Nat=>isAt rs (h:Int) k).length<=2:=by cases e:rs[k]? with|none=>have:((aB n).filter λh:Nat=>isAt rs (h:Int) k)=[]:=List.filter_eq_nil_iff.mpr λh _=>(by unfold isAt;rw[e];exact aH);rw[this];decide|some r=>have:=Gr.GI (B:=[r.a.toNat,r.b.toNat]) (List.Nodup.sublist (l₁:=(aB n).filter λh:Nat=>isAt rs (h:Int) k) List.filter_sublist List.nodup_range) λx c=>(by have c:=(bD.mp c).2;unfold isAt at c;rw[e] at c;have c:(decide ((x:Int)=r.a) || decide ((x:Int)=r.b))=ag:=c;rw[ur,kF,kF] at c;rcases c with z|z;rw[<- z];simp;rw[<- z];simp);exact this
theorem SM{n:Nat}{p:Nat->Nat->Bool}:∀m,((aB n).map λh=>((aB m).filter (p h)).length).sum=((aB m).map λk=>((aB n).filter λh=>p h k).length).sum
 |0=>by
  show ((aB n).map λh=>0).sum=0;generalize aB n=L;induction L with
  |nil=>rfl
  |cons a L b=>rw[bK,List.sum_cons,b];rfl
 |m+1=>by
  rw[iH,aK,List.sum_append,<- SM m];show _=_+(((aB n).filter λh=>p h m).length+0);generalize aB n=L;induction L with
  |nil=>rfl
  |cons a L b=>
   rw[bK,bK,List.sum_cons,List.sum_cons,b,eO,av];by_cases z:p a m=ag
   ·rw[dU z,dU (p:=λh=>p h m) z,bC,bC,List.filter_nil,List.length_nil]
    lia
   ·rw[dX z,dX (p:=λh=>p h m) z,List.filter_nil,List.length_nil]
    lia
theorem adz{n:Nat}{rs:List R5}:((aB n).map (Ve rs)).sum<=2*wL rs:=by have e:((aB n).map (Ve rs)).sum=_:=SM (n:=n) (p:=λh k=>isAt rs (h:Int) k) (wL rs);rw[e];generalize rs.length=m;induction m with|zero=>exact az _|succ m a=>rw[iH,aK,List.sum_append];have:((aB n).filter λh:Nat=>isAt rs (h:Int) m).length<=2:=ahe;show _+(((aB n).filter λh:Nat=>isAt rs (h:Int) m).length+0)<=_;lia
theorem aa4{ns:List Int}{rs:List R5}{os:List Nat}(F:Fo ns rs os){s:NS}{l:LS}{h:Nat}{bF:Option Nat}:(ES rs s l h bF os).length<=Ve rs h:=by unfold ES Ve;rw[af];refine aJ C6.2 ?_;rw[af];exact Gr.GI (List.Nodup.sublist List.filter_sublist (F.ri.imp λh=>bY h)) λx a=>bD.mpr ⟨cS.mpr (F.lt x (bD.mp a).1),(bD.mp a).2⟩
theorem adA{ns:List Int}{rs:List R5}{os:List Nat}(F:Fo ns rs os){s:NS}{x:Nat}{to:Option Nat}(c:s.aL.getD x 0<wL ns):Ph (wL ns) rs (oA rs s x to os)<=Ph (wL ns) rs s+2*wL rs:=by unfold oA;obtain⟨g,e⟩:=IP (rs:=rs) (os:=os) (h:=s.aL.getD x 0) (bF:=ae) (s:=lR s x to) (i:=s.ls.length) (l:={jH s x to with aF:=[.post (s.aL.getD x 0)]}) mC;rw[e];have f:=aa4 (s:=lR s x to) (l:={jH s x to with aF:=[.post (s.aL.getD x 0)]}) (h:=s.aL.getD x 0) (bF:=ae) F;generalize ES rs (lR s x to) _ _ _ os=gs at f;have b:∀a,(lR s x to).ls.set (wL s.ls) a=s.ls++[a]:=λa=>(by show (s.ls++[_]).set (wL s.ls) a=_;rw[oJ _ _ (az _),gq];rfl);unfold Ph;rw[b];show (s.cps++_).length+((s.ls++[_]).map _).sum<=_;rw[av,af,aK,List.sum_append];show s.cps.length+wL gs+(_+(wG (wL ns) rs (kg [] (s.aL.getD x 0))+0))<=_;have k:=Ot (rs:=rs) (d:=[]) c (-_);have j:wG (wL ns) rs []<=2*wL rs:=(by unfold wG;rw[List.filter_eq_self.mpr (-_)];exact adz);lia
theorem adB{ns:List Int}{rs:List R5}{os:List Nat}(F:Fo ns rs os){s:NS}{a:Nat}{cp:Cp}{l:LS}{ts:List T3}(e:s.cps[a]?=ac cp)(hl:s.ls[cp.l]?=ac l)(j:cp.h<wL ns):Ph (wL ns) rs (gh rs s a cp l os ts)+1<=Ph (wL ns) rs s:=by
 have m:=(aj.mp hl).1;have i:=(aj.mp e).1;have x:(s.cps.eraseIdx a).length+1=s.cps.length:=(by rw[List.length_eraseIdx,eL i];lia);have n:∀b,((mD s a cp l b).ls.map λl=>wG (wL ns) rs l.done).sum=(s.ls.map λl=>wG (wL ns) rs l.done).sum:=λb=>(by have:=sum_set (f:=λl:LS=>wG (wL ns) rs l.done) {l with aF:=l.aF++[dP l cp b]} hl;show ((s.ls.set cp.l _).map _).sum=_;simp only at this;lia);unfold gh;split;·rename_i g;have c:cp.h∉l.done:=λz=>(by unfold comes at g;rw[SJ rfl,fy z] at g;simp at g);obtain⟨u,o⟩:=IP (rs:=rs) (os:=os) (h:=cp.h) (bF:=ac cp.r) (jJ (a:=a) (os:=os) (ts:=ts) hl);rw[o];have p:=aa4 (s:=bQ s a cp l os ts) (l:={l with aF:=l.aF++[dP l cp os]}) (h:=cp.h) (bF:=ac cp.r) F;generalize ES rs (bQ s a cp l os ts) _ _ _ os=gs at p;have q:(bQ s a cp l os ts).cps=s.cps.eraseIdx a:=(by unfold bQ;split <;> rfl);have v:(bQ s a cp l os ts).ls=s.ls.set cp.l {l with aF:=l.aF++[dP l cp os]}:=(by unfold bQ;split <;> rfl);unfold Ph;(try dsimp only);rw[q,v,yc,av,af];have w:=Ot (rs:=rs) (d:=l.done) j c;have k:=λy=>sum_set (f:=λl:LS=>wG (wL ns) rs l.done) y hl;have t:=k {l with done:=kg l.done cp.h,aF:=l.aF++[dP l cp os]++((jG (bQ s a cp l os ts) {l with aF:=l.aF++[dP l cp os]} cp.h).map (ck.hand cp.h)++gs.map λr=>.send cp.h r (lQ (bQ s a cp l os ts).ws r (iX {l with aF:=l.aF++[dP l cp os]})))};dsimp only at t;lia
 unfold Ph;rw[n];show (s.cps.eraseIdx a).length+_+1<=_;lia
structure SD(ns:List Int)(rs:List R5)(bs:List (List Bool))(cl:List (Nat×Nat))(D:Nat)(s:NS):Prop where
 ok:Dh ns rs s
 bd:Bd (wL ns) (wL rs) D s
 ws:s.ws=bs.map stand
 fit:Yr rs bs
 hm:s.aL=cl.map (·.1)
 gr:s.groups=cl.map (·.2)
variable{ns:List Int}{rs:List R5}{bs:List (List Bool)}{cl:List (Nat×Nat)}{D:Nat}{s:NS}
theorem SD.mono{a:Nat}(h:SD ns rs bs cl D s)(e:D<=a):SD ns rs bs cl a s:=⟨h.ok,h.bd.mono e,h.ws,h.fit,h.hm,h.gr⟩
theorem adC{n m:Nat}{g:Nat}(b:Bd n m D s):Bd n m D (rZ s g):=by exists b.gl,b.tM,b.g3,b.hm,b.hl,b.hb,by show (s.ls.map _).length<=D;rw[af];exact b.ll,λl z=>?_,b.cb,λc z=>by show c.l<(s.ls.map _).length/\_;rw[af];exact b.cl c z,λa=>?_;obtain⟨d,e,rfl⟩:=bH.mp z;unfold qe;split;exact b.lb d e;exact b.lb d e;show 50*(fc s.ts g [] a).length<=D/\eZ (fc s.ts g [] a);by_cases z:a=g;subst z;rw[cJ];exists aS _,jh;rw[dG z];exact b.tb a
theorem SD.news(h:SD ns rs bs cl D s)(g:Nat):SD ns rs bs cl D (rZ s g):=⟨⟨h.ok.wl,h.ok.w4,h.ok.fit⟩,adC h.bd,h.ws,h.fit,h.hm,h.gr⟩
theorem SD.iT(h:SD ns rs bs cl D s)(e:Int):∀m,SD ns rs bs cl D (iT s e m)
 |0=>h
 |m+1=>by
  rw[ia];split
  ·exact (h.iT e m).news m
  ·exact h.iT e m
theorem SD.call{g x:Nat}{d:RM.Row}(h:SD ns rs bs cl D s)(b:DZ (wL ns) (wL rs) d):SD ns rs bs cl D (nj s g x d):=by unfold nj;split;exact h;refine SD.news (s:={s with R:=fc s.R g (RM.upd (s.R g) x d)}) ⟨⟨h.ok.wl,h.ok.w4,λk a=>?_⟩,⟨h.bd.gl,h.bd.tM,h.bd.g3,h.bd.hm,h.bd.hl,h.bd.hb,h.bd.ll,h.bd.lb,h.bd.cb,h.bd.cl,h.bd.tb⟩,h.ws,h.fit,h.hm,h.gr⟩ g;show zg _ _ (fc s.R g (RM.upd (s.R g) x d) k);by_cases z:k=g;subst z;rw[cJ];intro i c;unfold RM.upd;split;exact b;exact h.ok.fit k a i c;rw[dG z];exact h.ok.fit k a
theorem SD.move{x y:Nat}(h:SD ns rs bs cl D s)(c:x<wL cl)(d:y<wL ns):SD ns rs bs (cl.set x (y,cl[x].2)) D (p7 s x y):=by have f:x<wL s.aL:=(by rw[h.hm,af];exact c);have a:(cl.set x (y,cl[x].2)).map (·.2)=cl.map (·.2):=(by rw[gQ];refine uC ?_;rw[ak,aa c];rfl);unfold p7;split;rename_i e;refine⟨h.ok,h.bd,h.ws,h.fit,4,by rw[a];exact h.gr⟩;rw[gQ,<- h.hm];exact (uC e).symm;refine SD.news (s:={s with aL:=s.aL.set x y}) ⟨⟨h.ok.wl,h.ok.w4,h.ok.fit⟩,4,h.ws,h.fit,by show s.aL.set x y=_;rw[gQ,<- h.hm],by rw[a];exact h.gr⟩ _;have b:=h.bd;exists by show s.groups.length=(s.aL.set x y).length;rw[aQ];exact b.gl,by show (s.aL.set x y).length<=20;rw[aQ];exact b.tM,b.g3,λz g=>?_,by show s.had.length=(s.aL.set x y).length;rw[aQ];exact b.hl,b.hb,b.ll,b.lb,b.cb,b.cl,b.tb;rcases dm g with w|rfl;exact b.hm z w;exact d
theorem SN{P Q:LS->Prop}{i:Nat}{d:ck}(h:∀l∈s.ls,P l)(c:∀l,P l->Q l)(f:∀l,P l->Q {l with aF:=l.aF++[d]}):∀l∈(c6 s i d).ls,Q l:=by intro l a;unfold c6 at a;cases e:s.ls[i]? with|none=>rw[e] at a;exact c l (h l a)|some b=>(rw[e] at a;rcases dm a with z|rfl;exact c l (h l z);exact f b (h b (ay e)))
theorem Vf{i:Nat}{d:ck}:(c6 s i d).ws=s.ws/\(c6 s i d).R=s.R/\(c6 s i d).ts=s.ts/\(c6 s i d).aL=s.aL/\(c6 s i d).groups=s.groups/\(c6 s i d).had=s.had:=by unfold c6;cases s.ls[i]? <;> exists 222222
theorem Gp{i x:Nat}:∀m,m<=wL s.cps->(ji s i x m).ws=s.ws/\(ji s i x m).R=s.R/\(ji s i x m).ts=s.ts/\(ji s i x m).aL=s.aL/\(ji s i x m).groups=s.groups/\(ji s i x m).had=s.had
 |0,_=>by rw[zm];exists 222222
 |m+1,k=>by
  have a:=Gp (i:=i) (x:=x) m ∅;rw[zo ∅];unfold kI;split
  ·obtain⟨g,c,e,b,f,j⟩:=Vf (s:=ji s i x m) (i:=(s.cps[m]).l) (d:=.Dg (s.cps[m]).h i)
   exists g.trans a.1,c.trans a.2.1,e.trans a.2.2.1,b.trans a.2.2.2.1,f.trans a.2.2.2.2.1,j.trans a.2.2.2.2.2
  ·exact a
theorem SO{i x:Nat}(h:∀l∈s.ls,wL l.aF+wL s.cps<=D/\wL l.done<=D/\l.grp<3/\(l.kd=1∨l.kd=2)):∀m,m<=wL s.cps->∀l∈(ji s i x m).ls,wL l.aF+((s.cps.take m).filter λc=>!VT i x c).length+wL s.cps<=D+m/\wL l.done<=D/\l.grp<3/\(l.kd=1∨l.kd=2)
 |0,_=>by rw[zm];exact h
 |m+1,j=>by
  have d:=SO (i:=i) (x:=x) h m ∅;have b:m<wL s.cps:=∅
  rw[zo b,Nu (f:=λc:Cp=>!VT i x c) b,av];unfold kI;cases e:VT i x s.cps[m]
  ·rw[e8 (!_),eL (!_)]
   intro l a;obtain⟨k,g⟩:=d l a;exists by show l.aF.length+(_+1)+_<=_;lia,g
  ·rw[eL rfl,e8 (!_)]
   refine SN d (λl a=>⟨by have:=a.1;show l.aF.length+(_+0)+_<=_;lia,a.2⟩) (λl a=>⟨4,a.2⟩)
   have:=a.1
   show (l.aF++[_]).length+(_+0)+_<=_;rw[av];show l.aF.length+1+(_+0)+_<=_;lia
theorem SD.lose(h:SD ns rs bs cl D s)(i x:Nat):SD ns rs bs cl D (jK s i x):=by obtain⟨d,j,k,a,e,f⟩:=Gp (s:=s) (i:=i) (x:=x) (wL s.cps) (az _);have lb:=SO (i:=i) (x:=x) h.bd.lb (wL s.cps) (az _);have ll:=Nt (s:=s) (i:=i) (x:=x) (m:=s.cps.length);rw[cQ] at lb;unfold jK;generalize ji s i x s.cps.length=s2 at d j k a e f lb ll;have b:=h.bd;exists ⟨d▸h.ok.wl,d▸h.ok.w4,j▸h.ok.fit⟩,⟨4444444,λl hl=>?_,4,λc o=>?_,4⟩,d.trans h.ws,h.fit,a.trans h.hm,e.trans h.gr;show s2.groups.length=s2.aL.length;rw[a,e];exact b.gl;show s2.aL.length<=20;rw[a];exact b.tM;show ∀g∈s2.groups,g<3;rw[e];exact b.g3;show ∀h∈s2.aL,h<wL ns;rw[a];exact b.hm;show s2.had.length=s2.aL.length;rw[a,f];exact b.hl;show ∀w∈s2.had,wL w<=D;rw[f];exact b.hb;show s2.ls.length<=D;rw[ll];exact b.ll;obtain⟨p,n⟩:=lb l hl;exists by show l.aF.length+(s.cps.filter λc=>!VT i x c).length<=D;lia,n;exact aJ (aR _ _) b.cb;show c.l<wL s2.ls/\_;rw[ll];exact b.cl c (bD.mp o).1;show ∀g,50*(s2.ts g).length<=D/\eZ (s2.ts g);rw[k];exact b.tb
theorem SD.ig{i x:Nat}{b:List Bool}{v:Bool}(o:cR ns rs)(h:SD ns rs bs cl D s)(hb:bs[i]?=ac b):SD ns rs (bs.set i (b.set x v)) cl D {s with ws:=s.ws.set i (stand (b.set x v))}:=by have d:=h.fit.set hb (k:=x) (x:=v);have g:s.ws.set i (stand (b.set x v))=(bs.set i (b.set x v)).map stand:=(by rw[h.ws,gQ]);exists ⟨by show (s.ws.set i _).length=_;rw[aQ];exact h.ok.wl,λu c=>?_,h.ok.fit⟩,⟨h.bd.gl,h.bd.tM,h.bd.g3,h.bd.hm,h.bd.hl,h.bd.hb,h.bd.ll,h.bd.lb,h.bd.cb,h.bd.cl,h.bd.tb⟩,g,d,h.hm,h.gr;have c:u∈s.ws.set i (stand (b.set x v)):=c;rw[g] at c;obtain⟨m,f,rfl⟩:=bH.mp c;obtain⟨j,l,e⟩:=List.getElem_of_mem f;have a:j<wL rs:=(by rw[<- d.1];exact l);have:=d.2 j _ _ (aa a) (aa l);have n:=(o.ok _ (aP a)).d4;have:=Nj m;rw[e] at *;lia
theorem SD.Vg{i x:Nat}{b:List Bool}(o:cR ns rs)(h:SD ns rs bs cl D s)(c:bs[i]?=ac b)(e:Int):SD ns rs (bs.set i (b.set x al)) cl D (p6 s i x (stand b) e):=by have a:=(h.ig (x:=x) (v:=al) o c).lose i x;unfold p6;rw[Uk];split;exact a.iT e 3;exact a
theorem SD.lay{i x:Nat}{b:List Bool}(o:cR ns rs)(h:SD ns rs bs cl D s)(c:bs[i]?=ac b)(e:Int):SD ns rs (bs.set i (b.set x ag)) cl D (CA s i (stand b) (stand (b.set x ag)) e):=by have a:=h.ig (x:=x) (v:=ag) o c;unfold CA;split;exact a.iT e 3;exact a
theorem aa5{i h:Nat}{l:LS}{bF:Option Nat}{os:List Nat}(hl:s.ls[i]?=ac l):(Qm rs s i h l bF os).ws=s.ws/\(Qm rs s i h l bF os).R=s.R/\(Qm rs s i h l bF os).aL=s.aL/\(Qm rs s i h l bF os).groups=s.groups:=by have f:=ag2 (rs:=rs) (h:=h) (bF:=bF) (os:=os) hl;exists f.ws,f.R,f.aL,f.groups
theorem SD.post{x:Nat}{to:Option Nat}{os:List Nat}(o:cR ns rs)(h:SD ns rs bs cl D s)(f:x<wL s.aL)(O:ie (p9 ns rs o s.ws (s.groups.getD x 0)) (s.R (s.groups.getD x 0)) os)(a:wL os<=12):SD ns rs bs cl (D+100) (oA rs s x to os):=by obtain⟨b,e,g,d⟩:=aa5 (rs:=rs) (h:=s.aL.getD x 0) (bF:=ae) (os:=os) (s:=lR s x to) (i:=s.ls.length) (l:={jH s x to with aF:=[.post (s.aL.getD x 0)]}) mC;have j:=afb o (h:=s.aL.getD x 0) (bF:=ae) (Wr (to:=to) h.bd f) mC O a;exists ⟨(gw wL b).trans h.ok.wl,λw c=>h.ok.w4 w (by rw[show (oA rs s x to os).ws=s.ws from b] at c;exact c),by rw[show (oA rs s x to os).R=s.R from e];exact h.ok.fit⟩,j.mono ∅,b.trans h.ws,h.fit,g.trans h.hm,d.trans h.gr
theorem SD.pass{a:Nat}{cp:Cp}{l:LS}{os:List Nat}{ts:List T3}{h' c r:Int}(o:cR ns rs)(h:SD ns rs bs cl D s)(hl:s.ls[cp.l]?=ac l)(k:a<wL s.cps)(O:ie (p9 ns rs o s.ws l.grp) (s.R l.grp) os)(g:wL os<=12)(p:ts.Perm (put3 (s.ts l.grp) h' c r))(n:eZ ts):SD ns rs bs cl (D+100) (gh rs s a cp l os ts):=by have v:=adt o (a:=a) (cp:=cp) h.bd hl k O g p n;have e:(gh rs s a cp l os ts).ws=s.ws/\(gh rs s a cp l os ts).R=s.R/\(gh rs s a cp l os ts).aL=s.aL/\(gh rs s a cp l os ts).groups=s.groups:=(by unfold gh;split;obtain⟨t,m,u,q⟩:=CC (s:=s) (a:=a) (cp:=cp) (l:=l) (os:=os) (ts:=ts);obtain⟨b,f,i,d⟩:=aa5 (rs:=rs) (h:=cp.h) (bF:=ac cp.r) (os:=os) (jJ (a:=a) (os:=os) (ts:=ts) hl);exists b.trans t,f.trans m,i.trans u,d.trans q;exists 2222);obtain⟨b,f,i,d⟩:=e;exists ⟨(gw wL b).trans h.ok.wl,λw j=>h.ok.w4 w (by rw[b] at j;exact j),by rw[f];exact h.ok.fit⟩,v,b.trans h.ws,h.fit,i.trans h.hm,d.trans h.gr
end
section
variable{ns:List Int}{rs:List R5}{os:List Nat}{s s':NS}{g:Nat}
def Led(rs:List R5)(os:List Nat)(s:NS)(g h c r:Nat):Prop:=r∈os/\isAt rs (h:Int) r=ag/\s.groups[c]?=ac g/\Rw rs os r (iD rs r h) (s.aL.getD c 0)
structure Gq(rs:List R5)(os:List Nat)(g:Nat)(s:NS):Prop where
 nt:∀t∈s.ts g,∃h c r:Nat,t=((h:Int),(c:Int),(r:Int))/\Led rs os s g h c r
 cp:∀c∈s.cps,∀l,s.ls[c.l]?=ac l->l.grp=g->l.old=al->Led rs os s g c.h l.s c.r
def pX(s:NS):Prop:=∀l∈s.ls,s.groups[l.s]?=ac l.grp
structure Ld(o:cR ns rs)(s:NS):Prop where
 sd:pX s
 ld:∀g,g<3->∀os,ie (p9 ns rs o s.ws g) (s.R g) os->Gq rs os g s
theorem Led.of{h c r:Nat}(a:Led rs os s g h c r)(d:s'.groups=s.groups)(b:∀c,s.groups[c]?=ac g->s'.aL.getD c 0=s.aL.getD c 0):Led rs os s' g h c r:=⟨a.1,a.2.1,by rw[d];exact a.2.2.1,by rw[b c a.2.2.1];exact a.2.2.2⟩
theorem Gq.of(a:Gq rs os g s)(w:∀t∈s'.ts g,t∈s.ts g)(f:s'.groups=s.groups)(d:∀c,s.groups[c]?=ac g->s'.aL.getD c 0=s.aL.getD c 0)(n:∀c∈s'.cps,∀b,s'.ls[c.l]?=ac b->b.grp=g->b.old=al->c∈s.cps/\∃l,s.ls[c.l]?=ac l/\l.s=b.s/\l.grp=g/\l.old=al):Gq rs os g s':=by exists λt h=>?_,λc h b m j u=>?_;obtain⟨h,c,r,e,q⟩:=a.nt t (w t h);exists h,c,r,e,q.of f d;obtain⟨k,l,o,p,i,v⟩:=n c h b m j u;have:=(a.cp c k l o i v).of f d;rw[p] at this;exact this
theorem Vh(h:pX s)(b:s'.groups=s.groups)(hl:∀a∈s'.ls,∃l∈s.ls,a.s=l.s/\a.grp=l.grp):pX s':=λa e=>by
 obtain⟨l,c,d,f⟩:=hl a e;rw[b,d,f];exact h l c
theorem aa6{l:LS}{k:Nat}:(qe k l).s=l.s/\(qe k l).grp=l.grp:=by unfold qe;split <;> exists 22
theorem news_at{k i:Nat}{a:LS}(h:(rZ s k).ls[i]?=ac a):∃l,s.ls[i]?=ac l/\a=qe k l:=by have h:(s.ls.map (qe k))[i]?=ac a:=h;rw[ak] at h;cases e:s.ls[i]? with|none=>rw[e] at h;cases h|some l=>rw[e] at h;exists l,2,(aO h).symm
theorem LR(h:pX s)(k:Nat):pX (rZ s k):=Vh h rfl λc b=>by
 obtain⟨l,a,rfl⟩:=bH.mp b;exists l,a,aa6
theorem C9(h:pX s)(e:Int):∀m,pX (iT s e m)
 |0=>h
 |m+1=>by
  rw[ia];split
  ·exact LR (C9 h e m) m
  ·exact C9 h e m
theorem Gq.Wy:Gq rs os g (rZ s g):=by exists λt h=>?_,λc _ f d a b=>?_;have h:t∈fc s.ts g [] g:=h;rw[cJ] at h;cases h;exfalso;obtain⟨l,e,rfl⟩:=news_at d;unfold qe at a b;split at b;cases b;rename_i z;rw[e8 z] at a;exact z a
theorem Gq.news(a:Gq rs os g s)(k:Nat):Gq rs os g (rZ s k):=by by_cases z:g=k;subst z;exact Gq.Wy;refine a.of (λt h=>?_) rfl (λ_ _=>rfl) λc h m j d b=>?_;have h:t∈fc s.ts k [] g:=h;rw[dG z] at h;exact h;obtain⟨l,i,rfl⟩:=news_at j;have e:=aa6 (l:=l) (k:=k);have f:¬l.grp=k:=λq=>z (by rw[<- d,e.2,q]);unfold qe at b;rw[e8 f] at b;exists h,l,i,e.1.symm,e.2▸d,b
theorem Gq.nwR(a:Gq rs os g s)(e:Int):∀m,Gq rs os g (iT s e m)
 |0=>a
 |m+1=>by
  rw[ia];split
  ·exact (a.nwR e m).news m
  ·exact a.nwR e m
theorem Gq.ahg{e:Int}(hl:lz e g=ag):∀m,g<m->Gq rs os g (iT s e m)
 |0,h=>ff h (um _)
 |m+1,h=>by
  rw[ia];by_cases z:g=m
  ·subst z
   rw[eL hl];exact Gq.Wy
  ·have a:=Gq.ahg hl m ∅
   split
   ·exact a.news m
   ·exact a
theorem LU{e:Int}:∀m:Nat,(iT s e m).ws=s.ws/\(iT s e m).R=s.R
 |0=>⟨22⟩
 |m+1=>by
  have a:=LU (e:=e) m;rw[ia];split <;> exact a
theorem Ld.call{o:cR ns rs}{x:Nat}{d:RM.Row}(h:Ld o s):Ld o (nj s g x d):=by unfold nj;split;exact h;exists LR (s:={s with R:=fc s.R g (RM.upd (s.R g) x d)}) h.sd g,λk b os O=>?_;by_cases z:k=g;subst z;exact Gq.Wy;have O:ie (p9 ns rs o s.ws k) (fc s.R g (RM.upd (s.R g) x d) k) os:=O;rw[dG z] at O;exact Gq.news (s:={s with R:=fc s.R g (RM.upd (s.R g) x d)}) ((h.ld k b os O).of (λt h=>h) rfl (λ_ _=>rfl) λc h a f e i=>⟨h,a,f,2,e,i⟩) g
theorem Ld.move{o:cR ns rs}{x y:Nat}(h:Ld o s)(j:x<wL s.groups):Ld o (p7 s x y):=by unfold p7;split;exact h;exists LR (s:={s with aL:=s.aL.set x y}) h.sd _,λk b os O=>?_;by_cases z:k=s.groups.getD x 0;subst z;exact Gq.Wy;refine Gq.news (s:={s with aL:=s.aL.set x y}) ((h.ld k b os O).of (λt h=>h) rfl (λc f=>?_) λc h a e d i=>⟨h,a,e,2,d,i⟩) _;show (s.aL.set x y).getD c 0=s.aL.getD c 0;have g:x≠c:=λq=>(by subst q;rw[ao,f] at z;exact z rfl);rw[ao,ao,bE,e8 g]
theorem SQ{i:Nat}{r:R5}{w:List Nat}(a:rs[i]?=ac r)(b:lz r.e g=al):Ax rs (s.ws.set i w) g=Ax rs s.ws g:=by
 unfold Ax wW;refine List.filter_congr λk f=>?_;unfold isLive;by_cases e:i=k;·subst e;rw[a];cases d:(s.ws.set i w)[i]? <;> cases c:s.ws[i]? <;> simp[b]
 rw[bE,e8 e]
theorem SR{i:Nat}{w f:List Nat}(h:s.ws[i]?=ac w)(l:w≠[])(j:f≠[]):Ax rs (s.ws.set i f) g=Ax rs s.ws g:=by
 unfold Ax wW;refine List.filter_congr λk m=>?_;unfold isLive;by_cases e:i=k;subst e;rw[bE,eL rfl,eL (aj.mp h).1,h];cases rs[i]? with|none=>rfl|some r=>(cases w with|nil=>exact ff rfl l|cons a b=>(cases f with|nil=>exact ff rfl j|cons c d=>rfl))
 rw[bE,e8 e]
theorem As{o:cR ns rs}{R:Nat->RM.Row}{ws a:List (List Nat)}(e:Ax rs a g=Ax rs ws g)(O:ie (p9 ns rs o a g) R os):ie (p9 ns rs o ws g) R os:=by have:p9 ns rs o a g=p9 ns rs o ws g:=(by unfold p9;congr 1);rw[<- this];exact O
theorem Wz{i x k:Nat}{a:LS}(h:(jK s i x).ls[k]?=ac a):∃l,s.ls[k]?=ac l/\a.s=l.s/\a.grp=l.grp/\a.old=l.old:=by have m:∀(cs:List Cp)(d:NS)(a:LS),(cs.foldl (kI i x) d).ls[k]?=ac a->∃l,d.ls[k]?=ac l/\a.s=l.s/\a.grp=l.grp/\a.old=l.old:=λcs=>(by induction cs with|nil=>exact λd a h=>⟨a,h,222⟩|cons c cs n=>intro d a h;obtain⟨e,b,g,f,j⟩:=n (kI i x d c) a h;unfold kI at b;split at b;(unfold c6 at b;cases q:d.ls[c.l]? with|none=>rw[q] at b;exact⟨e,b,g,f,j⟩|some o=>rw[q] at b;have b:(d.ls.set c.l _)[k]?=ac e:=b;rw[iz (aj.mp q).1] at b;by_cases z:k=c.l;rw[eL z] at b;cases b;exists o,by rw[z];exact q,g,f,j;rw[e8 z] at b;exists e,b,g,f,j);exists e,b,g,f,j);exact m s.cps s a (by rw[<- cQ (l:=s.cps)];exact h)
theorem yU{i x:Nat}:(jK s i x).ws=s.ws/\(jK s i x).R=s.R/\(jK s i x).ts=s.ts/\(jK s i x).aL=s.aL/\(jK s i x).groups=s.groups:=by obtain⟨a,d,e,b,c,_⟩:=Gp (s:=s) (i:=i) (x:=x) (wL s.cps) (az _);exists a,d,e,b,c
theorem Gq.lose(a:Gq rs os g s){i x:Nat}:Gq rs os g (jK s i x):=by obtain⟨_,_,n,d,m⟩:=yU (s:=s) (i:=i) (x:=x);refine a.of (λt h=>by rw[n] at h;exact h) m (λ_ _=>by rw[d]) λc h q j e p=>?_;obtain⟨l,f,k,o,b⟩:=Wz j;exists (bD.mp h).1,l,f,k.symm,o▸e,b▸p
theorem SS(h:pX s){i x:Nat}:pX (jK s i x):=Vh h (yU (s:=s) (i:=i) (x:=x)).2.2.2.2 λf d=>by
 obtain⟨k,e⟩:=bM d;obtain⟨l,a,c,b,_⟩:=Wz e;exists l,ay a,c,b
theorem Gq.ws(a:Gq rs os g s)(ws:List (List Nat)):Gq rs os g {s with ws:=ws}:=a.of (λt h=>h) rfl (λ_ _=>rfl) λc h d f b e=>⟨h,d,f,2,b,e⟩
theorem Ld.Vg{o:cR ns rs}{i x:Nat}{w:List Nat}{r:R5}(h:Ld o s)(l:rs[i]?=ac r)(j:s.ws[i]?=ac w):Ld o (p6 s i x w r.e):=by
 have c:=yU (s:={s with ws:=s.ws.set i (w.filter λz=>decide (z≠x))}) (i:=i) (x:=x);unfold p6;split;obtain⟨k,f⟩:=LU (s:=jK {s with ws:=s.ws.set i (w.filter λz=>decide (z≠x))} i x) (e:=r.e) 3;exists C9 (SS (s:={s with ws:=s.ws.set i (w.filter λz=>decide (z≠x))}) h.sd) _ _,λg b os O=>?_;rw[k,f,c.1,c.2.1] at O;cases q:lz r.e g with|true=>exact Gq.ahg q 3 b|false=>exact ((((h.ld g b os (As (SQ l q) O)).ws _).lose).nwR _ _)
 rename_i d;have a:(w.filter λz=>decide (z≠x))≠[]:=λz=>d (by rw[z];rfl);exists SS (s:={s with ws:=s.ws.set i (w.filter λz=>decide (z≠x))}) h.sd,λg b os O=>?_;rw[c.1,c.2.1] at O;exact ((h.ld g b os (As (SR j (λz=>a (by rw[z];rfl)) a) O)).ws _).lose
theorem Ld.lay{o:cR ns rs}{i:Nat}{w a:List Nat}{r:R5}(h:Ld o s)(l:rs[i]?=ac r)(j:s.ws[i]?=ac w)(k:a≠[]):Ld o (CA s i w a r.e):=by
 unfold CA;split;obtain⟨d,c⟩:=LU (s:={s with ws:=s.ws.set i a}) (e:=r.e) 3;exists C9 (s:={s with ws:=s.ws.set i a}) h.sd _ _,λg b os O=>?_;rw[d,c] at O;cases q:lz r.e g with|true=>exact Gq.ahg q 3 b|false=>exact ((h.ld g b os (As (SQ l q) O)).ws _).nwR _ _
 rename_i f;exists h.sd,λg b os O=>(h.ld g b os (As (SR j (λz=>f (by rw[z];rfl)) k) O)).ws _
end
section
variable{ns:List Int}{rs:List R5}{os:List Nat}{s:NS}{g:Nat}
theorem aa7{l:LS}{h:Nat}{bF:Option Nat}:∀r∈ES rs s l h bF os,r∈os/\isAt rs (h:Int) r=ag/\ac r≠bF:=λr d=>by
 unfold ES at d;obtain⟨x,a,rfl⟩:=bH.mp d;have b:j0 (bF.map λk:Nat=>(k:Int)) x=ag:=by
  unfold Ju at a;split at a
  ·exact (bD.mp a).2
  ·split at a
   ·cases a
   ·split at a
    ·split at a
     ·exact (bD.mp a).2
     ·exact (bD.mp a).2
    ·exact (bD.mp a).2
 obtain⟨k,c,rfl⟩:=bH.mp (C6.1 x a);rw[cN];exists (bD.mp c).1,(bD.mp c).2,λz=>?_;rw[<- z] at b;unfold j0 at b;rw[Bool.not_eq_true',decide_eq_false_iff_not] at b;exact b rfl
theorem Ld.post{o:cR ns rs}{x:Nat}{to:Option Nat}(h:Ld o s)(M:x<wL s.aL)(j:x<wL s.groups)(m:∀c∈s.cps,c.l<wL s.ls)(G:ie (p9 ns rs o s.ws (s.groups.getD x 0)) (s.R (s.groups.getD x 0)) os):Ld o (oA rs s x to os):=by have u:s.groups[x]?=ac (s.groups.getD x 0):=(by rw[ao,aa j];rfl);unfold oA;generalize p:s.aL.getD x 0=f;obtain⟨H,C⟩:=IP (rs:=rs) (os:=os) (h:=f) (bF:=ae) (s:=lR s x to) (i:=s.ls.length) (l:={jH s x to with aF:=[.post f]}) (by show (s.ls++[_])[s.ls.length]?=_;rw[p];exact mC);rw[C];have q:=aa7 (rs:=rs) (os:=os) (s:=lR s x to) (l:={jH s x to with aF:=[.post f]}) (h:=f) (bF:=ae);generalize ES rs (lR s x to) {jH s x to with aF:=[.post f]} f ae os=gs at q;have n:∀b,(lR s x to).ls.set (wL s.ls) b=s.ls++[b]:=λb=>(by show (s.ls++[_]).set (wL s.ls) b=_;rw[oJ _ _ (az _),gq];rfl);rw[n];exists λb E=>?_,λk w g O=>?_;rcases bU.mp E with z|z;exact h.sd b z;rw[bV.mp z];exact u;have a:=h.ld k w g O;exists λt K=>a.nt t K,λc D b d e I=>?_;have d:(s.ls++[_])[c.l]?=ac b:=d;rcases bU.mp D with z|z;rw[bu (m c z)] at d;exact a.cp c z b d e I;obtain⟨r,L,rfl⟩:=bH.mp z;rw[mC] at d;cases d;have e:s.groups.getD x 0=k:=e;subst e;have y:=G.uniq O;subst y;have F:=Fo.of O;obtain⟨v,B,_⟩:=q r L;obtain⟨J,A,_⟩:=F.back v B;exists v,J,u,4;show Rw rs os r (iD rs r (iD rs r f)) (s.aL.getD x 0);rw[A,p];exact .refl
theorem Ld.pass{o:cR ns rs}{a:Nat}{cp:Cp}{l:LS}{ts:List T3}(h:Ld o s)(X:∀c∈s.cps,c.l<wL s.ls)(H:s.cps[a]?=ac cp)(hl:s.ls[cp.l]?=ac l)(hg:l.grp<3)(Q:ie (p9 ns rs o s.ws l.grp) (s.R l.grp) os)(T:ts.Perm (put3 (s.ts l.grp) cp.h l.s cp.r)):Ld o (gh rs s a cp l os ts):=by
 have K:=(aj.mp hl).1;have A:=ay H;have F:=Fo.of Q;have n:∀(m:NS)(y:LS),y.s=l.s->y.grp=l.grp->y.old=l.old->m.ls=s.ls.set cp.l y->∀(i:Nat)d,m.ls[i]?=ac d->∃e,s.ls[i]?=ac e/\e.s=d.s/\e.grp=d.grp/\e.old=d.old:=λm y V e2 e3 I i d p=>(by rw[I,iz K] at p;by_cases z:i=cp.l;rw[eL z] at p;cases p;exists l,by rw[z];exact hl,V.symm,e2.symm,e3.symm;rw[e8 z] at p;exists d,p,222);have x:∀m:NS,m.groups=s.groups->(∀(i:Nat)d,m.ls[i]?=ac d->∃e,s.ls[i]?=ac e/\e.s=d.s/\e.grp=d.grp/\e.old=d.old)->pX m:=λm eg st=>Vh h.sd eg λd L=>(by obtain⟨i,p⟩:=bM L;obtain⟨e,j,v,w,_⟩:=st i d p;exists e,ay j,v.symm,w.symm);unfold gh;split;·have le:=CC (s:=s) (a:=a) (cp:=cp) (l:=l) (os:=os) (ts:=ts);have Y:(bQ s a cp l os ts).cps=s.cps.eraseIdx a:=(by unfold bQ;split <;> rfl);have I:(bQ s a cp l os ts).ls=s.ls.set cp.l {l with aF:=l.aF++[dP l cp os]}:=(by unfold bQ;split <;> rfl);obtain⟨had,ed⟩:=IP (rs:=rs) (os:=os) (h:=cp.h) (bF:=ac cp.r) (jJ (a:=a) (os:=os) (ts:=ts) hl);rw[ed];have N:=aa7 (rs:=rs) (os:=os) (s:=bQ s a cp l os ts) (l:={l with aF:=l.aF++[dP l cp os]}) (h:=cp.h) (bF:=ac cp.r);generalize ES rs (bQ s a cp l os ts) {l with aF:=l.aF++[dP l cp os]} cp.h (ac cp.r) os=gs at N;have st:=n {bQ s a cp l os ts with had:=had,cps:=(bQ s a cp l os ts).cps++gs.map λr=>(⟨cp.l,r,lQ (bQ s a cp l os ts).ws r (iX {l with aF:=l.aF++[dP l cp os]}),iD rs r cp.h⟩:Cp),ls:=(bQ s a cp l os ts).ls.set cp.l {l with done:=kg l.done cp.h,aF:=l.aF++[dP l cp os]++((jG (bQ s a cp l os ts) {l with aF:=l.aF++[dP l cp os]} cp.h).map (ck.hand cp.h)++gs.map λr=>.send cp.h r (lQ (bQ s a cp l os ts).ws r (iX {l with aF:=l.aF++[dP l cp os]})))}} {l with done:=kg l.done cp.h,aF:=l.aF++[dP l cp os]++((jG (bQ s a cp l os ts) {l with aF:=l.aF++[dP l cp os]} cp.h).map (ck.hand cp.h)++gs.map λr=>.send cp.h r (lQ (bQ s a cp l os ts).ws r (iX {l with aF:=l.aF++[dP l cp os]})))} rfl rfl rfl (by rw[I,yc]);exists x _ le.2.2.2 st,λk G g O=>?_;have O:ie (p9 ns rs o (bQ s a cp l os ts).ws k) ((bQ s a cp l os ts).R k) g:=O;rw[le.1,le.2.1] at O;have b:=h.ld k G g O;have C:∀c,s.groups[c]?=ac k->(bQ s a cp l os ts).aL.getD c 0=s.aL.getD c 0:=λc _=>(by rw[le.2.2.1]);exists λt f=>?_,λc u d J D E=>?_;have old:t∈s.ts k->∃h c r:Nat,t=((h:Int),(c:Int),(r:Int))/\Led rs g _ k h c r:=λz=>(by obtain⟨L,c',r',e',q⟩:=b.nt t z;exists L,c',r',e',q.of le.2.2.2 C);have f:t∈(bQ s a cp l os ts).ts k:=f;unfold bQ at f;split at f;exact old f;rename_i no;have f:t∈fc s.ts l.grp ts k:=f;by_cases z:k=l.grp;subst z;rw[cJ] at f;have f:=T.mem_iff.mp f;unfold put3 at f;rcases bU.mp f with w'|w';exact old (bD.mp w').1;exists cp.h,l.s,cp.r,bV.mp w',4;exact (b.cp cp A l hl rfl (by simpa using no)).of le.2.2.2 C;rw[dG z] at f;exact old f;obtain⟨e,j,v,w,B⟩:=st c.l d J;have u:c∈(bQ s a cp l os ts).cps++_:=u;rw[Y] at u;rcases bU.mp u with z|z;have:=(b.cp c (List.mem_of_mem_eraseIdx z) e j (w.trans D) (B.trans E)).of le.2.2.2 C;rw[v] at this;exact this;obtain⟨r,hr,rfl⟩:=bH.mp z;have j:s.ls[cp.l]?=ac e:=j;rw[hl] at j;cases j;have ek:l.grp=k:=w.trans D;subst ek;have S:=Q.uniq O;subst S;have q:=b.cp cp A l hl rfl (B.trans E);obtain⟨P,M,Z⟩:=N r hr;obtain⟨b1,U,_⟩:=F.back P M;have ne:cp.r≠r:=λz=>Z (by rw[z]);have W:=F.avoid q.1 q.2.1 M q.2.2.2;have t2:Rw rs os r cp.h (iD rs cp.r cp.h):=.step .refl q.1 ne q.2.1;have q':Led rs os s l.grp (iD rs r cp.h) l.s r:=⟨P,b1,q.2.2.1,by rw[U];exact t2.trans W⟩;have:=q'.of le.2.2.2 C;rw[v] at this;exact this
 have st:=n (mD s a cp l os) {l with aF:=l.aF++[dP l cp os]} rfl rfl rfl rfl;exists x _ rfl st,λk G g O=>?_;refine (h.ld k G g O).of (λt h=>h) rfl (λ_ _=>rfl) λc u d J D E=>?_;obtain⟨e,j,v,w,B⟩:=st c.l d J;exists List.mem_of_mem_eraseIdx u,e,j,v,w.trans D,B.trans E
theorem akl{o:cR ns rs}{cl:List (Nat×Nat)}:Ld o (S0 ns rs cl):=⟨λl h=>(by cases h),λg _ os _=>⟨λt h=>(by cases h),λc h=>(by cases h)⟩⟩
end
section
variable{ns:List Int}{rs:List R5}{s s':NS}{n:Nat}
noncomputable def SV(s:NS):List (List Nat):=s.ls.map λl=>l.done
theorem adD{i:Nat}{d:ck}:SV (c6 s i d)=SV s:=by unfold c6;cases e:s.ls[i]? with|none=>rfl|some l=>show (s.ls.set i _).map (λl=>l.done)=_;rw[gQ];exact uC (by rw[ak,e];rfl)
theorem Gs{g:Nat}:SV (rZ s g)=SV s:=by show (s.ls.map (qe g)).map (λl=>l.done)=s.ls.map λl=>l.done;rw[cU];refine cT λl _=>?_;show (qe g l).done=l.done;unfold qe;split <;> rfl
theorem CD{e:Int}:∀m,SV (iT s e m)=SV s
 |0=>rfl
 |m+1=>by
  have a:=CD (e:=e) m;rw[ia];split
  ·rw[Gs];exact a
  ·exact a
theorem WB{i x:Nat}:SV (jK s i x)=SV s:=by have b:∀(cs:List Cp)(a:NS),SV (cs.foldl (kI i x) a)=SV a:=λcs=>(by induction cs with|nil=>exact λ_=>rfl|cons c cs d=>intro a;rw[gH,d];unfold kI;split;exact adD;rfl);exact b (s.cps.take (wL s.cps)) s
def IQ(n:Nat)(rs:List R5)(s:NS):Prop:=Ph n rs s<=2*wL rs*wL s.ls
theorem IQ.of(h:IQ n rs s)(d:wL s'.cps<=wL s.cps)(a:SV s'=SV s):IQ n rs s':=by have c:wL s'.ls=s.ls.length:=(by have:=gw wL a;unfold SV at this;rw[af,af] at this;exact this);have b:(s'.ls.map λl=>wG n rs l.done).sum=(s.ls.map λl=>wG n rs l.done).sum:=(by have:=gw (λL=>(L.map (wG n rs)).sum) a;unfold SV at this;simp only[cU] at this;exact this);unfold IQ Ph at h ⊢;rw[c,b];lia
theorem HL{e:Int}:∀m,(iT s e m).cps=s.cps
 |0=>rfl
 |m+1=>by
  have a:=HL (e:=e) m;rw[ia];split <;> exact a
theorem IQ.call{g x:Nat}{d:RM.Row}(h:IQ n rs s):IQ n rs (nj s g x d):=by unfold nj;split;exact h;exact h.of (az _) Gs
theorem IQ.move{x y:Nat}(h:IQ n rs s):IQ n rs (p7 s x y):=by unfold p7;split;exact h;exact h.of (az _) Gs
theorem IQ.Vg{i x:Nat}{w:List Nat}{e:Int}(h:IQ n rs s):IQ n rs (p6 s i x w e):=by have a:IQ n rs (jK {s with ws:=s.ws.set i (w.filter λz=>decide (z≠x))} i x):=h.of (aR _ _) (WB (s:={s with ws:=s.ws.set i (w.filter λz=>decide (z≠x))}));unfold p6;split;exact a.of (by rw[HL];exact az _) (CD 3);exact a
theorem IQ.lay{i:Nat}{w a:List Nat}{e:Int}(h:IQ n rs s):IQ n rs (CA s i w a e):=by unfold CA;split;exact h.of (by rw[HL];exact az _) (CD (s:={s with ws:=s.ws.set i a}) 3);exact h
theorem LV(e:SV s'=SV s):wL s'.ls=s.ls.length:=by have:=gw wL e;unfold SV at this;rw[af,af] at this;exact this
theorem adE{g x:Nat}{d:RM.Row}:(nj s g x d).ls.length=s.ls.length:=by unfold nj;split;rfl;exact LV Gs
theorem adF{x y:Nat}:(p7 s x y).ls.length=s.ls.length:=by unfold p7;split;rfl;exact LV Gs
theorem adG{i x:Nat}{w:List Nat}{e:Int}:(p6 s i x w e).ls.length=s.ls.length:=by have a:=LV (WB (s:={s with ws:=s.ws.set i (w.filter λz=>decide (z≠x))}) (i:=i) (x:=x));unfold p6;split;exact (LV (CD 3)).trans a;exact a
theorem ahi{i:Nat}{w a:List Nat}{e:Int}:(CA s i w a e).ls.length=s.ls.length:=by unfold CA;split;exact LV (CD (s:={s with ws:=s.ws.set i a}) 3);rfl
theorem SW{x:Nat}{to:Option Nat}{os:List Nat}:(oA rs s x to os).ls.length=s.ls.length+1:=by unfold oA;obtain⟨b,a⟩:=IP (rs:=rs) (os:=os) (h:=s.aL.getD x 0) (bF:=ae) (s:=lR s x to) (i:=s.ls.length) (l:={jH s x to with aF:=[.post (s.aL.getD x 0)]}) mC;rw[a];show ((s.ls++[_]).set _ _).length=_;rw[aQ,av];rfl
theorem SX{a:Nat}{cp:Cp}{l:LS}{os:List Nat}{ts:List T3}(hl:s.ls[cp.l]?=ac l):(gh rs s a cp l os ts).ls.length=s.ls.length:=by
 unfold gh;split;·obtain⟨c,b⟩:=IP (rs:=rs) (os:=os) (h:=cp.h) (bF:=ac cp.r) (jJ (a:=a) (os:=os) (ts:=ts) hl);rw[b];show ((bQ s a cp l os ts).ls.set _ _).length=_;rw[aQ];unfold bQ;split <;> exact aQ
 exact aQ
theorem IQ.post{os:List Nat}{x:Nat}{to:Option Nat}(F:Fo ns rs os)(h:IQ (wL ns) rs s)(a:s.aL.getD x 0<wL ns):IQ (wL ns) rs (oA rs s x to os):=by have:=adA (to:=to) F a;unfold IQ at h ⊢;rw[SW,Nat.mul_add,Nat.mul_one];lia
theorem IQ.pass{os:List Nat}{a:Nat}{cp:Cp}{l:LS}{ts:List T3}(F:Fo ns rs os)(h:IQ (wL ns) rs s)(b:s.cps[a]?=ac cp)(hl:s.ls[cp.l]?=ac l)(c:cp.h<wL ns):IQ (wL ns) rs (gh rs s a cp l os ts):=by have:=adB (ts:=ts) F b hl c;unfold IQ at h ⊢;rw[SX hl];lia
end
section
variable{ns:List Int}{rs:List R5}{s:NS}
def LeT(s s':NS):Prop:=∀g,(s'.ts g).length<=(s.ts g).length
theorem LW{k:Nat}:LeT s (rZ s k):=λg=>by
 show (fc s.ts k [] g).length<=_;by_cases e:g=k
 ·subst e
  rw[cJ];exact aS _
 ·rw[dG e]
  exact az _
theorem Dc{e:Int}:∀m,LeT s (iT s e m)
 |0=>λ_=>az _
 |m+1=>by
  rw[ia];split
  ·exact λg=>aJ (LW g) (Dc m g)
  ·exact Dc m
theorem aa8{g x:Nat}{d:RM.Row}:LeT s (nj s g x d):=by unfold nj;split;exact λ_=>az _;exact LW (s:={s with R:=fc s.R g (RM.upd (s.R g) x d)})
theorem aa9{x y:Nat}:LeT s (p7 s x y):=by unfold p7;split;exact λ_=>az _;exact LW (s:={s with aL:=s.aL.set x y})
theorem aba{i x:Nat}{w:List Nat}{e:Int}:LeT s (p6 s i x w e):=λg=>by
 have h:=(yU (s:={s with ws:=s.ws.set i (w.filter λz=>decide (z≠x))}) (i:=i) (x:=x)).2.2.1;unfold p6;split
 ·refine aJ (Dc 3 g) ?_
  rw[h];exact az _
 ·rw[h]
  exact az _
theorem adH{i:Nat}{w a:List Nat}{e:Int}:LeT s (CA s i w a e):=by unfold CA;split;exact Dc (s:={s with ws:=s.ws.set i a}) 3;exact λ_=>az _
theorem abb{i h:Nat}{l:LS}{bF:Option Nat}{os:List Nat}(e:s.ls[i]?=ac l):(Qm rs s i h l bF os).ts=s.ts:=by obtain⟨b,a⟩:=IP (rs:=rs) (os:=os) (h:=h) (bF:=bF) e;rw[a]
theorem adI{x:Nat}{to:Option Nat}{os:List Nat}:(oA rs s x to os).ts=s.ts:=by unfold oA;exact abb (s:=lR s x to) mC
theorem adJ{a:Nat}{cp:Cp}{l:LS}{os:List Nat}{ts:List T3}(hl:s.ls[cp.l]?=ac l)(p:ts.Perm (put3 (s.ts l.grp) cp.h l.s cp.r))(g:Nat):((gh rs s a cp l os ts).ts g).length<=(s.ts g).length+1:=by have b:((bQ s a cp l os ts).ts g).length<=(s.ts g).length+1:=(by unfold bQ;split;exact eB _;show (fc s.ts l.grp ts g).length<=_;by_cases e:g=l.grp;subst e;rw[cJ];exact Sz p;rw[dG e];exact eB _);unfold gh;split;rw[abb (jJ hl)];exact b;exact eB _
end
section
structure wH(ns:List Int)(rs:List R5)(bs:List (List Bool))(cl:List (Nat×Nat))(D:Nat)(s:NS):Prop extends SD ns rs bs cl D s where
 ld:∀o:cR ns rs,Ld o s
 ph:IQ (wL ns) rs s
 ln:100*wL s.ls<=D
 nb:∀g,100*(s.ts g).length<=D
variable{ns:List Int}{rs:List R5}{bs:List (List Bool)}{cl:List (Nat×Nat)}{D:Nat}{s:NS}
theorem wH.b0(h:wH ns rs bs cl D s):SD ns rs bs cl D s:=⟨h.ok,h.bd,h.ws,h.fit,h.hm,h.gr⟩
theorem wH.mono{a:Nat}(h:wH ns rs bs cl D s)(e:D<=a):wH ns rs bs cl a s:=⟨h.b0.mono e,h.ld,h.ph,aJ h.ln e,λg=>aJ (h.nb g) e⟩
theorem wH.call{g x:Nat}{d:RM.Row}(h:wH ns rs bs cl D s)(a:DZ (wL ns) (wL rs) d):wH ns rs bs cl D (nj s g x d):=⟨h.b0.call a,λo=>(h.ld o).call,h.ph.call,by rw[adE];exact h.ln,λg=>aJ (Nat.mul_le_mul_left _ (aa8 g)) (h.nb g)⟩
theorem wH.move{x y:Nat}(h:wH ns rs bs cl D s)(a:x<wL cl)(b:y<wL ns):wH ns rs bs (cl.set x (y,cl[x].2)) D (p7 s x y):=⟨h.b0.move a b,λo=>(h.ld o).move (by rw[h.gr,af];exact a),h.ph.move,by rw[adF];exact h.ln,λg=>aJ (Nat.mul_le_mul_left _ (aa9 g)) (h.nb g)⟩
theorem wH.afc(h:wH ns rs bs cl D s){i:Nat}{b:List Bool}(a:bs[i]?=ac b):s.ws[i]?=ac (stand b):=by rw[h.ws,ak,a];rfl
theorem wH.Vg{i x:Nat}{b:List Bool}{r:R5}(o:cR ns rs)(h:wH ns rs bs cl D s)(a:bs[i]?=ac b)(c:rs[i]?=ac r):wH ns rs (bs.set i (b.set x al)) cl D (p6 s i x (stand b) r.e):=⟨h.b0.Vg o a r.e,λo=>(h.ld o).Vg c (h.afc a),h.ph.Vg,by rw[adG];exact h.ln,λg=>aJ (Nat.mul_le_mul_left _ (aba g)) (h.nb g)⟩
theorem wH.lay{i x:Nat}{b:List Bool}{r:R5}{v:Bool}(o:cR ns rs)(h:wH ns rs bs cl D s)(a:bs[i]?=ac b)(c:rs[i]?=ac r)(d:b[x]?=ac v):wH ns rs (bs.set i (b.set x ag)) cl D (CA s i (stand b) (stand (b.set x ag)) r.e):=⟨h.b0.lay o a r.e,λo=>(h.ld o).lay c (h.afc a) (λz=>by
 have:x∈stand (b.set x ag):=lY.mpr (by rw[bE,eL rfl,eL (aj.mp d).1])
 rw[z] at this;cases this),h.ph.lay,by rw[ahi];exact h.ln,λg=>aJ (Nat.mul_le_mul_left _ (adH g)) (h.nb g)⟩
theorem wH.post{x:Nat}{to:Option Nat}{os:List Nat}(o:cR ns rs)(h:wH ns rs bs cl D s)(a:x<wL s.aL)(O:ie (p9 ns rs o s.ws (s.groups.getD x 0)) (s.R (s.groups.getD x 0)) os)(b:wL os<=12):wH ns rs bs cl (D+100) (oA rs s x to os):=⟨h.b0.post o a O b,λe=>(h.ld e).post a (by rw[h.bd.gl];exact a) (λc d=>(h.bd.cl c d).1) O,h.ph.post (Fo.of O) (h.bd.hm _ (by rw[ao,aa a];exact aP a)),by rw[SW,Nat.mul_add];exact kM h.ln 100,λg=>by rw[adI];exact aJ (h.nb g) (mP _ _)⟩
theorem wH.pass{a:Nat}{cp:Cp}{l:LS}{os:List Nat}{ts:List T3}(o:cR ns rs)(h:wH ns rs bs cl D s)(hl:s.ls[cp.l]?=ac l)(b:s.cps[a]?=ac cp)(O:ie (p9 ns rs o s.ws l.grp) (s.R l.grp) os)(d:wL os<=12)(p:ts.Perm (put3 (s.ts l.grp) cp.h l.s cp.r))(f:eZ ts):wH ns rs bs cl (D+100) (gh rs s a cp l os ts):=⟨h.b0.pass o hl (aj.mp b).1 O d p f,λi=>(h.ld i).pass (λc e=>(h.bd.cl c e).1) b hl (h.bd.lb l (ay hl)).2.2.1 O p,h.ph.pass (Fo.of O) b hl (h.bd.cl cp (ay b)).2.2,by rw[SX hl];exact aJ h.ln (mP _ _),λg=>by have:=adJ (rs:=rs) (a:=a) (os:=os) hl p g;have:=h.nb g;lia⟩
end
section
variable{rs:List R5}{s s':NS}{i:Nat}{l l':LS}{mv:List Bool}{c:CS}
noncomputable def n6(l:LS):List ck×List Nat×Nat×Nat×Int×Nat:=(l.aF,l.done,l.s,l.to,l.kd,l.grp)
theorem ahj{l l':LS}(e:n6 l'=n6 l):l'.aF=l.aF/\l'.done=l.done/\l'.s=l.s/\l'.to=l.to/\l'.kd=l.kd/\l'.grp=l.grp:=by unfold n6 at e;simpa using e
structure Kl(s s':NS):Prop where
 ls:s'.ls.map n6=s.ls.map n6
 ho:s'.aL=s.aL
 gr:s'.groups=s.groups
 had:s'.had=s.had
 cps:s'.cps=s.cps
theorem Kl.refl:Kl s s:=⟨22222⟩
theorem Kl.trans{c:NS}(a:Kl s s')(b:Kl s' c):Kl s c:=⟨b.ls.trans a.ls,b.ho.trans a.ho,b.gr.trans a.gr,b.had.trans a.had,b.cps.trans a.cps⟩
theorem Kl.at_(k:Kl s s'){j:Nat}(h:s'.ls[j]?=ac l'):∃l,s.ls[j]?=ac l/\n6 l'=n6 l:=by have e:=gw (λL=>L[j]?) k.ls;simp only[ak,h] at e;cases q:s.ls[j]? with|none=>rw[q] at e;cases e|some l=>rw[q] at e;exists l,2,aO e
theorem Qo{g:Nat}:Kl s (rZ s g):=by exists 42222;show (s.ls.map (qe g)).map n6=_;rw[cU];refine cT λl _=>?_;show n6 (qe g l)=n6 l;unfold qe;split <;> rfl
theorem vL{e:Int}:∀m,Kl s (iT s e m)
 |0=>Kl.refl
 |m+1=>by
  rw[ia];split
  ·exact (vL m).trans Qo
  ·exact vL m
theorem adK{g x:Nat}{d:RM.Row}:Kl s (nj s g x d):=by unfold nj;split;exact Kl.refl;exact Kl.trans (s':={s with R:=fc s.R g (RM.upd (s.R g) x d)}) ⟨22222⟩ Qo
theorem Qp{w a:List Nat}{e:Int}:Kl s (CA s i w a e):=by unfold CA;split;exact Kl.trans (s':={s with ws:=s.ws.set i a}) ⟨22222⟩ (vL 3);exists 22222
theorem Ys{ds:List Nat}{h x:Nat}:x∈kg ds h↔x∈ds∨x=h:=by unfold kg;split;rename_i m;exists .inl,λz=>z.elim id λe=>e▸m;rw[bU,bV]
noncomputable def xZ(had:List (List Nat))(i:Nat)(cs:List Nat):List (List Nat):=cs.foldl (λw c=>w.set c (w.getD c []++[i])) had
theorem SY{i:Nat}:∀{cs:List Nat}{had:List (List Nat)},(xZ had i cs).length=had.length
 |[],_=>rfl
 |c::cs,had=>(SY (cs:=cs)).trans aQ
theorem Ou{i h:Nat}:∀{gs:List Nat}{s:NS},(gs.foldl (tN rs i h) s).had=s.had
 |[],_=>rfl
 |r::gs,s=>(Ou (gs:=gs)).trans (by
  show (c6 s i _).had=s.had;unfold c6;cases s.ls[i]? <;> rfl)
theorem Ov{i h:Nat}:∀{cs:List Nat}{s:NS},(cs.foldl (kL i h) s).had=xZ s.had i cs
 |[],_=>rfl
 |c::cs,s=>by
  rw[gH,Ov (cs:=cs)];show xZ (kL i h s c).had i cs=xZ (s.had.set c (s.had.getD c []++[i])) i cs;congr 1;unfold kL c6;cases (tG s i c).ls[i]? <;> rfl
theorem Ow{h:Nat}{bF:Option Nat}{os:List Nat}(e:s.ls[i]?=ac l):Qm rs s i h l bF os={s with had:=xZ s.had i (jG s l h),cps:=s.cps++(ES rs s l h bF os).map λr=>⟨i,r,lQ s.ws r (iX l),iD rs r h⟩,ls:=s.ls.set i {l with done:=kg l.done h,aF:=l.aF++((jG s l h).map (ck.hand h)++(ES rs s l h bF os).map λr=>.send h r (lQ s.ws r (iX l)))}}:=by obtain⟨had,b⟩:=IP (rs:=rs) (os:=os) (h:=h) (bF:=bF) e;have a:(Qm rs s i h l bF os).had=xZ s.had i (jG s l h):=(by unfold Qm;rw[Ou,Ov];rfl);rw[b] at a ⊢;have a:had=xZ s.had i (jG s l h):=a;rw[a]
end
section
structure L4 where
 g:Nat
 x:Nat
 to:Option Nat
 st:Nat
noncomputable def L4.vs(q:L4):List V:=[.int q.g,.int q.x,kB (q.to.map λy:Nat=>(y:Int)),.int q.st]
structure Lq(cnt:List Nat)(l:LS)(q:L4):Prop where
 g:l.grp=q.g
 x:l.s=q.x
 kd:l.kd=if q.to.isSome=ag then 1 else 2
 to:l.to=q.to.getD 0
 le:q.st<=cnt.getD q.g 0
 old:l.old=al↔q.st=cnt.getD q.g 0
 g3:q.g<3
structure x9(s:NS)(Ls:List L4)(cnt:List Nat)(tt:Nat->List T3):Prop where
 ml:wL Ls=s.ls.length
 c3:wL cnt=3
 lq:∀(i:Nat)l q,s.ls[i]?=ac l->Ls[i]?=ac q->Lq cnt l q
 tp:∀g,g<3->(tt g).Perm (s.ts g)
noncomputable abbrev k6(l:LS):Nat×Nat×Int×Nat×Bool:=(l.s,l.to,l.kd,l.grp,l.old)
variable{s s':NS}{Ls:List L4}{cnt:List Nat}{tt DO:Nat->List T3}
theorem Lq.of{l a:LS}{q:L4}(h:Lq cnt l q)(e:k6 a=k6 l):Lq cnt a q:=by unfold k6 at e;simp only[Prod.mk.injEq] at e;obtain⟨c,b,f,d,i⟩:=e;exists by rw[d];exact h.g,by rw[c];exact h.x,by rw[f];exact h.kd,by rw[b];exact h.to,h.le,by rw[i];exact h.old,h.g3
theorem x9.of(h:x9 s Ls cnt tt)(b:s'.ls.map k6=s.ls.map k6)(c:∀g,g<3->(DO g).Perm (s'.ts g)):x9 s' Ls cnt DO:=by have a:=gw wL b;rw[af,af] at a;exists by rw[a];exact h.ml,h.c3,λi j q d f=>?_,c;have e:=gw (λL=>L[i]?) b;simp only[ak,d] at e;cases z:s.ls[i]? with|none=>rw[z] at e;cases e|some l=>rw[z] at e;exact (h.lq i l q z f).of (aO e)
theorem x9.news(h:x9 s Ls cnt tt){g:Nat}(m:g<3):x9 (rZ s g) Ls (cnt.set g (cnt.getD g 0+1)) (fc tt g []):=by
 exists by rw[h.ml];exact (af _).symm,by rw[aQ];exact h.c3,λi e q b j=>?_,λk f=>?_;have b:(s.ls.map (qe g))[i]?=ac e:=b;rw[ak] at b;cases z:s.ls[i]? with|none=>rw[z] at b;cases b|some l=>(rw[z] at b;have b:qe g l=e:=aO b;subst b;have a:=h.lq i l q z j;have d:(cnt.set g (cnt.getD g 0+1)).getD q.g 0=if q.g=g then cnt.getD q.g 0+1 else cnt.getD q.g 0:=by rw[ao,bE];by_cases y:g=q.g;rw[eL y,eL (by rw[h.c3];exact m),eL y.symm,y];rfl;rw[e8 y,e8 (λw=>y w.symm)];exact (ao ..).symm);unfold qe;by_cases y:l.grp=g;rw[eL y];have c:q.g=g:=a.g▸y;have le:=a.le;exists a.g,a.x,a.kd,a.to,by rw[d,eL c];lia,⟨λw=>(by cases w),λw=>?_⟩,a.g3;rw[d,eL c] at w;lia;rw[e8 y];have c:¬q.g=g:=λw=>y (a.g.trans w);exists a.g,a.x,a.kd,a.to,by rw[d,e8 c];exact a.le,by rw[d,e8 c];exact a.old,a.g3
 show (fc tt g [] k).Perm (fc s.ts g [] k);by_cases y:k=g;subst y;rw[cJ,cJ];rw[dG y,dG y];exact h.tp k f
noncomputable def Vi(cnt:List Nat)(e:Int):Nat->List Nat
 |0=>cnt
 |m+1=>if lz e m=ag then (Vi cnt e m).set m ((Vi cnt e m).getD m 0+1) else Vi cnt e m
noncomputable def ttR(tt:Nat->List T3)(e:Int):Nat->Nat->List T3
 |0=>tt
 |m+1=>if lz e m=ag then fc (ttR tt e m) m [] else ttR tt e m
theorem LX{cnt:List Nat}{e:Int}:∀m,(Vi cnt e m).length=cnt.length
 |0=>rfl
 |m+1=>by
  show (if lz e m=ag then _ else _:List Nat).length=_;split
  ·rw[aQ,LX m]
  ·exact LX m
theorem x9.iT(h:x9 s Ls cnt tt)(e:Int):∀m,m<=3->x9 (iT s e m) Ls (Vi cnt e m) (ttR tt e m)
 |0,_=>h
 |m+1,a=>by
  rw[ia];show x9 _ Ls (if lz e m=ag then _ else _) (if lz e m=ag then _ else _);split
  ·exact (h.iT e m ∅).news ∅
  ·exact h.iT e m ∅
theorem Vj{i:Nat}{l a:LS}(hl:s.ls[i]?=ac l)(e:k6 a=k6 l):(s.ls.set i a).map k6=s.ls.map k6:=by rw[gQ,e];exact uC (by rw[ak,hl];rfl)
theorem WC{w x:Nat}:∀{cs:List Cp}{t:NS},(cs.foldl (kI w x) t).ls.map k6=t.ls.map k6
 |[],_=>rfl
 |c::cs,t=>by
  rw[gH,WC (cs:=cs)];unfold kI;split
  ·unfold c6
   cases q:t.ls[c.l]? with
   |none=>rfl
   |some l=>exact Vj q rfl
  ·rfl
theorem x9.lose(h:x9 s Ls cnt tt){w x:Nat}:x9 (jK s w x) Ls cnt tt:=by refine h.of ?_ λg a=>?_;unfold jK ji;rw[cQ];exact WC;rw[(yU (s:=s) (i:=w) (x:=x)).2.2.1];exact h.tp g a
theorem x9.ws(h:x9 s Ls cnt tt)(w:List (List Nat)):x9 {s with ws:=w} Ls cnt tt:=⟨h.ml,h.c3,h.lq,h.tp⟩
theorem x9.post{rs:List R5}{os:List Nat}{x:Nat}{to:Option Nat}(h:x9 s Ls cnt tt)(c:s.groups.getD x 0<3):x9 (oA rs s x to os) (Ls++[⟨s.groups.getD x 0,x,to,cnt.getD (s.groups.getD x 0) 0⟩]) cnt tt:=by unfold oA;rw[Ow (s:=lR s x to) mC];exists 4,h.c3,λi l q a b=>?_,λg c=>h.tp g c;show _=((s.ls++[_]).set (wL s.ls) _).length;rw[aQ,av,av,h.ml];rfl;have a:((s.ls++[_]).set (wL s.ls) _)[i]?=ac l:=a;rw[oJ _ _ (az _),gq] at a;by_cases e:i<wL s.ls;rw[bu e] at a;rw[bu (by rw[h.ml];exact e)] at b;exact h.lq i l q a b;have d:i=s.ls.length:=(by have:=(aj.mp a).1;rw[av] at this;have:i<wL s.ls+1:=this;lia);subst d;have a:(s.ls++[_])[s.ls.length]?=ac l:=a;rw[mC] at a;rw[<- h.ml,bZ (az _),gq] at b;cases a;cases b;exists 2222,az _,⟨λ_=>rfl,λ_=>rfl⟩,c
theorem x9.pass{rs:List R5}{os:List Nat}{a:Nat}{cp:Cp}{l:LS}{ts:List T3}(h:x9 s Ls cnt tt)(hl:s.ls[cp.l]?=ac l)(c:∀g,g<3->(DO g).Perm ((gh rs s a cp l os ts).ts g)):x9 (gh rs s a cp l os ts) Ls cnt DO:=by refine h.of ?_ c;have b:(bQ s a cp l os ts).ls=s.ls.set cp.l {l with aF:=l.aF++[dP l cp os]}:=(by unfold bQ;split <;> rfl);unfold gh;split;rw[Ow (jJ hl)];show ((bQ s a cp l os ts).ls.set cp.l _).map k6=_;rw[b,yc];exact Vj hl rfl;exact Vj hl rfl
end
section
variable{P:ci}{w:World}{K:ai}{mg:Str->Option ar}{base:Heap}
theorem Ui(h a b:Int):Av (.int h) [.int a,.int b]=(decide (h=a) || decide (h=b)):=by have:=ly h [a,b];rw[show ([a,b]:List Int).map cn=[.int a,.int b] from rfl] at this;rw[this];by_cases d:h=a <;> by_cases c:h=b <;> simp[d,c]
inductive S1(K:ai)(vs:List V)(H:Hp)(Q:VK)(E:XK):Prop
 |mk(b lo d lh:am)(ns:List Int)(rs:List R5)(os:List Nat)(ts:List T3)(hs:List Nat)(h:Nat)(bF to:Option Nat):vs=[.ref b,.ref lo,.ref d,.ref lh,.int h,kB (bF.map λk:Nat=>(k:Int)),kB (to.map λk:Nat=>(k:Int))]->J7 K H b rs->bI K H lo (aT os)->H d=ac (.dT (ts.map eY))->bI K H lh (aT hs)->(∀k∈os,k<wL rs)->eZ ts->wL rs<=20->wL os<=12->(∀t∈ts,∃h c r:Nat,t=((h:Int),(c:Int),(r:Int))/\r∈os/\isAt rs (h:Int) r=ag)->(∀l H',aG H H'->H l=ae->H' l=ac (.lst ((Ju ts (to.map λk:Nat=>(k:Int)) (h:Int) (bF.map λk:Nat=>(k:Int)) ((os.filter (isAt rs (h:Int))).map λk:Nat=>(k:Int)) (hs.map λk:Nat=>(k:Int))).map cn))->Q (.ref l) H')->S1 K vs H Q E
theorem Yt{t:Ad}(T:Txt K mg t):cH P w K mg base iJ 1 t.Bx t.Fv ["_law_ropes_here","_law_opened","_law_notes_here","_law_here","_law_house","_law_came","_law_to_here"] (S1 K):=by refine T.RB.F.jv G8 λH Q E hr h=>?_;·obtain⟨b,lo,d,lh,ns,rs,os,g,i,h,f,O,rfl,hB,hO,hd,hh,hlt,oe,Z6,o12,led,k⟩:=h;exists _,(aq (cC (iU oq (pv 6) (pv 3) (by with_unfolding_all rfl)) (oR (fX gM)) bw) (aq (cC (PW.pt (wQ (qT E3 (pv 6) kr) (tO (YY (Zy (HX hr) (dY (kN (pv 4) (pv 6))) (pv 2)) (by with_unfolding_all rfl))))) (oR (fE (kO G8 ["_law_rope","_law_came"] [ae,ac 5]) rfl (eW (fX (fR (acm (HX hr) (pv 2) (dY (kN (pv 4) (pv 6))) (λ_ _=>rfl))))) (λ_ _ _ _=>by exact (gS 0 Px)) (λ_ _ _ _=>by exact (jM (qT rJ (pv 0) (pv 1)))) (λ_ _ _ _=>by exact (pv 0)))) bw) (oR (fE (kO G8 ["_law_rope","_law_came","_law_house","_law_ropes_here"] [ae,ac 5,ac 4,ac 0]) rfl (eW (pv 1)) (λ_ _ _ _=>by exact (gS 0 Py)) (λ_ _ _ _=>by exact (jM (PW.pt (wQ (qT rJ (pv 0) (pv 1)) (tO (iU (ze K rfl) (pv 2) (uv (acr K rfl) (yL K (pv 3) (pv 0)) E6 (qR aA)) (by with_unfolding_all rfl))))))) (λ_ _ _ _=>by exact (pv 0)))))),4;left;obtain⟨D,hL,L⟩:=id hB;have YJ:wL D=rs.length:=(by rw[L.len,af]);rw[eU] at hO hh;have fin:∀ot:Option Int,(Ju g ot (h:Int) (f.map λk:Nat=>(k:Int)) ((os.filter (isAt rs (h:Int))).map λk:Nat=>(k:Int)) (i.map λk:Nat=>(k:Int))=((os.filter (isAt rs (h:Int))).map λk:Nat=>(k:Int)).filter (j0 (f.map λk:Nat=>(k:Int))))->(os.map λk:Nat=>(k:Int)).filter (λx=>j0 (f.map λk:Nat=>(k:Int)) x&&isAt rs (h:Int) x.toNat)=Ju g ot (h:Int) (f.map λk:Nat=>(k:Int)) ((os.filter (isAt rs (h:Int))).map λk:Nat=>(k:Int)) (i.map λk:Nat=>(k:Int)):=λot e=>(by rw[e,List.filter_map,List.filter_map,List.filter_filter];congr 1);refine aY λNx bW=>?_;exists 8,lh,1,.inl hh,Rg _,qq _,14;by_cases p:∃t,O=ac t/\t∈i;obtain⟨t,rfl,ht⟩:=p;have e1:Av (.int (t:Int)) ((i.map λk:Nat=>(k:Int)).map cn)=ag:=(by rw[ly];exact fy (List.mem_map_of_mem ht));refine Aw (by show Av (.int (t:Int)) _=ag;exact e1) ?_;exists aS _,λl hl=>k l _ (aG.new hl) hl ?_;have:Ju g (ac (t:Int)) (h:Int) (f.map λk:Nat=>(k:Int)) ((os.filter (isAt rs (h:Int))).map λk:Nat=>(k:Int)) (i.map λk:Nat=>(k:Int))=[]:=eL (List.mem_map_of_mem ht);show _=ac (cx (List.map cn (Ju g (ac (t:Int)) _ _ _ _)));rw[this];exact au;refine qh ?_ (bW _ _ ?_);(cases O with|none=>exact Fk _|some t=>show Av (.int (t:Int)) _=al;rw[ly];refine gn λz=>p ⟨t,24⟩;obtain⟨y,m,ey⟩:=bH.mp z;rw[show t=y by lia];exact m);refine jO (λσ I=>aG H I/\(Ju g (O.map λk:Nat=>(k:Int)) (h:Int) (f.map λk:Nat=>(k:Int)) ((os.filter (isAt rs (h:Int))).map λk:Nat=>(k:Int)) (i.map λk:Nat=>(k:Int))=((os.filter (isAt rs (h:Int))).map λk:Nat=>(k:Int)).filter (j0 (f.map λk:Nat=>(k:Int))))/\σ=[ac (.ref b),ac (.ref lo),ac (.ref d),ac (.ref lh),ac (.int (h:Nat)),ac (kB (f.map λk:Nat=>(k:Int))),ac (kB (O.map λk:Nat=>(k:Int)))]) ?_ (λN' hN=>?_);rotate_left;(cases O with|none=>exact⟨10,e9 (hN _ _ ⟨aG.refl _,22⟩)⟩|some t=>(have X:¬(t:Int)∈i.map λk:Nat=>(k:Int):=λz=>(by obtain⟨y,m,ey⟩:=bH.mp z;exact p ⟨t,2,by rw[show t=y by lia];exact m⟩);exists 10,fY ⟨8,jD,λb3 hb3=>?_⟩;have Y:=aG.new (o:=.tup [cn h,kB ((ac t:Option Nat).map λk:Nat=>(k:Int))]) hb3;have B:upd H b3 (.tup [cn h,kB ((ac t:Option Nat).map λk:Nat=>(k:Int))]) b3=ac (.tup [cn h,.int t]):=au;generalize upd H b3 (.tup [cn h,kB ((ac t:Option Nat).map λk:Nat=>(k:Int))])=n at Y B;exists 1,d,1,DV.t (k:=keyOf h t) (Y _ _ hd) B,14;rw[zk];cases hk:oU g (h:Int) (t:Int) with|none=>refine e9 (hN _ _ ⟨Y,42⟩);show (if (t:Int)∈_ then _ else _)=_;rw[e8 X,hk]|some r=>refine fY ?_;exists 18,jD,λb4 hb4=>?_;have u4:=aG.new (o:=.tup [cn h,kB ((ac t:Option Nat).map λk:Nat=>(k:Int))]) hb4;have N:upd n b4 (.tup [cn h,kB ((ac t:Option Nat).map λk:Nat=>(k:Int))]) b4=ac (.tup [cn h,.int t]):=au;generalize upd n b4 (.tup [cn h,kB ((ac t:Option Nat).map λk:Nat=>(k:Int))])=H4 at u4 N;have s4:=Y.trans u4;have g4:=DV.t (k:=keyOf h t) (s4 _ _ hd) N;rw[zk,hk] at g4;exists d,1,g4,Xe,λZ LN=>?_;have u5:=aG.new (o:=.lst [cn r]) LN;have u:=au (H:=H4) (a:=Z) (o:=.lst [cn r]);generalize upd H4 Z (.lst [cn r])=H5 at u5 u;have s5:=s4.trans u5;have C:bI K H5 Z (([r]:List Int).map cn):=bI.of u;exists Z,2,⟨_,C⟩,λj c=>?_;refine nS (j0 (f.map λk:Nat=>(k:Int))) c C (by show 1<=1000;decide) (λx I R S _ q J s=>?_) (λI q m=>k j I (s5.trans q) (s5.free c) ?_);exists 8,uA x _,14;exact iW (λe=>⟨1,J _ (aG.refl _) e⟩) (λe=>s _ (aG.refl _) (neT e));rw[m];obtain⟨h',c',r',et,hro,hat⟩:=led _ ((yi oe).mp hk);have et1:h=h':=(by have:=gw (·.1) et;simp at this;lia);have et3:r=(r':Int):=gw (·.2.2) et;subst et1 et3;have hrm:(r':Int)∈(os.filter (isAt rs (h:Int))).map λk:Nat=>(k:Int):=List.mem_map_of_mem (bD.mpr ⟨hro,hat⟩);have:Ju g (ac (t:Int)) (h:Int) (f.map λk:Nat=>(k:Int)) ((os.filter (isAt rs (h:Int))).map λk:Nat=>(k:Int)) (i.map λk:Nat=>(k:Int))=[(r':Int)].filter (j0 (f.map λk:Nat=>(k:Int))):=(by show (if (t:Int)∈_ then _ else _)=_;rw[e8 X,hk];show (if (r':Int)∈_ then _ else _)=_;rw[eL hrm]);show _=ac (cx (List.map cn (Ju g (ac (t:Int)) _ _ _ _)));rw[this]));rintro σ I ⟨q,eon,rfl⟩;have v:=q.seq hO;exists 1,lo,2,⟨_,v⟩,λj c=>?_;refine nS (λx=>j0 (f.map λk:Nat=>(k:Int)) x&&isAt rs (h:Int) x.toNat) c v (by rw[af];lia) (λx n R S hx s3 J s=>?_) (λn s3 m=>k j n (q.trans s3) (q.free c) ?_);(·obtain⟨r,hr',rfl⟩:=bH.mp hx;have A:=hlt r hr';rw[cN] at J s;exists 8,uA _ _,14;refine iW (λe=>?_) (λe=>s _ (aG.refl _) (by have e:¬j0 (f.map λk:Nat=>(k:Int)) (r:Int)=ag:=e;rw[neT e];rfl));have e:j0 (f.map λk:Nat=>(k:Int)) (r:Int)=ag:=e;rw[e,uq] at J s;have U:=q.trans s3;have M:=U.bP (L.at' r (D[r]'∅) (rs[r]).vs (aa _) (by rw[ak,aa A];rfl));have G:yb (D.map cr) (r:Int)=ac (.ref (D[r]'∅)):=bO (by rw[ak,aa];rfl);generalize D[r]'∅=pt at G M;have nw:¬(HT.lV (rs[r]).vs.length 0 ae=0/\HT.lV (rs[r]).vs.length (rs[r]).vs.length (ac 2)=(rs[r]).vs.length):=λz=>ff z.2 (by show HT.lV 5 5 (ac 2)≠5;decide);have ct:DU (rs[r]).vs ae (ac 2)=[cn rs[r].a,cn rs[r].b]:=rfl;exists 18,b,39,bI.of (U _ _ hL),G,1,pt,1,M,nw,λz3 Vb=>?_;rw[ct];have u7:=aG.new (o:=.tup [cn rs[r].a,cn rs[r].b]) Vb;have W:=au (H:=n) (a:=z3) (o:=.tup [cn rs[r].a,cn rs[r].b]);generalize upd n z3 (.tup [cn rs[r].a,cn rs[r].b])=H7 at u7 W;exists z3,1,.inr (cD.of W),204;(try dsimp only);rw[e8 aH,Ui];have eia:isAt rs (h:Int) r=(decide ((h:Int)=rs[r].a) || decide ((h:Int)=rs[r].b)):=(by unfold isAt;rw[aa A]);rw[<- eia];exact iW (λe=>⟨1,J _ u7 e⟩) (λe=>s _ u7 (neT e)));rw[m,<- fin _ eon]
noncomputable abbrev abe(cl:List (Nat×Nat)):List (List V):=cl.map λc=>[.int c.1,.int c.2]
structure DX(K:ai)(CT:am)(h:Hp)(tp ln lr b0 ls:am)(dB:List am)(pl:am)(ns:List Int)(rs:List R5)(bs:List (List Bool))(cl:List (Nat×Nat)):Prop where
 lA:dN K CT h tp ln lr ns rs
 WD:J7 K h b0 rs
 sts:wh h ls dB bs
 lC:∃qp:List am,h pl=ac (.lst (qp.map cr))/\cP K h qp (abe cl)
 nl:∀l∈dB,l≠tp/\l≠ln/\l≠lr/\l≠b0/\l≠ls/\l≠pl
 np:pl≠tp/\pl≠ln/\pl≠lr/\pl≠b0/\pl≠ls
def Kp(h h':Hp)(dB:List am)(pl:am):Prop:=∀b o,h b=ac o->b∉dB->b≠pl->h' b=ac o
section
variable{CT:am}{h h' h2:Hp}{tp ln lr b0 ls pl:am}{dB:List am}{ns:List Int}{rs:List R5}{bs:List (List Bool)}{cl:List (Nat×Nat)}
theorem Kp.of(s:aG h h'):Kp h h' dB pl:=λb o e _ _=>s b o e
theorem Kp.trans(a:Kp h h' dB pl)(b:Kp h' h2 dB pl):Kp h h2 dB pl:=λx o e c d=>b x o (a x o e c d) c d
theorem DX.mono(d:DX K CT h tp ln lr b0 ls dB pl ns rs bs cl)(s:aG h h'):DX K CT h' tp ln lr b0 ls dB pl ns rs bs cl:=by obtain⟨a,c,h2⟩:=d.lC;exists d.lA.mono s,d.WD.keep (λo z=>s _ _ z) (λb x=>s.bP),d.sts.mono s,⟨a,s _ _ c,h2.mono λb x=>s.bP⟩,d.nl,d.np
theorem DX.aou(d:DX K CT h tp ln lr b0 ls dB pl ns rs bs cl){i x:Nat}{l:am}{b:List Bool}{v:Bool}(hl:dB[i]?=ac l)(n:bs[i]?=ac b):DX K CT (upd h l (.lst ((b.map cw).set x (cw v)))) tp ln lr b0 ls dB pl ns rs (bs.set i (b.set x v)) cl:=by obtain⟨s,r,p,k,u,j⟩:=d.nl l (ay hl);have g:=d.sts.it i l b hl n;have a:∀c y,cD K h c y->cD K (upd h l (.lst ((b.map cw).set x (cw v)))) c y:=λc y=>cD.past g c7 br;obtain⟨f,m,t⟩:=d.lC;exists d.lA.keep (λc o e q=>br c o e ?_) a,d.WD.keep (λo e=>br _ o e (bT k)) a,d.sts.put hl br (by rw[au,gQ]) (bT u),⟨f,br _ _ m (bT j),t.mono a⟩,d.nl,d.np;rcases q with rfl|rfl|rfl;exact bT s;exact bT r;exact bT p
theorem DX.aov(d:DX K CT h tp ln lr b0 ls dB pl ns rs bs cl){g:List am}{x:Nat}{q:am}{c:Nat×Nat}(p:h pl=ac (.lst (g.map cr)))(k:cP K h g (abe cl))(t:cD K h q [.int c.1,.int c.2]):DX K CT (upd h pl (.lst ((g.map cr).set x (.ref q)))) tp ln lr b0 ls dB pl ns rs bs (cl.set x c):=by obtain⟨v,u,s,n,w⟩:=d.np;have j:∀c y,cD K h c y->cD K (upd h pl (.lst ((g.map cr).set x (.ref q)))) c y:=λc y=>cD.past p c7 br;exists d.lA.keep (λc o e q=>br c o e ?_) j,d.WD.keep (λo e=>br _ o e (bT n)) j,⟨br _ _ d.sts.at_ (bT w),d.sts.len,d.sts.nd,λi l b a f=>br _ _ (d.sts.it i l b a f) (d.nl l (ay a)).2.2.2.2.2⟩,⟨g.set x q,by rw[au,gQ],4⟩,d.nl,d.np;rcases q with rfl|rfl|rfl;exact bT v;exact bT u;exact bT s;exists by rw[aQ,k.len];simp,λi r y a f=>?_;rw[ak] at f;rw[bE] at a f;have A:wL g=cl.length:=(by rw[k.len,af]);by_cases z:x=i;rw[eL z] at a f;by_cases m:i<wL cl;rw[z,eL ∅] at a;rw[z,eL m] at f;cases a;cases f;exact j _ _ t;rw[z,e8 ∅] at a;cases a;rw[e8 z] at a f;exact j _ _ (k.at' i r y a (by rw[ak];exact f))
theorem _root_.TW.cE.past{c:NC}{H:Hp}{F:am->Prop}{p:am}{n:Nat}{s:NS}(N:cE K c H F p tp n s){z:am}{u o:HO}(hz:Off H F z=ac u)(d:uz u):cE K c (upd H z o) F p tp n s:=by obtain⟨nf,a⟩:=c9 hz;exact N.keep (λb v e f=>br b v e λw=>nf (w▸f)) (λb x=>cD.past a d br)
theorem Kp.upd{H:Hp}{F:am->Prop}{z:am}{o u:HO}(hz:Off H F z=ac u)(c:z∈dB∨z=pl):Kp (Off H F) (Off (upd H z o) F) dB pl:=λb v e a d=>by
 rw[nA (c9 hz).1];refine br b v e λw=>?_;rcases c with y|y
 ·exact a (w▸y)
 ·exact d (w.trans y)
end
noncomputable def qO(s:NS)(i x:Nat)(b:List Bool)(r:R5):NS:=if b.getD x al=ag then p6 s i x (stand b) r.e else CA s i (stand b) (stand (b.set x ag)) r.e
noncomputable def ET(x:Nat)(b:List Bool):Bool:=if b.getD x al=ag then ((stand b).filter λz=>decide (z≠x)).isEmpty else (stand b).isEmpty
inductive S2(K:ai)(CT:am)(c:NC)(vs:List V)(H:Hp)(Q:VK)(E:XK):Prop
 |mk(F:am->Prop)(p tp ln lr b0 ls:am)(dB:List am)(pl:am)(ns:List Int)(rs:List R5)(bs:List (List Bool))(cl:List (Nat×Nat))(D:Nat)(s:NS)(kk:Int):vs=[.ref p,.ref b0,.ref ls,.int kk]->cR ns rs->cE K c H F p tp (wL ns) s->DX K CT (Off H F) tp ln lr b0 ls dB pl ns rs bs cl->wH ns rs bs cl D s->D<=40000->rs≠[]->(∀(i x:Nat)(b:List Bool)(r:R5)F' H',(i:Int)=kk%(rs.length:Int)->rs[i]?=ac r->bs[i]?=ac b->(x:Int)=kk/(rs.length:Int)%r.d->x<wL b->cE K c H' F' p tp (wL ns) (qO s i x b r)->DX K CT (Off H' F') tp ln lr b0 ls dB pl ns rs (bs.set i (b.set x (!b.getD x al))) cl->wH ns rs (bs.set i (b.set x (!b.getD x al))) cl D (qO s i x b r)->Kp (Off H F) (Off H' F') dB pl->Q (.bl (ET x b)) H')->S2 K CT c vs H Q E
theorem S3{t:Ad}(T:Txt K mg t):cH P w K mg base iJ 5 t.uV t.zL ["_law_net","_law_ropes_here","_law_stood","_law_number"] (S2 K t.be (nc t)):=by refine T.KI.F.jv Bw λH Q E hr h=>?_;·obtain⟨F,p,tp,ln,lr,b0,ls,dB,pl,U,rs,bs,cl,D,st,f,rfl,o,N,I,j,hD,Z,k⟩:=h;exists _,(aq (sS 4 Bw (bf dc (pv 3) (lS T.fV (pv 1)))) (aq (sS 5 Bw (bf dc (bf eG (pv 3) (lS T.fV (pv 1))) (xT (xL (pv 1) (pv 4)) aA))) (aq (wR (YZ (xL (xL (pv 2) (pv 4)) (pv 5))) (GB (xL (pv 2) (pv 4)) (pv 5) set_list)) (aq (cC (ku (xL (xL (pv 2) (pv 4)) (pv 5))) (oR (cM (pv 0) T.bG T.ND (Vc T) hr (kN (pv 4) (pv 5)))) bw) (oR (cM (pv 0) T.bG T.KD (Ss T) hr (kN (pv 4) (pv 5)))))))),4;left;obtain⟨y,ve,LY⟩:=I.WD;have hL:=aD _ _ ve;have YJ:wL y=rs.length:=(by rw[LY.len,af]);have hrl:0<wL rs:=List.length_pos_iff.mpr Z;have J:(((y.map cr).length:Nat):Int)=(rs.length:Int):=(by rw[af,YJ]);exists 8,b0,1,.inl (bI.of hL),9,(by rw[J];lia),4;(try dsimp only);rw[J];obtain⟨i,ei⟩:∃i:Nat,f%(rs.length:Int)=(i:Int):=⟨_,(sf (cu _ ∅)).symm⟩;have hi:i<wL rs:=(by have:=cz f (show (0:Int)<(rs.length:Int) by lia);lia);rw[ei];have r:rs[i]?=ac rs[i]:=aa hi;have W:=o.ok _ (aP hi);have hq:(y.map cr)[i]?=ac (cr (y[i]'∅)):=(by rw[ak,aa];rfl);have hqt:cD K H (y[i]'∅) (rs[i]).vs:=aD.bP (LY.at' i (y[i]'∅) (rs[i]).vs (aa _) (by rw[ak,r];rfl));exists 8,b0,1,.inl (bI.of hL),9,(by rw[J];exists 6,by have:=o.Z6;lia),4;(try dsimp only);rw[J];have d1:=W.d1;exists 8,b0,39,bI.of hL,bO hq,33,(3),12,hqt,29,(by show (0:Int)<rs[i].d;lia),4;(try dsimp only);obtain⟨x,X⟩:∃x:Nat,f/(rs.length:Int)%rs[i].d=(x:Int):=⟨_,(sf (cu _ (show rs[i].d≠0 by lia))).symm⟩;have hx:(x:Int)<rs[i].d:=(by have:=cz (f/(rs.length:Int)) (show (0:Int)<rs[i].d by lia);lia);rw[X];obtain⟨b,n,hbl⟩:=j.fit.at r;have c:x<wL b:=∅;have hbi:=(aj.mp n).1;obtain⟨l,M⟩:∃l,dB[i]?=ac l:=⟨_,aa (by rw[I.sts.len];exact hbi)⟩;have hsl:=I.sts.at_;have L:=I.sts.it i l b M n;have Qq:yb (dB.map cr) (i:Int)=ac (.ref l):=bO (by rw[ak,M];rfl);have Yu:yb (b.map cw) (x:Int)=ac (cw b[x]):=bO (by rw[ak,aa c];rfl);have G:=aD _ _ hsl;have C:=aD _ _ L;exists 8,ls,39,bI.of G,Qq,1,l,39,bI.of C,Yu,14;exists 8,ls,39,bI.of G,Qq,1,l,33,x,22,C,(by rw[af];exact tP c),4;have S:=N.past (o:=.lst ((b.map cw).set x (cw (!b[x])))) L c7;have s:=I.aou (x:=x) (v:=!b[x]) M n;rw[<- nA (c9 L).1] at s;have u:Kp (Off H F) (Off (upd H l (.lst ((b.map cw).set x (cw (!b[x]))))) F) dB pl:=Kp.upd L (.inl (ay M));have A:(upd H l (.lst ((b.map cw).set x (cw (!b[x]))))) l=ac (.lst ((b.set x (!b[x])).map cw)):=(by rw[au,gQ]);generalize upd H l (.lst ((b.map cw).set x (cw (!b[x]))))=H1 at S s u A;have aox:=aD _ _ s.sts.at_;have aoy:yb ((b.set x (!b[x])).map cw) (x:Int)=ac (cw (!b[x])):=bO (by rw[ak,bE,eL rfl,eL c];rfl);exists 8,ls,39,bI.of aox,Qq,1,l,39,bI.of A,aoy,14;obtain⟨loc,YE,q,hp,O,hF,hT⟩:=id S;have Y:=O.get .dO _ rfl;rw[hp] at Y;have W1:NW K (nc t) t.be H1 F p tp ln lr U rs st:=s.lA.nw S λb z=>z;have B:st.ws[i]?=ac (stand b):=(by rw[j.ws,ak,n];rfl);have a:b[x]?=ac b[x]:=aa c;cases e:b[x] with|true=>rw[e] at s a;refine e9 ?_;have hc:∀cp∈st.cps,cp.l<wL st.ls:=λcp z=>(j.bd.cl cp z).1;have hB:∀l∈st.ls,wL l.aF<=D:=λl z=>(by have:=(j.bd.lb l z).1;lia);have hcb:=j.bd.cb;exists 1,p,31,Y,28,F,p,tp,ln,lr,U,rs,st,i,x,stand b,rs[i],D,2,W1,o,j.ok,hc,hB,6,B,r,lY.mpr a,λF2 H2 R g=>?_;have m:b.getD x al=ag:=(by rw[ao,a];rfl);have f:=k i x b rs[i] F2 H2 ei.symm r n X.symm c (by unfold qO;rw[eL m];exact R.dO) (by rw[m];exact s.mono (fB g)) (by unfold qO;rw[eL m,m];exact j.Vg o n r) (u.trans (Kp.of (fB g)));unfold ET at f;rw[eL m] at f;exact f|false=>rw[e] at s a;refine fY ?_;exists 1,p,31,Y,28,F,p,tp,ln,lr,U,rs,st,i,x,stand b,rs[i],2,W1,o,j.ok,B,r,hx,λz=>?_,λw2 F2 H2 hp2 hs2 R g=>?_;rw[lY,a] at z;cases z;have ew:=Xu a hp2 hs2;subst ew;have m:b.getD x al=al:=(by rw[ao,a];rfl);have ng:¬b.getD x al=ag:=(by rw[m];decide);have f:=k i x b rs[i] F2 H2 ei.symm r n X.symm c (by unfold qO;rw[e8 ng];exact R.dO) (by rw[m];exact s.mono (fB g)) (by unfold qO;rw[e8 ng,m];exact j.lay o n r a) (u.trans (Kp.of (fB g)));unfold ET at f;rw[e8 ng] at f;exact f
noncomputable def HM(x:List Int):PyData:=.tuple (x.map .int)
theorem yV{H:Hp}:∀{qs:List am}{xs:List (List Int)},cP K H qs (xs.map λx=>x.map cn)->dw K H (xs.map HM) (qs.map cr)
 |[],[],_=>rfl
 |[],_::_,h=>by cases h.len
 |_::_,[],h=>by cases h.len
 |q::qs,x::xs,h=>⟨.ref q,qs.map cr,2,Rep.A2 (ns:=x) (h.at' 0 q _ rfl rfl),yV ⟨Nat.succ.inj h.len,λi p y a b=>h.at' (i+1) p y a b⟩⟩
theorem r6:∀xs:List (List Int),bo (xs.map HM)=ag
 |[]=>rfl
 |x::xs=>by
  show (bo (x.map .int)&&bo (xs.map HM))=ag;rw[r6 xs,ic];rfl
theorem Dd:∀xs:List (List Int),bj (xs.map HM)<=1
 |[]=>!_
 |x::xs=>by
  show max (bj (x.map .int)+1) (bj (xs.map HM))<=1
  have:=Dd xs
  have:=lX x
  lia
theorem adL{ds:List PyData}:(PyData.list ds).eqv (.list [])=ds.isEmpty:=by cases ds <;> rfl
theorem abg{c:TT}{t u:TS}{D:Ends}{b:L2.St}{H:Hp}(rest:∀a,aG H a->u D b a)(h:(∀a,aG H a->u D b a)->OL c t u D b H):OL c t u D b H:=h rest
theorem uf(y:Int){n:Nat}(h:0<n):∃x:Nat,y%(n:Int)=(x:Int)/\x<n:=by have b:=cu y (show (n:Int)≠0 by lia);have a:=cz y (show (0:Int)<(n:Int) by lia);exists (y%(n:Int)).toNat,66
noncomputable def Yv(c:Cp):List Int:=[c.l,c.r,c.w,c.h]
theorem Qs(cps:List Cp):cps.map Cp.vs=(cps.map Yv).map λx=>x.map cn:=by rw[cU];rfl
theorem aks(rs:List R5):rs.map R5.vs=(rs.map R5.ns).map λx=>x.map cn:=by rw[cU];rfl
noncomputable def Ox(cl:List (Nat×Nat))(x y:Nat):Bool:=decide ((cl.getD y (0,0)).2=(cl.getD x (0,0)).2)
inductive akt(K:ai)(vs:List V)(H:Hp)(Q:VK)(E:XK):Prop
 |mk(pl:am)(qp:List am)(cl:List (Nat×Nat))(x:Nat)(kk:Int):vs=[.ref pl,.int x,.int kk]->bI K H pl (qp.map cr)->cP K H qp (abe cl)->x<wL cl->wL cl<=20->(∀(to:Option Nat)H',aG H H'->(∀y,to=ac y->y<wL cl/\(cl.map (·.2))[y]?=(cl.map (·.2))[x]?)->Q (kB (to.map λy:Nat=>(y:Int))) H')->akt K vs H Q E
theorem adM{t:Ad}(T:Txt K mg t):cH P w K mg base iJ 1 t.KA t.PK ["_law_places","_law_sender","_law_number"] (akt K):=by refine T.aai.F.jv Pw λH Q E Y h=>?_;·obtain⟨q,f,cl,x,U,rfl,v,B,m,W,k⟩:=h;exists _,(aq (qm (i:=3) Pw.nd rfl (Or.inl rfl) (kO Pw ["_law_caller","_law_places","_law_sender"] [ae,ac 0,ac 1]) rfl (eF rfl T.gY (fR (lS T.fV (pv 0)))) (λ_ _ _ _=>by exact (gS 0 UH)) (λ_ _ _ _=>by exact (jM (qT kU (yT K (yL K (pv 1) (pv 0)) aA) (yT K (yL K (pv 1) (pv 2)) aA)))) (λ_ _ _ _=>by exact (pv 0))) (aq (cC (qT kU (bf dc (pv 2) aA) aA) (oR kr) bw) (oR (xL (pv 3) (bf dc (bf eG (pv 2) aA) (lS T.fV (pv 3))))))),4;left;have M:wL f=cl.length:=(by rw[B.len,af]);have at':∀{y:Nat} (a:y<wL cl),yb (f.map cr) (y:Int)=ac (.ref (f[y]'∅))/\cD K H (f[y]'∅) [.int cl[y].1,.int cl[y].2]:=λ{y} a=>⟨bO (by rw[ak,aa];rfl),B.at' y _ _ (aa _) (by rw[ak,aa a];rfl)⟩;have p:∀{y:Nat} (a:y<wL cl),(cl.getD y (0,0))=cl[y]:=λ{y} a=>(by rw[ao,aa a];rfl);exists 1,q,1,.inl v,(((f.map cr).length:Nat):Int),26,by rw[af];lia,λo c=>?_;rw[af,M];refine eX (n:=((cl.length:Int)).toNat) (λi A _=>A=aT ((aB i).filter (Ox cl x))) c uw k7 rfl ?_ ?_;(·rintro i A r C b a rfl y X ⟨rfl,rfl⟩;rw[dQ];have g:i<wL cl:=∅;obtain⟨J,N⟩:=at' g;obtain⟨G,O⟩:=at' m;exists 8,q,39,b.seq v,J,33,(1),12,b.bP N,28,q,39,b.seq v,G,33,(1),12,b.bP O,204;have L:decide (cn ((cl[i].2:Nat):Int)=cn ((cl[x].2:Nat):Int))=Ox cl x i:=(by unfold Ox;rw[p g,p m,decide_eq_decide];exists λz=>by have:=V.int.inj z;lia,λz=>by rw[z]);(try dsimp only);rw[L];refine iW (λs=>?_) (λs=>?_);exists 14;refine dF c C b a ?_ ?_;rw[af];refine b9 (aJ (aR _ _) ?_);rw[bJ];lia;rw[lP,eL s,gy];refine gU C b a ?_;rw[lP,e8 s,b5]);rintro A r b a rfl;rw[cN] at a;have d:∀y∈(aB (wL cl)).filter (Ox cl x),y<wL cl/\(cl.map (·.2))[y]?=(cl.map (·.2))[x]?:=λy z=>(by obtain⟨R,I⟩:=bD.mp z;have a:=cS.mp R;exists a,4;have:=j9 I;rw[p a,p m] at this;rw[ak,ak,aa a,aa m];exact gw ac this);have l:x∈(aB (wL cl)).filter (Ox cl x):=bD.mpr ⟨cS.mpr m,fy rfl⟩;generalize (aB (wL cl)).filter (Ox cl x)=ms at a d l;exists 19,(by show (0:Int)<2;decide),21,iW (λe=>?_) (λe=>?_);exact k ae r b (λy z=>by cases z);·have u:0<wL ms:=List.length_pos_of_mem l;obtain⟨j,S,D⟩:=uf (U/2) u;exists 151,o,1,.inl (bI.of a),9,(by show (0:Int)<(((aT ms).length:Nat):Int);rw[af];lia),4;(try dsimp only);rw[af,S];exists o,39,bI.of a,oZ D,4;exact k (ac ms[j]) r b (λy z=>by cases z;exact d _ (aP D))
end
section
variable{s:NS}{cl:List (Nat×Nat)}{h g:Nat}
noncomputable def oF(cl:List (Nat×Nat))(h g:Nat):List Nat:=(aB (wL cl)).filter λc=>decide (cl[c]?=ac (h,g))
theorem S4(a:s.aL=cl.map (·.1))(b:s.groups=cl.map (·.2)):vK s h g=oF cl h g:=by unfold vK oF HG;rw[a,b,af];refine List.filter_congr λc d=>?_;rw[decide_eq_decide,ak,ak];cases cl[c]? with|none=>exact⟨λz=>(by cases z.1),λz=>(by cases z)⟩|some p=>exists λz=>gw ac (Prod.ext (aO z.1) (aO z.2)),λz=>by cases z;exact⟨22⟩
noncomputable def WE(x:Nat)(to:Option Nat)(c:Nat):Bool:=match to with|none=>!decide (c=x)|some y=>decide (c=y)
theorem ahk{cnt:List Nat}{l:LS}{q:L4}(a:Lq cnt l q)(c:Nat):D0 l.s l.to l.kd c=WE q.x q.to c:=by rw[a.x,a.kd,a.to];unfold D0 WE;cases q.to with|none=>show (if (2:Int)=1 then _ else if (2:Int)=2 then !decide (cn (c:Int)=cn (q.x:Int)) else al)=!decide (c=q.x);rw[e8 (!_),eL rfl];congr 1;rw[decide_eq_decide];exact⟨λz=>by have:=V.int.inj z;lia,λz=>by rw[z]⟩|some y=>show (if (1:Int)=1 then decide (cn (c:Int)=cn (y:Int)) else _)=decide (c=y);rw[eL rfl,decide_eq_decide];exists λz=>by have:=V.int.inj z;lia,λz=>by rw[z]
theorem adN{cnt:List Nat}{l:LS}{q:L4}(a:Lq cnt l q)(b:s.aL=cl.map (·.1))(d:s.groups=cl.map (·.2)):jG s l h=(oF cl h q.g).filter (WE q.x q.to):=by unfold jG;rw[a.g,S4 b d];exact List.filter_congr λc _=>ahk a c
theorem ahl{cnt:List Nat}{l:LS}{q:L4}(a:Lq cnt l q):iX l=match q.to with|none=>q.x|some y=>q.x+y+1:=by unfold iX;rw[a.x,a.kd,a.to];cases q.to with|none=>rfl|some y=>rfl
theorem aku{rs:List R5}{os:List Nat}{cnt:List Nat}{l:LS}{q:L4}{ts:List T3}{bF:Option Nat}(a:Lq cnt l q)(b:s.aL=cl.map (·.1))(i:s.groups=cl.map (·.2))(e:ts.Perm (s.ts l.grp))(c:eZ ts):Ju ts (q.to.map λk:Nat=>(k:Int)) (h:Int) (bF.map λk:Nat=>(k:Int)) ((os.filter (isAt rs (h:Int))).map λk:Nat=>(k:Int)) ((oF cl h q.g).map λk:Nat=>(k:Int))=(ES rs s l h bF os).map λk:Nat=>(k:Int):=by
 have f:tR l.to l.kd=q.to.map λk:Nat=>(k:Int):=(by rw[a.to,a.kd];unfold tR;cases q.to with|none=>rfl|some y=>rfl);have d:Ju ts (q.to.map λk:Nat=>(k:Int)) (h:Int) (bF.map λk:Nat=>(k:Int)) ((os.filter (isAt rs (h:Int))).map λk:Nat=>(k:Int)) ((oF cl h q.g).map λk:Nat=>(k:Int))=Ju (s.ts l.grp) (tR l.to l.kd) (h:Int) (bF.map λk:Nat=>(k:Int)) ((os.filter (isAt rs (h:Int))).map λk:Nat=>(k:Int)) ((vK s h l.grp).map λk:Nat=>(k:Int)):=(by rw[f,<- a.g,S4 b i];unfold Ju;simp only[TW.Uw e c]);rw[d];unfold ES;rw[cU];conv=>lhs;rw[<- List.map_id (Ju _ _ _ _ _ _)]
 refine cT λy j=>?_;obtain⟨k,_,rfl⟩:=bH.mp (C6.1 y j);rfl
noncomputable def IS(rs:List R5)(s:NS)(l:LS)(h:Nat)(bF:Option Nat)(os:List Nat):List ck:=(jG s l h).map (ck.hand h)++(ES rs s l h bF os).map λr=>ck.send h r (lQ s.ws r (iX l))
end
section
variable{P:ci}{w:World}{K:ai}{mg:Str->Option ar}{base:Heap}
theorem ahm(c:Nat)(to:Option Nat):decide (cn (c:Nat)=kB (to.map λy:Nat=>(y:Int)))=decide (to=ac c):=by cases to with|none=>exact (gn λz=>by cases z).trans (gn λz=>by cases z).symm|some y=>rw[decide_eq_decide];exists λz=>by have:(c:Int)=y:=V.int.inj z;rw[show c=y by lia],λz=>by rw[aO z];rfl
theorem WG(to:Option Nat):decide (kB (to.map λy:Nat=>(y:Int))=V.gk)=to.isNone:=by cases to with|none=>rfl|some y=>exact gn λz=>(by cases z)
theorem or2{b:Bool}{A R:Prop}(a:Prop)(c:a->A)(f:b=ag->a)(d:(a->A)->¬b=ag->R):if b=ag then A else R:=iW (λe=>c (f e)) (λe=>d c e)
inductive S5(K:ai)(vs:List V)(H:Hp)(Q:VK)(E:XK):Prop
 |mk(b ls lo d pl ql:am)(dB qp:List am)(ns:List Int)(rs:List R5)(bs:List (List Bool))(os:List Nat)(ts:List T3)(cl:List (Nat×Nat))(cnt:List Nat)(q:L4)(s:NS)(l:LS)(h:Nat)(bF:Option Nat):vs=[.ref b,.ref ls,.ref lo,.ref d,.ref pl,.ref ql,.int h,kB (bF.map λk:Nat=>(k:Int))]->J7 K H b rs->wh H ls dB bs->bI K H lo (aT os)->H d=ac (.dT (ts.map eY))->bI K H pl (qp.map cr)->cP K H qp (abe cl)->cD K H ql q.vs->Lq cnt l q->s.aL=cl.map (·.1)->s.groups=cl.map (·.2)->s.ws=bs.map stand->ts.Perm (s.ts l.grp)->eZ ts->(∀k∈os,k<wL rs)->(∀t∈ts,∃h c r:Nat,t=((h:Int),(c:Int),(r:Int))/\r∈os/\isAt rs (h:Int) r=ag)->(∀r∈os,∃bb,bs[r]?=ac bb/\stand bb≠[]/\wL bb<=4)->wL rs<=20->wL os<=12->wL cl<=20->(∀a(qS:List am)H',aG H H'->H a=ae->H' a=ac (.lst (qS.map cr))->cP K H' qS ((IS rs s l h bF os).map ck.vs)->Q (.ref a) H')->S5 K vs H Q E
theorem Oz{t:Ad}(T:Txt K mg t):cH P w K mg base iJ 2 t.By t.Fw ["_law_ropes_here","_law_stood","_law_opened","_law_notes_here","_law_places","_law_letter","_law_house","_law_came"] (S5 K):=by refine T.KJ.F.jv iC λH Q E hr h=>?_;·obtain⟨b,ls,lo,d,pl,ql,dB,qp,ns,rs,bs,os,ts,cl,cnt,q,s,l,h,bF,rfl,hB,hX,hO,hd,hP,YN,hql,lq,hm,hg,hws,pt,oe,olt,led,wir,Z6,o12,c20,k⟩:=h;exists _,(aq (wR (uv GG (pv 5) E6 (qR aA)) (JG (n:=3) rfl (gJ (gT 8 iC) (gJ (gT 9 iC) (gJ (gT 10 iC) za))))) (aq (qm (i:=11) iC.nd rfl (Or.inl rfl) (kO iC ["_law_caller","_law_group","_law_house","_law_places"] [ae,ac 8,ac 6,ac 4]) rfl (eF rfl T.gY (fR (lS T.fV (pv 4)))) (λ_ _ _ _=>by exact (gS 0 Pz)) (λ_ _ _ _=>by exact (jM (qT (VJ K rfl hr.units) (yL K (pv 3) (pv 0)) (dY (kN (pv 2) (pv 1)))))) (λ_ _ _ _=>by exact (pv 0))) (aq (qm (i:=12) iC.nd rfl (Or.inl rfl) (kO iC ["_law_caller","_law_house","_law_sender","_law_to_here"] [ae,ac 6,ac 9,ac 10]) rfl (eW (pv 11)) (λ_ _ _ _=>by exact (gS 0 PB)) (λ_ _ _ _=>by exact (jM (PW.pt (HQ (qT kU (pv 0) (pv 3)) (DR (PW.pt (wQ (qT TH (pv 3) kr) (tO (qT rJ (pv 0) (pv 2)))))))))) (λ_ _ _ _=>by exact (dY (Ic fH (pv 1) (pv 0))))) (aq (sS 13 iC (pv 9)) (aq (cC (qT E3 (pv 10) kr) (bz (sS 13 iC (bf gm (bf gm (pv 9) (pv 10)) aA))) bw) (aq (fS (eW (cG (Yt T) hr T.RB (aN7 (pv 0) (pv 2) (pv 3) (pv 11) (pv 6) (pv 7) (pv 10)))) (gT 14 iC) (aq (sS 15 iC (bf JN (fE (kO iC ["_law_wire_here","_law_rope","_law_stood"] [ae,ac 14,ac 1]) rfl (eF rfl T.gY (fR (lS T.fV (xL (pv 1) (pv 14))))) (λ_ _ _ _=>by exact (gS 0 PD)) (λ_ _ _ _=>by exact (jM (ku (yL K (yL K (pv 2) (pv 1)) (pv 0))))) (λ_ _ _ _=>by exact (pv 0))) (fX (fR (aeq Zg aA))))) (oE (mQ aV bq bh dZ (pv 12) (fR (dY (nO fH (pv 6) (pv 14) (xL (pv 15) (bf dc (pv 13) (cB (WU rfl) T.aju boot_max (kN aA (bf zb (lS T.fV (pv 15)) aA)))))))))))) (oR (pv 12)))))))),4;left;have eqp:wL qp=cl.length:=(by rw[YN.len,af]);have nw3:¬(HT.lV q.vs.length 0 ae=0/\HT.lV q.vs.length q.vs.length (ac 3)=wL q.vs):=λz=>ff z.2 (by show HT.lV 4 4 (ac 3)≠4;decide);have ct3:DU q.vs ae (ac 3)=[cn q.g,cn q.x,kB (q.to.map λy:Nat=>(y:Int))]:=rfl;refine aY λNx D=>?_;exists 8,ql,1,hql,nw3,λz hz=>?_;rw[ct3];have u1:=aG.new (o:=.tup [cn q.g,cn q.x,kB (q.to.map λy:Nat=>(y:Int))]) hz;have g1:=au (H:=H) (a:=z) (o:=.tup [cn q.g,cn q.x,kB (q.to.map λy:Nat=>(y:Int))]);generalize upd H z (.tup [cn q.g,cn q.x,kB (q.to.map λy:Nat=>(y:Int))])=H1 at u1 g1;exists z,1,cD.of g1,231319,D _ _ ?_;have hP1:=u1.seq hP;have cat:∀{y:Nat} (u:y<wL cl),∃qy,yb (qp.map cr) (y:Int)=ac (.ref qy)/\cD K H1 qy [.int cl[y].1,.int cl[y].2]:=λ{y} u=>⟨qp[y]'∅,bO (by rw[ak,aa];rfl),u1.bP (YN.at' y _ _ (aa _) (by rw[ak,aa u];rfl))⟩;refine aY λNx D=>?_;exists 1,pl,1,.inl hP1,(((qp.map cr).length:Nat):Int),26,by rw[af];lia,λlh O3=>?_;rw[af,eqp];refine eX (n:=((cl.length:Int)).toNat) (λi B _=>B=aT ((aB i).filter λc=>decide (cl[c]?=ac (h,q.g)))) O3 uw k7 rfl ?_ ?_;rintro i B H5 m s5 u rfl z H6 ⟨rfl,rfl⟩;rw[dQ];have hic:i<wL cl:=∅;obtain⟨qy,a2,q2⟩:=cat hic;exists 8,pl,39,s5.seq hP1,a2,8,jD,λz3 Vb=>?_;have u6:=aG.new (o:=.tup [cn h,cn q.g]) Vb;have hz6:=au (H:=H6) (a:=z3) (o:=.tup [cn h,cn q.g]);have hy6:=u6 _ _ u;generalize upd H6 z3 (.tup [cn h,cn q.g])=L at u6 hz6 hy6;have s6:=s5.trans u6;exists .tuple (([(cl[i].1:Int),(cl[i].2:Int)]:List Int).map .int),.tuple (([(h:Int),(q.g:Int)]:List Int).map .int),Rep.A2 (ns:=[(cl[i].1:Int),(cl[i].2:Int)]) (s6.bP q2),Rep.A2 (ns:=[(h:Int),(q.g:Int)]) (cD.of hz6),ic _,ic _,(by show bj _+1<=64;rw[lX];decide),14;rw[Jv];have S:decide ((cl[i].1:Int)=(h:Int)/\(cl[i].2:Int)=(q.g:Int))=decide (cl[i]?=ac (h,q.g)):=(by rw[aa hic,decide_eq_decide];constructor;rintro⟨y1,y2⟩;exact gw ac (Prod.ext (by show cl[i].1=h;lia) (by show cl[i].2=q.g;lia));intro z;have z:=aO z;rw[z];exists 22);rw[S];refine iW (λY=>?_) (λY=>?_);exists 14;refine dF O3 m s6 hy6 ?_ ?_;rw[af];refine b9 (aJ (aR _ _) ?_);rw[bJ];lia;rw[lP,eL Y,gy];refine gU m s6 hy6 ?_;rw[lP,e8 Y,b5];rintro B H2 s2 N rfl;rw[cN] at N;refine D _ _ ?_;have N:H2 lh=ac (.lst (aT (oF cl h q.g))):=N;have akx:(oF cl h q.g).length<=20:=(by unfold oF;refine aJ (aR _ _) ?_;rw[bJ];exact c20);have s02:=u1.trans s2;have A:=bI.of (K:=K) N;refine aY λNx D=>?_;exists 1,lh,2,⟨_,A⟩,λlw X=>?_;refine eX (n:=(aT (oF cl h q.g)).length) (λi B H3=>∃v:List am,B=v.map cr/\cP K H3 v (((((oF cl h q.g).take i).filter (WE q.x q.to)).map (ck.hand h)).map ck.vs)) X (wU A) (mR A) ⟨[],2,⟨2,λi q y e=>by simp at e⟩⟩ ?_ ?_;(·rintro i B H3 m s3 u ⟨v,rfl,j⟩ y H4 ⟨rfl,hx⟩;have hx:=hx _ (s3.seq A);have hi':i<(oF cl h q.g).length:=(by rw[af] at m;exact m);rw[ak,aa hi'] at hx;cases hx;have G:(oF cl h q.g).take (i+1)=(oF cl h q.g).take i++[(oF cl h q.g)[i]]:=(by rw[gv,aa hi'];rfl);have el:wL v<=i:=(by rw[j.len,af,af];exact aJ (aR _ _) (by rw[b6];lia));generalize (oF cl h q.g)[i]=c at G;have skip:WE q.x q.to c=al->cP K H4 v (((((oF cl h q.g).take (i+1)).filter (WE q.x q.to)).map (ck.hand h)).map ck.vs):=λe=>(by rw[G,eO,dM,e];simpa using j);exists 8,uA _ _,14;(try dsimp only);rw[ahm];refine or2 (WE q.x q.to c=ag) (λhw=>fY ?_) (λe=>?_) (λhA e=>?_);exists 8,k9,λz hz=>?_;have u5:=aG.new (o:=.tup [cv (ba "hand"),cn h,cn c]) hz;have g5:=au (H:=H4) (a:=z) (o:=.tup [cv (ba "hand"),cn h,cn c]);refine dF X m (s3.trans u5) (u5 _ _ u) (by rw[af];exact b9 ∅) ⟨v++[z],-_,4⟩;rw[G,eO,dM,hw];simp only[if_true,List.filter_nil,aK,bK,tH];exact ((j.mono λb x=>u5.bP).snoc (cD.of g5)).mono λb x=>cD.past (u5 _ _ u) c7 br;have e:=j9 e;unfold WE;rw[e];exact fy rfl;·exists 104;(try dsimp only);rw[WG];refine iW (λS=>⟨804⟩) (λS=>e9 (gU m s3 u ⟨v,2,skip ?_⟩));(·have en:q.to=ae:=(by simpa using S);(try dsimp only);refine iW (λe2=>?_) (λe2=>gU m s3 u ⟨v,2,skip ?_⟩);have hb:=hA (by unfold WE;rw[en];have:¬cn (c:Nat)=cn (q.x:Nat):=(by simpa using e2);show (!decide (c=q.x))=ag;rw[gn λz=>this (by rw[z])];rfl);rw[eL rfl] at hb;exact hb;unfold WE;rw[en];show (!decide (c=q.x))=al;have:cn (c:Nat)=cn (q.x:Nat):=(by simpa using e2);have:=V.int.inj this;rw[fy (show c=q.x by lia)];rfl);unfold WE;cases et2:q.to with|none=>rw[et2] at S;exact ff rfl S|some y=>exact gn λz=>e (by rw[et2];exact fy (by rw[z])));rintro B H3 s3 hw3 ⟨v,rfl,j⟩;rw[af,cQ] at j;refine D _ _ ?_;have C:=s02.trans s3;refine aY λNx D=>?_;exists 1,D _ _ ?_;have p:=ahl lq;have hnB:iX l<=200∨True:=.inr trivial;(try dsimp only);refine jO (λW H5=>H5=H3/\W=[ac (.ref b),ac (.ref ls),ac (.ref lo),ac (.ref d),ac (.ref pl),ac (.ref ql),ac (.int (h:Nat)),ac (kB (bF.map λk:Nat=>(k:Int))),ac (.int (q.g:Nat)),ac (.int (q.x:Nat)),ac (kB (q.to.map λy:Nat=>(y:Int))),ac (.ref lh),ac (.ref lw),ac (.int (iX l:Nat)),ae,ae]) ?_ (λN' hN=>?_);rotate_left;(·exists 104;(try dsimp only);rw[WG];cases G:q.to with|none=>rw[G] at p;refine e9 (hN _ _ ⟨24⟩);rw[p,G];rfl|some y=>rw[G] at p;refine fY ⟨899,hN _ _ ⟨24⟩⟩;rw[p,G];rfl);rintro W H5 ⟨rfl,rfl⟩;refine aY λNx D=>?_;obtain⟨us,hL,hus⟩:=id hB;exists 1888,b,lo,d,lh,ns,rs,os,ts,oF cl h q.g,h,bF,q.to,2,hB.keep (λo z=>C _ _ z) (λb x=>C.bP),C.seq hO,C _ _ hd,(s3.seq A),olt,oe,Z6,o12,led,λlg H6 s6 aoA I=>?_;rw[aku (bF:=bF) (os:=os) (rs:=rs) lq hm hg pt oe,<- eU] at I;have glt:=(JC (rs:=rs) (s:=s) (l:=l) (h:=h) (bF:=bF) (os:=os));have WH:IS rs s l h bF os=((oF cl h q.g).filter (WE q.x q.to)).map (ck.hand h)++(ES rs s l h bF os).map λr=>ck.send h r (lQ s.ws r (iX l)):=(by unfold IS;rw[adN lq hm hg]);have s06:=C.trans s6;have aoB:=j.mono λb x=>s6.bP (a:=b) (xs:=x);have hw6:=s6 _ _ hw3;have eqS:wL v<=20:=(by rw[j.len,af,af];exact aJ (aR _ _) akx);have LZ:=s02.free X;have nlg:lg≠lw:=(aC hw3 aoA).symm;generalize ES rs s l h bF os=R at I glt WH;exists lg,2,⟨_,bI.of I⟩,qu (K:=K) (a:=lg) (xs:=aT R) (λi W L=>∃(q7:List am) (Yw v15:Option V),aG H L/\L lw=ac (.lst (q7.map cr))/\L lg=ac (.lst (aT R))/\cP K L q7 ((((oF cl h q.g).filter (WE q.x q.to)).map (ck.hand h)++(R.take i).map λr=>ck.send h r (lQ s.ws r (iX l))).map ck.vs)/\W=[ac (.ref b),ac (.ref ls),ac (.ref lo),ac (.ref d),ac (.ref pl),ac (.ref ql),ac (.int (h:Nat)),ac (kB (bF.map λk:Nat=>(k:Int))),ac (.int (q.g:Nat)),ac (.int (q.x:Nat)),ac (kB (q.to.map λy:Nat=>(y:Int))),ac (.ref lh),ac (.ref lw),ac (.int (iX l:Nat)),Yw,v15]) ⟨v,33,s06,hw6,I,by rw[List.take_zero,tH,b5];exact aoB,2⟩ (λi W L _ ⟨_,_,_,_,_,z,_⟩=>bI.of z) ?_ ?_;(·rintro i y W L Nz EU m ⟨q7,Yw,v15,s7,O,aky,QE,rfl⟩;have hil:i<wL R:=(by have:=(aj.mp m).1;rw[af] at this;exact this);rw[ak,aa hil] at m;cases m;have G:R.take (i+1)=R.take i++[R[i]]:=(by rw[gv,aa hil];rfl);have hrm:=glt.1 R[i] (aP hil);have el:wL q7<=20+i:=(by rw[QE.len,af,av,af,af,b6];have:=aR (WE q.x q.to) (oF cl h q.g);lia);rw[G] at EU;generalize R[i]=r at hrm EU;obtain⟨f,hbb,hne,hb4⟩:=wir r hrm;obtain⟨l0,Me⟩:∃l0,dB[r]?=ac l0:=⟨_,aa (by rw[hX.len];exact (aj.mp hbb).1)⟩;have hsl:=s7 _ _ hX.at_;have Sm:=s7 _ _ (hX.it r l0 f Me hbb);have Qq:yb (dB.map cr) (r:Int)=ac (.ref l0):=bO (by rw[ak,Me];rfl);have ewn:lQ s.ws r (iX l)=(stand f).getD (iX l%(stand f).length) 0:=(by unfold lQ;rw[hws,ak,hbb];rfl);have VA:0<(stand f).length:=List.length_pos_iff.mpr hne;have hs4:=Nj f;refine aY λNx D=>?_;exists 8,ls,39,bI.of hsl,Qq,l0,1,.inl (bI.of Sm),(((f.map cw).length:Nat):Int),26,by rw[af];lia,λla hla=>?_;rw[af];refine eX (n:=((f.length:Int)).toNat) (λi B _=>B=aT ((aB i).filter λk=>f.getD k al)) hla uw k7 rfl ?_ ?_;(·rintro i B H8 m s8 u rfl z H9 ⟨rfl,rfl⟩;rw[dQ];have hib:i<wL f:=∅;have Yu:yb (f.map cw) (i:Int)=ac (cw (f.getD i al)):=bO (by rw[ak,ao,aa hib];rfl);exists 8,ls,39,bI.of (s8 _ _ hsl),Qq,1,l0,39,bI.of (s8 _ _ Sm),Yu,14;(try dsimp only);refine iW (λY=>?_) (λY=>?_);exists 14;refine dF hla m s8 u ?_ ?_;rw[af];refine b9 (aJ (aR _ _) ?_);rw[bJ];lia;rw[lP,eL Y,gy];refine gU m s8 u ?_;rw[lP,e8 Y,b5]);rintro B H8 s8 J rfl;rw[cN] at J;have J:H8 la=ac (.lst (aT (stand f))):=J;exists 1,Xe,λl9 ue=>?_;have s9:=aG.new (o:=.lst [cn (-1)]) ue;exists la,l9,9,s9 _ _ J,au,4,λU abi=>D _ _ ?_;refine b9 ?_;rw[af];lia;have Fc:=aG.new (o:=.lst (aT (stand f)++[cn (-1)])) abi;have Z:=au (H:=upd H8 l9 (.lst [cn (-1)])) (a:=U) (o:=.lst (aT (stand f)++[cn (-1)]));have Qt:=(s8.trans s9).trans Fc;generalize upd (upd H8 l9 (.lst [cn (-1)])) U (.lst (aT (stand f)++[cn (-1)]))=Nb at Fc Z Qt;have S:(((aT (stand f)++[cn (-1)]).length:Nat):Int)-1=((stand f).length:Int):=(by rw[av,af];show (((stand f).length+1:Nat):Int)-1=_;lia);have emax:(if ((stand f).length:Int) > 1 then ((stand f).length:Int) else 1)=((stand f).length:Int):=(by split <;> lia);have hm:iX l%(stand f).length<(stand f).length:=Nat.mod_lt _ VA;have hat:yb (aT (stand f)++[cn (-1)]) ((iX l%(stand f).length:Nat):Int)=ac (cn (((stand f).getD (iX l%(stand f).length) 0:Nat):Int)):=bO (by rw[bu (by rw[af];exact hm),ak,ao,aa hm];rfl);exists 1,.inl ⟨23,bI.of (Qt _ _ O)⟩,18831,.inl (bI.of Z),9314;(try dsimp only);rw[S,emax];exists 964;(try dsimp only);rw[<- Int.natCast_emod];exists U,39,bI.of Z,hat,aaT,λz hz=>?_;have M:=aG.new (o:=.tup (ck.send h r ((stand f).getD (iX l%(stand f).length) 0)).vs) hz;have g11:=au (H:=Nb) (a:=z) (o:=.tup (ck.send h r ((stand f).getD (iX l%(stand f).length) 0)).vs);have akz:=M _ _ (Qt _ _ O);exists lw,9,akz,(by rw[af];exact b9 ∅),EU _ _ ?_;have akA:=(QE.mono λb x=>(Qt.trans M).bP (a:=b) (xs:=x)).snoc (cD.of g11);exists q7++[z],33,(λc o e=>br c o (((s7.trans Qt).trans M) _ _ e) (aC e LZ)),by rw[au,aK];rfl,br _ _ (M _ _ (Qt _ _ aky)) nlg,42;refine (cP.mono ?_ λb x=>cD.past akz c7 br);simp only[aK,bK,tH] at akA ⊢;rw[ewn,<- jj];exact akA);rintro W L ⟨q7,Yw,v15,s7,O,aky,QE,rfl⟩;rw[af,cQ,<- WH] at QE;exact D _ _ ⟨1,k lw q7 L s7 LZ O QE⟩
end
section
variable{K:ai}{CT:am}{h h':Hp}
structure LH(h:Hp)(lh:am)(lU:List am)(hd:List (List Nat)):Prop where
 at_:h lh=ac (.lst (lU.map cr))
 len:wL lU=hd.length
 nd:lU.Nodup
 nl:lh∉lU
 it:∀(i:Nat)l w,lU[i]?=ac l->hd[i]?=ac w->h l=ac (.lst (aT w))
theorem LH.keep{e:am}{c:List am}{f:List (List Nat)}(d:LH h e c f)(s:∀b o,h b=ac o->b=e∨b∈c->h' b=ac o):LH h' e c f:=⟨s _ _ d.at_ (.inl rfl),d.len,d.nd,d.nl,λi l w a b=>s _ _ (d.it i l w a b) (.inr (ay a))⟩
theorem LH.put{k:am}{f:List am}{hd:List (List Nat)}(d:LH h k f hd){c:Nat}{l:am}{w:List Nat}(hl:f[c]?=ac l)(g:∀b o,h b=ac o->b≠l->h' b=ac o)(n:h' l=ac (.lst (aT w))):LH h' k f (hd.set c w):=by have j:=(aj.mp hl).1;exists g _ _ d.at_ λz=>d.nl (z▸ay hl),by rw[aQ];exact d.len,d.nd,d.nl,λi m p e a=>?_;rw[bE] at a;by_cases z:c=i;subst z;rw[eL rfl,eL (by rw[<- d.len];exact j)] at a;cases a;rw[hl] at e;cases e;exact n;rw[e8 z] at a;refine g _ _ (d.it i m p e a) λy=>z ?_;subst y;exact ((p8 j d.nd).mp (hl.trans e.symm))
structure WA where
 wd:am
 w0:am
 w1:am
 w2:am
 lt:am
 ds:List am
 hs:List am
def WA.P(a:WA)(z:am):Prop:=z=a.wd∨z=a.w0∨z=a.w1∨z=a.w2∨z=a.lt∨z∈a.ds∨z∈a.hs
structure WX(K:ai)(h:Hp)(a:WA)(cnt:List Nat)(tt:Nat->List T3)(had:List (List Nat))(Ls:List L4):Prop where
 w:h a.wd=ac (.lst [.ref a.w0,.ref a.w1,.ref a.w2])
 c:h a.w0=ac (.lst (aT cnt))
 d:h a.w1=ac (.lst (a.ds.map cr))
 d3:wL a.ds=3
 dn:a.ds.Nodup
 dt:∀(g:Nat)d,a.ds[g]?=ac d->h d=ac (.dT ((tt g).map eY))
 hd:LH h a.w2 a.hs had
 le:∃qs:List am,h a.lt=ac (.lst (qs.map cr))/\cP K h qs (Ls.map L4.vs)
 ap:[a.wd,a.w0,a.w1,a.w2,a.lt].Nodup
 ad:∀z∈a.ds,z∉[a.wd,a.w0,a.w1,a.w2,a.lt]
 ah:∀z∈a.hs,z∉[a.wd,a.w0,a.w1,a.w2,a.lt]/\z∉a.ds
variable{a:WA}{cnt cnt':List Nat}{tt:Nat->List T3}{had:List (List Nat)}{Ls:List L4}
theorem WX.keep(x:WX K h a cnt tt had Ls)(f:∀b o,h b=ac o->a.P b->h' b=ac o)(i:∀c y,cD K h c y->cD K h' c y):WX K h' a cnt tt had Ls:=by obtain⟨l,k,j⟩:=x.le;exists f _ _ x.w (.inl rfl),f _ _ x.c (.inr (.inl rfl)),f _ _ x.d (.inr (.inr (.inl rfl))),x.d3,x.dn,λg d e=>f _ _ (x.dt g d e) (.inr (.inr (.inr (.inr (.inr (.inl (ay e))))))),x.hd.keep λb o e z=>f b o e (z.elim (λz=>.inr (.inr (.inr (.inl z)))) λz=>.inr (.inr (.inr (.inr (.inr (.inr z)))))),⟨l,f _ _ k (.inr (.inr (.inr (.inr (.inl rfl))))),j.mono i⟩,x.ap,x.ad,x.ah
theorem WX.mono(x:WX K h a cnt tt had Ls)(s:aG h h'):WX K h' a cnt tt had Ls:=x.keep (λb o e _=>s b o e) λb y=>s.bP
theorem WX.aoF(x:WX K h a cnt tt had Ls)(f:∀b o,h b=ac o->b≠a.w0->h' b=ac o)(j:h' a.w0=ac (.lst (aT cnt'))):WX K h' a cnt' tt had Ls:=by obtain⟨i,k,n⟩:=x.le;have ap:=x.ap;simp only[gG,bR,yY,not_or] at ap;have p:∀z∈a.ds,z≠a.w0:=λz m e=>x.ad z m (by rw[e];simp);have l:∀z∈a.hs,z≠a.w0:=λz m e=>(x.ah z m).1 (by rw[e];simp);exists f _ _ x.w ap.1.1,j,f _ _ x.d (λe=>ap.2.1.1 e.symm),x.d3,x.dn,λg d e=>f _ _ (x.dt g d e) (p d (ay e)),x.hd.keep λb o e z=>f b o e ?_,⟨i,f _ _ k (λe=>ap.2.1.2.2.1 e.symm),n.mono λc y=>cD.past x.c c7 f⟩,x.ap,x.ad,x.ah;rcases z with rfl|z;exact λe=>ap.2.1.2.1 e.symm;exact l b z
theorem WX.putD(x:WX K h a cnt tt had Ls){g:Nat}{d:am}{ts:List T3}(hd:a.ds[g]?=ac d)(f:∀b o,h b=ac o->b≠d->h' b=ac o)(l:h' d=ac (.dT (ts.map eY))):WX K h' a cnt (fc tt g ts) had Ls:=by obtain⟨k,n,s⟩:=x.le;have j:=x.ad d (ay hd);simp only[bR,yY,or_false,not_or] at j;obtain⟨t,q,p,m,u⟩:=j;exists f _ _ x.w (bT t),f _ _ x.c (bT q),f _ _ x.d (bT p),x.d3,x.dn,λi r e=>?_,x.hd.keep λb o e z=>f b o e ?_,⟨k,f _ _ n (bT u),s.mono λc y=>cD.past (x.dt g d hd) Ib f⟩,x.ap,x.ad,x.ah;by_cases z:i=g;subst z;rw[hd] at e;cases e;rw[cJ];exact l;rw[dG z];refine f _ _ (x.dt i r e) λw=>z ?_;subst w;exact ((p8 (aj.mp e).1 x.dn).mp (e.trans hd.symm));rcases z with rfl|z;exact bT m;exact λy=>(x.ah b z).2 (y▸ay hd)
theorem WX.akB(x:WX K h a cnt tt had Ls){j:List (List Nat)}(f:∀b o,h b=ac o->a.P b->b∉a.hs->h' b=ac o)(k:∀c y,cD K h c y->cD K h' c y)(n:LH h' a.w2 a.hs j):WX K h' a cnt tt j Ls:=by obtain⟨p,q,l⟩:=x.le;have i:∀z∈[a.wd,a.w0,a.w1,a.w2,a.lt],z∉a.hs:=λz m e=>(x.ah z e).1 m;exists f _ _ x.w (.inl rfl) (i _ (-_)),f _ _ x.c (.inr (.inl rfl)) (i _ (-_)),f _ _ x.d (.inr (.inr (.inl rfl))) (i _ (-_)),x.d3,x.dn,λg d e=>f _ _ (x.dt g d e) (.inr (.inr (.inr (.inr (.inr (.inl (ay e))))))) λz=>(x.ah d z).2 (ay e),n,⟨p,f _ _ q (.inr (.inr (.inr (.inr (.inl rfl))))) (i _ (-_)),l.mono k⟩,x.ap,x.ad,x.ah
theorem WX.putL(x:WX K h a cnt tt had Ls){qs:List am}{q:am}{L:L4}(j:h a.lt=ac (.lst (qs.map cr)))(n:cP K h qs (Ls.map L4.vs))(k:cD K h q L.vs)(f:∀b o,h b=ac o->b≠a.lt->h' b=ac o)(i:h' a.lt=ac (.lst (qs.map cr++[.ref q]))):WX K h' a cnt tt had (Ls++[L]):=by have ap:=x.ap;simp only[gG,bR,yY,not_or] at ap;have p:∀z∈a.ds,z≠a.lt:=λz m e=>x.ad z m (by rw[e];simp);have l:∀z∈a.hs,z≠a.lt:=λz m e=>(x.ah z m).1 (by rw[e];simp);exists f _ _ x.w ap.1.2.2.2.1,f _ _ x.c ap.2.1.2.2.1,f _ _ x.d ap.2.2.1.2.1,x.d3,x.dn,λg d e=>f _ _ (x.dt g d e) (p d (ay e)),x.hd.keep λb o e z=>f b o e ?_,⟨qs++[q],by rw[i,aK];rfl,4⟩,x.ap,x.ad,x.ah;rcases z with rfl|z;exact ap.2.2.2.1.1;exact l b z;rw[aK];exact (n.snoc k).mono λc y=>cD.past j c7 f
def DP(tp ln lr b0 ls:am)(dB:List am)(pl:am)(z:am):Prop:=z=tp∨z=ln∨z=lr∨z=b0∨z=ls∨z∈dB∨z=pl
variable{tp ln lr b0 ls pl:am}{dB:List am}{ns:List Int}{rs:List R5}{bs:List (List Bool)}{cl:List (Nat×Nat)}
theorem DX.keep(d:DX K CT h tp ln lr b0 ls dB pl ns rs bs cl)(a:∀b o,h b=ac o->DP tp ln lr b0 ls dB pl b->h' b=ac o)(f:∀c y,cD K h c y->cD K h' c y):DX K CT h' tp ln lr b0 ls dB pl ns rs bs cl:=by obtain⟨j,m,k⟩:=d.lC;exists d.lA.keep (λc o e q=>a c o e ?_) f,d.WD.keep (λo e=>a _ o e (.inr (.inr (.inr (.inl rfl))))) f,⟨a _ _ d.sts.at_ (.inr (.inr (.inr (.inr (.inl rfl))))),d.sts.len,d.sts.nd,λi l b g n=>a _ _ (d.sts.it i l b g n) (.inr (.inr (.inr (.inr (.inr (.inl (ay g)))))))⟩,⟨j,a _ _ m (.inr (.inr (.inr (.inr (.inr (.inr rfl)))))),k.mono f⟩,d.nl,d.np;rcases q with rfl|rfl|rfl;exact .inl rfl;exact .inr (.inl rfl);exact .inr (.inr (.inl rfl))
theorem DX.kt(d:DX K CT h tp ln lr b0 ls dB pl ns rs bs cl)(k:Kp h h' dB pl)(c:am)(y:List V)(e:cD K h c y):cD K h' c y:=by have j:∀{o:HO},h c=ac o->¬uz o->c∉dB/\c≠pl:=λ{o}e n=>(by constructor;intro z;obtain⟨i,g⟩:=bM z;obtain⟨b,m⟩:∃b,bs[i]?=ac b:=⟨_,aa (by rw[<- d.sts.len];exact (aj.mp g).1)⟩;rw[d.sts.it i c b g m] at e;exact n (aO e▸c7);intro z;obtain⟨p,l,_⟩:=d.lC;rw[z,l] at e;exact n (aO e▸c7));rcases e with (e|⟨o,e⟩)|e;obtain⟨f,a⟩:=j e λz=>(z y).1 rfl;exact .inl (.inl (k _ _ e f a));obtain⟨f,a⟩:=j e λz=>(z y).2 o rfl;exact .inl (.inr ⟨o,k _ _ e f a⟩);exact .inr e
structure BX(K:ai)(CT:am)(h:Hp)(tp ln lr b0 ls:am)(dB:List am)(pl:am)(a:WA)(ns:List Int)(rs:List R5)(bs:List (List Bool))(cl:List (Nat×Nat))(cnt:List Nat)(tt:Nat->List T3)(had:List (List Nat))(Ls:List L4):Prop where
 dx:DX K CT h tp ln lr b0 ls dB pl ns rs bs cl
 wx:WX K h a cnt tt had Ls
 dj:∀z,a.P z->¬DP tp ln lr b0 ls dB pl z
theorem BX.mono(x:BX K CT h tp ln lr b0 ls dB pl a ns rs bs cl cnt tt had Ls)(s:aG h h'):BX K CT h' tp ln lr b0 ls dB pl a ns rs bs cl cnt tt had Ls:=⟨x.dx.mono s,x.wx.mono s,x.dj⟩
def Kw(h h':Hp)(dB:List am)(pl:am)(a:WA):Prop:=∀b o,h b=ac o->b∉dB->b≠pl->¬a.P b->h' b=ac o
theorem Kw.of(s:aG h h'):Kw h h' dB pl a:=λb o e _ _ _=>s b o e
theorem Kw.trans{d:Hp}(x:Kw h h' dB pl a)(y:Kw h' d dB pl a):Kw h d dB pl a:=λb o e f g c=>y b o (x b o e f g c) f g c
theorem Kp.kw(x:Kp h h' dB pl):Kw h h' dB pl a:=λb o e c d _=>x b o e c d
theorem BX.kp(x:BX K CT h tp ln lr b0 ls dB pl a ns rs bs cl cnt tt had Ls){c:List (List Bool)}{f:List (Nat×Nat)}(k:Kp h h' dB pl)(d:DX K CT h' tp ln lr b0 ls dB pl ns rs c f):BX K CT h' tp ln lr b0 ls dB pl a ns rs c f cnt tt had Ls:=by exists d,x.wx.keep (λb o e z=>k b o e (λy=>x.dj b z ?_) λy=>x.dj b z ?_) (x.dx.kt k),x.dj;exact .inr (.inr (.inr (.inr (.inr (.inl y)))));exact .inr (.inr (.inr (.inr (.inr (.inr y)))))
theorem BX.one(x:BX K CT h tp ln lr b0 ls dB pl a ns rs bs cl cnt tt had Ls){z:am}{u:HO}(hz:h z=ac u)(g:uz u)(f:a.P z)(d:∀b o,h b=ac o->b≠z->h' b=ac o):DX K CT h' tp ln lr b0 ls dB pl ns rs bs cl/\Kw h h' dB pl a:=⟨x.dx.keep (λb o e q=>d b o e λw=>x.dj z f (w▸q)) λc y=>cD.past hz g d,λb o e _ _ n=>d b o e λw=>n (w▸f)⟩
theorem LH.occ{e:am}{b:List am}{c:List (List Nat)}(d:LH h e b c){z:am}(m:z∈b):∃u,h z=ac u:=by obtain⟨i,a⟩:=bM m;exists _,d.it i z _ a (aa (by rw[<- d.len];exact (aj.mp a).1))
theorem BX.occ(x:BX K CT h tp ln lr b0 ls dB pl a ns rs bs cl cnt tt had Ls){z:am}(m:a.P z∨DP tp ln lr b0 ls dB pl z):∃u,h z=ac u:=by rcases m with (rfl|rfl|rfl|rfl|rfl|m|m)|(rfl|rfl|rfl|rfl|rfl|m|rfl);exists _,x.wx.w;exists _,x.wx.c;exists _,x.wx.d;exists _,x.wx.hd.at_;obtain⟨_,e,_⟩:=x.wx.le;exists _,e;obtain⟨i,b⟩:=bM m;exists _,x.wx.dt i z b;exact x.wx.hd.occ m;obtain⟨_,e⟩:=x.dx.lA.ob;exists _,e;exists _,x.dx.lA.nl;obtain⟨_,e,_⟩:=x.dx.lA.rl;exists _,e;obtain⟨_,e,_⟩:=x.dx.WD;exists _,e;exists _,x.dx.sts.at_;obtain⟨i,b⟩:=bM m;exists _,x.dx.sts.it i z _ b (aa (by rw[<- x.dx.sts.len];exact (aj.mp b).1));obtain⟨_,e,_⟩:=x.dx.lC;exists _,e
theorem BX.free(x:BX K CT h tp ln lr b0 ls dB pl a ns rs bs cl cnt tt had Ls){z b:am}(m:a.P z∨DP tp ln lr b0 ls dB pl z)(e:h b=ae):z≠b:=λy=>by
 obtain⟨u,c⟩:=x.occ m;rw[y,e] at c;cases c
theorem BX.keep(x:BX K CT h tp ln lr b0 ls dB pl a ns rs bs cl cnt tt had Ls)(f:∀b o,h b=ac o->a.P b∨DP tp ln lr b0 ls dB pl b->h' b=ac o)(d:∀c y,cD K h c y->cD K h' c y):BX K CT h' tp ln lr b0 ls dB pl a ns rs bs cl cnt tt had Ls:=⟨x.dx.keep (λb o e q=>f b o e (.inr q)) d,x.wx.keep (λb o e q=>f b o e (.inl q)) d,x.dj⟩
end
section
variable{P:ci}{w:World}{K:ai}{mg:Str->Option ar}{base:Heap}
noncomputable def dD(d:ck):PyData:=.tuple (.str (dW d)::(dI d).map .int)
theorem ug{H:Hp}:∀{qs:List am}{ds:List ck},cP K H qs (ds.map ck.vs)->dw K H (ds.map dD) (qs.map cr)
 |[],[],_=>rfl
 |[],_::_,h=>by cases h.len
 |_::_,[],h=>by cases h.len
 |q::qs,d::ds,h=>⟨.ref q,qs.map cr,2,⟨q,cv (dW d)::(dI d).map cn,2,by rw[<- Qn];exact h.at' 0 q _ rfl rfl,⟨9,kZ _⟩⟩,ug ⟨Nat.succ.inj h.len,λi p x a b=>h.at' (i+1) p x a b⟩⟩
theorem adP(d:ck):PyData.strOk (dW d)=ag:=by cases d;exact (by decide +kernel:PyData.strOk "post" = ag);exact (by decide +kernel:PyData.strOk "come" = ag);exact (by decide +kernel:PyData.strOk "hand" = ag);exact (by decide +kernel:PyData.strOk "send" = ag);exact (by decide +kernel:PyData.strOk "twice" = ag);exact (by decide +kernel:PyData.strOk "lost" = ag)
theorem oG:∀ds:List ck,bo (ds.map dD)=ag
 |[]=>rfl
 |d::ds=>by
  show ((PyData.strOk (dW d)&&bo ((dI d).map .int))&&bo (ds.map dD))=ag;rw[oG ds,ic,adP];rfl
theorem Au:∀ds:List ck,bj (ds.map dD)<=1
 |[]=>!_
 |d::ds=>by
  show max (max 0 (bj ((dI d).map .int))+1) (bj (ds.map dD))<=1
  have:=Au ds
  have:=lX (dI d)
  lia
noncomputable def hD(w:List Nat):PyData:=.list ((w.map λk:Nat=>(k:Int)).map .int)
theorem L0{H:Hp}:∀{c:List am}{hd:List (List Nat)},wL c=hd.length->(∀(i:Nat)l w,c[i]?=ac l->hd[i]?=ac w->H l=ac (.lst (aT w)))->dw K H (hd.map hD) (c.map cr)
 |[],[],_,_=>rfl
 |[],_::_,h,_=>by cases h
 |_::_,[],h,_=>by cases h
 |l::c,w::hd,h,d=>⟨.ref l,c.map cr,2,⟨l,aT w,2,bI.of (d 0 l w rfl rfl),by rw[eU];exact kZ _⟩,L0 (Nat.succ.inj h) λi e f a b=>d (i+1) e f a b⟩
theorem Gu:∀hd:List (List Nat),bo (hd.map hD)=ag
 |[]=>rfl
 |w::hd=>by
  show (bo ((w.map λk:Nat=>(k:Int)).map .int)&&bo (hd.map hD))=ag;rw[Gu hd,ic];rfl
theorem OA:∀hd:List (List Nat),bj (hd.map hD)<=1
 |[]=>!_
 |w::hd=>by
  show max (bj ((w.map λk:Nat=>(k:Int)).map .int)+1) (bj (hd.map hD))<=1
  have:=OA hd
  have:=lX (w.map λk:Nat=>(k:Int))
  lia
noncomputable def yq(t:T3):PyData:=.tuple (([t.1,t.2.1,t.2.2]:List Int).map .int)
theorem L1{H:Hp}:∀{qs:List am}{us:List T3},gP K H qs us->dw K H (us.map yq) (qs.map cr)
 |[],[],_=>rfl
 |[],_::_,h=>by cases h.1
 |_::_,[],h=>by cases h.1
 |q::qs,u::us,h=>⟨.ref q,qs.map cr,2,Rep.A2 (ns:=[u.1,u.2.1,u.2.2]) (h.2 0 q u rfl rfl),L1 ⟨Nat.succ.inj h.1,λi p x a b=>h.2 (i+1) p x a b⟩⟩
theorem Gv:∀us:List T3,bo (us.map yq)=ag
 |[]=>rfl
 |u::us=>by
  show (bo (([u.1,u.2.1,u.2.2]:List Int).map .int)&&bo (us.map yq))=ag;rw[Gv us,ic];rfl
theorem OB:∀us:List T3,bj (us.map yq)<=1
 |[]=>!_
 |u::us=>by
  show max (bj (([u.1,u.2.1,u.2.2]:List Int).map .int)+1) (bj (us.map yq))<=1
  have:=OB us
  have:=lX [u.1,u.2.1,u.2.2]
  lia
noncomputable def zV(ds:List ck):PyData:=.list (ds.map dD)
theorem Qu{H:Hp}:∀{c:List am}{e:List (List ck)},wL c=e.length->(∀(i:Nat)l ds,c[i]?=ac l->e[i]?=ac ds->∃qs:List am,bI K H l (qs.map cr)/\cP K H qs (ds.map ck.vs))->dw K H (e.map zV) (c.map cr)
 |[],[],_,_=>rfl
 |[],_::_,h,_=>by cases h
 |_::_,[],h,_=>by cases h
 |l::c,d::e,h,f=>by
  obtain⟨qs,k,g⟩:=f 0 l d rfl rfl;exists .ref l,c.map cr,2,⟨l,qs.map cr,2,k,ug g⟩,Qu (Nat.succ.inj h) λi j m a b=>f (i+1) j m a b
theorem JD:∀a:List (List ck),bo (a.map zV)=ag
 |[]=>rfl
 |d::a=>by
  show (bo (d.map dD)&&bo (a.map zV))=ag;rw[JD a,oG];rfl
theorem S9:∀a:List (List ck),bj (a.map zV)<=2
 |[]=>!_
 |d::a=>by
  show max (bj (d.map dD)+1) (bj (a.map zV))<=2
  have:=S9 a
  have:=Au d
  lia
noncomputable def hC:ck->List Nat
 |.hand _ c=>[c]
 |_=>[]
noncomputable def sC(rs:List R5)(i:Nat):ck->List Cp
 |.send h r w=>[⟨i,r,w,iD rs r h⟩]
 |_=>[]
def isW(n:Nat)(rs:List R5):ck->Prop
 |.hand _ c=>c<n
 |.send h r _=>r<wL rs/\isAt rs (h:Int) r=ag
 |_=>False
def Kd(h h':Hp)(fl:am)(hs:List am):Prop:=∀b o,h b=ac o->b≠fl->b∉hs->h' b=ac o
theorem adQ{ns:List Int}{rs:List R5}(o:cR ns rs){r x:Nat}(hl:r<wL rs)(d:isAt rs (x:Int) r=ag):rs[r].a+rs[r].b-(x:Int)=((iD rs r x:Nat):Int):=by have o:=o.ok _ (aP hl);have f:=o.a0;have e:=o.b0;have c:isAt rs (x:Int) r=(decide ((x:Int)=rs[r].a) || decide ((x:Int)=rs[r].b)):=(by unfold isAt;rw[aa hl]);rw[c,ur,kF,kF] at d;unfold iD;rw[aa hl];show _=((gO rs[r] x:Nat):Int);unfold gO;split <;> lia
theorem r4{a b u:Nat}(h:a<=64)(c:u+64<cLine):u+min a b<cLine:=dh (fm (aJ (oH _ _) h) _) c
theorem abj{had:List (List Nat)}{i:Nat}{xs a:List Nat}:xZ had i (xs++a)=xZ (xZ had i xs) i a:=wM ..
theorem WI{i B:Nat}:∀{cs:List Nat}{had:List (List Nat)},(∀w∈had,wL w<=B)->∀w∈xZ had i cs,wL w<=B+wL cs
 |[],_,h,w,z=>h w z
 |c::cs,had,h,w,z=>by
  have:=WI (i:=i) (B:=B+1) (cs:=cs) (had:=had.set c (had.getD c []++[i])) (λv y=>by
   rcases dm y with y|y
   ·exact gu (h v y)
   ·rw[y,av]
    refine Nat.succ_le_succ ?_;rw[ao];cases e:had[c]? with
    |none=>exact aS _
    |some u=>exact h u (ay e)) w z
  rw[bC];lia
theorem Kd.trans{h h' f:Hp}{d:am}{c:List am}(a:Kd h h' d c)(b:Kd h' f d c):Kd h f d c:=λx o e g i=>b x o (a x o e g i) g i
theorem Kd.of{h h':Hp}{b:am}{a:List am}(s:aG h h'):Kd h h' b a:=λx o e _ _=>s x o e
theorem BX.done{m:am}{B h h':Hp}{a:WA}{cnt j:List Nat}{D d:Nat->List T3}{had i A:List (List Nat)}{w f:List L4}{k g s r ls pl u:am}{dB:List am}{ns:List Int}{rs:List R5}{bs l:List (List Bool)}{cl t:List (Nat×Nat)}(C:BX K m B k g s r ls dB pl a ns rs l t j d i f)(x:BX K m h k g s r ls dB pl a ns rs bs cl cnt D had w)(E:B u=ae)(kd:Kd h h' u a.hs)(v:∀c y,cD K h c y->cD K h' c y)(F:LH h' a.w2 a.hs A):BX K m h' k g s r ls dB pl a ns rs bs cl cnt D A w/\∀b o,h b=ac o->b≠u->¬a.P b->h' b=ac o :=⟨⟨x.dx.keep (λb o e q=>kd b o e (C.free (.inr q) E) λz=>x.dj b (.inr (.inr (.inr (.inr (.inr (.inr z)))))) q) v,x.wx.akB (λb o e p n=>kd b o e (C.free (.inl p) E) n) v F,x.dj⟩,λb o e H G=>kd b o e H λz=>G (.inr (.inr (.inr (.inr (.inr (.inr z))))))⟩
inductive Tc(K:ai)(c:NC)(vs:List V)(H:Hp)(Q:VK)(E:XK):Prop
 |mk(F:am->Prop)(p tp b w2 fl lw:am)(hs qf qw:List am)(ns:List Int)(rs:List R5)(had:List (List Nat))(i:Nat)(l:LS)(cs:List Cp)(wk:List ck)(s:NS):vs=[.ref p,.ref b,.ref w2,.int i,.ref fl,.ref lw]->cR ns rs->cE K c H F p tp (wL ns) s->J7 K (Off H F) b rs->LH (Off H F) w2 hs had->Off H F fl=ac (.lst (qf.map cr))->cP K (Off H F) qf (cs.map Cp.vs)->Off H F lw=ac (.lst (qw.map cr))->cP K (Off H F) qw (wk.map ck.vs)->(b≠fl/\b∉hs)->(lw≠fl/\lw∉hs)->fl∉hs->w2≠fl->s.ls[i]?=ac l->s.cps=cs++wk.flatMap (sC rs i)->(∀d∈wk,isW had.length rs d)->(∀w∈had,wL w<=40000)->wL wk<=100->wL s.cps<=40000->(∀F' H',cE K c H' F' p tp (wL ns) s->Kd (Off H F) (Off H' F') fl hs->(∀c y,cD K (Off H F) c y->cD K (Off H' F') c y)->LH (Off H' F') w2 hs (xZ had i (wk.flatMap hC))->Q (.bl ag) H')->Tc K c vs H Q E
theorem OC{t:Ad}(T:Txt K mg t):cH P w K mg base iJ 3 t.BA t.Fx ["_law_net","_law_ropes_here","_law_had","_law_number","_law_flies","_law_work_here"] (Tc K (nc t)):=by refine T.KL.F.jv G9 λH Q E hr h=>?_;·obtain⟨F,p,tp,b,w2,M,lw,hs,qf,qw,ns,rs,g,i,l,cs,C,s,rfl,o,N,hB,hd,hf,Yx,hlw,Nn,⟨nb1,nb2⟩,⟨nw1,nw2⟩,nf,n2f,hl,ecp,isw,hb,auc,c4,k⟩:=h;exists _,(aq (fS (eW (pv 5)) (gT 6 G9) (bz (cC (qT kU (xT (pv 6) aA) fH) (oE (mQ aV bq bh dZ (xL (pv 2) (xT (pv 6) aA)) (fR (pv 3)))) (aq (sS 7 G9 (bf zb (bf gm (xT (xL (pv 1) (xT (pv 6) aA)) aA) (xT (xL (pv 1) (xT (pv 6) aA)) aA)) (xT (pv 6) aA))) (oE (mQ aV bq bh dZ (pv 4) (fR (dY (nO (pv 3) (xT (pv 6) aA) (xT (pv 6) aA) (pv 7)))))))))) (oR (OJ (qE zd (i7 (pv 0) T.bG T.eN.m (ko T) (hr.mono (!_)) T.eN.B .nil kH) (pv 4)) (Tu (cG (Jl T) hr T.BH (fR (cM (pv 0) T.bG T.lJ (mE T) hr (fR (pv 3))))))))),4;left;have eqw:wL qw=C.length:=(by rw[Nn.len,af]);obtain⟨us,ve,akE⟩:=hB;have YJ:wL us=rs.length:=(by rw[akE.len,af]);refine aY λNx bW=>?_;exists 1,lw,2,⟨_,bI.of (aD _ _ hlw)⟩,qu (K:=K) (a:=lw) (xs:=qw.map cr) (λj σ A=>∃(D:List am)(v6 v7:Option V),cE K (nc t) A F p tp (wL ns) s/\Kd (Off H F) (Off A F) M hs/\(∀c y,cD K (Off H F) c y->cD K (Off A F) c y)/\LH (Off A F) w2 hs (xZ g i ((C.take j).flatMap hC))/\Off A F M=ac (.lst (D.map cr))/\cP K (Off A F) D ((cs++(C.take j).flatMap (sC rs i)).map Cp.vs)/\σ=[ac (.ref p),ac (.ref b),ac (.ref w2),ac (.int (i:Nat)),ac (.ref M),ac (.ref lw),v6,v7]) ⟨qf,33,N,Kd.of (aG.refl _),λ_ _ z=>z,hd,hf,by rw[List.take_zero,List.flatMap_nil,b5];exact Yx,2⟩ (λj σ A _ ⟨_,_,_,_,kd,_⟩=>bI.of (aD _ _ (kd _ _ hlw nw1 nw2))) ?_ ?_;(·rintro j y σ A Nz EU hj ⟨D,v6,v7,N7,L,Td,u,I,Z,rfl⟩;have hjl:j<wL qw:=(by have:=(aj.mp hj).1;rw[af] at this;exact this);rw[ak,aa hjl] at hj;cases hj;have hjw:j<wL C:=∅;have et:C.take (j+1)=C.take j++[C[j]]:=(by rw[gv,aa hjw];rfl);have f:=aD.bP (Td _ _ (Nn.at' j qw[j] (C[j]).vs (aa hjl) (by rw[ak,aa hjw];rfl)));have G:=isw _ (aP hjw);have lt1:((C.take j).flatMap hC).length<=100:=(by have a1:∀ds:List ck,(ds.flatMap hC).length<=wL ds:=λds=>(by induction ds with|nil=>exact az _|cons d ds ih=>rw[wO,av,bC];have:(hC d).length<=1:=(by cases d <;> simp[hC]);lia);have:=a1 (C.take j);rw[b6] at this;lia);have hc7:(cs++(C.take j).flatMap (sC rs i)).length<=40000:=(by have e:s.cps=(cs++(C.take j).flatMap (sC rs i))++(C.drop j).flatMap (sC rs i):=(by rw[jj,<- se,List.take_append_drop];exact ecp);have:=gw wL e;rw[av] at this;lia);rw[et,se,se,abj] at EU;generalize C[j]=d at f G EU;generalize (C.take j).flatMap hC=hh at u EU lt1;generalize (C.take j).flatMap (sC rs i)=ss at Z EU hc7;generalize qw[j]=qj at f;have eq7:wL D=(cs++ss).length:=(by rw[Z.len,af]);cases d with|hand x c=>have hc:c<wL g:=G;have hhl:(xZ g i hh).length=g.length:=SY;obtain⟨X,W⟩:∃X,hs[c]?=ac X:=⟨_,aa (by rw[u.len,hhl];exact hc)⟩;have Y:(xZ g i hh)[c]?=ac ((xZ g i hh).getD c []):=(by rw[ao,aa (by rw[hhl];exact hc)];rfl);have Vk:=u.it c X _ W Y;have hml:=WI (i:=i) (cs:=hh) hb _ (ay Y);exists 1,qj,_,(0),12,f,204;refine Aw (by decide +kernel) ?_;exists 8,fN f rfl (jN (bI.of (aD _ _ u.at_)) (bO (by rw[ak,W];rfl)) ?_);exists .inl ⟨23,bI.of (aD _ _ Vk)⟩,1,X,9,aD _ _ Vk,(by rw[af];exact jF ∅),EU _ _ ?_;rw[<- gy];generalize (xZ g i hh).getD c []=wc at Vk Y;have N8:=N7.past (o:=.lst (aT (wc++[i]))) Vk c7;have YQ:∀b v,Off A F b=ac v->b≠X->Off (upd A X (.lst (aT (wc++[i])))) F b=ac v:=(by rw[nA (c9 Vk).1];exact br);have g8:Off (upd A X (.lst (aT (wc++[i])))) F X=ac (.lst (aT (wc++[i]))):=gB (c9 Vk).1 au;generalize upd A X (.lst (aT (wc++[i])))=R at N8 YQ g8;have mlc:=ay W;have n7:∀c y,cD K (Off A F) c y->cD K (Off R F) c y:=λc y=>cD.past Vk c7 YQ;exists D,33,N8,L.trans λb v e _ n=>YQ b v e λz=>n (z▸mlc),λc y z=>n7 c y (Td c y z),4,YQ _ _ I λz=>nf (z▸mlc),42;show LH _ w2 hs ((xZ g i hh).set c ((xZ g i hh).getD c []++[i]));have ew:(xZ g i hh).getD c []=wc:=(by rw[ao,Y];rfl);rw[ew];exact u.put W YQ g8;show cP K _ D ((cs++(ss++[])).map Cp.vs);rw[b5];exact Z.mono n7|send x r v=>(obtain⟨hr,hat⟩:r<wL rs/\isAt rs (x:Int) r=ag:=G;have fs:=adQ o hr hat;have hL7:=aD _ _ (L _ _ ve nb1 nb2);have hur:=aD.bP (Td _ _ (akE.at' r (us[r]'∅) (rs[r]).vs (aa _) (by rw[ak,aa hr];rfl)));have akH:yb (us.map cr) (r:Int)=ac (.ref (us[r]'∅)):=bO (by rw[ak,aa];rfl);exists 1,qj,_,(0),12,f,204;refine qh (by decide +kernel) ?_;refine aY λNy hNy=>?_;exists 8,fN f rfl (jN (bI.of hL7) akH (fN hur rfl ?_));exists 8,fN f rfl (jN (bI.of hL7) akH (fN hur rfl ?_));exists 91,fN f rfl ⟨9,hNy _ _ ?_⟩;(try dsimp only);rw[fs];exists 1,.inl ⟨23,bI.of (aD _ _ I)⟩,8,fN f rfl ⟨1,fN f rfl ⟨1,aaT,λz hz=>?_⟩⟩;have u8:=aG.new (o:=.tup (Cp.vs ⟨i,r,v,iD rs r x⟩)) hz;have g8:=au (H:=A) (a:=z) (o:=.tup (Cp.vs ⟨i,r,v,iD rs r x⟩));show Jp (cr M) [cr z] (upd A z (.tup (Cp.vs ⟨i,r,v,iD rs r x⟩))) _;generalize upd A z (.tup (Cp.vs ⟨i,r,v,iD rs r x⟩))=R at u8 g8;have J:=bN (F:=F) u8 _ _ I;have N8:=N7.mono u8;have hz8:=N8.J6 (cD.of g8);have U:=bN (F:=F) u8;exists M,9,aD _ _ J,(by rw[af];exact jF ∅),EU _ _ ?_;have N9:=N8.past (o:=.lst (D.map cr++[.ref z])) J c7;have S:∀b v,Off R F b=ac v->b≠M->Off (upd R M (.lst (D.map cr++[.ref z]))) F b=ac v:=(by rw[nA (c9 J).1];exact br);have g9:Off (upd R M (.lst (D.map cr++[.ref z]))) F M=ac (.lst (D.map cr++[.ref z])):=gB (c9 J).1 au;generalize upd R M (.lst (D.map cr++[.ref z]))=H9 at N9 S g9;have kt9:∀c y,cD K (Off R F) c y->cD K (Off H9 F) c y:=λc y=>cD.past J c7 S;exists D++[z],33,N9,(L.trans (Kd.of U)).trans λb v e n _=>S b v e n,λc y z=>kt9 c y (U.bP (Td c y z)),4,by rw[g9,aK];rfl,42;refine u.keep λb v e z=>S b v (U b v e) λy=>?_;rcases z with z|z;exact n2f (z.symm.trans y);exact nf (y▸z);show cP K _ (D++[z]) ((cs++(ss++[(⟨i,r,v,iD rs r x⟩:Cp)])).map Cp.vs);rw[<- jj,aK];exact ((Z.mono λc y=>U.bP (a:=c) (xs:=y)).snoc hz8).mono kt9)|post x=>exact ff G id|Ri x r=>exact ff G id|twice x r=>exact ff G id|Dg x r=>exact ff G id);rintro σ A ⟨D,v6,v7,N7,L,Td,u,I,Z,rfl⟩;rw[af,eqw,cQ] at u;rw[af,eqw,cQ,<- ecp] at Z;refine bW _ _ ?_;obtain⟨loc,dxx,q,hp,O,hF,hT⟩:=id N7;have cy:=O.get .dO _ rfl;rw[hp] at cy;exists 1,p,31,cy,2,F,p,tp,ns.length,s,2,N7,λl8 q8 R s8 aui QA hq8=>?_;have r1:cP K R q8 ((s.cps.map Yv).map λx=>x.map cn):=(by rw[<- Qs];exact hq8);have r2:cP K R D ((s.cps.map Yv).map λx=>x.map cn):=(by rw[<- Qs];exact Z.mono λc y z=>s8.bP (aD.bP z));exists 1,.list ((s.cps.map Yv).map HM),.list ((s.cps.map Yv).map HM),⟨l8,1,bI.of QA,yV r1⟩,⟨M,1,bI.of (s8 _ _ (aD _ _ I)),yV r2⟩,r6 _,r6 _,r4 (by show bj _+1<=64;have:=Dd (s.cps.map Yv);lia) hr.units,4;rw[SeqAt.eqv_refl (.list ((s.cps.map Yv).map HM)) (r6 _)];exists 1,fY ?_;exists 1,p,31,s8 _ _ cy,21,F,p,tp,ns.length,i,s,l,2,N7.mono s8,hl,λl9 q9 H9 s9 ahp ue hq9=>?_;exists l9,q9,l.aF,2,bI.of ue,hq9,λNb Fc=>?_;have Qt:=(s8.trans s9).trans Fc;have z0:=bN (F:=F) Qt;exact k F Nb (N7.mono Qt) (L.trans (Kd.of z0)) (λc y z=>z0.bP (Td c y z)) (u.keep λb v e _=>z0 b v e)
end
section
variable{ns:List Int}{rs:List R5}{os:List Nat}{s:NS}{l:LS}{i h:Nat}{bF:Option Nat}
theorem ahr{a gs:List Nat}{d:Nat->Nat}:(a.map (ck.hand h)++gs.map λr=>ck.send h r (d r)).flatMap hC=a:=by rw[se];have e:(a.map (ck.hand h)).flatMap hC=a:=(by induction a with|nil=>rfl|cons c a b=>rw[bK,wO,b];rfl);have f:(gs.map λr=>ck.send h r (d r)).flatMap hC=[]:=(by induction gs with|nil=>rfl|cons c a b=>rw[bK,wO,b];rfl);rw[e,f,b5]
theorem ahs{a gs:List Nat}{b:Nat->Nat}:(a.map (ck.hand h)++gs.map λr=>ck.send h r (b r)).flatMap (sC rs i)=gs.map λr=>⟨i,r,b r,iD rs r h⟩:=by rw[se];have e:(a.map (ck.hand h)).flatMap (sC rs i)=[]:=(by induction a with|nil=>rfl|cons c a d=>rw[bK,wO,d];rfl);have f:(gs.map λr=>ck.send h r (b r)).flatMap (sC rs i)=gs.map λr=>⟨i,r,b r,iD rs r h⟩:=(by induction gs with|nil=>rfl|cons c a d=>rw[bK,wO,d];rfl);rw[e,f,List.nil_append]
structure adU(rs:List R5)(s s':NS)(i:Nat)(ds wk:List ck):Prop where
 had:s'.had=xZ s.had i (wk.flatMap hC)
 cps:s'.cps=s.cps++wk.flatMap (sC rs i)
 ls:∃l2,s'.ls[i]?=ac l2/\l2.aF=ds++wk
 isw:∀d∈wk,isW s.had.length rs d
 wl:wL wk<=100
theorem akI(e:s.ls[i]?=ac l)(g:wL s.had=s.aL.length)(t:wL s.aL<=20)(a:∀k∈os,k<wL rs)(m:wL os<=12):adU rs s (Qm rs s i h l bF os) i l.aF (IS rs s l h bF os):=by have o:=Ow (rs:=rs) (os:=os) (h:=h) (bF:=bF) e;have n:=(aj.mp e).1;rw[o];unfold IS;exists 44,⟨{l with done:=kg l.done h,aF:=l.aF++((jG s l h).map (ck.hand h)++(ES rs s l h bF os).map λr=>.send h r (lQ s.ws r (iX l)))},42⟩,λd j=>?_,4;rw[ahr];rw[ahs];show (s.ls.set i _)[i]?=_;rw[bE,eL rfl,eL n];rcases bU.mp j with z|z;obtain⟨c,p,rfl⟩:=bH.mp z;show c<wL s.had;rw[g];exact Gm.1 c p;obtain⟨r,q,rfl⟩:=bH.mp z;obtain⟨f,b,_⟩:=aa7 r q;exists a r f,b;rw[av,af,af];have f:=(Gm (s:=s) (l:=l) (h:=h)).2;have b:=(JC (rs:=rs) (s:=s) (l:=l) (h:=h) (bF:=bF) (os:=os)).2;lia
theorem afl{o:cR ns rs}{g:Nat}{ts:List T3}(ld:Ld o s)(f:g<3)(O:ie (p9 ns rs o s.ws g) (s.R g) os)(a:ts.Perm (s.ts g)):∀t∈ts,∃h c r:Nat,t=((h:Int),(c:Int),(r:Int))/\r∈os/\isAt rs (h:Int) r=ag:=λt d=>by
 obtain⟨b,c,r,e,q⟩:=(ld.ld g f os O).nt t (a.mem_iff.mp d);exists b,c,r,e,q.1,q.2.1
theorem afm{o:cR ns rs}{g:Nat}{bs:List (List Bool)}(O:ie (p9 ns rs o s.ws g) (s.R g) os)(ws:s.ws=bs.map stand)(h:Yr rs bs):∀r∈os,∃a,bs[r]?=ac a/\stand a≠[]/\wL a<=4:=λr i=>by
 obtain⟨e,w,c,j⟩:=C7 O i;obtain⟨b,d,f⟩:=h.at (aa e);rw[ws,ak,d] at c;have d4:=(o.ok _ (aP e)).d4;exists b,d,by rw[aO c];exact j,6
theorem WJ{xs a:List T3}(p:xs.Perm a)(h:eZ a):eZ xs:=(p.map _).nodup_iff.mpr h
noncomputable abbrev aoJ(f:Nat->V):List (Str×V):=[("town",f 0),("strands",f 1),("rows_by_group",f 2),("books",f 3),("homes",f 4),("groups",f 5),("handed",f 6),("letters",f 7),("copies",f 8)]
theorem _root_.TW.cE.qP{K:ai}{c:NC}{H:Hp}{F:am->Prop}{p b:am}{n:Nat}{s:NS}(N:cE K c H F p b n s):∃e f,H p=ac (.ins c.dO e (aoJ f)):=by obtain⟨a,g,q,h,O,j,k⟩:=N;have d:=O.get .dO _ rfl;rw[h] at d;exists _,λi=>[cr b,.ref (a .cZ),.ref (a .uB),.ref (a .ju),.ref (a .aL),.ref (a .groups),.ref (a .i8),.ref (a .cV),.ref (a .fQ)].getD i (.ref b),d
theorem mF{K:ai}{c:NC}{H a:Hp}{F:am->Prop}{p f b:am}{n:Nat}{s:NS}{u:HO}(N:cE K c H F p f n s)(d:H b=ae)(h:a b=ac u):Off a F b=ac u:=gB (λz=>by obtain⟨o,e⟩:=N.there z;rw[d] at e;cases e) h
theorem abk{K:ai}{H:Hp}{q:am}{x:List V}(h:cD K H q x):cP K H [q] [x]:=⟨2,λi a y b c=>by
 cases i with
 |zero=>cases b;cases c;exact h
 |succ i=>cases b⟩
theorem Vl{K:ai}{H:Hp}{qs e:List am}{xs b:List (List V)}(h:cP K H qs xs)(h':cP K H e b):cP K H (qs++e) (xs++b):=⟨by rw[av,av,h.len,h'.len],λi a y c d=>by
 by_cases z:i<wL qs
 ·rw[bu z] at c
  rw[bu (by rw[<- h.len];exact z)] at d;exact h.at' i a y c d
 ·rw[bZ ∅] at c
  rw[bZ (by rw[<- h.len];lia),<- h.len] at d;exact h'.at' _ a y c d⟩
end
section
variable{ns:List Int}{rs:List R5}{os:List Nat}{s s':NS}
noncomputable def Gz(ds:List ck):List Nat:=ds.filterMap λd=>match d with
 |.post h=>ac h
 |.Ri h _=>ac h
 |_=>ae
def Dn(s:NS):Prop:=∀l∈s.ls,∀h,h∈Gz l.aF↔h∈l.done
theorem De{a b:List ck}:Gz (a++b)=Gz a++Gz b:=List.filterMap_append ..
theorem abl{h:Nat}{a gs:List Nat}{d:Nat->Nat}:Gz (a.map (ck.hand h)++gs.map λr=>ck.send h r (d r))=[]:=by rw[De];have e:Gz (a.map (ck.hand h))=[]:=(by induction a with|nil=>rfl|cons c a b=>exact b);have f:Gz (gs.map λr=>ck.send h r (d r))=[]:=(by induction gs with|nil=>rfl|cons c a b=>exact b);rw[e,f];rfl
theorem Dn.kl(d:Dn s)(k:Kl s s'):Dn s':=λj a h=>by
 obtain⟨i,c⟩:=bM a;obtain⟨l,e,g⟩:=k.at_ c;obtain⟨f,b,_⟩:=ahj g;rw[f,b];exact d l (ay e) h
theorem Dn.set(d:Dn s){i:Nat}{a:LS}{cps:List Cp}{had:List (List Nat)}{ts:Nat->List T3}(c:∀h,h∈Gz a.aF↔h∈a.done):Dn {s with ls:=s.ls.set i a,cps:=cps,had:=had,ts:=ts}:=λe b=>by
 rcases dm b with z|z
 ·exact d e z
 ·rw[z]
  exact c
theorem Dn.fold{w x:Nat}:∀{cs:List Cp}{t:NS},Dn t->Dn (cs.foldl (kI w x) t)
 |[],_,d=>d
 |c::cs,t,d=>by
  rw[gH];refine Dn.fold (cs:=cs) ?_;unfold kI;split
  ·unfold c6
   cases q:t.ls[c.l]? with
   |none=>exact d
   |some l=>
    refine Dn.set (cps:=t.cps) (had:=t.had) (ts:=t.ts) d λh=>?_;show h∈Gz (l.aF++[_])↔_;rw[De]
    have:=d l (ay q) h
    rw[<- this];show h∈Gz l.aF++[]↔_;rw[b5]
  ·exact d
theorem Dn.lose(d:Dn s){w x:Nat}:Dn (jK s w x):=by have:=Dn.fold (w:=w) (x:=x) (cs:=s.cps) d;unfold jK ji;rw[cQ];exact this
theorem Dn.tog(d:Dn s){i x:Nat}{b:List Bool}{r:R5}:Dn (qO s i x b r):=by unfold qO;split;have a:Dn (jK {s with ws:=s.ws.set i ((stand b).filter λz=>decide (z≠x))} i x):=Dn.lose (s:={s with ws:=s.ws.set i ((stand b).filter λz=>decide (z≠x))}) d;unfold p6;split;exact a.kl (vL 3);exact a;exact d.kl Qp
theorem Dn.move(d:Dn s){x y:Nat}:Dn (p7 s x y):=by unfold p7;split;exact d;exact Dn.kl (s:={s with aL:=s.aL.set x y}) d Qo
theorem Dn.do_{i h:Nat}{l:LS}{bF:Option Nat}(d:∀a∈s.ls,a≠l->∀h,h∈Gz a.aF↔h∈a.done)(e:s.ls[i]?=ac l)(hl:∀x,x∈Gz l.aF↔x∈l.done∨x=h)(u:∀j a,s.ls[j]?=ac a->j≠i->∀h,h∈Gz a.aF↔h∈a.done):Dn (Qm rs s i h l bF os):=by rw[Ow e];intro a c y;obtain⟨j,b⟩:=bM c;have b:(s.ls.set i _)[j]?=ac a:=b;rw[bE] at b;by_cases z:i=j;subst z;rw[eL rfl,eL (aj.mp e).1] at b;cases b;show y∈Gz (l.aF++_)↔y∈kg l.done h;rw[De,abl,b5,hl y,Ys];rw[e8 z] at b;exact u j a b (bT z) y
theorem Dn.post(d:Dn s){x:Nat}{to:Option Nat}:Dn (oA rs s x to os):=by unfold oA;refine Dn.do_ (s:=lR s x to) (λb c n=>?_) mC (λy=>?_) λj b a n=>?_;rcases bU.mp c with z|z;exact d b z;exact ff (bV.mp z) n;show y∈[s.aL.getD x 0]↔y∈[]∨_;simp;have a:(s.ls++[_])[j]?=ac b:=a;have:=(aj.mp a).1;rw[av] at this;have:j<wL s.ls+1:=this;rw[bu ∅] at a;exact d b (ay a)
theorem Dn.pass(d:Dn s){a:Nat}{cp:Cp}{l:LS}{ts:List T3}(hl:s.ls[cp.l]?=ac l):Dn (gh rs s a cp l os ts):=by have dl:=d l (ay hl);have i:(bQ s a cp l os ts).ls=s.ls.set cp.l {l with aF:=l.aF++[dP l cp os]}:=(by unfold bQ;split <;> rfl);have g:∀j c,(bQ s a cp l os ts).ls[j]?=ac c->j≠cp.l->∀h,h∈Gz c.aF↔h∈c.done:=λj c k n=>(by rw[i,bE,e8 (bT n)] at k;exact d c (ay k));unfold gh;split;rename_i b;refine Dn.do_ (λc e n=>?_) (jJ hl) (λy=>?_) g;rw[i] at e;rcases dm e with z|z;exact d c z;exact ff z n;have f:dP l cp os=.Ri cp.h cp.r:=(by unfold comes at b;rw[dg,kF] at b;unfold dP;rw[eL b.1,e8 (by rw[Bool.not_eq_true'] at b;rw[b.2];decide)]);show y∈Gz (l.aF++[dP l cp os])↔_;rw[f,De,bU,dl y];show _∨y∈[cp.h]↔_;rw[bV];rename_i b;have f:Gz [dP l cp os]=[]:=(by unfold comes at b;unfold dP;split;rename_i o;split;rfl;rename_i m;exact ff (by rw[fy o,iw.mpr m];rfl) b;rfl);refine Dn.set (had:=s.had) (ts:=s.ts) d λh=>?_;show h∈Gz (l.aF++[dP l cp os])↔h∈l.done;rw[De,f,b5];exact dl h
end
section
variable{P:ci}{w:World}{K:ai}{mg:Str->Option ar}{base:Heap}
inductive L3(K:ai)(CT:am)(c:NC)(vs:List V)(H:Hp)(Q:VK)(E:XK):Prop
 |mk(F:am->Prop)(p tp ln lr b0 ls:am)(dB:List am)(pl:am)(a:WA)(ns:List Int)(rs:List R5)(bs:List (List Bool))(cl:List (Nat×Nat))(cnt:List Nat)(tt:Nat->List T3)(Ls:List L4)(D:Nat)(s:NS)(kk:Int):vs=[.ref p,.ref b0,.ref ls,.ref pl,.ref a.lt,.ref a.wd,.int kk]->cR ns rs->cE K c H F p tp (wL ns) s->BX K CT (Off H F) tp ln lr b0 ls dB pl a ns rs bs cl cnt tt s.had Ls->wH ns rs bs cl D s->x9 s Ls cnt tt->Dn s->D<=3400->0<wL cl->(∀(s':NS)(Ls':List L4)F' H',cE K c H' F' p tp (wL ns) s'->BX K CT (Off H' F') tp ln lr b0 ls dB pl a ns rs bs cl cnt tt s'.had Ls'->wH ns rs bs cl (D+100) s'->x9 s' Ls' cnt tt->Dn s'->Kw (Off H F) (Off H' F') dB pl a->Q (.bl ag) H')->L3 K CT c vs H Q E
theorem Te{t:Ad}(T:Txt K mg t):cH P w K mg base iJ 9 t.uW t.zM ["_law_net","_law_ropes_here","_law_stood","_law_places","_law_letters","_law_world","_law_number"] (L3 K t.be (nc t)):=by refine T.KN.F.jv jb λH Q E Y h=>?_;·obtain⟨F,p,tp,ln,lr,b0,ls,dB,pl,a,ns,rs,bs,cl,cnt,tt,Ls,D,s,kk,rfl,o,N,I,f,mm,dn,hD,hcl,k⟩:=h;exists _,(aq (sS 7 jb (bf dc (pv 6) (lS T.fV (pv 3)))) (aq (sS 8 jb (cG (adM T) Y T.aai (Ic (pv 3) (pv 7) (bf eG (pv 6) aA)))) (aq (wR (xL (pv 3) (pv 7)) (JG (n:=2) rfl (gJ (gT 9 jb) (gJ (gT 10 jb) za)))) (aq (sS 11 jb (dY (nO (pv 10) (pv 7) (pv 8) (xL (xL (pv 5) aA) (pv 10))))) (aq (sS 12 jb (i7 (pv 0) T.bG T.eN.m (ko T) (Y.mono (!_)) T.eN.B .nil kH)) (aq (sS 13 jb (cM (pv 0) T.bG T.wz (Ao T) Y (fR (pv 10)))) (aq (cC (qT rJ (qQ (pv 0) T.bG T.UJ (Sx T) (Y.mono (!_)) T.UI .nil kH (kN (pv 7) (pv 8))) (lS T.fV (pv 4))) oB bw) (aq (sS 14 jb (cG (Oz T) Y T.KJ (mH (pv 1) (aN7 (pv 2) (pv 13) (xL (xL (pv 5) aA) (pv 10)) (pv 3) (pv 11) (pv 9) kr)))) (aq (eE (mQ aV bq bh dZ (pv 4) (fR (pv 11)))) (aq (cC (qT DY (cM (pv 0) T.bG T.lJ (mE T) Y (fR (bf zb (lS T.fV (pv 4)) aA))) (bf JN (fX (fR (dY (kN fH (pv 9))))) (pv 14))) oB bw) (oR (cG (OC T) Y T.KL (aN6 (pv 0) (pv 1) (xL (pv 5) aA) (bf zb (lS T.fV (pv 4)) aA) (pv 12) (pv 14)))))))))))))),4;left;have tM:wL cl<=20:=(by have:=f.bd.tM;rw[f.hm,af] at this;exact this);have hml:wL s.aL=cl.length:=(by rw[f.hm,af]);obtain⟨qp,adV,adW⟩:=I.dx.lC;have hpl:=aD _ _ adV;have YN:=adW.mono λb x z=>aD.bP z;have eqp:wL qp=cl.length:=(by rw[YN.len,af]);have abm:(((qp.map cr).length:Nat):Int)=(cl.length:Int):=(by rw[af,eqp]);obtain⟨x,ex,hx⟩:=uf kk hcl;obtain⟨d1,f1,cy⟩:=N.qP;refine aY λO i=>?_;exists 8,pl,1,.inl (bI.of hpl),9,(by rw[abm];lia),i _ _ ?_;(try dsimp only);rw[abm,ex];refine aY λO i=>?_;exists 85,pl,qp,cl,x,kk/6,2,bI.of hpl,YN,hx,tM,λto H2 s2 hto=>i _ _ ?_;have hqx:=YN.at' x (qp[x]'∅) [.int cl[x].1,.int cl[x].2] (aa _) (by rw[ak,aa hx];rfl);have adX:yb (qp.map cr) (x:Int)=ac (.ref (qp[x]'∅)):=bO (by rw[ak,aa];rfl);refine aY λO i=>?_;exists 8,pl,39,bI.of (s2 _ _ hpl),adX,31,s2.bP hqx,2319,i _ _ ?_;have hgx:s.groups.getD x 0=cl[x].2:=(by rw[f.gr,ao,ak,aa hx];rfl);have hhx:s.aL.getD x 0=cl[x].1:=(by rw[f.hm,ao,ak,aa hx];rfl);have g3:cl[x].2<3:=(by have:=f.bd.g3 (s.groups.getD x 0) (by rw[ao,aa (show x<wL s.groups by rw[f.bd.gl];lia)];exact aP _);rw[hgx] at this;exact this);rw[<- hgx,<- hhx];rw[<- hgx] at g3;generalize eg:s.groups.getD x 0=g at g3;generalize eh:s.aL.getD x 0=h;have WK:=s2 _ _ (aD _ _ I.wx.w);have hc2:=s2 _ _ (aD _ _ I.wx.c);have atc:yb (aT cnt) (g:Int)=ac (.int ((cnt.getD g 0:Nat):Int)):=bO (by rw[ak,ao,aa (by rw[mm.c3];exact g3)];rfl);refine aY λO i=>?_;exists 88,oS (bI.of WK) (bO (j:=0) rfl) ⟨1,jN (bI.of hc2) atc ⟨aaT,λz hz=>?_⟩⟩;have M:=aG.new (o:=.tup (L4.vs ⟨g,x,to,cnt.getD g 0⟩)) hz;have g3z:=au (H:=H2) (a:=z) (o:=.tup (L4.vs ⟨g,x,to,cnt.getD g 0⟩));refine i [ac (.ref p),ac (.ref b0),ac (.ref ls),ac (.ref pl),ac (.ref a.lt),ac (.ref a.wd),ac (.int kk),ac (.int (x:Nat)),ac (kB (to.map λy:Nat=>(y:Int))),ac (.int (h:Nat)),ac (.int (g:Nat)),ac (.ref z),ae,ae,ae] (upd H2 z (.tup (L4.vs ⟨g,x,to,cnt.getD g 0⟩))) ?_;generalize upd H2 z (.tup (L4.vs ⟨g,x,to,cnt.getD g 0⟩))=H3 at M g3z;have s3:=s2.trans M;have N3:=N.mono s3;refine aY λO i=>?_;exists 1,p,31,s3 _ _ cy,2,F,p,tp,ns.length,s,2,N3,λfl qf H4 s4 MS hfl Yx=>i _ _ ?_;have G:=s3.trans s4;have bx4:=I.mono (bN (F:=F) G);have W4:NW K (nc t) t.be H4 F p tp ln lr ns rs s:=bx4.dx.lA.nw (N.mono G) λb z=>z;refine aY λO i=>?_;exists 1,p,31,G _ _ cy,21,F,p,tp,ln,lr,ns,rs,s,o,g,2,W4,f.ok,g3,λlo os H5 s5 R7 hlo hO Z=>i _ _ ?_;have R:=G.trans s5;have bx5:=I.mono (bN (F:=F) R);have W5:=W4.mono s5;have eto:∀y,to=ac y->y<wL s.aL/\s.groups[y]?=s.groups[x]?:=λy z=>(by obtain⟨h1,h2⟩:=hto y z;rw[f.gr];exists 6,h2);refine aY λO i=>?_;exists 1,p,31,R _ _ cy,28,F,p,tp,ln,lr,ns,rs,s,o,x,to,D,2,W5,f.ok,f.bd,66,eto,λr A H6 hO' aoM W6 QC=>?_;have eo:=(eg▸hO').uniq hO;subst eo;have X:=bx5.mono (fB QC);obtain⟨qt,Qv,MT⟩:=X.wx.le;have VC:wL qt=s.ls.length:=(by rw[MT.len,af,mm.ml]);exists 1,a.lt,1,.inl (bI.of (aD _ _ Qv)),214;refine qh (by rw[af,VC];simp) (i _ _ ?_);have hf6:=fB QC _ _ (bN (F:=F) s5 _ _ (mF N3 MS hfl));have ahv:cP K (Off H6 A) qf (s.cps.map Cp.vs):=(Yx.mono λb x z=>(bN (F:=F) s5).bP ((N.mono G).J6 z)).mono λb x z=>(fB QC).bP z;have ahw:=fB QC _ _ (mF (N.mono G) R7 hlo);have hz6:cD K (Off H6 A) z (L4.vs ⟨g,x,to,cnt.getD g 0⟩):=(fB QC).bP ((bN (F:=F) (s4.trans s5)).bP (N3.J6 (cD.of g3z)));obtain⟨d,hdg⟩:∃d,a.ds[g]?=ac d:=⟨_,aa (by rw[I.wx.d3];exact g3)⟩;obtain⟨qp6,aoN,aoO⟩:=X.dx.lC;have tp':(tt g).Perm (s.ts g):=mm.tp g g3;have oe':=WJ tp' (f.bd.tb g).2;have lq:Lq cnt {jH s x to with aF:=[.post (s.aL.getD x 0)]} ⟨g,x,to,cnt.getD g 0⟩:=⟨eg,222,az _,⟨λ_=>rfl,λ_=>rfl⟩,g3⟩;have olt:=(Fo.of hO).lt;refine aY λO i=>?_;exists 88,oS (bI.of (aD _ _ X.wx.w)) (bO (j:=1) rfl) ⟨1,jN (bI.of (aD _ _ X.wx.d)) (bO (by rw[ak,hdg];rfl)) ?_⟩;exists 18,b0,ls,lo,d,pl,z,dB,qp6,ns,rs,bs,r,tt g,cl,cnt,⟨g,x,to,cnt.getD g 0⟩,lR s x to,{jH s x to with aF:=[.post (s.aL.getD x 0)]},h,ae,2,X.dx.WD.keep (λo z=>aD _ _ z) (λb x=>aD.bP),X.dx.sts.mono aD,bI.of (aD _ _ ahw),aD _ _ (X.wx.dt g d hdg),bI.of (aD _ _ aoN),aoO.mono (λb x=>aD.bP),aD.bP hz6,lq,f.hm,f.gr,f.ws,(by rw[show ({jH s x to with aF:=[ck.post (s.aL.getD x 0)]}:LS).grp=g from eg];exact tp'),oe',olt,afl (f.ld o) g3 hO tp',afm hO f.ws f.fit,by have:=o.Z6;lia,Z,tM,λS U H7 s7 LZ hlw Nn=>i _ _ ?_;have dd:adU rs (lR s x to) (oA rs s x to r) (wL s.ls) [.post h] (IS rs (lR s x to) {jH s x to with aF:=[.post (s.aL.getD x 0)]} h ae r):=(by subst eh;exact akI (rs:=rs) (s:=lR s x to) (l:={jH s x to with aF:=[.post (s.aL.getD x 0)]}) (h:=s.aL.getD x 0) (bF:=ae) (os:=r) mC f.bd.hl f.bd.tM olt Z);generalize IS rs (lR s x to) {jH s x to with aF:=[.post (s.aL.getD x 0)]} h ae r=wk at Nn dd;have o7:=bN (F:=A) s7;have N7:=W6.dO.mono s7;have nu:=X.mono o7;have W:=o7 _ _ Qv;have aoP:=mF W6.dO LZ hlw;have akL:cP K (Off H7 A) U (wk.map ck.vs):=Nn.mono λb x z=>N7.J6 z;have lpl:wL s.ls<=40000:=(by have:=f.ln;lia);refine aY λO i=>?_;exists 1,.inl ⟨23,bI.of (aD _ _ W)⟩,1,a.lt,9,aD _ _ W,(by rw[af];exact jF ∅),i [ac (.ref p),ac (.ref b0),ac (.ref ls),ac (.ref pl),ac (.ref a.lt),ac (.ref a.wd),ac (.int kk),ac (.int (x:Nat)),ac (kB (to.map λy:Nat=>(y:Int))),ac (.int (h:Nat)),ac (.int (g:Nat)),ac (.ref z),ac (.ref fl),ac (.ref lo),ac (.ref S)] _ ?_;have N8:=N7.past (o:=.lst (qt.map cr++[.ref z])) W c7;have YQ:∀b v,Off H7 A b=ac v->b≠a.lt->Off (upd H7 a.lt (.lst (qt.map cr++[.ref z]))) A b=ac v:=(by rw[nA (c9 W).1];exact br);have g8:Off (upd H7 a.lt (.lst (qt.map cr++[.ref z]))) A a.lt=ac (.lst (qt.map cr++[.ref z])):=gB (c9 W).1 au;generalize upd H7 a.lt (.lst (qt.map cr++[.ref z]))=H8 at N8 YQ g8;have wx8:=nu.wx.putL (L:=⟨g,x,to,cnt.getD g 0⟩) W (MT.mono λb x z=>o7.bP z) (o7.bP hz6) YQ g8;obtain⟨dx8,kw8⟩:=nu.one W c7 (.inr (.inr (.inr (.inr (.inl rfl))))) YQ;have n7:∀c y,cD K (Off H7 A) c y->cD K (Off H8 A) c y:=λc y=>cD.past W c7 YQ;have nl:∀b,Off H F b=ae->b≠a.lt:=λb e y=>(by obtain⟨q0,e0,_⟩:=I.wx.le;rw[y,e0] at e;cases e);have Tg:Off H F fl=ae:=rL (s3.free MS);have lw0:Off H F S=ae:=(by cases e:Off H F S with|none=>rfl|some u=>have:=aD _ _ (fB QC _ _ (bN (F:=F) R _ _ e));rw[LZ] at this;cases this);have hf8:=YQ _ _ (o7 _ _ hf6) (nl fl Tg);have abo:=YQ _ _ aoP (nl S lw0);have akM:((((qt.map cr++[cr z]).length:Nat):Int)-1)=(s.ls.length:Int):=(by rw[av,af,VC];show ((wL s.ls+1:Nat):Int)-1=_;lia);obtain⟨l2,hl2,hd2⟩:=dd.ls;obtain⟨d8,f8,Oo⟩:=N8.qP;refine aY λO i=>?_;exists 1,p,31,Oo,21,a.lt,1,.inl (bI.of (aD _ _ g8)),94;(try dsimp only);rw[akM];exists A,p,tp,ns.length,s.ls.length,_,l2,2,N8,hl2,λl9 q9 H9 s9 ahp ue hq9=>?_;exists 1,jD,λC hz1=>⟨Xe,λz2 hz2=>?_⟩;have u1:=aG.new (o:=.tup (ck.vs (.post h))) hz1;have g1:=au (H:=H9) (a:=C) (o:=.tup (ck.vs (.post h)));have hz2:upd H9 C (.tup (ck.vs (.post h))) z2=ae:=hz2;have u2:=aG.new (o:=.lst [cr C]) hz2;have g2:=au (H:=upd H9 C (.tup (ck.vs (.post h)))) (a:=z2) (o:=.lst [cr C]);show Mf 14 _ (upd (upd H9 C (.tup (ck.vs (.post h)))) z2 (.lst [cr C])) _;generalize upd H9 C (.tup (ck.vs (.post h)))=Nb at u1 g1 u2 g2;generalize upd Nb z2 (.lst [cr C])=qC at u2 g2;have wl:=dd.wl;have eqw:wL U=wk.length:=(by rw[Nn.len,af]);have Yy:=(s9.trans u1).trans u2;exists 1,z2,S,9,g2,Yy _ _ (aD _ _ abo),(by rw[af];exact iG (jF (by show 1+wL U<=1000000;lia))),λz3 Vb=>?_;have M:=aG.new (o:=.lst ([cr C]++U.map cr)) Vb;have g3':=au (H:=qC) (a:=z3) (o:=.lst ([cr C]++U.map cr));generalize upd qC z3 (.lst ([cr C]++U.map cr))=Wc at M g3';have r1:cP K Wc q9 ((([ck.post h]++wk)).map ck.vs):=(by rw[<- hd2];exact hq9.mono λb x=>((u1.trans u2).trans M).bP (a:=b) (xs:=x));have r2:cP K Wc ([C]++U) ((([ck.post h]++wk)).map ck.vs):=(by rw[aK];exact Vl (abk ((u2.trans M).bP (cD.of g1))) ((akL.mono n7).mono λb x z=>(Yy.trans M).bP (aD.bP z)));exists .list (([ck.post h]++wk).map dD),.list (([ck.post h]++wk).map dD),⟨l9,1,bI.of (((u1.trans u2).trans M) _ _ ue),ug r1⟩,⟨z3,1,bI.of g3',by have:=ug r2;rw[aK] at this;exact this⟩,oG _,oG _,r4 (by show bj _+1<=64;have:=Au ([ck.post h]++wk);lia) Y.units,14;rw[SeqAt.eqv_refl (.list (([ck.post h]++wk).map dD)) (oG _)];refine e9 (i _ _ ?_);have abp:=Yy.trans M;have q:=bN (F:=A) abp;have Qw:BX K t.be (Off H8 A) tp ln lr b0 ls dB pl a ns rs bs cl cnt tt s.had (Ls++[⟨g,x,to,cnt.getD g 0⟩]):=⟨dx8,wx8,I.dj⟩;have J:=Qw.mono q;have sd':=f.post (to:=to) o ∅ (eg.symm▸hO) Z;have mm':=mm.post (rs:=rs) (os:=r) (x:=x) (to:=to) (by rw[eg];exact g3);rw[eg] at mm';have cb:=sd'.bd.cb;have nhs:∀b,Off H F b=ae->b∉a.hs:=λb e z=>I.free (.inl (.inr (.inr (.inr (.inr (.inr (.inr z))))))) e rfl;have nb0:b0∉a.hs:=λz=>I.dj b0 (.inr (.inr (.inr (.inr (.inr (.inr z)))))) (.inr (.inr (.inr (.inl rfl))));have nlf:S≠fl:=λz=>(by rw[z,aD _ _ hf6] at LZ;cases LZ);exists 18,oS (bI.of (aD _ _ J.wx.w)) (bO (j:=2) rfl) ⟨1,a.lt,1,.inl (bI.of (aD _ _ (q _ _ g8))),94⟩;(try dsimp only);rw[akM];exists 8,A,p,tp,b0,a.w2,fl,S,a.hs,qf,U,ns,rs,s.had,s.ls.length,l2,s.cps,wk,oA rs s x to r,2,o,N8.mono abp,J.dx.WD,J.wx.hd,q _ _ hf8,((ahv.mono λb x z=>o7.bP z).mono n7).mono (λb x z=>q.bP z),q _ _ abo,(akL.mono n7).mono (λb x z=>q.bP z),⟨I.free (.inr (.inr (.inr (.inr (.inl rfl))))) Tg,nb0⟩,⟨nlf,nhs S lw0⟩,nhs fl Tg,I.free (.inl (.inr (.inr (.inr (.inl rfl))))) Tg,hl2,dd.cps,dd.isw,λw z=>aJ (f.bd.hb w z) ∅,wl,6,λF9 H9 N9 kd kt lh=>?_;obtain⟨bx9,kw9⟩:=I.done J Tg kd kt lh;refine k _ _ F9 H9 N9 (by rw[dd.had];exact bx9) sd' mm' dn.post λb v e n1 n2 n3=>kw9 b v (q b v (kw8 b v (o7 b v (fB QC b v (bN (F:=F) R b v e))) n1 n2 n3)) (λz=>?_) n3;rw[z,Tg] at e;cases e
theorem ahz(d:ck):(Av (cv (dW d)) [cv "post",cv "come"]=ag/\∃h:Nat,Gz [d]=[h]/\yb (cv (dW d)::(dI d).map cn) 1=ac (.int (h:Int)))∨(Av (cv (dW d)) [cv "post",cv "come"]=al/\Gz [d]=[]):=by cases d with|post h=>exact .inl ⟨(by decide +kernel:Av (cv "post") [cv "post",cv "come"]=ag),h,2,bO (j:=1) rfl⟩|Ri h r=>exact .inl ⟨(by decide +kernel:Av (cv "come") [cv "post",cv "come"]=ag),h,2,bO (j:=1) rfl⟩|hand h c=>exact .inr ⟨(by decide +kernel:Av (cv "hand") [cv "post",cv "come"]=al),2⟩|send h r w=>exact .inr ⟨(by decide +kernel:Av (cv "send") [cv "post",cv "come"]=al),2⟩|twice h r=>exact .inr ⟨(by decide +kernel:Av (cv "twice") [cv "post",cv "come"]=al),2⟩|Dg h r=>exact .inr ⟨(by decide +kernel:Av (cv "lost") [cv "post",cv "come"]=al),2⟩
theorem ad0{ds:List ck}:(Gz ds).length<=wL ds:=List.length_filterMap_le _ _
theorem WL(x:Nat)(a:List Nat):Av (.int (x:Int)) (aT a)=decide (x∈a):=by rw[eU,ly,decide_eq_decide];constructor;intro z;obtain⟨y,b,e⟩:=bH.mp z;rw[show x=y by lia];exact b;exact λz=>List.mem_map_of_mem z
inductive IT(K:ai)(CT:am)(c:NC)(vs:List V)(H:Hp)(Q:VK)(E:XK):Prop
 |mk(F:am->Prop)(p tp ln lr b0 ls:am)(dB:List am)(pl:am)(a:WA)(ns:List Int)(rs:List R5)(bs:List (List Bool))(cl:List (Nat×Nat))(cnt:List Nat)(tt:Nat->List T3)(Ls:List L4)(D:Nat)(s:NS)(j:Nat):vs=[.ref p,.ref b0,.ref ls,.ref pl,.ref a.lt,.ref a.wd,.int j]->cR ns rs->cE K c H F p tp (wL ns) s->BX K CT (Off H F) tp ln lr b0 ls dB pl a ns rs bs cl cnt tt s.had Ls->wH ns rs bs cl D s->x9 s Ls cnt tt->Dn s->D<=3400->j<wL s.cps->(∀(s':NS)(DO:Nat->List T3)F' H',cE K c H' F' p tp (wL ns) s'->BX K CT (Off H' F') tp ln lr b0 ls dB pl a ns rs bs cl cnt DO s'.had Ls->wH ns rs bs cl (D+100) s'->x9 s' Ls cnt DO->Dn s'->Kw (Off H F) (Off H' F') dB pl a->Q (.bl ag) H')->IT K CT c vs H Q E
theorem Qx{t:Ad}(T:Txt K mg t):cH P w K mg base iJ 9 t.rW t.wu ["_law_net","_law_ropes_here","_law_stood","_law_places","_law_letters","_law_world","_law_at"] (IT K t.be (nc t)):=by refine T.Ik.F.jv dH λH Q E hr h=>?_;·obtain⟨F,p,tp,ln,lr,b0,ls,dB,pl,a,ns,rs,bs,cl,cnt,tt,Ls,D,s,j,rfl,o,N,bx,G,mm,dn,hD,hj,k⟩:=h;exists _,(aq (sS 7 dH (i7 (pv 0) T.bG T.eN.m (ko T) (hr.mono (!_)) T.eN.B .nil kH)) (aq (wR (mQ aV PySem.F.slot_list_pop PySem.F.type_list_pop QS (pv 7) (fR (pv 6))) (JG (n:=4) rfl (gJ (gT 8 dH) (gJ (gT 9 dH) (gJ (gT 10 dH) (gJ (gT 11 dH) za)))))) (aq (sS 12 dH (xL (pv 4) (pv 8))) (aq (sS 13 dH (cM (pv 0) T.bG T.wz (Ao T) hr (fR (xT (pv 12) aA)))) (aq (sS 14 dH (cM (pv 0) T.bG T.lJ (mE T) hr (fR (pv 8)))) (aq (sS 15 dH fH) (aq (cC (iU lW (pv 9) (pv 13) (by with_unfolding_all rfl)) (bz (sS 15 dH fH)) (bz (cC (iU oq (pv 11) (fE (kO dH ["_law_row"] [ae]) rfl (eW (pv 14)) (λ_ _ _ _=>by exact (gS 0 I0)) (λ_ _ _ _=>by exact (jM (iU (ze K rfl) (yT K (pv 0) aA) (dY (kN fH fH)) (by with_unfolding_all rfl)))) (λ_ _ _ _=>by exact (yT K (pv 0) aA))) (by with_unfolding_all rfl)) (bz (sS 15 dH fH)) bw))) (aq (cC (qT rJ (qQ (pv 0) T.bG T.Mt (LQ T) (hr.mono (!_)) T.Ms .nil kH (fR (pv 6))) (pv 15)) oB bw) (aq (sS 16 dH (fX gM)) (aq (cC (qT kU (pv 15) fH) (aq (cC (qT kU (xT (pv 12) aA) (xL (xL (pv 5) aA) (xT (pv 12) aA))) (bz (OW (HX hr) (xL (xL (pv 5) aA) (xT (pv 12) aA)) (dY (kN (pv 11) (xT (pv 12) aA))) (pv 9) rfl)) bw) (bz (sS 16 dH (cG (Oz T) hr T.KJ (mH (pv 1) (aN7 (pv 2) (pv 13) (xL (xL (pv 5) aA) (xT (pv 12) aA)) (pv 3) (pv 12) (pv 11) (pv 9))))))) bw) (aq (cC (qT DY (cM (pv 0) T.bG T.lJ (mE T) hr (fR (pv 8))) (bf JN (bf JN (pv 14) (fX (fR (dY (Ic (pv 15) (pv 11) (pv 9)))))) (pv 16))) oB bw) (oR (cG (OC T) hr T.KL (aN6 (pv 0) (pv 1) (xL (pv 5) aA) (pv 8) (pv 7) (pv 16))))))))))))))),4;left;have tM:wL cl<=20:=(by have:=G.bd.tM;rw[G.hm,af] at this;exact this);obtain⟨d1,f1,cy⟩:=N.qP;refine aY λNx O=>?_;exists 1,p,31,cy,2,F,p,tp,ns.length,s,2,N,λI qf H1 s1 MS hfl Yx=>O _ _ ?_;have eqf:wL qf=s.cps.length:=(by rw[Yx.len,af]);have hcj:=aa hj;generalize s.cps[j]=cp at hcj;have hqj:=Yx.at' j (qf[j]'∅) cp.vs (aa _) (by rw[ak,hcj];rfl);have cb:=G.bd.cb;have hf1:=mF N MS hfl;have N1:=N.mono s1;refine aY λNx O=>?_;exists 1,.inl ⟨23,bI.of hfl⟩,1,I,_,j,j,12,hfl,66,(Jo (by rw[af,eqf];exact tP hj)).1,(by rw[ak,aa ∅];rfl),4;have N2:=N1.past (o:=.lst ((qf.map cr).eraseIdx j)) hf1 c7;have sm2:∀b v,Off H1 F b=ac v->b≠I->Off (upd H1 I (.lst ((qf.map cr).eraseIdx j))) F b=ac v:=(by rw[nA (c9 hf1).1];exact br);have g2:Off (upd H1 I (.lst ((qf.map cr).eraseIdx j))) F I=ac (.lst ((qf.eraseIdx j).map cr)):=gB (c9 hf1).1 (by rw[au,yS]);have akQ:cD K (upd H1 I (.lst ((qf.map cr).eraseIdx j))) (qf[j]'∅) cp.vs:=cD.past hfl c7 br hqj;exists 31,akQ,23131319,O _ _ ?_;generalize upd H1 I (.lst ((qf.map cr).eraseIdx j))=H2 at N2 sm2 g2 akQ;have Tg:Off H F I=ae:=rL MS;have o2:aG (Off H F) (Off H2 F):=λb v e=>sm2 b v (bN (F:=F) s1 b v e) λz=>(by rw[z,Tg] at e;cases e);have ad1:cP K (Off H2 F) (qf.eraseIdx j) ((s.cps.eraseIdx j).map Cp.vs):=(by rw[<- yS];exact (cP.mono Yx λb x z=>cD.past hf1 c7 sm2 (N1.J6 z)).erase j);have L6:=bx.mono o2;obtain⟨hcl,hcr,hch⟩:=G.bd.cl cp (ay hcj);have hl:s.ls[cp.l]?=ac s.ls[cp.l]:=aa hcl;have hq:Ls[cp.l]?=ac (Ls[cp.l]'(by rw[mm.ml];exact hcl)):=aa _;have lq:=mm.lq cp.l _ _ hl hq;have dl:=dn _ (ay hl);obtain⟨qt,Qv,MT⟩:=L6.wx.le;have VC:wL qt=Ls.length:=(by rw[MT.len,af]);have hcL:cp.l<wL Ls:=(by rw[mm.ml];exact hcl);(have hqq:cD K (Off H2 F) (qt[cp.l]'∅) (L4.vs (Ls[cp.l]'hcL)):=MT.at' cp.l _ _ (aa _) (by rw[ak,hq];rfl);have akR:yb (qt.map cr) (cp.l:Int)=ac (.ref (qt[cp.l]'∅)):=bO (by rw[ak,aa];rfl);have lb:=G.bd.lb _ (ay hl);generalize s.ls[cp.l]=l at hl lq dl lb;generalize (Ls[cp.l]'hcL)=q at hq lq hqq;generalize (qt[cp.l]'∅)=ql at hqq akR;have g3:=lq.g3;refine aY λNx O=>?_;exists 8,a.lt,39,bI.of (aD _ _ Qv),akR,O [ac (.ref p),ac (.ref b0),ac (.ref ls),ac (.ref pl),ac (.ref a.lt),ac (.ref a.wd),ac (.int (j:Nat)),ac (.ref I),ac (.int (cp.l:Nat)),ac (.int (cp.r:Nat)),ac (.int (cp.w:Nat)),ac (.int (cp.h:Nat)),ac (.ref ql),ae,ae,ae,ae] _ ?_;obtain⟨d2,f2,yQ⟩:=N2.qP;have W2:NW K (nc t) t.be H2 F p tp ln lr ns rs s:=L6.dx.lA.nw N2 λb z=>z;refine aY λNx O=>?_;exists 1,p,31,yQ,21,fN (aD.bP hqq) rfl ⟨F,p,tp,ln,lr,ns,rs,s,o,q.g,2,W2,G.ok,g3,λlo os H3 s3 R7 hlo hO h12=>O _ _ ?_⟩;have W3:=W2.mono s3;refine aY λNx O=>?_;exists 1,p,31,s3 _ _ yQ,21,F,p,tp,ns.length,cp.l,s,l,2,W3.dO,hl,λC J H4 s4 akS hlb hqb=>O _ _ ?_;refine aY λNx O=>?_;refine O [ac (.ref p),ac (.ref b0),ac (.ref ls),ac (.ref pl),ac (.ref a.lt),ac (.ref a.wd),ac (.int (j:Nat)),ac (.ref I),ac (.int (cp.l:Nat)),ac (.int (cp.r:Nat)),ac (.int (cp.w:Nat)),ac (.int (cp.h:Nat)),ac (.ref ql),ac (.ref lo),ac (.ref C),ac (.str "come"),ae] _ ?_;have fS:jI l cp os=if cp.r∈os then (if cp.h∈Gz l.aF then "twice" else "come") else "lost" := by unfold jI;rw[SJ rfl];split;by_cases z:cp.h∈l.done;rw[eL ((dl _).mpr z),eL (fy z)];rw[e8 (λy=>z ((dl _).mp y)),e8 (by rw[gn z];decide)];rfl);refine jO (λσ H5=>aG H4 H5/\σ=[ac (.ref p),ac (.ref b0),ac (.ref ls),ac (.ref pl),ac (.ref a.lt),ac (.ref a.wd),ac (.int (j:Nat)),ac (.ref I),ac (.int (cp.l:Nat)),ac (.int (cp.r:Nat)),ac (.int (cp.w:Nat)),ac (.int (cp.h:Nat)),ac (.ref ql),ac (.ref lo),ac (.ref C),ac (.str (jI l cp os)),ae]) ?_ (λN' hN=>?_);rotate_left;(·have aoS:=bI.of (K:=K) (s4 _ _ hlo);exists 8,lo,1,.inl aoS,2,kh _,14;(try dsimp only);rw[WL];by_cases hr1:cp.r∈os;(·rw[eL hr1] at fS;rw[fy hr1];refine e9 ?_;have hA:=bI.of (K:=K) hlb;have eqb:wL J=l.aF.length:=(by rw[hqb.len,af]);exists 8,C,2,⟨_,hA⟩,λld hld=>?_;refine eX (n:=(J.map cr).length) (λi ys H5=>ys=aT (Gz (l.aF.take i))) hld (wU hA) (mR hA) rfl ?_ ?_;(·rintro i ys H5 hi Z Sh rfl y H6 ⟨rfl,hx'⟩;have hx':=hx' _ (Z.seq hA);have hil:i<wL J:=(by rw[af] at hi;exact hi);rw[ak,aa hil] at hx';cases hx';have hid:l.aF[i]?=ac (l.aF[i]'∅):=aa _;have hqd:=Z.bP (hqb.at' i J[i] (l.aF[i]'∅).vs (aa hil) (by rw[ak,hid];rfl));have et:Gz (l.aF.take (i+1))=Gz (l.aF.take i)++Gz [l.aF[i]'∅]:=(by rw[gv,hid,Option.toList_some,De]);have el:(Gz (l.aF.take i)).length<=i:=aJ ad0 (by rw[b6];lia);generalize J[i]=qd at hqd;generalize l.aF[i]'∅=d at hqd et;rw[Qn] at hqd;exists 1,qd,_,(0),12,hqd,Gn d,jD,λz hz=>?_;have u7:=aG.new (o:=.tup [cv (ba "post"),cv (ba "come")]) hz;have gz:=au (H:=H6) (a:=z) (o:=.tup [cv (ba "post"),cv (ba "come")]);generalize upd H6 z (.tup [cv (ba "post"),cv (ba "come")])=H7 at u7 gz;exists z,1,.inr (cD.of gz),rfl,!_,_,rfl,?_;(try dsimp only);rw[e8 aH];rcases ahz d with ⟨e1,h',e2,e3⟩|⟨e1,e2⟩;refine Aw (by exact e1) ?_;exists 1,qd,_,(1),12,u7.bP hqd,e3,4;refine dF hld hi (Z.trans u7) (u7 _ _ Sh) (by rw[af];exact jF ∅) ?_;rw[et,e2,gy];refine qh (by exact e1) ?_;refine gU hi (Z.trans u7) (u7 _ _ Sh) ?_;rw[et,e2,b5]);rintro ys H5 Z Sh rfl;rw[af,eqb,cQ] at Sh;exists ld,1,.inl (bI.of Sh),2,kh _,14;(try dsimp only);rw[WL];by_cases hd1:cp.h∈Gz l.aF;rw[eL hd1] at fS;rw[fy hd1];exact fY (hN _ _ ⟨Z,by rw[fS];rfl⟩);rw[e8 hd1] at fS;rw[gn hd1];exact e9 (hN _ _ ⟨Z,by rw[fS]⟩));rw[e8 hr1] at fS;rw[gn hr1];exact fY (hN _ _ ⟨aG.refl _,by rw[fS];rfl⟩));rintro σ H5 ⟨Z,rfl⟩;have s25:=(s3.trans s4).trans Z;have W5:=(W3.mono s4).mono Z;refine aY λNx O=>?_;exists 1,p,31,s25 _ _ yQ,21,F,p,tp,ln,lr,ns,rs,s,o,j,D,cp,l,2,W5,G.ok,G.bd,6,hcj,hl,λf ts A H6 hO' aoM pts oe W6 QC=>?_;have eo:=(lq.g▸hO').uniq hO;subst eo;exists 104;refine qh (-_) (O _ _ ?_);have o25:=bN (F:=F) s25;have o6:=o25.trans (fB QC);have L5:=L6.mono o6;have sd':=G.pass o hl hcj hO' h12 pts oe;have dn':=dn.pass (rs:=rs) (os:=f) (a:=j) (ts:=ts) hl;have hf6:=o6 _ _ g2;have ahv:=ad1.mono λb x z=>o6.bP z;have N6:=W6.dO;have ahw:=fB QC _ _ (bN (F:=F) (s4.trans Z) _ _ (mF N2 R7 hlo));have aoT:=fB QC _ _ (bN (F:=F) Z _ _ (mF W3.dO akS hlb));have aoU:cP K (Off H6 A) J (l.aF.map ck.vs):=hqb.mono λb x z=>(fB QC).bP ((bN (F:=F) Z).bP ((W3.mono s4).dO.J6 z));have abr:=o6.bP hqq;have lo0:Off H F lo=ae:=(by cases e:Off H F lo with|none=>rfl|some u=>have:=aD _ _ (o2 _ _ e);rw[R7] at this;cases this);have lb0:Off H F C=ae:=(by cases e:Off H F C with|none=>rfl|some u=>have:=s3 _ _ (aD _ _ (o2 _ _ e));rw[akS] at this;cases this);have olt:=(Fo.of hO).lt;refine aY λNx O=>?_;exists aS _,λl7 QB=>O [ac (.ref p),ac (.ref b0),ac (.ref ls),ac (.ref pl),ac (.ref a.lt),ac (.ref a.wd),ac (.int (j:Nat)),ac (.ref I),ac (.int (cp.l:Nat)),ac (.int (cp.r:Nat)),ac (.int (cp.w:Nat)),ac (.int (cp.h:Nat)),ac (.ref ql),ac (.ref lo),ac (.ref C),ac (.str (jI l cp f)),ac (.ref l7)] _ ?_;have u7:=aG.new (o:=.lst []) QB;have g7:=mF (u:=.lst []) N6 QB (au (H:=H6) (a:=l7) (o:=.lst []));generalize upd H6 l7 (.lst [])=H7 at u7 g7;have o7:=bN (F:=A) u7;have N7:=N6.mono u7;have l70:Off H6 A l7=ae:=rL QB;refine jO (λσ L=>∃(DO:Nat->List T3) (U:am) (W:List am) (wk:List ck),cE K (nc t) L A p tp (wL ns) (gh rs s j cp l f ts)/\BX K t.be (Off L A) tp ln lr b0 ls dB pl a ns rs bs cl cnt DO s.had Ls/\x9 (gh rs s j cp l f ts) Ls cnt DO/\adU rs (mD s j cp l f) (gh rs s j cp l f ts) cp.l (l.aF++[dP l cp f]) wk/\Off L A U=ac (.lst (W.map cr))/\cP K (Off L A) W (wk.map ck.vs)/\Off H6 A U=ae/\(∀b v,Off H6 A b=ac v->¬a.P b->Off L A b=ac v)/\(∀c y,cD K (Off H6 A) c y->cD K (Off L A) c y)/\σ=[ac (.ref p),ac (.ref b0),ac (.ref ls),ac (.ref pl),ac (.ref a.lt),ac (.ref a.wd),ac (.int (j:Nat)),ac (.ref I),ac (.int (cp.l:Nat)),ac (.int (cp.r:Nat)),ac (.int (cp.w:Nat)),ac (.int (cp.h:Nat)),ac (.ref ql),ac (.ref lo),ac (.ref C),ac (.str (jI l cp f)),ac (.ref U)]) ?_ (λN' hN=>?_);rotate_left;(·exists 104;by_cases hc:comes l cp f=ag;(·have hfs:jI l cp f = "come" := (by unfold comes at hc;rw[dg,kF] at hc;unfold jI;rw[eL hc.1,e8 (by rw[Bool.not_eq_true'] at hc;rw[hc.2];decide)]);have S:gh rs s j cp l f ts=Qm rs (bQ s j cp l f ts) cp.l cp.h {l with aF:=l.aF++[dP l cp f]} (ac cp.r) f:=(by unfold gh;rw[eL hc]);have ets:(gh rs s j cp l f ts).ts=(bQ s j cp l f ts).ts:=(by rw[S];exact abb (jJ hl));obtain⟨ew,eR,em,eg⟩:=CC (s:=s) (a:=j) (cp:=cp) (l:=l) (os:=f) (ts:=ts);have ehd:(bQ s j cp l f ts).had=s.had:=(by unfold bQ;split <;> rfl);have ecp:(bQ s j cp l f ts).cps=s.cps.eraseIdx j:=(by unfold bQ;split <;> rfl);have dd:adU rs (mD s j cp l f) (gh rs s j cp l f ts) cp.l (l.aF++[dP l cp f]) (IS rs (bQ s j cp l f ts) {l with aF:=l.aF++[dP l cp f]} cp.h (ac cp.r) f):=(by rw[S];have d:=akI (rs:=rs) (h:=cp.h) (bF:=ac cp.r) (os:=f) (jJ (a:=j) (ts:=ts) (os:=f) hl) (by rw[ehd,em];exact G.bd.hl) (by rw[em];exact G.bd.tM) olt h12;exists by rw[d.had,ehd];rfl,by rw[d.cps,ecp];rfl,d.ls,by have:=d.isw;rw[ehd] at this;exact this,d.wl);have nu:=L5.mono o7;obtain⟨d,hdg⟩:∃d,a.ds[q.g]?=ac d:=⟨_,aa (by rw[bx.wx.d3];exact g3)⟩;have pd:a.P d:=.inr (.inr (.inr (.inr (.inr (.inl (ay hdg))))));have ad2:=aD.bP (o7.bP abr);have atc:yb (aT cnt) (q.g:Int)=ac (.int ((cnt.getD q.g 0:Nat):Int)):=bO (by rw[ak,ao,aa (by rw[mm.c3];exact g3)];rfl);have atd:yb (a.ds.map cr) (q.g:Int)=ac (.ref d):=bO (by rw[ak,hdg];rfl);have tpg:=mm.tp q.g g3;have oeg:=WJ tpg (G.bd.tb q.g).2;refine Aw (by rw[hfs];exact fy rfl) ?_;refine jO (λσ L=>∃(DO:Nat->List T3),cE K (nc t) L A p tp (wL ns) (gh rs s j cp l f ts)/\BX K t.be (Off L A) tp ln lr b0 ls dB pl a ns rs bs cl cnt DO s.had Ls/\(∀g,g<3->(DO g).Perm ((bQ s j cp l f ts).ts g))/\(∀b v,Off H6 A b=ac v->¬a.P b->Off L A b=ac v)/\(∀c y,cD K (Off H6 A) c y->cD K (Off L A) c y)/\σ=[ac (.ref p),ac (.ref b0),ac (.ref ls),ac (.ref pl),ac (.ref a.lt),ac (.ref a.wd),ac (.int (j:Nat)),ac (.ref I),ac (.int (cp.l:Nat)),ac (.int (cp.r:Nat)),ac (.int (cp.w:Nat)),ac (.int (cp.h:Nat)),ac (.ref ql),ac (.ref lo),ac (.ref C),ac (.str (jI l cp f)),ac (.ref l7)]) ?_ (λN'' hN2=>?_);rotate_left;(exists 1,fN ad2 rfl ⟨1,oS (bI.of (aD _ _ nu.wx.w)) (bO (j:=0) rfl) ⟨1,fN ad2 rfl (jN (bI.of (aD _ _ nu.wx.c)) atc ⟨214⟩)⟩⟩;cases X:l.old with|true=>have nst:¬q.st=cnt.getD q.g 0:=λz=>(by have:=lq.old.mpr z;rw[X] at this;cases this);refine qh (gn λz=>nst (by have:=V.int.inj z;lia)) (hN2 _ _ ⟨tt,N7,nu,λg hg=>?_,λb v e _=>o7 b v e,λc y z=>o7.bP z,2⟩);have:(bQ s j cp l f ts).ts=s.ts:=(by unfold bQ;rw[eL X];rfl);rw[this];exact mm.tp g hg|false=>have est:=lq.old.mp X;obtain⟨ts2,e2,p2,_⟩:=J0 (h:=(cp.h:Int)) (c:=(q.x:Int)) (r:=(cp.r:Int)) tpg oeg;have els:(bQ s j cp l f ts).ts=fc s.ts l.grp ts:=(by unfold bQ;rw[e8 (by rw[X];decide)];rfl);refine Aw (fy (by rw[est])) ?_;exists 8,oS (bI.of (aD _ _ nu.wx.w)) (bO (j:=1) rfl) ⟨1,fN ad2 rfl (jN (bI.of (aD _ _ nu.wx.d)) atd ⟨8,fN ad2 rfl ⟨jD,λz hz=>?_⟩⟩)⟩;have u8:=aG.new (o:=.tup [cn cp.h,cn q.x]) hz;have g8:=au (H:=H7) (a:=z) (o:=.tup [cn cp.h,cn q.x]);show ∃a H4,_;generalize upd H7 z (.tup [cn cp.h,cn q.x])=L at u8 g8;have o8:=bN (F:=A) u8;have Y:=nu.mono o8;have hd8:=Y.wx.dt q.g d hdg;have tl:(tt q.g).length<=40000:=(by rw[tpg.length_eq];have:=G.nb q.g;lia);exists d,1,OU.t (k:=keyOf cp.h q.x) (aD _ _ hd8) g8 (by rw[af];exact jF ∅),hN2 _ _ ?_;rw[e2];have N9:=(N7.mono u8).past (o:=.dT (ts2.map eY)) hd8 Ib;have sm9:∀b v,Off L A b=ac v->b≠d->Off (upd L d (.dT (ts2.map eY))) A b=ac v:=(by rw[nA (c9 hd8).1];exact br);have g9:Off (upd L d (.dT (ts2.map eY))) A d=ac (.dT (ts2.map eY)):=gB (c9 hd8).1 au;generalize upd L d (.dT (ts2.map eY))=H9 at N9 sm9 g9;obtain⟨YR,kw9⟩:=Y.one hd8 Ib pd sm9;exists fc tt q.g ts2,N9,⟨YR,Y.wx.putD hdg sm9 g9,bx.dj⟩,λg hg=>?_,λb v e n=>sm9 b v (o8 b v (o7 b v e)) λz=>n (z▸pd),λc y z=>cD.past hd8 Ib sm9 (o8.bP (o7.bP z)),2;rw[els,lq.g];by_cases z:g=q.g;subst z;rw[cJ,cJ];rw[lq.g,lq.x] at pts;exact p2.trans pts.symm;rw[dG z,dG z];exact mm.tp g hg);rintro σ L ⟨DO,N8,Y,pt8,ke8,n7,rfl⟩;obtain⟨qp8,aoW,aoX⟩:=Y.dx.lC;have nlP:∀b,Off H F b=ae->¬a.P b:=λb e z=>bx.free (.inl z) e rfl;have ldd:=afl (os:=f) (ts:=DO q.g) (sd'.ld o) g3 (by rw[show (gh rs s j cp l f ts).ws=s.ws by rw[S,Ow (jJ hl)];exact ew,show (gh rs s j cp l f ts).R=s.R by rw[S,Ow (jJ hl)];exact eR];exact hO) (by rw[ets];exact pt8 q.g g3);exists 88,oS (bI.of (aD _ _ Y.wx.w)) (bO (j:=1) rfl) ⟨1,fN (aD.bP (n7 _ _ abr)) rfl (jN (bI.of (aD _ _ Y.wx.d)) atd ?_)⟩;exists 88,b0,ls,lo,d,pl,ql,dB,qp8,ns,rs,bs,f,DO q.g,cl,cnt,q,bQ s j cp l f ts,{l with aF:=l.aF++[dP l cp f]},cp.h,ac cp.r,2,Y.dx.WD.keep (λo z=>aD _ _ z) (λb x=>aD.bP),Y.dx.sts.mono aD,bI.of (aD _ _ (ke8 _ _ ahw (nlP lo lo0))),aD _ _ (Y.wx.dt q.g d hdg),bI.of (aD _ _ aoW),aoX.mono (λb x=>aD.bP),aD.bP (n7 _ _ abr),⟨lq.g,lq.x,lq.kd,lq.to,lq.le,lq.old,lq.g3⟩,by rw[em];exact G.hm,by rw[eg];exact G.gr,by rw[ew];exact G.ws,(by rw[show ({l with aF:=l.aF++[dP l cp f]}:LS).grp=q.g from lq.g];exact pt8 q.g g3),4,olt,ldd,afm hO G.ws G.fit,by have:=o.Z6;lia,h12,tM,λU W H9 s9 LZ hlw Nn=>hN _ _ ?_;refine WJ (pt8 q.g g3) ?_;rw[<- ets];exact (sd'.bd.tb q.g).2;have o9:=bN (F:=A) s9;exists DO,U,W,_,N8.mono s9,Y.mono o9,mm.pass hl (λg hg=>by rw[ets];exact pt8 g hg),dd,mF N8 LZ hlw,Nn.mono λb x z=>(N8.mono s9).J6 z,4,λb v e n=>o9 b v (ke8 b v e n),λc y z=>o9.bP (n7 c y z),2;cases e:Off H6 A U with|none=>rfl|some u=>by_cases z:a.P U;obtain⟨u2,e2⟩:=Y.occ (.inl z);have:=aD _ _ e2;rw[LZ] at this;cases this;have:=aD _ _ (ke8 U u e z);rw[LZ] at this;cases this);have hfs:¬cv (jI l cp f)=cv "come" := (by unfold comes at hc;unfold jI;split;rename_i h1;split;exact of_decide_eq_false (by decide +kernel);rename_i h2;exact ff (by rw[fy h1,iw.mpr h2];rfl) hc;exact of_decide_eq_false (by decide +kernel));have S:gh rs s j cp l f ts=mD s j cp l f:=(by unfold gh;rw[e8 hc]);refine qh (gn hfs) (hN _ _ ⟨tt,l7,[],[],N7,L5.mono o7,mm.pass hl (λg hg=>by rw[S];exact mm.tp g hg),4,g7,⟨2,λi q x e=>by cases e⟩,l70,λb v e _=>o7 b v e,λc y z=>o7.bP z,2⟩);rw[S];exists 2,(b5 _).symm,⟨_,C8 hl,(b5 _).symm⟩,λd z=>(by cases z),aS _);rintro σ L ⟨DO,U,W,wk,N8,Y,mm8,dd,abo,ahA,lw6,ke,kt,rfl⟩;have nlP:∀b,Off H F b=ae->¬a.P b:=λb e z=>bx.free (.inl z) e rfl;have hf8:=ke _ _ hf6 (nlP I Tg);have aoY:=ahv.mono kt;have aoZ:=ke _ _ aoT (nlP C lb0);have ao0:=aoU.mono kt;obtain⟨l2,hl2,hd2⟩:=dd.ls;obtain⟨d8,f8,Oo⟩:=N8.qP;have eqb:wL J=l.aF.length:=(by rw[hqb.len,af]);have eqw:wL W=wk.length:=(by rw[ahA.len,af]);have wl:=dd.wl;have dl2:wL l.aF<=40000:=∅;refine aY λNx O=>?_;exists 1,p,31,Oo,21,A,p,tp,ns.length,cp.l,_,l2,2,N8,hl2,λl9 q9 H9 s9 ahp ue hq9=>?_;exists 88,k9,λM hz1=>⟨Xe,λz2 hz2=>?_⟩;have efv:[cv (jI l cp f),cn (cp.h:Nat),cn (cp.r:Nat)]=(dP l cp f).vs:=Wt.symm;have hz2:upd H9 M (.tup [cv (jI l cp f),cn (cp.h:Nat),cn (cp.r:Nat)]) z2=ae:=hz2;have u1:=aG.new (o:=.tup [cv (jI l cp f),cn (cp.h:Nat),cn (cp.r:Nat)]) hz1;have g1:=au (H:=H9) (a:=M) (o:=.tup [cv (jI l cp f),cn (cp.h:Nat),cn (cp.r:Nat)]);have u2:=aG.new (o:=.lst [cr M]) hz2;have g2':=au (H:=upd H9 M (.tup [cv (jI l cp f),cn (cp.h:Nat),cn (cp.r:Nat)])) (a:=z2) (o:=.lst [cr M]);show aiV (cr C) (cr z2) (upd (upd H9 M (.tup [cv (jI l cp f),cn (cp.h:Nat),cn (cp.r:Nat)])) z2 (.lst [cr M])) _;generalize upd H9 M (.tup [cv (jI l cp f),cn (cp.h:Nat),cn (cp.r:Nat)])=Nb at u1 g1 u2 g2';generalize upd Nb z2 (.lst [cr M])=qC at u2 g2';rw[efv] at g1;have Yy:=(s9.trans u1).trans u2;exists C,z2,9,Yy _ _ (aD _ _ aoZ),g2',(by rw[af];exact iG (jF (by show J.length+1<=1000000;lia))),λz3 Vb=>?_;have u3:=aG.new (o:=.lst (J.map cr++[cr M])) Vb;have g3':=au (H:=qC) (a:=z3) (o:=.lst (J.map cr++[cr M]));generalize upd qC z3 (.lst (J.map cr++[cr M]))=Wc at u3 g3';have abp:=Yy.trans u3;exists 1,z3,U,9,g3',abp _ _ (aD _ _ abo),(by rw[av,af,af];exact iG (jF (by show J.length+1+wL W<=1000000;lia))),λz4 hz4=>?_;have u4:=aG.new (o:=.lst (J.map cr++[cr M]++W.map cr)) hz4;have g4:=au (H:=Wc) (a:=z4) (o:=.lst (J.map cr++[cr M]++W.map cr));generalize upd Wc z4 (.lst (J.map cr++[cr M]++W.map cr))=X7 at u4 g4;have ad3:=abp.trans u4;have akV:=((u1.trans u2).trans u3).trans u4;have r1:cP K X7 q9 ((l.aF++[dP l cp f]++wk).map ck.vs):=(by rw[<- hd2];exact hq9.mono λb x=>akV.bP (a:=b) (xs:=x));have r2:cP K X7 (J++[M]++W) ((l.aF++[dP l cp f]++wk).map ck.vs):=(by rw[aK,aK];exact Vl (Vl (ao0.mono λb x z=>ad3.bP (aD.bP z)) (abk (((u2.trans u3).trans u4).bP (cD.of g1)))) (ahA.mono λb x z=>ad3.bP (aD.bP z)));exists .list ((l.aF++[dP l cp f]++wk).map dD),.list ((l.aF++[dP l cp f]++wk).map dD),⟨l9,1,bI.of (akV _ _ ue),ug r1⟩,⟨z4,1,bI.of g4,by rw[<- show (J++[M]++W).map cr=J.map cr++[cr M]++W.map cr by rw[aK,aK];rfl];exact ug r2⟩,oG _,oG _,r4 (by show bj _+1<=64;have:=Au (l.aF++[dP l cp f]++wk);lia) hr.units,14;rw[SeqAt.eqv_refl (.list ((l.aF++[dP l cp f]++wk).map dD)) (oG _)];refine e9 (O _ _ ?_);have mu:=bN (F:=A) ad3;have ad4:=Y.mono mu;have cb':=sd'.bd.cb;have nhs:∀b,Off H F b=ae->b∉a.hs:=λb e z=>nlP b e (.inr (.inr (.inr (.inr (.inr (.inr z))))));have nb0:b0∉a.hs:=λz=>bx.dj b0 (.inr (.inr (.inr (.inr (.inr (.inr z)))))) (.inr (.inr (.inr (.inl rfl))));have nlf:U≠I:=λz=>(by rw[z,hf6] at lw6;cases lw6);have lw0:Off H F U=ae:=(by cases e:Off H F U with|none=>rfl|some u=>rw[o6 _ _ (o2 _ _ e)] at lw6;cases lw6);exists 18,oS (bI.of (aD _ _ ad4.wx.w)) (bO (j:=2) rfl) ⟨184⟩;exists A,p,tp,b0,a.w2,I,U,a.hs,qf.eraseIdx j,W,ns,rs,s.had,cp.l,l2,s.cps.eraseIdx j,wk,gh rs s j cp l f ts,2,o,N8.mono ad3,ad4.dx.WD,ad4.wx.hd,mu _ _ hf8,aoY.mono (λb x z=>mu.bP z),mu _ _ abo,ahA.mono (λb x z=>mu.bP z),⟨bx.free (.inr (.inr (.inr (.inr (.inl rfl))))) Tg,nb0⟩,⟨nlf,nhs U lw0⟩,nhs I Tg,bx.free (.inl (.inr (.inr (.inr (.inl rfl))))) Tg,hl2,dd.cps,dd.isw,λw z=>aJ (G.bd.hb w z) ∅,wl,6,λF9 H9 N9 kd kt9 lh=>?_;obtain⟨bx9,kw9⟩:=bx.done ad4 Tg kd kt9 lh;refine k _ DO F9 H9 N9 (by rw[dd.had];exact bx9) sd' mm8 dn' λb v e n1 n2 n3=>kw9 b v (mu b v (ke b v (o6 b v (o2 b v e)) n3)) (λz=>?_) n3;rw[z,Tg] at e;cases e
inductive Th(K:ai)(CT:am)(c:NC)(vs:List V)(H:Hp)(Q:VK)(E:XK):Prop
 |mk(F:am->Prop)(p tp ln lr b0 ls:am)(dB:List am)(pl:am)(a:WA)(ns:List Int)(rs:List R5)(bs:List (List Bool))(cl:List (Nat×Nat))(cnt:List Nat)(tt:Nat->List T3)(had:List (List Nat))(Ls:List L4)(s:NS)(g:Nat):vs=[.ref a.wd,.int g]->cE K c H F p tp (wL ns) s->BX K CT (Off H F) tp ln lr b0 ls dB pl a ns rs bs cl cnt tt had Ls->g<3->wL cnt=3->(∀H',cE K c H' F p tp (wL ns) s->BX K CT (Off H' F) tp ln lr b0 ls dB pl a ns rs bs cl (cnt.set g (cnt.getD g 0+1)) (fc tt g []) had Ls->Kw (Off H F) (Off H' F) dB pl a->(∀c y,cD K (Off H F) c y->cD K (Off H' F) c y)->Q .gk H')->Th K CT c vs H Q E
theorem HN{t:Ad}(T:Txt K mg t):cH P w K mg base iJ 1 t.BB t.Fy ["_law_world","_law_group"] (Th K t.be (nc t)):=by refine T.FJ.F.jv XO λH Q E hr h=>?_;·obtain⟨F,p,tp,U,lr,b0,X,L,O,a,Y,W,bs,cl,cnt,tt,A,M,s,g,rfl,N,q,G,R,k⟩:=h;exists _,(aq (acQ (xL (pv 0) aA) (pv 1) aA (λ_ _ _=>rfl)) (oE (T7 uh PySem.F.slot_dict_clear PySem.F.type_dict_clear XM (xL (xL (pv 0) aA) (pv 1))))),4;left;have x:(aT cnt)[g]?=ac (cn ((cnt.getD g 0:Nat):Int)):=(by rw[ak,ao,aa (by rw[R];exact G)];rfl);obtain⟨d,l⟩:∃d,a.ds[g]?=ac d:=⟨_,aa (by rw[q.wx.d3];exact G)⟩;have pd:a.P d:=.inr (.inr (.inr (.inr (.inr (.inl (ay l))))));have n:=q.wx.c;refine aY λNx Z=>?_;exists 1,oS (bI.of (aD _ _ q.wx.w)) (bO (j:=0) rfl) ⟨14⟩;exists a.w0,_,g,12,aD _ _ n,x,(by rw[af];lia),(1),2,aD _ _ n,Z _ _ ?_;have ec:(aT cnt).set g (cn (((cnt.getD g 0:Nat):Int)+1))=aT (cnt.set g (cnt.getD g 0+1)):=(by show _=List.map _ (cnt.set g (cnt.getD g 0+1));rw[gQ];rfl);rw[ec];have C:=N.past (o:=.lst (aT (cnt.set g (cnt.getD g 0+1)))) n c7;have m:∀b v,Off H F b=ac v->b≠a.w0->Off (upd H a.w0 (.lst (aT (cnt.set g (cnt.getD g 0+1))))) F b=ac v:=(by rw[nA (c9 n).1];exact br);have I:Off (upd H a.w0 (.lst (aT (cnt.set g (cnt.getD g 0+1))))) F a.w0=ac (.lst (aT (cnt.set g (cnt.getD g 0+1)))):=gB (c9 n).1 au;generalize upd H a.w0 (.lst (aT (cnt.set g (cnt.getD g 0+1))))=H1 at C m I;obtain⟨S,u⟩:=q.one n c7 (.inr (.inl rfl)) m;have f:BX K t.be (Off H1 F) tp U lr b0 X L O a Y W bs cl (cnt.set g (cnt.getD g 0+1)) tt A M:=⟨S,q.wx.aoF m I,q.dj⟩;have e:=f.wx.dt g d l;exists 1,oS (bI.of (aD _ _ f.wx.w)) (bO (j:=1) rfl) ⟨1,jN (bI.of (aD _ _ f.wx.d)) (bO (by rw[ak,l];rfl)) ⟨show tyV K "dict" (.ref d) H1 from .inr (.inr (.inl ⟨2,.inr ⟨_,aD _ _ e⟩⟩)),d,12,aD _ _ e,4⟩⟩;have J:=C.past (o:=.dT []) e Ib;have i:∀b v,Off H1 F b=ac v->b≠d->Off (upd H1 d (.dT [])) F b=ac v:=(by rw[nA (c9 e).1];exact br);have D:Off (upd H1 d (.dT [])) F d=ac (.dT (([]:List T3).map eY)):=gB (c9 e).1 au;show Q .gk (upd H1 d (.dT []));generalize upd H1 d (.dT [])=H2 at J i D;obtain⟨r,B⟩:=f.one e Ib pd i;exact k H2 J ⟨r,f.wx.putD l i D,q.dj⟩ (u.trans B) λc y z=>cD.past e Ib i (cD.past n c7 m z)
end
section
variable{K:ai}{ns:List Int}{rs:List R5}{s s':NS}{i x:Nat}
theorem abt{e:Int}{g:Nat}(h:1<=e)(f:e<=7)(d:g<3):decide (cn (Builtin.bitAnd (e/2^g) 1)=cn 1)=lz e g:=by obtain⟨a,rfl⟩:∃a:Nat,e=(a:Int):=⟨e.toNat,6⟩;have c:∀a:Fin 8,∀b:Fin 3,decide (cn (Builtin.bitAnd (((a:Nat):Int)/2^(b:Nat)) 1)=cn 1)=lz ((a:Nat):Int) b:=!_;exact c ⟨a,6⟩ ⟨g,d⟩
noncomputable abbrev MU(s:NS):List (List ck):=s.ls.map λl=>l.aF
noncomputable def Gw(f:Bool)(i x:Nat)(c:Cp):Bool:=f&&VT i x c
noncomputable def qi(f:Bool)(i x:Nat)(cs:List Cp)(T:List (List ck)):List (List ck):=cs.foldl (λT c=>if Gw f i x c=ag then T.set c.l (T.getD c.l []++[.Dg c.h i]) else T) T
theorem Vm{f:Bool}{cs:List Cp}{c:Cp}{T:List (List ck)}:qi f i x (cs++[c]) T=if Gw f i x c=ag then (qi f i x cs T).set c.l ((qi f i x cs T).getD c.l []++[.Dg c.h i]) else qi f i x cs T:=by unfold qi;rw[wM];rfl
theorem OD{f:Bool}:∀{cs:List Cp}{T:List (List ck)},(qi f i x cs T).length=T.length
 |[],_=>rfl
 |c::cs,T=>by
  show (qi f i x cs _).length=_;rw[OD (cs:=cs)];show (if Gw f i x c=ag then T.set c.l _ else T).length=_;split
  ·rw[aQ]
  ·rfl
theorem Ti{f:Bool}{B:Nat}:∀{cs:List Cp}{T:List (List ck)},(∀ds∈T,wL ds<=B)->∀ds∈qi f i x cs T,wL ds<=B+wL cs
 |[],_,h,ds,z=>h ds z
 |c::cs,T,h,ds,z=>by
  have:=Ti (f:=f) (B:=B+1) (cs:=cs) (T:=if Gw f i x c=ag then T.set c.l (T.getD c.l []++[ck.Dg c.h i]) else T) (λv y=>by
   split at y
   ·rcases dm y with y|y
    ·exact gu (h v y)
    ·rw[y,av]
     refine Nat.succ_le_succ ?_;rw[ao];cases e:T[c.l]? with
     |none=>exact aS _
     |some u=>exact h u (ay e)
   ·exact gu (h v y)) ds z
  rw[bC];lia
theorem abu{cs:List Cp}{T:List (List ck)}:qi al i x cs T=T:=by unfold qi;induction cs with|nil=>rfl|cons c cs a=>exact a
theorem L7:∀{cs:List Cp}{t:NS},MU (cs.foldl (kI i x) t)=qi ag i x cs (MU t)
 |[],_=>rfl
 |c::cs,t=>by
  rw[gH,L7 (cs:=cs)];show _=qi ag i x cs _;congr 1;unfold kI;show _=if (ag&&VT i x c)=ag then _ else _
  rw[uq];split
  ·unfold c6
   cases q:t.ls[c.l]? with
   |none=>
    have:(MU t).length<=c.l:=by rw[af];exact List.getElem?_eq_none_iff.mp q
    rw[List.set_eq_of_length_le this]
   |some l=>
    show (t.ls.set c.l _).map _=_;rw[gQ,ao,ak,q];rfl
  ·rfl
theorem Tj(k:Kl s s'):MU s'=MU s:=by have:=gw (List.map λy=>y.1) k.ls;rw[cU,cU] at this;exact this
theorem Yz{b:List Bool}{r:R5}:MU (qO s i x b r)=qi (b.getD x al) i x s.cps (MU s):=by unfold qO;split;rename_i h;rw[h];have e:(jK {s with ws:=s.ws.set i ((stand b).filter λz=>decide (z≠x))} i x).ls.map (λl=>l.aF)=qi ag i x s.cps (MU s):=(by unfold jK ji;rw[cQ];exact L7 (t:={s with ws:=s.ws.set i ((stand b).filter λz=>decide (z≠x))}));unfold p6;split;rw[Tj (vL 3)];exact e;exact e;rename_i h;rw[iw.mpr h,abu,Tj Qp]
theorem ad5{b:List Bool}{r:R5}:(qO s i x b r).cps=s.cps.filter λc=>!Gw (b.getD x al) i x c:=by unfold qO;split;rename_i h;rw[h];unfold p6;split;rw[(vL 3).cps];rfl;rfl;rename_i h;rw[iw.mpr h,Qp.cps];exact (List.filter_eq_self.mpr λc _=>rfl).symm
theorem x9.tog{c:List L4}{cnt:List Nat}{a:Nat->List T3}(h:x9 s c cnt a){b:List Bool}{r:R5}:x9 (qO s i x b r) c (if ET x b=ag then Vi cnt r.e 3 else cnt) (if ET x b=ag then ttR a r.e 3 else a):=by unfold qO ET;split;unfold p6;split;exact (x9.lose (h.ws _)).iT r.e 3 (az _);exact x9.lose (h.ws _);unfold CA;split;exact (h.ws _).iT r.e 3 (az _);exact h.ws _
theorem ad6{b:List Bool}{r:R5}:(qO s i x b r).had=s.had:=by unfold qO;split;have e:(jK {s with ws:=s.ws.set i ((stand b).filter λz=>decide (z≠x))} i x).had=s.had:=(Gp (s:={s with ws:=s.ws.set i ((stand b).filter λz=>decide (z≠x))}) (i:=i) (x:=x) _ (az _)).2.2.2.2.2;unfold p6;split;rw[(vL 3).had];exact e;exact e;exact Qp.had
theorem L8{c:TT}{t u:TS}{D:Ends}{a:L2.St}{H:Hp}(b:Bool)(d:∀Q:Bool->Hp->Prop,Q b H->c a H Q)(f:b=ag->t D a H)(e:b=al->u D a H):OL c t u D a H:=d _ (by
 cases b
 ·exact e rfl
 ·exact f rfl)
structure LT(K:ai)(h:Hp)(lo:am)(lU:List am)(T:List (List ck)):Prop where
 at_:h lo=ac (.lst (lU.map cr))
 len:wL lU=T.length
 nd:lU.Nodup
 nl:lo∉lU
 it:∀(i:Nat)l ds,lU[i]?=ac l->T[i]?=ac ds->∃qs:List am,h l=ac (.lst (qs.map cr))/\cP K h qs (ds.map ck.vs)
theorem LT.keep{h h':Hp}{lo:am}{e:List am}{T:List (List ck)}(d:LT K h lo e T)(f:∀b o,h b=ac o->b=lo∨b∈e->h' b=ac o)(g:∀c y,cD K h c y->cD K h' c y):LT K h' lo e T:=⟨f _ _ d.at_ (.inl rfl),d.len,d.nd,d.nl,λi l j a b=>by
 obtain⟨k,n,m⟩:=d.it i l j a b;exact⟨k,f _ _ n (.inr (ay a)),m.mono g⟩⟩
theorem LT.put{h h':Hp}{lo l:am}{f qs:List am}{T:List (List ck)}{c:Nat}{w:List ck}(d:LT K h lo f T)(hl:f[c]?=ac l)(g:∀b o,h b=ac o->b≠l->h' b=ac o)(k:∀c y,cD K h c y->cD K h' c y)(r:h' l=ac (.lst (qs.map cr)))(p:cP K h' qs (w.map ck.vs)):LT K h' lo f (T.set c w):=by have j:=(aj.mp hl).1;exists g _ _ d.at_ λz=>d.nl (z▸ay hl),by rw[aQ];exact d.len,d.nd,d.nl,λi m s e a=>?_;rw[bE] at a;by_cases z:c=i;subst z;rw[eL rfl,eL (by rw[<- d.len];exact j)] at a;cases a;rw[hl] at e;cases e;exists qs,r,p;rw[e8 z] at a;obtain⟨q,n,a2⟩:=d.it i m s e a;exists q,g _ _ n λy=>z ?_,a2.mono k;subst y;exact ((p8 j d.nd).mp (hl.trans e.symm))
end
section
variable{P:ci}{w:World}{K:ai}{mg:Str->Option ar}{base:Heap}
inductive Tn(K:ai)(CT:am)(c:NC)(vs:List V)(H:Hp)(Q:VK)(E:XK):Prop
 |mk(F:am->Prop)(p tp ln lr b0 ls:am)(dB:List am)(pl:am)(a:WA)(ns:List Int)(rs:List R5)(bs:List (List Bool))(cl:List (Nat×Nat))(cnt:List Nat)(tt:Nat->List T3)(Ls:List L4)(D:Nat)(s:NS)(kk:Int):vs=[.ref p,.ref b0,.ref ls,.ref a.lt,.ref a.wd,.int kk]->cR ns rs->cE K c H F p tp (wL ns) s->BX K CT (Off H F) tp ln lr b0 ls dB pl a ns rs bs cl cnt tt s.had Ls->wH ns rs bs cl D s->x9 s Ls cnt tt->Dn s->D<=3400->rs≠[]->(∀(s':NS)(bs':List (List Bool))(cnt':List Nat)(DO:Nat->List T3)F' H',cE K c H' F' p tp (wL ns) s'->BX K CT (Off H' F') tp ln lr b0 ls dB pl a ns rs bs' cl cnt' DO s'.had Ls->wH ns rs bs' cl D s'->x9 s' Ls cnt' DO->Dn s'->Kw (Off H F) (Off H' F') dB pl a->Q (.bl ag) H')->Tn K CT c vs H Q E
theorem YA{t:Ad}(T:Txt K mg t):cH P w K mg base iJ 6 t.BC t.Fz ["_law_net","_law_ropes_here","_law_stood","_law_letters","_law_world","_law_number"] (Tn K t.be (nc t)):=by
 refine T.RC.F.jv iY λH Q E hr h=>?_
 ·obtain⟨F,p,tp,ln,lr,Y,ls,dB,pl,a,ns,rs,bs,cl,cnt,tt,Ls,D,s,kk,rfl,o,N,bx,sd,mm,dn,hD,hne,k⟩:=h;exists _,(aq (sS 6 iY (i7 (pv 0) T.bG T.eN.m (ko T) (hr.mono (!_)) T.eN.B .nil kH)) (aq (qm (i:=7) iY.nd rfl (Or.inl rfl) (kO iY ["_law_letter","_law_net"] [ae,ac 0]) rfl (eF rfl T.gY (fR (lS T.fV (pv 3)))) (λ_ _ _ _=>by exact (gS 0 PF)) (λ_ _ _ _=>by exact jk) (λ_ _ _ _=>by exact (cM (pv 1) T.bG T.lJ (mE T) hr (fR (pv 0))))) (aq (sS 8 iY (bf dc (pv 5) (lS T.fV (pv 1)))) (aq (sS 9 iY (bf dc (bf eG (pv 5) (lS T.fV (pv 1))) (xT (xL (pv 1) (pv 8)) aA))) (aq (sS 10 iY (xL (xL (pv 2) (pv 8)) (pv 9))) (aq (sS 11 iY (cG (S3 T) hr T.KI (nO (pv 0) (pv 1) (pv 2) (pv 5)))) (aq (sS 12 iY (fX gM)) (aq (fS (eW (pv 6)) (gT 13 iY) (bz (cC (PW.pt (wQ (ku (pv 10)) (wQ (qT kU (xT (pv 13) aA) (pv 8)) (tO (qT kU (xT (pv 13) aA) (pv 9)))))) (oE (mQ aV bq bh dZ (xL (pv 7) (xT (pv 13) aA)) (fR (dY (Ic fH (xT (pv 13) aA) (pv 8)))))) (oE (mQ aV bq bh dZ (pv 12) (fR (pv 13))))))) (aq (fS (eF rfl T.gY (fR aA)) (gT 14 iY) (bz (cC (PW.pt (wQ (qT agu (pv 11) MY) (tO (qT kU (bf Zf (bf afQ (xT (xL (pv 1) (pv 8)) aA) (pv 14)) aA) aA)))) (oE (cG (HN T) hr T.FJ (kN (pv 4) (pv 14)))) bw))) (aq (cC (PW.pt (HQ (jg (ku (cB Fd T.mz boot_isinstance (kN (pv 11) (CG rfl T.aan boot_bool (v:=.ty "bool") rfl))))) (DR (qT DY (i7 (pv 0) T.bG T.eN.m (ko T) (hr.mono (!_)) T.eN.B .nil kH) (pv 12))))) oB bw) (oR (qE zd (fE (kO iY ["_law_letter","_law_net"] [ae,ac 0]) rfl (eF rfl T.gY (fR (lS T.fV (pv 3)))) (λ_ _ _ _=>by exact (gS 0 PJ)) (λ_ _ _ _=>by exact jk) (λ_ _ _ _=>by exact (cM (pv 1) T.bG T.lJ (mE T) hr (fR (pv 0))))) (pv 7))))))))))))),4;left;obtain⟨d1,f1,cy⟩:=N.qP;refine aY λNx U=>?_;exists 1,p,31,cy,2,F,p,tp,ns.length,s,2,N,λfl qf H1 s1 MS hfl Yx=>U _ _ ?_;have N1:=N.mono s1;have bx1:=bx.mono (bN (F:=F) s1);obtain⟨qt,Qv,MT⟩:=bx1.wx.le;have VC:wL qt=s.ls.length:=(by rw[MT.len,af,mm.ml]);have lpl:wL s.ls<=34:=(by have:=sd.ln;lia);refine aY λNx U=>?_;exists 1,a.lt,1,.inl (bI.of (aD _ _ Qv)),(((qt.map cr).length:Nat):Int),26,by rw[af];lia,λlg hlg=>?_;rw[af,VC];refine eX (n:=((s.ls.length:Int)).toNat) (λm ys H2=>∃I:List am,ys=I.map cr/\wL I=m/\I.Nodup/\∀(j:Nat) l M,I[j]?=ac l->(MU s)[j]?=ac M->H1 l=ae/\l≠lg/\∃qs:List am,H2 l=ac (.lst (qs.map cr))/\cP K H2 qs (M.map ck.vs)) hlg uw k7 ⟨[],22,jh,λj l M e=>by cases e⟩ ?_ ?_;rintro m ys H3 hi s3 hy ⟨I,rfl,el,nd,hls⟩ y H4 ⟨rfl,rfl⟩;rw[dQ];have hm:m<wL s.ls:=∅;have hlm:=aa hm;exists 1,p,31,s3 _ _ (s1 _ _ cy),21,F,p,tp,ns.length,m,s,s.ls[m],2,N1.mono s3,hlm,λl5 q5 J s5 abv LN hq5=>?_;have Sh:=s5 _ _ hy;have n5:l5≠lg:=(aC hy abv).symm;refine dF hlg hi (s3.trans s5) Sh (by rw[af,el];exact b9 ∅) ⟨I++[l5],by rw[aK];rfl,by rw[av,el];rfl,Gr.ux nd λz=>?_,λj l M e1 e2=>?_⟩;obtain⟨j,hj⟩:=bM z;have hjl:=(aj.mp hj).1;obtain⟨_,_,q,e,_⟩:=hls j l5 _ hj (aa (by rw[af];lia));rw[abv] at e;cases e;by_cases z:j<wL I;rw[bu z] at e1;obtain⟨a1,a2,q,a3,a4⟩:=hls j l M e1 e2;exists a1,a2,q,br _ _ (s5 _ _ a3) a2,a4.mono λb x y=>cD.past Sh c7 br (s5.bP y);have ej:j=I.length:=(by have:=(aj.mp e1).1;rw[av] at this;have:j<wL I+1:=this;lia);rw[ej,bZ (az _),gq] at e1;cases e1;rw[ej,el,ak,hlm] at e2;cases e2;exists s3.free abv,n5,q5,br _ _ LN n5,hq5.mono λb x=>cD.past Sh c7 br;rintro ys H2 s2 hy2 ⟨I,rfl,ell,nd,ad7⟩;rw[cN] at ell;refine U [ac (.ref p),ac (.ref Y),ac (.ref ls),ac (.ref a.lt),ac (.ref a.wd),ac (.int kk),ac (.ref fl),ac (.ref lg),ae,ae,ae,ae,ae,ae,ae] _ ?_;have N2:=N1.mono s2;have o2:=bN (F:=F) (s1.trans s2);have L6:=bx.mono o2;have lg0:Off H F lg=ae:=rL (s1.free hlg);have Tg:Off H F fl=ae:=rL MS;have lt2:LT K (Off H2 F) lg I (MU s):=⟨mF N1 hlg hy2,by rw[af];exact ell,nd,λz=>by
   obtain⟨j,hj⟩:=bM z;have hjl:=(aj.mp hj).1;exact (ad7 j lg _ hj (aa (by rw[af];lia))).2.1 rfl,λj l M e1 e2=>by
   obtain⟨a1,_,q,a3,a4⟩:=ad7 j l M e1 e2;exact⟨q,mF N1 a1 a3,a4.mono λb x z=>N2.J6 z⟩⟩
  have abw:∀l∈I,Off H F l=ae/\l≠fl:=λl z=>(by obtain⟨j,hj⟩:=bM z;have hjl:=(aj.mp hj).1;have a1:=(ad7 j l _ hj (aa (by rw[af];lia))).1;exists rL (s1.free a1),λy=>by rw[y,hfl] at a1;cases a1);have hf2:=bN (F:=F) s2 _ _ (mF N MS hfl);have ad1:cP K (Off H2 F) qf (s.cps.map Cp.vs):=Yx.mono λb x z=>(bN (F:=F) s2).bP (N1.J6 z);have nfg:fl≠lg:=aC hfl hlg;obtain⟨us,ve,LY⟩:=L6.dx.WD;have hL:=aD _ _ ve;have YJ:wL us=rs.length:=(by rw[LY.len,af]);have hrl:0<wL rs:=List.length_pos_iff.mpr hne;have MR:(((us.map cr).length:Nat):Int)=(rs.length:Int):=(by rw[af,YJ]);obtain⟨i,ei,hi⟩:=uf kk hrl;have C3:rs[i]?=ac rs[i]:=aa hi;have oki:=o.ok _ (aP hi);have hqu:yb (us.map cr) (i:Int)=ac (cr (us[i]'∅)):=bO (by rw[ak,aa];rfl);have hqt:cD K (Off H2 F) (us[i]'∅) (rs[i]).vs:=LY.at' i (us[i]'∅) (rs[i]).vs (aa _) (by rw[ak,C3];rfl);have d1':=oki.d1;have e17:1<=rs[i].e/\rs[i].e<=7:=⟨oki.e1,oki.e7⟩;generalize (us[i]'∅)=ui at hqu hqt;generalize rs[i]=r at C3 hqt d1' e17 oki;refine aY λNx U=>?_;exists 8,Y,1,.inl (bI.of hL),9,(by rw[MR];lia),U _ _ ?_;(try dsimp only);rw[MR,ei];obtain⟨x,ex⟩:∃x:Nat,kk/(rs.length:Int)%r.d=(x:Int):=⟨_,(sf (cu _ (show r.d≠0 by lia))).symm⟩;refine aY λNx U=>?_;exists 8,Y,1,.inl (bI.of hL),9,(by rw[MR];exists 6,by have:=o.Z6;lia),4;(try dsimp only);rw[MR];exists 8,Y,39,bI.of hL,hqu,fN (aD.bP hqt) rfl ⟨9,(by show (0:Int)<r.d;lia),U [ac (.ref p),ac (.ref Y),ac (.ref ls),ac (.ref a.lt),ac (.ref a.wd),ac (.int kk),ac (.ref fl),ac (.ref lg),ac (.int (i:Nat)),ac (.int (kk/(rs.length:Int)%r.d)),ae,ae,ae,ae,ae] _ ?_⟩;rw[ex];obtain⟨b,hb,hbl⟩:=sd.fit.at C3;have hxb:x<wL b:=(by have:=cz (kk/(rs.length:Int)) (show (0:Int)<r.d by lia);lia);obtain⟨l0,Me⟩:∃l0,dB[i]?=ac l0:=⟨_,aa (by rw[L6.dx.sts.len];exact (aj.mp hb).1)⟩;have Qq:yb (dB.map cr) (i:Int)=ac (.ref l0):=bO (by rw[ak,Me];rfl);have Yu:yb (b.map cw) (x:Int)=ac (cw (b.getD x al)):=bO (by rw[ak,ao,aa hxb];rfl);refine aY λNx U=>?_;exists 8,jN (bI.of (aD _ _ L6.dx.sts.at_)) Qq ⟨1,jN (bI.of (aD _ _ (L6.dx.sts.it i l0 b Me hb))) Yu (U _ _ ?_)⟩;refine aY λNx U=>?_;exists 88,F,p,tp,ln,lr,Y,ls,dB,pl,ns,rs,bs,cl,D,s,kk,2,o,N2,L6.dx,sd,6,hne,λA f g G C H3 e1 e2 e3 e4 hx' N3 YL sd3 Yp=>U _ _ ?_;obtain rfl:A=i:=∅;obtain rfl:G=r:=aO (e2.symm.trans C3);obtain rfl:g=b:=aO (e3.symm.trans hb);obtain rfl:f=x:=∅;have nP:∀b,Off H F b=ae->¬(a.P b∨DP tp ln lr Y ls dB pl b):=λb e z=>bx.free z e rfl;have nli:∀b,Off H F b=ae->b∉dB/\b≠pl:=λb e=>⟨λz=>nP b e (.inr (.inr (.inr (.inr (.inr (.inr (.inl z))))))),λz=>nP b e (.inr (.inr (.inr (.inr (.inr (.inr (.inr z)))))))⟩;have kt3:=L6.dx.kt Yp;have ny:=L6.kp Yp YL;have A9:LT K (Off H3 C) lg I (MU s):=lt2.keep (λb o e z=>by have h0:Off H F b=ae:=(by rcases z with z|z;rw[z];exact lg0;exact (abw b z).1);exact Yp b o e (nli b h0).1 (nli b h0).2) kt3;have hf3:=Yp _ _ hf2 (nli fl Tg).1 (nli fl Tg).2;have ao3:=ad1.mono kt3;have eqf:wL qf=s.cps.length:=(by rw[Yx.len,af]);have hB:∀l∈s.ls,wL l.aF+wL s.cps<=3400:=λl z=>(by have:=(sd.bd.lb l z).1;lia);have cb:=sd.bd.cb;refine aY λNx U=>?_;exists aS _,λL QA=>U [ac (.ref p),ac (.ref Y),ac (.ref ls),ac (.ref a.lt),ac (.ref a.wd),ac (.int kk),ac (.ref fl),ac (.ref lg),ac (.int (A:Nat)),ac (.int (f:Nat)),ac (.bl (g.getD f al)),ac (.bl (ET f g)),ac (.ref L),ae,ae] _ ?_;have u4:=aG.new (o:=.lst []) QA;have g4:=mF (u:=.lst []) N3 QA (au (H:=H3) (a:=L) (o:=.lst []));generalize upd H3 L (.lst [])=H4 at u4 g4;have o4:=bN (F:=C) u4;have W:Off H3 C L=ae:=rL QA;have n8:∀b v,Off H3 C b=ac v->b≠L:=λb v e z=>(by rw[z,W] at e;cases e);have ao4:fl∉I:=λz=>(abw fl z).2 rfl;refine aY λNx U=>?_;exists 1,fl,2,⟨_,bI.of (u4 _ _ (aD _ _ hf3))⟩,qu (K:=K) (a:=fl) (xs:=qf.map cr) (λm σ J=>∃(ql:List am)(ry:Option V),cE K (nc t) J C p tp (wL ns) (qO s A f g G)/\LT K (Off J C) lg I (qi (g.getD f al) A f (s.cps.take m) (MU s))/\Off J C L=ac (.lst (ql.map cr))/\cP K (Off J C) ql (((s.cps.take m).filter λc=>!Gw (g.getD f al) A f c).map Cp.vs)/\(∀b v,Off H3 C b=ac v->b∉I->Off J C b=ac v)/\(∀c y,cD K (Off H3 C) c y->cD K (Off J C) c y)/\σ=[ac (.ref p),ac (.ref Y),ac (.ref ls),ac (.ref a.lt),ac (.ref a.wd),ac (.int kk),ac (.ref fl),ac (.ref lg),ac (.int (A:Nat)),ac (.int (f:Nat)),ac (.bl (g.getD f al)),ac (.bl (ET f g)),ac (.ref L),ry,ae]) ⟨[],_,N3.mono u4,A9.keep (λb o e _=>o4 b o e) (λc y z=>o4.bP z),g4,⟨2,λi q y e=>by cases e⟩,λb v e _=>o4 b v e,λc y z=>o4.bP z,2⟩ (λm σ J _ ⟨_,_,_,_,_,_,z,_⟩=>bI.of (aD _ _ (z _ _ hf3 ao4))) ?_ ?_;rintro m y σ J Nz EU hm ⟨ql,ry,N5,S,LN,To,ke5,kt5,rfl⟩;have hml:m<wL qf:=(by have:=(aj.mp hm).1;rw[af] at this;exact this);rw[ak,aa hml] at hm;cases hm;have hmc:m<wL s.cps:=∅;have hq0:=kt5 _ _ (ao3.at' m qf[m] (s.cps[m]).vs (aa hml) (by rw[ak,aa hmc];rfl));have et:s.cps.take (m+1)=s.cps.take m++[s.cps[m]]:=(by rw[gv,aa hmc];rfl);have hcl:=(sd.bd.cl _ (aP hmc)).1;have el:wL ql<=3400:=(by rw[To.len,af];exact aJ (aR _ _) (by rw[b6];lia));rw[et] at EU;have hTl:∀M∈qi (g.getD f al) A f (s.cps.take m) (MU s),wL M<=10000:=λM z=>(by have:=Ti (B:=3400) (T:=MU s) (λv y=>by obtain⟨l,hl,rfl⟩:=bH.mp y;have:=hB l hl;lia) M z;rw[b6] at this;lia);rw[Vm,eO] at EU;have lT:(qi (g.getD f al) A f (s.cps.take m) (MU s)).length=s.ls.length:=(by rw[OD,af]);generalize qi (g.getD f al) A f (s.cps.take m) (MU s)=TT at S hTl EU lT;generalize (s.cps.take m).filter (λc=>!Gw (g.getD f al) A f c)=lf at To EU;generalize qf[m]=q at hq0;generalize s.cps[m]=X at hq0 hcl EU;have hq:=aD.bP hq0;refine L8 (Gw (g.getD f al) A f X) (λQ' hQ=>?_) (λZ=>?_) (λZ=>?_);by_cases R:g.getD f al=ag;by_cases h1:X.r=A;exists 8,Aw R ⟨1,fN hq rfl ⟨10,Aw (fy (by rw[h1])) ⟨1,fN hq rfl ⟨104⟩⟩⟩⟩;have e:Gw (g.getD f al) A f X=decide (cn (X.w:Nat)=cn (f:Nat)):=(by unfold Gw VT;rw[R,uq,decide_eq_decide];exists λz=>by rw[z.2],λz=>⟨h1,by have:=V.int.inj z;lia⟩);rw[e] at hQ;exact hQ;exists 8,Aw R ⟨1,fN hq rfl ⟨10,qh (gn λz=>h1 (by have:=V.int.inj z;lia)) ?_⟩⟩;have e:Gw (g.getD f al) A f X=al:=(by unfold Gw VT;rw[gn λz=>h1 z.1,Bool.and_false]);rw[e] at hQ;exact hQ;have R:=iw.mpr R;exists 8,qh R ?_;have e:Gw (g.getD f al) A f X=al:=(by unfold Gw;rw[R,Bool.false_and]);rw[e] at hQ;exact hQ;obtain⟨lc,hlc⟩:∃lc,I[X.l]?=ac lc:=⟨_,aa (by rw[ell];exact hcl)⟩;have hTc:TT[X.l]?=ac (TT.getD X.l []):=(by rw[ao,aa (by rw[lT];exact hcl)];rfl);obtain⟨qc,ak0,ak1⟩:=S.it X.l lc _ hlc hTc;have eqc:wL qc=(TT.getD X.l []).length:=(by rw[ak1.len,af]);have hcb:=hTl _ (ay hTc);have mlc:=ay hlc;exists 8,fN hq rfl (jN (bI.of (aD _ _ S.at_)) (bO (by rw[ak,hlc];rfl)) ⟨show tyV K "list" (.ref lc) J from .inl ⟨23,bI.of (aD _ _ ak0)⟩,1,fN hq rfl ⟨1,k9,λz hz=>?_⟩⟩);have u6:=aG.new (o:=.tup (ck.vs (.Dg X.h A))) hz;have g6:=au (H:=J) (a:=z) (o:=.tup (ck.vs (.Dg X.h A)));show Jp (cr lc) [cr z] (upd J z (.tup (ck.vs (.Dg X.h A)))) _;generalize upd J z (.tup (ck.vs (.Dg X.h A)))=H6 at u6 g6;have o6:=bN (F:=C) u6;have aby:=o6 _ _ ak0;have N6:=N5.mono u6;exists lc,9,aD _ _ aby,(by rw[af];exact jF ∅),EU _ _ ?_;have N7:=N6.past (o:=.lst (qc.map cr++[.ref z])) aby c7;have O:∀b v,Off H6 C b=ac v->b≠lc->Off (upd H6 lc (.lst (qc.map cr++[.ref z]))) C b=ac v:=(by rw[nA (c9 aby).1];exact br);have g7:Off (upd H6 lc (.lst (qc.map cr++[.ref z]))) C lc=ac (.lst ((qc++[z]).map cr)):=gB (c9 aby).1 (by rw[au,aK];rfl);generalize upd H6 lc (.lst (qc.map cr++[.ref z]))=H7 at N7 O g7;have Td:∀c y,cD K (Off H6 C) c y->cD K (Off H7 C) c y:=λc y=>cD.past aby c7 O;have n8c:L≠lc:=λz=>(by have h0:=A9.it X.l lc _ hlc (aa (by rw[af];exact hcl));obtain⟨_,e,_⟩:=h0;rw[<- z,W] at e;cases e);exists ql,_,N7,4,O _ _ (o6 _ _ LN) n8c,4,λb v e n=>O b v (o6 b v (ke5 b v e n)) λy=>n (y▸mlc),λc y z=>Td c y (o6.bP (kt5 c y z)),2;rw[eL Z];refine (S.keep (λb v e _=>o6 b v e) λc y z=>o6.bP z).put hlc O Td g7 ?_;rw[aK];exact ((ak1.mono λb x z=>o6.bP z).snoc (N6.J6 (cD.of g6))).mono Td;rw[dM,Z];show cP K _ ql ((lf++[]).map Cp.vs);rw[b5];exact (To.mono λb x z=>o6.bP z).mono Td;exists 1,.inl ⟨23,bI.of (aD _ _ LN)⟩,1,L,9,aD _ _ LN,(by rw[af];exact jF ∅),EU _ _ ?_;have N7:=N5.past (o:=.lst (ql.map cr++[.ref q])) LN c7;have O:∀b v,Off J C b=ac v->b≠L->Off (upd J L (.lst (ql.map cr++[.ref q]))) C b=ac v:=(by rw[nA (c9 LN).1];exact br);have g7:Off (upd J L (.lst (ql.map cr++[.ref q]))) C L=ac (.lst ((ql++[q]).map cr)):=gB (c9 LN).1 (by rw[au,aK];rfl);generalize upd J L (.lst (ql.map cr++[.ref q]))=H7 at N7 O g7;have Td:∀c y,cD K (Off J C) c y->cD K (Off H7 C) c y:=λc y=>cD.past LN c7 O;exists ql++[q],_,N7,4,g7,4,λb v e n=>O b v (ke5 b v e n) (n8 b v e),λc y z=>Td c y (kt5 c y z),2;rw[Z,e8 aH];refine S.keep (λb v e z=>O b v e λy=>?_) Td;rcases z with z|z;rw[<- y,z,A9.at_] at W;cases W;obtain⟨n,hn⟩:=bM z;obtain⟨_,e',_⟩:=A9.it n b _ hn (aa (by rw[af,<- ell];exact (aj.mp hn).1));rw[y,W] at e';cases e';rw[dM,Z];show cP K _ (ql++[q]) ((lf++[X]).map Cp.vs);rw[aK];exact (To.snoc hq0).mono Td;rintro σ J ⟨ql,ry,N5,S,LN,To,ke5,kt5,rfl⟩;rw[af,eqf,cQ] at S To;rw[<- Yz (s:=s) (r:=G)] at S;rw[<- ad5 (s:=s) (r:=G)] at To;refine U _ _ ?_;have ak2:∀b,a.P b∨DP tp ln lr Y ls dB pl b->b∉I:=λb q z=>nP b (abw b z).1 q;have bx5:=ny.keep (λb o e q=>ke5 b o e (ak2 b q)) kt5;have c3:=mm.c3;refine aY λNx U=>?_;exists 1,(!_),(!_),zh (lo:=0) (n:=3) (λm σ H6=>∃Yw:Option V,cE K (nc t) H6 C p tp (wL ns) (qO s A f g G)/\BX K t.be (Off H6 C) tp ln lr Y ls dB pl a ns rs (bs.set A (g.set f (!g.getD f al))) cl (if ET f g=ag then Vi cnt G.e m else cnt) (if ET f g=ag then ttR tt G.e m else tt) s.had Ls/\(∀b v,Off J C b=ac v->b∉dB->b≠pl->¬a.P b->Off H6 C b=ac v)/\(∀c y,cD K (Off J C) c y->cD K (Off H6 C) c y)/\σ=[ac (.ref p),ac (.ref Y),ac (.ref ls),ac (.ref a.lt),ac (.ref a.wd),ac (.int kk),ac (.ref fl),ac (.ref lg),ac (.int (A:Nat)),ac (.int (f:Nat)),ac (.bl (g.getD f al)),ac (.bl (ET f g)),ac (.ref L),ry,Yw]) ⟨_,N5,by split <;> exact bx5,λb v e _ _ _=>e,λ_ _ z=>z,2⟩ ?_ ?_;rintro m σ H6 Nz EU hm ⟨Yw,N6,L5,kw6,kt6,rfl⟩;rw[dQ];obtain⟨us,ve,LY⟩:=L5.dx.WD;have YJ:wL us=rs.length:=(by rw[LY.len,af]);have hqu:yb (us.map cr) (A:Int)=ac (cr (us[A]'∅)):=bO (by rw[ak,aa];rfl);have hqt:cD K (Off H6 C) (us[A]'∅) G.vs:=LY.at' A (us[A]'∅) G.vs (aa _) (by rw[ak,C3];rfl);refine L8 (ET f g&&lz G.e m) (λQ' hQ=>?_) (λZ=>?_) (λZ=>?_);by_cases R:ET f g=ag;exists 191,Aw (fy R) ⟨8,jN (bI.of (aD _ _ ve)) hqu (fN (aD.bP hqt) rfl ⟨19,(by show (0:Int)<=(m:Int);lia),904⟩)⟩;have e:decide (cn (Builtin.bitAnd (G.e/2^(m:Int).toNat) 1)=cn 1)=lz G.e m:=(by rw[cN];exact abt e17.1 e17.2 hm);rw[R,uq,<- e] at hQ;exact hQ;have R:=iw.mpr R;exists 191,qh (by rw[R];rfl) ?_;rw[R,Bool.false_and] at hQ;exact hQ;rw[dg] at Z;rw[eL Z.1,eL Z.1] at L5;exists 8,C,p,tp,ln,lr,Y,ls,dB,pl,a,ns,rs,_,cl,33,s.had,Ls,_,m,2,N6,L5,hm,(LX m).trans c3,λH7 N7 nu kw7 Td=>EU _ _ ⟨_,N7,4,λb v e n1 n2 n3=>kw7 b v (kw6 b v e n1 n2 n3) n1 n2 n3,λc y z=>Td c y (kt6 c y z),2⟩;rw[eL Z.1,eL Z.1];show BX K t.be _ tp ln lr Y ls dB pl a ns rs _ cl (if lz G.e m=ag then _ else _) (if lz G.e m=ag then _ else _) _ Ls;rw[eL Z.2,eL Z.2];exact nu;refine EU _ _ ⟨_,N6,4,kw6,kt6,2⟩;by_cases R:ET f g=ag;rw[R,uq] at Z;rw[eL R,eL R] at L5 ⊢;show BX K t.be _ tp ln lr Y ls dB pl a ns rs _ cl (if lz G.e m=ag then _ else _) (if lz G.e m=ag then _ else _) _ Ls;rw[Z,e8 aH,e8 aH];exact L5;rw[e8 R,e8 R] at L5 ⊢;exact L5;rintro σ H6 ⟨Yw,N6,L5,kw6,kt6,rfl⟩;refine U _ _ ?_;have k6:∀b v,Off H F b=ae->Off J C b=ac v->Off H6 C b=ac v:=λb v e0 e=>kw6 b v e (nli b e0).1 (nli b e0).2 λz=>nP b e0 (.inl z);have l8n:Off H F L=ae:=(by cases e:Off H F L with|none=>rfl|some u=>have:=ny;by_cases z:L∈dB∨L=pl;have z:DP tp ln lr Y ls dB pl L:=z.elim (λz=>.inr (.inr (.inr (.inr (.inr (.inl z)))))) λz=>.inr (.inr (.inr (.inr (.inr (.inr z)))));obtain⟨_,e1⟩:=ny.occ (.inr z);rw[W] at e1;cases e1;rw[Yp _ _ (bN (F:=F) (s1.trans s2) _ _ e) (λy=>z (.inl y)) λy=>z (.inr y)] at W;cases W);have lt6:=S.keep (λb o e z=>k6 b o (by rcases z with z|z;rw[z];exact lg0;exact (abw b z).1) e) kt6;have hl6:=k6 _ _ l8n LN;have abr:=To.mono kt6;obtain⟨d6,f6,ak4⟩:=N6.qP;refine aY λNx U=>?_;exists 17,.bl _,21,e9 ?_;exists 1,p,31,ak4,2,C,p,tp,ns.length,1,N6,λl9 q9 H9 s9 ahp ue hq9=>?_;have r1:cP K H9 q9 (((qO s A f g G).cps.map Yv).map λx=>x.map cn):=(by rw[<- Qs];exact hq9);have r2:cP K H9 ql (((qO s A f g G).cps.map Yv).map λx=>x.map cn):=(by rw[<- Qs];exact abr.mono λc y z=>s9.bP (aD.bP z));exists 1,.list (((qO s A f g G).cps.map Yv).map HM),.list (((qO s A f g G).cps.map Yv).map HM),⟨l9,1,bI.of ue,yV r1⟩,⟨L,1,bI.of (s9 _ _ (aD _ _ hl6)),yV r2⟩,r6 _,r6 _,r4 (by show bj _+1<=64;have:=Dd ((qO s A f g G).cps.map Yv);lia) hr.units,14;rw[SeqAt.eqv_refl (.list (((qO s A f g G).cps.map Yv).map HM)) (r6 _)];refine e9 (U [ac (.ref p),ac (.ref Y),ac (.ref ls),ac (.ref a.lt),ac (.ref a.wd),ac (.int kk),ac (.ref fl),ac (.ref lg),ac (.int (A:Nat)),ac (.int (f:Nat)),ac (.bl (g.getD f al)),ac (.bl (ET f g)),ac (.ref L),ry,Yw] _ ?_);have o9:=bN (F:=C) s9;have N9:=N6.mono s9;have bx9:=L5.mono o9;have lt9:=lt6.keep (λb o e _=>o9 b o e) λc y z=>o9.bP z;obtain⟨qt,Qv,MT⟩:=bx9.wx.le;have mm':=mm.tog (i:=A) (x:=f) (b:=g) (r:=G);have VC:wL qt=(qO s A f g G).ls.length:=(by rw[MT.len,af,mm'.ml]);have ao6:(qO s A f g G).ls.length<=34:=(by have:=sd3.ln;lia);have S8:=ad6 (s:=s) (i:=A) (x:=f) (b:=g) (r:=G);have dn':=dn.tog (i:=A) (x:=f) (b:=g) (r:=G);generalize qO s A f g G=s' at N9 lt9 mm' VC ao6 sd3 S8 dn';rw[<- S8] at bx9;exists 1,a.lt,1,.inl (bI.of (aD _ _ Qv)),(((qt.map cr).length:Nat):Int),26,by rw[af];lia,λlh O3=>?_;rw[af,VC];obtain⟨d9,f9,ak5⟩:=N9.qP;refine eX (n:=((s'.ls.length:Int)).toNat) (λm ys H2=>∃I:List am,ys=I.map cr/\wL I=m/\∀(j:Nat)l M,I[j]?=ac l->(MU s')[j]?=ac M->l≠lh/\∃qs:List am,H2 l=ac (.lst (qs.map cr))/\cP K H2 qs (M.map ck.vs)) O3 uw k7 ⟨[],22,λj l M e=>by cases e⟩ ?_ ?_;rintro m ys H3 hi s3 hy ⟨I,rfl,el,hls⟩ y H4 ⟨rfl,rfl⟩;rw[dQ];have hm:m<wL s'.ls:=∅;have hlm:=aa hm;exists 1,p,31,s3 _ _ ak5,21,C,p,tp,ns.length,m,s',s'.ls[m],2,N9.mono s3,hlm,λl5 q5 J s5 abv LN hq5=>?_;have Sh:=s5 _ _ hy;have n5:l5≠lh:=(aC hy abv).symm;refine dF O3 hi (s3.trans s5) Sh (by rw[af,el];exact b9 ∅) ⟨I++[l5],by rw[aK];rfl,by rw[av,el];rfl,λj l M e1 e2=>?_⟩;by_cases z:j<wL I;rw[bu z] at e1;obtain⟨a2,q,a3,a4⟩:=hls j l M e1 e2;exists a2,q,br _ _ (s5 _ _ a3) a2,a4.mono λb x y=>cD.past Sh c7 br (s5.bP y);have ej:j=I.length:=(by have:=(aj.mp e1).1;rw[av] at this;have:j<wL I+1:=this;lia);rw[ej,bZ (az _),gq] at e1;cases e1;rw[ej,el,ak,hlm] at e2;cases e2;exists n5,q5,br _ _ LN n5,hq5.mono λb x=>cD.past Sh c7 br;rintro ys Nb Fc aea ⟨la2,rfl,yW,ao7⟩;rw[cN] at yW;have z0:=bN (F:=C) Fc;have lt10:=lt9.keep (λb o e _=>z0 b o e) λc y z=>z0.bP z;refine⟨1,.list ((MU s').map zV),.list ((MU s').map zV),⟨lh,1,bI.of aea,Qu (by rw[af];exact yW) λj l M e1 e2=>by
   obtain⟨_,q,a3,a4⟩:=ao7 j l M e1 e2;exact⟨q,bI.of a3,a4⟩⟩,⟨lg,1,bI.of (aD _ _ lt10.at_),Qu lt10.len λj l M e1 e2=>by
   obtain⟨q,a3,a4⟩:=lt10.it j l M e1 e2;exact⟨q,bI.of (aD _ _ a3),a4.mono λb x z=>aD.bP z⟩⟩,JD _,JD _,r4 (by show bj _+1<=64;have:=S9 (MU s');lia) hr.units,4⟩
  rw[SeqAt.eqv_refl (.list ((MU s').map zV)) (JD _)];refine k s' _ _ _ C Nb (N9.mono Fc) (bx9.mono z0) sd3 mm' dn' λb v e n1 n2 n3=>z0 b v (o9 b v (kw6 b v (ke5 b v (Yp b v (bN (F:=F) (s1.trans s2) b v e) n1 n2) λz=>?_) n1 n2 n3));rw[(abw b z).1] at e;cases e
inductive OE(K:ai)(CT:am)(c:NC)(vs:List V)(H:Hp)(Q:VK)(E:XK):Prop
 |mk(F:am->Prop)(p tp ln lr b0 ls:am)(dB:List am)(pl:am)(a:WA)(ns:List Int)(rs:List R5)(bs:List (List Bool))(cl:List (Nat×Nat))(cnt:List Nat)(tt:Nat->List T3)(Ls:List L4)(D:Nat)(s:NS)(dd m:Int):vs=[.ref p,.int (ns.length:Nat),.ref b0,.ref ls,.ref pl,.ref a.lt,.ref a.wd,.int dd,.int m]->cR ns rs->cE K c H F p tp (wL ns) s->BX K CT (Off H F) tp ln lr b0 ls dB pl a ns rs bs cl cnt tt s.had Ls->wH ns rs bs cl D s->x9 s Ls cnt tt->Dn s->D<=3400->0<wL cl->(∀(s':NS)(bs':List (List Bool))(YO:List (Nat×Nat))(cnt':List Nat)(DO:Nat->List T3)F' H',cE K c H' F' p tp (wL ns) s'->BX K CT (Off H' F') tp ln lr b0 ls dB pl a ns rs bs' YO cnt' DO s'.had Ls->wH ns rs bs' YO D s'->x9 s' Ls cnt' DO->Dn s'->wL YO=cl.length->Kw (Off H F) (Off H' F') dB pl a->Q (.bl ag) H')->OE K CT c vs H Q E
theorem Vn{t:Ad}(T:Txt K mg t):cH P w K mg base iJ 7 t.yy t.C0 ["_law_net","_law_size","_law_ropes_here","_law_stood","_law_places","_law_letters","_law_world","_law_deed","_law_more"] (OE K t.be (nc t)):=by refine T.NK.F.jv uL λH Q E hr h=>?_;·obtain⟨F,p,tp,I,G,b0,ls,dB,pl,a,ns,rs,C,cl,cnt,B,Ls,D,s,dd,m,rfl,o,N,bx,f,i,dn,hD,hcl,k⟩:=h;exists _,(aq (cC (qT kU (pv 7) aA) (aq (sS 9 uL (bf dc (bf eG (pv 8) aA) aA)) (bz (cC (ku (cM (pv 0) T.bG T.Em (IL T) hr (kN (bf dc (pv 8) (pv 1)) (pv 9)))) (oE (cG (HN T) hr T.FJ (kN (pv 6) (pv 9)))) bw))) (bz (cC (PW.pt (wQ (qT kU (pv 7) aA) (tO (qT DY (pv 2) (fX gM))))) (oR (cG (YA T) hr T.RC (aN6 (pv 0) (pv 2) (pv 3) (pv 5) (pv 6) (pv 8)))) (bz (cC (qT kU (pv 7) aA) (aq (sS 10 uL (bf dc (pv 8) (lS T.fV (pv 4)))) (aq (wR (xL (pv 4) (pv 10)) (JG (n:=2) rfl (gJ (gT 11 uL) (gJ (gT 9 uL) za)))) (aq (wR (dY (kN (bf dc (bf eG (pv 8) aA) (pv 1)) (pv 9))) (GB (pv 4) (pv 10) set_list)) (aq (eE (cM (pv 0) T.bG T.KE (Su T) hr (kN (pv 10) (bf dc (bf eG (pv 8) aA) (pv 1))))) (bz (cC (qT DY (xL (pv 4) (pv 10)) (dY (kN (pv 11) (pv 9)))) (oE (cG (HN T) hr T.FJ (kN (pv 6) (pv 9)))) bw)))))) bw))))) oB),4;left;have n1:=o.n1;have tM:wL cl<=20:=(by have:=f.bd.tM;rw[f.hm,af] at this;exact this);have hml:wL s.aL=cl.length:=(by rw[f.hm,af]);obtain⟨d1,f1,cy⟩:=N.qP;refine jO (λσ U=>∃(q:NS)(j:List (List Bool))(YO:List (Nat×Nat))(e:List Nat)(DO:Nat->List T3)(F':am->Prop),cE K (nc t) U F' p tp (wL ns) q/\BX K t.be (Off U F') tp I G b0 ls dB pl a ns rs j YO e DO q.had Ls/\wH ns rs j YO D q/\x9 q Ls e DO/\Dn q/\wL YO=cl.length/\Kw (Off H F) (Off U F') dB pl a) ?_ (λN' hN=>?_);rintro σ U ⟨q,j,YO,e,DO,F',x1,x2,x3,x4,x5,x6,x7⟩;exact k q j YO e DO F' U x1 x2 x3 x4 x5 x6 x7;have Z:∀σ l,aG H l->N' σ l:=λσ l A=>hN σ l ⟨s,C,cl,cnt,B,F,N.mono A,bx.mono (bN A),f,i,dn,2,Kw.of (bN A)⟩;exists 10,iW (λe5=>?_) (λe5=>?_);(·obtain⟨x,ex,hx⟩:=uf m (show 0<wL ns by lia);obtain⟨g,eg,hg⟩:=uf (m/6) (show 0<3 by decide);refine aY λNx u=>?_;exists 59,(by show (0:Int)<3;decide),u _ _ ?_;show OL _ _ _ _ (List.set _ 9 (ac (cn (m/6%3)))) _;rw[show m/6%3=(g:Int) from eg];have W:NW K (nc t) t.be H F p tp I G ns rs s:=bx.dx.lA.nw N λb z=>z;exists 1,p,31,cy,289,(by show (0:Int)<(ns.length:Int);lia),14;(try dsimp only);rw[ex];exists F,p,tp,I,G,ns,rs,s,o,x,g,2,W,f.ok,hx,hg,λd F2 H2 _ hf N2 st2 _=>?_;have Vo:=f.call (g:=g) (x:=x) hf;have Y:Dn (nj s g x d):=dn.kl adK;have L6:=bx.mono (fB st2);have kw2:Kw (Off H F) (Off H2 F2) dB pl a:=Kw.of (fB st2);exists 14;by_cases z:d=s.R g x;have ec:nj s g x d=s:=(by unfold nj;rw[eL z]);rw[ec] at N2 Vo Y;rw[fy z];exact e9 (hN _ _ ⟨s,C,cl,cnt,B,F2,N2,L6,Vo,i,Y,2,kw2⟩);have ec:nj s g x d=rZ {s with R:=fc s.R g (RM.upd (s.R g) x d)} g:=(by unfold nj;rw[e8 z]);rw[gn z];refine fY ⟨8,F2,p,tp,I,G,b0,ls,dB,pl,a,ns,rs,C,cl,cnt,B,s.had,Ls,_,g,2,N2,L6,hg,i.c3,λH3 N3 ny kw3 _=>hN _ _ ⟨_,C,cl,cnt.set g (cnt.getD g 0+1),fc B g [],F2,N3,4,Vo,4,Y,2,kw2.trans kw3⟩⟩;rw[ec];exact ny;rw[ec];exact x9.news (s:={s with R:=fc s.R g (RM.upd (s.R g) x d)}) ⟨i.ml,i.c3,i.lq,i.tp⟩ hg);refine abg ?_ (λrest=>?_);rotate_left;exists 10,iW (λe2=>?_) (λe2=>rest _ (aG.refl _));obtain⟨us,ve,LY⟩:=bx.dx.WD;exists 1,aS _,λz J=>?_;have S:=aG.new (o:=.lst []) J;have ha1:=au (H:=H) (a:=z) (o:=.lst []);generalize upd H z (.lst [])=l at S ha1;have aaR:cP K l us ((rs.map R5.ns).map λx=>x.map cn):=(by rw[<- aks];exact LY.mono λb x z=>S.bP (aD.bP z));exists .list ((rs.map R5.ns).map HM),.list [],⟨b0,1,bI.of (S _ _ (aD _ _ ve)),yV aaR⟩,⟨z,[],2,bI.of ha1,2⟩,r6 _,2,r4 (by show bj _+1<=64;have:=Dd (rs.map R5.ns);lia) hr.units,14;rw[adL];by_cases er:rs=[];subst er;exact e9 (rest l S);(have:((rs.map R5.ns).map HM).isEmpty=al:=by cases rs with|nil=>exact ff rfl er|cons=>rfl);rw[this];refine fY ⟨888,F,p,tp,I,G,b0,ls,dB,pl,a,ns,rs,C,cl,cnt,B,Ls,D,s,m,2,o,N.mono S,bx.mono (bN S),f,i,dn,hD,er,λq j e DO F' U y1 y2 y3 y4 y5 y6=>?_⟩;exact k q j cl e DO F' U y1 y2 y3 y4 y5 rfl ((Kw.of (bN S)).trans y6);intro l A;exists 10,iW (λe7=>?_) (λe7=>Z _ _ A);have N1:=N.mono A;have bx1:=bx.mono (bN (F:=F) A);obtain⟨v,adV,adW⟩:=bx1.dx.lC;have O:=aD _ _ adV;have YN:=adW.mono λb x z=>aD.bP z;have eqp:wL v=cl.length:=(by rw[YN.len,af]);have abm:(((v.map cr).length:Nat):Int)=(cl.length:Int):=(by rw[af,eqp]);obtain⟨x,ex,hx⟩:=uf m hcl;obtain⟨y,ey,hy⟩:=uf (m/6) (show 0<wL ns by lia);have adX:yb (v.map cr) (x:Int)=ac (.ref (v[x]'∅)):=bO (by rw[ak,aa];rfl);have hqx:=YN.at' x (v[x]'∅) [.int cl[x].1,.int cl[x].2] (aa _) (by rw[ak,aa hx];rfl);have hgx:s.groups.getD x 0=cl[x].2:=(by rw[f.gr,ao,ak,aa hx];rfl);have hhx:s.aL[x]?=ac cl[x].1:=(by rw[f.hm,ak,aa hx];rfl);have g3:cl[x].2<3:=(by have:=f.bd.g3 (s.groups.getD x 0) (by rw[ao,aa (show x<wL s.groups by rw[f.bd.gl];lia)];exact aP _);rw[hgx] at this;exact this);refine aY λNx u=>?_;exists 8,pl,1,.inl (bI.of O),9,(by rw[abm];lia),u _ _ ?_;(try dsimp only);rw[abm,ex];refine aY λNx u=>?_;exists 8,pl,39,bI.of O,adX,31,hqx,2319,u [ac (.ref p),ac (.int (ns.length:Nat)),ac (.ref b0),ac (.ref ls),ac (.ref pl),ac (.ref a.lt),ac (.ref a.wd),ac (.int dd),ac (.int m),ac (.int (cl[x].2:Nat)),ac (.int (x:Nat)),ac (.int (cl[x].1:Nat))] _ ?_;refine aY λNx u=>?_;exists 519,(by show (0:Int)<(ns.length:Int);lia),4;(try dsimp only);rw[ey];exists 1,jD,λz J=>?_;have X:=aG.new (o:=.tup [cn y,cn (cl[x].2:Nat)]) J;have ha2:=au (H:=l) (a:=z) (o:=.tup [cn y,cn (cl[x].2:Nat)]);generalize upd l z (.tup [cn y,cn (cl[x].2:Nat)])=H2 at X ha2;have N2:=N1.mono X;have L6:=bx1.mono (bN (F:=F) X);have r:=bN (F:=F) X _ _ adV;have ao8:=adW.mono λb x=>(bN (F:=F) X).bP (a:=b) (xs:=x);exists 8,pl,33,x,22,X _ _ O,(by rw[af];exact tP ∅),u _ _ ?_;have N3:=N2.past (o:=.lst ((v.map cr).set x (.ref z))) r c7;have YL:=L6.dx.aov (x:=x) (c:=(y,cl[x].2)) r ao8 (N2.J6 (cD.of ha2));rw[<- nA (c9 r).1] at YL;have Yp:Kp (Off H2 F) (Off (upd H2 pl (.lst ((v.map cr).set x (.ref z)))) F) dB pl:=Kp.upd r (.inr rfl);generalize upd H2 pl (.lst ((v.map cr).set x (.ref z)))=H3 at N3 YL Yp;have ny:=L6.kp Yp YL;have W3:NW K (nc t) t.be H3 F p tp I G ns rs s:=YL.lA.nw N3 λb z=>z;obtain⟨d3,f3,CB⟩:=N3.qP;refine aY λNx u=>?_;exists 1,p,31,CB,21519,(by show (0:Int)<(ns.length:Int);lia),4;(try dsimp only);rw[ey];exists F,p,tp,I,G,ns,rs,s,x,y,2,W3,6,f.bd.gl,f.bd.g3,hy,λF4 H4 W4 Jq=>u _ _ ?_;have bx4:=ny.mono (fB Jq);have kw4:Kw (Off H F) (Off H4 F4) dB pl a:=((Kw.of (bN (A.trans X))).trans Yp.kw).trans (Kw.of (fB Jq));have L:=f.move hx hy;have M:=dn.move (x:=x) (y:=y);have YG:(cl.set x (y,cl[x].2)).length=cl.length:=aQ;obtain⟨q4,ao9,ak7⟩:=bx4.dx.lC;have eq4:wL q4=cl.length:=(by rw[ak7.len,af,YG]);have apa:yb (q4.map cr) (x:Int)=ac (.ref (q4[x]'∅)):=bO (by rw[ak,aa];rfl);have apb:=ak7.at' x (q4[x]'∅) [.int y,.int cl[x].2] (aa _) (by rw[ak,bE,eL rfl,eL hx];rfl);exists 8,jN (bI.of (aD _ _ ao9)) apa ⟨8,jD,λz5 hz5=>?_⟩;have u5:=aG.new (o:=.tup [cn (cl[x].1:Nat),cn (cl[x].2:Nat)]) hz5;have g5:=au (H:=H4) (a:=z5) (o:=.tup [cn (cl[x].1:Nat),cn (cl[x].2:Nat)]);generalize upd H4 z5 (.tup [cn (cl[x].1:Nat),cn (cl[x].2:Nat)])=H5 at u5 g5;have o5:=bN (F:=F4) u5;have N5:=W4.dO.mono u5;have bx5:=bx4.mono o5;have kw5:=kw4.trans (Kw.of (a:=a) (dB:=dB) (pl:=pl) o5);exists .tuple (([(y:Int),(cl[x].2:Int)]:List Int).map .int),.tuple (([(cl[x].1:Int),(cl[x].2:Int)]:List Int).map .int),Rep.A2 (ns:=[(y:Int),(cl[x].2:Int)]) (u5.bP (aD.bP apb)),Rep.A2 (ns:=[(cl[x].1:Int),(cl[x].2:Int)]) (cD.of g5),ic _,ic _,r4 (by show bj _+1<=64;rw[lX];decide) hr.units,14;rw[Jv];by_cases J:y=cl[x].1;have em:p7 s x y=s:=(by unfold p7;rw[eL (by rw[hhx,J])]);have hd:decide ((y:Int)=(cl[x].1:Int)/\(cl[x].2:Int)=(cl[x].2:Int))=ag:=fy ⟨by rw[J],2⟩;rw[hd];rw[em] at N5 L M;exact e9 (hN _ _ ⟨s,C,_,cnt,B,F4,N5,bx5,L,i,M,YG,kw5⟩);have em:p7 s x y=rZ {s with aL:=s.aL.set x y} (s.groups.getD x 0):=(by unfold p7;rw[e8 (by rw[hhx];exact λz=>J (aO z).symm)]);have hd:decide ((y:Int)=(cl[x].1:Int)/\(cl[x].2:Int)=(cl[x].2:Int))=al:=gn λz=>J (by have:=z.1;lia);rw[hd];refine fY ⟨8,F4,p,tp,I,G,b0,ls,dB,pl,a,ns,rs,C,_,cnt,B,s.had,Ls,_,cl[x].2,2,N5,bx5,g3,i.c3,λH6 N6 L5 kw6 _=>hN _ _ ⟨_,C,_,cnt.set cl[x].2 (cnt.getD cl[x].2 0+1),fc B cl[x].2 [],F4,N6,4,L,4,M,YG,kw5.trans kw6⟩⟩;rw[em];exact L5;rw[em,hgx];exact x9.news (s:={s with aL:=s.aL.set x y}) ⟨i.ml,i.c3,i.lq,i.tp⟩ g3
inductive OF(K:ai)(CT:am)(c:NC)(vs:List V)(H:Hp)(Q:VK)(E:XK):Prop
 |mk(F:am->Prop)(p tp ln lr b0 ls:am)(dB:List am)(pl:am)(a:WA)(ns:List Int)(rs:List R5)(bs:List (List Bool))(cl:List (Nat×Nat))(cnt:List Nat)(tt:Nat->List T3)(Ls:List L4)(D:Nat)(s:NS):vs=[.ref p,.ref a.wd]->cE K c H F p tp (wL ns) s->BX K CT (Off H F) tp ln lr b0 ls dB pl a ns rs bs cl cnt tt s.had Ls->wH ns rs bs cl D s->x9 s Ls cnt tt->D<=3500->(∀H',aG H H'->Q (.bl ag) H')->OF K CT c vs H Q E
theorem Vp{t:Ad}(T:Txt K mg t):cH P w K mg base iJ 3 t.yz t.C1 ["_law_net","_law_world"] (OF K t.be (nc t)):=by refine T.NL.F.jv zA λH Q E hr h=>?_;·obtain⟨F,p,tp,ln,lr,b0,ls,dB,pl,a,ns,rs,bs,cl,cnt,f,Ls,D,s,rfl,N,bx,sd,mm,hD,k⟩:=h;exists _,(aq (fS (eF rfl T.gY (fR aA)) (gT 2 zA) (aq (sS 3 zA (cB Fi T.FL boot_sorted (fR (VN (fE (kO zA ["_law_pair","_law_rope"] [ae,ae]) rfl (Rb (T7 uh PySem.F.slot_dict_items PySem.F.type_dict_items Ra (xL (xL (pv 1) aA) (pv 2)))) (λ_ _ _ _=>by exact (OZ K rfl (n:=2) rfl (gJ (gS 0 Dr) (gJ (gS 1 Dr) za)))) (λ_ _ _ _=>by exact jk) (λ_ _ _ _=>by exact (dY (Ic (yT K (pv 0) aA) (yT K (pv 0) aA) (pv 1))))))))) (bz (cC (qT DY (cM (pv 0) T.bG T.Ii (Qi T) hr (fR (pv 2))) (pv 3)) oB bw)))) oB),4;left;obtain⟨d1,f1,cy⟩:=N.qP;refine aY λNx bW=>?_;exists 1,(!_),(!_),zh (lo:=0) (n:=3) (λm σ G=>∃v2 v3:Option V,aG H G/\σ=[ac (.ref p),ac (.ref a.wd),v2,v3]) ⟨33,aG.refl _,2⟩ ?_ ?_;rintro g σ G Nz EU hg ⟨v2,v3,M,rfl⟩;rw[dQ];obtain⟨d,X⟩:∃d,a.ds[g]?=ac d:=⟨_,aa (by rw[bx.wx.d3];exact hg)⟩;have WK:=M _ _ (aD _ _ bx.wx.w);have hd2:=M _ _ (aD _ _ bx.wx.d);have y:=M _ _ (aD _ _ (bx.wx.dt g d X));have atd:yb (a.ds.map cr) (g:Int)=ac (.ref d):=bO (by rw[ak,X];rfl);have B:=mm.tp g hg;have oeg:=WJ B (sd.bd.tb g).2;have tl:(f g).length<64:=(by rw[B.length_eq];have:=sd.nb g;lia);refine aY λNx bW=>?_;exists d,(f g).map eY,y,4;exists 1,oS (bI.of WK) (bO (j:=1) rfl) ⟨1,jN (bI.of hd2) atd ⟨show tyV K "dict" (.ref d) G from .inr (.inr (.inl ⟨2,.inr ⟨_,y⟩⟩)),d,12,y,λv hv=>?_⟩⟩;have t1:=aG.new (o:=Dm v d) hv;have Y:=au (H:=G) (a:=v) (o:=Dm v d);have hd1:=t1 _ _ y;generalize upd G v (Dm v d)=H1 at t1 Y hd1;exists v,d,1,Y,hd1,λob=>?_;intro Z l;have r:=au (H:=H1) (a:=d) (o:=.AN ob (.dT ((f g).map eY)));have hH:∀{H3:Hp},aG (upd H1 d (.AN ob (.dT ((f g).map eY)))) H3->aG G (upd H3 d (.dT ((f g).map eY))):=λ{H3} s3 b u e=>(by by_cases z:b=d;subst z;rw[y] at e;cases e;exact au;rw[aI z];exact s3 _ _ (by rw[aI z];exact t1 _ _ e));generalize upd H1 d (.AN ob (.dT ((f g).map eY)))=H3 at r hH l;refine eX (n:=((f g).map eY).length) (λi ys R=>∃L:List am,ys=L.map cr/\gP K R L ((f g).take i)) l (ZZ r) (Rc r) ⟨[],2,gP.nil⟩ ?_ ?_;rintro i ys R hi s4 hy ⟨L,rfl,U⟩ x H5 ⟨q,kb,ky,vv,hq,rfl,rfl,hkv,W⟩;have S:i<(f g).length:=(by rw[af] at hi;exact hi);rw[ak,aa S] at hkv;cases hkv;generalize ht:(f g)[i]=u;have hu:(f g)[i]?=ac u:=(by rw[aa S,ht]);obtain⟨u1,u2,u3⟩:=u;rw[ht] at W;have u4:=aG.new (o:=.tup [.ref kb,.int u3]) hq;have ak8:cD K _ kb [cn u1,cn u2]:=cD.of (u4 _ _ W);exists q,1,cD.of au,23194;exists 1,fN ak8 rfl ⟨1,fN ak8 rfl ⟨1,k9,λc hc=>?_⟩⟩;have u6:=aG.new (o:=.tup [cn u1,cn u2,cn u3]) hc;have I:=u4.trans u6;have hy7:=I _ _ hy;have hl:wL L=i:=(by rw[U.1,b6];lia);refine dF l hi (s4.trans I) hy7 (by rw[af];exact b9 ∅) ⟨L++[c],-_,4⟩;rw[gv,hu];exact gP.past hy7 c7 br (gP.snoc (t:=(u1,u2,u3)) (U.mono I) (cD.of au));rintro ys R s4 hy ⟨L,rfl,U⟩;have Se:Z≠d:=(aC r l).symm;rw[af,cQ] at U;exists ob,s4 _ _ r,4;have s24:=hH s4;exists Z,L,f g,2,bI.of (by rw[aI Se];exact hy),gP.past (s4 _ _ r) Z3 br U,tl,λl5 Ur us LN hpu hsu C=>bW [ac (.ref p),ac (.ref a.wd),ac (.int (g:Nat)),ac (.ref l5)] _ ?_;have w5:=s24.trans (aG.new (o:=.lst (Ur.map cr)) LN);have O:=au (H:=upd R d (.dT ((f g).map eY))) (a:=l5) (o:=.lst (Ur.map cr));have C:=C.mono (aG.new (o:=.lst (Ur.map cr)) LN);generalize upd (upd R d (.dT ((f g).map eY))) l5 (.lst (Ur.map cr))=H6 at w5 O C;have J:=M.trans w5;exists 1,p,31,J _ _ cy,21,F,p,tp,ns.length,g,s,2,N.mono J,hg,by rw[<- B.length_eq];exact tl,λl7 q7 A H7 I auP QB hT7 hP7 hS7=>?_;have eu:A=us:=O9 (hP7.trans (B.symm.trans hpu.symm)) hS7 hsu;subst eu;exists 1,.list (A.map yq),.list (A.map yq),⟨l7,1,bI.of QB,L1 hT7⟩,⟨l5,1,bI.of (I _ _ O),L1 (C.mono I)⟩,Gv _,Gv _,r4 (by show bj _+1<=64;have:=OB A;lia) hr.units,14;rw[SeqAt.eqv_refl (.list (A.map yq)) (Gv _)];exact e9 (EU _ _ ⟨33,J.trans I,2⟩);rintro σ G ⟨v2,v3,M,rfl⟩;exact bW _ _ (k G M)
inductive Ma(K:ai)(CT:am)(c:NC)(vs:List V)(H:Hp)(Q:VK)(E:XK):Prop
 |mk(F:am->Prop)(p tp ln lr:am)(ns:List Int)(rs:List R5)(bs:List (List Bool))(cl:List (Nat×Nat))(D:Nat)(s:NS)(g:Nat):vs=[.ref p,.int (ns.length:Nat),.int g]->cR ns rs->NW K c CT H F p tp ln lr ns rs s->wH ns rs bs cl D s->g<3->(∀s' F' H',NW K c CT H' F' p tp ln lr ns rs s'->wH ns rs bs cl D s'->Step H F H' F'->Q .gk H')->Ma K CT c vs H Q E
theorem Tp{t:Ad}(T:Txt K mg t):cH P w K mg base iJ 5 t.uU t.zK ["_law_net","_law_size","_law_group"] (Ma K t.be (nc t)):=by refine T.KH.F.jv Bv λH Q E hr h=>?_;·obtain⟨F,p,C,A,I,ns,v,R,S,D,st,g,rfl,o,N,sd,hg,k⟩:=h;exists _,(bz (fS (eF rfl T.gY (fR (bf Zd aA (pv 1)))) (gT 3 Bv) (bz (fS (eF rfl T.gY (fR (pv 1))) (gT 4 Bv) (oE (cM (pv 0) T.bG T.Em (IL T) hr (kN (bf dc (bf gm (pv 4) (pv 3)) (pv 1)) (pv 2)))))))),4;left;have n10:=o.n10;have n1:=o.n1;exists 19,.inl ⟨!_,!_⟩,2*(ns.length:Int),266,yf (n:=(2*(ns.length:Int)).toNat) (λi b u=>∃(l:NS)(s:am->Prop)(L e:Option V),NW K (nc t) t.be u s p C A I ns v l/\wH ns v R S D l/\Step H F u s/\b=[ac (.ref p),ac (.int (ns.length:Nat)),ac (.int g),L,e]) ⟨st,F,33,N,sd,Step.refl' (aG.refl _),2⟩ ?_ ?_;(·rintro i b u hi ⟨l,s,L,e,J,G,c,rfl⟩;exists 1,(ns.length:Int),266,yf (n:=(ns.length:Int).toNat) (λj b z=>∃(m:NS)(r:am->Prop)(e:Option V),NW K (nc t) t.be z r p C A I ns v m/\wH ns v R S D m/\Step H F z r/\b=[ac (.ref p),ac (.int (ns.length:Nat)),ac (.int g),ac (.int (0+(i:Int))),e]) ⟨l,s,_,J,G,c,2⟩ ?_ ?_;(·rintro j b z hj ⟨m,r,e,y,a,f,rfl⟩;obtain⟨loc,dx,q,hp,O,hF,hT⟩:=id y.dO;have U:=O.get .dO _ rfl;rw[hp] at U;have B:(0:Int)<=(0+(j:Int)+(0+(i:Int)))%(ns.length:Int):=cu _ ∅;have Y:(0+(j:Int)+(0+(i:Int)))%(ns.length:Int)<(ns.length:Int):=cz _ ∅;obtain⟨x,ex⟩:∃x:Nat,(0+(j:Int)+(0+(i:Int)))%(ns.length:Int)=(x:Int):=⟨_,(sf B).symm⟩;have Z:x<wL ns:=∅;exists 1,p,31,U,2891964;(try dsimp only);rw[ex];exists 1,r,p,C,A,I,ns,v,m,o,x,g,2,y,a.ok,Z,hg,λd F4 H4 hd X W M _=>?_;exists _,F4,_,y.done M W,a.call X,f.trans M,2);rintro b z ⟨m,r,e,y,a,f,rfl⟩;exists m,r,33,y,a,f,2);rintro b u ⟨l,s,L,e,J,G,c,rfl⟩;exact k l s u J G c
theorem aec(rs:List R5):(rs.map λr=>bL r.d.toNat ag).map stand=rs.map λr=>aB r.d.toNat:=by rw[cU];exact cT λr _=>Ul _
theorem abz{n:Nat}{rs:List R5}(ok:∀r∈rs,r.Ok n):Yr rs (rs.map λr=>bL r.d.toNat ag):=by exists af _,λi r b a c=>?_;rw[ak,a] at c;cases c;rw[List.length_replicate];have:=(ok r (ay a)).d1;lia
theorem alb{ns:List Int}{rs:List R5}{cl:List (Nat×Nat)}(o:cR ns rs)(j:wL cl<=20)(e:∀c∈cl,c.1<wL ns/\c.2<3):SD ns rs (rs.map λr=>bL r.d.toNat ag) cl 0 (S0 ns rs cl):=by exists ⟨af _,λw a=>?_,λg _ i b=>⟨4,Int.le_refl _,⟨Int.le_refl _,by show (0:Int)<(ns.length:Int);lia⟩,.inl rfl⟩⟩,⟨44,λg k=>?_,λh f=>?_,4,λw a=>?_,aS _,λl z=>(by cases z),aS _,λc z=>(by cases z),λg=>⟨aS _,jh⟩⟩,(aec rs).symm,abz o.ok,22;obtain⟨r,m,rfl⟩:=bH.mp a;rw[bJ];have:=(o.ok r m).d4;lia;show 0<=ns.getD i 0;rw[ao,aa b];exact o.pos _ (aP b);show (cl.map _).length=(cl.map _).length;rw[af,af];show (cl.map _).length<=20;rw[af];exact j;obtain⟨c,z,rfl⟩:=bH.mp k;exact (e c z).2;obtain⟨c,z,rfl⟩:=bH.mp f;exact (e c z).1;show (cl.map _).length=(cl.map _).length;rw[af,af];obtain⟨c,z,rfl⟩:=bH.mp a;exact aS _
theorem ahC{ns:List Int}{rs:List R5}{cl:List (Nat×Nat)}(o:cR ns rs)(b:wL cl<=20)(a:∀c∈cl,c.1<wL ns/\c.2<3):wH ns rs (rs.map λr=>bL r.d.toNat ag) cl 0 (S0 ns rs cl):=⟨alb o b a,λ_=>akl,aS _,az _,λ_=>az _⟩
inductive abA(K:ai)(vs:List V)(H:Hp)(Q:VK)(E:XK):Prop
 |mk(a:am)(ns:List Int):vs=[.ref a]->bI K H a (ns.map cn)->wL ns<=63->(∀H',Q (.bl ag) H')->abA K vs H Q E
theorem ahD{t:Ad}(T:Txt K mg t):cH P w K mg base iJ 10 t.Rz t.RA ["_law_script"] (abA K):=by
 refine T.aaj.F.jv jx λH Q E hr h=>?_
 ·obtain⟨a,cs,rfl,hS,hlen,k⟩:=h;exists _,(aq (sS 1 jx (bf gm aA (bf dc (cG (iA T) hr T.iB (kN (pv 0) aA)) aA))) (aq (sS 2 jx (bf dc (cG (iA T) hr T.iB (kN (pv 0) aA)) aA)) (aq (sS 3 jx (cG (U6 T) hr T.NJ (Ic (pv 0) (pv 1) (pv 2)))) (aq (sS 4 jx (cG (Qh T) hr T.Ij (Ic (pv 0) (pv 1) (pv 2)))) (aq (sS 5 jx (cI T.FG (MP T) hr T.ajs (kN (cI T.Dv (Lz T) hr T.agx (kN (cG (U5 T) hr T.NI (kN (pv 0) (pv 1))) (gx gC (by rfl) T.sM boot_list (fR (pv 3))))) (gx gC (by rfl) T.sM boot_list (fR (pv 4)))))) (aq (eE (cG (Tp T) hr T.KH (Ic (pv 5) (pv 1) (pv 2)))) (aq (qm (i:=6) jx.nd rfl (Or.inl rfl) (kO jx ["_law_rope"] [ae]) rfl (eW (pv 3)) (λ_ _ _ _=>by exact (gS 0 XQ)) (λ_ _ _ _=>by exact jk) (λ_ _ _ _=>by exact (bf afZ (fX (fR MY)) (yT K (pv 0) aA)))) (aq (sS 7 jx (gx gC (by rfl) T.sM boot_list (fR (pv 4)))) (aq (sS 8 jx (fX gM)) (aq (sS 9 jx (fX (Ic (fX (Ic aA aA aA)) (fX (Ic A0 A0 A0)) (fE (kO jx ["_law_caller"] [ae]) rfl (eW (pv 4)) (λ_ _ _ _=>by exact (gS 0 XR)) (λ_ _ _ _=>by exact jk) (λ_ _ _ _=>by exact (fX gM)))))) (aq (fS (eW (uv acj (pv 0) (qR aA) (qR aA))) (gT 10 jx) (aq (sS 11 jx (bf dc (pv 10) aA)) (aq (sS 12 jx (bf eG (pv 10) aA)) (aq (sS 13 jx (lS T.fV (i7 (pv 5) T.bG T.eN.m (ko T) (hr.mono (!_)) T.eN.B .nil kH))) (aq (cC (PW.pt (HQ (qT oO (pv 11) aA) (DR (PW.pt (wQ (qT oO (pv 11) aA) (tO (qT kU (pv 13) aA))))))) (bz (sS 14 jx (cG (Te T) hr T.KN (aN7 (pv 5) (pv 3) (pv 6) (pv 7) (pv 8) (pv 9) (pv 12))))) (bz (cC (qT oO (pv 11) aA) (bz (sS 14 jx (cG (Qx T) hr T.Ik (aN7 (pv 5) (pv 3) (pv 6) (pv 7) (pv 8) (pv 9) (bf dc (pv 12) (pv 13)))))) (bz (sS 14 jx (cG (Vn T) hr T.NK (mH (pv 5) (mH (pv 1) (aN7 (pv 3) (pv 6) (pv 7) (pv 8) (pv 9) (pv 11) (pv 12)))))))))) (bz (cC (PW.pt (HQ (jg (ku (pv 14))) (DR (jg (ku (cG (Vp T) hr T.NL (kN (pv 5) (pv 9)))))))) oB bw))))))) (oR (qE zd (fE (kO jx ["_law_caller","_law_net"] [ae,ac 5]) rfl (eF rfl T.gY (fR (lS T.fV (pv 4)))) (λ_ _ _ _=>by exact (gS 0 XS)) (λ_ _ _ _=>by exact jk) (λ_ _ _ _=>by exact (cM (pv 1) T.bG T.NF (U9 T) hr (fR (pv 0))))) (xL (pv 9) aA)))))))))))))),4;left;refine aY λNx f=>?_;exists 1,a,cs,(0),2,hS,!_,_,_,rfl,rfl,(by show (0:Int)<10;decide),94;obtain⟨n,hn,hn1,abB⟩:∃n:Nat,1+cs.getD (0:Int).toNat 0%10=(n:Int)/\1<=n/\n<=10:=(by have h1:=cu (cs.getD (0:Int).toNat 0) (show (10:Int)≠0 by decide);have X:=cz (cs.getD (0:Int).toNat 0) (show (0:Int)<10 by decide);exists (1+cs.getD (0:Int).toNat 0%10).toNat,666);show jq 1 (cn (1+cs.getD (0:Int).toNat 0%10)) _ _ _;rw[hn];refine f _ _ ?_;refine aY λNx f=>?_;exists 1,a,cs,(1),2,hS,!_,_,_,rfl,rfl,(by show (0:Int)<3;decide),4;obtain⟨g,hge,hg⟩:∃g:Nat,cs.getD (1:Int).toNat 0%3=(g:Int)/\g<3:=uf _ (!_);show jq 2 (cn (cs.getD (1:Int).toNat 0%3)) _ _ _;rw[hge];refine f _ _ ?_;refine aY λNx f=>?_;exists 18,a,cs,n,g,2,hS,hn1,abB,hg,λb0 H1 rs s1 hb0 hR1 l14 ok=>f _ _ ?_;refine aY λNx f=>?_;exists 18,a,cs,n,g,2,s1.seq hS,hn1,abB,hg,λcb qs H2 cl c ape hcb hcq hc1 aaQ alc=>f _ _ ?_;have s12:=s1.trans c;refine aY λNx f=>?_;exists 8,a,cs,n,2,s12.seq hS,hn1,abB,λa0 H3 ns s3 ha0 hA3 eln nd nn=>?_;subst eln;have s13:=s12.trans s3;obtain⟨us,hB1,ald⟩:=hR1;have hB3:=(c.trans s3) _ _ hB1;have abC:cP K H3 us (rs.map R5.vs):=ald.mono λb x=>(c.trans s3).bP;have YB:=s3 _ _ hcb;have abD:cP K H3 qs (abe cl):=hcq.mono λb x=>s3.bP;have hS3:=s13.seq hS;have tok:cR ns rs:=⟨nd,ok,hn1,abB,6,nn⟩;have hw4:∀r∈rs,1<=r.d/\r.d<=4:=λr hr'=>⟨(ok r hr').d1,(ok r hr').d4⟩;have he7:∀r∈rs,1<=r.e/\r.e<=7:=λr hr'=>⟨(ok r hr').e1,(ok r hr').e7⟩;exists 1,b0,1,.inl (bI.of hB3),λW X=>?_;have t2:=aG.new (o:=.lst (us.map cr)) X;have hl2:=au (H:=H3) (a:=W) (o:=.lst (us.map cr));generalize upd H3 W (.lst (us.map cr))=H4 at t2 hl2;refine λZ dx np ndx nep=>?_;have t7:aG H4 (upd (upd H4 dx (.own Z)) Z (.ins t.be dx [])):=(aG.new ndx).trans (aG.new (by rw[aI (bT nep)];exact np));exists Z,dx,a0,W,ns,rs,2,au,bI.of (t7 _ _ (t2 _ _ hA3)),⟨W,1,bI.of (t7 _ _ hl2),J7.aeG (l:=W) (abC.mono λb x=>(t2.trans t7).bP)⟩,hn1,abB,nn,nd,6,ok,λln lr H5 hln hlr hT kp=>⟨24⟩;have t5:aG H3 H5:=t2.trans λb o e=>kp b o (t7 b o e) (aC e np);exists 1,cb,1,.inl (bI.of (t5 _ _ YB)),λl3 h3=>?_;have t6:=aG.new (o:=.lst (qs.map cr)) h3;have hl3:=au (H:=H5) (a:=l3) (o:=.lst (qs.map cr));have hT6:=hT.mono t6;have t36:=t5.trans t6;generalize upd H5 l3 (.lst (qs.map cr))=H6 at t6 hl3 hT6 t36;refine λp Gy npp ndx nep=>?_;have t7:aG H6 (upd (upd H6 Gy (.own p)) p (.ins t.cY Gy [])):=(aG.new ndx).trans (aG.new (by rw[aI (bT nep)];exact npp));exists p,Gy,Z,ln,lr,l3,ns,rs,qs,cl,2,au,hT6.mono t7,66,hw4,bI.of (t7 _ _ hl3),abD.mono λb x=>(t36.trans t7).bP,aaQ,alc,λF0 H0 N0 kp fr=>⟨2,f _ _ ?_⟩;have S6:aG H6 (Off H0 F0):=Z8 t7 npp kp fr;have hT0:=hT6.mono S6;refine aY λNx f=>?_;exists 18,F0,p,Z,ln,lr,ns,rs,(rs.map λr=>bL r.d.toNat ag),cl,(0),S0 ns rs cl,g,2,tok,hT0.nw N0 (λb z=>z),ahC tok aaQ alc,hg,λst F H7 W7 Z7 Ub=>f [ac (.ref a),ac (.int (ns.length:Nat)),ac (.int g),ac (.ref b0),ac (.ref cb),ac (.ref p),ae,ae,ae,ae,ae,ae,ae,ae,ae] _ ?_;have N:=W7.dO;have S7:=S6.trans (fB Ub);have hT7:=hT6.mono S7;have S37:=t36.trans S7;have s37:=S37.trans aD;have hB7:=s37 _ _ hB3;have ali:cP K H7 us (rs.map R5.vs):=abC.mono λb x=>s37.bP;have YJ:wL us=rs.length:=(by rw[abC.len,af]);refine aY λNx f=>?_;exists 1,b0,2,⟨_,bI.of hB7⟩,λls hls=>?_;have QE:=bI.of (K:=K) hB7;refine eX (n:=(us.map cr).length) (λi G H8=>∃D:List am,G=D.map cr/\wL D=i/\D.Nodup/\∀(j:Nat) l r,D[j]?=ac l->rs[j]?=ac r->H8 l=ac (.lst ((bL r.d.toNat ag).map cw))/\l≠ls/\H7 l=ae) hls (wU QE) (mR QE) ⟨[],22,jh,λj l r e=>by simp at e⟩ ?_ ?_;rintro i G H8 hi s8 hy ⟨D,rfl,el,hnd,Tq⟩ x H9 ⟨rfl,hx⟩;have hx:=hx _ (s8.seq QE);have hi':i<wL us:=(by rw[af] at hi;exact hi);have C3:rs[i]?=ac rs[i]:=aa ∅;have hq:=ali.at' i us[i] (rs[i]).vs (aa hi') (by rw[ak,C3];rfl);rw[ak,aa hi'] at hx;cases hx;have w4:=hw4 _ (ay C3);exists Xe,λl1 h1=>?_;have s9:=aG.new (o:=.lst [.bl ag]) h1;exists 1,us[i],39,(s8.trans s9).bP hq,2,l1,rs[i].d,12,au,66,(by show 1*rs[i].d.toNat<=bc;exact iG (b9 ∅)),λW X=>?_;rw[TW.agg];have Fc:=s9.trans (aG.new (o:=.lst ((bL rs[i].d.toNat ag).map cw)) X);have abi:=au (H:=upd H9 l1 (.lst [.bl ag])) (a:=W) (o:=.lst ((bL rs[i].d.toNat ag).map cw));have aea:=Fc _ _ hy;have nl2:W≠ls:=(aC (s9 _ _ hy) X).symm;have hn8:H9 W=ae:=s9.free X;have hn7:H7 W=ae:=s8.free hn8;generalize upd (upd H9 l1 (.lst [.bl ag])) W (.lst ((bL rs[i].d.toNat ag).map cw))=Nb at Fc abi aea;refine dF hls hi (s8.trans Fc) aea (by rw[af,el];exact b9 ∅) ⟨D++[W],by rw[aK];rfl,by rw[av,el];rfl,4,λj l' r e1 v=>?_⟩;rw[wK];exists hnd,-_,λx hx y hy'=>?_;have:y=W:=(by simpa using hy');subst this;obtain⟨j,hj⟩:=bM hx;have hjl:=(aj.mp hj).1;exact aC (Tq j x _ hj (aa ∅)).1 hn8;rcases CL e1 with e1|⟨rfl,rfl⟩;obtain⟨z1,z2⟩:=Tq j l' r e1 v;exists by rw[aI z2.1];exact Fc _ _ z1,z2;rw[el,C3] at v;cases v;exists by rw[aI nl2];exact abi,nl2,hn7;rintro G H8 s8 hy ⟨D,rfl,el,hnd,Tq⟩;refine f _ _ ?_;rw[af] at el;have nF:∀b,H7 b=ae->¬F b:=λb e z=>(by obtain⟨o,h⟩:=N.there z;rw[e] at h;cases h);have new:∀l∈D,H7 l=ae/\l≠ls:=λl hl=>(by obtain⟨j,hj⟩:=bM hl;have hjl:=(aj.mp hj).1;exists (Tq j l _ hj (aa ∅)).2.2,(Tq j l _ hj (aa ∅)).2.1);have hX8:wh (Off H8 F) ls D (rs.map λr=>bL r.d.toNat ag):=(by exists gB (nF ls hls) hy,by rw[af];lia,hnd,λi l b e1 v=>?_;rw[ak] at v;cases e3:rs[i]? with|none=>rw[e3] at v;cases v|some r=>rw[e3] at v;cases v;exact gB (nF l (Tq i l r e1 e3).2.2) (Tq i l r e1 e3).1);have N8:=N.mono s8;have S78:=bN (F:=F) s8;have hT8:=hT7.mono S78;have S38:=S37.trans S78;have s38:=S38.trans aD;refine aY λNx f=>?_;exists 1,cb,1,.inl (bI.of (s38 _ _ YB)),λs hpl=>f _ _ ?_;have s9:=aG.new (o:=.lst (qs.map cr)) hpl;have ahF:=au (H:=H8) (a:=s) (o:=.lst (qs.map cr));generalize upd H8 s (.lst (qs.map cr))=H9 at s9 ahF;have N9:=N8.mono s9;have S89:=bN (F:=F) s9;have S39:=S38.trans S89;have S79:=S78.trans S89;have Vq:=s8.free hpl;have Mb:∀{b o},Off H7 F b=ac o->∀l,H7 l=ae->l≠b:=λ{b o} e l hl z=>(by have:=aD _ _ e;rw[<- z,hl] at this;cases this);have nb:∀b o,Off H7 F b=ac o->b∉D/\b≠s:=λb o e=>⟨λz=>Mb e b (new b z).1 rfl,λz=>Mb e s Vq z.symm⟩;obtain⟨⟨dt,htp⟩,hln,_,hlr,_⟩:=id hT7;have ahG:=S37 _ _ hB3;have YR:DX K t.be (Off H9 F) Z ln lr b0 ls D s ns rs (rs.map λr=>bL r.d.toNat ag) cl:=(by exists hT8.mono S89,⟨us,S39 _ _ hB3,abC.mono λb x=>S39.bP⟩,hX8.mono S89,⟨qs,gB (nF s Vq) ahF,abD.mono λb x=>S39.bP⟩,λl hl=>?_,⟨Mb htp s Vq,Mb hln s Vq,Mb hlr s Vq,Mb ahG s Vq,(aC (aD _ _ hX8.at_) hpl).symm⟩;obtain⟨z1,z2⟩:=new l hl;obtain⟨j,hj⟩:=bM hl;have hjl:=(aj.mp hj).1;rw[hX8.len] at hjl;exists Mb htp l z1,Mb hln l z1,Mb hlr l z1,Mb ahG l z1,z2,aC (aD _ _ (hX8.it j l _ hj (aa hjl))) hpl);have hS7:bI K (Off H7 F) a (cs.map cn):=S37.seq hS3;have aln:=S37 _ _ YB;have apj:wL qs<=20:=(by rw[abD.len,af];exact aaQ);have eqs:wL qs=cl.length:=(by rw[abD.len,af]);generalize (rs.map λr=>bL r.d.toNat ag)=bs at YR Z7;have hS9:bI K (Off H9 F) a (cs.map cn):=S79.seq hS7;have ahH:=S79 _ _ aln;have nb9:∀b o,Off H7 F b=ac o->b∉D/\b≠s:=nb;refine aY λNx f=>?_;exists aS _,λlt hlt=>f _ _ ?_;have Fc:=aG.new (o:=.lst []) hlt;have CF:=au (H:=H9) (a:=lt) (o:=.lst []);generalize upd H9 lt (.lst [])=Nb at Fc CF;refine aY λNx f=>?_;exists k9,λI hw0=>?_;have v1:=aG.new (o:=.lst [cn 0,cn 0,cn 0]) hw0;have e1:=au (H:=Nb) (a:=I) (o:=.lst [cn 0,cn 0,cn 0]);generalize upd Nb I (.lst [cn 0,cn 0,cn 0])=qC at v1 e1;refine λU h0=>?_;have v2:=aG.new (o:=.dT []) h0;have v:=au (H:=qC) (a:=U) (o:=.dT []);generalize upd qC U (.dT [])=Wc at v2 v;refine λd1 h1=>?_;have v3:=aG.new (o:=.dT []) h1;have e3:=au (H:=Wc) (a:=d1) (o:=.dT []);generalize upd Wc d1 (.dT [])=X7 at v3 e3;refine λM X=>?_;have v4:=aG.new (o:=.dT []) X;have e4:=au (H:=X7) (a:=M) (o:=.dT []);generalize upd X7 M (.dT [])=H14 at v4 e4;exists k9,λL hw1=>?_;have v5:=aG.new (o:=.lst [cr U,cr d1,cr M]) hw1;have e5:=au (H:=H14) (a:=L) (o:=.lst [cr U,cr d1,cr M]);generalize upd H14 L (.lst [cr U,cr d1,cr M])=H15 at v5 e5;have t45:=v5;have t35:=v4.trans t45;have t25:=v3.trans t35;have su:=v2.trans t25;have t05:=v1.trans su;have t95:=Fc.trans t05;have alo:=t95 _ _ (aD _ _ ahH);have hqc:=bI.of (K:=K) alo;exists 1,cb,2,⟨_,hqc⟩,λw2 WK=>?_;refine eX (n:=(qs.map cr).length) (λi G Xh=>∃hs:List am,G=hs.map cr/\wL hs=i/\hs.Nodup/\∀l∈hs,Xh l=ac (.lst [])/\l≠w2/\H15 l=ae) WK (wU hqc) (mR hqc) ⟨[],22,jh,λl z=>by cases z⟩ ?_ ?_;rintro i G Xh hi YS hy ⟨hs,rfl,el,hnd,O4⟩ z qb ⟨rfl,hz⟩;exists aS _,λW hl2=>?_;have u17:=aG.new (o:=.lst []) hl2;have nl2:W≠w2:=(aC hy hl2).symm;have g17:=au (H:=qb) (a:=W) (o:=.lst []);refine dF WK hi (YS.trans u17) (u17 _ _ hy) (by rw[af,el];rw[af] at hi;exact b9 (by have:=apj;lia)) ⟨hs++[W],by rw[aK];rfl,by rw[av,el];rfl,Gr.ux hnd λz=>?_,λl z=>?_⟩;have:=(O4 W z).1;rw[hl2] at this;cases this;rcases bU.mp z with z|z;obtain⟨z1,z2,z3⟩:=O4 l z;exists br _ _ (u17 _ _ z1) z2,z2,z3;have z:=bV.mp z;subst z;exists br _ _ g17 nl2,nl2,YS.free hl2;rintro G Xh YS hy ⟨hs,rfl,el,hnd,O4⟩;exists k9,λwd WH=>f [ac (.ref a),ac (.int (ns.length:Nat)),ac (.int g),ac (.ref b0),ac (.ref cb),ac (.ref p),ac (.ref ls),ac (.ref s),ac (.ref (WA.lt ⟨wd,I,L,w2,lt,[U,d1,M],hs⟩)),ac (.ref (WA.wd ⟨wd,I,L,w2,lt,[U,d1,M],hs⟩)),ae,ae,ae,ae,ae] _ ?_;have v7:=aG.new (o:=.lst [cr I,cr L,cr w2]) WH;have e7:=au (H:=Xh) (a:=wd) (o:=.lst [cr I,cr L,cr w2]);generalize upd Xh wd (.lst [cr I,cr L,cr w2])=qb at v7 e7;rw[af] at el;have Za:=YS.trans v7;have ahJ:=t95.trans Za;have O17:=bN (F:=F) ahJ;have N17:=N9.mono ahJ;have nF:∀b,H9 b=ae->¬F b:=λb e z=>(by obtain⟨o,h⟩:=N9.there z;rw[e] at h;cases h);have fw0:=Fc.free hw0;have fd0:=Fc.free (v1.free h0);have fd1:=Fc.free (v1.free (v2.free h1));have fd2:=Fc.free (v1.free (v2.free (v3.free X)));have fw1:=Fc.free (v1.free (v2.free (v3.free (v4.free hw1))));have fw2:=t95.free WK;have fwd:=t95.free (YS.free WH);have nds:∀z,z=U∨z=d1∨z=M->z≠wd/\z≠I/\z≠L/\z≠w2/\z≠lt/\∃u,H15 z=ac u:=λz y=>(by rcases y with rfl|rfl|rfl;exists aC (YS _ _ (t25 _ _ v)) WH,(aC e1 h0).symm,aC ((v3.trans v4) _ _ v) hw1,aC (t25 _ _ v) WK,(aC (v1 _ _ CF) h0).symm,_,t25 _ _ v;exists aC (YS _ _ (t35 _ _ e3)) WH,(aC (v2 _ _ e1) h1).symm,aC (v4 _ _ e3) hw1,aC (t35 _ _ e3) WK,(aC ((v1.trans v2) _ _ CF) h1).symm,_,t35 _ _ e3;exists aC (YS _ _ (t45 _ _ e4)) WH,(aC ((v2.trans v3) _ _ e1) X).symm,aC e4 hw1,aC (t45 _ _ e4) WK,(aC ((v1.trans (v2.trans v3)) _ _ CF) X).symm,_,t45 _ _ e4);have md:∀z,z∈[U,d1,M]->z=U∨z=d1∨z=M:=λz y=>(by simpa using y);have Xs:∀{z:am},z≠wd->z≠I->z≠L->z≠w2->z≠lt->z∉[wd,I,L,w2,lt]:=λ{z} a1 a2 a3 a4 a5=>(by simp[a1,a2,a3,a4,a5]);have wd0:wd≠I:=(aC (YS _ _ (su _ _ e1)) WH).symm;have wd1:wd≠L:=(aC (YS _ _ e5) WH).symm;have wd2:wd≠w2:=(aC hy WH).symm;have wdl:wd≠lt:=(aC (YS _ _ (t05 _ _ CF)) WH).symm;have w01:I≠L:=aC ((v2.trans (v3.trans v4)) _ _ e1) hw1;have w02:I≠w2:=aC (su _ _ e1) WK;have w0l:I≠lt:=(aC CF hw0).symm;have w12:L≠w2:=aC e5 WK;have w1l:L≠lt:=(aC ((v1.trans (v2.trans (v3.trans v4))) _ _ CF) hw1).symm;have w2l:w2≠lt:=(aC (t05 _ _ CF) WK).symm;have hsf:∀l∈hs,l∉[wd,I,L,w2,lt]/\l∉[U,d1,M]:=λl z=>(by obtain⟨z1,z2,z3⟩:=O4 l z;exists Xs (aC z1 WH) (aC (su _ _ e1) z3).symm (aC e5 z3).symm z2 (aC (t05 _ _ CF) z3).symm,λy=>?_;obtain⟨_,_,_,_,_,u,e⟩:=nds l (md l y);rw[z3] at e;cases e);have fP:∀z,WA.P ⟨wd,I,L,w2,lt,[U,d1,M],hs⟩ z->H9 z=ae:=λz y=>(by rcases y with rfl|rfl|rfl|rfl|rfl|y|y;exact fwd;exact fw0;exact fw1;exact fw2;exact hlt;rcases md z y with rfl|rfl|rfl;exact fd0;exact fd1;exact fd2;exact t95.free (O4 z y).2.2);have lsE:st.ls=[]:=mG.mp (by have:=Z7.ln;lia);have tsE:∀g,st.ts g=[]:=λg=>mG.mp (by have:=Z7.nb g;lia);have elh:wL st.had=cl.length:=(by rw[Z7.bd.hl,Z7.hm,af]);have alp:WX K (Off qb F) ⟨wd,I,L,w2,lt,[U,d1,M],hs⟩ [0,0,0] (λ_=>[]) st.had []:=by
   exists gB (nF _ fwd) e7,gB (nF _ fw0) ((su.trans Za) _ _ e1),gB (nF _ fw1) (Za _ _ e5),24,λg d e=>?_,⟨gB (nF _ fw2) (v7 _ _ hy),by show hs.length=_;lia,hnd,λz=>(O4 _ z).2.1 rfl,λi l w a1 a2=>?_⟩,⟨[],gB (nF _ hlt) ((t05.trans Za) _ _ CF),⟨2,λi q x e=>by cases e⟩⟩,4,λz y=>?_,hsf
   ·have n01:U≠d1:=aC v h1
    have n02:U≠M:=aC (v3 _ _ v) X;have n12:d1≠M:=aC e3 X;simp[n01,n02,n12]
   ·match g,e with
    |0,e=>cases e;exact gB (nF _ fd0) ((t25.trans Za) _ _ v)
    |1,e=>cases e;exact gB (nF _ fd1) ((t35.trans Za) _ _ e3)
    |2,e=>cases e;exact gB (nF _ fd2) ((t45.trans Za) _ _ e4)
    |_+3,e=>cases e
   ·have hl:=ay a1
    have hw:=Z7.bd.hb w (ay a2);rw[mG.mp (show w.length=0 by lia)];exact gB (nF _ (t95.free (O4 l hl).2.2)) (v7 _ _ (O4 l hl).1)
   ·simp[wd0,wd1,wd2,wdl,w01,w02,w0l,w12,w1l,w2l]
   ·obtain⟨a1,a2,a3,a4,a5,_⟩:=nds z (md z y)
    exact Xs a1 a2 a3 a4 a5
  have abE:BX K t.be (Off qb F) Z ln lr b0 ls D s ⟨wd,I,L,w2,lt,[U,d1,M],hs⟩ ns rs bs cl [0,0,0] (λ_=>[]) st.had []:=(by exists YR.mono O17,alp,λz y q=>?_;have h9:=fP z y;have oc:∃u,Off H9 F z=ac u:=(by rcases q with rfl|rfl|rfl|rfl|rfl|m|rfl;obtain⟨_,e⟩:=YR.lA.ob;exists _,e;exists _,YR.lA.nl;obtain⟨_,e,_⟩:=YR.lA.rl;exists _,e;obtain⟨_,e,_⟩:=YR.WD;exists _,e;exists _,YR.sts.at_;obtain⟨i,hi⟩:=bM m;exists _,YR.sts.it i z _ hi (aa (by rw[<- YR.sts.len];exact (aj.mp hi).1));obtain⟨_,e,_⟩:=YR.lC;exists _,e);obtain⟨u,e⟩:=oc;have:=aD _ _ e;rw[h9] at this;cases this);have apw:x9 st [] [0,0,0] (λ_=>[]):=⟨by rw[lsE];rfl,2,λi l q e=>by (rw[lsE] at e;cases e),λg _=>by rw[tsE]⟩;have apx:Dn st:=λl z=>(by rw[lsE] at z;cases z);have alq:=O17 _ _ ahH;have apy:=O17.seq hS9;have ncb:cb∉D/\cb≠s:=nb9 _ _ aln;have ncP:¬WA.P ⟨wd,I,L,w2,lt,[U,d1,M],hs⟩ cb:=λz=>(by have:=aD _ _ ahH;rw[fP _ z] at this;cases this);generalize (⟨wd,I,L,w2,lt,[U,d1,M],hs⟩:WA)=A at abE ncP ⊢;obtain⟨G,eys,lys⟩:∃G:List Int,DU (cs.map cn) (ac 30) (ac 63)=G.map cn/\wL G<=33:=(by exists (cs.drop (HT.lV (wL cs) 0 (ac 30))).take (HT.lV (wL cs) (wL cs) (ac 63)-HT.lV (wL cs) 0 (ac 30)),44;unfold DU;rw[af,List.map_take,List.map_drop];rw[show (30:Int)=((30:Nat):Int) from rfl,HT.OP,b6,List.length_drop];lia)
  refine aY λNx f=>?_;exists 18,a,1,aD.seq apy,λlq hlq=>?_;rw[eys];have u18:=aG.new (o:=.lst (G.map cn)) hlq;have ahK:=mF (u:=.lst (G.map cn)) N17 hlq (au (H:=qb) (a:=lq) (o:=.lst (G.map cn)));generalize upd qb lq (.lst (G.map cn))=H18 at u18 ahK;have o18:=bN (F:=F) u18;have lq0:Off qb F lq=ae:=rL hlq;have nlq:lq∉D/\lq≠s/\¬A.P lq:=⟨λz=>abE.free (.inr (.inr (.inr (.inr (.inr (.inr (.inl z))))))) lq0 rfl,λz=>abE.free (.inr (.inr (.inr (.inr (.inr (.inr (.inr z))))))) lq0 rfl,λz=>abE.free (.inl z) lq0 rfl⟩;refine⟨lq,2,⟨_,bI.of (aD _ _ ahK)⟩,qu (K:=K) (a:=lq) (xs:=G.map cn) (λj σ H2=>∃(c:NS)(F2:am->Prop)(R:List (List Bool))(C:List (Nat×Nat))(Qy:List Nat)(Y:Nat->List T3)(S:List L4)(v10 v11 v12 ry Yw:Option V),cE K (nc t) H2 F2 p Z (wL ns) c/\BX K t.be (Off H2 F2) Z ln lr b0 ls D s A ns rs R C Qy Y c.had S/\wH ns rs R C (100*j) c/\x9 c S Qy Y/\Dn c/\wL C=cl.length/\Off H2 F2 lq=ac (.lst (G.map cn))/\Off H2 F2 cb=ac (.lst (qs.map cr))/\σ=[ac (.ref a),ac (.int (ns.length:Nat)),ac (.int g),ac (.ref b0),ac (.ref cb),ac (.ref p),ac (.ref ls),ac (.ref s),ac (.ref A.lt),ac (.ref A.wd),v10,v11,v12,ry,Yw])
   ⟨st,F,bs,cl,[0,0,0],λ_=>[],[],33333,N17.mono u18,abE.mono o18,Z7,apw,apx,2,ahK,o18 _ _ alq,2⟩ (λj σ H2 _ ⟨_,_,_,_,_,_,_,_,_,_,_,_,_,_,_,_,_,_,z,_⟩=>bI.of (aD _ _ z)) ?_ ?_⟩
  (·rintro j y σ H2 Nz EU hj ⟨c,F2,R,C,Qy,Y,S,v10,v11,v12,ry,Yw,N2,L6,Vo,mm2,dn2,nh,hq2,aeg,rfl⟩;have hjl:j<wL G:=(by have:=(aj.mp hj).1;rw[af] at this;exact this);rw[ak,aa hjl] at hj;cases hj;generalize G[j]=J;obtain⟨M,f2,cy⟩:=N2.qP;refine aY λNx f=>?_;exists 19,(by show (0:Int)<8;decide),f _ _ ?_;refine aY λNx f=>?_;exists 5,f _ _ ?_;refine aY λNx f=>?_;exists 1,p,31,cy,2,F2,p,Z,ns.length,c,2,N2,λfl qf H3 s3 MS hfl Yx=>⟨fl,1,.inl (bI.of hfl),f [ac (.ref a),ac (.int (ns.length:Nat)),ac (.int g),ac (.ref b0),ac (.ref cb),ac (.ref p),ac (.ref ls),ac (.ref s),ac (.ref A.lt),ac (.ref A.wd),ac (.int J),ac (.int (J%8)),ac (.int (J/8)),ac (.int (((qf.map cr).length:Nat):Int)),Yw] _ ?_⟩;have eqf:(qf.map cr).length=c.cps.length:=(by rw[af,Yx.len,af]);rw[eqf];generalize J%8=dd;generalize J/8=m;have o3:=bN (F:=F2) s3;have N3:=N2.mono s3;have ny:=L6.mono o3;have hq3:=o3 _ _ hq2;have YB:=o3 _ _ aeg;have hD:100*j<=3400:=∅;have alr:0<wL C:=∅;refine jO (λσ H4=>∃(s4:NS)(F4:am->Prop)(bs4:List (List Bool))(VH:List (Nat×Nat))(Vr:List Nat)(O:Nat->List T3)(Ls4:List L4),cE K (nc t) H4 F4 p Z (wL ns) s4/\BX K t.be (Off H4 F4) Z ln lr b0 ls D s A ns rs bs4 VH Vr O s4.had Ls4/\wH ns rs bs4 VH (100*j+100) s4/\x9 s4 Ls4 Vr O/\Dn s4/\wL VH=cl.length/\Kw (Off H3 F2) (Off H4 F4) D s A/\σ=[ac (.ref a),ac (.int (ns.length:Nat)),ac (.int g),ac (.ref b0),ac (.ref cb),ac (.ref p),ac (.ref ls),ac (.ref s),ac (.ref A.lt),ac (.ref A.wd),ac (.int J),ac (.int dd),ac (.int m),ac (.int (c.cps.length:Nat)),ac (.bl ag)]) ?_ (λN' hN=>?_);rotate_left;(·refine L8 (decide (dd<2) || (decide (dd<5)&&decide (wL c.cps=0))) (λQ' hQ=>?_) (λhh=>?_) (λhh=>?_);by_cases h1:dd<2;rw[fy h1,Bool.true_or] at hQ;exists 191,Aw (fy h1) hQ;rw[gn h1,Bool.false_or] at hQ;exists 191,qh (gn h1) ⟨1914⟩;by_cases X:dd<5;rw[fy X,uq] at hQ;refine Aw (fy X) ⟨104⟩;have e:decide (cn (c.cps.length:Nat)=cn 0)=decide (wL c.cps=0):=(by rw[decide_eq_decide];exists λz=>by have:=V.int.inj z;lia,λz=>by rw[z];rfl);rw[<- e] at hQ;exact hQ;rw[gn X,Bool.false_and] at hQ;exact qh (gn X) hQ;exists 1888,F2,p,Z,ln,lr,b0,ls,D,s,A,ns,rs,R,C,Qy,Y,S,100*j,c,m,2,tok,N3,ny,Vo,mm2,dn2,hD,alr,λs4 Ls4 F4 H4 y1 y2 y3 y4 y5 y6=>hN _ _ ⟨s4,F4,R,C,Qy,Y,Ls4,y1,y2,y3,y4,y5,nh,y6,2⟩;·rw[Bool.or_eq_false_iff,decide_eq_false_iff_not] at hh;exists 191,iW (λe=>?_) (λe=>?_);(·have h5:dd<5:=j9 e;have hc0:0<wL c.cps:=(by have:=hh.2;rw[fy h5,uq,decide_eq_false_iff_not] at this;lia);obtain⟨x,ex,hx⟩:=uf m hc0;exists 88889,(by show (0:Int)<(c.cps.length:Int);lia),4;(try dsimp only);rw[ex];exists F2,p,Z,ln,lr,b0,ls,D,s,A,ns,rs,R,C,Qy,Y,S,100*j,c,x,2,tok,N3,ny,Vo,mm2,dn2,hD,hx,λs4 O F4 H4 y1 y2 y3 y4 y5 y6=>hN _ _ ⟨s4,F4,R,C,Qy,O,S,y1,y2,y3,y4,y5,nh,y6,2⟩);exists 18888,F2,p,Z,ln,lr,b0,ls,D,s,A,ns,rs,R,C,Qy,Y,S,100*j,c,dd,m,2,tok,N3,ny,Vo,mm2,dn2,hD,alr,λs4 bs4 VH Vr O F4 H4 y1 y2 y3 y4 y5 y6 y7=>hN _ _ ⟨s4,F4,bs4,VH,Vr,O,S,y1,y2,y3.mono ∅,y4,y5,6,y7,2⟩);rintro σ H4 ⟨s4,F4,bs4,VH,Vr,O,Ls4,N4,bx4,sd4,mm4,dn4,apD,kw4,rfl⟩;exists 8,e9 ⟨8,F4,p,Z,ln,lr,b0,ls,D,s,A,ns,rs,bs4,VH,Vr,O,Ls4,100*j+100,s4,2,N4,bx4,sd4,mm4,6,λH5 s5=>⟨1,e9 (EU _ _ ?_)⟩⟩;have o5:=bN (F:=F4) s5;exists s4,F4,bs4,VH,Vr,O,Ls4,33333,N4.mono s5,bx4.mono o5,sd4,mm4,dn4,apD,o5 _ _ (kw4 _ _ hq3 nlq.1 nlq.2.1 nlq.2.2),o5 _ _ (kw4 _ _ YB ncb.1 ncb.2 ncP),2);rintro σ H2 ⟨c,F2,R,C,Qy,Y,S,v10,v11,v12,ry,Yw,N2,L6,Vo,mm2,dn2,nh,hq2,aeg,rfl⟩;refine f _ _ ?_;have hcb:=aD _ _ aeg;have apE:(((qs.map cr).length:Nat):Int)=(cl.length:Int):=(by rw[af,eqs]);have hhl:wL c.had=cl.length:=(by rw[Vo.bd.hl,Vo.hm,af];exact nh);have hml:wL c.aL=cl.length:=(by rw[Vo.hm,af];exact nh);obtain⟨M,f2,cy⟩:=N2.qP;exists 1,cb,1,.inl (bI.of hcb),(((qs.map cr).length:Nat):Int),266,λacc hacc=>?_;rw[apE];refine eX (n:=((cl.length:Int)).toNat) (λi G H8=>∃ls2:List am,G=ls2.map cr/\wL ls2=i/\∀(m:Nat)l w,ls2[m]?=ac l->c.had[m]?=ac w->H8 l=ac (.lst (aT w))/\l≠acc) hacc uw k7 ⟨[],22,λm l w e=>by simp at e⟩ ?_ ?_;rintro i ys' H8 hi s8 hy ⟨ls2,rfl,yW,ahN⟩ x H9 ⟨rfl,rfl⟩;rw[dQ];have hic:i<wL cl:=∅;have hget:c.had[i]?=ac (c.had.getD i []):=(by rw[ao,aa ∅];rfl);exists 1,p,31,s8 _ _ cy,21,F2,p,Z,ns.length,i,c,c.had.getD i [],2,N2.mono s8,6,hget,λl Nb w10 Me hl=>?_;have nl:l≠acc:=(aC hy Me).symm;refine dF hacc hi (s8.trans w10) (w10 _ _ hy) (by rw[af,yW];exact b9 ∅) ⟨ls2++[l],by rw[aK];rfl,by rw[av,yW];rfl,λm l' w' e1 v=>?_⟩;rcases CL e1 with e1|⟨rfl,rfl⟩;obtain⟨z1,z2⟩:=ahN m l' w' e1 v;exists by rw[aI z2];exact w10 _ _ z1,z2;rw[yW,hget] at v;cases v;exists by rw[aI nl];exact hl,nl;rintro ys' H8 s8 hy ⟨ls2,rfl,yW,ahN⟩;rw[cN] at yW;have Qw:=L6.mono (bN (F:=F2) s8);have lh8:=Qw.wx.hd.keep (h':=H8) λb o e _=>aD _ _ e;exists 1,oS (bI.of (aD _ _ Qw.wx.w)) (bO (j:=2) rfl) ⟨.list (c.had.map hD),.list (c.had.map hD),⟨acc,1,bI.of hy,L0 ∅ λm l w e1 v=>(ahN m l w e1 v).1⟩,⟨A.w2,1,bI.of lh8.at_,L0 lh8.len lh8.it⟩,Gu _,Gu _,r4 (by show bj _+1<=64;have:=OA c.had;lia) hr.units,4⟩;rw[SeqAt.eqv_refl (.list (c.had.map hD)) (Gu _)];exact k _
end
theorem walk{l:PySem.W.OpenLaw}{q:ci}{b:List Str}{XP:(Str->Option ar)->Heap->Prop}{o:World->Heap->Prop}{d:DefRec}{K:Params->ai}(u:l.most=ac 63)(m:d.params.defaults=[])(j:d.name = "law")
 (C:∀(w:World)(h:Heap),o w h->(K w.params).In h)
 (F:∀(w:World)(i:Str->Option ar)(h:Heap),(K w.params).In h->h.Ns bi i->∃t,Txt (K w.params) i t):
 PySem.W.WalkO q b XP o l.row.toRowW d [] (λf vs=>PySem.call f vs):=
 L2.acn (n:=63) (k:=10) (x:="_law_script") (CX:=λ_=>iJ) (sp:=λw=>abA (K w.params)) u (!_) m ⟨rfl,!_,!_⟩ C
  (λw i D h B G c=>by
   obtain⟨t,T⟩:=F w i h B G;rw[j] at c;have e:=c.symm.trans T.aaj.g;cases e;exists t.RA,λs v=>?_,λp _ _=>ahD T;obtain⟨_,_,_,_,_,_,_,_,_,e,_⟩:=T.aaj.F.ex;rw[e];exact .of_eq rfl)
  (λ_ _ a r y _ A=>⟨a,r,2,A,y,λ_=>rfl⟩) λ_ _ _ _ _ z=>z
end ee
end
structure PySem.W.Fast:Prop where(tw6930423279424082574 tw10881127686875057979 tw15461490608990242437 tw7279387017940371286 tw15987608207010232697 tw14434310221247659099 tw17755540237723364341 tw1297651657222812160 tw2317203098952398158 tw12149606111182909800 tw14348668687829089448 tw9478285835359669457 tw16064731263167529283 tw15886074192102070244 tw16319311838209853616 tw3269224598443672897 tw6840914443495256039 tw7375445941695236492 tw10653900143213326996 tw9108587865747080256 tw9695052814361150308 tw8622456180551758327 tw9774088661701418569 tw16962800622627219752 tw10091122982759766550 tw381200034450045235 tw16577227128548357529 tw1932708951112676397 tw1503237660539416079 tw16320650313669375590 tw8563605572120909070 tw16340671807234496121 tw3237494200648268814 tw1504889526820846642 tw15778066121524977710 tw7663745834795864388 tw13668784375424002837 tw13005214771962765136 tw18227751043070373144 tw10289289419669715621 tw15557307167227507027 tw5842233153509831445 tw2580350821334382214 tw14845782938874835575 tw12905800521675070126 tw11246553377517711104 tw2901684284242454651 tw16906283307901815641 tw15989672016564380413 tw824303488241946375 tw3403481969149763126 tw8536774129564815008 tw14053573711152426787 tw1002451047106353096 tw2752049932263121010 tw13366066974415396124 tw6251605352907589351 tw718431066460189654 tw4796611059803754561 tw10787734106049324917 tw9422052648579279116 tw14654256445930615181 tw3765866730507288316 tw3962527006817790240 tw5865195851793940159 tw11947478404213316037 tw10986109039538872047 tw11321989226640397368 tw17318247985230590532 tw14952833309759471197 tw11036666494236960469 tw2667569054655926884 tw13379273728982749751 tw1847902110423437913 tw7656318074798505360 tw7001797406493677059 tw9457982871063099416 tw15477911866787308475 tw6711941134751850208 tw9775447955902007530 tw9781145442581966715 tw14115252835288893923 tw11782932191140442480 tw490573036068957137 tw14846539742941896626 tw14678690968238405280 tw4422146798838412178 tw3146169788708747289 tw16027438135086009493 tw15250245347481617522 tw17394615369005102356 tw17048289192779217375 tw13695600728628879633 tw9416418097301863960 tw2909312867329319843 tw12815952133422913014 tw13122175937445888177 tw14228510385061253746 tw7638391162154115080 tw5823748706173351962 tw4035100655231943824 tw3539166732984510958 tw5976923779273079284 tw8134679341269104382 tw1645365981737772316 tw11713035446851886825 tw2591061195878491588 tw12566520082987733986 tw2089328859642825209 tw18436157755005241150 tw1524144620176808338 tw14792203183293879289 tw5424416575504010477 tw324626927946757608 tw7152859654748387128 tw8456325212519965906 tw17353865984257695352 tw15187712635780238024 tw7206457861253468429 tw4749266134422638885 tw6710655546636022453 tw10895759613708875667 tw11826550399321851847 tw15269550418655734182 tw3561374638185150719 tw4865202777997898842 tw7143371405567969021 tw16340785965479706614 tw1610690909727105301 tw3365654022452681974 tw14323493823887321889 tw16179843331027798661 tw8507444063286651795 tw16491415542904250704 tw255616470568445433 tw2048728477170641401 tw7284826777554228602 tw2950409077968218569 tw15659576736318897680 tw16598271760713231476 tw15146418589372850301 tw3930370162291395094 tw10148916390287917231 tw11224414524341395226 tw14987905719762857199 tw18078125525706977136 tw14080043968610965438 tw8002464189499371441 tw13478576004238749854 tw1408689946090937094 tw17111980133416499713 tw8824933852201022653 tw6907539850282057472 tw3867607408990952743 tw14140581172210581191 tw3271823153986110637 tw14768085516955755810 tw978690318492133168 tw11102079780821358979 tw3977358371069561075 tw10355906407796982002 tw4861806099205594365 tw10748920095505701436 tw208494275658269982 tw7223956438855557102 tw1921604908559824297 tw17288737177270810261 tw6180422840119214330 tw14212592285101769993 tw11350131567638896047 tw11453021044556730262 tw3661947870656838958 tw11565941387877624123 tw18397975357926828688 tw2661308916455444835 tw5737665562520150916 tw15198118447182487858 tw5494538865787125142 tw4851754083237341759 tw6307061483749136237 tw1379606943682819366 tw15271340199103810713 tw16022407992248005451 tw4902554703227989655 tw10176734696959403515 tw828760855983861758 tw17947552516337006698 tw11880989864318470917 tw6253477105297856500 tw10468256661771308454 tw15816469607512387297 tw13971129688417381238 tw4986811611259372245 tw8239370452354422352 tw6685352603880189175 tw3816535180082027177 tw8988397368997569767 tw13989475631362954160 tw13514434435859194867 tw11455529736542097495 tw17667827969092922096 tw6727607401313313308 tw5753241899876457204 tw7225967699644731963 tw299138364149933489 tw11119056691810773209 tw2291001666421669430 tw4408735651650291923 tw18094756874793024686 tw17240758521965551842 tw3816022531023033431 tw2362371332409961432 tw16060953583406682511 tw11667973790738216297 tw7671106195308094843 tw17553327239933934221 tw6563194960842091227 tw14592117008994460488 tw3030280772503166786 tw10733663399704232412 tw2472709895684270841 tw16664828174134073147 tw9522703128603137431 tw10831851352539199876 tw9984315189591369629 tw13190953024623689188 tw14494977479042318475 tw10944387076421809733 tw10719219817106663082 tw8706652106731001220 tw8388400460533688240 tw15545361288208372847 tw2421432056584807921 tw2128713280622604667 tw4052312803439642656 tw15400565175566430150 tw1165263643531397572 tw13904739844781384598 tw5566938486299262454 tw10782617270718141440 tw972285278614457953 tw6753947722985316571 tw7587811148513425978 tw224471946468228732 tw9511012790902277732 tw15636753739422697405 tw5383717432593459245 tw3643597358049141470 tw562698486995738231 tw1798151346294330343 tw547034481203162992 tw16395655187126937818 tw9788006644733703315 tw5356556709151167737 tw18298066950095477404 tw6040963063154292626 tw12743142965769225695 tw17123958233851810911 tw13808863881810125079 tw16724677059178818493 tw7193509525270901744 tw17173610623542448008 tw3677309516030587375 tw12410351065481922745 tw12730691643886244254 tw15692660249004563394 tw4655171675831857703 tw3006704811287751433 tw16117707201665344236 tw15565906302327362838 tw12914657283799538603 tw9899080799502680120 tw8616659422585615503 tw1811004954610957573 tw12559627851820731327 tw10778336821118424464 tw5177075137015106712 tw7055351164110813610 tw14268574689963748711 tw13919756022746318328 tw4445459715618558633 tw2358799650862292361 tw17898326213381709102 tw15753493969377901864 tw3810202608551146895 tw2118352492765710375 tw17842300551784715669 tw5583537754086751492 tw14725851803780644029 tw8485676398313139108 tw16339483082547140432 tw14409584153653094073 tw12845431000964207710 tw240388836723150110 tw408800221251575928 tw4683698032768409499 tw17820954386066978761 tw16185431018306305712 tw8821793866853041434 tw2715754861701698234 tw9744726365148530453 tw1156540931430757982 tw2556478736008636981 tw14412505749107588024 tw18332610401531571651 tw1475725623293328590 tw11973836173818065902 tw2368270086415681726 tw15173326965296988899 tw11005435253441310708 tw4801961082858458665 tw9479645302218683809 tw5049689390565254216 tw3635298053595895208 tw17681690560115795914 tw14462948053124414883 tw1415457935733110639 tw11291125234578973934 tw9094605847096898564 tw7093471352485649993 tw13607135953911883830 tw13798662027169480530 tw5254013324325634167 tw8338002648862095202 tw1543325485221263705 tw4632088713072691549 tw10354852052063152383 tw1914252952825416774 tw13871835371186310429 tw11634609854372259015 tw2112426490867779487 tw7283875712717202920 tw5221925264083134472 tw17788738699087783196 tw15691571058573894821 tw14237965471852699683 tw12751950521018525987 tw11447427288572745607 tw17866975147589251808 tw14380213626964389505 tw17178195298945494169 tw9935314835420270169 tw7636280627105215973 tw6305663897826957586 tw11025720462740705636 tw18126200009090928640 tw10872491015685221379 tw10463181331779507754 tw13493173830106246248 tw5732322459299930761 tw5328858311743865452 tw2025551405059720029 tw14904061847459853440 tw8705099712028569124 tw3931191105552446100 tw13321445757966783062 tw8974276397361031269 tw8924227074376833897 tw8734693198659547546 tw8556259822163418015 tw8036517298209758675 tw7720071669209445809 tw7154907871457745374 tw6809433803070223832 tw6608754188312556155 tw6499179648947847699 tw6327123825272441388 tw6242906563981057261 tw5339824376017315824 tw532004215061015994 tw4472266949160999173 tw4469388097227677004 tw4250885174490373007 tw3874181009772699120 tw3516065193532519593 tw3360014008740636221 tw3212843330341761687 tw3210831214807901677 tw2968031371863385270 tw2687802790097050608 tw2495021622184085439 tw2325351445721066073 tw1939629278748049004 tw17648498994244319546 tw17455021900258023783 tw16797824238809996661 tw15912665300481916115 tw15757069210246185886 tw14534310616135784037 tw12886390329455782551 tw12296761691165147149 tw12053757051789341835 tw11595010872374188568 tw1055423039924272455 tw10454719614083525054 tw10241564433800911373 tw7025680744654714055 tw4131072848567975310 tw7407971180203004245 tw4811885005907713415 tw2699815036690175519 tw12149274249789173015:True)
open PySem PySem.W PyProof.Rows
set_option maxRecDepth 100000 in
set_option maxHeartbeats 0 in
theorem PySem.Challenge.cw_knotless_k33_lost_and_twice_holds : PySem.Challenge.rw_knotless_k33_lost_and_twice.Holds := by
 w_on;o_law;k_head;(case hw=>w_witness2)
 k_fill
 refine ee.walk (l:=PySem.Challenge.rw_knotless_k33_lost_and_twice) rfl rfl rfl (fun w h Y=>PySem.W.kIn_of Y) ?F
 case F =>
  intro w mg h KX G
  apply ee.agz KX G
  all_goals first|k_is|exact L2.exM (by k_is) (by k_is) (by k_is) (by k_is) (by k_is)|exact L2.exG KX G (by k_is) (by k_is) (by k_is) (by k_is)|exact L2.Tf (by k_is) (by k_is) (by k_is) (by k_is) (by k_is) (by k_is)|exact⟨by k_exc,by k_is,by k_is,by k_is,by k_is,by k_is,by k_is,by k_is,by k_is⟩
