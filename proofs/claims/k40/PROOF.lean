import PyProof.Rows.All
import Wide.All
import OpenK.AllK
import Wide.FinOn
import Lean
import PyProof.EqAt
import PyProof.EqKinds
import PyProof.TupleCall
import PySem.Challenge.RW_knotless_k40_desk_refused
set_option autoImplicit true
set_option relaxedAutoImplicit true
set_option Elab.async false
noncomputable section
universe u v
section
local macro_rules|`(∅)=>`(by lia)
local macro_rules|`(!_)=>`(by decide)
local macro_rules|`(-_)=>`(by simp)
local macro_rules|`(⟨$x,*⟩)=>do
 let qa<-`(_);let qb<-`(rfl);let qc<-`(?_);let qd<-`(∅);let qe<-`(!_)
 let mut a:=#[];let mut b:=false
 for e in x.getElems do
  if let some n:=e.raw.isNatLit? then
   b:=true
   for c in n.repr.toList do a:=a++match c with |'0'=>#[qe]|'1'=>#[qa,qb]|'2'=>#[qb]|'3'=>#[qa]|'4'=>#[qc]|'5'=>#[qa,qa,qb]|'6'=>#[qd]|'7'=>#[qb,qa,qb]|'8'=>#[qa,qa,qa,qb,qb]|_=>#[qa,qa,qa,qa,qb]
  else a:=a.push e
 if b then `(⟨$a,*⟩) else Lean.Macro.throwUnsupported
local macro_rules|`(↑_)=>`(by decide +kernel)
local macro_rules|`(tactic|exists $x,*)=>`(tactic|refine⟨$x,*⟩)
theorem gN:1<=PySem.sizeLine:=!_
theorem aab:10<=PySem.sizeLine:=!_
theorem aac:12<=PySem.sizeLine:=!_
theorem Jn:16<=PySem.sizeLine:=!_
theorem c8:2<=PySem.sizeLine:=!_
theorem ft:3<=PySem.sizeLine:=!_
theorem hX:4<=PySem.sizeLine:=!_
theorem Kb:5<=PySem.sizeLine:=!_
theorem abn:6<=PySem.sizeLine:=!_
theorem abr:9<=PySem.sizeLine:=!_
def b4:=@if_pos.{u}
def b5:=@if_neg.{u}
def b6:=@decide_eq_true
def c5:=@decide_eq_false
def c7:=@of_decide_eq_true
def b3:=@absurd.{v}
def c6:=@congrArg.{u,v}
open List renaming length -> cx, getElem?_eq_getElem -> aa, length_map -> ah, getElem?_eq_some_iff -> ai, getElem?_map -> ak, getD_eq_getElem?_getD -> ao, length_append -> av, range -> ay, getElem_mem -> aD, mem_map -> aF, mem_cons -> aM, mem_cons_self -> aP, mem_of_getElem? -> aQ, mem_cons_of_mem -> aR, mem_singleton -> aZ, mem_append -> bh, size_toArray -> bw, map_append -> bx, length_set -> bC, getElem?_append_left -> bG, length_range -> bI, map_cons -> bL, length_filter_le -> bM, getElem?_append_right -> bO, mem_append_right -> bQ, length_take -> bT, length_cons -> bU, replicate -> bV, map_map -> cz, not_mem_nil -> cN, mem_filter -> cQ, filter_cons_of_pos -> dm, filter_cons_of_neg -> dw, mem_range -> dO, map_congr_left -> dP, mem_or_eq_of_mem_set -> eY, filterMap_cons -> fE, append_nil -> fF, getElem?_set -> fV, filter_append -> gp, take_of_length_le -> gu, foldl_cons -> gF, take_length -> gR, lookup_cons -> gU, getElem?_eq_none -> g4, range_succ -> iK, all_eq_true -> iQ, take_add_one -> i7, getElem?_range -> i8, append_assoc -> kg, nodup_cons -> kj, length_pos_iff -> ko, length_drop -> lD, nodup_nil -> mO, take_succ_eq_append_getElem -> mW, getElem?_of_mem -> m9, sum_cons -> oY, map_set -> rH, getElem?_concat_length -> rJ, ext_getElem -> vR, replicate_succ -> vU, lookup -> vV, find?_cons -> x9, flatten_cons -> Au, any_eq_true -> Dd
open PySem.W renaming Frag -> af, findIn -> aO, nsIn -> aY, kitOne -> bD, mg_of -> bJ, kitCls -> cD, mg_none_of -> dj, keepIn -> dN, fnOf -> gm, callWith_K -> gn, emptyDict -> i6, subIn -> jf, codeIn -> mL, instObj -> nh, hasDictIn -> ni, methodCall_KW -> rG, plainGet -> C9, any_some -> Dc
open Nat renaming le_refl -> az, le_trans -> aE, zero_le -> bA, ne_of_lt -> bB, lt_of_lt_of_le -> bF, lt_of_le_of_lt -> bK, add_le_add_left -> cE, le_succ -> gX, min_le_left -> ji, toDigits -> lE, sub_self -> lF, lt_irrefl -> lG, le_succ_of_le -> nv, le_of_lt -> oX, min_le_right -> pF, lt_succ_self -> pG, add_le_add_right -> tT, le_add_right -> vQ, toDigits_of_lt_base -> x6, not_lt_zero -> x8
open Bool renaming false_ne_true -> aN, and_eq_true -> eS, eq_iff_iff -> kr
open Option.some renaming inj -> aT, injEq -> As
open Option renaming some_ne_none -> bg, map_some -> nj
open PySem.F renaming plainAttrs_list -> bR, type_list_append -> bW, slot_list_append -> bX, plainAttrs_str -> cX, type_str_split -> kN, slot_str_split -> kP, type_str_join -> Cd, slot_str_join -> Ce
open Ne renaming symm -> bS
open Array renaming length_toList -> dQ, getElem?_eq_some_iff -> gh
open False renaming elim -> eZ
open Int renaming toNat_natCast -> g5, eq_ofNat_of_zero_le -> j0, zero_add -> j9, emod_lt_of_pos -> qP, emod_nonneg -> ya
open Sum renaming inr -> i0, inl -> jh
open ForInStep renaming yield -> jj
open List.cons renaming inj -> lH
open PySem.Builtin.Str renaming strKind -> vo
open PySem renaming mem_of_lookup -> vS
open PyProof.Rows renaming slot_tuple_getitem -> Ar
open Option renaming some -> ac, none -> ae
open Bool renaming true -> ag, false -> al
open PySem renaming Addr -> am, Value -> ap, Shared -> ar, wpAny_bind -> aw, wpAny_pure -> ax, sizeLine -> a9, mainGlobals -> ba, starEach -> bc, compareOp -> bn, wpAny -> bt, Program -> bv, Around -> ce
open PySem.Heap renaming get?_push_of_some -> a5, get?_push_size -> a6, lt_size -> a7, get?_update_other -> bo
open PySem.Str renaming ofString -> a8
open PySem.PyData renaming depthAll -> bb, canLayAll0 -> bi
open PySem.NameKind renaming free -> bj
set_option linter.all false
set_option maxRecDepth 100000
namespace L2
open PySem PySem.Spec PyProof.Rows
abbrev df:=Sum Int Str
noncomputable def UA:df->ap->Bool
 |.inl k,v=>Value.isInt k v
 |.inr x,v=>Value.isStrOf x v
noncomputable def SB(w:World):df->Int
 |.inl k=>hashInt k
 |.inr x=>hashStr w x
theorem jP:∀{k:df}{v:ap},UA k v=ag->(∃i t,k=jh i/\v=Value.int i t)∨(∃x t,k=i0 x/\v=Value.str x t)
 |.inl i,v,h=>by
  obtain⟨t,e⟩:=Value.isInt_shape (k:=i) (v:=v) h;exact .inl ⟨i,t,2,e⟩
 |.inr x,v,h=>by
  obtain⟨t,e⟩:=Value.isStrOf_shape (x:=x) (v:=v) h;exact .inr ⟨x,t,2,e⟩
theorem adw(i:Int)(t:Tok):UA (.inl i) (.int i t)=ag:=by simp[UA,Value.isInt]
theorem Me(x:Str)(t:Tok):UA (.inr x) (.str x t)=ag:=by simp[UA,Value.isStrOf]
theorem ald(a b:Int):decide ((jh a:df)=jh b)=(a==b):=by by_cases e:a=b;subst e;simp;have h:¬(jh a:df)=jh b:=λq=>e (Sum.inl.inj q);rw[c5 h];exact (beq_eq_false_iff_ne.mpr e).symm
theorem ale(a b:Str):decide ((i0 a:df)=i0 b)=decide (a=b):=by by_cases e:a=b;subst e;simp;have h:¬(i0 a:df)=i0 b:=λq=>e (Sum.inr.inj q);rw[c5 h,c5 e]
theorem alf(a:Int)(b:Str):decide ((jh a:df)=i0 b)=al:=c5 (λq=>nomatch q)
theorem alg(a:Str)(b:Int):decide ((i0 a:df)=jh b)=al:=c5 (λq=>nomatch q)
noncomputable def iR(prog:bv)(w:World):PySem.KeyKind prog w df where
 is:=UA
 hash:=SB w
 inj:=λv a b ha hb=>by
  rcases jP ha with ⟨i,t,rfl,rfl⟩|⟨x,t,rfl,rfl⟩
  ·rcases jP hb with ⟨j,u,rfl,e⟩|⟨y,u,rfl,e⟩
   ·injection e with e1 _;rw[e1]
   ·exact nomatch e
  ·rcases jP hb with ⟨j,u,rfl,e⟩|⟨y,u,rfl,e⟩
   ·exact nomatch e
   ·injection e with e1 _;rw[e1]
 byValue:=λk v h=>by
  rcases jP h with ⟨i,t,rfl,rfl⟩|⟨x,t,rfl,rfl⟩ <;> rfl
 pyHash:=λhv h=>by
  rcases jP hv with ⟨i,t,rfl,rfl⟩|⟨x,t,rfl,rfl⟩
  ·exact wpAny_pyHash_int h
  ·exact wpAny_pyHash_str h
 eqBool:=λhu hv h=>by
  rcases jP hu with ⟨i,t,rfl,rfl⟩|⟨x,t,rfl,rfl⟩
  ·rcases jP hv with ⟨j,u,rfl,rfl⟩|⟨y,u,rfl,rfl⟩
   ·rw[ald] at h;exact wpAny_eqBool_int h
   ·rw[alf] at h;exact SeqAt.EqAt.int_str i t y u _ _ _ _ h
  ·rcases jP hv with ⟨j,u,rfl,rfl⟩|⟨y,u,rfl,rfl⟩
   ·rw[alg] at h;exact SeqAt.EqAt.str_int x t j u _ _ _ _ h
   ·rw[ale] at h;exact wpAny_eqBool_str h
 «strs»:=λk x t v h=>by
  rcases jP h with ⟨i,u,rfl,e⟩|⟨y,u,rfl,e⟩
  ·exact nomatch e
  ·injection e with e1 _
   subst e1;cases v <;> rfl
def XQ(prog:bv)(w:World)(i:Int)(t:Tok):(iR prog w).is (.inl i) (.int i t)=ag:=adw i t
def XR(prog:bv)(w:World)(x:Str)(t:Tok):(iR prog w).is (.inr x) (.str x t)=ag:=Me x t
inductive V where
 |fW|bl (b:Bool)|int (i:Int)|str (x:Str)|fy (b:Array UInt8)|flt (b:UInt64)|ref (a:am)|ty (n:String)
 deriving DecidableEq
def RelV:V->ap->Prop
 |.fW,u=>u=Value.none
 |.bl b,u=>u=Value.bool b
 |.int i,u=>∃t,u=Value.int i t
 |.str x,u=>∃t,u=Value.str x t
 |.fy b,u=>∃t,u=Value.bytes b t
 |.flt b,u=>∃t,u=Value.float b t
 |.ref a,u=>u=Value.ref a
 |.ty n,u=>u=Value.type n
abbrev ck:List V->List ap->Prop:=Paired RelV
theorem ck.length(r:ck xs us):xs.length=us.length:=Paired.length r
theorem ck.get:∀{xs:List V}{us:List ap}{i:Nat}{x:V},ck xs us->xs[i]?=ac x->∃u,us[i]?=ac u/\RelV x u
 |_,_,_,_,.nil,e=>by simp at e
 |_,_,0,_,.cons r _,e=>by simp at e;subst e;exists 1,r
 |_,_,i+1,x,.cons _ t,e=>by
  obtain⟨u,a,b⟩:=ck.get (i:=i) (x:=x) t (by simpa using e);exists u,by simpa using a,b
theorem ck.set{x:V}{u:ap}(r:RelV x u):∀{xs:List V}{us:List ap}(i:Nat),ck xs us->ck (xs.set i x) (us.set i u)
 |_,_,_,.nil=>.nil
 |_,_,0,.cons _ t=>.cons r t
 |_,_,i+1,.cons q t=>.cons q (ck.set r i t)
theorem ck.append:∀{xs ys:List V}{us ws:List ap},ck xs us->ck ys ws->ck (xs++ys) (us++ws)
 |_,_,_,_,.nil,s=>s
 |_,_,_,_,.cons r t,s=>.cons r (ck.append t s)
theorem ck.take:∀{xs:List V}{us:List ap}(n:Nat),ck xs us->ck (xs.take n) (us.take n)
 |_,_,0,_=>.nil
 |_,_,_+1,.nil=>.nil
 |_,_,n+1,.cons r t=>.cons r (ck.take n t)
theorem ck.drop:∀{xs:List V}{us:List ap}(n:Nat),ck xs us->ck (xs.drop n) (us.drop n)
 |_,_,0,r=>r
 |_,_,_+1,.nil=>.nil
 |_,_,n+1,.cons _ t=>ck.drop n t
def E5:Option V->Option ap->Prop
 |some v,ac u=>RelV v u
 |none,ae=>True
 |_,_=>False
def KV{κ:Type}:List (κ×V)->List (κ×ap)->Prop:=Paired λ(p:κ×V)(q:κ×ap)=>p.1=q.1/\RelV p.2 q.2
noncomputable def kV:df->V
 |.inl i=>.int i
 |.inr x=>.str x
inductive HO where
 |lst (xs:List V)
 |tup (xs:List V)
 |dK (kvs:List (df×V))|dT (kvs:List (List df×V))
 |set (S:Int->Bool) (n:Nat)
 |ins (C dx:am) (fs:List (Str×V))
 |own (x:am)
 |xd (fs:List (Str×V))
 |met (f x:am)
 |jy (lo hi:Int)
 |f9 (o:Obj) (u:HO)
 |xS (ps:Array ap)
 |ext (φ:Heap->Prop)
abbrev Hp:=am->Option HO
def upd(H:Hp)(a:am)(o:HO):Hp:=λb=>if b=a then ac o else H b
theorem aq:upd H a o a=ac o:=by unfold upd;rw[b4 rfl]
theorem aI{a b:am}(h:b≠a):upd H a o b=H b:=by unfold upd;rw[b5 h]
theorem VV:upd (upd H a o) a u=upd H a u:=by funext b;unfold upd;split <;> rfl
theorem tK{H:Hp}(h:H a=ac o)(h':H b=ac u)(d:o≠u):a≠b:=by intro e;subst e;rw[h] at h';exact d (aT h')
theorem aJ{H:Hp}(h:H a=ac o)(h':H b=ae):a≠b:=by intro e;subst e;rw[h] at h';cases h'
section
variable(P:bv)(w:World)
def jk(H:Hp)(h:Heap)(a:am):HO->Prop
 |.lst xs=>xs.length<=a9/\∃(its:List ap)(n:Nat),ck xs its/\h.get? a=ac {cls:=.type "list",data:=.seq its.toArray n}
 |.tup xs=>xs.length<=a9/\∃its:List ap,ck xs its/\IsTup h a its.toArray
 |.dK kvs=>kvs.length<=a9/\(a==sysModules)=al/\∃vs,KV kvs vs/\h.DictOf (iR P w) a vs
 |.dT kvs=>kvs.length<=a9/\(a==sysModules)=al/\∃xs:List (List df×am×ap),
  Paired (λ(p:List df×V)(q:List df×am×ap)=>p.1=q.1/\H q.2.1=ac (.tup (p.1.map kV))/\RelV p.2 q.2.2) kvs xs /\
  ∃o es ep,h.get? a=ac o/\o.ExactDict/\o.data=.dict es ep/\es.toList=xs.map (entryOfKey (tupleKind (iR P w)))/\(xs.map (·.1)).Nodup
 |.set S n=>h.SetOf (intKind P w) a S n
 |.ins C dx fs=>H dx=ac (.own a)/\fs.length<=1000/\dx≠a/\h.get? a=ac (nh C dx) /\
  ∃mA,h.Ns1 dx mA/\(∀f,E5 (fs.lookup f) (mA f))/\PySem.Within mA (fs.map (·.1))
 |.own _=>∃o,h.get? a=ac o
 |.xd fs=>∃mA,h.Ns1 a mA/\∀f,E5 (fs.lookup f) (mA f)
 |.jy lo hi=>∃t u v,h.get? a=ac {cls:=.type "range",data:=.fields #[.int lo t,.int hi u,.int 1 v]}
 |.f9 o u=>h.get? a=ac o/\jk H h a u
 |.xS ps=>h.get? a=ac {cls:=.none,data:=.fields ps}
 |.met f x=>h.get? a=ac (PySem.W.methodObj (.ref f) (.ref x))
 |.ext φ=>φ h/\(∃o,h.get? a=ac o)/\∀h1 h2:Heap,φ h1->(∀o,h1.get? a=ac o->h2.get? a=ac o)->φ h2
def E6(H:Hp)(h:Heap):Prop:=∀a o,H a=ac o->jk P w H h a o
end
section
variable{P:bv}{w:World}{H H':Hp}{h h':Heap}{a:am}{o:HO}
theorem jk.lt(x:jk P w H h a o):a<h.objs.size:=by cases o with|lst c=>obtain⟨_,_,_,_,e⟩:=x;exact a7 e|tup c=>obtain⟨_,_,_,p⟩:=x;exact p.lt|dK b=>obtain⟨_,_,_,_,o,_,_,e,_⟩:=x;exact a7 e|dT b=>obtain⟨_,_,_,_,o,_,_,e,_⟩:=x;exact a7 e|set S n=>obtain⟨o,_,_,_,e,_⟩:=x;exact a7 e|ins C k d=>obtain⟨_,_,_,e,_⟩:=x;exact a7 e|own y=>obtain⟨_,e⟩:=x;exact a7 e|xd d=>obtain⟨_,⟨_,_,_,e,_⟩,_⟩:=x;exact a7 e|jy lo g=>obtain⟨_,_,_,e⟩:=x;exact a7 e|f9 ob u=>obtain⟨e,_⟩:=x;exact a7 e|xS j=>exact a7 (show h.get? a=ac _ from x)|met f y=>exact a7 (show h.get? a=ac _ from x)|ext i=>obtain⟨_,⟨_,e⟩,_⟩:=x;exact a7 e
theorem Paired.alh{c d:Type}{F G:c->d->Prop}:∀{l₁:List c}{l₂:List d},Paired F l₁ l₂->(∀a b,F a b->G a b)->Paired G l₁ l₂
 |_,_,.nil,_=>.nil
 |_,_,.cons r t,f=>.cons (f _ _ r) (Paired.alh t f)
theorem jk.stay(x:jk P w H h a o)(k:∀b u,(b=a∨H b=ac (.own a))->h.get? b=ac u->h'.get? b=ac u)(F:∀b,H b=ac (.own a)->H' b=ac (.own a))(G:∀b xs,H b=ac (.tup xs)->H' b=ac (.tup xs)):jk P w H' h' a o:=by induction o with|lst xs=>obtain⟨z,j,n,r,e⟩:=x;exact⟨z,j,n,r,k _ _ (.inl rfl) e⟩|tup xs=>obtain⟨z,j,r,ob,e,c⟩:=x;exact⟨z,j,r,ob,k _ _ (.inl rfl) e,c⟩|dK l=>obtain⟨z,y,D,r,ob,i,g,e,c⟩:=x;exact⟨z,y,D,r,ob,i,g,k _ _ (.inl rfl) e,c⟩|dT l=>obtain⟨z,y,xs,r,ob,i,g,e,c⟩:=x;exact⟨z,y,xs,Paired.alh r λp q z=>⟨z.1,G _ _ z.2.1,z.2.2⟩,ob,i,g,k _ _ (.inl rfl) e,c⟩|set S n=>obtain⟨ob,i,g,t,e,c⟩:=x;exact⟨ob,i,g,t,k _ _ (.inl rfl) e,c⟩|ins C M J=>obtain⟨d,z,E,e,m,⟨s,i,g,B,c⟩,r⟩:=x;exact⟨F _ d,z,E,k _ _ (.inl rfl) e,m,⟨s,i,g,k _ _ (.inr d) B,c⟩,r⟩|own y=>obtain⟨ob,e⟩:=x;exact⟨ob,k _ _ (.inl rfl) e⟩|xd J=>obtain⟨m,⟨s,i,g,e,c⟩,r⟩:=x;exact⟨m,⟨s,i,g,k _ _ (.inl rfl) e,c⟩,r⟩|jy lo K=>obtain⟨t,u,v,e⟩:=x;exact⟨t,u,v,k _ _ (.inl rfl) e⟩|f9 ob u I=>obtain⟨e,q⟩:=x;exact⟨k _ _ (.inl rfl) e,I q⟩|xS A=>have e:h.get? a=ac {cls:=.none,data:=.fields A}:=x;show h'.get? a=ac {cls:=.none,data:=.fields A};exact k a _ (.inl rfl) e|met f y=>have e:h.get? a=ac (PySem.W.methodObj (.ref f) (.ref y)):=x;show h'.get? a=ac (PySem.W.methodObj (.ref f) (.ref y));exact k a _ (.inl rfl) e|ext L=>obtain⟨p,⟨o,e⟩,st⟩:=x;exists st _ _ p λo q=>k _ _ (.inl rfl) q,⟨o,k _ _ (.inl rfl) e⟩,st
theorem E6.lt(x:E6 P w H h)(e:H a=ac o):a<h.objs.size:=(x a o e).lt
theorem E6.fresh(x:E6 P w H h)(e:h.objs.size<=a):H a=ae:=by cases q:H a with|none=>rfl|some u=>exact b3 (bF (x.lt q) e) (lG _)
def E6.kept(x:E6 P w H h)(k:∀b u,h.get? b=ac u->h'.get? b=ac u):E6 P w H h':=λa o e => (x a o e).stay (λb u _ q=>k b u q) (λ_ q=>q) λ_ _ q=>q
theorem E6.laid(x:E6 P w H h)(k:∀b u,h.get? b=ac u->h'.get? b=ac u)(i:h.objs.size<=a)(d:jk P w (upd H a o) h' a o):E6 P w (upd H a o) h':=λb u e=>by
 have g:=x.fresh i;by_cases f:b=a
 ·subst f;rw[aq] at e;cases e;exact d
 ·rw[aI f] at e
  exact (x b u e).stay (λc v _ q=>k c v q) (λc q=>by rw[aI (aJ q g)];exact q) λc j q=>by rw[aI (aJ q g)];exact q
end
def Rd(H:Hp)(a:am)(u:HO):Prop:=H a=ac u∨∃o,H a=ac (.f9 o u)
theorem Rd.ok(r:Rd H a u)(x:E6 P w H h):jk P w H h a u:=by rcases r with r|⟨o,r⟩;exact x a u r;obtain⟨_,q⟩:=x a _ r;exact q
def hZ:Option HO->Prop
 |some (.lst _)=>True
 |some (.dK _)=>True
 |some (.dT _)=>True
 |some (.set _ _)=>True
 |some (.ins _ _ _)=>True
 |some (.ext _)=>True
 |_=>False
section
variable{P:bv}{w:World}{H:Hp}{h h':Heap}{x e:am}{o':HO}
theorem E6.write(ok:E6 P w H h)(i:hZ (H x))(n:e=x∨H e=ac (.own x))(k:∀b u,b≠e->h.get? b=ac u->h'.get? b=ac u)(j:∃u,h'.get? e=ac u)
 (m:jk P w (upd H x o') h' x o'):E6 P w (upd H x o') h':=λb u q=>by
 have d:∀c y,H c=ac (.own y)->c≠x:=λc y r z=>by subst z;rw[r] at i;exact i
 have l:∀c g,H c=ac (.tup g)->c≠x:=λc g r z=>by subst z;rw[r] at i;exact i
 by_cases f:b=x
 ·subst f;rw[aq] at q;cases q;exact m
 ·rw[aI f] at q
  by_cases a:b=e
  ·have o:H b=ac (.own x):=by
    rcases n with z|z
    ·exact b3 (a.trans z) f
    ·rw[a];exact z
   rw[q] at o;cases o;obtain⟨v,p⟩:=j;exists v,by rw[a];exact p
  ·refine (ok b u q).stay (λc v hc r=>k c v ?_ r) (λc r=>by rw[aI (d c b r)];exact r) λc g r=>by rw[aI (l c g r)];exact r
   rcases hc with rfl|hc
   ·exact a
   ·rintro rfl
    rcases n with z|z
    ·exact d c b hc z
    ·rw[hc] at z;cases z;exact f rfl
end
structure Un(fs ex:List am)(H H':Hp)(h h':Heap):Prop where
 keep:∀b o,h.get? b=ac o->H b=ae->b∉fs->b∉ex->h'.get? b=ac o
 slot:∀b o,h.get? b=ac o->H b=ae->b∈fs->b∉ex->∃sl,h'.get? b=ac {o with slots:=sl}
 free:∀b o,h.get? b=ac o->H b=ae->b∉ex->H' b=ae
 there:∀b o,h.get? b=ac o->b∉ex->∃o',h'.get? b=ac o'
 tups:∀b xs,H b=ac (.tup xs)->H' b=ac (.tup xs)
 Ik:∀b o u,H b=ac (.f9 o u)->H' b=ac (.f9 o u)
 Jy:∀b ps,H b=ac (.xS ps)->∃more,H' b=ac (.xS (ps++more))
section
variable{fs fs' ex ex':List am}{H H1 H2:Hp}{h h1 h2 h':Heap}{a x e:am}{o:HO}
theorem Un.any(u:Un fs ex H H1 h h1)(q:h.get? b=ac ob)(n:H b=ae)(c:b∉ex):∃d,h1.get? b=ac {ob with slots:=d}:=by by_cases a:b∈fs;exact u.slot b ob q n a c;exists ob.slots,u.keep b ob q n a c
theorem Un.trans(a:Un fs ex H H1 h h1)(b:Un fs ex H1 H2 h1 h2):Un fs ex H H2 h h2 where
 keep:=λc ob q n f d=>b.keep c ob (a.keep c ob q n f d) (a.free c ob q n d) f d
 slot:=λc ob q n f d=>by
  obtain⟨p,e⟩:=a.slot c ob q n f d;obtain⟨k,i⟩:=b.slot c _ e (a.free c ob q n d) f d;exists k,i
 free:=λc ob q n d=>by
  obtain⟨j,e⟩:=a.there c ob q d;exact b.free c j e (a.free c ob q n d) d
 there:=λc ob q d=>by
  obtain⟨j,e⟩:=a.there c ob q d;exact b.there c j e d
 tups:=λc g q=>b.tups c g (a.tups c g q)
 Ik:=λc ob g q=>b.Ik c ob g (a.Ik c ob g q)
 Jy:=λc o q=>by
  obtain⟨m,e⟩:=a.Jy c o q;obtain⟨l,i⟩:=b.Jy c _ e;exists m++l,by rw[i,Array.append_assoc]
theorem Un.kept(k:∀b u,h.get? b=ac u->h'.get? b=ac u):Un fs ex H H h h' :=⟨λb ob q _ _ _=>k b ob q,λb ob q _ _ _=>⟨ob.slots,k b ob q⟩,λ_ _ _ n _=>n,λb ob q _=>⟨ob,k b ob q⟩,λ_ _ q=>q,λ_ _ _ q=>q,λ_ a q=>⟨#[],by rw[q];simp⟩⟩
def Un.refl:Un fs ex H H h h:=Un.kept λ_ _ q=>q
theorem Un.laid(k:∀b u,h.get? b=ac u->h'.get? b=ac u)(d:h.objs.size<=a)(c:H a=ae):Un fs ex H (upd H a o) h h' where
 keep:=λb u q _ _ _=>k b u q
 slot:=λb u q _ _ _=>⟨u.slots,k b u q⟩
 free:=λb u q n _=>by rw[aI (bB (bF (a7 q) d))];exact n
 there:=λb u q _=>⟨u,k b u q⟩
 tups:=λb e q=>by rw[aI (aJ q c)];exact q
 Ik:=λb u e q=>by rw[aI (aJ q c)];exact q
 Jy:=λb f q=>⟨#[],by rw[aI (aJ q c),q];simp⟩
theorem Un.write(c:hZ (H x))(l:e=x∨H e=ac (.own x))(k:∀b u,b≠e->h.get? b=ac u->h'.get? b=ac u)(d:∃u,h'.get? e=ac u):Un fs ex H (upd H x o) h h':=by
 have g:∀b,H b=ae->b≠x:=λb n z=>(by subst z;rw[n] at c;exact c);have i:∀b,H b=ae->b≠e:=λb n z=>(by subst z;rcases l with r|r;exact g b n r;rw[n] at r;cases r);have f:∀b u,H b=ac u->¬hZ (ac u)->b≠x:=λb u q j z=>(by subst z;rw[q] at c;exact j c)
 refine⟨λb u q n _ _=>k b u (i b n) q,λb u q n _ _=>⟨u.slots,k b u (i b n) q⟩,λb u q n _=>by rw[aI (g b n)];exact n,λb u q _=>?_,
  λb m q=>by rw[aI (f b _ q λz=>z)];exact q,λb u m q=>by rw[aI (f b _ q λz=>z)];exact q,λb p q=>⟨#[],by rw[aI (f b _ q λz=>z),q];simp⟩⟩
 by_cases a:b=e;subst a;exact d;exists u,k b u a q
end
def ih(h:Heap)(H:Hp):List am:=(ay h.objs.size).filter λa=>(H a).isSome
def VW(h:Heap)(H:Hp):Heap:=PySem.W.hideAll h (ih h H)
def ady(h:Heap)(H:Hp):(VW h H).objs.size=h.objs.size:=PySem.W.hideAll_size _ _
theorem aeY{h:Heap}{H:Hp}(e:h.get? b=ac o)(n:H b=ae):(VW h H).get? b=ac o:=
 PySem.W.hideAll_get _ e λa=>by
  have q:(H b).isSome=ag:=(cQ.mp a).2;rw[n] at q;simp at q
theorem aia(e:(VW h H).get? b=ac o):h.get? b=ac o/\H b=ae:=by have a:h.get? b=ac o:=PySem.W.of_hideAll (ih h H) e;exists a,4;cases q:H b with|none=>rfl|some x=>have c:b∈ih h H:=cQ.mpr ⟨dO.mpr (a7 a),by simp[q]⟩;have z:(VW h H).get? b=ae:=PySem.W.hideAll_none (ih h H) c;rw[z] at e;cases e
noncomputable def aib(g h:Heap)(L:am):List (am×Obj):=(ay h.objs.size).filterMap λa=>if a=L∨(g.get? a).isSome=ag then ae else (h.get? a).map λo=>(a,o)
def rest(g h:Heap)(L d:am):List (am×Obj):=(aib g h L).filter λp=>decide (p.1≠d)
structure Mod(K:af)(mg:Str->Option ap)(base:Heap):Prop where
 f6:K.In base
 glob:base.Ns ba mg
 blt:∃mb,base.Ns builtinsNs mb/\∀x:Str,x≠"__name__" -> mb x=bootBuiltins x
 nolimit:base.NoLimit
structure Cx where
 prog:bv
 w:World
 K:af
 mg:Str->Option ap
 base:Heap
 A:ce
 N:List Str
 s₀:ar
 H₀:Hp
 env:Env
 outer:List Env
 stack:List Env
 ex:List am
 fn:Str->Bool
 calm:Bool
 pn:List (am×Obj)
 xe:ap->ar->Prop
def dL(l:List Env):List am:=l.filterMap (·.frame)
noncomputable abbrev Cx.fs(X:Cx):List am:=dL X.outer
def j1(sc:Scope)(x:Str):Prop:=sc.names.lookup x=ac .local∨sc.names.lookup x=ac .cell∨sc.names.lookup x=ac .free
def Loc(sc:Scope)(x:Str):Prop:=sc.names.lookup x=ac .local∨sc.names.lookup x=ac .cell
def Look(env:Env)(h:Heap)(m:Str->Option ap)(x:Str)(u:ap):Prop:=
 (env.kindOf x=ac .local/\m x=ac u)∨((env.kindOf x=ac .cell∨env.kindOf x=ac .free)/\∃c,env.cells.lookup x=ac c/\h.IsCell c (ac u))
structure Cx.Ok(X:Cx):Prop where
 mod:Mod X.K X.mg X.base
 kind:X.env.scope.kind=.function
 glob:X.env.globals=ba
 blt:X.env.builtins=builtinsNs
 above:X.s₀.heap.objs.size<=X.env.locals
 inj:∀x y c,X.env.cells.lookup x=ac c->X.env.cells.lookup y=ac c->x=y
 has:∀x,(X.env.kindOf x=ac .cell∨X.env.kindOf x=ac .free)->∃c,X.env.cells.lookup x=ac c
 O3:∀x c,X.fn x=ag->X.env.cells.lookup x=ac c->X.s₀.heap.objs.size<=c
 hd:X.calm=ag->X.A.handled=ae
 frames:X.A.frames=ac X.stack
 stk:X.stack=X.outer∨(X.stack=X.env::X.outer/\X.env.frame=ac X.env.locals)
 exf:∀b∈X.ex,b≠X.env.locals/\∀x c,X.env.cells.lookup x=ac c->c≠b
 bs:∀b o,X.base.get? b=ac o->X.s₀.heap.get? b=ac o/\X.H₀ b=ae
 jz:X.base.objs.size<=X.s₀.heap.objs.size
 aaf:∀b o,X.base.get? b=ac o->b∉X.ex
 adA:∀b∈X.ex,b∉X.fs
 Jz:X.s₀.heap.FunFrames X.base X.outer
 su:∀b∈X.fs,X.H₀ b=ae
structure Inv(X:Cx)(pins:List (am×Obj))(σ:List (Option V))(H:Hp)(s:ar):Prop where
 ok:X.Ok
 os:s.os=X.s₀.os
 bare:AllBare s.gens
 base:Un X.fs X.ex X.H₀ H X.s₀.heap s.heap
 loc:∃m,s.heap.Ns X.env.locals m/\∀(i:Nat)(x:Str)(v:V),X.N[i]?=ac x->σ[i]?=ac (ac v)->j1 X.env.scope x->∃u,RelV v u/\Look X.env s.heap m x u
 cell:∀x c,X.env.cells.lookup x=ac c->∃v,s.heap.IsCell c v
 free:H X.env.locals=ae
 vp:∀x c,X.env.cells.lookup x=ac c->H c=ae
 pin:∀p∈X.pn++pins,s.heap.get? p.1=ac p.2/\H p.1=ae/\p.1≠X.env.locals/\p.1∉X.fs/\∀v,p.2.data≠.cell v
 hok:E6 X.prog X.w H s.heap
 len:σ.length=X.N.length
section
variable{X:Cx}{pins:List (am×Obj)}{σ:List (Option V)}{H H':Hp}{s:ar}{h':Heap}
theorem Cx.Ok.aq3(ok:X.Ok)(e:X.base.get? b=ac o):b∉X.fs:=λa=>by
 have:=(ok.Jz.mem a).1
 rw[e] at this;cases this
theorem Inv.bs(I:Inv X pins σ H s):∀b o,X.base.get? b=ac o->s.heap.get? b=ac o/\H b=ae:=λb o e => ⟨I.base.keep b o (I.ok.bs b o e).1 (I.ok.bs b o e).2 (I.ok.aq3 e) (I.ok.aaf b o e),I.base.free b o (I.ok.bs b o e).1 (I.ok.bs b o e).2 (I.ok.aaf b o e)⟩
def Inv.bk(I:Inv X pins σ H s):∀b o,X.base.get? b=ac o->s.heap.get? b=ac o:=λb o e=>(I.bs b o e).1
theorem Inv.mod(I:Inv X pins σ H s):Mod X.K X.mg X.base:=I.ok.mod
def Inv.IA(I:Inv X pins σ H s):X.K.In s.heap:=I.ok.mod.f6.keeps I.bk
theorem Inv.lt(I:Inv X pins σ H s):X.env.locals<s.heap.objs.size:=let ⟨_,a,_⟩:=I.loc;a.lt
def Inv.sz(I:Inv X pins σ H s):X.s₀.heap.objs.size<=s.heap.objs.size:=aE I.ok.above (oX I.lt)
theorem Inv.aq4(I:Inv X pins σ H s){a:am}(h:s.heap.objs.size<=a):a∉X.fs:=λb=>by
 obtain⟨_,o,c,_⟩:=I.ok.Jz.mem b;exact b3 (bF (a7 c) (aE I.sz h)) (lG _)
theorem Inv.E2(I:Inv X pins σ H s):∀x c,X.env.cells.lookup x=ac c->c≠X.env.locals:=λx c e z=>by
 obtain⟨v,o,f,d⟩:=I.cell x c e;obtain⟨m,⟨g,i,h,a,b,_⟩,_⟩:=I.loc;rw[z,a] at f;cases f;rw[b] at d;cases d
theorem Inv.Jz(I:Inv X pins σ H s):s.heap.FunFrames X.base X.outer:=by have f:∀(l:List Env),(∀b∈dL l,b∈X.fs)->X.s₀.heap.FunFrames X.base l->s.heap.FunFrames X.base l:=(by intro l;induction l with|nil=>intro _ _;trivial|cons p r k=>intro g q;obtain⟨n,⟨L,o,d,j,h,i⟩,m⟩:=q;have c:L∈X.fs:=g L (by unfold dL;rw[fE,d];exact aP);obtain⟨t,e⟩:=I.base.slot L o h (I.ok.su L c) c λz=>I.ok.adA L z c;exists n,⟨L,_,d,j,e,i⟩,k (λb a=>g b (by unfold dL;rw[fE,d];exact aR _ a)) m);exact f X.outer (λ_ a=>a) I.ok.Jz
theorem Inv.stack(I:Inv X pins σ H s):s.heap.FunFrames X.base X.stack:=by rcases I.ok.stk with e|⟨e,a⟩;rw[e];exact I.Jz;rw[e];obtain⟨m,b,_⟩:=I.loc;refine .cons (by rw[I.ok.kind];decide) a b ?_ I.Jz;exact Heap.get?_none_of_le (aE I.ok.jz I.ok.above)
theorem Inv.Av(I:Inv X pins σ H s):∀b∈dL X.stack,b∈X.env.locals::X.fs:=λb a=>by
 rcases I.ok.stk with e|⟨e,c⟩
 ·rw[e] at a;exact aR _ a
 ·rw[e] at a
  unfold dL at a;rw[fE,c] at a;exact a
theorem Inv.VX(I:Inv X pins σ H s):∀b∈dL X.stack,H b=ae:=λb hb=>by
 rcases aM.mp (I.Av b hb) with e|hb
 ·rw[e];exact I.free
 ·obtain⟨_,o,a,_⟩:=I.ok.Jz.mem hb
  exact I.base.free b o a (I.ok.su b hb) λz=>I.ok.adA b z hb
theorem Inv.step{g':Array GenState}{t':Nat}{d':Drawn}{ch:List am}(I:Inv X pins σ H s)(h:∀b∈ch,(b∈X.ex∨X.s₀.heap.objs.size<=b)/\b≠X.env.locals/\(∀x c,X.env.cells.lookup x=ac c->c≠b)/\∀p∈X.pn++pins,p.1≠b)(keep:∀b o,b≠X.env.locals->b∉X.fs->b∉ch->s.heap.get? b=ac o->H b=ae->h'.get? b=ac o)(slot:∀b o,b≠X.env.locals->b∈X.fs->b∉ch->s.heap.get? b=ac o->H b=ae->∃K,h'.get? b=ac {o with slots:=K})(free:∀b o,b∉ch->s.heap.get? b=ac o->H b=ae->H' b=ae)(there:∀b o,b∉ch->s.heap.get? b=ac o->∃E,h'.get? b=ac E)(tups:∀b y,H b=ac (.tup y)->H' b=ac (.tup y))(Ik:∀b o u,H b=ac (.f9 o u)->H' b=ac (.f9 o u))(Jy:∀b G,H b=ac (.xS G)->∃D,H' b=ac (.xS (G++D)))(S:∀m,s.heap.Ns X.env.locals m->h'.Ns X.env.locals m)(M:E6 X.prog X.w H' h')(Q:AllBare g') :Inv X pins σ H' {s with heap:=h',gens:=g',drawn:=d',toks:=t'}:=by have F:∀b o,X.s₀.heap.get? b=ac o->b≠X.env.locals:=λb o e=>bB (bF (a7 e) I.ok.above);have j:∀b o,X.s₀.heap.get? b=ac o->b∉X.ex->b∉ch:=λb o e a A=>(by rcases (h b A).1 with z|z;exact a z;exact b3 (bF (a7 e) z) (lG _));have g:∀x c,X.env.cells.lookup x=ac c->∀v,s.heap.IsCell c v->h'.IsCell c v:=λx c e v ⟨o,B,J⟩=>(by have f:c∉ch:=λz=>(h c z).2.2.1 x c e rfl;by_cases O:c∈X.fs;obtain⟨K,q⟩:=slot c o (I.E2 x c e) O f B (I.vp x c e);exists _,q,J;exists o,keep c o (I.E2 x c e) O f B (I.vp x c e),J);exists I.ok,I.os,Q,⟨λb o e n A a=>?_,λb o e n A a=>?_,λb o e n a=>?_,λb o e a=>?_,λb y e=>tups b y (I.base.tups b y e),λb o y e=>Ik b o y (I.base.Ik b o y e),λb G e=>?_⟩,4,λx c e=>?_,4,λx c e=>?_,λp P=>?_,M,I.len;exact keep b o (F b o e) A (j b o e a) (I.base.keep b o e n A a) (I.base.free b o e n a);obtain⟨K,t⟩:=I.base.slot b o e n A a;obtain⟨L,C⟩:=slot b _ (F b o e) A (j b o e a) t (I.base.free b o e n a);exists L,C;obtain⟨E,t⟩:=I.base.there b o e a;exact free b E (j b o e a) t (I.base.free b o e n a);obtain⟨E,t⟩:=I.base.there b o e a;exact there b E (j b o e a) t;obtain⟨U,t⟩:=I.base.Jy b G e;obtain⟨T,C⟩:=Jy b _ t;exact⟨U++T,by rw[C,Array.append_assoc]⟩;obtain⟨m,R,V⟩:=I.loc;exists m,S m R,λi x v t C W=>?_;obtain⟨u,r,l⟩:=V i x v t C W;exists u,r,4;rcases l with l|⟨k,c,e,z⟩;exact .inl l;exact .inr ⟨k,c,e,g x c e _ z⟩;obtain⟨v,z⟩:=I.cell x c e;exists v,g x c e v z;obtain⟨m,⟨o,_,_,B,_⟩,_⟩:=I.loc;exact free _ o (λz=>(h _ z).2.1 rfl) B I.free;obtain⟨v,o,B,J⟩:=I.cell x c e;exact free c o (λz=>(h c z).2.2.1 x c e rfl) B (I.vp x c e);obtain⟨e,n,N,nf,d⟩:=I.pin p P;have f:p.1∉ch:=λz=>(h p.1 z).2.2.2 p P rfl;exists keep p.1 p.2 N nf f e n,free p.1 p.2 f e n,N,nf,d
theorem Inv.un{t':Nat}(I:Inv X pins σ H s)(u:Un X.fs [] H H' s.heap h')(g:E6 X.prog X.w H' h'):Inv X pins σ H' {s with heap:=h',toks:=t'}:=by obtain⟨m,⟨o,t,q,h,r⟩,_⟩:=id I.loc;obtain⟨v,i⟩:=u.any h I.free (-_);exact I.step (g':=s.gens) (d':=s.drawn) (ch:=[]) (λ_ z=>nomatch z) (λb o _ c _ e n=>u.keep b o e n c (-_)) (λb o _ c _ e n=>u.slot b o e n c (-_)) (λb o _ e n=>u.free b o e n (-_)) (λb o _ e=>u.there b o e (-_)) u.tups u.Ik u.Jy (λl k=>by obtain⟨p,f,d,a,j⟩:=k;rw[h] at a;cases a;exists _,f,d,i,j) g I.bare
theorem Inv.call{g':Array GenState}{t':Nat}{d':Drawn}{ch:List am}(I:Inv X pins σ H s)(u:Un (dL X.stack) ch H H' s.heap h')(j:E6 X.prog X.w H' h')(l:AllBare g')(d:∀b∈ch,(b∈X.ex∨X.s₀.heap.objs.size<=b)/\b≠X.env.locals/\(∀x c,X.env.cells.lookup x=ac c->c≠b)/\∀p∈X.pn++pins,p.1≠b) :Inv X pins σ H' {s with heap:=h',gens:=g',drawn:=d',toks:=t'}:=by obtain⟨m,⟨o,C,B,k,r⟩,_⟩:=id I.loc;obtain⟨D,g⟩:=u.any k I.free λz=>(d _ z).2.1 rfl;exact I.step (ch:=ch) d (λb o g q a e n=>u.keep b o e n (λz=>(aM.mp (I.Av b z)).elim g q) a) (λb o _ _ a e n=>u.any e n a) (λb o a e n=>u.free b o e n a) (λb o a e=>u.there b o e a) u.tups u.Ik u.Jy (λy v=>by obtain⟨A,i,h,f,t⟩:=v;rw[k] at f;cases f;exists _,i,h,g,t) j l
theorem Inv.turned{t':Nat}{a:am}(I:Inv X pins σ H s)(k:∀b o,b≠a->s.heap.get? b=ac o->h'.get? b=ac o)(t:H a=ae)(g:a≠X.env.locals)(y:a∈X.ex∨X.s₀.heap.objs.size<=a)(h:∀x c,X.env.cells.lookup x=ac c->c≠a)(j:∀p∈X.pn++pins,p.1≠a):Inv X pins σ H {s with heap:=h',toks:=t'}:=by have f:∀b u,H b=ac u->b≠a:=λb u e z=>(by rw[z,t] at e;cases e);refine I.step (g':=s.gens) (d':=s.drawn) (ch:=[a]) (λb l=>?_) (λb o _ _ d e _=>k b o (λz=>d (by simp[z])) e) (λb o _ _ d e _=>⟨o.slots,k b o (λz=>d (by simp[z])) e⟩) (λ_ _ _ _ n=>n) (λb o d e=>⟨o,k b o (λz=>d (by simp[z])) e⟩) (λ_ _ e=>e) (λ_ _ _ e=>e) (λb C e=>⟨#[],by rw[e];simp⟩) (λm B=>?_) (λb u e=>?_) I.bare;have e:b=a:=(by simpa using l);subst e;exists y,g,h,j;obtain⟨o,A,w,i,r⟩:=B;exists o,A,w,k _ o (bS g) i,r;refine (I.hok b u e).stay (λc v d q=>k c v ?_ q) (λ_ q=>q) λ_ _ q=>q;rcases d with z|z;rw[z];exact f b u e;exact f c _ z
def Inv.tok(I:Inv X pins σ H s)(t:Nat):Inv X pins σ H {s with toks:=t}:=I.un (h':=s.heap) (t':=t) Un.refl I.hok
theorem Inv.kept{t':Nat}(I:Inv X pins σ H s)(k:∀b u,s.heap.get? b=ac u->h'.get? b=ac u):Inv X pins σ H {s with heap:=h',toks:=t'}:=I.un (Un.kept k) (I.hok.kept k)
theorem Inv.laid{a:am}{o:HO}{t':Nat}(I:Inv X pins σ H s)(k:∀b u,s.heap.get? b=ac u->h'.get? b=ac u)(d:s.heap.objs.size<=a)(c:jk X.prog X.w (upd H a o) h' a o) :Inv X pins σ (upd H a o) {s with heap:=h',toks:=t'}:=I.un (Un.laid k d (I.hok.fresh d)) (I.hok.laid k d c)
theorem Inv.write{x e:am}{o:HO}{t':Nat}(I:Inv X pins σ H s)(f:hZ (H x))(d:e=x∨H e=ac (.own x))(k:∀b u,b≠e->s.heap.get? b=ac u->h'.get? b=ac u)(a:∃u,h'.get? e=ac u)(c:jk X.prog X.w (upd H x o) h' x o):Inv X pins σ (upd H x o) {s with heap:=h',toks:=t'}:=I.un (Un.write f d k a) (I.hok.write f d k a c)
def Inv.abL{a:List (am×Obj)}(I:Inv X pins σ H s)(h:∀p∈a,s.heap.get? p.1=ac p.2/\H p.1=ae/\p.1≠X.env.locals/\p.1∉X.fs/\∀v,p.2.data≠.cell v):Inv X a σ H s :=⟨I.ok,I.os,I.bare,I.base,I.loc,I.cell,I.free,I.vp,λp b=>(bh.mp b).elim (λz=>I.pin p (List.mem_append_left _ z)) (h p),I.hok,I.len⟩
theorem Qh{N:List Str}(e:N.Nodup){i j:Nat}(a:N[i]?=ac x)(b:N[j]?=ac x):i=j:=by obtain⟨f,d⟩:=ai.mp a;obtain⟨g,c⟩:=ai.mp b;exact (List.getElem_inj e).mp (d.trans c.symm)
theorem Mf{M:Model}{A:ce}{E:ap->ar->Prop}{i:Nat}{x:Str}{v:V}{u:ap}{Q:Unit->ar->Prop}(I:Inv X pins σ H s)(hN:X.N.Nodup)(K:X.N[i]?=ac x)(t:Loc X.env.scope x)(r:RelV v u)(h:∀s',Inv X pins (σ.set i (ac v)) H s'->(∃a,Heap.SameBut a s.heap s'.heap/\(a=X.env.locals∨X.env.cells.lookup x=ac a))->Q () s')(hf:X.fn x=ag∨X.env.scope.names.lookup x=ac .local:=by first|exact .inl rfl|exact .inr rfl|assumption):bt M A (storeName X.env x u) Q E s:=by obtain⟨m,hn,hl⟩:=id I.loc;have R:(X.env.scope.kind==.class || (X.env.scope.kind==.module&&X.env.locals != X.env.globals))=al:=(by rw[I.ok.kind];rfl);have O:i<σ.length:=(by rw[I.len];exact (ai.mp K).1);have E2:=I.E2;have l:∀{a:am}{h':Heap},(∃o,s.heap.get? a=ac o/\H a=ae)->Heap.SameBut a s.heap h'->E6 X.prog X.w H h':=λ{a h'}ha f b ob e=>(by obtain⟨_,_,B⟩:=ha;refine (I.hok b ob e).stay (λc T hc q=>(f.2 c ?_).trans q) (λ_ q=>q) λ_ _ q=>q;rintro rfl;rcases hc with rfl|hc;rw[B] at e;cases e;rw[B] at hc;cases hc);rcases t with hk|hk;refine wpAny_storeName_local hk hn (λh' hn' f=>?_) R;obtain⟨oL,_,_,Z,_⟩:=id hn;refine h _ ⟨I.ok,I.os,I.bare,⟨λb o e n D t=>?_,λb o e n D t=>?_,I.base.free,λb o e t=>?_,I.base.tups,I.base.Ik,I.base.Jy⟩,⟨_,hn',λj y v' g C e3=>?_⟩,λy c e=>?_,I.free,I.vp,λp hp=>?_,l ⟨oL,Z,I.free⟩ f,by simpa using I.len⟩ ⟨_,f,.inl rfl⟩;exact (f.2 b (bB (bF (a7 e) I.ok.above))).trans (I.base.keep b o e n D t);obtain⟨sl,g⟩:=I.base.slot b o e n D t;exists sl,(f.2 b (bB (bF (a7 e) I.ok.above))).trans g;obtain⟨Y,g⟩:=I.base.there b o e t;exists Y,(f.2 b (bB (bF (a7 e) I.ok.above))).trans g;by_cases F:j=i;subst F;rw[K] at g;cases g;rw[List.getElem?_set_self O] at C;cases C;exists u,r,.inl ⟨hk,-_⟩;rw[List.getElem?_set_ne (bS F)] at C;obtain⟨W,r',q⟩:=hl j y v' g C e3;exists W,r',4;rcases q with ⟨k,e⟩|⟨k,c,e,z⟩;refine .inl ⟨k,4⟩;have:y≠x:=λe=>F (Qh hN g (e▸K));simp[this,e];exact .inr ⟨k,c,e,z.sameBut f (E2 y c e)⟩;obtain⟨T,z⟩:=I.cell y c e;exists T,z.sameBut f (E2 y c e);obtain⟨e,n,S,nf,d⟩:=I.pin p hp;exists (f.2 p.1 S).trans e,n,S,nf,d;have G:X.fn x=ag:=(by rcases hf with z|z;exact z;rw[z] at hk;cases hk);obtain⟨c,hc⟩:=I.ok.has x (.inl hk);obtain⟨T,z⟩:=I.cell x c hc;refine wpAny_storeName_cell I.ok.kind hk hc z (λh' L f=>?_);obtain⟨oc,J,aq6⟩:=id z;refine h {s with heap:=h'} ⟨I.ok,I.os,I.bare,⟨λb o e n D t=>?_,λb o e n D t=>?_,I.base.free,λb o e t=>?_,I.base.tups,I.base.Ik,I.base.Jy⟩,⟨m,hn.sameBut f (bS (E2 x c hc)),λj y v' g C e3=>?_⟩,λy U e=>?_,I.free,I.vp,λp hp=>?_,l ⟨oc,J,I.vp x c hc⟩ f,by simpa using I.len⟩ ⟨c,f,.inr hc⟩;exact (f.2 b (bB (bF (a7 e) (I.ok.O3 x c G hc)))).trans (I.base.keep b o e n D t);obtain⟨sl,g⟩:=I.base.slot b o e n D t;exists sl,(f.2 b (bB (bF (a7 e) (I.ok.O3 x c G hc)))).trans g;obtain⟨Y,g⟩:=I.base.there b o e t;exists Y,(f.2 b (bB (bF (a7 e) (I.ok.O3 x c G hc)))).trans g;by_cases F:j=i;subst F;rw[K] at g;cases g;rw[List.getElem?_set_self O] at C;cases C;exists u,r,.inr ⟨.inl hk,c,hc,L⟩;rw[List.getElem?_set_ne (bS F)] at C;obtain⟨W,r',q⟩:=hl j y v' g C e3;exists W,r',4;rcases q with q|⟨k,U,e,z'⟩;exact .inl q;refine .inr ⟨k,U,e,z'.sameBut f ?_⟩;rintro rfl;exact F (Qh hN g (I.ok.inj _ _ _ e hc▸K));by_cases P:U=c;subst P;exists _,L;obtain⟨w2,z2⟩:=I.cell y U e;exists w2,z2.sameBut f P;obtain⟨e,n,S,nf,d⟩:=I.pin p hp;exists (f.2 p.1 ?_).trans e,n,S,nf,d;intro q;rw[q,J] at e;have q':oc=p.2:=aT e;exact d T (by rw[<- q'];exact aq6)
theorem KP{M:Model}{A:ce}{E:ap->ar->Prop}{i:Nat}{x:Str}{v:V}{u:ap}{Q:Unit->ar->Prop}(I:Inv X pins σ H s)(b:X.N.Nodup)(a:X.N[i]?=ac x)(d:Loc X.env.scope x)(r:RelV v u)(h:∀s',Inv X pins (σ.set i (ac v)) H s'->Q () s')(c:X.fn x=ag∨X.env.scope.names.lookup x=ac .local:=by first|exact .inl rfl|exact .inr rfl|assumption):bt M A (storeName X.env x u) Q E s :=Mf I b a d r (λs' e _=>h s' e) c
theorem Inv.ae0{s':ar}{ch:List am}(I:Inv X pins σ H s)(h:s'.os=s.os)(u:Un (dL X.stack) ch H H' s.heap s'.heap)(a:E6 X.prog X.w H' s'.heap)(g:AllBare s'.gens)(d:∀b∈ch,(b∈X.ex∨X.s₀.heap.objs.size<=b)/\b≠X.env.locals/\(∀x c,X.env.cells.lookup x=ac c->c≠b)/\∀p∈X.pn++pins,p.1≠b):Inv X pins σ H' s':=by obtain⟨h',g',d',t',f⟩:=s';have e:f=s.os:=h;subst e;exact I.call (g':=g') (t':=t') (d':=d') u a g d
end
abbrev XK:=ap->Option am->Hp->Prop
abbrev St:=List (Option V)
abbrev VK:=V->Hp->Prop
abbrev TE:=St->Hp->VK->Prop
abbrev TT:=St->Hp->(Bool->Hp->Prop)->Prop
abbrev TA:=St->Hp->(List V->Hp->Prop)->Prop
structure en where
 nx:St->Hp->Prop
 rt:VK
 bk:St->Hp->Prop:=λ_ _=>False
 ct:St->Hp->Prop:=λ_ _=>False
abbrev TS:=en->St->Hp->Prop
inductive EP(X:Cx)(pins:List (am×Obj))(σ:St)(Q:VK)(u:ap)(s':ar):Prop
 |mk(v:V)(H':Hp)(a:Inv X pins σ H' s')(b:RelV v u)(c:Q v H'):EP X pins σ Q u s'
inductive TP(X:Cx)(pins:List (am×Obj))(σ:St)(Q:Bool->Hp->Prop)(b:Bool)(s':ar):Prop
 |mk(H':Hp)(a:Inv X pins σ H' s')(c:Q b H'):TP X pins σ Q b s'
inductive AP(X:Cx)(pins:List (am×Obj))(σ:St)(Q:List V->Hp->Prop)(us:List ap)(s':ar):Prop
 |mk(vs:List V)(H':Hp)(a:Inv X pins σ H' s')(b:ck vs us)(c:Q vs H'):AP X pins σ Q us s'
def SP(X:Cx)(pins:List (am×Obj))(D:en)(f:Flow)(s':ar):Prop:=
 match f with
 |.next=>∃σ' H',Inv X pins σ' H' s'/\D.nx σ' H'
 |.brk=>∃σ' H',Inv X pins σ' H' s'/\D.bk σ' H'
 |.cont=>∃σ' H',Inv X pins σ' H' s'/\D.ct σ' H'
 |.ret u=>∃v σ' H',Inv X pins σ' H' s'/\RelV v u/\D.rt v H'
def PE(X:Cx)(e:Expr)(t:TE):Prop:=
 ∀(pins:List (am×Obj))(s:ar)(σ:St)(H:Hp)(Q:VK),Inv X pins σ H s->t σ H Q->bt (model X.prog X.w) X.A (eval e X.env) (EP X pins σ Q) X.xe s
def PT(X:Cx)(e:Expr)(t:TT):Prop:=
 ∀(pins:List (am×Obj))(s:ar)(σ:St)(H:Hp)(Q:Bool->Hp->Prop),Inv X pins σ H s->t σ H Q->bt (model X.prog X.w) X.A (isTrue e X.env (eval e X.env)) (TP X pins σ Q) X.xe s
def PW(X:Cx)(e:Expr)(t:TT):Prop:=
 ∀(whole:Sem ap)(pins:List (am×Obj))(s:ar)(σ:St)(H:Hp)(Q:Bool->Hp->Prop),Inv X pins σ H s->t σ H Q->bt (model X.prog X.w) X.A (isTrue e X.env whole) (TP X pins σ Q) X.xe s
def PW.pt(h:PW X e t):PT X e t:=h _
def PA(X:Cx)(es:List Expr)(t:TA):Prop:=
 ∀(pos:Pos)(pins:List (am×Obj))(s:ar)(σ:St)(H:Hp)(Q:List V->Hp->Prop),Inv X pins σ H s->t σ H Q->bt (model X.prog X.w) X.A (spliced (backTo pos (bc es X.env))) (AP X pins σ Q) X.xe s
def PS(X:Cx)(st:Stmt)(t:TS):Prop:=
 ∀(pins:List (am×Obj))(s:ar)(σ:St)(H:Hp)(D:en),Inv X pins σ H s->t D σ H->bt (model X.prog X.w) X.A (exec st X.env) (SP X pins D) X.xe s
def i9(X:Cx)(st:List Stmt)(t:TS):Prop:=
 ∀(pins:List (am×Obj))(s:ar)(σ:St)(H:Hp)(D:en),Inv X pins σ H s->t D σ H->bt (model X.prog X.w) X.A (execs st X.env) (SP X pins D) X.xe s
def g8{c:Type}{t:Sem c}{Q b:c->ar->Prop}{M:Model}{A:ce}{E:ap->ar->Prop}{s:ar}(h:bt M A t Q E s)(d:∀a s,Q a s->b a s):bt M A t b E s:=wpAny_mono h d λ_ _ x=>x
section
variable{X:Cx}
inductive E7(i:Nat)(σ:St)(H:Hp)(Q:VK):Prop
 |mk(v:V)(a:σ[i]?=ac (ac v))(b:Q v H):E7 i σ H Q
def tC(v:V):TE:=λ_ H Q=>Q v H
theorem alk{i:Nat}(o:X.N[i]?=ac x)(p:j1 X.env.scope x)(f:(x==("__debug__" : Str))=al:=by decide)(g:(x==("__classdict__" : Str))=al:=by decide):PE X (.Name x pos) (E7 i):=by intro d s k H Q I h;obtain⟨v,e,h⟩:=h;obtain⟨m,n,q⟩:=I.loc;obtain⟨u,r,l⟩:=q i x v o e p;have b:EP X d k Q u s:=⟨v,H,I,r,h⟩;rcases l with ⟨hk,t⟩|⟨hk,c,j,a⟩;exact wpAny_Name (wpAny_loadName_local I.ok.kind hk n t b) f;rcases hk with hk|hk;exact wpAny_Name (wpAny_loadName_cell I.ok.kind hk j a b) f;exact wpAny_Name (wpAny_loadName_free I.ok.kind hk j a b g) f
def aC{i j pos}:PE X (.Constant (.int i) j pos) (tC (.int i)):=λ_ _ _ H _ I h=>wpAny_Constant_int ⟨.int i,H,I.tok _,⟨1⟩,h⟩
def IB{b j pos}:PE X (.Constant (.bool b) j pos) (tC (.bl b)):=λ_ _ _ H _ I h=>Constant_bool ⟨.bl b,H,I,2,h⟩
def ny{j pos}:PE X (.Constant .none j pos) (tC .fW):=λ_ _ _ H _ I h=>Constant_none ⟨.fW,H,I,2,h⟩
def au{x j pos}:PE X (.Constant (.str x) j pos) (tC (.str x)):=λ_ _ _ H _ I h=>Calls.Constant_str ⟨.str x,H,I.tok _,⟨1⟩,h⟩
def Gl(X:Cx)(x:Str):Prop:=X.env.kindOf x=ac .globalImplicit
theorem zQ{E:ap->ar->Prop}{a:List (am×Obj)}{s:ar}{c:St}{H:Hp}{x:Str}{u:ap}{b:Pos}{Q:ap->ar->Prop}(I:Inv X a c H s)(e:Gl X x)(f:X.mg x=ac u)(h:Q u s)(d:(x==("__debug__" : Str))=al:=by decide):bt (model X.prog X.w) X.A (eval (.Name x b) X.env) Q E s :=Calls.Name_function_global I.ok.kind e (Calls.loadGlobal_global (by rw[I.ok.glob];exact I.mod.glob.keeps I.bk) f h) d
theorem Qi{E:ap->ar->Prop}{a:List (am×Obj)}{s:ar}{e:St}{H:Hp}{x:Str}{u:ap}{b:Pos}{Q:ap->ar->Prop}(I:Inv X a e H s)(c:Gl X x)(k:X.mg x=ae)(j:bootBuiltins x=ac u)(h:Q u s) (g:x≠"__name__" := by decide) (f:(x==("__debug__" : Str))=al:=by decide):bt (model X.prog X.w) X.A (eval (.Name x b) X.env) Q E s:=by obtain⟨l,i,d⟩:=I.mod.blt;exact Calls.Name_function_global I.ok.kind c (Calls.loadGlobal_builtin (by rw[I.ok.glob];exact I.mod.glob.keeps I.bk) k (by rw[I.ok.blt];exact i.keeps I.bk) ((d x g).trans j) h) f
theorem cF(b:Gl X x)(c:X.mg x=ac u)(r:RelV v u)(a:(x==("__debug__" : Str))=al:=by decide):PE X (.Name x pos) (tC v) :=λ_ _ _ H _ I h=>zQ I b c ⟨v,H,I,r,h⟩ a
theorem aid(b:Gl X x)(e:X.mg x=ae)(c:bootBuiltins x=ac u)(r:RelV v u)(d:x≠"__name__" := by decide)(a:(x==("__debug__" : Str))=al:=by decide):PE X (.Name x pos) (tC v) :=λ_ _ _ H _ I h=>Qi I b e c ⟨v,H,I,r,h⟩ d a
variable{a b:Expr}{ta tb:TE}{pos:Pos}
def PC(X:Cx)(op:CmpOp)(a b:Expr)(t:TE):Prop:=
 ∀(pins:List (am×Obj))(s:ar)(σ:St)(H:Hp)(Q:VK),Inv X pins σ H s->t σ H Q ->
  bt (model X.prog X.w) X.A (eval a X.env) (λv s₁=>bt (model X.prog X.w) X.A (eval b X.env) (λu s₂=>bt (model X.prog X.w) X.A (bn op v u) (EP X pins σ Q) X.xe s₂) X.xe s₁) X.xe s
inductive pb(Q:Bool->Hp->Prop)(x:V)(H1:Hp):Prop
 |mk(c:Bool)(a:x=.bl c)(b:Q c H1):pb Q x H1
def tB(t:TE):TT:=λσ H Q=>t σ H (pb Q)
theorem oa(h:PC X op a b t)(f:behindInMarks op b=al:=by first|exact anY _ (!_) (!_)|rfl):PT X (.Compare a [op] [b] pos) (tB t):=by intro e s j H Q I m;refine wpAny_isTrue_Compare1 (g8 (h e s j H _ I m) λv o f=>g8 f λu p i=>g8 i λc r ⟨x,l,k,g,n⟩=>?_) f;obtain⟨d,rfl,q⟩:=n;cases g;exact wpAny_truthy_bool ⟨l,k,q⟩
theorem j3(h:PE X e t)(g:∀a,isTrue e X.env a=(do let v <- a;standAt e.pos;holding [v] (truthy v)):=by intro _;rfl):PT X e (tB t):=by intro b s f H Q I k;refine isTrue_plain (g8 (h b s f H _ I k) λv m ⟨x,j,i,c,l⟩=>?_) (g _);obtain⟨d,rfl,q⟩:=l;cases c;exact wpAny_truthy_bool ⟨j,i,q⟩
variable{tA tB':TT}{rest:List Expr}
def Sr(t u:TT):TT:=λσ H Q=>t σ H λc H1=>if c=ag then u σ H1 Q else Q al H1
def KM(t u:TT):TT:=λσ H Q=>t σ H λc H1=>if c=ag then Q ag H1 else u σ H1 Q
def Sc(t:TT):TT:=λσ H Q=>t σ H λc H1=>Q (!c) H1
theorem zR(f:PT X a tA):PW X (.BoolOp .And [a] pos) tA:=by intro i b s d H Q I h;refine isTrue_and (g8 (f b s d H Q I h) λc g e=>?_);cases c with|true=>exact isTrue_and_nil e|false=>exact e
theorem Qj(f:PT X a tA):PW X (.BoolOp .Or [a] pos) tA:=by intro i b s d H Q I h;refine isTrue_or (g8 (f b s d H Q I h) λc g e=>?_);cases c with|false=>exact isTrue_or_nil e|true=>exact e
theorem E8(j:PT X a tA)(l:PW X (.BoolOp .And (b::rest) pos) tB'):PW X (.BoolOp .And (a::b::rest) pos) (Sr tA tB'):=by intro m d s e H Q I h;refine isTrue_and (g8 (j d s e H _ I h) λc k ⟨g,f,i⟩=>?_);cases c with|true=>exact l m d k e g Q f i|false=>exists g,f,i
theorem XS(j:PT X a tA)(l:PW X (.BoolOp .Or (b::rest) pos) tB'):PW X (.BoolOp .Or (a::b::rest) pos) (KM tA tB'):=by intro m d s e H Q I h;refine isTrue_or (g8 (j d s e H _ I h) λc k ⟨g,f,i⟩=>?_);cases c with|true=>exact⟨g,f,i⟩|false=>exact l m d k e g Q f i
theorem g9(f:PT X a tA):PT X (.UnaryOp .Not a pos) (Sc tA):=by intro b s e H Q I h;exact isTrue_not (g8 (f b s e H (λc d=>Q (!c) d) I h) λ_ _ ⟨d,g,i⟩=>⟨d,g,i⟩)
def anZ(ta tb:TE):TE:=λσ H Q=>ta σ H λx H1=>∃c,x=.bl c/\if c=ag then tb σ H1 Q else Q (.bl al) H1
def P2(ta tb:TE):TE:=λσ H Q=>ta σ H λx H1=>∃c,x=.bl c/\if c=ag then Q (.bl ag) H1 else tb σ H1 Q
def an0(ta:TE):TE:=λσ H Q=>ta σ H λx H1=>∃c,x=.bl c/\Q (.bl (!c)) H1
def JA{op}{t:TE}(h:PE X a t):PE X (.BoolOp op [a] pos) t:=λb s c H Q I d=>BoolOp_one (h b s c H Q I d)
theorem E9(k:PE X a ta)(m:PE X (.BoolOp .And (b::rest) pos) tb):PE X (.BoolOp .And (a::b::rest) pos) (anZ ta tb):=by intro d s f H Q I h;refine BoolOp_and (g8 (k d s f H _ I h) λv l ⟨x,i,g,j,e⟩=>?_);obtain⟨c,rfl,e⟩:=e;cases j;refine wpAny_truthy_bool ?_;cases c with|true=>exact m d l f i Q g e|false=>exists .bl al,i,g,2,e
theorem ut(k:PE X a ta)(m:PE X (.BoolOp .Or (b::rest) pos) tb):PE X (.BoolOp .Or (a::b::rest) pos) (P2 ta tb):=by intro d s f H Q I h;refine BoolOp_or (g8 (k d s f H _ I h) λv l ⟨x,i,g,j,e⟩=>?_);obtain⟨c,rfl,e⟩:=e;cases j;refine wpAny_truthy_bool ?_;cases c with|false=>exact m d l f i Q g e|true=>exists .bl ag,i,g,2,e
theorem nr(i:PE X a ta):PE X (.UnaryOp .Not a pos) (an0 ta):=by intro b s e H Q I h;refine UnaryOp_ (g8 (i b s e H _ I h) λv k ⟨x,g,j,f,d⟩=>?_);obtain⟨c,rfl,d⟩:=d;cases f;exact not_of (wpAny_truthy_bool ⟨.bl (!c),g,j,2,d⟩)
def L9(t:TT)(ta tb:TE):TE:=λσ H Q=>t σ H λc H1=>if c=ag then ta σ H1 Q else tb σ H1 Q
theorem jl(m:PT X c tA)(l:PE X a ta)(n:PE X b tb):PE X (.IfExp c a b pos) (L9 tA ta tb):=by intro e s f H Q I h;refine wpAny_IfExp (g8 (m e s f H _ I h) λd k ⟨g,i,j⟩=>?_);cases d with|true=>exact l e k f g Q i j|false=>exact n e k f g Q i j
end
def bH(K:af)(H:Hp)(a:am)(xs:List V):Prop:=
 Rd H a (.lst xs) ∨
  ∃(o:Obj)(its:Array ap)(n:Nat),K.lookup a=ac o/\o.cls=.type "list" /\ o.dict=ae/\o.data=.seq its n/\its.size<=a9/\ck xs its.toList
def dY(K:af)(H:Hp)(a:am)(xs:List V):Prop:=
 Rd H a (.tup xs) ∨
  ∃(o:Obj)(its:Array ap)(n:Nat),K.lookup a=ac o/\o.cls=.type "tuple" /\ o.data=.seq its n/\its.size<=a9/\ck xs its.toList
noncomputable def PQ:ap->Option V
 |.none=>ac .fW
 |.bool b=>ac (.bl b)
 |.int i _=>ac (.int i)
 |.str x _=>ac (.str x)
 |.bytes b _=>ac (.fy b)
 |.float b _=>ac (.flt b)
 |.ref a=>ac (.ref a)
 |.type n=>ac (.ty n)
 |_=>ae
theorem RelV.abs(r:RelV x u):PQ u=ac x:=by cases x with|fW=>cases r;rfl|bl _=>cases r;rfl|int _=>obtain⟨t,rfl⟩:=r;rfl|str _=>obtain⟨t,rfl⟩:=r;rfl|fy _=>obtain⟨t,rfl⟩:=r;rfl|flt _=>obtain⟨t,rfl⟩:=r;rfl|ref _=>cases r;rfl|ty _=>cases r;rfl
def RelV.inj(r:RelV x u)(q:RelV y u):x=y:=aT (r.abs.symm.trans q.abs)
theorem ck.inj:∀{xs ys:List V}{us:List ap},ck xs us->ck ys us->xs=ys
 |_,_,_,.nil,.nil=>rfl
 |_,_,_,.cons r t,.cons a t'=>by rw[r.inj a,ck.inj t t']
section
variable{X:Cx}{pins:List (am×Obj)}{σ:St}{H:Hp}{s:ar}{a:am}{xs ys:List V}
def bH.of{K:af}(h:H a=ac (.lst xs)):bH K H a xs:=.inl (.inl h)
def dY.of{K:af}(h:H a=ac (.tup xs)):dY K H a xs:=.inl (.inl h)
theorem Inv.list(I:Inv X pins σ H s)(h:bH X.K H a xs):∃b:List ap,ck xs b/\PlainL s.heap a b.toArray/\xs.length<=a9:=by rcases h with h|⟨o,b,n,f,c,d,g,i,r⟩;obtain⟨z,b,n,r,e⟩:=h.ok I.hok;exists b,r,⟨_,n,e,222⟩,z;exists b.toList,r,⟨o,n,I.IA a o f,c,d,by simpa using g⟩,4;have e:=r.length;simp only[dQ] at e;lia
theorem Inv.tuple(I:Inv X pins σ H s)(h:dY X.K H a xs):∃b:List ap,ck xs b/\IsTup s.heap a b.toArray/\xs.length<=a9:=by rcases h with h|⟨o,b,n,d,c,f,g,r⟩;obtain⟨z,b,r,p⟩:=h.ok I.hok;exists b,r,p,z;exists b.toList,r,⟨o,I.IA a o d,c,n,by simpa using f⟩,4;have e:=r.length;simp only[dQ] at e;lia
theorem Inv.Qk(I:Inv X pins σ H s)(h:bH X.K H a xs)(h':bH X.K H a ys):xs=ys:=by
 obtain⟨c,r,⟨o,n,e,_,_,d⟩,_⟩:=I.list h;obtain⟨b,i,⟨k,j,g,_,_,f⟩,_⟩:=I.list h';rw[e] at g;cases g;rw[d] at f;injection f with d1 _
 have:c=b:=(by simpa using c6 Array.toList d1);subst this;exact r.inj i
theorem Inv.adB(I:Inv X pins σ H s)(h:dY X.K H a xs)(h':dY X.K H a ys):xs=ys:=by
 obtain⟨c,r,⟨o,e,_,n,d⟩,_⟩:=I.tuple h;obtain⟨b,i,⟨k,g,_,j,f⟩,_⟩:=I.tuple h';rw[e] at g;cases g;rw[d] at f;injection f with d1 _
 have:c=b:=(by simpa using c6 Array.toList d1);subst this;exact r.inj i
end
noncomputable abbrev Cx.Mg(X:Cx)(E:ap->ar->Prop):Cx:={X with xe:=E}
noncomputable abbrev Cx.XH(X:Cx):Cx:=X.Mg λ_ _=>False
theorem Cx.Ok.Mg{X:Cx}(ok:X.Ok)(E:ap->ar->Prop):(X.Mg E).Ok :=⟨ok.mod,ok.kind,ok.glob,ok.blt,ok.above,ok.inj,ok.has,ok.O3,ok.hd,ok.frames,ok.stk,ok.exf,ok.bs,ok.jz,ok.aaf,ok.adA,ok.Jz,ok.su⟩
def Cx.Ok.yb{X:Cx}(ok:(X.Mg E).Ok):X.Ok :=⟨ok.mod,ok.kind,ok.glob,ok.blt,ok.above,ok.inj,ok.has,ok.O3,ok.hd,ok.frames,ok.stk,ok.exf,ok.bs,ok.jz,ok.aaf,ok.adA,ok.Jz,ok.su⟩
section
variable{X:Cx}{pins:List (am×Obj)}{σ:St}{H:Hp}{s:ar}{E:ap->ar->Prop}
theorem Inv.Mg(I:Inv X pins σ H s)(E:ap->ar->Prop):Inv (X.Mg E) pins σ H s:=⟨I.ok.Mg E,I.os,I.bare,I.base,I.loc,I.cell,I.free,I.vp,I.pin,I.hok,I.len⟩
theorem Inv.yb(I:Inv (X.Mg E) pins σ H s):Inv X pins σ H s:=⟨I.ok.yb,I.os,I.bare,I.base,I.loc,I.cell,I.free,I.vp,I.pin,I.hok,I.len⟩
theorem SP.yb(h:SP (X.Mg E) pins D f s'):SP X pins D f s':=by cases f with|next=>obtain⟨a,b,I,q⟩:=h;exact⟨a,b,I.yb,q⟩|brk=>obtain⟨a,b,I,q⟩:=h;exact⟨a,b,I.yb,q⟩|cont=>obtain⟨a,b,I,q⟩:=h;exact⟨a,b,I.yb,q⟩|ret u=>obtain⟨v,a,b,I,r,q⟩:=h;exists v,a,b,I.yb,r,q
theorem i9.XH{st:List Stmt}(h:i9 X.XH st t):i9 X st t:=λpins s σ H D I a => wpAny_mono (h pins s σ H D (I.Mg _) a) (λ_ _ q=>q.yb) λ_ _ z=>eZ z
end
section
variable{X:Cx}{st:Stmt}{rest:List Stmt}{t u:TS}{e:Expr}{te:TE}{pos:Pos}
def an1:TS:=λD σ H=>D.nx σ H
def Mh(t u:TS):TS:=λD σ H=>t {D with nx:=u D} σ H
def bq:i9 X [] an1:=λ_ _ a H _ I h=>wpAny_execs_nil ⟨a,H,I,h⟩
theorem aj(j:PS X st t)(d:i9 X rest u):i9 X (st::rest) (Mh t u):=by intro a s e H D I h;refine wpAny_execs_cons (g8 (j a s e H {D with nx:=u D} I h) λf c q=>?_);cases f with|next=>obtain⟨b,g,i,q⟩:=q;exact d a c b g D i q|ret v=>exact q|brk=>exact q|cont=>exact q
theorem aX(c:PS X st t):i9 X [st] t:=by intro a s b H D I h;refine wpAny_execs_cons (g8 (c a s b H D I h) λf d q=>?_);cases f with|next=>exact wpAny_execs_nil q|ret v=>exact q|brk=>exact q|cont=>exact q
theorem Inv.quiet{H:Hp}(I:Inv X pins σ H s):interactive X.env=al:=by simp[interactive,I.ok.kind]
def ul(te:TE):TS:=λD σ H=>te σ H λ_ H1=>D.nx σ H1
theorem cP(c:PE X e te)(i:swapsWith e ae pos.line X.env=pure al:=by rfl):PS X (.Expr e pos) (ul te):=by intro a s b H D I h;exact wpAny_Expr_any (g8 (c a s b H _ I h) λv k ⟨x,d,f,j,g⟩=>⟨b,d,f,g⟩) I.quiet i
def lL(te:TE):TS:=λD σ H=>te σ H D.rt
theorem yn(c:PE X e te):PS X (.Return (ac e) pos) (lL te):=by intro a s b H D I h;exact wpAny_Return_some (g8 (c a s b H _ I h) λv j ⟨x,f,g,d,i⟩=>⟨x,b,f,g,d,i⟩)
def hV(c:TT)(t u:TS):TS:=λD σ H=>c σ H λb H1=>if b=ag then t D σ H1 else u D σ H1
theorem bY(m:PT X c tc)(l:i9 X a t)(n:i9 X b u):PS X (.If c a b pos) (hV tc t u):=by intro e s f H D I h;refine wpAny_If (g8 (m e s f H _ I h) λd k ⟨g,i,j⟩=>?_);cases d with|true=>exact l e k f g D i j|false=>exact n e k f g D i j
def aln:TS:=λ_ _ _=>False
def bP:i9 X sts aln:=λ_ _ _ _ _ _ h=>h.elim
end
abbrev TG:=V->St->Hp->(St->Hp->Prop)->Prop
abbrev fv:=List V->St->Hp->(St->Hp->Prop)->Prop
def PG(X:Cx)(target:Expr)(t:TG):Prop:=
 ∀(pins:List (am×Obj))(s:ar)(σ:St)(H:Hp)(v:V)(u:ap)(Q:St->Hp->Prop),Inv X pins σ H s->RelV v u->t v σ H Q ->
  bt (model X.prog X.w) X.A (assign target X.env u) (λ_ s'=>∃σ' H',Inv X pins σ' H' s'/\Q σ' H') X.xe s
def lI(X:Cx)(ts:List Expr)(t:fv):Prop:=
 ∀(pins:List (am×Obj))(s:ar)(σ:St)(H:Hp)(vs:List V)(us:List ap)(Q:St->Hp->Prop),Inv X pins σ H s->ck vs us->t vs σ H Q ->
  bt (model X.prog X.w) X.A (assignInOrder ((assignEach ts X.env).map (·.2)) us) (λ_ s'=>∃σ' H',Inv X pins σ' H' s'/\Q σ' H') X.xe s
abbrev lx:=V->V->V->Hp->(Hp->Prop)->Prop
def rh(X:Cx)(t:lx):Prop:=
 ∀(pins:List (am×Obj))(s:ar)(σ:St)(H:Hp)(o i v:V)(ov iv u:ap)(Q:Hp->Prop),Inv X pins σ H s->RelV o ov->RelV i iv->RelV v u->t o i v H Q ->
  bt (model X.prog X.w) X.A (setItem ov iv u) (λ_ s'=>∃H',Inv X pins σ H' s'/\Q H') X.xe s
abbrev j2:=V->V->Hp->VK->Prop
def Kj(X:Cx)(op:Operator)(t:j2):Prop:=
 ∀(pins:List (am×Obj))(s:ar)(σ:St)(H:Hp)(x y:V)(v u:ap)(Q:VK),Inv X pins σ H s->RelV x v->RelV y u->t x y H Q ->
  bt (model X.prog X.w) X.A (inplaceOp op v u) (EP X pins σ Q) X.xe s
section
variable{X:Cx}{pos:Pos}
def pH(i:Nat):TG:=λv σ H Q=>Q (σ.set i (ac v)) H
theorem Hn{i:Nat}(e:X.N.Nodup)(b:X.N[i]?=ac x)(f:Loc X.env.scope x)(c:X.fn x=ag∨X.env.scope.names.lookup x=ac .local:=by first|exact .inl rfl|exact .inr rfl|assumption):PG X (.Name x pos) (pH i):=by intro a s g H v u Q I r h;exact wpAny_assign_Name (KP I e b f r (λj d=>⟨_,H,d,h⟩) c)
def PP:fv:=λvs σ H Q=>vs=[]/\Q σ H
inductive uk(t:TG)(u:fv)(vs:List V)(σ:St)(H:Hp)(Q:St->Hp->Prop):Prop
 |mk(v:V)(r:List V)(a:vs=v::r)(b:t v σ H λσ' H'=>u r σ' H' Q):uk t u vs σ H Q
theorem VY:lI X [] PP:=by intro a s b H c d Q I r h;obtain⟨e,h⟩:=h;subst e;cases r;exact assignInOrder_nil ⟨b,H,I,h⟩
theorem Cf{e:Expr}{b:List Expr}{t:TG}{u:fv}(n:PG X e t)(g:lI X b u)(f:(assignEach (e::b) X.env).map (·.2)=assign e X.env::(assignEach b X.env).map (·.2):=by rfl):lI X (e::b) (uk t u):=by intro a s i H p q Q I r h;obtain⟨v,w,j,h⟩:=h;subst j;cases r with|cons r l=>rw[f];refine assignInOrder_cons (g8 (n a s i H _ _ _ I r h) λ_ d ⟨c,m,k,o⟩=>?_);exact g a d c m _ _ Q k l o
inductive lw(K:af)(n:Nat)(t:fv)(v:V)(σ:St)(H:Hp)(Q:St->Hp->Prop):Prop
 |mk(a:am)(xs:List V)(h1:v=.ref a)(h2:dY K H a xs)(h3:xs.length=n)(h4:t xs σ H Q):lw K n t v σ H Q
theorem nn{d:List Expr}{k:Nat}{t:fv}{n:Nat}(y:X.calm=ag)(h:lI X d t)(x:(assignEach d X.env).length=n:=by rfl)(f:(assignEach d X.env).findIdx? (·.1)=ae:=by rfl):PG X (.Tuple d k pos) (lw X.K n t):=by intro c s j H v u Q I r g;obtain⟨a,q,m,hq,B,g⟩:=g;subst m;cases r;obtain⟨A,i,w,C⟩:=I.tuple hq;refine assign_Tuple_tuple (I.ok.hd y) w (by simp[x,<- B,i.length]) f λz l=>?_;have p:Inv X c j H {s with heap:=z}:=I.kept (t':=s.toks) λb o e=>l b o (bB (a7 e)) e;exact h c _ j H q _ Q p (by simpa using i) g
def PH(to ti:TE)(t:lx):TG:=λv σ H Q=>to σ H λo H1=>ti σ H1 λi H2=>t o i v H2 λH3=>Q σ H3
theorem Mi{o i:Expr}{to e:TE}{t:lx}(l:PE X o to)(p:PE X i e)(k:rh X t)
 (g:∀v,assign (.Subscript o i pos) X.env v=(do
  let b <- holding [v] (eval o X.env);let c <- holding [v,b] (eval i X.env)
  standAt pos
  holding [v,b,c] (setItem b c v)
  release [v,b,c] []):=by intro _;rfl):PG X (.Subscript o i pos) (PH to e t):=by intro a s d H v u Q I r h;rw[g];refine aw (wpAny_holding (g8 (l a s d H _ I h) λb j ⟨x,B,q,f,E⟩=>?_));refine aw (wpAny_holding (g8 (p a j d B _ q E) λc A ⟨y,w,z,n,F⟩=>?_));refine aw (wpAny_standAt (aw (wpAny_holding (g8 (k a A d w x y v b c u _ z f n r F) λ_ G ⟨D,m,C⟩=>?_))));exact wpAny_release ⟨d,D,m,C⟩
def VZ(te:TE)(g:TG):TS:=λD σ H=>te σ H λx H1=>g x σ H1 D.nx
theorem Fb{tg e:Expr}{te:TE}{g:TG}(j:PE X e te)(d:PG X tg g)(i:swapsWithSole [tg] e pos.line X.env=pure al:=by rfl)(n:swappedStores [tg] e X.env=pure ae:=by rfl)(m:(assignEach [tg] X.env).map (·.2)=[assign tg X.env]:=by rfl):PS X (.Assign [tg] e pos) (VZ te g):=by intro a s b H D I h;refine wpAny_Assign_stores (g8 (j a s b H _ I h) λv f ⟨x,l,k,c,o⟩=>?_) i n;rw[m];exact g8 (d a f b l x v _ k c o) λ_ p q=>q
theorem alr{i:Nat}{x:Str}{e:Expr}{te:TE}{a:Pos}(p:X.N.Nodup)(j:X.N[i]?=ac x)(d:Loc X.env.scope x)(k:PE X e te)(f:swapsWith e (ac (.Name x a)) pos.line X.env=pure al:=by rfl)(n:X.fn x=ag∨X.env.scope.names.lookup x=ac .local:=by first|exact .inl rfl|exact .inr rfl|assumption) :PS X (.Assign [.Name x a] e pos) (VZ te (pH i)):=by intro b s g H D I h;refine wpAny_Assign_Name (g8 (k b s g H _ I h) λv r ⟨y,o,l,c,q⟩=>?_) f;exact KP l p j d c (λt m=>⟨_,o,m,q⟩) n
def Pv(i:Nat)(te:TE)(ti:j2):TS:=λD σ H=>∃x,σ[i]?=ac (ac x)/\te σ H λy H1=>ti x y H1 λz H2=>D.nx (σ.set i (ac z)) H2
theorem x5{i:Nat}{x:Str}{e:Expr}{te:TE}{op:Operator}{t:j2}{g:Pos}(S:X.N.Nodup)(q:X.N[i]?=ac x)(j:Loc X.env.scope x)(K:PE X e te)(E:Kj X op t)(Q:X.fn x=ag∨X.env.scope.names.lookup x=ac .local:=by first|exact .inl rfl|exact .inr rfl|assumption) :PS X (.AugAssign (.Name x g) op e pos) (Pv i te t):=by intro a s p H D I h;obtain⟨v,J,h⟩:=h;obtain⟨m,O,U⟩:=I.loc;have n:j1 X.env.scope x:=(by rcases j with k|k;exact .inl k;exact .inr (.inl k));obtain⟨u,r,l⟩:=U i x v q J n;refine wpAny_AugAssign_Name ?_;have o:bt (model X.prog X.w) X.A (eval e X.env) (λw d=>bt (model X.prog X.w) X.A (inplaceOp op u w) (λr f=>bt (model X.prog X.w) X.A (storeName X.env x r) (λ_=>SP X a D .next) X.xe f) X.xe d) X.xe s:=(by refine g8 (K a s p H _ I h) λw C ⟨y,R,L,B,V⟩=>?_;refine g8 (E a C p R v y u w _ L r B V) λz Z ⟨zv,M,P,G,W⟩=>?_;exact KP P S q j G (λs3 F=>⟨_,M,F,W⟩) Q);rcases l with ⟨hk,Y⟩|⟨hk,c,T,b⟩;exact wpAny_loadName_local I.ok.kind hk O Y o;rcases hk with hk|hk;exact wpAny_loadName_cell I.ok.kind hk T b o;rcases j with k|k;have:X.env.scope.names.lookup x=ac .free:=hk;rw[k] at this;cases this;have:X.env.scope.names.lookup x=ac .free:=hk;rw[k] at this;cases this
def Md(f:Int->Int->Int):j2:=λx y H Q=>∃i j,x=.int i/\y=.int j/\Q (.int (f i j)) H
theorem x4:Kj X .Add (Md λi j=>i+j):=by intro a s f H x y v u Q I b d h;obtain⟨i,j,e,c,q⟩:=h;subst e;subst c;obtain⟨t,rfl⟩:=b;obtain⟨g,rfl⟩:=d;exact iadd_int ⟨.int _,H,I.tok _,⟨1⟩,q⟩
def x3(c:TT)(tb:TS):TS:=λD σ H=>∃W:Nat->St->Hp->Prop,(∃m,W m σ H)/\∀m σ H,W m σ H ->
 c σ H λb H1=>if b=ag then ∃N:St->Hp->Prop,(∀σ' H',N σ' H'->∃m',m'<m/\W m' σ' H')/\tb {D with nx:=N,ct:=N,bk:=D.nx} σ H1 else D.nx σ H1
theorem ae6(B:PassesOwn (model X.prog X.w) X.A X.env X.xe)(O:PT X c tc)(J:i9 X body tb):PS X (.While c body [] pos) (x3 tc tb):=by intro d s E H D I h;obtain⟨W,⟨L,P⟩,j⟩:=h;refine wpAny_While (codeAny_whileLoop (λn F=>∃g t,Inv X d g t F/\W n g t) ?_ L ⟨E,H,I,P⟩);rintro n C ⟨e,y,G,K⟩;refine wpAny_passesOwn B (g8 (O d C e y _ G (j n e y K)) λb M ⟨u,x,l⟩=>?_);cases b with|true=>(obtain⟨N,z,l⟩:=l;rw[b4 rfl];refine wpAny_passesOwn B (g8 (J d M e u _ x l) λf Q k=>?_);cases f with|next=>obtain⟨a,i,p,m⟩:=k;obtain⟨o,r,q⟩:=z a i m;exact⟨o,r,a,i,p,q⟩|cont=>obtain⟨a,i,p,m⟩:=k;obtain⟨o,r,q⟩:=z a i m;exact⟨o,r,a,i,p,q⟩|brk=>exact k|ret v=>exact k)|false=>rw[b5 aN];exact wpAny_execs_nil ⟨e,u,x,l⟩
end
structure It where
 go:Nat->Hp->Prop
 Mc:Nat->Hp->V->Hp->Prop
 stop:Nat->Hp->Prop
def yc(X:Cx)(pins:List (am×Obj))(H:Hp)(b:am):Prop:=
 H b=ae/\b≠X.env.locals/\b∉X.fs/\(b∈X.ex∨X.s₀.heap.objs.size<=b)/\(∀x c,X.env.cells.lookup x=ac c->c≠b)/\∀p∈X.pn++pins,p.1≠b
theorem Inv.adC{H d:Hp}{b:am}(I:Inv X pins σ H s)(a:s.heap.objs.size<=b)(g:d b=ae):yc X pins d b:=by exists g,Nat.ne_of_gt (bF I.lt a),I.aq4 a,.inr (aE I.sz a),λx c e z=>?_,λp f z=>?_;obtain⟨v,q⟩:=I.cell x c e;exact b3 (bF q.lt (by rw[z];exact a)) (lG _);exact b3 (bF (a7 (I.pin p f).1) (by rw[z];exact a)) (lG _)
structure eC(P:bv)(w:World)(K:af)(tg:Expr)(J:It)(fp:List am)(it:am)(tn:Nat->Heap->Prop):Prop where
 mem:it∈fp
 obj:∀i h,tn i h->∀b∈fp,∃o,h.get? b=ac o/\∀v,o.data≠.cell v
 keep:∀i h h',tn i h->(∀b∈fp,∀o,h.get? b=ac o->h'.get? b=ac o)->tn i h'
 item:∀(X:Cx),X.prog=P->X.w=w->X.K=K->X.calm=ag->∀(i:Nat)(pins:List (am×Obj))(s:ar)(σ:St)(H:Hp)(E:ap->ar->Prop),Inv X pins σ H s->(∀b∈fp,yc X pins H b)->tn i s.heap->J.go i H ->
  bt (model P w) X.A (pyNext (.ref it)) (λr s1=>∃u,r=ac u /\
   bt (model P w) X.A (letOwnedTupleGo tg (.ref it) u) (λ_ s2=>∃x H',Inv X pins σ H' s2/\RelV x u/\J.Mc i H x H'/\tn (i+1) s2.heap/\∀b∈fp,H' b=ae) E s1) E s
 done:∀(X:Cx),X.prog=P->X.w=w->X.K=K->X.calm=ag->∀(i:Nat)(pins:List (am×Obj))(s:ar)(σ:St)(H:Hp)(E:ap->ar->Prop),Inv X pins σ H s->(∀b∈fp,yc X pins H b)->tn i s.heap->J.stop i H ->
  bt (model P w) X.A (pyNext (.ref it)) (λr s1=>r=ae/\Inv X pins σ H s1) E s
 self:∀(A:ce)(i:Nat)(s:ar)(Q:ap->ar->Prop)(E:ap->ar->Prop),tn i s.heap->Q (.ref it) s->bt (model P w) A (pyIter (.ref it)) Q E s
abbrev TI:=St->Hp->(It->Hp->Prop)->Prop
def Kk(X:Cx)(pins:List (am×Obj))(σ:St)(tg:Expr)(R:It->Hp->Prop)(itv:ap)(s2:ar):Prop:=
 ∃(it:am)(fp:List am)(tn:Nat->Heap->Prop)(J:It)(H':Hp),itv=.ref it/\Inv X pins σ H' s2/\eC X.prog X.w X.K tg J fp it tn/\tn 0 s2.heap/\(∀b∈fp,yc X pins H' b)/\R J H'
def PI(X:Cx)(tg iter:Expr)(wi:TI):Prop:=
 ∀(pins:List (am×Obj))(s:ar)(σ:St)(H:Hp)(R:It->Hp->Prop),Inv X pins σ H s->wi σ H R ->
  bt (model X.prog X.w) X.A (eval iter X.env) (λv s1=>bt (model X.prog X.w) X.A (pyIter v) (Kk X pins σ tg R) X.xe s1) X.xe s
theorem XT{M:Model}{A:ce}{E:ap->ar->Prop}{s:ar}{tg:Expr}{b:am}{u:ap}{o:Obj}{n:String}{vs:Array ap}{Q:Unit->ar->Prop}(c:s.heap.get? b=ac o)(f:o.cls=.type n)(d:o.data=.fields vs)(e:["enumerate","zip","dict_itemiterator","dict_reverseitemiterator","odict_iterator","itertools.zip_longest","itertools.pairwise"].contains n=al)(a:Q () s):bt M A (letOwnedTupleGo tg (.ref b) u) Q E s:=by
 unfold letOwnedTupleGo;cases tg <;> first
  |exact ax a
  | (cases u <;> first
   |exact ax a
   | (refine aw (wpAny_load c ?_)
      rw[f,d];show bt M A (if (["enumerate","zip","dict_itemiterator","dict_reverseitemiterator","odict_iterator","itertools.zip_longest","itertools.pairwise"].contains n&&vs[0]?==ac (rawInt _))=ag then _ else _) Q E s;rw[b5 (by intro h;rw[e,Bool.false_and] at h;cases h)];exact ax a))
noncomputable def IC(K:af)(a:am):It:=
 ⟨λi H=>∃xs x,bH K H a xs/\xs[i]?=ac x,λi H x H'=>H'=H/\∀xs,bH K H a xs->xs[i]?=ac x,λi H=>∃xs,bH K H a xs/\xs.length<=i⟩
noncomputable def kf(K:af)(a:am):It:=
 ⟨λi H=>∃xs x,dY K H a xs/\xs[i]?=ac x,λi H x H'=>H'=H/\∀xs,dY K H a xs->xs[i]?=ac x,λi H=>∃xs,dY K H a xs/\xs.length<=i⟩
def Hx(lo:Int)(n:Nat):It:=⟨λi _=>i<n,λi H x H'=>H'=H/\x=.int (lo+i),λi _=>n<=i⟩
theorem UB{P:bv}{w:World}{K:af}{tg:Expr}(a g:am):eC P w K tg (IC K a) [g] g (λi h=>h.IsListIter g a i) where
 mem:=-_
 obj:=λi h st b j=>by
  have e:b=g:=by simpa using j
  subst e;obtain⟨o,e,c,d⟩:=st;exists o,e,λv z=>by rw[d] at z;cases z
 keep:=λi h n st k=>st.at λo e=>k g (-_) o e
 item:=by
  intro X C D A N i f s M H E I m st q;subst C D A;obtain⟨S,x,hq,t⟩:=q;obtain⟨F,r,p,W⟩:=I.list hq;obtain⟨u,O,T⟩:=r.get t;obtain⟨y,G,V,B,L,J⟩:=m g (-_);refine wpAny_pyNext_list_item st p.isList (x:=u) (by simpa using O) λn l U=>?_;have Q:Inv X f M H {s with heap:=n}:=I.turned (t':=s.toks) (λb o j e=>(U.2 b j).trans e) y G B L J;obtain⟨o,e,c,d⟩:=id l;exists u,2,XT (s:={s with heap:=n}) e c d (!_) ⟨x,H,Q,T,⟨2,λZ R=>by rw[I.Qk R hq];exact t⟩,l,λb j=>(m b j).1⟩
 done:=by
  intro X C D A N i f s M H E I m st q;subst C D A;obtain⟨S,hq,t⟩:=q;obtain⟨F,r,p,W⟩:=I.list hq;obtain⟨y,G,V,B,L,J⟩:=m g (-_);have hl:=r.length;exact wpAny_pyNext_list_end (I.ok.hd N) st p.isList (by simp;lia) λn Y=>⟨2,I.turned (t':=s.toks) (λb o j e=>Y b o j e) y G B L J⟩
 self:=λ_ _ _ _ _ st h=>wpAny_pyIter_listiter st h
theorem aaj{P:bv}{w:World}{K:af}{tg:Expr}(a g:am):eC P w K tg (kf K a) [g] g (λi h=>h.IsTupleIter g a i) where
 mem:=-_
 obj:=λi h st b j=>by
  have e:b=g:=by simpa using j
  subst e;obtain⟨o,e,c,d⟩:=st;exists o,e,λv z=>by rw[d] at z;cases z
 keep:=λi h q st k=>st.at λo e=>k g (-_) o e
 item:=by
  intro X D F B N i f s M H E I n st r;subst D F B;obtain⟨S,x,hq,y⟩:=r;obtain⟨l,t,p,W⟩:=I.tuple hq;obtain⟨u,O,T⟩:=t.get y;obtain⟨A,G,V,C,L,J⟩:=n g (-_);refine wpAny_pyNext_tuple_item st (show s.heap.IsTuple a l.toArray from p) (x:=u) (by simpa using O) λq m U=>?_;have Q:Inv X f M H {s with heap:=q}:=I.turned (t':=s.toks) (λb o j e=>(U.2 b j).trans e) A G C L J;obtain⟨o,e,c,d⟩:=id m;exists u,2,XT (s:={s with heap:=q}) e c d (!_) ⟨x,H,Q,T,⟨2,λZ R=>by rw[I.adB R hq];exact y⟩,m,λb j=>(n b j).1⟩
 done:=by
  intro X D F B N i f s M H E I n st r;subst D F B;obtain⟨S,hq,y⟩:=r;obtain⟨l,t,p,W⟩:=I.tuple hq;obtain⟨A,G,V,C,L,J⟩:=n g (-_);have hl:=t.length;exact wpAny_pyNext_tuple_end (I.ok.hd N) st (show s.heap.IsTuple a l.toArray from p) (by simp;lia) λq Y=>⟨2,I.turned (t':=s.toks) (λb o j e=>Y b o j e) A G C L J⟩
 self:=λ_ _ _ _ _ st h=>wpAny_pyIter_tupleiter st h
theorem aak{P:bv}{w:World}{K:af}{tg:Expr}(a:am)(lo:Int)(n:Nat):eC P w K tg (Hx lo n) [a] a (λi h=>IsRangeIter h a (lo+(i:Nat)*1) ((n:Int)-(i:Nat)) 1) where
 mem:=-_
 obj:=λi h st b d=>by
  have e:b=a:=by simpa using d
  subst e;exact⟨_,st,λv z=>by
   have F:Data.fields _=Data.cell v:=z;cases F⟩
 keep:=λi h j st k=>k a (-_) _ st
 item:=by
  intro X u x p r i c s C H E I g st l;subst u x p;obtain⟨m,y,M,q,B,A⟩:=g a (-_);have W:=Walks.range (prog:=X.prog) (w:=X.w) (I.ok.hd r) a lo 1 n;refine W.item i s _ _ l st λv j D L f J=>?_;obtain⟨t,rfl⟩:=L;have G:Inv X c C H {s with heap:=j,toks:=D}:=I.turned (λb o d e=>J b o (by simpa using d) e) m y q B A;exists 1,XT (s:={s with heap:=j,toks:=D}) (n:="range_iterator") f rfl rfl (!_) ⟨.int (lo+i),H,G,⟨t,4⟩,⟨22⟩,f,λb d=>(g b d).1⟩;rw[Int.mul_one]
 done:=by
  intro X u x p r i c s C H E I g st l;subst u x p;obtain⟨m,y,M,q,B,A⟩:=g a (-_);exact wpAny_pyNext_range_end (I.ok.hd r) st (by have:n<=i:=l;lia) λj N=>⟨2,I.turned (t':=s.toks) (λb o d e=>N b o d e) m y q B A⟩
 self:=λ_ _ _ _ _ st h=>wpAny_pyIter_rangeiter st h
section
variable{X:Cx}{tg:Expr}
inductive mI(K:af)(R:It->Hp->Prop)(x:V)(H1:Hp):Prop
 |mk(a:am)(h1:x=.ref a)(h2:∃xs,bH K H1 a xs)(h3:R (IC K a) H1):mI K R x H1
def an3(K:af)(tl:TE):TI:=λσ H R=>tl σ H (mI K R)
def Pt(K:af)(tl:TE):TI:=λσ H R=>tl σ H λx H1=>∃a,x=.ref a/\(∃xs,dY K H1 a xs)/\R (kf K a) H1
theorem dZ(hl:PE X l tl):PI X tg l (an3 X.K tl):=by intro c s i H R I h;refine g8 (hl c s i H _ I h) λv d ⟨x,k,f,g,n⟩=>?_;obtain⟨a,e,⟨t,hq⟩,q⟩:=n;subst e;cases g;obtain⟨m,r,p,u⟩:=f.list hq;refine wpAny_pyIter_list p.isList ?_;exists d.heap.objs.size,[d.heap.objs.size],33,k,2,f.kept (t':=d.toks) λb o e=>a5 _ e,UB a _,⟨_,a6 _ rfl,22⟩,λb j=>?_,q;have e:b=d.heap.objs.size:=(by simpa using j);subst e;exact f.adC (az _) (f.hok.fresh (az _))
theorem na(hl:PE X l tl):PI X tg l (Pt X.K tl):=by intro d s j H R I h;refine g8 (hl d s j H _ I h) λv c ⟨x,m,f,i,n⟩=>?_;obtain⟨a,e,⟨t,hq⟩,q⟩:=n;subst e;cases i;obtain⟨g,r,p,u⟩:=f.tuple hq;refine wpAny_pyIter_tuple (show c.heap.IsTuple a g.toArray from p) ?_;exists c.heap.objs.size,[c.heap.objs.size],33,m,2,f.kept (t':=c.toks) λb o e=>a5 _ e,aaj a _,⟨_,a6 _ rfl,22⟩,λb k=>?_,q;have e:b=c.heap.objs.size:=(by simpa using k);subst e;exact f.adC (az _) (f.hok.fresh (az _))
theorem ae8{c:List (am×Obj)}{d:St}{H:Hp}{s:ar}{R:It->Hp->Prop}{E:ap->ar->Prop}{lo a:Int}{t u v:Tok}{tk:Nat}(I:Inv X c d H s)(l:-(2^62)<=lo)(h:lo<2^62)(i:-(2^62)<=a)(m:a<2^62)(q:R (Hx lo (a-lo).toNat) H):bt (model X.prog X.w) X.A (pyIter (.ref s.heap.objs.size)) (Kk X c d tg R) E {s with heap:=s.heap.push {cls:=.type "range",data:=.fields #[.int lo t,.int a u,.int 1 v]},toks:=tk}:=by
 refine wpAny_pyIter_range (IsRange.new ..) (small_one l h i m) ?_;have f:Inv X c d H {s with heap:=s.heap.push {cls:=.type "range",data:=.fields #[.int lo t,.int a u,.int 1 v]},toks:=tk}:=I.kept λb o e=>a5 _ e;refine⟨(s.heap.push {cls:=.type "range",data:=.fields #[.int lo t,.int a u,.int 1 v]}).objs.size,[(s.heap.push {cls:=.type "range",data:=.fields #[.int lo t,.int a u,.int 1 v]}).objs.size],33,H,2,
  f.kept (t':=tk) λb o e=>a5 _ e,aak _ lo (a-lo).toNat,4,λb k=>?_,q⟩
 ·have j:lo+((0:Nat):Int)*1=lo:=-_;have g:(((a-lo).toNat:Nat):Int)-((0:Nat):Int)=Builtin.Range.rangeSize lo a 1:=(by rw[rangeSize_one];split <;> lia);show IsRangeIter _ _ (lo+((0:Nat):Int)*1) ((((a-lo).toNat:Nat):Int)-((0:Nat):Int)) 1;rw[j,g];exact a6 _ rfl
 have e:b=(s.heap.push {cls:=.type "range",data:=.fields #[.int lo t,.int a u,.int 1 v]}).objs.size:=(by simpa using k);subst e;exact f.adC (az _) (f.hok.fresh (az _))
inductive uj(R:It->Hp->Prop)(vs:List V)(H1:Hp):Prop
 |mk(j:Int)(h1:vs=[.int j])(h2:-(2^62)<=j)(h3:j<2^62)(h4:R (Hx 0 j.toNat) H1):uj R vs H1
def an4(ta:TA):TI:=λσ H R=>ta σ H (uj R)
theorem lZ{a:Expr}{p:Pos}(g:Gl X "range")(o:X.mg "range" = ae)(f:PA X [a] ta)(i:bc [a] X.env=[(al,eval a X.env)]:=by rfl):PI X tg (.Call (.Name "range" p) [a] [] pos) (an4 ta):=by intro b s k H R I h;refine Call_ (Qi I g o boot_range (PyProof.Rows.callWith_type1 (g8 (f pos b s k H _ I h) λv w ⟨u,x,l,d,c⟩=>?_) i rfl));obtain⟨j,e,c,n,q⟩:=c;subst e;cases d with|cons r m=>cases m;obtain⟨t,rfl⟩:=r;exact call_range_1 (ae8 l ∅ ∅ c n (by simpa using q))
def rg(wi:TI)(g:TG)(tb:TS):TS:=λD σ H=>wi σ H λJ H1=>∃W:Nat->Nat->St->Hp->Prop,(∃m,W 0 m σ H1)/\∀i m σ H,W i m σ H ->
 (J.stop i H/\D.nx σ H)∨(J.go i H/\∃N:St->Hp->Prop,(∀σ' H',N σ' H'->∃m',m'<m/\W (i+1) m' σ' H')/\∀x H',J.Mc i H x H'->g x σ H' λσ2 H2=>tb {D with nx:=N,ct:=N,bk:=D.nx} σ2 H2)
def JB(fp:List am)(h:Heap):List (am×Obj):=fp.filterMap λb=>(h.get? b).map λo=>(b,o)
theorem tU{fp:List am}{h:Heap}{b:am}(a:b∈fp)(e:h.get? b=ac o):(b,o)∈JB fp h:=List.mem_filterMap.mpr ⟨b,a,by rw[e];rfl⟩
theorem adD{p:am×Obj}(c:p∈JB fp h):p.1∈fp/\h.get? p.1=ac p.2:=by obtain⟨b,a,e⟩:=List.mem_filterMap.mp c;cases q:h.get? b with|none=>rw[q] at e;cases e|some o=>rw[q] at e;have d:(b,o)=p:=aT e;subst d;exists a,q
theorem Inv.pinned{H:Hp}{fp:List am}(I:Inv X pins σ H s)(h:∀b∈fp,yc X pins H b)(f:∀b∈fp,∃o,s.heap.get? b=ac o/\∀v,o.data≠.cell v):Inv X (pins++JB fp s.heap) σ H s:=
 I.abL λp k=>(bh.mp k).elim (λz=>I.pin p (bQ _ z)) λz=>by
  obtain⟨a,e⟩:=adD z;obtain⟨g,i,j,_⟩:=h p.1 a;obtain⟨o,c,d⟩:=f p.1 a;rw[e] at c;cases c;exists e,g,i,j,d
def Inv.yd{a pl:List (am×Obj)}{H:Hp}(I:Inv X (a++pl) σ H s):Inv X a σ H s:=I.abL λp b=>I.pin p (bQ _ (List.mem_append_left _ b))
theorem V0{k:Expr}{B:List Stmt}{wi:TI}{g:TG}{tb:TS}{V:Pos}(O:PassesOwn (model X.prog X.w) X.A X.env X.xe)(hc:X.calm=ag)(hi:PI X tg k wi)(hg:PG X tg g)(q:i9 X B tb)(hs:∀x,foldedSetIterable k X.env x=pure x:=by intro _;rfl):PS X (.For tg k B [] V) (rg wi g tb):=by intro c s σ H D I h;refine wpAny_For (g8 (hi c s σ H _ I h) λv s1 h1=>g8 h1 λitv s2 h2=>?_) hs;obtain⟨it,G,tn,J,H2,e,I2,T,st2,f2,W,⟨m0,w0⟩,L⟩:=h2;subst e;have l:∀{z:Hp},(∀b∈G,z b=ae)->∀b∈G,yc X c z b:=λhn b q=>⟨hn b q,(f2 b q).2⟩;refine codeAny_forLoop_any (λn s'=>∃i y z,Inv X c y z s'/\tn i s'.heap/\(∀b∈G,z b=ae)/\W i n y z) ?_ m0 ⟨(0),σ,H2,I2,st2,λb q=>(f2 b q).1,w0⟩;rintro n s3 ⟨i,t,P,I3,E,K,w3⟩;rcases L i n t P w3 with ⟨M,qn⟩|⟨go,N,hN,step⟩;refine wpAny_passesOwn O (g8 (T.done X rfl rfl rfl hc i c s3 t P X.xe I3 (l K) E M) λr s4 ⟨U,I4⟩=>?_);subst U;exact wpAny_execs_nil ⟨t,P,I4,qn⟩;·refine wpAny_passesOwn O (g8 (T.item X rfl rfl rfl hc i c s3 t P X.xe I3 (l K) E go) λr s4 ⟨u,U,h4⟩=>?_);subst U;refine wpAny_passesOwn O (g8 h4 λ_ s5 ⟨x,H5,I5,r5,y5,Z,Y⟩=>?_);have S:=I5.pinned (l Y) (T.obj _ _ Z);refine wpAny_passesOwn O (g8 (hg _ s5 t H5 x u _ S r5 (step x H5 y5)) λ_ s6 ⟨R,H6,I6,q6⟩=>?_);refine wpAny_passesOwn O (g8 (q _ s6 R H6 _ I6 q6) λf Q C=>?_);have again:∀{a:St}{j:Hp},Inv X (c++JB G s5.heap) a j Q->N a j->∃m,m<n/\∃i y z,Inv X c y z Q/\tn i Q.heap/\(∀b∈G,z b=ae)/\W i m y z:=λ{a j}p F=>(by obtain⟨m',hm,w7⟩:=hN a j F;exists m',hm,i+1,a,j,p.yd,T.keep _ _ _ Z λb q o e=>(p.pin (b,o) (bQ _ (bQ _ (tU q e)))).1,λb q=>?_,w7;obtain⟨o,e,d⟩:=T.obj _ _ Z b q;exact (p.pin (b,o) (bQ _ (bQ _ (tU q e)))).2.1);cases f with|next=>obtain⟨a,j,p,F⟩:=C;exact again p F|cont=>obtain⟨a,j,p,F⟩:=C;exact again p F|brk=>obtain⟨a,j,p,C⟩:=C;exact⟨a,j,p.yd,C⟩|ret v=>obtain⟨x7,a,j,p,r7,C⟩:=C;exists x7,a,j,p.yd,r7,C
end
theorem rK{K:af}{a:am}{xs:List V}{g:TG}{n:TS}{D:en}{b:St}{H:Hp}(c:Nat->St->Hp->Prop)(o:c 0 b H)(hl:∀i b H,i<=xs.length->c i b H->bH K H a xs)(r:∀i x b H,xs[i]?=ac x->c i b H->g x b H λh k=>n {D with nx:=c (i+1),ct:=c (i+1),bk:=D.nx} h k)(t:∀b H,c (cx xs) b H->D.nx b H) :∃W:Nat->Nat->St->Hp->Prop,(∃m,W 0 m b H)/\∀i m b H,W i m b H ->((IC K a).stop i H/\D.nx b H)∨((IC K a).go i H/\∃N:St->Hp->Prop,(∀d f,N d f->∃l,l<m/\W (i+1) l d f)/\∀x f,(IC K a).Mc i H x f->g x b f λh k=>n {D with nx:=N,ct:=N,bk:=D.nx} h k):=by exists λi m b H=>m=xs.length-i/\i<=xs.length/\c i b H,⟨xs.length,-_,bA _,o⟩,4;rintro i m b H ⟨rfl,s,p⟩;have q:=hl i b H s p;by_cases j:i<xs.length;refine .inr ⟨⟨xs,xs[i],q,by simp[j]⟩,c (i+1),λd f u=>⟨xs.length-(i+1),62,j,u⟩,λx f y=>?_⟩;obtain⟨e,y⟩:=y;subst e;exact r i x b _ (y xs q) p;have e:i=xs.length:=∅;subst e;exact .inl ⟨⟨xs,q,az _⟩,t b H p⟩
theorem adE{lo:Int}{n:Nat}{g:TG}{l:TS}{D:en}{a:St}{H:Hp}(d:Nat->St->Hp->Prop)(o:d 0 a H)(q:∀i a H,i<n->d i a H->g (.int (lo+i)) a H λh j=>l {D with nx:=d (i+1),ct:=d (i+1),bk:=D.nx} h j)(r:∀a H,d n a H->D.nx a H) :∃W:Nat->Nat->St->Hp->Prop,(∃m,W 0 m a H)/\∀i m a H,W i m a H ->((Hx lo n).stop i H/\D.nx a H)∨((Hx lo n).go i H/\∃N:St->Hp->Prop,(∀b f,N b f->∃k,k<m/\W (i+1) k b f)/\∀x f,(Hx lo n).Mc i H x f->g x a f λh j=>l {D with nx:=N,ct:=N,bk:=D.nx} h j):=by exists λi m a H=>m=n-i/\i<=n/\d i a H,⟨n,-_,bA _,o⟩,4;rintro i m a H ⟨rfl,t,p⟩;by_cases c:i<n;refine .inr ⟨c,d (i+1),λb f s=>⟨n-(i+1),62,c,s⟩,λx f y=>?_⟩;obtain⟨e,y⟩:=y;subst e y;exact q i a _ c p;have e:i=n:=∅;subst e;exact .inl ⟨az _,r a H p⟩
abbrev R2:=V->V->Hp->VK->Prop
def E3(X:Cx)(f:ap->ap->Sem ap)(r:R2):Prop:=
 ∀(pins:List (am×Obj))(s:ar)(σ:St)(H:Hp)(x y:V)(v u:ap)(Q:VK),Inv X pins σ H s->RelV x v->RelV y u->r x y H Q ->
  bt (model X.prog X.w) X.A (f v u) (EP X pins σ Q) X.xe s
def qQ(X:Cx)(f:ap)(r:List V->Hp->VK->Prop):Prop:=
 ∀(pins:List (am×Obj))(s:ar)(σ:St)(H:Hp)(xs:List V)(us:List ap)(Q:VK),Inv X pins σ H s->ck xs us->r xs H Q ->
  bt (model X.prog X.w) X.A (call f us) (EP X pins σ Q) X.xe s
def Pm(X:Cx)(r:V->Hp->(Bool->Hp->Prop)->Prop):Prop:=
 ∀(pins:List (am×Obj))(s:ar)(σ:St)(H:Hp)(x:V)(v:ap)(Q:Bool->Hp->Prop),Inv X pins σ H s->RelV x v->r x H Q ->
  bt (model X.prog X.w) X.A (truthy v) (TP X pins σ Q) X.xe s
def eT(r:R2)(ta tb:TE):TE:=λσ H Q=>ta σ H λx H1=>tb σ H1 λy H2=>r x y H2 Q
inductive rI(C:Int->Int->Prop)(g:Int->Int->V)(x y:V)(H:Hp)(Q:VK):Prop
 |mk(i j:Int)(h1:x=.int i)(h2:y=.int j)(h3:C i j)(h4:Q (g i j) H):rI C g x y H Q
inductive nt(g:Int->Int->V)(x y:V)(H:Hp)(Q:VK):Prop
 |mk(i j:Int)(h1:x=.int i)(h2:y=.int j)(h3:Q (g i j) H):nt g x y H Q
section
variable{X:Cx}{a b c:Expr}{ta tb tc:TE}{pos:Pos}
theorem lv(m:PE X a ta)(q:PE X b tb){c:List (am×Obj)}{s:ar}{d:St}{H:Hp}{R:V->V->Hp->Prop}(I:Inv X c d H s)(h:ta d H λx k=>tb d k λy e=>R x y e){Q:ap->ar->Prop}{f:ap->ap->Sem ap}(t:∀v u j x y e,Inv X c d e j->RelV x v->RelV y u->R x y e->bt (model X.prog X.w) X.A (f v u) Q X.xe j) :bt (model X.prog X.w) X.A (eval a X.env) (λv i=>bt (model X.prog X.w) X.A (eval b X.env) (λu g=>bt (model X.prog X.w) X.A (f v u) Q X.xe g) X.xe i) X.xe s:=by refine g8 (m c s d H _ I h) λv n ⟨x,k,p,l,z⟩=>?_;refine g8 (q c n d k _ p z) λu j ⟨y,e,r,o,B⟩=>?_;exact t v u j x y e r l o B
theorem fc(f:E3 X (binaryOp op) r)(d:PE X a ta)(g:PE X b tb):PE X (.BinOp a op b pos) (eT r ta tb):=by intro c s e H Q I h;exact wpAny_BinOp (lv d g I h λv u k x y i j l m q=>f c k e i x y v u Q j l m q)
theorem pj{f:ap->ap->Sem ap}{C:Int->Int->Prop}{g:Int->Int->Int}(rule:∀(i j:Int)(t u:Tok)(s:ar)(Q:ap->ar->Prop)(E:ap->ar->Prop),C i j->Q (.int (g i j) s.toks) {s with toks:=s.toks+1}->bt (model X.prog X.w) X.A (f (.int i t) (.int j u)) Q E s) :E3 X f (rI C λi j=>.int (g i j)):=by intro a s k H x y v u Q I c e h;obtain⟨i,j,rfl,rfl,b,q⟩:=h;obtain⟨t,rfl⟩:=c;obtain⟨d,rfl⟩:=e;exact rule i j t d s _ _ b ⟨.int (g i j),H,I.tok _,⟨1⟩,q⟩
theorem rf{f:ap->ap->Sem ap}{g:Int->Int->Int}(rule:∀(i j:Int)(t u:Tok)(s:ar)(Q:ap->ar->Prop)(E:ap->ar->Prop),Q (.int (g i j) s.toks) {s with toks:=s.toks+1}->bt (model X.prog X.w) X.A (f (.int i t) (.int j u)) Q E s) :E3 X f (nt λi j=>.int (g i j)):=by intro a s e H x y v u Q I b d h;obtain⟨i,j,rfl,rfl,q⟩:=h;obtain⟨t,rfl⟩:=b;obtain⟨c,rfl⟩:=d;exact rule i j t c s _ _ ⟨.int (g i j),H,I.tok _,⟨1⟩,q⟩
theorem im{f:ap->ap->Sem ap}{g:Int->Int->Bool}(rule:∀(i j:Int)(t u:Tok)(s:ar)(Q:ap->ar->Prop)(E:ap->ar->Prop),Q (.bool (g i j)) s->bt (model X.prog X.w) X.A (f (.int i t) (.int j u)) Q E s) :E3 X f (nt λi j=>.bl (g i j)):=by intro a s e H x y v u Q I b d h;obtain⟨i,j,rfl,rfl,q⟩:=h;obtain⟨t,rfl⟩:=b;obtain⟨c,rfl⟩:=d;exact rule i j t c s _ _ ⟨.bl (g i j),H,I,2,q⟩
def Pl(i j:Int):Prop:=0<j/\j<1073741824
def V1:E3 X (binaryOp .Add) (nt λi j=>.int (i+j)):=rf λ_ _ _ _ _ _ _ q=>add_int q
theorem Hm:E3 X (binaryOp .FloorDiv) (rI Pl λi j=>.int (i/j)):=pj λi j _ _ _ _ _ a q=>by
 have b:(0:Int)<j:=a.1;have c:j<1073741824:=a.2;exact floordiv_int ∅ (by rw[Int.fdiv_eq_ediv_of_nonneg i ∅];exact q) (.inl (PyProof.noPylong_small ∅))
theorem V2:E3 X (binaryOp .Mod) (rI (λ_ j=>0<j) λi j=>.int (i%j)):=pj λi j _ _ _ _ _ a q=>by
 have b:(0:Int)<j:=a;exact mod_int' ∅ (by rw[Int.fmod_eq_emod_of_nonneg i ∅];exact q)
def alu:E3 X (binaryOp .BitAnd) (nt λi j=>.int (Builtin.bitAnd i j)):=rf λ_ _ _ _ _ _ _ q=>and_int q
end
noncomputable def lm:V->V->Bool
 |.fW,.fW=>ag|.fW,.int _=>ag|.int _,.fW=>ag|.fW,.bl _=>ag|.bl _,.fW=>ag|.fW,.str _=>ag|.str _,.fW=>ag
 |.int _,.int _=>ag|.bl _,.bl _=>ag|.str _,.str _=>ag|.fy _,.fy _=>ag
 |.int _,.str _=>ag|.str _,.int _=>ag|.bl _,.str _=>ag|.str _,.bl _=>ag
 |_,_=>al
inductive pi(x y:V)(H:Hp)(Q:VK):Prop
 |mk(a:lm x y=ag)(b:Q (.bl (decide (x=y))) H):pi x y H Q
inductive pf(x y:V)(H:Hp)(Q:VK):Prop
 |mk(a:lm x y=ag)(b:Q (.bl (!decide (x=y))) H):pf x y H Q
theorem Hk:decide (V.int i=V.int j)=(i==j):=by rw[kr];simp
theorem x2:decide (V.bl i=V.bl j)=(i==j):=by rw[kr];simp
theorem He:decide (V.str i=V.str j)=(i==j):=by rw[kr];simp
theorem Hd:decide (V.fy i=V.fy j)=(i.toList==j.toList):=by rw[kr];cases i;cases j;simp
section
variable{X:Cx}{a b c:Expr}{ta tb tc:TE}{pos:Pos}
theorem fz{H:Hp}{Q:VK}{a:Bool}(I:Inv X pins σ H s)(q:Q (.bl k) H)(e:k=a):EP X pins σ Q (.bool a) s:=by subst e;exists .bl k,H,I,2,q
theorem xj:E3 X (bn .Eq) pi:=by intro e s f H x y v u Q I d a h;obtain⟨c,q⟩:=h;cases x with|fW=>(cases d;cases y with|fW=>cases a;exact PySem.EqNone.eq_none_none (fz I q (-_))|bl j=>cases a;exact PySem.EqNone.eq_none_bool (fz I q (-_))|int j=>obtain⟨b,rfl⟩:=a;exact PySem.EqNone.eq_none_int (fz I q (-_))|str j=>obtain⟨b,rfl⟩:=a;exact PySem.EqNone.eq_none_str (fz I q (-_))|_=>exact b3 (show al=ag from c) aN)|bl i=>(cases d;cases y with|fW=>cases a;exact PySem.EqNone.eq_bool_none (fz I q (-_))|bl j=>cases a;exact eq_bool (fz I q x2)|str j=>obtain⟨b,rfl⟩:=a;exact PySem.EqMixed.eq_bool_str (fz I q (-_))|_=>exact b3 (show al=ag from c) aN)|int i=>(obtain⟨t,rfl⟩:=d;cases y with|fW=>cases a;exact PySem.EqNone.eq_int_none (fz I q (-_))|int j=>obtain⟨b,rfl⟩:=a;exact eq_int (fz I q Hk)|str j=>obtain⟨b,rfl⟩:=a;exact PySem.EqMixed.eq_int_str (fz I q (-_))|_=>exact b3 (show al=ag from c) aN)|str i=>(obtain⟨t,rfl⟩:=d;cases y with|fW=>cases a;exact PySem.EqNone.eq_str_none (fz I q (-_))|bl j=>cases a;exact PySem.EqMixed.eq_str_bool (fz I q (-_))|int j=>obtain⟨b,rfl⟩:=a;exact PySem.EqMixed.eq_str_int (fz I q (-_))|str j=>obtain⟨b,rfl⟩:=a;exact eq_str (fz I q He)|_=>exact b3 (show al=ag from c) aN)|fy i=>(obtain⟨t,rfl⟩:=d;cases y with|fy j=>obtain⟨b,rfl⟩:=a;exact PySem.W.eq_bytes (fz I q Hd)|_=>exact b3 (show al=ag from c) aN)|_=>cases y <;> exact b3 (show al=ag from c) aN
theorem lJ:E3 X (bn .NotEq) pf:=by intro e s f H x y v u Q I d a h;obtain⟨c,q⟩:=h;cases x with|fW=>(cases d;cases y with|fW=>cases a;exact PySem.EqNone.ne_none_none (fz I q (-_))|bl j=>cases a;exact PySem.EqNone.ne_none_bool (fz I q (-_))|int j=>obtain⟨b,rfl⟩:=a;exact PySem.EqNone.ne_none_int (fz I q (-_))|str j=>obtain⟨b,rfl⟩:=a;exact PySem.EqNone.ne_none_str (fz I q (-_))|_=>exact b3 (show al=ag from c) aN)|bl i=>(cases d;cases y with|fW=>cases a;exact PySem.EqNone.ne_bool_none (fz I q (-_))|bl j=>cases a;exact ne_bool (fz I q (c6 not x2))|str j=>obtain⟨b,rfl⟩:=a;exact PySem.EqMixed.ne_bool_str (fz I q (-_))|_=>exact b3 (show al=ag from c) aN)|int i=>(obtain⟨t,rfl⟩:=d;cases y with|fW=>cases a;exact PySem.EqNone.ne_int_none (fz I q (-_))|int j=>obtain⟨b,rfl⟩:=a;exact ne_int (fz I q (c6 not Hk))|str j=>obtain⟨b,rfl⟩:=a;exact PySem.EqMixed.ne_int_str (fz I q (-_))|_=>exact b3 (show al=ag from c) aN)|str i=>(obtain⟨t,rfl⟩:=d;cases y with|fW=>cases a;exact PySem.EqNone.ne_str_none (fz I q (-_))|bl j=>cases a;exact PySem.EqMixed.ne_str_bool (fz I q (-_))|int j=>obtain⟨b,rfl⟩:=a;exact PySem.EqMixed.ne_str_int (fz I q (-_))|str j=>obtain⟨b,rfl⟩:=a;exact ne_str (fz I q (c6 not He))|_=>exact b3 (show al=ag from c) aN)|fy i=>(obtain⟨t,rfl⟩:=d;cases y with|fy j=>obtain⟨b,rfl⟩:=a;exact PySem.W.ne_bytes (fz I q (c6 not Hd))|_=>exact b3 (show al=ag from c) aN)|_=>cases y <;> exact b3 (show al=ag from c) aN
def kR:E3 X (bn .Lt) (nt λi j=>.bl (decide (i<j))):=im λ_ _ _ _ _ _ _ q=>lt_int q
def jm:E3 X (bn .LtE) (nt λi j=>.bl (decide (i<=j))):=im λ_ _ _ _ _ _ _ q=>le_int q
def i4:E3 X (bn .Gt) (nt λi j=>.bl (decide (j<i))):=im λ_ _ _ _ _ _ _ q=>gt_int q
def an8:E3 X (bn .GtE) (nt λi j=>.bl (decide (j<=i))):=im λ_ _ _ _ _ _ _ q=>ge_int q
theorem UC:E3 X (bn .In) (λx y H Q=>∃i j,x=.str i/\y=.str j/\Q (.bl (!(Builtin.Str.occurrences j i 0 j.length 1).isEmpty)) H):=by intro a s d H x y v u Q I b c h;obtain⟨i,j,rfl,rfl,q⟩:=h;obtain⟨t,rfl⟩:=b;obtain⟨e,rfl⟩:=c;exact in_str (fz I q rfl)
theorem m4:E3 X (bn .Is) (λx y H Q=>y=.fW/\Q (.bl (decide (x=.fW))) H):=by
 intro b s d H x y v u Q I a c h;obtain⟨rfl,q⟩:=h;cases c;refine is_none_gen (fz I q ?_);cases x <;> first
  | (cases a;rfl)
  | (obtain⟨t,rfl⟩:=a;rfl)
theorem PM:E3 X (bn .IsNot) (λx y H Q=>y=.fW/\Q (.bl (!decide (x=.fW))) H):=by
 intro b s d H x y v u Q I a c h;obtain⟨rfl,q⟩:=h;cases c;refine isnot_none_gen (fz I q ?_);cases x <;> first
  | (cases a;rfl)
  | (obtain⟨t,rfl⟩:=a;rfl)
theorem xn(b:Expr){op:CmpOp}(h:op≠.In:=by decide)(d:op≠.NotIn:=by decide):behindInMarks op b=al:=by have c:(op==CmpOp.In)=al:=(by cases op <;> first|rfl|exact b3 rfl h);have a:(op==CmpOp.NotIn)=al:=(by cases op <;> first|rfl|exact b3 rfl d);cases b <;> simp[behindInMarks,c,a]
theorem V3(f:E3 X (bn op) r)(d:PE X a ta)(g:PE X b tb)(n:behindInMarks op b=al):PE X (.Compare a [op] [b] pos) (eT r ta tb):=by intro c s e H Q I h;exact wpAny_Compare1 (lv d g I h λv u k x y i j l m q=>f c k e i x y v u Q j l m q) n
def my(t:TE):TT:=λσ H Q=>t σ H (pb Q)
theorem rL(m:E3 X (bn op) r)(i:PE X a ta)(q:PE X b tb)(G:behindInMarks op b=al):PT X (.Compare a [op] [b] pos) (my (eT r ta tb)):=by intro d s f H Q I h;refine wpAny_isTrue_Compare1 (g8 (i d s f H _ I h) λv j ⟨x,B,p,g,E⟩=>g8 (q d j f B _ p E) λu A ⟨y,t,w,o,F⟩ => g8 (m d A f t x y v u _ w g o F) λc J ⟨z,D,n,l,k,e,C⟩=>?_) G;subst e;cases l;exact wpAny_truthy_bool ⟨D,n,C⟩
def xl(r r':R2)(ta tb tc:TE):TE:=λσ H Q=>ta σ H λx H1=>tb σ H1 λy H2=>r x y H2 λz H3=>∃k,z=.bl k /\
 (if k=ag then tc σ H3 λw' H4=>r' y w' H4 Q else Q (.bl al) H3)
theorem KQ{op g:CmpOp}{r p:R2}(C:E3 X (bn op) r)(j:E3 X (bn g) p)(t:PE X a ta)(J:PE X b tb)(O:PE X c tc)(V:lastMarks [op,g] [b,c]=al:=by with_unfolding_all rfl):PE X (.Compare a [op,g] [b,c] pos) (xl r p ta tb tc):=by intro f s i H Q I h;refine Compare_chain (g8 (t f s i H _ I h) λv A ⟨x,N,G,q,T⟩=>chain_link (g8 (J f A i N _ G T) λu M ⟨y,K,L,m,U⟩ => g8 (C f M i K x y v u _ L q m U) λd P ⟨z,o,l,B,k,e,n⟩=>?_)) V;subst e;cases B;refine wpAny_truthy_bool ?_;cases k with|false=>exact ite_ff ⟨.bl al,o,l,2,n⟩|true=>exact ite_tt (chain_last (g8 (O f P i o _ l n) λE w ⟨D,S,W,F,R⟩=>j f w i S y D u E Q W m F R))
theorem fG{op g:CmpOp}{r p:R2}(E:E3 X (bn op) r)(j:E3 X (bn g) p)(w:PE X a ta)(M:PE X b tb)(U:PE X c tc)(hm:lastMarks [op,g] [b,c]=al:=by with_unfolding_all rfl):PT X (.Compare a [op,g] [b,c] pos) (my (xl r p ta tb tc)):=by intro f s i H Q I h;refine isTrue_chain (g8 (w f s i H _ I h) λv C ⟨x,T,K,q,q1⟩=>test_link (g8 (M f C i T _ K q1) λu S ⟨y,N,R,m,q2⟩ => g8 (E f S i N x y v u _ R q m q2) λd V ⟨z,o,l,D,k,e,n⟩=>?_)) hm;subst e;cases D;refine wpAny_truthy_bool ?_;cases k with|false=>obtain⟨k',Y,P⟩:=n;cases Y;exact ite_ff ⟨o,l,P⟩|true=>refine ite_tt (test_last (g8 (U f V i o _ l n) λG A ⟨F,Z,I4,J,W⟩=>g8 (j f A i Z y F u G _ I4 m J W) λd' s5 ⟨z2,L,B,O,k2,t,q5⟩=>?_));subst t;cases O;exact wpAny_truthy_bool ⟨L,B,q5⟩
def li(K:af)(x:V)(H:Hp)(k:Bool):Prop:=
 match x with
 |.fW=>k=al
 |.bl b=>k=b
 |.int i=>k=(i != 0)
 |.str y=>y.length<=a9/\k=((y.length:Int) != 0)
 |.fy y=>y.size<=a9/\k=((y.size:Int) != 0)
 |.ref p=>(∃xs,bH K H p xs/\k=!xs.isEmpty)∨(∃xs,dY K H p xs/\k=!xs.isEmpty)∨∃kvs,H p=ac (.dK kvs)/\k=!kvs.isEmpty
 |_=>False
theorem aao{a:Type}{kvs:List (a×V)}{vs:List (a×ap)}(r:KV kvs vs):(!vs.isEmpty)=!kvs.isEmpty:=by cases r <;> rfl
theorem Ql(r:ck xs its):(!its.toArray.isEmpty)=!xs.isEmpty:=by cases r <;> simp
theorem JC:(a9:Nat)<2^63:=by rw[sizeLine_eq];decide
theorem alx:Pm X (λx H Q=>∃k,li X.K x H k/\Q k H):=by intro z s D H x v Q I g h;obtain⟨k,e,q⟩:=h;have E:=JC;have C:a9=16777216:=sizeLine_eq;cases x with|fW=>cases g;have a:k=al:=e;subst a;exact truthy_none ⟨H,I,q⟩|bl b=>cases g;have a:k=b:=e;subst a;exact wpAny_truthy_bool ⟨H,I,q⟩|int i=>obtain⟨t,rfl⟩:=g;have a:k=(i != 0):=e;subst a;exact PySem.P.truthy_int ⟨H,I,q⟩|str y=>obtain⟨t,rfl⟩:=g;obtain⟨A,a⟩:y.length<=a9/\k=((y.length:Int) != 0):=e;subst a;exact PySem.P.truthy_str ∅ ⟨H,I.tok _,q⟩|fy y=>obtain⟨t,rfl⟩:=g;obtain⟨A,a⟩:y.size<=a9/\k=((y.size:Int) != 0):=e;subst a;exact PySem.W.truthy_bytes ∅ ⟨H,I.tok _,q⟩|ref p=>(cases g;have a:(∃f,bH X.K H p f/\k=!f.isEmpty)∨(∃f,dY X.K H p f/\k=!f.isEmpty)∨∃c,H p=ac (.dK c)/\k=!c.isEmpty:=e;rcases a with ⟨f,j,a⟩|⟨f,j,a⟩|⟨c,j,a⟩;subst a;obtain⟨o,r,n,u⟩:=I.list j;have d:=r.length;exact wpAny_truthy_list n.isList (by simp only[bw];lia) ⟨H,I.tok _,by rw[Ql r];exact q⟩;subst a;obtain⟨o,r,n,u⟩:=I.tuple j;have d:=r.length;exact truthy_tuple n (by simp only[bw];lia) ⟨H,I.tok _,by rw[Ql r];exact q⟩;subst a;obtain⟨u,B,l,r,m⟩:c.length<=a9/\(p==sysModules)=al/\∃l,KV c l/\s.heap.DictOf (iR X.prog X.w) p l:=I.hok p _ j;have d:c.length=l.length:=Paired.length r;exact wpAny_truthy_dict B m ∅ ⟨H,I.tok _,by rw[aao r];exact q⟩)|_=>exact (show False from e).elim
theorem afd(g:PE X a ta)(j:∀b,isTrue a X.env b=(do let v <- b;standAt a.pos;holding [v] (truthy v))) :PT X a (λd H Q=>ta d H λx e=>∃k,li X.K x e k/\Q k e):=by intro c s d H Q I h;exact isTrue_plain (g8 (g c s d H _ I h) λv i ⟨x,m,l,f,n⟩=>alx c i d m x v Q l f n) (j _)
theorem Qm:E3 X (binaryOp .Add) (λx y H Q=>∃i j,x=.str i/\y=.str j/\i.length+j.length<=a9/\Q (.str (i++j)) H):=by intro a s f H x y v u Q I b d h;obtain⟨i,j,rfl,rfl,e,q⟩:=h;obtain⟨t,rfl⟩:=b;obtain⟨c,rfl⟩:=d;exact add_str (λc g=>⟨.str (i++j),H,I.tok _,⟨1⟩,q⟩) e
theorem vals1{x:V}(r:ck [x] us):∃u,us=[u]/\RelV x u:=by cases r with|cons b a=>cases a;exists 1,b
theorem UD:qQ X (.type "int") (λxs H Q=>(∃i,xs=[.int i]/\Q (.int i) H)∨∃k,xs=[.bl k]/\Q (.int (if k then 1 else 0)) H):=by intro a s c H xs d Q I r h;rcases h with ⟨i,rfl,q⟩|⟨k,rfl,q⟩;obtain⟨u,rfl,t,rfl⟩:=vals1 r;exact call_int_int ⟨.int i,H,I,⟨1⟩,q⟩;obtain⟨u,rfl,b⟩:=vals1 r;cases b;exact call_int_bool ⟨.int (if k then 1 else 0),H,I.tok _,⟨1⟩,q⟩
theorem V4:qQ X (.type "str") (λxs H Q=>∃i,xs=[.int i]/\i.natAbs.log2<1920/\Q (.str (toString i)) H):=by intro a s c H xs d Q I r h;obtain⟨i,rfl,b,q⟩:=h;obtain⟨u,rfl,t,rfl⟩:=vals1 r;exact PySem.P.str_of_int b ⟨.str _,H,I.tok _,⟨1⟩,q⟩
end
structure aap(h:Heap)(x dx C:am)(mA:Str->Option ap):Prop where
 obj:h.get? x=ac (nh C dx)
 ns:h.Ns1 dx mA
 ne:dx≠x
theorem UE{h:Heap}(n:h.Ns1 dx mA):∃od,h.get? dx=ac od/\∀name,PySem.W.lookIn name od=ac (mA name):=by obtain⟨o,c,l,f,g,j,_,k⟩:=n;exists o,f,λname=>?_;have e:=k name;unfold nsFind findBy at e;rw[<- Array.find?_toList] at e;unfold PySem.W.lookIn;rw[g];dsimp only;split;rename_i y q;rw[q] at e;exact c6 ac e;rename_i q;rw[q] at e;have a:c.toList.any (·.refKey)=al:=(by rw[List.any_eq_false];intro y i;obtain⟨z,t,b⟩:=j y (Array.mem_toList_iff.mp i);simp[DictEntry.refKey,b]);have d:¬c.toList.any (·.refKey)=ag:=(by rw[a];exact aN);rw[b5 d];exact c6 ac e
theorem aap.look(I:aap h x dx C mA):∃od,PySem.W.InstAt h x (nh C dx) C (ac od)/\∀name,PySem.W.lookIn name od=ac (mA name):=
 let ⟨od,b,a⟩:=UE I.ns
 ⟨od,⟨I.obj,22,b⟩,a⟩
section
variable{prog:bv}{w:World}{A:ce}{E:ap->ar->Prop}{s:ar}{K:af}{x dx C f:am}{mA:Str->Option ap}{name:Str}{v:ap}
theorem get_map{a:Bool}{Q:ap->ar->Prop}(X:K.In s.heap)(I:aap s.heap x dx C mA)(e:C9 K C name=ag)(g:ni K C=ag)(c:aO K (.ref C) name=ac ae)(f:mA name=ac v)(b:PySem.W.handedIn v=ag)(h:Q v {s with toks:=s.toks+1}) :bt (model prog w) A (getAttr (.ref x) name a) Q E s:=by obtain⟨i,J,d⟩:=I.look;exact PySem.W.get_value X J (PySem.W.plainGet_of e).1 (PySem.W.findObj_own g c rfl (by rw[d,f])) b h
theorem afe{pl:Sem Bool}{Q:ap×List ap->ar->Prop}(X:K.In s.heap)(I:aap s.heap x dx C mA)(a:C9 K C name=ag)(b:aO K (.ref C) name=ac (ac (.ref f)))(g:PySem.W.isFn K (.ref f)=ag)(e:mA name=ae)(h:Q (.ref f,[.ref x]) s) :bt (model prog w) A (getMethod (.ref x) name pl) Q E s:=by obtain⟨c,J,d⟩:=I.look;exact PySem.W.method_fn X J (PySem.W.plainGet_of a).1 (PySem.W.plainGet_of a).2 b (beq_iff_eq.mp g) (by show (PySem.W.lookIn name c).map (·.isSome)=ac al;rw[d,e];rfl) h
theorem aih{ns:List Str}{Q:Unit->ar->Prop}(X:K.In s.heap)(I:aap s.heap x dx C mA) (l:aO K (.ref C) "__setattr__" = ac (ac (.builtin "object.__setattr__"))) (q:PySem.W.plainOver K C=ag) (n:PySem.W.takerIn K C name=ac ae) (t:ni K C=ag) (p:PySem.Within mA ns) (hsz:cx ns<=a9) (h:∀h',aap h' x dx C (λy=>if y=name then ac v else mA y)->Heap.SameBut dx s.heap h'->Q () {s with heap:=h',toks:=s.toks+2}) :bt (model prog w) A (setAttr (.ref x) name v) Q E s:=by obtain⟨u,J,D⟩:=I.look;refine PySem.W.set_plain X J l (PySem.W.osa_open (s:={s with toks:=s.toks+1}) (r:=ae) X J q n λb=>?_);obtain⟨B,o,f⟩:=Dc t;have k:s.heap.get? x=ac ⟨.ref C,ac dx,.plain,#[]⟩:=I.obj;refine aw (ax (aw (aw (wpAny_loadPart k (aw (PySem.W.Looks.here (s:={s with toks:=s.toks+1}) (PySem.W.looks_clsIn X o) ?_))))));rw[f];refine ax (a:=ac dx) (aw (ax (aw ?_)));refine wpAny_nsSet1 (s:={s with toks:=s.toks+1}) I.ns λh' d c=>?_;obtain⟨z,j,m,g,i,e⟩:=d.count (PySem.Within.cons name v p);refine aw (wpAny_lookBehind g (by rw[i];exact pastItsLine_dict (aE e (by rw[bU];lia))) ?_);exact ax (h _ ⟨(c.2 _ (bS I.ne)).trans I.obj,d,I.ne⟩ c)
theorem XU{R:Result->ar->Prop}{vs:List ap}{b:List (Str×ap)}(X:K.In s.heap)(i:PySem.W.makesIn K C=ag) (c:aO K (.ref C) "__init__" = ac (ac (.ref f))) (e:PySem.W.typeIn K (.ref f)=ac (.type "function")) (h:codeAny (model prog w) (A.under (.builtin "type.__call__" ⟨.ref C::vs,b⟩)) (.call (.ref f) ⟨.ref (s.heap.objs.size+1)::vs,b⟩) (PySem.W.InitBack (s.heap.objs.size+1) R) {s with heap:=(s.heap.push i6).push (nh C s.heap.objs.size)}) :codeAny (model prog w) A (.call (.ref C) ⟨vs,b⟩) R s:=by obtain⟨j,g,d,t,os⟩:=s;exact PySem.W.make_core (PySem.W.makes_of X i) (PySem.W.looks_findIn X c) (λa=>PySem.W.bind_fn X a e) (.inl rfl) h
end
noncomputable def Cg(f:Str)(v:V):List (Str×V)->List (Str×V)
 |[]=>[(f,v)]
 | (g,x)::r=>if g=f then (g,v)::r else (g,x)::Cg f v r
theorem NU(f g:Str)(v:V):∀c:List (Str×V),(Cg f v c).lookup g=if g=f then ac v else c.lookup g
 |[]=>by
  show vV g [(f,v)]=_;by_cases h:g=f
  ·have a:(g==f)=ag:=beq_iff_eq.mpr h
   simp only[vV,a,b4 h]
  ·have a:(g==f)=al:=beq_eq_false_iff_ne.mpr h
   simp only[vV,a,b5 h]
 | (k,x)::r=>by
  have d:=NU f g v r;rw[show Cg f v ((k,x)::r)=(if k=f then (k,v)::r else (k,x)::Cg f v r) from rfl];by_cases b:k=f
  ·rw[b4 b]
   by_cases h:g=k
   ·have a:(g==k)=ag:=beq_iff_eq.mpr h
    simp only[vV,a,b4 (h.trans b)]
   ·have a:(g==k)=al:=beq_eq_false_iff_ne.mpr h
    simp only[vV,a,b5 (λe:g=f=>h (e.trans b.symm))]
  ·rw[b5 b]
   by_cases h:g=k
   ·have a:(g==k)=ag:=beq_iff_eq.mpr h
    simp only[vV,a,b5 (λe:g=f=>b (h.symm.trans e))]
   ·have a:(g==k)=al:=beq_eq_false_iff_ne.mpr h
    simp only[vV,a];exact d
theorem Mj(f:Str)(v:V):∀a:List (Str×V),f∈(Cg f v a).map (·.1)/\∀g,g∈a.map (·.1)->g∈(Cg f v a).map (·.1)
 |[]=>⟨by simp[Cg],λg h=>by simp at h⟩
 | (k,x)::r=>by
  obtain⟨c,d⟩:=Mj f v r;rw[show Cg f v ((k,x)::r)=(if k=f then (k,v)::r else (k,x)::Cg f v r) from rfl];by_cases b:k=f
  ·rw[b4 b]
   subst b;exists -_,λg h=>by simpa using h
  ·rw[b5 b]
   exists 4,λg h=>?_
   ·rw[bL]
    exact aR _ c
   ·rw[bL] at h ⊢
    rcases aM.mp h with e|e
    ·exact aM.mpr (.inl e)
    ·exact aR _ (d g e)
theorem NV(f:Str)(v:V):∀a:List (Str×V),(Cg f v a).length<=a.length+1
 |[]=>by simp[Cg]
 | (k,x)::r=>by
  have c:=NV f v r;rw[show Cg f v ((k,x)::r)=(if k=f then (k,v)::r else (k,x)::Cg f v r) from rfl];by_cases b:k=f
  ·rw[b4 b,bU,bU];lia
  ·rw[b5 b,bU,bU];lia
theorem E5.some_of(r:E5 (ac v) o):∃u,o=ac u/\RelV v u:=by cases o with|none=>exact (show False from r).elim|some u=>exists u,2,r
theorem E5.none_of(r:E5 ae o):o=ae:=by cases o with|none=>rfl|some u=>exact (show False from r).elim
theorem adF(r:RelV v u):PySem.W.handedIn u=ag:=by cases v with|fW=>cases (show u=Value.none from r);rfl|bl b=>cases (show u=Value.bool b from r);rfl|int i=>obtain⟨t,e⟩:=(show ∃t,u=Value.int i t from r);cases e;rfl|str x=>obtain⟨t,e⟩:=(show ∃t,u=Value.str x t from r);cases e;rfl|fy b=>obtain⟨t,e⟩:=(show ∃t,u=Value.bytes b t from r);cases e;rfl|flt b=>obtain⟨t,e⟩:=(show ∃t,u=Value.float b t from r);cases e;rfl|ref a=>cases (show u=Value.ref a from r);rfl|ty n=>cases (show u=Value.type n from r);rfl
section
variable{P:bv}{w:World}{H H':Hp}{h h':Heap}{a C dx:am}{fs fs':List (Str×V)}
theorem V5(c:E6 P w H h)(e:H a=ac (.ins C dx fs)):∃b,aap h a dx C b/\(∀f,E5 (fs.lookup f) (b f))/\PySem.Within b (fs.map (·.1))/\fs.length<=1000/\H dx=ac (.own a):=by obtain⟨d,z,g,ob,b,n,r,q⟩:=(show jk P w H h a (.ins C dx fs) from c a _ e);exists b,⟨ob,n,g⟩,r,q,z,d
end
structure PN(K:af)(C:am):Prop where
 pg:C9 K C Str.empty=ag
 hd:ni K C=ag
 po:PySem.W.plainOver K C=ag
 sa:aO K (.ref C) "__setattr__" = ac (ac (.builtin "object.__setattr__"))
def PN.get{K:af}(c:PN K C)(f:Str):C9 K C f=ag:=c.pg
def eF(K:af)(C:am)(f:Str):Prop:=aO K (.ref C) f=ac ae
theorem eF.an9{K:af}(n:eF K C f):PySem.W.takerIn K C f=ac ae:=by unfold PySem.W.takerIn;rw[show aO K (.ref C) f=ac ae from n];rfl
structure Qn(K:af)(C:am)(m:Str)(f:am):Prop where
 at_:aO K (.ref C) m=ac (ac (.ref f))
 fn:PySem.W.isFn K (.ref f)=ag
 kp:dN K (.ref f)=ag
section
variable{X:Cx}{pins:List (am×Obj)}{σ:St}{H:Hp}{s:ar}{a C dx:am}{fs:List (Str×V)}{f:Str}{v:V}{A:ce}{E:ap->ar->Prop}
theorem aaq{b:Bool}{Q:ap->ar->Prop}(I:Inv X pins σ H s)(e:H a=ac (.ins C dx fs))(c:PN X.K C)(n:eF X.K C f)(l:fs.lookup f=ac v)(h:∀u s',Inv X pins σ H s'->RelV v u->Q u s'):bt (model X.prog X.w) A (getAttr (.ref a) f b) Q E s:=by obtain⟨g,O,r,_,_,_⟩:=V5 I.hok e;obtain⟨u,i,d⟩:=E5.some_of (v:=v) (o:=g f) (by rw[<- l];exact r f);exact get_map I.IA O (c.get f) c.hd n i (adF d) (h u _ (I.tok _) d)
theorem De{m:Str}{g:am}{pl:Sem Bool}{Q:ap×List ap->ar->Prop}(I:Inv X pins σ H s)(e:H a=ac (.ins C dx fs))(c:PN X.K C)(k:Qn X.K C m g)(l:fs.lookup m=ae)(h:Q (.ref g,[.ref a]) s):bt (model X.prog X.w) A (getMethod (.ref a) m pl) Q E s:=by obtain⟨b,O,r,_,_,_⟩:=V5 I.hok e;have d:b m=ae:=E5.none_of (by rw[<- l];exact r m);exact afe I.IA O (c.get m) k.at_ k.fn d h
theorem aar{y:V}{u:ap}{Q:Unit->ar->Prop}(I:Inv X pins σ H s)(e:H a=ac (.ins C dx fs))(c:PN X.K C)(n:eF X.K C f)(hl:fs.length<1000)(v:RelV y u)(h:∀s',Inv X pins σ (upd H a (.ins C dx (Cg f y fs))) s'->Q () s'):bt (model X.prog X.w) A (setAttr (.ref a) f u) Q E s:=by obtain⟨k,O,r,j,_,i⟩:=V5 I.hok e;have D:(fs.map (·.1)).length<=a9:=(by rw[ah,sizeLine_eq];lia);refine aih I.IA O c.sa c.po n.an9 c.hd j D λp d B=>h _ ?_;have hd:∃o,p.get? dx=ac o:=let ⟨o,_,_,t,_⟩:=d.ns;⟨o,t⟩;refine I.write (x:=a) (e:=dx) (by rw[e];exact True.intro) (.inr i) (λb q m z=>(B.2 b m).trans z) hd ?_;exists by rw[aI O.ne];exact i,4,O.ne,d.obj,_,d.ns,λg=>?_,λg l=>?_;have:=NV f y fs;lia;show E5 ((Cg f y fs).lookup g) (if g=f then ac u else k g);rw[NU];by_cases q:g=f;rw[b4 q,b4 q];exact v;rw[b5 q,b5 q];exact r g;by_cases q:g=f;rw[q];exact (Mj f y fs).1;refine (Mj f y fs).2 g (j g λz=>l ?_);show (if g=f then ac u else k g)=ae;rw[b5 q];exact z
theorem Inv.made(I:Inv X pins σ H s):Inv X pins σ (upd (upd H s.heap.objs.size (.own (s.heap.objs.size+1))) (s.heap.objs.size+1) (.ins C s.heap.objs.size [])) {s with heap:=(s.heap.push i6).push (nh C s.heap.objs.size)}:=by have d:(s.heap.push i6).get? s.heap.objs.size=ac i6:=a6 s.heap rfl;have f:((s.heap.push i6).push (nh C s.heap.objs.size)).get? (s.heap.objs.size+1)=ac (nh C s.heap.objs.size):=(by have:=a6 (s.heap.push i6) (o:=nh C s.heap.objs.size) rfl;rwa [Heap.size_push] at this);have j:(s.heap.push i6).Ns s.heap.objs.size (λ_=>ae):=⟨i6,#[],_,d,2,(λe g=>b3 g (-_)),λ_=>rfl⟩;have h:=I.laid (a:=s.heap.objs.size) (o:=.own (s.heap.objs.size+1)) (h':=s.heap.push i6) (t':=s.toks) (λb u q=>a5 _ q) (az _) ⟨_,d⟩;refine h.laid (a:=s.heap.objs.size+1) (o:=.ins C s.heap.objs.size []) (t':=s.toks) (λb u q=>a5 _ q) (Nat.le_of_eq (Heap.size_push _ _)) ?_;have c:s.heap.objs.size≠s.heap.objs.size+1:=bB (pG _);exists by rw[aI c,aq],bA _,c,f,λ_=>ae,(Heap.Ns1.of_empty j).at λo q=>a5 _ q,λ_=>True.intro,λy i=>b3 rfl i
theorem aii{prog:bv}{w:World}{env:Env}{e:Expr}{f:Str}{b:Pos}{s:ar}{Q:ap->ar->Prop}(c:attributeBase e f env (eval e env)=eval e env)(h:bt (model prog w) A (eval e env) (λo a=>bt (model prog w) A (getAttr o f ag) Q E a) E s):bt (model prog w) A (eval (.Attribute e f b) env) Q E s :=Attribute_any_ h (by rw[arm_eval_Attribute,c])
end
inductive p4(K:af)(f:Str)(Q:VK)(x:V)(H1:Hp):Prop
 |mk(a C dx:am)(fs:List (Str×V))(v:V)(h1:x=.ref a)(h2:H1 a=ac (.ins C dx fs))(h3:PN K C)(h4:eF K C f)(h5:fs.lookup f=ac v)(h6:Q v H1):p4 K f Q x H1
def Qo(K:af)(ta:TE)(f:Str):TE:=λσ H Q=>ta σ H (p4 K f Q)
def Pi(K:af)(ta tv:TE)(f:Str):TS:=λD σ H=>tv σ H λy H1=>ta σ H1 λx H2=>∃a C dx fs,x=.ref a/\H2 a=ac (.ins C dx fs)/\PN K C/\eF K C f/\fs.length<1000 /\
 D.nx σ (upd H2 a (.ins C dx (Cg f y fs)))
section
variable{X:Cx}{o e value:Expr}{f:Str}{pos pos' tpos:Pos}{ta tv:TE}
theorem aU(i:PE X e ta)(k:attributeBase e f X.env (eval e X.env)=eval e X.env):PE X (.Attribute e f pos) (Qo X.K ta f):=by intro b s d H Q I h;refine aii k (g8 (i b s d H _ I h) λu y ⟨x,r,j,t,a,C,z,B,v,o,g,c,n,l,q⟩=>?_);subst o;obtain rfl:u=Value.ref a:=t;exact aaq j g c n l λw A p m=>⟨v,r,p,m,q⟩
theorem gY(g:PE X o ta)(z:PE X value tv)(j:swapsWith value (ac (.Attribute o f pos')) pos.line X.env=pure al):PS X (.Assign [.Attribute o f pos'] value pos) (Pi X.K ta tv f):=by intro b s d H D I h;refine plainObj_wpAny_Assign_Attribute (g8 (z b s d H _ I h) λu i ⟨y,v,p,A,q⟩=>g8 (g b i d v _ p q) λe G ⟨x,E,t,w,a,C,F,L,r,k,c,n,l,B⟩=>?_) j;subst r;obtain rfl:e=Value.ref a:=w;exact aar t k c n l A λJ m=>⟨d,_,m,B⟩
end
structure jF(k:Nat)(A:ce):Prop where
 hd:A.handled=ae
 dp:A.depth+3*k+5<recursionLimit
 un:A.units+16*k+200<cLine
theorem jF.mono{j:Nat}(r:jF k A)(h:j<=k):jF j A:=⟨r.hd,by have:=r.dp;lia,by have:=r.un;lia⟩
theorem jF.deeper{k:Nat}(r:jF (k+1) A)(env:Env):jF k (A.deeper env) :=⟨r.hd,by have:=r.dp;show A.depth+1+3*k+5<_;lia,by have:=r.un;show A.units+3+16*k+200<_;lia⟩
theorem aas{A:ce}{us:List ap}{a:List (Str×ap)}:(A.under (.builtin "type.__call__" ⟨.ref C::us,a⟩)).depth=A.depth+1:=by (first|rfl|simp[Around.under,Code.weight,Code.isCreation,Code.isGuard,Code.isCaller,Code.frames,Code.isFrame,guardIds])
theorem aat{A:ce}{us:List ap}{a:List (Str×ap)}:(A.under (.builtin "type.__call__" ⟨.ref C::us,a⟩)).units=A.units+1:=by (first|rfl|simp[Around.under,Code.cUnits,Code.frames,Code.isFrame])
theorem jF.make{k:Nat}(r:jF (k+1) A)(C:am)(us:List ap)(a:List (Str×ap)):jF k (A.under (.builtin "type.__call__" ⟨.ref C::us,a⟩)) :=⟨r.hd,by have:=r.dp;rw[aas];lia,by have:=r.un;rw[aat];lia⟩
theorem jF.depth(r:jF k A):A.depth<recursionLimit:=by have:=r.dp;lia
theorem jF.units(r:jF k A):A.units+64<cLine:=by have:=r.un;lia
def xy:TA:=λ_ H Q=>Q [] H
def eU(ta:TE)(tr:TA):TA:=λσ H Q=>ta σ H λx H1=>tr σ H1 λxs H2=>Q (x::xs) H2
section
variable{X:Cx}{e:Expr}{es:List Expr}{te:TE}{t:TA}{pos:Pos}
def jn:PA X [] xy:=λ_ _ _ _ H Q I h=>Calls.spliced_nil ⟨[],H,I,.nil,h⟩
theorem aij(d:PE X e te)(o:PA X es t)(g:bc (e::es) X.env=(al,eval e X.env)::bc es X.env:=by rfl):PA X (e::es) (eU te t):=by intro pos a s b H Q I h;rw[g];show bt _ _ (spliced ((al,eval e X.env)::backTo pos (bc es X.env))) _ _ s;refine Calls.spliced_cons (g8 (d a s b H _ I h) λu f ⟨x,n,j,c,p⟩=>?_);exact g8 (o pos a f b n _ j p) λr v ⟨k,l,m,i,q⟩=>⟨x::k,l,m,.cons c i,q⟩
def hQ(t:TA):TE:=λσ H Q=>t σ H λxs H1=>xs.length<=a9/\∀p,H1 p=ae->Q (.ref p) (upd H1 p (.tup xs))
def S8(t:TA):TE:=λσ H Q=>t σ H λxs H1=>xs.length<=a9/\∀p,H1 p=ae->Q (.ref p) (upd H1 p (.lst xs))
theorem bE{x1}(h:PA X es t):PE X (.Tuple es x1 pos) (hQ t):=by intro a s i H Q I hq;refine wpAny_Tuple_spliced (g8 (h pos a s i H _ I hq) λg c ⟨j,f,d,r,z,q⟩=>⟨by rw[<- r.length];exact z,4⟩);have k:f c.heap.objs.size=ae:=d.hok.fresh (az _);exists .ref c.heap.objs.size,upd f c.heap.objs.size (.tup j),d.laid (t':=c.toks) (λb u e=>a5 _ e) (az _) ?_,2,q _ k;exists z,g,r,⟨_,a6 _ rfl,7⟩
theorem cu(h:PA X es t):PE X (.List es pos) (S8 t):=by intro a s i H Q I hq;refine wpAny_List_spliced (g8 (h pos a s i H _ I hq) λg c ⟨j,f,d,r,z,q⟩=>⟨by rw[<- r.length];exact z,4⟩);have k:f c.heap.objs.size=ae:=d.hok.fresh (az _);exists .ref c.heap.objs.size,upd f c.heap.objs.size (.lst j),d.laid (t':=c.toks) (λb u e=>a5 _ e) (az _) ?_,2,q _ k;exists z,g,(0),r,a6 _ rfl
end
abbrev Sp:=List V->Hp->VK->XK->Prop
abbrev g7:=List Env->Hp->ar->XK->ap->ar->Prop
structure aav(P:bv)(w:World)(K:af)(mg:Str->Option ap)(base:Heap)(A:ce)(outer:List Env)(s:ar)(H:Hp):Prop where
 frames:A.frames=ac outer
 mod:Mod K mg base
 bs:∀b o,base.get? b=ac o->s.heap.get? b=ac o/\H b=ae
 jz:base.objs.size<=s.heap.objs.size
 Jz:s.heap.FunFrames base outer
 su:∀b∈dL outer,H b=ae
 hok:E6 P w H s.heap
 bare:AllBare s.gens
def CE(outer:List Env)(P:bv)(w:World)(H:Hp)(s:ar)(Q:VK)(u:ap)(s':ar):Prop:=
 ∃v H',s'.os=s.os/\AllBare s'.gens/\Un (dL outer) [] H H' s.heap s'.heap/\E6 P w H' s'.heap/\RelV v u/\Q v H'
def CR(CX:g7)(outer:List Env)(P:bv)(w:World)(H:Hp)(s:ar)(Q:VK)(E:XK)(r:Result)(s':ar):Prop:=
 match r with
 |.ok (.ret u)=>CE outer P w H s Q u s'
 |.ok _=>False
 |.error e=>CX outer H s E e s'
structure bu(P:bv)(w:World)(K:af)(mg:Str->Option ap)(base:Heap)(CX:g7)(k:Nat)(f:am)(fd:FuncData)(ps:List Str)(sp:Sp):Prop where
 len:∀vs H Q E,sp vs H Q E->vs.length=ps.length
 run:∀(A:ce)(outer:List Env)(s:ar)(H:Hp)(args:Args)(us:List ap)(vs:List V)(Q:VK)(E:XK),jF k A->aav P w K mg base A outer s H->BindsTo s fd args (ps.zip us)->ck vs us->sp vs H Q E ->
  codeAny (model P w) A (.call (.ref f) args) (CR CX outer P w H s Q E) s
def bu.imp{P:bv}{w:World}{K:af}{e:Str->Option ap}{base:Heap}{CX:g7}{k:Nat}{f:am}{d:FuncData}{ps:List Str}{sp b:Sp}(F:bu P w K e base CX k f d ps sp)(h:∀vs H Q E,b vs H Q E->sp vs H Q E):bu P w K e base CX k f d ps b :=⟨λvs H Q E q=>F.len vs H Q E (h _ _ _ _ q),λA a s H c g vs Q E m j l n i=>F.run A a s H c g vs Q E m j l n (h _ _ _ _ i)⟩
theorem aav.make{P:bv}{w:World}{K:af}{b:Str->Option ap}{base:Heap}{A:ce}{a:List Env}{s:ar}{H:Hp}(e:aav P w K b base A a s H)(C:am)(us:List ap)(c:List (Str×ap)) :aav P w K b base (A.under (.builtin "type.__call__" ⟨.ref C::us,c⟩)) a s H:=⟨by first|exact e.frames|(simpa [Around.under,Code.envs,Code.isFrame,pushEnvs] using e.frames),e.mod,e.bs,e.jz,e.Jz,e.su,e.hok,e.bare⟩
section
variable{X:Cx}{pins:List (am×Obj)}{σ:St}{H:Hp}{s s':ar}
def Inv.afh(I:Inv X pins σ H s):aav X.prog X.w X.K X.mg X.base X.A X.stack s H :=⟨I.ok.frames,I.ok.mod,I.bs,aE I.ok.jz I.sz,I.stack,I.VX,I.hok,I.bare⟩
theorem Inv.after(I:Inv X pins σ H s)(h:CE X.stack X.prog X.w H s Q u s'):EP X pins σ Q u s':=by obtain⟨v,f,os,a,i,e,r,q⟩:=h;obtain⟨j,g,d,t,c⟩:=s';obtain rfl:c=s.os:=os;exists v,f,I.call (h':=j) (g':=g) (d':=d) (t':=t) (ch:=[]) i e a (λb z=>b3 z (-_)),r,q
end
def ui(sp:Sp)(rM:List V)(E:XK)(t:TA):TE:=λσ H Q=>t σ H λvs H1=>sp (vs++rM) H1 Q E
inductive sw(C:am)(m:Str)(sp:Sp)(rM:List V)(E:XK)(t:TA)(σ:St)(Q:VK)(x:V)(H1:Hp):Prop
 |mk(a dx:am)(fs:List (Str×V))(h1:x=.ref a)(h2:H1 a=ac (.ins C dx fs))(h3:fs.lookup m=ae)(h4:t σ H1 λvs H2=>sp (x::(vs++rM)) H2 Q E):sw C m sp rM E t σ Q x H1
def NX(C:am)(m:Str)(sp:Sp)(rM:List V)(E:XK)(ta:TE)(t:TA):TE:=λσ H Q=>ta σ H (sw C m sp rM E t σ Q)
def mx(C:am)(sp:Sp)(rM:List V)(E:XK)(t:TA):TE:=λσ H Q=>t σ H λvs H1=>∀x dx,H1 x=ae->H1 dx=ae->dx≠x ->
 sp (.ref x::(vs++rM)) (upd (upd H1 dx (.own x)) x (.ins C dx [])) (λv H2=>v=.fW/\Q (.ref x) H2) E
def Binds(K:af)(fd:FuncData)(ps:List Str)(ds:List ap):Prop:=
 ∀(s:ar)(us:List ap),K.In s.heap->(us++ds).length=ps.length->BindsTo s fd ⟨us,[]⟩ (ps.zip (us++ds))
theorem Binds.all{K:af}{ps:List Str}(h:∀us:List ap,us.length=ps.length->bindArgs fd ⟨us,[]⟩=pure (ps.zip us)):Binds K fd ps []:=λs us _ a=>by
 rw[fF] at a ⊢;exact .of_eq (h us a)
def vW(CX:g7)(X:Cx)(E:XK):Prop:=∀(pins:List (am×Obj))(σ:St)(H:Hp)(s:ar)(e:ap)(s':ar),Inv X pins σ H s->CX X.stack H s E e s'->X.xe e s'
section
variable{X:Cx}{CX:g7}{k:Nat}{f C:am}{fd:FuncData}{ps:List Str}{sp:Sp}{rM:List V}{ds:List ap}{E:XK}{x m:Str}{p pos apos:Pos}{e o:Expr}{es:List Expr}{ta:TE}{t:TA}
theorem Ml{a:List (am×Obj)}{b:St}{H:Hp}{s:ar}{Q:VK}{us:List ap}{vs:List V}(F:bu X.prog X.w X.K X.mg X.base CX k f fd ps sp)(l:jF k X.A)(i:Binds X.K fd ps ds)(j:ck rM ds)(d:vW CX X E)(I:Inv X a b H s)(r:ck vs us)(h:sp (vs++rM) H Q E):bt (model X.prog X.w) X.A (call (.ref f) us) (EP X a b Q) X.xe s:=by have c:ck (vs++rM) (us++ds):=r.append j;have m:(us++ds).length=ps.length:=(by rw[<- c.length];exact F.len _ _ _ _ h);refine wpAny_call (codeAny_mono (F.run X.A X.stack s H ⟨us,[]⟩ (us++ds) (vs++rM) Q E l I.afh (i s us I.IA m) c h) λr g hq=>?_);cases r with|error e=>exact d a b H s e g I hq|ok n=>(cases n with|ret u=>exact I.after hq|next=>exact eZ hq|brk=>exact eZ hq|cont=>exact eZ hq)
theorem iz(F:bu X.prog X.w X.K X.mg X.base CX k f fd ps sp)(u:jF k X.A)(i:Gl X x)(y:X.mg x=ac (.ref f))(v:dN X.K (.ref f)=ag)(n:Binds X.K fd ps ds)(o:ck rM ds)(j:vW CX X E)(g:PA X (e::es) t)(c:(x==("__debug__" : Str))=al:=by decide)(m:bc (e::es) X.env=(al,eval e X.env)::bc es X.env:=by rfl)(b:(backTo pos (bc es X.env)).any (·.1)=al:=by rfl) :PE X (.Call (.Name x p) (e::es) [] pos) (ui sp rM E t):=by intro a s l H Q I h;refine wpAny_Call_Name_kw (zQ I i y ?_ c);refine gn (h₀:=X.base) I.ok.mod.f6 v (g8 (g pos a s l H _ I h) λB C ⟨z,D,d,r,q⟩=>⟨d.IA,4⟩) m b;exact Ml F u n o j d r q
theorem cR{pl:Sem Bool}(D:PE X o ta)(c:PN X.K C)(hm:Qn X.K C m f)(F:bu X.prog X.w X.K X.mg X.base CX k f fd ps sp)(P:jF k X.A)(G:Binds X.K fd ps ds)(J:ck rM ds)(y:vW CX X E)(v:PA X (e::es) t)
 (d:bc (e::es) X.env=(al,eval e X.env)::bc es X.env:=by rfl) (g:(backTo pos (bc es X.env)).any (·.1)=al:=by rfl)
 (M:eval (.Call (.Attribute o m apos) (e::es) [] pos) X.env=(do
  let i <- eval o X.env
  standAt apos.atName
  let (f,first) <- holding [i] (getMethod i m pl)
  callWith pos f first (backTo pos (bc (e::es) X.env)) (backToKw pos (keywordEach [] X.env))):=by rfl):
 PE X (.Call (.Attribute o m apos) (e::es) [] pos) (NX C m sp rM E ta t):=by intro b s j H Q I h;refine rG (pl:=pl) (g8 (D b s j H _ I h) λu z ⟨x,N,n,O,a,T,V,L,B,l,q⟩=>?_) M;subst L;obtain rfl:u=Value.ref a:=O;refine De n B c hm l ?_;refine gn (first:=[.ref a]) (h₀:=X.base) I.ok.mod.f6 hm.kp (g8 (v pos b z j N _ n q) λus U ⟨vs,S,p,r,R⟩=>⟨p.IA,4⟩) d g;exact Ml (us:=.ref a::us) (vs:=.ref a::vs) F P G J y p (.cons rfl r) R
theorem pI{pl:Sem Bool}(n:PE X o ta)(c:PN X.K C)(hm:Qn X.K C m f)(F:bu X.prog X.w X.K X.mg X.base CX k f fd ps sp)(z:jF k X.A)(p:Binds X.K fd ps ds)(r:ck rM ds)(g:vW CX X E)
 (v:eval (.Call (.Attribute o m apos) [] [] pos) X.env=(do
  let e <- eval o X.env
  standAt apos.atName
  let (f,first) <- holding [e] (getMethod e m pl)
  callWith pos f first (backTo pos (bc [] X.env)) (backToKw pos (keywordEach [] X.env))):=by rfl):
 PE X (.Call (.Attribute o m apos) [] [] pos) (NX C m sp rM E ta xy):=by intro b s i H Q I h;refine rG (pl:=pl) (g8 (n b s i H _ I h) λu B ⟨x,G,d,y,a,D,J,t,j,l,q⟩=>?_) v;subst t;obtain rfl:u=Value.ref a:=y;refine De d j c hm l ?_;exact PySem.W.callWith_K0 (first:=[.ref a]) d.IA hm.kp (Ml (us:=[.ref a]) (vs:=[.ref a]) F z p r g d (.cons rfl .nil) q)
structure Mk(K:af)(C f:am):Prop where
 makes:PySem.W.makesIn K C=ag
 init:aO K (.ref C) "__init__" = ac (ac (.ref f))
 fn:PySem.W.isFn K (.ref f)=ag
 kp:dN K (.ref C)=ag
theorem XW{b:List (am×Obj)}{g:St}{H:Hp}{s:ar}{Q:VK}{us:List ap}{vs:List V}(M:Mk X.K C f)(F:bu X.prog X.w X.K X.mg X.base CX k f fd ps sp)(z:jF (k+1) X.A)(q:Binds X.K fd ps ds)(t:ck rM ds)(l:vW CX X E)(I:Inv X b g H s)(r:ck vs us)(h:∀x c,H x=ae->H c=ae->c≠x->sp (.ref x::(vs++rM)) (upd (upd H c (.own x)) x (.ins C c [])) (λv y=>v=.fW/\Q (.ref x) y) E) :bt (model X.prog X.w) X.A (call (.ref C) us) (EP X b g Q) X.xe s:=by have hq:=h (s.heap.objs.size+1) s.heap.objs.size (I.hok.fresh (gX _)) (I.hok.fresh (az _)) (bB (pG _));have d:=Inv.made (C:=C) I;have i:ck (V.ref (s.heap.objs.size+1)::(vs++rM)) (Value.ref (s.heap.objs.size+1)::(us++ds)):=.cons rfl (r.append t);have D:(Value.ref (s.heap.objs.size+1)::us++ds).length=ps.length:=(by have e:=i.length;rw[F.len _ _ _ _ hq] at e;exact e.symm);refine wpAny_call (XU (f:=f) I.IA M.makes M.init (beq_iff_eq.mp M.fn) (codeAny_mono (F.run _ X.stack _ _ ⟨Value.ref (s.heap.objs.size+1)::us,[]⟩ (Value.ref (s.heap.objs.size+1)::(us++ds)) _ _ E (z.make C us []) (d.afh.make C us []) (q _ (Value.ref (s.heap.objs.size+1)::us) d.IA D) i hq) λr m a=>?_));cases r with|error e=>exact l b g _ _ e m d a|ok G=>(cases G with|ret u=>obtain⟨v,n,o,j,p,B⟩:=d.after a;subst p;exact⟨j,⟨V.ref (s.heap.objs.size+1),n,o,2,B⟩⟩|next=>exact eZ a|brk=>exact eZ a|cont=>exact eZ a)
theorem PR(M:Mk X.K C f)(F:bu X.prog X.w X.K X.mg X.base CX k f fd ps sp)(u:jF (k+1) X.A)(i:Gl X x)(v:X.mg x=ac (.ref C))(n:Binds X.K fd ps ds)(o:ck rM ds)(j:vW CX X E)(g:PA X (e::es) t)(c:(x==("__debug__" : Str))=al:=by decide)(m:bc (e::es) X.env=(al,eval e X.env)::bc es X.env:=by rfl)(b:(backTo pos (bc es X.env)).any (·.1)=al:=by rfl) :PE X (.Call (.Name x p) (e::es) [] pos) (mx C sp rM E t):=by intro a s l H Q I h;refine wpAny_Call_Name_kw (zQ I i v ?_ c);refine gn (h₀:=X.base) I.ok.mod.f6 M.kp (g8 (g pos a s l H _ I h) λz B ⟨y,D,d,r,q⟩=>⟨d.IA,4⟩) m b;exact XW M F u n o j d r q
theorem afj(M:Mk X.K C f)(F:bu X.prog X.w X.K X.mg X.base CX k f fd ps sp)(d:jF (k+1) X.A)(g:Gl X x)(j:X.mg x=ac (.ref C))(c:Binds X.K fd ps ds)(e:ck rM ds)(i:vW CX X E)(a:(x==("__debug__" : Str))=al:=by decide):PE X (.Call (.Name x p) [] [] pos) (mx C sp rM E xy):=by intro b s l H Q I h;refine wpAny_Call_Name_kw (zQ I g j ?_ a);exact PySem.W.callWith_K0 I.IA M.kp (XW (us:=[]) M F d c e i I .nil h)
end
structure aG(N P:List Str)(sc:Scope):Prop where
 kind:sc.kind=.function
 co:sc.isCoroutine=al
 gen:sc.isGenerator=al
 nd:N.Nodup
 pre:N.take P.length=P
 par:∀x∈P,sc.names.lookup x=ac .local∨sc.names.lookup x=ac .cell
 aly:∀y∈sc.names,y.2≠.free
theorem UG{kindOf:Str->Option NameKind}{x:Str}:∀{a:List (Str×ap)}{m:Str->Option ap},(∀v,(x,v)∉a)->bindL kindOf a m x=m x
 |[],_,_=>rfl
 | (n,v)::r,m,h=>by
  unfold bindL;rw[UG λw b=>h w (aR _ b)];split
  ·have:x≠n:=by rintro rfl;exact h v aP
   simp[this]
  ·rfl
theorem UH{kindOf:Str->Option NameKind}{x:Str}:∀{a:List (Str×ap)}{m:Str->Option ap},(∀v,(x,v)∉a)->bindC kindOf a m x=m x
 |[],_,_=>rfl
 | (n,v)::r,m,h=>by
  unfold bindC;rw[UH λw b=>h w (aR _ b)];split
  ·rfl
  ·have:x≠n:=by rintro rfl;exact h v aP
   simp[this]
theorem UI{kindOf:Str->Option NameKind}{x:Str}{v:ap}:∀{P:List Str}{vs:List ap}{i:Nat}{m:Str->Option ap},P.Nodup->P[i]?=ac x->vs[i]?=ac v->kindOf x=ac .local ->
 bindL kindOf (P.zip vs) m x=ac v
 |[],_,_,_,_,h,_,_=>by simp at h
 |_::_,[],_,_,_,_,h,_=>by simp at h
 |p::P,w::vs,0,m,nd,a,b,c=>by
  simp at a b;subst a;subst b;show bindL kindOf ((p,w)::P.zip vs) m p=_;unfold bindL;rw[UG λv d=>(kj.mp nd).1 (List.of_mem_zip d).1,b4 c];simp
 |p::P,w::vs,i+1,m,nd,a,b,c=>by
  show bindL kindOf ((p,w)::P.zip vs) m x=_;unfold bindL;exact UI (i:=i) (kj.mp nd).2 (by simpa using a) (by simpa using b) c
theorem UJ{kindOf:Str->Option NameKind}{x:Str}{v:ap}:∀{P:List Str}{vs:List ap}{i:Nat}{m:Str->Option ap},P.Nodup->P[i]?=ac x->vs[i]?=ac v->kindOf x≠ac .local ->
 bindC kindOf (P.zip vs) m x=ac v
 |[],_,_,_,_,h,_,_=>by simp at h
 |_::_,[],_,_,_,_,h,_=>by simp at h
 |p::P,w::vs,0,m,nd,a,b,c=>by
  simp at a b;subst a;subst b;show bindC kindOf ((p,w)::P.zip vs) m p=_;unfold bindC;rw[UH λv d=>(kj.mp nd).1 (List.of_mem_zip d).1,b5 c];simp
 |p::P,w::vs,i+1,m,nd,a,b,c=>by
  show bindC kindOf ((p,w)::P.zip vs) m x=_;unfold bindC;exact UJ (i:=i) (kj.mp nd).2 (by simpa using a) (by simpa using b) c
def start(N:List Str)(vs:List V):St:=vs.map ac++bV (N.length-vs.length) ae
noncomputable def m8(CX:g7)(P:bv)(w:World)(K:af)(mg:Str->Option ap)(base:Heap)(N:List Str)(qual:Str)(scope:Scope)(f:am)(cd:ap)(A:ce)(outer:List Env)(s:ar)(H:Hp)(E:XK):Cx where
 prog:=P
 w:=w
 K:=K
 mg:=mg
 base:=base
 A:=A.deeper (envOfC qual scope s.heap.objs.size f cd)
 N:=N
 s₀:=s
 H₀:=H
 env:=envOfC qual scope s.heap.objs.size f cd
 outer:=outer
 stack:=envOfC qual scope s.heap.objs.size f cd::outer
 ex:=[]
 calm:=ag
 fn:=λ_=>ag
 pn:=[]
 xe:=λe s'=>bt (model P w) (A.deeper (envOfC qual scope s.heap.objs.size f cd)) (leaving (envOfC qual scope s.heap.objs.size f cd) e) (λ_ s''=>CX outer H s E e s'') (λe' s''=>CX outer H s E e' s'') s'
theorem XX{a:Scope}(h:a.names.lookup x=ac .cell):∃c,(cellsFrom n a.names []).lookup x=ac c:=by have q:=PySem.W.cellsFrom_some a.names n [] (.inl h);exact Option.isSome_iff_exists.mp q
theorem adG{CX:g7}{P:bv}{w:World}{K:af}{F:Str->Option ap}{base:Heap}{N ps:List Str}{g:Str}{scope:Scope}{f:am}{D:ap}{A:ce}{d:List Env}{s G:ar}{H:Hp}{E:XK}{us:List ap}{vs:List V}(S:aG N ps scope)(Q:A.handled=ae)(l:aav P w K F base A d s H)(hl:vs.length=ps.length)(r:ck vs us)(x:InCallC s s.heap.objs.size (bindL (envOfC g scope s.heap.objs.size f D).kindOf (ps.zip us) λ_=>ae) (cellsFrom (s.heap.objs.size+1) scope.names []) (bindC (envOfC g scope s.heap.objs.size f D).kindOf (ps.zip us) λ_=>ae) G) :Inv (m8 CX P w K F base N g scope f D A d s H E) [] (start N vs) H G:=by
 have O:ps.length<=N.length:=(by have:=c6 List.length S.pre;rw[bT] at this;lia);obtain⟨C,T,rfl,J⟩:=x.done;have m:∀b:am,b∉(m8 CX P w K F base N g scope f D A d s H E).ex:=λb z=>b3 (show b∈([]:List am) from z) (-_);refine⟨⟨l.mod,S.kind,22,az _,λy z c C j=>?_,λy hy=>?_,λy c _ h=>?_,λ_=>Q,Around.frames_deeper l.frames,.inr ⟨22⟩,λb z=>b3 z (m b),l.bs,l.jz,λb _ _=>m b,λb z=>b3 z (m b),l.Jz,l.su⟩,
  rfl,l.bare,Un.kept J,⟨_,x.toInCall.ns,λi y v C j R=>?_⟩,λy c h=>⟨_,x.cell y c h⟩,l.hok.fresh (az _),λy c h=>?_,λp t=>b3 (show p∈([]:List (am×Obj)) from t) (-_),l.hok.kept J,4⟩
 exact name_of_addr x.apart (vS C) (vS j);have hy:scope.names.lookup y=ac .cell∨scope.names.lookup y=ac .free:=hy;rcases hy with hy|hy;exact XX hy;exact b3 rfl (S.aly _ (vS hy));exact oX (x.above y c (vS h));·have B:i<vs.length:=(by unfold start at j;by_cases B:i<vs.length;exact B;·rw[bO (by simpa using B)] at j;rw[List.getElem?_replicate] at j;split at j <;> cases j);have L:vs[i]?=ac v:=(by unfold start at j;rw[bG (by simpa using B),ak] at j;cases e:vs[i]? with|none=>rw[e] at j;cases j|some a=>rw[e] at j;cases j;rfl);obtain⟨u,I,M⟩:=r.get L;have t:ps[i]?=ac y:=(by rw[<- S.pre,List.getElem?_take_of_lt ∅];exact C);have o:ps.Nodup:=(by rw[<- S.pre];exact S.nd.sublist (List.take_sublist _ _));exists u,M,4;rcases S.par y (aQ t) with k|k;exact .inl ⟨k,UI o t I k⟩;obtain⟨c,e⟩:=XX (n:=s.heap.objs.size+1) k;refine .inr ⟨.inl k,c,e,4⟩;have q:=x.cell y c e;rw[UJ o t I (by show scope.names.lookup y≠_;rw[k];decide)] at q;exact q
 exact l.hok.fresh (oX (x.above y c (vS h)));unfold start;show _=N.length;rw[av,ah,List.length_replicate];lia
theorem i3{CX:g7}{P:bv}{w:World}{K:af}{G:Str->Option ap}{base:Heap}{k:Nat}{f:am}{name c:Str}{g:Arguments}{h:List Stmt}{scope:Scope}{Z kV B pm d ct oc:ap}{an od:Option am}{R:Array (Option ap)}{N ps:List Str}{sp:Sp}(lk:K.lookup f=ac ⟨oc,od,.func (gm name c g h scope Z kV B pm an d ct),R⟩)(O:mL K d c=ag)(S:aG N ps scope)(C:∀vs H Q E,sp vs H Q E->vs.length=ps.length)(m:∀(A:ce)(a:List Env)(s:ar)(H:Hp)(vs:List V)(Q:VK)(E:XK),jF k (A.deeper (envOfC c scope s.heap.objs.size f d))->sp vs H Q E ->∃t,i9 (m8 CX P w K G base N c scope f d A a s H E) h t/\t {nx:=λ_ j=>Q .fW j,rt:=Q} (start N vs) H) :bu P w K G base CX (k+1) f (gm name c g h scope Z kV B pm an d ct) ps sp:=by
 exists C,λA a s H args us vs Q E T F hb r D=>?_;have hl:=C _ _ _ _ D;have X:K.In s.heap:=F.mod.f6.keeps λb o e=>(F.bs b o e).1;have M:s.heap.NoLimit:=F.mod.nolimit.keeps λb o e=>(F.bs b o e).1;have l:∀y∈ps.zip us,scope.names.lookup y.1=ac .local∨(scope.names.lookup y.1=ac .cell/\((cellsFrom (s.heap.objs.size+1) scope.names []).lookup y.1).isSome=ag):=λ⟨n,v⟩hy=>(by rcases S.par n (List.of_mem_zip hy).1 with q|q;exact .inl q;exact .inr ⟨q,PySem.W.cellsFrom_some _ _ _ (.inl q)⟩)
 refine codeAny_call_function T.depth (X _ _ lk) rfl S.co S.gen rfl (PySem.W.codeRec_of X O) (hb _ _ _ _ ?_);refine wpAny_newFunctionEnv_cells S.kind l λenv he Y x=>?_;subst he;exists M.keeps x.toInCall.keep,codeAny_func ?_;obtain⟨t,ht,hq⟩:=m A a s H vs Q E (T.deeper _) D;have I:Inv (m8 CX P w K G base N c scope f d A a s H E) [] (start N vs) H Y:=adG S T.hd F hl r x;refine wpAny_mono (ht [] Y (start N vs) H _ I hq) (λfl U p=>?_) λe U p=>p;have z:∀{i:St}{j:Hp}{v:V}{u:ap},Inv (m8 CX P w K G base N c scope f d A a s H E) [] i j U->RelV v u->Q v j->CE a P w H s Q u U:=
  λ{i j v u}J L q=>⟨v,j,J.os,J.bare,J.base,J.hok,L,q⟩
 cases fl with|ret u=>obtain⟨v,i,j,J,L,q⟩:=p;exact z J L q|next=>obtain⟨i,j,J,q⟩:=p;exact z (v:=V.fW) (u:=Value.none) J rfl q|brk=>obtain⟨_,_,_,q⟩:=p;exact eZ q|cont=>obtain⟨_,_,_,q⟩:=p;exact eZ q
section
variable{X:Cx}{x:Str}{p pos:Pos}{e:Expr}{es:List Expr}{t:TA}{id T:String}{r:List V->Hp->VK->Prop}
def hE(r:List V->Hp->VK->Prop)(t:TA):TE:=λσ H Q=>t σ H λvs H1=>r vs H1 Q
theorem XY(u:qQ X (.builtin id) r)(k:Gl X x)(y:X.mg x=ae)(v:bootBuiltins x=ac (.builtin id))(i:PA X (e::es) t)(o:x≠"__name__" := by decide)(c:(x==("__debug__" : Str))=al:=by decide) (m:bc (e::es) X.env=(al,eval e X.env)::bc es X.env:=by rfl) (b:(backTo pos (bc es X.env)).any (·.1)=al:=by rfl):PE X (.Call (.Name x p) (e::es) [] pos) (hE r t):=by intro a s d H Q I h;refine wpAny_Call_Name_kw (Qi I k y v ?_ o c);exact PyProof.Rows.callWith_builtin1 (g8 (i pos a s d H _ I h) λj l ⟨g,q,n,f,w⟩=>u a l d q g j Q n f w) m b
theorem eK(u:qQ X (.type T) r)(k:Gl X x)(y:X.mg x=ae)(v:bootBuiltins x=ac (.type T))(i:PA X (e::es) t)(o:x≠"__name__" := by decide)(c:(x==("__debug__" : Str))=al:=by decide) (m:bc (e::es) X.env=(al,eval e X.env)::bc es X.env:=by rfl) (b:(backTo pos (bc es X.env)).any (·.1)=al:=by rfl):PE X (.Call (.Name x p) (e::es) [] pos) (hE r t):=by intro a s d H Q I h;refine wpAny_Call_Name_kw (Qi I k y v ?_ o c);exact PyProof.Rows.callWith_type1 (g8 (i pos a s d H _ I h) λj l ⟨g,q,n,f,w⟩=>u a l d q g j Q n f w) m b
end
end L2
open L2.HO renaming lst -> cr, ins -> cw
open L2.V renaming int -> cf, ref -> ci, str -> cm, bl -> cn
namespace HT
open PySem PyProof.Rows
theorem XZ(A:ce)(s:ar)(a:Int)(t:Tok)(c:Int)(u:Tok):∃e,SeqAt.EqAt A s (.int a t) (.int c u) e/\(e=ag↔a=c) :=⟨(a==c),SeqAt.EqAt.int_int a t c u,-_⟩
def afk(A:ce)(s:ar)(a:Int)(t:Tok)(c:Int)(u:Tok)(prog:bv)(w:World)(E:ap->ar->Prop)(Q:ap->ar->Prop)(h:Q (.bool (decide (a<c))) s) :bt (model prog w) A (richCompare .Lt (.int a t) (.int c u)) Q E s :=(PyProof.Rows.lt_int h:bt (model prog w) A (bn .Lt (.int a t) (.int c u)) Q E s)
section
open PySem.SeqAt
open PySem.AutoSeq1 (wpAny_loadPart')
open PySem.MeetsSeq PySem.MeetsSeq2 PySem.MeetsSeq3
end
section
variable{prog:bv}{w:World}{A:ce}{E:ap->ar->Prop}{s:ar}
noncomputable def tH(n d:Nat):Option Int->Nat
 |none=>d
 |some v=>if v<0 then (v+(n:Int)).toNat else min v.toNat n
theorem abV(n d k:Nat):tH n d (ac (k:Int))=min k n:=by show (if (k:Int)<0 then ((k:Int)+(n:Int)).toNat else min (k:Int).toNat n)=min k n;rw[b5 ∅,g5]
theorem alz(n d:Nat)(b:d<=n)(o:Option Int):tH n d o<=n:=by cases o with|none=>exact b|some v=>show (if v<0 then (v+(n:Int)).toNat else min v.toNat n)<=n;by_cases a:v<0;rw[b4 a];lia;rw[b5 a];exact pF _ _
theorem Hc(v:Int)(n d:Nat):(if v<0 then max (v+(n:Int)) 0 else min v (n:Int))=((tH n d (ac v):Nat):Int):=by show (if v<0 then max (v+(n:Int)) 0 else min v (n:Int))=(((if v<0 then (v+(n:Int)).toNat else min v.toNat n):Nat):Int);by_cases a:v<0;simp only[b4 a];lia;simp only[b5 a];lia
theorem aaw(lo a:Option Int)(n:Nat):Builtin.Slice.sliceAdjust lo a 1 (n:Int)=(((tH n 0 lo:Nat):Int),((tH n n a:Nat):Int)):=by
 have b:¬((1:Int)<0):=∅;unfold Builtin.Slice.sliceAdjust;simp only[b,if_false];refine Prod.ext ?_ ?_;cases lo with|none=>rfl|some v=>exact Hc v n 0
 cases a with|none=>rfl|some v=>exact Hc v n n
theorem aax(i j:Nat):Builtin.Slice.slicePlaces (i:Int) (j:Int) 1=j-i:=by unfold Builtin.Slice.slicePlaces;have a:(1:Int) > 0:=∅;simp only[a,if_true,Int.ediv_one];split <;> lia
theorem Qp{Q:Option Int->ar->Prop}(p:IsPart v o)(h:Q o s):bt (model prog w) A (Builtin.Slice.slicePartIndex v) Q E s:=by cases p with|none=>exact slicePart_none h|int i t=>exact slicePart_int h
theorem Mm{f:am}{d e:ap}{lo a:Option Int}{n:Nat}{Q:Int×Int×Nat->ar->Prop}(i:s.heap.IsSliceOf f d e .none)(pl:IsPart d lo)(g:IsPart e a)(h:Q (((tH n 0 lo:Nat):Int),1,tH n n a-tH n 0 lo) s):bt (model prog w) A (Builtin.Slice.sliceApplied (.ref f) (pure (n:Int))) Q E s:=by obtain⟨os,b,j,c⟩:=id i;unfold Builtin.Slice.sliceApplied Builtin.Slice.sliceFields;refine aw (aw (wpAny_field b c (x:=d) rfl (aw (wpAny_field b c (x:=e) rfl (aw (wpAny_field b c (x:=.none) rfl (ax ?_)))))));refine aw (slicePart_none ?_);show bt _ _ (if ((1:Int)==0)=ag then _ else _) _ _ s;rw[b5 (!_)];refine aw (Qp pl (aw (Qp g (aw (ax ?_)))));show bt _ _ (match Builtin.Slice.sliceAdjust lo a 1 (n:Int) with|(lo,a)=>pure (lo,(1:Int),Builtin.Slice.slicePlaces lo a 1)) _ _ s;rw[aaw lo a n];show bt _ _ (pure (((tH n 0 lo:Nat):Int),(1:Int),Builtin.Slice.slicePlaces ((tH n 0 lo:Nat):Int) ((tH n n a:Nat):Int) 1)) _ _ s;rw[aax];exact ax h
theorem afl(xs:Array ap)(i k:Nat):((ay k).filterMap λ(m:Nat)=>xs[((i:Int)+(m:Int)*1).toNat]?).toArray=((xs.toList.drop i).take k).toArray:=by have e:(λ(m:Nat)=>xs[((i:Int)+(m:Int)*1).toNat]?)=λm=>xs[i+m]?:=(by funext m;have:((i:Int)+(m:Int)*1).toNat=i+m:=∅;rw[this]);rw[e];have:=pick_run xs i k;rw[List.filterMap_map] at this;have a:((λx=>xs[x]?)∘λx=>i+x)=λm=>xs[i+m]?:=rfl;rw[a] at this;rw[this]
theorem KR{t g:am}{items:Array ap}{l k:ap}{lo a:Option Int}{Q:ap->ar->Prop}(c:IsTup s.heap t items)(j:s.heap.IsSliceOf g l k .none)(pl:IsPart l lo)(n:IsPart k a)(p:¬(tH items.size 0 lo=0/\tH items.size items.size a=items.size))(h:Q (.ref s.heap.objs.size) {s with heap:=s.heap.push {cls:=.type "tuple",data:=.seq ((items.toList.drop (tH items.size 0 lo)).take (tH items.size items.size a-tH items.size 0 lo)).toArray}})(o:items.size<=a9):bt (model prog w) A (getItem (.ref t) (.ref g)) Q E s:=by
 have b:sizeOk (.seq ((items.toList.drop (tH items.size 0 lo)).take (tH items.size items.size a-tH items.size 0 lo)).toArray):=(by show ((items.toList.drop (tH items.size 0 lo)).take (tH items.size items.size a-tH items.size 0 lo)).toArray.size<=a9;rw[bw,bT,lD,dQ];lia);have u:tH items.size items.size a<=items.size:=alz _ _ (az _) a;obtain⟨os,f,i,r⟩:=id j;have e:s.TypeIs (.ref g) "slice" := ⟨os,f,i⟩;unfold getItem;(try with_reducible refine wpAny_holding ?_);(first|refine aw (ax ?_)|skip);refine aw (wpAny_sequenceKey c.typeIs (!_) ?_);refine aw (wpAny_callSpecial?_slot (name:=a8 "__getitem__") c.typeIs Ar (wpAny_call_entry Ar c.typeIs entry_tuple_getitem ?_ (args_tuple_getitem _ _)));show bt _ _ (Builtin.Tuple.tupleItemsOf (.ref t) >>= _) _ _ s;refine aw (tupleItemsOf_ c ?_);refine aw (wpAny_typeOf e ?_);rw[b4 (!_)];refine aw (Mm j pl n ?_);have d:¬((((tH items.size 0 lo:Nat):Int)==0&&(1:Int)==1&&(tH items.size items.size a-tH items.size 0 lo)==items.size)=ag):=(by intro q;rw[eS,eS] at q;have v:((tH items.size 0 lo:Nat):Int)=0:=eq_of_beq q.1.1;have x:tH items.size items.size a-tH items.size 0 lo=items.size:=eq_of_beq q.2;exact p ⟨66⟩);show bt _ _ (if (((tH items.size 0 lo:Nat):Int)==0&&(1:Int)==1&&(tH items.size items.size a-tH items.size 0 lo)==items.size)=ag then _ else _) _ _ s;rw[b5 d,afl]
 first
  |exact aw (m:=Builtin.Tuple.tupleExact _) (wpAny_newObj_type (ax ⟨1,ax h⟩) b)
  |exact aw (m:=Builtin.Tuple.tupleExact _) (wpAny_newObj_type (aw (ax (ax ⟨1,ax h⟩))) b)
  |exact aw (aw (m:=Builtin.Tuple.tupleExact _) (wpAny_newObj_type (ax (ax ⟨1,ax h⟩)) b))
  |exact aw (aw (m:=Builtin.Tuple.tupleExact _) (wpAny_newObj_type (ax ⟨1,ax h⟩) b))
end
end HT
namespace L2
open PySem PySem.Spec PyProof.Rows
abbrev TO:=St->Hp->(Option Int->Hp->Prop)->Prop
def PO(X:Cx)(e:Option Expr)(t:TO):Prop:=
 ∀(pins:List (am×Obj))(s:ar)(σ:St)(H:Hp)(Q:Option Int->Hp->Prop),Inv X pins σ H s->t σ H Q ->
  bt (model X.prog X.w) X.A (evalPart e X.env) (λu s'=>∃o H',Inv X pins σ H' s'/\IsPart u o/\Q o H') X.xe s
def aik:TO:=λ_ H Q=>Q ae H
inductive sv(Q:Option Int->Hp->Prop)(x:V)(H1:Hp):Prop
 |mk(i:Int)(a:x=.int i)(b:Q (ac i) H1):sv Q x H1
def T2(t:TE):TO:=λσ H Q=>t σ H (sv Q)
theorem intsAre_of:∀{us:List ap},ck (ns.map cf) us->IntsAre us ns:=by induction ns with|nil=>intro us r;rw[List.map_nil] at r;cases r;exact .nil|cons n ns c=>(intro us r;rw[bL] at r;cases r with|cons b a=>obtain⟨t,e⟩:=b;subst e;exact .cons n t (c a))
section
variable{X:Cx}{e:Expr}{te:TE}{lo hi:Option Expr}{tl th:TO}{pos p2:Pos}
theorem kX:PO X ae aik:=by intro a s b H Q I h;rw[evalPart_none];exact ax ⟨ae,H,I,.none,h⟩
theorem jQ(h:PE X e te):PO X (ac e) (T2 te):=by intro a s c H Q I g;rw[evalPart_some];refine g8 (h a s c H _ I g) λu k ⟨x,f,d,b,j⟩=>?_;obtain⟨i,rfl,q⟩:=j;obtain⟨t,rfl⟩:=b;exists ac i,f,d,.int i t,q
def o0(X:Cx)(r:V->Option Int->Option Int->Hp->VK->Prop):Prop:=
 ∀(pins:List (am×Obj))(s:ar)(σ:St)(H:Hp)(x:V)(v vl vu:ap)(lo hi:Option Int)(sl:am)(Q:VK),Inv X pins σ H s->RelV x v->s.heap.IsSliceOf sl vl vu .none->IsPart vl lo->IsPart vu hi->r x lo hi H Q ->
  ∃T id,typeLookup (.type T) "__getitem__" = pure (ac (.builtin id))/\s.TypeIs v T/\bt (model X.prog X.w) X.A (getItem v (.ref sl)) (EP X pins σ Q) X.xe s
def KF(r:V->Option Int->Option Int->Hp->VK->Prop)(te:TE)(tl th:TO):TE:=λσ H Q=>te σ H λx H1=>tl σ H1 λl H2=>th σ H2 λu H3=>r x l u H3 Q
theorem iY(J:o0 X r)(y:PE X e te)(hl:PO X lo tl)(p:PO X hi th):PE X (.Subscript e (.Slice lo hi ae p2) pos) (KF r te tl th):=by intro a s d H Q I h;refine Subscript_ (g8 (y a s d H _ I h) λv o ⟨x,G,z,m,L⟩=>?_);refine wpAny_Slice (g8 (hl a o d G _ z L) λg F ⟨l,B,E,k,M⟩=>g8 (p a F d B _ E M) λf c ⟨u,i,t,j,K⟩=>?_);rw[evalPart_none];refine ax ?_;have N:Inv X a d i {c with heap:=c.heap.push {cls:=.type "slice",data:=.fields #[g,f,.none]}}:=t.kept (t':=c.toks) λb ob q=>a5 _ q;obtain⟨T,id,C,D,n⟩:=J a {c with heap:=c.heap.push {cls:=.type "slice",data:=.fields #[g,f,.none]}} d i x v g f l u c.heap.objs.size Q N m (Heap.IsSliceOf.new ..) k j K;show bt (model X.prog X.w) X.A (subscriptTail e (.Slice lo hi ae p2) v (.ref c.heap.objs.size)) (EP X a d Q) X.xe {c with heap:=c.heap.push {cls:=.type "slice",data:=.fields #[g,f,.none]}};exact tail_any (ops:=[.ref c.heap.objs.size,v]) D C n (by with_unfolding_all rfl)
noncomputable def Aw(xs:List V)(lo hi:Option Int):List V:=(xs.drop (HT.tH (cx xs) 0 lo)).take (HT.tH (cx xs) (cx xs) hi-HT.tH (cx xs) 0 lo)
theorem NY(xs:List V)(lo hi:Option Int):(Aw xs lo hi).length<=xs.length:=by unfold Aw;rw[bT,lD];lia
def OK(K:af):V->Option Int->Option Int->Hp->VK->Prop:=λx lo hi H Q=>∃a xs,x=.ref a/\dY K H a xs /\
 ¬(HT.tH (cx xs) 0 lo=0/\HT.tH (cx xs) (cx xs) hi=xs.length)/\∀p,H p=ae->Q (.ref p) (upd H p (.tup (Aw xs lo hi)))
theorem m1:o0 X (OK X.K):=by intro i s t H x v w u lo hi y Q I n m k j h;obtain⟨a,d,rfl,l,p,q⟩:=h;cases n;obtain⟨e,r,f,g⟩:=I.tuple l;have c:e.toArray.size=d.length:=(by rw[bw];exact r.length.symm);exists "tuple",_,Ar.lookup,f.typeIs,4;refine HT.KR f m k j (by rw[c];exact p) ?_ (by rw[c];exact g);rw[c];exists .ref s.heap.objs.size,_,I.laid (t':=s.toks) (o:=.tup (Aw d lo hi)) (λb ob q=>a5 _ q) (az _) ?_,2,q _ (I.hok.fresh (az _));exists aE (NY d lo hi) g,_,(r.drop (HT.tH d.length 0 lo)).take (HT.tH d.length d.length hi-HT.tH d.length 0 lo),IsTup.new _ _
end
noncomputable def rT(n:Nat)(i:Int):Option Nat:=if 0<=i then (if i<n then ac i.toNat else ae) else if -(n:Int)<=i then ac (i+n).toNat else ae
def KN{α:Type}(xs:List α)(i:Int):Option α:=(rT (cx xs) i).bind λj=>xs[j]?
theorem V6(h:rT n i=ac j):seqIndex? i n=ac j/\j<n/\-(n:Int)<=i/\i<n:=by unfold rT at h;by_cases b:0<=i;rw[b4 b] at h;by_cases a:i<n;rw[b4 a] at h;have e:i.toNat=j:=aT h;exists by rw[seqIndex_of b a,e],66,a;rw[b5 a] at h;cases h;rw[b5 b] at h;by_cases a:-(n:Int)<=i;rw[b4 a] at h;have e:(i+n).toNat=j:=aT h;exists by rw[seqIndex_neg ∅ a,e],6,a,6;rw[b5 a] at h;cases h
theorem V7{a:Type}{xs:List a}{i:Int}{v:a}(h:KN xs i=ac v):∃j,seqIndex? i xs.length=ac j/\xs[j]?=ac v/\j<xs.length/\-(xs.length:Int)<=i/\i<xs.length:=by unfold KN at h;cases e:rT (cx xs) i with|none=>rw[e] at h;cases h|some j=>rw[e] at h;obtain⟨d,f,b,c⟩:=V6 e;exists j,d,h,f,b,c
theorem dF{a:Type}{xs:List a}{j:Nat}{v:a}(h:xs[j]?=ac v):KN xs (j:Int)=ac v:=by have b:j<xs.length:=(ai.mp h).1;have e:rT (cx xs) (j:Int)=ac j:=(by unfold rT;rw[b4 ∅,b4 ∅];simp);unfold KN;rw[e];exact h
def KS(b:Expr):Prop:=∀o i,subscripted b al o i=operate [o,i] (getItem o i)
def g0(X:Cx)(r:R2):Prop:=
 ∀(value slice:Expr)(pins:List (am×Obj))(s:ar)(σ:St)(H:Hp)(x y:V)(v u:ap)(Q:VK),Inv X pins σ H s->RelV x v->RelV y u->r x y H Q ->
  subscripted slice al v u=operate [v,u] (getItem v u)->bt (model X.prog X.w) X.A (subscriptTail value slice v u) (EP X pins σ Q) X.xe s
def fw(X:Cx)(id:String)(r:V->List V->Hp->VK->Prop):Prop:=
 ∀(pins:List (am×Obj))(s:ar)(σ:St)(H:Hp)(x:V)(xs:List V)(v:ap)(us:List ap)(Q:VK),Inv X pins σ H s->RelV x v->ck xs us->r x xs H Q ->
  bt (model X.prog X.w) X.A (call (.builtin id) (v::us)) (EP X pins σ Q) X.xe s
section
variable{X:Cx}{a b:Expr}{ta tb:TE}{pos:Pos}
theorem UK(l:g0 X r)(d:PE X a ta)(g:PE X b tb)(e:KS b):PE X (.Subscript a b pos) (eT r ta tb):=by intro c s f H Q I h;exact Subscript_ (lv d g I h λv u k x y i j m n q=>l a b c k f i x y v u Q j m n q (e _ _))
inductive gt(K:af)(x y:V)(H:Hp)(Q:VK):Prop
 |mk(p:am)(xs:List V)(i:Int)(v:V)(h1:x=.ref p)(h2:y=.int i)(h3:bH K H p xs)(h4:KN xs i=ac v)(h5:Q v H):gt K x y H Q
inductive ge(K:af)(x y:V)(H:Hp)(Q:VK):Prop
 |mk(p:am)(xs:List V)(i:Int)(v:V)(h1:x=.ref p)(h2:y=.int i)(h3:dY K H p xs)(h4:KN xs i=ac v)(h5:Q v H):ge K x y H Q
def Oy:R2:=λx y H Q=>∃z i c,x=.str z/\y=.int i/\z.length<=a9/\KN z.cps.toList i=ac c/\Q (.str ⟨#[c]⟩) H
theorem Hb:g0 X (gt X.K):=by intro f l a s o H x y v u Q I F G h n;obtain⟨p,N,i,z,rfl,rfl,hq,D,q⟩:=h;cases F;obtain⟨t,rfl⟩:=G;obtain⟨g,r,d,P⟩:=I.list hq;obtain⟨j,c,B,M,J,E⟩:=V7 D;obtain⟨w,A,k⟩:=r.get B;have L:=r.length;have O:=JC;have b:EP X a o Q w s:=⟨z,H,I,k,q⟩;by_cases m:0<=i;have e:i.toNat=j:=(by rw[seqIndex_of m E] at c;exact aT c);exact item_listR d.isList m ∅ (by rw[e];simpa using A) b n;·have e:(i+(g.toArray.size:Int)).toNat=j:=(by rw[seqIndex_neg ∅ J] at c;rw[bw,<- L];exact aT c);exact subscriptTail_builtinR (x:=w) d.isList.typeIs slot_list_getitem.lookup (wpAny_getItem_list_neg (Q:=λr C=>r=w/\EP X a o Q r C) d.isList ∅ (by rw[bw] <;> lia) ∅ (by rw[e];simpa using A) ⟨2,b⟩) n
theorem xk:g0 X (ge X.K):=by
 intro b e a s g H x y v u Q I A B h k;obtain⟨p,G,i,z,rfl,rfl,hq,n,q⟩:=h;cases A;obtain⟨t,rfl⟩:=B;obtain⟨C,r,f,N⟩:=I.tuple hq;obtain⟨j,o,l,F,M,L⟩:=V7 n;obtain⟨w,D,c⟩:=r.get l;have E:=r.length;have J:=JC;have d:EP X a g Q w s:=⟨z,H,I,c,q⟩;exact subscriptTail_builtinR (x:=w) f.typeIs slot_tuple_getitem.lookup
  (getItem_tuple (j:=j) (Q:=λr m=>r=w/\EP X a g Q r m) f ∅ ∅ (by rw[bw,<- E];exact o) (by simpa using D) ⟨2,d⟩) k
theorem xi:g0 X Oy:=by
 intro a b e s A H x y v u Q I o p h g;obtain⟨z,i,c,rfl,rfl,E,l,q⟩:=h;obtain⟨t,rfl⟩:=o;obtain⟨D,rfl⟩:=p;obtain⟨j,d,k,B,r,n⟩:=V7 l;have w:z.cps.toList.length=z.length:=(by simp[Str.length]);rw[w] at d r n;have C:=JC;exact tail_any (typeIs_str s z t) slot_str_getitem.lookup (getItem_str (c:=c) (by
  have m:decide (i < -(2^63:Int))=al:=c5 ∅;have f:decide (i≥2^63)=al:=c5 ∅;rw[m,f,Bool.or_false]) (by rw[d];simpa using k) ⟨.str ⟨#[c]⟩,H,I.tok _,⟨1⟩,q⟩) g
theorem aaz(a:List ap)(n j:Nat)(u:ap):Obj.mapSeq (·.setIfInBounds j u) {cls:=.type "list",data:=.seq a.toArray n}={cls:=.type "list",data:=.seq (a.set j u).toArray n}:=by simp[Obj.mapSeq]
theorem Inv.lst{b:List (am×Obj)}{c:St}{H:Hp}{s:ar}{p:am}{xs:List V}(I:Inv X b c H s)(h:H p=ac (.lst xs)) :∃(a:List ap)(n:Nat),ck xs a/\s.heap.get? p=ac {cls:=.type "list",data:=.seq a.toArray n}/\xs.length<=a9:=by obtain⟨z,a,n,r,e⟩:=I.hok p _ h;exists a,n,r,e,z
theorem Inv.alB{a:List (am×Obj)}{g:St}{H:Hp}{s:ar}{p:am}{xs ys:List V}{c its':List ap}{n d:Nat}{f:Obj->Obj}(I:Inv X a g H s)(h:H p=ac (.lst xs)) (j:s.heap.get? p=ac {cls:=.type "list",data:=.seq c.toArray n}) (i:f {cls:=.type "list",data:=.seq c.toArray n}={cls:=.type "list",data:=.seq its'.toArray d}) (r:ck ys its') (l:ys.length<=a9) (t:Nat) :Inv X a g (upd H p (.lst ys)) {s with heap:=s.heap.update p f,toks:=t}:=by have e:(s.heap.update p f).get? p=ac {cls:=.type "list",data:=.seq its'.toArray d}:=(by rw[Heap.get?_update_self f j (by rw[i] <;> rfl),i]);refine I.write (x:=p) (e:=p) (by rw[h];trivial) (.inl rfl) (λb u k q=>(bo _ _ (bS k)).trans q) ⟨_,e⟩ ?_;exists l,its',d,r,e
def TK:V->V->V->Hp->(Hp->Prop)->Prop:=λo i v H Q=>∃p xs k j,o=.ref p/\i=.int k/\H p=ac (.lst xs)/\rT (cx xs) k=ac j/\Q (upd H p (.lst (xs.set j v)))
theorem dC:rh X TK:=by
 intro b s z H o i v F J u Q I E C y h;obtain⟨p,A,k,j,rfl,rfl,x,B,q⟩:=h;cases E;obtain⟨t,rfl⟩:=C;obtain⟨a,n,r,d,D⟩:=I.lst x;obtain⟨c,G,l,w⟩:=V6 B;have f:=r.length;have K:=JC;have m:Inv X b z (upd H p (.lst (A.set j v))) {s with heap:=s.heap.update p (Obj.mapSeq (·.setIfInBounds j u))}:=
  I.alB x d (aaz a n j u) (r.set y j) (by rw[bC];exact D) s.toks
 by_cases g:0<=k;have e:k.toNat=j:=(by rw[seqIndex_of g w] at c;exact aT c);exact PySem.W.ki_setAt d g ∅ (by rw[bw,<- f];exact w) (by rw[e];exists _,m,q);have e:(k+(a.toArray.size:Int)).toNat=j:=(by rw[seqIndex_neg ∅ l] at c;rw[bw,<- f];exact aT c);exact PySem.W.ki_setBack d ∅ (by rw[bw,<- f];exact l) ∅ (by rw[e];exists _,m,q)
theorem V8(lo a:Option Int)(n:Nat):(sliceBounds lo a ae n).1=((HT.tH n 0 lo:Nat):Int)/\(sliceBounds lo a ae n).2.1=((HT.tH n n a:Nat):Int)/\(sliceBounds lo a ae n).2.2=1:=by
 exists 442;·cases lo with|none=>simp[sliceBounds,HT.tH]|some i=>simp only[sliceBounds,HT.tH,Option.getD_none,show (1:Int) > 0 by decide,if_true];by_cases h:i<0;(·simp only[h,if_true] <;> lia);·simp only[h,if_false] <;> lia
 ·cases a with|none=>simp[sliceBounds,HT.tH]|some i=>simp only[sliceBounds,HT.tH,Option.getD_none,show (1:Int) > 0 by decide,if_true];by_cases h:i<0;(·simp only[h,if_true] <;> lia);·simp only[h,if_false] <;> lia
theorem S9(a:List ap)(lo b:Option Int):slicePick a.toArray lo b ae=((a.drop (HT.tH a.length 0 lo)).take (HT.tH a.length a.length b-HT.tH a.length 0 lo)).toArray:=by obtain⟨d,e,c⟩:=V8 lo b a.toArray.size;unfold slicePick;rw[d,e,c];simp only[sliceRange_one,pick_run,bw] <;> rfl
def Os(K:af):V->Option Int->Option Int->Hp->VK->Prop:=λx lo hi H Q=>∃a xs,x=.ref a/\bH K H a xs/\∀p,H p=ae->Q (.ref p) (upd H p (.lst (Aw xs lo hi)))
theorem ow:o0 X (Os X.K):=by intro g s t H x v w u lo e y Q I m l j i h;obtain⟨a,c,rfl,k,q⟩:=h;cases m;obtain⟨n,r,f,p⟩:=I.list k;have d:=r.length;exists "list",_,slot_list_getitem.lookup,f.isList.typeIs,4;refine wpAny_getItem_list_slice f.isList l j i .none (-_) ?_ (by rw[bw] <;> lia);rw[S9,<- d];exists .ref s.heap.objs.size,_,I.laid (t':=s.toks) (o:=.lst (Aw c lo e)) (λb ob q=>a5 _ q) (az _) ?_,2,q _ (I.hok.fresh (az _));exists aE (NY c lo e) p,_,(0),(r.drop (HT.tH c.length 0 lo)).take (HT.tH c.length c.length e-HT.tH c.length 0 lo),a6 _ rfl
noncomputable def Fc:V->Bool
 |.fW=>ag
 |.bl _=>ag
 |.int _=>ag
 |.str _=>ag
 |_=>al
noncomputable def gf:V->V->Bool
 |.fW,.fW=>ag
 |.bl a,.bl b=>a==b
 |.bl a,.int b=>(if a then 1 else 0)==b
 |.int a,.bl b=>a==(if b then 1 else 0)
 |.int a,.int b=>a==b
 |.str a,.str b=>a==b
 |_,_=>al
theorem alC(f:RelV y u)(c:RelV x v)(g:Fc y=ag)(e:Fc x=ag):SeqAt.EqAt A s u v (gf y x):=by cases y with|fW=>(cases f;cases x with|fW=>cases c;exact SeqAt.EqAt.same _|bl b=>cases c;exact SeqAt.EqAt.none_bool b|int b=>obtain⟨t,rfl⟩:=c;exact SeqAt.EqAt.none_int b t|str b=>obtain⟨t,rfl⟩:=c;exact SeqAt.EqAt.none_str b t|_=>exact b3 (show al=ag from e) aN)|bl a=>(cases f;cases x with|fW=>cases c;exact SeqAt.EqAt.bool_none a|bl b=>cases c;exact SeqAt.EqAt.bool_bool a b|int b=>obtain⟨t,rfl⟩:=c;exact SeqAt.EqAt.bool_int a b t|str b=>obtain⟨t,rfl⟩:=c;exact SeqAt.EqAt.bool_str a b t|_=>exact b3 (show al=ag from e) aN)|int a=>(obtain⟨d,rfl⟩:=f;cases x with|fW=>cases c;exact SeqAt.EqAt.int_none a d|bl b=>cases c;exact SeqAt.EqAt.int_bool a d b|int b=>obtain⟨t,rfl⟩:=c;exact SeqAt.EqAt.int_int a d b t|str b=>obtain⟨t,rfl⟩:=c;exact SeqAt.EqAt.int_str a d b t|_=>exact b3 (show al=ag from e) aN)|str a=>(obtain⟨d,rfl⟩:=f;cases x with|fW=>cases c;exact SeqAt.EqAt.str_none a d|bl b=>cases c;exact SeqAt.EqAt.str_bool a d b|int b=>obtain⟨t,rfl⟩:=c;exact SeqAt.EqAt.str_int a d b t|str b=>obtain⟨t,rfl⟩:=c;exact SeqAt.EqAt.str_str a d b t|_=>exact b3 (show al=ag from e) aN)|_=>exact b3 (show al=ag from g) aN
noncomputable def eL(x:V)(u:ap):Bool:=match u with
 |.none=>gf .fW x
 |.bool b=>gf (.bl b) x
 |.int i _=>gf (.int i) x
 |.str z _=>gf (.str z) x
 |_=>al
theorem xf(r:RelV y u)(f:Fc y=ag):eL x u=gf y x:=by cases y with|fW=>cases r;rfl|bl b=>cases r;rfl|int i=>obtain⟨t,rfl⟩:=r;rfl|str z=>obtain⟨t,rfl⟩:=r;rfl|_=>exact b3 (show al=ag from f) aN
theorem KU{x:V}:∀{xs:List V}{us:List ap},ck xs us->xs.all Fc=ag->us.any (eL x)=xs.any λy=>gf y x
 |_,_,.nil,_=>rfl
 |y::xs,u::us,.cons r t,f=>by
  rw[List.all_cons,eS] at f;rw[List.any_cons,List.any_cons,xf r f.1,KU t f.2]
theorem Fd{A:ce}{s:ar}{x:V}{v:ap}(b:RelV x v)(a:Fc x=ag):∀{xs:List V}{us:List ap},ck xs us->xs.all Fc=ag->∀u∈us,SeqAt.EqAt A s u v (eL x u)
 |_,_,.nil,_=>λu hu=>by cases hu
 |y::xs,u::us,.cons r t,f=>λc hu=>by
  rw[List.all_cons,eS] at f;rcases aM.mp hu with rfl|hu
  ·rw[xf r f.1];exact alC r b f.1 a
  ·exact Fd b a t f.2 c hu
def XI(x:V)(xs:List V):Bool:=xs.any λy=>gf y x
inductive ii(K:af)(neg:Bool)(x y:V)(H:Hp)(Q:VK):Prop
 |mk(p:am)(xs:List V)(h1:y=.ref p)(h2:bH K H p xs∨dY K H p xs)(h3:Fc x=ag)(h4:xs.all Fc=ag)(h5:Q (.bl (if neg then !XI x xs else XI x xs)) H):ii K neg x y H Q
theorem Ci:E3 X (bn .In) (ii X.K al):=by intro g s k H x y v u Q I f i h;obtain⟨p,l,rfl,hq,e,b,q⟩:=h;cases i;rcases hq with hq|hq;obtain⟨a,r,c,j⟩:=I.list hq;refine SeqAt.in_listAt (eL x) c.isList (λw d=>Fd f e r b w (by simpa using d)) ⟨.bl _,H,I,24⟩;rw[show a.toArray.any (eL x)=a.any (eL x) by simp,KU r b];exact q;obtain⟨a,r,c,j⟩:=I.tuple hq;refine SeqAt.in_tupleAt (eL x) c (λw d=>Fd f e r b w (by simpa using d)) ⟨.bl _,H,I,24⟩;rw[show a.toArray.any (eL x)=a.any (eL x) by simp,KU r b];exact q
theorem xA:E3 X (bn .NotIn) (ii X.K ag):=by intro g s k H x y v u Q I f i h;obtain⟨p,l,rfl,hq,e,b,q⟩:=h;cases i;rcases hq with hq|hq;obtain⟨a,r,c,j⟩:=I.list hq;refine SeqAt.notIn_listAt (eL x) c.isList (λw d=>Fd f e r b w (by simpa using d)) ⟨.bl _,H,I,24⟩;rw[show a.toArray.any (eL x)=a.any (eL x) by simp,KU r b];exact q;obtain⟨a,r,c,j⟩:=I.tuple hq;refine SeqAt.notIn_tupleAt (eL x) c (λw d=>Fd f e r b w (by simpa using d)) ⟨.bl _,H,I,24⟩;rw[show a.toArray.any (eL x)=a.any (eL x) by simp,KU r b];exact q
theorem V9:qQ X (.builtin "len") (λxs H Q=>∃p ys,xs=[.ref p]/\(bH X.K H p ys∨dY X.K H p ys)/\Q (.int (cx ys)) H):=by
 intro e s j H xs i Q I r h;obtain⟨p,ys,rfl,hq,q⟩:=h;obtain⟨u,rfl,f⟩:=vals1 r;cases f;have k:=JC;rcases hq with hq|hq;·obtain⟨c,d,b,g⟩:=I.list hq;have a:=d.length;exact Calls.call_len_list b.isList (by simp only[bw] <;> lia) ⟨.int (cx ys),H,I.tok _,⟨s.toks+1,by rw[bw,a]⟩,q⟩
 ·obtain⟨c,d,b,g⟩:=I.tuple hq;have a:=d.length;exact len_tuple b (by simp only[bw] <;> lia) ⟨.int (cx ys),H,I.tok _,⟨s.toks+1,by rw[bw,a]⟩,q⟩
theorem KW:qQ X (.builtin "len") (λxs H Q=>∃z,xs=[.str z]/\z.length<=a9/\Q (.int z.length) H):=by intro a s b H xs c Q I r h;obtain⟨z,rfl,d,q⟩:=h;obtain⟨u,rfl,t,rfl⟩:=vals1 r;have e:=JC;exact len_str ∅ ⟨.int z.length,H,I.tok _,⟨1⟩,q⟩
theorem kY:qQ X (.type "list") (λxs H Q=>∃p ys,xs=[.ref p]/\(bH X.K H p ys∨dY X.K H p ys)/\∀l,H l=ae->Q (.ref l) (upd H l (.lst ys))):=by
 intro m s A H xs C Q I r h;obtain⟨p,ys,rfl,hq,q⟩:=h;obtain⟨u,rfl,B⟩:=vals1 r;cases B;have i:∀(a:List ap),ck ys a->ys.length<=a9->∀(c:Heap)(d:Nat),(∀b z,s.heap.get? b=ac z->c.get? b=ac z) ->
  c.get? s.heap.objs.size=ac {cls:=.type "list",dict:=ae,data:=.seq a.toArray d,slots:=#[]}->EP X m A Q (.ref s.heap.objs.size) {s with heap:=c}:=λa f k c d j e=>
  ⟨.ref s.heap.objs.size,_,I.laid (t':=s.toks) j (az _) (show jk X.prog X.w _ c _ (.lst ys) from ⟨k,a,d,f,e⟩),2,q _ (I.hok.fresh (az _))⟩
 rcases hq with hq|hq;·obtain⟨a,f,t,k⟩:=I.list hq;have g:=f.length;obtain⟨o,v,y,n,x⟩:=t.isList;exact call_list_seq p (.inl rfl) v y x (λc d j e=>i a f k c d j e) (by simp only[bw] <;> lia)
 ·obtain⟨a,f,t,k⟩:=I.tuple hq;have g:=f.length;obtain⟨o,v,y,n,x⟩:=t;exact call_list_seq p (.inr rfl) v y x (λc d j e=>i a f k c d j e) (by simp only[bw] <;> lia)
theorem uN:qQ X (.type "tuple") (λxs H Q=>∃p ys,xs=[.ref p]/\((bH X.K H p ys/\∀l,H l=ae->Q (.ref l) (upd H l (.tup ys)))∨(dY X.K H p ys/\Q (.ref p) H))):=by
 intro a s i H xs x Q I r h;obtain⟨p,ys,rfl,h⟩:=h;obtain⟨u,rfl,t⟩:=vals1 r;cases t;rcases h with ⟨hq,q⟩|⟨hq,q⟩
 ·obtain⟨c,g,f,m⟩:=I.list hq;have k:=g.length;refine call_tuple_list f.isList (λd v=>?_) (by simp only[bw] <;> lia);have j:Inv X a i H {s with heap:=d}:=I.kept (t':=s.toks) v;have n:Inv X a i (upd H d.objs.size (.tup ys)) {s with heap:=d.push {cls:=.type "tuple",data:=.seq c.toArray}}:=
   j.laid (t':=s.toks) (λb o e=>a5 _ e) (az _) (show jk X.prog X.w _ _ _ (.tup ys) from ⟨m,c,g,IsTup.new _ _⟩)
  exists .ref d.objs.size,_,n,2,q _ (j.hok.fresh (az _))
 obtain⟨c,g,f,m⟩:=I.tuple hq;exact call_tuple_same f ⟨.ref p,H,I,2,q⟩
def pc(K:af)(T:String)(x:V)(H:Hp):Prop:=match x with
 |.str _=>T = "str"
 |.int _=>T = "int"
 |.ref p=>(T = "list" /\ ∃xs,bH K H p xs)∨(T = "tuple" /\ ∃o,K.lookup p=ac o/\o.cls=.type "tuple" /\ o.dict=ae) ∨
  (T = "dict" /\ ((∃kvs,H p=ac (.dK kvs))∨∃kvs,H p=ac (.dT kvs)))∨(T = "set" /\ ∃S n,H p=ac (.set S n))
 |_=>False
theorem alD{f:List (am×Obj)}{m:St}{H:Hp}{s:ar}{T:String}{x:V}{v:ap}(I:Inv X f m H s)(r:RelV x v)(g:pc X.K T x H) :s.TypeIs v T/\∀a,v=.ref a->∃ob,s.heap.get? a=ac ob/\ob.dict=ae:=by cases x with|str z=>obtain⟨t,rfl⟩:=r;cases (show T = "str" from g);exact⟨typeIs_str s z t,λ_ e=>nomatch e⟩|int i=>obtain⟨t,rfl⟩:=r;cases (show T = "int" from g);exact⟨typeIs_int s i t,λ_ e=>nomatch e⟩|ref p=>(cases r;rcases g with ⟨rfl,w,hq⟩|⟨rfl,o,b,q,k⟩|⟨rfl,b⟩|⟨rfl,S,n,b⟩;obtain⟨u,_,l,_⟩:=I.list hq;exists l.isList.typeIs,λa e=>?_;cases e;obtain⟨o,n,e,c,k,_⟩:=l;exists o,e,k;exists ⟨o,I.IA p o b,q⟩,λa e=>?_;cases e;exists o,I.IA _ o b,k;have z:∃o,s.heap.get? p=ac o/\o.ExactDict:=(by rcases b with ⟨h,b⟩|⟨h,b⟩;obtain⟨_,_,_,_,o,_,_,e,d,_⟩:=I.hok p _ b;exists o,e,d;obtain⟨_,_,_,_,o,_,_,e,d,_⟩:=I.hok p _ b;exists o,e,d);obtain⟨o,e,d⟩:=z;exists ⟨o,e,d.1⟩,λa j=>?_;cases j;exists o,e,d.2.1;obtain⟨o,_,_,_,e,d,_⟩:=I.hok p _ b;exists ⟨o,e,d.1⟩,λa j=>?_;cases j;exists o,e,d.2.1)|_=>exact eZ g
def pd(K:af)(T:String)(r:V->List V->Hp->VK->Prop)(to:TE)(t:TA):TE:=λσ H Q=>to σ H λx H1=>pc K T x H1/\t σ H1 λxs H2=>r x xs H2 Q
variable{o e:Expr}{es:List Expr}{to:TE}{t:TA}{name:Str}{apos cpos:Pos}{T id:String}{r:V->List V->Hp->VK->Prop}
theorem mX(pa:PlainAttrs T)(f:Slot T name id)(j:typeOf (.builtin id)=pure (.type "method_descriptor"))(M:fw X id r)(z:PE X o to)(p:PA X (e::es) t)(c:attributeBase o name X.env (eval o X.env)=eval o X.env:=by rfl)(g:((backTo cpos (bc (e::es) X.env)).all (λx=>!x.1)&&(backToKw cpos (keywordEach [] X.env)).all (λx=>x.1.isSome) && decide ((e::es).length+([]:List Keyword).length+(if ([]:List Keyword).isEmpty then 0 else 1)<30))=ag:=by rfl)(d:(apos.endLine==cpos.line)=ag:=by rfl)(w:bc (e::es) X.env=(al,eval e X.env)::bc es X.env:=by rfl)(b:(backTo cpos (bc es X.env)).any (·.1)=al:=by rfl) :PE X (.Call (.Attribute o name apos) (e::es) [] cpos) (pd X.K T r to t):=by intro a s i H Q I h;refine wpAny_Call_method_late c g d rfl (g8 (z a s i H _ I h) λv u ⟨x,E,l,k,L,G⟩=>?_);obtain⟨F,y⟩:=alD l k L;exists T,id,pa,f,j,F,y,4;have m:=p cpos a u i E _ l G;rw[w] at m ⊢;refine Calls.callWith_builtin (by show (al || (backTo cpos (bc es X.env)).any (·.1))=al;rw[b] <;> rfl) (Calls.evalArgs_plain ?_);exact g8 m λq D ⟨n,B,C,A,J⟩=>M a D i B x n v q Q C k A J
end
def Kt(X:Cx)(id:String)(r:V->List V->Hp->VK->Prop):Prop:=
 ∀(pins:List (am×Obj))(s:ar)(σ:St)(H:Hp)(x:V)(xs:List V)(v:ap)(us:List ap)(Q:VK),Inv X pins σ H s->RelV x v->ck xs us->r x xs H Q ->
  bt (model X.prog X.w) X.A (call (.builtin id) (v::us)) (EP X pins σ Q) X.xe s
theorem ck.one:∀{x:V}{us:List ap},ck [x] us->∃u,us=[u]/\RelV x u
 |_,_,.cons r .nil=>⟨1,r⟩
theorem ck.two:∀{x y:V}{us:List ap},ck [x,y] us->∃u v,us=[u,v]/\RelV x u/\RelV y v
 |_,_,_,.cons r (.cons q .nil)=>⟨5,r,q⟩
theorem ck.zero:∀{us:List ap},ck [] us->us=[]
 |_,.nil=>rfl
theorem ck.eraseIdx:∀{xs:List V}{us:List ap}(i:Nat),ck xs us->ck (xs.eraseIdx i) (us.eraseIdx i)
 |_,_,_,.nil=>.nil
 |_,_,0,.cons _ t=>t
 |_,_,i+1,.cons r t=>.cons r (ck.eraseIdx i t)
theorem ck.rep{xs:List V}{us:List ap}(h:ck xs us):∀k:Nat,ck (bV k xs).flatten (bV k us).flatten
 |0=>.nil
 |k+1=>by
  rw[vU,vU,Au,Au];exact ck.append h (ck.rep h k)
theorem UL{a:Type}:∀(l:List a)(i:Nat),(l.eraseIdx i).length<=l.length
 |[],_=>az _
 |_::_,0=>gX _
 |_::r,i+1=>Nat.succ_le_succ (UL r i)
theorem foldl_rep(b:List ap):∀(k:Nat)(a:List ap),
 List.foldl (λf d=>f++d) a.toArray (bV k b.toArray)=(a++(bV k b).flatten).toArray
 |0,a=>-_
 |k+1,a=>by
  have e:a.toArray++b.toArray=(a++b).toArray:=-_
  have c:(a++b)++(bV k b).flatten=a++(bV (k+1) b).flatten:=by
   rw[vU,Au,kg]
  rw[<- c,<- foldl_rep b k (a++b),<- e,vU,gF]
section
variable{X:Cx}{pins:List (am×Obj)}{σ:St}{H:Hp}{s:ar}{l b:am}{xs ys zs:List V}
theorem Inv.aof{a its':List ap}{n:Nat}{f:Array ap->Array ap}{t':Nat}(I:Inv X pins σ H s)(g:H l=ac (.lst xs))(e:s.heap.get? l=ac {cls:=.type "list",data:=.seq a.toArray n})(d:f a.toArray=its'.toArray)(h:ck ys its')(i:ys.length<=a9) :Inv X pins σ (upd H l (.lst ys)) {s with heap:=s.heap.update l (Obj.mapSeq f),toks:=t'}:=by have q:=PySem.IsL.update e f;rw[d] at q;refine I.write (x:=l) (e:=l) (by rw[g];exact trivial) (.inl rfl) (λj u c b=>(bo s.heap (Obj.mapSeq f) (bS c)).trans b) ⟨_,q⟩ ?_;exists i,its',_,h,q
def Inv.aog{a:List ap}{t':Nat}(I:Inv X pins σ H s)(b:ck ys a)(c:ys.length<=a9) :Inv X pins σ (upd H s.heap.objs.size (.lst ys)) {s with heap:=s.heap.push {cls:=.type "list",data:=.seq a.toArray},toks:=t'} :=I.laid (λ_ _ q=>a5 _ q) (az _) ⟨c,a,(0),b,a6 _ rfl⟩
theorem Inv.fresh(I:Inv X pins σ H s):H s.heap.objs.size=ae:=I.hok.fresh (az _)
theorem Inv.afp(I:Inv X pins σ H s)(b:H l=ac (.lst xs)):xs.length<=a9/\∃(a:List ap)(n:Nat),ck xs a/\xs.length=a.length/\s.heap.get? l=ac {cls:=.type "list",data:=.seq a.toArray n}:=by obtain⟨z,a,n,r,e⟩:=I.hok l _ b;exists z,a,n,r,r.length,e
theorem afq{n:Nat}(h:n<=a9):Builtin.List.listTooLong n=al:=by unfold Builtin.List.listTooLong;exact c5 ∅
end
section
variable{X:Cx}
inductive Ha(x:V)(vs:List V)(H:Hp)(Q:VK):Prop
 |mk(l:am)(xs:List V)(y:V)(h1:x=.ref l)(h2:vs=[y])(h3:H l=ac (.lst xs))(h4:xs.length<a9)(h5:Q .fW (upd H l (.lst (xs++[y])))):Ha x vs H Q
theorem gQ:Kt X "list.append" Ha:=by intro c s k H x i v j Q I g d h;obtain⟨l,m,y,rfl,rfl,b,p,q⟩:=h;cases g;obtain⟨u,rfl,f⟩:=d.one;obtain⟨z,a,n,r,o,e⟩:=I.afp b;refine call_meets F.slot_list_append ⟨_,e,2⟩ F.entry_list_append (F.args_list_append_2 _ _) (PySem.list_append l a.toArray n u (by rw[bw];lia)) ⟨e,4⟩;exists .fW,_,I.aof (its':=a++[u]) b e (-_) (r.append (.cons f .nil)) ?_,2,q;rw[av,List.length_singleton];lia
def alE:V->List V->Hp->VK->Prop:=λx vs H Q=>∃l xs i k y,x=.ref l/\vs=[.int i]/\H l=ac (.lst xs)/\-(2^63)<=i/\i<2^63/\seqIndex? i xs.length=ac k/\xs[k]?=ac y/\Q y (upd H l (.lst (xs.eraseIdx k)))
theorem afr:Kt X "list.pop" alE:=by intro d s J H x E v G Q I A f h;obtain⟨l,m,i,k,y,rfl,rfl,c,p,g,C,j,q⟩:=h;cases A;obtain⟨u,rfl,o⟩:=f.one;obtain⟨t,rfl⟩:=o;obtain⟨z,a,n,r,D,e⟩:=I.afp c;obtain⟨w,B,b⟩:=r.get j;refine call_meets F.slot_list_pop ⟨_,e,2⟩ F.entry_list_pop (F.args_list_pop_2 _ _) (MeetsSeq.list_pop_at l a.toArray n i t k w (fitsIndex_both p g) (by rw[bw,<- D];exact C) (by rw[<- Array.getElem?_toList];exact B) (by rw[bw];lia)) ⟨e,4⟩;exists y,_,I.aof (its':=a.eraseIdx k) c e ?_ (r.eraseIdx k) ?_,b,q;show a.toArray.eraseIdxIfInBounds k=(a.eraseIdx k).toArray;rw[List.eraseIdxIfInBounds_toArray];have:=UL m k;lia
def gc:R2:=λx y H Q=>∃l b xs zs,x=.ref l/\y=.ref b/\H l=ac (.lst xs)/\H b=ac (.lst zs)/\xs.length+zs.length<=a9/\∀p,H p=ae->Q (.ref p) (upd H p (.lst (xs++zs)))
theorem fX:E3 X (binaryOp .Add) gc:=by intro d s A H x y v u Q I o p h;obtain⟨l,b,B,t,rfl,rfl,m,j,E,q⟩:=h;cases o;cases p;obtain⟨z,c,n,r,D,e⟩:=I.afp m;obtain⟨C,a,w,i,k,f⟩:=I.afp j;refine PySem.P.add_list e f ?_ (by rw[bw,bw];lia);have g:c.toArray++a.toArray=(c++a).toArray:=-_;rw[g];exists .ref _,_,I.aog (t':=s.toks) (r.append i) (by rw[av];lia),2,q _ I.fresh
def Op:R2:=λx y H Q=>∃l k xs,x=.ref l/\y=.int k/\H l=ac (.lst xs)/\-(2^63)<=k/\k<2^63/\xs.length*k.toNat<=a9 /\
 ∀p,H p=ae->Q (.ref p) (upd H p (.lst (bV k.toNat xs).flatten))
theorem fa{a:Type}(xs:List a)(k:Nat):(bV k xs).flatten.length=k*xs.length:=by induction k with|zero=>simp|succ k b=>rw[vU,Au,av,b,Nat.succ_mul,Nat.add_comm]
theorem alF:E3 X (binaryOp .Mult) Op:=by intro w s L H x y v u Q I G J h;obtain⟨l,k,M,rfl,rfl,D,E,A,p,q⟩:=h;cases G;obtain⟨t,rfl⟩:=J;obtain⟨z,b,n,r,K,e⟩:=I.afp D;have d:b.toArray.size*k.toNat<=a9:=(by rw[bw,<- K];exact p);have f:¬b.toArray.size*k.toNat > (2^63-1)/8:=(by have:(a9:Nat)<=(2^63-1)/8:=!_;lia);have c:¬(!Builtin.List.listFitsIndex k)=ag:=(by rw[fitsIndex_both E A];exact aN);have i:¬Builtin.List.listTooLong (b.toArray.size*k.toNat)=ag:=(by rw[afq d];exact aN);have g:List.foldl (λo j=>o++j) #[] (bV (if b.toArray.isEmpty=ag then 0 else k.toNat) b.toArray)=(bV k.toNat b).flatten.toArray:=(by have B:∀m:Nat,List.foldl (λo j=>o++j) #[] (bV m b.toArray)=(bV m b).flatten.toArray:=λm=>(by have:=foldl_rep b m [];rw[List.nil_append] at this;exact this);rw[B];cases b with|nil=>simp|cons a N=>rw[b5 (-_)]);refine wpAny_binaryOp_repeat_ref (T:="list") (U:="int") (!_) ⟨_,e,2⟩ (λC=>typeIs_int C k t) noFill_list_mul F.fills_int_mul F.slot_int_rmul repeat_list F.slot_int_index.lookup (call_meets F.slot_int_rmul (typeIs_int s k t) F.entry_int_rmul (F.args_int_rmul_2 _ _) (int___rmul___int_list k t l b.toArray n) ⟨e,2,⟨_,e,2⟩,call_meets F.slot_list_mul ⟨_,e,2⟩ F.entry_list_mul (F.args_list_mul_2 _ _) (AutoListH.list___mul___list_int_3 l b.toArray n k t c f i) ⟨e,4⟩⟩);rw[g];exists .ref _,_,I.aog (t':=s.toks) (r.rep k.toNat) (by rw[fa,Nat.mul_comm];exact p),2,q _ I.fresh
end
section
variable{κ:Type}[DecidableEq κ]
def vX(kvs:List (κ×V))(k:κ):Option V:=(kvs.find? λkv=>decide (kv.1=k)).map (·.2)
noncomputable def dV(kvs:List (κ×V))(k:κ)(v:V):List (κ×V):=
 if (kvs.any λkv=>decide (kv.1=k))=ag then kvs.map (λkv=>if kv.1=k then (kv.1,v) else kv) else kvs++[(k,v)]
theorem Fe{p:κ×V}{r:List (κ×V)}{k:κ}(e:p.1=k):vX (p::r) k=ac p.2:=by simp[vX,x9,e]
theorem Ff{p:κ×V}{k:κ}(e:¬p.1=k):vX (p::r) k=vX r k:=by simp[vX,x9,e]
theorem X0(k:κ):∀kvs:List (κ×V),(kvs.any λa=>decide (a.1=k))=(vX kvs k).isSome
 |[]=>rfl
 |p::r=>by
  rw[List.any_cons];by_cases e:p.1=k
  ·simp only[Fe e,b6 e,Bool.true_or,Option.isSome_some]
  ·rw[Ff e,c5 e,Bool.false_or];exact X0 k r
theorem NZ(kvs:List (κ×V))(k:κ)(v:V):(dV kvs k v).length<=kvs.length+1:=by unfold dV;split;rw[ah];lia;rw[av,bU,List.length_nil];lia
theorem E5.Hw(r:E5 o u):o.isSome=u.isSome:=by
 cases o with
 |none=>cases u with
  |none=>rfl
  |some _=>exact (show False from r).elim
 |some _=>cases u with
  |none=>exact (show False from r).elim
  |some _=>rfl
theorem E5.getD(r:E5 o u)(a:RelV d d'):RelV (o.getD d) (u.getD d'):=by
 cases o with
 |none=>cases u with
  |none=>exact a
  |some _=>exact (show False from r).elim
 |some _=>cases u with
  |none=>exact (show False from r).elim
  |some _=>exact r
theorem KV.val(r:KV kvs vs)(k:κ):E5 (vX kvs k) (valueAt vs k):=by unfold KV at r;induction r with|nil=>exact True.intro|@cons p q i c h t f=>obtain⟨d,g⟩:=h;by_cases e:p.1=k;have a:q.1=k:=d.symm.trans e;have b:valueAt (q::c) k=ac q.2:=(by simp[valueAt,x9,a]);rw[Fe e,b];exact g;have a:¬q.1=k:=λz=>e (d.trans z);have b:valueAt (q::c) k=valueAt c k:=(by simp[valueAt,x9,a]);rw[Ff e,b];exact f
theorem KV.any(r:KV kvs vs)(k:κ):(kvs.any λa=>decide (a.1=k))=vs.any λa=>decide (a.1=k):=by unfold KV at r;induction r with|nil=>rfl|cons h t b=>rw[List.any_cons,List.any_cons,b,h.1]
theorem KV.repl{kvs:List (κ×V)}{vs:List (κ×ap)}(r:KV kvs vs)(k:κ){y:V}{u:ap}(f:RelV y u) :KV (kvs.map λa=>if a.1=k then (a.1,y) else a) (vs.map λa=>if a.1=k then (a.1,u) else a):=by unfold KV at r ⊢;induction r with|nil=>exact .nil|@cons p q i g h t d=>rw[bL,bL];refine .cons ?_ d;obtain⟨b,c⟩:=h;by_cases e:p.1=k;rw[b4 e,b4 (b.symm.trans e)];exists b,f;rw[b5 e,b5 (λz=>e (b.trans z))];exists b,c
theorem KV.put(r:KV kvs vs)(k:κ)(a:RelV y u):KV (dV kvs k y) (stored vs k u):=by unfold dV stored;rw[r.any k];by_cases e:(vs.any λb=>decide (b.1=k))=ag;rw[b4 e,b4 e];exact r.repl k a;rw[b5 e,b5 e];exact Paired.snoc r ⟨2,a⟩
theorem KV.length(r:KV kvs vs):kvs.length=vs.length:=Paired.length r
end
theorem UM(r:RelV (kV k) u):(iR P w).is k u=ag:=by cases k with|inl i=>obtain⟨t,e⟩:=(show ∃t,u=Value.int i t from r);subst e;exact XQ P w i t|inr x=>obtain⟨t,e⟩:=(show ∃t,u=Value.str x t from r);subst e;exact XR P w x t
theorem UN{P:bv}{w:World}:∀{a:List df}{us:List ap},ck (a.map kV) us->ItemsAre (iR P w) a us
 |[],_,r=>by rw[List.map_nil] at r;cases r;exact .nil
 |k::a,_,r=>by
  rw[bL] at r;cases r with
  |cons h t=>exact .cons (UM h) (UN t)
abbrev KT(H:Hp):List (List df×V)->List (List df×am×ap)->Prop:=Paired λp q=>p.1=q.1/\H q.2.1=ac (.tup (p.1.map kV))/\RelV p.2 q.2.2
theorem KT.val(r:KT H kvs xs)(k:List df):E5 (vX kvs k) ((atKey xs k).map (·.2)):=by induction r with|nil=>exact True.intro|@cons p q i c h t f=>obtain⟨d,_,g⟩:=h;by_cases e:p.1=k;have a:q.1=k:=d.symm.trans e;have b:atKey (q::c) k=ac q.2:=(by simp[atKey,x9,a]);rw[Fe e,b];exact g;have a:¬q.1=k:=λz=>e (d.trans z);have b:atKey (q::c) k=atKey c k:=(by simp[atKey,x9,a]);rw[Ff e,b];exact f
theorem KT.repl{H:Hp}{kvs:List (List df×V)}{xs:List (List df×am×ap)}(r:KT H kvs xs)(k:List df){y:V}{u:ap}(g:RelV y u) :KT H (kvs.map λb=>if b.1=k then (b.1,y) else b) (xs.map (putAt k u)):=by induction r with|nil=>exact .nil|@cons p q j i h t f=>rw[bL,bL];refine .cons ?_ f;obtain⟨a,c,d⟩:=h;unfold putAt;by_cases e:p.1=k;rw[b4 e,b4 (a.symm.trans e)];exists a,c,g;rw[b5 e,b5 (λz=>e (a.trans z))];exists a,c,d
theorem KT.put{H:Hp}{kvs:List (List df×V)}{xs:List (List df×am×ap)}(r:KT H kvs xs)(k:List df){b:am}{y:V}{u:ap}(d:H b=ac (.tup (k.map kV)))(a:RelV y u) :KT H (dV kvs k y) (storedH xs k b u):=by have e:(kvs.any λc=>decide (c.1=k))=(atKey xs k).isSome:=(by rw[X0,(r.val k).Hw,Option.isSome_map]);unfold dV storedH;rw[e];by_cases q:(atKey xs k).isSome=ag;rw[b4 q,b4 q];exact r.repl k a;rw[b5 q,b5 q];exact Paired.snoc r ⟨2,d,a⟩
def KT.keeps{a:Hp}(r:KT H kvs xs)(c:∀b ys,H b=ac (.tup ys)->a b=ac (.tup ys)):KT a kvs xs :=Paired.alh r λ_ _ z=>⟨z.1,c _ _ z.2.1,z.2.2⟩
section
variable{P:bv}{w:World}{H:Hp}{h:Heap}{a:am}
def ss(ok:E6 P w H h)(e:Rd H a u):jk P w H h a u:=e.ok ok
theorem jp(ok:E6 P w H h)(e:Rd H a (.dK kvs)):kvs.length<=a9/\(a==sysModules)=al/\∃vs,KV kvs vs/\h.DictOf (iR P w) a vs:=
 show jk P w H h a (.dK kvs) from ss ok e
def TD(ok:E6 P w H h)(e:H a=ac (.dK kvs)):kvs.length<=a9/\(a==sysModules)=al/\∃vs,KV kvs vs/\h.DictOf (iR P w) a vs:=jp ok (.inl e)
theorem Wa{b:List df}(ok:E6 P w H h)(e:H a=ac (.tup (b.map kV))):(tupleKind (iR P w)).is h b a:=by obtain⟨_,c,r,o,f,g,n,d⟩:=(show jk P w H h a (.tup (b.map kV)) from ok a _ e);exists o,c.toArray,n,f,g,d,by simpa using UN r
theorem i5{kvs:List (List df×V)}(ok:E6 P w H h)(e:Rd H a (.dT kvs)):kvs.length<=a9/\(a==sysModules)=al /\∃xs,KT H kvs xs/\h.DictOfH (tupleKind (iR P w)) a xs:=by obtain⟨z,y,xs,r,o,k,f,j,c,d,n,i⟩:=(show jk P w H h a (.dT kvs) from ss ok e);exists z,y,xs,r,o,k,f,j,c,d,n,λx hx=>?_,i;have b:∀{l:List (List df×V)}{m:List (List df×am×ap)},KT H l m->∀x∈m,(tupleKind (iR P w)).is h x.1 x.2.1:=(by intro l m q;induction q with|nil=>(intro x hx;exact nomatch hx)|@cons p q u s hq t g=>(intro x hx;rcases aM.mp hx with e|hx;subst e;exact Wa ok (by rw[<- hq.1];exact hq.2.1);exact g x hx));exact b r x hx
def TC{kvs:List (List df×V)}(ok:E6 P w H h)(e:H a=ac (.dT kvs)):kvs.length<=a9/\(a==sysModules)=al /\∃xs,KT H kvs xs/\h.DictOfH (tupleKind (iR P w)) a xs:=i5 ok (.inl e)
end
def Tc(H:Hp)(a:am)(y:V)(r:Option V):Prop:=
 (∃kvs k,Rd H a (.dK kvs)/\y=kV k/\r=vX kvs k)∨∃kvs k b,Rd H a (.dT kvs)/\y=.ref b/\H b=ac (.tup (k.map kV))/\r=vX kvs k
def Yb(H:Hp)(a:am)(y v:V)(H':Hp):Prop:=
 (∃kvs k,H a=ac (.dK kvs)/\y=kV k/\kvs.length<a9/\H'=upd H a (.dK (dV kvs k v))) ∨
 ∃kvs k b,H a=ac (.dT kvs)/\y=.ref b/\H b=ac (.tup (k.map kV))/\kvs.length<a9/\H'=upd H a (.dT (dV kvs k v))
theorem Tc.k{H:Hp}{a:am}{kvs:List (df×V)}{k:df}(e:H a=ac (.dK kvs)):Tc H a (kV k) (vX kvs k):=.inl ⟨kvs,k,.inl e,22⟩
def Tc.t{H:Hp}{k:List df}(e:H a=ac (.dT kvs))(c:H b=ac (.tup (k.map kV))):Tc H a (.ref b) (vX kvs k):=.inr ⟨kvs,k,b,.inl e,2,c,2⟩
theorem Yb.k{H:Hp}{a:am}{kvs:List (df×V)}{k:df}{v:V}(e:H a=ac (.dK kvs))(hl:kvs.length<a9):Yb H a (kV k) v (upd H a (.dK (dV kvs k v))):=.inl ⟨kvs,k,e,2,hl,2⟩
def Yb.t{H:Hp}{a b:am}{kvs:List (List df×V)}{k:List df}{v:V}(e:H a=ac (.dT kvs))(c:H b=ac (.tup (k.map kV)))(hl:kvs.length<a9) :Yb H a (.ref b) v (upd H a (.dT (dV kvs k v))):=.inr ⟨kvs,k,b,e,2,c,hl,2⟩
section
variable{X:Cx}{pins:List (am×Obj)}{σ:St}{H:Hp}{s:ar}{a:am}{y v:V}{u r:ap}{o:Option V}{A:ce}{E:ap->ar->Prop}
theorem Inv.big(I:Inv X pins σ H s):sysModules<s.heap.objs.size:=by have h:ba<s.heap.objs.size:=(I.mod.glob.keeps I.bk).lt;exact Nat.lt_trans (!_) h
theorem On{Q:ap->ar->Prop}(m:A.units+1<cLine)(I:Inv X pins σ H s)(g:Tc H a y o)(j:RelV y u)(h:∀s',Inv X pins σ H s'->Q (.bool o.isSome) s') :bt (model X.prog X.w) A (bn .In u (.ref a)) Q E s:=by rcases g with ⟨c,k,e,i,l⟩|⟨c,k,b,e,i,n,l⟩;subst i;obtain⟨z,d,p,rel,f⟩:=jp I.hok e;refine wpAny_in_of (UM j) d f.mapOf ?_;rw[<- (rel.val k).Hw,<- l];exact h _ (I.tok _);subst i;cases (show u=Value.ref b from j);obtain⟨z,d,r,rel,f⟩:=i5 I.hok e;refine wpAny_in_heap (tupleKind_room_in1 m) (Wa I.hok n) d f ?_;have q:=(rel.val k).Hw;rw[Option.isSome_map] at q;rw[<- q,<- l];exact h _ (I.tok _)
def IR{h':Heap}{t':Nat}{ob:HO}(I:Inv X pins σ H s)(g:hZ (H a))(h:Heap.SameBut a s.heap h')(d:∃q,h'.get? a=ac q)(c:jk X.prog X.w (upd H a ob) h' a ob) :Inv X pins σ (upd H a ob) {s with heap:=h',toks:=t'} :=I.write (x:=a) (e:=a) g (.inl rfl) (λb q f z=>(h.2 b f).trans z) d c
def alG{P:bv}{w:World}{c:Hp}{h':Heap}{kvs:List (df×V)}{vs:List (df×ap)}(z:kvs.length<=a9)(d:(a==sysModules)=al)(b:KV kvs vs)(dd:h'.DictOf (iR P w) a vs) :jk P w c h' a (.dK kvs):=⟨z,d,vs,b,dd⟩
theorem adL{B:Hp}{Q:Unit->ar->Prop}(L:A.units+1<cLine)(I:Inv X pins σ H s)(g:Yb H a y v B)(F:RelV y u)(x:RelV v r)(h:∀s',Inv X pins σ B s'->Q () s') :bt (model X.prog X.w) A (setItem (.ref a) u r) Q E s:=by rcases g with ⟨d,k,e,o,l,j⟩|⟨d,k,b,e,o,G,l,j⟩;subst o j;obtain⟨z,m,J,rel,n⟩:=TD I.hok e;have t:J.length<=a9:=(by rw[<- rel.length];exact z);have p:(dV d k v).length<=a9:=(by have:=NZ d k v;lia);refine wpAny_setItem_pairs (hsz:=t) (UM F) n λD f i=>h _ ?_;have N:∃q,D.get? a=ac q:=let ⟨q,_,_,hq,_⟩:=f;⟨q,hq⟩;exact IR I (by rw[e];exact True.intro) i N (alG p m (rel.put k x) f);subst o j;cases (show u=Value.ref b from F);obtain⟨z,m,O,rel,n⟩:=TC I.hok e;have t:O.length<=a9:=(by rw[<- Paired.length rel];exact z);have p:(dV d k v).length<=a9:=(by have:=NZ d k v;lia);refine wpAny_setItem_heap (hsz:=t) (tupleKind_room_in1 L) (Wa I.hok G) n λD f i=>h _ ?_;obtain⟨q,S,P,hq,K,M,T,_,R⟩:=f;refine IR I (by rw[e];exact True.intro) i ⟨q,hq⟩ ⟨p,m,_,(rel.put k G x).keeps λc U C=>?_,q,S,P,hq,K,M,T,R⟩;rw[aI (tK C e (λz=>nomatch z))];exact C
end
def p3(i:Expr):Prop:=∀ov iv,subscripted i al ov iv=operate [ov,iv] (getItem ov iv)
theorem aim{prog:bv}{w:World}{A:ce}{E:ap->ar->Prop}{s:ar}{env:Env}{b a:Expr}{l:Pos}{T id:String}{Q:ap->ar->Prop}(hl:typeLookup (.type T) "__getitem__" = pure (ac (.builtin id)))(n:p3 a)(h:bt (model prog w) A (eval b env) (λo f=>bt (model prog w) A (eval a env) (λi c=>c.TypeIs o T/\bt (model prog w) A (getItem o i) Q E c) E f) E s) :bt (model prog w) A (eval (.Subscript b a l) env) Q E s:=by
 refine Subscript_ (wpAny_mono h (λo f j=>wpAny_mono j (λi c d=>?_) λ_ _ x=>x) λ_ _ x=>x);obtain⟨m,d⟩:=d;unfold subscriptTail;refine aw ?_;rw[getitemInPython_of_ne m.not_modules];refine aw (wpAny_specialOf m hl ?_);have g:bt (model prog w) A (subscripted a al o i) (λr e=>bt (model prog w) A (letTemporaryGo b o r >>= λ_=>pure r) Q E e) E c:=(by rw[n o i];exact wpAny_operating (wpAny_mono d (λr e k=>aw (wpAny_letTemporaryGo (ax k))) λ_ _ x=>x))
 first
  |exact ax (aw g)
  |exact aw (ax (aw g))
  |exact aw g
def NM(ty td:TE):TE:=λσ H Q=>ty σ H λy H1=>td σ H1 λx H2=>∃a o,x=.ref a/\Tc H2 a y o/\Q (.bl o.isSome) H2
def Tx(td ty tv:TE):TS:=λD σ H=>tv σ H λv H1=>td σ H1 λx H2=>ty σ H2 λy H3=>∃a H4,x=.ref a/\Yb H3 a y v H4/\D.nx σ H4
section
variable{X:Cx}{o i e value:Expr}{pos pos' tpos:Pos}{td ty tv:TE}
theorem alH(j:X.A.units+1<cLine)(l:PE X i ty)(f:PE X o td):PC X .In i o (NM ty td):=by intro b s c H Q I h;refine g8 (l b s c H _ I h) λB e ⟨y,r,m,v,w⟩=>g8 (f b e c r _ m w) λu C ⟨x,n,q,t,a,d,p,g,z⟩=>?_;subst p;obtain rfl:u=Value.ref a:=t;exact On j q g v λD k=>⟨.bl d.isSome,n,k,2,z⟩
theorem IN(k:X.A.units+1<cLine)(j:PE X o td)(m:PE X i ty)(C:PE X value tv)(f:swapsWith value (ac (.Subscript o i pos')) pos.line X.env=pure al) :PS X (.Assign [.Subscript o i pos'] value pos) (Tx td ty tv):=by intro b s c H D I h;refine wpAny_Assign_Subscript (g8 (C b s c H _ I h) λr e ⟨v,z,n,d,J⟩=>g8 (j b e c z _ n J) λu w ⟨x,p,t,B,K⟩=>g8 (m b w c p _ t K) λN O ⟨y,P,l,F,a,G,q,g,E⟩=>?_) f;subst q;obtain rfl:u=Value.ref a:=B;exact adL k l g F d λM L=>⟨c,G,L,E⟩
end
def afs(h:Heap)(a:sysModules<h.objs.size):jk P w H (h.push {cls:=.type "dict",data:=.dict #[]}) h.objs.size (.dK []) :=⟨bA _,beq_eq_false_iff_ne.mpr (bS (bB a)),[],.nil,Heap.DictOf.new h⟩
def aft(h:Heap)(a:sysModules<h.objs.size):jk P w H (h.push {cls:=.type "dict",data:=.dict #[]}) h.objs.size (.dT []) :=⟨bA _,beq_eq_false_iff_ne.mpr (bS (bB a)),[],.nil,_,#[],(0),a6 _ rfl,⟨222⟩,22,mO⟩
def alI:TE:=λ_ H Q=>∀p,H p=ae->Q (.ref p) (upd H p (.dK []))
def alJ:TE:=λ_ H Q=>∀p,H p=ae->Q (.ref p) (upd H p (.dT []))
section
variable{X:Cx}{pos:Pos}
def afu:PE X (.Dict [] [] pos) alI:=λb s c H Q I h => wpAny_Dict_empty ⟨.ref s.heap.objs.size,_,I.laid (a:=s.heap.objs.size) (o:=.dK []) (t':=s.toks) (λ_ _ q=>a5 _ q) (az _) (afs s.heap I.big),2,h _ (I.hok.fresh (az _))⟩
def Yc:PE X (.Dict [] [] pos) alJ:=λb s c H Q I h => wpAny_Dict_empty ⟨.ref s.heap.objs.size,_,I.laid (a:=s.heap.objs.size) (o:=.dT []) (t':=s.toks) (λ_ _ q=>a5 _ q) (az _) (aft s.heap I.big),2,h _ (I.hok.fresh (az _))⟩
end
structure M1(X:Cx)(o:Expr)(m:Str)(apos:Pos)(e:Expr)(cpos:Pos):Prop where
 base:attributeBase o m X.env (eval o X.env)=eval o X.env
 few:((backTo cpos (bc [e] X.env)).all (λx=>!x.1)&&(backToKw cpos (keywordEach [] X.env)).all (λx=>x.1.isSome)
  && decide (([e]:List Expr).length+([]:List Keyword).length+(if ([]:List Keyword).isEmpty then 0 else 1)<30))=ag
 line:(apos.endLine==cpos.line)=ag
 trees:backTo cpos (bc [e] X.env)=[(al,eval e X.env)]
def Kx(H:Hp)(a:am):Prop:=(∃kvs,Rd H a (.dK kvs))∨∃kvs,Rd H a (.dT kvs)
theorem alK{X:Cx}{f:List (am×Obj)}{k:St}{H:Hp}{s:ar}{a:am}(I:Inv X f k H s)(d:Kx H a) :s.TypeIs (.ref a) "dict" /\ (∀b,Value.ref a=.ref b->∃ob,s.heap.get? b=ac ob/\ob.dict=ae)/\(a==sysModules)=al:=by rcases d with ⟨g,e⟩|⟨g,e⟩;obtain⟨_,i,l,_,c⟩:=jp I.hok e;exists c.typeIs,λb q=>?_,i;cases q;obtain⟨ob,_,_,j,h,_⟩:=c;exists ob,j,h.2.1;obtain⟨_,i,m,_,c⟩:=i5 I.hok e;exists c.typeIs,λb q=>?_,i;cases q;obtain⟨ob,_,_,j,h,_⟩:=c;exists ob,j,h.2.1
section
variable{X:Cx}{pins:List (am×Obj)}{σ:St}{H:Hp}{s:ar}{a:am}{y d:V}{u r:ap}{o:Option V}{A:ce}{E:ap->ar->Prop}
theorem alL{Q:ap->ar->Prop}(n:A.units+1<cLine)(I:Inv X pins σ H s)(g:Tc H a y o)(m:RelV y u)(h:∀j s',Inv X pins σ H s'->RelV (o.getD .fW) j->Q j s') :bt (model X.prog X.w) A (call (.builtin "dict.get") [.ref a,u]) Q E s:=by rcases g with ⟨d,k,e,i,l⟩|⟨d,k,b,e,i,q,l⟩;subst i;obtain⟨z,f,r,rel,c⟩:=jp I.hok e;refine call_meetsIn PySem.F.slot_dict_get c.typeIs PySem.F.entry_dict_get (PySem.F.args_dict_get_2 _ _) (meets_dict_get (iR X.prog X.w) a (UM m) f) ⟨_,c.mapOf,h _ _ (I.tok _) ?_⟩;rw[l];exact (rel.val k).getD rfl;subst i;cases (show u=Value.ref b from m);obtain⟨z,f,p,rel,c⟩:=i5 I.hok e;refine call_meetsIn PySem.F.slot_dict_get c.typeIs PySem.F.entry_dict_get (PySem.F.args_dict_get_2 _ _) (meetsH_dict_get (tupleKind (iR X.prog X.w)) a b f) ⟨tupleKind_room_in1 n,k,p,Wa I.hok q,c,h _ _ (I.tok _) ?_⟩;rw[l];exact (rel.val k).getD rfl
end
def alM(td ty:TE):TE:=λσ H Q=>td σ H λx H1=>∃a,x=.ref a/\Kx H1 a/\ty σ H1 λy H2=>∃o,Tc H2 a y o/\Q (o.getD .fW) H2
section
variable{X:Cx}{o e f:Expr}{apos cpos:Pos}{td ty tx:TE}
theorem afv(n:X.A.units+1<cLine)(l:PE X o td)(q:PE X e ty)(m:M1 X o "get" apos e cpos):PE X (.Call (.Attribute o "get" apos) [e] [] cpos) (alM td ty):=by intro b s f H Q I h;refine wpAny_Call_method m.base m.few m.line PySem.F.plainAttrs_dict PySem.F.slot_dict_get PySem.F.type_dict_get (g8 (l b s f H _ I h) λu k ⟨x,z,i,B,a,v,d,D⟩=>?_);subst v;obtain rfl:u=Value.ref a:=B;obtain⟨j,t,_⟩:=alK i d;exists j,t,4;rw[m.trees];refine Calls.callWith_builtin rfl (Calls.evalArgs_plain (Calls.spliced_cons (g8 (q b k f z _ i D) λJ L ⟨y,r,w,C,G,g,E⟩=>Calls.spliced_nil ?_)));exact alL n w g C λK M p c=>⟨_,r,p,c,E⟩
end
end L2
namespace Att
open PySem PySem.W PySem.Calls PyProof.Rows
theorem OR:∀(ns:List Int)(vs:List ap),WellAll P h vs (ns.map WData.int)->IntsAre vs ns:=by intro ns;induction ns with|nil=>intro vs w;rw[List.map_nil] at w;cases w;exact .nil|cons n ns c=>(intro vs w;rw[bL] at w;cases w with|cons a b=>cases a;exact .cons _ _ (c _ b))
theorem adM{l:OpenLaw}{n:Nat}(u:l.most=ac n){P:Params}{h:Heap}{args:List WData}{b:List ap}(c:l.row.toRowW.claim.pre args=ag)(j:WellAll P h b args) :∃a vs ns,b=[Value.ref a]/\args=[WData.list (ns.map WData.int)]/\h.get? a=ac {cls:=.type "list",data:=.seq vs.toArray}/\IntsAre vs ns/\cx ns<=n:=by
 have k:WShape.hasAll [] args [.list .int]=ag:=(pre_splitW c).1;have m:l.pre.holds [] {args:=args}=ag:=(pre_splitW c).2;obtain⟨d,r,rfl,w,o⟩:=hasAllW_cons k;obtain rfl:=hasAllW_nil o;obtain⟨y,rfl,s⟩:=hasW_list w;obtain⟨ns,rfl⟩:=items_int s;have e:cx ns<=n:=by
  unfold OpenLaw.pre at m;have i:(WTm.not (.lt (.lit (.int (n:Int))) (.len (.arg 0)))).holds [] {args:=[.list (ns.map .int)]}=ag:=(by have i:=(holds_andW m).1;rw[u] at i;exact i);have g:=condW_of i (w_not (w_lt w_lit (w_len_list (w_arg rfl))));rw[ah] at g;refine Nat.le_of_not_lt λq=>?_;have v:(n:Int)<((ns.length:Nat):Int):=∅
  first
   | (rw[b6 v] at g;exact b3 g (!_))
   | (simp at g;lia)
 cases j with|cons t x=>(cases x;cases t with|list p f=>exists 33,ns,22,p,OR ns _ f,e)
theorem adN(l:OpenLaw)(args:List WData):l.row.toRowW.claim.post args (.bool ag) args=ag :=postW_of (r:=l.row.toRowW) (X:=(ag==ag)) (show WShape.has [] (.bool ag) .bool=ag by first|rfl|decide|simp[WShape.has,WShape.arms,WShape.armsAll]) (show (WTm.eq .res (.lit (.bool ag))).value [] {args:=args,res:=ac (.bool ag),after:=args}=ac (.bool (ag==ag)) from w_eq_bool (w_res rfl) w_lit) rfl
theorem Yd{l:OpenLaw}{n:Nat}{q:bv}{e:List Str}{XP:(Str->Option ap)->Heap->Prop}{C:World->Heap->Prop}{d:DefRec}(N:l.most=ac n)(v:d.params.defaults=[])(call:∀(w:World)(c b:ar)(p A:Str->Option ap)(i:am)(o:Obj)(y t h:ap)(a:am)(vs:List ap)(ns:List Int),Ground q e [] XP w c p A b.heap->C w b.heap ->b.heap.get? i=ac o->o.data=.func (docDef d.name d.params d.body d.scope y t h)->b.heap.CodeRec t d.name->p d.name=ac (.ref i) ->b.heap.get? a=ac {cls:=.type "list",data:=.seq vs.toArray}->IntsAre vs ns->cx ns<=n->b.gens=#[] ->codeAny (model l.prog w) callerA (.call (.ref i) ⟨[.ref a],[]⟩) (λr s=>r=.ok (.ret (.bool ag))/\OldK b.heap s.heap/\s.os=b.os/\AllBare s.gens) b) :WalkO q e XP C l.row.toRowW d [] (λf vs=>PySem.call f vs):=by intro w c b p A G Y i o y t h J kV K M x D z H E B S m F Q u O;obtain rfl:J=.none:=Dflts.none D v;obtain rfl:kV=.none:=Dflts.noKw D;obtain⟨a,vs,ns,rfl,rfl,j,g,k⟩:=adM N m u;refine enter_call (codeAny_mono (call w c b p A i o y t h a vs ns G Y K (fd_plain M) x z j g k H) λr s hq=>?_);obtain⟨rfl,I,L,P⟩:=hq;exists .inl ⟨.bool ag,.bool ag,[],2,λ_=>rfl,.bool ag,adN l _,λ_=>⟨List.Pairwise.nil,λ_ R=>(nomatch R)⟩⟩,I,L,P
end Att
namespace L2
open PySem PySem.Spec PyProof.Rows
theorem UO:∀{vs:List ap}{ns:List Int},IntsAre vs ns->ck (ns.map cf) vs
 |_,_,.nil=>.nil
 |_,_,.cons n t h=>.cons ⟨t,2⟩ (UO h)
def me(H:Hp):Prop:=∀b,H b=ae∨∃o xs,H b=ac (.f9 o (.lst xs))
theorem afw{P:bv}{w:World}{K:af}{C W:Str->Option ap}{CX:g7}{k:Nat}{Q a:am}{X:FuncData}{x:Str}{sp:Sp}{c:ar}{vs:List ap}{ns:List Int} (Y:K.In c.heap) (D:c.heap.Ns ba C) (f:c.heap.Ns builtinsNs W) (R:∀x:Str,x≠"__name__" -> W x=bootBuiltins x) (B:c.heap.NoLimit) (hg:c.gens=#[]) (J:c.heap.get? a=ac {cls:=.type "list",data:=.seq vs.toArray}) (hi:IntsAre vs ns) (hl:cx ns<=a9) (hr:jF k callerA) (F:∀base:Heap,K.In base->base.Ns ba C->bu P w K C base CX k Q X [x] sp) (l:∀(s:ar) (u:ap),BindsTo s X ⟨[u],[]⟩ [(x,u)]) (U:∀H:Hp,me H->bH K H a (ns.map cf)->sp [.ref a] H (λv _=>v=.bl ag) λ_ _ _=>False) (T:∀H e g,CX [] H c (λ_ _ _=>False) e g->False) :codeAny (model P w) callerA (.call (.ref Q) ⟨[.ref a],[]⟩) (λr g=>r=.ok (.ret (.bool ag))/\OldK c.heap g.heap/\g.os=c.os/\AllBare g.gens) c:=by
 have Z:=UO hi;have L:=hi.length;have j:∀H:Hp,me H->bH K H a (ns.map cf)->E6 P w H c.heap->(∀b,H b≠ae->b=a)->(H a≠ae->K.lookup a=ae) ->
  codeAny (model P w) callerA (.call (.ref Q) ⟨[.ref a],[]⟩) (λr g=>r=.ok (.ret (.bool ag))/\OldK c.heap g.heap/\g.os=c.os/\AllBare g.gens) c:=by
  intro H hO hS A hA hK;have E:∀{b:am}{o:Obj},c.heap.get? b=ac o->H b=ae->(VW c.heap H).get? b=ac o:=λe n=>aeY e n;have N:∀{b:am}{o:Obj}{y:Array DictEntry}{G:Nat},c.heap.get? b=ac o->o.data=.dict y G->H b=ae:=λ{b o y G}e d=>by
   cases q:H b with
   |none=>rfl
   |some u=>
    have M:b=a:=hA b (by rw[q];simp);subst M;rw[J] at e;cases e;have d':Data.seq vs.toArray _=Data.dict y G:=d;cases d'
  have i:∀{b:am}{m:Str->Option ap},c.heap.Ns b m->(VW c.heap H).Ns b m:=λ{b m} ⟨o,y,G,e,d,r⟩=>⟨o,y,G,E e (N e d),d,r⟩;have I:K.In (VW c.heap H):=λb o e=>E (Y b o e) (by
   cases q:H b with
   |none=>rfl
   |some u=>
    have M:b=a:=hA b (by rw[q];simp);subst M;rw[hK (by rw[q];simp)] at e;cases e)
  have hM:Mod K C (VW c.heap H):=⟨I,i D,⟨W,i f,R⟩,let ⟨mc,h1,h2⟩:=B;⟨mc,i h1,h2⟩⟩;have e0:aav P w K C (VW c.heap H) callerA [] c H:=⟨2,hM,λb o e=>aia e,Nat.le_of_eq (ady _ _),trivial,λb f=>b3 (show b∈([]:List am) from f) (-_),A,.of_eq hg⟩;refine codeAny_mono ((F _ I (i D)).run callerA [] c H ⟨[.ref a],[]⟩ [.ref a] [.ref a] _ _ hr e0 (l c (.ref a)) (.cons rfl .nil) (U H hO hS)) λr g h=>?_;cases r with
  |error e=>exact (T H e g h).elim
  |ok fl=>
   cases fl with
   |next=>exact eZ h
   |brk=>exact eZ h
   |cont=>exact eZ h
   |ret u=>
    obtain⟨v,H',os,p,un,S,r',q⟩:=h;have q':v=.bl ag:=q;subst q';obtain rfl:u=Value.bool ag:=r';exists 2,OldK.of_keep λb o e=>?_,os,p;cases q:H b with
    |none=>exact un.keep b o e q (by intro z;exact b3 (show b∈([]:List am) from z) (-_)) (-_)
    |some u=>
     rcases hO b with z|⟨ob,xs,z⟩
     ·rw[q] at z;cases z
     ·have z2:=un.Ik b ob _ z
      obtain⟨e1,_⟩:=A b _ z;obtain⟨e2,_⟩:=S b _ z2;rw[e] at e1;cases e1;exact e2
 cases O:K.lookup a with|some o=>have e:=Y a o O;rw[J] at e;cases e;refine j (λ_=>ae) (λ_=>.inl rfl) (.inr ⟨_,vs.toArray,_,O,222,by rw[bw,L];exact hl,by simpa using Z⟩) (λb u z=>by have t:(ae:Option HO)=ac u:=z;cases t) (λb z=>b3 rfl z) λz=>b3 rfl z|none=>refine j (λb=>if b=a then ac (.f9 {cls:=.type "list",data:=.seq vs.toArray} (.lst (ns.map cf))) else ae) (λb=>?_) (.inl (.inr ⟨{cls:=.type "list",data:=.seq vs.toArray},b4 rfl⟩)) (λb u z=>?_) (λb z=>?_) λ_=>O;by_cases f:b=a;exact .inr ⟨33,b4 f⟩;exact .inl (b5 f);by_cases f:b=a;have t:=(b4 f).symm.trans z;cases t;subst f;exists J,by rw[ah];exact hl,vs,_,Z,J;have t:=(b5 f).symm.trans z;cases t;by_cases f:b=a;exact f;exact b3 (b5 f) z
theorem ain{l:PySem.W.OpenLaw}{n k:Nat}{q:bv}{i:List Str}{XP:(Str->Option ap)->Heap->Prop}{J:World->Heap->Prop}{d:DefRec}{K:Params->af}{CX:World->g7}{sp:World->Sp}{x:Str}(P:l.most=ac n)(D:n<=a9)(z:d.params.defaults=[])(S:jF k callerA)(U:∀(w:World)(h:Heap),J w h->(K w.params).In h)(F:∀(w:World)(m:Str->Option ap)(t:am)(h:Heap),(K w.params).In h->h.Ns ba m->m d.name=ac (.ref t) ->∃y:FuncData,(∀(s:ar)(u:ap),BindsTo s y ⟨[u],[]⟩ [(x,u)]) /\∀base:Heap,(K w.params).In base->base.Ns ba m->bu l.prog w (K w.params) m base (CX w) k t y [x] (sp w))(C:∀(w:World)(H:Hp)(a:am)(ns:List Int),cx ns<=n->me H->bH (K w.params) H a (ns.map cf)->sp w [.ref a] H (λv _=>v=.bl ag) λ_ _ _=>False)(B:∀(w:World)(H:Hp)(s:ar)(e:ap)(s':ar),CX w [] H s (λ_ _ _=>False) e s'->False) :PySem.W.WalkO q i XP J l.row.toRowW d [] (λf vs=>PySem.call f vs):=by refine Att.Yd P z λw I r m mb t o pm cd X a vs ns G Y Z hd O A p j c L=>?_;have E:=U w _ Y;obtain⟨y,N,Q⟩:=F w m t _ E G.T.g A;exact afw E G.T.g G.T.b G.T.builtins G.T.nolimit L p j (aE c D) S Q N (λH M R=>C w H a ns c M R) λH e s'=>B w H r e s'
noncomputable def c0(s:Stmt)(j:Nat):Stmt:=match s with
 |.ClassDef _ _ _ body _ _ _ _ _ _ _=>body.getD j (.Pass ⟨(0),(0),(0),(0)⟩)
 |_=>.Pass ⟨(0),(0),(0),(0)⟩
noncomputable def mY(s:Stmt):Arguments:=match s with
 |.FunctionDef _ a _ _ _ _ _ _ _ _=>a
 |_=>{posonlyargs:=[],args:=[],vararg:=ae,kwonlyargs:=[],kw_defaults:=[],kwarg:=ae,defaults:=[]}
noncomputable def gZ(s:Stmt):List Stmt:=match s with
 |.FunctionDef _ _ b _ _ _ _ _ _ _=>b
 |_=>[]
noncomputable def aA(s:Stmt):Scope:=match s with
 |.FunctionDef _ _ _ _ _ _ sc _ _ _=>sc
 |_=>{kind:=.function,names:=[],isGenerator:=al,isCoroutine:=al}
abbrev iJ:g7:=λ_ _ _ _ _ _=>False
abbrev E0:XK:=λ_ _ _=>False
def mZ:vW iJ X E0:=λ_ _ _ _ _ _ _ h=>h.elim
structure Z8(K:af)(x qual:Str)(st:Stmt)(f:am)(fd:FuncData):Prop where
 ex:∃(oc:ap)(od:Option am)(kV doc pm:ap)(an:Option am)(cdv ct:ap)(osl:Array (Option ap)),
  fd=gm x qual (mY st) (gZ st) (aA st) .none kV doc pm an cdv ct/\K.lookup f=ac ⟨oc,od,.func fd,osl⟩/\mL K cdv qual=ag
 kp:dN K (.ref f)=ag
section
variable{P:bv}{w:World}{K:af}{mg:Str->Option ap}{base:Heap}
theorem Z8.ok{x b:Str}{st:Stmt}{f:am}{j:FuncData}{N ps:List Str}{k:Nat}{sp:Sp}(F:Z8 K x b st f j)(S:aG N ps (aA st))(g:∀vs H Q E,sp vs H Q E->vs.length=ps.length)(d:∀(c:ap)(A:ce)(a:List Env)(s:ar)(H:Hp)(vs:List V)(Q:VK)(E:XK),jF k (A.deeper (envOfC b (aA st) s.heap.objs.size f c))->sp vs H Q E ->∃t,i9 (m8 iJ P w K mg base N b (aA st) f c A a s H E).XH (gZ st) t/\t {nx:=λ_ l=>Q .fW l,rt:=Q} (start N vs) H):bu P w K mg base iJ (k+1) f j ps sp:=by obtain⟨y,r,kV,o,v,u,c,p,m,rfl,lk,e⟩:=F.ex;refine i3 lk e S g λA a s H vs Q E n i=>?_;obtain⟨t,h,q⟩:=d c A a s H vs Q E n i;exists t,h.XH,q
theorem Z8.binds{x a:Str}{st:Stmt}{f:am}{g:FuncData}{ps:List Str}(F:Z8 K x a st f g)(h:∀(kV c e:ap)(d:Option am)(b ct:ap)(us:List ap),us.length=ps.length->bindArgs (gm x a (mY st) (gZ st) (aA st) .none kV c e d b ct) ⟨us,[]⟩=pure (ps.zip us)):Binds K g ps []:=by obtain⟨l,k,kV,c,e,d,b,ct,j,rfl,lk,i⟩:=F.ex;exact .all (h kV c e d b ct)
def xc{x a:Str}{st:Stmt}{f:am}{i:ap}{od g:Option am}{e:Array (Option ap)}{kV d h b ct:ap}(l:K.lookup f=ac ⟨i,od,.func (gm x a (mY st) (gZ st) (aA st) .none kV d h g b ct),e⟩)(c:mL K b a=ag)(k:dN K (.ref f)=ag):Z8 K x a st f (gm x a (mY st) (gZ st) (aA st) .none kV d h g b ct):=⟨⟨i,od,kV,d,h,g,b,ct,e,2,l,c⟩,k⟩
end
theorem Ye(a:jF k A):A.units+1<cLine:=bK (cE (by decide:1<=64) _) a.units
theorem cU{n:Nat}(h:n<=1000):n<a9:=bK h (!_)
section
variable{X:Cx}
theorem pv(i:Nat){x:Str}{b:Pos}(c:X.N[i]?=ac x:=by rfl)(e:j1 X.env.scope x:=by first|exact Or.inl rfl|exact Or.inr (Or.inl rfl)|exact Or.inr (Or.inr rfl))(d:(x==("__debug__" : Str))=al:=by decide) (a:(x==("__classdict__" : Str))=al:=by decide):PE X (.Name x b) (E7 i):=alk c e d a
end
theorem dh{A B:Prop}(h:B):if al=ag then A else B:=by rw[b5 aN];exact h
theorem cS{A B:Prop}(h:A):if ag=ag then A else B:=by rw[b4 rfl];exact h
theorem nA{A B:Prop}[Decidable c](a:c->A)(b:¬c->B):if c then A else B:=by by_cases h:c;rw[b4 h];exact a h;rw[b5 h];exact b h
def aB(H H':Hp):Prop:=∀b o,H b=ac o->H' b=ac o
def aB.refl(H:Hp):aB H H:=λ_ _ h=>h
def aB.trans(a:aB H H1)(b:aB H1 H2):aB H H2:=λc o h=>b c o (a c o h)
theorem aB.free(e:aB H H')(h:H' l=Option.none):H l=Option.none:=by cases q:H l with|none=>rfl|some o=>rw[e l o q] at h;cases h
theorem aB.seq{K:af}(e:aB H H')(h:bH K H a xs):bH K H' a xs:=by rcases h with (h|⟨o,h⟩)|h;exact .inl (.inl (e _ _ h));exact .inl (.inr ⟨o,e _ _ h⟩);exact .inr h
theorem adO{env:Env}(h:env.cells.lookup x=ac c):cellOf env x=pure c:=by unfold cellOf;rw[h]
noncomputable def oZ(env:Env):List (Str×NameKind)->List (Str×am)->List (Str×am)
 |[],cs=>cs
 | (n,k)::r,cs=>oZ env r (if k==.free then (n,(env.cells.lookup n).getD 0)::cs else cs)
theorem Wb{env:Env}:∀(ns:List (Str×NameKind))(cs:List (Str×am)),(∀n,(n,bj)∈ns->∃c,env.cells.lookup n=ac c) ->
 (forIn (m:=Sem) ns cs λx r=>match x with
  | (a,d)=>if (d==bj)=ag then do let c <- cellOf env a;pure (jj ((a,c)::r)) else pure (jj r))=pure (oZ env ns cs)
 |[],cs,_=>rfl
 | (n,k)::r,cs,h=>by
  rw[List.forIn_cons];by_cases b:(k==bj)=ag
  ·have g:k=.free:=by simpa using b
   obtain⟨c,e⟩:=h n (by rw[g];exact aP);simp only[b,if_true,adO e];have q:=Wb r ((n,c)::cs) λm f=>h m (aR _ f);show (forIn (m:=Sem) r ((n,c)::cs) _)=pure (oZ env r (if (k==.free)=ag then (n,(env.cells.lookup n).getD 0)::cs else cs));rw[b4 b,e];exact q
  ·simp only[b]
   have q:=Wb r cs λm f=>h m (aR _ f);show (forIn (m:=Sem) r cs _)=pure (oZ env r (if (k==.free)=ag then (n,(env.cells.lookup n).getD 0)::cs else cs));rw[b5 b];exact q
theorem pJ{scope:Scope}{env:Env}(h:∀n,(n,bj)∈scope.names->∃c,env.cells.lookup n=ac c):closureFor scope env=pure (oZ env scope.names []):=by
 have e:=Wb scope.names [] h;unfold closureFor;show (forIn (m:=Sem) scope.names [] (λx r=>match x with
  | (a,b)=>if (b==bj)=ag then do let c <- cellOf env a;pure (jj ((a,c)::r)) else pure (jj r)) >>= λs=>pure s)=_
 rw[e];rfl
theorem kZ{env:Env}{x:Str}{c:am}:∀(ns:List (Str×NameKind))(cs:List (Str×am)),(∀n,(n,bj)∈ns->∃c,env.cells.lookup n=ac c)->(cs.lookup x=ac c->env.cells.lookup x=ac c) ->
 (oZ env ns cs).lookup x=ac c->env.cells.lookup x=ac c
 |[],_,_,a,h=>a h
 | (n,k)::r,cs,g,a,h=>by
  unfold oZ at h;refine kZ r _ (λm l=>g m (aR _ l)) (λq=>?_) h;by_cases f:(k==bj)=ag
  ·have j:k=.free:=by simpa using f
   subst j;obtain⟨d,e⟩:=g n aP;rw[b4 f,e,gU] at q;by_cases b:(x==n)=ag
   ·have i:x=n:=by simpa using b
    rw[b] at q;subst i;rw[e];exact q
   ·simp only[b] at q
    exact a q
  ·rw[b5 f] at q
   exact a q
theorem JD{env:Env}{x:Str}:∀(ns:List (Str×NameKind))(cs:List (Str×am)),((cs.lookup x).isSome=ag∨(x,bj)∈ns)->((oZ env ns cs).lookup x).isSome=ag
 |[],_,h=>h.elim id λz=>b3 z (-_)
 | (n,k)::r,cs,h=>by
  unfold oZ;refine JD r _ ?_;rcases h with h|h
  ·refine .inl ?_
   split
   ·rw[gU]
    split
    ·rfl
    ·exact h
   ·exact h
  ·rcases aM.mp h with e|h
   ·cases e
    refine .inl ?_;rw[b4 (show (bj==bj)=ag from rfl),gU];simp
   ·exact .inr h
def fU(cap:List (Option Nat))(σ:St):St:=cap.map λo=>o.bind λj=>(σ[j]?).join
noncomputable def fH(X:Cx)(scope:Scope)(N':List Str)(fp:List am)(pins:List (am×Obj))(s₃:ar)(arx:Hp):Cx where
 prog:=X.prog
 w:=X.w
 K:=X.K
 mg:=X.mg
 base:=X.base
 A:=X.A
 N:=N'
 s₀:=s₃
 H₀:=arx
 env:=compEnvC scope (oZ X.env scope.names []) s₃.heap.objs.size X.env
 outer:=X.stack
 stack:=X.stack
 ex:=fp
 fn:=λ_=>al
 calm:=X.calm
 pn:=X.pn++pins
 xe:=λ_ _=>False
structure jG(X:Cx)(scope:Scope)(N':List Str)(cap:List (Option Nat)):Prop where
 kind:scope.kind=.function
 Qq:∀y∈scope.names,y.2≠.cell
 loc:∀y∈scope.names,y.2=.local->scope.names.lookup y.1=ac .local
 fr:∀y∈scope.names,y.2=.free->X.env.kindOf y.1=ac .cell
 frl:∀y∈scope.names,y.2=.free->scope.names.lookup y.1=ac .free
 nd:N'.Nodup
 len:cap.length=N'.length
 cap:∀(i j:Nat)(x:Str),cap[i]?=ac (ac j)->N'[i]?=ac x->X.N[j]?=ac x/\(x,bj)∈scope.names
section
variable{X:Cx}{scope:Scope}{N':List Str}{cap:List (Option Nat)}{fp:List am}{pins:List (am×Obj)}{s:ar}{σ:St}{H:Hp}
def jG.clos(S:jG X scope N' cap)(ok:X.Ok):∀n,(n,bj)∈scope.names->∃c,X.env.cells.lookup n=ac c:=λn a=>ok.has n (.inl (S.fr _ a rfl))
theorem Df{env:Env}{x:Str}:∀{names:List (Str×NameKind)}{k:NameKind},
 (names.map λ(n,k)=>if (k==bj&&env.scope.kind==.function&&env.kindOf n==ac .cell) then (n,NameKind.cell) else (n,k)).lookup x=ac k->k=.cell∨k=.free->(∀y∈names,y.2≠.cell)->(x,bj)∈names
 |[],_,h,_,_=>by simp at h
 | (n,q)::r,k,h,hk,c=>by
  have h':vV x ((if (q==bj&&env.scope.kind==.function&&env.kindOf n==ac .cell)=ag then (n,NameKind.cell) else (n,q))::(r.map λ(n,k)=>if (k==bj&&env.scope.kind==.function&&env.kindOf n==ac .cell) then (n,NameKind.cell) else (n,k)))=ac k:=h;by_cases b:(x==n)=ag
  ·have f:x=n:=by simpa using b
   subst f;by_cases hq:(q==bj&&env.scope.kind==.function&&env.kindOf x==ac .cell)=ag
   ·have:q=.free:=by
     rw[eS,eS] at hq
     simpa using hq.1.1
    subst this;exact aP
   ·rw[b5 hq,gU,b] at h'
    have e:q=k:=aT h';subst e;rcases hk with hk|hk
    ·exact b3 hk (c _ aP)
    ·rw[hk];exact aP
  ·have a:(x==n)=al:=by simpa using b
   refine aR _ (Df (env:=env) (k:=k) ?_ hk λy d=>c y (aR _ d));split at h'
   ·rw[gU,a] at h';exact h'
   ·rw[gU,a] at h';exact h'
theorem KY{env:Env}{x:Str}(b:env.scope.kind=.function)(c:env.kindOf x=ac .cell):∀{names:List (Str×NameKind)},names.lookup x=ac .free ->
 (names.map λ(n,k)=>if (k==bj&&env.scope.kind==.function&&env.kindOf n==ac .cell) then (n,NameKind.cell) else (n,k)).lookup x=ac .cell
 |[],h=>by simp at h
 | (n,k)::r,h=>by
  show vV x ((if (k==bj&&env.scope.kind==.function&&env.kindOf n==ac .cell)=ag then (n,NameKind.cell) else (n,k))::_)=_;cases a:x==n with
  |true=>
   have e:x=n:=by simpa using a
   subst e;simp only[gU,a] at h;have f:k=.free:=aT h;subst f;rw[b4 (by rw[b,c];rfl),gU,a]
  |false=>
   simp only[gU,a] at h;have d:=KY b c h;split
   ·rw[gU,a];exact d
   ·rw[gU,a];exact d
theorem jG.ok(S:jG X scope N' cap)(I:Inv X pins σ H s)(d:∀b∈fp,yc X pins H b)(f:∀b∈fp,∃o,s.heap.get? b=ac o):(fH X scope N' fp pins s H).Ok where
 mod:=I.ok.mod
 kind:=S.kind
 glob:=I.ok.glob
 blt:=I.ok.blt
 above:=az _
 inj:=λx y c j i=>I.ok.inj x y c (kZ _ _ (S.clos I.ok) (λz=>by simp at z) j) (kZ _ _ (S.clos I.ok) (λz=>by simp at z) i)
 has:=λx hx=>by
  have k:(x,bj)∈scope.names:=by
   rcases hx with hx|hx
   ·exact Df (env:=X.env) hx (.inl rfl) S.Qq
   ·exact Df (env:=X.env) hx (.inr rfl) S.Qq
  exact Option.isSome_iff_exists.mp (JD scope.names [] (.inr k))
 O3:=λx c h=>by cases h
 hd:=I.ok.hd
 frames:=I.ok.frames
 stk:=.inl rfl
 exf:=λb a=>by
  obtain⟨o,e⟩:=f b a;exists bB (a7 e),λx c h=>(d b a).2.2.2.2.1 x c (kZ _ _ (S.clos I.ok) (λz=>by simp at z) h)
 bs:=I.bs
 jz:=aE I.ok.jz I.sz
 aaf:=λb o e a=>by
  rcases (d b a).2.2.2.1 with z|z
  ·exact I.ok.aaf b o e z
  ·exact b3 (bF (a7 e) (aE I.ok.jz z)) (lG _)
 adA:=λb a g=>by
  rcases aM.mp (I.Av b g) with z|z
  ·exact (d b a).2.1 z
  ·exact (d b a).2.2.1 z
 Jz:=I.stack
 su:=I.VX
theorem jG.look(S:jG X scope N' cap)(I:Inv X pins σ H s){g:Heap}{m:Str->Option ap}(k:∀x c v,X.env.cells.lookup x=ac c->s.heap.IsCell c v->g.IsCell c v)(i:Nat)(x:Str)(v:V)(K:N'[i]?=ac x)(F:(fU cap σ)[i]?=ac (ac v)) :∃u,RelV v u/\Look (compEnvC scope (oZ X.env scope.names []) s.heap.objs.size X.env) g m x u:=by have B:∀x c,(oZ X.env scope.names []).lookup x=ac c->X.env.cells.lookup x=ac c:=λx c h=>kZ _ _ (S.clos I.ok) (λz=>by simp at z) h;have f:((cap[i]?).map λo=>o.bind λj=>(σ[j]?).join)=ac (ac v):=(by have:=F;unfold fU at this;rw[ak] at this;exact this);cases t:cap[i]? with|none=>rw[t] at f;cases f|some o=>(cases o with|none=>rw[t] at f;cases f|some j=>(rw[t] at f;obtain⟨J,b⟩:=S.cap i j x t K;have d:(σ[j]?).join=ac v:=aT f;have L:σ[j]?=ac (ac v):=(by cases w:σ[j]? with|none=>rw[w] at d;cases d|some y=>(cases y with|none=>rw[w] at d;cases d|some z=>rw[w] at d;have e:z=v:=aT d;rw[e]));have a:=S.fr _ b rfl;obtain⟨M,G,A⟩:=I.loc;obtain⟨u,r,l⟩:=A j x v J L (.inr (.inl a));exists u,r,4;rcases l with ⟨E,_⟩|⟨E,c,D,n⟩;have z:X.env.kindOf x=ac .cell:=a;rw[E] at z;cases z;obtain⟨q,p⟩:=Option.isSome_iff_exists.mp (JD (env:=X.env) (x:=x) scope.names [] (.inr b));have C:q=c:=(by have:=B x q p;rw[D] at this;exact (aT this).symm);subst C;exact .inr ⟨.inl (KY I.ok.kind a (S.frl _ b rfl)),q,p,k x q _ D n⟩))
theorem jG.start(S:jG X scope N' cap)(I:Inv X pins σ H s)(y:∀b∈fp,yc X pins H b)(r:∀b∈fp,∃o,s.heap.get? b=ac o){a:Heap}{tk:Nat}{m:Str->Option ap}(t:a.Ns s.heap.objs.size m)(k:∀b o,s.heap.get? b=ac o->a.get? b=ac o):Inv (fH X scope N' fp pins s H) [] (fU cap σ) H {s with heap:=a,toks:=tk}:=by have j:∀x c,(oZ X.env scope.names []).lookup x=ac c->X.env.cells.lookup x=ac c:=λx c h=>kZ _ _ (S.clos I.ok) (λz=>by simp at z) h;have f:∀{c:am}{v:Option ap},s.heap.IsCell c v->a.IsCell c v:=λ{c v} ⟨o,e,d⟩=>⟨o,k c o e,d⟩;exists S.ok I y r,2,I.bare,Un.kept k,⟨m,t,λi x v A u C=>S.look I (λ_ _ _ _ z=>f z) i x v A u⟩,λx c h=>?_,I.hok.fresh (az _),λx c h=>I.vp x c (j x c h),λp B=>?_,I.hok.kept k,4;obtain⟨v,z⟩:=I.cell x c (j x c h);exists v,f z;have g:p∈(X.pn++pins)++[]:=B;have l:p∈X.pn++pins:=(by rw[fF] at g;exact g);obtain⟨e,n,w,nf,d⟩:=I.pin p l;exists k _ _ e,n,bB (a7 e),λz=>?_,d;rcases aM.mp (I.Av p.1 z) with q|q;exact w q;exact nf q;unfold fU;rw[ah];exact S.len
theorem jG.again(S:jG X scope N' cap)(I:Inv X pins σ H s)(l:∀b∈fp,yc X pins H b)(a:Inv (fH X scope N' fp pins s H) [] S4 H8 s8):Inv (fH X scope N' fp pins s H) [] (fU cap σ) H8 s8:=by obtain⟨m,k,_⟩:=a.loc;exists a.ok,a.os,a.bare,a.base,⟨m,k,λi x v n g p=>S.look I (λy c u f h=>?_) i x v n g⟩,a.cell,a.free,a.vp,a.pin,a.hok,4;obtain⟨o,e,d⟩:=h;obtain⟨r,q⟩:=a.base.any e (I.vp y c f) λj=>(l c j).2.2.2.2.1 y c f rfl;exists _,q,d;unfold fU;rw[ah];exact S.len
theorem jG.back{g j:Hp}{d s3 s':ar}{r:St}{i:am}{a:Heap}(S:jG X scope N' cap)(x:Inv X pins σ g d)(C:∀b∈fp,yc X pins g b){o:HO}(H:s3.heap.objs.size=d.heap.objs.size+1)(k3:∀b u,d.heap.get? b=ac u->s3.heap.get? b=ac u)(s:i=d.heap.objs.size)(A:s3.os=d.os)(m:Inv (fH X scope N' fp pins s3 (upd g i o)) [] r j s')(p:Heap.SameBut s3.heap.objs.size s'.heap a):Inv X pins σ j {s' with heap:=a}:=by
 have J:Un (dL X.stack) fp g (upd g i o) d.heap s3.heap:=Un.laid k3 (by rw[s];exact az _) (x.hok.fresh (by rw[s];exact az _));have f:Un (dL X.stack) fp g j d.heap s'.heap:=J.trans m.base;have h:∀b ob,d.heap.get? b=ac ob->b≠s3.heap.objs.size:=λb ob e=>(by have:=a7 e;rw[H];exact bB (Nat.lt_succ_of_lt this));have t:j s3.heap.objs.size=ae:=m.free;have I:Un (dL X.stack) fp g j d.heap a:=
  ⟨λb ob e n l k=>(p.2 b (h b ob e)).trans (f.keep b ob e n l k),λb ob e n l k=>by
   obtain⟨E,q⟩:=f.slot b ob e n l k;exact⟨E,(p.2 b (h b ob e)).trans q⟩,f.free,λb ob e k=>by
   obtain⟨y,q⟩:=f.there b ob e k;exact⟨y,(p.2 b (h b ob e)).trans q⟩,f.tups,f.Ik,f.Jy⟩
 have hok:E6 X.prog X.w j a:=λb ob e=>(m.hok b ob e).stay (λc v D q=>(p.2 c (by rintro rfl;rcases D with z|z;rw[<- z,t] at e;cases e;rw[t] at z;cases z)).trans q) (λ_ q=>q) λ_ _ q=>q;refine x.ae0 (s':={s' with heap:=a}) (ch:=fp) (m.os.trans A) I hok m.bare λb l=>?_;obtain⟨_,F,_,B,K,G⟩:=C b l;exists B,F,K,G
def kQ(X:Cx)(ifs:List Expr)(t:TT):Prop:=
 ∀(pins:List (am×Obj))(s:ar)(σ:St)(H:Hp)(Q:Bool->Hp->Prop),Inv X pins σ H s->t σ H Q ->
  bt (model X.prog X.w) X.A (forIn ifs ag λc r=>if r=ag then do let ok <- isTrue c X.env (eval c X.env);pure (jj ok) else pure (jj r)) (TP X pins σ Q) X.xe s
def si:TT:=λ_ H Q=>Q ag H
def gk:kQ X [] si:=λ_ _ _ H _ I h=>wpAny_tests_nil ⟨H,I,h⟩
def xB(h:PT X c t):kQ X [c] t:=λpins s σ H Q I hq=>wpAny_tests_one (h pins s σ H Q I hq)
def sh(wi:TI)(cap:List (Option Nat))(g:TG)(tc:TT)(te:TE):TE:=λσ H Q=>wi σ H λJ H1=>∀acc,H1 acc=ae->∃W:Nat->Nat->Hp->Prop,(∃m,W 0 m (upd H1 acc (.lst [])))/\∀i m H,W i m H ->
 (J.stop i H/\Q (.ref acc) H)∨(J.go i H/\∀x H',J.Mc i H x H'->g x (fU cap σ) H' λσ2 H2=>tc σ2 H2 λb H3=>if b=ag then te σ2 H3 λy H4=>∃xs,H4 acc=ac (.lst xs)/\xs.length<a9 /\
  ∃m',m'<m/\W (i+1) m' (upd H4 acc (.lst (xs++[y]))) else ∃m',m'<m/\W (i+1) m' H3)
theorem UP{t a k:PySem.Expr}{p:List PySem.Expr}{scope:Scope}{B:Pos}{E q:ap}{env:Env}{prog:bv}{w:World}{A:ce}{s:ar}{R:Result->ar->Prop}(I:Nat->ar->Prop)
 (D:∀n s,I n s->bt (model prog w) A (pyNext E) (λr d=>match r with
  |none=>R (.ok .next) d
  |some v=>bt (model prog w) A (letOwnedTupleGo a E v) (λ_ e=>bt (model prog w) A (assign a env v) (λ_ g=>
   bt (model prog w) A (forIn p ag λc r=>if r=ag then do let ok <- isTrue c env (eval c env);pure (jj ok) else pure (jj r)) (λok b=>if ok=ag then bt (model prog w) A (eval t env) (λx f=>
    bt (model prog w) A (call (.builtin "list.append") [q,x]) (λ_ j=>∃m,m<n/\I m j) (λ_ _=>False) f) (λ_ _=>False) b
    else ∃m,m<n/\I m b) (λ_ _=>False) g)
   (λ_ _=>False) e) (λ_ _=>False) d) (λ_ _=>False) s)
 (n:Nat) (h:I n s):codeAny (model prog w) A (.compLoop (.ListComp t [⟨a,k,p,(0)⟩] scope B) 0 E q env) R s:=by refine codeAny_loop rfl I (λn s G=>?_) n h;show bt _ A ((compTurn (.ListComp t [⟨a,k,p,(0)⟩] scope B) 0 E q env).onRaise (λx=>do noteFrame x env;theTreesLotGoes x)) _ _ s;refine wpAny_noted ?_;rw[compTurn_list];refine aw (wpAny_standAt (aw (wpAny_mono (D n s G) (λr d i=>?_) λ_ _ z=>z.elim)));cases r with|none=>exact ax i|some v=>(refine aw (wpAny_mono i (λ_ e o=>?_) λ_ _ z=>z.elim);refine aw (wpAny_mono o (λ_ g u=>?_) λ_ _ z=>z.elim);refine aw (wpAny_mono u (λF b l=>?_) λ_ _ z=>z.elim);cases F with|false=>exact ax ⟨2,l⟩|true=>exact aw (aw (wpAny_mono l (λx f y=>aw (wpAny_mono y (λ_ j C=>ax (ax ⟨2,C⟩)) λ_ _ z=>z.elim)) λ_ _ z=>z.elim)))
theorem Qs{O tg F:Expr}{M:List Expr}{pos:Pos}{g:TG}{tc:TT}{te:TE}{Q:VK}{a:ar}{B:Hp}{it:am}{tn:Nat->Heap->Prop}{J:It}{E:ap->ar->Prop}{RR:ap->am->Result->ar->Prop}(S:jG X scope N' cap)(hc:X.calm=ag)(hg:∀fp pins s H,PG (fH X scope N' fp pins s H) tg g)(hts:∀fp pins s H,kQ (fH X scope N' fp pins s H) M tc)(he:∀fp pins s H,PE (fH X scope N' fp pins s H) O te)(I2:Inv X pins σ B a)(T:eC X.prog X.w X.K tg J fp it tn)(U:tn 0 a.heap)(V:∀b∈fp,yc X pins B b)(h:∀k,B k=ae->∃W:Nat->Nat->Hp->Prop,(∃m,W 0 m (upd B k (.lst [])))/\∀i m H,W i m H ->(J.stop i H/\Q (.ref k) H)∨(J.go i H/\∀x j,J.Mc i H x j->g x (fU cap σ) j λσ2 B=>tc σ2 B λb H3=>if b=ag then te σ2 H3 λy H4=>∃xs,H4 k=ac (.lst xs)/\xs.length<a9 /\∃l,l<m/\W (i+1) l (upd H4 k (.lst (xs++[y]))) else ∃l,l<m/\W (i+1) l H3))(hRR:∀C s' j,(∃m,s'.heap.Ns C m)->(∀L,Heap.SameBut C s'.heap L->Inv X pins σ j {s' with heap:=L})->Q (.ref a.heap.objs.size) j->j C=ae->a.heap.objs.size<C ->RR (.ref a.heap.objs.size) C (.ok .next) s') :bt (model X.prog X.w) X.A (newList []) (λk Z=>bt (model X.prog X.w) X.A (newFunctionEnv scope X.env.globals (oZ X.env scope.names []) [] X.env.qual ae .none (ac X.env)) (λD s₄ => codeAny (model X.prog X.w) X.A (.compStart (.ListComp O [⟨tg,F,M,(0)⟩] scope pos) 0 (.ref it) k {D with scope:=relabel scope X.env}) (RR k D.locals) s₄) E Z) E a:=by refine wpAny_newObj_type (wpAny_newFunctionEnv S.Qq (by intro y hy;simp at hy) (λv ye yf=>?_) S.kind);dsimp only at ye yf ⊢;have hfr:B a.heap.objs.size=ae:=I2.hok.fresh (az _);generalize N:a.heap.push {cls:=.type "list",dict:=ae,data:=.seq ([]:List ap).toArray}=h3 at ye yf ⊢;have e3:h3.objs.size=a.heap.objs.size+1:=(by rw[<- N,Heap.size_push]);have k3:∀b u,a.heap.get? b=ac u->h3.get? b=ac u:=λb u e=>(by rw[<- N];exact a5 _ e);have I3:Inv X pins σ (upd B a.heap.objs.size (.lst [])) {a with heap:=h3,toks:=a.toks}:=(by refine I2.laid (t':=a.toks) k3 (az _) ?_;exists bA _,[],(0),.nil,by rw[<- N];exact a6 _ rfl);have f3:∀b∈fp,yc X pins (upd B a.heap.objs.size (.lst [])) b:=λb f=>(by obtain⟨o,e,_⟩:=T.obj _ _ U b f;exists by rw[aI (bB (a7 e))];exact (V b f).1,(V b f).2);have E1:∀b∈fp,∃o,h3.get? b=ac o:=λb f=>(by obtain⟨o,e,_⟩:=T.obj _ _ U b f;exists o,k3 b o e);have kp:∀b o,h3.get? b=ac o->v.get? b=ac o:=λb o e=>yf.extBut b o (bB (a7 e)) (a5 _ e);have I4:=S.start (fp:=fp) (tk:=a.toks+([]:List (Str×ap)).length) I3 f3 E1 ye kp;have Hy:tn 0 v:=T.keep _ _ _ U λb _ o e=>kp b o (k3 b o e);obtain⟨W,⟨m0,w0⟩,turn⟩:=h a.heap.objs.size hfr;let I:=fH X scope N' fp pins {a with heap:=h3,toks:=a.toks} (upd B a.heap.objs.size (.lst []));have t:∀{zP:List (am×Obj)}{j:Hp},(∀p∈zP,p.1∉fp)->(∀b∈fp,j b=ae)->∀b∈fp,yc I zP j b:=λ{zP j}hpn hn b f=>(by obtain⟨o,e⟩:=E1 b f;exists hn b f,bB (a7 e),λz=>?_,.inl f,λx c hx=>(f3 b f).2.2.2.2.1 x c (kZ _ _ (S.clos I2.ok) (λz=>by simp at z) hx),λp hp=>?_;rcases aM.mp (I2.Av b z) with q|q;exact (V b f).2.1 q;exact (V b f).2.2.1 q;rcases bh.mp hp with q|q;exact (V b f).2.2.2.2.2 p q;exact λz=>hpn p q (z▸f));have G:codeAny (model X.prog X.w) X.A (.compLoop (.ListComp O [⟨tg,F,M,(0)⟩] scope pos) 0 (.ref it) (.ref a.heap.objs.size) I.env) (RR (.ref a.heap.objs.size) h3.objs.size) {a with heap:=v,toks:=a.toks+([]:List (Str×ap)).length}:=(by refine UP (λn s'=>∃i j,Inv I [] (fU cap σ) j s'/\tn i s'.heap/\(∀b∈fp,j b=ae)/\W i n j) ?_ m0 ⟨(0),_,I4,Hy,λb f=>(f3 b f).1,w0⟩;rintro n s5 ⟨i,H5,I5,S2,z0,w5⟩;rcases turn i n H5 w5 with ⟨stop,qn⟩|⟨go,step⟩;(·refine wpAny_mono (T.done I rfl rfl rfl hc i [] s5 (fU cap σ) H5 (λ_ _=>False) I5 (t (λ_ z=>b3 z (-_)) z0) S2 stop) (λr s6 ⟨hr,I6⟩=>?_) λ_ _ z=>z;subst hr;refine hRR _ s6 H5 ?_ (λL sb=>S.back I2 V (s3:={a with heap:=h3,toks:=a.toks}) e3 k3 rfl rfl I6 sb) qn I6.free (by rw[e3];exact pG _);obtain⟨m,hn,_⟩:=I6.loc;exists m,hn);refine wpAny_mono (T.item I rfl rfl rfl hc i [] s5 (fU cap σ) H5 (λ_ _=>False) I5 (t (λ_ z=>b3 z (-_)) z0) S2 go) (λr s6 ⟨u,hr,h6⟩=>?_) λ_ _ z=>z;subst hr;refine wpAny_mono h6 (λ_ s7 ⟨x,H7,I7,r7,y7,Td,fr7⟩=>?_) λ_ _ z=>z;have I7':=I7.pinned (t (λ_ z=>b3 z (-_)) fr7) (T.obj _ _ Td);have again:∀{Y:St}{R:Hp}{P:ar},Inv I ([]++JB fp s7.heap) Y R P->(∃l,l<n/\W (i+1) l R)->∃m,m<n/\∃i j,Inv I [] (fU cap σ) j P/\tn i P.heap/\(∀b∈fp,j b=ae)/\W i m j:=λ{Y R P}I8 n8=>(by obtain⟨l,hm,w8⟩:=n8;have pn:∀b∈fp,∃o,s7.heap.get? b=ac o/\P.heap.get? b=ac o/\R b=ae:=λb f=>(by obtain⟨o,e,d⟩:=T.obj _ _ Td b f;have q:=I8.pin (b,o) (bQ _ (bQ _ (tU f e)));exists o,e,q.1,q.2.1);exists l,hm,i+1,R,S.again I3 f3 I8.yd,T.keep _ _ _ Td λb f o e=>?_,λb f=>?_,w8;obtain⟨o',e',q,_⟩:=pn b f;rw[e] at e';cases e';exact q;obtain⟨_,_,_,q⟩:=pn b f;exact q);refine wpAny_mono (hg fp pins _ _ _ s7 (fU cap σ) H7 x u _ I7' r7 (step x H7 y7)) (λ_ P ⟨Y,R,I8,q8⟩=>?_) λ_ _ z=>z;refine wpAny_mono (hts fp pins _ _ _ P Y R _ I8 q8) (λb s9 ⟨H9,I9,q9⟩=>?_) λ_ _ z=>z;cases b with|false=>exact again I9 q9|true=>refine wpAny_mono (he fp pins _ _ _ s9 Y H9 _ I9 q9) (λu Z9 ⟨y,XJ,I10,r10,xs,hx,hl,q10⟩=>?_) λ_ _ z=>z;refine wpAny_mono (gQ (X:=I) _ Z9 Y XJ (.ref a.heap.objs.size) [y] (.ref a.heap.objs.size) [u] (λ_ j=>∃l,l<n/\W (i+1) l j) I10 rfl (.cons r10 .nil) ⟨_,xs,y,22,hx,hl,q10⟩) (λ_ S5 ⟨_,UQ,I11,_,q11⟩=>again I11 q11) λ_ _ z=>z);exact codeAny_compStart_list G (T.self _ 0 _ _ _ Hy G)
theorem fN{c tg a:Expr}{b:List Expr}{i:Pos}{l:TI}{g:TG}{n:TT}{te:TE}(S:jG X scope N' cap)(E:X.calm=ag)(t:PI X tg a l)(o:∀fp pins s H,PG (fH X scope N' fp pins s H) tg g)(j:∀fp pins s H,kQ (fH X scope N' fp pins s H) b n)(u:∀fp pins s H,PE (fH X scope N' fp pins s H) c te)(p:∀x,foldedSetIterable a X.env x=pure x:=by intro _;rfl) :PE X (.ListComp c [⟨tg,a,b,(0)⟩] scope i) (sh l cap g n te):=by intro pins s σ H Q I h;rw[eval_ListComp];refine wpAny_comprehension_free (use:=ae) rfl p (pJ (S.clos I.ok)) S.kind S.loc (g8 (t pins s σ H _ I h) λv O F=>g8 F λL D q=>?_);obtain⟨N,fp,U,J,R,e,B,T,f,K,y⟩:=q;subst e;refine Qs (RR:=λk C=>compPost (model X.prog X.w) X.A X.xe ae (EP X pins σ Q) k C) S E o j u B T f K y ?_;intro C P r ⟨m,z⟩ M hq _ _;exists m,z,λd G=>⟨.ref D.heap.objs.size,r,M d G,2,hq⟩
theorem Dg{k tg f:Expr}{j:List Expr}{t:Pos}{V:TI}{g:TG}{W:TT}{te:TE}{i:Nat}{x:Str}{d l:Pos}(hN:X.N.Nodup)(E:X.N[i]?=ac x)(hx:Loc X.env.scope x)(S:jG X scope N' cap)(hc:X.calm=ag)(hi:PI X tg f V)(hg:∀fp pins s H,PG (fH X scope N' fp pins s H) tg g)(M:∀fp pins s H,kQ (fH X scope N' fp pins s H) j W)(he:∀fp pins s H,PE (fH X scope N' fp pins s H) k te)(hs:∀x,foldedSetIterable f X.env x=pure x:=by intro _;rfl)(U:swapsWith (.ListComp k [⟨tg,f,j,(0)⟩] scope t) (ac (.Name x d)) l.line X.env=pure ag:=by rfl)(hf:X.fn x=ag∨X.env.scope.names.lookup x=ac .local:=by first|exact .inl rfl|exact .inr rfl|assumption) :PS X (.Assign [.Name x d] (.ListComp k [⟨tg,f,j,(0)⟩] scope t) l) (VZ (sh V cap g W te) (pH i)):=by intro pins s σ H D I h;rw[exec_Assign_Name_used _ _ _ _ U];refine aw (wpAny_standAt (aw ?_));show bt _ X.A (do let _ <- comprehension (.ListComp k [⟨tg,f,j,(0)⟩] scope t) scope X.env _ (newList []) al (eval f X.env) (ac (assign (.Name x d) X.env))) _ _ s;refine aw (wpAny_mono (wpAny_comprehension_free (use:=ac (assign (.Name x d) X.env)) (Q:=λ_ n=>SP X pins D .next n) rfl hs (pJ (S.clos I.ok)) S.kind S.loc (g8 (hi pins s σ H _ I h) λv s1 h1=>g8 h1 λitv P h2=>?_)) (λ_ n hq=>ax (ax hq)) λ_ _ e=>e);obtain⟨it,fp,tn,J,H2,e,r,T,R,f2,hW⟩:=h2;subst e;refine Qs (RR:=λO C=>compPost (model X.prog X.w) X.A X.xe (ac (assign (.Name x d) X.env)) (λ_ n=>SP X pins D .next n) O C) (Q:=λx H1=>pH i x σ H1 D.nx) S hc hg M he r T R f2 hW ?_;intro C n Y ⟨m,hn⟩ hI hq hC B;have I':Inv X pins σ Y n:=hI n.heap (.refl ..);show bt _ _ (assign (.Name x d) X.env (.ref P.heap.objs.size)) _ _ n;refine wpAny_assign_Name (Mf (v:=.ref P.heap.objs.size) I' hN E hx rfl (λs6 Z ⟨a,sb,ha⟩=>?_) hf);have u:∀b,b<P.heap.objs.size->b≠C:=λb L=>bB (Nat.lt_trans L B);have K:a≠C:=(by rcases ha with z|z;rw[z];exact u _ r.lt;obtain⟨_,q⟩:=r.cell x a z;exact u _ q.lt);exists m,hn.sameBut sb (bS K),λh' G=>⟨_,Y,Z.turned (t':=s6.toks) (λb o L e=>(G.2 b L).trans e) hC (bS (u _ r.lt)) (.inr (aE r.sz (oX B))) (λy c F=>?_) (λp hp=>?_),hq⟩;obtain⟨_,q⟩:=r.cell y c F;exact u _ q.lt;exact u _ (a7 (r.pin p hp).1)
end
section
variable{X:Cx}
noncomputable def km(K:af)(a:am):It:=
 ⟨λi H=>∃xs x,bH K H a xs/\xs[i]?=ac x,λi H x H'=>∃p v,H p=ae/\x=.ref p/\H'=upd H p (.tup [.int (i:Nat),v])/\∀xs,bH K H a xs->xs[i]?=ac v,λi H=>∃xs,bH K H a xs/\xs.length<=i⟩
theorem adR{P:bv}{w:World}{K:af}{G:List Expr}{x1}{pos:Pos}(a e f:am)(F:e≠f):
 eC P w K (.Tuple G x1 pos) (km K a) [e,f] e (λi h=>∃old,IsEnum h e f (i:Nat) old/\h.IsListIter f a i) where
 mem:=-_
 obj:=λi h ⟨old,st,y⟩b hb=>by
  rcases aM.mp hb with z|hb
  ·subst z
   exact⟨_,st,λv z=>by
    have z':Data.fields _=Data.cell v:=z;cases z'⟩
  ·have z:b=f:=by simpa using hb
   subst z;obtain⟨o,e,c,d⟩:=y;exists o,e,λv z=>by rw[d] at z;cases z
 keep:=λi h h' ⟨old,st,y⟩k=>⟨old,k e (-_) _ st,y.at λo q=>k f (-_) o q⟩
 item:=by
  intro X S T Q g i B s σ H E I A ⟨old,st,y⟩ W;subst S T Q;obtain⟨Y,x,hq,M⟩:=W;obtain⟨U,L,p,hz⟩:=I.list hq;obtain⟨u,hu,ru⟩:=L.get M;refine wpAny_pyNext_enum_item st y p.isList (x:=u) (by simpa using hu) F λh' eo N tu sz kp=>?_;exists 1,wpAny_letOwnedTupleGo_enum eo λD e2 C=>?_;have j:H s.heap.objs.size=ae:=I.hok.fresh (az _);have nE:∀b o,H b=ac o->b≠e:=λb o q z=>by rw[z,(A e (-_)).1] at q;cases q
  have nI:∀b o,H b=ac o->b≠f:=λb o q z=>by rw[z,(A f (-_)).1] at q;cases q
  have t:∀b o,b≠e->b≠f->s.heap.get? b=ac o->D.get? b=ac o:=λb o h1 h3 q=>(C.2 b h1).trans (kp b o h1 h3 q);have R:e<s.heap.objs.size:=a7 st;have O:D.get? s.heap.objs.size=ac {cls:=.type "tuple",data:=.seq #[.int (i:Nat) s.toks,u]}:=(C.2 _ (Nat.ne_of_gt R)).trans tu;have J:D.IsListIter f a (i+1):=N.at λo q=>(C.2 f (bS F)).trans q;have l:∀b,b∉[e,f]->b≠e/\b≠f:=λb hb=>⟨λz=>hb (by simp[z]),λz=>hb (by simp[z])⟩;have fre:∀b∈[e,f],upd H s.heap.objs.size (.tup [.int (i:Nat),x]) b=ae:=λb hb=>by
   obtain⟨o,q,_⟩:∃o,s.heap.get? b=ac o/\True:=by
    rcases aM.mp hb with z|hb
    ·subst z;exists _,st,trivial
    ·have z:b=f:=by simpa using hb
     subst z;obtain⟨o,q,_⟩:=y;exists o,q,trivial
   rw[aI (bB (a7 q))];exact (A b hb).1
  have I1:Inv X B σ (upd H s.heap.objs.size (.tup [.int (i:Nat),x])) {s with heap:=D,toks:=s.toks+1}:=by
   refine I.step (g':=s.gens) (d':=s.drawn) (ch:=[e,f]) (λb hb=>?_) (λb o _ _ g q _=>t b o (l b g).1 (l b g).2 q) (λb o _ _ g q _=>⟨o.slots,t b o (l b g).1 (l b g).2 q⟩)
    (λb o _ q n=>by rw[aI (bB (a7 q))];exact n) (λb o g q=>⟨o,t b o (l b g).1 (l b g).2 q⟩) (λb Y q=>by rw[aI (aJ q j)];exact q) (λb o u q=>by rw[aI (aJ q j)];exact q)
    (λb ps q=>⟨#[],by rw[aI (aJ q j),q];simp⟩) (λm hm=>?_) (λb o q=>?_) I.bare
   ·obtain⟨_,f1,_,Z,f4,V⟩:=A b hb
    exists Z,f1,f4,V
   ·obtain⟨o,es,ep,ho,r⟩:=hm
    exists o,es,ep,t _ o (bS (A e (-_)).2.1) (bS (A f (-_)).2.1) ho,r
   ·by_cases hb:b=s.heap.objs.size
    ·subst hb
     rw[aq] at q;cases q;exists by show 2<=a9;decide,[.int (i:Nat) s.toks,u],.cons ⟨1⟩ (.cons ru .nil),⟨_,O,7⟩
    ·rw[aI hb] at q
     refine (I.hok b o q).stay (λc v g r=>t c v ?_ ?_ r) (λc r=>by rw[aI (aJ r j)];exact r) λc Y r=>by rw[aI (aJ r j)];exact r
     ·rcases g with z|z
      ·rw[z];exact nE b o q
      ·exact nE c _ z
     ·rcases g with z|z
      ·rw[z];exact nI b o q
      ·exact nI c _ z
  exists .ref s.heap.objs.size,_,I1,2,⟨_,x,j,22,λys hy=>by rw[I.Qk hy hq];exact M⟩,⟨u,4,J⟩,fre;have e2':IsEnum D e f ((i:Int)+1) u:=e2;show IsEnum D e f (((i+1:Nat):Int)) u;rw[Int.natCast_add];exact e2'
 done:=by
  intro X S T Q g i B s σ H E I A ⟨old,st,y⟩ W;subst S T Q;obtain⟨Y,hq,M⟩:=W;obtain⟨U,L,p,hz⟩:=I.list hq;obtain⟨f0,f1,f2,Z,f4,V⟩:=A f (-_);have hl:=L.length;exact wpAny_pyNext_enum_end (I.ok.hd g) st y p.isList (by simp;lia) λh' eb=>⟨2,I.turned (t':=s.toks) (λb o hb q=>eb b o hb q) f0 f1 Z f4 V⟩
 self:=λ_ _ _ _ _ ⟨_,st,_⟩h=>wpAny_pyIter_enum st h
def Ts(K:af)(ta:TA):TI:=λσ H R=>ta σ H λvs H1=>∃a xs,vs=[.ref a]/\bH K H1 a xs/\R (km K a) H1
theorem aiq{l:Expr}{o:TA}{p g:Pos}{i:List Expr}{x1}{f:Pos}(x:Gl X "enumerate")(J:X.mg "enumerate" = ae)(w:PA X [l] o)(y:bc [l] X.env=[(al,eval l X.env)]:=by rfl) :PI X (.Tuple i x1 f) (.Call (.Name "enumerate" p) [l] [] g) (Ts X.K o):=by intro c s m H R I h;refine Call_ (Qi I x J boot_enumerate (PyProof.Rows.callWith_type1 (g8 (w g c s m H _ I h) λM d ⟨L,k,j,v,G⟩=>?_) y rfl));obtain⟨a,O,e,hq,q⟩:=G;subst e;cases v with|cons r B=>(cases B;cases r;obtain⟨D,N,u,Q⟩:=j.list hq;refine call_enumerate_list u.isList λC t E P F=>wpAny_pyIter_enum t ?_;have A:Inv X c m k {d with heap:=C,toks:=d.toks}:=j.kept F;have n:∀b,d.heap.objs.size<=b->yc X c k b:=λb hb=>j.adC hb (j.hok.fresh hb);exists d.heap.objs.size+1,[d.heap.objs.size+1,d.heap.objs.size],33,k,2,A,adR a _ _ (Nat.succ_ne_self _),⟨.none,t,E⟩,λb hb=>?_,q;rcases aM.mp hb with z|hb;subst z;exact n _ ∅;have z:b=d.heap.objs.size:=(by simpa using hb);subst z;exact n _ ∅)
end
theorem aB.iA{K:af}(e:aB H H')(h:dY K H a xs):dY K H' a xs:=by rcases h with (h|⟨o,h⟩)|h;exact .inl (.inl (e _ _ h));exact .inl (.inr ⟨o,e _ _ h⟩);exact .inr h
theorem aB.new{H:Hp}(h:H p=ae):aB H (upd H p o):=λb u e=>by rw[aI (aJ e h)];exact e
theorem aB.out(s:aB H0 H)(h:H0 p=ae):aB H0 (upd H p o):=λb u e=>by rw[aI (aJ e h)];exact s b u e
mutual
def Rep(K:af)(H:Hp):PyData->V->Prop
 |.none,v=>v=.fW
 |.bool b,v=>v=.bl b
 |.int i,v=>v=.int i
 |.str x,v=>v=.str x
 |.list ds,v=>∃a vs,v=.ref a/\bH K H a vs/\ee K H ds vs
 |.tuple ds,v=>∃a vs,v=.ref a/\dY K H a vs/\ee K H ds vs
 |.dict _,_=>False
def ee(K:af)(H:Hp):List PyData->List V->Prop
 |[],vs=>vs=[]
 |d::ds,vs=>∃v r,vs=v::r/\Rep K H d v/\ee K H ds r
end
section
variable{K:af}{H H':Hp}
mutual
theorem Rep.mono(s:aB H H'):∀{d:PyData}{v:V},Rep K H d v->Rep K H' d v
 |.none,_,h=>h
 |.bool _,_,h=>h
 |.int _,_,h=>h
 |.str _,_,h=>h
 |.list ds,_,⟨a,vs,e,q,r⟩=>⟨a,vs,e,s.seq q,ee.mono s r⟩
 |.tuple ds,_,⟨a,vs,e,q,r⟩=>⟨a,vs,e,s.iA q,ee.mono s r⟩
 |.dict _,_,h=>h
theorem ee.mono(s:aB H H'):∀{ds:List PyData}{vs:List V},ee K H ds vs->ee K H' ds vs
 |[],_,h=>h
 |_::_,_,⟨v,r,e,q,t⟩=>⟨v,r,e,q.mono s,ee.mono s t⟩
end
theorem ee.length:∀{ds:List PyData}{vs:List V},ee K H ds vs->vs.length=ds.length
 |[],_,h=>by rw[h];rfl
 |_::_,_,⟨v,r,e,_,t⟩=>by rw[e,bU,bU,ee.length t]
theorem ee.get:∀{ds:List PyData}{vs:List V}{i:Nat}{d:PyData},ee K H ds vs->ds[i]?=ac d->∃v,vs[i]?=ac v/\Rep K H d v
 |[],_,_,_,_,e=>by simp at e
 |x::ds,_,0,d,⟨v,r,e,q,t⟩,h=>by
  subst e;have z:x=d:=by simpa using h
  subst z;exists v,2,q
 |_::ds,_,i+1,d,⟨v,r,e,q,t⟩,h=>by
  subst e;obtain⟨y,a,b⟩:=ee.get (i:=i) (d:=d) t (by simpa using h);exists y,by simpa using a,b
theorem vq:∀ns:List Int,ee K H (ns.map PyData.int) (ns.map cf)
 |[]=>rfl
 |n::ns=>⟨.int n,12,vq ns⟩
theorem Fg:∀{ns:List Int}{vs:List V},ee K H (ns.map PyData.int) vs->vs=ns.map cf
 |[],_,h=>h
 |n::ns,_,⟨v,r,e,q,t⟩=>by
  have q':v=.int n:=q;rw[e,q',Fg t];rfl
def Rep.UR{ns:List Int}(h:dY K H a (ns.map cf)):Rep K H (.tuple (ns.map .int)) (.ref a):=⟨a,1,h,vq ns⟩
theorem Rep.Fi{ns:List Int}(h:Rep K H (.tuple (ns.map .int)) v):∃a,v=.ref a/\dY K H a (ns.map cf):=by obtain⟨a,b,e,q,r⟩:=h;rw[Fg r] at q;exists a,e,q
end
section
variable{X:Cx}{pins:List (am×Obj)}{σ:St}{H:Hp}{s:ar}
mutual
theorem Rep.reads(I:Inv X pins σ H s):∀{d:PyData}{v:V}{u:ap},Rep X.K H d v->RelV v u->∃m,Reads s.heap u d m
 |.none,_,_,h,r=>by cases h;cases r;exists _,.none
 |.bool b,_,_,h,r=>by cases h;cases r;exists _,.bool b
 |.int i,_,_,h,r=>by cases h;obtain⟨t,rfl⟩:=r;exists _,.int i t
 |.str x,_,_,h,r=>by cases h;obtain⟨t,rfl⟩:=r;exists _,.str x t
 |.list w,_,_,⟨a,p,e,q,t⟩,r=>by
  subst e;cases r;obtain⟨k,f,⟨o,n,j,c,y,g⟩,_⟩:=I.list q;obtain⟨m,l⟩:=ee.reads I t f;exists _,.list j c g (by simpa using l)
 |.tuple w,_,_,⟨a,p,e,q,t⟩,r=>by
  subst e;cases r;obtain⟨k,f,⟨o,j,c,n,g⟩,_⟩:=I.tuple q;obtain⟨m,l⟩:=ee.reads I t f;exists _,.tuple j c g (by simpa using l)
 |.dict _,_,_,h,_=>h.elim
theorem ee.reads(I:Inv X pins σ H s):∀{ds:List PyData}{vs:List V}{us:List ap},ee X.K H ds vs->ck vs us->∃a,ReadsAll s.heap us ds a
 |[],_,_,h,r=>by cases h;cases r;exists _,.nil
 |_::_,_,_,⟨v,i,e,q,t⟩,r=>by
  subst e;cases r with
  |cons b d=>
   obtain⟨a,f⟩:=q.reads I b;obtain⟨g,c⟩:=ee.reads I t d;exists _,.cons f c
end
end
section
variable{X:Cx}
def Rs(K:af)(u:Nat):R2:=λx y H Q=>∃da db,Rep K H da x/\Rep K H db y/\da.canLay0=ag/\db.canLay0=ag/\u+min da.depth db.depth<cLine/\Q (.bl (PyData.eqv da db)) H
def Re(K:af)(u:Nat):R2:=λx y H Q=>∃da db,Rep K H da x/\Rep K H db y/\da.canLay0=ag/\db.canLay0=ag/\u+min da.depth db.depth<cLine/\Q (.bl (!PyData.eqv da db)) H
theorem Ax:E3 X (bn .Eq) (Rs X.K X.A.units):=by intro a s l H x y v u Q I g h ⟨n,m,b,e,c,f,d,q⟩;obtain⟨o,j⟩:=b.reads I g;obtain⟨k,i⟩:=e.reads I h;exact SeqAt.compareEq_reads j i c f d ⟨.bl _,H,I,2,q⟩
theorem xb:E3 X (bn .NotEq) (Re X.K X.A.units):=by intro a s l H x y v u Q I g h ⟨n,m,b,e,c,f,d,q⟩;obtain⟨o,j⟩:=b.reads I g;obtain⟨k,i⟩:=e.reads I h;exact SeqAt.compareNe_reads j i c f d ⟨.bl _,H,I,2,q⟩
theorem US(n:X.calm=ag):qQ X (.type "set") (λxs H Q=>∃(a:am)(ns:List Int),xs=[.ref a]/\bH X.K H a (ns.map cf)/\cx ns+1<scanBound /\∀p,H p=ae->Q (.ref p) (upd H p (.set (λd=>(firstMet (λi=>ns.getD i 0) (cx ns)).any (·==d)) (firstMet (λi=>ns.getD i 0) (cx ns)).length))):=by intro k s w H xs v Q I r ⟨a,ns,e,hq,l,q⟩;subst e;obtain⟨u,e,m⟩:=ck.one r;subst e;cases m;obtain⟨f,h,p,z⟩:=I.list hq;have j:=h.length;rw[ah] at j;have c:f.toArray.size=ns.length:=(by simp[j]);refine call_set_list (I.ok.hd n) p.isList (ns:=ns) (by simpa using intsAre_of h) (by rw[c];exact l) λy x g t=>?_;rw[c] at g;exists .ref s.heap.objs.size,_,I.laid (o:=.set (λd=>(firstMet (λi=>ns.getD i 0) (cx ns)).any (·==d)) (firstMet (λi=>ns.getD i 0) (cx ns)).length) (λb o e=>t b o (a7 e) e) (az _) g,2,q _ (I.hok.fresh (az _))
theorem UT:qQ X (.builtin "len") (λxs H Q=>∃(a:am)(S:Int->Bool)(n:Nat),xs=[.ref a]/\H a=ac (.set S n)/\Q (.int n) H):=by intro b s m H xs l Q I r ⟨a,S,n,e,hq,q⟩;subst e;obtain⟨u,e,h⟩:=ck.one r;subst e;cases h;obtain⟨o,i,v,t,f,d,k,p,x,j,c,g⟩:=(show s.heap.SetOf (intKind X.prog X.w) a S n from I.hok a _ hq);subst g;refine call_len_set f d k c ?_ ⟨.int _,H,I.tok _,⟨1⟩,q⟩;have:i.size<2^62:=bF j (!_);lia
theorem UU(z:X.calm=ag):qQ X (.builtin "min") (λxs H Q=>∃(a:am)(ns:List Int),xs=[.ref a]/\bH X.K H a (ns.map cf)/\0<cx ns/\∀m,m∈ns->(∀n∈ns,m<=n)->Q (.int m) H):=by intro l s D H xs C Q I r ⟨a,ns,e,hq,d,q⟩;subst e;obtain⟨u,e,x⟩:=ck.one r;subst e;cases x;obtain⟨f,o,p,J⟩:=I.list hq;have i:IntsAre f ns:=intsAre_of o;have k:=p.isList;obtain⟨xs,e⟩:=i.allInts.items;have b:ns=xs.toList.map (·.1):=(by rw[<- i.numsOf,<- nums_intItems,<- e]);have c:0<xs.size:=(by have h:=d;rw[b,ah,dQ] at h;exact h);rw[e] at k;refine min_intList (I.ok.hd z) k c λv G E A B=>?_;obtain⟨t,rfl⟩:=intItems_at A;obtain⟨F,w⟩:=argBest_lt (numAt xs) (xs.size-1);exists .int _,H,I.kept B,⟨t,2⟩,q _ ?_ λa g=>?_;rw[b,numAt_eq];exact getD_mem (by rw[ah,dQ];lia);rw[b] at g;obtain⟨j,y,rfl⟩:=mem_getD g;rw[ah,dQ] at y;rw[<- numAt_eq];exact w j ∅
end
noncomputable def Wc(scope dsc:Scope)(N0 N2:List Str)(cap:List (Option Nat)):Bool:=
 (scope.kind==.function)&&(scope.names.all λy=>y.2 != .cell)&&(scope.names.all λy=>y.2 != .local || scope.names.lookup y.1==ac .local) &&
 (scope.names.all λy=>y.2 != .free || dsc.names.lookup y.1==ac .cell)&&(scope.names.all λy=>y.2 != .free || scope.names.lookup y.1==ac .free)&&decide N2.Nodup&&(cap.length==N2.length) &&
 ((ay cap.length).all λi=>match cap[i]?,N2[i]? with
   |some (ac j),ac x=>N0[j]?==ac x&&scope.names.any (λy=>y.1==x&&y.2==.free)
   |_,_=>ag)
theorem adT{X:Cx}{b:Scope}{k:List Str}(s:X.env.scope=b)(t:X.N=k)(h:Wc scope b k N2 cap=ag):jG X scope N2 cap:=by unfold Wc at h;simp only[eS] at h;obtain⟨⟨⟨⟨⟨⟨⟨u,c⟩,d⟩,m⟩,l⟩,v⟩,n⟩,g⟩:=h;rw[iQ] at c d m l g;exists by simpa using u,λy a e=>?_,λy a e=>?_,λy a e=>?_,λy a e=>?_,c7 v,by simpa using n,λi j x f o=>?_;have:=c y a;rw[e] at this;exact b3 this (!_);have:=d y a;rw[e] at this;simpa using this;have:=m y a;rw[e] at this;show X.env.scope.names.lookup y.1=ac .cell;rw[s];simpa using this;have:=l y a;rw[e] at this;simpa using this;have r:i<cap.length:=(ai.mp f).1;have q:=g i (dO.mpr r);rw[f,o] at q;simp only[eS] at q;exists by rw[t];simpa using q.1,4;obtain⟨y,a,z⟩:=Dd.mp q.2;simp only[eS] at z;have w:y.1=x:=(by simpa using z.1);have p:y.2=.free:=(by simpa using z.2);rw[<- w,<- p];exact a
def CW(H1:Hp)(acc:am)(n:Nat)(P:Nat->List V->Hp->Prop):Nat->Nat->Hp->Prop:=
 λi m H=>m=n-i/\i<=n/\aB H1 H/\∃ys,H acc=ac (.lst ys)/\P i ys H
theorem jA{J:It}{n:Nat}{l:List (Option Nat)}{g:TG}{z:TT}{te:TE}{u:St}{v:Hp->Prop}{f:Hp}{a:am}(P:Nat->List V->Hp->Prop)(j:f a=ae)(go:∀i H,i<n->aB f H->J.go i H)(stop:∀H,aB f H->J.stop n H)(A:P 0 [] (upd f a (.lst [])))(step:∀i ys H,i<n->aB f H->H a=ac (.lst ys)->P i ys H->∀x k,J.Mc i H x k->g x (fU l u) k λd r=>z d r λb o=>if b=ag then te d o λy q=>∃xs,q a=ac (.lst xs)/\xs.length<a9 /\∃c,c<n-i/\CW f a n P (i+1) c (upd q a (.lst (xs++[y]))) else ∃c,c<n-i/\CW f a n P (i+1) c o)(t:∀ys H,aB f H->H a=ac (.lst ys)->P n ys H->v H) :∃W:Nat->Nat->Hp->Prop,(∃m,W 0 m (upd f a (.lst [])))/\∀i m H,W i m H ->(J.stop i H/\v H)∨(J.go i H/\∀x k,J.Mc i H x k->g x (fU l u) k λd r=>z d r λb o=>if b=ag then te d o λy q=>∃xs,q a=ac (.lst xs)/\xs.length<a9 /\∃c,c<m/\W (i+1) c (upd q a (.lst (xs++[y]))) else ∃c,c<m/\W (i+1) c o):=by exists CW f a n P,⟨n,2,bA _,aB.new j,[],aq,A⟩,4;rintro i m H ⟨rfl,B,s,ys,w,p⟩;by_cases h:i<n;exact .inr ⟨go i H h s,step i ys H h s w p⟩;·have e:i=n:=∅;subst e;exact .inl ⟨stop H s,t ys H s w p⟩
def gG{d c:Hp}{a:am}{n i:Nat}{P:Nat->List V->Hp->Prop}{ys:List V}{y:V}(b:d a=ae)(f:i<n)(s:aB d c)(g:c a=ac (.lst ys))(hl:ys.length<a9)(p:P (i+1) (ys++[y]) (upd c a (.lst (ys++[y])))) :∃xs,c a=ac (.lst xs)/\xs.length<a9/\∃e,e<n-i/\CW d a n P (i+1) e (upd c a (.lst (xs++[y]))) :=⟨ys,g,hl,n-(i+1),62,f,s.out b,_,aq,p⟩
def oz{n i:Nat}{P:Nat->List V->Hp->Prop}(b:i<n)(s:aB H1 H3)(c:H3 acc=ac (.lst ys))(p:P (i+1) ys H3):∃a,a<n-i/\CW H1 acc n P (i+1) a H3 :=⟨n-(i+1),62,b,s,_,c,p⟩
theorem vY{K:af}(h:bH K H1 a xs):∀i H,i<xs.length->aB H1 H->(IC K a).go i H:=λi H b s=>⟨xs,xs[i],s.seq h,by simp[b]⟩
def lK{K:af}(h:bH K H1 a xs):∀H,aB H1 H->(IC K a).stop (cx xs) H:=λH s=>⟨xs,s.seq h,az _⟩
theorem alQ{K:af}(h:bH K H1 a xs):∀i H,i<xs.length->aB H1 H->(km K a).go i H:=λi H b s=>⟨xs,xs[i],s.seq h,by simp[b]⟩
def afA{K:af}(h:bH K H1 a xs):∀H,aB H1 H->(km K a).stop (cx xs) H:=λH s=>⟨xs,s.seq h,az _⟩
def JE{lo:Int}:∀i H,i<n->aB H1 H->(Hx lo n).go i H:=λi H a s=>a
def yg{lo:Int}:∀H,aB H1 H->(Hx lo n).stop n H:=λH s=>az n
def dy(H:Hp)(l:am):Hp:=λb=>if b=l then ae else H b
theorem alR{a:Type}{xs:List a}{i:Int}{v:a}(b:0<=i)(h:xs[i.toNat]?=ac v):KN xs i=ac v:=by obtain⟨k,rfl⟩:=j0 b;exact dF (by simpa using h)
theorem afB{ns:List Int}{i:Int}(a:0<=i)(h:i<cx ns):KN (ns.map cf) i=ac (.int (ns.getD i.toNat 0)):=by have b:i.toNat<cx ns:=∅;refine alR a ?_;rw[ak,ao,aa b];rfl
section
variable{X:Cx}
theorem afC(K:af)(h:X.K=K):g0 X (gt K):=by subst h;exact Hb
theorem air(K:af)(h:X.K=K):g0 X (ge K):=by subst h;exact xk
theorem Qt(K:af)(h:X.K=K):E3 X (bn .In) (ii K al):=by subst h;exact Ci
theorem PU(K:af)(h:X.K=K)(b:PE X e ta)(a:attributeBase e f X.env (eval e X.env)=eval e X.env):PE X (.Attribute e f pos) (Qo K ta f):=by subst h;exact aU b a
theorem ais(K:af)(h:X.K=K){a:List Expr}{k:Nat}{b:Pos}{t:fv}{n:Nat}(d:X.calm=ag)(h':lI X a t)(e:(assignEach a X.env).length=n:=by rfl)(c:(assignEach a X.env).findIdx? (·.1)=ae:=by rfl):PG X (.Tuple a k b) (lw K n t):=by subst h;exact nn d h' e c
noncomputable def fY:Expr->Bool
 |.Starred _ _=>al
 |_=>ag
theorem Yg(h:fY e=ag):bc (e::es) env=(al,eval e env)::bc es env:=by cases e <;> first|rfl|(exact Bool.noConfusion h)|simp[bc]
theorem qC(a:PE X e te)(b:PA X es t)(c:fY e=ag:=by rfl):PA X (e::es) (eU te t):=aij a b (Yg c)
theorem ait{bs:List Bool}(r:ck (bs.map cn) us){i:Nat}(h:us[i]?=ac v):v=.bool (bs.getD i ag):=by have b:=r.length;rw[ah] at b;have d:i<us.length:=(ai.mp h).1;have e:(bs.map cn)[i]?=ac (.bl (bs.getD i ag)):=(by rw[ak,aa ∅,ao,aa ∅];rfl);obtain⟨u,a,c⟩:=r.get e;rw[h] at a;cases a;exact c
theorem eJ(bs:List Bool):((ay (cx bs)).all λi=>bs.getD i ag)=bs.all id:=by rw[kr,iQ,iQ];constructor;intro h x b;obtain⟨i,a,e⟩:=List.getElem_of_mem b;have:=h i (dO.mpr a);rw[ao,aa a,e] at this;exact this;intro h i a;have a:=dO.mp a;have:=h bs[i] (aD a);rw[ao,aa a];exact this
theorem Qu(l:X.calm=ag):qQ X (.builtin "all") (λxs H Q=>∃(a:am)(bs:List Bool),xs=[.ref a]/\bH X.K H a (bs.map cn)/\Q (.bl (bs.all id)) H):=by intro h s y H xs x Q I r ⟨a,bs,e,hq,q⟩;subst e;obtain⟨u,e,j⟩:=ck.one r;subst e;cases j;obtain⟨c,f,p,C⟩:=I.list hq;have g:=f.length;rw[ah] at g;refine call_all_walk (wpAny_pyIter_list p.isList ?_);have d:a<s.heap.objs.size:=(by obtain⟨o,n,e,_⟩:=p;exact a7 e);exists s.heap.objs.size,33333,λi=>bs.getD i ag,2,Walks.list (A:=X.A.in1) (show X.A.in1.handled=ae from I.ok.hd l) _ a (bB d) c.toArray,⟨⟨_,a6 _ rfl,22⟩,p.isList.at λo e=>a5 _ e⟩,4,λB k t=>?_;intro i v s Q E m w;have e:=ait f (show c[i]?=ac v by simpa using m);subst e;exact wpAny_truthy_bool w;have e:(ay c.toArray.size).all (λi=>bs.getD i ag)=bs.all id:=(by rw[show c.toArray.size=bs.length by simp[g]];exact eJ bs);rw[e];exists .bl _,H,I.kept (t':=k) λb o e=>t b o (by intro z;have:b=s.heap.objs.size:=(by simpa using z);exact b3 (a7 e) (by rw[this];exact lG _)) (a5 _ e),2,q
end
end L2
namespace Gr
abbrev Ps:=List (Int×Int)
def Hz(ps:Ps)(k:Nat)(x y:Int):Prop:=ps[k]?=ac (x,y)∨ps[k]?=ac (y,x)
theorem Mn{a:Type}[DecidableEq a]:∀{xs B:List a},xs.Nodup->(∀x∈xs,x∈B)->xs.length<=B.length
 |[],_,_,_=>bA _
 |x::xs,B,d,f=>by
  have c:=f x aP;have g:∀y∈xs,y∈B.erase x:=λy b=>by
   have h:y≠x:=λe=>(kj.mp d).1 (e▸b);exact (List.mem_erase_of_ne h).mpr (f y (aR _ b))
  have i:=Mn (kj.mp d).2 g;have k:=List.length_erase_of_mem c;have j:0<B.length:=List.length_pos_of_mem c;rw[bU];lia
theorem Qv{c:Type}{xs:List c}{x:c}(h:xs.Nodup)(g:x∉xs):(xs++[x]).Nodup:=by rw[List.nodup_append];exists h,-_,λa d b f=>?_;have:b=x:=(by simpa using f);rw[this];exact λe=>g (e▸d)
def ends(ps:Ps):List Int:=ps.flatMap λp=>[p.1,p.2]
end Gr
namespace L2
open PySem Gr
noncomputable abbrev two(a b:Int):List V:=[.int a,.int b]
def x0(K:af)(ta:TE):TT:=λσ H Q=>ta σ H λx H'=>∃k,li K x H' k/\Q k H'
def Mp(c:PE X a ta)(d:∀b,isTrue a X.env b=(do let v <- b;standAt a.pos;holding [v] (truthy v))):PT X a (x0 X.K ta):=afd c d
theorem aiu{c:TT}{k:TS}{D:en}{a:St}{H:Hp}(h:Nat->St->Hp->Prop)(j:Nat)(n:h j a H)(o:∀m a H,h m a H->c a H λb e=>if b=ag then k {D with nx:=λd i=>∃g,g<m/\h g d i,ct:=λd i=>∃g,g<m/\h g d i,bk:=D.nx} a e else D.nx a e)(f:∀a H Q l,(∀b e,Q b e->l b e)->c a H Q->c a H l):x3 c k D a H:=by exists h,⟨j,n⟩,λm a H p=>f a H _ _ (λb e q=>?_) (o m a H p);cases b with|true=>exact⟨_,λd i z=>z,q⟩|false=>exact q
end L2
namespace L2
open PySem PySem.Spec PyProof.Rows
section
variable{X:Cx}
theorem Yh:qQ X (.type "range") (λxs H Q=>∃j:Int,xs=[.int j]/\∀p,H p=ae->Q (.ref p) (upd H p (.jy 0 j))):=by intro c s g H xs f Q I r ⟨j,e,q⟩;subst e;obtain⟨u,e,d⟩:=ck.one r;subst e;obtain⟨t,rfl⟩:=d;refine call_range_1 ⟨.ref s.heap.objs.size,_,I.laid (a:=s.heap.objs.size) (o:=.jy 0 j) (λb o e=>a5 _ e) (az _) ?_,2,q _ (I.hok.fresh (az _))⟩;exists 333,a6 _ rfl
theorem aaB{a:Array ap}{n:Nat}(hl:a.size=n)(h:∀(i:Nat)(v:ap),a[i]?=ac v->∃t,v=Value.int (0+(i:Int)*1) t):ck ((ay n).map λk=>cf (k:Nat)) a.toList:=by have c:∀(b:List ap)(m:Nat),(∀(i:Nat)(v:ap),b[i]?=ac v->∃t,v=Value.int ((m+i:Nat):Int) t)->ck ((List.range' m b.length).map λk=>cf (k:Nat)) b:=(by intro b;induction b with|nil=>intro m _;exact .nil|cons u b f=>intro m d;rw[bU,List.range'_succ,bL];refine .cons (d 0 u rfl) (f (m+1) λi v e=>?_);obtain⟨t,q⟩:=d (i+1) v (by simpa using e);exists t,by rw[q];congr 1;lia);have:=c a.toList 0 λi v e=>(by obtain⟨t,q⟩:=h i v (by simpa using e);exists t,by rw[q];congr 1;lia);rw[dQ,hl,<- List.range_eq_range'] at this;exact this
theorem aaC(z:X.calm=ag):qQ X (.type "list") (λxs H Q=>∃(p:am)(j:Nat),xs=[.ref p]/\H p=ac (.jy 0 j)/\j<=1000/\∀l,H l=ae->Q (.ref l) (upd H l (.lst ((ay j).map λk=>.int (k:Nat))))):=by intro f s E H xs D Q I r ⟨p,j,e,C,m,q⟩;subst e;obtain⟨u,e,h⟩:=ck.one r;subst e;cases h;obtain⟨t,u,v,x⟩:=(show jk X.prog X.w H s.heap p (.jy 0 j) from I.hok p _ C);refine call_list_range (I.ok.hd z) (n:=j) x (small_one ∅ ∅ ∅ ∅) (by rw[rangeSize_one];split <;> lia) ∅ λG F b i B y g=>?_;obtain⟨c,d⟩:=g;have A:=aaB c d;exists .ref s.heap.objs.size,_,I.laid (a:=s.heap.objs.size) (o:=.lst ((ay j).map λk=>.int (k:Nat))) B (az _) ⟨4,b.toList,i,A,by simpa using y⟩,2,q _ (I.hok.fresh (az _));rw[ah,bI];exact oX (cU m)
end
end L2
namespace Gr
end Gr
namespace L2
open PySem PySem.Spec PyProof.Rows
def PV(h:Heap)(e T:am)(cls fl:ap):Prop:=
 ∃oe vs oT ts,h.get? e=ac oe/\oe.cls=cls/\(oe.dict=ae/\vs[2]?=ac Value.none)/\oe.data=.fields vs/\vs[1]?=ac (.ref T)/\T≠e/\h.get? T=ac oT/\oT.data=.fields ts/\ts[3]?=ac fl
structure E4(F R:List am)(h h':Heap):Prop where
 keep:∀b o,b∉F->b∉R->h.get? b=ac o->h'.get? b=ac o
 slot:∀b o,b∈F->b∉R->h.get? b=ac o->∃sl,h'.get? b=ac {o with slots:=sl}
def E4.mono{f:List am}(t:E4 F R h h')(d:∀b∈R,b∈f):E4 F f h h' :=⟨λb o a c e=>t.keep b o a (λz=>c (d b z)) e,λb o a c e=>t.slot b o a (λz=>c (d b z)) e⟩
theorem E4.trans(a:E4 F R h h1)(b:E4 F R h1 h2):E4 F R h h2:=
 ⟨λc o d f e=>b.keep c o d f (a.keep c o d f e),λc o d f e=>by
  obtain⟨k,j⟩:=a.slot c o d f e;obtain⟨g,i⟩:=b.slot c _ d f j;exact⟨g,i⟩⟩
theorem E4.aiv:E4 F [a] h (h.update a g) :=⟨λb o _ c e=>(bo _ _ (λz=>c (by simp[z]))).trans e,λb o _ c e=>⟨o.slots,(bo _ _ (λz=>c (by simp[z]))).trans e⟩⟩
theorem adU:(Obj.mapFields f o).dict=o.dict:=by obtain⟨c,d,a,b⟩:=o;cases a <;> rfl
section
variable{M:Model}{A:ce}{E:ap->ar->Prop}{s:ar}{base:Heap}{env:Env}{outer:List Env}{L e:am}
theorem JF(hl:s.heap.FunFrames base (env::outer))(c:s.heap.get? e=ac oe)(d:oe.data=.fields vs):e∉dL (env::outer):=λf=>by
 obtain⟨_,o,b,a⟩:=hl.mem f;rw[c] at b;cases b;exact a vs d
theorem Mq{oe:Obj}{vs:Array ap}{a:ap}{B:Bool}{Q:Unit->ar->Prop}(k:A.frames=ac (env::outer))(hl:s.heap.FunFrames base (env::outer))(C:env.frame=ac L)(v:s.heap.get? e=ac oe)(f:oe.dict=ae/\vs[2]?=ac Value.none)(m:oe.data=.fields vs)(hsz:1<vs.size)(h:∀h',PV h' e s.heap.objs.size oe.cls (rawInt L)->E4 (dL (env::outer)) [e] s.heap h'->Q () {s with heap:=h'}) :bt M A (do let y <- frameOf env;let j <- entryPlaceOf L B;let F <- EntryCells.newEntry a y .none (rawInt L) .none j;setField (.ref e) 1 F) Q E s:=by
 have n:=JF hl v m;refine aw (wpAny_frameOf_fun k hl C λg1 x=>?_);obtain⟨p,i,t⟩:=x;refine aw (wpAny_entryPlaceOf λj c=>?_);unfold EntryCells.newEntry newFields;refine aw (wpAny_newObj_type ?_ (c.sizeOk5 _ _ _ _ _));have r:g1.get? e=ac oe:=(i e n).trans v;have d:g1.objs.size≠e:=Nat.ne_of_gt (a7 r);refine wpAny_setField (a5 _ r) m hsz (h _ ?_ ?_);·have g:=Obj.data_mapFields m (·.setIfInBounds 1 (Value.ref g1.objs.size));have qT:=(bo _ (Obj.mapFields (·.setIfInBounds 1 (Value.ref g1.objs.size))) (bS d)).trans (a6 g1 (o:={cls:=.type "traceback",dict:=ae,data:=.fields ([a,.ref L,.none,rawInt L,.none]++(if j.isEmpty then bV 6 Value.none else j)).toArray}) rfl);rw[<- p];exists 3333,Heap.get?_update_self _ (a5 _ r) (Obj.isFreed_of_fields g),Obj.cls_mapFields _ _,4,g,4,d,qT,24;rw[adU];exact⟨f.1,by simp[f.2]⟩;simp[hsz];·rcases c with rfl|⟨_,_,_,_,_,_,_,rfl⟩ <;> simp
 exists λb o w l u=>?_,λb o w l u=>?_;rw[bo _ _ (λz=>l (by simp[z]))];exact a5 _ ((i b w).trans u);obtain⟨D,q⟩:=t b o u;exists D,4;rw[bo _ _ (λz=>l (by simp[z]))];exact a5 _ q
theorem aaD{oe:Obj}{vs:Array ap}{Q:Unit->ar->Prop}(a:A.frames=ac (env::outer))(hl:s.heap.FunFrames base (env::outer))(c:env.frame=ac L)(d:s.heap.get? e=ac oe)(b:oe.dict=ae/\vs[2]?=ac Value.none)(f:oe.data=.fields vs)(g:vs[1]?=ac .none)(h:∀h',PV h' e s.heap.objs.size oe.cls (rawInt L)->E4 (dL (env::outer)) [e] s.heap h'->Q () {s with heap:=h'}):bt M A (noteFrame (.ref e) env) Q E s:=by unfold noteFrame;simp only[c];refine aw (wpAny_field d f g ?_);rw[b5 (!_)];exact Mq a hl c d b f (gh.mp g).1 h
theorem HA{T:am}{cls:ap}{Q:Unit->ar->Prop}(g:A.frames=ac (env::outer))(hl:s.heap.FunFrames base (env::outer))(p:env.frame=ac L)(C:PV s.heap e T cls .none)(h:∀h',PV h' e s.heap.objs.size cls (rawInt L)->E4 (dL (env::outer)) [e,T] s.heap h'->Q () {s with heap:=h'}):bt M A (noteFrame (.ref e) env) Q E s:=by obtain⟨r,D,F,B,m,w,k,n,q,t,d,f,l⟩:=C;subst w;unfold noteFrame;simp only[p];refine aw (wpAny_field m n q ?_);rw[b4 (-_)];refine aw (wpAny_field d f l ?_);rw[b5 (by simp[rawInt])];refine aw (wpAny_setField d f (gh.mp l).1 ?_);have v:=JF (e:=T) hl d f;have j:(s.heap.update T (Obj.mapFields (·.setIfInBounds 3 Value.none))).objs.size=s.heap.objs.size:=Heap.size_after_update ..;have a:∀b,b≠T->(s.heap.update T (Obj.mapFields (·.setIfInBounds 3 Value.none))).get? b=s.heap.get? b:=λb c=>bo _ _ (bS c);refine Mq (s:={s with heap:=s.heap.update T (Obj.mapFields (·.setIfInBounds 3 Value.none))}) (base:=base) g (hl.of_keeps λb o c i=>⟨o,(a b λz=>?_).trans c,2⟩) p ((a e (bS t)).trans m) k n (gh.mp q).1 λh' u x=>?_;rw[z,d] at c;cases c;exact i B f;have y:PV h' e s.heap.objs.size r.cls (rawInt L):=j▸u;exact h h' y ((E4.aiv.mono (-_)).trans (x.mono (-_)))
theorem vt{T:am}{cls r:ap}{Q:Unit->ar->Prop}(f:PV s.heap e T cls r)(h:∀h',PV h' e T cls .none->(∀F,E4 F [T] s.heap h')->h'.objs.size=s.heap.objs.size->Q () {s with heap:=h'}) :bt M A (setFlight (.ref e) ae) Q E s:=by obtain⟨m,n,t,q,d,p,b,g,k,c,j,l,o⟩:=f;have a:3<q.size:=(gh.mp o).1;unfold setFlight;refine aw (wpAny_field d g k ?_);rw[b4 (-_)];refine wpAny_setField j l a (h _ ?_ (λF=>E4.aiv) (Heap.size_after_update ..));have i:=Obj.data_mapFields l (·.setIfInBounds 3 ((ae:Option am).elim Value.none λf=>rawInt f));exists m,n,33,(bo _ _ c).trans d,p,b,g,k,c,Heap.get?_update_self _ j (Obj.isFreed_of_fields i),i,by simp[a]
end
theorem jk.there{P:bv}{w:World}{H:Hp}{h:Heap}{a:am}:∀{o:HO},jk P w H h a o->∃ob,h.get? a=ac ob
 |.lst _,⟨_,_,_,_,e⟩=>⟨_,e⟩
 |.tup _,⟨_,_,_,o,e,_⟩=>⟨o,e⟩
 |.dK _,⟨_,_,_,_,o,_,_,e,_⟩=>⟨o,e⟩
 |.dT _,⟨_,_,_,_,o,_,_,e,_⟩=>⟨o,e⟩
 |.set _ _,⟨o,_,_,_,e,_⟩=>⟨o,e⟩
 |.ins _ _ _,⟨_,_,_,e,_⟩=>⟨_,e⟩
 |.own _,e=>e
 |.xd _,⟨_,n,_⟩=>let ⟨o,e,_⟩:=UE n;⟨o,e⟩
 |.met _ _,e=>⟨_,e⟩
 |.jy _ _,⟨_,_,_,e⟩=>⟨_,e⟩
 |.f9 o _,⟨e,_⟩=>⟨o,e⟩
 |.xS _,e=>⟨_,e⟩
 |.ext _,⟨_,e,_⟩=>e
theorem E6.ly(ok:E6 P w H h)(t:E4 F R h h')(d:∀b∈F,H b=ae)(c:∀b∈R,H b=ae):E6 P w H h':=λa o e=>
 (ok a o e).stay (λb u hb q=>t.keep b u (λz=>by
  have:=d b z
  rcases hb with rfl|hb
  ·rw[e] at this;cases this
  ·rw[hb] at this;cases this) (λz=>by
  have:=c b z
  rcases hb with rfl|hb
  ·rw[e] at this;cases this
  ·rw[hb] at this;cases this) q) (λ_ q=>q) λ_ _ q=>q
def eD(X:Cx)(pins:List (am×Obj))(H:Hp)(b:am):Prop:=
 H b=ae/\b≠X.env.locals/\b∉X.fs/\X.s₀.heap.get? b=ae/\(∀x c,X.env.cells.lookup x=ac c->c≠b)/\∀p∈X.pn++pins,p.1≠b
section
variable{X:Cx}{pins:List (am×Obj)}{σ:St}{H H':Hp}{s:ar}{h':Heap}
theorem Inv.aaE(I:Inv X pins σ H s)(f:X.ex=[])(g:H' b=ae)(d:s.heap.get? b=ae):eD X pins H' b:=by
 exists g,λz=>?_,λz=>?_,4,λx c e z=>?_,λp h z=>?_;obtain⟨m,⟨o,_,_,a,_⟩,_⟩:=I.loc;rw[<- z,d] at a;cases a;obtain⟨_,o,a,_⟩:=I.Jz.mem z;rw[d] at a;cases a;cases q:X.s₀.heap.get? b with|none=>rfl|some o=>obtain⟨i,e⟩:=I.base.there b o q (by rw[f];simp);rw[d] at e;cases e
 obtain⟨v,o,a,_⟩:=I.cell x c e;rw[z,d] at a;cases a;have:=(I.pin p h).1;rw[z,d] at this;cases this
theorem Inv.Cj(I:Inv X pins σ H s)(a:X.ex=[]):eD X pins H s.heap.objs.size:=by refine I.aaE a (I.hok.fresh (az _)) ?_;cases q:s.heap.get? s.heap.objs.size with|none=>rfl|some o=>exact b3 (a7 q) (lG _)
theorem Inv.ly{R:List am}{t':Nat}(I:Inv X pins σ H s)(A:∀b∈R,eD X pins H b)(t:E4 (dL X.stack) R s.heap h'):Inv X pins σ H {s with heap:=h',toks:=t'}:=by
 have J:∀b∈dL X.stack,H b=ae:=λb a=>I.VX b a;have g:∀b o,b∉R->s.heap.get? b=ac o->∃C,h'.get? b=ac {o with slots:=C}:=λb o D e=>(by by_cases a:b∈dL X.stack;exact t.slot b o a D e;exists o.slots,t.keep b o a D e);have j:∀b o,b≠X.env.locals->b∉X.fs->b∉R->s.heap.get? b=ac o->h'.get? b=ac o:=λb o N a D e=>
  t.keep b o (λz=>(aM.mp (I.Av b z)).elim N a) D e
 have F:∀b o,X.s₀.heap.get? b=ac o->b≠X.env.locals:=λb o e=>bB (bF (a7 e) I.ok.above);have h:∀b o,X.s₀.heap.get? b=ac o->b∉R:=λb o e z=>(by rw[(A b z).2.2.2.1] at e;cases e);have f:∀x c,X.env.cells.lookup x=ac c->∀v,s.heap.IsCell c v->h'.IsCell c v:=λx c e v ⟨o,E,M⟩=>(by obtain⟨C,q⟩:=g c o (λz=>(A c z).2.2.2.2.1 x c e rfl) E;exists _,q,M);exists I.ok,I.os,I.bare,⟨λb o e n a y=>?_,λb o e n a y=>?_,I.base.free,λb o e y=>?_,I.base.tups,I.base.Ik,I.base.Jy⟩,4,λx c e=>?_,I.free,I.vp,λp L=>?_,I.hok.ly t J (λb a=>(A b a).1),I.len;exact j b o (F b o e) a (h b o e) (I.base.keep b o e n a y);obtain⟨C,B⟩:=I.base.slot b o e n a y;obtain⟨G,w⟩:=g b _ (h b o e) B;exists G,w;obtain⟨U,B⟩:=I.base.there b o e y;obtain⟨C,w⟩:=g b _ (h b o e) B;exists _,w;obtain⟨m,⟨o,Q,P,E,r⟩,S⟩:=I.loc;obtain⟨C,q⟩:=g _ o (λz=>(A _ z).2.1 rfl) E;exists m,⟨_,Q,P,q,r⟩,λi x v B w T=>?_;obtain⟨u,O,l⟩:=S i x v B w T;exists u,O,4;rcases l with l|⟨k,c,e,z⟩;exact .inl l;exact .inr ⟨k,c,e,f x c e _ z⟩;obtain⟨v,z⟩:=I.cell x c e;exists v,f x c e v z;obtain⟨e,n,K,nf,d⟩:=I.pin p L;exists j p.1 p.2 K nf (λz=>(A p.1 z).2.2.2.2.2 p L rfl) e,n,K,nf,d
end
def XP(X:Cx)(pins:List (am×Obj))(σ:St)(E:XK)(e:ap)(s':ar):Prop:=
 ∃ea T cls H',e=.ref ea/\Inv X pins σ H' s'/\PV s'.heap ea T cls .none/\eD X pins H' ea/\eD X pins H' T/\E cls ae H'
def jD(P:bv)(w:World):g7:=λouter H s E e s'=>
 ∃ea T cls H',e=.ref ea/\s'.os=s.os/\AllBare s'.gens/\Un (dL outer) [] H H' s.heap s'.heap/\E6 P w H' s'.heap/\PV s'.heap ea T cls .none/\s.heap.get? ea=ae/\s.heap.get? T=ae/\H' ea=ae/\H' T=ae/\E cls ae H'
theorem mB{H:Hp}(I:Inv X pins σ H s)(c:X.ex=[])(h:jD X.prog X.w X.stack H s E e s'):XP X pins σ E e s':=by obtain⟨j,T,d,k,m,os,a,n,f,p,l,g,o,i,q⟩:=h;exists j,T,d,k,m,I.ae0 (ch:=[]) os n f a (λb z=>b3 z (-_)),p,I.aaE c o l,I.aaE c i g,q
theorem oD{H:Hp}{R:List am}(I:Inv X pins σ H s)(a:X.ex=[])(c:∀b∈R,eD X pins H b)(t:E4 (dL X.stack) R s.heap h'):Un X.fs [] X.H₀ H X.s₀.heap h':=by have:=(I.ly (t':=s.toks) c t).base;rw[a] at this;exact this
section
variable{P:bv}{w:World}{K:af}{mg:Str->Option ap}{base:Heap}{N:List Str}{qual:Str}{scope:Scope}{f:am}{cd:ap}{A:ce}{outer:List Env}{s0:ar}{H0:Hp}{E:XK}
theorem Tl(h:XP (m8 (jD P w) P w K mg base N qual scope f cd A outer s0 H0 E) pins σ E e s):(m8 (jD P w) P w K mg base N qual scope f cd A outer s0 H0 E).xe e s:=by obtain⟨c,T,i,j,rfl,I,u,d,o,q⟩:=h;show bt _ _ (leaving _ (.ref c)) _ _ s;unfold leaving;refine aw (HA (base:=base) I.ok.frames I.stack rfl u λv r m=>?_);refine vt r λn t p x=>?_;have g:=I.Cj rfl;have k:∀b∈[c,T,s.heap.objs.size],eD (m8 (jD P w) P w K mg base N qual scope f cd A outer s0 H0 E) pins j b:=(by intro b l;simp only[aM,cN,or_false] at l;rcases l with z|z|z;rw[z];exact d;rw[z];exact o;rw[z];exact g);have a:E4 (dL (m8 (jD P w) P w K mg base N qual scope f cd A outer s0 H0 E).stack) [c,T,s.heap.objs.size] s.heap n:=(m.mono (-_)).trans ((p _).mono (-_));have J:=I.ly (t':=s.toks) k a;exists c,_,i,j,2,I.os,I.bare,oD I rfl k a,J.hok,t,d.2.2.2.1,g.2.2.2.1,d.1,g.1,q
def cY:vW (jD P w) (m8 (jD P w) P w K mg base N qual scope f cd A outer s0 H0 E) E:=λa c H s e b I h=>Tl (mB I rfl h)
def Qw:PassesOwn (model P w) (m8 (jD P w) P w K mg base N qual scope f cd A outer s0 H0 E).A (m8 (jD P w) P w K mg base N qual scope f cd A outer s0 H0 E).env (m8 (jD P w) P w K mg base N qual scope f cd A outer s0 H0 E).xe:=PassesOwn.leaving
theorem Z8.okX{x qual:Str}{st:Stmt}{f:am}{g:FuncData}{N ps:List Str}{k:Nat}{sp:Sp}(F:Z8 K x qual st f g)(S:aG N ps (aA st))(d:∀vs H Q E,sp vs H Q E->vs.length=ps.length)(b:∀(a:ap)(A:ce)(outer:List Env)(s:ar)(H:Hp)(vs:List V)(Q:VK)(E:XK),jF k (A.deeper (envOfC qual (aA st) s.heap.objs.size f a))->sp vs H Q E ->∃t,i9 (m8 (jD P w) P w K mg base N qual (aA st) f a A outer s H E) (gZ st) t/\t {nx:=λ_ h=>Q .fW h,rt:=Q} (start N vs) H):bu P w K mg base (jD P w) (k+1) f g ps sp:=by obtain⟨q,n,kV,l,p,o,a,m,i,rfl,lk,c⟩:=F.ex;exact i3 lk c S d λA outer s H vs Q E j e=>b a A outer s H vs Q E j e
end
theorem Yi:vW (jD P w) X E0:=λ_ _ _ _ _ _ _ h=>by
 obtain⟨_,_,_,_,_,_,_,_,_,_,_,_,_,_,q⟩:=h;exact q.elim
abbrev Tk:List ap:=[.type "ValueError",.type "Exception",.type "BaseException",.type "object"]
structure xC(K:af)(C:am):Prop where
 ex:PySem.W.excIn K C Tk "ValueError.__new__" = ag
 ga:aO K (.ref C) "__getattribute__" = ac (ac (.builtin "BaseException.__getattribute__"))
 gb:aO K (.ref C) "__getattr__" = ac ae
 hd:ni K C=ag
 ca:aO K (.ref C) "__class__" = ac (ac (.builtin "object.__class__"))
 cg:PySem.W.specialIn K (.builtin "object.__class__") "__get__" = ac (ac (.builtin "getset_descriptor.__get__"))
 ct:PySem.W.takesIn K (.builtin "object.__class__")=ac ag
 mo:PySem.W.mroIn K C (.type "object")=ac ag
 mb:PySem.W.mroIn K C (.type "BaseException")=ac ag
theorem aiw{K:af}{h:Heap}{C:am}{a:List ap}{k:String}(X:K.In h)(q:PySem.W.excIn K C a k=ag) :∃bm N nm c bs d sn b ab col dd k0 k1 k2 k3 k5 l,h.get? C=ac (excClassObj nm c C N bs bm d sn b ab col dd k0 k1 k2 k3 k5 k)/\h.Ns N l/\l "__init__" = ae/\OwnTail h a bm/\bm.contains (.type "BaseException")=a.contains (.type "BaseException"):=by unfold PySem.W.excIn at q;split at q;rename_i dd v i t;obtain⟨nm,bs,w,g,c,d,sn,b,ab,col,r⟩:=v;obtain⟨i⟩:=i;split at q;rename_i D bm k0 k1 k2 k3 n k5 o f;simp only[eS,beq_iff_eq,Bool.not_eq_true'] at q;obtain⟨⟨⟨⟨⟨u,p⟩,m⟩,s⟩,e⟩,j⟩:=q;dsimp only at o f m e j;subst u p o f m;have T:=PySem.W.tail_of_in X s;exists bm,g,nm,c,bs,d,sn,b,ab,col,dd,k0,k1,k2,k3,k5,h.nsMap g,X _ _ t,.of_isNs (PySem.W.isNs_of_in X e),PySem.W.nsMap_none_of_in X e j,T,T.hasType rfl;cases q;cases q
section
variable{P:bv}{w:World}{K:af}{mg:Str->Option ap}{base:Heap}{N:List Str}{qual:Str}{scope:Scope}{f:am}{cd:ap}{A:ce}{outer:List Env}{s0:ar}{H0:Hp}{E:XK}
theorem fg{a:List (am×Obj)}{j:St}{H:Hp}{s:ar}{h':Heap}{e C:am}{vs:List ap}(I:Inv (m8 (jD P w) P w K mg base N qual scope f cd A outer s0 H0 E) a j H s)(hm:Heap.MadeExcOf s.heap h' e (.ref C) vs)(q:E (.ref C) ae H):(m8 (jD P w) P w K mg base N qual scope f cd A outer s0 H0 E).xe (.ref e) {s with heap:=h'}:=by have i:H e=ae:=(by cases z:H e with|none=>rfl|some o=>obtain⟨ob,m⟩:=(I.hok e o z).there;rw[hm.new] at m;cases m);have g:=I.aaE rfl i hm.new;have c:Inv (m8 (jD P w) P w K mg base N qual scope f cd A outer s0 H0 E) a j H {s with heap:=h'}:=I.kept (t':=s.toks) hm.keeps;obtain⟨t,r,_,_⟩:=hm.there;show bt _ _ (leaving _ (.ref e)) _ _ _;unfold leaving;refine aw (aaD (base:=base) c.ok.frames c.stack rfl r ⟨22⟩ rfl rfl λy v n=>?_);refine vt v λp x u B=>?_;have h:=c.Cj rfl;have k:∀b∈[e,h'.objs.size],eD (m8 (jD P w) P w K mg base N qual scope f cd A outer s0 H0 E) a H b:=(by intro b l;simp only[aM,cN,or_false] at l;rcases l with z|z;rw[z];exact g;rw[z];exact h);have d:E4 (dL (m8 (jD P w) P w K mg base N qual scope f cd A outer s0 H0 E).stack) [e,h'.objs.size] h' p:=(n.mono (-_)).trans ((u _).mono (-_));have J:=c.ly (t':=s.toks) k d;exists e,_,.ref C,H,2,I.os,I.bare,oD c rfl k d,J.hok,x,g.2.2.2.1,h.2.2.2.1,g.1,h.1,q
theorem dB{x:Str}{C:am}{a:Expr}{M b l:Pos}{te:TE}(r:Gl (m8 (jD P w) P w K mg base N qual scope f cd A outer s0 H0 E) x)(R:mg x=ac (.ref C))(t:xC K C)(Q:A.handled=ae)(p:PE (m8 (jD P w) P w K mg base N qual scope f cd A outer s0 H0 E) a te)(k:(x==("__debug__" : Str))=al:=by decide)(m:backTo b (bc [a] (m8 (jD P w) P w K mg base N qual scope f cd A outer s0 H0 E).env)=[(al,eval a (m8 (jD P w) P w K mg base N qual scope f cd A outer s0 H0 E).env)]:=by rfl) :PS (m8 (jD P w) P w K mg base N qual scope f cd A outer s0 H0 E) (.Raise (ac (.Call (.Name x M) [a] [] b)) ae l) (λ_ j H=>te j H λ_ n=>E (.ref C) ae n):=by intro c s j H D I h;obtain⟨bm,G,nm,u,bs,L,sn,o,ab,col,dd,k0,k1,k2,k3,k5,W,z,J,g,T,B⟩:=aiw I.ok.mod.f6 t.ex;refine wpAny_Raise_call_subT (C:=C) (nm:=nm) (q:=u) (N:=G) (bs:=bs) (bm:=bm) (hdct:=L) (sn:=sn) (sub:=o) (ab:=ab) (col:=col) (dd:=dd) (k0:=k0) (k1:=k1) (k2:=k2) (k3:=k3) (k5:=k5) PySem.F.excBase_ValueError (by rw[B];decide) Q (by rw[m];rfl) g (zQ I r R ⟨24⟩ k);rw[m];refine Calls.evalArgs_plain (Calls.spliced_cons (g8 (p c s j H _ I h) λv S ⟨y,n,d,V,O⟩=>Calls.spliced_nil ?_));exists 2,by show 1<=a9;decide,d.bk _ _ z,J.keeps d.bk,T.keeps d.bk,λU e i=>fg d i O
end
noncomputable def EU(a C:am):HO:=.ext λh=>∃o vs,h.get? a=ac o/\o.cls=.ref C/\(o.dict=ae/\vs[2]?=ac Value.none)/\o.data=.fields vs
def aix{h:Heap}{vs:Array ap}(e:h.get? a=ac o)(c:o.cls=.ref C)(d:o.dict=ae/\vs[2]?=ac Value.none)(q:o.data=.fields vs):jk P w H h a (EU a C) :=⟨⟨o,vs,e,c,d,q⟩,⟨o,e⟩,λ_ _ ⟨g,f,b,r⟩k=>⟨g,f,k _ b,r⟩⟩
theorem adV{K:af}{prog:bv}{w:World}{A:ce}{E:ap->ar->Prop}{s:ar}{x D:am}{o:Obj}{Q:Option ap->ar->Prop}(X:K.In s.heap)(J:PySem.W.InstAt s.heap x o D ae)(c:xC K D) (j:PySem.W.findObj K D ae "__class__" = ac (.bind (.builtin "getset_descriptor.__get__") (.builtin "object.__class__"))) (k:Q (ac (.ref D)) {s with toks:=s.toks+1}):bt (model prog w) A (getAttr? (.ref x) "__class__") Q E s:=by obtain⟨e,g,d,t,os⟩:=s;have b:=J.type (M:=model prog w);have i:=PySem.W.looks_findIn (M:=model prog w) X c.ga;have L2:=PySem.W.looks_findIn (M:=model prog w) X c.gb;have h:=PySem.W.looks_mroIn (M:=model prog w) X c.mb;have p:=PySem.W.looks_find (M:=model prog w) X J j;have l:builtinKind "BaseException.__getattribute__" = ac .slot:=(by decide +kernel);have a:splitId "BaseException.__getattribute__" = ac ("BaseException","__getattribute__"):=(by decide +kernel);have n:=F.args_bexc_ga (.ref x) (.str "__class__" t);unfold getAttr? getAttrBy? getAttrBy;refine aw (wpAny_mkText (aw (wpAny_attempt (wpAny_holding (aw (b.at (aw (i.at ?_))))))));show bt _ _ (getAttrByItsOwn _ _ _ _ _ _) _ _ _;unfold getAttrByItsOwn;refine aw (m:=typeLookup (.ref D) "__getattr__") (L2.at ?_);refine aw (wpAny_attempt (wpAny_holding ?_));show bt _ _ (boundAndCalled _ _ _) _ _ _;unfold boundAndCalled;rw[F.excAttr_ValueError.ga.bind (.ref x)];refine aw (ax ?_);refine wpAny_call (codeAny_call_builtin F.excAttr_ValueError.ga.plain F.entry_bexc_ga ?_);have f:PySem.W.Looks (model prog w) e (isInstance (.ref x) (.type "BaseException")) ag:=b.andThen h;simp only[checkBuiltinCall,l,a];refine aw (f.at ?_);simp only[Bool.not_true,Bool.false_eq_true,if_false];(repeat (first|assumption|with_reducible refine PySem.W.Looks.at (by assumption) ?_|wp_step));refine PySem.W.class_get (s:=⟨e,g,d,t+1,os⟩) (ox:=o) (od:=ae) X J c.mo ?_;refine ax ?_;exact PySem.W.handed_on rfl (ax k)
theorem afF{K:af}{x D:am}(c:xC K D):PySem.W.KitX K (.ref x) (.ref D) (λh=>∃o vs,h.get? x=ac o/\o.cls=.ref D/\o.dict=ae/\o.data=.fields vs) where
 ty:=λM h _ ⟨o,vs,e,d,_⟩=>d▸(PySem.W.Looks.ld e).andThen .now
 it:=λM h X _=>by
  obtain⟨q,hq,_⟩:=Dc c.hd;unfold PySem.W.clsIn at hq;split at hq
  ·rename_i b
   intro y v u p k z;unfold isType loadHead;exact aw (wpAny_loadPart (k _ _ (X _ _ b)) (ax z))
  ·cases hq
 ne:=λh g r l n t X a=>by
  obtain⟨q,hq,_⟩:=Dc c.hd;refine Bool.eq_false_iff.mpr λz=>?_;have e:D=g:=Value.ref.inj (beq_iff_eq.mp z);subst e;unfold PySem.W.clsIn at hq;split at hq
  ·rename_i b
   have z:=(X _ _ b).symm.trans a;cases z
  ·cases hq
 ca:=λ{f w A E Q s}X ⟨o,vs,e,d,hd,hq⟩k=>by
  have J:PySem.W.InstAt s.heap x o D ae:=⟨e,d,by unfold PySem.W.notCls;rw[hq],by rw[hd];trivial⟩;have i:PySem.W.findObj K D ae "__class__" = ac (.bind (.builtin "getset_descriptor.__get__") (.builtin "object.__class__")):=by
   obtain⟨m,j,_⟩:=Dc c.hd;unfold PySem.W.findObj;rw[j,Option.bind_some,c.ca,Option.bind_some];simp[c.cg,c.ct]
  exact adV X J c i k
section
variable{X:Cx}
theorem adW:qQ X (.builtin "isinstance") (λxs H Q=>∃(a C:am) (c:V) (d:ap) (b:Bool),xs=[.ref a,c]/\H a=ac (EU a C)/\xC X.K C/\(c=.ty "ValueError" /\ d=.type "ValueError" ∨ ∃D,c=.ref D/\d=.ref D)/\bD X.K (.ref C) d=ac b/\Q (.bl b) H):=by intro j s G H xs F Q I r ⟨a,C,c,d,b,e,hq,m,y,k,q⟩;subst e;obtain⟨u,o,e,v,f⟩:=ck.two r;subst e;cases v;have i:o=d:=(by rcases y with ⟨h,g⟩|⟨D,h,g⟩;subst h g;exact f;subst h g;exact f);subst i;obtain⟨p,_,_⟩:=(show jk X.prog X.w H s.heap a (EU a C) from I.hok a _ hq);exact PySem.W.kia_one (afF m) I.IA (let ⟨E,A,t,l,B,n⟩:=p;⟨E,A,t,l,B.1,n⟩) k (λz=>nomatch z) λx=>⟨.bl _,H,I.tok x,2,q⟩
def sg(K:af):List V->Hp->VK->Prop:=λxs H Q=>∃(a C:am)(c:V)(cv:ap)(b:Bool),xs=[.ref a,c]/\H a=ac (EU a C)/\xC K C/\(c=.ty "ValueError" /\ cv=.type "ValueError" ∨ ∃D,c=.ref D/\cv=.ref D)/\bD K (.ref C) cv=ac b/\Q (.bl b) H
theorem j4(K:af)(a:X.K=K):qQ X (.builtin "isinstance") (sg K):=by subst a;exact adW
end
theorem oA{K:af}(a:ni K D=ag)(c:PySem.W.typeIn K (.ref D)=ac (.type "type"))(d:jf K t (.ref D)=ac b):cD K t (.ref D)=ac b:=by obtain⟨q,hq,_⟩:=Dc a;unfold cD;simp[hq,c,d]
theorem aaG{K:af}(a:jf K (.ref D) (.type "BaseException")=ac ag):cD K (.ref D) (.type "BaseException")=ac ag:=by unfold cD;dsimp only;rw[b4 (↑_),a]
theorem adX{K:af}{M:Model}{A:ce}{E:ap->ar->Prop}{s:ar}{e C D:am}{o:Obj}{Q:Bool->ar->Prop}(X:K.In s.heap)(d:s.heap.get? e=ac o)(k:o.cls=.ref C)(b:cD K (.ref C) (.ref D)=ac ag) (g:cD K (.ref D) (.type "BaseException")=ac ag) (q:Q ag s):bt M A (excMatches (.ref e) (.ref D)) Q E s:=by obtain⟨a,h,f⟩:=PySem.W.kit_cls (M:=M) X b;obtain⟨_,_,j⟩:=PySem.W.kit_cls (M:=M) X g;have l:PySem.W.Looks M s.heap (typeOf (.ref e)) (.ref C):=k▸(PySem.W.Looks.ld d).andThen .now;have i:PySem.W.Looks M s.heap (isInstance (.ref D) (.type "tuple")) al:=a.andThen (.of_pure tc_notTuple);have c:PySem.W.Looks M s.heap (isExcClass (.ref D)) ag:=(by unfold isExcClass;exact h.andThen j);unfold excMatches;refine aw (m:=isInstance (.ref D) (.type "tuple")) (i.here ?_);dsimp only;rw[b5 aN];refine aw (ax ?_);rw[List.forIn_cons];refine aw (aw (aw (m:=isExcClass (.ref D)) (c.here ?_)));rw[b5 (!_)];refine ax ?_;(try dsimp only);rw[List.forIn_nil];refine ax ?_;refine aw (l.here ?_);rw[List.forIn_cons];refine aw (aw (aw (f.here ?_)));rw[b4 rfl];exact ax (ax (ax q))
def ka(X:Cx)(e:Expr)(t:St->Hp->VK->XK->Prop):Prop:=
 ∀(pins:List (am×Obj))(s:ar)(σ:St)(H:Hp)(Q:VK)(E:XK),Inv X pins σ H s->t σ H Q E->bt (model X.prog X.w) X.A (eval e X.env) (EP X pins σ Q) (XP X pins σ E) s
section
variable{X:Cx}{k:Nat}{f C:am}{fd:FuncData}{ps:List Str}{sp:Sp}{rM:List V}{ds:List ap}{x m:Str}{p pos apos:Pos}{e o:Expr}{es:List Expr}{ta:TE}{t:TA}
theorem aiy{a:List (am×Obj)}{b:St}{H:Hp}{s:ar}{Q:VK}{E:XK}{us:List ap}{vs:List V}(F:bu X.prog X.w X.K X.mg X.base (jD X.prog X.w) k f fd ps sp)(j:jF k X.A)(g:Binds X.K fd ps ds)(i:ck rM ds)(c:X.ex=[])(I:Inv X a b H s)(r:ck vs us)(h:sp (vs++rM) H Q E):bt (model X.prog X.w) X.A (call (.ref f) us) (EP X a b Q) (XP X a b E) s:=by have d:ck (vs++rM) (us++ds):=r.append i;have l:(us++ds).length=ps.length:=(by rw[<- d.length];exact F.len _ _ _ _ h);refine wpAny_call (codeAny_mono (F.run X.A X.stack s H ⟨us,[]⟩ (us++ds) (vs++rM) Q E j I.afh (g s us I.IA l) d h) λr n hq=>?_);cases r with|error e=>exact mB I c hq|ok m=>(cases m with|ret u=>exact I.after hq|next=>exact eZ hq|brk=>exact eZ hq|cont=>exact eZ hq)
def oy(sp:Sp)(rM:List V)(t:TA):St->Hp->VK->XK->Prop:=λσ H Q E=>t σ H λvs H1=>sp (vs++rM) H1 Q E
def xI(C:am)(m:Str)(sp:Sp)(rM:List V)(ta:TE)(t:TA):St->Hp->VK->XK->Prop:=λσ H Q E=>ta σ H λx H1=>∃a dx fs,x=.ref a/\H1 a=ac (.ins C dx fs)/\fs.lookup m=ae/\t σ H1 λvs H2=>sp (x::(vs++rM)) H2 Q E
def alS(C:am)(sp:Sp)(rM:List V)(t:TA):St->Hp->VK->XK->Prop:=λσ H Q E=>t σ H λvs H1=>∀x dx,H1 x=ae->H1 dx=ae->dx≠x ->
 sp (.ref x::(vs++rM)) (upd (upd H1 dx (.own x)) x (.ins C dx [])) (λv H2=>v=.fW/\Q (.ref x) H2) E
theorem EP.aow{Q:VK}(h:EP X.XH pins σ Q u s'):EP X pins σ Q u s':=by obtain⟨v,a,I,r,q⟩:=h;exists v,a,I.yb,r,q
def PA.nx(c:PA X.XH es t){pos:Pos}{a:List (am×Obj)}{s:ar}{b:St}{H:Hp}{Q:List V->Hp->Prop}{f:ap->ar->Prop}(I:Inv X a b H s)(h:t b H Q) :bt (model X.prog X.w) X.A (spliced (backTo pos (bc es X.env))) (AP X a b Q) f s :=wpAny_mono (c pos a s b H Q (I.Mg _) h) (λi j ⟨d,g,e,r,q⟩=>⟨d,g,e.yb,r,q⟩) λ_ _ z=>z.elim
def PE.nx(a:PE X.XH e te){H:Hp}(I:Inv X pins σ H s)(h:te σ H Q):bt (model X.prog X.w) X.A (eval e X.env) (EP X pins σ Q) XE s :=wpAny_mono (a pins s σ H Q (I.Mg _) h) (λu b z=>z.aow) λ_ _ z=>z.elim
theorem afH{pl:Sem Bool}(he:PE X.XH o ta)(c:PN X.K C)(hm:Qn X.K C m f)(F:bu X.prog X.w X.K X.mg X.base (jD X.prog X.w) k f fd ps sp)(J:jF k X.A)(z:Binds X.K fd ps ds)(B:ck rM ds)(g:X.ex=[])(v:PA X.XH (e::es) t)
 (b:bc (e::es) X.env=(al,eval e X.env)::bc es X.env:=by rfl) (d:(backTo pos (bc es X.env)).any (·.1)=al:=by rfl)
 (D:eval (.Call (.Attribute o m apos) (e::es) [] pos) X.env=(do
  let i <- eval o X.env
  standAt apos.atName
  let (f,first) <- holding [i] (getMethod i m pl)
  callWith pos f first (backTo pos (bc (e::es) X.env)) (backToKw pos (keywordEach [] X.env))):=by rfl):
 ka X (.Call (.Attribute o m apos) (e::es) [] pos) (xI C m sp rM ta t):=by intro p s N H Q E I h;refine rG (pl:=pl) (g8 (he.nx I h) λu M ⟨x,S,j,G,a,P,T,ex,y,l,q⟩=>?_) D;subst ex;obtain rfl:u=Value.ref a:=G;refine De j y c hm l ?_;refine gn (first:=[.ref a]) (h₀:=X.base) I.ok.mod.f6 hm.kp (g8 (v.nx j q) λus R ⟨vs,O,n,r,L⟩=>⟨n.IA,4⟩) b d;exact aiy (us:=.ref a::us) (vs:=.ref a::vs) F J z B g n (.cons rfl r) L
theorem afI(M:Mk X.K C f)(F:bu X.prog X.w X.K X.mg X.base (jD X.prog X.w) k f fd ps sp)(O:jF (k+1) X.A)(z:Gl X x)(S:X.mg x=ac (.ref C))(L:Binds X.K fd ps ds)(N:ck rM ds)(j:X.ex=[])(n:PA X.XH (e::es) t)(i:(x==("__debug__" : Str))=al:=by decide)(G:bc (e::es) X.env=(al,eval e X.env)::bc es X.env:=by rfl)(d:(backTo pos (bc es X.env)).any (·.1)=al:=by rfl) :ka X (.Call (.Name x p) (e::es) [] pos) (alS C sp rM t):=by intro m U W Z Q E g h;refine wpAny_Call_Name_kw (zQ g z S ?_ i);refine gn (h₀:=X.base) g.ok.mod.f6 M.kp (g8 (n.nx g h) λb s ⟨o,H,I,r,q⟩=>⟨I.IA,4⟩) G d;have hq:=q (s.heap.objs.size+1) s.heap.objs.size (I.hok.fresh (gX _)) (I.hok.fresh (az _)) (bB (pG _));have c:=Inv.made (C:=C) I;have l:ck (ci (s.heap.objs.size+1)::(o++rM)) (Value.ref (s.heap.objs.size+1)::(b++ds)):=.cons rfl (r.append N);have R:(Value.ref (s.heap.objs.size+1)::b++ds).length=ps.length:=(by have e:=l.length;rw[F.len _ _ _ _ hq] at e;exact e.symm);refine wpAny_call (XU (f:=f) I.IA M.makes M.init (beq_iff_eq.mp M.fn) (codeAny_mono (F.run _ X.stack _ _ ⟨Value.ref (s.heap.objs.size+1)::b,[]⟩ (Value.ref (s.heap.objs.size+1)::(b++ds)) _ _ E (O.make C b []) (c.afh.make C b []) (L _ (Value.ref (s.heap.objs.size+1)::b) c.IA R) l hq) λr Y a=>?_));cases r with|error e=>exact mB c j a|ok T=>(cases T with|ret u=>obtain⟨v,B,D,y,J,P⟩:=c.after a;subst J;exact⟨y,⟨ci (s.heap.objs.size+1),B,D,2,P⟩⟩|next=>exact eZ a|brk=>exact eZ a|cont=>exact eZ a)
end
noncomputable def Cx.held(X:Cx)(ea:am):Cx:={X with A:=X.A.mark (ac (.ref ea)),calm:=al,xe:=λ_ _=>False}
theorem Cx.Ok.held{X:Cx}(ok:X.Ok)(ea:am):(X.held ea).Ok:=⟨ok.mod,ok.kind,ok.glob,ok.blt,ok.above,ok.inj,ok.has,ok.O3,(λz=>by cases z),ok.frames,ok.stk,ok.exf,ok.bs,ok.jz,ok.aaf,ok.adA,ok.Jz,ok.su⟩
theorem Inv.held{H:Hp}(I:Inv X pins σ H s)(ea:am):Inv (X.held ea) pins σ H s:=⟨I.ok.held ea,I.os,I.bare,I.base,I.loc,I.cell,I.free,I.vp,I.pin,I.hok,I.len⟩
def Inv.Wf{X:Cx}{H:Hp}(ok:X.Ok)(I:Inv (X.held ea) pins σ H s):Inv X pins σ H s:=⟨ok,I.os,I.bare,I.base,I.loc,I.cell,I.free,I.vp,I.pin,I.hok,I.len⟩
theorem HB{X:Cx}{M:Model}{A:ce}{E:ap->ar->Prop}{f:List (am×Obj)}{S:St}{H:Hp}{s:ar}{i:Nat}{n:Str}{P:Pos}{Q:Unit->ar->Prop}(I:Inv X f S H s)(hN:X.N.Nodup)(hi:X.N[i]?=ac n)(hl:X.env.kindOf n=ac .local)(h:∀s',Inv X f (S.set i ae) H s'->Q () s'):bt M A (do bindName X.env n .none;unbindBehindTheSuite X.env n P) Q E s:=by
 obtain⟨m,hn,F⟩:=I.loc;refine wpAny_nameGoes_keeps hl hn (by rw[I.ok.kind];rfl) λV v L sb=>h _ ?_;have t:∀b o,b≠X.env.locals->s.heap.get? b=ac o->V.get? b=ac o:=λb o D e=>(sb.2 b D).trans e;have a:∀x c,X.env.cells.lookup x=ac c->∀u,s.heap.IsCell c u->V.IsCell c u:=λx c e u ⟨o,Z,hd⟩=>⟨o,t c o (I.E2 x c e) Z,hd⟩;have g:∀b o,X.s₀.heap.get? b=ac o->b≠X.env.locals:=λb o e=>bB (bF (a7 e) I.ok.above);have W:∀b u,H b=ac u->b≠X.env.locals:=λb u e z=>(by rw[z,I.free] at e;cases e);exists I.ok,I.os,I.bare,⟨λb o e G D B=>t b o (g b o e) (I.base.keep b o e G D B),λb o e G D B=>?_,I.base.free,λb o e B=>?_,I.base.tups,I.base.Ik,I.base.Jy⟩,⟨_,L,λj y u w k e3=>?_⟩,λx c e=>?_,I.free,I.vp,λp hp=>?_,λb o e=>?_,4;obtain⟨sl,w⟩:=I.base.slot b o e G D B;exists sl,t b _ (g b o e) w;obtain⟨U,w⟩:=I.base.there b o e B;exists U,t b U (g b o e) w;·have C:j≠i:=λz=>(by subst z;rw[fV] at k;split at k;(·split at k <;> cases k);rename_i z;exact b3 rfl z);rw[List.getElem?_set_ne (bS C)] at k;obtain⟨R,r,l⟩:=F j y u w k e3;have K:y≠n:=λz=>C (Qh hN w (z▸hi));exists R,r,4;rcases l with ⟨O,J⟩|⟨O,c,J,Y⟩;refine .inl ⟨O,4⟩;show (if y=n then v else m y)=ac R;rw[b5 K];exact J;exact .inr ⟨O,c,J,a y c J _ Y⟩
 obtain⟨u,z⟩:=I.cell x c e;exists u,a x c e u z;obtain⟨e,G,T,nf,d⟩:=I.pin p hp;exists t p.1 p.2 T e,G,T,nf,d;refine (I.hok b o e).stay (λc u hc q=>t c u ?_ q) (λ_ q=>q) λ_ _ q=>q;rcases hc with rfl|hc;exact W _ _ e;exact W _ _ hc;rw[bC];exact I.len
theorem Inv.aox{H:Hp}(I:Inv X pins σ H s)(r:eD X pins H a)(f:jk X.prog X.w (upd H a o) s.heap a o):Inv X pins σ (upd H a o) s:=by obtain⟨A,B,E,y,C,D⟩:=r;have k:∀b u,H b=ac u->b≠a:=λb u e z=>(by rw[z,A] at e;cases e);have st:∀b u,H b=ac u->upd H a o b=ac u:=λb u e=>(by rw[aI (k b u e)];exact e);exists I.ok,I.os,I.bare,⟨I.base.keep,I.base.slot,λb ob e n j=>?_,I.base.there,λb h e=>st _ _ (I.base.tups b h e),λb ob u e=>st _ _ (I.base.Ik b ob u e),λb t e=>?_⟩,I.loc,I.cell,4,λx c e=>?_,λp i=>?_,λb u e=>?_,I.len;rw[aI (λz=>by rw[z,y] at e;cases e)];exact I.base.free b ob e n j;obtain⟨v,m⟩:=I.base.Jy b t e;exists v,st _ _ m;rw[aI (bS B)];exact I.free;rw[aI (C x c e)];exact I.vp x c e;obtain⟨e,n,l,nf,d⟩:=I.pin p i;exists e,by rw[aI (D p i)];exact n,l,nf,d;by_cases g:b=a;subst g;rw[aq] at e;cases e;exact f;rw[aI g] at e;exact (I.hok b u e).stay (λ_ _ _ q=>q) (λc q=>st _ _ q) λc h q=>st _ _ q
section
variable{X:Cx}{e:Expr}{es:List Expr}{pos:Pos}{te:TE}
abbrev TJ:=St->Hp->Str->VK->Prop
def PJ(X:Cx)(es:List Expr)(t:TJ):Prop:=
 ∀(pins:List (am×Obj))(s:ar)(σ:St)(H:Hp)(out:Str)(Q:VK),Inv X pins σ H s->t σ H out Q->bt (model X.prog X.w) X.A (joinParts out (evalEach es X.env)) (EP X pins σ Q) X.xe s
def Mr:PJ X [] (λ_ H out Q=>out.length<=a9/\Q (.str out) H):=λa s c H out Q I ⟨b,q⟩=>joinParts_nil ⟨.str out,H,I.tok _,⟨1⟩,q⟩ b
theorem kh(g:PE X e te)(k:PJ X es t):PJ X (e::es) (λc H b Q=>te c H λv d=>∃y,v=.str y/\(b++y).length<=a9/\t c d (b++y) Q):=by intro a s c H b Q I h;refine joinParts_cons (g8 (g a s c H _ I h) λu f ⟨v,d,j,r,y,i,l,q⟩=>?_);subst i;obtain⟨m,rfl⟩:=r;exists l,k a f c d _ Q j q
def HC{c:Expr}(h:PJ X (e::c::es) t):PE X (.JoinedStr (e::c::es) pos) (λb H Q=>t b H Str.empty Q):=λa s b H Q I q=>JoinedStr_many (h a s b H _ Q I q)
theorem HD(d:PE X e te):PE X (.FormattedValue e (-1) ae pos) (λb H Q=>te b H λv c=>∃i:Int,v=.int i/\i.natAbs.log2<1920/\Q (.str (toString i)) c):=by intro a s b H Q I h;refine FormattedValue_plain (g8 (d a s b H _ I h) λu k ⟨v,c,g,r,i,f,j,q⟩=>?_);subst f;obtain⟨l,rfl⟩:=r;exact formatField_int_small j ⟨.str _,c,g.tok _,⟨1⟩,q⟩
end
end L2
namespace RM
structure Row where
 hd:Int
 co:Int
 ho:Int
 by_:Int
deriving DecidableEq
theorem Row.ext'{r s:Row}(c:r.hd=s.hd)(d:r.co=s.co)(a:r.ho=s.ho)(b:r.by_=s.by_):r=s:=by cases r;cases s;simp_all
def lt(r s:Row):Prop:=r.hd<s.hd∨(r.hd=s.hd/\(r.co<s.co∨(r.co=s.co/\(r.ho<s.ho∨(r.ho=s.ho/\r.by_<s.by_)))))
instance (r s:Row):Decidable (lt r s):=by unfold lt;infer_instance
def le(r s:Row):Prop:=¬lt s r
instance (r s:Row):Decidable (le r s):=by unfold le;infer_instance
theorem le_refl(r:Row):le r r:=by unfold le lt;lia
theorem ma{a b c:Int}{k f g:Prop}(h:¬k->¬f->¬g)(i:¬(b<a∨(b=a/\k)))(l:¬(c<b∨(c=b/\f))):¬(c<a∨(c=a/\g)):=by have d:a<=b:=Int.not_lt.mp λy=>i (.inl y);have j:b<=c:=Int.not_lt.mp λy=>l (.inl y);intro z;rcases z with z|⟨z,n⟩;exact Int.not_lt.mpr (Int.le_trans d j) z;subst z;have e:=Int.le_antisymm d j;subst e;exact h (λy=>i (.inr ⟨2,y⟩)) (λy=>l (.inr ⟨2,y⟩)) n
theorem le_trans(d:le r s)(c:le s t):le r t :=ma (ma (ma λa b=>Int.not_lt.mpr (Int.le_trans (Int.not_lt.mp a) (Int.not_lt.mp b)))) d c
theorem le_antisymm(a:le r s)(b:le s r):r=s:=by unfold le lt at *;exact Row.ext' ∅ ∅ ∅ ∅
theorem akk(h:lt r s):le r s:=by unfold le lt at *;lia
structure Net where
 n:Nat
 nm:Nat->Int
 a:Nat->Nat
 b:Nat->Nat
 c:Nat->Int
 live:List Nat
 inj:∀i j,i<n->j<n->nm i=nm j->i=j
 ab:∀k∈live,a k<n/\b k<n/\a k≠b k
 c1:∀k∈live,1<=c k
section
variable(N:Net)
def PX(k h g:Nat):Prop:=k∈N.live/\((N.a k=h/\N.b k=g)∨(N.b k=h/\N.a k=g))
def own(h:Nat):Row:=⟨N.nm h,(0),(0),-1⟩
def over(k:Nat)(r:Row):Row:=⟨r.hd,r.co+N.c k,r.ho+1,k⟩
end
variable{N:Net}
def PX.symm(e:PX N k h g):PX N k g h:=⟨e.1,e.2.elim (λz=>.inr ⟨z.2,z.1⟩) λz=>.inl ⟨z.2,z.1⟩⟩
theorem PX.lt(e:PX N k h g):h<N.n/\g<N.n/\h≠g:=by obtain⟨d,e⟩:=e;obtain⟨b,c,a⟩:=N.ab k d;rcases e with ⟨rfl,rfl⟩|⟨rfl,rfl⟩;exists b,c,a;exists c,b,bS a
def PX.cost(e:PX N k h g):1<=N.c k:=N.c1 k e.1
structure zS(cut:Int)(R:Nat->Row)(h:Nat)(d:Row):Prop where
 one:d=own N h∨∃k g,PX N k h g/\(R g).ho+1<cut/\d=over N k (R g)
 own:le d (RM.own N h)
 all:∀k g,PX N k h g->(R g).ho+1<cut->le d (over N k (R g))
theorem zS.uniq(p:zS (N:=N) cut R h d)(q:zS (N:=N) cut R h e):d=e:=by apply le_antisymm;rcases q.one with z|⟨k,g,a,c,z⟩;rw[z];exact p.own;rw[z];exact p.all k g a c;rcases p.one with z|⟨k,g,a,c,z⟩;rw[z];exact q.own;rw[z];exact q.all k g a c
def Rest(N:Net)(S:Nat->Row):Prop:=∀h,h<N.n->zS (N:=N) N.n S h (S h)
def Sane(N:Net)(R:Nat->Row):Prop:=∀h,h<N.n->0<=(R h).ho/\(R h).ho<N.n
def upd(R:Nat->Row)(h:Nat)(d:Row):Nat->Row:=λx=>if x=h then d else R x
inductive Run(N:Net):(Nat->Row)->List Nat->(Nat->Row)->Prop
 |nil (R):Run N R [] R
 |cons {R R' h d cs} (i:zS (N:=N) N.n R h d) (t:Run N (upd R h d) cs R'):Run N R (h::cs) R'
structure tV(N:Net)(R:Nat->Row)(k h g:Nat):Prop where
 Hz:PX N k h g
 cut:(R g).ho+1<N.n
 eq:R h=over N k (R g)
theorem PX.far(a:PX N k h g)(b:PX N k h g'):g=g':=by obtain⟨c,e⟩:=a;obtain⟨_,d⟩:=b;have:=(N.ab k c).2.2;lia
section
variable{R:Nat->Row}{k h g:Nat}
theorem tV.ho(t:tV N R k h g):(R h).ho=(R g).ho+1:=by rw[t.eq];rfl
theorem tV.by(t:tV N R k h g):(R h).by_=k:=by rw[t.eq];rfl
theorem tV.uniq(t:tV N R k h g)(u:tV N R k' h g'):k=k'/\g=g':=by have a:=t.by;have b:=u.by;have e:k=k':=∅;subst e;exists 2,t.Hz.far u.Hz
theorem tV.one(t:tV N R k h g)(u:tV N R k h' g'):h=h'/\g=g':=by obtain⟨f,e⟩:=t.Hz;obtain⟨_,b⟩:=u.Hz;have d:=t.ho;have i:=u.ho;have a:h=h'∨(h=g'/\g=h'):=(by rcases e with ⟨rfl,rfl⟩|⟨rfl,rfl⟩ <;> rcases b with ⟨rfl,rfl⟩|⟨rfl,rfl⟩ <;> simp);rcases a with a|⟨a,c⟩;subst a;exists 2,t.Hz.far u.Hz;subst a c;lia
end
end RM
namespace RM
variable{N:Net}
end RM
namespace L2
open PySem PySem.Spec PyProof.Rows
inductive Yj:List ap->List ap->Bool->Prop
 |nil:Yj [] [] al
 |ne {a c:Int} {t u:Tok} {vs ws:List ap} (h:a≠c):Yj (.int a t::vs) (.int c u::ws) (decide (a<c))
 |eq {a:Int} {t u:Tok} {vs ws:List ap} {r:Bool} (h:Yj vs ws r):Yj (.int a t::vs) (.int a u::ws) r
section
open PySem.SeqAt
open PySem.AutoSeq1 (wpAny_loadPart')
open PySem.MeetsSeq PySem.MeetsSeq2 PySem.MeetsSeq3
theorem aaI(l b:am)(items f:Array ap)(n H:Nat)(dd G:Option am)(K F:Array (Option ap))(r:Bool)(I:Yj items.toList f.toList r)(hsz:items.size=f.size):
 Meets (Builtin.«tuple.__lt__» ⟨[.ref l,.ref b],[]⟩)
  (λ_ R s=>s.heap.get? l=ac {cls:=.type "tuple",dict:=dd,data:=.seq items n,slots:=K}/\s.heap.get? b=ac {cls:=.type "tuple",dict:=G,data:=.seq f H,slots:=F} /\
   R (.ok (.ret (.bool r))) s):=
 .of_wp λi w A R s h=>by
  obtain⟨z,g,d,v,os⟩:=s;obtain⟨N,J,h⟩:=h;have Q:=AutoSeq1.sub_tuple_tuple
  wp_walk using wpAny_loadPart' N,wpAny_loadPart' J,wpAny_forIn_list _ (λrest b B=>b.1=ae/\B=⟨z,g,d,v,os⟩/\∃(p q:List ap),rest=p.zip q/\Yj p q r) _
  case turn=>
   rintro⟨y,x⟩ rest b B ⟨m,rfl,p,q,k,o⟩;cases o with
   |nil=>rw[List.zip_nil_left] at k;cases k
   |@ne a c t u p q E=>
    rw[List.zip_cons_cons] at k;injection k with hyx hrest
    injection hyx with hy o
    subst hy o;obtain⟨e,D,j⟩:=HT.XZ A.in1 ⟨z,g,d,v,os⟩ a t c u;refine aw (D i w _ _ ?_);cases e with
    |true=>exact b3 (j.mp rfl) E
    |false=>
     have M:=HT.afk A.in1 ⟨z,g,d,v,os⟩ a t c u i w
     wp_walk using M
     exists 1,by simpa using h
   |@eq a t u p q P C=>
    rw[List.zip_cons_cons] at k;injection k with hyx hrest
    injection hyx with hy o
    subst hy o;obtain⟨e,D,j⟩:=HT.XZ A.in1 ⟨z,g,d,v,os⟩ a t a u;refine aw (D i w _ _ ?_);cases e with
    |true=>
     wp_walk
     exists 2233,hrest,C
    |false=>exact b3 (j.mpr rfl) aN
  case fin=>
   rintro⟨O,S⟩ B ⟨m,rfl,p,q,k,o⟩;simp only at m;subst m;cases o with
   |nil=>
    have L:decide (items.size<f.size)=al:=c5 ∅;rw[<- L] at h
    wp_walk
    exists 1,by simpa [Builtin.Tuple.tupleCompareSizes] using h
   |ne=>rw[List.zip_cons_cons] at k;cases k
   |eq=>rw[List.zip_cons_cons] at k;cases k
  case h=>
   exists 22,items.toList,f.toList,2,I
end
theorem aiz{prog:bv}{w:World}{A:ce}{E:ap->ar->Prop}{s:ar}{l b:am}{items a:Array ap}{r:Bool}{Q:ap->ar->Prop}(hl:IsTup s.heap l items)(u:IsTup s.heap b a)(q:Yj items.toList a.toList r)(hsz:items.size=a.size)(p:A.units<cLine)(h:Q (.bool r) s):bt (model prog w) A (bn .Lt (.ref l) (.ref b)) Q E s:=by obtain⟨⟨t,v,i,y⟩,j,m,n,k⟩:=id hl;obtain⟨⟨z,g,data2,f⟩,c,e,o,d⟩:=id u;simp only at m k e d;subst m k e d;exact richCompare_meets_room (op:=.Lt) ⟨_,j,2⟩ ⟨_,c,2⟩ PySem.F.slot_tuple_lt PySem.F.entry_tuple_lt (PySem.F.args_tuple_lt_2 _ _) (aaI l b items a n o v g y f r q hsz) ⟨j,c,show Value.bool r≠Value.notImplemented/\Q (.bool r) s from ⟨(λx=>nomatch x),h⟩⟩ p
inductive Qx:List V->List V->Bool->Prop
 |nil:Qx [] [] al
 |ne {a c:Int} {vs ws:List V} (h:a≠c):Qx (.int a::vs) (.int c::ws) (decide (a<c))
 |eq {a:Int} {vs ws:List V} {r:Bool} (h:Qx vs ws r):Qx (.int a::vs) (.int a::ws) r
theorem Qx.vals(h:Qx vs ws r):∀{us a:List ap},ck vs us->ck ws a->Yj us a r:=by induction h with|nil=>intro us a c b;cases c;cases b;exact .nil|ne h=>(intro us a c b;cases c with|cons d _=>(cases b with|cons e _=>obtain⟨t,rfl⟩:=d;obtain⟨u,rfl⟩:=e;exact .ne h))|eq _ i=>(intro us a c b;cases c with|cons d f=>(cases b with|cons e g=>obtain⟨t,rfl⟩:=d;obtain⟨u,rfl⟩:=e;exact .eq (i f g)))
section
variable{X:Cx}
def Q1(K:af):R2:=λx y H Q=>∃a b xs ys r,x=.ref a/\y=.ref b/\dY K H a xs/\dY K H b ys/\xs.length=ys.length/\Qx xs ys r/\Q (.bl r) H
theorem alU(j:X.A.units<cLine):E3 X (bn .Lt) (Q1 X.K):=by intro f s w H x y v u Q I l n h;obtain⟨a,b,B,z,r,rfl,rfl,g,k,t,i,q⟩:=h;cases l;cases n;obtain⟨o,c,m,_⟩:=I.tuple g;obtain⟨e,d,p,_⟩:=I.tuple k;exact aiz m p (i.vals c d) (by rw[bw,bw,<- c.length,<- d.length];exact t) j ⟨.bl r,H,I,2,q⟩
end
end L2
namespace RM
open PySem L2
def ku(b:Int):V:=if b<0 then .fW else .int b
noncomputable abbrev cO(r:Row):List V:=[.int r.hd,.int r.co,.int r.ho,ku r.by_]
def br{b:Int}(h:b<0):ku b=.fW:=b4 h
theorem be{b:Int}(h:0<=b):ku b=.int b:=b5 ∅
end RM
namespace L2
open PySem PySem.Spec PyProof.Rows
end L2
namespace L2
open PySem PySem.Spec PyProof.Rows RM
section
variable{X:Cx}
def Apart(r s:RM.Row):Prop:=r.hd≠s.hd∨r.co≠s.co∨r.ho≠s.ho∨(0<=r.by_/\0<=s.by_)
end
end L2
namespace L2
open PySem PySem.Spec PyProof.Rows
section
variable{X:Cx}
def QR(K:af):R2:=λx y H Q=>∃da db,Rep K H da x/\Rep K H db y/\da.canLay0=ag/\db.canLay0=ag/\da.depth<=64/\Q (.bl (PyData.eqv da db)) H
theorem IH(K:af)(i:X.K=K)(e:X.A.units+64<cLine):E3 X (bn .Eq) (QR K):=by subst i;intro a s d H x y v u Q I k m ⟨l,h,b,f,c,j,g,q⟩;exact Ax a s d H x y v u Q I k m ⟨l,h,b,f,c,j,bK (cE (aE (ji _ _) g) _) e,q⟩
end
end L2
namespace RM
open PySem L2
def iw(b:Int):PyData:=if b<0 then .none else .int b
def JG(r:Row):PyData:=.tuple [.int r.hd,.int r.co,.int r.ho,iw r.by_]
theorem aiA{K:af}(b:Int):Rep K H (iw b) (ku b):=by unfold iw ku;by_cases h:b<0;rw[b4 h,b4 h];rfl;rw[b5 h,b5 h];rfl
def yh{K:af}(h:dY K H p (cO r)):Rep K H (JG r) (.ref p) :=⟨p,1,h,5252525,aiA _,2⟩
theorem yi(r:Row):(JG r).canLay0=ag:=by show (ag&&(ag&&(ag&&((iw r.by_).canLay0&&ag))))=ag;unfold iw;split <;> rfl
theorem Ms(r:Row):(JG r).depth=1:=by show max 0 (max 0 (max 0 (max (iw r.by_).depth 0)))+1=1;unfold iw;split <;> rfl
theorem Qy{r s:Row}(g:-1<=r.by_)(i:-1<=s.by_):PyData.eqv (JG r) (JG s)=decide (r=s):=by have e:PyData.eqv (JG r) (JG s)=((r.hd==s.hd)&&((r.co==s.co)&&((r.ho==s.ho)&&(PyData.eqv (iw r.by_) (iw s.by_)&&ag)))):=rfl;rw[e];have f:PyData.eqv (iw r.by_) (iw s.by_)=decide (r.by_=s.by_):=(by unfold iw;by_cases b:r.by_<0 <;> by_cases c:s.by_<0;rw[b4 b,b4 c];exact (b6 ∅).symm;rw[b4 b,b5 c];exact (c5 ∅).symm;rw[b5 b,b4 c];exact (c5 ∅).symm;rw[b5 b,b5 c];show (r.by_==s.by_)=_;by_cases a:r.by_=s.by_;rw[b6 a,a];exact beq_self_eq_true _;rw[c5 a];exact beq_eq_false_iff_ne.mpr a);rw[f];by_cases h:r=s;subst h;simp;rw[c5 h];have:¬(r.hd=s.hd/\r.co=s.co/\r.ho=s.ho/\r.by_=s.by_):=λz=>h (Row.ext' z.1 z.2.1 z.2.2.1 z.2.2.2);simp only[Bool.and_true];by_cases b:r.hd=s.hd;by_cases c:r.co=s.co;by_cases a:r.ho=s.ho;have d:¬r.by_=s.by_:=λz=>this ⟨b,c,a,z⟩;simp[d];simp[a];simp[c];simp[b]
end RM
namespace L2
open PySem PySem.Spec PyProof.Rows
end L2
namespace RM
open PySem L2
theorem aiB(h:r.hd=s.hd->r.co=s.co->r.ho=s.ho->¬lt r s):Qx [.int r.hd,.int r.co,.int r.ho] [.int s.hd,.int s.co,.int s.ho] (decide (lt r s)):=by obtain⟨j,i,n,o⟩:=r;obtain⟨m,k,l,p⟩:=s;dsimp only at h;have a:∀{b g:Bool}{vs ws},Qx vs ws b->b=g->Qx vs ws g:=λh e=>e▸h;by_cases d:j=m;subst d;by_cases f:i=k;subst f;by_cases c:n=l;subst c;exact a (.eq (.eq (.eq .nil))) (c5 (h rfl rfl rfl)).symm;exact a (.eq (.eq (.ne c))) (by unfold lt;simp[c]);exact a (.eq (.ne f)) (by unfold lt;simp[f]);exact a (.ne d) (by unfold lt;simp[d])
end RM
namespace L2
open PySem PySem.Spec PyProof.Rows
end L2
set_option maxHeartbeats 4000000
namespace TW
open PySem L2 PyProof.Rows
open RM (cO ku br be)
seal L2.PE L2.PA L2.PT L2.PW L2.PS L2.i9 L2.PG L2.lI L2.PI L2.kQ
structure xz(n:Int)(a b c d e:Int):Prop where
 a0:0<=a
 a1:a<n
 b0:0<=b
 b1:b<n
 ab:a≠b
 c1:1<=c
 d1:1<=d
 d4:d<=4
 e1:1<=e
 e7:e<=7
noncomputable abbrev hU(a b c d e:Int):List V:=[.int a,.int b,.int c,.int d,.int e]
structure R5 where
 a:Int
 b:Int
 c:Int
 d:Int
 e:Int
noncomputable abbrev R5.vs(r:R5):List V:=hU r.a r.b r.c r.d r.e
noncomputable abbrev R5.ns(r:R5):List Int:=[r.a,r.b,r.c,r.d,r.e]
def R5.D(r:R5):PyData:=.tuple (r.ns.map .int)
abbrev R5.Ok(n:Int)(r:R5):Prop:=xz n r.a r.b r.c r.d r.e
def Oa(K:af)(H:Hp)(l:am)(rs:List R5):Prop:=Rep K H (.list (rs.map R5.D)) (.ref l)
section
variable{K:af}{H H':Hp}{l:am}{rs:List R5}
theorem Oa.mono(s:aB H H')(h:Oa K H l rs):Oa K H' l rs:=Rep.mono s h
theorem Oa.at(h:Oa K H l rs):∃vs,bH K H l vs/\vs.length=rs.length/\∀(i:Nat)r,rs[i]?=ac r->∃p,vs[i]?=ac (.ref p)/\dY K H p r.vs:=by obtain⟨a,vs,e,q,r⟩:=h;cases e;exists vs,q,by rw[r.length,ah],λi x f=>?_;obtain⟨v,c,g⟩:=r.get (i:=i) (d:=x.D) (by rw[ak,f];rfl);obtain⟨p,e,b⟩:=Rep.Fi (ns:=x.ns) g;subst e;exists p,c,b
end
theorem Qz:∀(ns:List Int),ns.Nodup->(firstMet (λi=>ns.getD i 0) (cx ns)).length=ns.length:=by intro ns k;have e:(ay (cx ns)).map (λi=>ns.getD i 0)=ns:=(by apply vR;simp;intro i d m;simp at d;simp[ao,d]);have c:∀(b a:List Int),(a++b).Nodup->b.foldl step_dedup a=a++b:=(by intro b;induction b with|nil=>intro a _;simp|cons x b l=>intro a h;have g:x∉a:=λj=>(by rw[List.nodup_append] at h;exact h.2.2 x j x (-_) rfl);have f:step_dedup a x=a++[x]:=(by unfold step_dedup;simp[g]);rw[gF,f,l _ (by simpa using h)];simp);unfold firstMet;rw[e,c ns [] (by simpa using k)];simp
theorem fk{f:Str}{v:V}:∀{a:List (Str×V)}{names:List Str},a.map (·.1)=names->names.contains f=al->Cg f v a=a++[(f,v)]
 |[],_,_,_=>rfl
 | (g,u)::r,_,e,h=>by
  subst e;rw[bL,List.contains_cons,Bool.or_eq_false_iff] at h;have b:¬g=f:=λz=>by
   have:=h.1
   rw[z] at this;simp at this
  show (if g=f then (g,v)::r else (g,u)::Cg f v r)=_;rw[b5 b,fk rfl h.2];rfl
theorem HE{K:af}{H c:Hp}{p:am}(k:∀b o,H b=ac o->b≠p->c b=ac o)(d:H p=ac (.ins C dx fs))(h:bH K H a xs):bH K c a xs:=by rcases h with (h|⟨o,h⟩)|h;exact .inl (.inl (k _ _ h (tK h d (by intro z;cases z))));exact .inl (.inr ⟨o,k _ _ h (tK h d (by intro z;cases z))⟩);exact .inr h
theorem aiC{K:af}{H c:Hp}{p:am}(k:∀b o,H b=ac o->b≠p->c b=ac o)(d:H p=ac (.ins C dx fs))(h:dY K H a xs):dY K c a xs:=by rcases h with (h|⟨o,h⟩)|h;exact .inl (.inl (k _ _ h (tK h d (by intro z;cases z))));exact .inl (.inr ⟨o,k _ _ h (tK h d (by intro z;cases z))⟩);exact .inr h
mutual
theorem aiD{K:af}{H f:Hp}{p C g:am}{i:List (Str×V)}(k:∀b o,H b=ac o->b≠p->f b=ac o)(c:H p=ac (.ins C g i)):∀{d:PyData}{v:V},Rep K H d v->Rep K f d v
 |.none,_,h=>h
 |.bool _,_,h=>h
 |.int _,_,h=>h
 |.str _,_,h=>h
 |.list ds,_,⟨a,vs,e,q,r⟩=>⟨a,vs,e,HE k c q,nB k c r⟩
 |.tuple ds,_,⟨a,vs,e,q,r⟩=>⟨a,vs,e,aiC k c q,nB k c r⟩
 |.dict _,_,h=>h
theorem nB{K:af}{H a:Hp}{p C d:am}{f:List (Str×V)}(k:∀b o,H b=ac o->b≠p->a b=ac o)(c:H p=ac (.ins C d f)):∀{ds:List PyData}{vs:List V},ee K H ds vs->ee K a ds vs
 |[],_,h=>h
 |_::_,_,⟨v,r,e,q,t⟩=>⟨v,r,e,aiD k c q,nB k c t⟩
end
noncomputable abbrev QQ(ln lr:am)(n m:Nat):List (Str×V):=[("house_names",.ref ln),("rope_tuples",.ref lr),("size",.int n),("many",.int m)]
structure dR(K:af)(C:am)(H:Hp)(p ln lr:am)(ns:List Int)(rs:List R5):Prop where
 ob:∃dx,H p=ac (.ins C dx (QQ ln lr (cx ns) (cx rs)))
 nl:H ln=ac (.lst (ns.map cf))
 rl:∃vs,H lr=ac (.lst vs)/\ee K H (rs.map R5.D) vs
section
variable{K:af}{C:am}{H H':Hp}{p ln lr:am}{ns:List Int}{rs:List R5}
theorem dR.mono(s:aB H H')(h:dR K C H p ln lr ns rs):dR K C H' p ln lr ns rs:=by obtain⟨⟨f,d⟩,e,c,a,b⟩:=h;exists ⟨f,s _ _ d⟩,s _ _ e,c,s _ _ a,b.mono s
end
theorem Wg(a x:Int):gf (.int a) (.int x)=decide (x=a):=by show (a==x)=decide (x=a);by_cases e:x=a;rw[b6 e,e];exact beq_self_eq_true a;rw[c5 e];exact beq_eq_false_iff_ne.mpr (bS e)
theorem Ck(x:Int)(xs:List Int):XI (.int x) (xs.map cf)=decide (x∈xs):=by unfold XI;induction xs with|nil=>simp|cons y c d=>rw[bL,List.any_cons,d,Wg];by_cases a:x=y;subst a;simp;by_cases b:x∈c;simp[a,b];simp[a,b]
theorem Cm(xs:List Int):(xs.map cf).all Fc=ag:=by rw[iQ];intro v a;obtain⟨x,_,rfl⟩:=aF.mp a;rfl
def above(xs:List Int)(x:Int):Nat:=(xs.filter λy=>decide (x<=y)).length
def alV{r:TS}{H:Hp}(J:L2.St->Hp->Prop)(b:∀a H,J a H->r D a H)(h:(∀a H,J a H->r D a H)->hV c t u {D with nx:=r D} a H):Mh (hV c t u) r D a H:=h b
theorem ot{K:af}(h:dY K H1 a xs):∀i H,i<xs.length->aB H1 H->(kf K a).go i H:=λi H b s=>⟨xs,xs[i],s.iA h,by simp[b]⟩
def QA{K:af}(h:dY K H1 a xs):∀H,aB H1 H->(kf K a).stop (cx xs) H:=λH s=>⟨xs,s.iA h,az _⟩
structure Ay(n m:Nat)(r:RM.Row):Prop where
 hd:0<=r.hd
 co:0<=r.co
 ho:0<=r.ho/\r.ho<n
 by_:r.by_=-1∨(0<=r.by_/\r.by_<m)
noncomputable abbrev bN(ks:List Nat):List V:=ks.map λk=>cf (k:Nat)
theorem nC(a:List Nat)(k:Nat):bN (a++[k])=bN a++[cf (k:Nat)]:=by unfold bN;rw[bx];rfl
theorem aiE{K:af}{H:Hp}(hq:H q=ac (.lst xs))(h:dY K H a ys):dY K (upd H q o) a ys:=by rcases h with (h|⟨ob,h⟩)|h;exact .inl (.inl (by rw[aI (tK h hq (by intro z;cases z))];exact h));exact .inl (.inr ⟨ob,by rw[aI (tK h hq (by intro z;cases z))];exact h⟩);exact .inr h
noncomputable def bz(ns:List Int)(rs:List R5)(live:List Nat)(nd:ns.Nodup)(ok:∀r∈rs,r.Ok (cx ns))(hl:∀k∈live,k<cx rs):RM.Net where
 n:=ns.length
 nm i:=ns.getD i 0
 a k:=((rs[k]?).map λr=>r.a.toNat).getD 0
 b k:=((rs[k]?).map λr=>r.b.toNat).getD 0
 c k:=((rs[k]?).map λr=>r.c).getD 0
 live:=live
 inj i j hi hj e:=by
  have e1:ns.getD i 0=ns[i]:=by simp[ao,hi]
  have e2:ns.getD j 0=ns[j]:=by simp[ao,hj]
  have e:ns[i]=ns[j]:=by rw[<- e1,<- e2];exact e
  exact (List.getElem?_inj hi nd).mp (by rw[aa hi,aa hj,e])
 ab k hk:=by
  have h:=hl k hk;have o:=ok _ (aD h);simp only[aa h,nj,Option.getD_some];have h1:=o.a0;have h2:=o.a1;have h3:=o.b0;have h4:=o.b1;have h5:=o.ab;exists 666
 c1 k hk:=by
  have h:=hl k hk;have o:=ok _ (aD h);simp only[aa h,nj,Option.getD_some];exact o.c1
def Az(K:af)(H:Hp)(l:am)(n:Nat)(R:Nat->RM.Row):Prop:=∃ps:List am,bH K H l (ps.map ci)/\ps.length=n/\∀(i:Nat)p,ps[i]?=ac p->dY K H p (cO (R i))
theorem Az.mono{K:af}(s:aB H H')(h:Az K H l n R):Az K H' l n R:=by obtain⟨c,b,d,a⟩:=h;exists c,s.seq b,d,λi p e=>s.iA (a i p e)
theorem rN:∀ns:List Int,bi (ns.map .int)=ag
 |[]=>rfl
 |n::ns=>by
  show (PyData.canLay0 (.int n)&&bi (ns.map .int))=ag;rw[rN ns];rfl
theorem Mt:∀ns:List Int,bb (ns.map .int)=0
 |[]=>rfl
 |n::ns=>by
  show max (PyData.depth (.int n)) (bb (ns.map .int))=0;rw[Mt ns];rfl
theorem alW(xs:List V)(i:Nat):Aw xs ae (ac (i:Int))=xs.take i:=by unfold Aw;rw[HT.abV];show (xs.drop 0).take (min i xs.length-0)=_;rw[List.drop_zero,Nat.sub_zero];by_cases h:i<=xs.length;rw[Nat.min_eq_left h];rw[Nat.min_eq_right ∅,gu (az _),gu ∅]
theorem Cn(xs:List V)(i:Nat):Aw xs (ac (i:Int)) ae=xs.drop i:=by unfold Aw;rw[HT.abV];show (xs.drop (min i (cx xs))).take (xs.length-min i (cx xs))=_;by_cases h:i<=xs.length;rw[Nat.min_eq_left h,gu (by rw[lD];exact az _)];rw[Nat.min_eq_right ∅,List.drop_of_length_le (az _),List.drop_of_length_le ∅];simp
section
variable{ns:List Int}{rs:List R5}{live:List Nat}{nd:ns.Nodup}{ok:∀r∈rs,r.Ok ns.length}{hl:∀k∈live,k<cx rs}
def AA(n m:Nat)(R:Nat->RM.Row):Prop:=∀i,i<n->Ay n m (R i)
def AA.aiF(h:AA (cx ns) m R):RM.Sane (bz ns rs live nd ok hl) R:=λi a=>(h i a).ho
theorem Iy{h:Nat}(l:AA (cx ns) (cx rs) R)(b:h<cx ns)(j:∀x∈ns,0<=x)(i:RM.zS (N:=bz ns rs live nd ok hl) (cx ns) R h d):Ay (cx ns) (cx rs) d:=by rcases i.one with e|⟨k,g,a,c,e⟩;rw[e];have m:(bz ns rs live nd ok hl).nm h=ns[h]:=(by show ns.getD h 0=_;simp[ao,b]);exists 4,Int.le_refl _,⟨Int.le_refl _,4⟩,.inl rfl;show 0<=(bz ns rs live nd ok hl).nm h;rw[m];exact j _ (aD b);show (0:Int)<cx ns;lia;have f:=l g a.lt.2.1;have n:=a.cost;have o:k<cx rs:=hl k a.1;rw[e];exists f.hd,4,⟨4,c⟩,.inr ⟨44⟩;show 0<=(R g).co+(bz ns rs live nd ok hl).c k;have:=f.co;lia;show 0<=(R g).ho+1;have:=f.ho.1;lia;show (0:Int)<=(k:Nat);lia;show ((k:Nat):Int)<(rs.length:Nat);lia
end
theorem Ay.by1(h:Ay n m r):-1<=r.by_:=by have:=h.by_;lia
noncomputable def de(rs:List R5)(h:Int)(i:Nat):Bool:=match rs[i]? with|some r=>decide (h=r.a) || decide (h=r.b)|none=>al
def iy(rs:List R5)(h:Int)(n:Nat):List Nat:=(ay n).filter (de rs h)
theorem Yk(rs:List R5)(h:Int)(n:Nat):iy rs h (n+1)=iy rs h n++(if de rs h n then [n] else []):=by unfold iy;rw[iK,gp];congr 1;by_cases a:de rs h n=ag;rw[b4 a];simp[a];rw[b5 a];simp[a]
theorem aiG(rs:List R5)(h:Int)(n:Nat):(iy rs h n).length<=n:=by have:=bM (de rs h) (ay n);rw[bI] at this;exact this
theorem alX(x a b:Int):XI (cf x) [cf a,cf b]=(decide (x=a) || decide (x=b)):=by show (gf (.int a) (.int x) || (gf (.int b) (.int x) || al))=_;rw[Wg,Wg,Bool.or_false]
theorem iW(a:List Nat):bN a=(a.map λk:Nat=>(k:Int)).map cf:=by unfold bN;rw[cz];rfl
theorem Co(x:Nat)(xs:List Nat):XI (.int (x:Nat)) (bN xs)=decide (x∈xs):=by rw[iW,Ck];by_cases h:x∈xs;rw[b6 h];exact b6 (aF.mpr ⟨x,h,2⟩);rw[c5 h];refine c5 λz=>h ?_;obtain⟨y,a,e⟩:=aF.mp z;have:y=x:=∅;exact this▸a
theorem qR(xs:List Nat):(bN xs).all Fc=ag:=by rw[iW];exact Cm _
def afL(rs:List R5)(h:Int)(n:Nat):(iy rs h n).Pairwise (·<·):=List.Pairwise.filter _ List.pairwise_lt_range
theorem aiH{a:List Nat}(h:a.Pairwise (·<·)){j:Nat}(c:j<a.length){k:Nat}(d:k∈a.take j):k<a[j]:=by obtain⟨i,b,e⟩:=List.getElem_of_mem d;rw[bT] at b;rw[List.getElem_take] at e;rw[<- e];exact List.pairwise_iff_getElem.mp h i j ∅ c ∅
theorem HF:k∈iy rs h n↔k<n/\de rs h k=ag:=by unfold iy;rw[cQ,dO]
section
variable{ns:List Int}{rs:List R5}{live:List Nat}{nd:ns.Nodup}{ok:∀r∈rs,r.Ok ns.length}{hl:∀k∈live,k<cx rs}
def lM(r:R5)(h:Nat):Nat:=(if (h:Int)=r.a then r.b else r.a).toNat
theorem zT{k:Nat}(i:k∈live):RM.PX (bz ns rs live nd ok hl) k h g↔de rs (h:Int) k=ag/\g=lM (rs[k]'(hl k i)) h:=by have d:=hl k i;have o:=ok _ (aD d);have f:rs[k]?=ac rs[k]:=aa d;have j:(bz ns rs live nd ok hl).a k=rs[k].a.toNat:=(by show ((rs[k]?).map λr=>r.a.toNat).getD 0=_;rw[f];rfl);have l:(bz ns rs live nd ok hl).b k=rs[k].b.toNat:=(by show ((rs[k]?).map λr=>r.b.toNat).getD 0=_;rw[f];rfl);unfold RM.PX de lM;rw[j,l,f];dsimp only;generalize rs[k]=r at o;have n:=o.a0;have p:=o.b0;have m:=o.ab;constructor;rintro⟨_,⟨e,c⟩|⟨e,c⟩⟩;have z:(h:Int)=r.a:=∅;rw[b4 z];exists by simp[z],c.symm;have z:(h:Int)=r.b:=∅;rw[b5 ∅];exists by simp[z],c.symm;rintro⟨e,c⟩;exists i,4;have e:(h:Int)=r.a∨(h:Int)=r.b:=(by simpa using e);by_cases z:(h:Int)=r.a;rw[b4 z] at c;exact .inl ⟨6,c.symm⟩;rw[b5 z] at c;exact .inr ⟨6,c.symm⟩
end
theorem PY{a:Type}{xs:List a}{x y:a}{j:Nat}(h:(xs++[x])[j]?=ac y):xs[j]?=ac y∨(j=xs.length/\y=x):=by by_cases b:j<xs.length;rw[bG b] at h;exact .inl h;have:=(ai.mp h).1;rw[av] at this;have e:j=xs.length:=(by have:j<xs.length+1:=this;lia);subst e;rw[bO (az _),lF] at h;cases h;exact .inr ⟨22⟩
theorem KZ{n i:Nat}(h:i<n):rT n (i:Int)=ac i:=by unfold rT;rw[b4 ∅,b4 ∅];simp
section
variable{ns:List Int}{rs:List R5}{live:List Nat}{nd:ns.Nodup}{ok:∀r∈rs,r.Ok ns.length}{hl:∀k∈live,k<cx rs}
theorem Tb{k:Nat}(h:k<cx rs):(bz ns rs live nd ok hl).c k=rs[k].c:=by show ((rs[k]?).map λr=>r.c).getD 0=_;rw[aa h];rfl
end
end TW
namespace TW
open PySem L2 PyProof.Rows
def cy{a b:TS}{H:Hp}(h:∀N:L2.St->Hp->Prop,(∀c d,b D c d->N c d)->a {D with nx:=N} σ H):Mh a b D σ H:=h _ λ_ _ x=>x
def Wh{K:af}{Q:VK}(h:bH K H p xs)(e:KN xs i=ac v)(k:Q v H):gt K (.ref p) (.int i) H Q:=⟨p,xs,i,v,22,h,e,k⟩
def aiI{K:af}{Q:VK}(h:dY K H p xs)(e:KN xs i=ac v)(k:Q v H):tC (.int i) σ H λy a=>ge K (.ref p) y a Q:=⟨p,xs,i,v,22,h,e,k⟩
def Wi{r:TS}{H:Hp}(J:L2.St->Hp->Prop)(b:∀a H,J a H->r D a H)(h:∀N:L2.St->Hp->Prop,(∀a H,J a H->N a H)->hV c t u {D with nx:=N} a H):Mh (hV c t u) r D a H:=h _ b
def HG{K:af}{a:am}{xs:List V}{g:TG}{k:TS}{D:en}{b:L2.St}{H:Hp}(f:Nat->L2.St->Hp->Prop)(l:f 0 b H)(hl:∀i b H,i<=xs.length->f i b H->bH K H a xs)(n:∀i x b H(N:L2.St->Hp->Prop),(∀c d,f (i+1) c d->N c d)->xs[i]?=ac x->f i b H->g x b H λe h=>k {D with nx:=N,ct:=N,bk:=D.nx} e h)(q:∀b H,f (cx xs) b H->D.nx b H) :∃W:Nat->Nat->L2.St->Hp->Prop,(∃m,W 0 m b H)/\∀i m b H,W i m b H ->((IC K a).stop i H/\D.nx b H)∨((IC K a).go i H/\∃N:L2.St->Hp->Prop,(∀c d,N c d->∃j,j<m/\W (i+1) j c d)/\∀x d,(IC K a).Mc i H x d->g x b d λe h=>k {D with nx:=N,ct:=N,bk:=D.nx} e h) :=rK f l hl (λi x b H o p=>n i x b H _ (λ_ _ x=>x) o p) q
end TW
namespace TW
open PySem L2 PyProof.Rows
open RM (cO ku br be)
seal L2.PE L2.PA L2.PT L2.PW L2.PS L2.i9 L2.PG L2.lI L2.PI L2.kQ
section
open Classical
noncomputable def Fj(N:RM.Net)(R:Nat->RM.Row)(h:Nat):Option (Nat×Nat):=
 if e:∃p:Nat×Nat,RM.tV N R p.1 h p.2 then ac (choose e) else ae
end
theorem zU:Fj N R h=ac (k,g)↔RM.tV N R k h g:=by unfold Fj;constructor;intro e;split at e;rename_i q;have:=Classical.choose_spec q;rw[aT e] at this;exact this;cases e;intro t;have q:∃p:Nat×Nat,RM.tV N R p.1 h p.2:=⟨(k,g),t⟩;rw[dif_pos q];have u:=Classical.choose_spec q;obtain⟨b,a⟩:=u.uniq t;exact c6 ac (Prod.ext b a)
theorem Yl(q:∀k g,¬RM.tV N R k h g):Fj N R h=ae:=by cases e:Fj N R h with|none=>rfl|some p=>exact b3 (zU.mp e) (q p.1 p.2)
def AB(K:af)(H:Hp)(v:V):Option (Nat×Nat)->Prop
 |none=>v=.fW
 |some p=>∃t,v=.ref t/\dY K H t [.int (p.1:Nat),.int (p.2:Nat)]
theorem AB.mono{K:af}(s:aB H H')(h:AB K H v o):AB K H' v o:=by cases o with|none=>exact h|some p=>obtain⟨t,e,q⟩:=h;exists t,e,s.iA q
theorem AB.lst{K:af}{H:Hp}(hl:H l=ac (.lst xs))(h:AB K H v o):AB K (upd H l ob) v o:=by cases o with|none=>exact h|some p=>obtain⟨t,e,q⟩:=h;exists t,e,aiE hl q
def alY(K:af)(H:Hp)(l:am)(n:Nat)(u:Nat->Option (Nat×Nat)):Prop:=∃vs:List V,H l=ac (.lst vs)/\vs.length=n/\∀(i:Nat)v,vs[i]?=ac v->AB K H v (u i)
section
variable{ns:List Int}{rs:List R5}{live:List Nat}{nd:ns.Nodup}{ok:∀r∈rs,r.Ok ns.length}{hl:∀k∈live,k<cx rs}
theorem afM{k:Nat}(a:k∈live):(∃g,RM.tV (bz ns rs live nd ok hl) R k h g)↔de rs (h:Int) k=ag/\(R (lM (rs[k]'(hl k a)) h)).ho+1<cx ns/\R h=RM.over (bz ns rs live nd ok hl) k (R (lM (rs[k]'(hl k a)) h)):=by constructor;rintro⟨g,t⟩;obtain⟨b,c⟩:=(zT a).mp t.Hz;subst c;exists b,t.cut,t.eq;rintro⟨b,c,d⟩;exists _,(zT a).mpr ⟨b,2⟩,c,d
def alZ(t:RM.tV (bz ns rs live nd ok hl) R k h g):g=lM (rs[k]'(hl k t.Hz.1)) h:=((zT t.Hz.1).mp t.Hz).2
theorem oo{k:Nat}(a:k<cx rs)(ok:∀r∈rs,r.Ok (cx ns)):lM rs[k] h<cx ns:=by have o:=ok _ (aD a);have d:=o.a0;have e:=o.a1;have b:=o.b0;have c:=o.b1;unfold lM;split <;> lia
theorem Ix{k h:Nat}(c:k<cx rs)(ok:∀r∈rs,r.Ok (cx ns)):(if (h:Int)=rs[k].a then rs[k].b else rs[k].a)=((lM rs[k] h:Nat):Int):=by have o:=ok _ (aD c);have d:=o.a0;have e:=o.b0;unfold lM;split <;> lia
end
structure Told(K:af)(H:Hp)(q a b c:am)(ns:List Int)(rs:List R5)(live:List Nat):Prop where
 tup:dY K H q [.int (ns.length:Nat),.ref a,.ref b,.ref c]
 nms:bH K H a (ns.map cf)
 rps:Oa K H b rs
 liv:bH K H c (bN live)
theorem aiJ(xs:List Nat):XI .fW (bN xs)=al:=by unfold XI;rw[Bool.eq_false_iff];intro h;obtain⟨x,a,e⟩:=Dd.mp h;obtain⟨y,_,rfl⟩:=aF.mp a;cases e
end TW
namespace L2
open PySem PySem.Spec PyProof.Rows
theorem Wj(h:IntsAre us ns):ck (ns.map cf) us:=by induction h with|nil=>exact .nil|cons n t _ a=>exact .cons ⟨t,2⟩ a
section
variable{X:Cx}
def aiK(K:af):List V->Hp->VK->Prop:=λxs H Q=>∃(a:am)(ns:List Int),xs=[.ref a]/\bH K H a (ns.map cf)/\cx ns<64/\∀l(ns':List Int),H l=ae->ns'.Perm ns->ns'.Pairwise (·<=·)->Q (.ref l) (upd H l (.lst (ns'.map cf)))
theorem Ob:qQ X (.builtin "sorted") (aiK X.K):=by intro h s w H x v Q I r ⟨a,m,e,hq,n,q⟩;subst e;obtain⟨u,e,l⟩:=ck.one r;subst e;cases l;obtain⟨c,i,p,y⟩:=I.list hq;have f:IntsAre c m:=intsAre_of i;have g:=IntsAre.length f;refine sorted_ints (vs:=c) p.isList f ∅ λout d j a2 t=>?_;obtain⟨e,k⟩:=sortedAll_at s.heap c out;exists .ref (s.heap.objs.size+1),_,I.laid (a:=s.heap.objs.size+1) (o:=.lst (d.map cf)) (t':=s.toks) (λb o e=>sortedAll_old e) (gX _) ⟨4,out.toList,e,Wj j,4⟩,2,q _ d (I.hok.fresh (gX _)) a2 t;rw[ah,a2.length_eq];exact oX (cU ∅);rw[k]
end
end L2
namespace TW
open PySem L2 PyProof.Rows
open RM (cO ku br be)
seal L2.PE L2.PA L2.PT L2.PW L2.PS L2.i9 L2.PG L2.lI L2.PI L2.kQ
theorem UW:∀{xs ys:List Nat},xs.Pairwise (·<·)->ys.Pairwise (·<·)->(∀k,k∈xs↔k∈ys)->xs=ys
 |[],[],_,_,_=>rfl
 |[],y::ys,_,_,h=>b3 ((h y).mpr aP) (-_)
 |x::xs,[],_,_,h=>b3 ((h x).mp aP) (-_)
 |x::xs,y::ys,c,d,h=>by
  have b:=List.pairwise_cons.mp c;have a:=List.pairwise_cons.mp d;have e:x=y:=by
   rcases aM.mp ((h x).mp aP) with z|z
   ·exact z
   ·rcases aM.mp ((h y).mpr aP) with w|w
    ·exact w.symm
    ·have:=a.1 x z
     have:=b.1 y w
     lia
  subst e;rw[UW b.2 a.2 λk=>?_];constructor
  ·intro z
   rcases aM.mp ((h k).mp (aR _ z)) with w|w
   ·have:=b.1 k z;lia
   ·exact w
  ·intro z
   rcases aM.mp ((h k).mpr (aR _ z)) with w|w
   ·have:=a.1 k z;lia
   ·exact w
theorem tV.lt(t:RM.tV N R k h g):h<N.n/\g<N.n:=⟨t.Hz.lt.1,t.Hz.lt.2.1⟩
def kT(N:RM.Net)(R:Nat->RM.Row)(os:List Nat):Prop:=os.Pairwise (·<·)/\∀k,k∈os↔∃h g,RM.tV N R k h g
def kT.uniq(a:kT N R xs)(b:kT N R ys):xs=ys:=UW a.1 b.1 λk=>(a.2 k).trans (b.2 k).symm
theorem Ym{f:List Nat}{c:List Int}(p:c.Perm (f.map λk:Nat=>(k:Int)))(q:c.Pairwise (·<=·))(nd:f.Nodup):∃os:List Nat,c.map cf=bN os/\os.Pairwise (·<·)/\(∀k,k∈os↔k∈f)/\os.length=f.length:=by have j:∀m∈c,∃k:Nat,m=(k:Int)/\k∈f:=λm i=>(by obtain⟨k,g,e⟩:=aF.mp (p.mem_iff.mp i);exists k,e.symm,g);have r:(c.map Int.toNat).map (λk:Nat=>(k:Int))=c:=(by rw[cz];(conv=>rhs;rw[<- List.map_id c]);apply dP;intro m i;obtain⟨k,e,_⟩:=j m i;rw[e];rfl);have l:c.Nodup:=(by refine p.nodup_iff.mpr ?_;unfold List.Nodup;rw[List.pairwise_map];exact nd.imp λh e=>h ∅);refine⟨c.map Int.toNat,44,λk=>?_,by rw[ah,p.length_eq,ah]⟩;rw[iW,r];rw[List.pairwise_map];have d:=List.pairwise_and_iff.mpr ⟨q,l⟩;refine List.Pairwise.imp_of_mem (λ{a b}o s h=>?_) d;obtain⟨x,v,_⟩:=j a o;obtain⟨y,n,_⟩:=j b s;have w:=h.1;have u:=h.2;lia;constructor;intro g;obtain⟨m,i,e⟩:=aF.mp g;obtain⟨y,n,t⟩:=j m i;rw[n] at e;have:y=k:=(by rw[<- e];rfl);exact this▸t;intro g;have:((k:Nat):Int)∈c:=p.mem_iff.mpr (aF.mpr ⟨k,g,2⟩);exact aF.mpr ⟨_,this,2⟩
end TW
namespace TW
open PySem L2 PyProof.Rows Gr
open RM (cO ku br be)
section
variable{ns:List Int}{rs:List R5}{live:List Nat}{nd:ns.Nodup}{ok:∀r∈rs,r.Ok ns.length}{hl:∀k∈live,k<cx rs}
theorem QB{os:List Nat}(O:kT (bz ns rs live nd ok hl) R os):∀k∈os,k<cx rs:=λk a=>by
 obtain⟨h,g,t⟩:=(O.2 k).mp a;exact hl k t.Hz.1
end
end TW
namespace L2
open PySem PySem.Calls PySem.Spec PyProof.Rows PyProof.V PySem.W
end L2
namespace Gr
end Gr
namespace TW
open PySem L2 PyProof.Rows Gr
end TW
namespace L2
open PySem PySem.Calls PySem.Spec PyProof.Rows PyProof.V PySem.W
end L2
namespace TW
open PySem L2 PyProof.Rows Gr
end TW
namespace TW
open PySem L2 PyProof.Rows
def c4(b:List Bool):List Nat:=(ay b.length).filter λk=>b.getD k al
theorem oF{k:Nat}:k∈c4 b↔b[k]?=ac ag:=by unfold c4;rw[cQ,dO,ao];constructor;rintro⟨a,c⟩;rw[aa a] at c ⊢;simpa using c;intro h;have a:=(ai.mp h).1;exists a,by rw[h];rfl
def yj(b:List Bool):(c4 b).Pairwise (·<·):=List.Pairwise.filter _ List.pairwise_lt_range
theorem adY(b:List Bool):(c4 b).length<=b.length:=by have:=bM (λk=>b.getD k al) (ay b.length);rw[bI] at this;exact this
theorem K0:∀{xs ys:List Nat},xs.Pairwise (·<·)->ys.Pairwise (·<·)->(∀k,k∈xs↔k∈ys)->xs=ys
 |[],[],_,_,_=>rfl
 |[],y::ys,_,_,h=>b3 ((h y).mpr (-_)) (-_)
 |x::xs,[],_,_,h=>b3 ((h x).mp (-_)) (-_)
 |x::xs,y::ys,b,c,h=>by
  rw[List.pairwise_cons] at b c;have e:x=y:=by
   have h1:=(h x).mp (-_);have h2:=(h y).mpr (-_);rw[aM] at h1 h2;rcases h1 with h1|h1
   ·exact h1
   ·rcases h2 with h2|h2
    ·exact h2.symm
    ·have:=b.1 _ h2
     have:=c.1 _ h1
     lia
  subst e;rw[K0 b.2 c.2 λk=>?_];constructor
  ·intro a
   rcases aM.mp ((h k).mp (aR _ a)) with rfl|z
   ·exact b3 (b.1 _ a) (lG _)
   ·exact z
  ·intro a
   rcases aM.mp ((h k).mpr (aR _ a)) with rfl|z
   ·exact b3 (c.1 _ a) (lG _)
   ·exact z
theorem aaL:(c4 b).filter (λj=>decide (j≠k))=c4 (b.set k al):=by refine K0 (List.Pairwise.filter _ (yj b)) (yj _) λj=>?_;rw[cQ,oF,oF,fV];by_cases e:k=j;subst e;simp;rw[b5 e];simp[bS e]
theorem adZ{b:List Bool}{k:Nat}{xs:List Nat}(f:b[k]?=ac al)(d:xs.Perm (c4 b++[k]))(i:xs.Pairwise (·<=·)):xs=c4 (b.set k ag):=by have l:(c4 b++[k]).Nodup:=(by rw[List.nodup_append];exists (yj b).imp λz=>bB z,-_,λx a y g=>?_;have:y=k:=(by simpa using g);subst this;intro e;subst e;rw[oF,f] at a;cases a);have a:=(d.nodup_iff).mpr l;have h:xs.Pairwise (·<·):=(i.and a).imp λz=>Nat.lt_of_le_of_ne z.1 z.2;refine K0 h (yj _) λj=>?_;have c:=(ai.mp f).1;rw[d.mem_iff,bh,oF,oF,fV,aZ];by_cases e:k=j;subst e;rw[b4 rfl,b4 c];simp;rw[b5 e];simp[bS e]
theorem aaM(n:Nat):c4 (bV n ag)=ay n:=by refine K0 (yj _) List.pairwise_lt_range λj=>?_;rw[oF,List.getElem?_replicate,dO];by_cases h:j<n;simp[h];simp[h]
theorem Wk{w:List Nat}{xs:List Int}(b:xs.Perm (w.map λk:Nat=>(k:Int)))(f:xs.Pairwise (·<=·)):∃a:List Nat,xs=a.map (λk:Nat=>(k:Int))/\a.Perm w/\a.Pairwise (·<=·):=by have e:xs=(xs.map Int.toNat).map λk:Nat=>(k:Int):=(by rw[cz];refine Eq.symm ((dP λx d=>?_).trans (List.map_id xs));obtain⟨k,_,rfl⟩:=aF.mp (b.mem_iff.mp d);rfl);exists xs.map Int.toNat,e,44;have:=b.map Int.toNat;rw[cz] at this;have c:(Int.toNat∘λk:Nat=>(k:Int))=id:=rfl;rw[c,List.map_id] at this;exact this;rw[List.pairwise_map];exact f.imp λz=>Int.toNat_le_toNat z
def Fit(rs:List R5)(bs:List (List Bool)):Prop:=bs.length=rs.length/\∀(i:Nat)r b,rs[i]?=ac r->bs[i]?=ac b->(b.length:Int)=r.d
theorem Fit.set{i:Nat}(h:Fit rs bs)(d:bs[i]?=ac b):Fit rs (bs.set i (b.set k x)):=by exists by rw[bC];exact h.1,λj r e c a=>?_;rw[fV] at a;by_cases z:i=j;subst z;rw[b4 rfl,b4 (ai.mp d).1] at a;cases a;rw[bC];exact h.2 i r b c d;rw[b5 z] at a;exact h.2 j r e c a
structure zV(C:am)(H:Hp)(p tp lu:am)(ws:List (List Nat)):Prop where
 ob:∃dx,H p=ac (.ins C dx [("town",.ref tp),("upright",.ref lu)])
 up:∃ls:List am,H lu=ac (.lst (ls.map ci))/\ls.length=ws.length/\∀(i:Nat)l w,ls[i]?=ac l->ws[i]?=ac w->H l=ac (.lst (bN w))
section
variable{C:am}{H H':Hp}{p tp lu:am}{ws:List (List Nat)}
theorem zV.mono(s:aB H H')(h:zV C H p tp lu ws):zV C H' p tp lu ws:=by obtain⟨⟨j,e⟩,f,g,c,d⟩:=h;exists ⟨j,s _ _ e⟩,f,s _ _ g,c,λi l w a b=>s _ _ (d i l w a b)
theorem Cq{ls:List am}{i:Nat}(e:ls[i]?=ac l):bN w≠ls.map ci:=by intro z;have a:(bN w)[i]?=ac (ci l):=(by rw[z,ak,e];rfl);rw[ak] at a;cases b:w[i]? with|none=>rw[b] at a;cases a|some k=>rw[b] at a;cases a
theorem zV.ne(h:zV C H p tp lu ws):p≠lu:=by obtain⟨⟨d,a⟩,c,b,_⟩:=h;exact tK a b (by intro z;cases z)
theorem zV.put{i:Nat}{ls:List am}(h:zV C H p tp lu ws)(e:H lu=ac (.lst (ls.map ci)))(hq:H q=ac (.lst (bN w)))(s:i<ws.length)(k:∀b u,H b=ac u->b≠lu->H' b=ac u)(o:H' lu=ac (.lst ((ls.map ci).set i (.ref q)))):zV C H' p tp lu (ws.set i w):=by have d:=h.ne;obtain⟨⟨x,A⟩,c,g,r,D⟩:=h;rw[e] at g;have z:=HO.lst.inj (aT g);have z:ls=c:=(by have:=c6 (List.map λv=>match v with|V.ref a=>a|_=>0) z;rw[cz,cz] at this;have B:((λv=>match v with|V.ref a=>a|_=>0)∘ci)=(id:am->am):=rfl;rw[B,List.map_id,List.map_id] at this;exact this);subst z;have n:i<ls.length:=∅;have y:q≠lu:=(by refine tK hq e λz=>?_;exact Cq (aa n) (HO.lst.inj z));exists ⟨x,k _ _ A d⟩,ls.set i q,by rw[o,rH],by rw[bC,bC,r],λj l t a b=>?_;rw[fV] at a b;by_cases f:i=j;subst f;rw[b4 rfl,b4 n] at a;rw[b4 rfl,b4 s] at b;cases a;cases b;exact k _ _ hq y;rw[b5 f] at a b;have m:=D j l t a b;exact k _ _ m (tK m e λz=>Cq a (HO.lst.inj z))
theorem dR.but{K:af}{C:am}{tp:am}(h:dR K C H tp ln lr ns rs)(k:∀b o,H b=ac o->b≠p->H' b=ac o)(a:H p=ac (.ins C' dx fs))(g:tp≠p):dR K C H' tp ln lr ns rs:=by obtain⟨⟨d,j⟩,e,i,c,f⟩:=h;exists ⟨d,k _ _ j g⟩,k _ _ e (tK e a (by intro z;cases z)),i,k _ _ c (tK c a (by intro z;cases z)),nB k a f
end
end TW
namespace L2
open PySem PySem.Spec PyProof.Rows
section
variable{X:Cx}
theorem ad0(K:af)(e:X.K=K)(d:PE X a ta)(c:∀b,isTrue a X.env b=(do let v <- b;standAt a.pos;holding [v] (truthy v))):PT X a (x0 K ta):=by subst e;exact Mp d c
end
end L2
namespace TW
open PySem L2 PyProof.Rows
def UX(e:Int)(g:Nat):Bool:=decide (e/2^g%2=1)
theorem Yn{e:Int}{g:Nat}(f:1<=e)(d:e<=7)(a:([1,2,4]:List Int)[g]?=ac z):(!decide (Builtin.bitAnd e z=0))=UX e g:=by have c:g=0∨g=1∨g=2:=(by have:=(ai.mp a).1;simp at this;lia);have b:e=1∨e=2∨e=3∨e=4∨e=5∨e=6∨e=7:=∅;rcases c with rfl|rfl|rfl <;> cases a <;> rcases b with rfl|rfl|rfl|rfl|rfl|rfl|rfl <;> decide +kernel
theorem rc{g:Nat}(h:g<3):∃z,([1,2,4]:List Int)[g]?=ac z:=⟨_,aa (by simpa using h)⟩
noncomputable def d3(rs:List R5)(ws:List (List Nat))(g i:Nat):Bool:=match rs[i]?,ws[i]? with|some r,ac w=>(!w.isEmpty)&&UX r.e g|_,_=>al
def Fk(rs:List R5)(ws:List (List Nat))(g n:Nat):List Nat:=(ay n).filter (d3 rs ws g)
theorem Fl(rs:List R5)(ws:List (List Nat))(g n:Nat):Fk rs ws g (n+1)=Fk rs ws g n++(if d3 rs ws g n=ag then [n] else []):=by unfold Fk;rw[iK,gp];congr 1;by_cases h:d3 rs ws g n=ag;rw[b4 h,List.filter_cons,b4 h];rfl;rw[b5 h,List.filter_cons,b5 h];rfl
theorem aaN(rs:List R5)(ws:List (List Nat))(g n:Nat):(Fk rs ws g n).length<=n:=by have:=bM (d3 rs ws g) (ay n);rw[bI] at this;exact this
end TW
namespace L2
open PySem PySem.Spec PyProof.Rows
structure r3(K:af)(C:am)(m:Str)(f:am):Prop where
 hg:PySem.W.specialIn K (.ref C) "__getattribute__" = ac (ac (.builtin "type.__getattribute__"))
 hr:PySem.W.readsIn K C (.type "type")=ag
 md:PySem.W.findCls K (.ref C) (.type "type") m=ac (.val (.ref f))
 kp:dN K (.ref f)=ag
section
variable{X:Cx}
def Mu(c:PE X e t)(d:PE X e u):PE X e (λb H Q=>t b H Q∨u b H Q):=λa s b H Q I h=>h.elim (c a s b H Q I) (d a s b H Q I)
end
def U2(C:am)(sp:Sp)(rM:List V)(E:XK)(ta:TE)(t:TA):TE:=λσ H Q=>ta σ H λx H1=>x=.ref C/\t σ H1 λvs H2=>sp (vs++rM) H2 Q E
section
variable{X:Cx}{CX:g7}{k:Nat}{f C:am}{fd:FuncData}{ps:List Str}{sp:Sp}{rM:List V}{ds:List ap}{E:XK}{x m:Str}{p pos apos:Pos}{e o:Expr}{es:List Expr}{ta:TE}{t:TA}
theorem aaO{pl:Sem Bool}(y:PE X o ta)(c:r3 X.K C m f)
 (F:bu X.prog X.w X.K X.mg X.base CX k f fd ps sp) (hr:jF k X.A) (z:Binds X.K fd ps ds) (B:ck rM ds) (p:vW CX X E) (n:PA X (e::es) t)
 (b:bc (e::es) X.env=(al,eval e X.env)::bc es X.env:=by rfl) (d:(backTo pos (bc es X.env)).any (·.1)=al:=by rfl)
 (G:eval (.Call (.Attribute o m apos) (e::es) [] pos) X.env=(do
  let i <- eval o X.env
  standAt apos.atName
  let (f,first) <- holding [i] (getMethod i m pl)
  callWith pos f first (backTo pos (bc (e::es) X.env)) (backToKw pos (keywordEach [] X.env))):=by rfl):
 PE X (.Call (.Attribute o m apos) (e::es) [] pos) (U2 C sp rM E ta t):=by intro a s j H Q I h;refine rG (pl:=pl) (g8 (y a s j H _ I h) λu v ⟨x,L,g,M,D,q⟩=>?_) G;subst D;obtain rfl:u=Value.ref C:=M;refine PySem.W.method_cls g.IA c.hg (PySem.W.cls_value g.IA c.hr c.md rfl ?_);have J:=g.tok (v.toks+1);refine gn (first:=[]) (h₀:=X.base) I.ok.mod.f6 c.kp (g8 (n pos a _ j L _ J q) λus P ⟨vs,O,l,r,N⟩=>⟨l.IA,4⟩) b d;exact Ml (us:=us) (vs:=vs) F hr z B p l r N
end
end L2
namespace TW
open PySem L2 PyProof.Rows
theorem qS{b:Bool}{A B:Prop}(e:b=al)(h:B):if b=ag then A else B:=by subst e;exact dh h
theorem K1{b:Bool}{A B:Prop}(e:b=ag)(h:A):if b=ag then A else B:=by subst e;exact cS h
inductive Oc(cL c1 cA:am)(H:Hp)(a:am)(s to:Int):Int->Prop
 |bare (dx:am) (h:H a=ac (.ins cL dx [("sender",.int s)])):Oc cL c1 cA H a s to 0
 |one (dx:am) (h:H a=ac (.ins c1 dx [("sender",.int s),("to",.int to)])):Oc cL c1 cA H a s to 1
 |all (dx:am) (h:H a=ac (.ins cA dx [("sender",.int s)])):Oc cL c1 cA H a s to 2
section
variable{cL c1 cA:am}{H H':Hp}{a lh q:am}{s to k:Int}{xs:List V}
theorem Oc.mono(h:Oc cL c1 cA H a s to k)(e:aB H H'):Oc cL c1 cA H' a s to k:=by cases h with|bare b h=>exact .bare b (e _ _ h)|one b h=>exact .one b (e _ _ h)|all b h=>exact .all b (e _ _ h)
end
end TW
namespace L2
open PySem PySem.W PyProof.Rows
section
variable{n:Nat}{r:Nat->Int}{cmp:Nat->Nat->(Bool->ar->Prop)->ar->Prop}{s:ar}
variable(hc:∀i j C,i<n->j<n->C (decide (r i<r j)) s->cmp i j C s)
include hc
end
end L2
namespace L2
open PySem PySem.W PySem.Spec PyProof.Rows
abbrev T3:=Int×Int×Int
end L2
namespace L2
end L2
namespace TW
open PySem L2 PyProof.Rows
def qU(t:T3):List df×V:=([.inl t.1,.inl t.2.1],.int t.2.2)
noncomputable abbrev d6(h c:Int):List df:=[.inl h,.inl c]
def d7(ts:List T3):Prop:=(ts.map λt=>(t.1,t.2.1)).Nodup
noncomputable def yk(ts:List T3)(h c:Int):Option Int:=(ts.find? λt=>decide (t.1=h/\t.2.1=c)).map λt=>t.2.2
noncomputable def dE(ts:List T3)(h c r:Int):List T3:=(ts.filter λt=>!decide (t.1=h/\t.2.1=c))++[(h,c,r)]
theorem UY(n:d7 ts):yk ts h c=ac r↔(h,c,r)∈ts:=by
 unfold yk;constructor;intro e;cases f:ts.find? λt=>decide (t.1=h/\t.2.1=c) with|none=>rw[f] at e;cases e|some t=>rw[f] at e;cases e;have a:=List.find?_some f;have d:=List.mem_of_find?_eq_some f;have a:t.1=h/\t.2.1=c:=(by simpa using a);obtain⟨m,p,o⟩:=t;obtain⟨rfl,rfl⟩:=a;exact d
 intro e;cases f:ts.find? λt=>decide (t.1=h/\t.2.1=c) with|none=>have:=List.find?_eq_none.mp f _ e;simp at this|some t=>have a:=List.find?_some f;have d:=List.mem_of_find?_eq_some f;have a:t.1=h/\t.2.1=c:=(by simpa using a);obtain⟨i,g⟩:=m9 e;obtain⟨j,b⟩:=m9 d;have k:(ts.map λt=>(t.1,t.2.1))[i]?=ac (h,c):=(by rw[ak,g];rfl);have l:(ts.map λt=>(t.1,t.2.1))[j]?=ac (h,c):=(by rw[ak,b,<- a.1,<- a.2];rfl);have:i=j:=(List.getElem?_inj (ai.mp k).1 n).mp (k.trans l.symm);subst this;rw[g] at b;cases b;rfl
theorem afN(n:d7 ts):d7 (dE ts h c r):=by unfold d7 dE;rw[bx,List.nodup_append];exists 4,-_,λx d y b=>?_;exact List.Nodup.sublist ((List.filter_sublist).map _) n;obtain⟨t,g,rfl⟩:=aF.mp d;have f:=(cQ.mp g).2;have e:y=(h,c):=(by simpa using b);rw[e];intro z;have a:t.1=h/\t.2.1=c:=⟨(Prod.mk.inj z).1,(Prod.mk.inj z).2⟩;simp[a] at f
theorem tW(t:T3)(h c:Int):(qU t).1=d6 h c↔t.1=h/\t.2.1=c:=by unfold qU d6;constructor;intro e;have b:=(lH e).1;have a:=(lH (lH e).2).1;exists Sum.inl.inj b,Sum.inl.inj a;rintro⟨rfl,rfl⟩;rfl
theorem QC:∀(ts:List T3)(h c:Int),vX (ts.map qU) (d6 h c)=(yk ts h c).map cf
 |[],h,c=>rfl
 |t::ts,h,c=>by
  rw[bL];by_cases e:t.1=h/\t.2.1=c
  ·rw[Fe ((tW t h c).mpr e)]
   unfold yk;rw[List.find?_cons_of_pos (by simp[e])];rfl
  ·rw[Ff (λz=>e ((tW t h c).mp z)),QC ts h c]
   unfold yk;rw[List.find?_cons_of_neg (by rw[c5 e];exact aN)]
def K2(h c r:Int)(t:T3):T3:=if t.1=h/\t.2.1=c then (h,c,r) else t
theorem afO(h c r:Int)(t:T3):((K2 h c r t).1,(K2 h c r t).2.1)=(t.1,t.2.1):=by unfold K2;split;rename_i e;show (h,c)=(t.1,t.2.1);rw[e.1,e.2];rfl
theorem UZ{h c r:Int}:∀{ts:List T3},d7 ts->(∃t∈ts,t.1=h/\t.2.1=c)->(ts.map (K2 h c r)).Perm (dE ts h c r)
 |[],_,⟨_,h,_⟩=>by cases h
 |t::ts,n,f=>by
  have j:d7 ts:=(kj.mp n).2;have i:=(kj.mp n).1;unfold dE;by_cases e:t.1=h/\t.2.1=c
  ·have b:∀u∈ts,¬(u.1=h/\u.2.1=c):=λu hu z=>i (aF.mpr ⟨u,hu,Prod.ext (z.1.trans e.1.symm) (z.2.trans e.2.symm)⟩)
   have g:ts.map (K2 h c r)=ts:=by
    refine (dP λu hu=>?_).trans (List.map_id ts);unfold K2;rw[b5 (b u hu)];rfl
   have d:ts.filter (λu=>!decide (u.1=h/\u.2.1=c))=ts:=List.filter_eq_self.mpr λu hu=>by rw[c5 (b u hu)];rfl
   rw[bL,g,List.filter_cons,b5 (by simp[e]),d];have a:K2 h c r t=(h,c,r):=by unfold K2;rw[b4 e]
   rw[a];exact (List.perm_append_comm (l₁:=[(h,c,r)]) (l₂:=ts))
  ·have a:K2 h c r t=t:=by unfold K2;rw[b5 e]
   rw[bL,a,List.filter_cons,b4 (by rw[c5 e];rfl)];refine List.Perm.cons t (UZ j ?_);obtain⟨u,hu,z⟩:=f;rcases aM.mp hu with rfl|hu
   ·exact b3 z e
   ·exists u,hu,z
def HH{xs:List T3}(a:xs.Perm ys)(h c r:Int):(dE xs h c r).Perm (dE ys h c r):=(a.filter _).append_right _
theorem aaP{ts:List T3}(g:ts.Perm ks)(n:d7 ts):∃b,dV (ts.map qU) (d6 h c) (cf r)=b.map qU/\b.Perm (dE ks h c r)/\d7 b:=by unfold dV;by_cases a:((ts.map qU).any λf=>decide (f.1=d6 h c))=ag;rw[b4 a];exists ts.map (K2 h c r),444;rw[cz,cz];refine dP λt _=>?_;show (if (qU t).1=d6 h c then ((qU t).1,cf r) else qU t)=qU (K2 h c r t);unfold K2;by_cases e:t.1=h/\t.2.1=c;rw[b4 ((tW t h c).mpr e),b4 e,(tW t h c).mpr e];rfl;rw[b5 (λz=>e ((tW t h c).mp z)),b5 e];refine (UZ n ?_).trans (HH g h c r);obtain⟨f,j,k⟩:=Dd.mp a;obtain⟨t,d,rfl⟩:=aF.mp j;exists t,d,(tW t h c).mp (c7 k);unfold d7;rw[cz];have:((λt:T3=>(t.1,t.2.1))∘K2 h c r)=λt:T3=>(t.1,t.2.1):=funext λt=>afO h c r t;rw[this];exact n;rw[b5 a];have i:∀t∈ts,¬(t.1=h/\t.2.1=c):=λt d z=>a (Dd.mpr ⟨qU t,aF.mpr ⟨t,d,2⟩,b6 ((tW t h c).mpr z)⟩);have e:dE ts h c r=ts++[(h,c,r)]:=(by unfold dE;rw[List.filter_eq_self.mpr λu l=>by rw[c5 (i u l)];rfl]);exists ts++[(h,c,r)],by rw[bx];rfl,e▸HH g h c r,e▸afN n
structure yl(C:am)(H:Hp)(p d:am)(ts:List T3):Prop where
 ob:∃dx,H p=ac (.ins C dx [("kept",.ref d)])
 di:H d=ac (.dT (ts.map qU))
theorem yl.mono(s:aB H H')(h:yl C H p d ts):yl C H' p d ts:=by obtain⟨⟨c,a⟩,b⟩:=h;exists ⟨c,s _ _ a⟩,s _ _ b
def Cr(u:HO):Prop:=∀xs,u≠.tup xs/\∀o,u≠.f9 o (.tup xs)
theorem tX:Cr (.lst ys):=λa=>⟨λe=>(by cases e),λo e=>(by cases e)⟩
theorem UV:Cr (.dT kvs):=λa=>⟨λe=>(by cases e),λo e=>(by cases e)⟩
theorem o4:Cr (.ins C dx fs):=λa=>⟨λe=>(by cases e),λo e=>(by cases e)⟩
theorem dY.past{K:af}{H d:Hp}(f:H z=ac u)(g:Cr u)(c:∀b v,H b=ac v->b≠z->d b=ac v)(h:dY K H a xs):dY K d a xs:=by rcases h with (h|⟨o,h⟩)|h;exact .inl (.inl (c _ _ h λe=>by subst e;rw[f] at h;exact (g xs).1 (aT h)));exact .inl (.inr ⟨o,c _ _ h λe=>by subst e;rw[f] at h;exact (g xs).2 o (aT h)⟩);exact .inr h
theorem dU:∀b v,H b=ac v->b≠z->(upd H z o) b=ac v:=λb v e a=>by rw[aI a];exact e
def two(f:Bool->am):List V:=[.ref (f al),.ref (f ag)]
theorem ol{H:Hp}(d:H a=ac u)(c:H b=ac v)(n:u≠v):a≠b:=λe=>by
 subst e;rw[d] at c;exact n (aT c)
end TW
namespace L2
open PySem PySem.W PySem.Spec PyProof.Rows
end L2
namespace TW
open PySem L2 PyProof.Rows
theorem K3{J:It}{n:Nat}{q:List (Option Nat)}{g:TG}{G:TT}{te:TE}{D:L2.St}{E:Hp->Prop}{k:Hp}{c:am}(B:Nat->V)(f:Nat->Option V)(j:k c=ae)(go:∀i H,i<n->aB k H->J.go i H)(stop:∀H,aB k H->J.stop n H)(Mc:∀i H x a,i<n->aB k H->J.Mc i H x a->a=H/\x=B i)(K:n<=1000)(step:∀(i:Nat)(H:Hp)(R:V->Hp->Prop)(S:Hp->Prop),i<n->aB k H->(∀y a,aB H a->f i=ac y->R y a)->(∀a,aB H a->f i=ae->S a) ->g (B i) (fU q D) H λd v=>G d v λb l=>if b=ag then te d l R else S l)(A:∀H,aB k H->H c=ac (.lst ((ay n).filterMap f))->E H) :∃W:Nat->Nat->Hp->Prop,(∃m,W 0 m (upd k c (.lst [])))/\∀i m H,W i m H ->(J.stop i H/\E H)∨(J.go i H/\∀x a,J.Mc i H x a->g x (fU q D) a λd v=>G d v λb l=>if b=ag then te d l λy z=>∃xs,z c=ac (.lst xs)/\xs.length<a9 /\∃o,o<m/\W (i+1) o (upd z c (.lst (xs++[y]))) else ∃o,o<m/\W (i+1) o l):=by
 have r:∀i,((ay i).filterMap f).length<=i:=λi=>(by have:=List.length_filterMap_le f (ay i);rwa [bI] at this);refine jA (n:=n) (λi u _=>u=(ay i).filterMap f) j go stop rfl ?_ ?_;·rintro i u H p s t rfl x a I;obtain⟨rfl,rfl⟩:=Mc i H x a p s I;have e:(ay (i+1)).filterMap f=(ay i).filterMap f++(f i).toList:=(by rw[iK,List.filterMap_append];cases h:f i <;> simp[h]);refine step i a _ _ p s (λy z C w=>?_) (λl F w=>?_);refine gG j p (s.trans C) (C _ _ t) (cU (aE (r i) (aE (oX p) K))) ?_;show _=(ay (i+1)).filterMap f;rw[e,w];rfl;refine oz p (s.trans F) (F _ _ t) ?_;show _=(ay (i+1)).filterMap f;rw[e,w];simp
 rintro u H s t rfl;exact A H s t
theorem Dh{a b:Type}:∀(xs:List a)(F:a->Option b),(ay (cx xs)).filterMap (λi=>xs[i]?.bind F)=xs.filterMap F
 |[],F=>rfl
 |x::xs,F=>by
  have e:((λi:Nat=>(x::xs)[i]?.bind F)∘Nat.succ)=λi=>xs[i]?.bind F:=funext λi=>-_
  rw[bU,List.range_succ_eq_map,fE,List.filterMap_map,e,Dh xs F,fE];rfl
theorem ad1{K:af}{l c:am}{xs:List Int}{o:List (Option Nat)}{g:TG}{D:TT}{te:TE}{z:L2.St}{A:Hp->Prop}{p:Hp}(F:Int->Option V)(k:p c=ae)(hl:bH K p l (xs.map cf))(I:xs.length<=1000)(step:∀(x:Int)(H:Hp)(R:V->Hp->Prop)(S:Hp->Prop),x∈xs->aB p H->(∀y a,aB H a->F x=ac y->R y a)->(∀a,aB H a->F x=ae->S a) ->g (.int x) (fU o z) H λd t=>D d t λb q=>if b=ag then te d q R else S q)(v:∀H,aB p H->H c=ac (.lst (xs.filterMap F))->A H) :∃W:Nat->Nat->Hp->Prop,(∃m,W 0 m (upd p c (.lst [])))/\∀i m H,W i m H ->((IC K l).stop i H/\A H)∨((IC K l).go i H/\∀x a,(IC K l).Mc i H x a->g x (fU o z) a λd t=>D d t λb q=>if b=ag then te d q λy C=>∃xs,C c=ac (.lst xs)/\xs.length<a9 /\∃j,j<m/\W (i+1) j (upd C c (.lst (xs++[y]))) else ∃j,j<m/\W (i+1) j q):=by have B:(xs.map cf).length=xs.length:=ah _;refine K3 (n:=xs.length) (λi=>(xs.map cf).getD i .fW) (λi=>xs[i]?.bind F) k (λi H f s=>vY hl i H (by rw[B];exact f) s) (λH s=>by have:=lK hl H s;rwa [B] at this) (λi H x a f s h=>?_) I (λi H R S f s J E=>?_) (λH s G=>v H s (by rw[<- Dh];exact G));obtain⟨rfl,h⟩:=h;have h:=h _ (s.seq hl);exact⟨2,by rw[ao,h];rfl⟩;have e:(xs.map cf).getD i .fW=cf xs[i]:=(by rw[ao,ak,aa f];rfl);have w:xs[i]?=ac xs[i]:=aa f;rw[e];refine step _ H R S (aD f) s (λy a r u=>J y a r ?_) (λa r u=>E a r ?_);show xs[i]?.bind F=_;rw[w];exact u;show xs[i]?.bind F=_;rw[w];exact u
theorem ad2(xs:List Int)(f:Int->Bool):xs.filterMap (λx=>if f x=ag then ac (cf x) else ae)=(xs.filter f).map cf:=by induction xs with|nil=>rfl|cons x xs a=>by_cases h:f x=ag;rw[dm h,bL,<- a,fE];simp only[h,if_true];rw[dw h,<- a,fE];simp only[h];rfl
theorem ym{K:af}{l c:am}{xs:List Int}{j:List (Option Nat)}{g:TG}{w:TT}{te:TE}{t:L2.St}{u:Hp->Prop}{k:Hp}(f:Int->Bool)(h:k c=ae)(hl:bH K k l (xs.map cf))(C:xs.length<=1000)(step:∀(x:Int)(H:Hp)(R:V->Hp->Prop)(S:Hp->Prop),x∈xs->aB k H->(∀a,aB H a->f x=ag->R (.int x) a)->(∀a,aB H a->f x=al->S a) ->g (.int x) (fU j t) H λd p=>w d p λb n=>if b=ag then te d n R else S n)(r:∀H,aB k H->H c=ac (.lst ((xs.filter f).map cf))->u H) :∃W:Nat->Nat->Hp->Prop,(∃m,W 0 m (upd k c (.lst [])))/\∀i m H,W i m H ->((IC K l).stop i H/\u H)∨((IC K l).go i H/\∀x a,(IC K l).Mc i H x a->g x (fU j t) a λd p=>w d p λb n=>if b=ag then te d n λy v=>∃xs,v c=ac (.lst xs)/\xs.length<a9 /\∃e,e<m/\W (i+1) e (upd v c (.lst (xs++[y]))) else ∃e,e<m/\W (i+1) e n):=by refine ad1 (λx=>if f x=ag then ac (cf x) else ae) h hl C (λx H R S z s D A=>step x H R S z s (λa o q=>D _ a o (b4 q)) (λa o q=>A a o (b5 (by rw[q];exact aN)))) (λH s B=>r H s (by rw[<- ad2];exact B))
def rx(u:HO):Prop:=∀xs,u≠.lst xs/\∀o,u≠.f9 o (.lst xs)
theorem xv:rx (.ins C dx fs):=λa=>⟨λe=>(by cases e),λo e=>(by cases e)⟩
theorem bH.past{K:af}{H d:Hp}(f:H z=ac u)(g:rx u)(c:∀b v,H b=ac v->b≠z->d b=ac v)(h:bH K H a xs):bH K d a xs:=by rcases h with (h|⟨o,h⟩)|h;exact .inl (.inl (c _ _ h λe=>by subst e;rw[f] at h;exact (g xs).1 (aT h)));exact .inl (.inr ⟨o,c _ _ h λe=>by subst e;rw[f] at h;exact (g xs).2 o (aT h)⟩);exact .inr h
def Mv(c:Option Int):V:=(c.map cf).getD .fW
theorem K4(i:Int)(c:Option Int):lm (.int i) (Mv c)=ag:=by cases c <;> rfl
theorem afQ(c:Option Int):Fc (Mv c)=ag:=by cases c <;> rfl
theorem QD(xs:List Int):XI .fW (xs.map cf)=al:=by unfold XI;rw[List.any_map,List.any_eq_false];intro x _;show ¬(gf (.int x) .fW)=ag;simp[gf]
def yo(c:Option Int)(r:Int):Bool:=!decide (cf r=Mv c)
noncomputable def f5(ts:List T3)(so:Option Int)(rO:Int)(cH:Option Int)(os hs:List Int):List Int:=
 match so with
 |none=>os.filter (yo cH)
 |some to=>if to∈hs then [] else match yk ts rO to with
  |some r=>if r∈os then [r].filter (yo cH) else os.filter (yo cH)
  |none=>os.filter (yo cH)
noncomputable def QE(s to k c:Int):Bool:=if k=1 then decide (cf c=cf to) else if k=2 then !decide (cf c=cf s) else al
def HJ(to k:Int):Option Int:=if k=1 then ac to else ae
theorem made{H:Hp}(c:H x=ae)(a:H dx=ae)(b:dx≠x):aB H (upd (upd (upd H dx (.own x)) x (.ins C dx [])) x (.ins C dx fs)):=by rw[VV];exact (aB.new a).trans (aB.new (by rw[aI (bS b)];exact c))
theorem neT{b:Bool}(h:¬b=ag):b=al:=by cases b;rfl;exact b3 rfl h
end TW
namespace TX
open PySem PySem.StrLaws PySem.Builtin PySem.Builtin.Str
noncomputable abbrev cs(x:Str):List Nat:=x.cps.toList
def aaR(h:cs x=cs y):x=y:=Str.ext' (Array.toList_inj.mp h)
theorem QF(a b:Str):cs (a++b)=cs a++cs b:=by show (Str.append a b).cps.toList=_;simp[Str.append,cs]
def yp(x:Str):(cs x).length=x.length:=dQ
noncomputable def inter(sep:List Nat):List (List Nat)->List Nat
 |[]=>[]
 |[p]=>p
 |p::q::r=>p++(sep++inter sep (q::r))
theorem xD(sep:Str):∀l:List Str,cs (Str.join sep l)=inter (cs sep) (l.map cs)
 |[]=>rfl
 |[x]=>rfl
 |x::y::r=>by
  show cs (x++sep++Str.join sep (y::r))=cs x++(cs sep++inter (cs sep) ((y::r).map cs));rw[QF,QF,xD sep (y::r),kg]
theorem cut{c:Nat}:∀{p q X Y:List Nat},c∉p->c∉q->p++c::X=q++c::Y->p=q/\X=Y
 |[],[],X,Y,_,_,h=>⟨2,(lH h).2⟩
 |[],b::q,X,Y,_,hq,h=>b3 (lH h).1 λe=>hq (e▸aP ..)
 |a::p,[],X,Y,d,_,h=>b3 (lH h).1 λe=>d (e▸aP ..)
 |a::p,b::q,X,Y,d,hq,h=>by
  have f:=lH h;obtain⟨i,g⟩:=cut (λz=>d (aR _ z)) (λz=>hq (aR _ z)) f.2;exists by rw[f.1,i],g
theorem U0{c:Nat}{t:List Nat}:∀{l m:List (List Nat)},l≠[]->m≠[]->(∀p∈l,c∉p)->(∀p∈m,c∉p)->inter (c::t) l=inter (c::t) m->l=m
 |[],_,h,_,_,_,_=>b3 rfl h
 |_::_,[],_,h,_,_,_=>b3 rfl h
 |[p],[q],_,_,_,_,h=>by rw[show p=q from h]
 |[p],q::q'::r,_,_,hl,_,h=>by
  have h:p=q++(c::t++inter (c::t) (q'::r)):=h;exact b3 (by rw[h];simp) (hl p (aP ..))
 |p::d::r,[q],_,_,_,a,h=>by
  have h:p++(c::t++inter (c::t) (d::r))=q:=h;exact b3 (by rw[<- h];simp) (a q (aP ..))
 |p::d::r,q::q'::s,_,_,hl,a,h=>by
  have h:p++c::(t++inter (c::t) (d::r))=q++c::(t++inter (c::t) (q'::s)):=h;obtain⟨f,e⟩:=cut (hl p (aP ..)) (a q (aP ..)) h;have g:=U0 (-_) (-_) (λx b=>hl x (aR _ b)) (λx b=>a x (aR _ b)) (List.append_cancel_left e);rw[f,g]
theorem Yo{c:Nat}{t:List Nat}(a:c∉t):∀{l:List (List Nat)}{k:Nat},(∀p∈l,c∉p)->(inter (c::t) l)[k]?=ac c->((inter (c::t) l).drop k).take (t.length+1)=c::t
 |[],k,_,h=>by simp[inter] at h
 |[p],k,hl,h=>b3 (aQ h) (hl p (aP ..))
 |p::q::r,k,hl,h=>by
  have e:inter (c::t) (p::q::r)=p++(c::t++inter (c::t) (q::r)):=rfl;rw[e] at h ⊢;by_cases f:k<p.length
  ·rw[bG f] at h
   exact b3 (aQ h) (hl p (aP ..))
  ·rw[bO ∅] at h
   rw[List.drop_append,List.drop_eq_nil_of_le ∅,List.nil_append];generalize k-p.length=j at h;by_cases d:j<(c::t).length
   ·rw[bG d] at h
    cases j with
    |zero=>simp
    |succ j=>exact b3 (aQ (by simpa using h)) a
   ·rw[bO ∅] at h
    have:=Yo a (λx b=>hl x (aR _ b)) h
    rw[List.drop_append,List.drop_eq_nil_of_le ∅,List.nil_append];exact this
theorem K5(x y:Str):Txt.split x y≠[]:=by unfold Txt.split;split;simp;split;simp;rw[partsBetween_eq];obtain⟨p,r,e⟩:=partsFrom_ne x y.length 0 (occurrences x y 0 x.length (x.length+1));rw[e];simp
theorem QG:∀{l m:List Str},l.map cs=m.map cs->l=m
 |[],[],_=>rfl
 |[],_::_,h=>by simp at h
 |_::_,[],h=>by simp at h
 |x::l,y::m,h=>by
  have a:=lH h;rw[aaR a.1,QG a.2]
theorem QH{c:Nat}{t:List Nat}{ws:List Str}(d:cs y=c::t)(f:ws≠[])(b:∀w∈ws,c∉cs w)(g:∀p∈Txt.split (Str.join y ws) y,c∉cs p):Txt.split (Str.join y ws) y=ws:=by have h:=c6 cs (join_split (Str.join y ws) y);rw[xD,xD,d] at h;refine QG (U0 (c:=c) (t:=t) ?_ ?_ ?_ ?_ h);intro e;exact K5 _ _ (List.map_eq_nil_iff.mp e);intro e;exact f (List.map_eq_nil_iff.mp e);intro p a;obtain⟨q,hq,rfl⟩:=aF.mp a;exact g q hq;intro p a;obtain⟨q,hq,rfl⟩:=aF.mp a;exact b q hq
def U1{c:Nat}{ws:List Str}(b:ws≠[])(a:∀w∈ws,c∉cs w):Txt.split (Str.join ⟨#[c]⟩ ws) ⟨#[c]⟩=ws:=QH (t:=[]) rfl b a (split_free _ c)
theorem QI(h:∀k,(cs x)[k]?=ac c->At x y x.length k){a b:Nat}(i:∀k,a<=k->k<b->¬At x y x.length k):c∉cs (strSub x a b):=by intro f;have f:c∈((cs x).drop a).take (b-a):=(by rw[<- strSub_toList];exact f);obtain⟨j,d⟩:=m9 f;have e:j<b-a:=(by have g:=(ai.mp d).1;rw[bT] at g;lia);rw[List.getElem?_take_of_lt e,List.getElem?_drop] at d;exact i (a+j) ∅ ∅ (h _ d)
theorem Od{x y:Str}{c:Nat}(g:∀k,(cs x)[k]?=ac c->At x y x.length k):∀(b:List Nat)(a f:Nat),ChainG x y x.length a b f->(∀k,f<=k->¬At x y x.length k)->∀p∈partsFrom x y.length a b,c∉cs p
 |[],a,f,h,i,p,j=>by
  have e:f=a:=h;subst e;rw[aZ.mp j];exact QI g λk l _=>i k l
 |d::r,a,f,h,i,p,j=>by
  obtain⟨l,o,m,n⟩:=h;rcases aM.mp j with e|hp'
  ·rw[e]
   exact QI g m
  ·exact Od g r _ f n i p hp'
theorem ad4{c:Nat}{t:List Nat}{ws:List Str}(d:cs y=c::t)(u:c∉t)(l:vo y=1)(z:ws≠[])(o:∀w∈ws,c∉cs w):Txt.split (Str.join y ws) y=ws:=by have g:∀k,(cs (Str.join y ws))[k]?=ac c->At (Str.join y ws) y (Str.join y ws).length k:=λk h=>(by have e:=xD y ws;rw[d] at e;have F:=h;rw[e] at h;have i:=Yo u (λp a=>by obtain⟨q,hq,rfl⟩:=aF.mp a;exact o q hq) h;rw[<- e] at i;have D:y.length=t.length+1:=(by rw[<- yp,d];rfl);exists 44;have:=c6 List.length i;rw[bT,lD,yp] at this;simp only[bU] at this;lia;rw[subAt_eq,D];show (List.take (t.length+1) (List.drop k (cs (Str.join y ws)))==cs y)=ag;rw[i,d];exact beq_self_eq_true _);refine QH d z o λp a=>?_;have m:1<=y.length:=(by rw[<- yp,d];simp);have C:∀x:Str,¬vo x<vo y:=λx=>(by rw[l];unfold vo;split;lia;·split <;> lia);generalize Str.join y ws=x at g a;have b:(∀k,¬At x y x.length k)->∀p∈[x],c∉cs p:=λh p a=>(by rw[aZ.mp a];intro E;obtain⟨k,l⟩:=m9 E;exact h k (g k l));obtain⟨f,j,n⟩:=occ_tight x y m;unfold Txt.split at a;split at a;rename_i r;rw[Bool.or_eq_true,decide_eq_true_eq,decide_eq_true_eq] at r;rcases r with h|h;exact b (λk v=>by have:=v.1;lia) p a;exact b3 h (C x);split at a;rename_i s;have B:occurrences x y 0 x.length (x.length+1)=[]:=(by simpa using s);rw[B] at j;have A:f=0:=j;subst A;exact b (λk=>n k (bA _)) p a;rw[partsBetween_eq] at a;exact Od g _ _ f j n p a
end TX
namespace TX
open PySem PySem.StrLaws PySem.Builtin PySem.Builtin.Str PySem.NumText
noncomputable abbrev num(n:Int):Str:=a8 (toString n)
def QJ(m:Nat):cs (num m)=(lE 10 m).map Char.toNat:=PySem.W.KIN.signs_num m
theorem QK{m:Nat}(h:¬m<10):lE 10 m=lE 10 (m/10)++[Nat.digitChar (m%10)]:=by have a:m%10<10:=Nat.mod_lt m (!_);have t:lE 10 (m/10)++lE 10 (m%10)=lE 10 (10*(m/10)+m%10):=Nat.toDigits_append_toDigits (!_) ∅ a;rw[Nat.div_add_mod,x6 a] at t;exact t.symm
theorem Wl:∀(k m:Nat),1<=k->m<10^k->(lE 10 m).length<=k
 |0,_,h,_=>b3 h (!_)
 |k+1,m,_,h=>by
  by_cases a:m<10
  ·rw[x6 a]
   show 1<=k+1;lia
  ·rw[QK a,av]
   have c:m/10<10^k:=by
    rw[Nat.pow_succ] at h;exact Nat.div_lt_of_lt_mul ∅
   have b:1<=k:=by
    cases k with
    |zero=>simp at h;lia
    |succ k=>lia
   exact Nat.succ_le_succ (Wl k _ b c)
theorem HI(m:Nat):lE 10 m≠[]:=by by_cases h:m<10;rw[x6 h];simp;rw[QK h];simp
theorem afR:∀d:Nat,d<10->(Nat.digitChar d).toNat=48->d=0:=!_
theorem afS(m:Nat):((lE 10 m).map Char.toNat)[0]?=ac 48->m=0:=by induction m using Nat.strongRecOn with|_ m c=>intro h;by_cases a:m<10;rw[x6 a] at h;exact afR m a (by simpa using h);rw[QK a,bx] at h;have b:0<((lE 10 (m/10)).map Char.toNat).length:=(by rw[ah];exact ko.mpr (HI _));rw[bG b] at h;have:=c (m/10) ∅ h;lia
theorem aiL{c:Nat}(h:c∈(lE 10 m).map Char.toNat):48<=c/\c<=57:=by obtain⟨b,a,e⟩:=aF.mp h;have r:=PyProof.Rows.digit_range (Nat.isDigit_of_mem_toDigits (!_) (!_) a);rw[<- e];exact r
abbrev Wr(n:Int):Prop:=0<=n/\n<10^60
theorem HK(h:Wr n):1<=(num n).length/\(num n).length<=60:=by obtain⟨m,rfl⟩:=j0 h.1;have a:m<10^60:=(by have:=h.2;exact_mod_cast this);rw[<- yp,QJ,ah];exists ko.mpr (HI _),Wl 60 m (!_) a
theorem HL{n:Int}(h:0<=n):∀c∈cs (num n),48<=c/\c<=57:=λc a=>by
 obtain⟨m,rfl⟩:=j0 h;rw[QJ] at a;exact aiL a
theorem afT{n:Int}(h:0<=n)(e:(cs (num n))[0]?=ac 48):n=0:=by obtain⟨m,rfl⟩:=j0 h;rw[QJ] at e;rw[afS m e];rfl
theorem num_reads(h:Wr n):PySem.intText? (num n)=ac n:=by have b:=HK h;obtain⟨m,rfl⟩:=j0 h.1;have e:=intText_digits (x:=num m) (HL ∅) (by intro z;have:(cs (num m)).length=0:=(by rw[show cs (num m)=[] from z];rfl);rw[yp] at this;lia) ∅;have a:digitsVal (num (m:Int)).cps.toList=m:=(by have:=QJ m;rw[show (num (m:Int)).cps.toList=_ from this];exact PySem.W.KIN.val_back m);rw[a] at e;exact e
theorem QL{n:Int}(h:0<=n){c:Nat}(a:c<48∨57<c):c∉cs (num n):=λz=>by
 have:=HL h c z
 lia
theorem U3{n:Int}(h:0<=n):(num n).cps.all (·<128)=ag:=by rw[<- Array.all_toList,iQ];intro c a;have:=HL h c a;exact b6 ∅
end TX
namespace TX
open PySem PySem.StrLaws PySem.Builtin PySem.Builtin.Str
noncomputable abbrev lN:Str:=" "
noncomputable abbrev Ct:Str:="; "
def wordsOf(w:Str)(ns:List Int):List Str:=w::ns.map num
def AD(w:Str)(ns:List Int):Str:=Txt.join lN (wordsOf w ns)
noncomputable def partsOf(nm:List Int)(rs cl:List (List Int)):List Str:=AD "names" nm::(rs.map (AD "rope")++cl.map (AD "caller"))
def lO(nm:List Int)(rs cl:List (List Int)):Str:=Txt.join Ct (partsOf nm rs cl)
def join_eq(s:Str)(l:List Str):Txt.join s l=Str.join s l:=glued_eq_join s l
theorem JH{ns:List Int}(b:32∉cs w)(e:∀n∈ns,Wr n):Txt.split (AD w ns) lN=wordsOf w ns:=by unfold AD;rw[join_eq];refine U1 (c:=32) (ws:=wordsOf w ns) (by simp[wordsOf]) λx d=>?_;rcases aM.mp d with rfl|h;exact b;obtain⟨n,a,rfl⟩:=aF.mp h;exact QL (e n a).1 (.inl (!_))
theorem Mw{sep:List Nat}{c:Nat}(a:c∉sep):∀{l:List (List Nat)},(∀p∈l,c∉p)->c∉inter sep l
 |[],_=>by simp[inter]
 |[p],h=>h p (aP ..)
 |p::q::r,h=>by
  show c∉p++(sep++inter sep (q::r));rw[bh,bh];rintro (z|z|z)
  ·exact h p (aP ..) z
  ·exact a z
  ·exact Mw a (λx b=>h x (aR _ b)) z
theorem Fq{ns:List Int}(c:59∉cs w)(e:∀n∈ns,Wr n):59∉cs (AD w ns):=by unfold AD;rw[join_eq,xD];refine Mw (!_) λp b=>?_;obtain⟨x,d,rfl⟩:=aF.mp b;rcases aM.mp d with rfl|h;exact c;obtain⟨n,a,rfl⟩:=aF.mp h;exact QL (e n a).1 (.inr (!_))
theorem aaS{nm:List Int}{rs cl:List (List Int)}(e:∀n∈nm,Wr n)(b:∀r∈rs,∀n∈r,Wr n)(d:∀r∈cl,∀n∈r,Wr n):Txt.split (lO nm rs cl) Ct=partsOf nm rs cl:=by unfold lO;rw[join_eq];refine ad4 (c:=59) (t:=[32]) (↑_) (!_) (↑_) (by simp[partsOf]) λp f=>?_;rcases aM.mp f with rfl|h;exact Fq (↑_) e;rcases bh.mp h with h|h;obtain⟨r,a,rfl⟩:=aF.mp h;exact Fq (↑_) (b r a);obtain⟨r,a,rfl⟩:=aF.mp h;exact Fq (↑_) (d r a)
theorem JI{B:Nat}:∀{l:List Nat},(∀x∈l,x<=B)->l.sum<=l.length*B
 |[],_=>-_
 |x::l,h=>by
  have b:=h x (aP ..);have c:=JI λy a=>h y (aR _ a);rw[oY,bU,Nat.succ_mul];lia
theorem ad5{w:Str}{ns:List Int}(g:w.length<=60)(e:∀n∈ns,Wr n):((wordsOf w ns).map (·.length)).sum+(wordsOf w ns).length*lN.length<=(cx ns+1)*61:=by have h:=JI (B:=60) (l:=(wordsOf w ns).map (·.length)) λx c=>(by obtain⟨y,d,rfl⟩:=aF.mp c;rcases aM.mp d with rfl|h;exact g;obtain⟨n,a,rfl⟩:=aF.mp h;exact (HK (e n a)).2);have b:(wordsOf w ns).length=ns.length+1:=(by simp[wordsOf]);have f:lN.length=1:=(by decide +kernel);rw[ah,b] at h;rw[b,f];lia
theorem afU{w:Str}{ns:List Int}(a:w.length<=60)(b:∀n∈ns,Wr n):(AD w ns).length<=(cx ns+1)*61:=by unfold AD;rw[join_eq];exact aE (join_length_le _ _) (ad5 a b)
theorem ad6{nm:List Int}{rs cl:List (List Int)}(q:∀n∈nm,Wr n)(i:∀r∈rs,∀n∈r,Wr n)(k:∀r∈cl,∀n∈r,Wr n)(j:nm.length<=12)(f:∀r∈rs,r.length<=12)(d:∀r∈cl,r.length<=12)(t:cx rs<=30)(s:cl.length<=30) :((partsOf nm rs cl).map (·.length)).sum+(partsOf nm rs cl).length*Ct.length<=100000:=by have a:∀{w:Str}{ns:List Int},w.length<=60->(∀n∈ns,Wr n)->cx ns<=12->(AD w ns).length<=800:=λ{w ns}p o c=>(by have:=afU p o;have:(cx ns+1)*61<=13*61:=Nat.mul_le_mul_right _ ∅;lia);have h:=JI (B:=800) (l:=(partsOf nm rs cl).map (·.length)) λx e=>(by obtain⟨y,m,rfl⟩:=aF.mp e;rcases aM.mp m with rfl|h;exact a (↑_) q j;rcases bh.mp h with h|h;obtain⟨r,b,rfl⟩:=aF.mp h;exact a (↑_) (i r b) (f r b);obtain⟨r,b,rfl⟩:=aF.mp h;exact a (↑_) (k r b) (d r b));have c:(partsOf nm rs cl).length<=61:=(by simp only[partsOf,bU,av,ah];lia);have g:Ct.length=2:=(by decide +kernel);rw[ah] at h;have:(partsOf nm rs cl).length*800<=61*800:=Nat.mul_le_mul_right _ c;rw[g];lia
noncomputable def Cu(nm:List Int)(rs cl:List (List Int)):List (List Str):=wordsOf "names" nm::(rs.map (wordsOf "rope")++cl.map (wordsOf "caller"))
theorem Oe{nm:List Int}{rs cl:List (List Int)}(c:∀n∈nm,Wr n)(d:∀r∈rs,∀n∈r,Wr n)(b:∀r∈cl,∀n∈r,Wr n):(partsOf nm rs cl).map (λp=>Txt.split p lN)=Cu nm rs cl:=by unfold partsOf Cu;rw[bL,bx,cz,cz,JH (↑_) c];congr 1;congr 1;exact dP λr a=>JH (↑_) (d r a);exact dP λr a=>JH (↑_) (b r a)
theorem afV{rs:List (List Int)}{i:Nat}(h:i<cx rs):(Cu nm rs cl)[i+1]?=ac (wordsOf "rope" rs[i]):=by unfold Cu;rw[List.getElem?_cons_succ,bG (by rw[ah];exact h),ak,aa h];rfl
theorem afW{cl:List (List Int)}{j:Nat}(h:j<cl.length):(Cu nm rs cl)[cx rs+j+1]?=ac (wordsOf "caller" cl[j]):=by unfold Cu;rw[List.getElem?_cons_succ,bO (by rw[ah];lia),ah,show rs.length+j-rs.length=j by lia,ak,aa h];rfl
theorem Wm(nm:List Int)(rs cl:List (List Int)):(Cu nm rs cl).length=1+cx rs+cl.length:=by simp[Cu];lia
end TX
namespace L2
open PySem PySem.W PySem.Spec PyProof.Rows
section
variable{X:Cx}
theorem U4:∀(ys:List Str)(t:Nat),ck (ys.map cm) (strsFrom t ys)
 |[],_=>.nil
 |y::ys,t=>.cons ⟨t,2⟩ (U4 ys (t+1))
theorem U5:∀{ys:List Str}{us:List ap},ck (ys.map cm) us->StrsAre us ys
 |[],_,h=>by
  have:=h.zero
  subst this;exact .nil
 |y::ys,us,h=>by
  cases h with
  |cons r t=>
   obtain⟨k,rfl⟩:=r;exact .cons y k (U5 t)
theorem split_len(x y:Str):(Txt.split x y).length<=x.length+2:=by unfold Txt.split;split;show 1<=_;lia;split;show 1<=_;lia;rw[StrLaws.partsBetween_eq];have h:=StrLaws.occ_length_le x y 0 x.length (x.length+1);generalize Builtin.Str.occurrences x y 0 x.length (x.length+1)=b at h;have e:∀(b:List Nat)(a:Nat),(StrLaws.partsFrom x y.length a b).length=b.length+1:=λb=>(by induction b with|nil=>intro a;rfl|cons c cs d=>intro a;show _+1=_;rw[d];rfl);rw[e];lia
def al0:V->List V->Hp->VK->Prop:=λx vs H Q=>∃z y,x=.str z/\vs=[.str y]/\(y.length==0)=al/\z.length<=100000/\∀l,H l=ae->Q (.ref l) (upd H l (.lst ((Txt.split z y).map cm)))
theorem Cv:fw X "str.split" al0:=by
 intro f s n H x B v C Q I A m h;obtain⟨z,y,rfl,rfl,j,E,q⟩:=h;obtain⟨t,rfl⟩:=A;obtain⟨u,rfl,p⟩:=m.one;obtain⟨i,rfl⟩:=p;have D:a9=16777216:=!_;have l:=split_len z y;have c:∀(a:List ap)(k:Nat),ck ((Txt.split z y).map cm) a->EP X f n Q (.ref s.heap.objs.size) {s with heap:=s.heap.push {cls:=.type "list",data:=.seq a.toArray},toks:=k}:=λa k r=>
  ⟨.ref s.heap.objs.size,_,I.laid (t':=k) (λb o e=>a5 _ e) (az _) (show jk X.prog X.w _ _ _ (.lst ((Txt.split z y).map cm)) from ⟨by rw[ah];lia,a,(0),r,a6 _ rfl⟩),2,q _ (I.hok.fresh (az _))⟩
 cases d:(decide (z.length<y.length) || decide (Builtin.Str.strKind z<Builtin.Str.strKind y));cases g:(Builtin.Str.occurrences z y 0 z.length (z.length+1)).isEmpty;have e:Txt.split z y=Builtin.Str.partsBetween z (Builtin.Str.occurrences z y 0 z.length (z.length+1)) y.length:=(b5 (ne_true_of_eq_false d)).trans (b5 (ne_true_of_eq_false g));refine call_meets F.slot_str_split (typeIs_str _ _ _) F.entry_str_split (F.args_str_split_2 _ _) (meets_str_split_sep z y t i d j g ∅ (by rw[<- e];lia)) ?_;exact c _ _ (by rw[<- e];exact U4 _ _);have e:Txt.split z y=[z]:=(b5 (ne_true_of_eq_false d)).trans (b4 g);refine call_meets F.slot_str_split (typeIs_str _ _ _) F.entry_str_split (F.args_str_split_2 _ _) (meets_str_split_not_found z y t i d j g) ?_;exact c [Value.str z t] s.toks (by rw[e];exact .cons ⟨t,2⟩ .nil);have e:Txt.split z y=[z]:=b4 d;refine call_meets F.slot_str_split (typeIs_str _ _ _) F.entry_str_split (F.args_str_split_2 _ _) (meets_str_split_cannot_occur z y t i d) ?_;exact c [Value.str z t] s.toks (by rw[e];exact .cons ⟨t,2⟩ .nil)
def eQ(K:af):V->List V->Hp->VK->Prop:=λx vs H Q=>∃z l ys,x=.str z/\vs=[.ref l]/\bH K H l (ys.map cm)/\(ys.map (·.length)).sum+ys.length*z.length<=16777216/\Q (.str (Txt.join z ys)) H
theorem PZ:fw X "str.join" (eQ X.K):=by intro a s n H x j v m Q I f c h;obtain⟨z,l,o,rfl,rfl,hq,d,q⟩:=h;obtain⟨t,rfl⟩:=f;obtain⟨u,rfl,e⟩:=c.one;cases e;obtain⟨i,r,b,p⟩:=I.list hq;exact join_list b.isList (U5 r) d λg k=>⟨.str _,H,I.tok k,⟨g,2⟩,q⟩
theorem U6:qQ X (.type "int") (λxs H Q=>∃z n,xs=[.str z]/\PySem.intText? z=ac n/\z.length<=640/\Q (.int n) H):=by intro a s f H xs e Q I r h;obtain⟨z,n,rfl,b,d,q⟩:=h;obtain⟨u,rfl,c⟩:=vals1 r;obtain⟨t,rfl⟩:=c;exact KIN.call_text b d ⟨.int n,H,I.tok _,⟨1⟩,q⟩
noncomputable def kl(x:Str):It:=⟨λi _=>i<x.cps.size,λi H v H'=>H'=H/\∃c,x.cps[i]?=ac c/\v=.str ⟨#[c]⟩,λi _=>x.cps.size<=i⟩
theorem afX{P:bv}{w:World}{K:af}{tg:Expr}(g:am)(x:Str)(t:Tok):eC P w K tg (kl x) [g] g (λi h=>h.IsStrIter g "str_ascii_iterator" x t i) where
 mem:=-_
 obj:=λi h st b j=>by
  have e:b=g:=by simpa using j
  subst e;obtain⟨o,e,c,d⟩:=st;exists o,e,λv z=>by rw[d] at z;cases z
 keep:=λi h n st k=>by
  obtain⟨o,e,c,d⟩:=st;exists o,k g (-_) _ e,c,d
 item:=by
  intro X u y q F i f s D H E I m st a;subst u y q;have a:i<x.cps.size:=a;obtain⟨p,A,L,r,C,B⟩:=m g (-_);refine wpAny_pyNext_ascii_item st (c:=x.cps[i]) (by simp[a]) λn l J=>?_;have G:Inv X f D H {s with heap:=n,toks:=s.toks+1}:=I.turned (t':=s.toks+1) (λb o j e=>(J.2 b j).trans e) p A r C B;obtain⟨o,e,c,d⟩:=id l;exists 1,XT (s:={s with heap:=n,toks:=s.toks+1}) e c d (!_) ⟨.str ⟨#[x.cps[i]]⟩,H,G,⟨1⟩,⟨2,x.cps[i],by simp[a],2⟩,l,λb j=>(m b j).1⟩
 done:=by
  intro X u y q F i f s D H E I m st a;subst u y q;have a:x.cps.size<=i:=a;obtain⟨p,A,L,r,C,B⟩:=m g (-_);exact wpAny_pyNext_ascii_end (I.ok.hd F) st (Array.getElem?_eq_none a) λn M=>⟨2,I.turned (t':=s.toks) (λb o j e=>M b o j e) p A r C B⟩
 self:=λ_ _ _ _ _ st h=>wpAny_pyIter_striter_ascii st h
def QP(ts:TE):TI:=λσ H R=>ts σ H λv H1=>∃x:Str,v=.str x/\x.cps.all (·<128)=ag/\R (kl x) H1
theorem xt(hl:PE X l ts):PI X tg l (QP ts):=by intro a s i H R I h;refine g8 (hl a s i H _ I h) λv c ⟨y,k,d,f,x,e,g,q⟩=>?_;subst e;obtain⟨t,rfl⟩:=f;refine wpAny_pyIter_ascii g ?_;exists c.heap.objs.size,[c.heap.objs.size],33,k,2,d.kept (t':=c.toks) λb o e=>a5 _ e,afX _ x t,⟨_,a6 _ rfl,22⟩,λb j=>?_,q;have e:b=c.heap.objs.size:=(by simpa using j);subst e;exact d.adC (az _) (d.hok.fresh (az _))
def xp:∀i H,i<x.cps.size->aB H1 H->(kl x).go i H:=λi H a s=>a
def Yp:∀H,aB H1 H->(kl x).stop x.cps.size H:=λH s=>az _
theorem og(K:af)(m:X.K=K){o e:Expr}{d:List Expr}{to:TE}{t:TA}{name:Str}{apos a:Pos}{T id:String}{r:V->List V->Hp->VK->Prop}(pa:PlainAttrs T)(g:Slot T name id)(i:typeOf (.builtin id)=pure (.type "method_descriptor"))(n:fw X id r)(l:PE X o to)(j:PA X (e::d) t)(c:attributeBase o name X.env (eval o X.env)=eval o X.env:=by rfl)(h:((backTo a (bc (e::d) X.env)).all (λx=>!x.1)&&(backToKw a (keywordEach [] X.env)).all (λx=>x.1.isSome)&&decide ((e::d).length+([]:List Keyword).length+(if ([]:List Keyword).isEmpty then 0 else 1)<30))=ag:=by rfl)(f:(apos.endLine==a.line)=ag:=by rfl)(k:bc (e::d) X.env=(al,eval e X.env)::bc d X.env:=by rfl)(b:(backTo a (bc d X.env)).any (·.1)=al:=by rfl) :PE X (.Call (.Attribute o name apos) (e::d) [] a) (pd K T r to t):=by subst m;exact mX pa g i n l j c h f k b
def Qr(a b:TI):TI:=λσ H R=>a σ H R∨b σ H R
def al1(e:PI X tg l a)(f:PI X tg l b):PI X tg l (Qr a b):=λc s d H R I h=>h.elim (e c s d H R I) (f c s d H R I)
end
theorem Yq{a c:Type}{f g:a->Option c}:∀{l:List a},(∀x∈l,f x=g x)->l.filterMap f=l.filterMap g
 |[],_=>rfl
 |x::l,h=>by
  rw[fE,fE,h x (aP ..),Yq λy b=>h y (aR _ b)]
end L2
namespace TW
open PySem L2 PyProof.Rows
noncomputable abbrev bf(ws:List Str):List V:=ws.map cm
theorem P0{K:af}{l a:am}{xs:List V}{o:List (Option Nat)}{g:TG}{A:TT}{te:TE}{v:L2.St}{w:Hp->Prop}{p:Hp}(f:Nat->Option V)(k:p a=ae)(hl:bH K p l xs)(C:xs.length<=1000)(step:∀(i:Nat)(x:V)(H:Hp)(R:V->Hp->Prop)(S:Hp->Prop),xs[i]?=ac x->aB p H->(∀y d,aB H d->f i=ac y->R y d)->(∀d,aB H d->f i=ae->S d) ->g x (fU o v) H λc t=>A c t λb q=>if b=ag then te c q R else S q)(u:∀H,aB p H->H a=ac (.lst ((ay (cx xs)).filterMap f))->w H) :∃W:Nat->Nat->Hp->Prop,(∃m,W 0 m (upd p a (.lst [])))/\∀i m H,W i m H ->((IC K l).stop i H/\w H)∨((IC K l).go i H/\∀x d,(IC K l).Mc i H x d->g x (fU o v) d λc t=>A c t λb q=>if b=ag then te c q λy z=>∃xs,z a=ac (.lst xs)/\xs.length<a9 /\∃j,j<m/\W (i+1) j (upd z a (.lst (xs++[y]))) else ∃j,j<m/\W (i+1) j q):=by refine K3 (n:=xs.length) (λi=>xs.getD i .fW) f k (vY hl) (lK hl) (λi H x d r s h=>?_) C (λi H R S r s D B=>?_) u;obtain⟨rfl,h⟩:=h;have h:=h _ (s.seq hl);exact⟨2,by rw[ao,h];rfl⟩;have e:xs.getD i .fW=xs[i]:=(by rw[ao,aa r];rfl);rw[e];exact step i _ H R S (aa r) s D B
theorem Di{b c:Type}(xs:List b)(h:b->c):(ay (cx xs)).filterMap (λi=>xs[i]?.map h)=xs.map h:=by have e:∀l:List b,l.filterMap (λx=>ac (h x))=l.map h:=λl=>(by induction l with|nil=>rfl|cons a l d=>rw[fE,d];rfl);rw[<- e,<- Dh xs (λx=>ac (h x))];refine Yq λi _=>?_;cases xs[i]? <;> rfl
structure jH(K:af)(H:Hp)(qs:List am)(xss:List (List Int)):Prop where
 len:qs.length=xss.length
 at':∀(i:Nat)q xs,qs[i]?=ac q->xss[i]?=ac xs->dY K H q (xs.map cf)
def jH.mono{K:af}(s:aB H H')(h:jH K H qs xss):jH K H' qs xss:=⟨h.len,λi q c a b=>s.iA (h.at' i q c a b)⟩
theorem jH.past{K:af}{H c:Hp}(f:H z=ac u)(g:Cr u)(d:∀b v,H b=ac v->b≠z->c b=ac v)(h:jH K H qs xss):jH K c qs xss :=⟨h.len,λi q e a b=>dY.past f g d (h.at' i q e a b)⟩
theorem jH.nil{K:af}:jH K H [] []:=⟨2,λi q a h=>by cases h⟩
theorem jH.snoc{K:af}{xs:List Int}(h:jH K H qs xss)(hq:dY K H q (xs.map cf)):jH K H (qs++[q]) (xss++[xs]):=by exists by rw[av,av,h.len];rfl,λi a u b c=>?_;by_cases z:i<qs.length;rw[bG z] at b;rw[bG (h.len▸z)] at c;exact h.at' i a u b c;have e:i=qs.length:=(by have:=(ai.mp b).1;rw[av] at this;have:i<qs.length+1:=this;lia);subst e;rw[rJ] at b;rw[h.len,rJ] at c;cases b;cases c;exact hq
def TL(K:af)(H:Hp)(l:am)(xss:List (List Int)):Prop:=∃qs:List am,H l=ac (.lst (qs.map ci))/\jH K H qs xss
theorem TL.mono{K:af}(s:aB H H')(h:TL K H l xss):TL K H' l xss:=by obtain⟨c,a,b⟩:=h;exists c,s _ _ a,b.mono s
theorem TL.past{K:af}{a:Hp}(h:TL K H l xss)(e:H z=ac u)(f:Cr u)(n:l≠z)(c:∀b v,H b=ac v->b≠z->a b=ac v):TL K a l xss:=by obtain⟨i,d,g⟩:=h;exists i,c _ _ d n,jH.past e f c g
theorem TL.push{K:af}{H:Hp}{xs:List Int}{qs:List am}(a:H l=ac (.lst (qs.map ci)))(b:jH K H qs xss)(hq:dY K H q (xs.map cf)):TL K (upd H l (.lst (qs.map ci++[.ref q]))) l (xss++[xs]) :=⟨qs++[q],by rw[aq,bx];rfl,jH.past a tX dU (b.snoc hq)⟩
structure Gy(H:Hp)(ps:List am)(wss:List (List Str)):Prop where
 len:ps.length=wss.length
 at':∀(i:Nat)p ws,ps[i]?=ac p->wss[i]?=ac ws->H p=ac (.lst (bf ws))
def Gy.mono(s:aB H H')(h:Gy H ps wss):Gy H' ps wss:=⟨h.len,λi p c a b=>s _ _ (h.at' i p c a b)⟩
theorem Gy.snoc(h:Gy H ps wss)(d:H p=ac (.lst (bf ws))):Gy H (ps++[p]) (wss++[ws]):=by exists by rw[av,av,h.len];rfl,λi a u b c=>?_;by_cases z:i<ps.length;rw[bG z] at b;rw[bG (h.len▸z)] at c;exact h.at' i a u b c;have e:i=ps.length:=(by have:=(ai.mp b).1;rw[av] at this;have:i<ps.length+1:=this;lia);subst e;rw[rJ] at b;rw[h.len,rJ] at c;cases b;cases c;exact d
def HM:KN (bf (TX.wordsOf w ns)) 0=ac (.str w):=dF (j:=0) rfl
theorem zW(w:Str)(ns:List Int):Aw (bf (TX.wordsOf w ns)) (ac 1) ae=bf (ns.map TX.num):=by have:=Cn (bf (TX.wordsOf w ns)) 1;rw[show ((1:Nat):Int)=1 from rfl] at this;rw[this];rfl
inductive Role where
 |cj|bZ|dG|gV (i:Nat)|yq|rows (g:Nat)|mP|book (g:Nat)|g6 (g:Nat)
 |aL|groups|jR|handed (c:Nat)|cJ|cC (i:Nat)|letter (i:Nat)|done (i:Nat)|aH (i:Nat)|fJ
 deriving DecidableEq
structure AE(H:Hp)(loc:Role->am)(ob:Role->Option HO):Prop where
 get:∀r o,ob r=ac o->H (loc r)=ac o
 inj:∀r q,ob r≠ae->ob q≠ae->loc r=loc q->r=q
noncomputable def jS(ob:Role->Option HO)(r:Role)(o:HO):Role->Option HO:=λq=>if q=r then ac o else ob q
def vZ(loc:Role->am)(r:Role)(a:am):Role->am:=λq=>if q=r then a else loc q
def fh:jS ob r o r=ac o:=b4 rfl
def cV{r q:Role}(h:q≠r):jS ob r o q=ob q:=b5 h
def ia:vZ loc r a r=a:=b4 rfl
def gH{r q:Role}(h:q≠r):vZ loc r a q=loc q:=b5 h
def Fp(loc:Role->am)(ob:Role->Option HO)(b:am):Prop:=∃r,ob r≠ae/\loc r=b
section
variable{H H':Hp}{loc:Role->am}{ob:Role->Option HO}
def AE.mono(h:AE H loc ob)(s:aB H H'):AE H' loc ob:=⟨λr o e=>s _ _ (h.get r o e),h.inj⟩
theorem AE.keep(h:AE H loc ob)(k:∀b o,H b=ac o->Fp loc ob b->H' b=ac o):AE H' loc ob :=⟨λr o e=>k _ _ (h.get r o e) ⟨r,by rw[e];exact bg o,2⟩,h.inj⟩
theorem AE.set(h:AE H loc ob)(b:ob r≠ae)(o:HO):AE (upd H (loc r) o) loc (jS ob r o):=by have c:∀q,jS ob r o q≠ae->ob q≠ae:=λq hq=>(by by_cases e:q=r;rw[e];exact b;rw[cV e] at hq;exact hq);exists λq u e=>?_,λq a d f e=>h.inj q a (c q d) (c a f) e;by_cases z:q=r;subst z;rw[fh] at e;cases e;exact aq;rw[cV z] at e;rw[aI (λw=>z (h.inj q r (by rw[e];exact bg u) b w))];exact h.get q u e
theorem AE.new(h:AE H loc ob)(j:H p=ae)(r:Role)(o:HO):AE (upd H p o) (vZ loc r p) (jS ob r o):=by have g:∀q,q≠r->ob q≠ae->loc q≠p:=λq hq f e=>(by cases i:ob q with|none=>exact f i|some u=>have:=h.get q u i;rw[e,j] at this;cases this);exists λq u e=>?_,λq c d b e=>?_;by_cases z:q=r;subst z;rw[fh] at e;cases e;rw[ia];exact aq;rw[cV z] at e;rw[gH z,aI (g q z (by rw[e];exact bg u))];exact h.get q u e;by_cases z:q=r;by_cases a:c=r;rw[z,a];rw[z,ia,gH a] at e;rw[cV a] at b;exact b3 e.symm (g c a b);by_cases a:c=r;rw[a,ia,gH z] at e;rw[cV z] at d;exact b3 e (g q z d);rw[gH z,gH a] at e;rw[cV z] at d;rw[cV a] at b;exact h.inj q c d b e
theorem AE.af0(h:AE H loc ob)(d:Fp (vZ loc r p) (jS ob r o) b):Fp loc ob b∨b=p:=by obtain⟨q,c,a⟩:=d;by_cases z:q=r;rw[z,ia] at a;exact .inr a.symm;rw[cV z] at c;rw[gH z] at a;exact .inl ⟨q,c,a⟩
theorem QM(d:ob r≠ae):Fp loc (jS ob r o) b↔Fp loc ob b:=by constructor;rintro⟨q,a,c⟩;exists q,4,c;by_cases z:q=r;rw[z];exact d;rw[cV z] at a;exact a;rintro⟨q,a,c⟩;exists q,4,c;by_cases z:q=r;rw[z,fh];exact bg o;rw[cV z];exact a
end
inductive k6 where
 |post (h:Nat)|aiM (h r:Nat)|hand (h c:Nat)|send (h r w:Nat)|twice (h r:Nat)|aaU (h r:Nat)
noncomputable def k6.vs:k6->List V
 |.post h=>[.str "post",.int h]
 |.aiM h r=>[.str "come",.int h,.int r]
 |.hand h c=>[.str "hand",.int h,.int c]
 |.send h r w=>[.str "send",.int h,.int r,.int w]
 |.twice h r=>[.str "twice",.int h,.int r]
 |.aaU h r=>[.str "lost",.int h,.int r]
structure LS where
 s:Nat
 to:Nat
 kd:Int
 grp:Nat
 old:Bool
 done:List Nat
 aH:List k6
structure Cp where
 l:Nat
 r:Nat
 w:Nat
 h:Nat
def Cp.vs(c:Cp):List V:=[.int c.l,.int c.r,.int c.w,.int c.h]
structure NS where
 ws:List (List Nat)
 R:Nat->Nat->RM.Row
 ts:Nat->List T3
 aL:List Nat
 groups:List Nat
 had:List (List Nat)
 ls:List LS
 cps:List Cp
structure TQ where
 rq:Nat->List am
 dq:Nat->List am
 cq:List am
structure NC where
 cj:am
 str:am
 book:am
 post:am
 avL:am
 let1:am
 aoE:am
noncomputable def xE(c:NC)(dx:am)(l:LS):HO:=if l.kd=1 then .ins c.let1 dx [("sender",.int l.s),("to",.int l.to)] else .ins c.aoE dx [("sender",.int l.s)]
noncomputable def c2(c:NC)(dx:Role->am)(tp:am)(loc:Role->am)(q:TQ)(s:NS):Role->Option HO
 |.cj=>ac (.ins c.cj (dx .cj) [("town",.ref tp),("strands",.ref (loc .bZ)),("rows_by_group",.ref (loc .yq)),("books",.ref (loc .mP)),("homes",.ref (loc .aL)),("groups",.ref (loc .groups)),("handed",.ref (loc .jR)),("letters",.ref (loc .cJ)),("copies",.ref (loc .fJ))])
 |.bZ=>ac (.ins c.str (dx .bZ) [("town",.ref tp),("upright",.ref (loc .dG))])
 |.dG=>ac (.lst ((ay s.ws.length).map λi=>.ref (loc (.gV i))))
 |.gV i=>s.ws[i]?.map λw=>.lst (bN w)
 |.yq=>ac (.lst ((ay 3).map λg=>.ref (loc (.rows g))))
 |.rows g=>if g<3 then ac (.lst ((q.rq g).map ci)) else ae
 |.mP=>ac (.lst ((ay 3).map λg=>.ref (loc (.book g))))
 |.book g=>if g<3 then ac (.ins c.book (dx (.book g)) [("kept",.ref (loc (.g6 g)))]) else ae
 |.g6 g=>if g<3 then ac (.dT ((s.ts g).map qU)) else ae
 |.aL=>ac (.lst (bN s.aL))
 |.groups=>ac (.lst (bN s.groups))
 |.jR=>ac (.lst ((ay s.had.length).map λi=>.ref (loc (.handed i))))
 |.handed i=>s.had[i]?.map λw=>.lst (bN w)
 |.cJ=>ac (.lst ((ay (cx s.ls)).map λi=>.ref (loc (.cC i))))
 |.cC i=>s.ls[i]?.map λl=>.ins c.post (dx (.cC i)) [("letter",.ref (loc (.letter i))),("group",.int l.grp),("old",.bl l.old),("done_at",.ref (loc (.done i))),("deeds",.ref (loc (.aH i)))]
 |.letter i=>s.ls[i]?.map λl=>xE c (dx (.letter i)) l
 |.done i=>s.ls[i]?.map λl=>.dK (l.done.map λh:Nat=>(jh (h:Int),.bl ag))
 |.aH i=>s.ls[i]?.map λl=>.lst ((q.dq i).map ci)
 |.fJ=>ac (.lst (q.cq.map ci))
mutual
noncomputable def Yr:PyData->Bool
 |.none=>ag
 |.bool _=>ag
 |.int _=>ag
 |.str _=>ag
 |.list _=>al
 |.tuple ds=>Mx ds
 |.dict _=>ag
noncomputable def Mx:List PyData->Bool
 |[]=>ag
 |d::ds=>Yr d&&Mx ds
end
structure gI(K:af)(H:Hp)(qs:List am)(xs:List (List V)):Prop where
 len:qs.length=xs.length
 at':∀(i:Nat)q x,qs[i]?=ac q->xs[i]?=ac x->dY K H q x
def gI.mono{K:af}(h:gI K H qs xs)(k:∀b x,dY K H b x->dY K H' b x):gI K H' qs xs:=⟨h.len,λi q x a b=>k _ _ (h.at' i q x a b)⟩
def jo(n:Nat)(R:Nat->RM.Row):List (List V):=(ay n).map λi=>RM.cO (R i)
structure rP(K:af)(H:Hp)(n:Nat)(q:TQ)(s:NS):Prop where
 rows:∀g,g<3->gI K H (q.rq g) (jo n (s.R g))
 aH:∀i l,s.ls[i]?=ac l->gI K H (q.dq i) (l.aH.map k6.vs)
 cps:gI K H q.cq (s.cps.map Cp.vs)
theorem rP.mono{K:af}(h:rP K H n q s)(k:∀b x,dY K H b x->dY K H' b x):rP K H' n q s :=⟨λg a=>(h.rows g a).mono k,λi l e=>(h.aH i l e).mono k,h.cps.mono k⟩
inductive dH(K:af)(c:NC)(H:Hp)(F:am->Prop)(p tp:am)(n:Nat)(s:NS):Prop
 |mk(loc dx:Role->am)(q:TQ):loc .cj=p->AE H loc (c2 c dx tp loc q s)->(∀b,F b↔Fp loc (c2 c dx tp loc q s) b)->rP K H n q s->dH K c H F p tp n s
structure Step(H:Hp)(F:am->Prop)(H':Hp)(F':am->Prop):Prop where
 kp:∀b o,H b=ac o->¬F b->H' b=ac o
 fr:∀b,F' b->F b∨H b=ae
theorem aaV(h:c2 c dx tp loc q s r=ac o):Cr o:=by
 have b:∀{g:Type}{f:g->HO}{x:Option g},(∀a,Cr (f a))->x.map f=ac o->Cr o:=λ{g f x}i e=>(by cases x with|none=>cases e|some a=>cases e;exact i a);have ins:∀{C d:am}{j:List (Str×V)},Cr (.ins C d j):=o4;cases r <;> simp only[c2] at h
 all_goals first
  | (cases h;exact o4)
  | (cases h;exact tX)
  |exact b (λ_=>tX) h
  |exact b (λ_=>o4) h
  | (split at h
     ·cases h;first|exact tX|exact o4|exact UV
     ·cases h)
  | (refine b (λl=>?_) h;unfold xE;split <;> exact o4)
  | (refine b (λl=>?_) h;exact λk=>⟨λe=>(by cases e),λo e=>(by cases e)⟩)
section
variable{K:af}{c:NC}{CT:am}{H H':Hp}{F F':am->Prop}{p tp ln lr:am}{n:Nat}{s s':NS}{ns:List Int}{rs:List R5}
theorem dH.mono(h:dH K c H F p tp n s)(e:aB H H'):dH K c H' F p tp n s:=by obtain⟨a,j,q,g,i,d,f⟩:=h;exists a,j,q,g,i.mono e,d,f.mono λb x=>e.iA
theorem dH.akp(h:dH K c H F p tp n s)(i:F b)(e:H b=ac o):Cr o:=by obtain⟨a,k,q,m,j,f,l⟩:=h;obtain⟨r,g,rfl⟩:=(f b).mp i;cases d:c2 c k tp a q s r with|none=>exact b3 d g|some u=>have:=j.get r u d;rw[e] at this;cases this;exact aaV d
theorem dH.there(h:dH K c H F p tp n s)(g:F b):∃o,H b=ac o:=by obtain⟨a,j,q,l,i,e,k⟩:=h;obtain⟨r,f,rfl⟩:=(e b).mp g;cases d:c2 c j tp a q s r with|none=>exact b3 d f|some u=>exists u,i.get r u d
theorem dH.tup(h:dH K c H F p tp n s)(a:∀b o,H b=ac o->¬F b->H' b=ac o)(e:dY K H b x):dY K H' b x:=by rcases e with (e|⟨o,e⟩)|e;exact .inl (.inl (a _ _ e λz=>(h.akp z e x).1 rfl));exact .inl (.inr ⟨o,a _ _ e λz=>(h.akp z e x).2 o rfl⟩);exact .inr e
theorem dH.keep(h:dH K c H F p tp n s)(i:∀b o,H b=ac o->F b->H' b=ac o)(j:∀b x,dY K H b x->dY K H' b x):dH K c H' F p tp n s:=by obtain⟨a,l,q,g,k,d,f⟩:=h;exists a,l,q,g,k.keep λb o e z=>i b o e ((d b).mpr z),d,f.mono j
end
mutual
theorem Rep.tups{K:af}{H g:Hp}(c:∀b x,dY K H b x->dY K g b x):∀{d:PyData}{v:V},Yr d=ag->Rep K H d v->Rep K g d v
 |.none,_,_,h=>h
 |.bool _,_,_,h=>h
 |.int _,_,_,h=>h
 |.str _,_,_,h=>h
 |.list _,_,f,_=>by simp[Yr] at f
 |.tuple ds,_,f,⟨a,vs,e,q,r⟩=>⟨a,vs,e,c _ _ q,ee.tups c f r⟩
 |.dict _,_,_,h=>h
theorem ee.tups{K:af}{H a:Hp}(c:∀b x,dY K H b x->dY K a b x):∀{ds:List PyData}{vs:List V},Mx ds=ag->ee K H ds vs->ee K a ds vs
 |[],_,_,h=>h
 |d::ds,_,f,⟨v,r,e,q,t⟩=>by
  have f:(Yr d&&Mx ds)=ag:=f;rw[eS] at f;exists v,r,e,Rep.tups c f.1 q,ee.tups c f.2 t
end
theorem QN:∀rs:List R5,Mx (rs.map R5.D)=ag
 |[]=>rfl
 |r::rs=>by
  show (Yr r.D&&Mx (rs.map R5.D))=ag;rw[QN rs];rfl
section
variable{K:af}{c:NC}{CT:am}{H H':Hp}{F F':am->Prop}{p tp ln lr:am}{n:Nat}{s s':NS}{ns:List Int}{rs:List R5}
theorem dR.keep(h:dR K CT H tp ln lr ns rs)(k1:∀b o,H b=ac o->b=tp∨b=ln∨b=lr->H' b=ac o)(f:∀b x,dY K H b x->dY K H' b x):dR K CT H' tp ln lr ns rs:=by obtain⟨⟨i,e⟩,g,d,a,c⟩:=h;exists ⟨i,k1 _ _ e (.inl rfl)⟩,k1 _ _ g (.inr (.inl rfl)),d,k1 _ _ a (.inr (.inr rfl)),ee.tups f (QN rs) c
structure NW(K:af)(c:NC)(CT:am)(H:Hp)(F:am->Prop)(p tp ln lr:am)(ns:List Int)(rs:List R5)(s:NS):Prop where
 cj:dH K c H F p tp (cx ns) s
 nD:dR K CT H tp ln lr ns rs
 o1:¬F tp
 o2:¬F ln
 o3:¬F lr
theorem NW.mono(h:NW K c CT H F p tp ln lr ns rs s)(e:aB H H'):NW K c CT H' F p tp ln lr ns rs s:=⟨h.cj.mono e,h.nD.mono e,h.o1,h.o2,h.o3⟩
theorem NW.done(h:NW K c CT H F p tp ln lr ns rs s)(st:Step H F H' F')(g:dH K c H' F' p tp (cx ns) s'):NW K c CT H' F' p tp ln lr ns rs s':=by have a:∀b x,dY K H b x->dY K H' b x:=λb x=>h.cj.tup st.kp;obtain⟨⟨l,i⟩,d,k,f,m⟩:=id h.nD;have nf:∀b o,H b=ac o->¬F b->¬F' b:=λb o e j z=>(by rcases st.fr b z with w|w;exact j w;rw[e] at w;cases w);exists g,h.nD.keep (λb o e q=>st.kp b o e ?_) a,nf _ _ i h.o1,nf _ _ d h.o2,nf _ _ f h.o3;rcases q with rfl|rfl|rfl;exact h.o1;exact h.o2;exact h.o3
def Step.refl'(e:aB H H'):Step H F H' F:=⟨λb o q _=>e _ _ q,λb z=>.inl z⟩
theorem Step.trans(a:Step H F H' F')(b:Step H' F' H'' F''):Step H F H'' F'':=by exists λx o e nf=>b.kp x o (a.kp x o e nf) λz=>?_,λx z=>?_;rcases a.fr x z with w|w;exact nf w;rw[e] at w;cases w;rcases b.fr x z with w|w;exact a.fr x w;by_cases q:F x;exact .inl q;refine .inr ?_;cases c:H x with|none=>rfl|some o=>have:=a.kp x o c q;rw[this] at w;cases w
end
theorem AE.join{H:Hp}{j i:Role->am}{k c:Role->Option HO}(a:AE H j k)(b:AE H i c)(l:∀r q,k r≠ae->c q≠ae->j r≠i q) :AE H (λr=>if (c r).isSome=ag then i r else j r) (λr=>if (c r).isSome=ag then c r else k r):=by have m:∀{r},(c r).isSome=ag->c r≠ae:=λ{r}h e=>(by rw[e] at h;cases h);exists λr o e=>?_,λr q d f e=>?_;by_cases z:(c r).isSome=ag;rw[b4 z] at e ⊢;exact b.get r o e;rw[b5 z] at e ⊢;exact a.get r o e;by_cases z:(c r).isSome=ag;by_cases g:(c q).isSome=ag;simp only[z,g,if_true] at d f e;exact b.inj r q d f e;simp only[z,g,if_true,if_false] at d f e;exact b3 e.symm (l q r (by simpa using f) (m z));by_cases g:(c q).isSome=ag;simp only[z,g,if_true,if_false] at d f e;exact b3 e (l r q (by simpa using d) (m g));simp only[z,g,if_false] at d f e;exact a.inj r q (by simpa using d) (by simpa using f) e
structure OT(H0 H:Hp)(p:am)(loc:Role->am)(ob:Role->Option HO):Prop where
 own:AE H loc ob
 np:loc .cj=p
 hn:ob .cj≠ae
 kp:∀b o,H0 b=ac o->b≠p->H b=ac o
 fr:∀b,Fp loc ob b->b=p∨H0 b=ae
section
variable{H0 H H':Hp}{p:am}{loc:Role->am}{ob:Role->Option HO}
theorem OT.free(h:OT H0 H p loc ob)(b:H a=ae):H0 a=ae:=by cases e:H0 a with|none=>rfl|some o=>by_cases z:a=p;(exfalso;cases c:ob .cj with|none=>exact h.hn c|some u=>have:=h.own.get .cj u c;rw[h.np,<- z,b] at this;cases this);have:=h.kp a o e z;rw[b] at this;cases this
theorem OT.new(h:OT H0 H p loc ob)(c:H a=ae){r:Role}(d:r≠.cj)(o:HO):OT H0 (upd H a o) p (vZ loc r a) (jS ob r o):=by exists h.own.new c r o,by rw[gH (bS d)];exact h.np,by rw[cV (bS d)];exact h.hn,λb u e n=>?_,λb f=>?_;have:=h.kp b u e n;rw[aI (aJ this c)];exact this;rcases h.own.af0 f with z|rfl;exact h.fr b z;exact .inr (h.free c)
theorem OT.put(h:OT H0 H p loc ob)(o:HO):OT H0 (upd H p o) p loc (jS ob .cj o):=by have e:=h.own.set (r:=.cj) h.hn o;rw[h.np] at e;exists e,h.np,by rw[fh];exact bg o,λb u q n=>?_,λb a=>h.fr b ((QM h.hn).mp a);rw[aI n];exact h.kp b u q n
theorem AE.add{H H':Hp}{loc:Role->am}{ob:Role->Option HO}(h:AE H loc ob)(s:aB H H')(c:H a=ae)(e:H' a=ac o)(r:Role):AE H' (vZ loc r a) (jS ob r o):=by have d:=h.new c r o;exists λq u b=>?_,d.inj;by_cases z:q=r;subst z;rw[fh] at b;cases b;rw[ia];exact e;rw[cV z] at b;rw[gH z];exact s _ _ (h.get q u b)
theorem OT.add(h:OT H0 H p loc ob)(s:aB H H')(d:H a=ae)(e:H' a=ac o){r:Role}(f:r≠.cj):OT H0 H' p (vZ loc r a) (jS ob r o):=by have c:=h.new d f o;exists h.own.add s d e r,c.np,c.hn,λb u q n=>s _ _ (h.kp b u q n),c.fr
theorem OT.al2(h:OT H0 H p loc ob)(a:ob r≠ae)(f:r≠.cj)(o:HO):OT H0 (upd H (loc r) o) p loc (jS ob r o):=by exists h.own.set a o,h.np,by rw[cV (bS f)];exact h.hn,λb u e n=>?_,λb d=>h.fr b ((QM a).mp d);have c:b≠loc r:=λz=>(by rcases h.fr (loc r) ⟨r,a,2⟩ with w|w;exact n (z.trans w);rw[z,w] at e;cases e);rw[aI c];exact h.kp b u e n
theorem OT.ext{loc':Role->am}{ff:Role->Option HO}(h:OT H0 H p loc ob)(f:∀r,ob r=ff r)(c:∀r,ob r≠ae->loc r=loc' r):OT H0 H p loc' ff:=by have e:ob=ff:=funext f;subst e;exists ⟨λr o e=>?_,λr q a b e=>h.own.inj r q a b ?_⟩,4,h.hn,h.kp,λb d=>?_;rw[<- c r (by rw[e];exact bg o)];exact h.own.get r o e;rw[c r a,c q b];exact e;rw[<- c .cj h.hn];exact h.np;obtain⟨r,a,e⟩:=d;exact h.fr b ⟨r,a,(c r a).trans e⟩
theorem OT.join{f:Role->am}{a:Role->Option HO}(h:OT H0 H p loc ob)(b:AE H' f a)(g:a .cj=ae)(fresh:∀r,a r≠ae->H (f r)=ae)(s:aB H H') :OT H0 H' p (λr=>if (a r).isSome=ag then f r else loc r) (λr=>if (a r).isSome=ag then a r else ob r):=by
 exists (h.own.mono s).join b λr q d c e=>?_,44,λb o e n=>s _ _ (h.kp b o e n),λx j=>?_;cases i:ob r with|none=>exact d i|some u=>have:=h.own.get r u i;rw[e,fresh q c] at this;cases this
 show (if (a .cj).isSome=ag then _ else _)=p;rw[g];exact h.np;show (if (a .cj).isSome=ag then _ else _)≠ae;rw[g];exact h.hn;obtain⟨r,d,c⟩:=j;by_cases z:(a r).isSome=ag;simp only[z,if_true] at d c;rw[<- c];exact .inr (h.free (fresh r d));simp only[z,if_false] at d c;exact h.fr x ⟨r,by simpa using d,by simpa using c⟩
end
def EV(ns:List Int)(i:Nat):RM.Row:=⟨ns.getD i 0,(0),(0),-1⟩
noncomputable def S0(ns:List Int)(rs:List R5)(cl:List (Nat×Nat)):NS where
 ws:=rs.map λr=>ay r.d.toNat
 R:=λ_=>EV ns
 ts:=λ_=>[]
 aL:=cl.map (·.1)
 groups:=cl.map (·.2)
 had:=cl.map λ_=>[]
 ls:=[]
 cps:=[]
noncomputable def gL(C dx tp lu:am)(ls:List am)(ws:List (List Nat)):Role->Option HO
 |.bZ=>ac (.ins C dx [("town",.ref tp),("upright",.ref lu)])
 |.dG=>ac (.lst (ls.map ci))
 |.gV i=>ws[i]?.map λw=>.lst (bN w)
 |_=>ae
noncomputable def iq(sp lu:am)(ls:List am):Role->am
 |.bZ=>sp
 |.dG=>lu
 |.gV i=>ls.getD i 0
 |_=>0
theorem al3{H:Hp}{C sp n m d:am}{ls:List am}{ws:List (List Nat)}(p:H sp=ac (.ins C n [("town",.ref m),("upright",.ref d)]))(t:H d=ac (.lst (ls.map ci)))(hl:ls.length=ws.length) (u:∀(i:Nat) l w,ls[i]?=ac l->ws[i]?=ac w->H l=ac (.lst (bN w))) (nd:ls.Nodup) (A:d∉ls):AE H (iq sp d ls) (gL C n m d ls ws):=by
 have b:∀{i:Nat},gL C n m d ls ws (.gV i)≠ae->∃(a:i<ls.length),iq sp d ls (.gV i)=ls[i]:=λ{i}h=>(by have a:i<ls.length:=(by rw[hl];by_cases z:i<ws.length;exact z;exact b3 (show (ws[i]?.map λw=>cr (bN w))=ae by rw[g4 ∅];rfl) h);exists a,4;show ls.getD i 0=ls[i];rw[ao,aa a];rfl);have B:∀{i:Nat}(a:i<ls.length),∃w,H ls[i]=ac (.lst (bN w)):=λ{i}a=>⟨ws[i]'(hl▸a),u i _ _ (aa a) (aa (hl▸a))⟩;have y:sp≠d:=ol p t (λe=>by cases e);have x:∀{i:Nat}(a:i<ls.length),sp≠ls[i]:=λ{i}a=>(by obtain⟨w,k⟩:=B a;exact ol p k (λe=>by cases e));have v:∀{i:Nat}(a:i<ls.length),d≠ls[i]:=λ{i}a e=>A (e▸aD a);exists λr o e=>?_,λr q g f e=>?_;·(cases r <;> first|(cases e;done)|skip);(case bZ=>cases e;exact p);(case dG=>cases e;exact t);case gV i=>obtain⟨a,c⟩:=b (i:=i) (by rw[e];exact bg o);have k:=aa (hl▸a:i<ws.length);have e:(ws[i]?.map λw=>cr (bN w))=ac o:=e;rw[k] at e;cases e;rw[c];exact u i _ _ (aa a) k
 ·(cases r <;> first|exact b3 rfl g|skip);(all_goals cases q <;> first|exact b3 rfl f|rfl|skip);(case bZ.dG=>exact b3 e y);(case bZ.gV i=>obtain⟨a,c⟩:=b f;exact b3 (e.trans c) (x a));(case dG.bZ=>exact b3 e.symm y);(case dG.gV i=>obtain⟨a,c⟩:=b f;exact b3 (e.trans c) (v a));(case gV.bZ i=>obtain⟨a,c⟩:=b g;exact b3 (e.symm.trans c) (x a));(case gV.dG i=>obtain⟨a,c⟩:=b g;exact b3 (e.symm.trans c) (v a));case gV.gV i j=>obtain⟨a,c⟩:=b g;obtain⟨D,s⟩:=b f;rw[c,s] at e;have q:ls[i]?=ls[j]?:=(by rw[aa a,aa D,e]);have:=(List.getElem?_inj a nd).mp q;rw[this]
structure dS(ns:List Int)(rs:List R5):Prop where
 nd:ns.Nodup
 ok:∀r∈rs,r.Ok (cx ns)
 n1:1<=cx ns
 QO:cx ns<=10
 Wn:cx rs<=20
 pos:∀x∈ns,0<=x
structure Dj(ns:List Int)(rs:List R5)(s:NS):Prop where
 wl:cx s.ws=rs.length
 w4:∀w∈s.ws,w.length<=4
 fit:∀g,g<3->AA (cx ns) (cx rs) (s.R g)
noncomputable abbrev i2(rs:List R5)(ws:List (List Nat))(g:Nat):List Nat:=Fk rs ws g (cx rs)
def yr:∀k∈i2 rs ws g,k<cx rs:=λk a=>dO.mp (cQ.mp a).1
noncomputable def wc(ns:List Int)(rs:List R5)(o:dS ns rs)(ws:List (List Nat))(g:Nat):RM.Net:=bz ns rs (i2 rs ws g) o.nd o.ok yr
section
variable{K:af}{c:NC}{CT:am}{H H':Hp}{loc dx:Role->am}{q:TQ}{p tp ln lr:am}{n:Nat}{s:NS}{ns:List Int}{rs:List R5}
theorem AE.strAt(O:AE H loc (c2 c dx tp loc q s)):zV c.str H (loc .bZ) tp (loc .dG) s.ws:=by exists ⟨dx .bZ,O.get .bZ _ rfl⟩,(ay s.ws.length).map λi=>loc (.gV i),4,by rw[ah,bI],λi l w b a=>?_;have:=O.get .dG _ rfl;rw[this,cz];rfl;have d:=(ai.mp a).1;rw[ak,i8 d] at b;cases b;exact O.get (.gV i) _ (by show (s.ws[i]?.map _)=_;rw[a];rfl)
def AE.aaW(O:AE H loc (c2 c dx tp loc q s)){g:Nat}(a:g<3):yl c.book H (loc (.book g)) (loc (.g6 g)) (s.ts g) :=⟨⟨dx (.book g),O.get (.book g) _ (b4 a)⟩,O.get (.g6 g) _ (b4 a)⟩
theorem tY{m g:Nat}(h:g<m):KN ((ay m).map f) (g:Int)=ac (f g):=dF (by rw[ak,i8 h];rfl)
theorem gI.Wo(h:gI K H qs (jo n R))(hl:bH K H l (qs.map ci)):Az K H l n R:=by have e:qs.length=n:=(by rw[h.len];simp[jo]);exists qs,hl,e,λi p a=>h.at' i p _ a ?_;have b:=(ai.mp a).1;unfold jo;rw[ak,i8 ∅];rfl
theorem pK{xs:List Nat}{i:Nat}(h:i<xs.length):KN (bN xs) (i:Int)=ac (.int (xs[i]:Nat)):=dF (by rw[ak,aa h];rfl)
end
def fO{α:Type}(f:Nat->α)(i:Nat)(v:α):Nat->α:=λg=>if g=i then v else f g
def d8{a:Type}{f:Nat->a}{i:Nat}{v:a}:fO f i v i=v:=b4 rfl
def iB{a:Type}{f:Nat->a}{i g:Nat}{v:a}(h:g≠i):fO f i v g=f g:=b5 h
theorem AE.ext{loc':Role->am}{ff:Role->Option HO}(h:AE H loc ob)(d:∀r,ob r=ff r)(c:∀r,ob r≠ae->loc r=loc' r):AE H loc' ff/\∀b,Fp loc ob b↔Fp loc' ff b:=by have e:ob=ff:=funext d;subst e;exists ⟨λr o e=>?_,λr q a b e=>h.inj r q a b ?_⟩,λb=>⟨λ⟨r,a,e⟩=>⟨r,a,(c r a).symm.trans e⟩,λ⟨r,a,e⟩=>⟨r,a,(c r a).trans e⟩⟩;rw[<- c r (by rw[e];exact bg o)];exact h.get r o e;rw[c r a,c q b];exact e
section
variable{K:af}{c:NC}{H H':Hp}{F:am->Prop}{loc dx:Role->am}{q:TQ}{p tp:am}{n g:Nat}{s:NS}
theorem aaX(I:loc .cj=p)(O:AE H loc (c2 c dx tp loc q s))(A:∀b,F b↔Fp loc (c2 c dx tp loc q s) b)(t:rP K H n q s)(v:g<3){d' a:am}(j:H d'=ae) (R:H' (loc (.book g))=ac (.ins c.book a [("kept",.ref d')])) (L:H' d'=ac (.dT [])) (J:∀b o,H b=ac o->b≠loc (.book g)->H' b=ac o) :∃E,dH K c H' E p tp n {s with ts:=fO s.ts g []}/\Step H F H' E:=by have B:c2 c dx tp loc q s (.book g)≠ae:=(by show (if g<3 then ac _ else ae)≠ae;rw[b4 v];exact bg _);have f:F (loc (.book g)):=(A _).mpr ⟨.book g,B,2⟩;have h:∀b o,H b=ac o->¬F b->H' b=ac o:=λb o e z=>J b o e λw=>z (w▸f);have m:dH K c H F p tp n s:=⟨loc,dx,q,I,O,A,t⟩;have G:=O.set B (.ins c.book a [("kept",.ref d')]);have C:d'≠loc (.book g):=λz=>(by have:=m.there f;obtain⟨o,e⟩:=this;rw[z,e] at j;cases j);have y:(upd H (loc (.book g)) (.ins c.book a [("kept",.ref d')])) d'=ae:=(by rw[aI C];exact j);have M:=G.new y (.g6 g) (.dT []);have T:AE H' (vZ loc (.g6 g) d') (jS (jS (c2 c dx tp loc q s) (.book g) (.ins c.book a [("kept",.ref d')])) (.g6 g) (.dT [])):=(by refine M.keep λb o e _=>?_;by_cases z:b=d';rw[z,aq] at e;cases e;rw[z];exact L;rw[aI z] at e;by_cases u:b=loc (.book g);rw[u,aq] at e;cases e;rw[u];exact R;rw[aI u] at e;exact J b o e u);obtain⟨Q,P⟩:=T.ext (ff:=c2 c (λr=>if r=.book g then a else dx r) tp (vZ loc (.g6 g) d') q {s with ts:=fO s.ts g []}) (loc':=vZ loc (.g6 g) d') (λr=>by (cases r <;> first|rfl|skip);rename_i k;show jS (c2 c dx tp loc q s) (.book g) _ (.book k)=(if k<3 then ac (cw c.book (if Role.book k=.book g then a else dx (.book k)) [("kept",.ref (vZ loc (.g6 g) d' (.g6 k)))]) else ae);by_cases z:k=g;subst z;rw[fh,b4 v,b4 rfl,ia];have D:Role.book k≠.book g:=λe=>z (by cases e;rfl);have d:Role.g6 k≠.g6 g:=λe=>z (by cases e;rfl);rw[cV D,b5 D,gH d];rfl;rename_i k;show jS (jS (c2 c dx tp loc q s) (.book g) _) (.g6 g) _ (.g6 k)=(if k<3 then ac (HO.dT ((fO s.ts g [] k).map qU)) else ae);by_cases z:k=g;subst z;rw[fh,b4 v,d8];rfl;have d:Role.g6 k≠.g6 g:=λe=>z (by cases e;rfl);rw[cV d,iB z];rfl) (λr _=>rfl);exists Fp _ _,⟨33,q,4,Q,λb=>Iff.rfl,⟨λk S=>(t.rows k S).mono λb x=>m.tup h,λi l e=>(t.aH i l e).mono λb x=>m.tup h,t.cps.mono λb x=>m.tup h⟩⟩,h,λb N=>?_;rw[gH (λz=>by cases z)];exact I;rcases G.af0 ((P b).mpr N) with z|rfl;exact .inl ((A b).mpr ((QM B).mp z));exact .inr j
theorem aiO(J:loc .cj=p)(O:AE H loc (c2 c dx tp loc q s))(y:∀b,F b↔Fp loc (c2 c dx tp loc q s) b)(j:rP K H n q s)(E:g<3){x:Nat}(U:x<n){a:am}{d:RM.Row}(L:dY K H a (RM.cO d)) :∃G,dH K c (upd H (loc (.rows g)) (.lst (((q.rq g).map ci).set x (.ref a)))) G p tp n {s with R:=fO s.R g (RM.upd (s.R g) x d)}/\Step H F (upd H (loc (.rows g)) (.lst (((q.rq g).map ci).set x (.ref a)))) G:=by have A:c2 c dx tp loc q s (.rows g)≠ae:=(by show (if g<3 then ac _ else ae)≠ae;rw[b4 E];exact bg _);have u:F (loc (.rows g)):=(y _).mpr ⟨.rows g,A,2⟩;have C:∀b o,H b=ac o->¬F b->(upd H (loc (.rows g)) (.lst (((q.rq g).map ci).set x (.ref a)))) b=ac o:=λb o e z=>(by have T:b≠loc (.rows g):=λw=>z (w▸u);rw[aI T];exact e);have P:dH K c H F p tp n s:=⟨loc,dx,q,J,O,y,j⟩;have h:∀{b x},dY K H b x->_:=λ{b x}e=>P.tup C (b:=b) (x:=x) e;have Q:=O.set A (.lst (((q.rq g).map ci).set x (.ref a)));obtain⟨S,N⟩:=Q.ext (ff:=c2 c dx tp loc {q with rq:=fO q.rq g ((q.rq g).set x a)} {s with R:=fO s.R g (RM.upd (s.R g) x d)}) (loc':=loc) (λr=>by (cases r <;> first|rfl|skip);rename_i k;show jS (c2 c dx tp loc q s) (.rows g) _ (.rows k)=(if k<3 then ac (cr ((fO q.rq g ((q.rq g).set x a) k).map ci)) else ae);by_cases z:k=g;subst z;rw[fh,b4 E,d8,rH];rw[cV (λe=>z (by cases e;rfl)),iB z];rfl) (λr _=>rfl);exists Fp _ _,⟨loc,dx,_,J,S,λb=>Iff.rfl,⟨λk I=>?_,λi l e=>(j.aH i l e).mono λb x=>h,j.cps.mono λb x=>h⟩⟩,C,λb M=>.inl ((y b).mpr ((QM A).mp ((N b).mpr M)));show gI K _ (fO q.rq g ((q.rq g).set x a) k) (jo n (fO s.R g (RM.upd (s.R g) x d) k));by_cases z:k=g;subst z;rw[d8,d8];have D:=j.rows k I;have B:(q.rq k).length=n:=(by rw[D.len];simp[jo]);exists by rw[bC,B];simp[jo],λi b v f t=>?_;have m:=(ai.mp f).1;rw[bC,B] at m;unfold jo at t;rw[ak,i8 m] at t;cases t;rw[fV] at f;by_cases w:x=i;subst w;rw[b4 rfl,b4 (by rw[B];exact m)] at f;cases f;have:RM.upd (s.R k) x d x=d:=(by unfold RM.upd;rw[b4 rfl]);show dY K _ a (RM.cO (RM.upd (s.R k) x d x));rw[this];exact h L;rw[b5 w] at f;have:RM.upd (s.R k) x d i=s.R k i:=(by unfold RM.upd;rw[b5 (bS w)]);show dY K _ b (RM.cO (RM.upd (s.R k) x d i));rw[this];exact h (D.at' i b _ f (by unfold jo;rw[ak,i8 m];rfl));rw[iB z,iB z];exact (j.rows k I).mono λb x=>h
end
section
variable{K:af}{c:NC}{H H':Hp}{F:am->Prop}{loc dx:Role->am}{q:TQ}{p tp:am}{n j:Nat}{s:NS}
theorem Ys(E:loc .cj=p)(O:AE H loc (c2 c dx tp loc q s))(v:∀b,F b↔Fp loc (c2 c dx tp loc q s) b)(m:rP K H n q s)(S:j<cx s.ws){a:am}{w:List Nat}{ls:List am}(J:H (loc .dG)=ac (.lst (ls.map ci)))(f:H a=ae)(T:H' a=ac (.lst (bN w)))(I:H' (loc .dG)=ac (.lst ((ls.map ci).set j (.ref a))))(G:∀b o,H b=ac o->b≠loc .dG->H' b=ac o) :∃C,dH K c H' C p tp n {s with ws:=s.ws.set j w}/\Step H F H' C:=by have y:c2 c dx tp loc q s .dG≠ae:=bg _;have d:F (loc .dG):=(v _).mpr ⟨.dG,y,2⟩;have g:∀b o,H b=ac o->¬F b->H' b=ac o:=λb o e z=>G b o e λw=>z (w▸d);have h:dH K c H F p tp n s:=⟨loc,dx,q,E,O,v,m⟩;have B:ls.map ci=(ay s.ws.length).map λi=>ci (loc (.gV i)):=(by have:=O.get .dG _ rfl;rw[J] at this;exact HO.lst.inj (aT this));have D:=O.set y (.lst ((ls.map ci).set j (.ref a)));have A:a≠loc .dG:=λz=>(by obtain⟨o,e⟩:=h.there d;rw[z,e] at f;cases f);have u:(upd H (loc .dG) (.lst ((ls.map ci).set j (.ref a)))) a=ae:=(by rw[aI A];exact f);have M:=D.new u (.gV j) (.lst (bN w));have W:AE H' (vZ loc (.gV j) a) (jS (jS (c2 c dx tp loc q s) .dG (.lst ((ls.map ci).set j (.ref a)))) (.gV j) (.lst (bN w))):=(by refine M.keep λb o e _=>?_;by_cases z:b=a;rw[z,aq] at e;cases e;rw[z];exact T;rw[aI z] at e;by_cases t:b=loc .dG;rw[t,aq] at e;cases e;rw[t];exact I;rw[aI t] at e;exact G b o e t);obtain⟨R,Q⟩:=W.ext (ff:=c2 c dx tp (vZ loc (.gV j) a) q {s with ws:=s.ws.set j w}) (loc':=vZ loc (.gV j) a) (λr=>by (cases r <;> first|rfl|skip);show ac (cr ((ls.map ci).set j (.ref a)))=ac (cr ((ay (s.ws.set j w).length).map λi=>ci (vZ loc (.gV j) a (.gV i))));rw[B,bC];congr 2;refine vR (-_) λi N X=>?_;simp only[bC,ah,bI] at N;rw[List.getElem_set];by_cases z:j=i;subst z;simp[ia];have L:Role.gV i≠.gV j:=λe=>z (by cases e;rfl);simp[z,gH L];rename_i i;show jS (jS (c2 c dx tp loc q s) .dG _) (.gV j) _ (.gV i)=((s.ws.set j w)[i]?.map λw=>cr (bN w));by_cases z:i=j;subst z;rw[fh,fV,b4 rfl,b4 S];rfl;rw[cV (λe=>z (by cases e;rfl)),fV,b5 (bS z)];rfl) (λr _=>rfl);exists Fp _ _,⟨_,dx,q,4,R,λb=>Iff.rfl,⟨λk U=>(m.rows k U).mono λb x=>h.tup g,λi l e=>(m.aH i l e).mono λb x=>h.tup g,m.cps.mono λb x=>h.tup g⟩⟩,g,λb P=>?_;rw[gH (λz=>by cases z)];exact E;rcases D.af0 ((Q b).mpr P) with z|rfl;exact .inl ((v b).mpr ((QM y).mp z));exact .inr f
theorem aaY(u:loc .cj=p)(O:AE H loc (c2 c dx tp loc q s))(m:∀b,F b↔Fp loc (c2 c dx tp loc q s) b)(A:rP K H n q s){l:am}{qs:List am}{cps:List Cp}(hl:H l=ac (.lst (qs.map ci)))(G:¬F l)(hq:gI K H qs (cps.map Cp.vs)) :∃I,dH K c (upd H p (.ins c.cj (dx .cj) [("town",.ref tp),("strands",.ref (loc .bZ)),("rows_by_group",.ref (loc .yq)),("books",.ref (loc .mP)),("homes",.ref (loc .aL)),("groups",.ref (loc .groups)),("handed",.ref (loc .jR)),("letters",.ref (loc .cJ)),("copies",.ref l)])) I p tp n {s with cps:=cps} /\(∀b o,H b=ac o->b≠p->(upd H p (.ins c.cj (dx .cj) [("town",.ref tp),("strands",.ref (loc .bZ)),("rows_by_group",.ref (loc .yq)),("books",.ref (loc .mP)),("homes",.ref (loc .aL)),("groups",.ref (loc .groups)),("handed",.ref (loc .jR)),("letters",.ref (loc .cJ)),("copies",.ref l)])) b=ac o)/\F p/\∀b,I b->F b∨b=l:=by generalize P:cw c.cj (dx .cj) [("town",.ref tp),("strands",.ref (loc .bZ)),("rows_by_group",.ref (loc .yq)),("books",.ref (loc .mP)),("homes",.ref (loc .aL)),("groups",.ref (loc .groups)),("handed",.ref (loc .jR)),("letters",.ref (loc .cJ)),("copies",.ref l)]=o1;have t:c2 c dx tp loc q s .cj≠ae:=bg _;have f:F p:=(m _).mpr ⟨.cj,t,u⟩;have N:dH K c H F p tp n s:=⟨loc,dx,q,u,O,m,A⟩;have E:∀b o,H b=ac o->b≠p->(upd H p o1) b=ac o:=λb o e z=>(by rw[aI z];exact e);have v:∀{b x},dY K H b x->dY K (upd H p o1) b x:=λ{b x} e=>N.tup (λb o e z=>E b o e λw=>z (w▸f)) e;have B:=O.set t o1;rw[u] at B;have y:l≠p:=λz=>G (z▸f);have J:AE (upd H p o1) (vZ loc .fJ l) (jS (jS (c2 c dx tp loc q s) .cj o1) .fJ (.lst (qs.map ci))):=(by exists λr o e=>?_,λr D a b e=>?_;by_cases z:r=.fJ;subst z;rw[fh] at e;cases e;rw[ia];exact E _ _ hl y;rw[cV z] at e;rw[gH z];exact B.get r o e;have g:∀{r:Role},r≠.fJ->jS (c2 c dx tp loc q s) .cj o1 r≠ae->loc r≠l:=λ{r} z h e=>(by refine G ((m _).mpr ⟨r,4,e⟩);by_cases w:r=.cj;rw[w];exact t;rw[cV w] at h;exact h);by_cases z:r=.fJ;by_cases d:D=.fJ;rw[z,d];rw[z,ia,gH d] at e;rw[cV d] at b;exact b3 e.symm (g d b);by_cases d:D=.fJ;rw[d,ia,gH z] at e;rw[cV z] at a;exact b3 e (g z a);rw[gH z,gH d] at e;rw[cV z] at a;rw[cV d] at b;exact B.inj r D a b e);obtain⟨Q,M⟩:=J.ext (ff:=c2 c dx tp (vZ loc .fJ l) {q with cq:=qs} {s with cps:=cps}) (loc':=vZ loc .fJ l) (λr=>by subst P;cases r <;> rfl) (λr _=>rfl);exists Fp _ _,⟨_,dx,34,Q,λb=>Iff.rfl,⟨λk R=>(A.rows k R).mono λb x=>v,λi l e=>(A.aH i l e).mono λb x=>v,hq.mono λb x=>v⟩⟩,E,f,λb L=>?_;rw[gH (λz=>by cases z)];exact u;obtain⟨r,C,j⟩:=(M b).mpr L;by_cases z:r=.fJ;rw[z,ia] at j;exact .inr j.symm;rw[gH z] at j;rw[cV z] at C;refine .inl ((m b).mpr ⟨r,4,j⟩);by_cases w:r=.cj;rw[w];exact t;rw[cV w] at C;exact C
end
end TW
namespace TW
open PySem L2 PyProof.Rows
open Classical in
def Off(H:Hp)(F:am->Prop):Hp:=λb=>if F b then ae else H b
section
variable{K:af}{c:NC}{CT:am}{H H':Hp}{F F' F1 F2 G:am->Prop}{p tp ln lr:am}{n:Nat}{s:NS}{ns:List Int}{rs:List R5}
theorem vv(h:Off H F b=ac o):¬F b/\H b=ac o:=by unfold Off at h;by_cases z:F b;rw[b4 z] at h;cases h;rw[b5 z] at h;exists z,h
theorem yt(z:¬F b)(h:H b=ac o):Off H F b=ac o:=by unfold Off;rw[b5 z];exact h
def cK:aB (Off H F) H:=λb o e=>(vv e).2
theorem Cw(st:Step H F H' F'):aB (Off H F) (Off H' F'):=λb o e=>by
 obtain⟨a,c⟩:=vv e;refine yt (λz=>?_) (st.kp b o c a);rcases st.fr b z with w|w
 ·exact a w
 ·rw[c] at w;cases w
def Ft(e:aB H H'):aB (Off H F) (Off H' F):=Cw (Step.refl' e)
theorem BM(a:¬F z):Off (upd H z o) F=upd (Off H F) z o:=by funext b;by_cases e:b=z;subst e;rw[aq];exact yt a aq;rw[aI e];unfold Off;rw[aI e]
end
inductive af3(K:af)(H:Hp)(l:am)(rs:List R5):Prop
 |mk(qs:List am):H l=ac (.lst (qs.map ci))->gI K H qs (rs.map R5.vs)->af3 K H l rs
theorem af3.af4{K:af}{H:Hp}{l:am}:∀{rs:List R5}{qs:List am},gI K H qs (rs.map R5.vs)->ee K H (rs.map R5.D) (qs.map ci)
 |[],[],_=>rfl
 |[],_::_,h=>by cases h.len
 |_::_,[],h=>by cases h.len
 |r::rs,q::qs,h=>⟨.ref q,qs.map ci,2,Rep.UR (ns:=r.ns) (h.at' 0 q _ rfl rfl),af3.af4 (l:=l) ⟨Nat.succ.inj h.len,λi p x a b=>h.at' (i+1) p x a b⟩⟩
theorem af5{c:Hp}{F:am->Prop}(t:aB H H0)(a:H p=ae)(f:∀b o,H0 b=ac o->b≠p->c b=ac o)(d:∀b,F b->b=p∨H0 b=ae):aB H (Off c F):=λb o e=>yt (λz=>by
 rcases d b z with rfl|w
 ·rw[e] at a;cases a
 ·rw[t _ _ e] at w;cases w) (f b o (t b o e) (aJ e a))
end TW
namespace L2
open PySem PySem.Spec PyProof.Rows
structure My(K:af)(x qual:Str)(st:Stmt)(f:am)(fd:FuncData)(dv:ap):Prop where
 ex:∃(oc:ap)(od:Option am)(T:am)(o:Obj)(n:Nat)(kV doc pm:ap)(an:Option am)(cdv ct:ap)(osl:Array (Option ap)),
  fd=gm x qual (mY st) (gZ st) (aA st) (.ref T) kV doc pm an cdv ct/\K.lookup f=ac ⟨oc,od,.func fd,osl⟩/\mL K cdv qual=ag/\K.lookup T=ac o/\o.data=.seq #[dv] n
 kp:dN K (.ref f)=ag
section
variable{P:bv}{w:World}{K:af}{mg:Str->Option ap}{base:Heap}
theorem My.ok{x b:Str}{st:Stmt}{f:am}{j:FuncData}{r:ap}{N ps:List Str}{k:Nat}{sp:Sp}(F:My K x b st f j r)(S:aG N ps (aA st))(g:∀vs H Q E,sp vs H Q E->vs.length=ps.length)(d:∀(c:ap)(A:ce)(a:List Env)(s:ar)(H:Hp)(vs:List V)(Q:VK)(E:XK),jF k (A.deeper (envOfC b (aA st) s.heap.objs.size f c))->sp vs H Q E ->∃t,i9 (m8 iJ P w K mg base N b (aA st) f c A a s H E).XH (gZ st) t/\t {nx:=λ_ l=>Q .fW l,rt:=Q} (start N vs) H):bu P w K mg base iJ (k+1) f j ps sp:=by obtain⟨C,y,T,o,n,kV,u,B,z,c,v,m,rfl,lk,e,_⟩:=F.ex;refine i3 lk e S g λA a s H vs Q E p i=>?_;obtain⟨t,h,q⟩:=d c A a s H vs Q E p i;exists t,h.XH,q
theorem My.okX{x b:Str}{st:Stmt}{f:am}{i:FuncData}{p:ap}{N ps:List Str}{k:Nat}{sp:Sp}(F:My K x b st f i p)(S:aG N ps (aA st))(g:∀vs H Q E,sp vs H Q E->vs.length=ps.length)(d:∀(c:ap)(A:ce)(a:List Env)(s:ar)(H:Hp)(vs:List V)(Q:VK)(E:XK),jF k (A.deeper (envOfC b (aA st) s.heap.objs.size f c))->sp vs H Q E ->∃t,i9 (m8 (jD P w) P w K mg base N b (aA st) f c A a s H E) (gZ st) t/\t {nx:=λ_ j=>Q .fW j,rt:=Q} (start N vs) H):bu P w K mg base (jD P w) (k+1) f i ps sp:=by obtain⟨z,u,T,o,n,kV,q,y,v,c,r,l,rfl,lk,e,_⟩:=F.ex;exact i3 lk e S g λA a s H vs Q E m h=>d c A a s H vs Q E m h
theorem My.binds{x a:Str}{st:Stmt}{f:am}{g:FuncData}{i:ap}{ps:List Str}{ds:List ap}{m:Nat}(F:My K x a st f g i)(y:m+ds.length=ps.length)(h:∀(T:am)(kV c e:ap)(d:Option am)(b ct:ap)(us:List ap),us.length=m ->∃k,bindArgs (gm x a (mY st) (gZ st) (aA st) (.ref T) kV c e d b ct) ⟨us,[]⟩=seqItems? (.ref T) >>= k/\k (ac #[i])=pure (ps.zip (us++ds))):Binds K g ps ds:=by obtain⟨w,v,T,o,n,kV,c,e,d,b,ct,r,rfl,lk,q,lt,l⟩:=F.ex;intro s us p u;obtain⟨k,t,j⟩:=h T kV c e d b ct us (by rw[av] at u;lia);exact PySem.W.binds_K p rfl lt l t j
def Bz{x a:Str}{st:Stmt}{f T:am}{o:Obj}{n:Nat}{j:ap}{i:ap}{od g:Option am}{e:Array (Option ap)}{kV d h b ct:ap}(l:K.lookup f=ac ⟨i,od,.func (gm x a (mY st) (gZ st) (aA st) (.ref T) kV d h g b ct),e⟩)(c:mL K b a=ag)(k:dN K (.ref f)=ag)(lt:K.lookup T=ac o)(m:o.data=.seq #[j] n):My K x a st f (gm x a (mY st) (gZ st) (aA st) (.ref T) kV d h g b ct) j:=⟨⟨i,od,T,o,n,kV,d,h,g,b,ct,e,2,l,c,lt,m⟩,k⟩
end
end L2
namespace TW
open PySem L2 PyProof.Rows
structure mQ(K:af)(c:NC)(H:Hp)(F:am->Prop)(loc dx:Role->am)(q:TQ)(p tp:am)(n:Nat)(s:NS):Prop where
 hp:loc .cj=p
 own:AE H loc (c2 c dx tp loc q s)
 fp:∀b,F b↔Fp loc (c2 c dx tp loc q s) b
 tup:rP K H n q s
section
variable{K:af}{c:NC}{H H':Hp}{F:am->Prop}{loc dx:Role->am}{q:TQ}{p tp:am}{n:Nat}{s:NS}
def mQ.cj(h:mQ K c H F loc dx q p tp n s):dH K c H F p tp n s:=⟨loc,dx,q,h.hp,h.own,h.fp,h.tup⟩
theorem mQ.mono(h:mQ K c H F loc dx q p tp n s)(e:aB H H'):mQ K c H' F loc dx q p tp n s:=⟨h.hp,h.own.mono e,h.fp,h.tup.mono λb x=>e.iA⟩
theorem Dk(X:mQ K c H F loc dx q p tp n s){r:Role}(f:c2 c dx tp loc q s r≠ae){o:HO}{q':TQ}{s':NS}(j:∀x,jS (c2 c dx tp loc q s) r o x=c2 c dx tp loc q' s' x)(g:(∀b x,dY K H b x->dY K (upd H (loc r) o) b x)->rP K (upd H (loc r) o) n q' s') :mQ K c (upd H (loc r) o) F loc dx q' p tp n s'/\Step H F (upd H (loc r) o) F:=by obtain⟨i,O,d,m⟩:=X;have a:F (loc r):=(d _).mpr ⟨r,f,2⟩;have l:dH K c H F p tp n s:=⟨loc,dx,q,i,O,d,m⟩;have h:∀b u,H b=ac u->¬F b->(upd H (loc r) o) b=ac u:=λb u e z=>dU b u e λw=>z (w▸a);obtain⟨t,k⟩:=(O.set f o).ext (ff:=c2 c dx tp loc q' s') (loc':=loc) j (λx _=>rfl);exists ⟨i,t,λb=>(d b).trans ((QM f).symm.trans (k b)),g λb x=>l.tup h⟩,h,λb z=>.inl z
theorem jI{ls:List LS}{i k:Nat}(a:i<ls.length):(ls.set i l')[k]?=if k=i then ac l' else ls[k]?:=by rw[fV];by_cases z:i=k;subst z;rw[b4 rfl,b4 a,b4 rfl];rw[b5 z,b5 (bS z)]
noncomputable def qV(c:NC)(dx:Role->am)(loc:Role->am)(i:Nat)(l:LS):HO:=.ins c.post (dx (.cC i)) [("letter",.ref (loc (.letter i))),("group",.int l.grp),("old",.bl l.old),("done_at",.ref (loc (.done i))),("deeds",.ref (loc (.aH i)))]
theorem aiP(X:mQ K c H F loc dx q p tp n s){i:Nat}{l:LS}(hl:s.ls[i]?=ac l) :mQ K c (upd H (loc (.cC i)) (qV c dx loc i {l with old:=ag})) F loc dx q p tp n {s with ls:=s.ls.set i {l with old:=ag}}/\Step H F (upd H (loc (.cC i)) (qV c dx loc i {l with old:=ag})) F:=by
 have a:=(ai.mp hl).1;refine Dk X (r:=.cC i) (q':=q) (by show (s.ls[i]?.map _)≠ae;rw[hl];exact bg _) (λx=>?_) (λb=>⟨λg f=>(X.tup.rows g f).mono b,λk d e=>?_,X.tup.cps.mono b⟩);·(cases x <;> first|rfl|skip);show ac _=ac (cr ((ay (s.ls.set i _).length).map _));rw[bC];(all_goals rename_i k);show jS (c2 c dx tp loc q s) (.cC i) _ (.cC k)=((s.ls.set i _)[k]?.map λl=>qV c dx loc k l);rw[jI a];by_cases z:k=i;subst z;rw[fh,b4 rfl];rfl;rw[cV (λe=>z (by cases e;rfl)),b5 z];rfl;show (s.ls[k]?.map λl=>xE c (dx (.letter k)) l)=((s.ls.set i _)[k]?.map λl=>xE c (dx (.letter k)) l);rw[jI a];by_cases z:k=i;subst z;rw[b4 rfl,hl];rfl;rw[b5 z];show (s.ls[k]?.map λl=>HO.dK (l.done.map λh:Nat=>(jh (h:Int),.bl ag)))=((s.ls.set i _)[k]?.map λl=>HO.dK (l.done.map λh:Nat=>(jh (h:Int),.bl ag)));rw[jI a];by_cases z:k=i;subst z;rw[b4 rfl,hl];rfl;rw[b5 z];show (s.ls[k]?.map λ_=>cr ((q.dq k).map ci))=((s.ls.set i _)[k]?.map λ_=>cr ((q.dq k).map ci));rw[jI a];by_cases z:k=i;subst z;rw[b4 rfl,hl];rfl;rw[b5 z]
 have e:(s.ls.set i _)[k]?=ac d:=e;rw[jI a] at e;by_cases z:k=i;subst z;rw[b4 rfl] at e;cases e;exact (X.tup.aH k l hl).mono b;rw[b5 z] at e;exact (X.tup.aH k d e).mono b
theorem af6(X:mQ K c H F loc dx q p tp n s){i:Nat}{l:LS}(hl:s.ls[i]?=ac l)(ds:List Nat) :mQ K c (upd H (loc (.done i)) (.dK (ds.map λh:Nat=>(jh (h:Int),.bl ag)))) F loc dx q p tp n {s with ls:=s.ls.set i {l with done:=ds}}/\Step H F (upd H (loc (.done i)) (.dK (ds.map λh:Nat=>(jh (h:Int),.bl ag)))) F:=by
 have a:=(ai.mp hl).1;refine Dk X (r:=.done i) (q':=q) (by show (s.ls[i]?.map _)≠ae;rw[hl];exact bg _) (λx=>?_) (λb=>⟨λg f=>(X.tup.rows g f).mono b,λk d e=>?_,X.tup.cps.mono b⟩);·(cases x <;> first|rfl|skip);show ac _=ac (cr ((ay (s.ls.set i _).length).map _));rw[bC];(all_goals rename_i k);show (s.ls[k]?.map λl=>qV c dx loc k l)=((s.ls.set i _)[k]?.map λl=>qV c dx loc k l);rw[jI a];by_cases z:k=i;subst z;rw[b4 rfl,hl];rfl;rw[b5 z];show (s.ls[k]?.map λl=>xE c (dx (.letter k)) l)=((s.ls.set i _)[k]?.map λl=>xE c (dx (.letter k)) l);rw[jI a];by_cases z:k=i;subst z;rw[b4 rfl,hl];rfl;rw[b5 z];show jS (c2 c dx tp loc q s) (.done i) _ (.done k)=((s.ls.set i _)[k]?.map λl=>HO.dK (l.done.map λh:Nat=>(jh (h:Int),.bl ag)));rw[jI a];by_cases z:k=i;subst z;rw[fh,b4 rfl];rfl;rw[cV (λe=>z (by cases e;rfl)),b5 z];rfl;show (s.ls[k]?.map λ_=>cr ((q.dq k).map ci))=((s.ls.set i _)[k]?.map λ_=>cr ((q.dq k).map ci));rw[jI a];by_cases z:k=i;subst z;rw[b4 rfl,hl];rfl;rw[b5 z]
 have e:(s.ls.set i _)[k]?=ac d:=e;rw[jI a] at e;by_cases z:k=i;subst z;rw[b4 rfl] at e;cases e;exact (X.tup.aH k l hl).mono b;rw[b5 z] at e;exact (X.tup.aH k d e).mono b
theorem Fv(X:mQ K c H F loc dx q p tp n s){i:Nat}{l:LS}(hl:s.ls[i]?=ac l){a:am}{d:k6}(w:dY K H a d.vs) :mQ K c (upd H (loc (.aH i)) (.lst ((q.dq i).map ci++[.ref a]))) F loc dx {q with dq:=fO q.dq i (q.dq i++[a])} p tp n {s with ls:=s.ls.set i {l with aH:=l.aH++[d]}}/\Step H F (upd H (loc (.aH i)) (.lst ((q.dq i).map ci++[.ref a]))) F:=by
 have o:=(ai.mp hl).1;refine Dk X (r:=.aH i) (q':={q with dq:=fO q.dq i (q.dq i++[a])}) (by show (s.ls[i]?.map _)≠ae;rw[hl];exact bg _) (λx=>?_) (λm=>⟨λg y=>(X.tup.rows g y).mono m,λk v e=>?_,X.tup.cps.mono m⟩);·(cases x <;> first|rfl|skip);show ac _=ac (cr ((ay (s.ls.set i _).length).map _));rw[bC];(all_goals rename_i k);show (s.ls[k]?.map λl=>qV c dx loc k l)=((s.ls.set i _)[k]?.map λl=>qV c dx loc k l);rw[jI o];by_cases z:k=i;subst z;rw[b4 rfl,hl];rfl;rw[b5 z];show (s.ls[k]?.map λl=>xE c (dx (.letter k)) l)=((s.ls.set i _)[k]?.map λl=>xE c (dx (.letter k)) l);rw[jI o];by_cases z:k=i;subst z;rw[b4 rfl,hl];rfl;rw[b5 z];show (s.ls[k]?.map λl=>HO.dK (l.done.map λh:Nat=>(jh (h:Int),.bl ag)))=((s.ls.set i _)[k]?.map λl=>HO.dK (l.done.map λh:Nat=>(jh (h:Int),.bl ag)));rw[jI o];by_cases z:k=i;subst z;rw[b4 rfl,hl];rfl;rw[b5 z];show jS (c2 c dx tp loc q s) (.aH i) _ (.aH k)=((s.ls.set i _)[k]?.map λ_=>cr ((fO q.dq i (q.dq i++[a]) k).map ci));rw[jI o];by_cases z:k=i;subst z;rw[fh,b4 rfl,d8,bx];rfl;rw[cV (λe=>z (by cases e;rfl)),b5 z,iB z];rfl
 show gI K _ (fO q.dq i (q.dq i++[a]) k) _;have e:(s.ls.set i _)[k]?=ac v:=e;rw[jI o] at e;by_cases z:k=i;subst z;rw[b4 rfl] at e;cases e;rw[d8];show gI K _ _ ((l.aH++[d]).map k6.vs);rw[bx];have t:=(X.tup.aH k l hl).mono m;exists by rw[av,av,t.len];rfl,λj b x u f=>?_;rcases PY u with u|⟨rfl,rfl⟩;have A:=(ai.mp u).1;rw[bG (by rw[<- t.len];exact A)] at f;exact t.at' j b x u f;rw[t.len,bO (az _)] at f;rw[lF] at f;cases f;exact m _ _ w;rw[b5 z] at e;rw[iB z];exact (X.tup.aH k v e).mono m
theorem Bn(X:mQ K c H F loc dx q p tp n s){qs:List am}{cps:List Cp}(hq:gI K H qs (cps.map Cp.vs)) :mQ K c (upd H (loc .fJ) (.lst (qs.map ci))) F loc dx {q with cq:=qs} p tp n {s with cps:=cps}/\Step H F (upd H (loc .fJ) (.lst (qs.map ci))) F :=Dk X (r:=.fJ) (q':={q with cq:=qs}) (bg _) (λx=>by cases x <;> rfl) (λa=>⟨λg b=>(X.tup.rows g b).mono a,λk l e=>(X.tup.aH k l e).mono a,hq.mono a⟩)
theorem af7(X:mQ K c H F loc dx q p tp n s)(b:List Nat) :mQ K c (upd H (loc .aL) (.lst (bN b))) F loc dx q p tp n {s with aL:=b}/\Step H F (upd H (loc .aL) (.lst (bN b))) F :=Dk X (r:=.aL) (q':=q) (bg _) (λx=>by cases x <;> rfl) (λa=>⟨λg d=>(X.tup.rows g d).mono a,λk l e=>(X.tup.aH k l e).mono a,X.tup.cps.mono a⟩)
theorem af8(X:mQ K c H F loc dx q p tp n s){i:Nat}(d:i<cx s.had)(a:List Nat) :mQ K c (upd H (loc (.handed i)) (.lst (bN a))) F loc dx q p tp n {s with had:=s.had.set i a}/\Step H F (upd H (loc (.handed i)) (.lst (bN a))) F:=by
 refine Dk X (r:=.handed i) (q':=q) (by show (s.had[i]?.map _)≠ae;rw[aa d];exact bg _) (λx=>?_) (λb=>⟨λg f=>(X.tup.rows g f).mono b,λk l e=>(X.tup.aH k l e).mono b,X.tup.cps.mono b⟩);cases x <;> first|rfl|skip
 show ac _=ac (cr ((ay (s.had.set i _).length).map _));rw[bC];rename_i k;show jS (c2 c dx tp loc q s) (.handed i) _ (.handed k)=((s.had.set i a)[k]?.map λw=>cr (bN w));rw[fV];by_cases z:k=i;subst z;rw[fh,b4 rfl,b4 d];rfl;rw[cV (λe=>z (by cases e;rfl)),b5 (bS z)];rfl
end
theorem yu{a:Type}{xs:List a}{i:Nat}{x:a}(h:xs[i]?=ac x):xs.set i x=xs:=by obtain⟨b,rfl⟩:=ai.mp h;exact List.set_getElem_self b
noncomputable def EW(c:NC)(JJ Wp la da ea:am)(n:Nat)(l:LS):Role->Option HO
 |.cC i=>if i=n then ac (.ins c.post JJ [("letter",.ref la),("group",.int l.grp),("old",.bl l.old),("done_at",.ref da),("deeds",.ref ea)]) else ae
 |.letter i=>if i=n then ac (xE c Wp l) else ae
 |.done i=>if i=n then ac (.dK (l.done.map λh:Nat=>(jh (h:Int),.bl ag))) else ae
 |.aH i=>if i=n then ac (.lst []) else ae
 |_=>ae
noncomputable def d5(pa la da ea:am):Role->am
 |.cC _=>pa
 |.letter _=>la
 |.done _=>da
 |.aH _=>ea
 |_=>0
section
variable{K:af}{c:NC}{H H':Hp}{F:am->Prop}{loc dx:Role->am}{q:TQ}{p tp:am}{n:Nat}{s:NS}
theorem al4{JJ Wp pa la da ea:am}{l:LS}(v:H pa=ac (.ins c.post JJ [("letter",.ref la),("group",.int l.grp),("old",.bl l.old),("done_at",.ref da),("deeds",.ref ea)]))(s:H la=ac (xE c Wp l))(t:H da=ac (.dK (l.done.map λh:Nat=>(jh (h:Int),.bl ag))))(w:H ea=ac (.lst [])) (d1:pa≠la) (q:pa≠da) (m:pa≠ea) (j:la≠da) (k:la≠ea) (p:da≠ea):AE H (d5 pa la da ea) (EW c JJ Wp la da ea n l):=by
 have d:∀{i:Nat}{o:HO}{g:HO},(if i=n then ac o else ae)=ac g->o=g/\i=n:=λ{i o g}e=>(by by_cases z:i=n;rw[b4 z] at e;cases e;exists 2,z;rw[b5 z] at e;cases e);have f:∀{i:Nat}{o:HO},(if i=n then ac o else ae)≠ae->i=n:=λ{i o}e=>(by by_cases z:i=n;exact z;rw[b5 z] at e;exact b3 rfl e);exists λr o e=>?_,λr u a b e=>?_;·(cases r <;> first|(cases e;done)|skip);rw[<- (d e).1];exact v;rw[<- (d e).1];exact s;rw[<- (d e).1];exact t;rw[<- (d e).1];exact w
 ·(cases r <;> first|exact b3 rfl a|skip);(all_goals cases u <;> first|exact b3 rfl b|skip)
  all_goals first
   | (rw[f a,f b];done)
   |exact b3 e d1
   |exact b3 e.symm d1
   |exact b3 e q
   |exact b3 e.symm q
   |exact b3 e m
   |exact b3 e.symm m
   |exact b3 e j
   |exact b3 e.symm j
   |exact b3 e k
   |exact b3 e.symm k
   |exact b3 e p
   |exact b3 e.symm p
theorem af9(G:loc .cj=p)(O:AE H loc (c2 c dx tp loc q s))(m:∀b,F b↔Fp loc (c2 c dx tp loc q s) b)(j:rP K H n q s){JJ Wp pa la da ea:am}{l:LS}(U:l.aH=[]) (h1:H pa=ac (.ins c.post JJ [("letter",.ref la),("group",.int l.grp),("old",.bl l.old),("done_at",.ref da),("deeds",.ref ea)])) (N:H la=ac (xE c Wp l)) (P:H da=ac (.dK (l.done.map λh:Nat=>(jh (h:Int),.bl ag)))) (h4:H ea=ac (.lst [])) (d1:pa≠la) (d2:pa≠da) (R:pa≠ea) (I:la≠da) (L:la≠ea) (W:da≠ea) (n1:¬F pa) (n2:¬F la) (n3:¬F da) (n4:¬F ea) :∃E,dH K c (upd H (loc .cJ) (.lst (((ay (cx s.ls)).map λi=>.ref (loc (.cC i)))++[.ref pa]))) E p tp n {s with ls:=s.ls++[l]} /\(∀b o,H b=ac o->¬F b->(upd H (loc .cJ) (.lst (((ay (cx s.ls)).map λi=>.ref (loc (.cC i)))++[.ref pa]))) b=ac o)/\∀b,E b->F b∨b=pa∨b=la∨b=da∨b=ea:=by
 have v:=al4 (n:=s.ls.length) (c:=c) h1 N P h4 d1 d2 R I L W;have Y:dH K c H F p tp n s:=⟨loc,dx,q,G,O,m,j⟩;have A:c2 c dx tp loc q s .cJ≠ae:=bg _;have y:F (loc .cJ):=(m _).mpr ⟨.cJ,A,2⟩;have B:∀r,EW c JJ Wp la da ea (cx s.ls) l r≠ae->¬F (d5 pa la da ea r):=λr h=>(by cases r <;> first|exact b3 rfl h|assumption);have C:∀b o,H b=ac o->¬F b->(upd H (loc .cJ) (.lst (((ay (cx s.ls)).map λi=>.ref (loc (.cC i)))++[.ref pa]))) b=ac o:=λb u e z=>dU b u e λw=>z (w▸y);have t:∀b x,dY K H b x->dY K _ b x:=λb x=>Y.tup C;have J:=O.join v λr Z a b e=>B Z b (e▸(m _).mpr ⟨r,a,2⟩);have S:=J.set (r:=.cJ) A (.lst (((ay (cx s.ls)).map λi=>ci (loc (.cC i)))++[.ref pa]));have f:∀{k:Nat},k≠s.ls.length->(s.ls++[l])[k]?=s.ls[k]?:=λ{k}z=>(by by_cases w:k<cx s.ls;exact bG w;rw[g4 (by rw[av];show s.ls.length+1<=k;lia),g4 ∅]);have d:(s.ls++[l])[s.ls.length]?=ac l:=(by rw[bO (az _),lF];rfl);obtain⟨O4,X⟩:=S.ext (ff:=c2 c (λr=>if r=.cC (cx s.ls) then JJ else if r=.letter (cx s.ls) then Wp else dx r) tp (λr=>if (EW c JJ Wp la da ea (cx s.ls) l r).isSome=ag then d5 pa la da ea r else loc r) {q with dq:=fO q.dq (cx s.ls) []} {s with ls:=s.ls++[l]})
  (loc':=λr=>if (EW c JJ Wp la da ea (cx s.ls) l r).isSome=ag then d5 pa la da ea r else loc r) (λr=>by
   cases r <;> first|rfl|skip
   ·
    show ac _=ac (cr ((ay (s.ls++[l]).length).map _));rw[av];show _=ac (cr ((ay (cx s.ls+1)).map _));rw[iK,bx];congr 2;congr 1
    ·refine dP λi Q=>?_
     have z:i≠s.ls.length:=by have:=dO.mp Q;lia
     simp[EW,z]
    ·simp[EW,d5]
   all_goals rename_i k
   all_goals by_cases z:k=s.ls.length
   all_goals first|subst z|skip
   all_goals rw[cV (λe=>by cases e)]
   ·simp[EW,d5,c2,d]
   ·have:=f z
    simp[EW,d5,c2,z,this]
   ·simp[EW,d5,c2,d]
   ·have:=f z
    simp[EW,d5,c2,z,this]
   ·simp[EW,d5,c2,d]
   ·have:=f z
    simp[EW,d5,c2,z,this]
   ·simp[EW,d5,c2,d,d8]
   ·have:=f z
    simp[EW,d5,c2,z,this,iB z]) (λr _=>rfl)
 exists Fp _ _,⟨λr=>if (EW c JJ Wp la da ea (cx s.ls) l r).isSome=ag then d5 pa la da ea r else loc r,33,G,O4,λb=>Iff.rfl,⟨λg M=>(j.rows g M).mono t,λk D e=>?_,j.cps.mono t⟩⟩,C,λb T=>?_;have e:(s.ls++[l])[k]?=ac D:=e;show gI K _ (fO q.dq (cx s.ls) [] k) _;by_cases z:k=s.ls.length;subst z;rw[d] at e;cases e;rw[d8,U];exact⟨2,λi b x e=>by cases e⟩;rw[f z] at e;rw[iB z];exact (j.aH k D e).mono t;·obtain⟨r,a,e⟩:=(QM (ob:=λr=>if (EW c JJ Wp la da ea (cx s.ls) l r).isSome=ag then EW c JJ Wp la da ea (cx s.ls) l r else c2 c dx tp loc q s r) (r:=.cJ) A).mp ((X b).mpr T);by_cases z:(EW c JJ Wp la da ea (cx s.ls) l r).isSome=ag;(·simp only[z,if_true] at e;(subst e;right;cases r <;> first|(cases z;done)|skip);exact .inl rfl;exact .inr (.inl rfl);exact .inr (.inr (.inl rfl));exact .inr (.inr (.inr rfl)));simp only[z,if_false] at a e;exact .inl ((m b).mpr ⟨r,by simpa using a,by simpa using e⟩)
end
theorem Bi(a b x y:Int):PyData.eqv (.tuple (([a,b]:List Int).map .int)) (.tuple (([x,y]:List Int).map .int))=decide (a=x/\b=y):=by show (PyData.eqv (.int a) (.int x)&&(PyData.eqv (.int b) (.int y)&&ag))=_;show ((a==x)&&((b==y)&&ag))=_;rw[Bool.and_true,kr];simp
section
variable{K:af}{c:NC}{H H':Hp}{F:am->Prop}{loc dx:Role->am}{q:TQ}{p tp:am}{n:Nat}{s:NS}
theorem mQ.past(X:mQ K c H F loc dx q p tp n s)(f:H z=ac u)(g:Cr u)(d:¬F z)(a:∀b v,H b=ac v->b≠z->H' b=ac v):mQ K c H' F loc dx q p tp n s :=⟨X.hp,X.own.keep λb o e y=>a b o e λw=>d (w▸(X.fp b).mpr y),X.fp,X.tup.mono λb x=>dY.past f g a⟩
end
def lC(i x:Nat)(c:Cp):Bool:=decide (c.r=i/\c.w=x)
noncomputable def dJ(s:NS)(i:Nat)(d:k6):NS:=match s.ls[i]? with|some l=>{s with ls:=s.ls.set i {l with aH:=l.aH++[d]}}|none=>s
theorem gJ{s:NS}{i:Nat}(h:s.ls[i]?=ac l):dJ s i d={s with ls:=s.ls.set i {l with aH:=l.aH++[d]}}:=by unfold dJ;rw[h]
def tM(i x:Nat)(s:NS)(c:Cp):NS:=if lC i x c=ag then dJ s c.l (.aaU c.h i) else s
def kU(s:NS)(i x:Nat)(m:Nat):NS:=(s.cps.take m).foldl (tM i x) s
def tN(s:NS)(i x:Nat):NS:={kU s i x (cx s.cps) with cps:=s.cps.filter λc=>!lC i x c}
theorem Yt:(dJ s i d).ls.length=s.ls.length:=by unfold dJ;cases s.ls[i]? with|none=>rfl|some l=>exact bC
theorem ad8:(tM i x s c).ls.length=s.ls.length:=by unfold tM;split;exact Yt;rfl
theorem Yu:(dJ s i d).cps=s.cps:=by unfold dJ;cases s.ls[i]? <;> rfl
theorem ad9:(tM i x s c).cps=s.cps:=by unfold tM;split;exact Yu;rfl
theorem U7{i x:Nat}:∀{cs:List Cp}{s:NS},(cs.foldl (tM i x) s).ls.length=s.ls.length
 |[],_=>rfl
 |c::cs,s=>by rw[gF,U7,ad8]
theorem U8{i x:Nat}:∀{cs:List Cp}{s:NS},(cs.foldl (tM i x) s).cps=s.cps
 |[],_=>rfl
 |c::cs,s=>by rw[gF,U8,ad9]
theorem Dl:kU s i x 0=s:=by unfold kU;rw[List.take_zero];rfl
theorem Dm{s:NS}{m:Nat}(h:m<cx s.cps):kU s i x (m+1)=tM i x (kU s i x m) s.cps[m]:=by unfold kU;rw[mW h,List.foldl_append];rfl
def U9:(kU s i x m).ls.length=s.ls.length:=U7
def aea:(kU s i x m).cps=s.cps:=U8
theorem Va{a:Type}{f:a->Bool}{xs:List a}{i:Nat}(b:i<xs.length):(xs.take (i+1)).filter f=(xs.take i).filter f++if f xs[i]=ag then [xs[i]] else []:=by rw[mW b,gp];congr 1;cases e:f xs[i];rw[b5 (!_),dw (by rw[e];decide)];rfl;rw[b4 rfl,dm e];rfl
theorem gI.snoc{K:af}(h:gI K H qs xs)(f:dY K H a x):gI K H (qs++[a]) (xs++[x]):=by exists by rw[av,av,h.len];rfl,λj b y d c=>?_;rcases PY d with d|⟨rfl,rfl⟩;have e:=(ai.mp d).1;rw[bG (by rw[<- h.len];exact e)] at c;exact h.at' j b y d c;rw[h.len,bO (az _),lF] at c;cases c;exact f
end TW
namespace RM
variable{N:Net}{S:Nat->Row}
end RM
namespace Gr
end Gr
namespace L2
open PySem PySem.Spec PyProof.Rows
section
variable{X:Cx}{pos:Pos}
theorem sS(i:Nat){x:Str}{e:Expr}{te:TE}{a:Pos}{ps:List Str}{h:Scope}(S:aG X.N ps h)(d:PE X e te)(b:X.N[i]?=ac x:=by rfl)(f:Loc X.env.scope x:=by first|exact Or.inl rfl|exact Or.inr rfl)(g:swapsWith e (ac (.Name x a)) pos.line X.env=pure al:=by rfl)(c:X.fn x=ag∨X.env.scope.names.lookup x=ac .local:=by first|exact .inl rfl|exact .inr rfl|assumption) :PS X (.Assign [.Name x a] e pos) (VZ te (pH i)):=alr S.nd b f d g c
theorem gS(i:Nat)(c:X.N.Nodup)(a:X.N[i]?=ac x:=by rfl)(d:Loc X.env.scope x:=by first|exact Or.inl rfl|exact Or.inr rfl)(b:X.fn x=ag∨X.env.scope.names.lookup x=ac .local:=by first|exact .inl rfl|exact .inr rfl|assumption):PG X (.Name x pos) (pH i):=Hn c a d b
theorem gT(i:Nat)(S:aG X.N ps sc)(a:X.N[i]?=ac x:=by rfl)(c:Loc X.env.scope x:=by first|exact Or.inl rfl|exact Or.inr rfl)(b:X.fn x=ag∨X.env.scope.names.lookup x=ac .local:=by first|exact .inl rfl|exact .inr rfl|assumption):PG X (.Name x pos) (pH i):=Hn S.nd a c b
def oR(a:PE X e te):i9 X [.Return (ac e) pos] (lL te):=aX (yn a)
def oB{b j pos'}:i9 X [.Return (ac (.Constant (.bool b) j pos')) pos] (lL (tC (.bl b))):=aX (yn IB)
theorem oE(b:PE X e te)(a:swapsWith e ae pos.line X.env=pure al:=by rfl):i9 X [.Expr e pos] (ul te):=aX (cP b a)
theorem dg(b:PE X e1 t1)(a:fY e1=ag:=by rfl):PA X [e1] (eU t1 xy):=(qC b jn a)
theorem dX(c:PE X e1 t1)(d:PE X e2 t2)(b:fY e1=ag:=by rfl)(a:fY e2=ag:=by rfl):PA X [e1,e2] (eU t1 (eU t2 xy)):=(qC c (qC d jn a) b)
theorem KO(c:PE X e1 t1)(f:PE X e2 t2)(a:PE X e3 t3)(e:fY e1=ag:=by rfl)(b:fY e2=ag:=by rfl)(d:fY e3=ag:=by rfl):PA X [e1,e2,e3] (eU t1 (eU t2 (eU t3 xy))):=(qC c (qC f (qC a jn d) b) e)
theorem jx(d:PE X e1 t1)(h:PE X e2 t2)(a:PE X e3 t3)(b:PE X e4 t4)(g:fY e1=ag:=by rfl)(c:fY e2=ag:=by rfl)(f:fY e3=ag:=by rfl)(e:fY e4=ag:=by rfl):PA X [e1,e2,e3,e4] (eU t1 (eU t2 (eU t3 (eU t4 xy)))):=(qC d (qC h (qC a (qC b jn e) f) c) g)
theorem Ki(f:PE X e1 t1)(j:PE X e2 t2)(a:PE X e3 t3)(c:PE X e4 t4)(b:PE X e5 t5)(i:fY e1=ag:=by rfl)(d:fY e2=ag:=by rfl)(h:fY e3=ag:=by rfl)(g:fY e4=ag:=by rfl)(e:fY e5=ag:=by rfl):PA X [e1,e2,e3,e4,e5] (eU t1 (eU t2 (eU t3 (eU t4 (eU t5 xy))))):=(qC f (qC j (qC a (qC c (qC b jn e) g) h) d) i)
theorem oI(f:PE X e1 t1)(k:PE X e2 t2)(a:PE X e3 t3)(c:PE X e4 t4)(b:PE X e5 t5)(l:PE X e6 t6)(j:fY e1=ag:=by rfl)(d:fY e2=ag:=by rfl)(h:fY e3=ag:=by rfl)(g:fY e4=ag:=by rfl)(e:fY e5=ag:=by rfl)(i:fY e6=ag:=by rfl):PA X [e1,e2,e3,e4,e5,e6] (eU t1 (eU t2 (eU t3 (eU t4 (eU t5 (eU t6 xy)))))):=(qC f (qC k (qC a (qC c (qC b (qC l jn i) e) g) h) d) j)
theorem aN7(g:PE X e1 t1)(l:PE X e2 t2)(a:PE X e3 t3)(c:PE X e4 t4)(b:PE X e5 t5)(m:PE X e6 t6)(d:PE X e7 t7)(k:fY e1=ag:=by rfl)(e:fY e2=ag:=by rfl)(i:fY e3=ag:=by rfl)(h:fY e4=ag:=by rfl)(f:fY e5=ag:=by rfl)(j:fY e6=ag:=by rfl)(n:fY e7=ag:=by rfl):PA X [e1,e2,e3,e4,e5,e6,e7] (eU t1 (eU t2 (eU t3 (eU t4 (eU t5 (eU t6 (eU t7 xy))))))):=(qC g (qC l (qC a (qC c (qC b (qC m (qC d jn n) j) f) h) i) e) k)
theorem kO(S:aG N ps dsc)(b:List Str)(a:List (Option Nat))(d:X.env.scope=dsc:=by rfl)(c:X.N=N:=by rfl)(h:Wc scope dsc N b a=ag:=by decide +kernel):jG X scope b a:=adT d c h
end
section
variable{X:Cx}{a b tg iter:Expr}{ta tb:TE}{pos:Pos}{op:CmpOp}{r:R2}{body:List Stmt}{wi:TI}{g:TG}{ts:TS}
theorem xL(c:PE X a ta)(d:PE X b tb)(e:KS b:=by exact λ_ _=>rfl):PE X (.Subscript a b pos) (eT (gt X.K) ta tb):=UK Hb c d e
theorem xT(c:PE X a ta)(d:PE X b tb)(e:KS b:=by exact λ_ _=>rfl):PE X (.Subscript a b pos) (eT (ge X.K) ta tb):=UK xk c d e
theorem yL(K:af)(c:PE X a ta)(d:PE X b tb)(e:X.K=K:=by rfl)(f:KS b:=by exact λ_ _=>rfl):PE X (.Subscript a b pos) (eT (gt K) ta tb):=UK (afC K e) c d f
theorem yT(K:af)(c:PE X a ta)(d:PE X b tb)(e:X.K=K:=by rfl)(f:KS b:=by exact λ_ _=>rfl):PE X (.Subscript a b pos) (eT (ge K) ta tb):=UK (air K e) c d f
theorem qE(g:E3 X (bn op) r)(c:PE X a ta)(d:PE X b tb)(e:op≠.In:=by decide)(f:op≠.NotIn:=by decide):PE X (.Compare a [op] [b] pos) (eT r ta tb):=V3 g c d (xn b e f)
theorem qT(g:E3 X (bn op) r)(c:PE X a ta)(d:PE X b tb)(e:op≠.In:=by decide)(f:op≠.NotIn:=by decide):PT X (.Compare a [op] [b] pos) (my (eT r ta tb)):=rL g c d (xn b e f)
theorem fS(a:PI X tg iter wi)(e:PG X tg g)(b:i9 X body ts)(c:PassesOwn (model X.prog X.w) X.A X.env X.xe:=by exact PassesOwn.never)(d:X.calm=ag:=by rfl)(f:∀x,foldedSetIterable iter X.env x=pure x:=by intro _;rfl):PS X (.For tg iter body [] pos) (rg wi g ts):=V0 c d a e b f
end
section
variable{X:Cx}{x:Str}{p pos:Pos}{e:Expr}{es:List Expr}{te:TE}{t:TA}{id:String}{r:List V->Hp->VK->Prop}
theorem cB(f:qQ X (.builtin id) r)(i:X.mg x=ae)(h:bootBuiltins x=ac (.builtin id))(d:PA X (e::es) t)(g:Gl X x:=by rfl)(j:x≠"__name__" := by decide)(a:(x==("__debug__" : Str))=al:=by decide) (c:bc (e::es) X.env=(al,eval e X.env)::bc es X.env:=by rfl) (b:(backTo pos (bc es X.env)).any (·.1)=al:=by rfl):PE X (.Call (.Name x p) (e::es) [] pos) (hE r t):=XY f g i h d j a c b
theorem lS(i:X.mg "len" = ae)(f:PE X e te)(g:Gl X "len" := by rfl)(a:fY e=ag:=by rfl)(d:bc [e] X.env=(al,eval e X.env)::bc [] X.env:=by rfl)(c:(backTo pos (bc [] X.env)).any (·.1)=al:=by rfl) :PE X (.Call (.Name "len" p) [e] [] pos) (hE (λh H Q=>∃p b,h=[.ref p]/\(bH X.K H p b∨dY X.K H p b)/\Q (.int b.length) H) (eU te xy)):=XY V9 g i PySem.boot_len (qC f jn a) (!_) (!_) d c
end
theorem ja{N P:List Str}{a:Scope}(f:a.kind=.function:=by rfl)(g:a.isCoroutine=al:=by rfl)(b:a.isGenerator=al:=by rfl)(d:N.Nodup:=by decide +kernel)(c:N.take P.length=P:=by rfl)(h:∀x∈P,a.names.lookup x=ac .local∨a.names.lookup x=ac .cell:=by decide +kernel)(e:∀y∈a.names,y.2≠.free:=by decide +kernel):aG N P a:=⟨f,g,b,d,c,h,e⟩
structure iZ(K:af)(mg:Str->Option ap)(x key:Str)(st:Stmt)(f:am)(d:FuncData)(ps:List Str):Prop where
 F:Z8 K x key st f d
 B:Binds K d ps []
 g:mg x=ac (.ref f)
structure jT(K:af)(C:am)(x key:Str)(st:Stmt)(f:am)(d:FuncData)(ps:List Str):Prop where
 F:Z8 K x key st f d
 B:Binds K d ps []
 m:Qn K C x f
structure Wq(K:af)(C:am)(key:Str)(st:Stmt)(f:am)(d:FuncData)(ps:List Str):Prop where
 F:Z8 K "__init__" key st f d
 B:Binds K d ps []
 M:Mk K C f
def EG(K:af)(mg:Str->Option ap)(x key:Str)(st:Stmt)(f:am):Prop:=∃d,Z8 K x key st f d/\mg x=ac (.ref f)
def EM(K:af)(C:am)(x key:Str)(st:Stmt)(f:am):Prop:=∃d,Z8 K x key st f d/\Qn K C x f
structure EC(K:af)(C:am):Prop where
 c:PN K C
 ry:PySem.W.makesIn K C=ag
 kc:dN K (.ref C)=ag
section
variable{K:af}{h:Heap}{mg:Str->Option ap}{x key:Str}{st:Stmt}{C f:am}{oc:ap}{od an:Option am}{osl:Array (Option ap)}{kV doc pm cdv ct:ap}
def exG(X:K.In h)(G:h.Ns ba mg)(a:aY K ba x=ac (ac (.ref f)))(l:K.lookup f=ac ⟨oc,od,.func (gm x key (mY st) (gZ st) (aA st) .none kV doc pm an cdv ct),osl⟩)(c:mL K cdv key=ag)(k:dN K (.ref f)=ag):EG K mg x key st f:=⟨_,xc l c k,bJ X G a⟩
def EZ(a:aO K (.ref C) x=ac (ac (.ref f)))(i:PySem.W.isFn K (.ref f)=ag)(l:K.lookup f=ac ⟨oc,od,.func (gm x key (mY st) (gZ st) (aA st) .none kV doc pm an cdv ct),osl⟩)(c:mL K cdv key=ag)(k:dN K (.ref f)=ag):EM K C x key st f:=⟨_,xc l c k,⟨a,i,k⟩⟩
def sY(d:C9 K C Str.empty=ag)(e:ni K C=ag)(a:PySem.W.plainOver K C=ag)(c:aO K (.ref C) "__setattr__" = ac (ac (.builtin "object.__setattr__")))(b:PySem.W.makesIn K C=ag)(f:dN K (.ref C)=ag):EC K C:=⟨⟨d,e,a,c⟩,b,f⟩
end
section
variable{X:Cx}{k k':Nat}{f C:am}{fd:FuncData}{ps:List Str}{sp:Sp}{x m key:Str}{st:Stmt}{p pos apos:Pos}{e o:Expr}{es:List Expr}{ta:TE}{t:TA}
theorem cG(F:bu X.prog X.w X.K X.mg X.base iJ k f fd ps sp)(j:jF k' X.A)(c:iZ X.K X.mg x key st f fd ps)(i:PA X (e::es) t)(b:k<=k':=by decide)(l:Gl X x:=by rfl)(a:(x==("__debug__" : Str))=al:=by decide)(h:bc (e::es) X.env=(al,eval e X.env)::bc es X.env:=by rfl)(d:(backTo pos (bc es X.env)).any (·.1)=al:=by rfl) :PE X (.Call (.Name x p) (e::es) [] pos) (ui sp [] E0 t):=iz F (j.mono b) l c.g c.F.kp c.B .nil mZ i a h d
theorem cM{pl:Sem Bool}(i:PE X o ta)(c:PN X.K C)(u:jT X.K C m key st f fd ps)(F:bu X.prog X.w X.K X.mg X.base iJ k f fd ps sp)(l:jF k' X.A)(h:PA X (e::es) t)(d:k<=k':=by decide)
 (a:bc (e::es) X.env=(al,eval e X.env)::bc es X.env:=by rfl) (b:(backTo pos (bc es X.env)).any (·.1)=al:=by rfl)
 (j:eval (.Call (.Attribute o m apos) (e::es) [] pos) X.env=(do
  let g <- eval o X.env
  standAt apos.atName
  let (f,first) <- holding [g] (getMethod g m pl)
  callWith pos f first (backTo pos (bc (e::es) X.env)) (backToKw pos (keywordEach [] X.env))):=by rfl):
 PE X (.Call (.Attribute o m apos) (e::es) [] pos) (NX C m sp [] E0 ta t):=cR i c u.m F (l.mono d) u.B .nil mZ h a b j
theorem cI(u:Wq X.K C key st f fd ps)(F:bu X.prog X.w X.K X.mg X.base iJ k f fd ps sp)(h:jF k' X.A)(j:X.mg x=ac (.ref C))(d:PA X (e::es) t)(b:k+1<=k':=by decide)(i:Gl X x:=by rfl)(a:(x==("__debug__" : Str))=al:=by decide)(g:bc (e::es) X.env=(al,eval e X.env)::bc es X.env:=by rfl)(c:(backTo pos (bc es X.env)).any (·.1)=al:=by rfl) :PE X (.Call (.Name x p) (e::es) [] pos) (mx C sp [] E0 t):=PR u.M F (h.mono b) i j u.B .nil mZ d a g c
end
section
variable{P:bv}{w:World}{K:af}{mg:Str->Option ap}{base:Heap}
theorem Z8.jB{x a:Str}{st:Stmt}{f:am}{e:FuncData}{N ps:List Str}{k:Nat}{sp:Sp}(F:Z8 K x a st f e)(S:aG N ps (aA st))(i:∀{c:ap}{A:ce}{b:List Env}{s:ar}{vs:List V}(H:Hp)(Q:VK)(E:XK),jF k (A.deeper (envOfC a (aA st) s.heap.objs.size f c))->sp vs H Q E ->∃t,i9 (m8 iJ P w K mg base N a (aA st) f c A b s H E).XH (gZ st) t/\t {nx:=λ_ g=>Q .fW g,rt:=Q} (start N vs) H)(d:∀vs H Q E,sp vs H Q E->vs.length=ps.length:=by intro _ _ _ _ h;cases h;subst_vars;rfl):bu P w K mg base iJ (k+1) f e ps sp:=F.ok S d λ_ _ _ _ H _ Q E j h=>i H Q E j h
theorem Z8.jb{x a:Str}{st:Stmt}{f:am}{e:FuncData}{N ps:List Str}{k:Nat}{sp:Sp}(F:Z8 K x a st f e)(S:aG N ps (aA st))(i:∀{c:ap}{A:ce}{b:List Env}{s:ar}{vs:List V}(H:Hp)(Q:VK)(E:XK),jF k (A.deeper (envOfC a (aA st) s.heap.objs.size f c))->sp vs H Q E ->∃t,i9 (m8 (jD P w) P w K mg base N a (aA st) f c A b s H E) (gZ st) t/\t {nx:=λ_ g=>Q .fW g,rt:=Q} (start N vs) H)(d:∀vs H Q E,sp vs H Q E->vs.length=ps.length:=by intro _ _ _ _ h;cases h;subst_vars;rfl):bu P w K mg base (jD P w) (k+1) f e ps sp:=F.okX S d λ_ _ _ _ H _ Q E j h=>i H Q E j h
theorem My.jB{x a:Str}{st:Stmt}{f:am}{e:FuncData}{l:ap}{N ps:List Str}{k:Nat}{sp:Sp}(F:My K x a st f e l)(S:aG N ps (aA st))(i:∀{c:ap}{A:ce}{b:List Env}{s:ar}{vs:List V}(H:Hp)(Q:VK)(E:XK),jF k (A.deeper (envOfC a (aA st) s.heap.objs.size f c))->sp vs H Q E ->∃t,i9 (m8 iJ P w K mg base N a (aA st) f c A b s H E).XH (gZ st) t/\t {nx:=λ_ g=>Q .fW g,rt:=Q} (start N vs) H)(d:∀vs H Q E,sp vs H Q E->vs.length=ps.length:=by intro _ _ _ _ h;cases h;subst_vars;rfl):bu P w K mg base iJ (k+1) f e ps sp:=F.ok S d λ_ _ _ _ H _ Q E j h=>i H Q E j h
end
def rQ(K:af)(X:am)(Cs:List am)(i:Nat):Prop:=∀j,j<9->bD K (.ref X) (.ref (Cs.getD j 0))=ac (decide (i=j))
theorem isA{K:af}{X g o k q c d r n m:am}{i:Nat}{l h t u p s b v f:Bool}(x:bD K (.ref X) (.ref g)=ac l)(D:bD K (.ref X) (.ref o)=ac h)(y:bD K (.ref X) (.ref k)=ac t)(z:bD K (.ref X) (.ref q)=ac u)(F:bD K (.ref X) (.ref c)=ac p)(B:bD K (.ref X) (.ref d)=ac s)(E:bD K (.ref X) (.ref r)=ac b)(w:bD K (.ref X) (.ref n)=ac v)(A:bD K (.ref X) (.ref m)=ac f)
 (e:∀j:Fin 9,[l,h,t,u,p,s,b,v,f].getD j al=decide (i=j):=by decide):rQ K X [g,o,k,q,c,d,r,n,m] i:=λj C=>by
 have a:=e ⟨j,C⟩
 have:j=0∨j=1∨j=2∨j=3∨j=4∨j=5∨j=6∨j=7∨j=8:=∅
 rcases this with rfl|rfl|rfl|rfl|rfl|rfl|rfl|rfl|rfl
 ·exact x.trans (c6 ac a)
 ·exact D.trans (c6 ac a)
 ·exact y.trans (c6 ac a)
 ·exact z.trans (c6 ac a)
 ·exact F.trans (c6 ac a)
 ·exact B.trans (c6 ac a)
 ·exact E.trans (c6 ac a)
 ·exact w.trans (c6 ac a)
 ·exact A.trans (c6 ac a)
end L2
namespace L2
open PySem PySem.W PySem.Spec PyProof.Rows
end L2
namespace L2
open PySem PySem.W PySem.Spec PySem.Calls PyProof.Rows
end L2
namespace L2
open PySem PySem.Spec PyProof.Rows
section
variable{M:Model}{A:ce}{E:ap->ar->Prop}{s:ar}{base:Heap}{env:Env}{outer:List Env}{L e:am}
def E4.refl:E4 F R h h:=⟨λ_ _ _ _ q=>q,λ_ o _ _ q=>⟨o.slots,q⟩⟩
theorem aga{T:am}{cls v:ap}{Q:Unit->ar->Prop}(g:A.frames=ac (env::outer))(hl:s.heap.FunFrames base (env::outer))(q:env.frame=ac L)(t:PV s.heap e T cls v)(h:∀h' k,PV h' e k cls (rawInt L)->(k=T∨k=s.heap.objs.size)->E4 (dL (env::outer)) [e,T] s.heap h'->Q () {s with heap:=h'}):bt M A (noteFrame (.ref e) env) Q E s:=by obtain⟨u,H,I,G,n,C,l,p,r,w,d,f,m⟩:=id t;unfold noteFrame;simp only[q];refine aw (wpAny_field n p r ?_);rw[b4 (-_)];refine aw (wpAny_field d f m ?_);by_cases c:(v==rawInt L)=ag;rw[b4 c];have y:v=rawInt L:=(by simpa using c);subst y;exact ax (h s.heap T t (.inl rfl) E4.refl);rw[b5 c];subst C;refine aw (wpAny_setField d f (gh.mp m).1 ?_);have B:=JF (e:=T) hl d f;have j:(s.heap.update T (Obj.mapFields (·.setIfInBounds 3 Value.none))).objs.size=s.heap.objs.size:=Heap.size_after_update ..;have a:∀b,b≠T->(s.heap.update T (Obj.mapFields (·.setIfInBounds 3 Value.none))).get? b=s.heap.get? b:=λb c=>bo _ _ (bS c);refine Mq (s:={s with heap:=s.heap.update T (Obj.mapFields (·.setIfInBounds 3 Value.none))}) (base:=base) g (hl.of_keeps λb o c i=>⟨o,(a b λz=>?_).trans c,2⟩) q ((a e (bS w)).trans n) l p (gh.mp r).1 λh' x D=>?_;rw[z,d] at c;cases c;exact i G f;have F:PV h' e s.heap.objs.size u.cls (rawInt L):=j▸x;exact h h' _ F (.inr rfl) ((E4.aiv.mono (-_)).trans (D.mono (-_)))
theorem aaZ{T:am}{cls t:ap}{c:Option am}{Q:Unit->ar->Prop}(f:PV s.heap e T cls t)(h:∀h' v,PV h' e T cls v->(∀F,E4 F [T] s.heap h')->Q () {s with heap:=h'}) :bt M A (setFlight (.ref e) c) Q E s:=by obtain⟨n,o,u,r,g,q,b,i,l,d,k,m,p⟩:=f;have a:3<r.size:=(gh.mp p).1;unfold setFlight;refine aw (wpAny_field g i l ?_);rw[b4 (-_)];have j:=Obj.data_mapFields m (·.setIfInBounds 3 (c.elim Value.none λf=>rawInt f));refine wpAny_setField k m a (h _ (c.elim Value.none λf=>rawInt f) ?_ (λF=>E4.aiv));exists n,o,33,(bo _ _ d).trans g,q,b,i,l,d,Heap.get?_update_self _ k (Obj.isFreed_of_fields j),j,by simp[a]
theorem PV.same{h':Heap}(f:PV h e T cls v)(l:h'.get? e=h.get? e)(p:h'.get? T=h.get? T):PV h' e T cls v:=by obtain⟨c,i,d,o,g,j,a,k,n,m,q,r,b⟩:=f;exists c,i,d,o,l.trans g,j,a,k,n,m,p.trans q,r,b
theorem Yv{k:Type}{T:am}{cls l:ap}{a:String}{Q:k->ar->Prop}(f:PV s.heap e T cls l)(h:∀h' v,PV h' e T cls v->(∀F,E4 F [T] s.heap h')->E (.ref e) {s with heap:=h'}) :bt M A (PySem.passOn a (.ref e) env) Q E s:=by obtain⟨m,n,q,w,c,t,g,d,i,o,r,u,p⟩:=id f;unfold PySem.passOn;refine aw (wpAny_field c d i ?_);rw[b5 (-_)];exact aw (aaZ f λh' v b j=>wpAny_throw (h h' v b j))
end
section
variable{P:bv}{w:World}{K:af}{mg:Str->Option ap}{base:Heap}{N:List Str}{qual:Str}{scope:Scope}{f:am}{cd:ap}{A:ce}{outer:List Env}{s0:ar}{H0:Hp}{E:XK}
def mf(X:Cx)(E:XK):Prop:=∀(pins:List (am×Obj))(σ:St)(H:Hp)(s:ar)(ea T:am)(cls v:ap),Inv X pins σ H s->PV s.heap ea T cls v->eD X pins H ea->eD X pins H T->E cls ae H->X.xe (.ref ea) s
theorem mv:mf (m8 (jD P w) P w K mg base N qual scope f cd A outer s0 H0 E) E:=by intro a y H s d T g v I x e j q;show bt _ _ (leaving _ (.ref d)) _ _ s;unfold leaving;refine aw (aga (base:=base) I.ok.frames I.stack rfl x λB i t r m=>?_);refine vt t λo u p C=>?_;have n:=I.Cj rfl;have h:eD (m8 (jD P w) P w K mg base N qual scope f cd A outer s0 H0 E) a H i:=(by rcases r with z|z;rw[z];exact j;rw[z];exact n);have k:∀b∈[d,T,i],eD (m8 (jD P w) P w K mg base N qual scope f cd A outer s0 H0 E) a H b:=(by intro b l;simp only[aM,cN,or_false] at l;rcases l with z|z|z;rw[z];exact e;rw[z];exact j;rw[z];exact h);have c:E4 (dL (m8 (jD P w) P w K mg base N qual scope f cd A outer s0 H0 E).stack) [d,T,i] s.heap o:=(m.mono (-_)).trans ((p _).mono (-_));have J:=I.ly (t':=s.toks) k c;exists d,_,g,H,2,I.os,I.bare,oD I rfl k c,J.hok,u,e.2.2.2.1,h.2.2.2.1,e.1,h.1,q
end
def oP(X:Cx)(pins:List (am×Obj))(σ:St)(E:XK)(e:ap)(s':ar):Prop:=
 ∃ea T cls H' s1 H1,e=.ref ea/\Inv X pins σ H' s'/\PV s'.heap ea T cls .none/\H' ea=ae/\H' T=ae/\Inv X pins σ H1 s1/\s1.heap.get? ea=ae/\s1.heap.get? T=ae/\E cls ae H'
def hY(X:Cx)(e:Expr)(t:St->Hp->VK->XK->Prop):Prop:=
 ∀(pins:List (am×Obj))(s:ar)(σ:St)(H:Hp)(Q:VK)(E:XK),Inv X pins σ H s->t σ H Q E->bt (model X.prog X.w) X.A (eval e X.env) (EP X pins σ Q) (oP X pins σ E) s
section
variable{X:Cx}{k:Nat}{f C:am}{fd:FuncData}{ps:List Str}{sp:Sp}{rM:List V}{ds:List ap}{x m:Str}{p pos apos:Pos}{e o:Expr}{es:List Expr}{ta:TE}{t:TA}
theorem al6{H:Hp}{e:ap}(I:Inv X pins σ H s)(h:jD X.prog X.w X.stack H s E e s'):oP X pins σ E e s':=by obtain⟨i,T,c,j,l,os,a,m,d,o,k,f,n,g,q⟩:=h;exists i,T,c,j,s,H,l,I.ae0 (ch:=[]) os m d a (λb z=>b3 z (-_)),o,n,g,I,k,f,q
theorem AT{a:List (am×Obj)}{b:St}{H:Hp}{s:ar}{Q:VK}{E:XK}{us:List ap}{vs:List V}(F:bu X.prog X.w X.K X.mg X.base (jD X.prog X.w) k f fd ps sp)(i:jF k X.A)(d:Binds X.K fd ps ds)(g:ck rM ds)(I:Inv X a b H s)(r:ck vs us)(h:sp (vs++rM) H Q E):bt (model X.prog X.w) X.A (call (.ref f) us) (EP X a b Q) (oP X a b E) s:=by have c:ck (vs++rM) (us++ds):=r.append g;have j:(us++ds).length=ps.length:=(by rw[<- c.length];exact F.len _ _ _ _ h);refine wpAny_call (codeAny_mono (F.run X.A X.stack s H ⟨us,[]⟩ (us++ds) (vs++rM) Q E i I.afh (d s us I.IA j) c h) λr m hq=>?_);cases r with|error e=>exact al6 I hq|ok l=>(cases l with|ret u=>exact I.after hq|next=>exact eZ hq|brk=>exact eZ hq|cont=>exact eZ hq)
theorem Yw(F:bu X.prog X.w X.K X.mg X.base (jD X.prog X.w) k f fd ps sp)(n:jF k X.A)(i:Gl X x)(u:X.mg x=ac (.ref f))(o:dN X.K (.ref f)=ag)(l:Binds X.K fd ps ds)(m:ck rM ds)(g:PA X.XH (e::es) t)(b:(x==("__debug__" : Str))=al:=by decide)(j:bc (e::es) X.env=(al,eval e X.env)::bc es X.env:=by rfl)(a:(backTo pos (bc es X.env)).any (·.1)=al:=by rfl) :hY X (.Call (.Name x p) (e::es) [] pos) (oy sp rM t):=by intro d s B H Q E I h;refine wpAny_Call_Name_kw (zQ I i u ?_ b);refine gn (h₀:=X.base) I.ok.mod.f6 o (g8 (g.nx I h) λy z ⟨v,C,c,r,q⟩=>⟨c.IA,4⟩) j a;exact AT F n l m c r q
end
theorem aa0{t a k:PySem.Expr}{p:List PySem.Expr}{scope:Scope}{B:Pos}{E q:ap}{env:Env}{prog:bv}{w:World}{A:ce}{s:ar}{R:Result->ar->Prop}(I:Nat->ar->Prop)
 (D:∀n s,I n s->bt (model prog w) A (pyNext E) (λr d=>match r with
  |none=>R (.ok .next) d
  |some v=>bt (model prog w) A (letOwnedTupleGo a E v) (λ_ e=>bt (model prog w) A (assign a env v) (λ_ g=>
   bt (model prog w) A (forIn p ag λc r=>if r=ag then do let ok <- isTrue c env (eval c env);pure (jj ok) else pure (jj r)) (λok b=>if ok=ag then bt (model prog w) A (eval t env) (λx f=>
    bt (model prog w) A (call (.builtin "list.append") [q,x]) (λ_ j=>∃m,m<n/\I m j) (λ_ _=>False) f) (notedBy (model prog w) A env λx s'=>R (.error x) s') b
    else ∃m,m<n/\I m b) (λ_ _=>False) g)
   (λ_ _=>False) e) (λ_ _=>False) d) (λ_ _=>False) s)
 (n:Nat) (h:I n s):codeAny (model prog w) A (.compLoop (.ListComp t [⟨a,k,p,(0)⟩] scope B) 0 E q env) R s:=by refine codeAny_loop rfl I (λn s G=>?_) n h;show bt _ A ((compTurn (.ListComp t [⟨a,k,p,(0)⟩] scope B) 0 E q env).onRaise (λx=>do noteFrame x env;theTreesLotGoes x)) _ _ s;refine wpAny_noted ?_;rw[compTurn_list];refine aw (wpAny_standAt (aw (wpAny_mono (D n s G) (λr d i=>?_) λ_ _ z=>z.elim)));cases r with|none=>exact ax i|some v=>(refine aw (wpAny_mono i (λ_ e o=>?_) λ_ _ z=>z.elim);refine aw (wpAny_mono o (λ_ g u=>?_) λ_ _ z=>z.elim);refine aw (wpAny_mono u (λF b l=>?_) λ_ _ z=>z.elim);cases F with|false=>exact ax ⟨2,l⟩|true=>exact aw (aw (wpAny_mono l (λx f y=>aw (wpAny_mono y (λ_ j C=>ax (ax ⟨2,C⟩)) λ_ _ z=>z.elim)) λ_ _ z=>z)))
section
variable{X:Cx}{scope:Scope}{N':List Str}{cap:List (Option Nat)}{fp:List am}{pins:List (am×Obj)}{s:ar}{σ:St}{H:Hp}
theorem Of{V tg I:Expr}{P:List Expr}{pos:Pos}{g:TG}{tc:TT}{te:St->Hp->VK->XK->Prop}{XE:XK}{Q:VK}{a:ar}{D:Hp}{it:am}{tn:Nat->Heap->Prop}{J:It}{E:ap->ar->Prop}{RR:ap->am->Result->ar->Prop}(S:jG X scope N' cap)(hc:X.calm=ag)(hg:∀fp pins s H,PG (fH X scope N' fp pins s H) tg g)(hts:∀fp pins s H,kQ (fH X scope N' fp pins s H) P tc)(he:∀fp pins s H,hY (fH X scope N' fp pins s H) V te)(Z:X.ex=[])(F:Inv X pins σ D a)(T:eC X.prog X.w X.K tg J fp it tn)(st2:tn 0 a.heap)(R:∀b∈fp,yc X pins D b)(h:∀k,D k=ae->∃W:Nat->Nat->Hp->Prop,(∃m,W 0 m (upd D k (.lst [])))/\∀i m H,W i m H ->(J.stop i H/\Q (.ref k) H)∨(J.go i H/\∀x j,J.Mc i H x j->g x (fU cap σ) j λσ2 D=>tc σ2 D λb H3=>if b=ag then te σ2 H3 (λy H4=>∃xs,H4 k=ac (.lst xs)/\xs.length<a9 /\∃l,l<m/\W (i+1) l (upd H4 k (.lst (xs++[y])))) XE else ∃l,l<m/\W (i+1) l H3))(hRR:∀C s' j,(∃m,s'.heap.Ns C m)->(∀N,Heap.SameBut C s'.heap N->Inv X pins σ j {s' with heap:=N})->Q (.ref a.heap.objs.size) j->j C=ae->a.heap.objs.size<C ->RR (.ref a.heap.objs.size) C (.ok .next) s')(hRX:∀C s' j ea T cls,(∃m,s'.heap.Ns C m)->Inv X pins σ j s'->PV s'.heap ea T cls .none->eD X pins j ea->eD X pins j T->eD X pins j C->XE cls ae j ->notedBy (model X.prog X.w) X.A X.env (λx s''=>RR (.ref a.heap.objs.size) C (.error x) s'') (.ref ea) s') :bt (model X.prog X.w) X.A (newList []) (λk s₃=>bt (model X.prog X.w) X.A (newFunctionEnv scope X.env.globals (oZ X.env scope.names []) [] X.env.qual ae .none (ac X.env)) (λG s₄ => codeAny (model X.prog X.w) X.A (.compStart (.ListComp V [⟨tg,I,P,(0)⟩] scope pos) 0 (.ref it) k {G with scope:=relabel scope X.env}) (RR k G.locals) s₄) E s₃) E a:=by refine wpAny_newObj_type (wpAny_newFunctionEnv S.Qq (by intro y hy;simp at hy) (λv ye yf=>?_) S.kind);dsimp only at ye yf ⊢;have hfr:D a.heap.objs.size=ae:=F.hok.fresh (az _);generalize U:a.heap.push {cls:=.type "list",dict:=ae,data:=.seq ([]:List ap).toArray}=h3 at ye yf ⊢;have e3:h3.objs.size=a.heap.objs.size+1:=(by rw[<- U,Heap.size_push]);have k3:∀b u,a.heap.get? b=ac u->h3.get? b=ac u:=λb u e=>(by rw[<- U];exact a5 _ e);have I3:Inv X pins σ (upd D a.heap.objs.size (.lst [])) {a with heap:=h3,toks:=a.toks}:=(by refine F.laid (t':=a.toks) k3 (az _) ?_;exists bA _,[],(0),.nil,by rw[<- U];exact a6 _ rfl);have f3:∀b∈fp,yc X pins (upd D a.heap.objs.size (.lst [])) b:=λb f=>(by obtain⟨o,e,_⟩:=T.obj _ _ st2 b f;exists by rw[aI (bB (a7 e))];exact (R b f).1,(R b f).2);have E1:∀b∈fp,∃o,h3.get? b=ac o:=λb f=>(by obtain⟨o,e,_⟩:=T.obj _ _ st2 b f;exists o,k3 b o e);have kp:∀b o,h3.get? b=ac o->v.get? b=ac o:=λb o e=>yf.extBut b o (bB (a7 e)) (a5 _ e);have I4:=S.start (fp:=fp) (tk:=a.toks+([]:List (Str×ap)).length) I3 f3 E1 ye kp;have Hy:tn 0 v:=T.keep _ _ _ st2 λb _ o e=>kp b o (k3 b o e);obtain⟨W,⟨m0,w0⟩,turn⟩:=h a.heap.objs.size hfr;let M:=fH X scope N' fp pins {a with heap:=h3,toks:=a.toks} (upd D a.heap.objs.size (.lst []));have t:∀{zP:List (am×Obj)}{j:Hp},(∀p∈zP,p.1∉fp)->(∀b∈fp,j b=ae)->∀b∈fp,yc M zP j b:=λ{zP j}hpn hn b f=>(by obtain⟨o,e⟩:=E1 b f;exists hn b f,bB (a7 e),λz=>?_,.inl f,λx c hx=>(f3 b f).2.2.2.2.1 x c (kZ _ _ (S.clos F.ok) (λz=>by simp at z) hx),λp hp=>?_;rcases aM.mp (F.Av b z) with q|q;exact (R b f).2.1 q;exact (R b f).2.2.1 q;rcases bh.mp hp with q|q;exact (R b f).2.2.2.2.2 p q;exact λz=>hpn p q (z▸f));have L:codeAny (model X.prog X.w) X.A (.compLoop (.ListComp V [⟨tg,I,P,(0)⟩] scope pos) 0 (.ref it) (.ref a.heap.objs.size) M.env) (RR (.ref a.heap.objs.size) h3.objs.size) {a with heap:=v,toks:=a.toks+([]:List (Str×ap)).length}:=(by refine aa0 (λn s'=>∃i j,Inv M [] (fU cap σ) j s'/\tn i s'.heap/\(∀b∈fp,j b=ae)/\W i n j) ?_ m0 ⟨(0),_,I4,Hy,λb f=>(f3 b f).1,w0⟩;rintro n s5 ⟨i,H5,I5,S2,z0,w5⟩;rcases turn i n H5 w5 with ⟨stop,qn⟩|⟨go,step⟩;(·refine wpAny_mono (T.done M rfl rfl rfl hc i [] s5 (fU cap σ) H5 (λ_ _=>False) I5 (t (λ_ z=>b3 z (-_)) z0) S2 stop) (λr s6 ⟨hr,I6⟩=>?_) λ_ _ z=>z;subst hr;refine hRR _ s6 H5 ?_ (λN sb=>S.back F R (s3:={a with heap:=h3,toks:=a.toks}) e3 k3 rfl rfl I6 sb) qn I6.free (by rw[e3];exact pG _);obtain⟨m,hn,_⟩:=I6.loc;exists m,hn);·refine wpAny_mono (T.item M rfl rfl rfl hc i [] s5 (fU cap σ) H5 (λ_ _=>False) I5 (t (λ_ z=>b3 z (-_)) z0) S2 go) (λr s6 ⟨u,hr,h6⟩=>?_) λ_ _ z=>z;subst hr;refine wpAny_mono h6 (λ_ s7 ⟨x,H7,I7,r7,y7,Td,fr7⟩=>?_) λ_ _ z=>z;have I7':=I7.pinned (t (λ_ z=>b3 z (-_)) fr7) (T.obj _ _ Td);have again:∀{S4:St}{H8:Hp}{Y:ar},Inv M ([]++JB fp s7.heap) S4 H8 Y->(∃l,l<n/\W (i+1) l H8)->∃m,m<n/\∃i j,Inv M [] (fU cap σ) j Y/\tn i Y.heap/\(∀b∈fp,j b=ae)/\W i m j:=λ{S4 H8 Y}I8 n8=>(by obtain⟨l,hm,w8⟩:=n8;have pn:∀b∈fp,∃o,s7.heap.get? b=ac o/\Y.heap.get? b=ac o/\H8 b=ae:=λb f=>(by obtain⟨o,e,d⟩:=T.obj _ _ Td b f;have q:=I8.pin (b,o) (bQ _ (bQ _ (tU f e)));exists o,e,q.1,q.2.1);exists l,hm,i+1,H8,S.again I3 f3 I8.yd,T.keep _ _ _ Td λb f o e=>?_,λb f=>?_,w8;obtain⟨o',e',q,_⟩:=pn b f;rw[e] at e';cases e';exact q;obtain⟨_,_,_,q⟩:=pn b f;exact q);refine wpAny_mono (hg fp pins _ _ _ s7 (fU cap σ) H7 x u _ I7' r7 (step x H7 y7)) (λ_ Y ⟨S4,H8,I8,q8⟩=>?_) λ_ _ z=>z;refine wpAny_mono (hts fp pins _ _ _ Y S4 H8 _ I8 q8) (λb s9 ⟨H9,I9,q9⟩=>?_) λ_ _ z=>z;cases b with|false=>exact again I9 q9|true=>refine wpAny_mono (he fp pins _ _ _ s9 S4 H9 _ _ I9 q9) (λu Z9 ⟨y,XJ,B,r10,xs,hx,hl,O⟩=>?_) λev Z9 ⟨ea,Ta,cls,XJ,s1,H1,eev,B,fl,XM,hTa,I1,n1,n2,O⟩=>?_;rotate_left;subst eev;have out:∀b,s1.heap.get? b=ae->a.heap.get? b=ae:=λb f=>(by cases q:a.heap.get? b with|none=>rfl|some ob=>by_cases hbf:b∈fp;obtain⟨o7,e7,_⟩:=T.obj _ _ Td b hbf;have:=(I1.pin (b,o7) (bQ _ (bQ _ (tU hbf e7)))).1;rw[f] at this;cases this;obtain⟨o',e'⟩:=I1.base.there b ob (k3 b ob q) hbf;rw[f] at e';cases e');have hC:XJ h3.objs.size=ae:=B.free;have gC:a.heap.get? h3.objs.size=ae:=(by cases q:a.heap.get? h3.objs.size with|none=>rfl|some ob=>have:=a7 q;rw[e3] at this;exact b3 this (Nat.not_lt.mpr (gX _)));obtain⟨m10,arP,_⟩:=B.loc;exact hRX h3.objs.size Z9 XJ ea Ta cls ⟨m10,arP⟩ (S.back F R (s3:={a with heap:=h3,toks:=a.toks}) e3 k3 rfl rfl B.yd (.refl ..)) fl (F.aaE Z XM (out _ n1)) (F.aaE Z hTa (out _ n2)) (F.aaE Z hC gC) O;refine wpAny_mono (gQ (X:=M) _ Z9 S4 XJ (.ref a.heap.objs.size) [y] (.ref a.heap.objs.size) [u] (λ_ j=>∃l,l<n/\W (i+1) l j) B rfl (.cons r10 .nil) ⟨_,xs,y,22,hx,hl,O⟩) (λ_ S5 ⟨_,UQ,I11,_,q11⟩=>again I11 q11) λ_ _ z=>z);exact codeAny_compStart_list L (T.self _ 0 _ _ _ Hy L)
def wv(wi:TI)(cap:List (Option Nat))(g:TG)(tc:TT)(te:St->Hp->VK->XK->Prop)(XE:XK):TE:=λσ H Q=>wi σ H λJ H1=>∀acc,H1 acc=ae->∃W:Nat->Nat->Hp->Prop,(∃m,W 0 m (upd H1 acc (.lst [])))/\∀i m H,W i m H ->
 (J.stop i H/\Q (.ref acc) H)∨(J.go i H/\∀x H',J.Mc i H x H'->g x (fU cap σ) H' λσ2 H2=>tc σ2 H2 λb H3=>if b=ag then te σ2 H3 (λy H4=>∃xs,H4 acc=ac (.lst xs)/\xs.length<a9 /\
  ∃m',m'<m/\W (i+1) m' (upd H4 acc (.lst (xs++[y])))) XE else ∃m',m'<m/\W (i+1) m' H3)
theorem Yx{r tg a:Expr}{l:List Expr}{pos:Pos}{wi:TI}{g:TG}{tc:TT}{te:St->Hp->VK->XK->Prop}{XE:XK}{L:am}(S:jG X scope N' cap)(hc:X.calm=ag)(B:X.ex=[])(d:X.stack=X.env::X.outer)(U:X.env.frame=ac L)(hL:mf X XE)(hi:PI X tg a wi)(hg:∀fp pins s H,PG (fH X scope N' fp pins s H) tg g)(hts:∀fp pins s H,kQ (fH X scope N' fp pins s H) l tc)(he:∀fp pins s H,hY (fH X scope N' fp pins s H) r te)(hs:∀x,foldedSetIterable a X.env x=pure x:=by intro _;rfl) :PE X (.ListComp r [⟨tg,a,l,(0)⟩] scope pos) (wv wi cap g tc te XE):=by intro pins s σ H Q I h;rw[eval_ListComp];refine wpAny_comprehension_free (use:=ae) rfl hs (pJ (S.clos I.ok)) S.kind S.loc (g8 (hi pins s σ H _ I h) λv s1 y=>g8 y λitv s2 h2=>?_);obtain⟨it,fp,tn,J,H2,e,I2,T,st2,f2,hW⟩:=h2;subst e;refine Of (RR:=λacc C=>compPost (model X.prog X.w) X.A X.xe ae (EP X pins σ Q) acc C) S hc hg hts he B I2 T st2 f2 hW ?_ ?_;intro C c E ⟨m,hn⟩ hI hq _ _;exists m,hn,λG k=>⟨.ref s2.heap.objs.size,E,hI G k,2,hq⟩;intro C c E i F t ⟨m,hn⟩ n fl r1 r2 R q;have N:X.A.frames=ac (X.env::X.outer):=(by rw[<- d];exact n.ok.frames);have O:c.heap.FunFrames X.base (X.env::X.outer):=(by rw[<- d];exact n.stack);obtain⟨oC,esC,epC,f,p,V⟩:=id hn;have D:∀{b:am}{ob:Obj}{M:Array ap},c.heap.get? b=ac ob->ob.data=.fields M->b≠C:=λ{b ob M}e1 e2 z=>(by subst z;rw[f] at e1;cases e1;rw[p] at e2;cases e2);obtain⟨oe,M,oT,ts,P,hc',arS,Z,h1',nT',W,We,h3'⟩:=id fl;have u:i≠C:=D P Z;have nTa:F≠C:=D W We;have nN:c.heap.objs.size≠C:=bS (bB (a7 f));have K:C∉dL (X.env::X.outer):=λz=>(aM.mp (n.Av C (by rw[d];exact z))).elim R.2.1 R.2.2.1;refine HA (base:=X.base) N O U fl λy f1 t1=>?_;have kC:y.get? C=ac oC:=t1.keep C oC K (by simp[bS u,bS nTa]) f;exists m,⟨oC,esC,epC,kC,p,V⟩,λh' k cenv _=>?_;have Y:PV h' i c.heap.objs.size t (rawInt L):=f1.same (k.2 _ u) (k.2 _ nN);refine Yv (s:={c with heap:=h'}) Y λh4 v4 f4 t4=>?_;have rn:=n.Cj B;have hR:∀b∈[i,F,c.heap.objs.size,C],eD X pins E b:=(by intro b j;simp only[aM,cN,or_false] at j;rcases j with z|z|z|z;rw[z];exact r1;rw[z];exact r2;rw[z];exact rn;rw[z];exact R);have tC:E4 (dL X.stack) [C] y h':=⟨λb o _ j e=>(k.2 b (λz=>j (by simp[z]))).trans e,λb o _ j e=>⟨o.slots,(k.2 b (λz=>j (by simp[z]))).trans e⟩⟩;have tt:E4 (dL X.stack) [i,F,c.heap.objs.size,C] c.heap h4:=((by rw[d];exact t1:E4 (dL X.stack) [i,F] c.heap y).mono (-_)).trans ((tC.mono (-_)).trans ((t4 _).mono (-_)));exact hL pins σ E _ i _ t v4 (n.ly (t':=c.toks) hR tt) f4 r1 rn q
end
end L2
namespace L2
open PySem PySem.Spec PyProof.Rows PySem.Builtin PySem.Builtin.Str
section
variable{X:Cx}
def Qb(te:TE):TE:=te
def al8(h:PE X e te):PE X e (Qb te):=h
theorem aiS:E3 X (binaryOp .Mult) (λx y H Q=>∃z k,x=.str z/\y=.int k/\1<k/\k<1000/\0<z.length/\z.length<1000/\(⟨(bV k.toNat z.cps).foldl (·++·) #[]⟩:Str).length<=a9/\Q (.str ⟨(bV k.toNat z.cps).foldl (·++·) #[]⟩) H):=by intro a s g H x y v u Q I b c h;obtain⟨z,k,rfl,rfl,m,f,i,d,e,q⟩:=h;obtain⟨t,rfl⟩:=b;obtain⟨n,rfl⟩:=c;have j:z.length*k.toNat<1000000:=bF (Nat.mul_lt_mul_of_lt_of_le d (show k.toNat<=1000 by lia) ∅) (!_);refine P.mul_str (by simp;lia) (λ_ _=>?_) (λ_ _=>?_) ?_;have:(2^63-1:Int)/1000<=(2^63-1)/k:=(by refine (Int.le_ediv_iff_mul_le ∅).mpr ?_;refine Int.le_trans (Int.mul_le_mul_of_nonneg_left (show k<=1000 by lia) (!_)) (!_));have l:(2^63-1:Int)/1000≥1000:=!_;lia;have:1000000<=a9:=!_;exact c5 ∅;rw[b5 ∅,b5 (by simp;lia)];exists e,⟨.str _,H,I.tok _,⟨1⟩,q⟩
def rv(K:af)(tc:TT)(t1 t2:St->Hp->VK->XK->Prop)(D:am)(i:Nat)(ts:am->TS):TS:=λEn σ H=>tc σ H λb H0=>(if b=ag then t1 else t2) σ H0 (λ_ H1=>En.nx σ H1) λcls _ H1=>∃C,cls=.ref C/\cD K (.ref C) (.ref D)=ac ag /\
 ∀ea,H1 ea=ae->ts ea {nx:=λσ' H'=>En.nx (σ'.set i ae) H',rt:=En.rt,bk:=λσ' H'=>En.bk (σ'.set i ae) H',ct:=λσ' H'=>En.ct (σ'.set i ae) H'} (σ.set i (ac (.ref ea))) (upd H1 ea (EU ea C))
theorem aa1{x n:Str}{D L:am}{i:Nat}{ts:am->TS}{b0:Stmt}{f j:List Stmt}{np hp V:Pos}{a:List (am×Obj)}{s:ar}{h:St}{H:Hp}{r:en}(I:Inv X a h H s) (hg:Gl X x) (hm:X.mg x=ac (.ref D)) (hD:cD X.K (.ref D) (.type "BaseException")=ac ag) (F:X.N.Nodup) (y:X.N[i]?=ac n) (hl:X.env.scope.names.lookup n=ac .local) (W:X.ex=[]) (l:X.stack=X.env::X.outer) (hf:X.env.frame=ac L) (hs:∀ea,i9 (X.held ea) (b0::f) (ts ea)) (hdb:(x==("__debug__" : Str))=al:=by decide) (u:bt (model X.prog X.w) X.A (execs j X.env) (λG s'=>G=.next/\∃d,Inv X a h d s'/\r.nx h d) (XP X a h λB _ d=>∃C,B=.ref C/\cD X.K (.ref C) (.ref D)=ac ag /\∀ea,d ea=ae->ts ea {nx:=λg E=>r.nx (g.set i ae) E,rt:=r.rt,bk:=λg E=>r.bk (g.set i ae) E,ct:=λg E=>r.ct (g.set i ae) E} (h.set i (ac (.ref ea))) (upd d ea (EU ea C))) s) :bt (model X.prog X.w) X.A (exec (.Try j [.ExceptHandler (ac (.Name x np)) (ac n) (b0::f) hp] [] [] V) X.env) (SP X a r) X.xe s:=by refine wpAny_Try_except (wpAny_mono u (λG c ⟨e1,d,t,q1⟩=>?_) λev c hx=>?_);subst e1;exact wpAny_execs_nil ⟨h,d,t,q1⟩;·obtain⟨ea,T,B,d,rfl,t,fl,S,r2,C,rfl,hk,q⟩:=hx;have J:X.A.frames=ac (X.env::X.outer):=(by rw[<- l];exact t.ok.frames);have M:c.heap.FunFrames X.base (X.env::X.outer):=(by rw[<- l];exact t.stack);refine HA J M hf fl λh1 f1 t1=>?_;refine vt f1 λh2 f2 t2 sz=>?_;have rn:=t.Cj W;have hR:∀b∈[ea,T,c.heap.objs.size],eD X a d b:=(by intro b u;simp only[aM,cN,or_false] at u;rcases u with z|z|z;rw[z];exact S;rw[z];exact r2;rw[z];exact rn);have Y:E4 (dL X.stack) [ea,T,c.heap.objs.size] c.heap h2:=(by rw[l];exact (t1.mono (-_)).trans ((t2 _).mono (-_)));have Q:Inv X a h d {c with heap:=h2}:=t.ly (t':=c.toks) hR Y;have Z:=Q.held ea;obtain⟨oe,vs,oT,tts,he,hc,hdc,hd,hv1,nT,hT,Wd,h3⟩:=id f2;refine wpAny_handleBy_cons (codeAny_handlers_test (zQ (X:=X.held ea) Z hg hm ?_ hdb)) (by intro q;cases q);refine adX Q.IA he hc hk hD ?_;rw[b4 rfl];refine codeAny_handlers_suite_as ?_;refine vt (s:={c with heap:=h2}) f2 λh4 f4 t4 sz4=>?_;have I4:Inv X a h d {c with heap:=h4}:=Q.ly (t':=c.toks) (R:=[c.heap.objs.size]) (λb u=>by have z:b=c.heap.objs.size:=(by simpa using u);rw[z];exact rn) (t4 _);obtain⟨oe4,vs4,_,_,P,O,arX,hd4,_⟩:=id f4;have I5:Inv X a h (upd d ea (EU ea C)) {c with heap:=h4}:=I4.aox S (aix P O arX hd4);refine KP (X:=X.held ea) (v:=.ref ea) (I5.held ea) F y (.inl hl) rfl (λs6 I6=>?_) (.inr hl);refine wpAny_mono (hs ea a s6 _ _ _ I6 (q ea S.1)) (λG s7 e=>?_) λ_ _ z=>z.elim;cases G with|next=>obtain⟨o,k,p,e⟩:=e;exact HB (p.Wf I.ok) F y hl λU m=>⟨_,k,m,e⟩|cont=>obtain⟨o,k,p,e⟩:=e;exact HB (p.Wf I.ok) F y hl λU m=>⟨_,k,m,e⟩|brk=>obtain⟨o,k,p,e⟩:=e;exact HB (p.Wf I.ok) F y hl λU m=>⟨_,k,m,e⟩|ret v=>obtain⟨x7,o,k,p,r7,e⟩:=e;exact HB (p.Wf I.ok) F y hl λU m=>⟨x7,_,k,m,r7,e⟩
theorem aiT{c k f:Expr}{J:TT}{w C:St->Hp->VK->XK->Prop}{x n:Str}{D L:am}{i:Nat}{ts:am->TS}{B:Stmt}{a:List Stmt}{np F G ip hp q:Pos}(Z:PT X.XH c J)(h1:ka X k w)(P:ka X f C)(O:Gl X x)(hm:X.mg x=ac (.ref D))(U:cD X.K (.ref D) (.type "BaseException")=ac ag) (Y:X.N.Nodup) (S:X.N[i]?=ac n) (hl:X.env.scope.names.lookup n=ac .local) (r:X.ex=[]) (g:X.stack=X.env::X.outer) (V:X.env.frame=ac L) (Q:∀ea,i9 (X.held ea) (B::a) (ts ea)) (t:swapsWith k ae F.line X.env=pure al:=by rfl) (p:swapsWith f ae G.line X.env=pure al:=by rfl) (o:(x==("__debug__" : Str))=al:=by decide) :PS X (.Try [.If c [.Expr k F] [.Expr f G] ip] [.ExceptHandler (ac (.Name x np)) (ac n) (B::a) hp] [] [] q) (rv X.K J w C D i ts):=by intro b s j H En I h;refine aa1 I O hm U Y S hl r g V Q o (wpAny_execs_cons (wpAny_If (wpAny_mono (Z b s j H _ (I.Mg _) h) (λd A ⟨E,T,M⟩=>?_) λ_ _ z=>z.elim)));have e:=T.yb;cases d with|true=>refine wpAny_execs_cons (wpAny_Expr_any (wpAny_mono (h1 b A j E _ _ e M) (λv W ⟨y,l,m,R,u⟩=>?_) λ_ _ z=>z) e.quiet t);exact wpAny_execs_nil (wpAny_execs_nil ⟨2,l,m,u⟩)|false=>refine wpAny_execs_cons (wpAny_Expr_any (wpAny_mono (P b A j E _ _ e M) (λv W ⟨y,l,m,R,u⟩=>?_) λ_ _ z=>z) e.quiet p);exact wpAny_execs_nil (wpAny_execs_nil ⟨2,l,m,u⟩)
end
end L2
namespace TX
open PySem PySem.Builtin PySem.Builtin.Str
end TX
namespace TX
open PySem PySem.StrLaws PySem.Builtin PySem.Builtin.Str
def Es(c:Nat):Bool:=decide (48<=c)&&decide (c<=57)
noncomputable def okN(z:Str):Bool:=decide (1<=z.length)&&(decide (z.length<=60)&&((cs z).all Es&&(decide ((cs z)[0]?≠ac 48) || decide (z = "0"))))
def Il(ws:List Str):Bool:=ws.all okN
noncomputable def n7(k:Str)(m:Nat)(ws:List Str):Bool:=decide (ws[0]?=ac k)&&(decide ((ws.drop 1).length=m)&&Il (ws.drop 1))
noncomputable def lX(ws:List Str):Bool:=decide (ws[0]?=ac ("names" : Str))&&(decide (2<=ws.length)&&Il (ws.drop 1))
noncomputable def e8:Bool->List (List Str)->Bool
 |_,[]=>ag
 |seen,ws::r=>if ws[0]?=ac ("rope" : Str)/\seen=al then n7 "rope" 5 ws&&e8 seen r else if ws[0]?=ac ("caller" : Str) then n7 "caller" 2 ws&&e8 ag r else al
noncomputable def okT:List (List Str)->Bool
 |[]=>al
 |h::r=>lX h&&e8 al r
def told(x:Str):List (List Str):=(Txt.split x Ct).map λp=>Txt.split p lN
def age(h:Il ws=ag):∀z∈ws,okN z=ag:=λz a=>iQ.mp h z a
theorem aiV(x:Str):told x≠[]:=by unfold told;intro h;exact K5 x Ct (List.map_eq_nil_iff.mp h)
end TX
namespace ST
open PySem
end ST
namespace ST
open PySem PyProof.Rows
end ST
namespace L2
open PySem PySem.Spec PyProof.Rows ST
end L2
namespace ST
open PySem PyProof.Rows
noncomputable def hq(i:Nat):Int:=reduceHash (Builtin.Tuple.tupleHashOf [hashInt ((i/20:Nat):Int),hashInt ((i%20:Nat):Int)])
end ST
namespace L2
open PySem PySem.Spec PyProof.Rows ST
end L2
namespace L2
open PySem PySem.W PySem.Spec PyProof.Rows TW
section
variable{X:Cx}{pins:List (am×Obj)}{σ:St}{H:Hp}{s:ar}
open Classical in
open Classical in
end
def ib(K:af)(w:World)(a:am)(kvs:List (df×V)):Prop:=
 (a==sysModules)=al/\∀(P:bv)(h:Heap),K.In h->∃vs,KV kvs vs/\h.DictOf (iR P w) a vs
inductive Ent(w:World):List DictEntry->List (Str×V)->Prop
 |nil:Ent w [] []
 |cons {x:Str} {t:Tok} {hs:Int} {u:ap} {v:V} {es:List DictEntry} {kvs:List (Str×V)} (hh:hs=hashStr w x) (r:RelV v u) (h:Ent w es kvs):Ent w (⟨hs,.str x t,u⟩::es) ((x,v)::kvs)
theorem Ent.ok{w:World}(P:bv):∀{a:List DictEntry}{kvs:List (Str×V)},Ent w a kvs->∃vs:List (df×ap),KV (kvs.map λp=>((i0 p.1:df),p.2)) vs/\vs.map (·.1)=kvs.map (λp=>i0 p.1)/\Pairs (iR P w) a vs/\∀e∈a,∃k,(iR P w).is k e.key=ag/\e.hash=(iR P w).hash k
 |_,_,.nil=>⟨[],.nil,2,.nil,λe z=>by cases z⟩
 |_,_,.cons (x:=x) (t:=t) (u:=u) hh r h=>by
  obtain⟨vs,d,b,c,f⟩:=h.ok P;exists (i0 x,u)::vs,.cons ⟨2,r⟩ d,by rw[bL,bL,b],.cons (Me x t) rfl c,λe z=>?_;rcases aM.mp z with rfl|z
  ·exists i0 x,Me x t,hh
  ·exact f e z
theorem al9{K:af}{d:List DictEntry}(l:K.lookup a=ac {cls:=.type "dict",data:=.dict d.toArray ep})(o:(a==sysModules)=al)(h:Ent w d kvs)(i:(kvs.map (·.1)).Nodup):ib K w a (kvs.map λp=>((i0 p.1:df),p.2)):=by exists o,λP q f=>?_;obtain⟨g,m,j,k,n⟩:=h.ok P;exists g,m,33,ep,f _ _ l,⟨222⟩,2,λe z=>n e (by simpa using z),k,4;rw[j];have:(kvs.map λp=>(i0 p.1:df))=(kvs.map (·.1)).map i0:=(by rw[cz];rfl);rw[this];exact List.Pairwise.map _ (λa b c e=>c (Sum.inr.inj e)) i
noncomputable abbrev io(l:List (Str×V)):List (df×V):=l.map λp=>((i0 p.1:df),p.2)
def K6(K:af)(p:am)(n:Int)(f:am):Prop:=∀H,dY K H p [.int n,.ref f]
def twE{K:af}{od:Option am}{a:Array (Option ap)}(l:K.lookup p=ac ⟨.type "tuple",od,.seq #[.int n t,.ref f] m,a⟩):K6 K p n f:=λH=>.inr ⟨333,l,22,c8,.cons ⟨1⟩ (.cons rfl .nil)⟩
section
variable{X:Cx}{o i e fe:Expr}{es:List Expr}{pos:Pos}{td ty ta:TE}{t:TA}{a f:am}{kvs:List (df×V)}
def P3(a:am)(kvs:List (df×V))(td ty:TE):TE:=λσ H Q=>td σ H λx H1=>ty σ H1 λy H2=>∃k v,x=.ref a/\y=kV k/\vX kvs k=ac v/\Q v H2
def RF(a:am)(kvs:List (df×V))(ty td:TE):TE:=λσ H Q=>ty σ H λy H1=>td σ H1 λx H2=>∃k,x=.ref a/\y=kV k/\Q (.bl (!(vX kvs k).isSome)) H2
theorem Yy(D:ib X.K X.w a kvs)(n:PE X o td)(p:PE X i ty)(m:p3 i):PE X (.Subscript o i pos) (P3 a kvs td ty):=by intro b s d H Q I h;refine aim PySem.F.slot_dict_getitem.lookup m (g8 (n b s d H _ I h) λu j ⟨x,A,q,B,J⟩=>g8 (p b j d A _ q J) λM z ⟨y,r,e,E,k,v,t,G,l,L⟩=>?_);subst t G;obtain rfl:u=Value.ref a:=B;obtain⟨g,rel,f⟩:=D.2 X.prog z.heap e.IA;obtain⟨N,C,c⟩:=E5.some_of (v:=v) (o:=valueAt g k) (by rw[<- l];exact rel.val k);exists f.typeIs,wpAny_getItem_of (UM E) f.mapOf C ⟨v,r,e.tok _,c,L⟩
theorem QS(D:ib X.K X.w a kvs)(g:PE X i ty)(f:PE X o td):PC X .NotIn i o (RF a kvs ty td):=by intro b s c H Q I h;refine g8 (g b s c H _ I h) λC e ⟨y,p,j,t,z⟩=>g8 (f b e c p _ j z) λu n ⟨x,l,d,r,k,m,v,A⟩=>?_;subst m v;obtain rfl:u=Value.ref a:=r;obtain⟨B,rel,q⟩:=D.2 X.prog n.heap d.IA;refine wpAny_notIn_of (UM t) D.1 q.mapOf ?_;rw[<- (rel.val k).Hw];exists .bl _,l,d.tok _,2,A
theorem aeb:qQ X (.type "str") (λxs H Q=>(∃i,xs=[.int i]/\i.natAbs.log2<1920/\Q (.str (toString i)) H)∨∃z,xs=[.str z]/\Q (.str z) H):=by intro a s b H xs c Q I r h;rcases h with h|⟨z,rfl,q⟩;exact V4 a s b H xs c Q I r h;obtain⟨u,rfl,t,rfl⟩:=vals1 r;exact PySem.P.str_of_str ⟨.str z,H,I,⟨t,2⟩,q⟩
theorem Tf:fw X "str.startswith" (λx vs H Q=>∃z y,x=.str z/\vs=[.str y]/\Q (.bl (Txt.startswith z y)) H):=by intro a s f H x vs v e Q I d b h;obtain⟨z,y,rfl,rfl,q⟩:=h;obtain⟨t,rfl⟩:=d;obtain⟨u,rfl,c⟩:=b.one;obtain⟨g,rfl⟩:=c;exact SC.startswith ⟨.bl _,H,I,2,q⟩
theorem Vb:∀{bs:List Bool}{us:List ap},ck (bs.map cn) us->∀y∈us,∃b,y=Value.bool b
 |[],_,.nil,y,z=>by cases z
 |b::bs,_,.cons r t,y,z=>by
  rcases aM.mp z with rfl|z
  ·exists b,r
  ·exact Vb t y z
theorem Og(k:Bool):∀{bs:List Bool}{us:List ap},ck (bs.map cn) us->us.countP (isBoolOf k)=bs.count k
 |[],_,.nil=>rfl
 |b::bs,_,.cons r t=>by
  cases (show _=Value.bool b from r);rw[List.countP_cons,List.count_cons,Og k t];rfl
def aiX(K:af):V->List V->Hp->VK->Prop:=λx vs H Q=>∃(l:am)(bs:List Bool)(k:Bool),x=.ref l/\vs=[.bl k]/\bH K H l (bs.map cn)/\Q (.int (bs.count k:Nat)) H
theorem aec:fw X "list.count" (aiX X.K):=by intro g s D H x B v C Q I w j h;obtain⟨l,A,k,rfl,rfl,hq,q⟩:=h;cases w;obtain⟨u,rfl,p⟩:=j.one;cases p;obtain⟨a,r,i,E⟩:=I.list hq;obtain⟨⟨m,t,c,z⟩,d,f,n,e⟩:=id i.isList;simp only at f e;subst f e;refine call_meets PySem.F.slot_list_count ⟨_,d,2⟩ PySem.F.entry_list_count (PySem.F.args_list_count_2 _ _) (PySem.SeqAt.list_countAt l a.toArray n t z (.bool k) (isBoolOf k)) ⟨d,λy o=>?_,4⟩;obtain⟨b,rfl⟩:=Vb r y (by simpa using o);exact PySem.SeqAt.EqAt.bool_bool b k;rw[show a.toArray.toList=a from rfl,Og k r];exists .int _,H,I.tok _,⟨1⟩,q
end
def Runs(X:Cx)(q:am×Sp):Prop:=dN X.K (.ref q.1)=ag/\∀(pins:List (am×Obj))(σ:St)(H:Hp)(s:ar)(Q:VK)(us:List ap)(vs:List V),Inv X pins σ H s->ck vs us->q.2 vs H Q E0->bt (model X.prog X.w) X.A (call (.ref q.1) us) (EP X pins σ Q) X.xe s
inductive HN(X:Cx):List (am×Sp)->Prop
 |nil:HN X []
 |cons {q:am×Sp} {qs:List (am×Sp)}:Runs X q->HN X qs->HN X (q::qs)
theorem HN.of(h:HN X qs):∀q∈qs,Runs X q:=by induction h with|nil=>intro q z;cases z|cons r _ a=>(intro q z;rcases aM.mp z with rfl|z;exact r;exact a q z)
theorem m5{X:Cx}{st:Stmt}(F:bu X.prog X.w X.K X.mg X.base iJ k f fd ps sp)(d:jF k' X.A)(c:iZ X.K X.mg x key st f fd ps)(a:k<=k':=by decide):Runs X (f,sp) :=⟨c.F.kp,λb i H s Q g e I r h=>Ml (rM:=[]) F (d.mono a) c.B .nil mZ I r (by rw[fF];exact h)⟩
def ama(fs:List (am×Sp))(ta:TE)(t:TA):TE:=λσ H Q=>ta σ H λx H1=>∃q,q∈fs/\x=.ref q.1/\t σ H1 λvs H2=>q.2 vs H2 Q E0
theorem agf{X:Cx}{d e:Expr}{c:List Expr}{a:Pos}{k:TE}{t:TA}{l:List (am×Sp)}(y:PE X d k)(m:PA X (e::c) t)(D:HN X l)(w:bc (e::c) X.env=(al,eval e X.env)::bc c X.env:=by rfl)(g:(backTo a (bc c X.env)).any (·.1)=al:=by rfl)
 (i:eval (.Call d (e::c) [] a) X.env=(do
  let p <- eval d X.env
  callWith a p [] (backTo a (bc (e::c) X.env)) (backToKw a (keywordEach [] X.env))):=by rfl):PE X (.Call d (e::c) [] a) (ama l k t):=by intro b s f H Q I h;rw[i];refine aw (g8 (y b s f H _ I h) λu v ⟨x,F,A,K,q,hq,C,z⟩=>?_);subst C;obtain rfl:u=Value.ref q.1:=K;obtain⟨L,J⟩:=D.of q hq;refine gn (first:=[]) (h₀:=X.base) I.ok.mod.f6 L (g8 (m a b v f F _ A z) λo E ⟨n,B,j,r,G⟩=>⟨j.IA,4⟩) w g;exact J b f B E Q o n j r G
section
variable{X:Cx}{k:Nat}{f C:am}{fd:FuncData}{ps:List Str}{sp:Sp}{rM:List V}{ds:List ap}{x m:Str}{p pos apos:Pos}{e o fe:Expr}{es:List Expr}{ta:TE}{t:TA}
theorem agg{pl:Sem Bool}(he:PE X.XH o ta)(c:PN X.K C)(hm:Qn X.K C m f)(F:bu X.prog X.w X.K X.mg X.base (jD X.prog X.w) k f fd ps sp)(J:jF k X.A)(y:Binds X.K fd ps ds)(z:ck rM ds)
 (p:PA X.XH (e::es) t)
 (b:bc (e::es) X.env=(al,eval e X.env)::bc es X.env:=by rfl) (d:(backTo pos (bc es X.env)).any (·.1)=al:=by rfl)
 (D:eval (.Call (.Attribute o m apos) (e::es) [] pos) X.env=(do
  let g <- eval o X.env
  standAt apos.atName
  let (f,first) <- holding [g] (getMethod g m pl)
  callWith pos f first (backTo pos (bc (e::es) X.env)) (backToKw pos (keywordEach [] X.env))):=by rfl):
 hY X (.Call (.Attribute o m apos) (e::es) [] pos) (xI C m sp rM ta t):=by intro n s N H Q E I h;refine rG (pl:=pl) (g8 (he.nx I h) λu M ⟨x,S,i,G,a,P,T,B,v,l,q⟩=>?_) D;subst B;obtain rfl:u=Value.ref a:=G;refine De i v c hm l ?_;refine gn (first:=[.ref a]) (h₀:=X.base) I.ok.mod.f6 hm.kp (g8 (p.nx i q) λus R ⟨vs,O,j,r,L⟩=>⟨j.IA,4⟩) b d;exact AT (us:=.ref a::us) (vs:=.ref a::vs) F J y z j (.cons rfl r) L
end
def i1(X:Cx)(E:XK)(q:am×Sp):Prop:=dN X.K (.ref q.1)=ag/\∀(pins:List (am×Obj))(σ:St)(H:Hp)(s:ar)(Q:VK)(us:List ap)(vs:List V),Inv X pins σ H s->ck vs us->q.2 vs H Q E->bt (model X.prog X.w) X.A (call (.ref q.1) us) (EP X pins σ Q) X.xe s
inductive Cy(X:Cx)(E:XK):List (am×Sp)->Prop
 |nil:Cy X E []
 |cons {q:am×Sp} {qs:List (am×Sp)}:i1 X E q->Cy X E qs->Cy X E (q::qs)
theorem Cy.of(h:Cy X E qs):∀q∈qs,i1 X E q:=by induction h with|nil=>intro q z;cases z|cons r _ a=>(intro q z;rcases aM.mp z with rfl|z;exact r;exact a q z)
theorem lP{X:Cx}{st:Stmt}(F:bu X.prog X.w X.K X.mg X.base CX k f fd ps sp)(d:jF k' X.A)(c:iZ X.K X.mg x key st f fd ps)(e:vW CX X E)(a:k<=k':=by decide):i1 X E (f,sp) :=⟨c.F.kp,λb j H s Q i g I r h=>Ml (rM:=[]) F (d.mono a) c.B .nil e I r (by rw[fF];exact h)⟩
def aiY(fs:List (am×Sp))(E:XK)(ta:TE)(t:TA):TE:=λσ H Q=>ta σ H λx H1=>∃q,q∈fs/\x=.ref q.1/\t σ H1 λvs H2=>q.2 vs H2 Q E
theorem aed{X:Cx}{E:XK}{d e:Expr}{c:List Expr}{a:Pos}{k:TE}{t:TA}{l:List (am×Sp)}(y:PE X d k)(m:PA X (e::c) t)(D:Cy X E l)(w:bc (e::c) X.env=(al,eval e X.env)::bc c X.env:=by rfl)(g:(backTo a (bc c X.env)).any (·.1)=al:=by rfl)
 (i:eval (.Call d (e::c) [] a) X.env=(do
  let p <- eval d X.env
  callWith a p [] (backTo a (bc (e::c) X.env)) (backToKw a (keywordEach [] X.env))):=by rfl):PE X (.Call d (e::c) [] a) (aiY l E k t):=by intro b s f H Q I h;rw[i];refine aw (g8 (y b s f H _ I h) λu v ⟨x,G,A,L,q,hq,C,z⟩=>?_);subst C;obtain rfl:u=Value.ref q.1:=L;obtain⟨M,K⟩:=D.of q hq;refine gn (first:=[]) (h₀:=X.base) I.ok.mod.f6 M (g8 (m a b v f G _ A z) λo F ⟨n,B,j,r,J⟩=>⟨j.IA,4⟩) w g;exact K b f B F Q o n j r J
theorem bu.orX{P:bv}{w:World}{K:af}{j:Str->Option ap}{base:Heap}{k1 k2 k:Nat}{f:am}{i:FuncData}{ps:List Str}{g d:Sp}(o:bu P w K j base iJ k1 f i ps g)(m:bu P w K j base (jD P w) k2 f i ps d)(q:k1<=k)(p:k2<=k):
 bu P w K j base (jD P w) k f i ps (λvs H Q E=>g vs H Q E0∨d vs H Q E):=
 ⟨λvs H Q E h=>h.elim (o.len _ _ _ _) (m.len _ _ _ _),λA a s H c l vs Q E n e b v h=>h.elim
  (λh=>codeAny_mono (o.run A a s H c l vs Q E0 (n.mono q) e b v h) λr u hq=>by
   cases r with
   |error x=>exact eZ hq
   |ok t=>cases t <;> exact hq)
  (λh=>m.run A a s H c l vs Q E (n.mono p) e b v h)⟩
theorem Yz{X:Cx}{scope:Scope}{N':List Str}{W:List (Option Nat)}{t tg j:Expr}{n:List Expr}{G:Pos}{wi:TI}{g:TG}{tc:TT}{te:St->Hp->VK->XK->Prop}{XE:XK}{L:am}{i:Nat}{x:Str}{f u:Pos}(hN:X.N.Nodup)(hix:X.N[i]?=ac x)(hx:Loc X.env.scope x)(S:jG X scope N' W)(hc:X.calm=ag)(Z:X.ex=[])(r:X.stack=X.env::X.outer)(hfl:X.env.frame=ac L)(hL:mf X XE)(hi:PI X tg j wi)(hg:∀fp d s H,PG (fH X scope N' fp d s H) tg g)(hts:∀fp d s H,kQ (fH X scope N' fp d s H) n tc)(he:∀fp d s H,hY (fH X scope N' fp d s H) t te)(hs:∀x,foldedSetIterable j X.env x=pure x:=by intro _;rfl)(hsw:swapsWith (.ListComp t [⟨tg,j,n,(0)⟩] scope G) (ac (.Name x f)) u.line X.env=pure ag:=by rfl)(hf:X.fn x=ag∨X.env.scope.names.lookup x=ac .local:=by first|exact .inl rfl|exact .inr rfl|assumption) :PS X (.Assign [.Name x f] (.ListComp t [⟨tg,j,n,(0)⟩] scope G) u) (VZ (wv wi W g tc te XE) (pH i)):=by intro d s σ H D I h;rw[exec_Assign_Name_used _ _ _ _ hsw];refine aw (wpAny_standAt (aw ?_));show bt _ X.A (do let _ <- comprehension (.ListComp t [⟨tg,j,n,(0)⟩] scope G) scope X.env _ (newList []) al (eval j X.env) (ac (assign (.Name x f) X.env))) _ _ s;refine aw (wpAny_mono (wpAny_comprehension_free (use:=ac (assign (.Name x f) X.env)) (Q:=λ_ k=>SP X d D .next k) rfl hs (pJ (S.clos I.ok)) S.kind S.loc (g8 (hi d s σ H _ I h) λv s1 Y=>g8 Y λitv s2 h2=>?_)) (λ_ k hq=>ax (ax hq)) λ_ _ e=>e);obtain⟨it,fp,tn,J,H2,e,E,T,st2,f2,hW⟩:=h2;subst e;refine Of (RR:=λacc C=>compPost (model X.prog X.w) X.A X.xe (ac (assign (.Name x f) X.env)) (λ_ k=>SP X d D .next k) acc C) (Q:=λx H1=>pH i x σ H1 D.nx) S hc hg hts he Z E T st2 f2 hW ?_ ?_;intro C k H' ⟨m,hn⟩ hI hq hC hlt;have B:Inv X d σ H' k:=hI k.heap (.refl ..);show bt _ _ (assign (.Name x f) X.env (.ref s2.heap.objs.size)) _ _ k;refine wpAny_assign_Name (Mf (v:=.ref s2.heap.objs.size) B hN hix hx rfl (λs6 I6 ⟨a,M,ha⟩=>?_) hf);have O:∀b,b<s2.heap.objs.size->b≠C:=λb l=>bB (Nat.lt_trans l hlt);have haC:a≠C:=(by rcases ha with z|z;rw[z];exact O _ E.lt;obtain⟨_,q⟩:=E.cell x a z;exact O _ q.lt);exists m,hn.sameBut M (bS haC),λh' sb'=>⟨_,H',I6.turned (t':=s6.toks) (λb o l e=>(sb'.2 b l).trans e) hC (bS (O _ E.lt)) (.inr (aE E.sz (oX hlt))) (λy c P=>?_) (λp hp=>?_),hq⟩;obtain⟨_,q⟩:=E.cell y c P;exact O _ q.lt;exact O _ (a7 (E.pin p hp).1);intro C k H' K Ta U ⟨m,hn⟩ B fl r1 r2 rC q;have hfr:X.A.frames=ac (X.env::X.outer):=(by rw[<- r];exact B.ok.frames);have hfu:k.heap.FunFrames X.base (X.env::X.outer):=(by rw[<- r];exact B.stack);obtain⟨oC,esC,epC,F,R,agd⟩:=id hn;have neF:∀{b:am}{ob:Obj}{vs:Array ap},k.heap.get? b=ac ob->ob.data=.fields vs->b≠C:=λ{b ob vs}e1 e2 z=>(by subst z;rw[F] at e1;cases e1;rw[R] at e2;cases e2);obtain⟨oe,vs,oT,ts,he',P,arS,hd',h1',nT',hT',We,h3'⟩:=id fl;have V:K≠C:=neF he' hd';have nTa:Ta≠C:=neF hT' We;have nN:k.heap.objs.size≠C:=bS (bB (a7 F));have nfC:C∉dL (X.env::X.outer):=λz=>(aM.mp (B.Av C (by rw[r];exact z))).elim rC.2.1 rC.2.2.1;refine HA (base:=X.base) hfr hfu hfl fl λY f1 t1=>?_;have kC:Y.get? C=ac oC:=t1.keep C oC nfC (by simp[bS V,bS nTa]) F;exists m,⟨oC,esC,epC,kC,R,agd⟩,λh' M cenv _=>?_;have f2':PV h' K k.heap.objs.size U (rawInt L):=f1.same (M.2 _ V) (M.2 _ nN);refine Yv (s:={k with heap:=h'}) f2' λh4 v4 f4 t4=>?_;have rn:=B.Cj Z;have hR:∀b∈[K,Ta,k.heap.objs.size,C],eD X d H' b:=(by intro b l;simp only[aM,cN,or_false] at l;rcases l with z|z|z|z;rw[z];exact r1;rw[z];exact r2;rw[z];exact rn;rw[z];exact rC);have tC:E4 (dL X.stack) [C] Y h':=⟨λb o _ l e=>(M.2 b (λz=>l (by simp[z]))).trans e,λb o _ l e=>⟨o.slots,(M.2 b (λz=>l (by simp[z]))).trans e⟩⟩;have tt:E4 (dL X.stack) [K,Ta,k.heap.objs.size,C] k.heap h4:=((by rw[r];exact t1:E4 (dL X.stack) [K,Ta] k.heap Y).mono (-_)).trans ((tC.mono (-_)).trans ((t4 _).mono (-_)));exact hL d σ H' _ K _ U v4 (B.ly (t':=k.toks) hR tt) f4 r1 rn q
def YA{X:Cx}{st:Stmt}(c:iZ X.K X.mg x key st f fd ps):i1 X E (f,λ_ _ _ _=>False) :=⟨c.F.kp,λa e H s Q d b I r h=>h.elim⟩
theorem aa2:entryFor table "proto.unchain" = ac Builtin.«proto.unchain»:=entryFor_of_fast (by kernel_rfl)
section
variable{prog:bv}{w:World}{A:ce}{E:ap->ar->Prop}{s:ar}
theorem aa3{e:Type}{a ea:am}{o oe:Obj}{vs ve:Array ap}{Q:e->ar->Prop}(n:A.handled=ac (.ref ea))(g:s.heap.get? ea=ac oe)(b:oe.data=.fields ve)(f:ve[2]?=ac .none)(j:ea≠a)(c:s.heap.get? a=ac o)(d:o.data=.fields vs)(m:2<vs.size)(k:E (.ref a) {s with heap:=s.heap.update a (Obj.mapFields (·.setIfInBounds 2 (.ref ea)))}):bt (model prog w) A (raiseNew (.ref a):Sem e) Q E s:=by unfold raiseNew;refine aw (wpAny_handled ?_);rw[n];dsimp only;have h:(Value.ref ea != Value.ref a)=ag:=(by rw[bne_iff_ne];exact λz=>j (Value.ref.inj z));rw[b4 h];refine aw (wpAny_holding (wpAny_runValue (codeAny_builtin aa2 ?_)));unfold Builtin.«proto.unchain»;dsimp only;refine aw (wpAny_field g b f ?_);rw[b4 (by rfl)];refine aw (ax (ax ?_));obtain⟨q,p,l,i⟩:=o;simp only at d;subst d;unfold updateField;refine aw (aw (wpAny_load c ?_));dsimp only;rw[b4 m];exact wpAny_update c (wpAny_throw k)
theorem Mz{d l ea:am}{i:Nat}{c:Array ap}{oe:Obj}{ve:Array ap}{Q:Option ap->ar->Prop}(F:A.handled=ac (.ref ea))(B:s.heap.get? ea=ac oe)(k:oe.data=.fields ve)(r:ve[2]?=ac .none)(p:ea≠d) (f:s.heap.IsListIter d l i) (hl:s.heap.IsList l c) (z:c[i]?=ae) (G:∀h',Heap.ExtBut d s.heap h'->Q ae {s with heap:=h'}):bt (model prog w) A (pyNext (.ref d)) Q E s:=by obtain⟨J,h,_,H,q⟩:=hl;obtain⟨o,j,I,n⟩:=id f;unfold pyNext;refine aw (wpAny_attempt (wpAny_callSpecial?_slot (name:=a8 "__next__") f.typeIs slot_listiter_next (wpAny_call_entry slot_listiter_next f.typeIs entry_listiter_next ?_ (args_listiter_next _))));show bt _ _ (field (.ref d) 0 >>= _) _ _ s;refine aw (wpAny_field j n (x:=.ref l) rfl ?_);show bt _ _ (if (Value.ref l==Value.none)=ag then _ else _) _ _ s;rw[b5 (show ¬((Value.ref l==Value.none)=ag) from aN)];show bt _ _ (field (.ref d) 1 >>= _) _ _ s;refine aw (wpAny_field j n (x:=.int i 0) rfl ?_);show bt _ _ (seqItems? (.ref l) >>= _) _ _ s;refine aw (wpAny_seqItems h q ?_);simp only[g5,z];refine aw (wpAny_rule (aw (wpAny_setField j n (-_) ?_)));show bt _ _ (newExc (.type "StopIteration") [] >>= _) _ _ _;refine aw ?_;simp only[newExc,newTuple];refine aw (wpAny_newObj_type ?_ (by size_fits));refine aw (m:=firstArgMember _ _) (wpAny_of_eq (a:=Value.none) (by first|rfl|(simp only[firstArgMember];rfl)) ?_);refine wpAny_newObj_type ?_ (by size_fits);generalize y:Heap.update s.heap d _=h1;have D:h1.get? ea=ac oe:=(by rw[<- y];exact (bo _ _ (bS p)).trans B);have C:Heap.ExtBut d s.heap h1:=(by rw[<- y];exact (Heap.SameBut.update ..).extBut);dsimp only;generalize v:Heap.push h1 _=h2;have u:Heap.ExtBut d s.heap h2:=(by rw[<- v];exact C.push _);have g:h2.get? ea=ac oe:=(by rw[<- v];exact a5 _ D);refine aa3 (ea:=ea) (oe:=oe) (ve:=ve) F (a5 _ g) k r (bB (a7 g)) (a6 _ rfl) rfl (by rw[Array.size_append];show 2<6+_;lia) ?_;refine aw (wpAny_isInstance (T:="StopIteration") (b:=ag) ⟨_,Heap.get?_update_self _ (a6 _ rfl) rfl,2⟩ isSubtype_stop ?_);exact ax (G _ λb ob t e=>(bo _ _ (bS (bB (a7 (u b ob t e))))).trans (a5 _ (u b ob t e)))
end
section
variable{X:Cx}{tg:Expr}{a it ea C:am}
theorem UF:∀(i:Nat)(f:List (am×Obj))(s:ar)(h:St)(H:Hp)(E:ap->ar->Prop),Inv X f h H s->(∀b∈[it],yc X f H b)->s.heap.IsListIter it a i->(IC X.K a).go i H ->bt (model X.prog X.w) X.A (pyNext (.ref it)) (λr y=>∃u,r=ac u /\bt (model X.prog X.w) X.A (letOwnedTupleGo tg (.ref it) u) (λ_ n=>∃x j,Inv X f h j n/\RelV x u/\(IC X.K a).Mc i H x j/\n.heap.IsListIter it a (i+1)/\∀b∈[it],j b=ae) E y) E s:=by intro i f s h H E I m st t;obtain⟨Q,x,hq,l⟩:=t;obtain⟨J,v,p,S⟩:=I.list hq;obtain⟨u,z,F⟩:=v.get l;obtain⟨B,L,R,G,O,M⟩:=m it (-_);refine wpAny_pyNext_list_item st p.isList (x:=u) (by simpa using z) λq g N=>?_;have C:Inv X f h H {s with heap:=q}:=I.turned (t':=s.toks) (λb o k e=>(N.2 b k).trans e) B L G O M;obtain⟨o,e,c,d⟩:=id g;exists u,2,XT (s:={s with heap:=q}) e c d (!_) ⟨x,H,C,F,⟨2,λP D=>by rw[I.Qk D hq];exact l⟩,g,λb k=>(m b k).1⟩
theorem Uf(F:X.A.handled=ac (.ref ea)):∀(i:Nat)(c:List (am×Obj))(s:ar)(g:St)(H:Hp)(E:ap->ar->Prop),Inv X c g H s->H ea=ac (EU ea C)->(∀b∈[it],yc X c H b)->s.heap.IsListIter it a i->(IC X.K a).stop i H ->bt (model X.prog X.w) X.A (pyNext (.ref it)) (λr q=>r=ae/\Inv X c g H q) E s:=by intro i c s g H E I d v st m;obtain⟨M,hq,L⟩:=m;obtain⟨⟨J,P,j,_,⟨_,h⟩,k⟩,_,_⟩:=(show jk X.prog X.w H s.heap ea (EU ea C) from I.hok ea _ d);obtain⟨x,n,p,R⟩:=I.list hq;obtain⟨l,y,O,u,G,B⟩:=v it (-_);have Q:=n.length;have f:ea≠it:=λz=>(by rw[z,l] at d;cases d);exact Mz F j k h f st p.isList (by simp;lia) λN D=>⟨2,I.turned (t':=s.toks) (λb o t e=>D b o t e) l y u G B⟩
end
section
variable{X:Cx}{scope:Scope}{N':List Str}{cap:List (Option Nat)}{pins:List (am×Obj)}{s:ar}{σ:St}{H:Hp}
theorem YB{P tg I:Expr}{N:List Expr}{pos:Pos}{g:TG}{tc:TT}{te:TE}{Q:VK}{f:ar}{F:Hp}{j:am}{a ea C:am}{E:ap->ar->Prop}{RR:ap->am->Result->ar->Prop}(S:jG X scope N' cap)(hh:X.A.handled=ac (.ref ea))(hg:∀fp pins s H,PG (fH X scope N' fp pins s H) tg g)(hts:∀fp pins s H,kQ (fH X scope N' fp pins s H) N tc)(he:∀fp pins s H,PE (fH X scope N' fp pins s H) P te)(I2:Inv X pins σ F f)(V:f.heap.IsListIter j a 0)(Y:∀b∈[j],yc X pins F b)(h:∀t,F t=ae->∃W:Nat->Nat->Hp->Prop,(∃m,W 0 m (upd F t (.lst [])))/\∀i m H,W i m H->H ea=ac (EU ea C) /\(((IC X.K a).stop i H/\Q (.ref t) H)∨((IC X.K a).go i H/\∀x l,(IC X.K a).Mc i H x l->g x (fU cap σ) l λσ2 F=>tc σ2 F λb H3=>if b=ag then te σ2 H3 λy H4=>∃xs,H4 t=ac (.lst xs)/\xs.length<a9 /\∃v,v<m/\W (i+1) v (upd H4 t (.lst (xs++[y]))) else ∃v,v<m/\W (i+1) v H3)))(hRR:∀C s' l,(∃m,s'.heap.Ns C m)->(∀M,Heap.SameBut C s'.heap M->Inv X pins σ l {s' with heap:=M})->Q (.ref f.heap.objs.size) l->l C=ae->f.heap.objs.size<C ->RR (.ref f.heap.objs.size) C (.ok .next) s') :bt (model X.prog X.w) X.A (newList []) (λt s₃=>bt (model X.prog X.w) X.A (newFunctionEnv scope X.env.globals (oZ X.env scope.names []) [] X.env.qual ae .none (ac X.env)) (λG s₄ => codeAny (model X.prog X.w) X.A (.compStart (.ListComp P [⟨tg,I,N,(0)⟩] scope pos) 0 (.ref j) t {G with scope:=relabel scope X.env}) (RR t G.locals) s₄) E s₃) E f:=by have T:eC X.prog X.w X.K tg (IC X.K a) [j] j (λi h=>h.IsListIter j a i):=UB a j;refine wpAny_newObj_type (wpAny_newFunctionEnv S.Qq (by intro y hy;simp at hy) (λD ye yf=>?_) S.kind);dsimp only at ye yf ⊢;have hfr:F f.heap.objs.size=ae:=I2.hok.fresh (az _);generalize O:f.heap.push {cls:=.type "list",dict:=ae,data:=.seq ([]:List ap).toArray}=h3 at ye yf ⊢;have e3:h3.objs.size=f.heap.objs.size+1:=(by rw[<- O,Heap.size_push]);have k3:∀b u,f.heap.get? b=ac u->h3.get? b=ac u:=λb u e=>(by rw[<- O];exact a5 _ e);have I3:Inv X pins σ (upd F f.heap.objs.size (.lst [])) {f with heap:=h3,toks:=f.toks}:=(by refine I2.laid (t':=f.toks) k3 (az _) ?_;exists bA _,[],(0),.nil,by rw[<- O];exact a6 _ rfl);have f3:∀b∈[j],yc X pins (upd F f.heap.objs.size (.lst [])) b:=λb k=>(by obtain⟨o,e,_⟩:=T.obj _ _ V b k;exists by rw[aI (bB (a7 e))];exact (Y b k).1,(Y b k).2);have E1:∀b∈[j],∃o,h3.get? b=ac o:=λb k=>(by obtain⟨o,e,_⟩:=T.obj _ _ V b k;exists o,k3 b o e);have kp:∀b o,h3.get? b=ac o->D.get? b=ac o:=λb o e=>yf.extBut b o (bB (a7 e)) (a5 _ e);have I4:=S.start (fp:=[j]) (tk:=f.toks+([]:List (Str×ap)).length) I3 f3 E1 ye kp;have Hy:(λi h=>h.IsListIter j a i) 0 D:=T.keep _ _ _ V λb _ o e=>kp b o (k3 b o e);obtain⟨W,⟨m0,w0⟩,turn⟩:=h f.heap.objs.size hfr;let L:=fH X scope N' [j] pins {f with heap:=h3,toks:=f.toks} (upd F f.heap.objs.size (.lst []));have B:∀{zP:List (am×Obj)}{l:Hp},(∀p∈zP,p.1∉[j])->(∀b∈[j],l b=ae)->∀b∈[j],yc L zP l b:=λ{zP l}hpn hn b k=>(by obtain⟨o,e⟩:=E1 b k;exists hn b k,bB (a7 e),λz=>?_,.inl k,λx c hx=>(f3 b k).2.2.2.2.1 x c (kZ _ _ (S.clos I2.ok) (λz=>by simp at z) hx),λp hp=>?_;rcases aM.mp (I2.Av b z) with q|q;exact (Y b k).2.1 q;exact (Y b k).2.2.1 q;rcases bh.mp hp with q|q;exact (Y b k).2.2.2.2.2 p q;exact λz=>hpn p q (z▸k));have J:codeAny (model X.prog X.w) X.A (.compLoop (.ListComp P [⟨tg,I,N,(0)⟩] scope pos) 0 (.ref j) (.ref f.heap.objs.size) L.env) (RR (.ref f.heap.objs.size) h3.objs.size) {f with heap:=D,toks:=f.toks+([]:List (Str×ap)).length}:=(by refine UP (λn s'=>∃i l,Inv L [] (fU cap σ) l s'/\(λi h=>h.IsListIter j a i) i s'.heap/\(∀b∈[j],l b=ae)/\W i n l) ?_ m0 ⟨(0),_,I4,Hy,λb k=>(f3 b k).1,w0⟩;rintro n s5 ⟨i,H5,I5,S2,z0,w5⟩;obtain⟨ar2,w5⟩:=turn i n H5 w5;rcases w5 with ⟨stop,qn⟩|⟨go,step⟩;(·refine wpAny_mono (Uf (X:=L) (ea:=ea) (C:=C) hh i [] s5 (fU cap σ) H5 (λ_ _=>False) I5 ar2 (B (λ_ z=>b3 z (-_)) z0) S2 stop) (λr s6 ⟨hr,I6⟩=>?_) λ_ _ z=>z;subst hr;refine hRR _ s6 H5 ?_ (λM sb=>S.back I2 Y (s3:={f with heap:=h3,toks:=f.toks}) e3 k3 rfl rfl I6 sb) qn I6.free (by rw[e3];exact pG _);obtain⟨m,hn,_⟩:=I6.loc;exists m,hn);refine wpAny_mono (UF (X:=L) (tg:=tg) i [] s5 (fU cap σ) H5 (λ_ _=>False) I5 (B (λ_ z=>b3 z (-_)) z0) S2 go) (λr s6 ⟨u,hr,h6⟩=>?_) λ_ _ z=>z;subst hr;refine wpAny_mono h6 (λ_ s7 ⟨x,H7,I7,r7,y7,Td,fr7⟩=>?_) λ_ _ z=>z;have I7':=I7.pinned (B (λ_ z=>b3 z (-_)) fr7) (T.obj _ _ Td);have again:∀{Z:St}{U:Hp}{R:ar},Inv L ([]++JB [j] s7.heap) Z U R->(∃v,v<n/\W (i+1) v U)->∃m,m<n/\∃i l,Inv L [] (fU cap σ) l R/\(λi h=>h.IsListIter j a i) i R.heap/\(∀b∈[j],l b=ae)/\W i m l:=λ{Z U R}I8 n8=>(by obtain⟨v,hm,w8⟩:=n8;have pn:∀b∈[j],∃o,s7.heap.get? b=ac o/\R.heap.get? b=ac o/\U b=ae:=λb k=>(by obtain⟨o,e,d⟩:=T.obj _ _ Td b k;have q:=I8.pin (b,o) (bQ _ (bQ _ (tU k e)));exists o,e,q.1,q.2.1);exists v,hm,i+1,U,S.again I3 f3 I8.yd,T.keep _ _ _ Td λb k o e=>?_,λb k=>?_,w8;obtain⟨o',e',q,_⟩:=pn b k;rw[e] at e';cases e';exact q;obtain⟨_,_,_,q⟩:=pn b k;exact q);refine wpAny_mono (hg [j] pins _ _ _ s7 (fU cap σ) H7 x u _ I7' r7 (step x H7 y7)) (λ_ R ⟨Z,U,I8,q8⟩=>?_) λ_ _ z=>z;refine wpAny_mono (hts [j] pins _ _ _ R Z U _ I8 q8) (λb s9 ⟨H9,I9,q9⟩=>?_) λ_ _ z=>z;cases b with|false=>exact again I9 q9|true=>refine wpAny_mono (he [j] pins _ _ _ s9 Z H9 _ I9 q9) (λu Z9 ⟨y,XJ,I10,r10,xs,hx,hl,q10⟩=>?_) λ_ _ z=>z;refine wpAny_mono (gQ (X:=L) _ Z9 Z XJ (.ref f.heap.objs.size) [y] (.ref f.heap.objs.size) [u] (λ_ l=>∃v,v<n/\W (i+1) v l) I10 rfl (.cons r10 .nil) ⟨_,xs,y,22,hx,hl,q10⟩) (λ_ S5 ⟨_,UQ,I11,_,q11⟩=>again I11 q11) λ_ _ z=>z);exact codeAny_compStart_list J (T.self _ 0 _ _ _ Hy J)
def amb(K:af)(ea:am)(tl:TE)(cap:List (Option Nat))(g:TG)(tc:TT)(te:TE):TE:=λσ H Q=>tl σ H λx H1=>∃a C,x=.ref a/\(∃xs,bH K H1 a xs)/\∀acc,H1 acc=ae->∃W:Nat->Nat->Hp->Prop,(∃m,W 0 m (upd H1 acc (.lst [])))/\∀i m H,W i m H->H ea=ac (EU ea C) /\
 (((IC K a).stop i H/\Q (.ref acc) H)∨((IC K a).go i H/\∀x H',(IC K a).Mc i H x H'->g x (fU cap σ) H' λσ2 H2=>tc σ2 H2 λb H3=>if b=ag then te σ2 H3 λy H4=>∃xs,H4 acc=ac (.lst xs)/\xs.length<a9 /\
   ∃m',m'<m/\W (i+1) m' (upd H4 acc (.lst (xs++[y]))) else ∃m',m'<m/\W (i+1) m' H3))
theorem agh{i tg c:Expr}{f:List Expr}{l:Pos}{r:TE}{ea:am}{g:TG}{u:TT}{te:TE}(S:jG X scope N' cap)(U:X.A.handled=ac (.ref ea))(E:PE X c r)(z:∀fp pins s H,PG (fH X scope N' fp pins s H) tg g)(n:∀fp pins s H,kQ (fH X scope N' fp pins s H) f u)(F:∀fp pins s H,PE (fH X scope N' fp pins s H) i te)(B:∀x,foldedSetIterable c X.env x=pure x:=by intro _;rfl) :PE X (.ListComp i [⟨tg,c,f,(0)⟩] scope l) (amb X.K ea r cap g u te):=by intro pins s σ H Q I h;rw[eval_ListComp];refine wpAny_comprehension_free (use:=ae) rfl B (pJ (S.clos I.ok)) S.kind S.loc (g8 (E pins s σ H _ I h) λv d ⟨x,t,j,y,R⟩=>?_);obtain⟨a,C,e,⟨Y,hq⟩,G⟩:=R;subst e;cases y;obtain⟨N,V,p,Z⟩:=j.list hq;refine wpAny_pyIter_list p.isList ?_;have M:Inv X pins σ t {d with heap:=d.heap.push {cls:=.type "list_iterator",data:=.fields #[.ref a,.int 0 0]}}:=j.kept (t':=d.toks) λb o e=>a5 _ e;have P:∀b∈[d.heap.objs.size],yc X pins t b:=λb J=>(by have e:b=d.heap.objs.size:=(by simpa using J);subst e;exact j.adC (az _) (j.hok.fresh (az _)));refine YB (C:=C) (RR:=λq C=>compPost (model X.prog X.w) X.A X.xe ae (EP X pins σ Q) q C) S U z n F M ⟨_,a6 _ rfl,22⟩ P G ?_;intro C W D ⟨m,L⟩ T hq _ _;exists m,L,λk O=>⟨.ref _,D,T k O,2,hq⟩
end
theorem agi{X:Cx}(K:af)(h:X.K=K):fw X "str.join" (eQ K):=by subst h;exact PZ
end L2
namespace e9
open PySem L2
noncomputable def c3(i:Nat):Stmt:=PySem.Challenge.pw_knotless_k40_desk_refused.main.body.getD i (.Pass ⟨(0),(0),(0),(0)⟩)
noncomputable abbrev AF:Stmt:=(c0 (c3 12) 0)
noncomputable abbrev Dn:Stmt:=(c0 (c3 12) 1)
noncomputable abbrev Dp:Stmt:=(c0 (c3 12) 2)
noncomputable abbrev AG:Stmt:=(c0 (c3 12) 4)
noncomputable abbrev MA:Stmt:=(c3 14)
noncomputable abbrev JK:Stmt:=(c3 15)
noncomputable abbrev we:Stmt:=(c0 (c3 17) 0)
noncomputable abbrev yv:Stmt:=(c0 (c3 17) 1)
noncomputable abbrev yw:Stmt:=(c0 (c3 17) 2)
noncomputable abbrev wg:Stmt:=(c0 (c3 17) 3)
noncomputable abbrev yx:Stmt:=(c0 (c3 18) 0)
noncomputable abbrev AH:Stmt:=(c0 (c3 18) 1)
noncomputable abbrev AI:Stmt:=(c0 (c3 18) 2)
noncomputable abbrev yy:Stmt:=(c0 (c3 18) 3)
noncomputable abbrev AJ:Stmt:=(c0 (c3 19) 0)
noncomputable abbrev MB:Stmt:=(c3 21)
noncomputable abbrev Ws:Stmt:=(c3 22)
noncomputable abbrev mr:Stmt:=(c3 23)
noncomputable abbrev MC:Stmt:=(c3 24)
noncomputable abbrev mn:Stmt:=(c3 27)
noncomputable abbrev Wt:Stmt:=(c3 28)
noncomputable abbrev MD:Stmt:=(c3 30)
noncomputable abbrev Wu:Stmt:=(c3 31)
noncomputable abbrev AK:Stmt:=(c0 (c3 38) 0)
noncomputable abbrev Fw:Stmt:=(c0 (c3 38) 1)
noncomputable abbrev Fx:Stmt:=(c0 (c3 38) 2)
noncomputable abbrev wj:Stmt:=(c0 (c3 38) 3)
noncomputable abbrev yz:Stmt:=(c0 (c3 38) 4)
noncomputable abbrev Fy:Stmt:=(c0 (c3 38) 5)
noncomputable abbrev AL:Stmt:=(c3 39)
noncomputable abbrev AM:Stmt:=(c3 40)
noncomputable abbrev Dq:Stmt:=(c3 41)
noncomputable abbrev Fz:Stmt:=(c3 42)
noncomputable abbrev tZ:Stmt:=(c0 (c3 44) 0)
noncomputable abbrev yC:Stmt:=(c0 (c3 44) 1)
noncomputable abbrev AN:Stmt:=(c0 (c3 44) 2)
noncomputable abbrev qD:Stmt:=(c0 (c3 44) 3)
noncomputable abbrev qF:Stmt:=(c0 (c3 44) 4)
noncomputable abbrev yD:Stmt:=(c0 (c3 44) 5)
noncomputable abbrev JL:Stmt:=(c3 45)
noncomputable abbrev AO:Stmt:=(c3 46)
noncomputable abbrev wk:Stmt:=(c0 (c3 49) 0)
noncomputable abbrev Dr:Stmt:=(c0 (c3 50) 0)
noncomputable abbrev JM:Stmt:=(c0 (c3 50) 1)
noncomputable abbrev JN:Stmt:=(c0 (c3 50) 2)
noncomputable abbrev FA:Stmt:=(c0 (c3 50) 3)
noncomputable abbrev AQ:Stmt:=(c0 (c3 50) 5)
noncomputable abbrev Dt:Stmt:=(c0 (c3 50) 6)
noncomputable abbrev JO:Stmt:=(c0 (c3 50) 7)
noncomputable abbrev JP:Stmt:=(c0 (c3 50) 8)
noncomputable abbrev ME:Stmt:=(c0 (c3 50) 9)
noncomputable abbrev MF:Stmt:=(c0 (c3 50) 11)
noncomputable abbrev JQ:Stmt:=(c0 (c3 50) 12)
noncomputable abbrev k7:Stmt:=(c0 (c3 50) 13)
noncomputable abbrev Du:Stmt:=(c0 (c3 50) 14)
noncomputable abbrev iC:Stmt:=(c0 (c3 50) 15)
noncomputable abbrev FD:Stmt:=(c0 (c3 50) 16)
noncomputable abbrev AR:Stmt:=(c0 (c3 50) 17)
noncomputable abbrev wm:Stmt:=(c0 (c3 50) 18)
noncomputable abbrev t9:Stmt:=(c0 (c3 50) 19)
noncomputable abbrev JR:Stmt:=(c0 (c3 50) 20)
noncomputable abbrev rR:Stmt:=(c0 (c3 50) 21)
noncomputable abbrev wo:Stmt:=(c0 (c3 50) 22)
noncomputable abbrev kB:Stmt:=(c0 (c3 50) 23)
noncomputable abbrev rS:Stmt:=(c0 (c3 50) 24)
noncomputable abbrev qG:Stmt:=(c0 (c3 50) 25)
noncomputable abbrev ua:Stmt:=(c0 (c3 50) 26)
noncomputable abbrev Dv:Stmt:=(c3 51)
noncomputable abbrev wu:Stmt:=(c3 52)
noncomputable abbrev AS:Stmt:=(c3 58)
noncomputable abbrev yE:Stmt:=(c3 59)
noncomputable abbrev FE:Stmt:=(c3 60)
noncomputable abbrev Dw:Stmt:=(c3 61)
noncomputable abbrev MG:Stmt:=(c3 63)
noncomputable abbrev QT:Stmt:=(c3 64)
noncomputable abbrev AU:Stmt:=(c3 65)
noncomputable abbrev yF:Stmt:=(c3 66)
noncomputable abbrev AV:Stmt:=(c3 67)
noncomputable abbrev Dy:Stmt:=(c3 68)
noncomputable abbrev AW:Stmt:=(c3 69)
noncomputable abbrev AX:Stmt:=(c3 70)
noncomputable abbrev Dz:Stmt:=(c3 71)
noncomputable abbrev AY:Stmt:=(c3 72)
noncomputable abbrev AZ:Stmt:=(c3 73)
noncomputable abbrev A0:Stmt:=(c3 74)
noncomputable abbrev DA:Stmt:=(c3 75)
noncomputable abbrev wz:Stmt:=(c3 76)
noncomputable abbrev DB:Stmt:=(c3 77)
noncomputable abbrev yG:Stmt:=(c3 78)
noncomputable abbrev A7:Stmt:=(c0 (c3 80) 0)
noncomputable abbrev JT:Stmt:=(c0 (c3 80) 1)
noncomputable abbrev A8:Stmt:=(c3 81)
noncomputable abbrev FF:Stmt:=(c3 83)
noncomputable abbrev QU:Stmt:=(c3 84)
noncomputable abbrev Wv:Stmt:=(c3 85)
noncomputable abbrev QV:Stmt:=(c3 86)
noncomputable abbrev FG:Stmt:=(c3 87)
noncomputable abbrev MH:Stmt:=(c3 88)
noncomputable abbrev mm:Stmt:=(c3 89)
def QW:aG ["self"] ["self"] (aA AF):=ja
def Tg:aG ["self","house","caller","rope"] ["self","house","caller","rope"] (aA Dn):=ja
def Th:aG ["self","house","caller"] ["self","house","caller"] (aA Dp):=ja
def QX:aG ["self"] ["self"] (aA AG):=ja
def JU:aG ["book","letter","house","came","open_here","here","handed"] ["book","letter","house","came","open_here","here"] (aA MA):=ja
theorem Ti:(["caller","letter"]:List Str).Nodup:=↑_
def zX:aG ["book","sought","house","came","open_here","here","noted","leading"] ["book","sought","house","came","open_here","here"] (aA JK):=ja
theorem QY:(["rope","came"]:List Str).Nodup:=↑_
def MI:aG ["self","sender"] ["self","sender"] (aA we):=ja
def OU:aG ["self","caller"] ["self","caller"] (aA yv):=ja
def OV:aG ["self"] ["self"] (aA yw):=ja
def MJ:aG ["self"] ["self"] (aA wg):=ja
def OW:aG ["self","sender","to"] ["self","sender","to"] (aA yx):=ja
def QZ:aG ["self","caller"] ["self","caller"] (aA AH):=ja
def Q0:aG ["self"] ["self"] (aA AI):=ja
def OX:aG ["self"] ["self"] (aA yy):=ja
def Q2:aG ["self","caller"] ["self","caller"] (aA AJ):=ja
def aa4:aG ["town","house"] ["town","house"] (aA MB):=ja
def YC:aG ["town","row","rope","hops"] ["town","row","rope"] (aA Ws):=ja
def Q3:aG ["town","live","rows","house","least","rope","made"] ["town","live","rows","house"] (aA mr):=ja
def Q4:aG ["town","live","rows"] ["town","live","rows"] (aA MC):=ja
theorem Tj:(["house","live","rows","town"]:List Str).Nodup:=↑_
def wr:aG ["town","live","rows"] ["town","live","rows"] (aA mn):=ja
theorem aee:(["house","live","rows","town"]:List Str).Nodup:=↑_
def YD:aG ["town","live","rows"] ["town","live","rows"] (aA Wt):=ja
theorem YE:(["up"]:List Str).Nodup:=↑_
def JV:aG ["town","live","rows","house","joined"] ["town","live","rows","house"] (aA MD):=ja
theorem Tn:(["rope","joined"]:List Str).Nodup:=↑_
def Q5:aG ["town","live","rows","house","rope","other"] ["town","live","rows","house"] (aA Wu):=ja
def FH:aG ["self","names","ropes"] ["self","names","ropes"] (aA AK):=ja
def Ww:aG ["self","house"] ["self","house"] (aA Fw):=ja
def Wx:aG ["self","number"] ["self","number"] (aA Fx):=ja
def Cz:aG ["self","house"] ["self","house"] (aA wj):=ja
theorem xm:(["number","rope","house"]:List Str).Nodup:=↑_
def Et:aG ["self","rope","house","ends"] ["self","rope","house"] (aA yz):=ja
def Wy:aG ["self","rope","group"] ["self","rope","group"] (aA Fy):=ja
def FI:aG ["names"] ["names"] (aA AL):=ja
def rU:aG ["size","ropes","rope"] ["size","ropes"] (aA AM):=ja
def ID:aG ["size","rope"] ["size","rope"] (aA Dq):=ja
def K7:aG ["size","one","other"] ["size","one","other"] (aA Fz):=ja
def zY:aG ["self","town"] ["self","town"] (aA tZ):=ja
theorem FJ:(["rope","town"]:List Str).Nodup:=↑_
def wA:aG ["self","rope","wire","ahead"] ["self","rope","wire"] (aA yC):=ja
theorem JW:(["each","wire"]:List Str).Nodup:=↑_
def FL:aG ["self","rope","wire","ahead"] ["self","rope","wire"] (aA AN):=ja
def Im:aG ["self","rope"] ["self","rope"] (aA qD):=ja
def xo:aG ["self","rope","number","stand"] ["self","rope","number"] (aA qF):=ja
def Eu:aG ["self","group"] ["self","group"] (aA yD):=ja
theorem JX:(["rope","group","self"]:List Str).Nodup:=↑_
def YF:aG ["town","rope"] ["town","rope"] (aA JL):=ja
def Q6:aG ["group"] ["group"] (aA AO):=ja
def MK:aG ["self","letter","group"] ["self","letter","group"] (aA wk):=ja
def j5:aG ["self","town","callers"] ["self","town","callers"] (aA Dr):=ja
theorem ML:(["bit","town"]:List Str).Nodup:=↑_
theorem MM:(["bit"]:List Str).Nodup:=↑_
theorem MN:(["caller"]:List Str).Nodup:=↑_
theorem MO:(["caller"]:List Str).Nodup:=↑_
theorem MP:(["caller"]:List Str).Nodup:=↑_
def Oh:aG ["self","group"] ["self","group"] (aA JM):=ja
def Oi:aG ["self","group"] ["self","group"] (aA JN):=ja
def K8:aG ["self","group"] ["self","group"] (aA FA):=ja
def FN:aG ["self","group"] ["self","group"] (aA AQ):=ja
def IE:aG ["self","house","group"] ["self","house","group"] (aA Dt):=ja
def vz:aG ["self","house","group","ahead","row"] ["self","house","group"] (aA JO):=ja
def zZ:aG ["self","rope","wire","ended"] ["self","rope","wire"] (aA JP):=ja
def DC:aG ["self","rope","wire","began"] ["self","rope","wire"] (aA ME):=ja
def Q7:aG ["self","caller"] ["self","caller"] (aA MF):=ja
def Oj:aG ["self","caller","house"] ["self","caller","house"] (aA JQ):=ja
def vA:aG ["self","sender","to","letter","number","house"] ["self","sender","to"] (aA k7):=ja
def To:aG ["self"] ["self"] (aA Du):=ja
def iL:aG ["self","at","landed","number","rope","house","posted","fate"] ["self","at"] (aA iC):=ja
def K9:aG ["self","letter"] ["self","letter"] (aA FD):=ja
def Q8:aG ["self","posted","rope","house"] ["self","posted","rope","house"] (aA AR):=ja
def gi:aG ["self","number","house","came","posted","group","open_here","here","found","caller","rope"] ["self","number","house","came"] (aA wm):=ja
def rV:aG ["self","house","group","there"] ["self","house","group"] (aA t9):=ja
theorem FO:(["caller","self","there"]:List Str).Nodup:=↑_
def FP:aG ["self","number","house","rope","posted","wire"] ["self","number","house","rope"] (aA JR):=ja
def qH:aG ["self","rope","wire","left","flown"] ["self","rope","wire"] (aA rR):=ja
def CA:aG ["self","group","posted"] ["self","group"] (aA wo):=ja
def pL:aG ["self","rope","group"] ["self","rope"] (aA kB):=ja
def yH:aG ["self","house"] ["self","house"] (aA rS):=ja
def xq:aG ["self","caller"] ["self","caller"] (aA qG):=ja
def z4:aG ["self","sender","to"] ["self","sender","to"] (aA ua):=ja
def IF:aG ["town"] ["town"] (aA Dv):=ja
theorem MQ:(["house","town"]:List Str).Nodup:=↑_
def oG:aG ["town","callers","caller"] ["town","callers"] (aA wu):=ja
def rW:aG ["word"] ["word"] (aA AS):=ja
theorem z5:(["sign"]:List Str).Nodup:=↑_
def qm:aG ["words","many"] ["words","many"] (aA yE):=ja
theorem yI:(["word"]:List Str).Nodup:=↑_
def ez:aG ["text","told","names","ropes","callers","words"] ["text"] (aA FE):=ja
theorem Ew:(["part"]:List Str).Nodup:=↑_
def uO:aG ["words"] ["words"] (aA Dw):=ja
theorem CB:(["word"]:List Str).Nodup:=↑_
def aa5:aG ["told"] ["told"] (aA MG):=ja
def Vc:aG ["numbers"] ["numbers"] (aA QT):=ja
theorem Wz:(["number"]:List Str).Nodup:=↑_
def FQ:aG ["net","numbers"] ["net","numbers"] (aA AU):=ja
def jJ:aG ["net","numbers","changed"] ["net","numbers"] (aA yF):=ja
theorem yJ:(["house","net","numbers"]:List Str).Nodup:=↑_
def FT:aG ["net","numbers"] ["net","numbers"] (aA AV):=ja
def IG:aG ["net","numbers"] ["net","numbers"] (aA Dy):=ja
def FU:aG ["net","numbers"] ["net","numbers"] (aA AW):=ja
def FW:aG ["net","numbers"] ["net","numbers"] (aA AX):=ja
def II:aG ["net","numbers"] ["net","numbers"] (aA Dz):=ja
def FY:aG ["net","numbers"] ["net","numbers"] (aA AY):=ja
def FZ:aG ["net","numbers"] ["net","numbers"] (aA AZ):=ja
def F0:aG ["net","numbers"] ["net","numbers"] (aA A0):=ja
def A9:aG ["net","numbers","arrived"] ["net","numbers"] (aA DA):=ja
def MR:aG ["net","numbers"] ["net","numbers"] (aA wz):=ja
def IJ:aG ["net","numbers"] ["net","numbers"] (aA DB):=ja
def qo:aG ["net","numbers"] ["net","numbers"] (aA yG):=ja
theorem yK:(["deed"]:List Str).Nodup:=↑_
def rX:aG ["self","text","told"] ["self","text"] (aA A7):=ja
def qW:aG ["self","row","words","wanted"] ["self","row"] (aA JT):=ja
def F7:aG ["words","many"] ["words","many"] (aA A8):=ja
def WA:aG ["_law_script","_law_k"] ["_law_script","_law_k"] (aA FF):=ja
def HP:aG ["_law_cell","_law_some"] ["_law_cell"] (aA QU):=ja
def iM:aG ["_law_cell","_law_some"] ["_law_cell"] (aA Wv):=ja
def CC:aG ["_law_cell","_law_some"] ["_law_cell"] (aA QV):=ja
def iD:aG ["_law_desk","_law_row","_law_town_here","_law_word","e","_law_marks"] ["_law_desk","_law_row","_law_town_here"] (aA FG):=ja
theorem OY:(["_law_mark"]:List Str).Nodup:=↑_
def uc:aG ["_law_desk","_law_posted","_law_rows"] ["_law_desk","_law_posted"] (aA MH):=ja
theorem Tp:(["_law_number"]:List Str).Nodup:=↑_
theorem Tq:(["_law_row","_law_desk"]:List Str).Nodup:=↑_
def rY:aG ["_law_script","_law_ropes","_law_desk","_law_posted","_law_still","_law_cell","_law_row","_law_done","_law_odd_here","_law_ought","_law_ahead","_law_bad"] ["_law_script"] (aA mm):=ja
set_option genInjectivity false in
structure Ad where
 (pM rZ r6 pN CF yM fP nG jq iX nH pO pP nJ pQ CG La YG ud YH DE CH Lb j6 vB vC lQ nK vD mh mj oH qX kD nL pR jr jt nM yN pS lR oJ ue uf qY mq oK ug uh xX xY um r8 qZ pU lT kE yO jU lU gj iS ic jg r9 jK mw kG nO oM CI Ga gv fK gw iE gx gy iF gz gA gB jc fQ iG fL mz uo mC vE Gb Lc Gc vF CJ YI:am)
 (uP xF xG uQ HQ DF qp se sf qq sj uR uS sq uT HR P1 acr HS acs P4 HU P5 mD Aa Ab qt sr Ac pV pW sy vG oN sA uU k8 k9 sC DG uV qu sD yP yQ vH pX sE yR yS CK CL yU xH vI uW qv oO DH m6 qw iT jV ju kH xJ lV pY nP rj sF HV Ld pZ nQ p5 sG p6 p7 sH p8 qb qc xK qx sI nR qd yV qe Ae Le P6 Lf Af HW YJ:FuncData)
 j7:am
 yW:FuncData
 gD:am
 qf:FuncData
 mE:Tok
 kI:am
 iU:am
 lg:am
 lW:am
 aK:am
 c9:am
 ie:am
 cT:am
 nS:am
 gW:am
 dD:am
 eN:am
 dc:am
 fq:am
 cZ:am
 jC:am
 iN:am
 eV:am
 eB:am
 uX:Tok
 xM:Tok
 xN:Tok
 xO:Tok
 sJ:Tok
 fj:am
 HX:Tok
 sL:Tok
 sM:Tok
 oQ:Tok
 (mF Ba uY Bb IK Bc Be IL Bf Bg Bh IM qg IP uZ:am)
structure Txt(K:af)(mg:Str->Option ap)(w:World)(t:Ad):Prop where
 Bj:Wq K t.ie "Book.__init__" AF t.pM t.uP ["self"]
 Lg:jT K t.ie "learn" "Book.learn" Dn t.rZ t.xF ["self","house","caller","rope"]
 Lh:jT K t.ie "known" "Book.known" Dp t.r6 t.xG ["self","house","caller"]
 Bk:jT K t.ie "forget" "Book.forget" AG t.pN t.uQ ["self"]
 Vd:iZ K mg "targets" "targets" MA t.CF t.HQ ["book","letter","house","came","open_here","here"]
 Q9:iZ K mg "ropes_on" "ropes_on" JK t.yM t.DF ["book","sought","house","came","open_here","here"]
 wB:Wq K t.kI "Letter.__init__" we t.fP t.qp ["self","sender"]
 Gd:jT K t.kI "meant" "Letter.meant" yv t.nG t.se ["self","caller"]
 sN:jT K t.kI "seeks" "Letter.seeks" yw t.jq t.sf ["self"]
 qy:jT K t.kI "number" "Letter.number" wg t.iX t.qq ["self"]
 Ge:Wq K t.iU "ToOne.__init__" yx t.nH t.sj ["self","sender","to"]
 IQ:jT K t.iU "meant" "ToOne.meant" AH t.pO t.uR ["self","caller"]
 Bl:jT K t.iU "seeks" "ToOne.seeks" AI t.pP t.uS ["self"]
 yX:jT K t.iU "number" "ToOne.number" yy t.nJ t.sq ["self"]
 IS:jT K t.lg "meant" "ToAll.meant" AJ t.pQ t.uT ["self","caller"]
 MS:iZ K mg "own_row" "own_row" MB t.CG t.HR ["town","house"]
 WB:iZ K mg "offer" "offer" Ws t.La t.P1 ["town","row","rope"]
 agn:iZ K mg "due" "due" mr t.YG t.acr ["town","live","rows","house"]
 CM:iZ K mg "resting" "resting" MC t.ud t.HS ["town","live","rows"]
 akt:iZ K mg "ups" "ups" mn t.YH t.acs ["town","live","rows"]
 DI:iZ K mg "opens" "opens" Wt t.DE t.P4 ["town","live","rows"]
 Ve:iZ K mg "open_at" "open_at" MD t.CH t.HU ["town","live","rows","house"]
 acu:iZ K mg "up_of" "up_of" Wu t.Lb t.P5 ["town","live","rows","house"]
 qh:Wq K t.aK "Town.__init__" AK t.j6 t.mD ["self","names","ropes"]
 Ol:jT K t.aK "name" "Town.name" Fw t.vB t.Aa ["self","house"]
 Gf:jT K t.aK "rope" "Town.rope" Fx t.vC t.Ab ["self","number"]
 qz:jT K t.aK "ropes_at" "Town.ropes_at" wj t.lQ t.qt ["self","house"]
 sO:jT K t.aK "far_end" "Town.far_end" yz t.nK t.sr ["self","rope","house"]
 Gg:jT K t.aK "lets" "Town.lets" Fy t.vD t.Ac ["self","rope","group"]
 mG:iZ K mg "check_names" "check_names" AL t.mh t.pV ["names"]
 mH:iZ K mg "check_ropes" "check_ropes" AM t.mj t.pW ["size","ropes"]
 oS:iZ K mg "check_rope" "check_rope" Dq t.oH t.sy ["size","rope"]
 rm:iZ K mg "joins_two" "joins_two" Fz t.qX t.vG ["size","one","other"]
 CN:Wq K t.c9 "Strands.__init__" tZ t.kD t.oN ["self","town"]
 nU:jT K t.c9 "fall" "Strands.fall" yC t.nL t.sA ["self","rope","wire"]
 qi:jT K t.c9 "lay" "Strands.lay" AN t.pR t.uU ["self","rope","wire"]
 fZ:jT K t.c9 "standing" "Strands.standing" qD t.jr t.k8 ["self","rope"]
 qI:jT K t.c9 "wire_for" "Strands.wire_for" qF t.jt t.k9 ["self","rope","number"]
 nV:jT K t.c9 "live" "Strands.live" yD t.nM t.sC ["self","group"]
 JY:iZ K mg "wires_of" "wires_of" JL t.yN t.DG ["town","rope"]
 gE:iZ K mg "check_group" "check_group" AO t.pS t.uV ["group"]
 Ex:Wq K t.lW "Posted.__init__" wk t.lR t.qu ["self","letter","group"]
 sP:Wq K t.cT "Net.__init__" Dr t.oJ t.sD ["self","town","callers"]
 ig:jT K t.cT "rows" "Net.rows" JM t.ue t.yP ["self","group"]
 j8:jT K t.cT "live" "Net.live" JN t.uf t.yQ ["self","group"]
 rz:jT K t.cT "opens" "Net.opens" FA t.qY t.vH ["self","group"]
 qj:jT K t.cT "resting" "Net.resting" AQ t.mq t.pX ["self","group"]
 jW:jT K t.cT "row_at" "Net.row_at" Dt t.oK t.sE ["self","house","group"]
 nW:jT K t.cT "call" "Net.call" JO t.ug t.yR ["self","house","group"]
 yY:jT K t.cT "fall" "Net.fall" JP t.uh t.yS ["self","rope","wire"]
 CO:jT K t.cT "lay" "Net.lay" ME t.xX t.CK ["self","rope","wire"]
 CP:jT K t.cT "had" "Net.had" MF t.xY t.CL ["self","caller"]
 yZ:jT K t.cT "move" "Net.move" JQ t.um t.yU ["self","caller","house"]
 uq:My K "post" "Net.post" k7 t.j7 t.yW (.none)
 amc:Binds K t.yW ["self","sender","to"] [.none]
 Ra:Binds K t.yW ["self","sender","to"] []
 Rb:Qn K t.cT "post" t.j7
 sQ:jT K t.cT "flying" "Net.flying" Du t.r8 t.xH ["self"]
 mJ:My K "pass_on" "Net.pass_on" iC t.gD t.qf (.int 0 t.mE)
 Tr:Binds K t.qf ["self","at"] [.int 0 t.mE]
 IT:Binds K t.qf ["self","at"] []
 Bm:Qn K t.cT "pass_on" t.gD
 vJ:jT K t.cT "story" "Net.story" FD t.qZ t.vI ["self","letter"]
 IU:jT K t.cT "fate_of" "Net.fate_of" AR t.pU t.uW ["self","posted","rope","house"]
 wC:jT K t.cT "do_letter" "Net.do_letter" wm t.lT t.qv ["self","number","house","came"]
 CQ:jT K t.cT "callers_at" "Net.callers_at" t9 t.kE t.oO ["self","house","group"]
 Rc:jT K t.cT "send" "Net.send" JR t.yO t.DH ["self","number","house","rope"]
 Ag:jT K t.cT "lose_copies" "Net.lose_copies" rR t.jU t.m6 ["self","rope","wire"]
 qA:jT K t.cT "take_news" "Net.take_news" wo t.lU t.qw ["self","group"]
 kJ:jT K t.cT "take_news_of_rope" "Net.take_news_of_rope" kB t.gj t.iT ["self","rope"]
 fC:jT K t.cT "check_house" "Net.check_house" rS t.iS t.jV ["self","house"]
 b9:jT K t.cT "check_caller" "Net.check_caller" qG t.ic t.ju ["self","caller"]
 kK:jT K t.cT "check_pair" "Net.check_pair" ua t.jg t.kH ["self","sender","to"]
 Li:iZ K mg "first_rows" "first_rows" Dv t.r9 t.xJ ["town"]
 jL:iZ K mg "check_callers" "check_callers" wu t.jK t.lV ["town","callers"]
 dM:iZ K mg "read_number" "read_number" AS t.mw t.pY ["word"]
 cW:iZ K mg "read_numbers" "read_numbers" yE t.kG t.nP ["words","many"]
 rA:iZ K mg "read_town" "read_town" FE t.nO t.rj ["text"]
 oU:iZ K mg "read_names" "read_names" Dw t.oM t.sF ["words"]
 ur:iZ K mg "written" "written" MG t.CI t.HV ["told"]
 sR:iZ K mg "listed" "listed" QT t.Ga t.Ld ["numbers"]
 u0:iZ K mg "answer_call" "answer_call" AU t.gv t.pZ ["net","numbers"]
 sU:iZ K mg "answer_round" "answer_round" yF t.fK t.nQ ["net","numbers"]
 vc:iZ K mg "answer_rest" "answer_rest" AV t.gw t.p5 ["net","numbers"]
 xP:iZ K mg "answer_row" "answer_row" Dy t.iE t.sG ["net","numbers"]
 vd:iZ K mg "answer_open" "answer_open" AW t.gx t.p6 ["net","numbers"]
 vf:iZ K mg "answer_fall" "answer_fall" AX t.gy t.p7 ["net","numbers"]
 xQ:iZ K mg "answer_lay" "answer_lay" Dz t.iF t.sH ["net","numbers"]
 vg:iZ K mg "answer_move" "answer_move" AY t.gz t.p8 ["net","numbers"]
 vh:iZ K mg "answer_post" "answer_post" AZ t.gA t.qb ["net","numbers"]
 vj:iZ K mg "answer_pass" "answer_pass" A0 t.gB t.qc ["net","numbers"]
 DJ:iZ K mg "answer_run" "answer_run" DA t.jc t.xK ["net","numbers"]
 wD:iZ K mg "answer_flying" "answer_flying" wz t.fQ t.qx ["net","numbers"]
 xR:iZ K mg "answer_had" "answer_had" DB t.iG t.sI ["net","numbers"]
 sV:iZ K mg "answer_story" "answer_story" yG t.fL t.nR ["net","numbers"]
 qk:Wq K t.nS "Desk.__init__" A7 t.mz t.qd ["self","text"]
 uu:jT K t.nS "say" "Desk.say" JT t.uo t.yV ["self","row"]
 mK:iZ K mg "read_behind" "read_behind" A8 t.mC t.qe ["words","many"]
 Om:iZ K mg "_law_cell_at" "_law_cell_at" FF t.vE t.Ae ["_law_script","_law_k"]
 YK:iZ K mg "_law_good" "_law_good" QU t.Gb t.Le ["_law_cell"]
 acv:iZ K mg "_law_odd" "_law_odd" Wv t.Lc t.P6 ["_law_cell"]
 YL:iZ K mg "_law_town" "_law_town" QV t.Gc t.Lf ["_law_cell"]
 Ah:iZ K mg "_law_refusal" "_law_refusal" FG t.vF t.Af ["_law_desk","_law_row","_law_town_here"]
 MT:iZ K mg "_law_state" "_law_state" MH t.CJ t.HW ["_law_desk","_law_posted"]
 ago:iZ K mg "law" "law" mm t.YI t.YJ ["_law_script"]
 Rf:PN K t.kI
 agp:mg "Letter" = ac (.ref t.kI)
 aeQ:eF K t.kI "sender"
 aku:eF K t.kI "to"
 vm:PN K t.iU
 aiZ:mg "ToOne" = ac (.ref t.iU)
 y9:eF K t.iU "sender"
 DK:eF K t.iU "to"
 DL:PN K t.lg
 ai0:mg "ToAll" = ac (.ref t.lg)
 sW:eF K t.lg "sender"
 amd:eF K t.lg "to"
 eE:PN K t.lW
 agq:mg "Posted" = ac (.ref t.lW)
 jM:eF K t.lW "letter"
 nX:eF K t.lW "group"
 DM:eF K t.lW "old"
 uv:eF K t.lW "done_at"
 jv:eF K t.lW "deeds"
 fB:PN K t.aK
 agr:mg "Town" = ac (.ref t.aK)
 za:eF K t.aK "house_names"
 jw:eF K t.aK "rope_tuples"
 iO:eF K t.aK "size"
 Ai:eF K t.aK "many"
 d9:PN K t.c9
 aef:mg "Strands" = ac (.ref t.c9)
 nY:eF K t.c9 "town"
 iV:eF K t.c9 "upright"
 JZ:PN K t.ie
 ame:mg "Book" = ac (.ref t.ie)
 Aj:eF K t.ie "kept"
 aW:PN K t.cT
 akv:mg "Net" = ac (.ref t.cT)
 ir:eF K t.cT "town"
 jd:eF K t.cT "strands"
 o6:eF K t.cT "rows_by_group"
 Ak:eF K t.cT "books"
 kW:eF K t.cT "homes"
 jX:eF K t.cT "groups"
 DN:eF K t.cT "handed"
 eX:eF K t.cT "letters"
 jY:eF K t.cT "copies"
 J0:PN K t.nS
 ags:mg "Desk" = ac (.ref t.nS)
 DO:eF K t.nS "net"
 zb:mg "opens_opens" = ac (.ref t.DE)
 Ey:mg "resting_rows" = ac (.ref t.ud)
 Tt:Qn K t.lg "seeks" t.jq
 Rg:Qn K t.lg "number" t.iX
 ai1:Mk K t.lg t.fP
 MU:r3 K t.kI "__init__" t.fP
 YM:mg "KnotError" = ac (.ref t.gW)
 YN:cD K (.ref t.gW) (.type "BaseException")=ac ag
 jN:mg "BadTown" = ac (.ref t.dD)
 jO:xC K t.dD
 Vf:mg "NoHouse" = ac (.ref t.eN)
 Vg:xC K t.eN
 Vh:mg "NoGroup" = ac (.ref t.dc)
 Vi:xC K t.dc
 Lj:mg "NoWire" = ac (.ref t.fq)
 Lk:xC K t.fq
 Rh:mg "NoCaller" = ac (.ref t.cZ)
 Ri:xC K t.cZ
 acw:mg "Apart" = ac (.ref t.jC)
 acy:xC K t.jC
 YO:mg "NoCopy" = ac (.ref t.iN)
 YQ:xC K t.iN
 Rj:mg "NoLetter" = ac (.ref t.eV)
 Rk:xC K t.eV
 vK:mg "NoText" = ac (.ref t.eB)
 vL:xC K t.eB
 Gh:bD K (.ref t.dD) (.type "ValueError")=ac ag
 Gi:bD K (.ref t.eN) (.type "ValueError")=ac ag
 Gj:bD K (.ref t.dc) (.type "ValueError")=ac ag
 Io:bD K (.ref t.fq) (.type "ValueError")=ac ag
 EX:bD K (.ref t.cZ) (.type "ValueError")=ac ag
 J1:bD K (.ref t.jC) (.type "ValueError")=ac ag
 Ip:bD K (.ref t.iN) (.type "ValueError")=ac ag
 EY:bD K (.ref t.eV) (.type "ValueError")=ac ag
 Iq:bD K (.ref t.eB) (.type "ValueError")=ac ag
 aeg:rQ K t.dD [t.dD,t.eN,t.dc,t.fq,t.cZ,t.jC,t.iN,t.eV,t.eB] 0
 aeh:rQ K t.eN [t.dD,t.eN,t.dc,t.fq,t.cZ,t.jC,t.iN,t.eV,t.eB] 1
 aei:rQ K t.dc [t.dD,t.eN,t.dc,t.fq,t.cZ,t.jC,t.iN,t.eV,t.eB] 2
 agt:rQ K t.fq [t.dD,t.eN,t.dc,t.fq,t.cZ,t.jC,t.iN,t.eV,t.eB] 3
 aa6:rQ K t.cZ [t.dD,t.eN,t.dc,t.fq,t.cZ,t.jC,t.iN,t.eV,t.eB] 4
 ai2:rQ K t.jC [t.dD,t.eN,t.dc,t.fq,t.cZ,t.jC,t.iN,t.eV,t.eB] 5
 agu:rQ K t.iN [t.dD,t.eN,t.dc,t.fq,t.cZ,t.jC,t.iN,t.eV,t.eB] 6
 aa7:rQ K t.eV [t.dD,t.eN,t.dc,t.fq,t.cZ,t.jC,t.iN,t.eV,t.eB] 7
 agv:rQ K t.eB [t.dD,t.eN,t.dc,t.fq,t.cZ,t.jC,t.iN,t.eV,t.eB] 8
 Ir:cD K (.ref t.dD) (.ref t.gW)=ac ag
 Iu:cD K (.ref t.eN) (.ref t.gW)=ac ag
 Iv:cD K (.ref t.dc) (.ref t.gW)=ac ag
 J2:cD K (.ref t.fq) (.ref t.gW)=ac ag
 Gk:cD K (.ref t.cZ) (.ref t.gW)=ac ag
 Ll:cD K (.ref t.jC) (.ref t.gW)=ac ag
 J3:cD K (.ref t.iN) (.ref t.gW)=ac ag
 Gm:cD K (.ref t.eV) (.ref t.gW)=ac ag
 J4:cD K (.ref t.eB) (.ref t.gW)=ac ag
 Bo:mg "MOST_HOUSES" = ac (.int 10 t.uX)
 DP:mg "MOST_ROPES" = ac (.int 20 t.xM)
 WC:mg "MOST_WIRES" = ac (.int 4 t.xN)
 WD:mg "ALL_GROUPS" = ac (.int 7 t.xO)
 zc:mg "MOST_CALLERS" = ac (.int 20 t.sJ)
 lq:mg "GROUP_BITS" = ac (.ref t.fj)
 gK:∀H,dY K H t.fj [.int 1,.int 2,.int 4]
 Vj:mg "FIGURES" = ac (.str "0123456789" t.HX)
 zd:mg "MOST_FIGURES" = ac (.int 60 t.sL)
 Gn:mg "ROPE_NUMBERS" = ac (.int 5 t.sM)
 CS:mg "CALLER_NUMBERS" = ac (.int 2 t.oQ)
 HY:mg "ANSWERS" = ac (.ref t.mF)
 HZ:ib K w t.mF (io [("call",.ref t.Ba),("round",.ref t.uY),("rest",.ref t.Bb),("row",.ref t.IK),("open",.ref t.Bc),("fall",.ref t.Be),("lay",.ref t.IL),("move",.ref t.Bf),("post",.ref t.Bg),("pass",.ref t.Bh),("run",.ref t.IM),("flying",.ref t.qg),("had",.ref t.IP),("story",.ref t.uZ)])
 s_call:K6 K t.Ba 2 t.gv
 acz:K6 K t.uY 1 t.fK
 agw:K6 K t.Bb 1 t.gw
 s_row:K6 K t.IK 2 t.iE
 agx:K6 K t.Bc 1 t.gx
 agy:K6 K t.Be 2 t.gy
 akw:K6 K t.IL 2 t.iF
 agz:K6 K t.Bf 2 t.gz
 agA:K6 K t.Bg 2 t.gA
 agB:K6 K t.Bh 1 t.gB
 akx:K6 K t.IM 0 t.jc
 YR:K6 K t.qg 0 t.fQ
 aky:K6 K t.IP 1 t.iG
 acA:K6 K t.uZ 1 t.fL
 gM:mg "len" = ae
 iH:mg "isinstance" = ae
 acB:mg "int" = ae
 Gp:mg "list" = ae
 P7:mg "tuple" = ae
 sX:mg "range" = ae
 YS:mg "enumerate" = ae
 akz:mg "min" = ae
 akA:mg "set" = ae
 aoQ:mg "str" = ae
 agC:mg "all" = ae
 YT:mg "sorted" = ae
 WE:mg "ValueError" = ae
theorem Vk{a:Type}{M:List a->Prop}(h:∀b,M [b]):∀us:List a,us.length=1->M us
 |[_],_=>h _
theorem ze{a:Type}{M:List a->Prop}(h:∀c b,M [c,b]):∀us:List a,us.length=2->M us
 |[_,_],_=>h _ _
theorem OZ{a:Type}{M:List a->Prop}(h:∀d b c,M [d,b,c]):∀us:List a,us.length=3->M us
 |[_,_,_],_=>h _ _ _
theorem N5{a:Type}{M:List a->Prop}(h:∀e c d b,M [e,c,d,b]):∀us:List a,us.length=4->M us
 |[_,_,_,_],_=>h _ _ _ _
theorem px{a:Type}{M:List a->Prop}(h:∀g d f b c e,M [g,d,f,b,c,e]):∀us:List a,us.length=6->M us
 |[_,_,_,_,_,_],_=>h _ _ _ _ _ _
theorem amg{w:World}{K:af}{h:Heap}{a:Str->Option ap}(X:K.In h)(G:h.Ns ba a){pM rZ r6 pN CF yM O nG Y iX nH pO pP nJ pQ CG La YG ud YH DE CH Lb j6 vB vC lQ nK vD mh mj oH qX kD nL pR jr jt nM yN pS lR oJ ue uf qY mq oK ug uh xX xY um r8 qZ pU lT kE yO jU lU gj iS ic jg r9 jK mw kG nO oM CI Ga gv fK gw iE gx gy iF gz gA gB jc fQ iG fL mz uo mC vE Gb Lc Gc vF CJ YI:am} {YU Oo Oq Ot Gq Ou:ap} {YV Ov:Option am} {YW:Array (Option ap)} {D:am} {J5:am} {WG:Option am} {YX:Nat} {WH:Array (Option ap)} {Rl Gs Gu Gv zf Gw:ap} {Rm Gx:Option am} {Ro:Array (Option ap)} {J:am} {Bp:am} {O0:Option am} {Rp:Nat} {O6:Array (Option ap)} {T:Tok} {q:am} {s:am} {x:am} {v:am} {p:am} {r:am} {z:am} {b:am} {A:am} {o:am} {i:am} {g:am} {k:am} {d:am} {e:am} {j:am} {l:am} {n:am} {f:am} {uX:Tok} {xM:Tok} {xN:Tok} {xO:Tok} {sJ:Tok} {fj:am} {Tu:Option am} {WI:Nat} {Tv Tw Tz:Tok} {TF:Array (Option ap)} {HX:Tok} {sL:Tok} {sM:Tok} {oQ:Tok} {mF Ba uY Bb IK Bc Be IL Bf Bg Q IM qg IP uZ:am} (MW:aY K ba "Letter" = ac (ac (.ref q))) (Rq:aY K ba "ToOne" = ac (ac (.ref s))) (Rr:aY K ba "ToAll" = ac (ac (.ref x))) (MX:aY K ba "Posted" = ac (ac (.ref v))) (WJ:aY K ba "Town" = ac (ac (.ref p))) (J6:aY K ba "Strands" = ac (ac (.ref r))) (WK:aY K ba "Book" = ac (ac (.ref z))) (R:aY K ba "Net" = ac (ac (.ref b))) (WL:aY K ba "Desk" = ac (ac (.ref A))) (Bq:EM K z "__init__" "Book.__init__" AF pM) (DQ:EM K z "learn" "Book.learn" Dn rZ) (DR:EM K z "known" "Book.known" Dp r6) (Br:EM K z "forget" "Book.forget" AG pN) (MY:EG K a "targets" "targets" MA CF) (J7:EG K a "ropes_on" "ropes_on" JK yM) (wF:EM K q "__init__" "Letter.__init__" we O) (zg:EM K q "meant" "Letter.meant" yv nG) (zh:EM K q "seeks" "Letter.seeks" yw Y) (wG:EM K q "number" "Letter.number" wg iX) (zj:EM K s "__init__" "ToOne.__init__" yx nH) (Bs:EM K s "meant" "ToOne.meant" AH pO) (Bt:EM K s "seeks" "ToOne.seeks" AI pP) (zk:EM K s "number" "ToOne.number" yy nJ) (Bu:EM K x "meant" "ToAll.meant" AJ pQ) (MZ:EG K a "own_row" "own_row" MB CG) (WM:EG K a "offer" "offer" Ws La) (agD:EG K a "due" "due" mr YG) (M0:EG K a "resting" "resting" MC ud) (agE:EG K a "ups" "ups" mn YH) (WN:EG K a "opens" "opens" Wt DE) (M2:EG K a "open_at" "open_at" MD CH) (WO:EG K a "up_of" "up_of" Wu Lb) (Bv:EM K p "__init__" "Town.__init__" AK j6) (Gz:EM K p "name" "Town.name" Fw vB) (GA:EM K p "rope" "Town.rope" Fx vC) (wH:EM K p "ropes_at" "Town.ropes_at" wj lQ) (zl:EM K p "far_end" "Town.far_end" yz nK) (GB:EM K p "lets" "Town.lets" Fy vD) (Bw:EG K a "check_names" "check_names" AL mh) (Bx:EG K a "check_ropes" "check_ropes" AM mj) (DS:EG K a "check_rope" "check_rope" Dq oH) (GC:EG K a "joins_two" "joins_two" Fz qX) (ux:EM K r "__init__" "Strands.__init__" tZ kD) (zm:EM K r "fall" "Strands.fall" yC nL) (By:EM K r "lay" "Strands.lay" AN pR) (qJ:EM K r "standing" "Strands.standing" qD jr) (qK:EM K r "wire_for" "Strands.wire_for" qF jt) (zo:EM K r "live" "Strands.live" yD nM) (J8:EG K a "wires_of" "wires_of" JL yN) (BA:EG K a "check_group" "check_group" AO pS) (wI:EM K v "__init__" "Posted.__init__" wk lR) (DT:EM K b "__init__" "Net.__init__" Dr oJ) (J9:EM K b "rows" "Net.rows" JM ue) (Ka:EM K b "live" "Net.live" JN uf) (GD:EM K b "opens" "Net.opens" FA qY) (BB:EM K b "resting" "Net.resting" AQ mq) (DU:EM K b "row_at" "Net.row_at" Dt oK) (Kc:EM K b "call" "Net.call" JO ug) (Kd:EM K b "fall" "Net.fall" JP uh) (M3:EM K b "lay" "Net.lay" ME xX) (M4:EM K b "had" "Net.had" MF xY) (Ke:EM K b "move" "Net.move" JQ um) (Kf:aO K (.ref b) "post" = ac (ac (.ref D))) (Kg:PySem.W.isFn K (.ref D)=ag) (Kh:K.lookup D=ac ⟨YU,YV,.func (gm "post" "Net.post" (mY k7) (gZ k7) (aA k7) (.ref J5) Oo Oq Ot Ov Gq Ou),YW⟩) (Kl:mL K Gq "Net.post" = ag) (DV:dN K (.ref D)=ag) (GF:K.lookup J5=ac ⟨.type "tuple",WG,.seq #[.none] YX,WH⟩) (DW:EM K b "flying" "Net.flying" Du r8) (BC:aO K (.ref b) "pass_on" = ac (ac (.ref J))) (BD:PySem.W.isFn K (.ref J)=ag) (BE:K.lookup J=ac ⟨Rl,Rm,.func (gm "pass_on" "Net.pass_on" (mY iC) (gZ iC) (aA iC) (.ref Bp) Gs Gu Gv Gx zf Gw),Ro⟩) (BF:mL K zf "Net.pass_on" = ag) (vn:dN K (.ref J)=ag) (zp:K.lookup Bp=ac ⟨.type "tuple",O0,.seq #[.int 0 T] Rp,O6⟩) (GG:EM K b "story" "Net.story" FD qZ) (BG:EM K b "fate_of" "Net.fate_of" AR pU) (wJ:EM K b "do_letter" "Net.do_letter" wm lT) (uy:EM K b "callers_at" "Net.callers_at" t9 kE) (Km:EM K b "send" "Net.send" JR yO) (sZ:EM K b "lose_copies" "Net.lose_copies" rR jU) (wK:EM K b "take_news" "Net.take_news" wo lU) (kM:EM K b "take_news_of_rope" "Net.take_news_of_rope" kB gj) (tw:EM K b "check_house" "Net.check_house" rS iS) (qL:EM K b "check_caller" "Net.check_caller" qG ic) (uz:EM K b "check_pair" "Net.check_pair" ua jg) (DX:EG K a "first_rows" "first_rows" Dv r9) (wL:EG K a "check_callers" "check_callers" wu jK) (BH:EG K a "read_number" "read_number" AS mw) (zq:EG K a "read_numbers" "read_numbers" yE kG) (GH:EG K a "read_town" "read_town" FE nO) (DY:EG K a "read_names" "read_names" Dw oM) (M5:EG K a "written" "written" MG CI) (Rt:EG K a "listed" "listed" QT Ga) (BI:EG K a "answer_call" "answer_call" AU gv) (zu:EG K a "answer_round" "answer_round" yF fK) (BJ:EG K a "answer_rest" "answer_rest" AV gw) (DZ:EG K a "answer_row" "answer_row" Dy iE) (BK:EG K a "answer_open" "answer_open" AW gx) (BL:EG K a "answer_fall" "answer_fall" AX gy) (D3:EG K a "answer_lay" "answer_lay" Dz iF) (BN:EG K a "answer_move" "answer_move" AY gz) (BO:EG K a "answer_post" "answer_post" AZ gA) (BP:EG K a "answer_pass" "answer_pass" A0 gB) (D4:EG K a "answer_run" "answer_run" DA jc) (wM:EG K a "answer_flying" "answer_flying" wz fQ) (D5:EG K a "answer_had" "answer_had" DB iG) (zw:EG K a "answer_story" "answer_story" yG fL) (BQ:EM K A "__init__" "Desk.__init__" A7 mz) (Kn:EM K A "say" "Desk.say" JT uo) (BR:EG K a "read_behind" "read_behind" A8 mC) (GI:EG K a "_law_cell_at" "_law_cell_at" FF vE) (Ru:EG K a "_law_good" "_law_good" QU Gb) (WQ:EG K a "_law_odd" "_law_odd" Wv Lc) (Rv:EG K a "_law_town" "_law_town" QV Gc) (GJ:EG K a "_law_refusal" "_law_refusal" FG vF) (M6:EG K a "_law_state" "_law_state" MH CJ) (agF:EG K a "law" "law" mm YI) (GK:EC K q) (uA:aO K (.ref q) "sender" = ac ae) (D6:aO K (.ref q) "to" = ac ae) (Lm:EC K s) (wN:aO K (.ref s) "sender" = ac ae) (GL:aO K (.ref s) "to" = ac ae) (Ln:EC K x) (wO:aO K (.ref x) "sender" = ac ae) (GN:aO K (.ref x) "to" = ac ae) (GO:EC K v) (uB:aO K (.ref v) "letter" = ac ae) (wQ:aO K (.ref v) "group" = ac ae) (BS:aO K (.ref v) "old" = ac ae) (tD:aO K (.ref v) "done_at" = ac ae) (wR:aO K (.ref v) "deeds" = ac ae) (Rx:EC K p) (o8:aO K (.ref p) "house_names" = ac ae) (pe:aO K (.ref p) "rope_tuples" = ac ae) (D7:aO K (.ref p) "size" = ac ae) (D8:aO K (.ref p) "many" = ac ae) (CU:EC K r) (wU:aO K (.ref r) "town" = ac ae) (qM:aO K (.ref r) "upright" = ac ae) (U:EC K z) (D9:aO K (.ref z) "kept" = ac ae) (YY:EC K b) (GP:aO K (.ref b) "town" = ac ae) (zx:aO K (.ref b) "strands" = ac ae) (nZ:aO K (.ref b) "rows_by_group" = ac ae) (Ea:aO K (.ref b) "books" = ac ae) (Eb:aO K (.ref b) "homes" = ac ae) (BU:aO K (.ref b) "groups" = ac ae) (BV:aO K (.ref b) "handed" = ac ae) (zy:aO K (.ref b) "letters" = ac ae) (BW:aO K (.ref b) "copies" = ac ae) (Rz:EC K A) (GQ:aO K (.ref A) "net" = ac ae) (zA:aY K ba "opens_opens" = ac (ac (.ref DE))) (wV:aY K ba "resting_rows" = ac (ac (.ref ud))) (zB:aO K (.ref x) "seeks" = ac (ac (.ref Y))) (wW:aO K (.ref x) "number" = ac (ac (.ref iX))) (RA:aO K (.ref x) "__init__" = ac (ac (.ref O))) (uC:PySem.W.specialIn K (.ref q) "__getattribute__" = ac (ac (.builtin "type.__getattribute__"))) (uD:PySem.W.readsIn K q (.type "type")=ag) (uE:PySem.W.findCls K (.ref q) (.type "type") "__init__" = ac (.val (.ref O))) (Ec:aY K ba "KnotError" = ac (ac (.ref o))) (Ed:jf K (.ref o) (.type "BaseException")=ac ag) (u:ni K o=ag) (y:PySem.W.typeIn K (.ref o)=ac (.type "type")) (Ko:aY K ba "BadTown" = ac (ac (.ref i))) (Kp:xC K i) (Kq:aY K ba "NoHouse" = ac (ac (.ref g))) (Kr:xC K g) (Ks:aY K ba "NoGroup" = ac (ac (.ref k))) (Ku:xC K k) (M7:aY K ba "NoWire" = ac (ac (.ref d))) (M8:xC K d) (GR:aY K ba "NoCaller" = ac (ac (.ref e))) (GS:xC K e) (RC:aY K ba "Apart" = ac (ac (.ref j))) (RD:xC K j) (M9:aY K ba "NoCopy" = ac (ac (.ref l))) (Na:xC K l) (GU:aY K ba "NoLetter" = ac (ac (.ref n))) (GV:xC K n) (Nb:aY K ba "NoText" = ac (ac (.ref f))) (Nc:xC K f) (mR:bD K (.ref i) (.type "ValueError")=ac ag) (mS:bD K (.ref g) (.type "ValueError")=ac ag) (mT:bD K (.ref k) (.type "ValueError")=ac ag) (n6:bD K (.ref d) (.type "ValueError")=ac ag) (lz:bD K (.ref e) (.type "ValueError")=ac ag) (pq:bD K (.ref j) (.type "ValueError")=ac ag) (n9:bD K (.ref l) (.type "ValueError")=ac ag) (lA:bD K (.ref n) (.type "ValueError")=ac ag) (oh:bD K (.ref f) (.type "ValueError")=ac ag) (Kv:rQ K i [i,g,k,d,e,j,l,n,f] 0) (Kw:rQ K g [i,g,k,d,e,j,l,n,f] 1) (Ky:rQ K k [i,g,k,d,e,j,l,n,f] 2) (Nd:rQ K d [i,g,k,d,e,j,l,n,f] 3) (GW:rQ K e [i,g,k,d,e,j,l,n,f] 4) (RE:rQ K j [i,g,k,d,e,j,l,n,f] 5) (Ng:rQ K l [i,g,k,d,e,j,l,n,f] 6) (GX:rQ K n [i,g,k,d,e,j,l,n,f] 7) (Nh:rQ K f [i,g,k,d,e,j,l,n,f] 8) (oi:jf K (.ref i) (.ref o)=ac ag) (oj:jf K (.ref g) (.ref o)=ac ag) (om:jf K (.ref k) (.ref o)=ac ag) (pA:jf K (.ref d) (.ref o)=ac ag) (mU:jf K (.ref e) (.ref o)=ac ag) (qN:jf K (.ref j) (.ref o)=ac ag) (pB:jf K (.ref l) (.ref o)=ac ag) (mV:jf K (.ref n) (.ref o)=ac ag) (pC:jf K (.ref f) (.ref o)=ac ag) (BX:aY K ba "MOST_HOUSES" = ac (ac (.int 10 uX))) (Ef:aY K ba "MOST_ROPES" = ac (ac (.int 20 xM))) (Eg:aY K ba "MOST_WIRES" = ac (ac (.int 4 xN))) (Eh:aY K ba "ALL_GROUPS" = ac (ac (.int 7 xO))) (zC:aY K ba "MOST_CALLERS" = ac (ac (.int 20 sJ))) (Ei:aY K ba "GROUP_BITS" = ac (ac (.ref fj))) (Ej:K.lookup fj=ac ⟨.type "tuple",Tu,.seq #[.int 1 Tv,.int 2 Tw,.int 4 Tz] WI,TF⟩) (Ni:aY K ba "FIGURES" = ac (ac (.str "0123456789" HX))) (zD:aY K ba "MOST_FIGURES" = ac (ac (.int 60 sL))) (zE:aY K ba "ROPE_NUMBERS" = ac (ac (.int 5 sM))) (uF:aY K ba "CALLER_NUMBERS" = ac (ac (.int 2 oQ))) (Nj:aY K ba "ANSWERS" = ac (ac (.ref mF))) (Nk:ib K w mF (io [("call",.ref Ba),("round",.ref uY),("rest",.ref Bb),("row",.ref IK),("open",.ref Bc),("fall",.ref Be),("lay",.ref IL),("move",.ref Bf),("post",.ref Bg),("pass",.ref Q),("run",.ref IM),("flying",.ref qg),("had",.ref IP),("story",.ref uZ)])) (WR:K6 K Ba 2 gv) (RG:K6 K uY 1 fK) (WS:K6 K Bb 1 gw) (P:K6 K IK 2 iE) (WT:K6 K Bc 1 gx) (WU:K6 K Be 2 gy) (aba:K6 K IL 2 iF) (WV:K6 K Bf 2 gz) (WW:K6 K Bg 2 gA) (WX:K6 K Q 1 gB) (abb:K6 K IM 0 jc) (Nl:K6 K qg 0 fQ) (abc:K6 K IP 1 iG) (RH:K6 K uZ 1 fL) (agG:aY K ba "len" = ac ae) (Ek:aY K ba "isinstance" = ac ae) (agH:aY K ba "int" = ac ae) (abd:aY K ba "list" = ac ae) (WY:aY K ba "tuple" = ac ae) (WZ:aY K ba "range" = ac ae) (GY:aY K ba "enumerate" = ac ae) (agI:aY K ba "min" = ac ae) (agJ:aY K ba "set" = ac ae) (agK:aY K ba "str" = ac ae) (agL:aY K ba "all" = ac ae) (RI:aY K ba "sorted" = ac ae) (El:aY K ba "ValueError" = ac ae):∃t,Txt K a w t:=by
 obtain⟨uP,IW,IX⟩:=Bq;obtain⟨xF,Lo,W0⟩:=DQ;obtain⟨xG,Lp,W1⟩:=DR;obtain⟨uQ,IY,TH⟩:=Br;obtain⟨HQ,Vl,V⟩:=MY;obtain⟨DF,RJ,abe⟩:=J7;obtain⟨qp,Ez,N⟩:=wF;obtain⟨se,GZ,RK⟩:=zg;obtain⟨sf,G0,zF⟩:=zh;obtain⟨qq,EA,wX⟩:=wG;obtain⟨sj,G1,G2⟩:=zj;obtain⟨uR,IZ,TM⟩:=Bs;obtain⟨uS,Ja,TN⟩:=Bt;obtain⟨sq,G3,RL⟩:=zk;obtain⟨uT,Jb,TR⟩:=Bu;obtain⟨HR,Vm,aek⟩:=MZ;obtain⟨P1,F,ai3⟩:=WM;obtain⟨acr,I,aoR⟩:=agD;obtain⟨HS,Vn,ael⟩:=M0;obtain⟨acs,E,aoS⟩:=agE;obtain⟨P4,M,ai4⟩:=WN;obtain⟨HU,Vo,aem⟩:=M2;obtain⟨P5,B,ai5⟩:=WO;obtain⟨mD,Jc,Jd⟩:=Bv;obtain⟨Aa,Ow,YZ⟩:=Gz;obtain⟨Ab,Ox,Y0⟩:=GA;obtain⟨qt,EB,O9⟩:=wH;obtain⟨sr,G4,RO⟩:=zl;obtain⟨Ac,Oz,Y3⟩:=GB;obtain⟨pV,Je,TU⟩:=Bw;obtain⟨pW,Jf,TV⟩:=Bx;obtain⟨sy,Lq,W6⟩:=DS;obtain⟨vG,OA,Y4⟩:=GC;obtain⟨oN,CV,CY⟩:=ux;obtain⟨sA,G5,RP⟩:=zm;obtain⟨uU,Jg,TY⟩:=By;obtain⟨k8,zG,Kz⟩:=qJ;obtain⟨k9,zH,KA⟩:=qK;obtain⟨sC,G6,RQ⟩:=zo;obtain⟨DG,RS,abf⟩:=J8;obtain⟨uV,Jh,TZ⟩:=BA;obtain⟨qu,ED,EE⟩:=wI;obtain⟨sD,Lr,Ls⟩:=DT;obtain⟨yP,RT,abg⟩:=J9;obtain⟨yQ,RU,abh⟩:=Ka;obtain⟨vH,OB,Y5⟩:=GD;obtain⟨pX,Ji,T4⟩:=BB;obtain⟨sE,Lu,W7⟩:=DU;obtain⟨yR,RV,abi⟩:=Kc;obtain⟨yS,RW,abj⟩:=Kd;obtain⟨CK,Vp,aen⟩:=M3;obtain⟨CL,Vq,aeo⟩:=M4;obtain⟨yU,RX,abk⟩:=Ke;have uq:=Bz (st:=k7) Kh Kl DV GF rfl;obtain⟨xH,Lv,W8⟩:=DW;have mJ:=Bz (st:=iC) BE BF vn zp rfl;obtain⟨vI,OC,Y6⟩:=GG;obtain⟨uW,Jj,T5⟩:=BG;obtain⟨qv,EH,Pa⟩:=wJ;obtain⟨oO,CZ,Nm⟩:=uy;obtain⟨DH,RY,S⟩:=Km;obtain⟨m6,Al,Lw⟩:=sZ;obtain⟨qw,EI,Pb⟩:=wK;obtain⟨iT,rB,C0⟩:=kM;obtain⟨jV,Am,Lx⟩:=tw;obtain⟨ju,zI,KC⟩:=qL;obtain⟨kH,C1,Np⟩:=uz;obtain⟨xJ,Ly,W9⟩:=DX;obtain⟨lV,EJ,Pc⟩:=wL;obtain⟨pY,Jk,T6⟩:=BH;obtain⟨nP,G7,RZ⟩:=zq;obtain⟨rj,OD,Y7⟩:=GH;obtain⟨sF,Lz,Xa⟩:=DY;obtain⟨HV,Vr,aep⟩:=M5;obtain⟨Ld,Y8,agM⟩:=Rt;obtain⟨pZ,Jl,T8⟩:=BI;obtain⟨nQ,G8,R0⟩:=zu;obtain⟨p5,Jm,T9⟩:=BJ;obtain⟨sG,LA,Xb⟩:=DZ;obtain⟨p6,Jo,Ua⟩:=BK;obtain⟨p7,Jp,Ub⟩:=BL;obtain⟨sH,LB,Xc⟩:=D3;obtain⟨p8,Jq,Uc⟩:=BN;obtain⟨qb,Jr,Ud⟩:=BO;obtain⟨qc,Js,Ue⟩:=BP;obtain⟨xK,LC,Xd⟩:=D4;obtain⟨qx,EK,Pd⟩:=wM;obtain⟨sI,LD,Xe⟩:=D5;obtain⟨nR,G9,R1⟩:=zw;obtain⟨qd,Jt,Ju⟩:=BQ;obtain⟨yV,R3,abm⟩:=Kn;obtain⟨qe,Jv,Ug⟩:=BR;obtain⟨Ae,OE,Y9⟩:=GI;obtain⟨Le,Za,agN⟩:=Ru;obtain⟨P6,L,Z⟩:=WQ;obtain⟨Lf,Zb,agO⟩:=Rv;obtain⟨Af,OF,Zc⟩:=GJ;obtain⟨HW,Vs,aeq⟩:=M6;obtain⟨YJ,C,aoT⟩:=agF;exact⟨⟨pM,rZ,r6,pN,CF,yM,O,nG,Y,iX,nH,pO,pP,nJ,pQ,CG,La,YG,ud,YH,DE,CH,Lb,j6,vB,vC,lQ,nK,vD,mh,mj,oH,qX,kD,nL,pR,jr,jt,nM,yN,pS,lR,oJ,ue,uf,qY,mq,oK,ug,uh,xX,xY,um,r8,qZ,pU,lT,kE,yO,jU,lU,gj,iS,ic,jg,r9,jK,mw,kG,nO,oM,CI,Ga,gv,fK,gw,iE,gx,gy,iF,gz,gA,gB,jc,fQ,iG,fL,mz,uo,mC,vE,Gb,Lc,Gc,vF,CJ,YI,uP,xF,xG,uQ,HQ,DF,qp,se,sf,qq,sj,uR,uS,sq,uT,HR,P1,acr,HS,acs,P4,HU,P5,mD,Aa,Ab,qt,sr,Ac,pV,pW,sy,vG,oN,sA,uU,k8,k9,sC,DG,uV,qu,sD,yP,yQ,vH,pX,sE,yR,yS,CK,CL,yU,xH,vI,uW,qv,oO,DH,m6,qw,iT,jV,ju,kH,xJ,lV,pY,nP,rj,sF,HV,Ld,pZ,nQ,p5,sG,p6,p7,sH,p8,qb,qc,xK,qx,sI,nR,qd,yV,qe,Ae,Le,P6,Lf,Af,HW,YJ,D,(gm "post" "Net.post" (mY k7) (gZ k7) (aA k7) (.ref J5) Oo Oq Ot Ov Gq Ou),J,(gm "pass_on" "Net.pass_on" (mY iC) (gZ iC) (aA iC) (.ref Bp) Gs Gu Gv Gx zf Gw),T,q,s,x,v,p,r,z,b,A,o,i,g,k,d,e,j,l,n,f,uX,xM,xN,xO,sJ,fj,HX,sL,sM,oQ,mF,Ba,uY,Bb,IK,Bc,Be,IL,Bf,Bg,Q,IM,qg,IP,uZ⟩,⟨⟨IW,IW.binds λ_ _ _ _ _ _=>Vk λ_=>rfl,⟨U.ry,IX.at_,IX.fn,U.kc⟩⟩,
  ⟨Lo,Lo.binds λ_ _ _ _ _ _=>N5 λ_ _ _ _=>rfl,W0⟩,
  ⟨Lp,Lp.binds λ_ _ _ _ _ _=>OZ λ_ _ _=>rfl,W1⟩,
  ⟨IY,IY.binds λ_ _ _ _ _ _=>Vk λ_=>rfl,TH⟩,
  ⟨Vl,Vl.binds λ_ _ _ _ _ _=>px λ_ _ _ _ _ _=>rfl,V⟩,
  ⟨RJ,RJ.binds λ_ _ _ _ _ _=>px λ_ _ _ _ _ _=>rfl,abe⟩,
  ⟨Ez,Ez.binds λ_ _ _ _ _ _=>ze λ_ _=>rfl,⟨GK.ry,N.at_,N.fn,GK.kc⟩⟩,
  ⟨GZ,GZ.binds λ_ _ _ _ _ _=>ze λ_ _=>rfl,RK⟩,
  ⟨G0,G0.binds λ_ _ _ _ _ _=>Vk λ_=>rfl,zF⟩,
  ⟨EA,EA.binds λ_ _ _ _ _ _=>Vk λ_=>rfl,wX⟩,
  ⟨G1,G1.binds λ_ _ _ _ _ _=>OZ λ_ _ _=>rfl,⟨Lm.ry,G2.at_,G2.fn,Lm.kc⟩⟩,
  ⟨IZ,IZ.binds λ_ _ _ _ _ _=>ze λ_ _=>rfl,TM⟩,
  ⟨Ja,Ja.binds λ_ _ _ _ _ _=>Vk λ_=>rfl,TN⟩,
  ⟨G3,G3.binds λ_ _ _ _ _ _=>Vk λ_=>rfl,RL⟩,
  ⟨Jb,Jb.binds λ_ _ _ _ _ _=>ze λ_ _=>rfl,TR⟩,
  ⟨Vm,Vm.binds λ_ _ _ _ _ _=>ze λ_ _=>rfl,aek⟩,
  ⟨F,F.binds λ_ _ _ _ _ _=>OZ λ_ _ _=>rfl,ai3⟩,
  ⟨I,I.binds λ_ _ _ _ _ _=>N5 λ_ _ _ _=>rfl,aoR⟩,
  ⟨Vn,Vn.binds λ_ _ _ _ _ _=>OZ λ_ _ _=>rfl,ael⟩,
  ⟨E,E.binds λ_ _ _ _ _ _=>OZ λ_ _ _=>rfl,aoS⟩,
  ⟨M,M.binds λ_ _ _ _ _ _=>OZ λ_ _ _=>rfl,ai4⟩,
  ⟨Vo,Vo.binds λ_ _ _ _ _ _=>N5 λ_ _ _ _=>rfl,aem⟩,
  ⟨B,B.binds λ_ _ _ _ _ _=>N5 λ_ _ _ _=>rfl,ai5⟩,
  ⟨Jc,Jc.binds λ_ _ _ _ _ _=>OZ λ_ _ _=>rfl,⟨Rx.ry,Jd.at_,Jd.fn,Rx.kc⟩⟩,
  ⟨Ow,Ow.binds λ_ _ _ _ _ _=>ze λ_ _=>rfl,YZ⟩,
  ⟨Ox,Ox.binds λ_ _ _ _ _ _=>ze λ_ _=>rfl,Y0⟩,
  ⟨EB,EB.binds λ_ _ _ _ _ _=>ze λ_ _=>rfl,O9⟩,
  ⟨G4,G4.binds λ_ _ _ _ _ _=>OZ λ_ _ _=>rfl,RO⟩,
  ⟨Oz,Oz.binds λ_ _ _ _ _ _=>OZ λ_ _ _=>rfl,Y3⟩,
  ⟨Je,Je.binds λ_ _ _ _ _ _=>Vk λ_=>rfl,TU⟩,
  ⟨Jf,Jf.binds λ_ _ _ _ _ _=>ze λ_ _=>rfl,TV⟩,
  ⟨Lq,Lq.binds λ_ _ _ _ _ _=>ze λ_ _=>rfl,W6⟩,
  ⟨OA,OA.binds λ_ _ _ _ _ _=>OZ λ_ _ _=>rfl,Y4⟩,
  ⟨CV,CV.binds λ_ _ _ _ _ _=>ze λ_ _=>rfl,⟨CU.ry,CY.at_,CY.fn,CU.kc⟩⟩,
  ⟨G5,G5.binds λ_ _ _ _ _ _=>OZ λ_ _ _=>rfl,RP⟩,
  ⟨Jg,Jg.binds λ_ _ _ _ _ _=>OZ λ_ _ _=>rfl,TY⟩,
  ⟨zG,zG.binds λ_ _ _ _ _ _=>ze λ_ _=>rfl,Kz⟩,
  ⟨zH,zH.binds λ_ _ _ _ _ _=>OZ λ_ _ _=>rfl,KA⟩,
  ⟨G6,G6.binds λ_ _ _ _ _ _=>ze λ_ _=>rfl,RQ⟩,
  ⟨RS,RS.binds λ_ _ _ _ _ _=>ze λ_ _=>rfl,abf⟩,
  ⟨Jh,Jh.binds λ_ _ _ _ _ _=>Vk λ_=>rfl,TZ⟩,
  ⟨ED,ED.binds λ_ _ _ _ _ _=>OZ λ_ _ _=>rfl,⟨GO.ry,EE.at_,EE.fn,GO.kc⟩⟩,
  ⟨Lr,Lr.binds λ_ _ _ _ _ _=>OZ λ_ _ _=>rfl,⟨YY.ry,Ls.at_,Ls.fn,YY.kc⟩⟩,
  ⟨RT,RT.binds λ_ _ _ _ _ _=>ze λ_ _=>rfl,abg⟩,
  ⟨RU,RU.binds λ_ _ _ _ _ _=>ze λ_ _=>rfl,abh⟩,
  ⟨OB,OB.binds λ_ _ _ _ _ _=>ze λ_ _=>rfl,Y5⟩,
  ⟨Ji,Ji.binds λ_ _ _ _ _ _=>ze λ_ _=>rfl,T4⟩,
  ⟨Lu,Lu.binds λ_ _ _ _ _ _=>OZ λ_ _ _=>rfl,W7⟩,
  ⟨RV,RV.binds λ_ _ _ _ _ _=>OZ λ_ _ _=>rfl,abi⟩,
  ⟨RW,RW.binds λ_ _ _ _ _ _=>OZ λ_ _ _=>rfl,abj⟩,
  ⟨Vp,Vp.binds λ_ _ _ _ _ _=>OZ λ_ _ _=>rfl,aen⟩,
  ⟨Vq,Vq.binds λ_ _ _ _ _ _=>ze λ_ _=>rfl,aeo⟩,
  ⟨RX,RX.binds λ_ _ _ _ _ _=>OZ λ_ _ _=>rfl,abk⟩,
  uq,
  (uq.binds (ps:=["self","sender","to"]) (ds:=[.none]) (m:=2) rfl λ_ _ _ _ _ _ _=>ze λ_ _=>⟨12⟩),
  (uq.binds (ps:=["self","sender","to"]) (ds:=[]) (m:=3) rfl λ_ _ _ _ _ _ _=>OZ λ_ _ _=>⟨12⟩),
  ⟨Kf,Kg,DV⟩,
  ⟨Lv,Lv.binds λ_ _ _ _ _ _=>Vk λ_=>rfl,W8⟩,
  mJ,
  (mJ.binds (ps:=["self","at"]) (ds:=[.int 0 T]) (m:=1) rfl λ_ _ _ _ _ _ _=>Vk λ_=>⟨12⟩),
  (mJ.binds (ps:=["self","at"]) (ds:=[]) (m:=2) rfl λ_ _ _ _ _ _ _=>ze λ_ _=>⟨12⟩),
  ⟨BC,BD,vn⟩,
  ⟨OC,OC.binds λ_ _ _ _ _ _=>ze λ_ _=>rfl,Y6⟩,
  ⟨Jj,Jj.binds λ_ _ _ _ _ _=>N5 λ_ _ _ _=>rfl,T5⟩,
  ⟨EH,EH.binds λ_ _ _ _ _ _=>N5 λ_ _ _ _=>rfl,Pa⟩,
  ⟨CZ,CZ.binds λ_ _ _ _ _ _=>OZ λ_ _ _=>rfl,Nm⟩,
  ⟨RY,RY.binds λ_ _ _ _ _ _=>N5 λ_ _ _ _=>rfl,S⟩,
  ⟨Al,Al.binds λ_ _ _ _ _ _=>OZ λ_ _ _=>rfl,Lw⟩,
  ⟨EI,EI.binds λ_ _ _ _ _ _=>ze λ_ _=>rfl,Pb⟩,
  ⟨rB,rB.binds λ_ _ _ _ _ _=>ze λ_ _=>rfl,C0⟩,
  ⟨Am,Am.binds λ_ _ _ _ _ _=>ze λ_ _=>rfl,Lx⟩,
  ⟨zI,zI.binds λ_ _ _ _ _ _=>ze λ_ _=>rfl,KC⟩,
  ⟨C1,C1.binds λ_ _ _ _ _ _=>OZ λ_ _ _=>rfl,Np⟩,
  ⟨Ly,Ly.binds λ_ _ _ _ _ _=>Vk λ_=>rfl,W9⟩,
  ⟨EJ,EJ.binds λ_ _ _ _ _ _=>ze λ_ _=>rfl,Pc⟩,
  ⟨Jk,Jk.binds λ_ _ _ _ _ _=>Vk λ_=>rfl,T6⟩,
  ⟨G7,G7.binds λ_ _ _ _ _ _=>ze λ_ _=>rfl,RZ⟩,
  ⟨OD,OD.binds λ_ _ _ _ _ _=>Vk λ_=>rfl,Y7⟩,
  ⟨Lz,Lz.binds λ_ _ _ _ _ _=>Vk λ_=>rfl,Xa⟩,
  ⟨Vr,Vr.binds λ_ _ _ _ _ _=>Vk λ_=>rfl,aep⟩,
  ⟨Y8,Y8.binds λ_ _ _ _ _ _=>Vk λ_=>rfl,agM⟩,
  ⟨Jl,Jl.binds λ_ _ _ _ _ _=>ze λ_ _=>rfl,T8⟩,
  ⟨G8,G8.binds λ_ _ _ _ _ _=>ze λ_ _=>rfl,R0⟩,
  ⟨Jm,Jm.binds λ_ _ _ _ _ _=>ze λ_ _=>rfl,T9⟩,
  ⟨LA,LA.binds λ_ _ _ _ _ _=>ze λ_ _=>rfl,Xb⟩,
  ⟨Jo,Jo.binds λ_ _ _ _ _ _=>ze λ_ _=>rfl,Ua⟩,
  ⟨Jp,Jp.binds λ_ _ _ _ _ _=>ze λ_ _=>rfl,Ub⟩,
  ⟨LB,LB.binds λ_ _ _ _ _ _=>ze λ_ _=>rfl,Xc⟩,
  ⟨Jq,Jq.binds λ_ _ _ _ _ _=>ze λ_ _=>rfl,Uc⟩,
  ⟨Jr,Jr.binds λ_ _ _ _ _ _=>ze λ_ _=>rfl,Ud⟩,
  ⟨Js,Js.binds λ_ _ _ _ _ _=>ze λ_ _=>rfl,Ue⟩,
  ⟨LC,LC.binds λ_ _ _ _ _ _=>ze λ_ _=>rfl,Xd⟩,
  ⟨EK,EK.binds λ_ _ _ _ _ _=>ze λ_ _=>rfl,Pd⟩,
  ⟨LD,LD.binds λ_ _ _ _ _ _=>ze λ_ _=>rfl,Xe⟩,
  ⟨G9,G9.binds λ_ _ _ _ _ _=>ze λ_ _=>rfl,R1⟩,
  ⟨Jt,Jt.binds λ_ _ _ _ _ _=>ze λ_ _=>rfl,⟨Rz.ry,Ju.at_,Ju.fn,Rz.kc⟩⟩,
  ⟨R3,R3.binds λ_ _ _ _ _ _=>ze λ_ _=>rfl,abm⟩,
  ⟨Jv,Jv.binds λ_ _ _ _ _ _=>ze λ_ _=>rfl,Ug⟩,
  ⟨OE,OE.binds λ_ _ _ _ _ _=>ze λ_ _=>rfl,Y9⟩,
  ⟨Za,Za.binds λ_ _ _ _ _ _=>Vk λ_=>rfl,agN⟩,
  ⟨L,L.binds λ_ _ _ _ _ _=>Vk λ_=>rfl,Z⟩,
  ⟨Zb,Zb.binds λ_ _ _ _ _ _=>Vk λ_=>rfl,agO⟩,
  ⟨OF,OF.binds λ_ _ _ _ _ _=>OZ λ_ _ _=>rfl,Zc⟩,
  ⟨Vs,Vs.binds λ_ _ _ _ _ _=>ze λ_ _=>rfl,aeq⟩,
  ⟨C,C.binds λ_ _ _ _ _ _=>Vk λ_=>rfl,aoT⟩,
  GK.c,
  (bJ X G MW),
  uA,
  D6,
  Lm.c,
  (bJ X G Rq),
  wN,
  GL,
  Ln.c,
  (bJ X G Rr),
  wO,
  GN,
  GO.c,
  (bJ X G MX),
  uB,
  wQ,
  BS,
  tD,
  wR,
  Rx.c,
  (bJ X G WJ),
  o8,
  pe,
  D7,
  D8,
  CU.c,
  (bJ X G J6),
  wU,
  qM,
  U.c,
  (bJ X G WK),
  D9,
  YY.c,
  (bJ X G R),
  GP,
  zx,
  nZ,
  Ea,
  Eb,
  BU,
  BV,
  zy,
  BW,
  Rz.c,
  (bJ X G WL),
  GQ,
  (bJ X G zA),
  (bJ X G wV),
  ⟨zB,zF.fn,zF.kp⟩,
  ⟨wW,wX.fn,wX.kp⟩,
  ⟨Ln.ry,RA,N.fn,Ln.kc⟩,
  ⟨uC,uD,uE,N.kp⟩,
  (bJ X G Ec),
  (aaG Ed),
  (bJ X G Ko),
  Kp,
  (bJ X G Kq),
  Kr,
  (bJ X G Ks),
  Ku,
  (bJ X G M7),
  M8,
  (bJ X G GR),
  GS,
  (bJ X G RC),
  RD,
  (bJ X G M9),
  Na,
  (bJ X G GU),
  GV,
  (bJ X G Nb),
  Nc,
  mR,
  mS,
  mT,
  n6,
  lz,
  pq,
  n9,
  lA,
  oh,
  Kv,
  Kw,
  Ky,
  Nd,
  GW,
  RE,
  Ng,
  GX,
  Nh,
  (oA u y oi),
  (oA u y oj),
  (oA u y om),
  (oA u y pA),
  (oA u y mU),
  (oA u y qN),
  (oA u y pB),
  (oA u y mV),
  (oA u y pC),
  (bJ X G BX),
  (bJ X G Ef),
  (bJ X G Eg),
  (bJ X G Eh),
  (bJ X G zC),
  (bJ X G Ei),
  (λH=>.inr ⟨333,Ej,22,ft,(.cons ⟨1⟩ (.cons ⟨1⟩ (.cons ⟨1⟩ .nil)))⟩),
  (bJ X G Ni),
  (bJ X G zD),
  (bJ X G zE),
  (bJ X G uF),
  (bJ X G Nj),
  Nk,
  WR,
  RG,
  WS,
  P,
  WT,
  WU,
  aba,
  WV,
  WW,
  WX,
  abb,
  Nl,
  abc,
  RH,
  (dj X G agG),
  (dj X G Ek),
  (dj X G agH),
  (dj X G abd),
  (dj X G WY),
  (dj X G WZ),
  (dj X G GY),
  (dj X G agI),
  (dj X G agJ),
  (dj X G agK),
  (dj X G agL),
  (dj X G RI),
  (dj X G El)⟩⟩
end e9
namespace e9
open PySem L2 TW PyProof.Rows
open RM (cO ku br be)
seal L2.PE L2.PA L2.PT L2.PW L2.PS L2.i9 L2.PG L2.lI L2.PI L2.kQ
def aS{K:af}:(m8 CX P w K mg base N qual scope f cd A outer s H E).K=K:=rfl
local macro_rules|`(tactic|left)=>`(tactic|try dsimp only[aS])
section
variable{P:bv}{w:World}{K:af}{mg:Str->Option ap}{base:Heap}
inductive wP(K:af)(vs:List V)(H:Hp)(Q:VK)(E:XK):Prop
 |mk(a:am)(ns:List Int)(k:Int):vs=[.ref a,.int k]->bH K H a (ns.map cf)->0<=k->Q (.int (ns.getD k.toNat 0)) H->wP K vs H Q E
theorem Xf(T:Txt K mg w t):bu P w K mg base iJ 1 t.vE t.Ae ["_law_script","_law_k"] (wP K):=by refine T.Om.F.jB WA λH Q E g h=>?_;·obtain⟨a,ns,i,rfl,d,f,k⟩:=h;exists _,(aj (bY (qT kR (pv 1) (lS T.gM (pv 0))) (oR (xL (pv 0) (pv 1))) bq) (oR aC)),4;left;exists 37,a,1,.inl d,574;refine nA (λc=>?_) (λc=>?_);have b:i<cx ns:=(by simpa using c);exists 37,a,8,d,afB f b,k;have b:¬i<cx ns:=(by simpa using c);have e:ns.getD i.toNat 0=0:=(by rw[ao,g4 ∅];rfl);rw[e] at k;exact k
inductive FC(vs:List V)(H:Hp)(Q:VK)(E:XK):Prop
 |mk(n a b:Int):vs=[.int n,.int a,.int b]->0<=a->a<n->0<=b->b<n->a≠b->Q (.bl ag) H->FC vs H Q E
theorem Xg(T:Txt K mg w t):bu P w K mg base iJ 1 t.qX t.vG ["size","one","other"] FC:=by refine T.rm.F.jB K7 λH Q E i h=>?_;·obtain⟨n,a,b,rfl,f,g,c,e,d,k⟩:=h;exists _,(oR (E9 (KQ jm kR aC (pv 1) (pv 0)) (E9 (KQ jm kR aC (pv 2) (pv 0)) (JA (qE lJ (pv 1) (pv 2)))))),4;left;exists 1574;rw[b6 f];refine cS ⟨1574⟩;rw[b6 g];refine cS ⟨1574⟩;rw[b6 c];refine cS ⟨1574⟩;rw[b6 e];refine cS ⟨3724⟩;rw[c5 (λz=>d (V.int.inj z))];exact k
inductive OG(K:af)(vs:List V)(H:Hp)(Q:VK)(E:XK):Prop
 |mk(n:Int)(p:am)(a b c d e:Int):vs=[.int n,.ref p]->dY K H p (hU a b c d e)->xz n a b c d e->Q .fW H->OG K vs H Q E
theorem Uh(T:Txt K mg w t):bu P w K mg base iJ 2 t.oH t.sy ["size","rope"] (OG K):=by refine T.oS.F.jB ID λH Q E s h=>?_;·obtain⟨n,p,a,b,c,d,e,rfl,f,x,k⟩:=h;obtain⟨r,i,j,u,q,y,g,m,l,o⟩:=x;exists _,(aj (bY (qT lJ (lS T.gM (pv 1)) aC) bP bq) (aj (bY (g9 (j3 (cG (Xg T) s T.rm (KO (pv 0) (xT (pv 1) aC) (xT (pv 1) aC))))) bP bq) (aj (bY (qT kR (xT (pv 1) aC) aC) bP bq) (aj (bY (g9 (fG jm jm aC (xT (pv 1) aC) (cF rfl T.WC (v:=.int 4) ⟨1⟩))) bP bq) (aX (bY (g9 (fG jm jm aC (xT (pv 1) aC) (cF rfl T.WD (v:=.int 7) ⟨1⟩))) bP bq)))))),4;left;exists 1,p,1,.inr f,7,dh ?_;exists 37,p,8,f,7,p,8,f,24;exists 35,r,i,j,u,q,1,dh ?_;exists 1,p,8,f,2574;rw[c5 (show ¬c<1 by lia)];refine dh ?_;exists 1,p,8,f,2574;rw[b6 g];refine cS ?_;exists 574;rw[b6 m];refine dh ?_;exists 1,p,8,f,2574;rw[b6 l];refine cS ?_;exists 574;rw[b6 o];refine dh ?_;exact k
inductive LF(K:af)(vs:List V)(H:Hp)(Q:VK)(E:XK):Prop
 |mk(n:Int)(l:am)(rs:List R5):vs=[.int n,.ref l]->Oa K H l rs->cx rs<=20->(∀r∈rs,r.Ok n)->Q .fW H->LF K vs H Q E
theorem R4(T:Txt K mg w t):bu P w K mg base iJ 3 t.mj t.pW ["size","ropes"] (LF K):=by refine T.mH.F.jB rU λH Q E u h=>?_;·obtain⟨n,l,o,rfl,s,B,z,k⟩:=h;obtain⟨f,g,A,q⟩:=s.at;exists _,(aj (bY (qT i4 (lS T.gM (pv 1)) (cF rfl T.DP (v:=.int 20) ⟨1⟩)) bP bq) (aX (fS (dZ (pv 1)) (gT 2 rU) (oE (cG (Uh T) u T.oS (dX (pv 0) (pv 2))))))),4;left;exists 1,l,1,.inl g,574;rw[c5 (show ¬(20:Int)<f.length by lia)];refine dh ?_;exists 1,l,2,⟨_,g⟩,rK (K:=K) (a:=l) (xs:=f) (λi c d=>d=H/\∃v,c=[ac (.int n),ac (.ref l),v]) ⟨7⟩ (λi c d _ ⟨e,_⟩=>by rw[e];exact g) ?_ ?_;rintro i y c d j ⟨rfl,v,rfl⟩;have x:i<f.length:=(ai.mp j).1;have b:o[i]?=ac o[i]:=-_;obtain⟨p,m,r⟩:=q i _ b;rw[j] at m;cases m;exists 37,n,p,39,r,z _ (aQ b),7;rintro c d ⟨rfl,v,rfl⟩;exact k
inductive LG(K:af)(vs:List V)(H:Hp)(Q:VK)(E:XK):Prop
 |mk(l:am)(ns:List Int):vs=[.ref l]->bH K H l (ns.map cf)->1<=cx ns->cx ns<=10->(∀n∈ns,0<=n)->ns.Nodup->(∀H',aB H H'->Q .fW H')->LG K vs H Q E
theorem R6(T:Txt K mg w t):bu P w K mg base iJ 1 t.mh t.pV ["names"] (LG K):=by refine T.mG.F.jB FI λH Q E r h=>?_;·obtain⟨l,ns,rfl,a,q,n,d,g,k⟩:=h;exists _,(aj (bY (g9 (fG jm jm aC (lS T.gM (pv 0)) (cF rfl T.Bo (v:=.int 10) ⟨1⟩))) bP bq) (aj (bY (qT kR (cB (UU rfl) T.akz boot_min (dg (pv 0))) aC) bP bq) (aX (bY (qT lJ (cB UT T.gM PySem.boot_len (dg (eK (US rfl) (by rfl) T.akA boot_set (dg (pv 0))))) (lS T.gM (pv 0))) bP bq)))),4;left;exists 1,l,1,.inl a,574;rw[b6 (show (1:Int)<=(ns.map cf).length by rw[ah];lia)];refine cS ?_;exists 574;rw[b6 (show ((ns.map cf).length:Int)<=10 by rw[ah];lia)];refine dh ?_;exists 1,l,ns,2,a,6,λm j e=>?_;exists 574;rw[c5 (show ¬m<0 by have:=d m j;lia)];refine dh ?_;exists 1,l,ns,2,a,bF (show ns.length+1<100 by lia) (!_),λp b=>?_;have c:=aB.new (o:=.set (λf=>(firstMet (λi=>ns.getD i 0) (cx ns)).any (·==f)) (firstMet (λi=>ns.getD i 0) (cx ns)).length) b;exists p,5,aq,1,l,1,.inl (c.seq a),74;rw[Qz ns g,ah];simp only[decide_true,Bool.not_true];refine dh ?_;exact k _ (aB.new b)
inductive mN(K:af)(C:am)(vs:List V)(H:Hp)(Q:VK)(E:XK):Prop
 |mk(p dx l1 l2:am)(ns:List Int)(rs:List R5):vs=[.ref p,.ref l1,.ref l2]->H p=ac (.ins C dx [])->bH K H l1 (ns.map cf)->Oa K H l2 rs->1<=cx ns->cx ns<=10->(∀n∈ns,0<=n)->ns.Nodup->cx rs<=20->(∀r∈rs,r.Ok (cx ns))->(∀ln lr H',H ln=ae->H lr=ae->dR K C H' p ln lr ns rs->(∀b o,H b=ac o->b≠p->H' b=ac o)->Q .fW H')->mN K C vs H Q E
theorem Hf(T:Txt K mg w t):bu P w K mg base iJ 4 t.j6 t.mD ["self","names","ropes"] (mN K t.aK):=by refine T.qh.F.jB FH λH Q E hr h=>?_;·obtain⟨p,d,z,y,ns,rs,rfl,hp,U,hR,h1,h2,h3,h4,h5,h6,k⟩:=h;exists _,(aj (cP (cG (R6 T) hr T.mG (dg (pv 1)))) (aj (cP (cG (R4 T) hr T.mH (dX (lS T.gM (pv 1)) (pv 2)))) (aj (gY (pv 0) (eK kY (by rfl) T.Gp boot_list (dg (pv 1))) rfl) (aj (gY (pv 0) (eK kY (by rfl) T.Gp boot_list (dg (pv 2))) rfl) (aj (gY (pv 0) (lS T.gM (pv 1)) rfl) (aX (gY (pv 0) (lS T.gM (pv 2)) rfl))))))),4;left;exists 1,z,ns,2,U,h1,h2,h3,h4,λY r=>?_;exists 1,z,1,.inl (r.seq U),4;exists 1,(ns.length:Int),y,rs,-_,hR.mono r,h5,h6,4;have g:=r _ _ hp;have hR1:=hR.mono r;have I:=r.seq U;obtain⟨_,c,e,hq,A⟩:=id hR1;cases e;exists 1,z,1,.inl I,λf W=>?_;have n:p≠f:=aJ g W;have s2:=aB.new (o:=.lst (ns.map cf)) W;exists 1,p,_,d,[],2,s2 _ _ g,T.fB,T.za,!_,?_;rw[fk (names:=[]) rfl rfl];generalize m:upd (upd Y f (.lst (ns.map cf))) p (.ins t.aK d ([]++[(a8 "house_names",ci f)]))=H2;have J:∀b o,Y b=ac o->b≠p->H2 b=ac o:=λb o e a=>(by rw[<- m,aI a];exact s2 _ _ e);have i:H2 p=ac (.ins t.aK d [(a8 "house_names",ci f)]):=(by rw[<- m];exact aq);have hn2:H2 f=ac (.lst (ns.map cf)):=(by rw[<- m,aI (bS n),aq]);have fr2:∀{b:am},Y b=ae->b≠p->b≠f->H2 b=ae:=λ{b} e n1 n2=>(by rw[<- m,aI n1,aI n2];exact e);have X:bH K H2 z (ns.map cf):=HE (λb o e a=>J b o e a) g I;have C:bH K H2 y c:=HE (λb o e a=>J b o e a) g hq;have ar3:ee K H2 (rs.map R5.D) c:=nB (λb o e a=>J b o e a) g A;exists 1,y,1,.inl C,λj v=>?_;have l:p≠j:=aJ i v;have s3:=aB.new (o:=.lst c) v;exists 1,p,_,d,1,s3 _ _ i,T.fB,T.jw,(by show 1<1000;decide),4;rw[fk (names:=["house_names"]) rfl (↑_)];generalize x:upd (upd H2 j (.lst c)) p (.ins t.aK d ([(a8 "house_names",ci f)]++[(a8 "rope_tuples",ci j)]))=H3;have B:∀b o,H2 b=ac o->b≠p->H3 b=ac o:=λb o e a=>(by rw[<- x,aI a];exact s3 _ _ e);have s:H3 p=ac (.ins t.aK d [(a8 "house_names",ci f),(a8 "rope_tuples",ci j)]):=(by rw[<- x];exact aq);have R:H3 j=ac (.lst c):=(by rw[<- x,aI (bS l),aq]);have O:=B _ _ hn2 (bS n);have Z:bH K H3 z (ns.map cf):=HE B i X;have hq3:bH K H3 y c:=HE B i C;have ar4:ee K H3 (rs.map R5.D) c:=nB B i ar3;exists 1,z,1,.inl Z,1,p,_,d,1,s,T.fB,T.iO,(by show 2<1000;decide),4;rw[fk (names:=["house_names","rope_tuples"]) rfl (↑_)];generalize G:upd H3 p (.ins t.aK d ([(a8 "house_names",ci f),(a8 "rope_tuples",ci j)]++[(a8 "size",cf ((ns.map cf).length:Nat))]))=H4;have L:∀b o,H3 b=ac o->b≠p->H4 b=ac o:=λb o e a=>(by rw[<- G,aI a];exact e);have M:H4 p=ac (.ins t.aK d [(a8 "house_names",ci f),(a8 "rope_tuples",ci j),(a8 "size",cf ((ns.map cf).length:Nat))]):=(by rw[<- G];exact aq);have hq4:bH K H4 y c:=HE L s hq3;have ar5:ee K H4 (rs.map R5.D) c:=nB L s ar4;exists 1,y,1,.inl hq4,1,p,_,d,1,M,T.fB,T.Ai,(by show 3<1000;decide),4;rw[fk (names:=["house_names","rope_tuples","size"]) rfl (↑_)];have N:∀b o,H4 b=ac o->b≠p->∀u,(upd H4 p u) b=ac o:=λb o e a u=>(by rw[aI a];exact e);have S:c.length=rs.length:=(by rw[A.length,ah]);refine k f j _ (r.free W) ?_ ⟨⟨d,4⟩,4,c,4,nB (λb o e a=>N b o e a _) M ar5⟩ ?_;(cases q:H j with|none=>rfl|some o=>have:=J j o (r _ _ q) (λe=>l e.symm);rw[v] at this;cases this);rw[aq,S,ah];rfl;exact N _ _ (L _ _ O (bS n)) (bS n) _;exact N _ _ (L _ _ R (bS l)) (bS l) _;exact λb o e a=>N _ _ (L _ _ (B _ _ (J _ _ (r _ _ e) a) a) a) a _
inductive wE(K:af)(C:am)(vs:List V)(H:Hp)(Q:VK)(E:XK):Prop
 |mk(p ln lr:am)(ns:List Int)(rs:List R5)(i:Nat)(n:Int):vs=[.ref p,.int i]->dR K C H p ln lr ns rs->ns[i]?=ac n->Q (.int n) H->wE K C vs H Q E
theorem Xh(T:Txt K mg w t):bu P w K mg base iJ 1 t.vB t.Aa ["self","house"] (wE K t.aK):=by refine T.Ol.F.jB Ww λH Q E q h=>?_;·obtain⟨p,f,m,o,r,i,n,rfl,c,b,k⟩:=h;obtain⟨⟨e,j⟩,d,l,g,a⟩:=id c;exists _,(oR (xL (aU (pv 0) rfl) (pv 1))),4;left;exists 1,p,_,e,5,j,T.fB,T.za,7,f,8,bH.of d,dF (v:=cf n) (by rw[ak,b];rfl),k
inductive wy(K:af)(C:am)(vs:List V)(H:Hp)(Q:VK)(E:XK):Prop
 |mk(p ln lr:am)(ns:List Int)(rs:List R5)(i:Nat)(r:R5):vs=[.ref p,.int i]->dR K C H p ln lr ns rs->rs[i]?=ac r->(∀q,H q=ac (.tup r.vs)∨dY K H q r.vs->Q (.ref q) H)->wy K C vs H Q E
theorem LH(T:Txt K mg w t):bu P w K mg base iJ 1 t.vC t.Ab ["self","number"] (wy K t.aK):=by refine T.Gf.F.jB Wx λH Q E x h=>?_;·obtain⟨p,u,c,ns,y,i,r,rfl,j,f,k⟩:=h;obtain⟨⟨l,n⟩,s,o,b,a⟩:=id j;obtain⟨v,m,g⟩:=a.get (i:=i) (d:=r.D) (by rw[ak,f];rfl);obtain⟨q,e,hq⟩:=Rep.Fi (ns:=r.ns) g;subst e;exists _,(oR (xL (aU (pv 0) rfl) (pv 1))),4;left;exists 1,p,_,l,5,n,T.fB,T.jw,7,c,8,bH.of b,dF m,k q (.inr hq)
inductive tz(K:af)(C:am)(vs:List V)(H:Hp)(Q:VK)(E:XK):Prop
 |mk(p ln lr:am)(ns:List Int)(rs:List R5)(i:Nat)(r:R5)(h:Int):vs=[.ref p,.int i,.int h]->dR K C H p ln lr ns rs->rs[i]?=ac r->Q (.int (if h=r.a then r.b else r.a)) H->tz K C vs H Q E
theorem wY(T:Txt K mg w t):bu P w K mg base iJ 1 t.nK t.sr ["self","rope","house"] (tz K t.aK):=by refine T.sO.F.jB Et λH Q E B h=>?_;·obtain⟨p,A,j,ns,C,i,r,x,rfl,n,l,k⟩:=h;obtain⟨⟨o,u⟩,z,y,g,b⟩:=id n;obtain⟨v,s,m⟩:=b.get (i:=i) (d:=r.D) (by rw[ak,l];rfl);obtain⟨q,e,hq⟩:=Rep.Fi (ns:=r.ns) m;subst e;exists _,(aj (sS 3 Et (xL (aU (pv 0) rfl) (pv 1))) (oR (jl (qT xj (pv 2) (xT (pv 3) aC)) (xT (pv 3) aC) (xT (pv 3) aC)))),4;left;exists 1,p,_,o,5,u,T.fB,T.jw,7,j,8,bH.of g,dF s,4;exists 37,q,8,hq,274;refine nA (λc=>?_) (λc=>?_);have f:x=r.a:=(by simpa using c);rw[b4 f] at k;exists 1,q,8,hq,2,k;have f:¬x=r.a:=(by simpa using c);rw[b5 f] at k;exists 1,q,8,hq,2,k
inductive ra(K:af)(C:am)(vs:List V)(H:Hp)(Q:VK)(E:XK):Prop
 |mk(p ln lr:am)(ns:List Int)(rs:List R5)(h:Int):vs=[.ref p,.int h]->dR K C H p ln lr ns rs->cx rs<=20->(∀l H',aB H H'->H l=ae->H' l=ac (.lst (bN (iy rs h (cx rs))))->Q (.ref l) H')->ra K C vs H Q E
theorem uG(T:Txt K mg w t):bu P w K mg base iJ 1 t.lQ t.qt ["self","house"] (ra K t.aK):=by refine T.qz.F.jB Cz λH Q E hr h=>?_;·obtain⟨p,ln,W,ns,rs,x,rfl,Z,xr,k⟩:=h;obtain⟨⟨dx,hp⟩,hn,B,j,s⟩:=id Z;have I:B.length=rs.length:=(by rw[s.length,ah]);exists _,(oR (fN (kO Cz ["number","rope","house"] [ae,ae,ac 1]) rfl (aiq rfl T.YS (dg (aU (pv 0) rfl))) (λ_ _ _ _=>by exact (ais K rfl (n:=2) rfl (Cf (gS 0 xm) (Cf (gS 1 xm) VY)))) (λ_ _ _ _=>by exact (xB (rL (Qt K rfl) (pv 2) (bE (dX (yT K (pv 1) aC) (yT K (pv 1) aC))) (by with_unfolding_all rfl)))) (λ_ _ _ _=>by exact (pv 0)))),4;left;exists 1,p,_,dx,5,hp,T.fB,T.jw,2,W,B,2,bH.of j,λg f=>?_;refine jA (n:=B.length) (λi m _=>m=bN (iy rs x i)) f (alQ (bH.of j)) (afA (bH.of j)) rfl ?_ ?_;(·rintro i m G N l C r y H3 ⟨q,v,hq,rfl,rfl,hv⟩;have L:=hv B (l.seq (bH.of j));have A:rs[i]?=ac rs[i]:=-_;obtain⟨v',u,Y⟩:=s.get (i:=i) (d:=(rs[i]).D) (by rw[ak,A];rfl);rw[L] at u;cases u;obtain⟨b,e,X⟩:=Rep.Fi (ns:=(rs[i]).ns) Y;subst e;have z:=(l.out (o:=.tup [.int (i:Nat),.ref b]) (l.free hq)).iA X;have nq:g≠q:=aJ C hq;exists q,1,dY.of aq,25524;exists 37,b,8,z,7,b,8,z,2,c8,λc R=>?_;exists c,1,.inr (dY.of aq),274;have eb:XI (cf x) [cf rs[i].a,cf rs[i].b]=de rs x i:=(by unfold de;rw[A];exact alX _ _ _);have S:=l.out (o:=.tup [.int (i:Nat),.ref b]) (l.free hq);have M:=S.out (o:=.tup [cf rs[i].a,cf rs[i].b]) (S.free R);have U:(upd (upd G q (HO.tup [cf (i:Nat),ci b])) c (HO.tup [cf rs[i].a,cf rs[i].b])) g=ac (.lst m):=(by have O:(upd G q (HO.tup [cf (i:Nat),ci b])) g=ac (.lst m):=(by rw[aI nq];exact C);rw[aI (aJ O R)];exact O);(try dsimp only);rw[b5 aN,eb];have hl:m.length<a9:=(by rw[r,ah];exact bK (aE (aiG rs x i) ∅) (cU (az _)));refine nA (λJ=>?_) (λJ=>?_);exists 1,gG f N M U hl (by rw[r,Yk,b4 J,nC]);exact oz N M U (by rw[r,Yk,b5 J,fF]));intro m G l C r;rw[I] at r;exact k g G l f (by rw[C,r])
inductive Ze(K:af)(C:am)(vs:List V)(H:Hp)(Q:VK)(E:XK):Prop
 |mk(p ln lr:am)(ns:List Int)(rs:List R5)(i:Nat)(n:Int):vs=[.ref p,.int i]->dR K C H p ln lr ns rs->ns[i]?=ac n->(∀q H',aB H H'->dY K H' q (cO ⟨n,(0),(0),-1⟩)->Q (.ref q) H')->Ze K C vs H Q E
theorem R7(T:Txt K mg w t):bu P w K mg base iJ 2 t.CG t.HR ["town","house"] (Ze K t.aK):=by refine T.MS.F.jB aa4 λH Q E g h=>?_;·obtain⟨p,e,b,f,l,i,n,rfl,a,c,k⟩:=h;obtain⟨⟨d,j⟩,_,_,_⟩:=id a;exists _,(oR (bE (jx (cM (pv 0) T.fB T.Ol (Xh T) g (dg (pv 1))) aC aC ny))),4;left;exists 1,p,d,1,j,7,p,e,b,f,l,i,n,2,a,c,hX,λq hq=>?_;exact k q _ (aB.new hq) (dY.of aq)
inductive FB(K:af)(C:am)(vs:List V)(H:Hp)(Q:VK)(E:XK):Prop
 |mk(p ln lr:am)(ns:List Int)(rs:List R5)(i:Nat)(x:R5)(a:am)(r:RM.Row):vs=[.ref p,.ref a,.int i]->dR K C H p ln lr ns rs->rs[i]?=ac x->dY K H a (cO r)->(¬r.ho+1<cx ns->∀H',aB H H'->Q .fW H')->(r.ho+1<cx ns->∀q H',aB H H'->dY K H' q (cO ⟨r.hd,r.co+x.c,r.ho+1,i⟩)->Q (.ref q) H')->FB K C vs H Q E
theorem Zf(T:Txt K mg w t):bu P w K mg base iJ 2 t.La t.P1 ["town","row","rope"] (FB K t.aK):=by refine T.WB.F.jB YC λH Q E v h=>?_;·obtain⟨p,o,l,ns,A,i,x,a,r,rfl,f,m,b,s,n⟩:=h;obtain⟨⟨g,j⟩,_,_,_⟩:=id f;exists _,(aj (sS 3 YC (fc V1 (xT (pv 1) aC) aC)) (aj (bY (qT an8 (pv 3) (aU (pv 0) rfl)) (oR ny) bq) (oR (bE (jx (xT (pv 1) aC) (fc V1 (xT (pv 1) aC) (xT (cM (pv 0) T.fB T.Gf (LH T) v (dg (pv 2))) aC)) (pv 3) (pv 2)))))),4;left;exists 1,a,8,b,2524;exists 37,p,_,g,5,j,T.fB,T.iO,2574;refine nA (λe=>?_) (λe=>?_);have y:(ns.length:Int)<=r.ho+1:=c7 e;exact s ∅ _ (aB.refl _);have y:¬(ns.length:Int)<=r.ho+1:=of_decide_eq_false (eq_false_of_ne_true e);exists 1,a,8,b,7,a,8,b,7,p,g,1,j,7,p,o,l,ns,A,i,x,2,f,m,λq hq=>?_;have d:dY K H q x.vs:=hq.elim (λz=>dY.of z) id;exists q,8,d,2571,hX,λu k=>?_;refine n ∅ u _ (aB.new k) (dY.of ?_);rw[aq];show ac (HO.tup [.int r.hd,.int (r.co+x.c),.int (r.ho+1),.int (i:Int)])=ac (HO.tup [.int r.hd,.int (r.co+x.c),.int (r.ho+1),ku (i:Int)]);rw[be ∅]
inductive tj(K:af)(C:am)(vs:List V)(H:Hp)(Q:VK)(E:XK):Prop
 |mk(p ln lr c b:am)(ns:List Int)(rs:List R5)(live:List Nat)(nd:ns.Nodup)(ok:∀r∈rs,r.Ok (cx ns))(hl:∀k∈live,k<cx rs)(R:Nat->RM.Row)(h:Nat):vs=[.ref p,.ref c,.ref b,.int h]->dR K C H p ln lr ns rs->bH K H c (bN live)->Az K H b (cx ns) R->h<cx ns->cx rs<=20->RM.Sane (bz ns rs live nd ok hl) R->(∀q d H',aB H H'->dY K H' q (cO d)->RM.zS (N:=bz ns rs live nd ok hl) (cx ns) R h d->Q (.ref q) H')->tj K C vs H Q E
theorem wx(T:Txt K mg w t):bu P w K mg base iJ 3 t.YG t.acr ["town","live","rows","house"] (tj K t.aK):=by
 refine T.agn.F.jB Q3 λH Q E hr h=>?_
 ·obtain⟨p,ln,lr,c,b,ns,rs,e,n,m,i,R,x,rfl,hT,hC,hR,hx,xr,aiF,k⟩:=h;obtain⟨⟨dx,hp⟩,_,_,_⟩:=id hT;obtain⟨ps,hP,ePs,aer⟩:=hR;have enm:(bz ns rs e n m i).nm x=ns[x]:=(by show ns.getD x 0=_;simp[ao,hx]);exists _,(aj (sS 4 Q3 (cG (R7 T) hr T.MS (dX (pv 0) (pv 3)))) (aj (fS (dZ (cM (pv 0) T.fB T.qz (uG T) hr (dg (pv 3)))) (gT 5 Q3) (aX (bY (rL Ci (pv 5) (pv 1) (by with_unfolding_all rfl)) (aj (sS 6 Q3 (cG (Zf T) hr T.WB (KO (pv 0) (xL (pv 2) (cM (pv 0) T.fB T.sO (wY T) hr (dX (pv 5) (pv 3)))) (pv 5)))) (aX (bY (PW.pt (E8 (qT PM (pv 6) ny) (zR (qT (alU (Nat.lt_of_succ_lt (Ye hr))) (iY m1 (pv 6) kX (jQ aC)) (iY m1 (pv 4) kX (jQ aC)))))) (aX (sS 4 Q3 (pv 6))) bq))) bq))) (oR (pv 4)))),4;left;exists 37,p,ln,lr,ns,rs,x,ns[x],2,hT,aa hx,λp0 H0 s0 hp0=>?_;have hown:dY K H0 p0 (cO (RM.own (bz ns rs e n m i) x)):=(by unfold RM.own;rw[enm];exact hp0)
  exists 1,p,dx,1,s0 _ _ hp,7,p,ln,lr,ns,rs,x,2,hT.mono s0,xr,λl H1 s1 xZ Z=>?_;have s01:=s0.trans s1;exists l,2,⟨_,bH.of Z⟩,4;generalize S:iy rs (x:Int) rs.length=v at Z;refine rK (K:=K) (a:=l) (xs:=bN v) (λj σ H2=>aB H1 H2/\∃(q:am)(d:RM.Row)(v5 v6:Option V),σ=[ac (.ref p),ac (.ref c),ac (.ref b),ac (.int x),ac (.ref q),v5,v6]/\dY K H2 q (cO d) /\
   (d=RM.own (bz ns rs e n m i) x∨∃f g,f∈v.take j/\RM.PX (bz ns rs e n m i) f x g/\(R g).ho+1<cx ns/\d=RM.over (bz ns rs e n m i) f (R g))/\RM.le d (RM.own (bz ns rs e n m i) x) /\
   ∀f g,f∈v.take j->RM.PX (bz ns rs e n m i) f x g->(R g).ho+1<cx ns->RM.le d (RM.over (bz ns rs e n m i) f (R g)))
   ⟨aB.refl _,p0,RM.own (bz ns rs e n m i) x,5,s1.iA hown,.inl rfl,RM.le_refl _,λf g he=>by simp at he⟩ (λj σ H2 _ z=>bH.of (z.1 _ _ Z)) ?_ ?_
  (·rintro j y σ H2 hj ⟨s2,q,d,v5,v6,rfl,hq,d1,d2,O⟩;have I:j<v.length:=(by have:=(ai.mp hj).1;rw[ah] at this;exact this);rw[ak,aa I] at hj;cases hj;have et:v.take (j+1)=v.take j++[v[j]]:=(by rw[i7,aa I];rfl);have U:v[j]∈v:=aD I;have akG:∀B∈v.take j,B<v[j]:=λB s=>aiH (S▸afL rs (x:Int) (cx rs)) I s;have M:(d=RM.own (bz ns rs e n m i) x∨∃f g,f∈v.take j++[v[j]]/\RM.PX (bz ns rs e n m i) f x g/\(R g).ho+1<cx ns/\d=RM.over (bz ns rs e n m i) f (R g)):=d1.imp id λ⟨a1,a2,a3,a4⟩=>⟨a1,a2,List.mem_append_left _ a3,a4⟩;rw[et];show pH 5 (cf ((v[j]:Nat):Int)) _ _ _;generalize v[j]=f at U akG M;rw[<- S,HF] at U;obtain⟨hkl,hat⟩:=U;have A:=s01.trans s2;exists 37,c,1,.inl (A.seq hC),2,qR e,14;(try dsimp only);rw[b5 aN,Co];refine nA (λN=>?_) (λN=>?_);(case refine_2=>have N:f∉e:=λz=>N (b6 z);exists s2,q,d,5,hq,M,d2,λB g s Hz Y=>?_;rcases bh.mp s with z|z;exact O B g z Hz Y;rw[aZ.mp z] at Hz;exact b3 Hz.1 N);have N:f∈e:=c7 N;have X:rs[f]?=ac rs[f]:=aa hkl;have Hz:RM.PX (bz ns rs e n m i) f x (lM rs[f] x):=(zT N).mpr ⟨hat,2⟩;have hgn:lM rs[f] x<cx ns:=Hz.lt.2.1;have hgs:=aiF _ hgn;have agU:(if (x:Int)=rs[f].a then rs[f].b else rs[f].a)=((lM rs[f] x:Nat):Int):=(by have o:=m _ (aD hkl);have h1:=o.a0;have h2:=o.b0;unfold lM;split <;> lia);have agV:(bz ns rs e n m i).c f=rs[f].c:=(by show ((rs[f]?).map λr=>r.c).getD 0=_;rw[X];rfl);have fu:∀g,RM.PX (bz ns rs e n m i) f x g->g=lM rs[f] x:=λg a=>((zT N).mp a).2;generalize lM rs[f] x=g at Hz hgn hgs agU fu;have hpg:ps[g]?=ac ps[g]:=aa ∅;have amh:KN (ps.map ci) (if (x:Int)=rs[f].a then rs[f].b else rs[f].a)=ac (.ref ps[g]):=(by rw[agU];exact dF (by rw[ak,hpg];rfl));have hrg:=A.iA (aer g _ hpg);exists 137,p,dx,1,A _ _ hp,71,p,ln,lr,ns,rs,f,rs[f],x,2,hT.mono A,X,b,8,A.seq hP,amh,14;exists p,ln,lr,ns,rs,f,rs[f],ps[g],R g,2,hT.mono A,X,hrg,λY H3 s3=>?_,λY u H3 s3 hu=>?_;exists 17,dh (dh ?_);exists s2.trans s3,q,d,5,s3.iA hq,M,d2,λB J s C W=>?_;rcases bh.mp s with z|z;exact O B J z C W;rw[aZ.mp z] at C;rw[fu J C] at W;exact b3 W Y;have eov:(⟨(R g).hd,(R g).co+rs[f].c,(R g).ho+1,f⟩:RM.Row)=RM.over (bz ns rs e n m i) f (R g):=(by unfold RM.over;rw[agV]);rw[eov] at hu;have L:=s3.iA hq;have G:=s2.trans s3;exists 17,cS ?_;have lex:Qx [cf (RM.over (bz ns rs e n m i) f (R g)).hd,cf (RM.over (bz ns rs e n m i) f (R g)).co,cf (RM.over (bz ns rs e n m i) f (R g)).ho] [cf d.hd,cf d.co,cf d.ho] (decide (RM.lt (RM.over (bz ns rs e n m i) f (R g)) d)):=RM.aiB (by rcases d1 with z|⟨B,J,s,_,_,z⟩;rw[z];intro _ _ e3;have:(R g).ho+1=0:=e3;lia;have hlt':=akG B s;rw[z];intro e1 e2 e3 e4;rcases e4 with e4|⟨_,e4|⟨_,e4|⟨_,e4⟩⟩⟩;lia;lia;lia;have:((f:Nat):Int)<((B:Nat):Int):=e4;lia);have nw:∀r:RM.Row,¬(HT.tH (cO r).length 0 ae=0/\HT.tH (cO r).length (cO r).length (ac 3)=(cO r).length):=λr z=>b3 z.2 (by show HT.tH 4 4 (ac 3)≠4;decide);have ct:∀r:RM.Row,Aw (cO r) ae (ac 3)=[cf r.hd,cf r.co,cf r.ho]:=λr=>rfl;exists 37,u,1,hu,nw _,λz1 hz1=>?_;rw[ct];have t1:=aB.new (o:=.tup [cf (RM.over (bz ns rs e n m i) f (R g)).hd,cf (RM.over (bz ns rs e n m i) f (R g)).co,cf (RM.over (bz ns rs e n m i) f (R g)).ho]) hz1;exists 37,q,1,t1.iA L,nw _,λz2 hz2=>?_;rw[ct];have t2:=aB.new (o:=.tup [cf d.hd,cf d.co,cf d.ho]) hz2;have G:=G.trans (t1.trans t2);have hu:=(t1.trans t2).iA hu;have L:=(t1.trans t2).iA L;exists z1,z2,8,dY.of (t2 _ _ aq),dY.of aq,2,lex,14;by_cases D:RM.lt (RM.over (bz ns rs e n m i) f (R g)) d;rw[b6 D];refine cS ?_;exists 1,G,u,35,hu,.inr ⟨f,g,bQ _ (aZ.mpr rfl),Hz,Y,2⟩,RM.le_trans (RM.akk D) d2,λB J s C W=>?_;rcases bh.mp s with z|z;exact RM.le_trans (RM.akk D) (O B J z C W);rw[aZ.mp z] at C ⊢;rw[fu J C];exact RM.le_refl _;rw[c5 D];refine dh ⟨G,q,d,5,L,M,d2,λB J s C W=>?_⟩;rcases bh.mp s with z|z;exact O B J z C W;rw[aZ.mp z] at C ⊢;rw[fu J C];exact D);rintro σ H2 ⟨s2,q,d,v5,v6,rfl,hq,d1,d2,O⟩;rw[ah,gu (az _)] at O;exists 1,k q d H2 (s01.trans s2) hq ⟨d1.imp id λ⟨a1,a2,_,a4⟩=>⟨a1,a2,a4⟩,d2,λf g Hz Y=>O f g ?_ Hz Y⟩;rw[<- S,HF];exists i f Hz.1,((zT Hz.1).mp Hz).1
inductive Vt(K:af)(C:am)(vs:List V)(H:Hp)(Q:VK)(E:XK):Prop
 |mk(p ln lr c b:am)(ns:List Int)(rs:List R5)(live:List Nat)(nd:ns.Nodup)(ok:∀r∈rs,r.Ok (cx ns))(hl:∀k∈live,k<cx rs)(R:Nat->RM.Row):vs=[.ref p,.ref c,.ref b]->dR K C H p ln lr ns rs->bH K H c (bN live)->Az K H b (cx ns) R->cx ns<=12->cx rs<=20->AA (cx ns) (cx rs) R->(∀x∈ns,0<=x)->(∀(y:Bool)H',aB H H'->(y=ag↔RM.Rest (bz ns rs live nd ok hl) R)->Q (.bl y) H')->Vt K C vs H Q E
theorem Sa(T:Txt K mg w t):bu P w K mg base iJ 4 t.ud t.HS ["town","live","rows"] (Vt K t.aK):=by refine T.CM.F.jB Q4 λH Q E X h=>?_;·obtain⟨p,ln,lr,c,b,ns,Z,a,M,Y,O,R,rfl,U,hC,S,agW,xr,fit,D,k⟩:=h;obtain⟨⟨dx,hp⟩,_,_,_⟩:=id U;obtain⟨u,hP,ePs,y⟩:=id S;exists _,(oR (cB (Qu rfl) T.agC boot_all (dg (fN (kO Q4 ["house","live","rows","town"] [ae,ac 1,ac 2,ac 0]) rfl (lZ rfl T.sX (dg (aU (pv 0) rfl))) (λ_ _ _ _=>by exact (gS 0 Tj)) (λ_ _ _ _=>by exact gk) (λ_ _ _ _=>by exact (qE (IH K rfl X.units) (yL K (pv 2) (pv 0)) (cG (wx T) X T.agn (jx (pv 3) (pv 1) (pv 2) (pv 0))))))))),4;left;exists 1,p,_,dx,5,hp,T.fB,T.iO,2,(ns.length:Int),266,λI e=>?_;refine jA (n:=((ns.length:Int)).toNat) (λi B _=>∃g:List Bool,B=g.map cn/\g.length=i/\(g.all id=ag↔∀j,j<i->RM.zS (N:=bz ns Z a M Y O) (cx ns) R j (R j))) e JE yg ⟨[],22,-_⟩ ?_ ?_;rintro i B H2 r f C ⟨g,s,v,L⟩ x H3 ⟨rfl,rfl⟩;have l:i<cx ns:=∅;have o:u[i]?=ac u[i]:=aa ∅;have A:KN (u.map ci) (0+(i:Int))=ac (.ref u[i]):=(by rw[j9];exact dF (by rw[ak,o];rfl));exists 37,b,8,f.seq hP,A,4;exists 3737,p,ln,lr,c,b,ns,Z,a,M,Y,O,R,i,by rw[j9];rfl,U.mono f,f.seq hC,S.mono f,l,xr,fit.aiF,λq d H3 G hq m=>?_;have fd:=Iy fit l D m;exists RM.JG (R i),RM.JG d,RM.yh ((f.trans G).iA (y i _ o)),RM.yh hq,RM.yi _,RM.yi _,(by rw[RM.Ms];decide),4;rw[RM.Qy (fit i l).by1 fd.by1];refine gG e r (f.trans G) (G _ _ C) (by rw[s,ah,v];exact cU ∅) ⟨g++[decide (R i=d)],by rw[s,bx];rfl,by rw[av,v];rfl,4⟩;rw[List.all_append,eS,L];constructor;rintro⟨q1,J⟩ j W;rcases Nat.lt_or_eq_of_le (Nat.le_of_lt_succ W) with z|rfl;exact q1 j z;have J:R j=d:=(by simpa using J);exact J▸m;intro q;exists λj W=>q j ∅,4;have:=(q i ∅).uniq m;simpa using this;rintro B H2 f C ⟨g,s,v,L⟩;exists I,g,2,bH.of (by rw[C,s]),k _ _ f ?_;rw[L];constructor;exact λq i r=>q i (by have:i<cx ns:=r;lia);exact λq i r=>q i (by show i<cx ns;lia)
inductive ww(K:af)(C:am)(vs:List V)(H:Hp)(Q:VK)(E:XK):Prop
 |mk(p ln lr c b:am)(ns:List Int)(rs:List R5)(live:List Nat)(nd:ns.Nodup)(ok:∀r∈rs,r.Ok (cx ns))(hl:∀k∈live,k<cx rs)(R:Nat->RM.Row)(h:Nat):vs=[.ref p,.ref c,.ref b,.int h]->dR K C H p ln lr ns rs->bH K H c (bN live)->Az K H b (cx ns) R->h<cx ns->cx rs<=20->AA (cx ns) (cx rs) R->(∀v H',aB H H'->AB K H' v (Fj (bz ns rs live nd ok hl) R h)->Q v H')->ww K C vs H Q E
theorem agZ(T:Txt K mg w t):bu P w K mg base iJ 3 t.Lb t.P5 ["town","live","rows","house"] (ww K t.aK):=by refine T.acu.F.jB Q5 λH Q E I h=>?_;·obtain⟨p,ln,lr,c,b,ns,rs,live,nd,ok,s,R,i,rfl,N,hC,hRw,Y,xr,S,k⟩:=h;obtain⟨⟨dx,hp⟩,_,_,_⟩:=id N;obtain⟨v,M,ePs,z⟩:=id hRw;have B:v[i]?=ac v[i]:=aa ∅;have y:KN (v.map ci) (i:Int)=ac (.ref v[i]):=dF (by rw[ak,B];rfl);have W:=z i _ B;have fi:=S i Y;exists _,(aj (sS 4 Q5 (xT (xL (pv 2) (pv 3)) aC)) (aj (bY (PW.pt (XS (rL xA (pv 4) (pv 1) (by with_unfolding_all rfl)) (Qj (rL xA (pv 4) (cM (pv 0) T.fB T.qz (uG T) I (dg (pv 3))) (by with_unfolding_all rfl))))) (oR ny) bq) (aj (sS 5 Q5 (cM (pv 0) T.fB T.sO (wY T) I (dX (pv 4) (pv 3)))) (aj (bY (qT xb (cG (Zf T) I T.WB (KO (pv 0) (xL (pv 2) (pv 5)) (pv 4))) (xL (pv 2) (pv 3))) (oR ny) bq) (oR (bE (dX (pv 4) (pv 5)))))))),4;left;exists 37,Wh M y (aiI W rfl ?_);have f:∀{H3:Hp},aB H H3->(∀k g,¬RM.tV (bz ns rs live nd ok s) R k i g)->Q .fW H3:=λs3 no=>k .fW _ s3 (by rw[Yl no];rfl);show pH 4 (ku (R i).by_) _ _ _;rcases fi.by_ with U|⟨b0,b1⟩;(·rw[show ku (R i).by_=V.fW by rw[U];rfl];exists 37,c,1,.inl hC,2,qR live,14;(try dsimp only);rw[b4 rfl,aiJ];refine cS (cS (f (aB.refl _) λn g t=>?_));(have:=t.by);lia);obtain⟨d,ekk⟩:∃d:Nat,(R i).by_=(d:Int):=⟨(R i).by_.toNat,6⟩;have o:d<cx rs:=∅;rw[show ku (R i).by_=cf (d:Nat) by rw[ekk,be ∅]];have q:∀n g,RM.tV (bz ns rs live nd ok s) R n i g->n=d:=λn g t=>(by have:=t.by;lia);exists 37,c,1,.inl hC,2,qR live,14;(try dsimp only);rw[b4 rfl,Co];by_cases C:d∈live;(case neg=>rw[c5 C];refine cS (cS (f (aB.refl _) λn g t=>?_));have:=q n g t;subst this;exact C t.Hz.1);rw[b6 C];refine dh ?_;exists 37,p,dx,1,hp,7,p,ln,lr,ns,rs,i,2,N,xr,λl H1 x xZ hl1=>?_;exists l,1,.inl (bH.of hl1),2,qR _,14;(try dsimp only);rw[b4 rfl,Co];by_cases m:d∈iy rs (i:Int) (cx rs);(case neg=>rw[c5 m];refine cS (f x λn g t=>?_);have:=q n g t;subst this;exact m (HF.mpr ⟨o,((zT C).mp t.Hz).1⟩));rw[b6 m];refine dh ?_;have m:=(HF.mp m).2;have L:rs[d]?=ac rs[d]:=aa o;have J:=Ix (h:=i) o ok;have X:lM rs[d] i<cx ns:=oo o ok;have G:=afM (ns:=ns) (rs:=rs) (live:=live) (nd:=nd) (ok:=ok) (hl:=s) (R:=R) (h:=i) C;have agV:=Tb (ns:=ns) (live:=live) (nd:=nd) (ok:=ok) (hl:=s) o;have r:∀g,RM.tV (bz ns rs live nd ok s) R d i g->g=lM rs[d] i:=λg t=>alZ t;exists 1,p,dx,1,x _ _ hp,71,p,ln,lr,ns,rs,d,rs[d],i,2,N.mono x,L,4;show pH 5 (cf (if (i:Int)=rs[d].a then rs[d].b else rs[d].a)) _ _ _;rw[J];generalize lM rs[d] i=g at J X G r;have D:v[g]?=ac v[g]:=aa ∅;have Z:KN (v.map ci) (g:Int)=ac (.ref v[g]):=dF (by rw[ak,D];rfl);exists 137,Wh (x.seq M) Z ⟨1,p,ln,lr,ns,rs,d,rs[d],v[g],R g,2,N.mono x,L,x.iA (z g _ D),λR8 H2 s2=>?_,λR8 u H2 s2 hu=>?_⟩;have j:=x.trans s2;exists 37,Wh (j.seq M) y ⟨.none,RM.JG (R i),2,RM.yh (j.iA W),2,RM.yi _,bK (cE (aE (ji _ _) (!_)) _) I.units,14⟩;refine cS (f j λn A t=>?_);have O:=q n A t;subst O;have e2:=r A t;subst e2;exact R8 t.cut;·have j:=x.trans s2;have eov:(⟨(R g).hd,(R g).co+rs[d].c,(R g).ho+1,d⟩:RM.Row)=RM.over (bz ns rs live nd ok s) d (R g):=(by unfold RM.over;rw[agV]);rw[eov] at hu;exists 37,Wh (j.seq M) y ⟨RM.JG (RM.over (bz ns rs live nd ok s) d (R g)),RM.JG (R i),RM.yh hu,RM.yh (j.iA W),RM.yi _,RM.yi _,bK (cE (aE (ji _ _) (by rw[RM.Ms];decide)) _) I.units,14⟩;rw[RM.Qy (show (-1:Int)<=(d:Nat) by lia) fi.by1];by_cases e:RM.over (bz ns rs live nd ok s) d (R g)=R i;(case neg=>rw[c5 e];refine cS (f j λn A t=>?_);have O:=q n A t;subst O;have e2:=r A t;subst e2;exact e t.eq.symm);rw[b6 e];refine dh ?_;have hh:RM.tV (bz ns rs live nd ok s) R d i g:=(by obtain⟨g2,t⟩:=G.mpr ⟨m,R8,e.symm⟩;have:=r g2 t;subst this;exact t);exists 37,c8,λo2 ho2=>?_;exact k (.ref o2) _ (j.trans (aB.new ho2)) (by rw[zU.mpr hh];exists o2,2,dY.of aq)
inductive tf(K:af)(C:am)(vs:List V)(H:Hp)(Q:VK)(E:XK):Prop
 |mk(p ln lr c b:am)(ns:List Int)(rs:List R5)(live:List Nat)(nd:ns.Nodup)(ok:∀r∈rs,r.Ok (cx ns))(hl:∀k∈live,k<cx rs)(R:Nat->RM.Row):vs=[.ref p,.ref c,.ref b]->dR K C H p ln lr ns rs->bH K H c (bN live)->Az K H b (cx ns) R->cx ns<=12->cx rs<=20->AA (cx ns) (cx rs) R->(∀l H',aB H H'->H l=ae->alY K H' l (cx ns) (Fj (bz ns rs live nd ok hl) R)->Q (.ref l) H')->tf K C vs H Q E
theorem aml(T:Txt K mg w t):bu P w K mg base iJ 4 t.YH t.acs ["town","live","rows"] (tf K t.aK):=by refine T.akt.F.jB wr λH Q E U h=>?_;·obtain⟨p,O,J,c,b,ns,G,d,A,D,B,R,rfl,C,I,u,L,W,s,k⟩:=h;obtain⟨⟨N,Y⟩,_,_,_⟩:=id C;exists _,(oR (fN (kO wr ["house","live","rows","town"] [ae,ac 1,ac 2,ac 0]) rfl (lZ rfl T.sX (dg (aU (pv 0) rfl))) (λ_ _ _ _=>by exact (gS 0 aee)) (λ_ _ _ _=>by exact gk) (λ_ _ _ _=>by exact (cG (agZ T) U T.acu (jx (pv 3) (pv 1) (pv 2) (pv 0)))))),4;left;exists 1,p,_,N,5,Y,T.fB,T.iO,2,(ns.length:Int),266,λy a=>?_;refine jA (n:=((ns.length:Int)).toNat) (λi l r=>l.length=i/\∀(j:Nat) v,l[j]?=ac v->AB K r v (Fj (bz ns G d A D B) R j)) a JE yg ⟨2,λj v e=>by simp at e⟩ ?_ ?_;rintro i l r M g q ⟨o,f⟩ x Z ⟨rfl,rfl⟩;exists 3737,p,O,J,c,b,ns,G,d,A,D,B,R,i,by rw[j9];rfl,C.mono g,g.seq I,u.mono g,6,W,s,λv H4 m V=>?_;refine gG a M (g.trans m) (m _ _ q) (by rw[o];exact cU ∅) ⟨by rw[av,o];rfl,λj w e=>?_⟩;refine AB.lst (m _ _ q) ?_;rcases PY e with z|⟨X,S⟩;exact (f j w z).mono m;rw[X,S,o];exact V;rintro l r g q ⟨o,f⟩;exact k y r g a ⟨l,q,6,f⟩
inductive Fu(K:af)(C:am)(vs:List V)(H:Hp)(Q:VK)(E:XK):Prop
 |mk(p ln lr c b:am)(ns:List Int)(rs:List R5)(live:List Nat)(nd:ns.Nodup)(ok:∀r∈rs,r.Ok (cx ns))(hl:∀k∈live,k<cx rs)(R:Nat->RM.Row):vs=[.ref p,.ref c,.ref b]->dR K C H p ln lr ns rs->bH K H c (bN live)->Az K H b (cx ns) R->cx ns<=12->cx rs<=20->AA (cx ns) (cx rs) R->(∀l os H',aB H H'->H l=ae->H' l=ac (.lst (bN os))->kT (bz ns rs live nd ok hl) R os->os.length<=12->Q (.ref l) H')->Fu K C vs H Q E
theorem Sb(T:Txt K mg w t):bu P w K mg base iJ 5 t.DE t.P4 ["town","live","rows"] (Fu K t.aK):=by refine T.DI.F.jB YD λH Q E hr h=>?_;·obtain⟨p,ln,lr,c,b,ns,N,a,O,X,L,R,rfl,hT,hC,U,S,xr,I,k⟩:=h;exists _,(oR (cB Ob T.YT boot_sorted (dg (fN (kO YD ["up"] [ae]) rfl (dZ (cG (aml T) hr T.akt (KO (pv 0) (pv 1) (pv 2)))) (λ_ _ _ _=>by exact (gS 0 YE)) (λ_ _ _ _=>by exact (xB (qT PM (pv 0) ny))) (λ_ _ _ _=>by exact (yT K (pv 0) aC)))))),4;left;exists 137,p,ln,lr,c,b,ns,N,a,O,X,L,R,2,hT,hC,U,S,xr,I,λlu H2 s2 awa hO=>?_;obtain⟨Y,f,evs,M⟩:=hO;exists lu,2,⟨_,bH.of f⟩,λV j=>?_;refine jA (n:=Y.length) (λi W _=>∃d:List Nat,W=bN d/\d.length<=i/\d.Nodup/\∀k,k∈d↔∃h g,h<i/\RM.tV (bz ns N a O X L) R k h g) j (vY (bH.of f)) (lK (bH.of f)) ⟨[],2,bA _,mO,λk=>⟨λz=>b3 z (-_),λ⟨_,_,z,_⟩=>b3 z (x8 _)⟩⟩ ?_ ?_;(rintro i W H3 C r G ⟨d,rfl,Z,D,A⟩ y H4 ⟨rfl,hv⟩;have x:=hv _ (r.seq (bH.of f));rw[aa C] at x;cases x;have m:=(M i _ (aa C)).mono r;generalize Y[i]=v at m;cases B:Fj (bz ns N a O X L) R i with|none=>rw[B] at m;have m:v=.fW:=m;subst m;exists 17,dh ?_;refine oz C r G ⟨d,26,D,λk=>(A k).trans ⟨λ⟨h,g,z,t⟩=>⟨h,g,6,t⟩,λ⟨h,g,z,t⟩=>⟨h,g,4,t⟩⟩⟩;by_cases e:h=i;subst e;rw[zU.mpr t] at B;cases B;lia|some q=>rw[B] at m;obtain⟨t1,rfl,ht⟩:=m;have o:=(zU (k:=q.1) (g:=q.2)).mp B;exists 17,cS ?_;exists 1,t1,_,(0),12,ht,24;refine gG j C r G (by rw[ah];exact cU ∅) ⟨d++[q.1],by rw[nC],by rw[av];exact tT Z 1,Gr.Qv D λz=>?_,λk=>?_⟩;obtain⟨h,g,z1,t⟩:=(A _).mp z;have:=(t.one o).1;lia;rw[bh,aZ,A];constructor;rintro (⟨h,g,z,t⟩|rfl);exists h,g,6,t;exists i,q.2,6,o;rintro⟨h,g,z,t⟩;by_cases e:h=i;subst e;exact .inr (t.uniq o).1;exact .inl ⟨h,g,6,t⟩);rintro W H3 r G ⟨d,rfl,Z,D,A⟩;exists V,d.map λk:Nat=>(k:Int),2,bH.of (by rw[G,iW]),by rw[ah];lia,λl ms hl u pw=>?_;obtain⟨os,J,o1,o2,o3⟩:=Ym u pw D;rw[J];have s:=s2.trans r;refine k l os _ (s.trans (aB.new hl)) (s.free hl) aq ⟨o1,λk=>?_⟩ ∅;rw[o2,A];constructor;rintro⟨h,g,_,t⟩;exists h,g,t;rintro⟨h,g,t⟩;have:h<cx ns:=(tV.lt t).1;exists h,g,6,t
theorem Vu{xs:List Nat}{i:Nat}(a:i<xs.length):(xs.take (i+1)).filter p=(xs.take i).filter p++if p xs[i] then [xs[i]] else []:=by rw[mW a,gp];congr 1;cases e:p xs[i];rw[b5 (!_),dw (by rw[e];decide)];rfl;rw[b4 rfl,dm e];rfl
inductive Zg(K:af)(C:am)(vs:List V)(H:Hp)(Q:VK)(E:XK):Prop
 |mk(p ln lr c b:am)(ns:List Int)(rs:List R5)(live:List Nat)(nd:ns.Nodup)(ok:∀r∈rs,r.Ok (cx ns))(hl:∀k∈live,k<cx rs)(R:Nat->RM.Row)(h:Int):vs=[.ref p,.ref c,.ref b,.int h]->dR K C H p ln lr ns rs->bH K H c (bN live)->Az K H b (cx ns) R->cx ns<=12->cx rs<=20->AA (cx ns) (cx rs) R->(∀l os H',aB H H'->H l=ae->H' l=ac (.lst (bN (os.filter (de rs h))))->kT (bz ns rs live nd ok hl) R os->os.length<=12->Q (.ref l) H')->Zg K C vs H Q E
theorem abp(T:Txt K mg w t):bu P w K mg base iJ 6 t.CH t.HU ["town","live","rows","house"] (Zg K t.aK):=by refine T.Ve.F.jB JV λH Q E Y h=>?_;·obtain⟨p,W,U,c,b,X,rs,j,nd,ok,V,R,x,rfl,I,hC,N,A,Z,G,k⟩:=h;exists _,(aj (sS 4 JV (cM (pv 0) T.fB T.qz (uG T) Y (dg (pv 3)))) (oR (fN (kO JV ["rope","joined"] [ae,ac 4]) rfl (dZ (iz (Sb T) (Y.mono (!_)) rfl T.zb T.DI.F.kp T.DI.B .nil mZ (KO (pv 0) (pv 1) (pv 2)))) (λ_ _ _ _=>by exact (gS 0 Tn)) (λ_ _ _ _=>by exact (xB (rL (Qt K rfl) (pv 0) (pv 1) (by with_unfolding_all rfl)))) (λ_ _ _ _=>by exact (pv 0))))),4;left;obtain⟨⟨dx,hp⟩,_⟩:=id I;exists 1,p,dx,1,hp,7,p,W,U,X,rs,x,2,I,Z,λlj H1 l awd s=>?_;exists 137,p,W,U,c,b,X,rs,j,nd,ok,V,R,2,I.mono l,l.seq hC,N.mono l,A,Z,G,λlo os H2 L amn d o J=>?_;have D:=L _ _ s;have S:∀k∈os,decide (k∈iy rs x (cx rs))=de rs x k:=λk hk=>(by obtain⟨h,g,t⟩:=(o.2 k).mp hk;have u:k<cx rs:=V k t.Hz.1;by_cases z:de rs x k=ag;rw[z];exact b6 (HF.mpr ⟨u,z⟩);rw[Bool.not_eq_true] at z;rw[z];refine c5 λy=>?_;rw[(HF.mp y).2] at z;cases z);exists lo,2,⟨_,bH.of d⟩,λO a=>?_;refine jA (n:=(bN os).length) (λi v _=>v=bN ((os.take i).filter (de rs x))) a (vY (bH.of d)) (lK (bH.of d)) rfl ?_ ?_;(·rintro i v H3 q f m rfl y H4 ⟨rfl,r⟩;have r:=r _ (f.seq (bH.of d));have e:i<os.length:=(by rw[ah] at q;exact q);rw[ak,aa e] at r;cases r;exists 37,lj,1,.inl (bH.of (f _ _ D)),2,qR _,14;(try dsimp only);rw[b5 aN,Co,S _ (aD e)];refine nA (λM=>?_) (λM=>?_);exists 14;refine gG a q f m ?_ ?_;rw[ah];refine cU (aE (bM _ _) ?_);rw[bT];lia;rw[Vu e,b4 M,nC];refine oz q f m ?_;rw[Vu e,b5 M,fF]);rintro v H3 f m rfl;rw[ah,gR] at m;have C:=(l.trans L).trans f;exact k O os _ C ((l.trans L).free a) m o J
inductive xa(K:af)(C:am)(vs:List V)(H:Hp)(Q:VK)(E:XK):Prop
 |mk(p ln lr:am)(ns:List Int)(rs:List R5)(i:Nat)(r:R5)(g:Nat)(z:Int):vs=[.ref p,.int i,.int g]->dR K C H p ln lr ns rs->rs[i]?=ac r->([1,2,4]:List Int)[g]?=ac z->Q (.bl (!decide (Builtin.bitAnd r.e z=0))) H->xa K C vs H Q E
theorem LJ(T:Txt K mg w t):bu P w K mg base iJ 1 t.vD t.Ac ["self","rope","group"] (xa K t.aK):=by refine T.Gg.F.jB Wy λH Q E B h=>?_;·obtain⟨p,A,c,ns,C,i,r,g,z,rfl,m,f,u,k⟩:=h;obtain⟨⟨n,s⟩,y,x,b,a⟩:=id m;obtain⟨v,o,l⟩:=a.get (i:=i) (d:=r.D) (by rw[ak,f];rfl);obtain⟨q,e,hq⟩:=Rep.Fi (ns:=r.ns) l;subst e;exists _,(oR (qE lJ (fc alu (xT (xL (aU (pv 0) rfl) (pv 1)) aC) (xT (cF rfl T.lq (v:=.ref t.fj) rfl) (pv 2))) aC)),4;left;exists 1,p,_,n,5,s,T.fB,T.jw,7,c,8,bH.of b,dF o,4;exists q,8,hq,24;have j:([.int 1,.int 2,.int 4]:List V)[g]?=ac (.int z):=(by have e:([.int 1,.int 2,.int 4]:List V)=([1,2,4]:List Int).map cf:=rfl;rw[e,ak,u];rfl);exists 138,T.gK H,dF j,5224;have e:decide (cf (Builtin.bitAnd r.e z)=cf 0)=decide (Builtin.bitAnd r.e z=0):=-_;rw[e];exact k
inductive Vv(K:af)(C:am)(vs:List V)(H:Hp)(Q:VK)(E:XK):Prop
 |mk(p ln lr:am)(ns:List Int)(rs:List R5)(i:Nat)(r:R5):vs=[.ref p,.int i]->dR K C H p ln lr ns rs->rs[i]?=ac r->Q (.int r.d) H->Vv K C vs H Q E
theorem OH(T:Txt K mg w t):bu P w K mg base iJ 2 t.yN t.DG ["town","rope"] (Vv K t.aK):=by refine T.JY.F.jB YF λH Q E g h=>?_;·obtain⟨p,e,b,f,l,i,r,rfl,a,c,k⟩:=h;obtain⟨⟨d,j⟩,_⟩:=id a;exists _,(oR (xT (cM (pv 0) T.fB T.Gf (LH T) g (dg (pv 1))) aC)),4;left;exists 1,p,d,1,j,7,p,e,b,f,l,i,r,2,a,c,λq hq=>?_;have hq:dY K H q r.vs:=hq.elim dY.of id;exists q,8,hq,2,k
inductive Sd(K:af)(CT C NW:am)(vs:List V)(H:Hp)(Q:VK)(E:XK):Prop
 |mk(p tp lu ln lr:am)(ns:List Int)(rs:List R5)(ws:List (List Nat))(i:Int):vs=[.ref p,.int i]->dR K CT H tp ln lr ns rs->zV C H p tp lu ws->ws.length=rs.length->(∀(j:Nat)w l H',i=(j:Int)->ws[j]?=ac w->aB H H'->H l=ae->H' l=ac (.lst (bN w))->Q (.ref l) H')->(¬(0<=i/\i<cx rs)->E (.ref NW) ae H)->Sd K CT C NW vs H Q E
theorem pD(T:Txt K mg w t):bu P w K mg base (jD P w) 1 t.jr t.k8 ["self","rope"] (Sd K t.aK t.c9 t.fq):=by refine T.fZ.F.jb Im λH Q E C h=>?_;·obtain⟨p,v,y,J,I,L,rs,o,i,rfl,x,G,M,k,r⟩:=h;obtain⟨⟨q,s⟩,c,n,D,g⟩:=id G;obtain⟨⟨A,d⟩,_⟩:=id x;exists _,(aj (bY (g9 (fG jm kR aC (pv 1) (aU (aU (pv 0) rfl) rfl))) (aX (dB rfl T.Lj T.Lk C.hd au)) bq) (oR (eK kY (by rfl) T.Gp boot_list (dg (xL (aU (pv 0) rfl) (pv 1)))))),4;left;exists 1574;by_cases f:0<=i;(case neg=>rw[c5 f];exact dh ⟨1,cS (r λz=>f z.1)⟩);rw[b6 f];refine cS ?_;exists 1,p,_,q,5,s,T.d9,T.nY,2,v,_,A,5,d,T.fB,T.Ai,2574;by_cases m:i<(rs.length:Int);(case neg=>rw[c5 m];exact cS (r λz=>m z.2));rw[b6 m];refine dh ?_;obtain⟨j,rfl⟩:∃j:Nat,i=(j:Int):=⟨i.toNat,6⟩;have B:j<o.length:=∅;have b:o[j]?=ac o[j]:=aa B;have a:c[j]?=ac c[j]:=aa ∅;have e:KN (c.map ci) (j:Int)=ac (.ref c[j]):=dF (by rw[ak,a];rfl);exists 1,p,_,q,5,s,T.d9,T.iV,7,y,8,bH.of n,e,c[j],1,.inl (bH.of (g j _ _ a b)),λl u=>?_;exact k j _ l _ rfl b (aB.new u) u aq
inductive Fs(K:af)(CT C NW:am)(vs:List V)(H:Hp)(Q:VK)(E:XK):Prop
 |mk(p tp lu ln lr:am)(ns:List Int)(rs:List R5)(ws:List (List Nat))(i x:Int):vs=[.ref p,.int i,.int x]->dR K CT H tp ln lr ns rs->zV C H p tp lu ws->ws.length=rs.length->(∀w∈ws,w.length<=4)->(∀(j k:Nat)w(ls:List am)(q:am)H',i=(j:Int)->x=(k:Int)->ws[j]?=ac w->k∈w->H lu=ac (.lst (ls.map ci))->H q=ae->H' q=ac (.lst (bN (w.filter λz=>decide (z≠k))))->H' lu=ac (.lst ((ls.map ci).set j (.ref q)))->(∀b o,H b=ac o->b≠lu->H' b=ac o)->Q (.bl (w.filter λz=>decide (z≠k)).isEmpty) H')->(¬(0<=i/\i<cx rs)->E (.ref NW) ae H)->(∀(j:Nat)w H',i=(j:Int)->ws[j]?=ac w->(∀k∈w,x≠(k:Nat))->aB H H'->E (.ref NW) ae H')->Fs K CT C NW vs H Q E
theorem EL(T:Txt K mg w t):bu P w K mg base (jD P w) 2 t.nL t.sA ["self","rope","wire"] (Fs K t.aK t.c9 t.fq):=by refine T.nU.F.jb wA λH Q E hr h=>?_;·obtain⟨p,tp,D,ln,lr,ns,rs,ws,i,x,rfl,hT,hW,ew,h4,k,kx,ky⟩:=h;obtain⟨⟨dx,hp⟩,R,I,els,hls⟩:=id hW;exists _,(aj (sS 3 wA (cR (pv 0) T.d9 T.fZ.m (pD T) (hr.mono (!_)) T.fZ.B .nil cY (dg (pv 1)))) (aj (bY (rL xA (pv 2) (pv 3) (by with_unfolding_all rfl)) (aX (dB rfl T.Lj T.Lk hr.hd au)) bq) (aj (Fb (fN (kO wA ["each","wire"] [ae,ac 2]) rfl (dZ (pv 3)) (λ_ _ _ _=>by exact (gS 0 JW)) (λ_ _ _ _=>by exact (xB (qT lJ (pv 0) (pv 1)))) (λ_ _ _ _=>by exact (pv 0))) (Mi (aU (pv 0) rfl) (pv 1) dC)) (oR (qE Ax (xL (aU (pv 0) rfl) (pv 1)) (cu jn)))))),4;left;exists 1,p,dx,1,hp,7,p,tp,D,ln,lr,ns,rs,ws,i,2,hT,hW,ew,λj c l H1 ej X Z xZ hl=>?_,kx;subst ej;have hjl:=(ai.mp X).1;have w4:=h4 _ (aQ X);exists 37,l,1,.inl (bH.of hl),2,qR c,14;(try dsimp only);rw[b4 rfl,iW,Ck];by_cases O:x∈c.map λk:Nat=>(k:Int);(case neg=>rw[c5 O];exact cS (ky j c H1 rfl X (λz G e=>O (aF.mpr ⟨z,G,e.symm⟩)) Z));rw[b6 O];refine dh ?_;obtain⟨g,hkk,rfl⟩:=aF.mp O;exists 1,l,2,⟨_,bH.of hl⟩,λd f=>?_;have hC:=bH.of (K:=K) hl;refine jA (n:=(bN c).length) (λi ys _=>ys=bN ((c.take i).filter λz=>decide (z≠g))) f (vY hC) (lK hC) rfl ?_ ?_;rintro i ys H2 U N C rfl y Y ⟨rfl,W⟩;have W:=W _ (N.seq hC);have hi':i<c.length:=(by rw[ah] at U;exact U);have M:c[i]?=ac c[i]:=aa hi';rw[ak,M] at W;cases W;exists 3774;have et:c.take (i+1)=c.take i++[c[i]]:=(by rw[i7,M];rfl);by_cases G:c[i]=g;have e1:decide (cf (c[i]:Nat)=cf (g:Nat))=ag:=b6 (by rw[G]);rw[e1];refine dh (oz U N C ?_);rw[et,gp,G];simp;have e1:decide (cf (c[i]:Nat)=cf (g:Nat))=al:=c5 λq=>G (by have:=V.int.inj q;lia);rw[e1];refine cS ⟨1,gG f U N C ?_ ?_⟩;rw[ah];have:=bM (λz=>decide (z≠g)) (c.take i);rw[bT] at this;exact cU ∅;rw[et,gp,<- nC];simp[G];rintro ys H2 N C rfl;rw[ah,gR] at C;have s:=Z.trans N;have A:=s _ _ I;have hp2:=s _ _ hp;have u:j<R.length:=∅;exists 1,p,_,dx,5,hp2,T.d9,T.iV,7,D,33,j,22,A,(by rw[ah];exact KZ u),4;have hW2:=hW.mono s;generalize J:upd H2 D (.lst ((R.map ci).set j (.ref d)))=Y;have k3:∀b o,H2 b=ac o->b≠D->Y b=ac o:=λb o e nb=>(by rw[<- J,aI nb];exact e);have v:Y D=ac (.lst ((R.map ci).set j (.ref d))):=(by rw[<- J];exact aq);have hW3:=hW2.put A C hjl k3 v;have L:Y d=ac (.lst (bN (c.filter λz=>decide (z≠g)))):=k3 _ _ C (tK C A λz=>Cq (aa u) (HO.lst.inj z));obtain⟨⟨dx3,hp3⟩,_⟩:=id hW3;exists 1,p,_,dx3,5,hp3,T.d9,T.iV,7,D,33,ci d,22,bH.of v,dF (by rw[fV,b4 rfl,b4 (by rw[ah];exact u)]),bA _,λq hq=>?_;have S:=aB.new (o:=.lst []) hq;exists .list (((c.filter λz=>decide (z≠g)).map λk:Nat=>(k:Int)).map .int),.list [],⟨d,1,bH.of (S _ _ L),(by rw[iW];exact vq _)⟩,⟨q,1,bH.of aq,2⟩,rN _,2,bK (cE (aE (pF _ _) (!_)) _) hr.units,4;have z:=k j g c R d _ rfl rfl X hkk I (Z.free f) (S _ _ L) (S _ _ v) (λb o e nb=>S _ _ (k3 _ _ (s _ _ e) nb));cases e:c.filter λz=>decide (z≠g) with|nil=>rw[e] at z;exact z|cons a r=>rw[e] at z;exact z
inductive Fn(NG:am)(vs:List V)(H:Hp)(Q:VK)(E:XK):Prop
 |mk(g:Int):vs=[.int g]->(0<=g/\g<3->Q .fW H)->(¬(0<=g/\g<3)->E (.ref NG) ae H)->Fn NG vs H Q E
theorem zJ(T:Txt K mg w t):bu P w K mg base (jD P w) 1 t.pS t.uV ["group"] (Fn t.dc):=by refine T.gE.F.jb Q6 λH Q E d h=>?_;·obtain⟨g,rfl,k,c⟩:=h;exists _,(aX (bY (g9 (fG jm kR aC (pv 0) (lS T.gM (cF rfl T.lq (v:=.ref t.fj) rfl)))) (aX (dB rfl T.Vh T.Vi d.hd au)) bq)),4;left;exists 1574;by_cases b:0<=g;(case neg=>rw[c5 b];exact dh ⟨1,cS (c λz=>b z.1)⟩);rw[b6 b];refine cS ?_;exists 5,.inr (T.gK H),574;by_cases a:g<3;(case neg=>have e:decide (g<((([.int 1,.int 2,.int 4]:List V).length:Nat):Int))=al:=c5 a;rw[e];exact cS (c λz=>a z.2));have e:decide (g<((([.int 1,.int 2,.int 4]:List V).length:Nat):Int))=ag:=b6 a;rw[e];exact dh (k ⟨b,a⟩)
inductive wT(K:af)(CT C NG:am)(vs:List V)(H:Hp)(Q:VK)(E:XK):Prop
 |mk(p tp lu ln lr:am)(ns:List Int)(rs:List R5)(ws:List (List Nat))(g:Int):vs=[.ref p,.int g]->dR K CT H tp ln lr ns rs->zV C H p tp lu ws->ws.length=rs.length->cx rs<=20->(∀r∈rs,1<=r.e/\r.e<=7)->(∀(gg:Nat)l H',g=(gg:Int)->gg<3->aB H H'->H l=ae->H' l=ac (.lst (bN (Fk rs ws gg (cx rs))))->Q (.ref l) H')->(¬(0<=g/\g<3)->E (.ref NG) ae H)->wT K CT C NG vs H Q E
theorem EN(T:Txt K mg w t):bu P w K mg base (jD P w) 2 t.nM t.sC ["self","group"] (wT K t.aK t.c9 t.dc):=by refine T.nV.F.jb Eu λH Q E U h=>?_;·obtain⟨p,u,lu,ln,Y,ns,rs,d,g,rfl,R,hW,ew,xr,Z,k,kx⟩:=h;obtain⟨⟨D,N⟩,J,I,els,C⟩:=id hW;obtain⟨⟨S,l⟩,_⟩:=id R;exists _,(aj (cP (iz (zJ T) (U.mono (!_)) rfl T.gE.g T.gE.F.kp T.gE.B .nil cY (dg (pv 1)))) (oR (fN (kO Eu ["rope","group","self"] [ae,ac 1,ac 0]) rfl (lZ rfl T.sX (dg (aU (aU (pv 0) rfl) rfl))) (λ_ _ _ _=>by exact (gS 0 JX)) (λ_ _ _ _=>by exact (xB (PW.pt (E8 (ad0 K rfl (yL K (PU K rfl (pv 2) rfl) (pv 0)) (λ_=>rfl)) (zR (j3 (cM (PU K rfl (pv 2) rfl) T.fB T.Gg (LJ T) U (dX (pv 0) (pv 1))))))))) (λ_ _ _ _=>by exact (pv 0))))),4;left;exists 1,g,2,λhg=>?_,kx;obtain⟨a,rfl⟩:∃a:Nat,g=(a:Int):=⟨g.toNat,6⟩;have m:a<3:=∅;obtain⟨z,W⟩:=rc m;exists 1,p,_,D,5,N,T.d9,T.nY,2,u,_,S,5,l,T.fB,T.Ai,7,(by show -(2^62)<=((rs.length:Nat):Int);lia),(by show ((rs.length:Nat):Int)<2^62;lia),λM b=>?_;refine jA (n:=(((rs.length:Nat):Int)).toNat) (λi y _=>y=bN (Fk rs d a i)) b JE yg rfl ?_ ?_;(rintro i y O v c q rfl x H3 ⟨rfl,rfl⟩;have L:i<cx rs:=(by simpa using v);have f:rs[i]?=ac rs[i]:=aa L;have r:d[i]?=ac d[i]:=aa ∅;have s:J[i]?=ac J[i]:=aa ∅;have A:(bN (Fk rs d a i)).length<a9:=(by rw[ah];exact cU (by have:=aaN rs d a i;lia));have G:d3 rs d a i=((!(d[i]).isEmpty)&&UX (rs[i]).e a):=(by unfold d3;rw[f,r]);exists 1,p,_,D,5,c _ _ N,T.d9,T.iV,7,lu,33,ci J[i],22,bH.of (c _ _ I),(by rw[j9];exact dF (by rw[ak,s];rfl)),4;exists !(bN d[i]).isEmpty,44;exact .inl ⟨_,bH.of (c _ _ (C i _ _ s r)),2⟩;cases j:d[i] with|nil=>refine dh (oz v c q ?_);rw[Fl,G,j];simp|cons y0 r0=>(refine cS ?_;exists 1,p,_,D,5,c _ _ N,T.d9,T.nY,2,u,S,1,c _ _ l,71,u,ln,Y,ns,rs,i,rs[i],a,z,(by show [ci u,cf (0+(i:Int)),cf (a:Nat)]=_;rw[j9]),R.mono c,f,W,14;have o:=Z _ (aQ f);rw[Yn o.1 o.2 W];cases X:UX rs[i].e a with|true=>refine cS ⟨1,gG b v c q A ?_⟩;rw[Fl,G,j,X,j9];exact (nC _ _).symm|false=>refine dh (oz v c q ?_);rw[Fl,G,j,X];simp));rintro y O c q rfl;exact k a M O rfl m c b (by rw[q,g5])
inductive Fm(K:af)(vs:List V)(H:Hp)(Q:VK)(E:XK):Prop
 |mk (p C dx:am) (s:Int):vs=[.ref p,.int s]->H p=ac (.ins C dx [])->PN K C->eF K C "sender" -> Q .fW (upd H p (.ins C dx [("sender",.int s)]))->Fm K vs H Q E
theorem C2(T:Txt K mg w t):bu P w K mg base iJ 1 t.fP t.qp ["self","sender"] (Fm K):=by refine T.wB.F.jB MI λH Q E e h=>?_;·obtain⟨p,C,d,f,rfl,b,a,c,k⟩:=h;exists _,(aX (gY (pv 0) (pv 1) rfl)),4;left;exists 37,p,C,d,[],2,b,a,c,!_,k
inductive Zh(vs:List V)(H:Hp)(Q:VK)(E:XK):Prop
 |mk(p:am)(c:Int):vs=[.ref p,.int c]->Q (.bl al) H->Zh vs H Q E
theorem Pe(T:Txt K mg w t):bu P w K mg base iJ 1 t.nG t.se ["self","caller"] Zh:=by refine T.Gd.F.jB OU λH Q E a h=>?_;obtain⟨p,c,rfl,k⟩:=h;exists _,oB,k
inductive Zi(vs:List V)(H:Hp)(Q:VK)(E:XK):Prop
 |mk(p:am):vs=[.ref p]->Q .fW H->Zi vs H Q E
theorem EO(T:Txt K mg w t):bu P w K mg base iJ 1 t.jq t.sf ["self"] Zi:=by refine T.sN.F.jB OV λH Q E a h=>?_;obtain⟨p,rfl,k⟩:=h;exists _,(oR ny),k
inductive Ia(K:af)(vs:List V)(H:Hp)(Q:VK)(E:XK):Prop
 |mk (p C dx:am) (s:Int):vs=[.ref p]->H p=ac (.ins C dx [("sender",.int s)])->PN K C->eF K C "sender" -> Q (.int s) H->Ia K vs H Q E
theorem C3(T:Txt K mg w t):bu P w K mg base iJ 1 t.iX t.qq ["self"] (Ia K):=by refine T.qy.F.jB MJ λH Q E e h=>?_;obtain⟨p,C,d,f,rfl,b,a,c,k⟩:=h;exists _,(oR (aU (pv 0) rfl)),1,p,C,d,5,b,a,c,2,k
inductive Vw(C:am)(vs:List V)(H:Hp)(Q:VK)(E:XK):Prop
 |mk (p dx:am) (s to:Int):vs=[.ref p,.int s,.int to]->H p=ac (.ins C dx [])->(∀H',H' p=ac (.ins C dx [("sender",.int s),("to",.int to)])->(∀b o,H b=ac o->b≠p->H' b=ac o)->Q .fW H')->Vw C vs H Q E
theorem Pf(T:Txt K mg w t):bu P w K mg base iJ 2 t.nH t.sj ["self","sender","to"] (Vw t.iU):=by refine T.Ge.F.jB OW λH Q E f h=>?_;·obtain⟨p,a,d,i,rfl,g,k⟩:=h;exists _,(aj (cP (aaO (cF rfl T.agp (v:=.ref t.kI) rfl) T.MU (C2 T) (f.mono (!_)) T.wB.B .nil mZ (dX (pv 0) (pv 1)))) (aX (gY (pv 0) (pv 2) rfl))),4;left;exists 71,p,t.iU,a,d,2,g,T.vm,T.y9,4;exists 37,p,t.iU,a,1,aq,T.vm,T.DK,(by show 1<1000;decide),4;rw[fk (names:=["sender"]) rfl (↑_)];exact k _ aq λb o e c=>(by rw[aI c,aI c];exact e)
inductive Zj(C:am)(vs:List V)(H:Hp)(Q:VK)(E:XK):Prop
 |mk (p dx:am) (s to c:Int):vs=[.ref p,.int c]->H p=ac (.ins C dx [("sender",.int s),("to",.int to)])->Q (.bl (decide (cf c=cf to))) H->Zj C vs H Q E
theorem Se(T:Txt K mg w t):bu P w K mg base iJ 1 t.pO t.uR ["self","caller"] (Zj t.iU):=by refine T.IQ.F.jB QZ λH Q E e h=>?_;obtain⟨p,b,f,d,c,rfl,a,k⟩:=h;exists _,(oR (qE xj (pv 1) (aU (pv 0) rfl))),37,p,_,b,5,a,T.vm,T.DK,22,k
inductive Zk(C:am)(vs:List V)(H:Hp)(Q:VK)(E:XK):Prop
 |mk (p dx:am) (s to:Int):vs=[.ref p]->H p=ac (.ins C dx [("sender",.int s),("to",.int to)])->Q (.int to) H->Zk C vs H Q E
theorem Sf(T:Txt K mg w t):bu P w K mg base iJ 1 t.pP t.uS ["self"] (Zk t.iU):=by refine T.Bl.F.jB Q0 λH Q E d h=>?_;obtain⟨p,b,e,c,rfl,a,k⟩:=h;exists _,(oR (aU (pv 0) rfl)),1,p,_,b,5,a,T.vm,T.DK,2,k
inductive Nq(C:am)(vs:List V)(H:Hp)(Q:VK)(E:XK):Prop
 |mk (p dx:am) (s to:Int):vs=[.ref p]->H p=ac (.ins C dx [("sender",.int s),("to",.int to)])->Q (.int (s+to+1)) H->Nq C vs H Q E
theorem Pg(T:Txt K mg w t):bu P w K mg base iJ 1 t.nJ t.sq ["self"] (Nq t.iU):=by refine T.yX.F.jB OX λH Q E d h=>?_;obtain⟨p,b,e,c,rfl,a,k⟩:=h;exists _,(oR (fc V1 (fc V1 (aU (pv 0) rfl) (aU (pv 0) rfl)) aC)),1,p,_,b,5,a,T.vm,T.y9,7,p,_,b,5,a,T.vm,T.DK,25252,k
inductive Zl(C:am)(vs:List V)(H:Hp)(Q:VK)(E:XK):Prop
 |mk(p dx:am)(s c:Int):vs=[.ref p,.int c]->H p=ac (.ins C dx [("sender",.int s)])->Q (.bl (!decide (cf c=cf s))) H->Zl C vs H Q E
theorem Sg(T:Txt K mg w t):bu P w K mg base iJ 1 t.pQ t.uT ["self","caller"] (Zl t.lg):=by refine T.IS.F.jB Q2 λH Q E d h=>?_;obtain⟨p,b,e,c,rfl,a,k⟩:=h;exists _,(oR (qE lJ (pv 1) (aU (pv 0) rfl))),37,p,_,b,5,a,T.DL,T.sW,22,k
inductive Ib(C:am)(vs:List V)(H:Hp)(Q:VK)(E:XK):Prop
 |mk(p dx:am):vs=[.ref p]->H p=ac (.ins C dx [])->(∀d H',H d=ae->yl C H' p d []->(∀b o,H b=ac o->b≠p->H' b=ac o)->Q .fW H')->Ib C vs H Q E
theorem Sh(T:Txt K mg w t):bu P w K mg base iJ 1 t.pM t.uP ["self"] (Ib t.ie):=by refine T.Bj.F.jB QW λH Q E i h=>?_;·obtain⟨p,f,rfl,c,k⟩:=h;exists _,(aX (gY (pv 0) Yc rfl)),4;left;refine λd a=>⟨1,p,t.ie,f,[],24,T.JZ,T.Aj,!_,?_⟩;rw[aI (aJ c a)];exact c;refine k d _ a ⟨⟨f,aq⟩,4⟩ λb o e g=>?_;rw[aI (aJ c a).symm];exact aq;rw[aI g,aI (aJ e a)];exact e
inductive Fh(C:am)(vs:List V)(H:Hp)(Q:VK)(E:XK):Prop
 |mk(p d:am)(ts:List T3)(h c r:Int):vs=[.ref p,.int h,.int c,.int r]->yl C H p d ts->ts.length<10000->(∀H',H' d=ac (.dT (dV (ts.map qU) (d6 h c) (.int r)))->(∀b o,H b=ac o->b≠d->H' b=ac o)->Q .fW H')->Fh C vs H Q E
theorem Uj(T:Txt K mg w t):bu P w K mg base iJ 1 t.rZ t.xF ["self","house","caller","rope"] (Fh t.ie):=by refine T.Lg.F.jB Tg λH Q E j h=>?_;·obtain⟨p,d,q,s,f,r,rfl,⟨⟨i,m⟩,c⟩,n,k⟩:=h;exists _,(aX (IN (Ye j) (aU (pv 0) rfl) (bE (dX (pv 1) (pv 2))) (pv 3) rfl)),4;left;exists 37,p,t.ie,i,5,m,T.JZ,T.Aj,71,c8,λb a=>?_;have l:d≠b:=aJ c a;exists d,1,Yb.t (k:=d6 s f) (kvs:=q.map qU) (by rw[aI l];exact c) aq (by rw[ah];exact Nat.lt_trans n (by show 10000<2^24;decide)),4;exact k _ aq λx o e g=>(by rw[aI g,aI (aJ e a)];exact e)
inductive Fa(C:am)(vs:List V)(H:Hp)(Q:VK)(E:XK):Prop
 |mk(p d:am)(ts:List T3)(h c:Int):vs=[.ref p,.int h,.int c]->yl C H p d ts->(∀H',aB H H'->Q (((yk ts h c).map cf).getD .fW) H')->Fa C vs H Q E
theorem Uk(T:Txt K mg w t):bu P w K mg base iJ 1 t.r6 t.xG ["self","house","caller"] (Fa t.ie):=by refine T.Lh.F.jB Th λH Q E j h=>?_;·obtain⟨p,d,m,f,a,rfl,⟨⟨i,l⟩,e⟩,k⟩:=h;exists _,(oR (afv (Ye j) (aU (pv 0) rfl) (bE (dX (pv 1) (pv 2))) ⟨2222⟩)),4;left;exists 1,p,t.ie,i,5,l,T.JZ,T.Aj,2,d,2,.inr ⟨_,.inl e⟩,37,c8,λb g=>?_;have c:=aB.new (o:=.tup [.int f,.int a]) g;exists _,Tc.t (k:=d6 f a) (c _ _ e) aq,4;rw[QC];exact k _ c
inductive Zm(C:am)(vs:List V)(H:Hp)(Q:VK)(E:XK):Prop
 |mk(p d:am)(ts:List T3):vs=[.ref p]->yl C H p d ts->(∀d' H',H d'=ae->yl C H' p d' []->(∀b o,H b=ac o->b≠p->H' b=ac o)->Q .fW H')->Zm C vs H Q E
theorem Si(T:Txt K mg w t):bu P w K mg base iJ 1 t.pN t.uQ ["self"] (Zm t.ie):=by refine T.Bk.F.jB QX λH Q E l h=>?_;·obtain⟨p,d,m,rfl,⟨⟨f,c⟩,j⟩,k⟩:=h;exists _,(aX (gY (pv 0) Yc rfl)),4;left;refine λg a=>⟨1,p,t.ie,f,[("kept",.ref d)],24,T.JZ,T.Aj,(by show 1<1000;decide),4⟩;rw[aI (aJ c a)];exact c;refine k g _ a ⟨⟨f,aq⟩,4⟩ λb o e i=>?_;rw[aI (aJ c a).symm];exact aq;rw[aI i,aI (aJ e a)];exact e
inductive q0(K:af)(C:am)(vs:List V)(H:Hp)(Q:VK)(E:XK):Prop
 |mk(bk d lo lh:am)(ts:List T3)(so cH:Option Int)(rO:Int)(os hs:List Int):vs=[.ref bk,Mv so,.int rO,Mv cH,.ref lo,.ref lh]->yl C H bk d ts->bH K H lo (os.map cf)->bH K H lh (hs.map cf)->os.length<=1000->(∀l H',aB H H'->H l=ae->H' l=ac (.lst ((f5 ts so rO cH os hs).map cf))->Q (.ref l) H')->q0 K C vs H Q E
theorem Zn(T:Txt K mg w t):bu P w K mg base iJ 2 t.yM t.DF ["book","sought","house","came","open_here","here"] (q0 K t.ie):=by
 refine T.Q9.F.jB zX λH Q E hr h=>?_
 ·obtain⟨X,d,lo,lh,U,W,f,M,os,q,rfl,Y,D,hH,L,k⟩:=h;exists _,(aj (bY (rL Ci (pv 1) (pv 5) (by with_unfolding_all rfl)) (oR (cu jn)) bq) (aj (sS 6 zX (jl (qT m4 (pv 1) ny) ny (cM (pv 0) T.JZ T.Lh (Uk T) hr (dX (pv 2) (pv 1))))) (aj (sS 7 zX (jl (rL Ci (pv 6) (pv 4) (by with_unfolding_all rfl)) (cu (dg (pv 6))) (pv 4))) (oR (fN (kO zX ["rope","came"] [ae,ac 3]) rfl (dZ (pv 7)) (λ_ _ _ _=>by exact (gS 0 QY)) (λ_ _ _ _=>by exact (xB (qT lJ (pv 0) (pv 1)))) (λ_ _ _ _=>by exact (pv 0))))))),4;left;obtain⟨dx,J⟩:=Y.ob;exists 37,lh,1,.inl hH,afQ W,Cm q,14;cases W with
  |none=>refine qS (by show XI .fW _=al;exact QD q) ?_;exists 17,K1 (b6 rfl) ?_;exists 37,lo,1,.inl D,2,Cm os,1,qS (by show XI .fW _=al;exact QD os) ?_;exists 37,lo,2,⟨_,D⟩,λc a=>?_;refine ym (yo f) a D L (λx n R S _ u B j=>?_) (λn u g=>k c n u a g);exists 37,K4 x f,14;exact nA (λe=>⟨1,B _ (aB.refl _) e⟩) (λe=>j _ (aB.refl _) (neT e))
  |some m=>
   refine nA (λe=>?_) (λe=>?_);exists bA _,λl v=>k l _ (aB.new v) v ?_;have N:m∈q:=(by have e:XI (.int m) (q.map cf)=ag:=e;rw[Ck] at e;exact c7 e);show _=ac (cr (List.map cf (if m∈q then [] else _)));rw[b4 N];exact aq;have N:¬m∈q:=λz=>e (by show XI (.int m) (q.map cf)=ag;rw[Ck];exact b6 z)
   exists 17,qS (c5 λz=>by cases z) ?_;exists 1,X,dx,1,J,71,X,d,U,M,m,2,Y,λZ y=>?_;have p:∀l b,aB H b->H l=ae->b l=ac (.lst ((match yk U M m with
    |some r=>if r∈os then [r].filter (yo f) else os.filter (yo f)
    |none=>os.filter (yo f)).map cf))->Q (.ref l) b:=λl b s v g=>k l b s v (by
    show _=ac (cr (List.map cf (if m∈q then [] else _)));rw[b5 N];exact g)
   have i:=y.seq D;cases hk:yk U M m with|none=>rw[hk] at p;exists 37,lo,1,.inl i,2,Cm os,1,qS (by show XI .fW _=al;exact QD os) ?_;exists 37,lo,2,⟨_,i⟩,λc a=>?_;refine ym (yo f) a i L (λx n R S _ u B j=>?_) (λn u g=>p c n (y.trans u) (y.free a) g);exists 37,K4 x f,14;exact nA (λe=>⟨1,B _ (aB.refl _) e⟩) (λe=>j _ (aB.refl _) (neT e))|some r=>rw[hk] at p;dsimp only[nj,Option.getD_some];exists 37,lo,1,.inl i,2,Cm os,1,nA (λC=>?_) (λC=>?_);have A:r∈os:=(by have C:XI (.int r) (os.map cf)=ag:=C;rw[Ck] at C;exact c7 C);have p:∀l b,aB H b->H l=ae->b l=ac (.lst (([r].filter (yo f)).map cf))->Q (.ref l) b:=λl b s v g=>p l b s v (by show _=ac (cr (List.map cf (if r∈os then _ else _)));rw[b4 A];exact g);exists 1,gN,λG O=>?_;have I:=aB.new (o:=.lst [cf r]) O;have j:bH K (upd Z G (.lst [cf r])) G ([r].map cf):=bH.of aq;generalize upd Z G (.lst [cf r])=n at I j;exists 1,G,2,⟨_,j⟩,λc a=>?_;refine ym (yo f) a j (by show 1<=1000;decide) (λx H3 R S _ s3 B j=>?_) (λH3 s3 g=>p c H3 (y.trans (I.trans s3)) (y.free (I.free a)) g);exists 37,K4 x f,14;exact nA (λe=>⟨1,B _ (aB.refl _) e⟩) (λe=>j _ (aB.refl _) (neT e));have A:¬r∈os:=λz=>C (by show XI (.int r) (os.map cf)=ag;rw[Ck];exact b6 z);have p:∀l b,aB H b->H l=ae->b l=ac (.lst ((os.filter (yo f)).map cf))->Q (.ref l) b:=λl b s v g=>p l b s v (by show _=ac (cr (List.map cf (if r∈os then _ else _)));rw[b5 A];exact g);exists 37,lo,2,⟨_,i⟩,λc a=>?_;refine ym (yo f) a i L (λx n R S _ u B j=>?_) (λn u g=>p c n (y.trans u) (y.free a) g);exists 37,K4 x f,14;exact nA (λe=>⟨1,B _ (aB.refl _) e⟩) (λe=>j _ (aB.refl _) (neT e))
inductive Vx(K:af)(C cL c1 cA:am)(vs:List V)(H:Hp)(Q:VK)(E:XK):Prop
 |mk(bk d la lo lh:am)(ts:List T3)(s to kd rO:Int)(cH:Option Int)(os hs:List Int):vs=[.ref bk,.ref la,.int rO,Mv cH,.ref lo,.ref lh]->yl C H bk d ts->Oc cL c1 cA H la s to kd->bH K H lo (os.map cf)->bH K H lh (hs.map cf)->os.length<=1000->hs.length<=1000->(∀p l1 l2 H',aB H H'->H p=ae->H l1=ae->H l2=ae->l1≠l2->H' p=ac (.tup [.ref l1,.ref l2])->H' l1=ac (.lst ((hs.filter (QE s to kd)).map cf))->H' l2=ac (.lst ((f5 ts (HJ to kd) rO cH os hs).map cf))->Q (.ref p) H')->Vx K C cL c1 cA vs H Q E
theorem abq(T:Txt K mg w t):bu P w K mg base iJ 3 t.CF t.HQ ["book","letter","house","came","open_here","here"] (Vx K t.ie t.kI t.iU t.lg):=by refine T.Vd.F.jB JU λH Q E v h=>?_;·obtain⟨M,d,j,lo,J,L,G,z,kd,I,C,os,D,rfl,U,Z,N,A,X,Y,k⟩:=h;exists _,(aj (Dg (i:=6) JU.nd rfl (Or.inl rfl) (kO JU ["caller","letter"] [ae,ac 1]) rfl (dZ (pv 5)) (λ_ _ _ _=>by exact (gS 0 Ti)) (λ_ _ _ _=>by exact (xB (j3 (Mu (cM (pv 1) T.Rf T.Gd (Pe T) v (dg (pv 0))) (Mu (cM (pv 1) T.vm T.IQ (Se T) v (dg (pv 0))) (cM (pv 1) T.DL T.IS (Sg T) v (dg (pv 0)))))))) (λ_ _ _ _=>by exact (pv 0))) (oR (bE (dX (pv 6) (cG (Zn T) v T.Q9 (oI (pv 0) (Mu (pI (pv 1) T.Rf T.sN.m (EO T) (v.mono (!_)) T.sN.B .nil mZ) (Mu (pI (pv 1) T.vm T.Bl.m (Sf T) (v.mono (!_)) T.Bl.B .nil mZ) (pI (pv 1) T.DL T.Tt (EO T) (v.mono (!_)) T.sN.B .nil mZ))) (pv 2) (pv 3) (pv 4) (pv 5))))))),4;left;exists 1,J,2,⟨_,A⟩,λy q=>?_;refine ym (QE G z kd) q A Y (λx W R S _ b h1 O=>?_) (λW b hy=>?_);(have s:=Z.mono b;cases s with|bare f c=>exact .inl ⟨1,j,f,1,c,7,j,x,7,O _ (aB.refl _) rfl⟩|one f c=>refine .inr (.inl ⟨1,j,f,1,c,7,j,f,G,z,x,2,c,14⟩);exact nA (λe=>⟨1,h1 _ (aB.refl _) e⟩) (λe=>O _ (aB.refl _) (neT e))|all f c=>refine .inr (.inr ⟨1,j,f,1,c,7,j,f,G,x,2,c,14⟩);exact nA (λe=>⟨1,h1 _ (aB.refl _) e⟩) (λe=>O _ (aB.refl _) (neT e)));have s:=Z.mono b;have rest:∀g l,aB W l->W g=ae->l g=ac (.lst ((f5 L (HJ z kd) I C os D).map cf))->2<=a9/\∀p,l p=ae->Q (.ref p) (upd l p (.tup [.ref y,.ref g])):=λg l n a r=>(by exists !_,λp hp=>?_;have u:=aB.new (o:=.tup [ci y,.ref g]) hp;exact k p y g _ ((b.trans n).trans u) (b.free (n.free hp)) q (b.free a) (aJ hy a) aq (u _ _ (n _ _ hy)) (u _ _ r));exists 374;cases s with|bare f c=>exact .inl ⟨1,j,f,1,c,2,j,7137,M,d,lo,J,L,ae,C,I,os,D,2,U.mono b,b.seq N,b.seq A,X,λg l n a r=>rest g l n a r⟩|one f c=>exact .inr (.inl ⟨1,j,f,1,c,2,j,f,G,z,2,c,3737,M,d,lo,J,L,ac z,C,I,os,D,2,U.mono b,b.seq N,b.seq A,X,λg l n a r=>rest g l n a r⟩)|all f c=>exact .inr (.inr ⟨1,j,f,1,c,2,j,7137,M,d,lo,J,L,ae,C,I,os,D,2,U.mono b,b.seq N,b.seq A,X,λg l n a r=>rest g l n a r⟩)
inductive Sj(K:af)(CT C:am)(vs:List V)(H:Hp)(Q:VK)(E:XK):Prop
 |mk (p dx tp ln lr:am) (ns:List Int) (rs:List R5):vs=[.ref p,.ref tp]->H p=ac (.ins C dx [])->dR K CT H tp ln lr ns rs->cx rs<=20->(∀r∈rs,1<=r.d/\r.d<=4)->(∀lu (ls:List am) H',H lu=ae->(∀l∈ls,H l=ae)->lu∉ls->ls.Nodup->ls.length=rs.length->H' p=ac (.ins C dx [("town",.ref tp),("upright",.ref lu)])->H' lu=ac (.lst (ls.map ci))->(∀(j:Nat) l r,ls[j]?=ac l->rs[j]?=ac r->H' l=ac (.lst (bN (ay r.d.toNat))))->(∀b o,H b=ac o->b≠p->H' b=ac o)->Q .fW H')->Sj K CT C vs H Q E
theorem LK(T:Txt K mg w t):bu P w K mg base iJ 3 t.kD t.oN ["self","town"] (Sj K t.aK t.c9):=by refine T.CN.F.jB zY λH Q E hr h=>?_;·obtain⟨p,X,B,ln,lr,ns,rs,rfl,hp,hT,xr,hw,k⟩:=h;exists _,(aj (gY (pv 0) (pv 1) rfl) (aX (gY (pv 0) (fN (kO zY ["rope","town"] [ae,ac 1]) rfl (lZ rfl T.sX (dg (aU (pv 1) rfl))) (λ_ _ _ _=>by exact (gS 0 FJ)) (λ_ _ _ _=>by exact gk) (λ_ _ _ _=>by exact (eK (aaC rfl) (by rfl) T.Gp boot_list (dg (eK Yh (by rfl) T.sX boot_range (dg (cG (OH T) hr T.JY (dX (pv 1) (pv 0))))))))) rfl))),4;left;obtain⟨⟨dt,htp⟩,_⟩:=id hT;have xU:B≠p:=tK htp hp λz=>(by have:=(HO.ins.inj z).2.2;cases this);exists 37,p,_,X,[],2,hp,T.d9,T.nY,!_,?_;rw[fk (names:=[]) rfl rfl];generalize G:upd H p (.ins t.c9 X ([]++[(a8 "town",ci B)]))=H1;have k1:∀b o,H b=ac o->b≠p->H1 b=ac o:=λb o e O=>(by rw[<- G,aI O];exact e);have v:H1 p=ac (.ins t.c9 X [(a8 "town",ci B)]):=(by rw[<- G];exact aq);have I:=hT.but k1 hp xU;have f1:∀{l:am},H1 l=ae->H l=ae:=λ{l} e=>(by cases q:H l with|none=>rfl|some o=>by_cases z:l=p;rw[z,v] at e;cases e;have:=k1 _ _ q z;rw[e] at this;cases this);obtain⟨⟨dt,asd⟩,_⟩:=id I;exists 1,B,_,dt,5,asd,T.fB,T.Ai,7,(by show -(2^62)<=((rs.length:Nat):Int);lia),(by show ((rs.length:Nat):Int)<2^62;lia),λc a=>?_;refine jA (n:=(((rs.length:Nat):Int)).toNat) (λi ys U=>∃f:List am,ys=f.map ci/\f.length=i/\f.Nodup/\(∀l∈f,H l=ae/\U l≠ae)/\∀(j:Nat) l r,f[j]?=ac l->rs[j]?=ac r->U l=ac (.lst (bN (ay r.d.toNat)))/\l≠c) a JE yg ⟨[],22,mO,λl s=>(by cases s),λj l r e=>by simp at e⟩ ?_ ?_;rintro i ys U S C W ⟨f,rfl,u,nd,g,m⟩ x H3 ⟨rfl,rfl⟩;have S:i<cx rs:=(by simpa using S);have y:rs[i]?=ac rs[i]:=aa S;have wi:=hw _ (aQ y);obtain⟨d,ed⟩:∃d:Nat,rs[i].d=(d:Int):=⟨rs[i].d.toNat,6⟩;exists 37,B,ln,lr,ns,rs,i,rs[i],(by show [ci B,cf (0+(i:Int))]=_;rw[j9]),I.mono C,y,4;exists rs[i].d,2,λq hq=>?_;have R:=aB.new (o:=.jy 0 rs[i].d) hq;exists q,d,2,(by rw[aq,ed]),6,λl s=>?_;have xZ:H l=ae:=f1 ((C.trans R).free s);have nl:l∉f:=λz=>(g l z).2 (R.free s);have J:=R.trans (aB.new (o:=.lst ((ay d).map λk=>cf (k:Nat))) s);have Ui:=J _ _ W;have S6:(upd (upd H3 q (.jy 0 rs[i].d)) l (.lst ((ay d).map λk=>cf (k:Nat)))) l=ac (.lst (bN (ay d))):=aq;have A:l≠c:=(aJ (R _ _ W) s).symm;generalize upd (upd H3 q (.jy 0 rs[i].d)) l (.lst ((ay d).map λk=>cf (k:Nat)))=H4 at J Ui S6;refine gG a (by simpa using S) (C.trans J) Ui (by rw[ah,u];exact cU ∅) ⟨f++[l],by rw[bx];rfl,by rw[av,u];rfl,Gr.Qv nd nl,λL hl'=>?_,λj L r D N=>?_⟩;rcases bh.mp hl' with z|z;(obtain⟨z1,Y⟩:=g L z;exists z1,4;by_cases q:L=c;rw[q,aq];exact bg _;rw[aI q];cases e:H3 L with|none=>exact b3 e Y|some o=>rw[J _ _ e];exact bg _);rw[aZ.mp z];exact⟨xZ,by rw[aI A,S6];exact bg _⟩;rcases PY D with D|⟨rfl,rfl⟩;obtain⟨z1,Y⟩:=m j L r D N;exists by rw[aI Y];exact J _ _ z1,Y;rw[u,y] at N;cases N;rw[ed,g5];exists by rw[aI A];exact S6,A;rintro ys U C W ⟨f,rfl,u,nd,g,m⟩;have u:f.length=rs.length:=(by simpa using u);have L1:p≠c:=aJ v a;have M:=C _ _ v;exists 1,p,_,X,1,M,T.d9,T.iV,(by show 1<1000;decide),4;rw[fk (names:=["town"]) rfl (↑_)];refine k c f _ (f1 a) (λl s=>(g l s).1) (λz=>?_) nd u aq (by rw[aI (bS L1)];exact W) (λj l r D N=>?_) λb o e O=>(by rw[aI O];exact C _ _ (k1 _ _ e O));obtain⟨j,hj⟩:=m9 z;have Z:=(ai.mp hj).1;exact (m j c _ hj (aa (u▸Z))).2 rfl;have z:=(m j l r D N).1;rw[aI (tK z M (by intro z;cases z))];exact z
inductive OI(K:af)(C:am)(vs:List V)(H:Hp)(Q:VK)(E:XK):Prop
 |mk(tp ln lr:am)(ns:List Int)(rs:List R5):vs=[.ref tp]->dR K C H tp ln lr ns rs->cx ns<=12->(∀l(qs:List am)H',aB H H'->H l=ae->H' l=ac (.lst (qs.map ci))->gI K H' qs (jo (cx ns) (EV ns))->Q (.ref l) H')->OI K C vs H Q E
theorem Ul(T:Txt K mg w t):bu P w K mg base iJ 3 t.r9 t.xJ ["town"] (OI K t.aK):=by refine T.Li.F.jB IF λH Q E C h=>?_;·obtain⟨s,A,y,ns,D,rfl,u,z,k⟩:=h;exists _,(oR (fN (kO IF ["house","town"] [ae,ac 0]) rfl (lZ rfl T.sX (dg (aU (pv 0) rfl))) (λ_ _ _ _=>by exact (gS 0 MQ)) (λ_ _ _ _=>by exact gk) (λ_ _ _ _=>by exact (cG (R7 T) C T.MS (dX (pv 1) (pv 0)))))),4;left;obtain⟨⟨B,l⟩,_⟩:=id u;exists 1,s,_,B,5,l,T.fB,T.iO,2,(ns.length:Int),266,λr a=>?_;refine jA (n:=((ns.length:Int)).toNat) (λi o g=>∃c:List am,o=c.map ci/\gI K g c (jo i (EV ns))) a JE yg ⟨[],2,⟨2,λi q x e=>by cases e⟩⟩ ?_ ?_;rintro i o g f j p ⟨c,rfl,d⟩ x G ⟨rfl,rfl⟩;have f:i<cx ns:=(by simpa using f);rw[j9];exists 37,s,A,y,ns,D,i,ns[i],2,u.mono j,aa f,λq I m hq=>?_;have v:=m _ _ p;have J:c.length=i:=(by rw[d.len];simp[jo]);refine gG a (by simpa using f) (j.trans m) v (by rw[ah];exact cU ∅) ⟨c++[q],by rw[bx];rfl,4⟩;have e:jo (i+1) (EV ns)=jo i (EV ns)++[cO ⟨ns[i],(0),(0),-1⟩]:=(by unfold jo;rw[iK,bx,bL,List.map_nil];congr 3;unfold EV;rw[ao,aa f];rfl);rw[e];exact (gI.snoc (d.mono λb x=>m.iA) hq).mono λb x=>dY.past v tX dU;rintro o g j p ⟨c,rfl,d⟩;rw[show ((ns.length:Int)).toNat=ns.length from rfl] at d;exact k r c g j a p d
inductive Hg(K:af)(C:am)(vs:List V)(H:Hp)(Q:VK)(E:XK):Prop
 |mk(tp ln lr lc:am)(ns:List Int)(rs:List R5)(qs:List am)(cl:List (Nat×Nat)):vs=[.ref tp,.ref lc]->dR K C H tp ln lr ns rs->bH K H lc (qs.map ci)->gI K H qs (cl.map λc=>[.int c.1,.int c.2])->cl.length<=20->(∀c∈cl,c.1<cx ns/\c.2<3)->Q .fW H->Hg K C vs H Q E
theorem Nr(T:Txt K mg w t):bu P w K mg base iJ 1 t.jK t.lV ["town","callers"] (Hg K t.aK):=by refine T.jL.F.jB oG λH Q E M h=>?_;·obtain⟨s,L,J,j,ns,O,c,cl,rfl,B,o,u,N,r,k⟩:=h;exists _,(aj (bY (qT i4 (lS T.gM (pv 1)) (cF rfl T.zc (v:=.int 20) ⟨1⟩)) bP bq) (aX (fS (dZ (pv 1)) (gT 2 oG) (aj (bY (qT lJ (lS T.gM (pv 2)) aC) bP bq) (aj (bY (g9 (fG jm kR aC (xT (pv 2) aC) (aU (pv 0) rfl))) bP bq) (aX (bY (g9 (fG jm kR aC (xT (pv 2) aC) (lS T.gM (cF rfl T.lq (v:=.ref t.fj) rfl)))) bP bq))))))),4;left;obtain⟨⟨C,l⟩,_⟩:=id B;have G:c.length=cl.length:=(by rw[u.len,ah]);exists 1,j,1,.inl o,57,qS (c5 (by rw[ah];lia)) ?_;exists 1,j,2,⟨_,o⟩,rK (K:=K) (a:=j) (xs:=c.map ci) (λi f d=>d=H/\∃m:Option V,f=[ac (.ref s),ac (.ref j),m]) ⟨7⟩ (λi f d _ z=>by rw[z.1];exact o) ?_ ?_;rintro i y f d n ⟨rfl,m,rfl⟩;have b:=(ai.mp n).1;rw[ah] at b;have e:i<cl.length:=G▸b;have D:y=.ref c[i]:=(by rw[ak,aa b] at n;exact (aT n).symm);subst D;have hq:dY K d c[i] [.int cl[i].1,.int cl[i].2]:=u.at' i _ _ (aa b) (by rw[ak,aa e];rfl);obtain⟨A,x⟩:=r _ (aD e);generalize c[i]=q at hq;generalize cl[i]=cc at hq A x;obtain⟨p,g⟩:=cc;exists 1,q,1,.inr hq,7,qS (by show (!decide (cf 2=cf 2))=al;rw[b6 rfl];rfl) ?_;exists 1,q,8,hq,2574;rw[b6 (show (0:Int)<=(p:Int) by lia)];refine cS ⟨1,s,_,C,5,l,T.fB,T.iO,2574⟩;rw[b6 (show (p:Int)<(ns.length:Int) by have:p<cx ns:=A;lia)];refine dh ?_;exists 1,q,8,hq,2574;rw[b6 (show (0:Int)<=(g:Int) by lia)];refine cS ⟨5,.inr (T.gK _),574⟩;have I:decide ((g:Int)<((([.int 1,.int 2,.int 4]:List V).length:Nat):Int))=ag:=b6 (by show (g:Int)<3;have:g<3:=x;lia);rw[I];exact dh ⟨7⟩;rintro f d ⟨rfl,m,rfl⟩;exact k
end
noncomputable abbrev nc(t:Ad):NC:=⟨t.cT,t.c9,t.ie,t.lW,t.kI,t.iU,t.lg⟩
section
variable{P:bv}{w:World}{K:af}{mg:Str->Option ap}{base:Heap}
inductive Vy(K:af)(CT:am)(c:NC)(vs:List V)(H:Hp)(Q:VK)(E:XK):Prop
 |mk(p dx tp ln lr lc:am)(ns:List Int)(rs:List R5)(qs:List am)(cl:List (Nat×Nat)):vs=[.ref p,.ref tp,.ref lc]->H p=ac (.ins c.cj dx [])->dR K CT H tp ln lr ns rs->cx ns<=12->cx rs<=20->(∀r∈rs,1<=r.d/\r.d<=4)->bH K H lc (qs.map ci)->gI K H qs (cl.map λc=>[.int c.1,.int c.2])->cl.length<=20->(∀c∈cl,c.1<cx ns/\c.2<3)->(∀F H',dH K c H' F p tp (cx ns) (S0 ns rs cl)->(∀b o,H b=ac o->b≠p->H' b=ac o)->(∀b,F b->b=p∨H b=ae)->Q .fW H')->Vy K CT c vs H Q E
noncomputable abbrev nf(fs:List (Str×V))(k:Str)(v:V):List (Str×V):=fs++[(k,v)]
structure OJ(K:af)(CT:am)(H:Hp)(tp ln lr lc:am)(ns:List Int)(rs:List R5)(qs:List am)(cl:List (Nat×Nat)):Prop where
 nD:dR K CT H tp ln lr ns rs
 tL:bH K H lc (qs.map ci)
 tup:gI K H qs (cl.map λc=>[.int c.1,.int c.2])
theorem OJ.mono(h:OJ K CT H tp ln lr lc ns rs qs cl)(s:aB H H'):OJ K CT H' tp ln lr lc ns rs qs cl:=⟨h.nD.mono s,s.seq h.tL,h.tup.mono λb x=>s.iA⟩
theorem OJ.put(h:OJ K CT H tp ln lr lc ns rs qs cl)(a:H p=ac (.ins C dx fs))(n:tp≠p):OJ K CT (upd H p o) tp ln lr lc ns rs qs cl :=⟨h.nD.but (λb u e c=>by rw[aI c];exact e) a n,bH.past a xv dU h.tL,h.tup.mono λb x=>dY.past a o4 dU⟩
theorem C4(la:Nat->am)(i:Nat)(l:am):(ay (i+1)).map (λg=>ci (fO la i l g))=(ay i).map (λg=>ci (la g))++[.ref l]:=by rw[iK,bx,bL,List.map_nil,d8];congr 1;refine dP λg a=>?_;rw[iB (bB (dO.mp a))]
noncomputable def lf(loc:Role->am)(acc:am)(la:Nat->am):Role->am
 |.yq=>acc
 |.rows g=>la g
 |r=>loc r
noncomputable def kn(ob:Role->Option HO)(la:Nat->am)(rq:Nat->List am)(i:Nat):Role->Option HO
 |.yq=>ac (.lst ((ay i).map λg=>.ref (la g)))
 |.rows g=>if g<i then ac (.lst ((rq g).map ci)) else ae
 |r=>ob r
noncomputable def ix(loc:Role->am)(acc:am)(lb ld:Nat->am):Role->am
 |.mP=>acc
 |.book g=>lb g
 |.g6 g=>ld g
 |r=>loc r
noncomputable def ij(C:am)(ob:Role->Option HO)(dxb lb ld:Nat->am)(i:Nat):Role->Option HO
 |.mP=>ac (.lst ((ay i).map λg=>.ref (lb g)))
 |.book g=>if g<i then ac (.ins C (dxb g) [("kept",.ref (ld g))]) else ae
 |.g6 g=>if g<i then ac (.dT []) else ae
 |r=>ob r
noncomputable def qr(loc:Role->am)(acc:am)(lh:Nat->am):Role->am
 |.jR=>acc
 |.handed g=>lh g
 |r=>loc r
noncomputable def pk(ob:Role->Option HO)(lh:Nat->am)(i:Nat):Role->Option HO
 |.jR=>ac (.lst ((ay i).map λg=>.ref (lh g)))
 |.handed g=>if g<i then ac (.lst []) else ae
 |r=>ob r
noncomputable def py(dx dxs:am)(dxb:Nat->am):Role->am
 |.cj=>dx
 |.bZ=>dxs
 |.book g=>dxb g
 |_=>0
noncomputable def rd(p sp lu:am)(ls:List am)(acc:am)(la:Nat->am)(acb:am)(lb ld:Nat->am)(ach uw u9:am)(lh:Nat->am)(acl R9:am):Role->am
 |.cj=>p
 |.bZ=>sp
 |.dG=>lu
 |.gV i=>ls.getD i 0
 |.yq=>acc
 |.rows g=>la g
 |.mP=>acb
 |.book g=>lb g
 |.g6 g=>ld g
 |.aL=>ach
 |.groups=>uw
 |.jR=>u9
 |.handed i=>lh i
 |.cJ=>acl
 |.fJ=>R9
 |_=>0
theorem Um(T:Txt K mg w t):bu P w K mg base iJ 5 t.oJ t.sD ["self","town","callers"] (Vy K t.aK (nc t)):=by refine T.sP.F.jB j5 λH Q E hr h=>?_;·obtain⟨p,s,y,ln,lr,lc,ns,rs,qs,cl,rfl,hp,hT,h12,xr,hw,hL,P8,asf,hok,k⟩:=h;exists _,(aj (cP (cG (Nr T) hr T.jL (dX (pv 1) (pv 2)))) (aj (gY (pv 0) (pv 1) rfl) (aj (gY (pv 0) (cI T.CN (LK T) hr T.aef (dg (pv 1))) rfl) (aj (gY (pv 0) (fN (kO j5 ["bit","town"] [ae,ac 1]) rfl (na (cF rfl T.lq (v:=.ref t.fj) rfl)) (λ_ _ _ _=>by exact (gS 0 ML)) (λ_ _ _ _=>by exact gk) (λ_ _ _ _=>by exact (cG (Ul T) hr T.Li (dg (pv 1))))) rfl) (aj (gY (pv 0) (fN (kO j5 ["bit"] [ae]) rfl (na (cF rfl T.lq (v:=.ref t.fj) rfl)) (λ_ _ _ _=>by exact (gS 0 MM)) (λ_ _ _ _=>by exact gk) (λ_ _ _ _=>by exact (afj T.Bj.M (Sh T) (hr.mono (!_)) rfl T.ame T.Bj.B .nil mZ))) rfl) (aj (gY (pv 0) (fN (kO j5 ["caller"] [ae]) rfl (dZ (pv 2)) (λ_ _ _ _=>by exact (gS 0 MN)) (λ_ _ _ _=>by exact gk) (λ_ _ _ _=>by exact (yT K (pv 0) aC))) rfl) (aj (gY (pv 0) (fN (kO j5 ["caller"] [ae]) rfl (dZ (pv 2)) (λ_ _ _ _=>by exact (gS 0 MO)) (λ_ _ _ _=>by exact gk) (λ_ _ _ _=>by exact (yT K (pv 0) aC))) rfl) (aj (gY (pv 0) (fN (kO j5 ["caller"] [ae]) rfl (dZ (pv 2)) (λ_ _ _ _=>by exact (gS 0 MP)) (λ_ _ _ _=>by exact gk) (λ_ _ _ _=>by exact (cu jn))) rfl) (aj (gY (pv 0) (cu jn) rfl) (aX (gY (pv 0) (cu jn) rfl))))))))))),4;left;obtain⟨⟨dt,htp⟩,htn,vs,htr,_⟩:=id hT;have xU:y≠p:=tK htp hp λz=>(by have:=(HO.ins.inj z).2.2;cases this);refine cy λNx W=>?_;exists 37,y,ln,lr,lc,ns,rs,qs,cl,2,hT,hL,P8,asf,hok,W _ _ ?_;have B0:OT H H p (λ_=>p) (λr=>if r=.cj then ac (.ins t.cT s []) else ae):=(by exists ⟨λr o e=>?_,λr q h1 h2 _=>?_⟩,2,-_,λb o e _=>e,λb hb=>.inl ?_;by_cases z:r=.cj;rw[b4 z] at e;cases e;exact hp;rw[b5 z] at e;cases e;have g:∀{r:Role},(if r=Role.cj then ac (cw t.cT s []) else ae)≠ae->r=.cj:=λ{r} h=>(by by_cases z:r=.cj;exact z;rw[b5 z] at h;exact b3 rfl h);rw[g h1,g h2];obtain⟨_,_,e⟩:=hb;exact e.symm);refine cy λNx W=>?_;exists 37,p,_,s,[],2,hp,T.aW,T.ir,!_,?_;rw[fk (names:=[]) rfl rfl];refine W _ _ ?_;have B1:=B0.put (.ins t.cT s ([]++[(a8 "town",ci y)]));have hT1:dR K t.aK (upd H p (.ins t.cT s ([]++[(a8 "town",ci y)]))) y ln lr ns rs:=hT.but (λb o e n=>by rw[aI n];exact e) hp xU;have hp1:=aq (H:=H) (a:=p) (o:=.ins t.cT s ([]++[(a8 "town",ci y)]));have kq1:∀b x,dY K H b x->dY K (upd H p (.ins t.cT s ([]++[(a8 "town",ci y)]))) b x:=λb x=>dY.past hp o4 dU;have hL1:=bH.past hp xv (dU (o:=.ins t.cT s ([]++[(a8 "town",ci y)]))) hL;have ams:=P8.mono kq1;generalize upd H p (.ins t.cT s ([]++[(a8 "town",ci y)]))=H1 at B1 hT1 hp1 hL1 ams;refine cy λNx W=>?_;exists 1,λL J nsp L3 hne=>?_;have t2:aB H1 (upd (upd H1 J (.own L)) L (.ins t.c9 J [])):=(aB.new L3).trans (aB.new (by rw[aI (bS hne)];exact nsp));exists L,J,y,ln,lr,ns,rs,2,aq,hT1.mono t2,xr,hw,λlu N H2 hlu hls nlu nd el h2p h2u h2w kp=>⟨24⟩;have s2:aB H1 H2:=λb o e=>kp b o (t2 b o e) (aJ e nsp);have ao2:H1 lu=ae:=t2.free hlu;have ao3:∀l∈N,H1 l=ae:=λl hl=>t2.free (hls l hl);have OS:AE H2 (iq L lu N) (gL t.c9 J y lu N (rs.map λr=>ay r.d.toNat)):=(by refine al3 h2p h2u (by rw[ah];exact el) (λi l w' e1 e2=>?_) nd nlu;rw[ak] at e2;cases e3:rs[i]? with|none=>rw[e3] at e2;cases e2|some r=>rw[e3] at e2;cases e2;exact h2w i l r e1 e3);have B2:=B1.join OS rfl (λr m=>by (cases r <;> first|exact b3 rfl m|skip);exact nsp;exact ao2;rename_i i;show H1 (N.getD i 0)=ae;by_cases z:i<N.length;rw[ao,aa z];exact ao3 _ (aD z);exact b3 (show ((rs.map λr:R5=>ay r.d.toNat)[i]?.map λw=>cr (bN w))=ae by rw[g4 (by rw[ah];lia)];rfl) m) s2;have ao4:OJ K t.aK H2 y ln lr lc ns rs qs cl:=⟨hT1.mono s2,s2.seq hL1,ams.mono λb x=>s2.iA⟩;have hp2:=s2 _ _ hp1;exists 1,p,_,s,1,hp2,T.aW,T.jd,(by show 1<1000;decide),4;rw[fk (names:=["town"]) rfl (↑_)];refine W _ _ ?_;have B3:=B2.put (.ins t.cT s (([]++[(a8 "town",ci y)])++[(a8 "strands",ci L)]));have amt:=ao4.put hp2 xU (o:=.ins t.cT s (([]++[(a8 "town",ci y)])++[(a8 "strands",ci L)]));have hp3:=aq (H:=H2) (a:=p) (o:=.ins t.cT s (([]++[(a8 "town",ci y)])++[(a8 "strands",ci L)]));generalize upd H2 p (.ins t.cT s (([]++[(a8 "town",ci y)])++[(a8 "strands",ci L)]))=H3 at B3 amt hp3;generalize asi:(λr=>if (gL t.c9 J y lu N (rs.map λr:R5=>ay r.d.toNat) r).isSome=ag then iq L lu N r else p)=Sk at B3;generalize eob:(jS (λr=>if (gL t.c9 J y lu N (rs.map λr:R5=>ay r.d.toNat) r).isSome=ag then gL t.c9 J y lu N (rs.map λr:R5=>ay r.d.toNat) r else jS (λr=>if r=.cj then ac (.ins t.cT s []) else ae) .cj (.ins t.cT s ([]++[(a8 "town",ci y)])) r) .cj (.ins t.cT s (([]++[(a8 "town",ci y)])++[(a8 "strands",ci L)])))=ob3 at B3;refine cy λNx W=>?_;exists 1,⟨_,T.gK _⟩,λA hacc=>?_;refine jA (n:=3) (λi ys Y=>∃(la:Nat->am) (I:Nat->List am),ys=(ay i).map (λg=>.ref (la g))/\OT H Y p (lf Sk A la) (kn ob3 la I i)/\(∀g,g<i->gI K Y (I g) (jo (cx ns) (EV ns)))) hacc (ot (T.gK _)) (QA (T.gK _)) ?_ ?_ ?_;(·exists λ_=>0,λ_=>[],2,(B3.new hacc (r:=.yq) (!_) (.lst [])).ext (λr=>?_) (λr m=>?_),λg D=>b3 D ∅;(·(cases r <;> first|rfl|skip);rename_i g;show ob3 (.rows g)=_;rw[show ob3 (.rows g)=ae by rw[<- eob];rfl];show ae=(if g<0 then ac (cr (([]:List am).map ci)) else ae);rw[b5 (x8 g)]);·(cases r <;> first|rfl|skip);rename_i g;exact b3 (show ob3 (.rows g)=ae by rw[<- eob];rfl) m);(·rintro i ys Y Z sx hy ⟨la,I,rfl,B,hR⟩ x H4 ⟨rfl,hx⟩;exists 1,y,ln,lr,ns,rs,2,(amt.mono sx).nD,h12,λl qs' H5 s5 hl h5 ht=>?_;have r4:=s5 _ _ hy;have B5:=((B.add s5 hl h5 (r:=.rows i) (λz=>by cases z)).al2 (r:=.yq) (bg _) (λz=>by cases z) (.lst ((ay i).map (λg=>ci (la g))++[.ref l])));have hl5:l≠A:=(aJ hy hl).symm;refine gG hacc Z (sx.trans s5) r4 (by rw[ah,bI];exact cU ∅) ⟨fO la i l,fO I i qs',(C4 la i l).symm,B5.ext (λr=>?_) (λr m=>?_),λg D=>?_⟩;(·(cases r <;> first|rfl|skip);show ac (cr _)=ac (cr _);rw[C4];rename_i g;(show jS (kn ob3 la I i) (.rows i) _ (.rows g)=if g<i+1 then ac (cr ((fO I i qs' g).map ci)) else ae);by_cases z:g=i;subst z;rw[fh,b4 ∅,d8];rw[cV (λe=>z (by cases e;rfl)),iB z];show (if g<i then ac (cr ((I g).map ci)) else ae)=_;by_cases z2:g<i;rw[b4 z2,b4 ∅];rw[b5 z2,b5 ∅]);(·(cases r <;> first|rfl|skip);rename_i g;show vZ (lf Sk A la) (.rows i) l (.rows g)=fO la i l g;by_cases z:g=i;subst z;rw[ia,d8];rw[gH (λe=>z (by cases e;rfl)),iB z];rfl);by_cases z:g=i;subst z;rw[d8];exact ht.mono λb x=>dY.past r4 tX dU;rw[iB z];exact ((hR g ∅).mono λb x=>s5.iA).mono λb x=>dY.past r4 tX dU);rintro ys H4 s4 hy ⟨la,I,rfl,B4,hR4⟩;have ao6:=amt.mono s4;have hp4:=s4 _ _ hp3;exists 1,p,_,s,1,hp4,T.aW,T.o6,(by show 2<1000;decide),4;rw[fk (names:=["town","strands"]) rfl (↑_)];refine W _ _ ?_;generalize eo5:cw t.cT s ((([]++[(a8 "town",ci y)])++[(a8 "strands",ci L)])++[(a8 "rows_by_group",ci A)])=o5;have B5:=B4.put o5;have amu:=ao6.put hp4 xU (o:=o5);have hp5:=aq (H:=H4) (a:=p) (o:=o5);have hR5:∀g,g<3->gI K (upd H4 p o5) (I g) (jo (cx ns) (EV ns)):=λg D=>(hR4 g D).mono λb x=>dY.past hp4 o4 dU;generalize upd H4 p o5=H5 at B5 amu hp5 hR5;generalize ao8:lf Sk A la=ag5 at B5;generalize amv:jS (kn ob3 la I 3) .cj o5=qB at B5;have n5:∀g,qB .mP=ae/\qB (.book g)=ae/\qB (.g6 g)=ae:=λg=>(by rw[<- amv,<- eob];exists 222);refine cy λNx W=>?_;exists 1,⟨_,T.gK _⟩,λC ajd=>?_;refine jA (n:=3) (λi ys Y=>∃(U ld G:Nat->am),ys=(ay i).map (λg=>.ref (U g))/\OT H Y p (ix ag5 C U ld) (ij t.ie qB G U ld i)) ajd (ot (T.gK _)) (QA (T.gK _)) ?_ ?_ ?_;(·exists λ_=>0,λ_=>0,λ_=>0,2,(B5.new ajd (r:=.mP) (λz=>by cases z) (.lst [])).ext (λr=>?_) (λr m=>?_);(·(cases r <;> first|rfl|skip);rename_i g;show qB (.book g)=(if g<0 then ac (cw t.ie 0 [("kept",.ref 0)]) else ae);rw[b5 (x8 g)];exact (n5 g).2.1;rename_i g;show qB (.g6 g)=(if g<0 then ac (HO.dT []) else ae);rw[b5 (x8 g)];exact (n5 g).2.2);·(cases r <;> first|rfl|skip);rename_i g;exact b3 (n5 g).2.1 m;rename_i g;exact b3 (n5 g).2.2 m);(·rintro i ys Y Z sx hy ⟨U,ld,G,rfl,B⟩ x H6 ⟨rfl,hx⟩;refine λbp JJ nbp asm hne=>?_;have t6:aB H6 (upd (upd H6 JJ (.own bp)) bp (.ins t.ie JJ [])):=(aB.new asm).trans (aB.new (by rw[aI (bS hne)];exact nbp));exists bp,JJ,2,aq,λd H7 hd hB kp=>⟨24⟩;have s7:aB H6 H7:=λb o e=>kp b o (t6 b o e) (aJ e nbp);have hd6:H6 d=ae:=t6.free hd;obtain⟨⟨dx',h7b⟩,h7d⟩:=hB;have nbd:bp≠d:=ol h7b h7d (λe=>by cases e);have sm:aB H6 (dy H7 d):=λb o e=>(by have nb:b≠d:=aJ e hd6;show (if b=d then ae else H7 b)=ac o;rw[b5 nb];exact s7 _ _ e);have sm2:aB (dy H7 d) H7:=λb o e=>(by have e:(if b=d then ae else H7 b)=ac o:=e;by_cases z:b=d;rw[b4 z] at e;cases e;rw[b5 z] at e;exact e);have hmb:(dy H7 d) bp=ac (.ins t.ie dx' [("kept",.ref d)]):=(by show (if bp=d then ae else H7 bp)=_;rw[b5 nbd];exact h7b);have hmd:(dy H7 d) d=ae:=b4 rfl;have B1:=B.add sm nbp hmb (r:=.book i) (λz=>by cases z);have B2:=B1.add sm2 hmd h7d (r:=.g6 i) (λz=>by cases z);have B3:=B2.al2 (r:=.mP) (bg _) (λz=>by cases z) (.lst ((ay i).map (λg=>ci (U g))++[.ref bp]));refine gG ajd Z (sx.trans s7) (s7 _ _ hy) (by rw[ah,bI];exact cU ∅) ⟨fO U i bp,fO ld i d,fO G i dx',(C4 U i bp).symm,B3.ext (λr=>?_) (λr m=>?_)⟩;(·(cases r <;> first|rfl|skip);show ac (cr _)=ac (cr _);rw[C4];rename_i g;(show jS (ij t.ie qB G U ld i) (.book i) _ (.book g)=if g<i+1 then ac (cw t.ie (fO G i dx' g) [("kept",.ref (fO ld i d g))]) else ae);by_cases z:g=i;subst z;rw[fh,b4 ∅,d8,d8];rw[cV (λe=>z (by cases e;rfl)),iB z,iB z];show (if g<i then ac (cw t.ie (G g) [("kept",.ref (ld g))]) else ae)=_;by_cases z2:g<i;rw[b4 z2,b4 ∅];rw[b5 z2,b5 ∅];rename_i g;(show jS (jS (ij t.ie qB G U ld i) (.book i) _) (.g6 i) _ (.g6 g)=if g<i+1 then ac (HO.dT []) else ae);by_cases z:g=i;subst z;rw[fh,b4 ∅];rfl;rw[cV (λe=>z (by cases e;rfl))];show (if g<i then ac (HO.dT []) else ae)=_;by_cases z2:g<i;rw[b4 z2,b4 ∅];rw[b5 z2,b5 ∅]);·(cases r <;> first|rfl|skip);rename_i g;show vZ (ix ag5 C U ld) (.book i) bp (.book g)=fO U i bp g;by_cases z:g=i;subst z;rw[ia,d8];rw[gH (λe=>z (by cases e;rfl)),iB z];rfl;rename_i g;show vZ (vZ (ix ag5 C U ld) (.book i) bp) (.g6 i) d (.g6 g)=fO ld i d g;by_cases z:g=i;subst z;rw[ia,d8];rw[gH (λe=>z (by cases e;rfl)),iB z];rfl);rintro ys H6 s6 hy ⟨U,ld,G,rfl,B6⟩;have ao9:=amu.mono s6;have hR6:∀g,g<3->gI K H6 (I g) (jo (cx ns) (EV ns)):=λg D=>(hR5 g D).mono λb x=>s6.iA;have hp6:=s6 _ _ hp5;subst eo5;exists 1,p,_,s,1,hp6,T.aW,T.Ak,(by show 3<1000;decide),4;rw[fk (names:=["town","strands","rows_by_group"]) rfl (↑_)];refine W _ _ ?_;generalize eo7:cw t.cT s (((([]++[(a8 "town",ci y)])++[(a8 "strands",ci L)])++[(a8 "rows_by_group",ci A)])++[(a8 "books",ci C)])=o7;have B7:=B6.put o7;have abt:=ao9.put hp6 xU (o:=o7);have hp7:=aq (H:=H6) (a:=p) (o:=o7);have hR7:∀g,g<3->gI K (upd H6 p o7) (I g) (jo (cx ns) (EV ns)):=λg D=>(hR6 g D).mono λb x=>dY.past hp6 o4 dU;generalize upd H6 p o7=H7 at B7 abt hp7 hR7;have ecl:(qs.map ci).length=cl.length:=(by rw[ah,abt.tup.len,ah]);have apb:∀{i:Nat} {x:V} {Y:Hp},(qs.map ci)[i]?=ac x->OJ K t.aK Y y ln lr lc ns rs qs cl->∃(Z:i<cl.length) (q:am),x=.ref q/\dY K Y q [.int cl[i].1,.int cl[i].2]:=λ{i x Y} hx ev=>(by have Z:=(ai.mp hx).1;rw[ecl] at Z;have hq:i<qs.length:=(by rw[<- ah (f:=ci),ecl];exact Z);exists Z,qs[i],4,ev.tup.at' i _ _ (aa hq) (by rw[ak,aa Z];rfl);rw[ak,aa hq] at hx;exact (aT hx).symm);refine cy λNx W=>?_;exists 1,lc,2,⟨_,abt.tL⟩,λO amw=>?_;refine P0 (λi=>cl[i]?.map λc=>cf (c.1:Nat)) amw abt.tL ∅ (λi x Y R S hx sx h1 h2=>?_) (λH8 s8 hy=>?_);obtain⟨Z,q,rfl,hq⟩:=apb hx (abt.mono sx);exists 1,q,8,hq,2,h1 _ _ (aB.refl _) (by rw[aa Z];rfl);rw[ecl,Di] at hy;have B8:=B7.add s8 amw hy (r:=.aL) (λz=>by cases z);have apc:=abt.mono s8;have hp8:=s8 _ _ hp7;subst eo7;exists 1,p,_,s,1,hp8,T.aW,T.kW,(by show 4<1000;decide),4;rw[fk (names:=["town","strands","rows_by_group","books"]) rfl (↑_)];refine W _ _ ?_;generalize eo9:cw t.cT s ((((([]++[(a8 "town",ci y)])++[(a8 "strands",ci L)])++[(a8 "rows_by_group",ci A)])++[(a8 "books",ci C)])++[(a8 "homes",ci O)])=o9;have B9:=B8.put o9;have aet:=apc.put hp8 xU (o:=o9);have hp9:=aq (H:=H8) (a:=p) (o:=o9);have hR9:∀g,g<3->gI K (upd H8 p o9) (I g) (jo (cx ns) (EV ns)):=λg D=>((hR7 g D).mono λb x=>s8.iA).mono λb x=>dY.past hp8 o4 dU;generalize upd H8 p o9=H9 at B9 aet hp9 hR9;refine cy λNx W=>?_;exists 1,lc,2,⟨_,aet.tL⟩,λuw amy=>?_;refine P0 (λi=>cl[i]?.map λc=>cf (c.2:Nat)) amy aet.tL ∅ (λi x Y R S hx sx h1 h2=>?_) (λXJ Z9 hy=>?_);obtain⟨Z,q,rfl,hq⟩:=apb hx (aet.mono sx);exists 1,q,8,hq,2,h1 _ _ (aB.refl _) (by rw[aa Z];rfl);rw[ecl,Di] at hy;have B10:=B9.add Z9 amy hy (r:=.groups) (λz=>by cases z);have akN:=aet.mono Z9;have aje:=Z9 _ _ hp9;subst eo9;exists 1,p,_,s,1,aje,T.aW,T.jX,(by show 5<1000;decide),4;rw[fk (names:=["town","strands","rows_by_group","books","homes"]) rfl (↑_)];refine W _ _ ?_;generalize asq:cw t.cT s (((((([]++[(a8 "town",ci y)])++[(a8 "strands",ci L)])++[(a8 "rows_by_group",ci A)])++[(a8 "books",ci C)])++[(a8 "homes",ci O)])++[(a8 "groups",ci uw)])=o11;have B11:=B10.put o11;have acO:=akN.put aje xU (o:=o11);have amz:=aq (H:=XJ) (a:=p) (o:=o11);have amA:∀g,g<3->gI K (upd XJ p o11) (I g) (jo (cx ns) (EV ns)):=λg D=>((hR9 g D).mono λb x=>Z9.iA).mono λb x=>dY.past aje o4 dU;generalize upd XJ p o11=UQ at B11 acO amz amA;generalize amB:vZ (vZ (ix ag5 C U ld) .aL O) .groups uw=akO at B11;generalize akP:jS (jS (jS (jS (jS (ij t.ie qB G U ld 3) .cj _) .aL _) .cj _) .groups _) .cj o11=ag6 at B11;have n11:∀g,ag6 .jR=ae/\ag6 (.handed g)=ae:=λg=>(by rw[<- akP,<- amv,<- eob];exists 22);refine cy λNx W=>?_;exists 1,lc,2,⟨_,acO.tL⟩,λu9 ajf=>?_;refine jA (n:=(qs.map ci).length) (λi ys Y=>∃X:Nat->am,ys=(ay i).map (λg=>.ref (X g))/\OT H Y p (qr akO u9 X) (pk ag6 X i)) ajf (vY acO.tL) (lK acO.tL) ?_ ?_ ?_;(·exists λ_=>0,2,(B11.new ajf (r:=.jR) (λz=>by cases z) (.lst [])).ext (λr=>?_) (λr m=>?_);(·(cases r <;> first|rfl|skip);rename_i g;show ag6 (.handed g)=(if g<0 then ac (cr []) else ae);rw[b5 (x8 g)];exact (n11 g).2);·(cases r <;> first|rfl|skip);rename_i g;exact b3 (n11 g).2 m);(·rintro i ys Y Z sx hy ⟨X,rfl,B⟩ x wh ⟨rfl,hx⟩;exists bA _,λl hl=>?_;have u:=aB.new (o:=.lst []) hl;have B3:=(B.new hl (r:=.handed i) (λz=>by cases z) (.lst [])).al2 (r:=.jR) (bg _) (λz=>by cases z) (.lst ((ay i).map (λg=>ci (X g))++[.ref l]));refine gG ajf Z (sx.trans u) (u _ _ hy) (by rw[ah,bI];exact cU ∅) ⟨fO X i l,(C4 X i l).symm,B3.ext (λr=>?_) (λr m=>?_)⟩;(·(cases r <;> first|rfl|skip);show ac (cr _)=ac (cr _);rw[C4];rename_i g;(show jS (pk ag6 X i) (.handed i) _ (.handed g)=if g<i+1 then ac (cr []) else ae);by_cases z:g=i;subst z;rw[fh,b4 ∅];rw[cV (λe=>z (by cases e;rfl))];show (if g<i then ac (cr []) else ae)=_;by_cases z2:g<i;rw[b4 z2,b4 ∅];rw[b5 z2,b5 ∅]);·(cases r <;> first|rfl|skip);rename_i g;show vZ (qr akO u9 X) (.handed i) l (.handed g)=fO X i l g;by_cases z:g=i;subst z;rw[ia,d8];rw[gH (λe=>z (by cases e;rfl)),iB z];rfl);rintro ys wh s12 hy ⟨X,rfl,B12⟩;rw[ecl] at B12;have ape:∀g,g<3->gI K wh (I g) (jo (cx ns) (EV ns)):=λg D=>(amA g D).mono λb x=>s12.iA;have amC:=s12 _ _ amz;subst asq;exists 1,p,_,s,1,amC,T.aW,T.DN,(by show 6<1000;decide),4;rw[fk (names:=["town","strands","rows_by_group","books","homes","groups"]) rfl (↑_)];refine W _ _ ?_;generalize ass:cw t.cT s ((((((([]++[(a8 "town",ci y)])++[(a8 "strands",ci L)])++[(a8 "rows_by_group",ci A)])++[(a8 "books",ci C)])++[(a8 "homes",ci O)])++[(a8 "groups",ci uw)])++[(a8 "handed",ci u9)])=o13;have B13:=B12.put o13;have amD:=aq (H:=wh) (a:=p) (o:=o13);have amE:∀g,g<3->gI K (upd wh p o13) (I g) (jo (cx ns) (EV ns)):=λg D=>(ape g D).mono λb x=>dY.past amC o4 dU;generalize upd wh p o13=H13 at B13 amD amE;refine cy λNx W=>?_;exists bA _,λacl amF=>?_;have B14:=B13.new amF (r:=.cJ) (λz=>by cases z) (.lst []);have u14:=aB.new (o:=.lst []) amF;have ajg:=u14 _ _ amD;have amG:∀g,g<3->gI K (upd H13 acl (.lst [])) (I g) (jo (cx ns) (EV ns)):=λg D=>(amE g D).mono λb x=>u14.iA;generalize upd H13 acl (.lst [])=H14 at B14 ajg amG;subst ass;exists 1,p,_,s,1,ajg,T.aW,T.eX,(by show 7<1000;decide),4;rw[fk (names:=["town","strands","rows_by_group","books","homes","groups","handed"]) rfl (↑_)];refine W _ _ ?_;generalize asx:cw t.cT s (((((((([]++[(a8 "town",ci y)])++[(a8 "strands",ci L)])++[(a8 "rows_by_group",ci A)])++[(a8 "books",ci C)])++[(a8 "homes",ci O)])++[(a8 "groups",ci uw)])++[(a8 "handed",ci u9)])++[(a8 "letters",ci acl)])=o15;have B15:=B14.put o15;have apg:=aq (H:=H14) (a:=p) (o:=o15);have aph:∀g,g<3->gI K (upd H14 p o15) (I g) (jo (cx ns) (EV ns)):=λg D=>(amG g D).mono λb x=>dY.past ajg o4 dU;generalize upd H14 p o15=H15 at B15 apg aph;exists bA _,λR9 api=>?_;have B16:=B15.new api (r:=.fJ) (λz=>by cases z) (.lst []);have u16:=aB.new (o:=.lst []) api;have amH:=u16 _ _ apg;have apj:∀g,g<3->gI K (upd H15 R9 (.lst [])) (I g) (jo (cx ns) (EV ns)):=λg D=>(aph g D).mono λb x=>u16.iA;generalize upd H15 R9 (.lst [])=H16 at B16 amH apj;subst asx;exists 1,p,_,s,1,amH,T.aW,T.jY,(by show 8<1000;decide),4;rw[fk (names:=["town","strands","rows_by_group","books","homes","groups","handed","letters"]) rfl (↑_)];generalize asy:cw t.cT s ((((((((([]++[(a8 "town",ci y)])++[(a8 "strands",ci L)])++[(a8 "rows_by_group",ci A)])++[(a8 "books",ci C)])++[(a8 "homes",ci O)])++[(a8 "groups",ci uw)])++[(a8 "handed",ci u9)])++[(a8 "letters",ci acl)])++[(a8 "copies",ci R9)])=o17;have B17:=B16.put o17;have apk:∀g,g<3->gI K (upd H16 p o17) (I g) (jo (cx ns) (EV ns)):=λg D=>(apj g D).mono λb x=>dY.past amH o4 dU;generalize upd H16 p o17=H17 at B17 apk;subst asy akP amB amv ao8 eob asi;have hws:(rs.map λr:R5=>ay r.d.toNat).length=N.length:=(by rw[ah];exact el.symm);have asA:N.map ci=(ay (rs.map λr:R5=>ay r.d.toNat).length).map λi=>ci (N.getD i 0):=(by rw[hws];refine vR (-_) λi h1 h2=>?_;simp at h1;simp[h1]);have B18:OT H H17 p (rd p L lu N A la C U ld O uw u9 X acl R9) (c2 (nc t) (py s J G) y (rd p L lu N A la C U ld O uw u9 X acl R9) ⟨I,λ_=>[],[]⟩ (S0 ns rs cl)):=(by refine B17.ext (λr=>?_) (λr m=>?_);(·(cases r <;> first|rfl|skip);(case dG=>show ac (cr (N.map ci))=ac (cr ((ay (rs.map λr:R5=>ay r.d.toNat).length).map λi=>ci (N.getD i 0)));rw[<- asA]);(case gV j=>show (if ((rs.map λr:R5=>ay r.d.toNat)[j]?.map λw=>cr (bN w)).isSome=ag then ((rs.map λr:R5=>ay r.d.toNat)[j]?.map λw=>cr (bN w)) else ae)=((rs.map λr:R5=>ay r.d.toNat)[j]?.map λw=>cr (bN w));cases (rs.map λr:R5=>ay r.d.toNat)[j]? <;> rfl);(case aL=>show ac (cr _)=ac (cr ((cl.map (·.1)).map _));rw[cz];rfl);(case groups=>show ac (cr _)=ac (cr ((cl.map (·.2)).map _));rw[cz];rfl);(case jR=>show ac (cr ((ay (cx cl)).map λg=>ci (X g)))=ac (cr ((ay (cl.map λ_=>([]:List Nat)).length).map λg=>ci (X g)));rw[ah]);case handed j=>show (if j<cl.length then ac (cr []) else ae)=((cl.map λ_=>([]:List Nat))[j]?.map λw=>cr (bN w));rw[ak];by_cases z:j<cl.length;rw[b4 z,aa z];rfl;rw[b5 z,g4 ∅];rfl);·(cases r <;> first|rfl|exact b3 rfl m|skip);case gV j=>show (if ((rs.map λr:R5=>ay r.d.toNat)[j]?.map λw=>cr (bN w)).isSome=ag then N.getD j 0 else p)=N.getD j 0;have m:(if ((rs.map λr:R5=>ay r.d.toNat)[j]?.map λw=>cr (bN w)).isSome=ag then ((rs.map λr:R5=>ay r.d.toNat)[j]?.map λw=>cr (bN w)) else ae)≠ae:=m;cases e:(rs.map λr:R5=>ay r.d.toNat)[j]? with|none=>rw[e] at m;exact b3 rfl m|some w'=>rfl);refine k _ H17 ⟨_,py s J G,⟨I,λ_=>[],[]⟩,B18.np,B18.own,λb=>Iff.rfl,⟨apk,λi l e=>?_,⟨2,λi q x e=>by cases e⟩⟩⟩ B18.kp B18.fr;cases e
inductive EQ(K:af)(c:NC)(vs:List V)(H:Hp)(Q:VK)(E:XK):Prop
 |mk(F:am->Prop)(p tp:am)(n g:Nat)(s:NS):vs=[.ref p,.int g]->dH K c H F p tp n s->g<3->(∀l(qs:List am)H',aB H H'->H l=ae->H' l=ac (.lst (qs.map ci))->gI K H' qs (jo n (s.R g))->Q (.ref l) H')->EQ K c vs H Q E
theorem vM(T:Txt K mg w t):bu P w K mg base iJ 2 t.ue t.yP ["self","group"] (EQ K (nc t)):=by refine T.ig.F.jB Oh λH Q E i h=>?_;·obtain⟨F,p,m,n,g,st,rfl,⟨a,r,q,j,O,s,f⟩,c,k⟩:=h;exists _,(aj (cP (iz (zJ T) (i.mono (!_)) rfl T.gE.g T.gE.F.kp T.gE.B .nil Yi (dg (pv 1)))) (oR (eK kY (by rfl) T.Gp boot_list (dg (xL (aU (pv 0) rfl) (pv 1)))))),4;left;have d:=O.get .cj _ rfl;rw[j] at d;exists 1,g,2,λ_=>?_,λz=>b3 ⟨66⟩ z;exists 1,p,9,d,T.aW,T.o6,7,a .yq,8,bH.of (O.get .yq _ rfl),tY c,a (.rows g),1,.inl (bH.of (O.get (.rows g) _ (b4 c))),λl e=>?_;have u:=aB.new (o:=.lst ((q.rq g).map ci)) e;exact k l (q.rq g) _ u e aq ((f.rows g c).mono λb x=>u.iA)
inductive Ev(K:af)(CT:am)(c:NC)(vs:List V)(H:Hp)(Q:VK)(E:XK):Prop
 |mk(F:am->Prop)(p tp ln lr:am)(ns:List Int)(rs:List R5)(s:NS)(g:Nat):vs=[.ref p,.int g]->NW K c CT H F p tp ln lr ns rs s->dS ns rs->Dj ns rs s->g<3->(∀l H',aB H H'->H l=ae->H' l=ac (.lst (bN (i2 rs s.ws g)))->Q (.ref l) H')->Ev K CT c vs H Q E
theorem An(T:Txt K mg w t):bu P w K mg base iJ 3 t.uf t.yQ ["self","group"] (Ev K t.aK (nc t)):=by refine T.j8.F.jB Oi λH Q E v h=>?_;·obtain⟨F,p,d,s,i,u,C,st,g,rfl,N,ok,o,D,k⟩:=h;exists _,(oR (cR (aU (pv 0) rfl) T.d9 T.nV.m (EN T) (v.mono (!_)) T.nV.B .nil Yi (dg (pv 1)))),4;left;obtain⟨a,n,q,y,O,J,I⟩:=N.cj;have c:=O.get .cj _ rfl;rw[y] at c;exists 1,p,9,c,T.aW,T.jd,2,a .bZ,n .bZ,1,O.get .bZ _ rfl,7,a .bZ,d,a .dG,s,i,u,C,st.ws,g,2,N.nD,O.strAt,o.wl,ok.Wn,(λr b=>⟨(ok.ok r b).e1,(ok.ok r b).e7⟩),λj l f G _ e A x=>?_,λz=>b3 ⟨66⟩ z;have:j=g:=∅;subst this;exact k l f e A x
inductive Zo(K:af)(CT:am)(c:NC)(vs:List V)(H:Hp)(Q:VK)(E:XK):Prop
 |mk(F:am->Prop)(p tp ln lr:am)(ns:List Int)(rs:List R5)(s:NS)(o:dS ns rs)(g:Nat):vs=[.ref p,.int g]->NW K c CT H F p tp ln lr ns rs s->Dj ns rs s->g<3->(∀l os H',aB H H'->H l=ae->H' l=ac (.lst (bN os))->kT (wc ns rs o s.ws g) (s.R g) os->os.length<=12->Q (.ref l) H')->Zo K CT c vs H Q E
theorem LL(T:Txt K mg w t):bu P w K mg base iJ 6 t.qY t.vH ["self","group"] (Zo K t.aK (nc t)):=by refine T.rz.F.jB K8 λH Q E i h=>?_;·obtain⟨F,p,e,n,j,ns,r,st,ok,g,rfl,N,m,d,k⟩:=h;exists _,(oR (iz (Sb T) (i.mono (!_)) rfl T.zb T.DI.F.kp T.DI.B .nil mZ (KO (aU (pv 0) rfl) (cM (pv 0) T.aW T.j8 (An T) i (dg (pv 1))) (cM (pv 0) T.aW T.ig (vM T) i (dg (pv 1)))))),4;left;obtain⟨C,W,q,L,O,X,V⟩:=id N.cj;have b:=O.get .cj _ rfl;rw[L] at b;exists 1,p,9,b,T.aW,T.ir,24;exists 1,p,5,b,7,F,p,e,n,j,ns,r,st,g,2,N,ok,m,d,λv Y a J D=>?_;have o:=N.mono a;exists 1,p,5,a _ _ b,7,F,p,e,ns.length,g,st,2,o.cj,d,λs S U c z u A=>?_;exists e,n,j,v,s,ns,r,_,ok.nd,ok.ok,yr,st.R g,2,o.nD.mono c,bH.of (c _ _ D),A.Wo (bH.of u),by have:=ok.QO;lia,ok.Wn,m.fit g d,λl os I G M y x f=>?_;exact k l os I (a.trans (c.trans G)) ((a.trans c).free M) y x f
inductive Sl(K:af)(CT:am)(c:NC)(vs:List V)(H:Hp)(Q:VK)(E:XK):Prop
 |mk(F:am->Prop)(p tp ln lr:am)(ns:List Int)(rs:List R5)(s:NS)(o:dS ns rs)(g:Nat):vs=[.ref p,.int g]->NW K c CT H F p tp ln lr ns rs s->Dj ns rs s->g<3->(∀(y:Bool)H',aB H H'->(y=ag↔RM.Rest (wc ns rs o s.ws g) (s.R g))->Q (.bl y) H')->Sl K CT c vs H Q E
theorem Sm(T:Txt K mg w t):bu P w K mg base iJ 5 t.mq t.pX ["self","group"] (Sl K t.aK (nc t)):=by refine T.qj.F.jB FN λH Q E f h=>?_;·obtain⟨F,p,c,l,i,ns,n,st,ok,g,rfl,N,j,b,k⟩:=h;exists _,(oR (iz (Sa T) (f.mono (!_)) rfl T.Ey T.CM.F.kp T.CM.B .nil mZ (KO (aU (pv 0) rfl) (cM (pv 0) T.aW T.j8 (An T) f (dg (pv 1))) (cM (pv 0) T.aW T.ig (vM T) f (dg (pv 1)))))),4;left;obtain⟨z,S,q,I,O,U,M⟩:=id N.cj;have a:=O.get .cj _ rfl;rw[I] at a;exists 1,p,9,a,T.aW,T.ir,24;exists 1,p,5,a,7,F,p,c,l,i,ns,n,st,g,2,N,ok,j,b,λs V d G A=>?_;have m:=N.mono d;exists 1,p,5,d _ _ a,7,F,p,c,ns.length,g,st,2,m.cj,b,λo J L e v r x=>?_;exists c,l,i,s,o,ns,n,_,ok.nd,ok.ok,yr,st.R g,2,m.nD.mono e,bH.of (e _ _ A),x.Wo (bH.of r),by have:=ok.QO;lia,ok.Wn,j.fit g b,ok.pos,λy D C u=>k y D (d.trans (e.trans C)) u
inductive Zp(K:af)(CT:am)(c:NC)(vs:List V)(H:Hp)(Q:VK)(E:XK):Prop
 |mk(F:am->Prop)(p tp ln lr:am)(ns:List Int)(rs:List R5)(s:NS)(h:Nat):vs=[.ref p,.int h]->NW K c CT H F p tp ln lr ns rs s->h<cx ns->Q .fW H->Zp K CT c vs H Q E
theorem zK(T:Txt K mg w t):bu P w K mg base iJ 1 t.iS t.jV ["self","house"] (Zp K t.aK (nc t)):=by refine T.fC.F.jB yH λH Q E o h=>?_;·obtain⟨F,p,c,m,i,ns,r,st,x,rfl,N,g,k⟩:=h;exists _,(aX (bY (g9 (fG jm kR aC (pv 1) (aU (aU (pv 0) rfl) rfl))) bP bq)),4;left;obtain⟨d,l,q,f,O,n,j⟩:=id N.cj;obtain⟨⟨e,a⟩,_⟩:=id N.nD;have b:=O.get .cj _ rfl;rw[f] at b;exists 1574;rw[b6 (show (0:Int)<=(x:Int) by lia)];refine cS ⟨1,p,9,b,T.aW,T.ir,2,c,_,e,5,a,T.fB,T.iO,2574⟩;rw[b6 (show (x:Int)<(ns.length:Int) by lia)];exact dh k
inductive Vz(K:af)(c:NC)(vs:List V)(H:Hp)(Q:VK)(E:XK):Prop
 |mk(F:am->Prop)(p tp:am)(n x:Nat)(s:NS):vs=[.ref p,.int x]->dH K c H F p tp n s->x<s.aL.length->Q .fW H->Vz K c vs H Q E
theorem ki(T:Txt K mg w t):bu P w K mg base iJ 1 t.ic t.ju ["self","caller"] (Vz K (nc t)):=by refine T.b9.F.jB xq λH Q E j h=>?_;·obtain⟨F,p,e,n,x,st,rfl,⟨a,g,q,c,O,i,f⟩,d,k⟩:=h;exists _,(aX (bY (g9 (fG jm kR aC (pv 1) (lS T.gM (aU (pv 0) rfl)))) bP bq)),4;left;have b:=O.get .cj _ rfl;rw[c] at b;exists 1574;rw[b6 (show (0:Int)<=(x:Int) by lia)];refine cS ⟨1,p,9,b,T.aW,T.kW,2,a .aL,1,.inl (bH.of (O.get .aL _ rfl)),574⟩;rw[ah,b6 (show (x:Int)<(st.aL.length:Int) by lia)];exact dh k
inductive Zq(K:af)(CT:am)(c:NC)(vs:List V)(H:Hp)(Q:VK)(E:XK):Prop
 |mk(F:am->Prop)(p tp ln lr:am)(ns:List Int)(rs:List R5)(s:NS)(h g:Nat):vs=[.ref p,.int h,.int g]->NW K c CT H F p tp ln lr ns rs s->h<cx ns->g<3->(∀q H',aB H H'->dY K H' q (cO (s.R g h))->Q (.ref q) H')->Zq K CT c vs H Q E
theorem Jw(T:Txt K mg w t):bu P w K mg base iJ 3 t.oK t.sE ["self","house","group"] (Zq K t.aK (nc t)):=by refine T.jW.F.jB IE λH Q E i h=>?_;·obtain⟨F,p,e,r,n,ns,z,st,x,g,rfl,N,d,j,k⟩:=h;exists _,(aj (cP (cM (pv 0) T.aW T.fC (zK T) i (dg (pv 1)))) (oR (xL (cM (pv 0) T.aW T.ig (vM T) i (dg (pv 2))) (pv 1)))),4;left;obtain⟨s,C,q,y,O,D,B⟩:=id N.cj;have b:=O.get .cj _ rfl;rw[y] at b;exists 1,p,5,b,7,F,p,e,r,n,ns,z,st,x,2,N,d,4;exists 1,p,5,b,7,F,p,e,ns.length,g,st,2,N.cj,j,λl c o u G m f=>?_;have A:c.length=ns.length:=(by rw[f.len];simp[jo]);have a:x<c.length:=∅;exists 1,l,8,bH.of m,dF (v:=.ref c[x]) (by rw[ak,aa a];rfl),k _ o u (f.at' x _ _ (aa a) ?_);unfold jo;rw[ak,i8 d];rfl
inductive wS(K:af)(c:NC)(vs:List V)(H:Hp)(Q:VK)(E:XK):Prop
 |mk(F:am->Prop)(p tp:am)(n x:Nat)(s:NS)(hd:List Nat):vs=[.ref p,.int x]->dH K c H F p tp n s->x<s.aL.length->s.had[x]?=ac hd->(∀l H',aB H H'->H l=ae->H' l=ac (.lst (bN hd))->Q (.ref l) H')->wS K c vs H Q E
theorem abv(T:Txt K mg w t):bu P w K mg base iJ 2 t.xY t.CL ["self","caller"] (wS K (nc t)):=by refine T.CP.F.jB Q7 λH Q E i h=>?_;·obtain⟨F,p,f,n,x,st,g,rfl,N,e,a,k⟩:=h;exists _,(aj (cP (cM (pv 0) T.aW T.b9 (ki T) i (dg (pv 1)))) (oR (eK kY (by rfl) T.Gp boot_list (dg (xL (aU (pv 0) rfl) (pv 1)))))),4;left;obtain⟨b,o,q,j,O,r,m⟩:=id N;have d:=O.get .cj _ rfl;rw[j] at d;have c:=(ai.mp a).1;exists 1,p,5,d,7,F,p,f,n,x,st,2,N,e,4;exists 1,p,9,d,T.aW,T.DN,7,b .jR,8,bH.of (O.get .jR _ rfl),tY c,b (.handed x),1,.inl (bH.of (O.get (.handed x) (.lst (bN g)) (by show (st.had[x]?.map _)=_;rw[a];rfl))),λl c=>?_;exact k l _ (aB.new c) c aq
inductive VA(K:af)(c:NC)(vs:List V)(H:Hp)(Q:VK)(E:XK):Prop
 |mk(F:am->Prop)(p tp:am)(n:Nat)(s:NS):vs=[.ref p]->dH K c H F p tp n s->(∀l(qs:List am)H',aB H H'->H l=ae->H' l=ac (.lst (qs.map ci))->gI K H' qs (s.cps.map Cp.vs)->Q (.ref l) H')->VA K c vs H Q E
theorem Jx(T:Txt K mg w t):bu P w K mg base iJ 1 t.r8 t.xH ["self"] (VA K (nc t)):=by refine T.sQ.F.jB To λH Q E m h=>?_;·obtain⟨F,p,g,n,st,rfl,N,k⟩:=h;exists _,(oR (eK kY (by rfl) T.Gp boot_list (dg (aU (pv 0) rfl)))),4;left;obtain⟨a,i,q,f,O,j,e⟩:=id N;have c:=O.get .cj _ rfl;rw[f] at c;exists 1,p,9,c,T.aW,T.jY,2,a .fJ,1,.inl (bH.of (O.get .fJ _ rfl)),λl d=>?_;have u:=aB.new (o:=.lst (q.cq.map ci)) d;exact k l q.cq _ u d aq (e.cps.mono λb x=>u.iA)
def Hh(g:Nat)(l:LS):LS:=if l.grp=g then {l with old:=ag} else l
def C5(s:NS)(g:Nat):NS:={s with ts:=fO s.ts g [],ls:=s.ls.map (Hh g)}
inductive Ee(K:af)(c:NC)(vs:List V)(H:Hp)(Q:VK)(E:XK):Prop
 |mk(F:am->Prop)(p tp:am)(n g:Nat)(s:NS):vs=[.ref p,.int g]->dH K c H F p tp n s->g<3->(∀F' H',dH K c H' F' p tp n (C5 s g)->Step H F H' F'->Q .fW H')->Ee K c vs H Q E
theorem uH(T:Txt K mg w t):bu P w K mg base iJ 2 t.lU t.qw ["self","group"] (Ee K (nc t)):=by refine T.qA.F.jB CA λH Q E hr h=>?_;·obtain⟨F,p,W,n,g,st,rfl,⟨c,dx,q,hp,O,hF,hT⟩,x,k⟩:=h;exists _,(aj (cP (pI (xL (aU (pv 0) rfl) (pv 1)) T.JZ T.Bk.m (Si T) (hr.mono (!_)) T.Bk.B .nil mZ)) (aX (fS (dZ (aU (pv 0) rfl)) (gT 2 CA) (aX (bY (qT xj (aU (pv 2) rfl) (pv 1)) (aX (gY (pv 2) IB rfl)) bq))))),4;left;have Y:=O.get .cj _ rfl;rw[hp] at Y;exists 1,p,9,Y,T.aW,T.Ak,7,c .mP,8,bH.of (O.get .mP _ rfl),tY x,c (.book g),dx (.book g),1,O.get (.book g) _ (b4 x),2,c (.book g),c (.g6 g),st.ts g,2,O.aaW x,λd' H1 L hB kp=>?_;obtain⟨⟨dx',R⟩,S⟩:=hB;obtain⟨u,N',I⟩:=aaX hp O hF hT x L R S kp;obtain⟨b,l,Z,v,J,D,N⟩:=N';have X:mQ K (nc t) H1 u b l Z p W n {st with ts:=fO st.ts g []}:=⟨v,J,D,N⟩;have s:=J.get .cj _ rfl;rw[v] at s;have U:=J.get .cJ _ rfl;exists 1,p,9,s,T.aW,T.eX,2,b .cJ,2,⟨_,bH.of U⟩,rK (K:=K) (a:=b .cJ) (xs:=(ay (cx st.ls)).map λi=>.ref (b (.cC i))) (λi A o=>mQ K (nc t) o u b l Z p W n {st with ts:=fO st.ts g [],ls:=(st.ls.take i).map (Hh g)++st.ls.drop i}/\Step H1 u o u/\∃C:Option V,A=[ac (.ref p),ac (.int g),C]) ⟨by rw[List.take_zero,List.drop_zero];exact X,Step.refl' (aB.refl _),1⟩ (λi A o _ z=>?_) ?_ ?_;have e:=z.1.own.get .cJ _ rfl;have el:((st.ls.take i).map (Hh g)++st.ls.drop i).length=st.ls.length:=(by rw[av,ah,<- av,List.take_append_drop]);refine bH.of (e.trans ?_);show ac (cr ((ay ((st.ls.take i).map (Hh g)++st.ls.drop i).length).map _))=_;rw[el];(·rintro i y A o G ⟨r,d,C,rfl⟩;have f:i<cx st.ls:=(by have:=(ai.mp G).1;rw[ah,bI] at this;exact this);rw[ak,i8 f] at G;cases G;have j:((st.ls.take i).map (Hh g)++st.ls.drop i)[i]?=ac st.ls[i]:=(by rw[bO (by rw[ah,bT];lia),ah,bT,Nat.min_eq_left ∅,lF,List.getElem?_drop,Nat.add_zero];exact aa f);(have VB:=r.own.get (.cC i) (qV (nc t) l b i st.ls[i]) (by show (((st.ls.take i).map (Hh g)++st.ls.drop i)[i]?.map _)=_;rw[j];rfl);have next:(st.ls.take (i+1)).map (Hh g)++st.ls.drop (i+1)=((st.ls.take i).map (Hh g)++st.ls.drop i).set i (Hh g st.ls[i]):=by rw[i7,aa f,bx,kg,List.set_append_right _ _ (by rw[ah,bT];lia),ah,bT,Nat.min_eq_left ∅,lF,List.drop_eq_getElem_cons f];rfl);rw[next];exists 139,VB,T.eE,T.nX,77,nA (λe=>?_) (λe=>?_);have e:(st.ls[i]).grp=g:=(by have:=V.int.inj (c7 e);lia);exists 19,VB,T.eE,T.DM,(by show 5<1000;decide),4;obtain⟨X3,M⟩:=aiP r j;exists 4,d.trans M,1;unfold Hh;rw[b4 e];exact X3;have e:¬(st.ls[i]).grp=g:=λz=>e (b6 (by rw[z]));exists 4,d,1;have:Hh g st.ls[i]=st.ls[i]:=b5 e;rw[this,yu j];exact r);rintro A o ⟨r,d,C,rfl⟩;rw[ah,bI,gu (az _),List.drop_eq_nil_of_le (az _),fF] at r;exact k u o r.cj (I.trans d)
noncomputable def tO(s:NS)(g x:Nat)(d:RM.Row):NS:=if d=s.R g x then s else C5 {s with R:=fO s.R g (RM.upd (s.R g) x d)} g
inductive Zr(K:af)(CT:am)(c:NC)(vs:List V)(H:Hp)(Q:VK)(E:XK):Prop
 |mk(F:am->Prop)(p tp ln lr:am)(ns:List Int)(rs:List R5)(s:NS)(o:dS ns rs)(x g:Nat):vs=[.ref p,.int x,.int g]->NW K c CT H F p tp ln lr ns rs s->Dj ns rs s->x<cx ns->g<3->(∀d F' H',RM.zS (N:=wc ns rs o s.ws g) (cx ns) (s.R g) x d->Ay (cx ns) (cx rs) d->dH K c H' F' p tp (cx ns) (tO s g x d)->Step H F H' F'->(d=s.R g x->aB H H')->Q (.bl (!decide (d=s.R g x))) H')->Zr K CT c vs H Q E
theorem OL(T:Txt K mg w t):bu P w K mg base iJ 4 t.ug t.yR ["self","house","group"] (Zr K t.aK (nc t)):=by refine T.nW.F.jB vz λH Q E l h=>?_;·obtain⟨F,p,u,Y,W,ns,U,st,ok,x,g,rfl,N,A,i,a,k⟩:=h;exists _,(aj (sS 3 vz (cM (pv 0) T.aW T.jW (Jw T) l (dX (pv 1) (pv 2)))) (aj (sS 4 vz (cG (wx T) l T.agn (jx (aU (pv 0) rfl) (cM (pv 0) T.aW T.j8 (An T) l (dg (pv 2))) (cM (pv 0) T.aW T.ig (vM T) l (dg (pv 2))) (pv 1)))) (aj (bY (qT Ax (pv 4) (pv 3)) oB bq) (aj (Fb (pv 4) (Mi (xL (aU (pv 0) rfl) (pv 2)) (pv 1) dC)) (aj (cP (cM (pv 0) T.aW T.qA (uH T) l (dg (pv 2)))) oB))))),4;left;obtain⟨loc,dx,q,hp,O,hF,hT⟩:=id N.cj;have Z:=O.get .cj _ rfl;rw[hp] at Z;exists 1,p,5,Z,71,F,p,u,Y,W,ns,U,st,x,g,2,N,i,a,λq1 H1 C G=>?_;have N1:=N.mono C;have D:=C _ _ Z;exists 1,p,9,D,T.aW,T.ir,24;exists 1,p,5,D,7,F,p,u,Y,W,ns,U,st,g,2,N1,ok,A,a,λl2 H2 s2 hl2 h2=>?_;have N2:=N1.mono s2;exists 1,p,5,s2 _ _ D,7,F,p,u,ns.length,g,st,2,N2.cj,a,λl3 qs H3 S hl3 h3 ht=>?_;have N3:=N2.mono S;exists 1,u,Y,W,l2,l3,ns,U,_,ok.nd,ok.ok,yr,st.R g,x,2,N3.nD,bH.of (S _ _ h2),ht.Wo (bH.of h3),i,ok.Wn,(A.fit g a).aiF,λq4 d H4 s4 s f=>?_;have B:=Iy (A.fit g a) i ok.pos f;have N4:=N3.mono s4;have o:=s2.trans (S.trans s4);have c:=C.trans o;exists 37,RM.JG d,RM.JG (st.R g x),RM.yh s,RM.yh (o.iA G),RM.yi _,RM.yi _,bK (cE (aE (ji _ _) (by rw[RM.Ms];decide:(RM.JG d).depth<=64)) _) l.units,4;rw[RM.Qy B.by1 (A.fit g a x i).by1];exists 1,nA (λe=>?_) (λe=>?_);have j:d=st.R g x:=c7 e;have:=k d F H4 f B (by unfold tO;rw[b4 j];exact N4.cj) (Step.refl' c) (λ_=>c);rw[b6 j] at this;exact this;have j:¬d=st.R g x:=λz=>e (b6 z);obtain⟨b,dx4,r,v,y,L,m⟩:=id N4.cj;have Hi:=y.get .cj _ rfl;rw[v] at Hi;have M:(r.rq g).length=ns.length:=(by rw[(m.rows g a).len];simp[jo]);obtain⟨F5,X,S2⟩:=aiO v y L m a i s;exists 37,p,9,Hi,T.aW,T.o6,7,b .yq,8,bH.of (y.get .yq _ rfl),tY a,1,b (.rows g),8,y.get (.rows g) _ (b4 a),KZ (by rw[ah,M];exact i),4;generalize upd H4 (b (.rows g)) (.lst (((r.rq g).map ci).set x (.ref q4)))=H5 at X S2;obtain⟨ag5,dx5,q5,J,O5,hF5,hT5⟩:=id X;have n:=O5.get .cj _ rfl;rw[J] at n;exists 1,p,5,n,7,F5,p,u,ns.length,g,1,X,a,λF6 H6 N6 I=>?_;have:=k d F6 H6 f B (by unfold tO;rw[b5 j];exact N6) ((Step.refl' c).trans (S2.trans I)) (λz=>b3 z j);rw[c5 j] at this;exact this
def je(s:NS)(e:Int)(m:Nat):NS:=(ay m).foldl (λs g=>if UX e g=ag then C5 s g else s) s
theorem lB:je s e (m+1)=if UX e m=ag then C5 (je s e m) m else je s e m:=by unfold je;rw[iK,List.foldl_append];rfl
inductive OM(K:af)(CT:am)(c:NC)(vs:List V)(H:Hp)(Q:VK)(E:XK):Prop
 |mk(F:am->Prop)(p tp ln lr:am)(ns:List Int)(rs:List R5)(s:NS)(i:Nat)(r:R5):vs=[.ref p,.int i]->NW K c CT H F p tp ln lr ns rs s->dS ns rs->rs[i]?=ac r->(∀F' H',NW K c CT H' F' p tp ln lr ns rs (je s r.e 3)->Step H F H' F'->Q .fW H')->OM K CT c vs H Q E
theorem ql(T:Txt K mg w t):bu P w K mg base iJ 3 t.gj t.iT ["self","rope"] (OM K t.aK (nc t)):=by refine T.kJ.F.jB pL λH Q E B h=>?_;·obtain⟨F,p,l,A,y,ns,G,st,i,r,rfl,N,tok,C,k⟩:=h;have j:=tok.ok r (aQ C);exists _,(aX (fS (lZ rfl T.sX (dg (lS T.gM (cF rfl T.lq (v:=.ref t.fj) rfl)))) (gT 2 pL) (aX (bY (j3 (cM (aU (pv 0) rfl) T.fB T.Gg (LJ T) B (dX (pv 1) (pv 2)))) (oE (cM (pv 0) T.aW T.qA (uH T) B (dg (pv 2)))) bq)))),4;left;exists 5,.inr (T.gK _),(3:Int),2664;refine adE (n:=3) (λg s d=>∃(c:am->Prop)(o:Option V),NW K (nc t) t.aK d c p l A y ns G (je st r.e g)/\Step H F d c/\s=[ac (.ref p),ac (.int i),o]) ⟨F,_,N,Step.refl' (aB.refl _),2⟩ ?_ ?_;rintro g s d x ⟨c,o,b,a,rfl⟩;rw[j9];obtain⟨L,U,q,R,O,W,S⟩:=id b.cj;obtain⟨⟨M,m⟩,_⟩:=id b.nD;have u:=O.get .cj _ rfl;rw[R] at u;obtain⟨z,D⟩:=rc x;exists 1,p,9,u,T.aW,T.ir,2,l,M,1,m,71,l,A,y,ns,G,i,r,g,z,2,b.nD,C,D,14;rw[Yn j.e1 j.e7 D];refine nA (λe=>?_) (λe=>?_);exists 1,p,5,u,7,c,p,l,ns.length,g,1,b.cj,x,λI X J f=>?_;exists I,34,a.trans f,2;rw[lB,b4 e];exact b.done f J;exists c,34,a,2;rw[lB,b5 e];exact b;rintro s d ⟨c,o,b,a,rfl⟩;exact k c d b a
theorem BY{n:Nat}(h:n<=1000000):n<a9:=bK h (by show 1000000<2^24;decide)
theorem abw{s:NS}{B:Nat}(h:∀l∈s.ls,l.aH.length<=B):∀l∈(dJ s i d).ls,l.aH.length<=B+1:=by intro l a;unfold dJ at a;cases e:s.ls[i]? with|none=>rw[e] at a;exact nv (h l a)|some b=>(rw[e] at a;rcases eY a with z|rfl;exact nv (h l z);show (b.aH++[d]).length<=B+1;rw[av];exact tT (h b (aQ e)) 1)
theorem Zs{s:NS}{i x B:Nat}(h:∀l∈s.ls,l.aH.length<=B):∀m,m<=cx s.cps->∀l∈(kU s i x m).ls,l.aH.length<=B+m
 |0,_=>by rw[Dl];exact h
 |m+1,c=>by
  have a:=Zs (i:=i) (x:=x) h m ∅;rw[Dm ∅];unfold tM;split
  ·exact abw a
  ·exact λl b=>nv (a l b)
inductive D1(K:af)(c:NC)(vs:List V)(H:Hp)(Q:VK)(E:XK):Prop
 |mk(F:am->Prop)(p tp:am)(n:Nat)(i x:Nat)(s:NS)(B:Nat):vs=[.ref p,.int i,.int x]->dH K c H F p tp n s->(∀cp∈s.cps,cp.l<cx s.ls)->(∀l∈s.ls,l.aH.length<=B)->B+cx s.cps<=1000000->(∀F' H',dH K c H' F' p tp n (tN s i x)->Step H F H' F'->Q .fW H')->D1 K c vs H Q E
theorem KD(T:Txt K mg w t):bu P w K mg base iJ 1 t.jU t.m6 ["self","rope","wire"] (D1 K (nc t)):=by refine T.Ag.F.jB qH λH Q E hr h=>?_;·obtain⟨F,p,tp,n,i,x,st,B,rfl,N,hc,hB,hBm,k⟩:=h;exists _,(aj (sS 3 qH (cu jn)) (aj (fS (dZ (aU (pv 0) rfl)) (gT 4 qH) (aX (bY (qT Ax (iY m1 (pv 4) (jQ aC) (jQ aC)) (bE (dX (pv 1) (pv 2)))) (oE (mX bR bX bW gQ (aU (xL (aU (pv 0) rfl) (xT (pv 4) aC)) rfl) (dg (bE (KO au (xT (pv 4) aC) (pv 1)))))) (oE (mX bR bX bW gQ (pv 3) (dg (pv 4))))))) (aX (gY (pv 0) (pv 3) rfl)))),4;left;refine cy λNx gq=>?_;exists bA _,λl hl=>gq _ _ ?_;have u1:=aB.new (o:=.lst []) hl;have h1:=aq (H:=H) (a:=l) (o:=.lst []);generalize upd H l (.lst [])=H1 at u1 h1;have nF:¬F l:=λz=>(by obtain⟨o,e⟩:=N.there z;rw[hl] at e;cases e);obtain⟨m,dx,q,hp,O,hF,hT⟩:=id (N.mono u1);have X:mQ K (nc t) H1 F m dx q p tp n st:=⟨hp,O,hF,hT⟩;have aV:=O.get .cj _ rfl;rw[hp] at aV;have hco:=O.get .fJ _ rfl;have A:q.cq.length=st.cps.length:=(by have:=hT.cps.len;rw[ah] at this;exact this);refine cy λNx gq=>?_;exists 1,p,9,aV,T.aW,T.jY,2,m .fJ,2,⟨_,bH.of hco⟩,HG (K:=K) (a:=m .fJ) (xs:=q.cq.map ci) (λj σ M=>∃(W:TQ) (I:List am) (v4:Option V),mQ K (nc t) M F m dx W p tp n (kU st i x j)/\W.cq=q.cq/\Step H F M F/\M l=ac (.lst (I.map ci))/\gI K M I (((st.cps.take j).filter λc=>!lC i x c).map Cp.vs)/\σ=[ac (.ref p),ac (.int i),ac (.int x),ac (.ref l),v4]) ⟨q,[],_,by rw[Dl];exact X,2,Step.refl' u1,h1,⟨2,λi q x e=>by cases e⟩,2⟩ (λj σ M _ z=>?_) ?_ ?_;obtain⟨W,I,v4,s,eq,_⟩:=z;have:=s.own.get .fJ _ rfl;refine bH.of (this.trans ?_);rw[eq];rintro j y σ M Nf R hj ⟨W,I,v4,s,eq,Z,U,P8,rfl⟩;have hjl:j<q.cq.length:=(by have:=(ai.mp hj).1;rw[ah] at this;exact this);have G:j<st.cps.length:=∅;rw[ak,aa hjl] at hj;cases hj;have C:dY K M q.cq[j] (st.cps[j]).vs:=s.tup.cps.at' j _ _ (by rw[eq];exact aa hjl) (by rw[aea,ak,aa G];rfl);have hcm:=aD G;rw[Dm G] at R;have efs:=Va (f:=λc:Cp=>!lC i x c) G;rw[efs] at R;generalize st.cps[j]=g at C hcm R;generalize q.cq[j]=a at C;have nw:¬(HT.tH g.vs.length 0 (ac 1)=0/\HT.tH g.vs.length g.vs.length (ac 3)=g.vs.length):=λz=>b3 z.1 (by show HT.tH 4 0 (ac 1)≠0;decide);exists 137,a,1,C,nw,λz1 hz1=>?_;have ct:Aw g.vs (ac 1) (ac 3)=[cf g.r,cf g.w]:=rfl;rw[ct];have v1:=aB.new (o:=.tup [cf g.r,cf g.w]) hz1;exists 37,c8,λz2 hz2=>?_;have v2:=aB.new (o:=.tup [cf i,cf x]) hz2;exists .tuple (([(g.r:Int),(g.w:Int)]:List Int).map .int),.tuple (([(i:Int),(x:Int)]:List Int).map .int),Rep.UR (ns:=[(g.r:Int),(g.w:Int)]) (dY.of (v2 _ _ aq)),Rep.UR (ns:=[(i:Int),(x:Int)]) (dY.of aq),rN _,rN _,bK (cE (aE (ji _ _) (by show bb _+1<=64;rw[Mt];decide)) _) hr.units,14;rw[Bi];have v:=v1.trans v2;have L:=s.mono v;have S6:=v _ _ U;have J:=v.iA C;have D:=P8.mono λb x=>v.iA (a:=b) (xs:=x);have Hy:=Z.trans (Step.refl' (F:=F) v);generalize upd (upd M z1 (.tup [cf g.r,cf g.w])) z2 (.tup [cf i,cf x])=H4 at L S6 J D Hy;refine nA (λe=>?_) (λe=>?_);have on:lC i x g=ag:=(by obtain⟨e1,e2⟩:=c7 e;exact b6 ⟨66⟩);have A:g.l<(kU st i x j).ls.length:=(by rw[U9];exact hc g hcm);have u:(kU st i x j).ls[g.l]?=ac (kU st i x j).ls[g.l]:=aa A;have hdl:((kU st i x j).ls[g.l]).aH.length<=B+j:=Zs hB j ∅ _ (aD A);have Hi:=L.own.get .cj _ rfl;rw[L.hp] at Hi;have asB:=L.own.get .cJ _ rfl;have asC:=L.own.get (.cC g.l) (qV (nc t) dx m g.l _) (by show ((kU st i x j).ls[g.l]?.map _)=_;rw[u];rfl);have apl:=L.own.get (.aH g.l) (.lst ((W.dq g.l).map ci)) (by show ((kU st i x j).ls[g.l]?.map _)=_;rw[u];rfl);have XN:=(L.tup.aH g.l _ u).len;rw[ah] at XN;unfold tM at R;rw[b4 on,gJ u,on] at R;exists 1,p,9,Hi,T.aW,T.eX,7,a,_,(0),12,J,2,m .cJ,8,bH.of asB,tY A,m (.cC g.l),9,asC,T.eE,T.jv,2,.inl ⟨23,bH.of apl⟩,1,a,_,(3),12,J,7,ft,λz3 hz3=>?_;have v3:=aB.new (o:=.tup [cm "lost",cf g.h,cf i]) hz3;have X5:=L.mono v3;exists m (.aH g.l),52,v3 _ _ apl,BY (by rw[ah,XN];lia),4;obtain⟨X6,S⟩:=Fv X5 u (d:=.aaU g.h i) (dY.of aq);refine R _ _ ⟨_,I,_,X6,eq,(Hy.trans (Step.refl' (F:=F) v3)).trans S,S.kp _ _ (v3 _ _ S6) nF,42⟩;rw[b5 (!_),fF];exact (D.mono λb x=>v3.iA (a:=b) (xs:=x)).mono λb x=>X5.cj.tup S.kp;have on:lC i x g=al:=c5 λz=>e (b6 ⟨66⟩);unfold tM at R;rw[on,b5 (!_)] at R;have hql:I.length<=j:=(by rw[D.len,ah];refine aE (bM _ _) ?_;rw[bT];exact ji _ _);exists 1,.inl ⟨23,bH.of S6⟩,1,l,52,S6,BY (by rw[ah];lia),4;have Y:=dU (H:=H4) (z:=l) (o:=.lst (I.map ci++[.ref a]));have X5:=L.past S6 tX nF Y;refine R _ _ ⟨W,I++[a],_,X5,eq,⟨λb o e z=>Y _ _ (Hy.kp b o e z) (aJ e hl),Hy.fr⟩,by rw[aq,bx];rfl,42⟩;rw[b4 (!_),bx];exact (D.snoc J).mono λb x=>dY.past S6 tX Y;rintro σ M ⟨W,I,v4,s,eq,Z,U,P8,rfl⟩;refine gq _ _ ?_;rw[ah,A] at s P8;rw[gR] at P8;obtain⟨F',N',kp,hpF,fr⟩:=aaY s.hp s.own s.fp s.tup U nF P8;have Ao:=s.own.get .cj _ rfl;rw[s.hp] at Ao;exists 37,p,35,Ao,T.aW,T.jY,(by show 9<1000;decide),4;refine k F' _ N' ⟨λb o e z=>kp _ _ (Z.kp _ _ e z) (λy=>z (y▸hpF)),λb z=>?_⟩;rcases fr b z with y|rfl;exact .inl y;exact .inr hl
noncomputable def zL(s:NS)(i x:Nat)(w:List Nat)(e:Int):NS:=
 if (w.filter λz=>decide (z≠x)).isEmpty=ag then je (tN {s with ws:=s.ws.set i (w.filter λz=>decide (z≠x))} i x) e 3 else tN {s with ws:=s.ws.set i (w.filter λz=>decide (z≠x))} i x
inductive Zt(K:af)(CT:am)(c:NC)(vs:List V)(H:Hp)(Q:VK)(E:XK):Prop
 |mk(F:am->Prop)(p tp ln lr:am)(ns:List Int)(rs:List R5)(s:NS)(i x:Nat)(w:List Nat)(r:R5)(B:Nat):vs=[.ref p,.int i,.int x]->NW K c CT H F p tp ln lr ns rs s->dS ns rs->Dj ns rs s->(∀cp∈s.cps,cp.l<cx s.ls)->(∀l∈s.ls,l.aH.length<=B)->B+cx s.cps<=1000000->s.ws[i]?=ac w->rs[i]?=ac r->x∈w->(∀F' H',NW K c CT H' F' p tp ln lr ns rs (zL s i x w r.e)->Step H F H' F'->Q (.bl (w.filter λz=>decide (z≠x)).isEmpty) H')->Zt K CT c vs H Q E
theorem Zu(T:Txt K mg w t):bu P w K mg base iJ 4 t.uh t.yS ["self","rope","wire"] (Zt K t.aK (nc t)):=by refine T.yY.F.jB zZ λH Q E W h=>?_;·obtain⟨F,p,y,U,S,ns,rs,st,i,x,G,r,B,rfl,N,tok,Z,hc,hB,R,f,Te,I,k⟩:=h;exists _,(aj (sS 3 zZ (cR (aU (pv 0) rfl) T.d9 T.nU.m (EL T) (W.mono (!_)) T.nU.B .nil Yi (dX (pv 1) (pv 2)))) (aj (cP (cM (pv 0) T.aW T.Ag (KD T) W (dX (pv 1) (pv 2)))) (aj (bY (j3 (pv 3)) (oE (cM (pv 0) T.aW T.kJ (ql T) W (dg (pv 1)))) bq) (oR (pv 3))))),4;left;obtain⟨g,dx,q,hp,O,hF,hT⟩:=id N.cj;have aV:=O.get .cj _ rfl;rw[hp] at aV;have s:=(ai.mp f).1;have hir:i<cx rs:=(by rw[<- Z.wl];exact s);exists 1,p,9,aV,T.aW,T.jd,2,g .bZ,dx .bZ,1,O.get .bZ _ rfl,71,g .bZ,y,g .dG,U,S,ns,rs,st.ws,i,x,2,N.nD,O.strAt,Z.wl,Z.w4,λj b w2 ls a H1 ej ek u hk L ha V C kp=>?_,λz=>b3 ⟨66⟩ z,λj w2 H1 ej u hk _=>?_;(case refine_2=>have:j=i:=∅;subst this;rw[f] at u;cases u;exact b3 rfl (hk x I));have:j=i:=∅;subst this;have:b=x:=∅;subst this;rw[f] at u;cases u;obtain⟨F1,M,d⟩:=Ys hp O hF hT s L ha V C kp;have J:=N.done d M;obtain⟨asH,dx1,q1,X,O1,hF1,hT1⟩:=id M;have jE:=O1.get .cj _ rfl;rw[X] at jE;dsimp only[pH];exists 1,p,5,jE,71,F1,p,y,ns.length,j,b,_,B,2,M,hc,hB,R,λF2 H2 N2 l=>?_;have o:=J.done l N2;unfold zL at k;generalize (G.filter λz=>decide (z≠b)).isEmpty=eb at k;obtain⟨apm,dx2,q2,Y,O2,hF2,hT2⟩:=id N2;have Ao:=O2.get .cj _ rfl;rw[Y] at Ao;(try dsimp only);refine Wi (λσ v=>∃n:am->Prop,NW K (nc t) t.aK v n p y U S ns rs (if eb=ag then je (tN {st with ws:=st.ws.set j (G.filter λz=>decide (z≠b))} j b) r.e 3 else tN {st with ws:=st.ws.set j (G.filter λz=>decide (z≠b))} j b)/\Step H F v n/\σ=[ac (.ref p),ac (.int j),ac (.int b),ac (.bl eb)]) ?_ λN' A=>?_;(case refine_2=>exists 37,nA (λe=>?_) (λe=>?_);rw[b4 e] at A;exists 1,p,5,Ao,7,F2,p,y,U,S,ns,rs,_,j,r,2,o,tok,Te,λn v D c=>?_;exact A _ _ ⟨n,D,d.trans (l.trans c),2⟩;rw[b5 e] at A;exact A _ _ ⟨F2,o,d.trans l,2⟩);rintro σ v ⟨n,D,c,rfl⟩;exists 1,k n v D c
inductive wd(K:af)(CT C NW:am)(vs:List V)(H:Hp)(Q:VK)(E:XK):Prop
 |mk(p tp lu ln lr:am)(ns:List Int)(rs:List R5)(ws:List (List Nat))(i x:Int):vs=[.ref p,.int i,.int x]->dR K CT H tp ln lr ns rs->zV C H p tp lu ws->ws.length=rs.length->(∀w∈ws,w.length<=4)->(∀(j k:Nat)w w' r(ls:List am)(q:am)H',i=(j:Int)->x=(k:Int)->ws[j]?=ac w->rs[j]?=ac r->x<r.d->k∉w->w'.Perm (w++[k])->w'.Pairwise (·<=·)->H lu=ac (.lst (ls.map ci))->H q=ae->H' q=ac (.lst (bN w'))->H' lu=ac (.lst ((ls.map ci).set j (.ref q)))->(∀b o,H b=ac o->b≠lu->H' b=ac o)->Q (.bl w.isEmpty) H')->(¬(0<=i/\i<cx rs)->E (.ref NW) ae H)->(∀(j:Nat)w r H',i=(j:Int)->ws[j]?=ac w->rs[j]?=ac r->¬(0<=x/\x<r.d)∨(∃k∈w,x=(k:Nat))->aB H H'->E (.ref NW) ae H')->wd K CT C NW vs H Q E
theorem Hj(T:Txt K mg w t):bu P w K mg base (jD P w) 3 t.pR t.uU ["self","rope","wire"] (wd K t.aK t.c9 t.fq):=by refine T.qi.F.jb FL λH Q E X h=>?_;·obtain⟨p,tp,L,ln,lr,ns,v,ws,i,x,rfl,hT,hW,ew,h4,k,kx,ky⟩:=h;obtain⟨⟨dx,hp⟩,R,I,els,hls⟩:=id hW;exists _,(aj (sS 3 FL (cR (pv 0) T.d9 T.fZ.m (pD T) (X.mono (!_)) T.fZ.B .nil cY (dg (pv 1)))) (aj (bY (PW.pt (XS (g9 (fG jm kR aC (pv 2) (cG (OH T) X T.JY (dX (aU (pv 0) rfl) (pv 1))))) (Qj (rL Ci (pv 2) (pv 3) (by with_unfolding_all rfl))))) (aX (dB rfl T.Lj T.Lk X.hd au)) bq) (aj (Fb (cB Ob T.YT boot_sorted (dg (fc fX (pv 3) (cu (dg (pv 2)))))) (Mi (aU (pv 0) rfl) (pv 1) dC)) (oR (qE Ax (pv 3) (cu jn)))))),4;left;exists 1,p,dx,1,hp,7,p,tp,L,ln,lr,ns,v,ws,i,2,hT,hW,ew,λj c l M ej G s xZ Y=>?_,kx;subst ej;have hjl:=(ai.mp G).1;have w4:=h4 _ (aQ G);have g:v[j]?=ac v[j]:=aa ∅;have hp1:=s _ _ hp;have hT1:=hT.mono s;exists 1574;by_cases h0:0<=x;(case neg=>rw[c5 h0];exact dh ⟨1,cS (cS (ky j c _ M rfl G g (.inl λz=>h0 z.1) s))⟩);rw[b6 h0];refine cS ?_;exists 1,p,_,dx,5,hp1,T.d9,T.nY,7,tp,ln,lr,ns,v,j,v[j],2,hT1,g,574;by_cases W:x<v[j].d;(case neg=>rw[c5 W];exact cS (cS (ky j c _ M rfl G g (.inl λz=>W z.2) s)));rw[b6 W];refine dh ?_;obtain⟨f,rfl⟩:∃f:Nat,x=(f:Int):=⟨x.toNat,6⟩;exists 37,l,1,.inl (bH.of Y),2,qR c,14;(try dsimp only);rw[b5 aN,Co];by_cases O:f∈c;(case pos=>rw[b6 O];exact cS (ky j c _ M rfl G g (.inr ⟨f,O,2⟩) s));rw[c5 O];refine dh ?_;exists 37,gN,λq hq=>?_;have s2:=aB.new (o:=.lst [.int (f:Nat)]) hq;exists l,q,52,s2 _ _ Y,aq,4,λS h3=>?_;rw[ah];exact oX (cU (by show c.length+1<=1000;lia));have s3:=s2.trans (aB.new (o:=.lst (bN c++[.int (f:Nat)])) h3);have N:(upd (upd M q (.lst [.int (f:Nat)])) S (.lst (bN c++[.int (f:Nat)]))) S=ac (.lst (((c++[f]).map λk:Nat=>(k:Int)).map cf)):=(by rw[aq,<- nC,iW]);generalize upd (upd M q (.lst [.int (f:Nat)])) S (.lst (bN c++[.int (f:Nat)]))=H3 at s3 N;exists S,1,bH.of N,(by rw[ah,av];show c.length+1<64;lia),λn xs S6 apn apo=>?_;obtain⟨D,rfl,hz1,hz2⟩:=Wk apn apo;have U:=s3.trans (aB.new (o:=.lst ((D.map λk:Nat=>(k:Int)).map cf)) S6);have C:(upd H3 n (.lst ((D.map λk:Nat=>(k:Int)).map cf))) n=ac (.lst (bN D)):=(by rw[aq,iW]);generalize upd H3 n (.lst ((D.map λk:Nat=>(k:Int)).map cf))=H4 at U C;have u:=s.trans U;have A:=u _ _ I;have hp4:=u _ _ hp;have y:j<R.length:=∅;exists 1,p,_,dx,5,hp4,T.d9,T.iV,7,L,33,j,22,A,(by rw[ah];exact KZ y),4;generalize J:upd H4 L (.lst ((R.map ci).set j (.ref n)))=H5;have k5:∀b o,H4 b=ac o->b≠L->H5 b=ac o:=λb o e nb=>(by rw[<- J,aI nb];exact e);have hu5:H5 L=ac (.lst ((R.map ci).set j (.ref n))):=(by rw[<- J];exact aq);have VC:H5 n=ac (.lst (bN D)):=k5 _ _ C (tK C A λz=>Cq (aa y) (HO.lst.inj z));have hl6:H5 l=ac (.lst (bN c)):=k5 _ _ (U _ _ Y) (tK (U _ _ Y) A λz=>Cq (aa y) (HO.lst.inj z));exists 1,bA _,λq2 hq2=>?_;have Z:=aB.new (o:=.lst []) hq2;exists .list ((c.map λk:Nat=>(k:Int)).map .int),.list [],⟨l,1,bH.of (Z _ _ hl6),(by rw[iW];exact vq _)⟩,⟨q2,1,bH.of aq,2⟩,rN _,2,bK (cE (aE (pF _ _) (!_)) _) X.units,4;have z:=k j f c D v[j] R n _ rfl rfl G g W O hz1 hz2 I ((s.trans s3).free S6) (Z _ _ VC) (Z _ _ hu5) (λb o e nb=>Z _ _ (k5 _ _ (u _ _ e) nb));cases c with|nil=>exact z|cons a r=>exact z
noncomputable def KE(s:NS)(i:Nat)(w w2:List Nat)(e:Int):NS:=
 if w.isEmpty=ag then je {s with ws:=s.ws.set i w2} e 3 else {s with ws:=s.ws.set i w2}
inductive DD(K:af)(CT:am)(c:NC)(vs:List V)(H:Hp)(Q:VK)(E:XK):Prop
 |mk(F:am->Prop)(p tp ln lr:am)(ns:List Int)(rs:List R5)(s:NS)(i x:Nat)(w:List Nat)(r:R5):vs=[.ref p,.int i,.int x]->NW K c CT H F p tp ln lr ns rs s->dS ns rs->Dj ns rs s->s.ws[i]?=ac w->rs[i]?=ac r->(x:Int)<r.d->x∉w->(∀w2 F' H',w2.Perm (w++[x])->w2.Pairwise (·<=·)->NW K c CT H' F' p tp ln lr ns rs (KE s i w w2 r.e)->Step H F H' F'->Q (.bl w.isEmpty) H')->DD K CT c vs H Q E
theorem abx(T:Txt K mg w t):bu P w K mg base iJ 4 t.xX t.CK ["self","rope","wire"] (DD K t.aK (nc t)):=by refine T.CO.F.jB DC λH Q E hr h=>?_;·obtain⟨F,p,M,S,R,Y,rs,st,i,x,w',r,rfl,N,X,W,f,Te,Z,G,k⟩:=h;exists _,(aj (sS 3 DC (cR (aU (pv 0) rfl) T.d9 T.qi.m (Hj T) (hr.mono (!_)) T.qi.B .nil Yi (dX (pv 1) (pv 2)))) (aj (bY (j3 (pv 3)) (oE (cM (pv 0) T.aW T.kJ (ql T) hr (dg (pv 1)))) bq) (oR (pv 3)))),4;left;obtain⟨g,dx,q,hp,O,hF,hT⟩:=id N.cj;have aV:=O.get .cj _ rfl;rw[hp] at aV;have o:=(ai.mp f).1;have hir:i<cx rs:=(by rw[<- W.wl];exact o);exists 1,p,9,aV,T.aW,T.jd,2,g .bZ,dx .bZ,1,O.get .bZ _ rfl,71,g .bZ,M,g .dG,S,R,Y,rs,st.ws,i,x,2,N.nD,O.strAt,W.wl,W.w4,λj kk w1 v r2 ls a H1 ej ek s c hkd hk J L I ha U C kp=>?_,λz=>b3 ⟨66⟩ z,λj v r2 H1 ej s c hz _=>?_;(case refine_2=>have:j=i:=∅;subst this;rw[f] at s;cases s;rw[Te] at c;cases c;rcases hz with z|⟨y,hy,e⟩;exact b3 ⟨6,Z⟩ z;have:y=x:=∅;subst this;exact b3 hy G);have:j=i:=∅;subst this;have:kk=x:=∅;subst this;rw[f] at s;cases s;obtain⟨F1,N1,d⟩:=Ys hp O hF hT o I ha U C kp;have n:=N.done d N1;obtain⟨asH,dx1,q1,V,O1,hF1,hT1⟩:=id N1;have jE:=O1.get .cj _ rfl;rw[V] at jE;dsimp only[pH];have k:=k v;unfold KE at k;generalize w'.isEmpty=eb at k;refine Wi (λσ u=>∃l:am->Prop,NW K (nc t) t.aK u l p M S R Y rs (if eb=ag then je {st with ws:=st.ws.set j v} r.e 3 else {st with ws:=st.ws.set j v})/\Step H F u l/\σ=[ac (.ref p),ac (.int j),ac (.int kk),ac (.bl eb)]) ?_ λN' A=>?_;(case refine_2=>exists 37,nA (λe=>?_) (λe=>?_);rw[b4 e] at A;exists 1,p,5,jE,7,F1,p,M,S,R,Y,rs,_,j,r,2,n,X,Te,λl u D b=>?_;exact A _ _ ⟨l,D,d.trans b,2⟩;rw[b5 e] at A;exact A _ _ ⟨F1,n,d,2⟩);rintro σ u ⟨l,D,b,rfl⟩;exists 1,k l u J L D b
inductive Dx(K:af)(c:NC)(vs:List V)(H:Hp)(Q:VK)(E:XK):Prop
 |mk(F:am->Prop)(p tp:am)(n x:Nat)(to:Option Nat)(s:NS):vs=[.ref p,.int x,Mv (to.map λy:Nat=>(y:Int))]->dH K c H F p tp n s->x<s.aL.length->cx s.groups=s.aL.length->(∀y,to=ac y->y<s.aL.length/\s.groups[y]?=s.groups[x]?)->Q .fW H->Dx K c vs H Q E
theorem LM(T:Txt K mg w t):bu P w K mg base iJ 2 t.jg t.kH ["self","sender","to"] (Dx K (nc t)):=by refine T.kK.F.jB z4 λH Q E l h=>?_;·obtain⟨F,p,i,n,x,o,st,rfl,N,m,u,g,k⟩:=h;exists _,(aj (cP (cM (pv 0) T.aW T.b9 (ki T) l (dg (pv 1)))) (aX (bY (qT PM (pv 2) ny) (aj (cP (cM (pv 0) T.aW T.b9 (ki T) l (dg (pv 2)))) (aX (bY (qT lJ (xL (aU (pv 0) rfl) (pv 1)) (xL (aU (pv 0) rfl) (pv 2))) bP bq))) bq))),4;left;obtain⟨d,z,q,s,O,A,v⟩:=id N;have b:=O.get .cj _ rfl;rw[s] at b;exists 1,p,5,b,7,F,p,i,n,x,st,2,N,m,4;cases o with|none=>exact⟨17,dh k⟩|some y=>obtain⟨r,j⟩:=g y rfl;exists 17,cS ?_;exists 1,p,5,b,7,F,p,i,n,y,st,2,N,r,4;have f:=bH.of (K:=K) (O.get .groups _ rfl);have c:x<st.groups.length:=∅;have a:y<st.groups.length:=∅;have e:st.groups[y]=st.groups[x]:=(by rw[aa a,aa c] at j;exact aT j);exists 1,p,9,b,T.aW,T.jX,7,d .groups,8,f,pK c,1,p,9,b,T.aW,T.jX,7,d .groups,8,f,pK a,74;rw[e,b6 rfl];exact dh k
noncomputable def zM(s:NS)(x h:Nat):NS:=if s.aL[x]?=ac h then s else C5 {s with aL:=s.aL.set x h} (s.groups.getD x 0)
inductive Do(K:af)(CT:am)(c:NC)(vs:List V)(H:Hp)(Q:VK)(E:XK):Prop
 |mk(F:am->Prop)(p tp ln lr:am)(ns:List Int)(rs:List R5)(s:NS)(x h:Nat):vs=[.ref p,.int x,.int h]->NW K c CT H F p tp ln lr ns rs s->x<s.aL.length->cx s.groups=s.aL.length->(∀g∈s.groups,g<3)->h<cx ns->(∀F' H',NW K c CT H' F' p tp ln lr ns rs (zM s x h)->Step H F H' F'->Q .fW H')->Do K CT c vs H Q E
theorem Zv(T:Txt K mg w t):bu P w K mg base iJ 3 t.um t.yU ["self","caller","house"] (Do K t.aK (nc t)):=by refine T.yZ.F.jB Oj λH Q E o h=>?_;·obtain⟨F,p,l,I,u,ns,R,st,x,y,rfl,N,j,S,m,A,k⟩:=h;exists _,(aj (cP (cM (pv 0) T.aW T.b9 (ki T) o (dg (pv 1)))) (aj (cP (cM (pv 0) T.aW T.fC (zK T) o (dg (pv 2)))) (aX (bY (qT lJ (pv 2) (xL (aU (pv 0) rfl) (pv 1))) (aj (Fb (pv 2) (Mi (aU (pv 0) rfl) (pv 1) dC)) (oE (cM (pv 0) T.aW T.qA (uH T) o (dg (xL (aU (pv 0) rfl) (pv 1)))))) bq)))),4;left;obtain⟨a,G,q,hp,O,J,C⟩:=id N.cj;have X:mQ K (nc t) H F a G q p l (cx ns) st:=⟨hp,O,J,C⟩;have f:=O.get .cj _ rfl;rw[hp] at f;have i:=O.get .aL _ rfl;have c:x<st.groups.length:=∅;exists 1,p,5,f,7,F,p,l,ns.length,x,st,2,N.cj,j,4;exists 1,p,5,f,7,F,p,l,I,u,ns,R,st,y,2,N,A,4;exists 37,p,9,f,T.aW,T.kW,7,a .aL,8,bH.of i,pK j,74;unfold zM at k;rw[aa j] at k;by_cases e:st.aL[x]=y;rw[b4 (by rw[e])] at k;rw[e,b6 rfl];exact dh (k F H N (Step.refl' (aB.refl _)));rw[b5 (λz=>e (aT z))] at k;rw[c5 (λz=>e (by have:=V.int.inj z;lia))];refine cS ?_;exists 37,p,9,f,T.aW,T.kW,7,a .aL,33,x,22,i,(by rw[ah];exact KZ j),4;have L:(bN st.aL).set x (.int (y:Nat))=bN (st.aL.set x y):=(by rw[bN,bN,rH]);rw[L];obtain⟨d,b⟩:=af7 X (st.aL.set x y);generalize upd H (a .aL) (.lst (bN (st.aL.set x y)))=H1 at d b;have n:=d.own.get .cj _ rfl;rw[d.hp] at n;have r:=bH.of (K:=K) (d.own.get .groups _ rfl);have M:=N.done b d.cj;have s:st.groups.getD x 0=st.groups[x]:=(by rw[ao,aa c];rfl);rw[s] at k;exists 1,p,5,n,7,p,9,n,T.aW,T.jX,7,a .groups,8,r,pK c,F,p,l,ns.length,st.groups[x],1,d.cj,m _ (aD c),λD B v g=>?_;exact k D B (M.done g v) (b.trans g)
def Sn(s:NS)(h g x:Nat):Bool:=decide (s.aL[x]?=ac h/\s.groups[x]?=ac g)
def ES(s:NS)(h g:Nat):List Nat:=(ay s.aL.length).filter (Sn s h g)
theorem So:(ay (i+1)).filter f=(ay i).filter f++if f i=ag then [i] else []:=by rw[iK,gp];congr 1;cases e:f i;rw[b5 (!_),dw (by rw[e];decide)];rfl;rw[b4 rfl,dm e];rfl
inductive Db(K:af)(c:NC)(vs:List V)(H:Hp)(Q:VK)(E:XK):Prop
 |mk(F:am->Prop)(p tp:am)(n h g:Nat)(s:NS):vs=[.ref p,.int h,.int g]->dH K c H F p tp n s->cx s.groups=s.aL.length->s.aL.length<=20->(∀l H',aB H H'->H l=ae->H' l=ac (.lst (bN (ES s h g)))->Q (.ref l) H')->Db K c vs H Q E
theorem LN(T:Txt K mg w t):bu P w K mg base iJ 1 t.kE t.oO ["self","house","group"] (Db K (nc t)):=by refine T.CQ.F.jB rV λH Q E X h=>?_;·obtain⟨F,p,tp,n,c,g,st,rfl,N,hgl,xr,k⟩:=h;exists _,(aj (sS 3 rV (bE (dX (pv 1) (pv 2)))) (oR (fN (kO rV ["caller","self","there"] [ae,ac 0,ac 3]) rfl (lZ rfl T.sX (dg (lS T.gM (aU (pv 0) rfl)))) (λ_ _ _ _=>by exact (gS 0 FO)) (λ_ _ _ _=>by exact (xB (qT (IH K rfl X.units) (bE (dX (yL K (PU K rfl (pv 1) rfl) (pv 0)) (yL K (PU K rfl (pv 1) rfl) (pv 0)))) (pv 2)))) (λ_ _ _ _=>by exact (pv 0))))),4;left;exists 37,c8,λM u=>?_;have m:=aB.new (o:=.tup [cf c,cf g]) u;have W:=aq (H:=H) (a:=M) (o:=.tup [cf c,cf g]);generalize upd H M (.tup [cf c,cf g])=H1 at m W;obtain⟨d,dx,q,Z,O,hF,hT⟩:=N.mono m;have s:=O.get .cj _ rfl;rw[Z] at s;have f:=bH.of (K:=K) (O.get .aL _ rfl);have C:=bH.of (K:=K) (O.get .groups _ rfl);exists 1,p,9,s,T.aW,T.kW,2,d .aL,1,.inl f,(((bN st.aL).length:Nat):Int),26,by rw[ah];lia,λB b=>?_;rw[ah];refine jA (n:=((st.aL.length:Int)).toNat) (λi v _=>v=bN ((ay i).filter (Sn st c g))) b JE yg rfl ?_ ?_;(·rintro i v R J e z rfl y H4 ⟨rfl,rfl⟩;rw[j9];have l:i<st.aL.length:=∅;have j:i<st.groups.length:=∅;have S:=e _ _ s;exists 1,p,9,S,T.aW,T.kW,7,d .aL,8,e.seq f,pK l,1,p,9,S,T.aW,T.jX,7,d .groups,8,e.seq C,pK j,c8,λz1 D=>?_;have G:=aB.new (o:=.tup [cf (st.aL[i]:Nat),cf (st.groups[i]:Nat)]) D;have r:=e.trans G;have U:=G _ _ z;exists 1,.tuple (([(st.aL[i]:Int),(st.groups[i]:Int)]:List Int).map .int),.tuple (([(c:Int),(g:Int)]:List Int).map .int),Rep.UR (ns:=[(st.aL[i]:Int),(st.groups[i]:Int)]) (dY.of aq),Rep.UR (ns:=[(c:Int),(g:Int)]) (dY.of (r _ _ W)),rN _,rN _,(by show bb _+1<=64;rw[Mt];decide),14;(try dsimp only);have Y:Sn st c g i=decide ((st.aL[i]:Int)=(c:Int)/\(st.groups[i]:Int)=(g:Int)):=(by unfold Sn;rw[aa l,aa j,decide_eq_decide];constructor;rintro⟨L,I⟩;exact⟨by rw[aT L],by rw[aT I]⟩;rintro⟨L,I⟩;exists c6 ac ∅,c6 ac ∅);rw[Bi,<- Y];refine nA (λA=>?_) (λA=>?_);exists 14;refine gG b J r U ?_ ?_;rw[ah];refine cU (aE (bM _ _) ?_);rw[bI];lia;rw[So,b4 A,nC];refine oz J r U ?_;rw[So,b5 A,fF]);rintro v R e z rfl;have x:=m.trans e;exact k B R x (m.free b) z
inductive VD(K:af)(CT C NW:am)(vs:List V)(H:Hp)(Q:VK)(E:XK):Prop
 |mk(p tp lu ln lr:am)(ns:List Int)(rs:List R5)(ws:List (List Nat))(i x:Int):vs=[.ref p,.int i,.int x]->dR K CT H tp ln lr ns rs->zV C H p tp lu ws->ws.length=rs.length->(∀(j:Nat)w H',i=(j:Int)->ws[j]?=ac w->aB H H'->(w=[]->Q .fW H')/\(∀k:Nat,w[(x%(w.length:Int)).toNat]?=ac k->w≠[]->Q (.int (k:Nat)) H'))->(¬(0<=i/\i<cx rs)->E (.ref NW) ae H)->VD K CT C NW vs H Q E
theorem Iw(T:Txt K mg w t):bu P w K mg base (jD P w) 2 t.jt t.k9 ["self","rope","number"] (VD K t.aK t.c9 t.fq):=by refine T.qI.F.jb xo λH Q E g h=>?_;·obtain⟨p,v,M,L,C,O,rs,W,i,x,rfl,G,r,X,k,N⟩:=h;obtain⟨⟨J,Y⟩,_⟩:=id r;exists _,(aj (sS 3 xo (cR (pv 0) T.d9 T.fZ.m (pD T) (g.mono (!_)) T.fZ.B .nil cY (dg (pv 1)))) (aj (bY (qT Ax (pv 3) (cu jn)) (oR ny) bq) (oR (xL (pv 3) (fc V2 (pv 2) (lS T.gM (pv 3))))))),4;left;exists 1,p,J,1,Y,7,p,v,M,L,C,O,rs,W,i,2,G,r,X,λj e l H1 s R A D Z=>?_,N;exists 1,bA _,λq hq=>?_;have f:=aB.new (o:=.lst []) hq;have c:=f _ _ Z;exists .list ((e.map λk:Nat=>(k:Int)).map .int),.list [],⟨l,1,bH.of c,(by rw[iW];exact vq _)⟩,⟨q,1,bH.of aq,2⟩,rN _,2,bK (cE (aE (pF _ _) (!_)) _) g.units,14;obtain⟨S,I⟩:=k j e _ s R (A.trans f);cases e with|nil=>exact cS (S rfl)|cons y a=>refine dh ?_;have b:(0:Int)<(((y::a).length:Nat):Int):=(by rw[bU];lia);have u:=ya x (show (((y::a).length:Nat):Int)≠0 by lia);have U:=qP x b;have d:(x%(((y::a).length:Nat):Int)).toNat<(y::a).length:=∅;exists 137,l,1,.inl (bH.of c),5,(by rw[ah]),b,4;obtain⟨z,n⟩:∃z,(y::a)[(x%(((y::a).length:Nat):Int)).toNat]?=ac z:=⟨_,aa d⟩;exists l,33,cf (z:Nat),22,bH.of c,4,I z n (by intro z;cases z);rw[show x%(((y::a).length:Nat):Int)=(((x%(((y::a).length:Nat):Int)).toNat:Nat):Int) by lia];exact dF (by rw[ak,n];rfl)
noncomputable def LP(l:LS)(h:Nat):Bool:=(vX (l.done.map λh:Nat=>((jh (h:Int):df),cn ag)) (jh (h:Int))).isSome
inductive Da(K:af)(CT:am)(c:NC)(vs:List V)(H:Hp)(Q:VK)(E:XK):Prop
 |mk (F:am->Prop) (loc dx:Role->am) (q:TQ) (p tp ln lr:am) (ns:List Int) (rs:List R5) (s:NS) (o:dS ns rs) (i r h:Nat) (l:LS):vs=[.ref p,.ref (loc (.cC i)),.int r,.int h]->mQ K c H F loc dx q p tp (cx ns) s->NW K c CT H F p tp ln lr ns rs s->Dj ns rs s->s.ls[i]?=ac l->l.grp<3->(∀os H',aB H H'->kT (wc ns rs o s.ws l.grp) (s.R l.grp) os->os.length<=12->Q (.str (if r∈os then (if LP l h=ag then "twice" else "come") else "lost")) H')->Da K CT c vs H Q E
theorem Sq(T:Txt K mg w t):bu P w K mg base iJ 7 t.pU t.uW ["self","posted","rope","house"] (Da K t.aK (nc t)):=by refine T.IU.F.jB Q8 λH Q E s h=>?_;·obtain⟨F,a,A,q,p,x,B,y,D,J,st,o,i,r,I,l,rfl,X,N,C,b,v,k⟩:=h;exists _,(aj (bY (rL xA (pv 2) (cM (pv 0) T.aW T.rz (LL T) s (dg (aU (pv 1) rfl))) (by with_unfolding_all rfl)) (oR au) bq) (oR (jl (oa (alH (Ye s) (pv 3) (aU (pv 1) rfl)) (by with_unfolding_all rfl)) au au))),4;left;have n:=X.own.get .cj _ rfl;rw[X.hp] at n;have u:=X.own.get (.cC i) (qV (nc t) A a i l) (by show (st.ls[i]?.map _)=_;rw[b];rfl);have j:=X.own.get (.done i) (.dK (l.done.map λh:Nat=>(jh (h:Int),.bl ag))) (by show (st.ls[i]?.map _)=_;rw[b];rfl);exists 37,p,5,n,7,a (.cC i),9,u,T.eE,T.nX,2,F,p,x,B,y,D,J,st,o,l.grp,2,N,C,v,λlo os G d z g m f=>⟨lo,1,.inl (bH.of g),2,qR _,14⟩;(try dsimp only);rw[b4 rfl,Co];have k:=k os G d m f;by_cases e:r∈os;rw[b4 e] at k;rw[b6 e];refine dh ?_;exists 37,a (.cC i),9,d _ _ u,T.eE,T.uv,2,a (.done i),1,Tc.k (k:=.inl (I:Int)) (d _ _ j),14;unfold LP at k;refine nA (λc=>?_) (λc=>?_);rw[b4 c] at k;exact k;rw[b5 c] at k;exact k;rw[b5 e] at k;rw[c5 e];exact cS k
def vN(l:LS):Nat:=if l.kd=1 then l.s+l.to+1 else l.s
theorem ajk{t:Ad}(T:Txt K mg w t){b a:Role->am}{f:L2.St}{H:Hp}{Q:VK}{i:Nat}{l:LS}(j:∀Q:VK,Q (.ref (a (.cC i))) H->E7 4 f H Q)(h:H (a (.cC i))=ac (qV (nc t) b a i l))(c:H (a (.letter i))=ac (xE (nc t) (b (.letter i)) l))(q:Q (.int (vN l:Nat)) H) :NX t.kI (a8 "number") (Ia K) [] E0 (Qo K (E7 4) (a8 "letter")) xy f H Q∨NX t.iU (a8 "number") (Nq t.iU) [] E0 (Qo K (E7 4) (a8 "letter")) xy f H Q∨NX t.lg (a8 "number") (Ia K) [] E0 (Qo K (E7 4) (a8 "letter")) xy f H Q:=by by_cases e:l.kd=1;have d:H (a (.letter i))=ac (.ins t.iU (b (.letter i)) [("sender",.int l.s),("to",.int l.to)]):=(by rw[c];unfold xE;rw[b4 e]);have g:cf ((l.s:Int)+(l.to:Int)+1)=.int (vN l:Nat):=(by unfold vN;rw[b4 e];rfl);refine .inr (.inl ?_);unfold NX Qo;exact (j _ ⟨a (.cC i),9,h,T.eE,T.jM,2,a (.letter i),b (.letter i),1,d,2,a (.letter i),b (.letter i),l.s,l.to,2,d,(by rw[g];exact q)⟩);have d:H (a (.letter i))=ac (.ins t.lg (b (.letter i)) [("sender",.int l.s)]):=(by rw[c];unfold xE;rw[b5 e]);have g:cf (l.s:Int)=.int (vN l:Nat):=(by unfold vN;rw[b5 e]);refine .inr (.inr ?_);unfold NX Qo;exact (j _ ⟨a (.cC i),9,h,T.eE,T.jM,2,a (.letter i),b (.letter i),1,d,2,a (.letter i),t.lg,b (.letter i),l.s,2,d,T.DL,T.sW,(by rw[g];exact q)⟩)
def VE(s:NS)(i h r x f:Nat):NS:={dJ s i (.send h r x) with cps:=s.cps++[⟨i,r,x,f⟩]}
inductive Ch(K:af)(CT:am)(c:NC)(vs:List V)(H:Hp)(Q:VK)(E:XK):Prop
 |mk(F:am->Prop)(p tp ln lr:am)(ns:List Int)(rs:List R5)(s:NS)(i h r:Nat)(l:LS)(re:R5)(w:List Nat)(x:Nat):vs=[.ref p,.int i,.int h,.int r]->NW K c CT H F p tp ln lr ns rs s->dS ns rs->Dj ns rs s->s.ls[i]?=ac l->l.aH.length<1000000->cx s.cps<1000000->rs[r]?=ac re->s.ws[r]?=ac w->w[(((vN l:Nat):Int)%(w.length:Int)).toNat]?=ac x->w≠[]->(∀F' H',NW K c CT H' F' p tp ln lr ns rs (VE s i h r x (lM re h))->Step H F H' F'->Q .fW H')->Ch K CT c vs H Q E
theorem Zw(T:Txt K mg w t):bu P w K mg base iJ 3 t.yO t.DH ["self","number","house","rope"] (Ch K t.aK (nc t)):=by refine T.Rc.F.jB FP λH Q E s h=>?_;·obtain⟨F,p,A,ln,lr,ns,y,st,i,g,r,l,re,w',x,rfl,N,tok,ER,b,hld,hcl,c,hw,X,L,k⟩:=h;exists _,(aj (sS 4 FP (xL (aU (pv 0) rfl) (pv 1))) (aj (sS 5 FP (cR (aU (pv 0) rfl) T.d9 T.qI.m (Iw T) (s.mono (!_)) T.qI.B .nil Yi (dX (pv 3) (Mu (pI (aU (pv 4) rfl) T.Rf T.qy.m (C3 T) (s.mono (!_)) T.qy.B .nil mZ) (Mu (pI (aU (pv 4) rfl) T.vm T.yX.m (Pg T) (s.mono (!_)) T.yX.B .nil mZ) (pI (aU (pv 4) rfl) T.DL T.Rg (C3 T) (s.mono (!_)) T.qy.B .nil mZ)))))) (aj (cP (mX bR bX bW gQ (aU (pv 4) rfl) (dg (bE (jx au (pv 2) (pv 3) (pv 5)))))) (oE (mX bR bX bW gQ (aU (pv 0) rfl) (dg (bE (jx (pv 1) (pv 3) (pv 5) (cM (aU (pv 0) rfl) T.fB T.sO (wY T) s (dX (pv 3) (pv 2))))))))))),4;left;obtain⟨a,C,q,hp,O,hF,hT⟩:=id N.cj;have aV:=O.get .cj _ rfl;rw[hp] at aV;have U:=(ai.mp b).1;have R:=(ai.mp c).1;have hll:=O.get .cJ _ rfl;have VB:=O.get (.cC i) (qV (nc t) C a i l) (by show (st.ls[i]?.map _)=_;rw[b];rfl);have S:=O.get (.letter i) (xE (nc t) (C (.letter i)) l) (by show (st.ls[i]?.map _)=_;rw[b];rfl);exists 1,p,9,aV,T.aW,T.eX,7,a .cJ,8,bH.of hll,tY U,4;exists 1,p,9,aV,T.aW,T.jd,2,a .bZ,C .bZ,1,O.get .bZ _ rfl,74;have v:=O.get (.aH i) (.lst ((q.dq i).map ci)) (by show (st.ls[i]?.map _)=_;rw[b];rfl);refine ajk T (l:=l) (λQ q=>⟨1,q⟩) VB S ?_;exists a .bZ,A,a .dG,ln,lr,ns,y,st.ws,r,(vN l:Nat),2,N.nD,O.strAt,ER.wl,λj w2 H1 ej D n=>⟨λz=>?_,λkk hk _=>?_⟩,λz=>b3 ⟨66⟩ z;have:j=r:=∅;subst this;rw[hw] at D;cases D;exact b3 z L;have:j=r:=∅;subst this;rw[hw] at D;cases D;rw[X] at hk;cases hk;have X1:mQ K (nc t) H1 F a C q p A (cx ns) st:=mQ.mono ⟨hp,O,hF,hT⟩ n;have XN:=(X1.tup.aH i _ b).len;rw[ah] at XN;exists 1,a (.cC i),9,n _ _ VB,T.eE,T.jv,2,.inl ⟨23,bH.of (n _ _ v)⟩,137,hX,λz1 W=>?_;have M:=aB.new (o:=.tup [cm "send",cf g,cf j,cf x]) W;exists a (.aH i),52,M _ _ (n _ _ v),BY (by rw[ah,XN];lia),4;obtain⟨f,st2⟩:=Fv (X1.mono M) b (d:=.send g j x) (dY.of aq);have e:=(Step.refl' (F:=F) (n.trans M)).trans st2;have I:=N.done e f.cj;generalize upd (upd H1 z1 (.tup [cm "send",cf g,cf j,cf x])) (a (.aH i)) (.lst ((q.dq i).map ci++[.ref z1]))=H2 at f e I;have Y:=f.own.get .cj _ rfl;rw[f.hp] at Y;have u:=f.own.get .fJ _ rfl;obtain⟨⟨dt,Z⟩,_⟩:=id I.nD;have J:q.cq.length=st.cps.length:=(by have z:=f.tup.cps.len;rw[ah] at z;exact z);obtain⟨_,rfl⟩:=ai.mp c;exists 1,p,9,Y,T.aW,T.jY,2,.inl ⟨23,bH.of u⟩,3737,p,9,Y,T.aW,T.ir,2,A,dt,1,Z,71,A,ln,lr,ns,y,j,_,g,2,I.nD,c,4;rw[Ix (h:=g) R tok.ok];exists hX,λz2 hz2=>?_;have G:=aB.new (o:=.tup [cf i,cf j,cf x,cf (lM y[j] g:Nat)]) hz2;exists a .fJ,52,G _ _ u,BY (by rw[ah,J];lia),4;have X3:=f.mono G;obtain⟨X4,Hy⟩:=Bn X3 (qs:=q.cq++[z2]) (cps:=st.cps++[⟨i,j,x,lM y[j] g⟩]) (by rw[bx];exact X3.tup.cps.snoc (dY.of aq));rw[bx] at X4 Hy;have S2:=(e.trans (Step.refl' (F:=F) G)).trans Hy;refine k F _ ?_ S2;unfold VE;rw[gJ b];exact N.done S2 X4.cj
end
section
def tP(ds:List Nat)(h:Nat):List Nat:=if h∈ds then ds else ds++[h]
theorem aeu{ds:List Nat}{h:Nat}:dV (ds.map λh:Nat=>((jh (h:Int):df),cn ag)) (jh (h:Int)) (cn ag)=(tP ds h).map λh:Nat=>((jh (h:Int):df),cn ag):=by
 have e:((ds.map λh:Nat=>((jh (h:Int):df),cn ag)).any λb=>decide (b.1=(jh (h:Int):df)))=decide (h∈ds):=(by rw[kr,List.any_map,Dd,decide_eq_true_iff];constructor;rintro⟨x,a,e⟩;have e:=Sum.inl.inj (c7 e);have:x=h:=∅;exact this▸a;exact λa=>⟨h,a,b6 rfl⟩);unfold dV tP;rw[e];by_cases z:h∈ds;·rw[b4 (b6 z),b4 z,cz];refine dP λx _=>?_;show (if _ then _ else _)=_;split <;> rfl
 rw[b5 (by rw[decide_eq_true_iff];exact z),b5 z,bx];rfl
structure Fr(s s':NS):Prop where
 ws:s'.ws=s.ws
 R:s'.R=s.R
 ts:s'.ts=s.ts
 aL:s'.aL=s.aL
 groups:s'.groups=s.groups
 lt:∀(i:Nat)(l:LS),s.ls[i]?=ac l->∃l':LS,s'.ls[i]?=ac l'/\l'.s=l.s/\l'.to=l.to/\l'.kd=l.kd/\l'.grp=l.grp/\l'.old=l.old
def Fr.refl(s:NS):Fr s s:=⟨22222,λ_ l h=>⟨l,h,22222⟩⟩
theorem Fr.trans(f:Fr a b)(g:Fr b c):Fr a c:=by exists g.ws.trans f.ws,g.R.trans f.R,g.ts.trans f.ts,g.aL.trans f.aL,g.groups.trans f.groups,λi l h=>?_;obtain⟨n,p,m,d,s,k,r⟩:=f.lt i l h;obtain⟨e,j,f1,f2,o,t,q⟩:=g.lt i n p;exists e,j,f1.trans m,f2.trans d,o.trans s,t.trans k,q.trans r
theorem Fr.ok(f:Fr s s')(h:Dj ns rs s):Dj ns rs s' :=⟨by rw[f.ws];exact h.wl,by rw[f.ws];exact h.w4,by rw[f.R];exact h.fit⟩
theorem sT{s:NS}{i:Nat}{a:LS}{had:List (List Nat)}{cps:List Cp}(hl:s.ls[i]?=ac l)(d:a.s=l.s)(c:a.to=l.to)(f:a.kd=l.kd)(g:a.grp=l.grp)(e:a.old=l.old):Fr s {s with ls:=s.ls.set i a,had:=had,cps:=cps}:=by exists 22222,λk b h=>?_;show ∃b,(s.ls.set i a)[k]?=ac b/\_;rw[jI (ai.mp hl).1];by_cases z:k=i;subst z;rw[hl] at h;cases h;exists a,b4 rfl,d,c,f,g,e;exists b,by rw[b5 z];exact h,22222
theorem GT:Fr s (dJ s i d):=by cases h:s.ls[i]? with|none=>unfold dJ;rw[h];exact Fr.refl s|some l=>rw[gJ h];exact sT h rfl rfl rfl rfl rfl
structure Bd(n m D:Nat)(s:NS):Prop where
 gl:cx s.groups=s.aL.length
 xr:s.aL.length<=20
 g3:∀g∈s.groups,g<3
 hm:∀h∈s.aL,h<n
 hl:cx s.had=s.aL.length
 hb:∀w∈s.had,w.length<=D
 ll:cx s.ls<=D
 lb:∀l∈s.ls,l.aH.length+cx s.cps<=D/\l.done.length<=D/\l.grp<3/\(l.kd=1∨l.kd=2)
 cb:cx s.cps<=D
 cl:∀c∈s.cps,c.l<cx s.ls/\c.r<m/\c.h<n
 tb:∀g,50*(s.ts g).length<=D/\d7 (s.ts g)
def Bd.mono{a:Nat}(b:Bd n m D s)(h:D<=a):Bd n m a s :=⟨b.gl,b.xr,b.g3,b.hm,b.hl,λw z=>aE (b.hb w z) h,aE b.ll h,λl z=>⟨aE (b.lb l z).1 h,aE (b.lb l z).2.1 h,(b.lb l z).2.2⟩,aE b.cb h,b.cl,λg=>⟨aE (b.tb g).1 h,(b.tb g).2⟩⟩
theorem Bd.set{n m D:Nat}{s:NS}{i:Nat}{l a:LS}(b:Bd n m D s)(k:Nat)(hl:s.ls[i]?=ac l){cps:List Cp}{had:List (List Nat)}(u:cps.length<=cx s.cps+1)(k2:cps.length<=cx s.cps∨2<=k)(k1:1<=k)(t:a.aH.length+cps.length<=l.aH.length+cx s.cps+k)(v:a.done.length<=l.done.length+k)(f:a.grp=l.grp)(p:a.kd=l.kd)(j:∀c∈cps,c∈s.cps∨(c.l<cx s.ls/\c.r<m/\c.h<n))(q:had.length=s.had.length)(o:∀w∈had,w.length<=D+k):Bd n m (D+k) {s with ls:=s.ls.set i a,had:=had,cps:=cps}:=by have d:=b.lb l (aQ hl);exists b.gl,b.xr,b.g3,b.hm,q.trans b.hl,o,4,λe z=>?_,4,λc z=>?_,λg=>⟨aE (b.tb g).1 (vQ _ _),(b.tb g).2⟩;show (s.ls.set i a).length<=_;rw[bC];have:=b.ll;lia;rcases eY z with z|rfl;have h:=b.lb e z;exists 44,h.2.2;show e.aH.length+cps.length<=_;have:=h.1;lia;have:=h.2.1;lia;exists 44,f▸d.2.2.1,p▸d.2.2.2;show e.aH.length+cps.length<=_;have:=d.1;lia;have:=d.2.1;lia;show cps.length<=_;have:=b.cb;lia;show c.l<(s.ls.set i a).length/\_;rw[bC];rcases j c z with y|y;exact b.cl c y;exact y
theorem Bd.awv(b:Bd n m D s)(i:Nat)(d:k6):Bd n m (D+1) (dJ s i d):=by cases h:s.ls[i]? with|none=>unfold dJ;rw[h];exact b.mono (gX D)|some l=>rw[gJ h];refine b.set 1 h (gX _) (.inl (az _)) (az _) ?_ (gX _) rfl rfl (λc z=>.inl z) rfl (λw z=>nv (b.hb w z));show (l.aH++[d]).length+_<=_;rw[av];show l.aH.length+1+_<=_;lia
def fR(s:NS)(i h:Nat)(l:LS):NS:={s with ls:=s.ls.set i {l with done:=tP l.done h}}
def Xj{s:NS}{i:Nat}(hl:s.ls[i]?=ac l):Fr s (fR s i h l):=sT hl rfl rfl rfl rfl rfl
theorem GM{i:Nat}(b:Bd n m D s)(hl:s.ls[i]?=ac l):Bd n m (D+1) (fR s i h l):=by refine b.set 1 hl (gX _) (.inl (az _)) (az _) (gX _) ?_ rfl rfl (λc z=>.inl z) rfl (λw z=>nv (b.hb w z));show (tP l.done h).length<=_;unfold tP;split;exact gX _;rw[av];exact az _
def wZ(s:NS)(i c:Nat):NS:={s with had:=s.had.set c (s.had.getD c []++[i])}
def lY(i h:Nat)(s:NS)(c:Nat):NS:=dJ (wZ s i c) i (.hand h c)
def P9:Fr s (lY i h s c):=Fr.trans (b:=wZ s i c) ⟨22222,λ_ l h=>⟨l,h,22222⟩⟩ GT
theorem Xk(b:Bd n m D s):Bd n m (D+1) (lY i h s c):=by have q:∀w∈(wZ s i c).had,w.length<=D+1:=λw z=>(by rcases eY z with y|rfl;exact nv (b.hb w y);rw[av];refine tT ?_ 1;rw[ao];cases e:s.had[c]? with|none=>exact bA _|some w=>exact b.hb w (aQ e));unfold lY;cases d:s.ls[i]? with|none=>unfold dJ;rw[show (wZ s i c).ls[i]?=ae from d];have a:=b.mono (gX D);exact⟨a.gl,a.xr,a.g3,a.hm,by show (s.had.set _ _).length=_;rw[bC];exact a.hl,q,a.ll,a.lb,a.cb,a.cl,a.tb⟩|some l=>rw[gJ (show (wZ s i c).ls[i]?=ac l from d)];refine b.set 1 d (gX _) (.inl (az _)) (az _) ?_ (gX _) rfl rfl (λc z=>.inl z) (by show (s.had.set _ _).length=_;rw[bC]) q;show (l.aH++[_]).length+cx s.cps<=_;rw[av];show l.aH.length+1+cx s.cps<=_;lia
noncomputable def tQ(ws:List (List Nat))(r k:Nat):Nat:=match ws[r]? with|some w=>w.getD (k%w.length) 0|none=>0
def Nt(rs:List R5)(r h:Nat):Nat:=match rs[r]? with|some re=>lM re h|none=>0
def fA(s:NS)(i:Nat):Nat:=match s.ls[i]? with|some l=>vN l|none=>0
noncomputable def rD(rs:List R5)(i h:Nat)(s:NS)(r:Nat):NS:=VE s i h r (tQ s.ws r (fA s i)) (Nt rs r h)
def Qa:Fr s (rD rs i h s r):=Fr.trans (GT (i:=i) (d:=.send h r (tQ s.ws r (fA s i)))) ⟨22222,λ_ l h=>⟨l,h,22222⟩⟩
theorem oo(o:dS ns rs){r:Nat}(a:r<cx rs):Nt rs r h<cx ns:=by unfold Nt;rw[aa a];have k:=o.ok _ (aD a);have d:=k.a0;have e:=k.b0;have b:=k.a1;have c:=k.b1;show lM _ _<_;unfold lM;split <;> lia
theorem GE(o:dS ns rs){i r:Nat}(b:Bd (cx ns) (cx rs) D s)(a:i<cx s.ls)(d:r<cx rs):Bd (cx ns) (cx rs) (D+2) (rD rs i h s r):=by have e:=aa a;unfold rD VE;rw[gJ e];refine b.set 2 e (by rw[av];exact az _) (.inr (az _)) (!_) ?_ (vQ _ _) rfl rfl (λc z=>?_) rfl (λw z=>aE (b.hb w z) (vQ _ _));show (s.ls[i].aH++[_]).length+(s.cps++[_]).length<=_;rw[av,av];show s.ls[i].aH.length+1+(cx s.cps+1)<=_;lia;rcases bh.mp z with y|y;exact .inl y;rw[aZ] at y;subst y;exact .inr ⟨a,d,oo o d⟩
theorem Em{f:NS->Nat->NS}(h:∀s x,Fr s (f s x)):∀(xs:List Nat)(s:NS),Fr s (xs.foldl f s)
 |[],s=>Fr.refl s
 |x::xs,s=>(h s x).trans (Em h xs (f s x))
theorem Ic{n m k:Nat}{f:NS->Nat->NS}(I:NS->Prop):∀(xs:List Nat)(s:NS)(D:Nat),(∀s x D,x∈xs->I s->Bd n m D s->I (f s x)/\Bd n m (D+k) (f s x))->I s->Bd n m D s->Bd n m (D+k*xs.length) (xs.foldl f s)
 |[],s,D,_,_,b=>b
 |x::xs,s,D,h,i,b=>by
  obtain⟨a,c⟩:=h s x D aP i b
  have:=Ic I xs (f s x) (D+k) (λs y D z=>h s y D (aR _ z)) a c
  refine this.mono (Nat.le_of_eq ?_);rw[bU,Nat.mul_succ];lia
theorem VF{xs:List Nat}{j:Nat}(h:j<xs.length):(xs.take (j+1)).foldl f s=f ((xs.take j).foldl f s) xs[j]:=by rw[mW h,List.foldl_append];rfl
def tR(s:NS)(l:LS)(h:Nat):List Nat:=(ES s h l.grp).filter λc=>QE l.s l.to l.kd c
noncomputable def Ss(rs:List R5)(s:NS)(l:LS)(h:Nat)(cH:Option Nat)(os:List Nat):List Nat:=(f5 (s.ts l.grp) (HJ l.to l.kd) h (cH.map λk:Nat=>(k:Int)) ((os.filter (de rs h)).map λk:Nat=>(k:Int)) ((ES s h l.grp).map λk:Nat=>(k:Int))).map Int.toNat
noncomputable def VG(rs:List R5)(s:NS)(i h:Nat)(l:LS)(cH:Option Nat)(os:List Nat):NS:=(Ss rs s l h cH os).foldl (rD rs i h) ((tR s l h).foldl (lY i h) (fR s i h l))
theorem Qc{os:List Int}:(∀x∈f5 ts so rO cH os hs,x∈os)/\(f5 ts so rO cH os hs).length<=os.length:=by have f:(∀x∈os.filter (yo cH),x∈os)/\(os.filter (yo cH)).length<=os.length:=⟨λx z=>(cQ.mp z).1,bM _ _⟩;unfold f5;split;exact f;split;exists λx z=>b3 z (-_),bA _;split;split;(rename_i r _ a;exists λx z=>?_,4;have:=(cQ.mp z).1;rw[aZ] at this;exact this▸a;refine aE (bM _ _) ?_;show 1<=os.length;cases os with|nil=>cases a|cons=>simp);exact f;exact f
theorem ajl{rs:List R5}{s:NS}{l:LS}{h:Nat}{cH:Option Nat}{os:List Nat}:(f5 (s.ts l.grp) (HJ l.to l.kd) h (cH.map λk:Nat=>(k:Int)) ((os.filter (de rs h)).map λk:Nat=>(k:Int)) ((ES s h l.grp).map λk:Nat=>(k:Int))).map cf=bN (Ss rs s l h cH os):=by unfold Ss;rw[bN,cz];refine dP λx a=>?_;obtain⟨k,_,rfl⟩:=aF.mp (Qc.1 x a);rfl
theorem Xl{os:List Nat}:(∀r∈Ss rs s l h cH os,r∈os)/\(Ss rs s l h cH os).length<=os.length:=by unfold Ss;exists λr a=>?_,4;obtain⟨x,b,rfl⟩:=aF.mp a;obtain⟨k,c,rfl⟩:=aF.mp (Qc.1 x b);exact (cQ.mp c).1;rw[ah];refine aE Qc.2 ?_;rw[ah];exact bM _ _
theorem Su:(∀c∈tR s l h,c<s.aL.length)/\(tR s l h).length<=s.aL.length:=by unfold tR ES;exists λc z=>dO.mp (cQ.mp (cQ.mp z).1).1,4;refine aE (bM _ _) (aE (bM _ _) ?_);rw[bI];exact az _
theorem Nu{s:NS}{os:List Nat}(O:kT (wc ns rs o s.ws g) (s.R g) os){r:Nat}(c:r∈os):r<cx rs/\∃w,s.ws[r]?=ac w/\w≠[]:=by obtain⟨a,b,t⟩:=(O.2 r).mp c;have m:r∈i2 rs s.ws g:=t.Hz.1;exists yr r m,4;have e:=(cQ.mp m).2;unfold d3 at e;split at e;rename_i h w f d;exists w,d,λz=>?_;subst z;cases e;cases e
def wb{s:NS}{i:Nat}{os:List Nat}(hl:s.ls[i]?=ac l):Fr s (VG rs s i h l cH os):=((Xj hl).trans (Em (λ_ _=>P9) _ _)).trans (Em (λ_ _=>Qa) _ _)
end
section
variable{P:bv}{w:World}{K:af}{mg:Str->Option ap}{base:Heap}
theorem amL{H:Hp}(h:H a=ac (xE c dx l))(k:l.kd=1∨l.kd=2):Oc cL c.let1 c.aoE H a l.s l.to l.kd:=by rcases k with e|e;rw[e];refine .one dx ?_;rw[h];unfold xE;rw[b4 e];rw[e];refine .all dx ?_;rw[h];unfold xE;rw[b5 (by rw[e];decide)]
inductive sK(K:af)(CT:am)(c:NC)(vs:List V)(H:Hp)(Q:VK)(E:XK):Prop
 |mk(F:am->Prop)(p tp ln lr:am)(ns:List Int)(rs:List R5)(s:NS)(o:dS ns rs)(i h:Nat)(cH:Option Nat)(l:LS)(D:Nat):vs=[.ref p,.int i,.int h,Mv (cH.map λk:Nat=>(k:Int))]->NW K c CT H F p tp ln lr ns rs s->Dj ns rs s->Bd (cx ns) (cx rs) D s->D<=900000->s.ls[i]?=ac l->(∀os F' H',kT (wc ns rs o s.ws l.grp) (s.R l.grp) os->os.length<=12->NW K c CT H' F' p tp ln lr ns rs (VG rs s i h l cH os)->Step H F H' F'->Q .fW H')->sK K CT c vs H Q E
theorem C6(T:Txt K mg w t):bu P w K mg base iJ 7 t.lT t.qv ["self","number","house","came"] (sK K t.aK (nc t)):=by
 refine T.wC.F.jB gi λH Q E hr h=>?_
 ·obtain⟨F,p,tp,ln,lr,ns,rs,st,o,i,f,W,l,D,rfl,N,ER,bd,hD,L,k⟩:=h;exists _,(aj (sS 4 gi (xL (aU (pv 0) rfl) (pv 1))) (aj (sS 5 gi (aU (pv 4) rfl)) (aj (IN (Ye hr) (aU (pv 4) rfl) (pv 2) IB rfl) (aj (sS 6 gi (cG (abp T) hr T.Ve (jx (aU (pv 0) rfl) (cM (pv 0) T.aW T.j8 (An T) hr (dg (pv 5))) (cM (pv 0) T.aW T.ig (vM T) hr (dg (pv 5))) (pv 2)))) (aj (sS 7 gi (cM (pv 0) T.aW T.CQ (LN T) hr (dX (pv 2) (pv 5)))) (aj (sS 8 gi (cG (abq T) hr T.Vd (oI (xL (aU (pv 0) rfl) (pv 5)) (aU (pv 4) rfl) (pv 2) (pv 3) (pv 6) (pv 7)))) (aj (fS (dZ (xT (pv 8) aC)) (gT 9 gi) (aj (cP (mX bR bX bW gQ (xL (aU (pv 0) rfl) (pv 9)) (dg (pv 1)))) (oE (mX bR bX bW gQ (aU (pv 4) rfl) (dg (bE (KO au (pv 2) (pv 9)))))))) (aX (fS (dZ (xT (pv 8) aC)) (gT 10 gi) (oE (cM (pv 0) T.aW T.Rc (Zw T) hr (KO (pv 1) (pv 2) (pv 10))))))))))))),4;left;obtain⟨g,dx,q,hp,O,hF,hT⟩:=id N.cj;have X:mQ K (nc t) H F g dx q p tp (cx ns) st:=⟨hp,O,hF,hT⟩;have aV:=O.get .cj _ rfl;rw[hp] at aV;have hil:=(ai.mp L).1;obtain⟨lb1,lb2,hg,lkd⟩:=bd.lb l (aQ L);have hll:=O.get .cJ _ rfl;have VB:=O.get (.cC i) (qV (nc t) dx g i l) (by show (st.ls[i]?.map _)=_;rw[L];rfl);have hdo:=O.get (.done i) (.dK (l.done.map λh:Nat=>(jh (h:Int),.bl ag))) (by show (st.ls[i]?.map _)=_;rw[L];rfl);refine cy λNx U=>?_;exists 1,p,9,aV,T.aW,T.eX,7,g .cJ,8,bH.of hll,tY hil,U _ _ ?_;refine cy λNx U=>?_;exists 1,g (.cC i),9,VB,T.eE,T.nX,2,U _ _ ?_;refine cy λNx U=>?_;exists 1,g (.cC i),9,VB,T.eE,T.uv,7,g (.done i),1,Yb.k (k:=.inl (f:Int)) hdo (BY (by rw[ah];lia)),4;rw[aeu];refine U _ _ ?_;obtain⟨X1,st1⟩:=af6 X L (tP l.done f);have N1:=N.done st1 X1.cj;generalize upd H (g (.done i)) (.dK ((tP l.done f).map λh:Nat=>((jh (h:Int):df),cn ag)))=H1 at X1 st1 N1;have fr1:=Xj (h:=f) L;have G:=GM (h:=f) bd L;have es1:fR st i f l={st with ls:=st.ls.set i {l with done:=tP l.done f}}:=rfl;rw[<- es1] at X1 N1;have Nv:(fR st i f l).ls[i]?=ac {l with done:=tP l.done f}:=(by show (st.ls.set i _)[i]?=_;rw[jI hil,b4 rfl]);have ets:(fR st i f l).ts=st.ts:=rfl;have ehe:ES (fR st i f l) f l.grp=ES st f l.grp:=rfl;have k1:∀os F' H',kT (wc ns rs o (fR st i f l).ws l.grp) ((fR st i f l).R l.grp) os->os.length<=12->NW K (nc t) t.aK H' F' p tp ln lr ns rs ((Ss rs st l f W os).foldl (rD rs i f) ((tR st l f).foldl (lY i f) (fR st i f l)))->Step H1 F H' F'->Q .fW H':=λos F' H' a b c d=>k os F' H' a b c (st1.trans d);have aew:=fr1.ok ER;have ehd:tR st l f=(ES (fR st i f l) f l.grp).filter λc:Nat=>QE l.s l.to l.kd c:=rfl;have ego:∀os,Ss rs st l f W os=(f5 ((fR st i f l).ts l.grp) (HJ l.to l.kd) f (W.map λk:Nat=>(k:Int)) ((os.filter (de rs f)).map λk:Nat=>(k:Int)) ((ES (fR st i f l) f l.grp).map λk:Nat=>(k:Int))).map Int.toNat:=λos=>rfl;have hgi:∀os,(f5 ((fR st i f l).ts l.grp) (HJ l.to l.kd) f (W.map λk:Nat=>(k:Int)) ((os.filter (de rs f)).map λk:Nat=>(k:Int)) ((ES (fR st i f l) f l.grp).map λk:Nat=>(k:Int))).map cf=bN (Ss rs st l f W os):=λos=>ajl;have J:∀os,(∀r∈Ss rs st l f W os,r∈os)/\(Ss rs st l f W os).length<=os.length:=λos=>Xl;have Y:(∀c∈tR st l f,c<(fR st i f l).aL.length)/\(tR st l f).length<=(fR st i f l).aL.length:=Su;have hhi:((ES (fR st i f l) f l.grp).map λk:Nat=>(k:Int)).filter (QE l.s l.to l.kd)=(tR st l f).map λk:Nat=>(k:Int):=(by rw[ehd,List.filter_map];rfl);generalize Ss rs st l f W=S at k1 hgi J;generalize tR st l f=v at k1 Y hhi;generalize fR st i f l=m at X1 N1 G k1 Nv aew hgi Y hhi;have awA:=(ai.mp Nv).1;have jE:=X1.own.get .cj _ rfl;rw[X1.hp] at jE;refine cy λNx U=>?_;exists 1,p,9,jE,T.aW,T.ir,24;exists 1,p,5,jE,7,F,p,tp,ln,lr,ns,rs,m,l.grp,2,N1,o,aew,hg,λa1 H2 t2 ha1 h1=>?_;exists 1,p,5,t2 _ _ jE,7,F,p,tp,ns.length,l.grp,m,2,(N1.mono t2).cj,hg,λa2 qs H3 t3 ha2 h2 ht=>?_;exists 1,tp,ln,lr,a1,a2,ns,rs,_,o.nd,o.ok,yr,m.R l.grp,f,2,(N1.mono (t2.trans t3)).nD,bH.of (t3 _ _ h1),ht.Wo (bH.of h2),by have:=o.QO;lia,o.Wn,aew.fit l.grp hg,λlo os H4 t4 amn hlo hO h12=>U _ _ ?_;have t14:=t2.trans (t3.trans t4);refine cy λNx U=>?_;exists 1,p,5,t14 _ _ jE,71,F,p,tp,ns.length,f,l.grp,m,2,(N1.mono t14).cj,G.gl,G.xr,λlh H5 t5 asO hlh=>U _ _ ?_;have t15:=t14.trans t5;have X5:=X1.mono t15;have amM:=t5 _ _ hlo;have apv:=X5.own.get (.cC i) (qV (nc t) dx g i {l with done:=tP l.done f}) (by show (m.ls[i]?.map _)=_;rw[Nv];rfl);have apw:=X5.own.get (.letter i) (xE (nc t) (dx (.letter i)) {l with done:=tP l.done f}) (by show (m.ls[i]?.map _)=_;rw[Nv];rfl);rw[iW] at amM hlh;refine cy λNx U=>?_;exists 1,p,9,t15 _ _ jE,T.aW,T.Ak,7,g .mP,8,bH.of (X5.own.get .mP _ rfl),tY hg,1,g (.cC i),9,apv,T.eE,T.jM,7137,g (.book l.grp),g (.g6 l.grp),g (.letter i),lo,lh,m.ts l.grp,l.s,l.to,l.kd,f,W.map λk:Nat=>(k:Int),5,X5.own.aaW hg,amL apw lkd,bH.of amM,bH.of hlh,44,λtq b1 b2 H6 t6 asR asS asT awB htq hb1 hb2=>U _ _ ?_;rw[ah];have:=bM (de rs f) os;lia;rw[ah];unfold ES;have:=bM (Sn m f l.grp) (ay m.aL.length);rw[bI] at this;have:=G.xr;lia;rw[hhi,<- iW] at hb1;rw[hgi os] at hb2;have J:=J os;have k1:=k1 os;generalize S os=S at hb2 J k1;have t16:=t15.trans t6;have X6:=X1.mono t16;have nF:∀{b},H5 b=ae->¬F b:=λ{b}e z=>(by obtain⟨u,e'⟩:=X5.cj.there z;rw[e] at e';cases e');have nq:=nF asR;have n1:=nF asS;have n2:=nF asT;have apx:Step H1 F H6 F:=Step.refl' t16;refine cy λNx U=>?_;exists 1,tq,_,(0),12,dY.of htq,2,b1,2,⟨_,bH.of hb1⟩,HG (K:=K) (a:=b1) (xs:=bN v) (λj σ H7=>∃(q7:TQ)(v9:Option V),mQ K (nc t) H7 F g dx q7 p tp (cx ns) ((v.take j).foldl (lY i f) m)/\Step H6 F H7 F/\σ=[ac (.ref p),ac (.int i),ac (.int f),ac (Mv (W.map λk:Nat=>(k:Int))),ac (.ref (g (.cC i))),ac (.int l.grp),ac (.ref lo),ac (.ref lh),ac (.ref tq),v9,ae]) ⟨q,ae,X6,Step.refl' (aB.refl _),2⟩ (λj σ H7 _ z=>?_) ?_ ?_;obtain⟨q7,v9,Z,Td,rfl⟩:=z;exact bH.of (Td.kp _ _ hb1 n1);rintro j y σ H7 Nf Uo hj ⟨q7,v9,Z,Td,rfl⟩;have I:j<v.length:=(by have:=(ai.mp hj).1;rw[ah] at this;exact this);rw[ak,aa I] at hj;cases hj;rw[VF I] at Uo;have b7:Bd (cx ns) (cx rs) (D+1+1*(v.take j).length) ((v.take j).foldl (lY i f) m):=Ic (λ_=>True) _ _ _ (λs x D _ _ b=>⟨trivial,Xk b⟩) trivial G;have f7:Fr m ((v.take j).foldl (lY i f) m):=Em (λ_ _=>P9) _ _;have hjt:(v.take j).length<=20:=(by rw[bT];have:=Y.2;have:=G.xr;lia);obtain⟨l7,VC,_⟩:=f7.lt i _ Nv;have C:v[j]<((v.take j).foldl (lY i f) m).had.length:=(by rw[b7.hl,f7.aL];exact Y.1 _ (aD I));generalize (v.take j).foldl (lY i f) m=B at Z b7 VC C Uo;show pH 9 (cf ((v[j]:Nat):Int)) _ _ _;generalize v[j]=c at C Uo;have akW:=Z.own.get .cj _ rfl;rw[Z.hp] at akW;have hhc:=Z.own.get (.handed c) (.lst (bN B.had[c])) (by show (B.had[c]?.map _)=_;rw[aa C];rfl);have hwl:=b7.hb _ (aD C);have hdl:=(b7.lb l7 (aQ VC)).1;exists 1,p,9,akW,T.aW,T.DN,7,g .jR,8,bH.of (Z.own.get .jR _ rfl),tY C,.inl ⟨23,bH.of hhc⟩,1,g (.handed c),52,hhc,BY (by rw[ah];lia),4;obtain⟨X8,A⟩:=af8 Z C (B.had[c]++[i]);rw[nC] at X8 A;generalize upd H7 (g (.handed c)) (.lst (bN B.had[c]++[cf i]))=H8 at X8 A;have es:{B with had:=B.had.set c (B.had[c]++[i])}=wZ B i c:=(by unfold wZ;rw[ao,aa C];rfl);rw[es] at X8;have n:(wZ B i c).ls[i]?=ac l7:=VC;have asU:=X8.own.get (.cC i) (qV (nc t) dx g i l7) (by show ((wZ B i c).ls[i]?.map _)=_;rw[n];rfl);have apy:=X8.own.get (.aH i) (.lst ((q7.dq i).map ci)) (by show ((wZ B i c).ls[i]?.map _)=_;rw[n];rfl);have XN:=(X8.tup.aH i _ n).len;rw[ah] at XN;exists 1,g (.cC i),9,asU,T.eE,T.jv,2,.inl ⟨23,bH.of apy⟩,37,ft,λz1 hz1=>?_;have u1:=aB.new (o:=.tup [cm "hand",cf f,cf c]) hz1;exists g (.aH i),52,u1 _ _ apy,BY (by rw[ah,XN];lia),4;obtain⟨X9,st9⟩:=Fv (X8.mono u1) n (d:=.hand f c) (dY.of aq);rw[<- gJ n] at X9;exact Uo _ _ ⟨33,X9,(Td.trans A).trans ((Step.refl' (F:=F) u1).trans st9),2⟩;rintro σ H7 ⟨q7,v9,Z,Td,rfl⟩;refine U _ _ ?_;rw[ah,gR] at Z;have b7:Bd (cx ns) (cx rs) (D+1+1*v.length) (v.foldl (lY i f) m):=Ic (λ_=>True) _ _ _ (λs x D _ _ b=>⟨trivial,Xk b⟩) trivial G;have f7:Fr m (v.foldl (lY i f) m):=Em (λ_ _=>P9) _ _;have hjt:v.length<=20:=(by have:=Y.2;have:=G.xr;lia);have N7:=N1.done (apx.trans Td) Z.cj;obtain⟨l7,VC,_⟩:=f7.lt i _ Nv;have apz:=f7.ok aew;have hO7:kT (wc ns rs o (v.foldl (lY i f) m).ws l.grp) ((v.foldl (lY i f) m).R l.grp) os:=(by rw[f7.ws,f7.R];exact hO);generalize v.foldl (lY i f) m=B at Z b7 VC N7 k1 apz hO7;exists 1,tq,_,(1),12,dY.of (Td.kp _ _ htq nq),2,b2,2,⟨_,bH.of (Td.kp _ _ hb2 n2)⟩,HG (K:=K) (a:=b2) (xs:=bN S) (λj σ H8=>∃(F8:am->Prop)(v10:Option V),NW K (nc t) t.aK H8 F8 p tp ln lr ns rs ((S.take j).foldl (rD rs i f) B)/\Step H6 F H8 F8/\σ=[ac (.ref p),ac (.int i),ac (.int f),ac (Mv (W.map λk:Nat=>(k:Int))),ac (.ref (g (.cC i))),ac (.int l.grp),ac (.ref lo),ac (.ref lh),ac (.ref tq),v9,v10]) ⟨F,ae,N7,Td,2⟩ (λj σ H8 _ z=>?_) ?_ ?_;obtain⟨F8,v10,N8,A,rfl⟩:=z;exact bH.of (A.kp _ _ hb2 n2);rintro j y σ H8 Nf Uo hj ⟨F8,v10,N8,A,rfl⟩;have I:j<S.length:=(by have:=(ai.mp hj).1;rw[ah] at this;exact this);rw[ak,aa I] at hj;cases hj;rw[VF I] at Uo;have hgl:∀r∈S,r<cx rs:=λr hr=>(Nu hO7 (J.1 r hr)).1;have f8:Fr B ((S.take j).foldl (rD rs i f) B):=Em (λ_ _=>Qa) _ _;have b8:Bd (cx ns) (cx rs) (D+1+1*v.length+2*(S.take j).length) ((S.take j).foldl (rD rs i f) B):=Ic (λs=>i<cx s.ls) _ _ _ (λs x D hx hi b=>⟨by
   obtain⟨l',e,_⟩:=(Qa (rs:=rs) (h:=f) (i:=i) (r:=x) (s:=s)).lt i _ (aa hi);exact (ai.mp e).1,GE o b hi (hgl x (List.mem_of_mem_take hx))⟩) (ai.mp VC).1 b7
  have awD:(S.take j).length<=12:=(by rw[bT];have:=J.2;lia);obtain⟨hrl,M,hw,hwn⟩:=Nu hO7 (J.1 _ (aD I));rw[<- f8.ws] at hw;obtain⟨l8,n,_⟩:=f8.lt i _ VC;have apA:=f8.ok apz;generalize (S.take j).foldl (rD rs i f) B=s8 at N8 b8 n hw apA Uo;show pH 10 (cf ((S[j]:Nat):Int)) _ _ _;generalize S[j]=r at hrl hw Uo;obtain⟨awE,dx8,q8,hp8,O8,hF8,hT8⟩:=id N8.cj;have akX:=O8.get .cj _ rfl;rw[hp8] at akX;have hdl:=(b8.lb l8 (aQ n)).1;have C:=b8.cb;have hwl:vN l8%M.length<M.length:=Nat.mod_lt _ (ko.mpr hwn);have hwx:M[(((vN l8:Nat):Int)%(M.length:Int)).toNat]?=ac M[vN l8%M.length]:=(by rw[show (((vN l8:Nat):Int)%(M.length:Int))=((vN l8%M.length:Nat):Int) from rfl,g5];exact aa hwl);have hre:=aa hrl;exists 1,p,5,akX,737,F8,p,tp,ln,lr,ns,rs,s8,i,f,r,l8,rs[r],M,1,N8,o,apA,n,66,hre,hw,hwx,hwn,λF9 H9 N9 st9=>?_;refine Uo _ _ ⟨F9,34,A.trans st9,2⟩;have e1:tQ s8.ws r (fA s8 i)=M[vN l8%M.length]:=(by unfold tQ fA;rw[hw,n];show M.getD (vN l8%M.length) 0=_;rw[ao,aa hwl];rfl);have e2:Nt rs r f=lM rs[r] f:=(by unfold Nt;rw[hre]);unfold rD;rw[e1,e2];exact N9;rintro σ H8 ⟨F8,v10,N8,A,rfl⟩;rw[ah,gR] at N8;exact k1 F8 H8 hO h12 N8 (apx.trans A)
def amN{a b:TS}{H:Hp}(J:L2.St->Hp->Prop)(d:∀c H,J c H->b D c H)(h:∀N:L2.St->Hp->Prop,(∀c H,J c H->N c H)->a {D with nx:=N} c H):Mh a b D c H:=h _ d
inductive Go(C:am)(vs:List V)(H:Hp)(Q:VK)(E:XK):Prop
 |mk (p dx la:am) (g:Int):vs=[.ref p,.ref la,.int g]->H p=ac (.ins C dx [])->(∀da ea H',H da=ae->H ea=ae->da≠ea->H' p=ac (.ins C dx [("letter",.ref la),("group",.int g),("old",.bl al),("done_at",.ref da),("deeds",.ref ea)])->H' da=ac (.dK [])->H' ea=ac (.lst [])->(∀b o,H b=ac o->b≠p->H' b=ac o)->Q .fW H')->Go C vs H Q E
theorem Nz(T:Txt K mg w t):bu P w K mg base iJ 1 t.lR t.qu ["self","letter","group"] (Go t.lW):=by refine T.Ex.F.jB MK λH Q E u h=>?_;·obtain⟨p,i,s,g,rfl,r,k⟩:=h;exists _,(aj (gY (pv 0) (pv 1) rfl) (aj (gY (pv 0) (pv 2) rfl) (aj (gY (pv 0) IB rfl) (aj (gY (pv 0) afu rfl) (aX (gY (pv 0) (cu jn) rfl)))))),4;left;exists 37,p,_,i,1,r,T.eE,T.jM,(!_),4;rw[fk (names:=[]) rfl rfl];exists 37,p,_,i,1,aq,T.eE,T.nX,(by show 1<1000;decide),4;rw[fk (names:=["letter"]) rfl (↑_),VV];exists 1,p,_,i,1,aq,T.eE,T.DM,(by show 2<1000;decide),4;rw[fk (names:=["letter","group"]) rfl (↑_),VV];intro j a;have d:H j=ae:=(by by_cases z:j=p;subst z;rw[aq] at a;cases a;rw[aI z] at a;exact a);have m:p≠j:=aJ r d;exists 1,p,_,i,1,(by rw[aI m];exact aq),T.eE,T.uv,(by show 3<1000;decide),4;rw[fk (names:=["letter","group","old"]) rfl (↑_)];exists bA _,λn c=>?_;have l:n≠p:=λz=>(by subst z;rw[aq] at c;cases c);rw[aI l] at c;have f:j≠n:=λz=>(by subst z;rw[aq] at c;cases c);rw[aI (bS f),aI l] at c;exists 1,p,_,i,1,(by rw[aI (bS l)];exact aq),T.eE,T.jv,(by show 4<1000;decide),4;rw[fk (names:=["letter","group","old","done_at"]) rfl (↑_)];refine k j n _ d c f aq ?_ ?_ λb o e q=>?_;rw[aI (bS m),aI f,aI (bS m)];exact aq;rw[aI l];exact aq;rw[aI q,aI (aJ e c),aI q,aI (aJ e d),aI q];exact e
noncomputable def tE(s:NS)(x:Nat)(to:Option Nat):LS:={s:=x,to:=to.getD 0,kd:=if to.isSome=ag then 1 else 2,grp:=s.groups.getD x 0,old:=al,done:=[],aH:=[]}
def VH(s:NS)(l:LS):NS:={s with ls:=s.ls++[l]}
noncomputable def xu(s:NS)(x:Nat)(to:Option Nat):NS:={s with ls:=s.ls++[{tE s x to with aH:=[.post (s.aL.getD x 0)]}]}
noncomputable def Aq(rs:List R5)(s:NS)(x:Nat)(to:Option Nat)(os:List Nat):NS:=VG rs (xu s x to) (cx s.ls) (s.aL.getD x 0) {tE s x to with aH:=[.post (s.aL.getD x 0)]} ae os
theorem aex:dJ (VH s (tE s x to)) (cx s.ls) (.post (s.aL.getD x 0))=xu s x to:=by rw[gJ (l:=tE s x to) (by show (s.ls++[_])[s.ls.length]?=_;rw[bO (az _),lF];rfl)];show {s with ls:=(s.ls++[_]).set (cx s.ls) _}={s with ls:=_};congr 1;rw[List.set_append_right _ _ (az _),lF];rfl
theorem xV{s:NS}:(s.ls++[l])[s.ls.length]?=ac l:=by rw[bO (az _),lF];rfl
theorem FX{x:Nat}(b:Bd n m D s)(f:x<s.aL.length):Bd n m (D+1) (xu s x to):=by have a:=b.mono (gX D);exists a.gl,a.xr,a.g3,a.hm,a.hl,a.hb,4,λl z=>?_,a.cb,λc z=>?_,a.tb;show (s.ls++[_]).length<=_;rw[av];exact tT b.ll 1;rcases bh.mp z with y|y;exact a.lb l y;rw[aZ] at y;subst y;exists 4,bA _,44;show 1+cx s.cps<=D+1;have:=b.cb;lia;show s.groups.getD x 0<3;have d:x<cx s.groups:=(by rw[b.gl];exact f);rw[ao,aa d];exact b.g3 _ (aD d);show (if _ then (1:Int) else 2)=1∨(if _ then (1:Int) else 2)=2;split;exact .inl rfl;exact .inr rfl;obtain⟨e,g⟩:=b.cl c z;exists 4,g;show c.l<(s.ls++[_]).length;rw[av];exact bF e (vQ _ _)
inductive FV(K:af)(CT:am)(c:NC)(vs:List V)(H:Hp)(Q:VK)(E:XK):Prop
 |mk(F:am->Prop)(p tp ln lr:am)(ns:List Int)(rs:List R5)(s:NS)(o:dS ns rs)(x:Nat)(to:Option Nat)(D:Nat):vs=[.ref p,.int x,Mv (to.map λy:Nat=>(y:Int))]->NW K c CT H F p tp ln lr ns rs s->Dj ns rs s->Bd (cx ns) (cx rs) D s->D<=800000->x<s.aL.length->(∀y,to=ac y->y<s.aL.length/\s.groups[y]?=s.groups[x]?)->(∀os F' H',kT (wc ns rs o s.ws (s.groups.getD x 0)) (s.R (s.groups.getD x 0)) os->os.length<=12->NW K c CT H' F' p tp ln lr ns rs (Aq rs s x to os)->Step H F H' F'->Q (.int (cx s.ls)) H')->FV K CT c vs H Q E
theorem Zx(T:Txt K mg w t):bu P w K mg base iJ 8 t.j7 t.yW ["self","sender","to"] (FV K t.aK (nc t)):=by refine T.uq.jB vA λH Q E hr h=>?_;·obtain⟨F,p,tp,ln,lr,ns,rs,st,o,x,f,D,rfl,N,ER,bd,hD,Z,hto,k⟩:=h;exists _,(aj (cP (cM (pv 0) T.aW T.kK (LM T) hr (dX (pv 1) (pv 2)))) (aj (sS 3 vA (jl (qT m4 (pv 2) ny) (PR T.ai1 (C2 T) (hr.mono (!_)) rfl T.ai0 T.wB.B .nil mZ (dg (pv 1))) (cI T.Ge (Pf T) hr T.aiZ (dX (pv 1) (pv 2))))) (aj (sS 4 vA (lS T.gM (aU (pv 0) rfl))) (aj (cP (mX bR bX bW gQ (aU (pv 0) rfl) (dg (cI T.Ex (Nz T) hr T.agq (dX (pv 3) (xL (aU (pv 0) rfl) (pv 1))))))) (aj (sS 5 vA (xL (aU (pv 0) rfl) (pv 1))) (aj (cP (mX bR bX bW gQ (aU (xL (aU (pv 0) rfl) (pv 4)) rfl) (dg (bE (dX au (pv 5)))))) (aj (cP (cM (pv 0) T.aW T.wC (C6 T) hr (KO (pv 4) (pv 5) ny))) (oR (pv 4))))))))),4;left;obtain⟨n,dx,q,hp,O,hF,hT⟩:=id N.cj;have aV:=O.get .cj _ rfl;rw[hp] at aV;have hxg:x<st.groups.length:=(by rw[bd.gl];exact Z);refine cy λNx m=>?_;exists 1,p,5,aV,71,F,p,tp,ns.length,x,f,st,2,N.cj,Z,bd.gl,hto,m _ _ ?_;refine amN (λσ r=>∃la Wp,aB H r/\H la=ae/\r la=ac (xE (nc t) Wp (tE st x f))/\σ=[ac (.ref p),ac (.int x),ac (Mv (f.map λy:Nat=>(y:Int))),ac (.ref la),ae,ae]) ?_ (λN hN=>?_);rotate_left;(cases f with|none=>exists 17,cS ?_;exists 1,λz dz Y M C=>⟨z,_,dz,x,2,aq,T.DL,T.sW,24⟩;exact hN _ _ ⟨z,dz,made Y M C,Y,aq,2⟩|some y=>exists 17,dh ?_;exists 37,λz dz Y M C=>⟨z,dz,x,y,2,aq,λH3 hy3 kp=>⟨24⟩⟩;exact hN _ _ ⟨z,dz,λb u e=>kp b u (((aB.new M).trans (aB.new (by rw[aI (bS C)];exact Y))) b u e) (aJ e Y),Y,hy3,2⟩);rintro σ r ⟨la,Wp,s,amP,hla,rfl⟩;have jE:=s _ _ aV;have N1:=N.mono s;obtain⟨O1,T1⟩:=And.intro (O.mono s) (hT.mono λb x=>s.iA (a:=b) (xs:=x));have G:=O1.get .cJ _ rfl;refine cy λNx m=>?_;exists 1,p,9,jE,T.aW,T.eX,2,n .cJ,1,.inl (bH.of G),4;rw[ah,bI];refine m _ _ ?_;refine cy λNx m=>?_;exists 1,p,9,jE,T.aW,T.eX,2,.inl ⟨23,bH.of G⟩,37,p,9,jE,T.aW,T.jX,7,n .groups,8,bH.of (O1.get .groups _ rfl),pK hxg,λpa JJ c S U=>⟨pa,JJ,la,1,aq,λda ea H2 I XM nde h2p h2d h2e kp2=>⟨24⟩⟩;have j:aB r H2:=λb u e=>kp2 b u (((aB.new S).trans (aB.new (by rw[aI (bS U)];exact c))) b u e) (aJ e c);have R:r da=ae:=(by cases e:r da with|none=>rfl|some u=>have:=((aB.new (o:=.own pa) S).trans (aB.new (o:=.ins t.lW JJ []) (by rw[aI (bS U)];exact c))) _ _ e;rw[I] at this;cases this);have v:r ea=ae:=(by cases e:r ea with|none=>rfl|some u=>have:=((aB.new (o:=.own pa) S).trans (aB.new (o:=.ins t.lW JJ []) (by rw[aI (bS U)];exact c))) _ _ e;rw[XM] at this;cases this);have nF:∀{b},r b=ae->¬F b:=λ{b} e z=>(by obtain⟨u,e'⟩:=N1.cj.there z;rw[e] at e';cases e');have nFl:¬F la:=λz=>(by obtain⟨u,e'⟩:=N.cj.there z;rw[amP] at e';cases e');have npd:pa≠da:=λz=>(by rw[<- z,aq] at I;cases I);have npe:pa≠ea:=λz=>(by rw[<- z,aq] at XM;cases XM);have W:∀{b},r b=ae->la≠b:=λ{b} e=>aJ hla e;have eg:st.groups.getD x 0=st.groups[x]:=(by rw[ao,aa hxg];rfl);have apB:=j _ _ G;exists n .cJ,52,apB,BY (by rw[ah,bI];have:=bd.ll;lia),4;obtain⟨F3,N3,kp3,fr3⟩:=af9 (l:=tE st x f) (JJ:=JJ) (Wp:=Wp) (pa:=pa) (la:=la) (da:=da) (ea:=ea) hp (O1.mono j) hF (T1.mono λb x=>j.iA (a:=b) (xs:=x)) rfl (by show _=ac (cw _ _ [_,(_,cf ((st.groups.getD x 0:Nat):Int)),_,_,_]);rw[eg];exact h2p) (j _ _ hla) h2d h2e (bS (W c)) npd npe (W R) (W v) nde (nF c) nFl (nF R) (nF v);have J:Step H F _ F3:=⟨λb u e z=>kp3 b u (j _ _ (s _ _ e)) z,λb z=>by rcases fr3 b z with y|rfl|rfl|rfl|rfl;exact .inl y;exact .inr (s.free c);exact .inr amP;exact .inr (s.free R);exact .inr (s.free v)⟩;have W3:=N.done J N3;generalize upd H2 (n .cJ) (.lst (((ay (cx st.ls)).map λi=>ci (n (.cC i)))++[.ref pa]))=H3 at J W3 N3;refine m _ _ ?_;obtain⟨L,dx3,q3,hp3,X,hF3,hT3⟩:=id W3.cj;have X3:mQ K (nc t) H3 F3 L dx3 q3 p tp (cx ns) (VH st (tE st x f)):=⟨hp3,X,hF3,hT3⟩;have LO:=X.get .cj _ rfl;rw[hp3] at LO;have g:(VH st (tE st x f)).ls[st.ls.length]?=ac (tE st x f):=xV;have ajq:cx st.ls<(VH st (tE st x f)).ls.length:=(ai.mp g).1;have eh:st.aL.getD x 0=st.aL[x]:=(by rw[ao,aa Z];rfl);refine cy λNx m=>?_;exists 1,p,9,LO,T.aW,T.kW,7,L .aL,8,bH.of (X.get .aL _ rfl),pK Z,m _ _ ?_;have ahc:=X.get (.cC (cx st.ls)) (qV (nc t) dx3 L (cx st.ls) (tE st x f)) (by show ((VH st (tE st x f)).ls[st.ls.length]?.map _)=_;rw[g];rfl);have apC:=X.get (.aH (cx st.ls)) (.lst ((q3.dq (cx st.ls)).map ci)) (by show ((VH st (tE st x f)).ls[st.ls.length]?.map _)=_;rw[g];rfl);have XN:=(X3.tup.aH _ _ g).len;rw[ah] at XN;refine cy λNx m=>?_;exists 1,p,9,LO,T.aW,T.eX,7,L .cJ,8,bH.of (X.get .cJ _ rfl),tY ajq,L (.cC (cx st.ls)),9,ahc,T.eE,T.jv,2,.inl ⟨23,bH.of apC⟩,1,c8,λz1 hz1=>?_;have u1:=aB.new (o:=.tup [cm "post",cf (st.aL[x]:Nat)]) hz1;exists L (.aH (cx st.ls)),52,u1 _ _ apC,BY (by rw[ah,XN];exact bA _),4;obtain⟨X4,Hy⟩:=Fv (X3.mono u1) g (d:=.post st.aL[x]) (dY.of aq);rw[<- gJ g,<- eh,aex] at X4;rw[<- eh] at Hy u1;rw[<- eh];have A:=J.trans ((Step.refl' (F:=F3) u1).trans Hy);have W4:=N.done A X4.cj;generalize upd (upd H3 z1 (.tup [cm "post",cf (st.aL.getD x 0:Nat)])) (L (.aH (cx st.ls))) (.lst ((q3.dq (cx st.ls)).map ci++[.ref z1]))=H4 at X4 A W4;refine m _ _ ?_;have Hi:=X4.own.get .cj _ rfl;rw[X4.hp] at Hi;have amR:Dj ns rs (xu st x f):=⟨ER.wl,ER.w4,ER.fit⟩;refine cy λNx m=>?_;exists 1,p,5,Hi,71,F3,p,tp,ln,lr,ns,rs,xu st x f,o,st.ls.length,st.aL.getD x 0,ae,{tE st x f with aH:=[.post (st.aL.getD x 0)]},D+1,2,W4,amR,FX bd Z,6,xV,λos F5 H5 hO h12 W5 S2=>?_;exact m _ _ ⟨1,k os F5 H5 hO h12 W5 (A.trans S2)⟩
theorem sB(o:dS ns rs){i:Nat}{os:List Nat}(b:Bd (cx ns) (cx rs) D s)(hl:s.ls[i]?=ac l)(O:kT (wc ns rs o s.ws l.grp) (s.R l.grp) os)(m:os.length<=12):Bd (cx ns) (cx rs) (D+45) (VG rs s i h l cH os):=by
 have j:=GM (h:=h) b hl;have f1:=Xj (h:=h) hl;have n:Bd (cx ns) (cx rs) (D+1+1*(tR s l h).length) ((tR s l h).foldl (lY i h) (fR s i h l)):=Ic (λ_=>True) _ _ _ (λs x D _ _ b=>⟨trivial,Xk b⟩) trivial j;have p:Fr (fR s i h l) ((tR s l h).foldl (lY i h) (fR s i h l)):=Em (λ_ _=>P9) _ _;obtain⟨t,a,_⟩:=(f1.trans p).lt i l hl;have y:=(Su (s:=s) (l:=l) (h:=h)).2;have u:=b.xr;have c:=Xl (rs:=rs) (s:=s) (l:=l) (h:=h) (cH:=cH) (os:=os);have v:=c.2;have q:=Ic (k:=2) (f:=rD rs i h) (λs=>i<cx s.ls) (Ss rs s l h cH os) _ _ (λs x D g d b=>⟨by
  obtain⟨w,e,_⟩:=(Qa (rs:=rs) (h:=h) (i:=i) (r:=x) (s:=s)).lt i _ (aa d);exact (ai.mp e).1,GE o b d (Nu O (c.1 x g)).1⟩) (ai.mp a).1 n
 exact q.mono ∅
noncomputable def Hl(l:LS)(cp:Cp)(os:List Nat):Str:=if cp.r∈os then (if LP l cp.h=ag then "twice" else "come") else "lost"
noncomputable def tF(l:LS)(cp:Cp)(os:List Nat):k6:=if cp.r∈os then (if LP l cp.h=ag then .twice cp.h cp.r else .aiM cp.h cp.r) else .aaU cp.h cp.r
theorem ajr{os:List Nat}:(tF l cp os).vs=[.str (Hl l cp os),.int cp.h,.int cp.r]:=by
 unfold tF Hl;split;·split <;> rfl
 rfl
def eA(l:LS)(cp:Cp)(os:List Nat):Bool:=decide (cp.r∈os)&&!LP l cp.h
theorem aey{os:List Nat}:decide (cm (Hl l cp os)=cm "come")=eA l cp os:=by unfold Hl eA;by_cases e:cp.r∈os;rw[b4 e,b6 e];cases LP l cp.h;rw[b5 (!_)];decide +kernel;rw[b4 rfl];decide +kernel;rw[b5 e,c5 e,Bool.false_and];decide +kernel
def Zy(s:NS)(a:Nat):NS:={s with cps:=s.cps.eraseIdx a}
def Zz(s:NS)(g:Nat)(ts:List T3):NS:={s with ts:=fO s.ts g ts}
noncomputable def oV(s:NS)(a:Nat)(cp:Cp)(l:LS)(os:List Nat):NS:={s with cps:=s.cps.eraseIdx a,ls:=s.ls.set cp.l {l with aH:=l.aH++[tF l cp os]}}
noncomputable def eG(s:NS)(a:Nat)(cp:Cp)(l:LS)(os:List Nat)(ts:List T3):NS:=if l.old=ag then oV s a cp l os else Zz (oV s a cp l os) l.grp ts
noncomputable def oq(rs:List R5)(s:NS)(a:Nat)(cp:Cp)(l:LS)(os:List Nat)(ts:List T3):NS:=
 if eA l cp os=ag then VG rs (eG s a cp l os ts) cp.l cp.h {l with aH:=l.aH++[tF l cp os]} (ac cp.r) os else oV s a cp l os
theorem NB{a:Nat}{cp:Cp}{os:List Nat}(b:Bd n m D s)(hl:s.ls[cp.l]?=ac l)(d:a<cx s.cps):Bd n m (D+1) (oV s a cp l os):=by have e:(s.cps.eraseIdx a).length+1=s.cps.length:=(by rw[List.length_eraseIdx,b4 d];lia);refine b.set 1 hl ∅ (.inl ∅) (az _) ?_ (gX _) rfl rfl (λc z=>.inl (List.mem_of_mem_eraseIdx z)) rfl (λw z=>nv (b.hb w z));show (l.aH++[_]).length+_<=_;rw[av];show l.aH.length+1+_<=_;lia
theorem ahd{a:List T3}(p:a.Perm (dE ts h c r)):a.length<=ts.length+1:=by rw[p.length_eq];unfold dE;rw[av];exact tT (bM _ _) 1
theorem ajs{ts:List T3}(b:Bd n m D s)(p:ts.Perm (dE (s.ts g) h c r))(oe:d7 ts):Bd n m (D+50) (Zz s g ts):=by have a:=b.mono (vQ D 50);exists a.gl,a.xr,a.g3,a.hm,a.hl,a.hb,a.ll,a.lb,a.cb,a.cl,λd=>?_;show 50*(fO s.ts g ts d).length<=_/\d7 (fO s.ts g ts d);by_cases z:d=g;subst z;rw[d8];exists 4,oe;have:=ahd p;have:=(b.tb d).1;lia;rw[iB z];exact a.tb d
theorem ND{s:NS}{cp:Cp}{os:List Nat}(hl:s.ls[cp.l]?=ac l):(oV s a cp l os).ls[cp.l]?=ac {l with aH:=l.aH++[tF l cp os]}:=by show (s.ls.set cp.l _)[cp.l]?=_;rw[jI (ai.mp hl).1,b4 rfl]
theorem vO{s:NS}{cp:Cp}{os:List Nat}(hl:s.ls[cp.l]?=ac l):(eG s a cp l os ts).ls[cp.l]?=ac {l with aH:=l.aH++[tF l cp os]}:=by unfold eG;split;exact ND hl;exact ND (a:=a) hl
theorem LR{os:List Nat}:(eG s a cp l os ts).ws=s.ws/\(eG s a cp l os ts).R=s.R/\(eG s a cp l os ts).aL=s.aL/\(eG s a cp l os ts).groups=s.groups:=by unfold eG;split <;> exists 2222
theorem ZA{a:Nat}{cp:Cp}{os:List Nat}{ts:List T3}(b:Bd n m D s)(hl:s.ls[cp.l]?=ac l)(d:a<cx s.cps)(p:ts.Perm (dE (s.ts l.grp) h c r))(oe:d7 ts):Bd n m (D+51) (eG s a cp l os ts):=by unfold eG;split;exact (NB b hl d).mono ∅;exact (ajs (h:=h) (c:=c) (r:=r) (NB b hl d) p oe).mono ∅
theorem ajt(o:dS ns rs){a:Nat}{cp:Cp}{os:List Nat}{ts:List T3}(b:Bd (cx ns) (cx rs) D s)(hl:s.ls[cp.l]?=ac l)(f:a<cx s.cps)(O:kT (wc ns rs o s.ws l.grp) (s.R l.grp) os)(d:os.length<=12)(p:ts.Perm (dE (s.ts l.grp) h c r))(oe:d7 ts):Bd (cx ns) (cx rs) (D+100) (oq rs s a cp l os ts):=by unfold oq;split;have e:=LR (s:=s) (a:=a) (cp:=cp) (l:=l) (os:=os) (ts:=ts);exact (sB o (ZA (h:=h) (c:=c) (r:=r) b hl f p oe) (vO hl) (by rw[e.1,e.2.1];exact O) d).mono ∅;exact (NB b hl f).mono ∅
theorem _root_.TW.gI.erase(h:gI K H qs xs)(a:Nat):gI K H (qs.eraseIdx a) (xs.eraseIdx a):=by exists by rw[List.length_eraseIdx,List.length_eraseIdx,h.len],λi q x c b=>?_;rw[List.getElem?_eraseIdx] at c b;by_cases z:i<a;rw[b4 z] at c b;exact h.at' i q x c b;rw[b5 z] at c b;exact h.at' (i+1) q x c b
theorem NF{b c:Type}(f:b->c):∀(xs:List b)(a:Nat),(xs.map f).eraseIdx a=(xs.eraseIdx a).map f
 |[],_=>rfl
 |_::_,0=>rfl
 |x::xs,a+1=>c6 (f x::·) (NF f xs a)
theorem ahe{c:NC}{H d:Hp}{F:am->Prop}{a m:Role->am}{q:TQ}{p j:am}{n g:Nat}{s:NS}(X:mQ K c H F a m q p j n s)(f:g<3)(ts:List T3)(v:d (a (.g6 g))=ac (.dT (ts.map qU)))(w:∀b o,H b=ac o->b≠a (.g6 g)->d b=ac o) :mQ K c d F a m q p j n (Zz s g ts)/\Step H F d F:=by obtain⟨y,i⟩:=Dk X (r:=.g6 g) (o:=.dT (ts.map qU)) (q':=q) (s':=Zz s g ts) (by show (if g<3 then ac _ else ae)≠ae;rw[b4 f];exact bg _) (λx=>by (cases x <;> first|rfl|skip);rename_i k;show jS (c2 c m j a q s) (.g6 g) _ (.g6 k)=(if k<3 then ac (HO.dT ((fO s.ts g ts k).map qU)) else ae);by_cases z:k=g;subst z;rw[fh,b4 f,d8];rw[cV (λe=>z (by cases e;rfl)),iB z];rfl) (λh=>⟨λg f=>(X.tup.rows g f).mono h,λk l e=>(X.tup.aH k l e).mono h,X.tup.cps.mono h⟩);have t:aB (upd H (a (.g6 g)) (.dT (ts.map qU))) d:=λb u e=>(by by_cases z:b=a (.g6 g);rw[z,aq] at e;cases e;rw[z];exact v;rw[aI z] at e;exact w b u e z);exists y.mono t,i.trans (Step.refl' t)
theorem aju{t:Ad}(T:Txt K mg w t){b a:Role->am}{f:L2.St}{H:Hp}{Q:VK}{i:Nat}{l:LS}(h:∀Q:VK,Q (.ref (a (.cC i))) H->E7 6 f H Q)(g:H (a (.cC i))=ac (qV (nc t) b a i l))(c:H (a (.letter i))=ac (xE (nc t) (b (.letter i)) l))(q:Q (.int l.s) H) :Qo K (Qo K (E7 6) (a8 "letter")) (a8 "sender") f H Q:=by by_cases e:l.kd=1;have d:H (a (.letter i))=ac (.ins t.iU (b (.letter i)) [("sender",.int l.s),("to",.int l.to)]):=(by rw[c];unfold xE;rw[b4 e]);unfold Qo;exact (h _ ⟨a (.cC i),9,g,T.eE,T.jM,2,a (.letter i),_,b (.letter i),5,d,T.vm,T.y9,2,q⟩);have d:H (a (.letter i))=ac (.ins t.lg (b (.letter i)) [("sender",.int l.s)]):=(by rw[c];unfold xE;rw[b5 e]);unfold Qo;exact (h _ ⟨a (.cC i),9,g,T.eE,T.jM,2,a (.letter i),_,b (.letter i),5,d,T.DL,T.sW,2,q⟩)
inductive FS(K:af)(CT:am)(c:NC)(vs:List V)(H:Hp)(Q:VK)(E:XK):Prop
 |mk(F:am->Prop)(p tp ln lr:am)(ns:List Int)(rs:List R5)(s:NS)(o:dS ns rs)(a D:Nat)(cp:Cp)(l:LS):vs=[.ref p,.int a]->NW K c CT H F p tp ln lr ns rs s->Dj ns rs s->Bd (cx ns) (cx rs) D s->D<=400000->s.cps[a]?=ac cp->s.ls[cp.l]?=ac l->(∀os ts F' H',kT (wc ns rs o s.ws l.grp) (s.R l.grp) os->os.length<=12->ts.Perm (dE (s.ts l.grp) cp.h l.s cp.r)->d7 ts->NW K c CT H' F' p tp ln lr ns rs (oq rs s a cp l os ts)->Step H F H' F'->Q (.str (Hl l cp os)) H')->FS K CT c vs H Q E
theorem Ho(T:Txt K mg w t):bu P w K mg base iJ 8 t.gD t.qf ["self","at"] (FS K t.aK (nc t)):=by refine T.mJ.jB iL λH Q E hr h=>?_;·obtain⟨F,p,Z,ln,lr,ns,A,st,o,a,D,cp,l,rfl,N,J,bd,hD,hcp,g,k⟩:=h;exists _,(aj (bY (g9 (fG jm kR aC (pv 1) (lS T.gM (aU (pv 0) rfl)))) bP bq) (aj (sS 2 iL (mX bR PySem.F.slot_list_pop PySem.F.type_list_pop afr (aU (pv 0) rfl) (dg (pv 1)))) (aj (sS 3 iL (xT (pv 2) aC)) (aj (sS 4 iL (xT (pv 2) aC)) (aj (sS 5 iL (xT (pv 2) aC)) (aj (sS 6 iL (xL (aU (pv 0) rfl) (pv 3))) (aj (sS 7 iL (cM (pv 0) T.aW T.IU (Sq T) hr (KO (pv 6) (pv 4) (pv 5)))) (aj (cP (mX bR bX bW gQ (aU (pv 6) rfl) (dg (bE (KO (pv 7) (pv 5) (pv 4)))))) (aj (bY (qT xj (pv 7) au) (aj (bY (g9 (j3 (aU (pv 6) rfl))) (oE (cM (xL (aU (pv 0) rfl) (aU (pv 6) rfl)) T.JZ T.Lg (Uj T) hr (KO (pv 5) (aU (aU (pv 6) rfl) rfl) (pv 4)))) bq) (oE (cM (pv 0) T.aW T.wC (C6 T) hr (KO (pv 3) (pv 5) (pv 4))))) bq) (oR (pv 7))))))))))),4;left;obtain⟨b,I,q,hp,O,hF,hT⟩:=id N.cj;have X:mQ K (nc t) H F b I q p Z (cx ns) st:=⟨hp,O,hF,hT⟩;have aV:=O.get .cj _ rfl;rw[hp] at aV;have S:=(ai.mp hcp).1;have hil:=(ai.mp g).1;have hcb:=bd.cb;obtain⟨lb1,lb2,U,lkd⟩:=bd.lb l (aQ g);obtain⟨ts,ets,C,y⟩:=aaP (h:=(cp.h:Int)) (c:=(l.s:Int)) (r:=(cp.r:Int)) (List.Perm.refl (st.ts l.grp)) (bd.tb l.grp).2;have G:=O.get .fJ _ rfl;have M:q.cq.length=st.cps.length:=(by have z:=hT.cps.len;rw[ah] at z;exact z);have haq:a<q.cq.length:=∅;refine cy λB f=>?_;exists 1574;rw[b6 (show (0:Int)<=(a:Int) by lia)];refine cS ⟨1,p,9,aV,T.aW,T.jY,2,b .fJ,1,.inl (bH.of G),574⟩;rw[ah,M,b6 (show (a:Int)<(st.cps.length:Int) by lia)];refine dh (f _ _ ?_);refine cy λB f=>?_;exists 1,p,9,aV,T.aW,T.jY,2,.inl ⟨23,bH.of G⟩,1,b .fJ,_,a,a,12,G,66,(V6 (by rw[ah,M];exact KZ S)).1,(by rw[ak,aa haq];rfl),4;have htu:dY K H q.cq[a] cp.vs:=hT.cps.at' a _ _ (aa haq) (by rw[ak,hcp];rfl);obtain⟨u,n⟩:=Bn X (qs:=q.cq.eraseIdx a) (cps:=st.cps.eraseIdx a) (by rw[<- NF];exact hT.cps.erase a);rw[NF];have j:dY K _ q.cq[a] cp.vs:=N.cj.tup n.kp htu;generalize upd H (b .fJ) (.lst ((q.cq.eraseIdx a).map ci))=H1 at u n j;generalize q.cq[a]=qa at j;refine f _ _ ?_;have es:{st with cps:=st.cps.eraseIdx a}=Zy st a:=rfl;rw[es] at u;have Nv:(Zy st a).ls[cp.l]?=ac l:=g;have N1:=N.done n u.cj;have jE:=u.own.get .cj _ rfl;rw[u.hp] at jE;have apD:=u.own.get (.cC cp.l) (qV (nc t) I b cp.l l) (by show ((Zy st a).ls[cp.l]?.map _)=_;rw[Nv];rfl);refine cy λB f=>?_;exists 1,qa,_,(0),12,j,2,f _ _ ?_;refine cy λB f=>?_;exists 1,qa,_,(1),12,j,2,f _ _ ?_;refine cy λB f=>?_;exists 1,qa,_,(3),12,j,2,f _ _ ?_;refine cy λB f=>?_;exists 1,p,9,jE,T.aW,T.eX,7,b .cJ,8,bH.of (u.own.get .cJ _ rfl),tY hil,f _ _ ?_;have aew:Dj ns A (Zy st a):=⟨J.wl,J.w4,J.fit⟩;refine cy λB f=>?_;exists 1,p,5,jE,737,F,b,I,_,p,Z,ln,lr,ns,A,Zy st a,o,cp.l,cp.r,cp.h,l,2,u,N1,aew,Nv,U,λos H2 s2 hO h12=>?_;have ef:(if cp.r∈os then (if LP l cp.h=ag then "twice" else "come") else "lost" : Str)=Hl l cp os:=rfl;rw[ef];refine f _ _ ?_;have k:=k os ts;have X2:=u.mono s2;have apE:=s2 _ _ apD;have L:=X2.own.get (.aH cp.l) (.lst ((q.dq cp.l).map ci)) (by show ((Zy st a).ls[cp.l]?.map _)=_;rw[Nv];rfl);have XN:=(X2.tup.aH cp.l _ Nv).len;rw[ah] at XN;have XN:(q.dq cp.l).length=l.aH.length:=XN;refine cy λB f=>?_;exists 1,b (.cC cp.l),9,apE,T.eE,T.jv,2,.inl ⟨23,bH.of L⟩,137,ft,λz1 hz1=>?_;have u1:=aB.new (o:=.tup [cm (Hl l cp os),cf cp.h,cf cp.r]) hz1;exists b (.aH cp.l),52,u1 _ _ L,BY (by rw[ah,XN];lia),4;obtain⟨i,st3⟩:=Fv (X2.mono u1) Nv (d:=tF l cp os) (by rw[ajr];exact dY.of aq);have m:=(n.trans (Step.refl' (F:=F) (s2.trans u1))).trans st3;generalize upd (upd H2 z1 (.tup [cm (Hl l cp os),cf cp.h,cf cp.r])) (b (.aH cp.l)) (.lst ((q.dq cp.l).map ci++[.ref z1]))=H3 at i m;refine f _ _ ?_;have es:{Zy st a with ls:=(Zy st a).ls.set cp.l {l with aH:=l.aH++[tF l cp os]}}=oV st a cp l os:=rfl;rw[es] at i;have LO:=i.own.get .cj _ rfl;rw[i.hp] at LO;have ajq:=ND (a:=a) (os:=os) g;have x:=i.own.get (.cC cp.l) (qV (nc t) I b cp.l {l with aH:=l.aH++[tF l cp os]}) (by show ((oV st a cp l os).ls[cp.l]?.map _)=_;rw[ajq];rfl);have as1:=i.own.get (.letter cp.l) (xE (nc t) (I (.letter cp.l)) {l with aH:=l.aH++[tF l cp os]}) (by show ((oV st a cp l os).ls[cp.l]?.map _)=_;rw[ajq];rfl);have N3:=N.done m i.cj;exists 174;rw[aey];by_cases e:eA l cp os=ag;(have k:∀F' H',NW K (nc t) t.aK H' F' p Z ln lr ns A (VG A (eG st a cp l os ts) cp.l cp.h {l with aH:=l.aH++[tF l cp os]} (ac cp.r) os)->Step H F H' F'->Q (.str (Hl l cp os)) H':=λF' H' W z=>k F' H' hO h12 C y (by unfold oq;rw[b4 e];exact W) z;rw[e];refine cS ?_;refine Wi (λσ H4=>mQ K (nc t) H4 F b I {q with cq:=q.cq.eraseIdx a,dq:=fO q.dq cp.l (q.dq cp.l++[z1])} p Z (cx ns) (eG st a cp l os ts)/\Step H F H4 F/\σ=[ac (.ref p),ac (.int a),ac (.ref qa),ac (.int cp.l),ac (.int cp.r),ac (.int cp.h),ac (.ref (b (.cC cp.l))),ac (.str (Hl l cp os))]) ?_ (λN' hN=>?_);rintro σ H4 ⟨Y,Hy,rfl⟩;have Hi:=Y.own.get .cj _ rfl;rw[Y.hp] at Hi;have ew:=LR (s:=st) (a:=a) (cp:=cp) (l:=l) (os:=os) (ts:=ts);have amR:Dj ns A (eG st a cp l os ts):=⟨by rw[ew.1];exact J.wl,by rw[ew.1];exact J.w4,by rw[ew.2.1];exact J.fit⟩;exists 1,p,5,Hi,737,F,p,Z,ln,lr,ns,A,eG st a cp l os ts,o,cp.l,cp.h,ac cp.r,{l with aH:=l.aH++[tF l cp os]},D+51,2,N.done Hy Y.cj,amR,ZA bd g S C y,6,vO g,λos' F5 H5 v _ W5 S2=>?_;have v:kT (wc ns A o (eG st a cp l os ts).ws l.grp) ((eG st a cp l os ts).R l.grp) os':=v;rw[ew.1,ew.2.1] at v;rw[v.uniq hO] at W5;exists 1,k F5 H5 W5 (Hy.trans S2);exists 1,b (.cC cp.l),9,x,T.eE,T.DM,74;cases eo:l.old with|true=>refine dh ?_;refine hN _ _ ⟨4,m,2⟩;unfold eG;rw[b4 eo];exact i|false=>refine cS ?_;exists 1,p,9,LO,T.aW,T.Ak,7,b (.cC cp.l),9,x,T.eE,T.nX,2,b .mP,8,bH.of (i.own.get .mP _ rfl),tY U,b (.book l.grp),I (.book l.grp),1,i.own.get (.book l.grp) _ (b4 U),74;refine aju T (λQ q=>⟨1,q⟩) x as1 ?_;exists 1,b (.book l.grp),b (.g6 l.grp),st.ts l.grp,cp.h,l.s,cp.r,2,i.own.aaW U,4,λH4 h4 kp4=>?_;have:=(bd.tb l.grp).1;lia;rw[ets] at h4;obtain⟨Y,Hy⟩:=ahe i U ts h4 kp4;refine hN _ _ ⟨4,m.trans Hy,2⟩;unfold eG;rw[b5 (by rw[eo];decide)];exact Y);have e':eA l cp os=al:=(by simpa using e);rw[e'];refine dh ?_;exists 1,k F H3 hO h12 C y ?_ m;unfold oq;rw[e',b5 (!_)];exact N3
end
section
inductive Rw(rs:List R5)(os:List Nat)(r0:Nat)(x:Nat):Nat->Prop
 |refl:Rw rs os r0 x x
 |step {y r:Nat} (t:Rw rs os r0 x y) (hr:r∈os) (ne:r≠r0) (ha:de rs (y:Int) r=ag):Rw rs os r0 x (Nt rs r y)
inductive Ds(N:RM.Net)(R:Nat->RM.Row)(c:Nat):Nat->Prop
 |self:Ds N R c c
 |on {r x y:Nat} (t:RM.tV N R r x y) (d:Ds N R c y):Ds N R c x
theorem Ds.rank(d:Ds N R c x):(R c).ho<=(R x).ho:=by induction d with|self=>exact Int.le_refl _|on t _ a=>have:=t.ho;lia
variable{ns:List Int}{rs:List R5}{os:List Nat}{live:List Nat}{nd:ns.Nodup}{ok:∀r∈rs,r.Ok ns.length}{hl:∀k∈live,k<cx rs}{R:Nat->RM.Row}
theorem mM{r x:Nat}(a:r∈live)(b:de rs (x:Int) r=ag):RM.PX (bz ns rs live nd ok hl) r x (Nt rs r x):=by refine (zT a).mpr ⟨b,4⟩;unfold Nt;rw[aa (hl r a)]
theorem FR(e:RM.PX N r a b)(f:RM.PX N r x y):(a=x/\b=y)∨(a=y/\b=x):=by rcases e.2 with ⟨d,c⟩|⟨d,c⟩ <;> rcases f.2 with ⟨g,h⟩|⟨g,h⟩ <;> lia
theorem FM(O:kT (bz ns rs live nd ok hl) R os)(g:RM.tV (bz ns rs live nd ok hl) R r0 c p){r:Nat}(i:r∈os)(h:r≠r0)(f:RM.PX (bz ns rs live nd ok hl) r y z)(d:Ds (bz ns rs live nd ok hl) R c y):Ds (bz ns rs live nd ok hl) R c z:=by
 obtain⟨a,b,t⟩:=(O.2 r).mp i;rcases FR t.Hz f with ⟨rfl,rfl⟩|⟨rfl,rfl⟩;cases d with|self=>exact b3 (t.uniq g).1 h|on j e=>obtain⟨_,rfl⟩:=t.uniq j;exact e
 exact .on t d
theorem ajv(O:kT (bz ns rs live nd ok hl) R os){r x:Nat}(f:r∈os)(g:de rs (x:Int) r=ag):¬Rw rs os r x (Nt rs r x):=by intro t;obtain⟨c,p,i⟩:=(O.2 r).mp f;have m:∀k∈os,k∈live:=λk s=>(by obtain⟨a,b,t⟩:=(O.2 k).mp s;exact t.Hz.1);have o:∀{y z:Nat},Rw rs os r y z->Ds (bz ns rs live nd ok hl) R c y->Ds (bz ns rs live nd ok hl) R c z:=λ{y z}t=>(by induction t with|refl=>exact id|step t f j g l=>exact λd=>FM O i f j (mM (m _ f) g) (l d));have h:∀{y z:Nat},Rw rs os r y z->Ds (bz ns rs live nd ok hl) R c z->Ds (bz ns rs live nd ok hl) R c y:=λ{y z}t=>(by induction t with|refl=>exact id|step t f j g l=>exact λd=>l (FM O i f j (mM (m _ f) g).symm d));have e:=i.ho;rcases FR i.Hz (mM (m r f) g) with ⟨rfl,n⟩|⟨q,rfl⟩;have:=(o t .self).rank;rw[<- n] at this;lia;have:=(h t (q▸.self)).rank;lia
end
section
variable{P:bv}{w:World}{K:af}{mg:Str->Option ap}{base:Heap}
inductive ZC(K:af)(c:NC)(vs:List V)(H:Hp)(Q:VK)(E:XK):Prop
 |mk(F:am->Prop)(p tp:am)(n i:Nat)(s:NS)(l:LS):vs=[.ref p,.int i]->dH K c H F p tp n s->s.ls[i]?=ac l->(∀a(qs:List am)H',aB H H'->H a=ae->H' a=ac (.lst (qs.map ci))->gI K H' qs (l.aH.map k6.vs)->Q (.ref a) H')->ZC K c vs H Q E
theorem Xm(T:Txt K mg w t):bu P w K mg base iJ 1 t.qZ t.vI ["self","letter"] (ZC K (nc t)):=by refine T.vJ.F.jB K9 λH Q E B h=>?_;·obtain⟨F,p,z,n,i,st,l,rfl,N,e,k⟩:=h;exists _,(aj (bY (g9 (fG jm kR aC (pv 1) (lS T.gM (aU (pv 0) rfl)))) bP bq) (oR (eK kY (by rfl) T.Gp boot_list (dg (aU (xL (aU (pv 0) rfl) (pv 1)) rfl))))),4;left;obtain⟨c,s,q,y,O,A,r⟩:=id N;have f:=O.get .cj _ rfl;rw[y] at f;have j:=(ai.mp e).1;have d:=O.get .cJ _ rfl;have v:=O.get (.cC i) (qV (nc t) s c i l) (by show (st.ls[i]?.map _)=_;rw[e];rfl);have g:=O.get (.aH i) (.lst ((q.dq i).map ci)) (by show (st.ls[i]?.map _)=_;rw[e];rfl);exists 1574;rw[b6 (show (0:Int)<=(i:Int) by lia)];refine cS ⟨1,p,9,f,T.aW,T.eX,2,c .cJ,1,.inl (bH.of d),574⟩;rw[ah,bI,b6 (show (i:Int)<(st.ls.length:Int) by lia)];refine dh ?_;exists 1,p,9,f,T.aW,T.eX,7,c .cJ,8,bH.of d,tY j,c (.cC i),9,v,T.eE,T.jv,2,c (.aH i),1,.inl (bH.of g),λa m=>?_;have u:=aB.new (o:=.lst ((q.dq i).map ci)) m;exact k a (q.dq i) _ u m aq ((r.aH i l e).mono λb x=>u.iA)
noncomputable def dW:k6->Str
 |.post _=>"post"
 |.aiM _ _=>"come"
 |.hand _ _=>"hand"
 |.send _ _ _=>"send"
 |.twice _ _=>"twice"
 |.aaU _ _=>"lost"
noncomputable def dI:k6->List Int
 |.post h=>[h]
 |.aiM h r=>[h,r]
 |.hand h c=>[h,c]
 |.send h r w=>[h,r,w]
 |.twice h r=>[h,r]
 |.aaU h r=>[h,r]
theorem Xn(d:k6):d.vs=.str (dW d)::(dI d).map cf:=by cases d <;> rfl
end
section
structure Fo(ns:List Int)(rs:List R5)(os:List Nat):Prop where
 lt:∀r∈os,r<cx rs
 ok:∀r∈rs,r.Ok (cx ns)
 cut:∀r∈os,∀x:Nat,de rs (x:Int) r=ag->¬Rw rs os r x (Nt rs r x)
 ri:os.Pairwise (·<·)
variable{ns:List Int}{rs:List R5}{os:List Nat}
def Fo.of{live:List Nat}{nd:ns.Nodup}{ok:∀r∈rs,r.Ok ns.length}{hl:∀k∈live,k<cx rs}{R:Nat->RM.Row}(O:kT (bz ns rs live nd ok hl) R os):Fo ns rs os:=⟨QB O,ok,λ_ b _ a=>ajv O b a,O.1⟩
variable{f:Nat}{D Pn A B:List En}{e:En}
end
section
variable{ns:List Int}{rs:List R5}{os:List Nat}{s:NS}{l:LS}{i h:Nat}
theorem ZD:∀(cs:List Nat)(s:NS)(l:LS),s.ls[i]?=ac l->∃had,cs.foldl (lY i h) s={s with had:=had,ls:=s.ls.set i {l with aH:=l.aH++cs.map (k6.hand h)}}
 |[],s,l,e=>⟨s.had,by
  show s={s with had:=s.had,ls:=s.ls.set i {l with aH:=l.aH++[]}};rw[fF,yu e]⟩
 |c::cs,s,l,e=>by
  have b:=(ai.mp e).1;have d:(wZ s i c).ls[i]?=ac l:=e;have a:lY i h s c={s with had:=s.had.set c (s.had.getD c []++[i]),ls:=s.ls.set i {l with aH:=l.aH++[.hand h c]}}:=by
   unfold lY;rw[gJ d];rfl
  obtain⟨had,f⟩:=ZD cs (lY i h s c) {l with aH:=l.aH++[.hand h c]} (by rw[a];show (s.ls.set i _)[i]?=_;rw[jI b,b4 rfl]);exists had,4;rw[gF,f,a];show {s with had:=had,ls:=(s.ls.set i _).set i _}=_;rw[List.set_set];simp only[kg,bL];rfl
theorem ZE:∀(a:List Nat)(s:NS)(l:LS),s.ls[i]?=ac l->a.foldl (rD rs i h) s={s with cps:=s.cps++a.map λr=>⟨i,r,tQ s.ws r (vN l),Nt rs r h⟩,ls:=s.ls.set i {l with aH:=l.aH++a.map λr=>.send h r (tQ s.ws r (vN l))}}
 |[],s,l,e=>by
  show s={s with cps:=s.cps++[],ls:=s.ls.set i {l with aH:=l.aH++[]}};rw[fF,fF,yu e]
 |r::a,s,l,e=>by
  have c:=(ai.mp e).1;have d:fA s i=vN l:=by unfold fA;rw[e]
  have b:rD rs i h s r={s with cps:=s.cps++[⟨i,r,tQ s.ws r (vN l),Nt rs r h⟩],ls:=s.ls.set i {l with aH:=l.aH++[.send h r (tQ s.ws r (vN l))]}}:=by
   unfold rD VE;rw[gJ e,d]
  rw[gF,ZE a (rD rs i h s r) {l with aH:=l.aH++[.send h r (tQ s.ws r (vN l))]} (by rw[b];show (s.ls.set i _)[i]?=_;rw[jI c,b4 rfl]),b];show {s with cps:=_,ls:=(s.ls.set i _).set i _}=_;rw[List.set_set];simp only[kg,bL];rfl
theorem ZF(e:s.ls[i]?=ac l):∃had,VG rs s i h l cH os={s with had:=had,cps:=s.cps++(Ss rs s l h cH os).map λr=>⟨i,r,tQ s.ws r (vN l),Nt rs r h⟩,ls:=s.ls.set i {l with done:=tP l.done h,aH:=l.aH++((tR s l h).map (k6.hand h)++(Ss rs s l h cH os).map λr=>.send h r (tQ s.ws r (vN l)))}}:=by have a:=(ai.mp e).1;unfold VG;have c:(fR s i h l).ls[i]?=ac {l with done:=tP l.done h}:=(by show (s.ls.set i _)[i]?=_;rw[jI a,b4 rfl]);obtain⟨had,b⟩:=ZD (h:=h) (tR s l h) (fR s i h l) _ c;exists had,4;rw[b,ZE _ _ {l with done:=tP l.done h,aH:=l.aH++(tR s l h).map (k6.hand h)} (by show ((s.ls.set i _).set i _)[i]?=_;rw[jI (by rw[bC];exact a),b4 rfl])];show {s with had:=had,cps:=_,ls:=((s.ls.set i _).set i _).set i _}=_;rw[List.set_set,List.set_set];simp only[kg];rfl
theorem ahg{ds:List Nat}{h:Nat}{l:LS}(e:l.done=ds):LP l h=decide (h∈ds):=by unfold LP;rw[e];clear e;induction ds with|nil=>rfl|cons d ds a=>rw[bL];by_cases z:d=h;subst z;rw[Fe rfl];simp;rw[Ff (λe=>z (by have:=Sum.inl.inj e;lia)),a];have:¬h=d:=λe=>z e.symm;simp[this]
end
section
def S7(rs:List R5)(h:Nat):Nat:=((ay (cx rs)).filter (de rs h)).length
noncomputable def ET(n:Nat)(rs:List R5)(done:List Nat):Nat:=(((ay n).filter λh=>!decide (h∈done)).map (S7 rs)).sum
def Ph(n:Nat)(rs:List R5)(s:NS):Nat:=s.cps.length+(s.ls.map λl=>ET n rs l.done).sum
theorem sum_set{b:Type}{f:b->Nat}:∀{xs:List b}{i:Nat}{x:b}(y:b),xs[i]?=ac x->((xs.set i y).map f).sum+f x=(xs.map f).sum+f y
 |[],_,_,_,h=>by cases h
 |a::xs,0,x,y,h=>by
  cases h;show f y+(xs.map f).sum+f a=f a+(xs.map f).sum+f y;lia
 |a::xs,i+1,x,y,h=>by
  have:=sum_set (f:=f) (xs:=xs) (i:=i) y h
  show f a+((xs.set i y).map f).sum+f x=f a+(xs.map f).sum+f y;lia
theorem ZG{f:Nat->Nat}{d:List Nat}{h:Nat}(b:h∉d):∀{L:List Nat},L.Nodup->(((L.filter λk=>!decide (k∈d++[h])).map f).sum+if h∈L then f h else 0)=((L.filter λk=>!decide (k∈d)).map f).sum
 |[],_=>rfl
 |a::L,nd=>by
  obtain⟨g,i⟩:=kj.mp nd;have c:=ZG (f:=f) b i;by_cases z:a=h
  ·subst z
   rw[b5 g] at c;rw[b4 aP,dw (-_),dm (by simp[b]),bL,oY];lia
  ·have e:(if h∈a::L then f h else 0)=(if h∈L then f h else 0):=by
    have q:¬h=a:=λy=>z y.symm;simp[q]
   rw[e];by_cases y:a∈d
   ·rw[dw (by simp[y]),dw (by simp[y])]
    exact c
   ·rw[dm (by simp[y,z]),dm (by simp[y]),bL,bL,oY,oY]
    lia
theorem VI{n:Nat}{d:List Nat}{h:Nat}(b:h<n)(a:h∉d):ET n rs (tP d h)+S7 rs h=ET n rs d:=by unfold ET tP;rw[b5 a];have:=ZG (f:=S7 rs) a (List.nodup_range (n:=n));rw[b4 (dO.mpr b)] at this;exact this
theorem amU:((ay n).filter λh:Nat=>de rs (h:Int) k).length<=2:=by cases e:rs[k]? with|none=>have:((ay n).filter λh:Nat=>de rs (h:Int) k)=[]:=List.filter_eq_nil_iff.mpr λh _=>(by unfold de;rw[e];exact aN);rw[this];decide|some r=>have:=Gr.Mn (B:=[r.a.toNat,r.b.toNat]) (List.Nodup.sublist (l₁:=(ay n).filter λh:Nat=>de rs (h:Int) k) List.filter_sublist List.nodup_range) λx c=>(by have c:=(cQ.mp c).2;unfold de at c;rw[e] at c;have c:(decide ((x:Int)=r.a) || decide ((x:Int)=r.b))=ag:=c;rw[Bool.or_eq_true,decide_eq_true_iff,decide_eq_true_iff] at c;rcases c with z|z;rw[<- z];simp;rw[<- z];simp);exact this
theorem ZH{n:Nat}{p:Nat->Nat->Bool}:∀m,((ay n).map λh=>((ay m).filter (p h)).length).sum=((ay m).map λk=>((ay n).filter λh=>p h k).length).sum
 |0=>by
  show ((ay n).map λh=>0).sum=0;generalize ay n=L;induction L with
  |nil=>rfl
  |cons a L b=>rw[bL,oY,b];rfl
 |m+1=>by
  rw[iK,bx,List.sum_append,<- ZH m];show _=_+(((ay n).filter λh=>p h m).length+0);generalize ay n=L;induction L with
  |nil=>rfl
  |cons a L b=>
   rw[bL,bL,oY,oY,b,gp,av];by_cases z:p a m=ag
   ·rw[dm z,dm (p:=λh=>p h m) z,bU,bU,List.filter_nil,List.length_nil]
    lia
   ·rw[dw z,dw (p:=λh=>p h m) z,List.filter_nil,List.length_nil]
    lia
theorem ajw:((ay n).map (S7 rs)).sum<=2*cx rs:=by have e:((ay n).map (S7 rs)).sum=_:=ZH (n:=n) (p:=λh k=>de rs (h:Int) k) (cx rs);rw[e];generalize rs.length=m;induction m with|zero=>exact az _|succ m a=>rw[iK,bx,List.sum_append];have:((ay n).filter λh:Nat=>de rs (h:Int) m).length<=2:=amU;show _+(((ay n).filter λh:Nat=>de rs (h:Int) m).length+0)<=_;lia
theorem wa{os:List Nat}(F:Fo ns rs os):(Ss rs s l h cH os).length<=S7 rs h:=by unfold Ss S7;rw[ah];refine aE Qc.2 ?_;rw[ah];exact Gr.Mn (List.Nodup.sublist List.filter_sublist (F.ri.imp λh=>bB h)) λx a=>cQ.mpr ⟨dO.mpr (F.lt x (cQ.mp a).1),(cQ.mp a).2⟩
theorem FK{os:List Nat}(F:Fo ns rs os){s:NS}(f:s.aL.getD x 0<cx ns):Ph (cx ns) rs (Aq rs s x to os)<=Ph (cx ns) rs s+2*cx rs:=by unfold Aq;obtain⟨g,c⟩:=ZF (rs:=rs) (os:=os) (h:=s.aL.getD x 0) (cH:=ae) (s:=xu s x to) (i:=s.ls.length) (l:={tE s x to with aH:=[.post (s.aL.getD x 0)]}) xV;rw[c];have e:=wa (s:=xu s x to) (l:={tE s x to with aH:=[.post (s.aL.getD x 0)]}) (h:=s.aL.getD x 0) (cH:=ae) F;generalize Ss rs (xu s x to) _ _ _ os=gs at e;have b:∀a,(xu s x to).ls.set (cx s.ls) a=s.ls++[a]:=λa=>(by show (s.ls++[_]).set (cx s.ls) a=_;rw[List.set_append_right _ _ (az _),lF];rfl);unfold Ph;rw[b];show (s.cps++_).length+((s.ls++[_]).map _).sum<=_;rw[av,ah,bx,List.sum_append];show s.cps.length+gs.length+(_+(ET (cx ns) rs (tP [] (s.aL.getD x 0))+0))<=_;have k:=VI (rs:=rs) (d:=[]) f (-_);have j:ET (cx ns) rs []<=2*cx rs:=(by unfold ET;rw[List.filter_eq_self.mpr (-_)];exact ajw);lia
theorem ajx{os:List Nat}(F:Fo ns rs os){s:NS}{a:Nat}(g:s.cps[a]?=ac cp)(hl:s.ls[cp.l]?=ac l)(u:cp.h<cx ns):Ph (cx ns) rs (oq rs s a cp l os ts)+1<=Ph (cx ns) rs s:=by
 have q:=(ai.mp hl).1;have c:=(ai.mp g).1;have w:(s.cps.eraseIdx a).length+1=s.cps.length:=(by rw[List.length_eraseIdx,b4 c];lia);have k:∀b,((oV s a cp l b).ls.map λl=>ET (cx ns) rs l.done).sum=(s.ls.map λl=>ET (cx ns) rs l.done).sum:=λb=>(by have:=sum_set (f:=λl:LS=>ET (cx ns) rs l.done) {l with aH:=l.aH++[tF l cp b]} hl;show ((s.ls.set cp.l _).map _).sum=_;simp only at this;lia);unfold oq;split;·rename_i i;have e:cp.h∉l.done:=λz=>(by unfold eA at i;rw[ahg rfl,b6 z] at i;simp at i);obtain⟨v,m⟩:=ZF (rs:=rs) (os:=os) (h:=cp.h) (cH:=ac cp.r) (vO (a:=a) (os:=os) (ts:=ts) hl);rw[m];have n:=wa (s:=eG s a cp l os ts) (l:={l with aH:=l.aH++[tF l cp os]}) (h:=cp.h) (cH:=ac cp.r) F;generalize Ss rs (eG s a cp l os ts) _ _ _ os=gs at n;have o:(eG s a cp l os ts).cps=s.cps.eraseIdx a:=(by unfold eG;split <;> rfl);have p:(eG s a cp l os ts).ls=s.ls.set cp.l {l with aH:=l.aH++[tF l cp os]}:=(by unfold eG;split <;> rfl);unfold Ph;(try dsimp only);rw[o,p,List.set_set,av,ah];have x:=VI (rs:=rs) (d:=l.done) u e;have j:=λy=>sum_set (f:=λl:LS=>ET (cx ns) rs l.done) y hl;have t:=j {l with done:=tP l.done cp.h,aH:=l.aH++[tF l cp os]++((tR (eG s a cp l os ts) {l with aH:=l.aH++[tF l cp os]} cp.h).map (k6.hand cp.h)++gs.map λr=>.send cp.h r (tQ (eG s a cp l os ts).ws r (vN {l with aH:=l.aH++[tF l cp os]})))};dsimp only at t;lia
 unfold Ph;rw[k];show (s.cps.eraseIdx a).length+_+1<=_;lia
structure SD(ns:List Int)(rs:List R5)(bs:List (List Bool))(cl:List (Nat×Nat))(D:Nat)(s:NS):Prop where
 ok:Dj ns rs s
 bd:Bd (cx ns) (cx rs) D s
 ws:s.ws=bs.map c4
 fit:Fit rs bs
 hm:s.aL=cl.map (·.1)
 gr:s.groups=cl.map (·.2)
variable{ns:List Int}{rs:List R5}{bs:List (List Bool)}{cl:List (Nat×Nat)}{D:Nat}{s:NS}
theorem ajy(b:Bd n m D s):Bd n m D (C5 s g):=by exists b.gl,b.xr,b.g3,b.hm,b.hl,b.hb,by show (s.ls.map _).length<=D;rw[ah];exact b.ll,λl z=>?_,b.cb,λc z=>by show c.l<(s.ls.map _).length/\_;rw[ah];exact b.cl c z,λa=>?_;obtain⟨d,e,rfl⟩:=aF.mp z;unfold Hh;split;exact b.lb d e;exact b.lb d e;show 50*(fO s.ts g [] a).length<=D/\d7 (fO s.ts g [] a);by_cases z:a=g;subst z;rw[d8];exists bA _,mO;rw[iB z];exact b.tb a
def SD.news(h:SD ns rs bs cl D s)(g:Nat):SD ns rs bs cl D (C5 s g):=⟨⟨h.ok.wl,h.ok.w4,h.ok.fit⟩,ajy h.bd,h.ws,h.fit,h.hm,h.gr⟩
theorem SD.je(h:SD ns rs bs cl D s)(e:Int):∀m,SD ns rs bs cl D (je s e m)
 |0=>h
 |m+1=>by
  rw[lB];split
  ·exact (h.je e m).news m
  ·exact h.je e m
theorem SD.call(h:SD ns rs bs cl D s)(c:Ay (cx ns) (cx rs) d):SD ns rs bs cl D (tO s g x d):=by unfold tO;split;exact h;refine SD.news (s:={s with R:=fO s.R g (RM.upd (s.R g) x d)}) ⟨⟨h.ok.wl,h.ok.w4,λk a=>?_⟩,⟨h.bd.gl,h.bd.xr,h.bd.g3,h.bd.hm,h.bd.hl,h.bd.hb,h.bd.ll,h.bd.lb,h.bd.cb,h.bd.cl,h.bd.tb⟩,h.ws,h.fit,h.hm,h.gr⟩ g;show AA _ _ (fO s.R g (RM.upd (s.R g) x d) k);by_cases z:k=g;subst z;rw[d8];intro i b;unfold RM.upd;split;exact c;exact h.ok.fit k a i b;rw[iB z];exact h.ok.fit k a
theorem SD.move{x y:Nat}(h:SD ns rs bs cl D s)(c:x<cl.length)(f:y<cx ns):SD ns rs bs (cl.set x (y,cl[x].2)) D (zM s x y):=by have d:x<s.aL.length:=(by rw[h.hm,ah];exact c);have a:(cl.set x (y,cl[x].2)).map (·.2)=cl.map (·.2):=(by rw[rH];refine yu ?_;rw[ak,aa c];rfl);unfold zM;split;rename_i e;refine⟨h.ok,h.bd,h.ws,h.fit,4,by rw[a];exact h.gr⟩;rw[rH,<- h.hm];exact (yu e).symm;refine SD.news (s:={s with aL:=s.aL.set x y}) ⟨⟨h.ok.wl,h.ok.w4,h.ok.fit⟩,4,h.ws,h.fit,by show s.aL.set x y=_;rw[rH,<- h.hm],by rw[a];exact h.gr⟩ _;have b:=h.bd;exists by show s.groups.length=(s.aL.set x y).length;rw[bC];exact b.gl,by show (s.aL.set x y).length<=20;rw[bC];exact b.xr,b.g3,λz g=>?_,by show s.had.length=(s.aL.set x y).length;rw[bC];exact b.hl,b.hb,b.ll,b.lb,b.cb,b.cl,b.tb;rcases eY g with w|rfl;exact b.hm z w;exact f
theorem ON{P Q:LS->Prop}{d:k6}(h:∀l∈s.ls,P l)(c:∀l,P l->Q l)(f:∀l,P l->Q {l with aH:=l.aH++[d]}):∀l∈(dJ s i d).ls,Q l:=by intro l a;unfold dJ at a;cases e:s.ls[i]? with|none=>rw[e] at a;exact c l (h l a)|some b=>(rw[e] at a;rcases eY a with z|rfl;exact c l (h l z);exact f b (h b (aQ e)))
theorem KG:(dJ s i d).ws=s.ws/\(dJ s i d).R=s.R/\(dJ s i d).ts=s.ts/\(dJ s i d).aL=s.aL/\(dJ s i d).groups=s.groups/\(dJ s i d).had=s.had:=by unfold dJ;cases s.ls[i]? <;> exists 222222
theorem Hq{i x:Nat}:∀m,m<=cx s.cps->(kU s i x m).ws=s.ws/\(kU s i x m).R=s.R/\(kU s i x m).ts=s.ts/\(kU s i x m).aL=s.aL/\(kU s i x m).groups=s.groups/\(kU s i x m).had=s.had
 |0,_=>by rw[Dl];exists 222222
 |m+1,k=>by
  have a:=Hq (i:=i) (x:=x) m ∅;rw[Dm ∅];unfold tM;split
  ·obtain⟨f,g,b,e,c,j⟩:=KG (s:=kU s i x m) (i:=(s.cps[m]).l) (d:=.aaU (s.cps[m]).h i)
   exists f.trans a.1,g.trans a.2.1,b.trans a.2.2.1,e.trans a.2.2.2.1,c.trans a.2.2.2.2.1,j.trans a.2.2.2.2.2
  ·exact a
theorem ZI{i x:Nat}(h:∀l∈s.ls,l.aH.length+cx s.cps<=D/\l.done.length<=D/\l.grp<3/\(l.kd=1∨l.kd=2)):∀m,m<=cx s.cps->∀l∈(kU s i x m).ls,l.aH.length+((s.cps.take m).filter λc=>!lC i x c).length+cx s.cps<=D+m/\l.done.length<=D/\l.grp<3/\(l.kd=1∨l.kd=2)
 |0,_=>by rw[Dl];exact h
 |m+1,k=>by
  have d:=ZI (i:=i) (x:=x) h m ∅;have b:m<cx s.cps:=∅
  rw[Dm b,Va (f:=λc:Cp=>!lC i x c) b,av];unfold tM;cases e:lC i x s.cps[m]
  ·rw[b5 (!_),b4 (!_)]
   intro l a;obtain⟨j,g⟩:=d l a;exists by show l.aH.length+(_+1)+_<=_;lia,g
  ·rw[b4 rfl,b5 (!_)]
   refine ON d (λl a=>⟨by have:=a.1;show l.aH.length+(_+0)+_<=_;lia,a.2⟩) (λl a=>⟨4,a.2⟩)
   have:=a.1
   show (l.aH++[_]).length+(_+0)+_<=_;rw[av];show l.aH.length+1+(_+0)+_<=_;lia
theorem SD.lose(h:SD ns rs bs cl D s)(i x:Nat):SD ns rs bs cl D (tN s i x):=by obtain⟨d,j,k,a,e,f⟩:=Hq (s:=s) (i:=i) (x:=x) (cx s.cps) (az _);have lb:=ZI (i:=i) (x:=x) h.bd.lb (cx s.cps) (az _);have ll:=U9 (s:=s) (i:=i) (x:=x) (m:=s.cps.length);rw[gR] at lb;unfold tN;generalize kU s i x s.cps.length=s2 at d j k a e f lb ll;have b:=h.bd;exists ⟨d▸h.ok.wl,d▸h.ok.w4,j▸h.ok.fit⟩,⟨4444444,λl hl=>?_,4,λc o=>?_,4⟩,d.trans h.ws,h.fit,a.trans h.hm,e.trans h.gr;show s2.groups.length=s2.aL.length;rw[a,e];exact b.gl;show s2.aL.length<=20;rw[a];exact b.xr;show ∀g∈s2.groups,g<3;rw[e];exact b.g3;show ∀h∈s2.aL,h<cx ns;rw[a];exact b.hm;show s2.had.length=s2.aL.length;rw[a,f];exact b.hl;show ∀w∈s2.had,w.length<=D;rw[f];exact b.hb;show s2.ls.length<=D;rw[ll];exact b.ll;obtain⟨p,n⟩:=lb l hl;exists by show l.aH.length+(s.cps.filter λc=>!lC i x c).length<=D;lia,n;exact aE (bM _ _) b.cb;show c.l<s2.ls.length/\_;rw[ll];exact b.cl c (cQ.mp o).1;show ∀g,50*(s2.ts g).length<=D/\d7 (s2.ts g);rw[k];exact b.tb
theorem SD.gV{i:Nat}(o:dS ns rs)(h:SD ns rs bs cl D s)(hb:bs[i]?=ac b):SD ns rs (bs.set i (b.set x v)) cl D {s with ws:=s.ws.set i (c4 (b.set x v))}:=by have f:=h.fit.set hb (k:=x) (x:=v);have l:s.ws.set i (c4 (b.set x v))=(bs.set i (b.set x v)).map c4:=(by rw[h.ws,rH]);exists ⟨by show (s.ws.set i _).length=_;rw[bC];exact h.ok.wl,λu c=>?_,h.ok.fit⟩,⟨h.bd.gl,h.bd.xr,h.bd.g3,h.bd.hm,h.bd.hl,h.bd.hb,h.bd.ll,h.bd.lb,h.bd.cb,h.bd.cl,h.bd.tb⟩,l,f,h.hm,h.gr;have c:u∈s.ws.set i (c4 (b.set x v)):=c;rw[l] at c;obtain⟨m,d,rfl⟩:=aF.mp c;obtain⟨j,g,e⟩:=List.getElem_of_mem d;have a:j<cx rs:=(by rw[<- f.1];exact g);have:=f.2 j _ _ (aa a) (aa g);have n:=(o.ok _ (aD a)).d4;have:=adY m;rw[e] at *;lia
theorem SD.vP{i:Nat}(o:dS ns rs)(h:SD ns rs bs cl D s)(c:bs[i]?=ac b)(e:Int):SD ns rs (bs.set i (b.set x al)) cl D (zL s i x (c4 b) e):=by have a:=(h.gV (x:=x) (v:=al) o c).lose i x;unfold zL;rw[aaL];split;exact a.je e 3;exact a
theorem SD.lay{i:Nat}(o:dS ns rs)(h:SD ns rs bs cl D s)(c:bs[i]?=ac b)(e:Int):SD ns rs (bs.set i (b.set x ag)) cl D (KE s i (c4 b) (c4 (b.set x ag)) e):=by have a:=h.gV (x:=x) (v:=ag) o c;unfold KE;split;exact a.je e 3;exact a
theorem Xo{i:Nat}{os:List Nat}(hl:s.ls[i]?=ac l):(VG rs s i h l cH os).ws=s.ws/\(VG rs s i h l cH os).R=s.R/\(VG rs s i h l cH os).aL=s.aL/\(VG rs s i h l cH os).groups=s.groups:=by have f:=wb (rs:=rs) (h:=h) (cH:=cH) (os:=os) hl;exists f.ws,f.R,f.aL,f.groups
theorem SD.post{x:Nat}{os:List Nat}(o:dS ns rs)(h:SD ns rs bs cl D s)(e:x<s.aL.length)(O:kT (wc ns rs o s.ws (s.groups.getD x 0)) (s.R (s.groups.getD x 0)) os)(b:os.length<=12):SD ns rs bs cl (D+100) (Aq rs s x to os):=by obtain⟨a,d,j,g⟩:=Xo (rs:=rs) (h:=s.aL.getD x 0) (cH:=ae) (os:=os) (s:=xu s x to) (i:=s.ls.length) (l:={tE s x to with aH:=[.post (s.aL.getD x 0)]}) xV;have f:=sB o (h:=s.aL.getD x 0) (cH:=ae) (FX (to:=to) h.bd e) xV O b;exists ⟨(c6 List.length a).trans h.ok.wl,λw c=>h.ok.w4 w (by rw[show (Aq rs s x to os).ws=s.ws from a] at c;exact c),by rw[show (Aq rs s x to os).R=s.R from d];exact h.ok.fit⟩,f.mono ∅,a.trans h.ws,h.fit,j.trans h.hm,g.trans h.gr
theorem SD.pass{a:Nat}{cp:Cp}{os:List Nat}{ts:List T3}(o:dS ns rs)(h:SD ns rs bs cl D s)(hl:s.ls[cp.l]?=ac l)(k:a<cx s.cps)(O:kT (wc ns rs o s.ws l.grp) (s.R l.grp) os)(g:os.length<=12)(p:ts.Perm (dE (s.ts l.grp) h' c r))(oe:d7 ts):SD ns rs bs cl (D+100) (oq rs s a cp l os ts):=by have m:=ajt o (a:=a) (cp:=cp) h.bd hl k O g p oe;have e:(oq rs s a cp l os ts).ws=s.ws/\(oq rs s a cp l os ts).R=s.R/\(oq rs s a cp l os ts).aL=s.aL/\(oq rs s a cp l os ts).groups=s.groups:=(by unfold oq;split;obtain⟨q,t,n,u⟩:=LR (s:=s) (a:=a) (cp:=cp) (l:=l) (os:=os) (ts:=ts);obtain⟨b,d,i,f⟩:=Xo (rs:=rs) (h:=cp.h) (cH:=ac cp.r) (os:=os) (vO (a:=a) (os:=os) (ts:=ts) hl);exists b.trans q,d.trans t,i.trans n,f.trans u;exists 2222);obtain⟨b,d,i,f⟩:=e;exists ⟨(c6 List.length b).trans h.ok.wl,λw j=>h.ok.w4 w (by rw[b] at j;exact j),by rw[d];exact h.ok.fit⟩,m,b.trans h.ws,h.fit,i.trans h.hm,f.trans h.gr
end
section
variable{ns:List Int}{rs:List R5}{s s':NS}{n:Nat}
def ZJ(s:NS):List (List Nat):=s.ls.map λl=>l.done
theorem ajz:ZJ (dJ s i d)=ZJ s:=by unfold dJ;cases e:s.ls[i]? with|none=>rfl|some l=>show (s.ls.set i _).map (λl=>l.done)=_;rw[rH];exact yu (by rw[ak,e];rfl)
theorem Ie:ZJ (C5 s g)=ZJ s:=by show (s.ls.map (Hh g)).map (λl=>l.done)=s.ls.map λl=>l.done;rw[cz];refine dP λl _=>?_;show (Hh g l).done=l.done;unfold Hh;split <;> rfl
theorem Hr{e:Int}:∀m,ZJ (je s e m)=ZJ s
 |0=>rfl
 |m+1=>by
  have a:=Hr (e:=e) m;rw[lB];split
  ·rw[Ie];exact a
  ·exact a
theorem Xp:ZJ (tN s i x)=ZJ s:=by have a:∀(cs:List Cp)(b:NS),ZJ (cs.foldl (tM i x) b)=ZJ b:=λcs=>(by induction cs with|nil=>exact λ_=>rfl|cons c cs d=>intro b;rw[gF,d];unfold tM;split;exact ajz;rfl);exact a (s.cps.take (cx s.cps)) s
def er(n:Nat)(rs:List R5)(s:NS):Prop:=Ph n rs s<=2*cx rs*cx s.ls
theorem NH{e:Int}:∀m,(je s e m).cps=s.cps
 |0=>rfl
 |m+1=>by
  have a:=NH (e:=e) m;rw[lB];split <;> exact a
theorem KH(e:ZJ s'=ZJ s):cx s'.ls=s.ls.length:=by have:=c6 List.length e;unfold ZJ at this;rw[ah,ah] at this;exact this
theorem ada:(tO s g x d).ls.length=s.ls.length:=by unfold tO;split;rfl;exact KH Ie
theorem ajA:(zM s x y).ls.length=s.ls.length:=by unfold zM;split;rfl;exact KH Ie
theorem ajB:(zL s i x w e).ls.length=s.ls.length:=by have a:=KH (Xp (s:={s with ws:=s.ws.set i (w.filter λz=>decide (z≠x))}) (i:=i) (x:=x));unfold zL;split;exact (KH (Hr 3)).trans a;exact a
theorem amV:(KE s i w w2 e).ls.length=s.ls.length:=by unfold KE;split;exact KH (Hr (s:={s with ws:=s.ws.set i w2}) 3);rfl
theorem ahi{os:List Nat}:(Aq rs s x to os).ls.length=s.ls.length+1:=by unfold Aq;obtain⟨b,a⟩:=ZF (rs:=rs) (os:=os) (h:=s.aL.getD x 0) (cH:=ae) (s:=xu s x to) (i:=s.ls.length) (l:={tE s x to with aH:=[.post (s.aL.getD x 0)]}) xV;rw[a];show ((s.ls++[_]).set _ _).length=_;rw[bC,av];rfl
theorem ZK{cp:Cp}{os:List Nat}(hl:s.ls[cp.l]?=ac l):(oq rs s a cp l os ts).ls.length=s.ls.length:=by
 unfold oq;split;·obtain⟨c,b⟩:=ZF (rs:=rs) (os:=os) (h:=cp.h) (cH:=ac cp.r) (vO (a:=a) (os:=os) (ts:=ts) hl);rw[b];show ((eG s a cp l os ts).ls.set _ _).length=_;rw[bC];unfold eG;split <;> exact bC
 exact bC
end
section
variable{P:bv}{w:World}{K:af}{mg:Str->Option ap}{base:Heap}
theorem amW{c:Nat}(h:48<=c/\c<=57):(!(Builtin.Str.occurrences ("0123456789" : Str) ⟨#[c]⟩ 0 ("0123456789" : Str).length 1).isEmpty)=ag:=by rw[StrLaws.found_one];have:c=48∨c=49∨c=50∨c=51∨c=52∨c=53∨c=54∨c=55∨c=56∨c=57:=∅;rcases this with rfl|rfl|rfl|rfl|rfl|rfl|rfl|rfl|rfl|rfl <;> decide +kernel
inductive LU(vs:List V)(H:Hp)(Q:VK)(E:XK):Prop
 |mk(n:Int):vs=[.str (TX.num n)]->TX.Wr n->(∀H',aB H H'->Q (.int n) H')->LU vs H Q E
theorem zN(T:Txt K mg w t):bu P w K mg base iJ 1 t.mw t.pY ["word"] LU:=by refine T.dM.F.jB rW λH Q E J h=>?_;·obtain⟨n,rfl,a,k⟩:=h;exists _,(aj (bY (g9 (fG jm jm aC (cB KW T.gM PySem.boot_len (dg (pv 0))) (cF rfl T.zd (v:=.int 60) ⟨1⟩))) bP bq) (aj (bY (g9 (j3 (cB (Qu rfl) T.agC boot_all (dg (fN (kO rW ["sign"] [ae]) rfl (xt (pv 0)) (λ_ _ _ _=>by exact (gS 0 z5)) (λ_ _ _ _=>by exact gk) (λ_ _ _ _=>by exact (V3 UC (pv 0) (cF rfl T.Vj (v:=.str "0123456789") ⟨1⟩) (by with_unfolding_all rfl)))))))) bP bq) (aj (bY (PW.pt (E8 (qT xj (UK xi (pv 0) aC (λ_ _=>rfl)) au) (zR (qT lJ (pv 0) au)))) bP bq) (oR (eK U6 (by rfl) T.acB boot_int (dg (pv 0))))))),4;left;have C:=TX.HK a;have b:(TX.num n).length<=a9:=aE C.2 (!_);exists 37,b,574;rw[b6 (show (1:Int)<=((TX.num n).length:Int) by lia)];refine cS ⟨574⟩;rw[b6 (show ((TX.num n).length:Int)<=60 by lia)];refine dh ?_;exists 37,TX.U3 a.1,λo d=>?_;have B:(TX.num n).cps.size=(TX.num n).length:=rfl;refine K3 (n:=(TX.num n).cps.size) (λi=>.str ⟨#[(TX.num n).cps.getD i 0]⟩) (λ_=>ac (.bl ag)) d xp Yp (λi f x L m g s=>?_) ∅ (λi f R S m g A I=>?_) (λf g q=>?_);obtain⟨rfl,c,y,rfl⟩:=s;exists 24;rw[Array.getD_eq_getD_getElem?,y];rfl;exists 1524;have G:(TX.num n).cps.getD i 0∈TX.cs (TX.num n):=(by rw[Array.getD_eq_getD_getElem?,Array.getElem?_eq_getElem m];exact Array.getElem_mem_toList m);rw[amW (TX.HL a.1 _ G)];exact A _ _ (aB.refl _) rfl;have e:(ay (TX.num n).cps.size).filterMap (λ_=>ac (cn ag))=(bV (TX.num n).cps.size ag).map cn:=(by rw[List.filterMap_eq_map',List.map_replicate];exact (List.map_const' ..).trans (by rw[bI]));rw[e] at q;exists o,1,bH.of q,14;rw[show (bV (TX.num n).cps.size ag).all id=ag by simp];refine dh ?_;have p:0<(TX.num n).cps.toList.length:=(by rw[dQ];lia);have l:KN (TX.num n).cps.toList 0=ac (TX.num n).cps.toList[0]:=dF (j:=0) (aa p);exists 18,b,l,7,nA (λe=>?_) (λe=>?_);have u:(⟨#[(TX.num n).cps.toList[0]]⟩:Str)=("0" : Str):=V.str.inj (c7 e);have r:(TX.num n).cps.toList[0]=48:=(by have:=c6 (λz:Str=>z.cps.getD 0 0) u;exact this);have D:n=0:=TX.afT a.1 (by rw[aa p,r]);subst D;exists 17,qS (↑_) ?_;exists 15,TX.num_reads a,6,k f g;exists 15,TX.num_reads a,6,k f g
inductive BZ(K:af)(vs:List V)(H:Hp)(Q:VK)(E:XK):Prop
 |mk(l:am)(ns:List Int):vs=[.ref l,.int (cx ns)]->bH K H l (bf (ns.map TX.num))->(∀n∈ns,TX.Wr n)->cx ns<=100->(∀l' H',aB H H'->H l'=ae->H' l'=ac (.lst (ns.map cf))->Q (.ref l') H')->BZ K vs H Q E
theorem w6(T:Txt K mg w t):bu P w K mg base iJ 2 t.kG t.nP ["words","many"] (BZ K):=by refine T.cW.F.jB qm λH Q E p h=>?_;·obtain⟨l,ns,rfl,e,o,s,k⟩:=h;exists _,(aj (bY (qT lJ (lS T.gM (pv 0)) (pv 1)) bP bq) (oR (fN (kO qm ["word"] [ae]) rfl (dZ (pv 0)) (λ_ _ _ _=>by exact (gS 0 yI)) (λ_ _ _ _=>by exact gk) (λ_ _ _ _=>by exact (cG (zN T) p T.dM (dg (pv 0))))))),4;left;have b:(bf (ns.map TX.num)).length=ns.length:=-_;exists 1,l,1,.inl e,17,qS (by rw[b,b6 rfl];rfl) ?_;exists 1,l,2,⟨_,e⟩,λf a=>?_;refine P0 (λi=>ns[i]?.map cf) a e ∅ (λi x j R S c m q u=>?_) (λj m g=>?_);have d:i<cx ns:=(by have:=(ai.mp c).1;lia);have n:x=.str (TX.num ns[i]):=(by simp only[ak,aa d,nj,As] at c;exact c.symm);subst n;exists 1,ns[i],2,o _ (aD d),λv r=>q _ _ r (by rw[aa d];rfl);rw[b,Di] at g;exact k f j m a g
inductive OO(K:af)(vs:List V)(H:Hp)(Q:VK)(E:XK):Prop
 |mk(l:am)(ns:List Int):vs=[.ref l]->H l=ac (.lst (bf (TX.wordsOf "names" ns)))->(∀n∈ns,TX.Wr n)->1<=cx ns->cx ns<=100->(∀l' H',aB H H'->H l'=ae->H' l'=ac (.lst (ns.map cf))->Q (.ref l') H')->OO K vs H Q E
theorem Up(T:Txt K mg w t):bu P w K mg base iJ 2 t.oM t.sF ["words"] (OO K):=by refine T.oU.F.jB uO λH Q E B h=>?_;·obtain⟨l,ns,rfl,n,A,s,C,k⟩:=h;exists _,(aj (bY (PW.pt (XS (qT lJ (xL (pv 0) aC) au) (Qj (qT kR (lS T.gM (pv 0)) aC)))) bP bq) (oR (fN (kO uO ["word"] [ae]) rfl (dZ (iY ow (pv 0) (jQ aC) kX)) (λ_ _ _ _=>by exact (gS 0 CB)) (λ_ _ _ _=>by exact gk) (λ_ _ _ _=>by exact (cG (zN T) B T.dM (dg (pv 0))))))),4;left;have q:(bf (TX.wordsOf "names" ns)).length=ns.length+1:=(by simp[TX.wordsOf]);exists 1,l,8,bH.of n,HM,7,qS (by rw[b6 rfl];rfl) ?_;exists 1,l,1,.inl (bH.of n),57,qS (by rw[q];exact c5 ∅) ?_;exists 37,l,1,bH.of n,λf m=>?_;rw[zW];have e:=aB.new (o:=.lst (bf (ns.map TX.num))) m;have d:=aq (H:=H) (a:=f) (o:=.lst (bf (ns.map TX.num)));generalize upd H f (.lst (bf (ns.map TX.num)))=H2 at e d;have c:(bf (ns.map TX.num)).length=ns.length:=-_;exists f,2,⟨_,bH.of d⟩,λp b=>?_;refine P0 (λi=>ns[i]?.map cf) b (bH.of d) ∅ (λi x v R S g u s d=>?_) (λv u r=>?_);have j:i<cx ns:=(by have:=(ai.mp g).1;lia);have z:x=.str (TX.num ns[i]):=(by simp only[ak,aa j,nj,As] at g;exact g.symm);subst z;exists 1,ns[i],2,A _ (aD j),λD y=>s _ _ y (by rw[aa j];rfl);rw[c,Di] at r;exact k p v (e.trans u) (e.free b) r
structure uI(nm:List Int)(rs cl:List (List Int)):Prop where
 h1:∀n∈nm,TX.Wr n
 h2:∀r∈rs,∀n∈r,TX.Wr n
 h3:∀r∈cl,∀n∈r,TX.Wr n
 a1:1<=nm.length
 l1:nm.length<=12
 l2:∀r∈rs,r.length=5
 l3:∀r∈cl,r.length=2
 m2:cx rs<=30
 m3:cl.length<=30
theorem uI.sum(g:uI nm rs cl):((TX.partsOf nm rs cl).map (·.length)).sum+(TX.partsOf nm rs cl).length*TX.Ct.length<=100000 :=TX.ad6 g.h1 g.h2 g.h3 g.l1 (λr a=>by rw[g.l2 r a];decide) (λr a=>by rw[g.l3 r a];decide) g.m2 g.m3
theorem uI.text(g:uI nm rs cl):(TX.lO nm rs cl).length<=100000:=by unfold TX.lO;rw[TX.join_eq];exact aE (StrLaws.join_length_le _ _) g.sum
theorem uI.part(g:uI nm rs cl){p:Str}(c:p∈TX.partsOf nm rs cl):p.length<=100000:=by have b:∀{l:List Nat}{x:Nat},x∈l->x<=l.sum:=λ{l x}h=>(by induction l with|nil=>cases h|cons a l d=>(rw[oY];rcases aM.mp h with rfl|h;lia;have:=d h;lia));have:=b (aF.mpr ⟨p,c,2⟩:p.length∈(TX.partsOf nm rs cl).map (·.length));have:=g.sum;lia
inductive KI(K:af)(vs:List V)(H:Hp)(Q:VK)(E:XK):Prop
 |mk(nm:List Int)(rs cl:List (List Int)):vs=[.str (TX.lO nm rs cl)]->uI nm rs cl->(∀p l0 l1 l2 H',aB H H'->H l0=ae->H l1=ae->H l2=ae->l0≠l1->l0≠l2->l1≠l2->H' p=ac (.tup [.ref l0,.ref l1,.ref l2])->H' l0=ac (.lst (nm.map cf))->TL K H' l1 rs->TL K H' l2 cl->Q (.ref p) H')->KI K vs H Q E
theorem LV(T:Txt K mg w t):bu P w K mg base iJ 3 t.nO t.rj ["text"] (KI K):=by refine T.rA.F.jB ez λH Q E hr h=>?_;·obtain⟨nm,rs,cl,rfl,G,k⟩:=h;exists _,(aj (Dg (i:=1) ez.nd rfl (Or.inl rfl) (kO ez ["part"] [ae]) rfl (dZ (mX cX kP kN Cv (pv 0) (dg au))) (λ_ _ _ _=>by exact (gS 0 Ew)) (λ_ _ _ _=>by exact gk) (λ_ _ _ _=>by exact (og K rfl cX kP kN Cv (pv 0) (dg au)))) (aj (sS 2 ez (cG (Up T) hr T.oU (dg (xL (pv 1) aC)))) (aj (sS 3 ez (cu jn)) (aj (sS 4 ez (cu jn)) (aj (fS (dZ (iY ow (pv 1) (jQ aC) kX)) (gT 5 ez) (aX (bY (PW.pt (E8 (qT xj (xL (pv 5) aC) au) (zR (qT Ax (pv 4) (cu jn))))) (oE (mX bR bX bW gQ (pv 3) (dg (eK uN (by rfl) T.P7 boot_tuple (dg (cG (w6 T) hr T.cW (dX (iY ow (pv 5) (jQ aC) kX) (cF rfl T.Gn (v:=.int 5) ⟨1⟩)))))))) (aX (bY (qT xj (xL (pv 5) aC) au) (oE (mX bR bX bW gQ (pv 4) (dg (eK uN (by rfl) T.P7 boot_tuple (dg (cG (w6 T) hr T.cW (dX (iY ow (pv 5) (jQ aC) kX) (cF rfl T.CS (v:=.int 2) ⟨1⟩)))))))) bP))))) (oR (bE (KO (pv 2) (pv 3) (pv 4))))))))),4;left;exists 1252,(↑_),G.text,λlp hlp=>?_;rw[show Txt.split (TX.lO nm rs cl) _=TX.partsOf nm rs cl from TX.aaS G.h1 G.h2 G.h3];have u1:=aB.new (o:=.lst (bf (TX.partsOf nm rs cl))) hlp;have NI:=aq (H:=H) (a:=lp) (o:=.lst (bf (TX.partsOf nm rs cl)));generalize upd H lp (.lst (bf (TX.partsOf nm rs cl)))=H1 at u1 NI;exists lp,2,⟨_,bH.of NI⟩,λm R=>?_;have hwl:(TX.Cu nm rs cl).length=(TX.partsOf nm rs cl).length:=(by rw[<- TX.Oe G.h1 G.h2 G.h3,ah]);have hpl:(TX.partsOf nm rs cl).length<=61:=(by rw[<- hwl,TX.Wm];have:=G.m2;have:=G.m3;lia);refine jA (n:=(bf (TX.partsOf nm rs cl)).length) (λi ys H3=>∃c:List am,ys=c.map ci/\Gy H3 c ((TX.Cu nm rs cl).take i)/\∀p∈c,p≠m) R (vY (bH.of NI)) (lK (bH.of NI)) ⟨[],2,⟨2,λi p ws e=>by cases e⟩,λp hp=>by cases hp⟩ ?_ ?_;rintro i ys H3 hi s3 hy ⟨c,rfl,f,X⟩ x H4 ⟨rfl,hx⟩;have hx:=hx _ (s3.seq (bH.of NI));have hi':i<(TX.partsOf nm rs cl).length:=(by rw[ah] at hi;exact hi);have ex:x=.str (TX.partsOf nm rs cl)[i]:=(by simp only[ak,aa hi',nj,As] at hx;exact hx.symm);subst ex;have hw:(TX.Cu nm rs cl)[i]?=ac (Txt.split (TX.partsOf nm rs cl)[i] TX.lN):=(by rw[<- TX.Oe G.h1 G.h2 G.h3,ak,aa hi'];rfl);exists 1252,(↑_),G.part (aD hi'),λp hp=>?_;have u4:=aB.new (o:=.lst ((Txt.split (TX.partsOf nm rs cl)[i] TX.lN).map cm)) hp;have Ui:=u4 _ _ hy;have L1:p≠m:=(aJ hy hp).symm;have as5:c.length=i:=(by rw[f.len,bT];lia);refine gG R hi (s3.trans u4) Ui (by rw[ah];exact cU ∅) ⟨c++[p],-_,44⟩;rw[i7,hw];have hs:=(f.mono u4).snoc (p:=p) (ws:=Txt.split (TX.partsOf nm rs cl)[i] TX.lN) aq;exists hs.len,λj q ws a b=>?_;have nq:q≠m:=(by rcases bh.mp (aQ a) with z|z;exact X q z;rw[aZ.mp z];exact L1);rw[aI nq];exact hs.at' j q ws a b;intro q hq;rcases bh.mp hq with z|z;exact X q z;rw[aZ.mp z];exact L1;rintro ys H3 s3 hy ⟨c,rfl,f,X⟩;rw[show (bf (TX.partsOf nm rs cl)).length=(TX.Cu nm rs cl).length by rw[hwl,ah],gR] at f;have s03:=u1.trans s3;have hp0:0<c.length:=(by rw[f.len,TX.Wm];lia);have amZ:KN (c.map ci) 0=ac (.ref c[0]):=dF (j:=0) (by rw[ak,aa hp0];rfl);have hn0:H3 c[0]=ac (.lst (bf (TX.wordsOf "names" nm))):=f.at' 0 _ _ (aa hp0) rfl;exists 1,m,8,bH.of hy,amZ,c[0],nm,2,hn0,G.h1,G.a1,aE G.l1 (!_),λl0 H4 s4 xZ h04=>?_;have s04:=s03.trans s4;have Ui:=s4 _ _ hy;have abA:=f.mono s4;have nl0:=s03.free xZ;exists bA _,λl1 hl1=>?_;have u5:=aB.new (o:=.lst []) hl1;have MV:=aq (H:=H4) (a:=l1) (o:=.lst []);have n01:l0≠l1:=aJ h04 hl1;have nl1:=s04.free hl1;have Nn:=u5 _ _ h04;have r4:=u5 _ _ Ui;have Sv:=abA.mono u5;have I0:=s04.trans u5;generalize upd H4 l1 (.lst [])=H5 at u5 MV Nn r4 Sv I0;exists bA _,λl2 B=>?_;have u6:=aB.new (o:=.lst []) B;have Ma:=aq (H:=H5) (a:=l2) (o:=.lst []);have n02:l0≠l2:=aJ Nn B;have n12:l1≠l2:=aJ MV B;have nl2:=I0.free B;have N:=u6 _ _ MV;have h06:=u6 _ _ Nn;have hy6:=u6 _ _ r4;have np2:∀i p,c[i]?=ac p->p≠l2:=λi p e=>(by have hlt:=(ai.mp e).1;rw[Sv.len] at hlt;exact aJ (Sv.at' i p _ e (aa hlt)) B);have ZL:=Sv.mono u6;have s06:=I0.trans u6;generalize upd H5 l2 (.lst [])=H6 at u6 Ma N h06 hy6 ZL s06;have np1:∀i p ws,c[i]?=ac p->(TX.Cu nm rs cl)[i]?=ac ws->ws≠[]->p≠l1:=λi p ws e e2 hw z=>(by have q:=ZL.at' i p ws e e2;rw[z,N] at q;have q:([]:List V)=bf ws:=HO.lst.inj (aT q);cases ws with|nil=>exact hw rfl|cons a b=>cases q);exists 37,m,1,bH.of hy6,λl7 VC=>?_;have am3:Aw (c.map ci) (ac 1) ae=(c.drop 1).map ci:=(by have:=Cn (c.map ci) 1;rw[show ((1:Nat):Int)=1 from rfl] at this;rw[this,List.map_drop]);rw[am3];have u7:=aB.new (o:=.lst ((c.drop 1).map ci)) VC;have S:=aq (H:=H6) (a:=l7) (o:=.lst ((c.drop 1).map ci));have n71:l7≠l1:=(aJ N VC).symm;have n72:l7≠l2:=(aJ Ma VC).symm;have M:=ZL.mono u7;have s07:=s06.trans u7;have h07:=u7 _ _ h06;have h17:=u7 _ _ N;have h27:=u7 _ _ Ma;generalize upd H6 l7 (.lst ((c.drop 1).map ci))=H7 at u7 S M s07 h07 h17 h27;have awL:c.length=1+cx rs+cl.length:=(by rw[M.len,TX.Wm]);have hdl:((c.drop 1).map ci).length=rs.length+cl.length:=(by rw[ah,lD];lia);exists l7,2,⟨_,bH.of S⟩,rK (K:=K) (a:=l7) (xs:=(c.drop 1).map ci) (λi σ D=>(∀b o,H7 b=ac o->b≠l1->b≠l2->D b=ac o)/\TL K D l1 (rs.take i)/\TL K D l2 (cl.take (i-rs.length))/\∃v5:Option V,σ=[ac (.str (TX.lO nm rs cl)),ac (.ref m),ac (.ref l0),ac (.ref l1),ac (.ref l2),v5]) ⟨λb o e _ _=>e,⟨[],h17,jH.nil⟩,⟨[],h27,by rw[Nat.zero_sub,List.take_zero];exact jH.nil⟩,1⟩ (λi σ D _ z=>bH.of (z.1 _ _ S n71 n72)) ?_ ?_;rintro i y σ D hi ⟨kp,d,s,v5,rfl⟩;have hil:=(ai.mp hi).1;rw[hdl] at hil;have hip:i+1<c.length:=∅;have ey:y=.ref c[i+1]:=(by rw[ak,List.getElem?_drop,Nat.add_comm 1 i,aa hip] at hi;exact (aT hi).symm);subst ey;generalize hq:c[i+1]=pw;have r:c[i+1]?=ac pw:=(by rw[aa hip,hq]);by_cases hr':i<cx rs;have ew:=TX.afV (nm:=nm) (cl:=cl) hr';have g:=kp _ _ (M.at' _ _ _ r ew) (np1 _ _ _ r ew (by simp[TX.wordsOf])) (np2 _ _ r);exists 1,pw,8,bH.of g,HM,7,K1 (b6 rfl) ?_;obtain⟨qs2,Uq,C⟩:=s;have e2:qs2=[]:=(by have:=C.len;rw[show i-rs.length=0 by lia,List.take_zero] at this;exact List.length_eq_zero_iff.mp this);subst e2;exists 1,bA _,λl9 hl9=>?_;have L:=aB.new (o:=.lst []) hl9;have h99:=aq (H:=D) (a:=l9) (o:=.lst []);generalize upd D l9 (.lst [])=H9 at L h99;have rp:∀{l:am},H9 l=ac (.lst [])->Rep K H9 (.list []) (.ref l):=λ{l} e=>⟨l,[],2,bH.of e,2⟩;exists 33,rp (L _ _ Uq),rp h99,22,bK (cE (aE (ji _ _) (show PyData.depth (.list [])<=64 by decide)) _) hr.units,1,K1 rfl ?_;have ajG:=L _ _ g;obtain⟨qs1,abC,hq1⟩:=d;have am5:=L _ _ abC;exists 1,.inl ⟨23,bH.of am5⟩,37,pw,1,bH.of ajG,λY abD=>?_;rw[zW];have A:=aB.new (o:=.lst (bf (rs[i].map TX.num))) abD;have Zd:=aq (H:=H9) (a:=Y) (o:=.lst (bf (rs[i].map TX.num)));generalize upd H9 Y (.lst (bf (rs[i].map TX.num)))=XJ at A Zd;have W:=aD hr';exists Y,rs[i],(by rw[G.l2 _ W];rfl),bH.of Zd,G.h2 _ W,(by rw[G.l2 _ W];decide),λZ UQ S5 am7 U=>?_;exists Z,1,.inl ⟨bH.of U,λu abE=>?_⟩;have J:=aB.new (o:=.tup (rs[i].map cf)) abE;have I:=aq (H:=UQ) (a:=u) (o:=.tup (rs[i].map cf));generalize upd UQ u (.tup (rs[i].map cf))=wh at J I;have O:=L.trans (A.trans (S5.trans J));have adb:=O _ _ abC;have apL:=hq1.mono O;exists l1,52,adb,(by rw[ah,hq1.len,bT];exact cU (by have:=G.m2;lia)),4;exists λb o e n1 n2=>by rw[aI n1];exact O _ _ (kp b o e n1 n2),441;rw[i7,aa hr'];exact TL.push adb apL (dY.of I);rw[show i+1-rs.length=0 by lia,List.take_zero];exists [],by rw[aI n12.symm];exact O _ _ Uq,jH.nil;obtain⟨j,rfl⟩:∃j,i=rs.length+j:=⟨i-rs.length,6⟩;have hj:j<cl.length:=∅;have ew:=TX.afW (nm:=nm) (rs:=rs) hj;have g:=kp _ _ (M.at' _ _ _ r ew) (np1 _ _ _ r ew (by simp[TX.wordsOf])) (np2 _ _ r);exists 1,pw,8,bH.of g,HM,7,qS (c5 (↑_)) ?_;exists 1,pw,8,bH.of g,HM,7,K1 (b6 rfl) ?_;obtain⟨qs2,Uq,C⟩:=s;exists 1,.inl ⟨23,bH.of Uq⟩,37,pw,1,bH.of g,λY abD=>?_;rw[zW];have A:=aB.new (o:=.lst (bf (cl[j].map TX.num))) abD;have Zd:=aq (H:=D) (a:=Y) (o:=.lst (bf (cl[j].map TX.num)));generalize upd D Y (.lst (bf (cl[j].map TX.num)))=XJ at A Zd;have W:=aD hj;exists Y,cl[j],(by rw[G.l3 _ W];rfl),bH.of Zd,G.h3 _ W,(by rw[G.l3 _ W];decide),λZ UQ S5 am7 U=>?_;exists Z,1,.inl ⟨bH.of U,λu abE=>?_⟩;have J:=aB.new (o:=.tup (cl[j].map cf)) abE;have I:=aq (H:=UQ) (a:=u) (o:=.tup (cl[j].map cf));generalize upd UQ u (.tup (cl[j].map cf))=wh at J I;have O:=A.trans (S5.trans J);have VJ:=O _ _ Uq;have akZ:=C.mono O;rw[show rs.length+j-rs.length=j by lia] at C akZ;exists l2,52,VJ,(by rw[ah,C.len,bT];exact cU (by have:=G.m3;lia)),4;exists λb o e n1 n2=>by rw[aI n2];exact O _ _ (kp b o e n1 n2),441;have d:TL K D l1 rs:=(by have e:rs.take (cx rs+j)=rs:=gu ∅;rw[e] at d;exact d);rw[gu (show rs.length<=cx rs+j+1 by lia)];exact (d.mono O).past VJ tX n12 dU;rw[show rs.length+j+1-rs.length=j+1 by lia,i7,aa hj];exact TL.push VJ akZ (dY.of I);rintro σ D ⟨kp,d,s,v5,rfl⟩;rw[hdl,gu ∅] at d;rw[hdl,show rs.length+cl.length-rs.length=cl.length by lia,gR] at s;exists 137,ft,λp9 hp9=>?_;have L:=aB.new (o:=.tup [ci l0,.ref l1,.ref l2]) hp9;refine k p9 l0 l1 l2 _ (λb o e=>?_) nl0 nl1 nl2 n01 n02 n12 aq (L _ _ (kp _ _ h07 n01 n02)) (d.mono L) (s.mono L);exact L _ _ (kp _ _ (s07 _ _ e) (aJ e nl1) (aJ e nl2))
end
section
noncomputable abbrev wt(s:NS)(T:Nat->List T3):NS:={s with ts:=T}
variable{ns:List Int}{rs:List R5}{bs:List (List Bool)}{cl:List (Nat×Nat)}{D B:Nat}{s a b:NS}{T:Nat->List T3}
structure ng(a b:NS):Prop where
 e:a=wt b a.ts
 p:∀g,(a.ts g).Perm (b.ts g)
 n1:∀g,d7 (a.ts g)
 n2:∀g,d7 (b.ts g)
theorem ng.ind{C:NS->Prop}(E:ng a b)(h:∀T:Nat->List T3,(∀g,(T g).Perm (b.ts g))->(∀g,d7 (T g))->C (wt b T)):C a:=by rw[E.e];exact h _ E.p E.n1
theorem ng.sub{C:NS->Prop}(E:ng a b)(h:∀T:Nat->List T3,ng (wt b T) b->C (wt b T)):C a:=by have e:=E.e;rw[e] at E ⊢;exact h _ E
theorem ng.mk'(p:∀g,(T g).Perm (b.ts g))(c:∀g,d7 (T g))(d:∀g,d7 (b.ts g))(e:a=wt b T):ng a b:=by subst e;exists 2,p,c,d
theorem Xq:dJ (wt s T) i d=wt (dJ s i d) T:=by unfold dJ;show (match s.ls[i]? with|some l=>_|none=>_)=_;cases s.ls[i]? <;> rfl
theorem Qd{a:Type}{f:NS->a->NS}(h:∀s x,f (wt s T) x=wt (f s x) T):∀(xs:List a)(s:NS),xs.foldl f (wt s T)=wt (xs.foldl f s) T
 |[],s=>rfl
 |x::xs,s=>by
  rw[gF,gF,h];exact Qd h xs _
theorem ajH:tN (wt s T) i x=wt (tN s i x) T:=by unfold tN kU;rw[Qd λs c=>?_];unfold tM;split;exact Xq;rfl
theorem ajI(s:NS)(r:Nat):rD rs i h (wt s T) r=wt (rD rs i h s r) T:=by unfold rD VE;rw[Xq];rfl
theorem ZN{xs:List T3}(p:xs.Perm ys)(a:d7 xs)(b:d7 ys):yk xs h c=yk ys h c:=by refine Option.ext λr=>?_;rw[UY a,UY b];exact p.mem_iff
theorem ng.do_(E:ng a b){i:Nat}{os:List Nat}(hl:b.ls[i]?=ac l):ng (VG rs a i h l cH os) (VG rs b i h l cH os):=by have n2:=E.n2;refine E.ind (C:=λa=>ng (VG rs a i h l cH os) _) λT p d=>?_;have e:(VG rs b i h l cH os).ts=b.ts:=(wb hl).ts;refine ng.mk' (T:=T) (by rw[e];exact p) d (by rw[e];exact n2) ?_;have g:Ss rs (wt b T) l h cH os=Ss rs b l h cH os:=(by unfold Ss;show (f5 (T l.grp) _ _ _ _ _).map _=(f5 (b.ts l.grp) _ _ _ _ _).map _;unfold f5;simp only[ZN (p l.grp) (d l.grp) (n2 l.grp)];rfl);unfold VG;rw[g];show (Ss rs b l h cH os).foldl (rD rs i h) ((tR b l h).foldl (lY i h) (wt (fR b i h l) T))=_;rw[Qd (f:=lY i h) λs c=>Xq (s:=wZ s i c),Qd ajI]
theorem ng.news(E:ng a b)(g:Nat):ng (C5 a g) (C5 b g):=by have n2:=E.n2;refine E.ind (C:=λa=>ng (C5 a g) _) λT p c=>ng.mk' (T:=fO T g []) (λk=>?_) (λk=>?_) (λk=>?_) rfl;show (fO T g [] k).Perm (fO b.ts g [] k);unfold fO;split;exact .refl _;exact p k;unfold fO;split;exact mO;exact c k;show d7 (fO b.ts g [] k);unfold fO;split;exact mO;exact n2 k
theorem ng.je(E:ng a b)(e:Int):∀m,ng (je a e m) (je b e m)
 |0=>E
 |m+1=>by
  rw[lB,lB];split
  ·exact (E.je e m).news m
  ·exact E.je e m
theorem ng.by{f:NS->NS}(E:ng a b)(h:∀T,f (wt b T)=wt (f b) T)(e:(f b).ts=b.ts):ng (f a) (f b):=by have n2:=E.n2;exact E.ind (C:=λa=>ng (f a) _) λT p c=>ng.mk' (T:=T) (by rw[e];exact p) c (by rw[e];exact n2) (h T)
theorem ng.call(E:ng a b):ng (tO a g x d) (tO b g x d):=by have c:a.R=b.R:=(by rw[E.e]);unfold tO;rw[c];split;exact E;refine ng.news ?_ g;have:=E.by (f:=λs=>{s with R:=fO b.R g (RM.upd (b.R g) x d)}) (λT=>rfl) rfl;exact this
theorem ng.move(E:ng a b):ng (zM a x h) (zM b x h):=by refine E.sub (C:=λa=>ng (zM a x h) _) λT E=>?_;unfold zM;show ng (if b.aL[x]?=ac h then wt b T else C5 (wt {b with aL:=b.aL.set x h} T) (b.groups.getD x 0)) _;split;exact E;exact ng.news (E.by (f:=λs=>{s with aL:=b.aL.set x h}) (λT=>rfl) rfl) _
def ng.lose(E:ng a b):ng (tN a i x) (tN b i x):=E.by (f:=λs=>tN s i x) (λT=>ajH) (Hq (s:=b) (i:=i) (x:=x) b.cps.length (az _)).2.2.1
def ng.gV(E:ng a b){i:Nat}{w:List Nat}:ng {a with ws:=a.ws.set i w} {b with ws:=b.ws.set i w}:=E.by (f:=λs=>{s with ws:=s.ws.set i w}) (λT=>rfl) rfl
theorem ng.vP(E:ng a b){i x:Nat}{w:List Nat}{e:Int}:ng (zL a i x w e) (zL b i x w e):=by unfold zL;split;exact (E.gV.lose).je e 3;exact E.gV.lose
theorem ng.lay(E:ng a b){i:Nat}{w w2:List Nat}{e:Int}:ng (KE a i w w2 e) (KE b i w w2 e):=by unfold KE;split;exact E.gV.je e 3;exact E.gV
theorem ng.post(E:ng a b){os:List Nat}:ng (Aq rs a x to os) (Aq rs b x to os):=by refine E.sub (C:=λa=>ng (Aq rs a x to os) _) λT E=>?_;exact ng.do_ (a:=wt (xu b x to) T) (E.by (f:=λs=>xu s x to) (λT=>rfl) rfl) xV
theorem ng.pass(E:ng a b){cp:Cp}{os:List Nat}{ts:List T3}(hl:b.ls[cp.l]?=ac l)(q:ts.Perm us)(i:d7 ts)(h:d7 us):ng (oq rs a k cp l os ts) (oq rs b k cp l os us):=by have c:ng (oV a k cp l os) (oV b k cp l os):=E.by (f:=λs=>oV s k cp l os) (λT=>rfl) rfl;have e:ng (eG a k cp l os ts) (eG b k cp l os us):=(by unfold eG;split;exact c;have n2:=c.n2;refine c.ind (C:=λa=>ng (Zz a l.grp ts) _) λT p d=>ng.mk' (T:=fO T l.grp ts) (λg=>?_) (λg=>?_) (λg=>?_) rfl;show (fO T l.grp ts g).Perm (fO _ l.grp us g);unfold fO;split;exact q;exact p g;unfold fO;split;exact i;exact d g;show d7 (fO _ l.grp us g);unfold fO;split;exact h;exact n2 g);unfold oq;split;exact e.do_ (vO hl);exact c
theorem HH{xs:List T3}(p:xs.Perm ys):(dE xs h c r).Perm (dE ys h c r):=by unfold dE;exact (p.filter _).append_right _
inductive ou where
 |round (g:Nat)|rest (g:Nat)|row (h g:Nat)|Qe (g:Nat)|call (h g:Nat)|vP (i x:Nat)|lay (i x:Nat)|move (c h:Nat)|post (c:Nat) (to:Option Nat)|pass (k:Nat)|run|flying|had (c:Nat)|rE (i:Nat)
noncomputable abbrev ik(n:Nat):Str:=TX.num (n:Int)
noncomputable def ou.hd:ou->Str
 |.round _=>"round"|.rest _=>"rest"|.row _ _=>"row"|.Qe _=>"open"|.call _ _=>"call"|.vP _ _=>"fall"|.lay _ _=>"lay"|.move _ _=>"move"|.post _ _=>"post"|.pass _=>"pass"|.run=>"run"|.flying=>"flying"|.had _=>"had"|.rE _=>"story"
noncomputable def ou.iu:ou->List Int
 |.round g=>[g]|.rest g=>[g]|.row h g=>[h,g]|.Qe g=>[g]|.call h g=>[h,g]|.vP i x=>[i,x]|.lay i x=>[i,x]|.move c h=>[c,h]|.post c to=>(c:Int)::(to.map λy:Nat=>(y:Int)).toList|.pass k=>[k]|.run=>[]|.flying=>[]|.had c=>[c]|.rE i=>[i]
noncomputable def ou.isAll:ou->Bool
 |.post _ ae=>ag
 |_=>al
noncomputable def ou.words(c:ou):List Str:=c.hd::(c.iu.map TX.num++(if c.isAll then ["all"] else []:List Str))
def ou.text(c:ou):Str:=Txt.join TX.lN c.words
noncomputable def eH:V->Str
 |.int i=>TX.num i
 |.str z=>z
 |_=>"-"
def C7(vs:List V):Str:=if vs.isEmpty then "-" else Txt.join TX.lN (vs.map eH)
variable{ns:List Int}{rs:List R5}(o:dS ns rs)
inductive fD(g:Nat):Nat->NS->Nat->NS->Prop
 |zero (s:NS):fD g 0 s 0 s
 |succ {n k:Nat} {s s1:NS} {d:RM.Row}:fD g n s k s1->RM.zS (N:=wc ns rs o s1.ws g) (cx ns) (s1.R g) n d->Ay (cx ns) (cx rs) d->fD g (n+1) s (k+if d=s1.R g n then 0 else 1) (tO s1 g n d)
inductive Ps(k:Nat)(s:NS)(x:Str)(s':NS):Prop
 |mk(cp:Cp)(l:LS)(os:List Nat)(ts:List T3):s.cps[k]?=ac cp->s.ls[cp.l]?=ac l->kT (wc ns rs o s.ws l.grp) (s.R l.grp) os->os.length<=12->ts.Perm (dE (s.ts l.grp) cp.h l.s cp.r)->d7 ts->s'=oq rs s k cp l os ts->x=Hl l cp os->Ps k s x s'
inductive Rn:NS->Nat->NS->Prop
 |zero (s:NS):Rn s 0 s
 |succ {k:Nat} {s s1 s2:NS} {x:Str}:Rn s k s1->Ps o 0 s1 x s2->Rn s (k+1) s2
def Ca(s:NS):ou->Str->NS->Prop
 |.round g,x,s'=>∃k,fD o g (cx ns) s k s'/\x=ik k
 |.rest g,x,s'=>s'=s/\∃y:Bool,(y=ag↔RM.Rest (wc ns rs o s.ws g) (s.R g))/\x=if y then "yes" else "no"
 |.row h g,x,s'=>s'=s/\x=C7 (cO (s.R g h))
 |.Qe g,x,s'=>s'=s/\∃os,kT (wc ns rs o s.ws g) (s.R g) os/\x=C7 (bN os)
 |.call h g,x,s'=>∃d,RM.zS (N:=wc ns rs o s.ws g) (cx ns) (s.R g) h d/\Ay (cx ns) (cx rs) d/\s'=tO s g h d/\x=if d=s.R g h then "same" else "new"
 |.vP i y,x,s'=>∃w r,s.ws[i]?=ac w/\rs[i]?=ac r/\s'=zL s i y w r.e/\x=if (w.filter λz=>decide (z≠y)).isEmpty then "ends" else "same"
 |.lay i y,x,s'=>∃w r w2,s.ws[i]?=ac w/\rs[i]?=ac r/\w2.Perm (w++[y])/\w2.Pairwise (·<=·)/\s'=KE s i w w2 r.e/\x=if w.isEmpty then "begins" else "same"
 |.move c h,x,s'=>s'=zM s c h/\x = "ok"
 |.post c to,x,s'=>∃os,kT (wc ns rs o s.ws (s.groups.getD c 0)) (s.R (s.groups.getD c 0)) os/\os.length<=12/\s'=Aq rs s c to os/\x=ik (cx s.ls)
 |.pass k,x,s'=>Ps o k s x s'
 |.run,x,s'=>∃k,Rn o s k s'/\s'.cps=[]/\x=ik k
 |.flying,x,s'=>s'=s/\x=ik (cx s.cps)
 |.had c,x,s'=>s'=s/\x=C7 (bN (s.had.getD c []))
 |.rE i,x,s'=>s'=s/\∃l,s.ls[i]?=ac l/\x=Txt.join ", " (l.aH.map λd=>C7 d.vs)
def Fits(ns:List Int)(rs:List R5)(s:NS):ou->Prop
 |.round g=>g<3
 |.rest g=>g<3
 |.row h g=>h<cx ns/\g<3
 |.Qe g=>g<3
 |.call h g=>h<cx ns/\g<3
 |.vP i y=>∃w r,s.ws[i]?=ac w/\rs[i]?=ac r/\y∈w
 |.lay i y=>∃w r,s.ws[i]?=ac w/\rs[i]?=ac r/\(y:Int)<r.d/\y∉w
 |.move c h=>c<s.aL.length/\h<cx ns
 |.post c to=>c<s.aL.length/\∀y,to=ac y->y<s.aL.length/\s.groups[y]?=s.groups[c]?
 |.pass k=>k<cx s.cps
 |.run=>True
 |.flying=>True
 |.had c=>c<s.aL.length
 |.rE i=>i<cx s.ls
variable{o}
theorem fD.eq2{a b:NS}(E:ng a b)(q:fD o g n a k a')(c:fD o g n b k' b'):k=k'/\ng a' b':=by induction q generalizing k' b' with|zero=>cases c;exact⟨2,E⟩|@succ n k s l d _ hd _ p=>(cases c with|@succ _ r _ i t c h _=>obtain⟨e,f⟩:=p E c;have m:l.ws=i.ws:=(by rw[f.e]);have j:l.R=i.R:=(by rw[f.e]);rw[m,j] at hd;have:=hd.uniq h;subst this;rw[j,e];exists 2,f.call)
theorem Ps.eq2{a b:NS}(E:ng a b)(s:Ps o k a x a')(i:Ps o k b y b'):x=y/\ng a' b':=by obtain⟨C,l,os,F,f,d,g,_,t,z,rfl,rfl⟩:=s;obtain⟨D,m,B,A,n,c,q,_,u,v,rfl,rfl⟩:=i;have r:a.ws=b.ws:=(by rw[E.e]);have h:a.R=b.R:=(by rw[E.e]);have w:a.ls=b.ls:=(by rw[E.e]);have j:a.cps=b.cps:=(by rw[E.e]);rw[j,n] at f;cases f;rw[w,c] at d;cases d;rw[r,h] at g;have:=g.uniq q;subst this;exists 2,E.pass c (t.trans ((HH (E.p l.grp)).trans u.symm)) z v
theorem Rn.eq2:∀{k:Nat}{a b d c:NS},ng a b->Rn o a k d->Rn o b k c->ng d c
 |0,_,_,_,_,E,.zero _,.zero _=>E
 |k+1,_,_,_,_,E,.succ f h,.succ g e=>(Ps.eq2 (Rn.eq2 E f g) h e).2
theorem Rn.cut{s:NS}(h:Rn o s k s'):∀j,j<k->∃t,Rn o s j t/\t.cps≠[]:=by induction h with|zero=>intro j a;exact b3 a (x8 _)|@succ k s c e x h p d=>(intro j a;rcases Nat.lt_succ_iff_lt_or_eq.mp a with a|rfl;exact d j a;exists c,h,λz=>?_;obtain⟨f,l,os,g,b,_⟩:=p;rw[z] at b;cases b)
theorem Rn.ends{a b:NS}(E:ng a b)(d:Rn o a k a')(f:Rn o b m b')(i:a'.cps=[])(j:b'.cps=[]):k=m/\ng a' b':=by have h:∀{a b:NS},ng a b->a.cps=b.cps:=λE=>(by rw[E.e]);have e:k=m:=(by rcases Nat.lt_trichotomy k m with z|z|z;obtain⟨t,c,g⟩:=f.cut k z;exact b3 ((h (Rn.eq2 E d c)).symm.trans i) g;exact z;obtain⟨t,c,g⟩:=d.cut m z;exact b3 ((h (Rn.eq2 E c f)).trans j) g);subst e;exists 2,Rn.eq2 E d f
theorem Ca.eq2{a b:NS}(E:ng a b)(j:Ca o a c x a')(f:Ca o b c y b'):x=y/\ng a' b':=by have s:a.ws=b.ws:=(by rw[E.e]);have q:a.R=b.R:=(by rw[E.e]);have G:a.ls=b.ls:=(by rw[E.e]);have H:a.cps=b.cps:=(by rw[E.e]);have O:a.groups=b.groups:=(by rw[E.e]);have L:a.had=b.had:=(by rw[E.e]);cases c with|round g=>obtain⟨k,l,rfl⟩:=j;obtain⟨m,p,rfl⟩:=f;obtain⟨rfl,C⟩:=fD.eq2 E l p;exact⟨2,C⟩|rest g=>obtain⟨rfl,u,n,rfl⟩:=j;obtain⟨rfl,v,A,rfl⟩:=f;rw[s,q] at n;have:u=v:=kr.mpr (n.trans A.symm);exact⟨by rw[this],E⟩|row h g=>obtain⟨rfl,rfl⟩:=j;obtain⟨rfl,rfl⟩:=f;exact⟨by rw[q],E⟩|Qe g=>obtain⟨rfl,u,n,rfl⟩:=j;obtain⟨rfl,v,A,rfl⟩:=f;rw[s,q] at n;exact⟨by rw[n.uniq A],E⟩|call h g=>obtain⟨d,hd,_,rfl,rfl⟩:=j;obtain⟨W,D,_,rfl,rfl⟩:=f;rw[s,q] at hd;have:=hd.uniq D;subst this;exact⟨by rw[q],E.call⟩|vP i z=>obtain⟨w,r,t,l,rfl,rfl⟩:=j;obtain⟨J,P,B,p,rfl,rfl⟩:=f;rw[s,B] at t;cases t;rw[p] at l;cases l;exact⟨2,E.vP⟩|lay i z=>obtain⟨w,r,u,t,l,N,T,rfl,rfl⟩:=j;obtain⟨J,P,v,B,p,Q,U,rfl,rfl⟩:=f;rw[s,B] at t;cases t;rw[p] at l;cases l;have:u=v:=(N.trans Q.symm).eq_of_pairwise (λ_ _ _ _ h M=>Nat.le_antisymm h M) T U;subst this;exact⟨2,E.lay⟩|move c h=>obtain⟨rfl,rfl⟩:=j;obtain⟨rfl,rfl⟩:=f;exact⟨2,E.move⟩|post c V=>obtain⟨os,F,_,rfl,rfl⟩:=j;obtain⟨X,I,_,rfl,rfl⟩:=f;rw[s,q,O] at F;have:=F.uniq I;subst this;exact⟨by rw[G],E.post⟩|pass k=>exact Ps.eq2 E j f|run=>obtain⟨k,l,S,rfl⟩:=j;obtain⟨m,p,K,rfl⟩:=f;obtain⟨rfl,C⟩:=Rn.ends E l p S K;exact⟨2,C⟩|flying=>obtain⟨rfl,rfl⟩:=j;obtain⟨rfl,rfl⟩:=f;exact⟨by rw[H],E⟩|had c=>obtain⟨rfl,rfl⟩:=j;obtain⟨rfl,rfl⟩:=f;exact⟨by rw[L],E⟩|rE i=>obtain⟨rfl,u,n,rfl⟩:=j;obtain⟨rfl,v,A,rfl⟩:=f;rw[G,A] at n;cases n;exists 2,E
end
section
variable{ns:List Int}{rs:List R5}{o:dS ns rs}{bs:List (List Bool)}{cl:List (Nat×Nat)}{D B n:Nat}{s s':NS}
theorem ZO(b:s'.cps.length<=cx s.cps)(a:ZJ s'=ZJ s):Ph n rs s'<=Ph n rs s:=by have e:∀s:NS,Ph n rs s=s.cps.length+((ZJ s).map (ET n rs)).sum:=λs=>(by unfold Ph ZJ;rw[cz];rfl);rw[e,e,a];lia
theorem Xr:Ph n rs (tO s g x d)<=Ph n rs s:=by unfold tO;split;exact az _;exact ZO (az _) Ie
theorem AC:Ph n rs (zM s x y)<=Ph n rs s:=by unfold zM;split;exact az _;exact ZO (az _) Ie
theorem Ap:Ph n rs (zL s i x w e)<=Ph n rs s:=by have a:Ph n rs (tN {s with ws:=s.ws.set i (w.filter λz=>decide (z≠x))} i x)<=Ph n rs s:=ZO (bM _ _) (Xp (s:={s with ws:=s.ws.set i (w.filter λz=>decide (z≠x))}));unfold zL;split;exact aE (ZO (by rw[NH];exact az _) (Hr 3)) a;exact a
theorem v0:Ph n rs (KE s i w w2 e)<=Ph n rs s:=by unfold KE;split;exact ZO (by rw[NH];exact az _) (Hr (s:={s with ws:=s.ws.set i w2}) 3);exact az _
structure TB(ns:List Int)(rs:List R5):Prop where
 n:∀x∈ns,x<10^50
 c:∀r∈rs,r.c<=10^41
def RB(ns:List Int)(s:NS):Prop:=∀g,g<3->∀h,h<cx ns->(s.R g h).hd<10^50/\(s.R g h).co<=(s.R g h).ho*10^41
theorem Xs{e:Int}:∀m,(je s e m).R=s.R
 |0=>rfl
 |m+1=>by
  have a:=Xs (e:=e) m;rw[lB];split <;> exact a
theorem RB.of(h:RB ns s)(e:s'.R=s.R):RB ns s':=by unfold RB;rw[e];exact h
theorem am8{g x:Nat}(f:TB ns rs)(h:RB ns s)(i:g<3)(b:x<cx ns)(hd:RM.zS (N:=wc ns rs o s.ws g) (cx ns) (s.R g) x d):d.hd<10^50/\d.co<=d.ho*10^41:=by rcases hd.one with rfl|⟨k,y,a,_,rfl⟩;exists 4,Int.le_refl _;show ns.getD x 0<_;rw[ao,aa b];exact f.n _ (aD b);obtain⟨j,l⟩:=h g i y a.lt.2.1;exists j,4;have e:k<cx rs:=yr k a.1;have m:=f.c _ (aD e);show (s.R g y).co+((rs[k]?).map λr=>r.c).getD 0<=((s.R g y).ho+1)*10^41;rw[aa e,Int.add_mul];show (s.R g y).co+rs[k].c<=_;lia
theorem RB.call{g x:Nat}(i:TB ns rs)(h:RB ns s)(b:g<3)(e:x<cx ns)(hd:RM.zS (N:=wc ns rs o s.ws g) (cx ns) (s.R g) x d):RB ns (tO s g x d):=by have c:=am8 i h b e hd;unfold tO;split;exact h;intro k f y a;show (fO s.R g (RM.upd (s.R g) x d) k y).hd<_/\(fO s.R g (RM.upd (s.R g) x d) k y).co<=(fO s.R g (RM.upd (s.R g) x d) k y).ho*_;unfold fO;split;unfold RM.upd;split;exact c;exact h g b y a;exact h k f y a
def kL(d:k6):Prop:=∀k∈dI d,0<=k/\k<=1000
structure IV(s:NS):Prop where
 hb:∀w∈s.had,∀i∈w,i<cx s.ls
 db:∀l∈s.ls,∀d∈l.aH,kL d
theorem IV.of(h:IV s)(b:s'.had=s.had)(a:cx s'.ls=s.ls.length)(e:∀c∈s'.ls,∀d∈c.aH,kL d):IV s':=⟨by rw[b,a];exact h.hb,e⟩
theorem IV.news(h:IV s)(g:Nat):IV (C5 s g):=by refine h.of rfl (KH Ie) λc a=>?_;obtain⟨l,b,rfl⟩:=aF.mp a;have:(Hh g l).aH=l.aH:=(by unfold Hh;split <;> rfl);rw[this];exact h.db l b
theorem IV.je(h:IV s)(e:Int):∀m,IV (je s e m)
 |0=>h
 |m+1=>by
  rw[lB];split
  ·exact (h.je e m).news m
  ·exact h.je e m
theorem ajJ(h:∀l∈s.ls,∀d∈l.aH,kL d)(b:kL d):∀l∈(dJ s i d).ls,∀d∈l.aH,kL d:=by refine ON (P:=λl=>∀d∈l.aH,kL d) (Q:=λl=>∀d∈l.aH,kL d) h (λl z=>z) (λl z e a=>?_);rcases bh.mp a with y|y;exact z e y;rw[aZ.mp y];exact b
theorem IV.lose(h:IV s){i:Nat}(m:i<=1000)(f:∀c∈s.cps,c.h<=1000):IV (tN s i x):=by have e:∀(cs:List Cp)(b:NS),(∀c∈cs,c.h<=1000)->(∀l∈b.ls,∀d∈l.aH,kL d)->∀l∈(cs.foldl (tM i x) b).ls,∀d∈l.aH,kL d:=λcs=>(by induction cs with|nil=>exact λb _ z=>z|cons c cs g=>intro b a z;rw[gF];refine g _ (λc f=>a c (aR _ f)) ?_;unfold tM;split;have:=a c aP;refine ajJ z λk j=>?_;have:k=(c.h:Int)∨k=(i:Int):=(by simpa [dI] using j);lia;exact z);exact h.of (Hq (s:=s) (i:=i) (x:=x) (cx s.cps) (az _)).2.2.2.2.2 (KH Xp) (e _ _ (λc z=>f c (List.mem_of_mem_take z)) h.db)
theorem ZP{n i h:Nat}(b:i<n):∀(cs:List Nat)(s:NS),(∀w∈s.had,∀k∈w,k<n)->∀w∈(cs.foldl (lY i h) s).had,∀k∈w,k<n
 |[],s,z=>z
 |c::cs,s,z=>by
  rw[gF];refine ZP b cs _ ?_;have e:(lY i h s c).had=s.had.set c (s.had.getD c []++[i]):=KG.2.2.2.2.2;rw[e];intro w f k d;rcases eY f with y|rfl
  ·exact z w y k d
  ·rcases bh.mp d with y|y
   ·rw[ao] at y
    cases a:s.had[c]? with
    |none=>rw[a] at y;cases y
    |some w=>rw[a] at y;exact z w (aQ a) k y
   ·rw[aZ.mp y]
    exact b
theorem VL{i h:Nat}:∀(a:List Nat)(s:NS),(a.foldl (rD rs i h) s).had=s.had
 |[],s=>rfl
 |r::a,s=>by
  rw[gF,VL a];exact KG.2.2.2.2.2
theorem IV.do_(h:IV s){i y:Nat}{os:List Nat}(hl:s.ls[i]?=ac l)(v:y<=1000)(x:s.aL.length<=20)(j:∀r∈os,r<=1000)(q:∀r k,tQ s.ws r k<=1000):IV (VG rs s i y l cH os):=by have m:=(ai.mp hl).1;obtain⟨t,f⟩:=ZF (rs:=rs) (os:=os) (h:=y) (cH:=cH) hl;have g:(VG rs s i y l cH os).ls.length=s.ls.length:=(by rw[f];exact bC);exists by rw[g];unfold VG;rw[VL];exact ZP m _ _ h.hb,λn a d e k b=>?_;rw[f] at a;rcases eY a with z|rfl;exact h.db n z d e k b;rcases bh.mp e with z|z;exact h.db l (aQ hl) d z k b;rcases bh.mp z with z|z;obtain⟨c,o,rfl⟩:=aF.mp z;have:=Su.1 c o;have:k=(y:Int)∨k=(c:Int):=(by simpa [dI] using b);lia;obtain⟨r,p,rfl⟩:=aF.mp z;have w:=j r (Xl.1 r p);have u:=q r (vN l);have:k=(y:Int)∨k=(r:Int)∨k=(tQ s.ws r (vN l):Int):=(by simpa [dI] using b);lia
theorem zt(o:dS ns rs)(h:SD ns rs bs cl D s)(r k:Nat):tQ s.ws r k<=1000:=by unfold tQ;cases e:s.ws[r]? with|none=>exact bA _|some w=>(show w.getD _ 0<=_;rw[ao];cases d:w[k%w.length]? with|none=>exact bA _|some x=>(show x<=1000;rw[h.ws,ak] at e;cases c:bs[r]? with|none=>rw[c] at e;cases e|some b=>rw[c] at e;cases e;have f:=oF.mp (aQ d);have g:=(ai.mp f).1;have a:r<cx rs:=(by rw[<- h.fit.1];exact (ai.mp c).1);have:=h.fit.2 r _ b (aa a) c;have:=(o.ok _ (aD a)).d4;lia))
theorem IV.post(h:IV s){os:List Nat}(m:s.aL.getD x 0<=1000)(j:s.aL.length<=20)(c:∀r∈os,r<=1000)(f:∀r k,tQ s.ws r k<=1000):IV (Aq rs s x to os):=by have b:(xu s x to).ls.length=s.ls.length+1:=(by show (s.ls++[_]).length=_;rw[av];rfl);refine IV.do_ (s:=xu s x to) ⟨λw z i e=>?_,λl b d a=>?_⟩ xV m j c f;rw[b];exact Nat.lt_succ_of_lt (h.hb w z i e);rcases bh.mp b with z|z;exact h.db l z d a;rw[aZ.mp z] at a;rw[aZ.mp a];intro k g;have:k=((s.aL.getD x 0:Nat):Int):=(by simpa [dI] using g);lia
theorem IV.pass(h:IV s){cp:Cp}{os:List Nat}(hl:s.ls[cp.l]?=ac l)(p:cp.h<=1000)(q:cp.r<=1000)(o:s.aL.length<=20)(j:∀r∈os,r<=1000)(n:∀r k,tQ s.ws r k<=1000):IV (oq rs s a cp l os ts):=by have c:IV (oV s a cp l os):=(by refine h.of rfl bC λm f d g=>?_;rcases eY f with z|rfl;exact h.db m z d g;·rcases bh.mp g with z|z;exact h.db l (aQ hl) d z;·rw[aZ.mp z];intro k b;have:k=(cp.h:Int)∨k=(cp.r:Int):=(by unfold tF at b;split at b;(·split at b <;> simpa [dI] using b);simpa [dI] using b);lia);have i:IV (eG s a cp l os ts):=(by unfold eG;split;exact c;exact c.of rfl rfl c.db);have e:(eG s a cp l os ts).ws=s.ws/\(eG s a cp l os ts).aL=s.aL:=(by unfold eG;split <;> exists 22);unfold oq;split;exact i.do_ (vO hl) p (by rw[e.2];exact o) j (by rw[e.1];exact n);exact c
def SK(ns:List Int)(rs:List R5)(bs:List (List Bool))(cl:List (Nat×Nat))(B:Nat)(s:NS):Prop:=∃D,SD ns rs bs cl D s/\D+100*Ph (cx ns) rs s<=B/\RB ns s/\IV s
theorem SK.mono{a:Nat}(h:SK ns rs bs cl B s)(e:B<=a):SK ns rs bs cl a s:=by obtain⟨D,c,d,b⟩:=h;exists D,c,aE d e,b
theorem SK.call{g x:Nat}(k:TB ns rs)(h:SK ns rs bs cl B s)(b:g<3)(c:x<cx ns)(f:RM.zS (N:=wc ns rs o s.ws g) (cx ns) (s.R g) x d)(i:Ay (cx ns) (cx rs) d):SK ns rs bs cl B (tO s g x d):=by obtain⟨D,j,l,e,a⟩:=h;have:=Xr (n:=ns.length) (rs:=rs) (s:=s) (g:=g) (x:=x) (d:=d);exists D,j.call i,6,e.call k b c f,4;unfold tO;split;exact a;exact IV.news (s:={s with R:=fO s.R g (RM.upd (s.R g) x d)}) ⟨a.hb,a.db⟩ g
theorem SK.rnd{g m:Nat}(d:TB ns rs)(h:SK ns rs bs cl B s)(c:g<3)(f:m<=cx ns)(r:fD o g m s k s'):SK ns rs bs cl B s':=by induction r with|zero=>exact h|succ _ b a e=>exact (e h ∅).call d c ∅ b a
theorem am9{cp:Cp}{os:List Nat}(hl:s.ls[cp.l]?=ac l):(oq rs s a cp l os ts).R=s.R:=by unfold oq;split;obtain⟨c,b,d,e⟩:=LR (s:=s) (a:=a) (cp:=cp) (l:=l) (os:=os) (ts:=ts);exact (Xo (rs:=rs) (h:=cp.h) (cH:=ac cp.r) (os:=os) (vO (a:=a) (os:=os) (ts:=ts) hl)).2.1.trans b;rfl
theorem ub{os:List Nat}(O:kT (wc ns rs o s.ws g) (s.R g) os):∀r∈os,r<=1000:=λr a=>by
 have:=QB O r a
 have:=o.Wn
 lia
theorem SK.ps(h:SK ns rs bs cl B s)(p:Ps o k s x s'):SK ns rs bs cl B s'/\Ph (cx ns) rs s'+1<=Ph (cx ns) rs s:=by obtain⟨D,b,q,f,j⟩:=h;obtain⟨i,l,os,ts,c,a,O,d,n,e,rfl,rfl⟩:=p;have g:=b.bd.cl i (aQ c);have m:=ajx (ts:=ts) (Fo.of O) c a g.2.2;exists ⟨D+100,b.pass o a (ai.mp c).1 O d n e,6,f.of (am9 a),j.pass a (by have:=o.QO;lia) (by have:=o.Wn;lia) b.bd.xr (ub O) (zt o b)⟩,m
theorem SK.rn(h:SK ns rs bs cl B s)(r:Rn o s k s'):SK ns rs bs cl B s':=by induction r with|zero=>exact h|succ _ p a=>exact ((a h).ps p).1
theorem ana:(zL s i x w e).R=s.R:=by have a:(tN {s with ws:=s.ws.set i (w.filter λz=>decide (z≠x))} i x).R=s.R:=(Hq (s:={s with ws:=s.ws.set i (w.filter λz=>decide (z≠x))}) (i:=i) (x:=x) (cx s.cps) (az _)).2.1;unfold zL;split;exact (Xs 3).trans a;exact a
theorem SF:(KE s i w w2 e).R=s.R:=by unfold KE;split;exact Xs (s:={s with ws:=s.ws.set i w2}) 3;rfl
noncomputable def k4(bs:List (List Bool)):ou->List (List Bool)
 |.vP i x=>bs.set i ((bs.getD i []).set x al)
 |.lay i x=>bs.set i ((bs.getD i []).set x ag)
 |_=>bs
noncomputable def il:ou->Nat
 |.post _ _=>1
 |_=>0
theorem SD.wire{i:Nat}(h:SD ns rs bs cl D s)(a:s.ws[i]?=ac w):∃b,bs[i]?=ac b/\w=c4 b/\bs.getD i []=b:=by rw[h.ws,ak] at a;cases e:bs[i]? with|none=>rw[e] at a;cases a|some b=>rw[e] at a;cases a;exists b,22,by rw[ao,e];rfl
theorem SK.ahl(J:TB ns rs)(h:SK ns rs bs cl B s)(f:Fits ns rs s c)(d:Ca o s c x s'):∃q,SK ns rs (k4 bs c) q (B+5000) s'/\q.map (·.2)=cl.map (·.2):=by have hm:=h.mono (vQ B 5000);cases c with|round g=>obtain⟨k,r,_⟩:=d;exact⟨cl,hm.rnd J f (az _) r,2⟩|rest g=>obtain⟨rfl,_⟩:=d;exact⟨cl,hm,2⟩|row h g=>obtain⟨rfl,_⟩:=d;exact⟨cl,hm,2⟩|Qe g=>obtain⟨rfl,_⟩:=d;exact⟨cl,hm,2⟩|call h g=>obtain⟨d,Q,F,rfl,_⟩:=d;exact⟨cl,hm.call J f.2 f.1 Q F,2⟩|vP i z=>obtain⟨w,r,v,A,rfl,_⟩:=d;obtain⟨D,a,G,m,j⟩:=hm;obtain⟨b,hb,rfl,E⟩:=a.wire v;have:=Ap (n:=ns.length) (rs:=rs) (s:=s) (i:=i) (x:=z) (w:=c4 b) (e:=r.e);exact⟨cl,⟨D,by show SD ns rs (bs.set i ((bs.getD i []).set z al)) _ _ _;rw[E];exact a.vP o hb r.e,6,m.of ana,by have M:i<=1000:=(by have:=(ai.mp A).1;have:=o.Wn;lia);have t:IV (tN {s with ws:=s.ws.set i ((c4 b).filter λy=>decide (y≠z))} i z):=IV.lose (s:={s with ws:=s.ws.set i ((c4 b).filter λy=>decide (y≠z))}) ⟨j.hb,j.db⟩ M λc u=>(by have:=(a.bd.cl c u).2.2;have:=o.QO;lia);unfold zL;split;exact t.je r.e 3;exact t⟩,2⟩|lay i z=>obtain⟨w,r,w2,v,A,N,P,rfl,_⟩:=d;obtain⟨S,T,L,K,V,I⟩:=f;rw[v] at L;cases L;rw[A] at K;cases K;obtain⟨D,a,G,m,j⟩:=hm;obtain⟨b,hb,rfl,E⟩:=a.wire v;have U:(b.length:Int)=r.d:=a.fit.2 i r b A hb;have C:b[z]?=ac al:=(by have p:z<b.length:=∅;rw[oF,aa p] at I;rw[aa p];cases e:b[z] with|false=>rfl|true=>rw[e] at I;exact b3 rfl I);have R:=adZ C N P;subst R;have:=v0 (n:=ns.length) (rs:=rs) (s:=s) (i:=i) (w:=c4 b) (w2:=c4 (b.set z ag)) (e:=r.e);exact⟨cl,⟨D,by show SD ns rs (bs.set i ((bs.getD i []).set z ag)) _ _ _;rw[E];exact a.lay o hb r.e,6,m.of SF,by have t:IV {s with ws:=s.ws.set i (c4 (b.set z ag))}:=⟨j.hb,j.db⟩;unfold KE;split;exact t.je r.e 3;exact t⟩,2⟩|move c y=>obtain⟨rfl,_⟩:=d;obtain⟨D,a,G,m,j⟩:=hm;have u:c<cl.length:=(by have:=f.1;rw[a.hm,ah] at this;exact this);have:=AC (n:=ns.length) (rs:=rs) (s:=s) (x:=c) (y:=y);exists cl.set c (y,cl[c].2),⟨D,a.move u f.2,6,m.of (by unfold zM;split <;> rfl),by unfold zM;split;exact j;exact IV.news (s:={s with aL:=s.aL.set c y}) ⟨j.hb,j.db⟩ _⟩,4;rw[rH];refine yu ?_;rw[ak,aa u];rfl|post c to=>obtain⟨os,O,H,rfl,_⟩:=d;obtain⟨D,a,G,m,j⟩:=h;have F:s.aL.getD c 0<cx ns:=(by rw[ao,aa f.1];exact a.bd.hm _ (aD f.1));have:=FK (to:=to) (Fo.of O) F;have:=o.Wn;exact⟨cl,⟨D+100,a.post o f.1 O H,6,m.of (Xo (rs:=rs) (s:=xu s c to) (i:=s.ls.length) (l:={tE s c to with aH:=[.post (s.aL.getD c 0)]}) xV).2.1,j.post (by have:=o.QO;lia) a.bd.xr (ub O) (zt o a)⟩,2⟩|pass k=>exact⟨cl,(hm.ps d).1,2⟩|run=>obtain⟨k,r,_⟩:=d;exact⟨cl,hm.rn r,2⟩|flying=>obtain⟨rfl,_⟩:=d;exact⟨cl,hm,2⟩|had c=>obtain⟨rfl,_⟩:=d;exact⟨cl,hm,2⟩|rE i=>obtain⟨rfl,_⟩:=d;exists cl,hm,2
theorem fD.ln(r:fD o g m s k s'):cx s'.ls=s.ls.length/\k<=m:=by induction r with|zero=>exact⟨2,az _⟩|@succ n k s b d _ _ _ a=>exists ada.trans a.1,4;have:=a.2;split <;> lia
theorem Rn.ln(r:Rn o s k s'):cx s'.ls=s.ls.length:=by induction r with|zero=>rfl|succ _ p b=>obtain⟨d,l,os,c,_,a,_,_,_,_,rfl,_⟩:=p;exact (ZK a).trans b
theorem Ca.ln(d:Ca o s c x s'):cx s'.ls=s.ls.length+il c:=by cases c with|round g=>obtain⟨k,r,_⟩:=d;exact r.ln.1|rest g=>obtain⟨rfl,_⟩:=d;rfl|row h g=>obtain⟨rfl,_⟩:=d;rfl|Qe g=>obtain⟨rfl,_⟩:=d;rfl|call h g=>obtain⟨d,_,_,rfl,_⟩:=d;exact ada|vP i z=>obtain⟨w,r,_,_,rfl,_⟩:=d;exact ajB|lay i z=>obtain⟨w,r,e,_,_,_,_,rfl,_⟩:=d;exact amV|move c y=>obtain⟨rfl,_⟩:=d;exact ajA|post c b=>obtain⟨os,_,_,rfl,_⟩:=d;exact ahi|pass k=>obtain⟨f,l,os,j,_,a,_,_,_,_,rfl,_⟩:=d;exact ZK a|run=>obtain⟨k,r,_⟩:=d;exact r.ln|flying=>obtain⟨rfl,_⟩:=d;rfl|had c=>obtain⟨rfl,_⟩:=d;rfl|rE i=>obtain⟨rfl,_⟩:=d;rfl
end
section
variable{P:bv}{w:World}{K:af}{mg:Str->Option ap}{base:Heap}
inductive Xu:V->Prop
 |fW:Xu .fW
 |int {i:Int} (h:TX.Wr i):Xu (.int i)
 |str {z:Str} (h:z.length<=60):Xu (.str z)
theorem vT(h:TX.Wr i):i.natAbs.log2<1920:=by obtain⟨a,b⟩:=h;refine bK (Nat.le_of_lt_succ ?_) (show 200<1920 by decide);by_cases z:i.natAbs=0;rw[z];decide;rw[Nat.log2_lt z];have:i.natAbs<10^60:=∅;exact Nat.lt_trans this (!_)
theorem ZB(h:Xu v):(eH v).length<=60:=by cases h with|fW=>decide|int h=>exact (TX.HK h).2|str h=>exact h
inductive NJ(vs:List V)(H:Hp)(Q:VK)(E:XK):Prop
 |mk(v:V):vs=[v]->Xu v->Q (.str (eH v)) H->NJ vs H Q E
theorem uJ(T:Txt K mg w t):bu P w K mg base iJ 1 t.CI t.HV ["told"] NJ:=by refine T.ur.F.jB aa5 λH Q E c h=>?_;·obtain⟨v,rfl,b,k⟩:=h;exists _,(oR (jl (qT m4 (pv 0) ny) au (eK aeb (by rfl) T.aoQ boot_str (dg (pv 0))))),4;left;exists 174;cases b with|fW=>exact cS k|int a=>exact qS (c5 λz=>by cases z) ⟨1,.inl ⟨1,vT a,k⟩⟩|str d=>exact qS (c5 λz=>by cases z) ⟨1,.inr ⟨1,k⟩⟩
theorem Ig{J:It}{n:Nat}{k:List (Option Nat)}{g:TG}{B:TT}{te:TE}{z:L2.St}{A:Hp->Prop}{h:Hp}{c:am}(v:Nat->V)(f:Nat->V)(e:h c=ae)(go:∀i H,i<n->aB h H->J.go i H)(stop:∀H,aB h H->J.stop n H)(Mc:∀i H x a,i<n->aB h H->J.Mc i H x a->a=H/\x=v i)(D:n<=1000000)(step:∀(i:Nat)(H:Hp)(R:V->Hp->Prop)(S:Hp->Prop),i<n->aB h H->(∀a,aB H a->R (f i) a) ->g (v i) (fU k z) H λd r=>B d r λb l=>if b=ag then te d l R else S l)(u:∀H,aB h H->H c=ac (.lst ((ay n).map f))->A H) :∃W:Nat->Nat->Hp->Prop,(∃m,W 0 m (upd h c (.lst [])))/\∀i m H,W i m H ->(J.stop i H/\A H)∨(J.go i H/\∀x a,J.Mc i H x a->g x (fU k z) a λd r=>B d r λb l=>if b=ag then te d l λy t=>∃xs,t c=ac (.lst xs)/\xs.length<a9 /\∃j,j<m/\W (i+1) j (upd t c (.lst (xs++[y]))) else ∃j,j<m/\W (i+1) j l):=by refine jA (n:=n) (λi p _=>p=(ay i).map f) e go stop rfl ?_ ?_;rintro i p H o s q rfl x a C;obtain⟨rfl,rfl⟩:=Mc i H x a o s C;refine step i a _ _ o s (λt w=>?_);refine gG e o (s.trans w) (w _ _ q) (by rw[ah,bI,sizeLine_eq];lia) ?_;show _=(ay (i+1)).map f;rw[iK,bx];rfl;rintro p H s q rfl;exact u H s q
theorem map_getD{a:Type}{xs:List V}(f:V->a):(ay (cx xs)).map (λi=>f (xs.getD i .fW))=xs.map f:=by refine vR (-_) λi c b=>?_;simp only[List.getElem_map,List.getElem_range,ao];rw[aa (by simpa using b)];rfl
theorem aeB{ys:List Str}{z:Str}(h:∀y∈ys,y.length<=60)(hl:ys.length<=210000)(d:z.length<=2):(ys.map (·.length)).sum+ys.length*z.length<=16777216:=by have a:=TX.JI (l:=ys.map (·.length)) (B:=60) λx c=>(by obtain⟨y,b,rfl⟩:=aF.mp c;exact h y b);rw[ah] at a;have e:ys.length*z.length<=ys.length*2:=Nat.mul_le_mul_left _ d;lia
inductive ZQ(K:af)(vs:List V)(H:Hp)(Q:VK)(E:XK):Prop
 |mk(a:am)(xs:List V):vs=[.ref a]->(bH K H a xs∨dY K H a xs)->(∀x∈xs,Xu x)->xs.length<=210000->(∀H',aB H H'->Q (.str (C7 xs)) H')->ZQ K vs H Q E
theorem rF(T:Txt K mg w t):bu P w K mg base iJ 2 t.Ga t.Ld ["numbers"] (ZQ K):=by refine T.sR.F.jB Vc λH Q E B h=>?_;·obtain⟨a,c,rfl,hS,s,u,k⟩:=h;exists _,(oR (jl (Mp (pv 0) (λ_=>rfl)) (mX cX Ce Cd PZ au (dg (fN (kO Vc ["number"] [ae]) rfl (al1 (dZ (pv 0)) (na (pv 0))) (λ_ _ _ _=>by exact (gS 0 Wz)) (λ_ _ _ _=>by exact gk) (λ_ _ _ _=>by exact (cG (uJ T) B T.ur (dg (pv 0))))))) au)),4;left;exists 1,!c.isEmpty,hS.elim (λz=>.inl ⟨c,z,2⟩) (λz=>.inr (.inl ⟨c,z,2⟩)),4;cases e:c.isEmpty with|true=>refine dh ?_;have:=k H (aB.refl _);unfold C7 at this;rw[e] at this;exact this|false=>(refine cS ?_;have A:C7 c=Txt.join TX.lN (c.map eH):=(by unfold C7;rw[e];rfl);rw[A] at k;exists 24;have o:∀(i:Nat) (b:Hp) (R:V->Hp->Prop),i<c.length->(∀r,aB b r->R (.str (eH (c.getD i .fW))) r)->NJ [c.getD i .fW] b R λ_ _ _=>False:=λi b R l p=>(by exists 14,p b (aB.refl _);rw[ao,aa l];exact s _ (aD l));have q:∀(d:am) (b:Hp),aB H b->b d=ac (.lst ((ay c.length).map λi=>cm (eH (c.getD i .fW))))->eQ K (.str " ") [.ref d] b Q:=λd b j m=>(by rw[map_getD λv=>cm (eH v)] at m;exists _,d,c.map eH,22,bH.of (by rw[cz];exact m),aeB (λy m=>?_) (by rw[ah];exact u) (!_),k b j;obtain⟨x,f,rfl⟩:=aF.mp m;exact ZB (s x f));rcases hS with hS|hS;refine .inl ⟨1,a,2,⟨_,hS⟩,λd g=>?_⟩;refine Ig (n:=c.length) (λi=>c.getD i .fW) (λi=>cm (eH (c.getD i .fW))) g (vY hS) (lK hS) (λi b x C l j f=>?_) ∅ (λi b R S l j p=>?_) (λb j m=>q d b j m);obtain⟨rfl,f⟩:=f;have f:=f _ (j.seq hS);exact⟨2,by rw[ao,f];rfl⟩;exists 1,o i b R l p;refine .inr ⟨1,a,2,⟨_,hS⟩,λd g=>?_⟩;refine Ig (n:=c.length) (λi=>c.getD i .fW) (λi=>cm (eH (c.getD i .fW))) g (ot hS) (QA hS) (λi b x C l j f=>?_) ∅ (λi b R S l j p=>?_) (λb j m=>q d b j m);obtain⟨rfl,f⟩:=f;have f:=f _ (j.iA hS);exact⟨2,by rw[ao,f];rfl⟩;exists 1,o i b R l p)
noncomputable def ou.vals:ou->List V
 |.round g=>[.int g]|.rest g=>[.int g]|.row h g=>[.int h,.int g]|.Qe g=>[.int g]|.call h g=>[.int h,.int g]|.vP i x=>[.int i,.int x]|.lay i x=>[.int i,.int x]|.move c h=>[.int c,.int h]|.post c to=>[.int c,Mv (to.map λy:Nat=>(y:Int))]|.pass k=>[.int k]|.run=>[]|.flying=>[]|.had c=>[.int c]|.rE i=>[.int i]
noncomputable def ou.kd:ou->Nat
 |.call _ _=>0|.round _=>1|.rest _=>2|.row _ _=>3|.Qe _=>4|.vP _ _=>5|.lay _ _=>6|.move _ _=>7|.post _ _=>8|.pass _=>9|.run=>10|.flying=>11|.had _=>12|.rE _=>13
noncomputable abbrev NE(tp:am)(loc:Role->am):List (Str×V):=[("town",.ref tp),("strands",.ref (loc .bZ)),("rows_by_group",.ref (loc .yq)),("books",.ref (loc .mP)),("homes",.ref (loc .aL)),("groups",.ref (loc .groups)),("handed",.ref (loc .jR)),("letters",.ref (loc .cJ)),("copies",.ref (loc .fJ))]
theorem _root_.TW.dH.ob(N:dH K c H F p tp n s):∃(d:am)(a:Role->am),H p=ac (.ins c.cj d (NE tp a)):=by obtain⟨a,d,q,e,O,f,g⟩:=N;have b:=O.get .cj _ rfl;rw[e] at b;exists _,a,b
inductive xw(K:af)(CT:am)(c:NC)(m:Nat)(vs:List V)(H:Hp)(Q:VK)(E:XK):Prop
 |mk(F:am->Prop)(p tp ln lr l:am)(ns:List Int)(rs:List R5)(o:dS ns rs)(bs:List (List Bool))(cl:List (Nat×Nat))(B:Nat)(s:NS)(cmd:ou):vs=[.ref p,.ref l]->cmd.kd=m->bH K (Off H F) l cmd.vals->NW K c CT H F p tp ln lr ns rs s->TB ns rs->SK ns rs bs cl B s->B<=205000->Fits ns rs s cmd->(∀a s' F' H',Ca o s cmd a s'->dH K c H' F' p tp (cx ns) s'->Step H F H' F'->Q (.str a) H')->xw K CT c m vs H Q E
theorem Cb{n:Nat}(h:n<=1000000):TX.Wr (n:Int):=⟨Int.natCast_nonneg _,by have:((1000000:Nat):Int)<10^60:=(by decide);lia⟩
theorem zr{l:List Nat}{B:Nat}(a:B<=1000000)(h:∀x∈l,x<=B):∀x∈bN l,Xu x:=λx b=>by
 obtain⟨k,c,rfl⟩:=aF.mp b;exact .int (Cb (aE (h k c) a))
theorem Sw(T:Txt K mg w t):bu P w K mg base iJ 5 t.gv t.pZ ["net","numbers"] (xw K t.aK (nc t) 0):=by refine T.u0.F.jB FQ λH Q E C h=>?_;·obtain⟨F,p,r,y,v,l,A,L,o,M,X,B,s,a,rfl,I,c,N,Y,G,S,f,k⟩:=h;obtain⟨x,g,W⟩:∃x g,a=.call x g:=(by cases a <;> first|exact⟨5⟩|cases I);subst a;exists _,(oR (jl (j3 (cM (pv 0) T.aW T.nW (OL T) C (dX (xL (pv 1) aC) (xL (pv 1) aC)))) au au)),4;left;obtain⟨V,z,u⟩:=N.cj.ob;obtain⟨D,J,U,Z,O⟩:=id G;have c:=cK.seq c;exists 1,p,5,u,7,l,8,c,7,l,8,c,2,F,p,r,y,v,A,L,s,o,x,g,2,N,J.ok,f.1,f.2,λd n m j q i b _=>⟨14⟩;by_cases e:d=s.R g x;rw[b6 e];exact dh (k _ _ n m ⟨d,j,q,2,by rw[b4 e]⟩ i b);rw[c5 e];exact cS (k _ _ n m ⟨d,j,q,2,by rw[b5 e]⟩ i b)
theorem Sx(T:Txt K mg w t):bu P w K mg base iJ 6 t.gw t.p5 ["net","numbers"] (xw K t.aK (nc t) 2):=by refine T.vc.F.jB FT λH Q E u h=>?_;·obtain⟨F,p,i,n,m,l,r,A,o,C,O,B,s,a,rfl,x,c,N,R,v,I,f,k⟩:=h;obtain⟨g,M⟩:∃g,a=.rest g:=(by cases a <;> first|exact⟨1⟩|cases x);subst a;exists _,(oR (jl (j3 (cM (pv 0) T.aW T.qj (Sm T) u (dg (xL (pv 1) aC)))) au au)),4;left;obtain⟨L,q,j⟩:=N.cj.ob;obtain⟨D,z,J,S,G⟩:=id v;have c:=cK.seq c;exists 1,p,5,j,7,l,8,c,2,F,p,i,n,m,r,A,s,o,g,2,N,z.ok,f,λy d b e=>⟨14⟩;cases y with|true=>exact cS (k _ _ F d ⟨2,ag,e,2⟩ (N.cj.mono b) (Step.refl' b))|false=>exact dh (k _ _ F d ⟨2,al,e,2⟩ (N.cj.mono b) (Step.refl' b))
theorem Y2(o:dS ns rs)(ok:Dj ns rs s)(l:RB ns s){h g:Nat}(c:h<cx ns)(a:g<3):∀x∈cO (s.R g h),Xu x:=by have b:=ok.fit g a h c;obtain⟨i,m⟩:=l g a h c;have QO:=o.QO;have Wn:=o.Wn;generalize s.R g h=r at b i m;obtain⟨k,f,j,n⟩:=b;intro x d;have t:(10:Int)^50<10^60:=!_;have p:(20:Int)<10^60:=!_;have v:(10:Int)*10^41<10^60:=!_;have q:r.ho*10^41<=10*10^41:=Int.mul_le_mul_of_nonneg_right ∅ (!_);have:x=.int r.hd∨x=.int r.co∨x=.int r.ho∨x=ku r.by_:=(by simpa [cO] using d);rcases this with rfl|rfl|rfl|rfl;exact .int ⟨k,6⟩;exact .int ⟨f,6⟩;exact .int ⟨j.1,6⟩;rcases n with e|⟨e,u⟩;rw[e];exact .fW;rw[be ∅];exact .int ⟨e,6⟩
theorem Ur(T:Txt K mg w t):bu P w K mg base iJ 4 t.iE t.sG ["net","numbers"] (xw K t.aK (nc t) 3):=by refine T.xP.F.jB IG λH Q E d h=>?_;·obtain⟨F,p,i,n,m,l,u,G,o,I,U,B,s,a,rfl,A,b,N,V,v,L,f,k⟩:=h;obtain⟨x,g,S⟩:∃x g,a=.row x g:=(by cases a <;> first|exact⟨5⟩|cases A);subst a;exists _,(oR (cG (rF T) d T.sR (dg (cM (pv 0) T.aW T.jW (Jw T) d (dX (xL (pv 1) aC) (xL (pv 1) aC)))))),4;left;obtain⟨R,r,j⟩:=N.cj.ob;obtain⟨D,C,O,z,J⟩:=id v;have b:=cK.seq b;exists 1,p,5,j,7,l,8,b,7,l,8,b,2,F,p,i,n,m,u,G,s,x,g,2,N,f.1,f.2,λq M c hq=>?_;exists q,1,.inr hq,Y2 o C.ok z f.1 f.2,(by show 4<=210000;decide),λy e=>k _ _ F y ⟨22⟩ (N.cj.mono (c.trans e)) (Step.refl' (c.trans e))
theorem Sy(T:Txt K mg w t):bu P w K mg base iJ 7 t.gx t.p6 ["net","numbers"] (xw K t.aK (nc t) 4):=by refine T.vd.F.jB FU λH Q E j h=>?_;·obtain⟨F,p,q,y,u,l,A,L,o,M,Y,B,s,b,rfl,I,d,N,Z,C,S,f,k⟩:=h;obtain⟨g,X⟩:∃g,b=.Qe g:=(by cases b <;> first|exact⟨1⟩|cases I);subst b;exists _,(oR (cG (rF T) j T.sR (dg (cM (pv 0) T.aW T.rz (LL T) j (dg (xL (pv 1) aC)))))),4;left;obtain⟨W,z,r⟩:=N.cj.ob;obtain⟨D,J,V,rb,R⟩:=id C;have d:=cK.seq d;exists 1,p,5,r,7,l,8,d,2,F,p,q,y,u,A,L,s,o,g,2,N,J.ok,f,λa os U i O c e v=>?_;have Wn:=o.Wn;exists a,1,.inl (bH.of c),zr (B:=20) (!_) (λx n=>aE (oX (QB e x n)) Wn),(by rw[ah];lia),λG m=>k _ _ F G ⟨2,os,e,2⟩ (N.cj.mono (i.trans m)) (Step.refl' (i.trans m))
theorem Sz(T:Txt K mg w t):bu P w K mg base iJ 5 t.gy t.p7 ["net","numbers"] (xw K t.aK (nc t) 5):=by refine T.vf.F.jB FW λH Q E J h=>?_;·obtain⟨F,p,v,C,A,l,I,S,o,U,cl,B,s,a,rfl,R,d,N,tb,L,W,f,k⟩:=h;obtain⟨i,x,Z⟩:∃i x,a=.vP i x:=(by cases a <;> first|exact⟨5⟩|cases R);subst a;exists _,(oR (jl (j3 (cM (pv 0) T.aW T.yY (Zu T) J (dX (xL (pv 1) aC) (xL (pv 1) aC)))) au au)),4;left;obtain⟨Y,G,y⟩:=N.cj.ob;obtain⟨D,g,X,rb,V⟩:=id L;have d:=cK.seq d;obtain⟨w,r,j,b,u⟩:=f;have O:=g.bd.cb;exists 1,p,5,y,7,l,8,d,7,l,8,d,2,F,p,v,C,A,I,S,s,i,x,w,r,D,2,N,o,g.ok,(λM z=>(g.bd.cl M z).1),(λl z=>by have:=(g.bd.lb l z).1;lia),6,j,b,u,λn m q c=>⟨14⟩;cases e:(w.filter λz=>decide (z≠x)).isEmpty with|true=>exact cS (k _ _ n m ⟨w,r,j,b,2,by rw[e];rfl⟩ q.cj c)|false=>exact dh (k _ _ n m ⟨w,r,j,b,2,by rw[e];rfl⟩ q.cj c)
theorem Us(T:Txt K mg w t):bu P w K mg base iJ 5 t.iF t.sH ["net","numbers"] (xw K t.aK (nc t) 6):=by refine T.xQ.F.jB II λH Q E M h=>?_;·obtain⟨F,p,z,I,G,l,L,U,o,V,cl,B,s,a,rfl,R,d,N,tb,O,X,f,k⟩:=h;obtain⟨i,x,ec⟩:∃i x,a=.lay i x:=(by cases a <;> first|exact⟨5⟩|cases R);subst a;exists _,(oR (jl (j3 (cM (pv 0) T.aW T.CO (abx T) M (dX (xL (pv 1) aC) (xL (pv 1) aC)))) au au)),4;left;obtain⟨Z,J,A⟩:=N.cj.ob;obtain⟨D,S,Y,rb,W⟩:=id O;have d:=cK.seq d;obtain⟨w,r,g,b,y,C⟩:=f;exists 1,p,5,A,7,l,8,d,7,l,8,d,2,F,p,z,I,G,L,U,s,i,x,w,r,2,N,o,S.ok,g,b,y,C,λn m j u v q c=>⟨14⟩;cases e:w.isEmpty with|true=>exact cS (k _ _ m j ⟨w,r,n,g,b,u,v,2,by rw[e];rfl⟩ q.cj c)|false=>exact dh (k _ _ m j ⟨w,r,n,g,b,u,v,2,by rw[e];rfl⟩ q.cj c)
theorem SA(T:Txt K mg w t):bu P w K mg base iJ 4 t.gz t.p8 ["net","numbers"] (xw K t.aK (nc t) 7):=by refine T.vg.F.jB FY λH Q E u h=>?_;·obtain⟨F,p,e,n,i,l,r,C,o,G,R,B,s,a,rfl,A,b,N,S,v,J,f,k⟩:=h;obtain⟨x,y,O⟩:∃x y,a=.move x y:=(by cases a <;> first|exact⟨5⟩|cases A);subst a;exists _,(aj (cP (cM (pv 0) T.aW T.yZ (Zv T) u (dX (xL (pv 1) aC) (xL (pv 1) aC)))) (oR au)),4;left;obtain⟨M,q,g⟩:=N.cj.ob;obtain⟨D,d,L,U,I⟩:=id v;have b:=cK.seq b;exists 1,p,5,g,7,l,8,b,7,l,8,b,2,F,p,e,n,i,r,C,s,x,y,2,N,f.1,d.bd.gl,d.bd.g3,f.2,λm j z c=>k _ _ m j ⟨22⟩ z.cj c
theorem SE(T:Txt K mg w t):bu P w K mg base iJ 9 t.gA t.qb ["net","numbers"] (xw K t.aK (nc t) 8):=by refine T.vh.F.jB FZ λH Q E i h=>?_;·obtain⟨F,p,j,v,q,l,z,J,o,L,V,B,s,a,rfl,I,b,N,W,A,O,f,k⟩:=h;obtain⟨x,c,U⟩:∃x c,a=.post x c:=(by cases a <;> first|exact⟨5⟩|cases I);subst a;exists _,(oR (cG (uJ T) i T.ur (dg (cR (pv 0) T.aW T.Rb (Zx T) (i.mono (!_)) T.Ra .nil mZ (dX (xL (pv 1) aC) (xL (pv 1) aC)))))),4;left;obtain⟨S,y,n⟩:=N.cj.ob;obtain⟨D,g,R,X,M⟩:=id A;have b:=cK.seq b;have G:=g.bd.ll;exists 1,p,5,n,7,l,8,b,7,l,8,b,2,F,p,j,v,q,z,J,s,o,x,c,D,2,N,g.ok,g.bd,6,f.1,f.2,λos u r m d C e=>⟨1,.int (Cb ∅),k _ _ u r ⟨os,m,d,22⟩ C.cj e⟩
theorem SG(T:Txt K mg w t):bu P w K mg base iJ 9 t.gB t.qc ["net","numbers"] (xw K t.aK (nc t) 9):=by refine T.vj.F.jB F0 λH Q E C h=>?_;·obtain⟨F,p,n,y,u,l,A,O,o,R,cl,B,s,a,rfl,M,b,N,Y,G,U,f,k⟩:=h;obtain⟨j,X⟩:∃j,a=.pass j:=(by cases a <;> first|exact⟨1⟩|cases M);subst a;exists _,(oR (cR (pv 0) T.aW T.Bm (Ho T) (C.mono (!_)) T.IT .nil mZ (dg (xL (pv 1) aC)))),4;left;obtain⟨W,z,r⟩:=N.cj.ob;obtain⟨D,e,V,Z,S⟩:=id G;have b:=cK.seq b;have f:j<cx s.cps:=f;have g:=aa f;have i:=aa (e.bd.cl _ (aD f)).1;exists 1,p,5,r,7,l,8,b,2,F,p,n,y,u,A,O,s,o,j,D,5,N,e.ok,e.bd,6,g,i,λos L x v q c J m I d=>k _ _ x v ⟨33,os,L,g,i,q,c,J,m,22⟩ I.cj d
theorem NK(T:Txt K mg w t):bu P w K mg base iJ 2 t.fQ t.qx ["net","numbers"] (xw K t.aK (nc t) 11):=by refine T.wD.F.jB MR λH Q E d h=>?_;·obtain⟨F,p,g,L,z,l,ns,U,o,x,O,B,s,b,rfl,u,C,N,R,q,G,f,k⟩:=h;obtain⟨_,M⟩:∃_:Unit,b=.flying:=(by cases b <;> first|exact⟨(),2⟩|cases u);subst b;exists _,(oR (cG (uJ T) d T.ur (dg (lS T.gM (pI (pv 0) T.aW T.sQ.m (Jx T) (d.mono (!_)) T.sQ.B .nil mZ))))),4;left;obtain⟨J,n,i⟩:=N.cj.ob;obtain⟨D,v,I,S,A⟩:=id q;have r:=v.bd.cb;exists 1,p,5,i,2,F,p,g,ns.length,s,2,N.cj,λa y j c _ e hq=>⟨a,1,.inl (bH.of e),4⟩;(try dsimp only);rw[ah,hq.len,ah];exists 1,.int (Cb ∅),k _ _ F j ⟨22⟩ (N.cj.mono c) (Step.refl' c)
theorem Ut(T:Txt K mg w t):bu P w K mg base iJ 3 t.iG t.sI ["net","numbers"] (xw K t.aK (nc t) 12):=by refine T.xR.F.jB IJ λH Q E j h=>?_;·obtain⟨F,p,q,S,J,l,ns,Y,o,I,V,B,s,b,rfl,C,d,N,W,z,L,f,k⟩:=h;obtain⟨x,U⟩:∃x,b=.had x:=(by cases b <;> first|exact⟨1⟩|cases C);subst b;exists _,(oR (cG (rF T) j T.sR (dg (cM (pv 0) T.aW T.CP (abv T) j (dg (xL (pv 1) aC)))))),4;left;obtain⟨R,y,r⟩:=N.cj.ob;obtain⟨D,e,O,X,u⟩:=id z;have d:=cK.seq d;have f:x<s.aL.length:=f;have c:x<cx s.had:=(by rw[e.bd.hl];exact f);have G:s.had.getD x []=s.had[x]:=(by rw[ao,aa c];rfl);have hb:=e.bd.hb _ (aD c);exists 1,p,5,r,7,l,8,d,2,F,p,q,ns.length,x,s,s.had[x],2,N.cj,f,aa c,λa M g _ n=>?_;exists a,1,.inl (bH.of n),zr (B:=205000) (!_) (λi v=>by have:=u.hb _ (aD c) i v;have:=e.bd.ll;lia),(by rw[ah];lia),λA m=>k _ _ F A ⟨2,by rw[G]⟩ (N.cj.mono (g.trans m)) (Step.refl' (g.trans m))
theorem _root_.TW.dH.past(N:dH K c H F p tp n s)(d:Off H F z=ac u)(f:Cr u):dH K c (upd H z o) F p tp n s:=by obtain⟨nf,a⟩:=vv d;exact N.keep (λb v e g=>dU b v e λw=>nf (w▸g)) (λb x=>dY.past a f dU)
theorem vy(d:k6):d.vs.length<=4:=by cases d <;> simp[k6.vs]
theorem vx(d:k6):(dW d).length<=5:=by cases d <;> (simp only[dW];decide)
theorem ajM(h:kL d):∀x∈d.vs,Xu x:=by rw[Xn];intro x hx;rcases aM.mp hx with rfl|hx;exact .str (aE (vx d) (!_));obtain⟨k,b,rfl⟩:=aF.mp hx;obtain⟨a,c⟩:=h k b;have:(1000:Int)<10^60:=!_;exact .int ⟨a,6⟩
theorem aeC{k:Int}(a:0<=k)(b:k<=1000):(TX.num k).length<=20:=by obtain⟨m,rfl⟩:=j0 a;rw[<- TX.yp];rw[show TX.cs (TX.num ((m:Nat):Int))=_ from TX.QJ m,ah];exact TX.Wl 20 m (!_) (bK (show m<=1000 by lia) (!_))
theorem aeD(h:kL d):(C7 d.vs).length<=75:=by have e:C7 d.vs=Txt.join TX.lN (d.vs.map eH):=(by unfold C7;rw[b5];rw[Xn];exact λz=>(by cases z));rw[e,TX.join_eq];refine aE (StrLaws.join_length_le _ _) ?_;have f:=TX.JI (l:=((dI d).map TX.num).map (·.length)) (B:=20) λx i=>(by obtain⟨y,g,rfl⟩:=aF.mp i;obtain⟨k,b,rfl⟩:=aF.mp g;exact aeC (h k b).1 (h k b).2);rw[ah,ah] at f;have a:=vy d;have j:=vx d;rw[Xn] at a ⊢;rw[bU,ah] at a;have c:(cm (dW d)::(dI d).map cf).map eH=dW d::(dI d).map TX.num:=(by rw[bL,cz];rfl);rw[c,bL,oY,bU,ah];show _+(_+1)*1<=_;lia
theorem Pj(T:Txt K mg w t):bu P w K mg base iJ 3 t.fL t.nR ["net","numbers"] (xw K t.aK (nc t) 13):=by refine T.sV.F.jB qo λH Q E U h=>?_;·obtain⟨F,p,X,ln,lr,l,ns,rs,o,bs,cl,B,s,g,rfl,C,G,N,tb,sk,hB,f,k⟩:=h;obtain⟨i,ec⟩:∃i,g=.rE i:=(by cases g <;> first|exact⟨1⟩|cases C);subst g;exists _,(oR (mX cX Ce Cd PZ au (dg (fN (kO qo ["deed"] [ae]) rfl (dZ (cM (pv 0) T.aW T.vJ (Xm T) U (dg (xL (pv 1) aC)))) (λ_ _ _ _=>by exact (gS 0 yK)) (λ_ _ _ _=>by exact gk) (λ_ _ _ _=>by exact (cG (rF T) U T.sR (dg (pv 0)))))))),4;left;obtain⟨dx,loc,Z⟩:=N.cj.ob;obtain⟨D,sd,hD,rb,iv⟩:=id sk;have G:=cK.seq G;have f:i<cx s.ls:=f;have W:=aa f;have C:=aD f;have hdl:=(sd.bd.lb _ C).1;have u:=iv.db _ C;exists 7,p,5,Z,7,l,8,G,2,F,p,X,ns.length,i,s,s.ls[i],2,N.cj,W,λa c H2 O _ z hq=>?_;have eq:c.length=s.ls[i].aH.length:=(by rw[hq.len,ah]);exists a,2,⟨_,bH.of z⟩,λL q=>?_;refine Ig (n:=(c.map ci).length) (λj=>(c.map ci).getD j .fW) (λj=>cm (C7 ((s.ls[i].aH.map k6.vs).getD j []))) q (vY (bH.of z)) (lK (bH.of z)) (λj J x H4 I m e=>?_) (by rw[ah];lia) (λj J R S I m v=>?_) (λJ m A=>?_);obtain⟨rfl,e⟩:=e;have e:=e _ (m.seq (bH.of z));exact⟨2,by rw[ao,e];rfl⟩;have r:j<c.length:=(by rw[ah] at I;exact I);have b:j<s.ls[i].aH.length:=∅;have e1:(c.map ci).getD j .fW=.ref c[j]:=(by rw[ao,ak,aa r];rfl);have M:(s.ls[i].aH.map k6.vs)[j]?=ac (s.ls[i].aH[j]).vs:=(by rw[ak,aa b];rfl);have e3:(s.ls[i].aH.map k6.vs).getD j []=(s.ls[i].aH[j]).vs:=(by rw[ao,M];rfl);rw[e1];rw[e3] at v;have hv:=vy s.ls[i].aH[j];exists 1,c[j],1,.inr (m.iA (hq.at' j _ _ (aa r) M)),ajM (u _ (aD b)),6,v;have ey:(ay (c.map ci).length).map (λj=>cm (C7 ((s.ls[i].aH.map k6.vs).getD j [])))=(s.ls[i].aH.map λd=>C7 d.vs).map cm:=(by refine vR (by simp[eq]) λj v Y=>?_;have b:j<s.ls[i].aH.length:=(by simpa using Y);simp only[List.getElem_map,List.getElem_range,ao,ak,aa b];rfl);rw[ey] at A;exists _,L,12,bH.of A,4,k _ _ F J ⟨23,W,2⟩ (N.cj.mono (O.trans m)) (Step.refl' (O.trans m));have v:=TX.JI (l:=(s.ls[i].aH.map λd=>C7 d.vs).map (·.length)) (B:=75) λx e=>?_;rw[ah,ah] at v;rw[ah];show _+s.ls[i].aH.length*2<=_;lia;obtain⟨y,A,rfl⟩:=aF.mp e;obtain⟨d,hd,rfl⟩:=aF.mp A;exact aeD (u d hd)
theorem Pk(T:Txt K mg w t):bu P w K mg base iJ 5 t.fK t.nQ ["net","numbers"] (xw K t.aK (nc t) 1):=by refine T.sU.F.jB jJ λH Q E hr h=>?_;·obtain⟨F,p,tp,ln,lr,l,ns,rs,o,bs,cl,B,s,q,rfl,hm,hL,N,tb,sk,hB,f,k⟩:=h;obtain⟨g,ec⟩:∃g,q=.round g:=(by cases q <;> first|exact⟨1⟩|cases hm);subst q;exists _,(aj (Dg (i:=2) jJ.nd rfl (Or.inl rfl) (kO jJ ["house","net","numbers"] [ae,ac 0,ac 1]) rfl (lZ rfl T.sX (dg (aU (aU (pv 0) rfl) rfl))) (λ_ _ _ _=>by exact (gS 0 yJ)) (λ_ _ _ _=>by exact gk) (λ_ _ _ _=>by exact (cM (pv 1) T.aW T.nW (OL T) hr (dX (pv 0) (yL K (pv 2) aC))))) (oR (cG (uJ T) hr T.ur (dg (mX bR PySem.F.slot_list_count PySem.F.type_list_count aec (pv 2) (dg IB)))))),4;left;obtain⟨dx,loc,aV⟩:=N.cj.ob;obtain⟨⟨dt,Z⟩,hln,_,hlr,_⟩:=id N.nD;have QO:=o.QO;have f:g<3:=f;exists 1,p,9,aV,T.aW,T.ir,2,tp,9,Z,T.fB,T.iO,766,λc a=>?_;have nFa:¬F c:=λz=>(by obtain⟨o',e⟩:=N.cj.there z;rw[a] at e;cases e);exists λi m L=>m=ns.length-i/\i<=cx ns/\∃(O:Nat) (A:NS) (r:am->Prop) (u:List Bool),fD o g i s O A/\dH K (nc t) L r p tp (cx ns) A/\Step H F L r/\L c=ac (.lst (u.map cn))/\¬r c/\u.length=i/\u.count ag=O,⟨1,bA _,(0),s,F,[],.zero s,N.cj.mono (aB.new a),Step.refl' (aB.new a),aq,nFa,22⟩,4;rintro i m L ⟨rfl,hi,O,A,r,u,S,U,n,j,D,G,C⟩;rcases Nat.lt_or_ge i (cx ns) with M|hge;refine .inr ⟨by show i<_;lia,4⟩;rintro x H3 ⟨rfl,rfl⟩;rw[j9];have W2:=N.done n U;obtain⟨dx2,apm,Ao⟩:=U.ob;have Y:=cK.seq ((Cw n).seq hL);have sk2:=sk.rnd tb f ∅ S;obtain⟨D2,X,_⟩:=sk2;exists 1,p,5,Ao,71,l,8,Y,2,r,p,tp,ln,lr,ns,rs,A,o,i,g,2,W2,X.ok,M,f,λd F4 H4 hd hf N4 W _=>?_;have J:=W.kp _ _ j D;have I:¬F4 c:=λz=>(by rcases W.fr _ z with y|y;exact D y;rw[j] at y;cases y);exists _,J,by rw[ah,G];exact cU ∅,cx ns-(i+1),62,M,33,F4,u++[!decide (d=A.R g i)],.succ S hd hf,N4.past (yt I J) tX,44,I,by rw[av,G];rfl,4;have:=n.trans W;exists λb v e z=>dU b v (this.kp b v e z) (aJ e a),λb z=>this.fr b z;rw[aq,bx];rfl;rw[List.count_append,C];by_cases e:d=A.R g i;rw[b6 e,b4 e];rfl;rw[c5 e,b5 e];rfl;have:i=ns.length:=∅;subst this;refine .inl ⟨by show _<=_;lia,4⟩;exists 1,.inl ⟨23,bH.of j⟩,c,u,ag,22,bH.of j,4;rw[C];have:=S.ln.2;exists 1,.int (Cb ∅),k _ _ r L ⟨O,S,2⟩ U n
theorem Uu(T:Txt K mg w t):bu P w K mg base iJ 9 t.jc t.xK ["net","numbers"] (xw K t.aK (nc t) 10):=by refine T.DJ.F.jB A9 λH Q E J h=>?_;·obtain⟨F,p,I,ln,lr,l,ns,A,o,bs,cl,B,s,n,rfl,hm,hL,N,tb,U,hB,f,k⟩:=h;obtain⟨_,x⟩:∃_:Unit,n=.run:=(by cases n <;> first|exact⟨(),2⟩|cases hm);subst n;exists _,(aj (sS 2 A9 aC) (aj (ae6 PassesOwn.never (Mp (pI (pv 0) T.aW T.sQ.m (Jx T) (J.mono (!_)) T.sQ.B .nil mZ) (λ_=>rfl)) (aj (cP (pI (pv 0) T.aW T.Bm (Ho T) (J.mono (!_)) T.Tr (show ck [cf 0] [_] from .cons ⟨1⟩ .nil) mZ)) (aX (x5 (i:=2) A9.nd rfl (Or.inl rfl) aC x4)))) (oR (cG (uJ T) J T.ur (dg (pv 2)))))),4;left;refine aiu (λm G C=>∃(r:Nat)(b:NS)(c:am->Prop),G=[ac (.ref p),ac (.ref l),ac (.int (r:Nat))]/\Rn o s r b/\dH K (nc t) C c p I (cx ns) b/\Step H F C c/\m=Ph (cx ns) A b/\r+m<=Ph (cx ns) A s) (Ph (cx ns) A s) ⟨(0),s,F,2,.zero s,N.cj,Step.refl' (aB.refl _),26⟩ ?_ ?_;(rintro m G C ⟨r,b,c,rfl,L,y,q,rfl,hk⟩;have W2:=N.done q y;obtain⟨Y,apm,W⟩:=y.ob;have u:=U.rn L;obtain⟨D2,d,hD2,_⟩:=id u;obtain⟨D0,sd0,hD0,_⟩:=id U;exists 1,p,5,W,2,c,p,I,ns.length,b,2,y,λa g R j _ ha hq=>⟨!(g.map ci).isEmpty,.inl ⟨_,bH.of ha,2⟩,4⟩;have S:g.length=b.cps.length:=(by rw[hq.len,ah]);cases x:b.cps with|nil=>have:g=[]:=List.length_eq_zero_iff.mp (by rw[S,x];rfl);subst this;refine dh ?_;refine⟨37,.int (Cb ∅),k _ _ c R ⟨r,L,x,2⟩ (y.mono j) (q.trans (Step.refl' j))⟩|cons z cs0=>have:(g.map ci).isEmpty=al:=(by cases g with|nil=>rw[x] at S;cases S|cons=>rfl);rw[this];refine cS ?_;have D:b.cps[0]?=ac z:=(by rw[x];rfl);have X:=aa (d.bd.cl z (aQ D)).1;exists 1,p,5,j _ _ W,2,c,p,I,ln,lr,ns,A,b,o,(0),D2,z,1,W2.mono j,d.ok,d.bd,6,D,X,λos ts F4 H4 hO M pt oe W4 Z=>?_;have ps:Ps o 0 b _ _:=⟨z,_,os,ts,D,X,hO,M,pt,oe,22⟩;have hp:=(u.ps ps).2;exists 15236,r+1,_,F4,2,.succ L ps,W4.cj,(q.trans (Step.refl' j)).trans Z,26);rintro G C Q Q' hq ⟨v,e,a,dx,fs,h1,h2,h3,c,p2,O,n2,b,h4,h5,h6⟩;exists v,e,a,dx,fs,h1,h2,h3,c,p2,O,n2,b,h4,h5,λa g R j z1 z2 z3=>by obtain⟨kb,h7,h8⟩:=h6 a g R j z1 z2 z3;exact⟨kb,h7,hq _ _ h8⟩
theorem Fits.small(o:dS ns rs)(A:SK ns rs bs cl B s)(F:B<=205000)(f:Fits ns rs s j):∀n∈j.iu,TX.Wr n:=by obtain⟨D,l,G,_⟩:=A;have QO:=o.QO;have Wn:=o.Wn;have xr:=l.bd.xr;have C:=l.bd.cb;have E:=l.bd.ll;have d:∀{a:Nat},a<=1000000->∀n∈[(a:Int)],TX.Wr n:=λh n hn=>(by rw[aZ.mp hn];exact Cb h);have two:∀{a b:Nat},a<=1000000->b<=1000000->∀n∈[(a:Int),(b:Int)],TX.Wr n:=λz q n hn=>(by rcases aM.mp hn with rfl|hn;exact Cb z;rw[aZ.mp hn];exact Cb q);cases j with|round g=>exact d (by have:g<3:=f;lia)|rest g=>exact d (by have:g<3:=f;lia)|row h g=>exact two (by have:=f.1;lia) (by have:=f.2;lia)|Qe g=>exact d (by have:g<3:=f;lia)|call h g=>exact two (by have:=f.1;lia) (by have:=f.2;lia)|vP i x=>obtain⟨w,r,p,e,m⟩:=f;have t:=(ai.mp e).1;obtain⟨b,v,rfl,_⟩:=l.wire p;have:=(ai.mp (oF.mp m)).1;have:=l.fit.2 i r b e v;have:=(o.ok _ (aQ e)).d4;exact two ∅ ∅|lay i x=>obtain⟨w,r,p,e,m,_⟩:=f;have t:=(ai.mp e).1;have:=(o.ok _ (aQ e)).d4;exact two ∅ ∅|move c h=>exact two (by have:=f.1;lia) (by have:=f.2;lia)|post c u=>(cases u with|none=>exact d (by have:=f.1;lia)|some y=>exact two (by have:=f.1;lia) (by have:=(f.2 y rfl).1;lia))|pass k=>exact d (by have:k<cx s.cps:=f;lia)|run=>intro n hn;cases hn|flying=>intro n hn;cases hn|had c=>exact d (by have:c<s.aL.length:=f;lia)|rE i=>exact d (by have:i<cx s.ls:=f;lia)
theorem ajN(c:ou):32∉TX.cs c.hd:=by cases c <;> (simp only[ou.hd];decide +kernel)
theorem Y1(c:ou):c.hd.length<=60:=by cases c <;> (simp only[ou.hd];decide +kernel)
theorem aeE{c:ou}(h:∀n∈c.iu,TX.Wr n):Txt.split c.text TX.lN=c.words:=by unfold ou.text;rw[TX.join_eq];refine TX.U1 (c:=32) (ws:=c.words) (by simp[ou.words]) λx hx=>?_;rcases aM.mp hx with rfl|hx;exact ajN c;rcases bh.mp hx with hx|hx;obtain⟨n,a,rfl⟩:=aF.mp hx;exact TX.QL (h n a).1 (.inl (!_));split at hx;rw[aZ.mp hx];decide +kernel;cases hx
theorem zn(c:ou):c.iu.length<=2:=by cases c with|post c a=>cases a <;> exact (by simp[ou.iu])|_=>simp[ou.iu]
theorem eM{c:ou}(h:∀n∈c.iu,TX.Wr n):c.text.length<=100000:=by unfold ou.text;rw[TX.join_eq];refine aE (StrLaws.join_length_le _ _) ?_;have e:c.words.length<=4:=(by have:=zn c;simp only[ou.words,bU,av,ah];split <;> simp <;> lia);have a:=TX.JI (l:=c.words.map (·.length)) (B:=60) λx b=>(by obtain⟨y,hy,rfl⟩:=aF.mp b;rcases aM.mp hy with rfl|hy;exact Y1 c;rcases bh.mp hy with hy|hy;obtain⟨n,d,rfl⟩:=aF.mp hy;exact (TX.HK (h n d)).2;split at hy;rw[aZ.mp hy];decide;cases hy);rw[ah] at a;show _+c.words.length*1<=_;lia
theorem ajO(h:TX.Wr n):TX.num n≠"all" := λe=>by
 have:=TX.HL h.1 97 (by rw[e];decide +kernel)
 lia
inductive ZR(K:af)(vs:List V)(H:Hp)(Q:VK)(E:XK):Prop
 |mk(l:am)(cmd:ou):vs=[.ref l,.int (cmd.vals.length:Nat)]->H l=ac (.lst (bf cmd.words))->(∀n∈cmd.iu,TX.Wr n)->(∀l' H',aB H H'->H l'=ae->H' l'=ac (.lst cmd.vals)->Q (.ref l') H')->ZR K vs H Q E
theorem SH(T:Txt K mg w t):bu P w K mg base iJ 3 t.mC t.qe ["words","many"] (ZR K):=by
 refine T.mK.F.jB F7 λH Q E D h=>?_
 ·obtain⟨l,b,rfl,x,J,k⟩:=h;exists _,(aj (bY (PW.pt (E8 (qT xj (xL (pv 0) aC) au) (zR (qT Ax (iY ow (pv 0) (jQ aC) kX) (cu (dg au)))))) (oR (cu (dX (cG (zN T) D T.dM (dg (xL (pv 0) aC))) ny))) bq) (oR (cG (w6 T) D T.cW (dX (iY ow (pv 0) (jQ aC) kX) (pv 1))))),4;left;have num:∀n,aB H n->b.isAll=al->∀g,n g=ae->BZ K [.ref g,.int (b.vals.length:Nat)] (upd n g (.lst (Aw (bf b.words) (ac 1) ae))) Q E0:=λn S B g f=>by
   have Y:b.words=TX.wordsOf b.hd b.iu:=(by unfold ou.words;rw[B];simp[TX.wordsOf]);have M:b.vals=b.iu.map cf:=by
    cases b with
    |post c d=>cases d with
     |none=>cases B
     |some y=>rfl
    |_=>rfl
   rw[Y,zW];have q:=aB.new (o:=.lst (bf (b.iu.map TX.num))) f;exists g,b.iu,by rw[M,ah],bH.of aq,J,by have:=zn b;lia,λA v p m s=>k A v (S.trans (q.trans p)) ((S.trans q).free m) (by rw[M];exact s)
  exists 1,l,8,bH.of x,dF (j:=0) rfl,74;by_cases G:b.hd = "post";(case neg=>refine qS (c5 λz=>G (V.str.inj z)) (dh ?_);have B:b.isAll=al:=(by cases b <;> first|rfl|exact b3 rfl G);exists 37,l,1,bH.of x,λg f=>⟨1,num H (aB.refl _) B g f⟩);refine K1 (b6 (by rw[G])) ?_;obtain⟨c,d,I⟩:∃c d,b=.post c d:=(by cases b <;> first|exact⟨5⟩|exact b3 G (by simp only[ou.hd];decide +kernel));subst I;exists 37,l,1,bH.of x,λg f=>?_;have I:Aw (bf (ou.post c d).words) (ac 2) ae=bf ((ou.post c d).words.drop 2):=(by have:=Cn (bf (ou.post c d).words) 2;rw[show ((2:Nat):Int)=2 from rfl] at this;rw[this];exact List.map_drop.symm);rw[I];have q:=aB.new (o:=.lst (bf ((ou.post c d).words.drop 2))) f;have O:=aq (H:=H) (a:=g) (o:=.lst (bf ((ou.post c d).words.drop 2)));generalize upd H g (.lst (bf ((ou.post c d).words.drop 2)))=n at q O;exists gN,λA m=>?_;have L:=aB.new (o:=.lst [cm "all"]) m;have s:=aq (H:=n) (a:=A) (o:=.lst [cm "all"]);generalize upd n A (.lst [cm "all"])=v at L s;have p:=q.trans L;have r:=L _ _ O;have C:∀{a:am} {z:Str},v a=ac (.lst [cm z])->Rep K v (.list [.str z]) (.ref a):=λ{a z} e=>⟨a,1,bH.of e,⟨522⟩⟩;cases d with|none=>exists .list [.str "all"],.list [.str "all"],C r,C s,↑_,↑_,bK (cE (aE (ji _ _) (!_)) _) D.units,1,K1 (↑_) ?_;exists 1,l,8,bH.of (p _ _ x),dF (j:=1) rfl,(c:Int),2,J _ aP,λH4 N=>⟨c8,λZ u=>?_⟩;exact k Z _ ((p.trans N).trans (aB.new u)) ((p.trans N).free u) aq|some y=>have R:TX.Wr (y:Int):=J _ (aR _ aP);exists .list [.str (TX.num y)],.list [.str "all"],C r,C s,4,↑_,bK (cE (aE (ji _ _) (by show 1<=64;decide)) _) D.units,1,qS ?_ ?_;show (PyData.strOk (TX.num y)&&ag)=ag;rw[Bool.and_true];unfold PyData.strOk;have:=TX.U3 R.1;rw[Array.all_eq_true] at this ⊢;intro i W;have:=this i W;simp only[decide_eq_true_eq] at this ⊢;lia;show ((TX.num y == "all")&&ag)=al;rw[Bool.and_true];exact beq_eq_false_iff_ne.mpr (ajO R);exists 37,l,1,bH.of (p _ _ x),λU X=>⟨1,num v p rfl U X⟩
noncomputable def p1(t:Ad):ou->am
 |.call _ _=>t.Ba|.round _=>t.uY|.rest _=>t.Bb|.row _ _=>t.IK|.Qe _=>t.Bc|.vP _ _=>t.Be|.lay _ _=>t.IL|.move _ _=>t.Bf|.post _ _=>t.Bg|.pass _=>t.Bh|.run=>t.IM|.flying=>t.qg|.had _=>t.IP|.rE _=>t.uZ
noncomputable def kS(t:Ad):ou->am
 |.call _ _=>t.gv|.round _=>t.fK|.rest _=>t.gw|.row _ _=>t.iE|.Qe _=>t.gx|.vP _ _=>t.gy|.lay _ _=>t.iF|.move _ _=>t.gz|.post _ _=>t.gA|.pass _=>t.gB|.run=>t.jc|.flying=>t.fQ|.had _=>t.iG|.rE _=>t.fL
theorem YP(T:Txt K mg w t)(c:ou)(H:Hp):dY K H (p1 t c) [.int (c.vals.length:Nat),.ref (kS t c)]:=by cases c with|call=>exact T.s_call H|round=>exact T.acz H|rest=>exact T.agw H|row=>exact T.s_row H|Qe=>exact T.agx H|vP=>exact T.agy H|lay=>exact T.akw H|move=>exact T.agz H|post=>exact T.agA H|pass=>exact T.agB H|run=>exact T.akx H|flying=>exact T.YR H|had=>exact T.aky H|rE=>exact T.acA H
inductive t0(K:af)(CT CD:am)(c:NC)(vs:List V)(H:Hp)(Q:VK)(E:XK):Prop
 |mk(F:am->Prop)(p tp ln lr dk dx:am)(ns:List Int)(rs:List R5)(o:dS ns rs)(bs:List (List Bool))(cl:List (Nat×Nat))(B:Nat)(s:NS)(cmd:ou):vs=[.ref dk,.str cmd.text]->H dk=ac (.ins CD dx [("net",.ref p)])->NW K c CT H F p tp ln lr ns rs s->TB ns rs->SK ns rs bs cl B s->B<=205000->Fits ns rs s cmd->(∀a s' F' H',Ca o s cmd a s'->dH K c H' F' p tp (cx ns) s'->Step H F H' F'->Q (.str a) H')->t0 K CT CD c vs H Q E
theorem OP(T:Txt K mg w t):bu P w K mg base iJ 10 t.uo t.yV ["self","row"] (t0 K t.aK t.nS (nc t)):=by refine T.uu.F.jB qW λH Q E c h=>?_;·obtain⟨F,p,J,X,O,U,W,Z,rs,o,I,cl,B,s,b,rfl,n,N,tb,D,A,f,k⟩:=h;exists _,(aj (sS 2 qW (mX cX kP kN Cv (pv 1) (dg au))) (aj (bY (oa (QS T.HZ (xL (pv 2) aC) (cF rfl T.HY (v:=.ref t.mF) rfl)) (by with_unfolding_all rfl)) bP bq) (aj (sS 3 qW (Yy T.HZ (cF rfl T.HY (v:=.ref t.mF) rfl) (xL (pv 2) aC) (λ_ _=>rfl))) (oR (agf (xT (pv 3) aC) (dX (aU (pv 0) rfl) (cG (SH T) c T.mK (dX (pv 2) (xT (pv 3) aC)))) (.cons (m5 (Sw T) c T.u0) (.cons (m5 (Pk T) c T.sU) (.cons (m5 (Sx T) c T.vc) (.cons (m5 (Ur T) c T.xP) (.cons (m5 (Sy T) c T.vd) (.cons (m5 (Sz T) c T.vf) (.cons (m5 (Us T) c T.xQ) (.cons (m5 (SA T) c T.vg) (.cons (m5 (SE T) c T.vh) (.cons (m5 (SG T) c T.vj) (.cons (m5 (Uu T) c T.DJ) (.cons (m5 (NK T) c T.wD) (.cons (m5 (Ut T) c T.xR) (.cons (m5 (Pj T) c T.sV) .nil))))))))))))))))))),4;left;have u:=f.small o D A;exists 1252,(↑_),eM u,λl hl=>?_;rw[show Txt.split b.text _=b.words from aeE u];have i:=aB.new (o:=.lst (bf b.words)) hl;have m:=aq (H:=H) (a:=l) (o:=.lst (bf b.words));generalize upd H l (.lst (bf b.words))=H1 at i m;have g:KN (bf b.words) 0=ac (.str b.hd):=dF (j:=0) rfl;have y:vX (io [("call",ci t.Ba),("round",.ref t.uY),("rest",.ref t.Bb),("row",.ref t.IK),("open",.ref t.Bc),("fall",.ref t.Be),("lay",.ref t.IL),("move",.ref t.Bf),("post",.ref t.Bg),("pass",.ref t.Bh),("run",.ref t.IM),("flying",.ref t.qg),("had",.ref t.IP),("story",.ref t.uZ)]) (i0 b.hd)=ac (.ref (p1 t b)):=(by cases b <;> rfl);exists 1,l,8,bH.of m,g,i0 b.hd,274;rw[y];refine dh ?_;exists 1,l,8,bH.of m,g,i0 b.hd,12,y,4;have G:=YP T b;exists 138,G H1,2,(kS t b,xw K t.aK (nc t) b.kd),424;(·cases b <;> simp[kS,ou.kd]);exists 1,U,_,W,5,i _ _ n,T.J0,T.DO,7138,G H1,2,l,b,2,m,u,λx H2 C q L=>?_;have S:=N.mono (i.trans C);have nF:¬F x:=λz=>(by obtain⟨o',e⟩:=(N.mono i).cj.there z;rw[q] at e;cases e);exists F,p,J,X,O,x,Z,rs,o,I,cl,B,s,b,22,bH.of (yt nF L),S,tb,D,A,f,λa M Y R d N' r=>k a M Y R d N' ((Step.refl' (i.trans C)).trans r)
theorem LW(h:jH K H qs xss):gI K H qs (xss.map λx=>x.map cf):=by exists by rw[ah];exact h.len,λi q x b a=>?_;rw[ak] at a;cases e:xss[i]? with|none=>rw[e] at a;cases a|some y=>rw[e] at a;cases a;exact h.at' i q y b e
noncomputable abbrev fo(cl:List (Nat×Nat)):List (List Int):=cl.map λc=>[(c.1:Int),(c.2:Int)]
inductive vw(K:af)(CT CD:am)(c:NC)(vs:List V)(H:Hp)(Q:VK)(E:XK):Prop
 |mk(dk dx:am)(ns:List Int)(rs:List R5)(cl:List (Nat×Nat)):vs=[.ref dk,.str (TX.lO ns (rs.map R5.ns) (fo cl))]->H dk=ac (.ins CD dx [])->uI ns (rs.map R5.ns) (fo cl)->dS ns rs->cl.length<=20->(∀c∈cl,c.1<cx ns/\c.2<3)->(∀(F:am->Prop)p tp ln lr H',dH K c H' F p tp (cx ns) (S0 ns rs cl)->dR K CT (Off H' F) tp ln lr ns rs->Off H' F dk=ac (.ins CD dx [("net",.ref p)])->(∀b o,H b=ac o->b≠dk->Off H' F b=ac o)->Q .fW H')->vw K CT CD c vs H Q E
theorem SI(T:Txt K mg w t):bu P w K mg base iJ 7 t.mz t.qd ["self","text"] (vw K t.aK t.nS (nc t)):=by refine T.qk.F.jB rX λH Q E hr h=>?_;·obtain⟨S,dx,ns,rs,cl,rfl,mu,G,o,xr,J,k⟩:=h;exists _,(aj (sS 2 rX (cG (LV T) hr T.rA (dg (pv 1)))) (aX (gY (pv 0) (cI T.sP (Um T) hr T.akv (dX (cI T.qh (Hf T) hr T.agr (dX (xT (pv 2) aC) (xT (pv 2) aC))) (xT (pv 2) aC))) rfl))),4;left;exists 1,ns,rs.map R5.ns,fo cl,2,G,λq l0 Y l2 U s1 n0 n1 n2 e01 e02 e12 hq h0 h1 h2=>?_;obtain⟨us,hu1,hu2⟩:=h1;obtain⟨qs,hc1,L⟩:=h2;have s:=LW hu2;have y:=LW L;rw[show ((rs.map R5.ns).map λx=>x.map cf)=rs.map R5.vs by rw[cz];rfl] at s;rw[show ((fo cl).map λx=>x.map cf)=cl.map λc=>[cf c.1,cf c.2] by rw[cz];rfl] at y;have hw4:∀r∈rs,1<=r.d/\r.d<=4:=λr u=>⟨(o.ok r u).d1,(o.ok r u).d4⟩;exists 1,q,8,dY.of hq,7,q,8,dY.of hq,24;refine λg C np R cj=>?_;have I:aB U (upd (upd U C (.own g)) g (.ins t.aK C [])):=(aB.new R).trans (aB.new (by rw[aI (bS cj)];exact np));exists g,C,l0,Y,ns,rs,2,aq,bH.of (I _ _ h0),⟨Y,1,bH.of (I _ _ hu1),af3.af4 (l:=Y) (s.mono λb x=>I.iA)⟩,o.n1,o.QO,o.pos,o.nd,o.Wn,o.ok,λln lr D hln hlr Z W=>⟨24⟩;have i:aB U D:=λb v e=>W b v (I b v e) (aJ e np);exists 1,q,8,dY.of (i _ _ hq),24;refine λp O j X nep=>?_;have B:aB D (upd (upd D O (.own p)) p (.ins t.cT O [])):=(aB.new X).trans (aB.new (by rw[aI (bS nep)];exact j));have QO:=o.QO;exists p,O,g,ln,lr,l2,ns,rs,qs,cl,2,aq,Z.mono B,6,o.Wn,hw4,bH.of (B _ _ (i _ _ hc1)),y.mono λb x=>(i.trans B).iA,xr,J,λF M N W fr=>⟨24⟩;have A:aB D (Off M F):=af5 B j W fr;have a:=(s1.trans i).trans A _ _ mu;exists 1,S,_,dx,1,cK _ _ a,T.J0,T.DO,(by show 0<1000;decide),4;have eO:Off (upd M S (.ins t.nS dx (Cg "net" (.ref p) []))) F=upd (Off M F) S (.ins t.nS dx (Cg "net" (.ref p) [])):=BM (vv a).1;obtain⟨⟨C,f⟩,m,us2,n,ht4⟩:=id (Z.mono A);refine k F p g ln lr _ (N.past a o4) ?_ (by rw[eO,aq];rfl) (λb v e z=>by rw[eO];exact dU b v ((s1.trans i).trans A _ _ e) z);rw[eO];exact (Z.mono A).keep (λb v e z=>dU b v e λzz=>by rw[zz] at z;rcases z with z|z|z;rw[<- z,a] at f;have e:=(HO.ins.inj (aT f)).2.2;cases e;rw[<- z,a] at m;cases m;rw[<- z,a] at n;cases n) (λb x=>dY.past a o4 dU)
theorem _root_.L2.My.jb{x a:Str}{st:Stmt}{f:am}{e:FuncData}{l:ap}{N ps:List Str}{k:Nat}{sp:Sp}(F:My K x a st f e l)(S:aG N ps (aA st))(i:∀{c:ap}{A:ce}{b:List Env}{s:ar}{vs:List V}(H:Hp)(Q:VK)(E:XK),jF k (A.deeper (envOfC a (aA st) s.heap.objs.size f c))->sp vs H Q E ->∃t,i9 (m8 (jD P w) P w K mg base N a (aA st) f c A b s H E) (gZ st) t/\t {nx:=λ_ g=>Q .fW g,rt:=Q} (L2.start N vs) H)(d:∀vs H Q E,sp vs H Q E->vs.length=ps.length:=by intro _ _ _ _ h;cases h;subst_vars;rfl):bu P w K mg base (jD P w) (k+1) f e ps sp:=F.okX S d λ_ _ _ _ H _ Q E j h=>i H Q E j h
abbrev dr(x:Int)(n:Nat):Prop:=0<=x/\x<(n:Int)
structure RN(K:af)(CT:am)(c:NC)(H:Hp)(F:am->Prop)(p tp ln lr:am)(ns:List Int)(rs:List R5)(s:NS):Prop where
 nw:NW K c CT H F p tp ln lr ns rs s
 o:dS ns rs
 ok:Dj ns rs s
 gl:cx s.groups=s.aL.length
theorem RN.mono(h:RN K CT c H F p tp ln lr ns rs s)(e:aB H H'):RN K CT c H' F p tp ln lr ns rs s:=⟨h.nw.mono e,h.o,h.ok,h.gl⟩
inductive ZS(K:af)(CT:am)(c:NC)(X:am)(vs:List V)(H:Hp)(Q:VK)(E:XK):Prop
 |mk(F:am->Prop)(p tp ln lr:am)(ns:List Int)(rs:List R5)(s:NS)(x:Int):vs=[.ref p,.int x]->RN K CT c H F p tp ln lr ns rs s->(dr x ns.length->Q .fW H)->(¬dr x ns.length->E (.ref X) ae H)->ZS K CT c X vs H Q E
theorem xx(T:Txt K mg w t):bu P w K mg base (jD P w) 1 t.iS t.jV ["self","house"] (ZS K t.aK (nc t) t.eN):=by
 refine T.fC.F.jb yH λH Q E j h=>?_;obtain⟨F,p,f,r,m,ns,u,st,x,rfl,N,k,e⟩:=h;exists _,(aX (bY (g9 (fG jm kR aC (pv 1) (aU (aU (pv 0) rfl) rfl))) (aX (dB rfl T.Vf T.Vg j.hd au)) bq)),4;left;obtain⟨g,o,q,l,O,s,n⟩:=id N.nw.cj;obtain⟨⟨i,c⟩,_⟩:=id N.nw.nD;have d:=O.get .cj _ rfl;rw[l] at d;exists 1574;by_cases a:0<=x;case neg=>rw[c5 a];exact dh ⟨1,cS (e λz=>a z.1)⟩
 rw[b6 a];refine cS ⟨1,p,9,d,T.aW,T.ir,2,f,_,i,5,c,T.fB,T.iO,2574⟩;by_cases b:x<(ns.length:Int);case neg=>rw[c5 b];exact cS (e λz=>b z.2)
 rw[b6 b];exact dh (k ⟨a,b⟩)
inductive VM(K:af)(CT:am)(c:NC)(X:am)(vs:List V)(H:Hp)(Q:VK)(E:XK):Prop
 |mk(F:am->Prop)(p tp ln lr:am)(ns:List Int)(rs:List R5)(s:NS)(x:Int):vs=[.ref p,.int x]->RN K CT c H F p tp ln lr ns rs s->(dr x s.aL.length->Q .fW H)->(¬dr x s.aL.length->E (.ref X) ae H)->VM K CT c X vs H Q E
theorem jZ(T:Txt K mg w t):bu P w K mg base (jD P w) 1 t.ic t.ju ["self","caller"] (VM K t.aK (nc t) t.cZ):=by
 refine T.b9.F.jb xq λH Q E f h=>?_;obtain⟨F,p,i,n,j,r,s,st,x,rfl,N,k,e⟩:=h;exists _,(aX (bY (g9 (fG jm kR aC (pv 1) (lS T.gM (aU (pv 0) rfl)))) (aX (dB rfl T.Rh T.Ri f.hd au)) bq)),4;left;obtain⟨c,m,q,g,O,o,l⟩:=id N.nw.cj;have d:=O.get .cj _ rfl;rw[g] at d;exists 1574;by_cases a:0<=x;case neg=>rw[c5 a];exact dh ⟨1,cS (e λz=>a z.1)⟩
 rw[b6 a];refine cS ⟨1,p,9,d,T.aW,T.kW,2,c .aL,1,.inl (bH.of (O.get .aL _ rfl)),574⟩;rw[ah];by_cases b:x<(st.aL.length:Int);case neg=>rw[c5 b];exact cS (e λz=>b z.2)
 rw[b6 b];exact dh (k ⟨a,b⟩)
inductive vr(K:af)(CT:am)(c:NC)(X:am)(vs:List V)(H:Hp)(Q:VK)(E:XK):Prop
 |mk(F:am->Prop)(p tp ln lr:am)(ns:List Int)(rs:List R5)(s:NS)(x:Int):vs=[.ref p,.int x]->RN K CT c H F p tp ln lr ns rs s->¬dr x s.aL.length->E (.ref X) ae H->vr K CT c X vs H Q E
theorem ZT(T:Txt K mg w t):bu P w K mg base (jD P w) 2 t.xY t.CL ["self","caller"] (vr K t.aK (nc t) t.cZ):=by refine T.CP.F.jb Q7 λH Q E j h=>?_;obtain⟨F,p,c,e,d,i,l,st,x,rfl,N,b,g⟩:=h;exists _,(aj (cP (cR (pv 0) T.aW T.b9.m (jZ T) (j.mono (!_)) T.b9.B .nil cY (dg (pv 1)))) bP),4;obtain⟨f,o,q,k,O,r,n⟩:=id N.nw.cj;have a:=O.get .cj _ rfl;rw[k] at a;exists 1,p,5,a,7,F,p,c,e,d,i,l,st,x,2,N,λz=>b3 z b,λ_=>g
inductive Hs(K:af)(CT:am)(c:NC)(X:am)(vs:List V)(H:Hp)(Q:VK)(E:XK):Prop
 |mk(F:am->Prop)(p tp ln lr:am)(ns:List Int)(rs:List R5)(s:NS)(x:Int):vs=[.ref p,.int x]->RN K CT c H F p tp ln lr ns rs s->¬dr x 3->E (.ref X) ae H->Hs K CT c X vs H Q E
theorem Eo(T:Txt K mg w t):bu P w K mg base (jD P w) 2 t.ue t.yP ["self","group"] (Hs K t.aK (nc t) t.dc):=by refine T.ig.F.jb Oh λH Q E c h=>?_;obtain⟨F,p,d,f,e,i,j,st,x,rfl,N,a,b⟩:=h;exists _,(aj (cP (iz (zJ T) (c.mono (!_)) rfl T.gE.g T.gE.F.kp T.gE.B .nil cY (dg (pv 1)))) bP),4;exists 1,x,2,λz=>b3 z a,λ_=>b
theorem LX(T:Txt K mg w t):bu P w K mg base (jD P w) 3 t.uf t.yQ ["self","group"] (Hs K t.aK (nc t) t.dc):=by refine T.j8.F.jb Oi λH Q E n h=>?_;obtain⟨F,p,e,i,f,k,u,st,x,rfl,N,d,j⟩:=h;exists _,(oR (cR (aU (pv 0) rfl) T.d9 T.nV.m (EN T) (n.mono (!_)) T.nV.B .nil cY (dg (pv 1)))),4;left;obtain⟨a,g,q,s,O,C,A⟩:=id N.nw.cj;have c:=O.get .cj _ rfl;rw[s] at c;exists 1,p,9,c,T.aW,T.jd,2,a .bZ,g .bZ,1,O.get .bZ _ rfl,7,a .bZ,e,a .dG,i,f,k,u,st.ws,x,2,N.nw.nD,O.strAt,N.ok.wl,N.o.Wn,(λr b=>⟨(N.o.ok r b).e1,(N.o.ok r b).e7⟩),λz l y e1 v _ _ _=>b3 ⟨66⟩ d,λ_=>j
theorem Uv(T:Txt K mg w t):bu P w K mg base (jD P w) 6 t.qY t.vH ["self","group"] (Hs K t.aK (nc t) t.dc):=by refine T.rz.F.jb K8 λH Q E b h=>?_;obtain⟨F,p,d,f,e,j,l,st,x,rfl,N,c,i⟩:=h;exists _,(oR (iz (Sb T) (b.mono (!_)) rfl T.zb T.DI.F.kp T.DI.B .nil mZ (KO (aU (pv 0) rfl) (cR (pv 0) T.aW T.j8.m (LX T) (b.mono (!_)) T.j8.B .nil cY (dg (pv 1))) (cR (pv 0) T.aW T.ig.m (Eo T) (b.mono (!_)) T.ig.B .nil cY (dg (pv 1)))))),4;left;obtain⟨g,o,q,k,O,r,n⟩:=id N.nw.cj;have a:=O.get .cj _ rfl;rw[k] at a;exists 1,p,9,a,T.aW,T.ir,7,p,5,a,7,F,p,d,f,e,j,l,st,x,2,N,c,i
theorem Po(T:Txt K mg w t):bu P w K mg base (jD P w) 5 t.mq t.pX ["self","group"] (Hs K t.aK (nc t) t.dc):=by refine T.qj.F.jb FN λH Q E b h=>?_;obtain⟨F,p,d,f,e,j,l,st,x,rfl,N,c,i⟩:=h;exists _,(oR (iz (Sa T) (b.mono (!_)) rfl T.Ey T.CM.F.kp T.CM.B .nil mZ (KO (aU (pv 0) rfl) (cR (pv 0) T.aW T.j8.m (LX T) (b.mono (!_)) T.j8.B .nil cY (dg (pv 1))) (cR (pv 0) T.aW T.ig.m (Eo T) (b.mono (!_)) T.ig.B .nil cY (dg (pv 1)))))),4;left;obtain⟨g,o,q,k,O,r,n⟩:=id N.nw.cj;have a:=O.get .cj _ rfl;rw[k] at a;exists 1,p,9,a,T.aW,T.ir,7,p,5,a,7,F,p,d,f,e,j,l,st,x,2,N,c,i
inductive Xv(K:af)(CT:am)(c:NC)(X Y:am)(vs:List V)(H:Hp)(Q:VK)(E:XK):Prop
 |mk(F:am->Prop)(p tp ln lr:am)(ns:List Int)(rs:List R5)(s:NS)(x g:Int):vs=[.ref p,.int x,.int g]->RN K CT c H F p tp ln lr ns rs s->(dr x ns.length->¬dr g 3)->(¬dr x ns.length->E (.ref X) ae H)->(dr x ns.length->E (.ref Y) ae H)->Xv K CT c X Y vs H Q E
theorem Ht(T:Txt K mg w t):bu P w K mg base (jD P w) 3 t.oK t.sE ["self","house","group"] (Xv K t.aK (nc t) t.eN t.dc):=by refine T.jW.F.jb IE λH Q E f h=>?_;obtain⟨F,p,b,d,c,e,i,st,x,g,rfl,N,j,n,k⟩:=h;exists _,(aj (cP (cR (pv 0) T.aW T.fC.m (xx T) (f.mono (!_)) T.fC.B .nil cY (dg (pv 1)))) (oR (xL (cR (pv 0) T.aW T.ig.m (Eo T) (f.mono (!_)) T.ig.B .nil cY (dg (pv 2))) (pv 1)))),4;left;obtain⟨l,s,q,o,O,u,r⟩:=id N.nw.cj;have a:=O.get .cj _ rfl;rw[o] at a;exists 1,p,5,a,7,F,p,b,d,c,e,i,st,x,2,N,λz=>⟨1,p,5,a,7,F,p,b,d,c,e,i,st,g,2,N,j z,k z⟩,n
theorem LY(T:Txt K mg w t):bu P w K mg base (jD P w) 4 t.ug t.yR ["self","house","group"] (Xv K t.aK (nc t) t.eN t.dc):=by refine T.nW.F.jb vz λH Q E l h=>?_;obtain⟨F,p,c,f,e,k,o,st,x,g,rfl,N,b,j,d⟩:=h;exists _,(aj (sS 3 vz (cR (pv 0) T.aW T.jW.m (Ht T) (l.mono (!_)) T.jW.B .nil cY (dX (pv 1) (pv 2)))) bP),4;obtain⟨i,s,q,n,O,u,r⟩:=id N.nw.cj;have a:=O.get .cj _ rfl;rw[n] at a;exists 1,p,5,a,71,F,p,c,f,e,k,o,st,x,g,2,N,b,j,d
inductive zi(K:af)(CT:am)(c:NC)(X Y:am)(vs:List V)(H:Hp)(Q:VK)(E:XK):Prop
 |mk(F:am->Prop)(p tp ln lr:am)(ns:List Int)(rs:List R5)(s:NS)(x y:Int):vs=[.ref p,.int x,.int y]->RN K CT c H F p tp ln lr ns rs s->(dr x s.aL.length->¬dr y (cx ns))->(¬dr x s.aL.length->E (.ref X) ae H)->(dr x s.aL.length->E (.ref Y) ae H)->zi K CT c X Y vs H Q E
theorem Xw(T:Txt K mg w t):bu P w K mg base (jD P w) 2 t.um t.yU ["self","caller","house"] (zi K t.aK (nc t) t.cZ t.eN):=by refine T.yZ.F.jb Oj λH Q E f h=>?_;obtain⟨F,p,b,d,c,e,g,st,x,y,rfl,N,i,l,j⟩:=h;exists _,(aj (cP (cR (pv 0) T.aW T.b9.m (jZ T) (f.mono (!_)) T.b9.B .nil cY (dg (pv 1)))) (aj (cP (cR (pv 0) T.aW T.fC.m (xx T) (f.mono (!_)) T.fC.B .nil cY (dg (pv 2)))) bP)),4;obtain⟨k,s,q,o,O,u,r⟩:=id N.nw.cj;have a:=O.get .cj _ rfl;rw[o] at a;exists 1,p,5,a,7,F,p,b,d,c,e,g,st,x,2,N,λz=>⟨1,p,5,a,7,F,p,b,d,c,e,g,st,y,2,N,λn=>b3 n (i z),λ_=>j z⟩,l
inductive Xx(K:af)(CT:am)(c:NC)(X Y:am)(vs:List V)(H:Hp)(Q:VK)(E:XK):Prop
 |mk(F:am->Prop)(p tp ln lr:am)(ns:List Int)(rs:List R5)(s:NS)(x:Int)(b:V):vs=[.ref p,.int x,b]->RN K CT c H F p tp ln lr ns rs s->(¬dr x s.aL.length->E (.ref X) ae H)->(dr x s.aL.length->∃y:Int,b=.int y/\(dr y s.aL.length->s.groups[x.toNat]?≠s.groups[y.toNat]?)/\(¬dr y s.aL.length->E (.ref X) ae H)/\(dr y s.aL.length->E (.ref Y) ae H))->Xx K CT c X Y vs H Q E
theorem KJ(T:Txt K mg w t):bu P w K mg base (jD P w) 2 t.jg t.kH ["self","sender","to"] (Xx K t.aK (nc t) t.cZ t.jC):=by refine T.kK.F.jb z4 λH Q E j h=>?_;obtain⟨F,p,n,s,r,u,v,st,x,b,rfl,N,J,C⟩:=h;exists _,(aj (cP (cR (pv 0) T.aW T.b9.m (jZ T) (j.mono (!_)) T.b9.B .nil cY (dg (pv 1)))) (aX (bY (qT PM (pv 2) ny) (aj (cP (cR (pv 0) T.aW T.b9.m (jZ T) (j.mono (!_)) T.b9.B .nil cY (dg (pv 2)))) (aX (bY (qT lJ (xL (aU (pv 0) rfl) (pv 1)) (xL (aU (pv 0) rfl) (pv 2))) (aX (dB rfl T.acw T.acy j.hd au)) bq))) bq))),4;left;obtain⟨e,R,q,L,O,S,M⟩:=id N.nw.cj;have c:=O.get .cj _ rfl;rw[L] at c;exists 1,p,5,c,7,F,p,n,s,r,u,v,st,x,2,N,λi=>?_,J;obtain⟨y,rfl,A,D,I⟩:=C i;exists 17,cS ?_;exists 1,p,5,c,7,F,p,n,s,r,u,v,st,y,2,N,λg=>?_,D;have o:=A g;have G:=I g;obtain⟨l,rfl⟩:∃l:Nat,x=(l:Int):=⟨x.toNat,by have:=i.1;lia⟩;obtain⟨k,rfl⟩:∃k:Nat,y=(k:Int):=⟨y.toNat,by have:=g.1;lia⟩;rw[g5,g5] at o;have f:=bH.of (K:=K) (O.get .groups _ rfl);have d:l<st.groups.length:=(by have:=i.2;have:=N.gl;lia);have a:k<st.groups.length:=(by have:=g.2;have:=N.gl;lia);exists 1,p,9,c,T.aW,T.jX,7,e .groups,8,f,pK d,1,p,9,c,T.aW,T.jX,7,e .groups,8,f,pK a,74;rw[c5 (λz=>o (by rw[aa d,aa a];have:=V.int.inj z;exact c6 ac ∅))];exact cS G
theorem Xy(T:Txt K mg w t):bu P w K mg base (jD P w) 3 t.j7 t.yW ["self","sender","to"] (Xx K t.aK (nc t) t.cZ t.jC):=by refine T.uq.jb vA λH Q E k h=>?_;obtain⟨F,p,c,f,e,j,n,st,x,b,rfl,N,i,d⟩:=h;exists _,(aj (cP (cR (pv 0) T.aW T.kK.m (KJ T) (k.mono (!_)) T.kK.B .nil cY (dX (pv 1) (pv 2)))) bP),4;obtain⟨g,r,q,l,O,s,o⟩:=id N.nw.cj;have a:=O.get .cj _ rfl;rw[l] at a;exists 1,p,5,a,71,F,p,c,f,e,j,n,st,x,b,2,N,i,d
inductive y8(K:af)(CT:am)(c:NC)(X:am)(vs:List V)(H:Hp)(Q:VK)(E:XK):Prop
 |mk(F:am->Prop)(p tp ln lr:am)(ns:List Int)(rs:List R5)(s:NS)(x:Int):vs=[.ref p,.int x]->RN K CT c H F p tp ln lr ns rs s->¬dr x s.cps.length->E (.ref X) ae H->y8 K CT c X vs H Q E
theorem Pp(T:Txt K mg w t):bu P w K mg base (jD P w) 1 t.gD t.qf ["self","at"] (y8 K t.aK (nc t) t.iN):=by
 refine T.mJ.jb iL λH Q E i h=>?_;obtain⟨F,p,k,n,l,r,s,st,x,rfl,N,f,e⟩:=h;exists _,(aj (bY (g9 (fG jm kR aC (pv 1) (lS T.gM (aU (pv 0) rfl)))) (aX (dB rfl T.YO T.YQ i.hd au)) bq) bP),4;left;obtain⟨b,m,q,j,O,o,g⟩:=id N.nw.cj;have d:=O.get .cj _ rfl;rw[j] at d;have c:q.cq.length=st.cps.length:=(by have:=g.cps.len;rw[ah] at this;exact this);exists 1574;by_cases a:0<=x;case neg=>rw[c5 a];exact dh ⟨1,cS e⟩
 rw[b6 a];refine cS ⟨1,p,9,d,T.aW,T.jY,2,b .fJ,1,.inl (bH.of (O.get .fJ _ rfl)),574⟩;rw[ah,c,c5 (λz=>f ⟨a,z⟩)];exact cS e
inductive VN(K:af)(CT:am)(c:NC)(X:am)(vs:List V)(H:Hp)(Q:VK)(E:XK):Prop
 |mk(F:am->Prop)(p tp ln lr:am)(ns:List Int)(rs:List R5)(s:NS)(x:Int):vs=[.ref p,.int x]->RN K CT c H F p tp ln lr ns rs s->¬dr x s.ls.length->E (.ref X) ae H->VN K CT c X vs H Q E
theorem Uw(T:Txt K mg w t):bu P w K mg base (jD P w) 1 t.qZ t.vI ["self","letter"] (VN K t.aK (nc t) t.eV):=by
 refine T.vJ.F.jb K9 λH Q E f h=>?_;obtain⟨F,p,i,m,j,o,r,st,x,rfl,N,e,d⟩:=h;exists _,(aj (bY (g9 (fG jm kR aC (pv 1) (lS T.gM (aU (pv 0) rfl)))) (aX (dB rfl T.Rj T.Rk f.hd au)) bq) bP),4;left;obtain⟨b,l,q,g,O,n,k⟩:=id N.nw.cj;have c:=O.get .cj _ rfl;rw[g] at c;exists 1574;by_cases a:0<=x;case neg=>rw[c5 a];exact dh ⟨1,cS d⟩
 rw[b6 a];refine cS ⟨1,p,9,c,T.aW,T.eX,2,b .cJ,1,.inl (bH.of (O.get .cJ _ rfl)),574⟩;rw[ah,bI,c5 (λz=>e ⟨a,z⟩)];exact cS d
def vk(rs:List R5)(s:NS)(i x:Int):Prop:=¬dr i rs.length∨∃(j:Nat)(w:List Nat),i=(j:Int)/\s.ws[j]?=ac w/\∀k∈w,x≠(k:Nat)
def tJ(rs:List R5)(s:NS)(i x:Int):Prop:=¬dr i rs.length∨∃(j:Nat)(w:List Nat)(r:R5),i=(j:Int)/\s.ws[j]?=ac w/\rs[j]?=ac r/\(¬(0<=x/\x<r.d)∨∃k∈w,x=(k:Nat))
inductive y6(K:af)(CT:am)(c:NC)(X:am)(vs:List V)(H:Hp)(Q:VK)(E:XK):Prop
 |mk(F:am->Prop)(p tp ln lr:am)(ns:List Int)(rs:List R5)(s:NS)(i x:Int):vs=[.ref p,.int i,.int x]->RN K CT c H F p tp ln lr ns rs s->vk rs s i x->(∀H',aB H H'->E (.ref X) ae H')->y6 K CT c X vs H Q E
theorem Xz(T:Txt K mg w t):bu P w K mg base (jD P w) 3 t.uh t.yS ["self","rope","wire"] (y6 K t.aK (nc t) t.fq):=by refine T.yY.F.jb zZ λH Q E G h=>?_;obtain⟨F,p,n,y,u,C,L,st,i,x,rfl,N,b,e⟩:=h;exists _,(aj (sS 3 zZ (cR (aU (pv 0) rfl) T.d9 T.nU.m (EL T) (G.mono (!_)) T.nU.B .nil cY (dX (pv 1) (pv 2)))) bP),4;left;obtain⟨a,v,q,I,O,V,U⟩:=id N.nw.cj;have c:=O.get .cj _ rfl;rw[I] at c;exists 1,p,9,c,T.aW,T.jd,2,a .bZ,v .bZ,1,O.get .bZ _ rfl,71,a .bZ,n,a .dG,y,u,C,L,st.ws,i,x,2,N.nw.nD,O.strAt,N.ok.wl,N.ok.w4,λj k R M W d S l g r _ _ _ _ _=>?_,λ_=>e _ (aB.refl _),λ_ _ d _ _ _ s=>e d s;exfalso;have D:=(ai.mp g).1;rw[N.ok.wl] at D;rcases b with z|⟨o,J,X,f,A⟩;exact z ⟨66⟩;have:j=o:=∅;subst this;rw[g] at f;cases f;exact A k r l
inductive vi(K:af)(CT:am)(c:NC)(X:am)(vs:List V)(H:Hp)(Q:VK)(E:XK):Prop
 |mk(F:am->Prop)(p tp ln lr:am)(ns:List Int)(rs:List R5)(s:NS)(i x:Int):vs=[.ref p,.int i,.int x]->RN K CT c H F p tp ln lr ns rs s->tJ rs s i x->(∀H',aB H H'->E (.ref X) ae H')->vi K CT c X vs H Q E
theorem ZU(T:Txt K mg w t):bu P w K mg base (jD P w) 4 t.xX t.CK ["self","rope","wire"] (vi K t.aK (nc t) t.fq):=by refine T.CO.F.jb DC λH Q E I h=>?_;obtain⟨F,p,o,C,y,D,V,st,i,x,rfl,N,c,g⟩:=h;exists _,(aj (sS 3 DC (cR (aU (pv 0) rfl) T.d9 T.qi.m (Hj T) (I.mono (!_)) T.qi.B .nil cY (dX (pv 1) (pv 2)))) bP),4;left;obtain⟨a,A,q,S,O,hF,hT⟩:=id N.nw.cj;have d:=O.get .cj _ rfl;rw[S] at d;exists 1,p,9,d,T.aW,T.jd,2,a .bZ,A .bZ,1,O.get .bZ _ rfl,71,a .bZ,o,a .dG,C,y,D,V,st.ws,i,x,2,N.nw.nD,O.strAt,N.ok.wl,N.ok.w4,λj k Z w2 r Y q' e e1 X n u R J _ _ _ _ _ _ _=>?_,λ_=>g _ (aB.refl _),λ_ _ _ e _ _ _ _ v=>g e v;exfalso;have G:=(ai.mp n).1;rw[N.ok.wl] at G;rcases c with z|⟨s,U,r',f1,l,f,b⟩;exact z ⟨66⟩;have:j=s:=∅;subst this;rw[n] at l;cases l;rw[u] at f;cases f;rcases b with b|⟨L,M,W⟩;exact b ⟨6,R⟩;have:k=L:=∅;exact J (this▸M)
def tI(n:Nat)(cl:List (Int×Int)):Prop:=20<cl.length∨∃c∈cl,¬(dr c.1 n/\dr c.2 3)
noncomputable abbrev pE(cl:List (Int×Int)):List (List V):=cl.map λc=>[.int c.1,.int c.2]
inductive SM(K:af)(C X:am)(vs:List V)(H:Hp)(Q:VK)(E:XK):Prop
 |mk(tp ln lr lc:am)(ns:List Int)(rs:List R5)(qs:List am)(cl:List (Int×Int)):vs=[.ref tp,.ref lc]->dR K C H tp ln lr ns rs->bH K H lc (qs.map ci)->gI K H qs (pE cl)->tI (cx ns) cl->E (.ref X) ae H->SM K C X vs H Q E
theorem LZ(T:Txt K mg w t):bu P w K mg base (jD P w) 1 t.jK t.lV ["town","callers"] (SM K t.aK t.dD):=by
 refine T.jL.F.jb oG λH Q E n h=>?_;obtain⟨D,R,O,m,ns,S,f,cl,rfl,J,x,G,B,j⟩:=h;exists _,(aj (bY (qT i4 (lS T.gM (pv 1)) (cF rfl T.zc (v:=.int 20) ⟨1⟩)) (aX (dB rfl T.jN T.jO n.hd (HC (kh au (kh (HD (cF rfl T.zc (v:=.int 20) ⟨1⟩)) (kh au Mr)))))) bq) (aX (V0 Qw rfl (dZ (pv 1)) (gT 2 oG) (aj (bY (qT lJ (lS T.gM (pv 2)) aC) (aX (dB rfl T.jN T.jO n.hd au)) bq) (aj (bY (g9 (fG jm kR aC (xT (pv 2) aC) (aU (pv 0) rfl))) (aX (dB rfl T.jN T.jO n.hd au)) bq) (aX (bY (g9 (fG jm kR aC (xT (pv 2) aC) (lS T.gM (cF rfl T.lq (v:=.ref t.fj) rfl)))) (aX (dB rfl T.jN T.jO n.hd au)) bq))))))),4;left;obtain⟨⟨L,o⟩,_⟩:=id J;have I:f.length=cl.length:=(by rw[G.len,ah]);exists 1,m,1,.inl x,57,nA (λe=>?_) (λe=>?_);exists 10101,↑_,1,↑_,↑_,j;exists 1,m,2,⟨_,x⟩,rK (K:=K) (a:=m) (xs:=f.map ci) (λi l g=>g=H/\(∀c∈cl.take i,dr c.1 ns.length/\dr c.2 3)/\∃p:Option V,l=[ac (.ref D),ac (.ref m),p]) ⟨2,λc z=>by simp at z,1⟩ (λi l g _ z=>by rw[z.1];exact x) ?_ ?_;·rintro i y l g u ⟨rfl,b,p,rfl⟩;have d:=(ai.mp u).1;rw[ah] at d;have k:i<cl.length:=I▸d;have N:y=.ref f[i]:=(by rw[ak,aa d] at u;exact (aT u).symm);subst N;have hq:dY K g f[i] [.int cl[i].1,.int cl[i].2]:=G.at' i _ _ (aa d) (by rw[ak,aa k];rfl);exists 1,f[i],1,.inr hq,7,qS (by show (!decide (cf 2=cf 2))=al;rw[b6 rfl];rfl) ?_;exists 1,f[i],8,hq,2574;by_cases q:0<=cl[i].1;(case neg=>rw[c5 q];exact dh ⟨1,cS j⟩);rw[b6 q];refine cS ⟨1,D,_,L,5,o,T.fB,T.iO,2574⟩;by_cases A:cl[i].1<(ns.length:Int);(case neg=>rw[c5 A];exact cS j);rw[b6 A];refine dh ?_;exists 1,f[i],8,hq,2574;by_cases r:0<=cl[i].2;(case neg=>rw[c5 r];exact dh ⟨1,cS j⟩);rw[b6 r];refine cS ⟨5,.inr (T.gK _),574⟩;by_cases s:cl[i].2<3;(case neg=>have C:decide (cl[i].2<((([.int 1,.int 2,.int 4]:List V).length:Nat):Int))=al:=c5 s;rw[C];exact cS j);have C:decide (cl[i].2<((([.int 1,.int 2,.int 4]:List V).length:Nat):Int))=ag:=b6 s;rw[C];refine dh ⟨2,λc z=>?_,1⟩;rw[<- List.take_append_getElem k] at z;rcases bh.mp z with z|z;exact b c z;rw[aZ.mp z];exists ⟨q,A⟩,⟨r,s⟩
 rintro l g ⟨rfl,b,p,rfl⟩;exfalso;rw[ah,I,gR] at b;rcases B with z|⟨c,M,z⟩;refine e (b6 ?_);rw[ah];lia;exact z (b c M)
inductive vb(K:af)(C X:am)(vs:List V)(H:Hp)(Q:VK)(E:XK):Prop
 |mk(p tp ln lr lc:am)(ns:List Int)(rs:List R5)(qs:List am)(cl:List (Int×Int)):vs=[.ref p,.ref tp,.ref lc]->dR K C H tp ln lr ns rs->bH K H lc (qs.map ci)->gI K H qs (pE cl)->tI (cx ns) cl->E (.ref X) ae H->vb K C X vs H Q E
theorem SN(T:Txt K mg w t):bu P w K mg base (jD P w) 2 t.oJ t.sD ["self","town","callers"] (vb K t.aK t.dD):=by refine T.sP.F.jb j5 λH Q E o h=>?_;obtain⟨p,b,j,e,k,m,q,d,n,rfl,i,f,c,a,l⟩:=h;exists _,(aj (cP (iz (LZ T) (o.mono (!_)) rfl T.jL.g T.jL.F.kp T.jL.B .nil cY (dX (pv 1) (pv 2)))) bP),4;exists 37,b,j,e,k,m,q,d,n,2,i,f,c,a,l
def Iz(t:Ad)(i:Nat):am:=[t.dD,t.eN,t.dc,t.fq,t.cZ,t.jC,t.iN,t.eV,t.eB].getD i 0
inductive m7(ns:List Int)(rs:List R5)(s:NS):Nat->List V->Nat->Prop where
 |ak5 (x g:Int):¬dr x ns.length->m7 ns rs s 0 [.int x,.int g] 1
 |ak6 (x g:Int):dr x ns.length->¬dr g 3->m7 ns rs s 0 [.int x,.int g] 2
 |round (g:Int):¬dr g 3->m7 ns rs s 1 [.int g] 2
 |rest (g:Int):¬dr g 3->m7 ns rs s 2 [.int g] 2
 |apT (x g:Int):¬dr x ns.length->m7 ns rs s 3 [.int x,.int g] 1
 |apU (x g:Int):dr x ns.length->¬dr g 3->m7 ns rs s 3 [.int x,.int g] 2
 |Qe (g:Int):¬dr g 3->m7 ns rs s 4 [.int g] 2
 |vP (i x:Int):vk rs s i x->m7 ns rs s 5 [.int i,.int x] 3
 |lay (i x:Int):tJ rs s i x->m7 ns rs s 6 [.int i,.int x] 3
 |ak7 (x y:Int):¬dr x s.aL.length->m7 ns rs s 7 [.int x,.int y] 4
 |ak8 (x y:Int):dr x s.aL.length->¬dr y ns.length->m7 ns rs s 7 [.int x,.int y] 1
 |postC (x:Int) (b:V):¬dr x s.aL.length->m7 ns rs s 8 [.int x,b] 4
 |ak9 (x y:Int):dr x s.aL.length->¬dr y s.aL.length->m7 ns rs s 8 [.int x,.int y] 4
 |apart (x y:Int):dr x s.aL.length->dr y s.aL.length->s.groups[x.toNat]?≠s.groups[y.toNat]?->m7 ns rs s 8 [.int x,.int y] 5
 |copy (x:Int):¬dr x s.cps.length->m7 ns rs s 9 [.int x] 6
 |had (x:Int):¬dr x s.aL.length->m7 ns rs s 12 [.int x] 4
 |letter (x:Int):¬dr x s.ls.length->m7 ns rs s 13 [.int x] 7
theorem m7.lt(h:m7 ns rs s d vs i):i<8:=by cases h <;> decide
theorem Yf(c:Nat):(!(Builtin.Str.occurrences ("0123456789" : Str) ⟨#[c]⟩ 0 ("0123456789" : Str).length 1).isEmpty)=TX.Es c:=by
 rw[StrLaws.found_one];by_cases h:48<=c/\c<=57;·have:c=48∨c=49∨c=50∨c=51∨c=52∨c=53∨c=54∨c=55∨c=56∨c=57:=∅;rcases this with rfl|rfl|rfl|rfl|rfl|rfl|rfl|rfl|rfl|rfl <;> decide +kernel
 ·rw[show TX.Es c=al by unfold TX.Es;rw[Bool.and_eq_false_iff,decide_eq_false_iff_not,decide_eq_false_iff_not];lia];refine c5 λz=>?_;have e:("0123456789" : Str).cps.toList=[48,49,50,51,52,53,54,55,56,57]:=(by decide +kernel);rw[e] at z;simp only[aM,cN,or_false] at z;rcases z with rfl|rfl|rfl|rfl|rfl|rfl|rfl|rfl|rfl|rfl <;> exact h ⟨!_,!_⟩
def X7(z:Str):Int:=(PySem.intText? z).getD 0
inductive Ih(NT:am)(vs:List V)(H:Hp)(Q:VK)(E:XK):Prop
 |mk(z:Str):vs=[.str z]->z.cps.all (·<128)=ag->z.length<=100000->(∀H',aB H H'->TX.okN z=ag->Q (.int (X7 z)) H')->(∀H',aB H H'->TX.okN z=al->E (.ref NT) ae H')->Ih NT vs H Q E
theorem w9(T:Txt K mg w t):bu P w K mg base (jD P w) 1 t.mw t.pY ["word"] (Ih t.eB):=by refine T.dM.F.jb rW λH Q E G h=>?_;obtain⟨z,rfl,Y,X,N,A⟩:=h;exists _,(aj (bY (g9 (fG jm jm aC (cB KW T.gM PySem.boot_len (dg (pv 0))) (cF rfl T.zd (v:=.int 60) ⟨1⟩))) (aX (dB rfl T.vK T.vL G.hd (HC (kh au (kh (HD (cF rfl T.zd (v:=.int 60) ⟨1⟩)) (kh au Mr)))))) bq) (aj (bY (g9 (j3 (cB (Qu rfl) T.agC boot_all (dg (fN (kO rW ["sign"] [ae]) rfl (xt (pv 0)) (λ_ _ _ _=>by exact (gS 0 z5)) (λ_ _ _ _=>by exact gk) (λ_ _ _ _=>by exact (V3 UC (pv 0) (cF rfl T.Vj (v:=.str "0123456789") ⟨1⟩) (by with_unfolding_all rfl)))))))) (aX (dB rfl T.vK T.vL G.hd au)) bq) (aj (bY (PW.pt (E8 (qT xj (UK xi (pv 0) aC (λ_ _=>rfl)) au) (zR (qT lJ (pv 0) au)))) (aX (dB rfl T.vK T.vL G.hd au)) bq) (oR (eK U6 (by rfl) T.acB boot_int (dg (pv 0))))))),4;have m:z.length<=a9:=aE X (!_);exists 37,m,574;have s:¬(1<=z.length/\z.length<=60)->TX.okN z=al:=λh=>(by unfold TX.okN;by_cases y:1<=z.length;rw[c5 (show ¬z.length<=60 from λq=>h ⟨y,q⟩)];simp;rw[c5 y];rfl);refine nA (λr=>?_) (λr=>?_);have r:(1:Int)<=z.length:=c7 r;exists 57,nA (λk=>?_) (λk=>?_);have k:¬(z.length:Int)<=60:=(by simpa using k);exists 1,↑_,101,↑_,1,↑_,↑_,A _ (aB.refl _) (s ∅);have k:(z.length:Int)<=60:=(by simpa using k);have U:z.cps.size=z.length:=rfl;exists 37,Y,λJ o=>?_;refine K3 (n:=z.cps.size) (λi=>.str ⟨#[z.cps.getD i 0]⟩) (λi=>ac (.bl (TX.Es (z.cps.getD i 0)))) o xp Yp (λi u x H3 p g O=>?_) ∅ (λi u R S p g y Z=>?_) (λu g M=>?_);obtain⟨rfl,c,D,rfl⟩:=O;exists 24;rw[Array.getD_eq_getD_getElem?,D];rfl;exists 1524;rw[Yf];exact y _ _ (aB.refl _) rfl;have e:(ay z.cps.size).filterMap (λi=>ac (cn (TX.Es (z.cps.getD i 0))))=((TX.cs z).map TX.Es).map cn:=(by rw[List.filterMap_eq_map',cz];apply List.ext_getElem?;intro i;rw[ak,ak];by_cases p:i<z.cps.size;rw[i8 p,aa (by rw[dQ];exact p)];simp[p];rw[g4 (by rw[bI];lia),g4 (by rw[dQ];lia)];rfl);rw[e] at M;exists J,1,bH.of M,14;have I:((TX.cs z).map TX.Es).all id=(TX.cs z).all TX.Es:=(by rw[List.all_map];rfl);rw[I];refine nA (λa=>?_) (λa=>?_);have a:(TX.cs z).all TX.Es=al:=(by simpa using a);refine A _ g ?_;unfold TX.okN;rw[a];simp;have a:(TX.cs z).all TX.Es=ag:=(by simpa using a);have l:0<z.cps.toList.length:=(by rw[dQ];lia);have B:KN z.cps.toList 0=ac z.cps.toList[0]:=dF (j:=0) (aa l);have d:PySem.intText? z=ac (X7 z):=(by have e:=PySem.intText_digits (x:=z) (λc D=>by have:=iQ.mp a c D;unfold TX.Es at this;simp only[eS,decide_eq_true_eq] at this;exact this) (λq=>by rw[q] at l;simp at l) ∅;unfold X7;rw[e];rfl);have f:((TX.cs z)[0]?≠ac 48∨z = "0")->TX.okN z=ag:=λq=>(by unfold TX.okN;rw[b6 (show 1<=z.length by lia),b6 (show z.length<=60 by lia),a];rcases q with q|q;rw[b6 q];rfl;rw[b6 q];simp);exists 18,m,B,7,nA (λe=>?_) (λe=>?_);have L:(⟨#[z.cps.toList[0]]⟩:Str)=("0" : Str):=V.str.inj (c7 e);have C:z.cps.toList[0]=48:=(by have:=c6 (λz:Str=>z.cps.getD 0 0) L;exact this);exists 17,nA (λb=>?_) (λb=>?_);have b:z≠("0" : Str):=(by intro q;rw[q] at b;exact b3 b (↑_));refine A _ g ?_;unfold TX.okN;rw[a,c5 b,c5 (λq:(TX.cs z)[0]?≠ac 48=>q (by rw[aa l,C]))];simp;have b:z=("0" : Str):=(by by_cases q:z=("0" : Str);exact q;exfalso;revert b;simp[q]);exists 15,d,6,N u g (f (.inr b));have W:(TX.cs z)[0]?≠ac 48:=λq=>(by rw[aa l] at q;have q:z.cps.toList[0]=48:=aT q;rw[q] at e;exact b3 e (↑_));exists 15,d,6,N u g (f (.inl W));have r:¬(1:Int)<=z.length:=λq=>r (b6 q);exists 14;exact cS ⟨1,↑_,101,↑_,1,↑_,↑_,A _ (aB.refl _) (s ∅)⟩
def nk(ws:List Str):Prop:=ws.length<=1000/\∀z∈ws,z.cps.all (·<128)=ag/\z.length<=100000
theorem nk.drop(h:nk ws)(n:Nat):nk (ws.drop n):=⟨by rw[lD];have:=h.1;lia,λz a=>h.2 z (List.mem_of_mem_drop a)⟩
def dn(ws:List Str):List V:=(ws.map X7).map cf
theorem ahu{ws:List Str}{i:Nat}(h:ws[i]?=ac z)(a:TX.okN z=al):TX.Il ws=al:=by cases q:TX.Il ws with|false=>rfl|true=>rw[TX.age q z (aQ h)] at a;cases a
inductive KL(K:af)(NT:am)(vs:List V)(H:Hp)(Q:VK)(E:XK):Prop
 |mk(l:am)(ws:List Str)(m:Int):vs=[.ref l,.int m]->bH K H l (bf ws)->nk ws->(m=5∨m=2∨m=1∨m=0)->(∀l' H',(ws.length:Int)=m->TX.Il ws=ag->aB H H'->H l'=ae->H' l'=ac (.lst (dn ws))->Q (.ref l') H')->(∀H',((ws.length:Int)≠m∨TX.Il ws=al)->aB H H'->E (.ref NT) ae H')->KL K NT vs H Q E
theorem L5{l a:am}{ws:List Str}{H:Hp}{Q:Hp->Prop}{E:XK}{z:am}{F:L2.St}(f:H a=ae)(w:bH K H l (bf ws))(C:nk ws)(L:∀c,TX.Il ws=ag->aB H c->c a=ac (.lst (dn ws))->Q c)(J:∀c,TX.Il ws=al->aB H c->E (.ref z) ae c) :∃W:Nat->Nat->Hp->Prop,(∃m,W 0 m (upd H a (.lst [])))/\∀i m H,W i m H ->((IC K l).stop i H/\Q H)∨((IC K l).go i H/\∀x c,(IC K l).Mc i H x c->pH 0 x (fU [ae] F) c λe u=>si e u λb o=>if b=ag then oy (Ih z) [] (eU (E7 0) xy) e o (λy p=>∃xs,p a=ac (.lst xs)/\xs.length<a9 /\∃h,h<m/\W (i+1) h (upd p a (.lst (xs++[y])))) E else ∃h,h<m/\W (i+1) h o):=by have k:(bf ws).length=ws.length:=-_;refine jA (te:=λe o R=>oy (Ih z) [] (eU (E7 0) xy) e o R E) (n:=(bf ws).length) (λi v _=>v=dn (ws.take i)/\TX.Il (ws.take i)=ag) f (vY w) (lK w) ⟨22⟩ ?_ ?_;rintro i v u G j t ⟨rfl,q⟩ x o ⟨rfl,s⟩;have s:=s _ (j.seq w);have d:i<ws.length:=∅;have I:x=.str ws[i]:=(by simp only[ak,aa d,nj,As] at s;exact s.symm);subst I;obtain⟨D,A⟩:=C.2 _ (aD d);exists 37,D,A,λp r g=>?_,λp r g=>J p (ahu (aa d) g) (j.trans r);have B:ws.take (i+1)=ws.take i++[ws[i]]:=(by rw[i7,aa d];rfl);refine gG f G (j.trans r) (r _ _ t) (cU (by unfold dn;rw[ah,ah,bT];have:=C.1;lia)) ⟨44⟩;rw[B];unfold dn;rw[bx,bx];rfl;rw[B];unfold TX.Il at q ⊢;rw[List.all_append,q];simp[g];rintro v u j t ⟨rfl,q⟩;rw[k,gR] at q t;exact L u q j t
theorem uK(T:Txt K mg w t):bu P w K mg base (jD P w) 2 t.kG t.nP ["words","many"] (KL K t.eB):=by refine T.cW.F.jb qm λH Q E n h=>?_;·obtain⟨l,c,m,rfl,i,r,u,s,o⟩:=h;exists _,(aj (bY (qT lJ (lS T.gM (pv 0)) (pv 1)) (aX (dB rfl T.vK T.vL n.hd (HC (kh (HD (pv 1)) (kh au Mr))))) bq) (oR (Yx (kO qm ["word"] [ae]) rfl rfl rfl rfl mv (dZ (pv 0)) (λ_ _ _ _=>by exact (gS 0 yI)) (λ_ _ _ _=>by exact gk) (λ_ _ _ _=>by exact (Yw (w9 T) (n.mono (!_)) rfl T.dM.g T.dM.F.kp T.dM.B .nil (dg (pv 0))))))),4;have b:(bf c).length=c.length:=-_;exists 1,l,1,.inl i,17,nA (λe=>?_) (λe=>?_);(·rw[b] at e;have e:(c.length:Int)≠m:=(by simpa using e);have q:=o H (.inl e) (aB.refl _);rcases u with rfl|rfl|rfl|rfl <;> exists 3701,↑_,1,↑_,↑_,q);rw[b] at e;have e:(c.length:Int)=m:=(by simpa using e);exists 1,l,2,⟨_,i⟩,λk a=>?_;exact L5 a i r (λf j d p=>s k f e j d a p) (λf j d=>o f (.inr j) d)
inductive ZV(K:af)(NT:am)(vs:List V)(H:Hp)(Q:VK)(E:XK):Prop
 |mk(l:am)(ws:List Str):vs=[.ref l]->bH K H l (bf ws)->nk ws->ws≠[]->(∀l' H',TX.lX ws=ag->aB H H'->H l'=ae->H' l'=ac (.lst (dn (ws.drop 1)))->Q (.ref l') H')->(∀H',TX.lX ws=al->aB H H'->E (.ref NT) ae H')->ZV K NT vs H Q E
theorem XA(ws:List Str):Aw (bf ws) (ac 1) ae=bf (ws.drop 1):=by have:=Cn (bf ws) 1;rw[show ((1:Nat):Int)=1 from rfl] at this;exact this.trans List.map_drop.symm
theorem SO(T:Txt K mg w t):bu P w K mg base (jD P w) 2 t.oM t.sF ["words"] (ZV K t.eB):=by refine T.oU.F.jb uO λH Q E D h=>?_;obtain⟨l,b,rfl,v,J,s,L,z⟩:=h;exists _,(aj (bY (PW.pt (XS (qT lJ (xL (pv 0) aC) au) (Qj (qT kR (lS T.gM (pv 0)) aC)))) (aX (dB rfl T.vK T.vL D.hd au)) bq) (oR (Yx (kO uO ["word"] [ae]) rfl rfl rfl rfl mv (dZ (iY ow (pv 0) (jQ aC) kX)) (λ_ _ _ _=>by exact (gS 0 CB)) (λ_ _ _ _=>by exact gk) (λ_ _ _ _=>by exact (Yw (w9 T) (D.mono (!_)) rfl T.dM.g T.dM.F.kp T.dM.B .nil (dg (pv 0))))))),4;have d:(bf b).length=b.length:=-_;have A:0<b.length:=ko.mpr s;have k:KN (bf b) 0=ac (.str b[0]):=dF (j:=0) (by rw[ak,aa A];rfl);have G:b[0]?=ac b[0]:=aa A;exists 1,l,8,v,k,7,nA (λe=>?_) (λe=>?_);have e:b[0]≠("names" : Str):=(by simpa using e);refine z _ ?_ (aB.refl _);unfold TX.lX;rw[G,c5 (λq=>e (aT q))];rfl;have e:b[0]=("names" : Str):=(by simpa using e);exists 1,l,1,.inl v,57,nA (λf=>?_) (λf=>?_);rw[d] at f;have f:(b.length:Int)<2:=c7 f;refine z _ ?_ (aB.refl _);unfold TX.lX;rw[c5 (show ¬2<=b.length by lia)];simp;rw[d] at f;have f:¬(b.length:Int)<2:=λq=>f (b6 q);have C:TX.lX b=TX.Il (b.drop 1):=(by unfold TX.lX;rw[G,b6 (show ac b[0]=ac ("names" : Str) by rw[e]),b6 (show 2<=b.length by lia)];rfl);exists 37,l,1,v,λm r=>?_;rw[XA];have i:=aB.new (o:=.lst (bf (b.drop 1))) r;have n:=aq (H:=H) (a:=m) (o:=.lst (bf (b.drop 1)));generalize upd H m (.lst (bf (b.drop 1)))=H2 at i n;exists m,2,⟨_,bH.of n⟩,λy c=>?_;exact L5 c (bH.of n) (J.drop 1) (λp x u I=>L y p (C.trans x) (i.trans u) (i.free c) I) (λp x u=>z p (C.trans x) (i.trans u))
theorem VO{sep:List Nat}:∀{l:List (List Nat)}{d:List Nat},d∈l->(∀c∈d,c∈TX.inter sep l)/\d.length<=(TX.inter sep l).length
 |[],_,h=>b3 h (-_)
 |[p],d,h=>by rw[aZ.mp h];exists λ_ z=>z,az _
 |p::q::r,d,h=>by
  show (∀c∈d,c∈p++(sep++TX.inter sep (q::r)))/\d.length<=(p++(sep++TX.inter sep (q::r))).length;rw[av,av];rcases aM.mp h with e|h
  ·rw[e];exists λc a=>List.mem_append_left _ a,6
  ·obtain⟨b,f⟩:=VO h
   exists λc a=>bQ _ (bQ _ (b c a)),6
theorem C8{z:Str}(h:z∈Txt.split x y):(∀c∈TX.cs z,c∈TX.cs x)/\z.length<=x.length:=by have e:=c6 TX.cs (StrLaws.join_split x y);rw[TX.xD] at e;have:=VO (sep:=TX.cs y) (aF.mpr ⟨z,h,2⟩:TX.cs z∈(Txt.split x y).map TX.cs);rw[e,TX.yp,TX.yp] at this;exact this
theorem Hu{z:Str}(h:z∈Txt.split x y)(a:x.cps.all (·<128)=ag):z.cps.all (·<128)=ag:=by rw[<- Array.all_toList,iQ] at a ⊢;exact λc b=>a c ((C8 h).1 c b)
theorem ahv{x:Str}(c:x.cps.all (·<128)=ag)(hl:x.length<=900){ws:List Str}(h:ws∈TX.told x):nk ws/\ws≠[]:=by obtain⟨p,a,rfl⟩:=aF.mp h;have d:=(C8 a).2;exists ⟨aE (split_len p TX.lN) ∅,λz b=>⟨Hu b (Hu a c),4⟩⟩,TX.K5 _ _;have:=(C8 b).2;lia
def ZW(cl:List (List Int)):List PyData:=cl.map λxs=>.tuple (xs.map .int)
theorem va{H:Hp}:∀{qs:List am}{e:List (List Int)},jH K H qs e->ee K H (ZW e) (qs.map ci)
 |[],[],_=>rfl
 |[],_::_,h=>by cases h.len
 |_::_,[],h=>by cases h.len
 |q::qs,xs::e,h=>⟨5,Rep.UR (h.at' 0 q xs rfl rfl),va ⟨Nat.succ.inj h.len,λi a b c d=>h.at' (i+1) a b c d⟩⟩
theorem u2:∀a:List (List Int),bi (ZW a)=ag
 |[]=>rfl
 |xs::a=>by
  show (PyData.canLay0 (.tuple (xs.map .int))&&bi (ZW a))=ag;rw[u2 a,show PyData.canLay0 (.tuple (xs.map .int))=ag from rN xs];rfl
theorem rr(cl:List (List Int)):PyData.eqv (PyData.list (ZW cl)) (.list [])=cl.isEmpty:=by cases cl <;> rfl
namespace Bd
inductive XC(K:af)(NT:am)(vs:List V)(H:Hp)(Q:VK)(E:XK):Prop
 |mk(x:Str):vs=[.str x]->x.cps.all (·<128)=ag->x.length<=900->(∀p l0 l1 l2 H',TX.okT (TX.told x)=ag->aB H H'->H' p=ac (.tup [.ref l0,.ref l1,.ref l2])->H' l0=ac (.lst (dn (((TX.told x).headD []).drop 1)))->Q (.ref p) H')->(∀H',TX.okT (TX.told x)=al->aB H H'->E (.ref NT) ae H')->XC K NT vs H Q E
theorem Cc(T:Txt K mg w t):bu P w K mg base (jD P w) 3 t.nO t.rj ["text"] (XC K t.eB):=by
 refine T.rA.F.jb ez λH Q E hr h=>?_
 ·obtain⟨x,rfl,hx,hl,k,ke⟩:=h;exists _,(aj (Dg (i:=1) ez.nd rfl (Or.inl rfl) (kO ez ["part"] [ae]) rfl (dZ (mX cX kP kN Cv (pv 0) (dg au))) (λ_ _ _ _=>by exact (gS 0 Ew)) (λ_ _ _ _=>by exact gk) (λ_ _ _ _=>by exact (og K rfl cX kP kN Cv (pv 0) (dg au)))) (aj (sS 2 ez (iz (SO T) (hr.mono (!_)) rfl T.oU.g T.oU.F.kp T.oU.B .nil cY (dg (xL (pv 1) aC)))) (aj (sS 3 ez (cu jn)) (aj (sS 4 ez (cu jn)) (aj (V0 Qw rfl (dZ (iY ow (pv 1) (jQ aC) kX)) (gT 5 ez) (aX (bY (PW.pt (E8 (qT xj (xL (pv 5) aC) au) (zR (qT Ax (pv 4) (cu jn))))) (oE (mX bR bX bW gQ (pv 3) (dg (eK uN (by rfl) T.P7 boot_tuple (dg (iz (uK T) (hr.mono (!_)) rfl T.cW.g T.cW.F.kp T.cW.B .nil cY (dX (iY ow (pv 5) (jQ aC) kX) (cF rfl T.Gn (v:=.int 5) ⟨1⟩)))))))) (aX (bY (qT xj (xL (pv 5) aC) au) (oE (mX bR bX bW gQ (pv 4) (dg (eK uN (by rfl) T.P7 boot_tuple (dg (iz (uK T) (hr.mono (!_)) rfl T.cW.g T.cW.F.kp T.cW.B .nil cY (dX (iY ow (pv 5) (jQ aC) kX) (cF rfl T.CS (v:=.int 2) ⟨1⟩)))))))) (aX (dB rfl T.vK T.vL hr.hd au))))))) (oR (bE (KO (pv 2) (pv 3) (pv 4))))))))),4;exists 1252,(↑_),aE hl (!_),λlp hlp=>?_;have hsl:(Txt.split x TX.Ct).length<=902:=aE (split_len x TX.Ct) ∅;have htl:(TX.told x).length=(Txt.split x TX.Ct).length:=(by unfold TX.told;rw[ah]);have u1:=aB.new (o:=.lst (bf (Txt.split x TX.Ct))) hlp;have NI:=aq (H:=H) (a:=lp) (o:=.lst (bf (Txt.split x TX.Ct)));generalize upd H lp (.lst (bf (Txt.split x TX.Ct)))=H1 at u1 NI;exists lp,2,⟨_,bH.of NI⟩,λD Y=>?_;refine jA (n:=(bf (Txt.split x TX.Ct)).length) (λi ys H3=>∃c:List am,ys=c.map ci/\Gy H3 c ((TX.told x).take i)/\∀p∈c,p≠D) Y (vY (bH.of NI)) (lK (bH.of NI)) ⟨[],2,⟨2,λi p ws e=>by cases e⟩,λp hp=>by cases hp⟩ ?_ ?_;rintro i ys H3 hi s3 hy ⟨c,rfl,r,nps⟩ v H4 ⟨rfl,hv⟩;have hv:=hv _ (s3.seq (bH.of NI));have hi':i<(Txt.split x TX.Ct).length:=(by rw[ah] at hi;exact hi);have ex:v=.str (Txt.split x TX.Ct)[i]:=(by simp only[ak,aa hi',nj,As] at hv;exact hv.symm);subst ex;have hw:(TX.told x)[i]?=ac (Txt.split (Txt.split x TX.Ct)[i] TX.lN):=(by unfold TX.told;rw[ak,aa hi'];rfl);have hpl:=(C8 (aD hi')).2;exists 1252,(↑_),6,λp hp=>?_;have u4:=aB.new (o:=.lst ((Txt.split (Txt.split x TX.Ct)[i] TX.lN).map cm)) hp;have Ui:=u4 _ _ hy;have L1:p≠D:=(aJ hy hp).symm;have as5:c.length=i:=(by rw[r.len,bT];lia);refine gG Y hi (s3.trans u4) Ui (by rw[ah];exact cU ∅) ⟨c++[p],-_,44⟩;rw[i7,hw];have hs:=(r.mono u4).snoc (p:=p) (ws:=Txt.split (Txt.split x TX.Ct)[i] TX.lN) aq;exists hs.len,λj q ws a b=>?_;have nq:q≠D:=(by rcases bh.mp (aQ a) with z|z;exact nps q z;rw[aZ.mp z];exact L1);rw[aI nq];exact hs.at' j q ws a b;intro q hq;rcases bh.mp hq with z|z;exact nps q z;rw[aZ.mp z];exact L1;rintro ys H3 s3 hy ⟨c,rfl,r,nps⟩;rw[show (bf (Txt.split x TX.Ct)).length=(TX.told x).length by rw[htl,ah],gR] at r;have s03:=u1.trans s3;have hW:∀ws∈TX.told x,nk ws/\ws≠[]:=λws h=>ahv hx hl h;have hne:=TX.aiV x;generalize TX.told x=tl at r hW hne htl k ke;obtain⟨hd,rest,rfl⟩:∃hd rest,tl=hd::rest:=(by cases tl with|nil=>exact b3 rfl hne|cons a b=>exists a,b,2);have awQ:c.length=rest.length+1:=r.len;have hp0:0<c.length:=∅;have amZ:KN (c.map ci) 0=ac (.ref c[0]):=dF (j:=0) (by rw[ak,aa hp0];rfl);have hn0:H3 c[0]=ac (.lst (bf hd)):=r.at' 0 _ _ (aa hp0) rfl;obtain⟨hWd,hdn⟩:=hW hd (aP ..);exists 1,D,8,bH.of hy,amZ,c[0],hd,2,bH.of hn0,hWd,hdn,λl0 H4 okh s4 xZ h04=>?_,λH4 bad s4=>ke H4 (by show (TX.lX hd&&_)=al;rw[bad];rfl) (s03.trans s4);have s04:=s03.trans s4;have Ui:=s4 _ _ hy;have abA:=r.mono s4;exists bA _,λC W=>?_;have u5:=aB.new (o:=.lst []) W;have MV:=aq (H:=H4) (a:=C) (o:=.lst []);have n01:l0≠C:=aJ h04 W;have nl1:=s04.free W;have Nn:=u5 _ _ h04;have r4:=u5 _ _ Ui;have np1:∀i p,c[i]?=ac p->p≠C:=λi p e=>(by have M:=(ai.mp e).1;rw[abA.len] at M;exact aJ (abA.at' i p _ e (aa M)) W);have Sv:=abA.mono u5;have I0:=s04.trans u5;generalize upd H4 C (.lst [])=H5 at u5 MV Nn r4 Sv I0;exists bA _,λs I=>?_;have u6:=aB.new (o:=.lst []) I;have Ma:=aq (H:=H5) (a:=s) (o:=.lst []);have n02:l0≠s:=aJ Nn I;have n12:C≠s:=aJ MV I;have nl2:=I0.free I;have h16:=u6 _ _ MV;have h06:=u6 _ _ Nn;have hy6:=u6 _ _ r4;have np2:∀i p,c[i]?=ac p->p≠s:=λi p e=>(by have M:=(ai.mp e).1;rw[Sv.len] at M;exact aJ (Sv.at' i p _ e (aa M)) I);have ZL:=Sv.mono u6;have s06:=I0.trans u6;generalize upd H5 s (.lst [])=H6 at u6 Ma h16 h06 hy6 ZL s06;exists 37,D,1,bH.of hy6,λl7 VC=>?_;have am3:Aw (c.map ci) (ac 1) ae=(c.drop 1).map ci:=(by have:=Cn (c.map ci) 1;rw[show ((1:Nat):Int)=1 from rfl] at this;rw[this,List.map_drop]);rw[am3];have u7:=aB.new (o:=.lst ((c.drop 1).map ci)) VC;have h77:=aq (H:=H6) (a:=l7) (o:=.lst ((c.drop 1).map ci));have n71:l7≠C:=(aJ h16 VC).symm;have n72:l7≠s:=(aJ Ma VC).symm;have abB:=ZL.mono u7;have s07:=s06.trans u7;have h07:=u7 _ _ h06;have h17:=u7 _ _ h16;have h27:=u7 _ _ Ma;generalize upd H6 l7 (.lst ((c.drop 1).map ci))=H7 at u7 h77 abB s07 h07 h17 h27;have hdl:((c.drop 1).map ci).length=rest.length:=(by rw[ah,lD];lia);have hrl:rest.length<=902:=(by have:rest.length+1=_:=htl;lia);have X:∀{l:Hp},(∀b o,H7 b=ac o->b≠C->b≠s->l b=ac o)->aB H l:=λ{l}kp b o e=>kp _ _ (s07 _ _ e) (aJ e nl1) (aJ e nl2);have f:∀{l H9:Hp},(∀b o,H7 b=ac o->b≠C->b≠s->l b=ac o)->aB l H9->TX.e8 al rest=al->E (.ref t.eB) ae H9:=λ{l H9}kp s9 bad=>ke H9 (by show (TX.lX hd&&TX.e8 al rest)=al;rw[bad,Bool.and_false]) ((X kp).trans s9);refine⟨l7,2,⟨_,bH.of h77⟩,rK (K:=K) (a:=l7) (xs:=(c.drop 1).map ci) (λi σ l=>(∀b o,H7 b=ac o->b≠C->b≠s->l b=ac o)/\(∃ys,l C=ac (.lst ys)/\ys.length<=i)/\(∃cl,TL K l s cl/\cl.length<=i/\TX.e8 al rest=TX.e8 (!cl.isEmpty) (rest.drop i))/\∃v5:Option V,σ=[ac (.str x),ac (.ref D),ac (.ref l0),ac (.ref C),ac (.ref s),v5])
   ⟨λb o e _ _=>e,⟨[],h17,bA _⟩,⟨[],⟨[],h27,jH.nil⟩,bA _,2⟩,1⟩ (λi σ l _ z=>bH.of (z.1 _ _ h77 n71 n72)) ?_ ?_⟩
  (·rintro i y σ l hi ⟨kp,⟨ys1,U,hy1⟩,⟨cl,hT2,hcl,d⟩,v5,rfl⟩;have R:=(ai.mp hi).1;rw[hdl] at R;have hip:i+1<c.length:=∅;have ey:y=.ref c[i+1]:=(by rw[ak,List.getElem?_drop,Nat.add_comm 1 i,aa hip] at hi;exact (aT hi).symm);subst ey;generalize hq:c[i+1]=pw;have epw:c[i+1]?=ac pw:=(by rw[aa hip,hq]);(have apW:rest.drop i=rest[i]::rest.drop (i+1):=List.drop_eq_getElem_cons R;obtain⟨hWw,hwn⟩:=hW rest[i] (aR _ (aD R));have J:=kp _ _ (abB.at' (i+1) _ rest[i] epw (by show rest[i]?=_;exact aa R)) (np1 _ _ epw) (np2 _ _ epw);rw[apW] at d;generalize rest[i]=ws at hWw hwn J d;have hw0:0<ws.length:=ko.mpr hwn;have hat:KN (bf ws) 0=ac (.str ws[0]):=dF (j:=0) (by rw[ak,aa hw0];rfl);have e0:ws[0]?=ac ws[0]:=aa hw0;obtain⟨qs2,Uq,S⟩:=hT2;have A:ws[0]≠("rope" : Str)∨cl≠[]->TX.e8 (!cl.isEmpty) (ws::rest.drop (i+1))=if ws[0]?=ac ("caller" : Str) then TX.n7 "caller" 2 ws&&TX.e8 ag (rest.drop (i+1)) else al:=λh=>by show (if ws[0]?=ac ("rope" : Str)/\(!cl.isEmpty)=al then _ else _)=_;rw[b5];rintro⟨a,b⟩;rcases h with h|h;rw[e0] at a;exact h (aT a);cases cl with|nil=>exact h rfl|cons _ _=>cases b);exists 1,pw,8,bH.of J,hat,7,nA (λG=>?_) (λG=>?_);have G:ws[0]=("rope" : Str):=V.str.inj (c7 G);exists 1,bA _,λl9 hl9=>?_;have L:=aB.new (o:=.lst []) hl9;have h99:=aq (H:=l) (a:=l9) (o:=.lst []);generalize upd l l9 (.lst [])=H9 at L h99;have ajG:=L _ _ J;exists PyData.list (ZW cl),.list [],⟨s,1,bH.of (L _ _ Uq),va (S.mono L)⟩,⟨l9,[],2,bH.of h99,2⟩,u2 cl,2,bK (cE (aE (pF _ _) (show PyData.depth (.list [])<=64 by decide)) _) hr.units,1,nA (λm=>?_) (λm=>?_);rw[rr] at m;have m:cl=[]:=List.isEmpty_iff.mp m;subst m;have am5:=L _ _ U;have eR:TX.e8 al rest=(TX.n7 "rope" 5 ws&&TX.e8 al (rest.drop (i+1))):=(by rw[d];show (if ws[0]?=ac ("rope" : Str)/\al=al then _ else _)=_;rw[b4 ⟨by rw[e0,G],2⟩];rfl);have eP:TX.n7 "rope" 5 ws=(decide ((ws.drop 1).length=5)&&TX.Il (ws.drop 1)):=(by unfold TX.n7;rw[e0,b6 (show ac ws[0]=ac ("rope" : Str) by rw[G])];rfl);exists 1,.inl ⟨23,bH.of am5⟩,37,pw,1,bH.of ajG,λZM abD=>?_;rw[XA];have u:=aB.new (o:=.lst (bf (ws.drop 1))) abD;have Zd:=aq (H:=H9) (a:=ZM) (o:=.lst (bf (ws.drop 1)));generalize upd H9 ZM (.lst (bf (ws.drop 1)))=XJ at u Zd;exists ZM,ws.drop 1,(5),2,bH.of Zd,hWw.drop 1,.inl rfl,λl11 UQ ati okn S5 am7 h11=>?_,λUQ bad S5=>f kp (L.trans (u.trans S5)) ?_;exists l11,1,.inl ⟨bH.of h11,λO abE=>?_⟩;have N:=aB.new (o:=.tup (dn (ws.drop 1))) abE;generalize upd UQ O (.tup (dn (ws.drop 1)))=wh at N;have Z:=L.trans (u.trans (S5.trans N));have adb:=Z _ _ U;exists C,52,adb,cU ∅,4;exists λb o e n1 n2=>by rw[aI n1];exact Z _ _ (kp b o e n1 n2),⟨_,aq,by rw[av];show _+1<=_;lia⟩,⟨[],⟨qs2,by rw[aI n12.symm];exact Z _ _ Uq,4⟩,bA _,4⟩,1;have:qs2=[]:=List.length_eq_zero_iff.mp S.len;subst this;exact jH.nil;rw[eR,eP,b6 (show (ws.drop 1).length=5 by lia),okn];rfl;rw[eR,eP];rcases bad with bad|bad;rw[c5 (show ¬(ws.drop 1).length=5 by lia)];rfl;rw[bad,Bool.and_false,Bool.false_and];rw[rr] at m;have m:cl≠[]:=λz=>m (by rw[z];rfl);exists 1,pw,8,bH.of ajG,hat,7,qS (c5 (by rw[G];decide +kernel)) ?_;refine f kp L ?_;rw[d,A (.inr m),b5 (by rw[e0,G];decide +kernel)];·have G:ws[0]≠("rope" : Str):=λz=>G (b6 (by rw[z]));exists 1,pw,8,bH.of J,hat,7,nA (λm=>?_) (λm=>?_);(·have m:ws[0]=("caller" : Str):=V.str.inj (c7 m);have eR:TX.e8 al rest=(TX.n7 "caller" 2 ws&&TX.e8 ag (rest.drop (i+1))):=(by rw[d,A (.inl G),b4 (by rw[e0,m])]);have eP:TX.n7 "caller" 2 ws=(decide ((ws.drop 1).length=2)&&TX.Il (ws.drop 1)):=(by unfold TX.n7;rw[e0,b6 (show ac ws[0]=ac ("caller" : Str) by rw[m])];rfl);exists 1,.inl ⟨23,bH.of Uq⟩,37,pw,1,bH.of J,λZM abD=>?_;rw[XA];have u:=aB.new (o:=.lst (bf (ws.drop 1))) abD;have Zd:=aq (H:=l) (a:=ZM) (o:=.lst (bf (ws.drop 1)));generalize upd l ZM (.lst (bf (ws.drop 1)))=XJ at u Zd;exists ZM,ws.drop 1,(2),2,bH.of Zd,hWw.drop 1,.inr (.inl rfl),λl11 UQ ati okn S5 am7 h11=>?_,λUQ bad S5=>f kp (u.trans S5) ?_;(·exists l11,1,.inl ⟨bH.of h11,λO abE=>?_⟩;have N:=aB.new (o:=.tup (dn (ws.drop 1))) abE;have h12:=aq (H:=UQ) (a:=O) (o:=.tup (dn (ws.drop 1)));generalize upd UQ O (.tup (dn (ws.drop 1)))=wh at N h12;have Z:=u.trans (S5.trans N);have VJ:=Z _ _ Uq;exists s,52,VJ,(by rw[ah,S.len];exact cU ∅),4;exists λb o e n1 n2=>by rw[aI n2];exact Z _ _ (kp b o e n1 n2),⟨ys1,by rw[aI n12];exact Z _ _ U,6⟩,⟨cl++[(ws.drop 1).map X7],TL.push VJ (S.mono Z) (dY.of h12),by rw[av];show _+1<=_;lia,4⟩,1;rw[eR,eP,b6 (show (ws.drop 1).length=2 by lia),okn];cases cl <;> rfl);rw[eR,eP];rcases bad with bad|bad;rw[c5 (show ¬(ws.drop 1).length=2 by lia)];rfl;rw[bad,Bool.and_false,Bool.false_and]);have m:ws[0]≠("caller" : Str):=λz=>m (b6 (by rw[z]));refine f kp (aB.refl _) ?_;rw[d,A (.inl G),b5 (by rw[e0];exact λz=>m (aT z))]);rintro σ l ⟨kp,⟨ys1,U,hy1⟩,⟨cl,hT2,hcl,d⟩,v5,rfl⟩;rw[hdl,List.drop_length] at d;exists 137,ft,λp9 hp9=>?_;have L:=aB.new (o:=.tup [ci l0,.ref C,.ref s]) hp9;refine k p9 l0 C s _ ?_ ((X kp).trans L) aq (L _ _ (kp _ _ h07 n01 n02));show (TX.lX hd&&TX.e8 al rest)=ag;rw[okh,d];rfl
end Bd
inductive Ii(K:af)(NT:am)(vs:List V)(H:Hp)(Q:VK)(E:XK):Prop
 |mk : KI K vs H Q E0∨Bd.XC K NT vs H Q E->Ii K NT vs H Q E
theorem Cc(T:Txt K mg w t):bu P w K mg base (jD P w) 3 t.nO t.rj ["text"] (Ii K t.eB):=by refine bu.imp (bu.orX (LV T) (Bd.Cc T) ?_ ?_) (λa H Q E ⟨h⟩=>h) <;> decide
inductive iP(K:af)(CT:am)(c:NC)(m:Nat)(t:Ad)(vs:List V)(H:Hp)(Q:VK)(E:XK):Prop
 |mk(F:am->Prop)(p tp ln lr l:am)(ns:List Int)(rs:List R5)(s:NS)(us:List V)(i:Nat):vs=[.ref p,.ref l]->bH K H l us->RN K CT c H F p tp ln lr ns rs s->m7 ns rs s m us i->(∀H',aB H H'->E (.ref (Iz t i)) ae H')->iP K CT c m t vs H Q E
theorem Pq(T:Txt K mg w t):bu P w K mg base (jD P w) 5 t.gv t.pZ ["net","numbers"] (iP K t.aK (nc t) 0 t):=by refine T.u0.F.jb FQ λH Q E s h=>?_;obtain⟨F,p,d,j,f,l,n,o,st,u,i,rfl,c,N,b,k⟩:=h;exists _,(oR (jl (j3 (cR (pv 0) T.aW T.nW.m (LY T) (s.mono (!_)) T.nW.B .nil cY (dX (xL (pv 1) aC) (xL (pv 1) aC)))) au au)),4;left;obtain⟨v,r,e⟩:=N.nw.cj.ob;have k:=k H (aB.refl _);cases b with|ak5 x g a=>exact⟨1,p,5,e,7,l,8,c,7,l,8,c,2,F,p,d,j,f,n,o,st,x,g,2,N,λz=>b3 z a,λ_=>k,λz=>b3 z a⟩|ak6 x g a q=>exists 1,p,5,e,7,l,8,c,7,l,8,c,2,F,p,d,j,f,n,o,st,x,g,2,N,λ_=>q,λz=>b3 a z,λ_=>k
theorem Pr(T:Txt K mg w t):bu P w K mg base (jD P w) 6 t.gw t.p5 ["net","numbers"] (iP K t.aK (nc t) 2 t):=by refine T.vc.F.jb FT λH Q E o h=>?_;obtain⟨F,p,a,f,e,l,n,r,st,s,i,rfl,q,N,b,k⟩:=h;exists _,(oR (jl (j3 (cR (pv 0) T.aW T.qj.m (Po T) (o.mono (!_)) T.qj.B .nil cY (dg (xL (pv 1) aC)))) au au)),4;left;obtain⟨u,j,d⟩:=N.nw.cj.ob;have k:=k H (aB.refl _);cases b with|rest g c=>exists 1,p,5,d,7,l,8,q,2,F,p,a,f,e,n,r,st,g,2,N,c,k
theorem SQ(T:Txt K mg w t):bu P w K mg base (jD P w) 4 t.iE t.sG ["net","numbers"] (iP K t.aK (nc t) 3 t):=by refine T.xP.F.jb IG λH Q E o h=>?_;obtain⟨F,p,d,j,f,l,n,q,st,u,i,rfl,c,N,b,k⟩:=h;exists _,(oR (cG (rF T) o T.sR (dg (cR (pv 0) T.aW T.jW.m (Ht T) (o.mono (!_)) T.jW.B .nil cY (dX (xL (pv 1) aC) (xL (pv 1) aC)))))),4;left;obtain⟨v,s,e⟩:=N.nw.cj.ob;have k:=k H (aB.refl _);cases b with|apT x g a=>exact⟨1,p,5,e,7,l,8,c,7,l,8,c,2,F,p,d,j,f,n,q,st,x,g,2,N,λz=>b3 z a,λ_=>k,λz=>b3 z a⟩|apU x g a r=>exists 1,p,5,e,7,l,8,c,7,l,8,c,2,F,p,d,j,f,n,q,st,x,g,2,N,λ_=>r,λz=>b3 a z,λ_=>k
theorem Pu(T:Txt K mg w t):bu P w K mg base (jD P w) 7 t.gx t.p6 ["net","numbers"] (iP K t.aK (nc t) 4 t):=by refine T.vd.F.jb FU λH Q E a h=>?_;obtain⟨F,p,c,j,f,l,o,r,st,s,i,rfl,q,N,b,k⟩:=h;exists _,(oR (cG (rF T) a T.sR (dg (cR (pv 0) T.aW T.rz.m (Uv T) (a.mono (!_)) T.rz.B .nil cY (dg (xL (pv 1) aC)))))),4;left;obtain⟨u,n,e⟩:=N.nw.cj.ob;have k:=k H (aB.refl _);cases b with|Qe g d=>exists 1,p,5,e,7,l,8,q,2,F,p,c,j,f,o,r,st,g,2,N,d,k
theorem Pw(T:Txt K mg w t):bu P w K mg base (jD P w) 4 t.gy t.p7 ["net","numbers"] (iP K t.aK (nc t) 5 t):=by refine T.vf.F.jb FW λH Q E o h=>?_;obtain⟨F,p,c,f,e,l,n,r,st,s,i,rfl,a,N,b,k⟩:=h;exists _,(oR (jl (j3 (cR (pv 0) T.aW T.yY.m (Xz T) (o.mono (!_)) T.yY.B .nil cY (dX (xL (pv 1) aC) (xL (pv 1) aC)))) au au)),4;left;obtain⟨u,j,d⟩:=N.nw.cj.ob;cases b with|vP x g q=>exists 1,p,5,d,7,l,8,a,7,l,8,a,2,F,p,c,f,e,n,r,st,x,g,2,N,q,k
theorem SR(T:Txt K mg w t):bu P w K mg base (jD P w) 5 t.iF t.sH ["net","numbers"] (iP K t.aK (nc t) 6 t):=by refine T.xQ.F.jb II λH Q E o h=>?_;obtain⟨F,p,c,f,e,l,n,r,st,s,i,rfl,a,N,b,k⟩:=h;exists _,(oR (jl (j3 (cR (pv 0) T.aW T.CO.m (ZU T) (o.mono (!_)) T.CO.B .nil cY (dX (xL (pv 1) aC) (xL (pv 1) aC)))) au au)),4;left;obtain⟨u,j,d⟩:=N.nw.cj.ob;cases b with|lay x g q=>exists 1,p,5,d,7,l,8,a,7,l,8,a,2,F,p,c,f,e,n,r,st,x,g,2,N,q,k
theorem Px(T:Txt K mg w t):bu P w K mg base (jD P w) 3 t.gz t.p8 ["net","numbers"] (iP K t.aK (nc t) 7 t):=by refine T.vg.F.jb FY λH Q E s h=>?_;obtain⟨F,p,d,j,f,l,n,o,st,u,i,rfl,c,N,b,k⟩:=h;exists _,(aj (cP (cR (pv 0) T.aW T.yZ.m (Xw T) (s.mono (!_)) T.yZ.B .nil cY (dX (xL (pv 1) aC) (xL (pv 1) aC)))) bP),4;left;obtain⟨v,r,e⟩:=N.nw.cj.ob;have k:=k H (aB.refl _);cases b with|ak7 x g a=>exact⟨1,p,5,e,7,l,8,c,7,l,8,c,2,F,p,d,j,f,n,o,st,x,g,2,N,λz=>b3 z a,λ_=>k,λz=>b3 z a⟩|ak8 x g a q=>exists 1,p,5,e,7,l,8,c,7,l,8,c,2,F,p,d,j,f,n,o,st,x,g,2,N,λ_=>q,λz=>b3 a z,λ_=>k
theorem Py(T:Txt K mg w t):bu P w K mg base (jD P w) 4 t.gA t.qb ["net","numbers"] (iP K t.aK (nc t) 8 t):=by refine T.vh.F.jb FZ λH Q E o h=>?_;obtain⟨F,p,e,j,g,l,m,n,st,s,i,rfl,a,N,b,k⟩:=h;exists _,(oR (cG (uJ T) o T.ur (dg (cR (pv 0) T.aW T.Rb (Xy T) (o.mono (!_)) T.Ra .nil cY (dX (xL (pv 1) aC) (xL (pv 1) aC)))))),4;left;obtain⟨u,r,f⟩:=N.nw.cj.ob;have k:=k H (aB.refl _);cases b with|postC x v c=>exact⟨1,p,5,f,7,l,8,a,7,l,8,a,2,F,p,e,j,g,m,n,st,x,v,2,N,λ_=>k,λz=>b3 z c⟩|ak9 x y c d=>exact⟨1,p,5,f,7,l,8,a,7,l,8,a,2,F,p,e,j,g,m,n,st,x,1,N,λz=>b3 c z,λ_=>⟨y,2,λz=>b3 z d,λ_=>k,λz=>b3 z d⟩⟩|apart x y c d q=>exists 1,p,5,f,7,l,8,a,7,l,8,a,2,F,p,e,j,g,m,n,st,x,1,N,λz=>b3 c z,λ_=>⟨y,2,λ_=>q,λz=>b3 d z,λ_=>k⟩
theorem Pz(T:Txt K mg w t):bu P w K mg base (jD P w) 2 t.gB t.qc ["net","numbers"] (iP K t.aK (nc t) 9 t):=by refine T.vj.F.jb F0 λH Q E n h=>?_;obtain⟨F,p,a,f,e,l,m,q,st,r,i,rfl,o,N,b,k⟩:=h;exists _,(oR (cR (pv 0) T.aW T.Bm (Pp T) (n.mono (!_)) T.IT .nil cY (dg (xL (pv 1) aC)))),4;left;obtain⟨s,j,d⟩:=N.nw.cj.ob;have k:=k H (aB.refl _);cases b with|copy g c=>exists 1,p,5,d,7,l,8,o,2,F,p,a,f,e,m,q,st,g,2,N,c,k
theorem SS(T:Txt K mg w t):bu P w K mg base (jD P w) 3 t.iG t.sI ["net","numbers"] (iP K t.aK (nc t) 12 t):=by refine T.xR.F.jb IJ λH Q E a h=>?_;obtain⟨F,p,c,j,f,l,o,r,st,s,i,rfl,q,N,b,k⟩:=h;exists _,(oR (cG (rF T) a T.sR (dg (cR (pv 0) T.aW T.CP.m (ZT T) (a.mono (!_)) T.CP.B .nil cY (dg (xL (pv 1) aC)))))),4;left;obtain⟨u,n,e⟩:=N.nw.cj.ob;have k:=k H (aB.refl _);cases b with|had g d=>exists 1,p,5,e,7,l,8,q,2,F,p,c,j,f,o,r,st,g,2,N,d,k
theorem NL(T:Txt K mg w t):bu P w K mg base (jD P w) 3 t.fL t.nR ["net","numbers"] (iP K t.aK (nc t) 13 t):=by refine T.sV.F.jb qo λH Q E a h=>?_;obtain⟨F,p,c,j,f,l,o,r,st,s,i,rfl,q,N,b,k⟩:=h;exists _,(oR (mX cX Ce Cd PZ au (dg (fN (kO qo ["deed"] [ae]) rfl (dZ (cR (pv 0) T.aW T.vJ.m (Uw T) (a.mono (!_)) T.vJ.B .nil cY (dg (xL (pv 1) aC)))) (λ_ _ _ _=>by exact (gS 0 yK)) (λ_ _ _ _=>by exact gk) (λ_ _ _ _=>by exact (cG (rF T) a T.sR (dg (pv 0)))))))),4;left;obtain⟨u,n,e⟩:=N.nw.cj.ob;have k:=k H (aB.refl _);cases b with|letter g d=>exists 7,p,5,e,7,l,8,q,2,F,p,c,j,f,o,r,st,g,2,N,d,k
theorem NN(T:Txt K mg w t):bu P w K mg base (jD P w) 5 t.fK t.nQ ["net","numbers"] (iP K t.aK (nc t) 1 t):=by refine T.sU.F.jb jJ λH Q E y h=>?_;obtain⟨F,p,f,s,r,l,v,C,st,D,i,rfl,A,N,b,k⟩:=h;exists _,(aj (Yz (i:=2) jJ.nd rfl (Or.inl rfl) (kO jJ ["house","net","numbers"] [ae,ac 0,ac 1]) rfl rfl rfl rfl mv (lZ rfl T.sX (dg (aU (aU (pv 0) rfl) rfl))) (λ_ _ _ _=>by exact (gS 0 yJ)) (λ_ _ _ _=>by exact gk) (λ_ _ _ _=>by exact (agg (pv 1) T.aW T.nW.m (LY T) (y.mono (!_)) T.nW.B .nil (dX (pv 0) (yL K (pv 2) aC))))) bP),4;left;obtain⟨G,u,j⟩:=N.nw.cj.ob;obtain⟨⟨I,d⟩,_⟩:=id N.nw.nD;cases b with|round g q=>have QO:=N.o.QO;have n1:=N.o.n1;exists 1,p,9,j,T.aW,T.ir,2,f,9,d,T.fB,T.iO,766,λe a=>?_;have c:=aB.new (o:=.lst []) a;exists λi m n=>i=0/\n=upd H e (.lst []),⟨(0),22⟩,4;rintro i m n ⟨rfl,rfl⟩;refine .inr ⟨by show 0<_;lia,4⟩;rintro x J ⟨rfl,rfl⟩;exists 1,p,5,c _ _ j,71,l,8,c.seq A,2,F,p,f,s,r,v,C,st,_,g,2,N.mono c,λ_=>q,λz=>b3 ⟨66⟩ z,λ_=>k _ c
noncomputable def dA(ws:List Str)(m:Nat):Option (List V):=
 if ws[0]?=ac ("post" : Str)/\ws.drop 2=[("all" : Str)] then (if TX.okN (ws.getD 1 "")=ag then ac [.int (X7 (ws.getD 1 "")),.fW] else ae)
 else if (ws.drop 1).length=m/\TX.Il (ws.drop 1)=ag then ac (dn (ws.drop 1)) else ae
theorem L6{H:Hp}:∀ws:List Str,ee K H (ws.map .str) (bf ws)
 |[]=>rfl
 |_::ws=>⟨52,L6 ws⟩
theorem SV:∀{ws:List Str},(∀z∈ws,z.cps.all (·<128)=ag)->bi (ws.map .str)=ag
 |[],_=>rfl
 |z::ws,h=>by
  show (PyData.strOk z&&bi (ws.map .str))=ag;rw[SV λy b=>h y (aR _ b),Bool.and_true]
  have:=h z aP
  unfold PyData.strOk;rw[Array.all_eq_true] at this ⊢;intro i a
  have:=this i a
  simp only[decide_eq_true_eq] at this ⊢;lia
theorem ajP(ws:List Str):PyData.eqv (.list (ws.map .str)) (.list [.str "all"])=decide (ws=[("all" : Str)]):=by cases ws with|nil=>rfl|cons a r=>(cases r with|nil=>show ((a==("all" : Str))&&ag)=_;rw[Bool.and_true,kr,beq_iff_eq,decide_eq_true_eq];exact⟨λz=>by rw[z],λz=>(lH z).1⟩|cons b r=>show ((a==("all" : Str))&&al)=_;rw[Bool.and_false,eq_comm,decide_eq_false_iff_not];intro z;cases (lH z).2)
inductive VP(K:af)(NT:am)(vs:List V)(H:Hp)(Q:VK)(E:XK):Prop
 |mk(l:am)(ws:List Str)(m:Nat):vs=[.ref l,.int (m:Nat)]->H l=ac (.lst (bf ws))->nk ws->ws≠[]->m<=2->(∀l' H' us,dA ws m=ac us->aB H H'->H l'=ae->H' l'=ac (.lst us)->Q (.ref l') H')->(∀H',dA ws m=ae->aB H H'->E (.ref NT) ae H')->VP K NT vs H Q E
theorem PB(T:Txt K mg w t):bu P w K mg base (jD P w) 3 t.mC t.qe ["words","many"] (VP K t.eB):=by
 refine T.mK.F.jb F7 λH Q E N h=>?_;obtain⟨l,b,m,rfl,s,M,G,hm,kq,Z⟩:=h;exists _,(aj (bY (PW.pt (E8 (qT xj (xL (pv 0) aC) au) (zR (qT Ax (iY ow (pv 0) (jQ aC) kX) (cu (dg au)))))) (oR (cu (dX (iz (w9 T) (N.mono (!_)) rfl T.dM.g T.dM.F.kp T.dM.B .nil cY (dg (xL (pv 0) aC))) ny))) bq) (oR (iz (uK T) (N.mono (!_)) rfl T.cW.g T.cW.F.kp T.cW.B .nil cY (dX (iY ow (pv 0) (jQ aC) kX) (pv 1))))),4;have U:0<b.length:=ko.mpr G;have A:KN (bf b) 0=ac (.str b[0]):=dF (j:=0) (by rw[ak,aa U];rfl);have Y:b[0]?=ac b[0]:=aa U;have num:∀i,aB H i->¬(b[0]?=ac ("post" : Str)/\b.drop 2=[("all" : Str)])->∀c,i c=ae->KL K t.eB [.ref c,.int (m:Nat)] (upd i c (.lst (Aw (bf b) (ac 1) ae))) Q E:=λi J D c d=>(by (rw[XA];have k:=aB.new (o:=.lst (bf (b.drop 1))) d;have u:dA b m=if (b.drop 1).length=m/\TX.Il (b.drop 1)=ag then ac (dn (b.drop 1)) else ae:=by unfold dA;rw[b5 D]);exists c,b.drop 1,1,bH.of aq,M.drop 1,6,λn r e1 e2 e f x=>kq n r _ (by rw[u,b4 ⟨6,e2⟩]) (J.trans (k.trans e)) ((J.trans k).free f) x,λr bad e=>Z r ?_ (J.trans (k.trans e));rw[u,b5];rintro⟨z1,z2⟩;rcases bad with bad|bad;exact bad (by rw[z1]);rw[z2] at bad;cases bad);exists 1,l,8,bH.of s,A,74;by_cases y:b[0]=("post" : Str);case neg=>refine qS (c5 λz=>y (V.str.inj z)) (dh ?_);exists 37,l,1,bH.of s,λc d=>⟨1,num H (aB.refl _) (λz=>y (aT (Y.symm.trans z.1))) c d⟩
 refine K1 (b6 (by rw[y])) ?_;exists 37,l,1,bH.of s,λc d=>?_;have ec:Aw (bf b) (ac 2) ae=bf (b.drop 2):=(by have:=Cn (bf b) 2;rw[show ((2:Nat):Int)=2 from rfl] at this;rw[this];exact List.map_drop.symm);rw[ec];have k:=aB.new (o:=.lst (bf (b.drop 2))) d;have W:=aq (H:=H) (a:=c) (o:=.lst (bf (b.drop 2)));generalize upd H c (.lst (bf (b.drop 2)))=i at k W;exists gN,λn f=>?_;have S:=aB.new (o:=.lst [cm "all"]) f;have x:=aq (H:=i) (a:=n) (o:=.lst [cm "all"]);generalize upd i n (.lst [cm "all"])=r at S x;have e:=k.trans S;have C:=S _ _ W;exists .list ((b.drop 2).map .str),.list [.str "all"],⟨c,1,bH.of C,L6 _⟩,⟨n,1,bH.of x,⟨522⟩⟩,SV (λz hz=>(M.2 z (List.mem_of_mem_drop hz)).1),↑_,bK (cE (aE (pF _ _) (!_)) _) N.units,14;rw[ajP];by_cases p:b.drop 2=[("all" : Str)];case neg=>exact qS (c5 p) ⟨37,l,1,bH.of (e _ _ s),λl4 S6=>⟨1,num r e (λz=>p z.2) l4 S6⟩⟩
 have L:1<b.length:=(by have:=c6 List.length p;rw[lD] at this;have:b.length-2=1:=this;lia);have u:dA b m=if TX.okN b[1]=ag then ac [.int (X7 b[1]),.fW] else ae:=by unfold dA;rw[b4 ⟨by rw[Y,y],p⟩,ao,aa L];rfl
 have O:KN (bf b) 1=ac (.str b[1]):=dF (j:=1) (by rw[ak,aa L];rfl);obtain⟨R,I⟩:=M.2 _ (aD L);refine K1 (b6 p) ?_;exists 1,l,8,bH.of (e _ _ s),O,b[1],2,R,I,λX v ok=>⟨c8,λl5 q=>?_⟩,λX v D=>Z X (by rw[u,D];rfl) (e.trans v);exact kq l5 _ _ (by rw[u,ok];rfl) ((e.trans v).trans (aB.new q)) ((e.trans v).free q) aq
noncomputable def oW:List Str:=["call","round","rest","row","open","fall","lay","move","post","pass","run","flying","had","story"]
def VQ:List Nat:=[2,1,1,2,1,2,2,2,2,1,0,0,1,1]
noncomputable def pT(t:Ad)(k:Nat):am:=[t.Ba,t.uY,t.Bb,t.IK,t.Bc,t.Be,t.IL,t.Bf,t.Bg,t.Bh,t.IM,t.qg,t.IP,t.uZ].getD k 0
noncomputable def fT(t:Ad)(k:Nat):am:=[t.gv,t.fK,t.gw,t.iE,t.gx,t.gy,t.iF,t.gz,t.gA,t.gB,t.jc,t.fQ,t.iG,t.fL].getD k 0
abbrev kA:Sp:=λ_ _ _ _=>False
def fx(K:af)(CT:am)(c:NC)(t:Ad)(k:Nat):Sp:=[iP K CT c 0 t,iP K CT c 1 t,iP K CT c 2 t,iP K CT c 3 t,iP K CT c 4 t,iP K CT c 5 t,iP K CT c 6 t,iP K CT c 7 t,iP K CT c 8 t,iP K CT c 9 t,kA,kA,iP K CT c 12 t,iP K CT c 13 t].getD k kA
theorem L7{C:Nat->Prop}(l:C 0)(j:C 1)(m:C 2)(d:C 3)(f:C 4)(e:C 5)(n:C 6)(g:C 7)(i:C 8)(h:C 9)(o:C 10)(a:C 11)(c:C 12)(b:C 13):∀k,k<14->C k
 |0,_=>l|1,_=>j|2,_=>m|3,_=>d|4,_=>f|5,_=>e|6,_=>n|7,_=>g|8,_=>i|9,_=>h|10,_=>o|11,_=>a|12,_=>c|13,_=>b
 |_+14,z=>b3 z ∅
def Ya:∀k,k<14->¬(k=10∨k=11)->fx K CT c t k=iP K CT c k t:=L7 (λ_=>rfl) (λ_=>rfl) (λ_=>rfl) (λ_=>rfl) (λ_=>rfl) (λ_=>rfl) (λ_=>rfl) (λ_=>rfl) (λ_=>rfl) (λ_=>rfl) (λh=>b3 (.inl rfl) h) (λh=>b3 (.inr rfl) h) (λ_=>rfl) (λ_=>rfl)
noncomputable abbrev ZX(t:Ad):List (df×V):=io [("call",ci t.Ba),("round",.ref t.uY),("rest",.ref t.Bb),("row",.ref t.IK),("open",.ref t.Bc),("fall",.ref t.Be),("lay",.ref t.IL),("move",.ref t.Bf),("post",.ref t.Bg),("pass",.ref t.Bh),("run",.ref t.IM),("flying",.ref t.qg),("had",.ref t.IP),("story",.ref t.uZ)]
def ahy(t:Ad):ZX t=(ay 14).map λk=>((i0 (oW.getD k ""):df),ci (pT t k)):=rfl
def y4(t:Ad):∀k,k<14->vX (ZX t) (i0 (oW.getD k ""))=ac (.ref (pT t k)):=L7 rfl rfl rfl rfl rfl rfl rfl rfl rfl rfl rfl rfl rfl rfl
theorem ahz(t:Ad){z:Str}(h:∀k,k<14->oW.getD k "" ≠ z):vX (ZX t) (i0 z)=ae:=by rw[ahy];unfold vX;rw[Option.map_eq_none_iff,List.find?_eq_none];intro q hq;obtain⟨k,a,rfl⟩:=aF.mp hq;rw[decide_eq_true_eq];exact λe=>h k (dO.mp a) (Sum.inr.inj e)
def y3(T:Txt K mg w t)(H:Hp):∀k,k<14->dY K H (pT t k) [.int (VQ.getD k 0:Nat),.ref (fT t k)] :=L7 (T.s_call H) (T.acz H) (T.agw H) (T.s_row H) (T.agx H) (T.agy H) (T.akw H) (T.agz H) (T.agA H) (T.agB H) (T.akx H) (T.YR H) (T.aky H) (T.acA H)
inductive kF(ns:List Int)(rs:List R5)(s:NS)(row:Str):Nat->Prop where
 |word:(∀k,k<14->oW.getD k "" ≠ (Txt.split row TX.lN).headD "")->kF ns rs s row 8
 |text (k:Nat):k<14->(Txt.split row TX.lN).headD "" = oW.getD k "" -> dA (Txt.split row TX.lN) (VQ.getD k 0)=ae->kF ns rs s row 8
 |bad (k:Nat) (us:List V) (i:Nat):k<14->(Txt.split row TX.lN).headD "" = oW.getD k "" -> dA (Txt.split row TX.lN) (VQ.getD k 0)=ac us->m7 ns rs s k us i->kF ns rs s row i
theorem wq:∀k,k<14->VQ.getD k 0<=2:=L7 (!_) (!_) (!_) (!_) (!_) (!_) (!_) (!_) (!_) (!_) (!_) (!_) (!_) (!_)
theorem m7.kd(h:m7 ns rs s d us i):¬(d=10∨d=11):=by cases h <;> decide
inductive wp(K:af)(CT CD:am)(c:NC)(t:Ad)(vs:List V)(H:Hp)(Q:VK)(E:XK):Prop
 |mk(F:am->Prop)(p tp ln lr dk dx:am)(ns:List Int)(rs:List R5)(s:NS)(row:Str)(i:Nat):vs=[.ref dk,.str row]->H dk=ac (.ins CD dx [("net",.ref p)])->RN K CT c H F p tp ln lr ns rs s->row.cps.all (·<128)=ag->row.length<=900->kF ns rs s row i->(∀H',aB H H'->E (.ref (Iz t i)) ae H')->wp K CT CD c t vs H Q E
theorem XD(T:Txt K mg w t):bu P w K mg base (jD P w) 8 t.uo t.yV ["self","row"] (wp K t.aK t.nS (nc t) t):=by refine T.uu.F.jb qW λH Q E m h=>?_;obtain⟨F,p,Z,ln,lr,W,X,ns,rs,s,d,i,rfl,D,N,hz,I,od,k⟩:=h;exists _,(aj (sS 2 qW (mX cX kP kN Cv (pv 1) (dg au))) (aj (bY (oa (QS T.HZ (xL (pv 2) aC) (cF rfl T.HY (v:=.ref t.mF) rfl)) (by with_unfolding_all rfl)) (aX (dB rfl T.vK T.vL m.hd au)) bq) (aj (sS 3 qW (Yy T.HZ (cF rfl T.HY (v:=.ref t.mF) rfl) (xL (pv 2) aC) (λ_ _=>rfl))) (oR (aed (xT (pv 3) aC) (dX (aU (pv 0) rfl) (iz (PB T) (m.mono (!_)) rfl T.mK.g T.mK.F.kp T.mK.B .nil cY (dX (pv 2) (xT (pv 3) aC)))) (.cons (lP (Pq T) m T.u0 cY) (.cons (lP (NN T) m T.sU cY) (.cons (lP (Pr T) m T.vc cY) (.cons (lP (SQ T) m T.xP cY) (.cons (lP (Pu T) m T.vd cY) (.cons (lP (Pw T) m T.vf cY) (.cons (lP (SR T) m T.xQ cY) (.cons (lP (Px T) m T.vg cY) (.cons (lP (Py T) m T.vh cY) (.cons (lP (Pz T) m T.vj cY) (.cons (YA T.DJ) (.cons (YA T.wD) (.cons (lP (SS T) m T.xR cY) (.cons (lP (NL T) m T.sV cY) .nil))))))))))))))))))),4;exists 1252,(↑_),aE I (!_),λl hl=>?_;have n:Txt.split d TX.lN≠[]:=TX.K5 _ _;have R:nk (Txt.split d TX.lN):=⟨aE (split_len d TX.lN) ∅,λz L=>⟨Hu L hz,by have:=(C8 L).2;lia⟩⟩;rw[show Txt.split d _=Txt.split d TX.lN from rfl];have r:=aB.new (o:=.lst (bf (Txt.split d TX.lN))) hl;have y:=aq (H:=H) (a:=l) (o:=.lst (bf (Txt.split d TX.lN)));have C:∃c,c=Txt.split d TX.lN:=⟨1⟩;obtain⟨c,C⟩:=C;rw[<- C] at r y n R ⊢;generalize upd H l (.lst (bf c))=H1 at r y;have Y:0<c.length:=ko.mpr n;have u:KN (bf c) 0=ac (.str c[0]):=dF (j:=0) (by rw[ak,aa Y];rfl);have S:c.headD "" = c[0]:=(by cases c with|nil=>exact b3 rfl n|cons a b=>rfl);exists 1,l,8,bH.of y,u,i0 c[0],274;cases od with|word h=>rw[<- C,S] at h;rw[show vX _ (i0 c[0])=ae from ahz t h];exact cS (k _ r)|text e q x A=>rw[<- C] at x A;rw[S] at x;have G:vX (ZX t) (i0 c[0])=ac (.ref (pT t e)):=(by rw[x];exact y4 t e q);rw[show vX _ (i0 c[0])=_ from G];refine dh ?_;exists 1,l,8,bH.of y,u,i0 c[0],12,G,4;have J:=y3 T H1 e q;exists 138,J,2,(fT t e,fx K t.aK (nc t) t e),424;exact (aF (f:=λk=>(fT t k,fx K t.aK (nc t) t k)) (l:=ay 14)).mpr ⟨e,dO.mpr q,2⟩;exists 1,W,_,X,5,r _ _ D,T.J0,T.DO,7138,J,2,l,c,1,y,R,n,wq e q,λV M U z=>?_,λM _ O=>k M (r.trans O);rw[A] at z;cases z|bad e U i q x A b=>rw[<- C] at x A;rw[S] at x;have G:vX (ZX t) (i0 c[0])=ac (.ref (pT t e)):=(by rw[x];exact y4 t e q);rw[show vX _ (i0 c[0])=_ from G];refine dh ?_;exists 1,l,8,bH.of y,u,i0 c[0],12,G,4;have J:=y3 T H1 e q;exists 138,J,2,(fT t e,fx K t.aK (nc t) t e),424;exact (aF (f:=λk=>(fT t k,fx K t.aK (nc t) t k)) (l:=ay 14)).mpr ⟨e,dO.mpr q,2⟩;exists 1,W,_,X,5,r _ _ D,T.J0,T.DO,7138,J,2,l,c,1,y,R,n,wq e q,λV M us' z O hl2 h2=>?_,λM z=>?_;rw[A] at z;cases z;show fx K t.aK (nc t) t e _ _ _ _;rw[Ya e q b.kd];exists F,p,Z,ln,lr,V,ns,rs,s,U,i,2,bH.of h2,N.mono (r.trans O),b,λH3 s3=>k H3 ((r.trans O).trans s3);rw[A] at z;cases z
inductive fI(n a b c:Int):Prop where
 |out:0<=a->a<n->0<=b->¬b<n->fI n a b c
 |cost:0<=a->a<n->0<=b->b<n->a≠b->c<1->fI n a b c
inductive ZY(vs:List V)(H:Hp)(Q:VK)(E:XK):Prop
 |mk(n a b:Int):vs=[.int n,.int a,.int b]->0<=a->a<n->0<=b->(b<n->a≠b)->Q (.bl (decide (b<n))) H->ZY vs H Q E
theorem Ux(T:Txt K mg w t):bu P w K mg base (jD P w) 1 t.qX t.vG ["size","one","other"] ZY:=by refine T.rm.F.jb K7 λH Q E i h=>?_;obtain⟨n,a,b,rfl,f,g,d,e,k⟩:=h;exists _,(oR (E9 (KQ jm kR aC (pv 1) (pv 0)) (E9 (KQ jm kR aC (pv 2) (pv 0)) (JA (qE lJ (pv 1) (pv 2)))))),4;exists 1574;rw[b6 f];refine cS ⟨1574⟩;rw[b6 g];refine cS ⟨1574⟩;rw[b6 d];refine cS ⟨1574⟩;by_cases c:b<n;rw[b6 c] at k ⊢;refine cS ⟨3724⟩;rw[c5 (λz=>e c (V.int.inj z))];exact k;rw[c5 c] at k ⊢;exact dh k
inductive y2(K:af)(X:am)(vs:List V)(H:Hp)(Q:VK)(E:XK):Prop
 |mk(n:Int)(p:am)(a b c d e:Int):vs=[.int n,.ref p]->dY K H p (hU a b c d e)->fI n a b c->E (.ref X) ae H->y2 K X vs H Q E
theorem SW(T:Txt K mg w t):bu P w K mg base (jD P w) 2 t.oH t.sy ["size","rope"] (y2 K t.dD):=by refine T.oS.F.jb ID λH Q E f h=>?_;obtain⟨n,p,a,b,c,d,e,rfl,j,q,k⟩:=h;exists _,(aj (bY (qT lJ (lS T.gM (pv 1)) aC) (aX (dB rfl T.jN T.jO f.hd au)) bq) (aj (bY (g9 (j3 (iz (Ux T) (f.mono (!_)) rfl T.rm.g T.rm.F.kp T.rm.B .nil cY (KO (pv 0) (xT (pv 1) aC) (xT (pv 1) aC))))) (aX (dB rfl T.jN T.jO f.hd au)) bq) (aj (bY (qT kR (xT (pv 1) aC) aC) (aX (dB rfl T.jN T.jO f.hd au)) bq) bP))),4;exists 1,p,1,.inr j,7,dh ?_;exists 37,p,8,j,7,p,8,j,24;cases q with|out o l m i=>exists 35,o,l,m,λz=>b3 z i,4;rw[c5 i];exact⟨1,cS k⟩|cost o l m i r s=>exists 35,o,l,m,λ_=>r,4;rw[b6 i];exists 1,dh ?_;exists 1,p,8,j,2574;rw[b6 s];exact cS k
inductive ZZ(K:af)(X:am)(vs:List V)(H:Hp)(Q:VK)(E:XK):Prop
 |mk(n:Int)(l p:am)(a b c d e:Int):vs=[.int n,.ref l]->bH K H l [.ref p]->dY K H p (hU a b c d e)->fI n a b c->E (.ref X) ae H->ZZ K X vs H Q E
theorem PD(T:Txt K mg w t):bu P w K mg base (jD P w) 3 t.mj t.pW ["size","ropes"] (ZZ K t.dD):=by refine T.mH.F.jb rU λH Q E q h=>?_;obtain⟨n,l,p,a,b,c,d,e,rfl,m,s,o,k⟩:=h;exists _,(aj (bY (qT i4 (lS T.gM (pv 1)) (cF rfl T.DP (v:=.int 20) ⟨1⟩)) (aX (dB rfl T.jN T.jO q.hd (HC (kh au (kh (HD (cF rfl T.DP (v:=.int 20) ⟨1⟩)) (kh au Mr)))))) bq) (aX (V0 Qw rfl (dZ (pv 1)) (gT 2 rU) (oE (iz (SW T) (q.mono (!_)) rfl T.oS.g T.oS.F.kp T.oS.B .nil cY (dX (pv 0) (pv 2))))))),4;exists 1,l,1,.inl m,57,dh ?_;exists 1,l,2,⟨_,m⟩,rK (K:=K) (a:=l) (xs:=[.ref p]) (λi f j=>i=0/\j=H/\∃v,f=[ac (.int n),ac (.ref l),v]) ⟨27⟩ (λi f j _ ⟨_,e,_⟩=>by rw[e];exact m) ?_ ?_;rintro i y f j r ⟨rfl,rfl,v,rfl⟩;cases r;exists 37,n,p,a,b,c,d,e,2,s,o,k;rintro f j ⟨z,_⟩;cases z
noncomputable abbrev fm(ns:List Int):Nat:=(firstMet (λi=>ns.getD i 0) (cx ns)).length
inductive VR(K:af)(X:am)(vs:List V)(H:Hp)(Q:VK)(E:XK):Prop
 |mk(l:am)(ns:List Int):vs=[.ref l]->bH K H l (ns.map cf)->1<=cx ns->cx ns<=10->(∀n∈ns,0<=n)->(fm ns=ns.length->∀H',aB H H'->Q .fW H')->(fm ns≠ns.length->∀H',aB H H'->E (.ref X) ae H')->VR K X vs H Q E
theorem PF(T:Txt K mg w t):bu P w K mg base (jD P w) 1 t.mh t.pV ["names"] (VR K t.dD):=by refine T.mG.F.jb FI λH Q E c h=>?_;obtain⟨l,ns,rfl,a,s,r,d,k,j⟩:=h;exists _,(aj (bY (g9 (fG jm jm aC (lS T.gM (pv 0)) (cF rfl T.Bo (v:=.int 10) ⟨1⟩))) (aX (dB rfl T.jN T.jO c.hd (HC (kh au (kh (HD (cF rfl T.Bo (v:=.int 10) ⟨1⟩)) (kh au Mr)))))) bq) (aj (bY (qT kR (cB (UU rfl) T.akz boot_min (dg (pv 0))) aC) (aX (dB rfl T.jN T.jO c.hd au)) bq) (aX (bY (qT lJ (cB UT T.gM PySem.boot_len (dg (eK (US rfl) (by rfl) T.akA boot_set (dg (pv 0))))) (lS T.gM (pv 0))) (aX (dB rfl T.jN T.jO c.hd au)) bq)))),4;exists 1,l,1,.inl a,574;rw[b6 (show (1:Int)<=(ns.map cf).length by rw[ah];lia)];refine cS ?_;exists 574;rw[b6 (show ((ns.map cf).length:Int)<=10 by rw[ah];lia)];refine dh ?_;exists 1,l,ns,2,a,6,λm q f=>?_;exists 574;rw[c5 (show ¬m<0 by have:=d m q;lia)];refine dh ?_;exists 1,l,ns,2,a,bF (show ns.length+1<100 by lia) (!_),λp n=>?_;have b:=aB.new (o:=.set (λg=>(firstMet (λi=>ns.getD i 0) (cx ns)).any (·==g)) (fm ns)) n;exists p,5,aq,1,l,1,.inl (b.seq a),74;rw[ah];by_cases e:fm ns=ns.length;refine qS ?_ (k e _ b);show (!decide (cf (fm ns:Nat)=cf (ns.length:Nat)))=al;rw[e,b6 rfl];rfl;refine K1 ?_ (j e _ b);show (!decide (cf (fm ns:Nat)=cf (ns.length:Nat)))=ag;rw[c5 λz=>e (by have:=V.int.inj z;lia)];rfl
inductive kz(K:af)(H:Hp)(l1 l2:am)(ns:List Int):Prop where
 |names:fm ns≠ns.length->kz K H l1 l2 ns
 |aeG (q:am) (a b c d e:Int):fm ns=ns.length->bH K H l2 [.ref q]->dY K H q (hU a b c d e)->fI (cx ns) a b c->kz K H l1 l2 ns
namespace Bd
inductive Ib(K:af)(X:am)(vs:List V)(H:Hp)(Q:VK)(E:XK):Prop
 |mk(p l1 l2:am)(ns:List Int):vs=[.ref p,.ref l1,.ref l2]->bH K H l1 (ns.map cf)->1<=cx ns->cx ns<=10->(∀n∈ns,0<=n)->kz K H l1 l2 ns->(∀H',aB H H'->E (.ref X) ae H')->Ib K X vs H Q E
theorem xg(T:Txt K mg w t):bu P w K mg base (jD P w) 4 t.j6 t.mD ["self","names","ropes"] (Ib K t.dD):=by refine T.qh.F.jb FH λH Q E s h=>?_;obtain⟨p,j,u,o,rfl,l,r,m,n,f,k⟩:=h;exists _,(aj (cP (iz (PF T) (s.mono (!_)) rfl T.mG.g T.mG.F.kp T.mG.B .nil cY (dg (pv 1)))) (aj (cP (iz (PD T) (s.mono (!_)) rfl T.mH.g T.mH.F.kp T.mH.B .nil cY (dX (lS T.gM (pv 1)) (pv 2)))) bP)),4;cases f with|names h=>exact⟨1,j,o,2,l,r,m,n,λz=>b3 z h,λ_=>k⟩|aeG q a b c d e h hq v f=>exists 1,j,o,2,l,r,m,n,λ_ x i=>?_,λz=>b3 h z;exists 1,j,1,.inl (i.seq l),4;rw[ah];exists 13,u,q,a,b,c,d,e,2,i.seq hq,i.iA v,f,k _ i
end Bd
inductive L8(K:af)(C X:am)(vs:List V)(H:Hp)(Q:VK)(E:XK):Prop
 |mk : mN K C vs H Q E0∨Bd.Ib K X vs H Q E->L8 K C X vs H Q E
theorem xg(T:Txt K mg w t):bu P w K mg base (jD P w) 4 t.j6 t.mD ["self","names","ropes"] (L8 K t.aK t.dD):=by refine bu.imp (bu.orX (Hf T) (Bd.xg T) ?_ ?_) (λa H Q E ⟨h⟩=>h) <;> decide
inductive Uy(x:Str):Nat->Prop where
 |text:x.cps.all (·<128)=ag->x.length<=900->TX.okT (TX.told x)=al->Uy x 8
 |names (ns:List Int):x=TX.lO ns [] []->uI ns [] []->1<=cx ns->cx ns<=10->(∀n∈ns,0<=n)->fm ns≠ns.length->Uy x 0
 |aeG (ns:List Int) (a b c d e:Int):x=TX.lO ns [[a,b,c,d,e]] []->uI ns [[a,b,c,d,e]] []->1<=cx ns->cx ns<=10->(∀n∈ns,0<=n)->fm ns=ns.length->fI (cx ns) a b c->Uy x 0
 |caller (ns:List Int) (a b:Int):x=TX.lO ns [] [[a,b]]->uI ns [] [[a,b]]->1<=cx ns->cx ns<=10->(∀n∈ns,0<=n)->ns.Nodup->¬(dr a ns.length/\dr b 3)->Uy x 0
theorem Uy.lt(h:Uy x i):i=8∨i=0:=by cases h <;> simp
inductive y1(K:af)(t:Ad)(vs:List V)(H:Hp)(Q:VK)(E:XK):Prop
 |mk(dk:am)(x:Str)(i:Nat):vs=[.ref dk,.str x]->Uy x i->(∀H',aB H H'->E (.ref (Iz t i)) ae H')->y1 K t vs H Q E
theorem PK(T:Txt K mg w t):bu P w K mg base (jD P w) 6 t.mz t.qd ["self","text"] (y1 K t):=by refine T.qk.F.jb rX λH Q E hr h=>?_;obtain⟨dk,x,i,rfl,od,k⟩:=h;exists _,(aj (sS 2 rX (iz (Cc T) (hr.mono (!_)) rfl T.rA.g T.rA.F.kp T.rA.B .nil cY (dg (pv 1)))) (aX (gY (pv 0) (PR T.sP.M (SN T) (hr.mono (!_)) rfl T.akv T.sP.B .nil cY (dX (PR T.qh.M (xg T) (hr.mono (!_)) rfl T.agr T.qh.B .nil cY (dX (xT (pv 2) aC) (xT (pv 2) aC))) (xT (pv 2) aC))) rfl))),4;cases od with|text N h2 h3=>exact⟨1,Ii.mk (.inr ⟨x,2,N,h2,λp L D l2 R z=>(by rw[h3] at z;cases z),λR _ s'=>k R s'⟩)⟩|names C Y G W QO n o=>subst Y;exists 1,Ii.mk (.inl ⟨C,[],[],2,G,λq L D l2 s V n0 X n2 e01 S e12 hq U N h2=>?_⟩);exists 1,q,8,dY.of hq,7,q,8,dY.of hq,24;refine λf y O m Z=>?_;have j:aB s (upd (upd s y (.own f)) f (.ins t.aK y [])):=(aB.new m).trans (aB.new (by rw[aI (bS Z)];exact O));exact L8.mk (.inr ⟨f,L,D,C,2,bH.of (j _ _ U),W,QO,n,.names o,λR s'=>k R (V.trans (j.trans s'))⟩)|aeG C a b c d e Y G W QO n gd o=>subst Y;exists 1,Ii.mk (.inl ⟨C,[[a,b,c,d,e]],[],2,G,λq L D l2 s V n0 X n2 e01 S e12 hq U N h2=>?_⟩);obtain⟨us,J,I⟩:=N;have A:=LW I;exists 1,q,8,dY.of hq,7,q,8,dY.of hq,24;refine λf y O m Z=>?_;have j:aB s (upd (upd s y (.own f)) f (.ins t.aK y [])):=(aB.new m).trans (aB.new (by rw[aI (bS Z)];exact O));have el:us.length=1:=A.len;obtain⟨u,rfl⟩:∃u,us=[u]:=List.length_eq_one_iff.mp el;exact L8.mk (.inr ⟨f,L,D,C,2,bH.of (j _ _ U),W,QO,n,.aeG u a b c d e gd (bH.of (j _ _ J)) (j.iA (A.at' 0 u _ rfl rfl)) o,λR s'=>k R (V.trans (j.trans s'))⟩)|caller C a b Y G W QO n nd o=>subst Y;exists 1,Ii.mk (.inl ⟨C,[],[[a,b]],2,G,λq L D l2 s V n0 X n2 e01 S e12 hq U N h2=>?_⟩);obtain⟨us,J,I⟩:=N;obtain⟨qs,hc1,hc2⟩:=h2;have A:=LW I;have hc3:=LW hc2;exists 1,q,8,dY.of hq,7,q,8,dY.of hq,24;refine λf y O m Z=>?_;have j:aB s (upd (upd s y (.own f)) f (.ins t.aK y [])):=(aB.new m).trans (aB.new (by rw[aI (bS Z)];exact O));refine L8.mk (.inl ⟨f,y,L,D,C,[],2,aq,bH.of (j _ _ U),⟨D,1,bH.of (j _ _ J),af3.af4 (l:=D) (A.mono λb x=>j.iA)⟩,W,QO,n,nd,!_,(λr z=>by cases z),λln lr H5 hln hlr hT kp=>⟨24⟩⟩);have t5:aB s H5:=λb v e=>kp b v (j b v e) (aJ e O);exists 1,q,8,dY.of (t5 _ _ hq),24;refine λp JJ npp L3 nep=>?_;have t8:aB H5 (upd (upd H5 JJ (.own p)) p (.ins t.cT JJ [])):=(aB.new L3).trans (aB.new (by rw[aI (bS nep)];exact npp));exists p,f,ln,lr,l2,C,[],qs,[(a,b)],2,hT.mono t8,bH.of (t8 _ _ (t5 _ _ hc1)),hc3.mono λb x=>(t5.trans t8).iA,.inr ⟨(a,b),aP,o⟩,k _ (V.trans (t5.trans t8))
noncomputable abbrev LI(ps:List (Str×Str)):List (List V):=ps.map λp=>[.str p.1,.str p.2]
def nu:List (Str×Str)->TA
 |[]=>xy
 |p::r=>eU (hQ (eU (tC (.str p.1)) (eU (tC (.str p.2)) xy))) (nu r)
theorem uL{n:Nat}(h:n<=1000):n<=a9:=aE h (!_)
theorem XF:∀(ps:List (Str×Str)){d:L2.St}{H:Hp}{Q:List V->Hp->Prop},(∀qs b,aB H b->gI K b qs (LI ps)->Q (qs.map ci) b)->nu ps d H Q
 |[],_,H,_,k=>k [] H (aB.refl _) ⟨2,λi q x e=>by cases e⟩
 |p::r,d,H,Q,k=>by
  exists c8,λq hq=>XF r λqs b s' h'=>?_;have h:=aB.new (o:=.tup [cm p.1,.str p.2]) hq;have g:=s' _ _ (aq (H:=H) (a:=q) (o:=.tup [cm p.1,.str p.2]));refine k (q::qs) b (h.trans s') ⟨by show _+1=_+1;rw[h'.len],λi a x f c=>?_⟩;cases i with
  |zero=>cases f;cases c;exact dY.of g
  |succ i=>exact h'.at' i a x f c
theorem _root_.TW.gI.app(h:gI K H qs xs)(h':gI K H us ys):gI K H (qs++us) (xs++ys):=by exists by rw[av,av,h.len,h'.len],λi q x b a=>?_;rcases Nat.lt_or_ge i (cx qs) with hi|hi;rw[bG hi] at b;rw[bG (h.len▸hi)] at a;exact h.at' i q x b a;rw[bO hi] at b;rw[bO (h.len▸hi),<- h.len] at a;exact h'.at' _ q x b a
def Uz(K:af)(H:Hp)(l:am)(ps:List (Str×Str)):Prop:=∃qs:List am,H l=ac (.lst (qs.map ci))/\gI K H qs (LI ps)
def stC(ps:List (Str×Str)):TS:=VZ (eT gc (E7 1) (S8 (nu ps))) (pH 1)
def eI:List (List (Str×Str))->TS->TS
 |[],k=>k
 |ps::r,k=>Mh (stC ps) (eI r k)
theorem yB{r:TA}(i:∀{H:Hp}{Q:List V->Hp->Prop},(∀us c,aB H c->gI K c us (LI qs)->Q (us.map ci) c)->r [ac v,ac (.ref a)] H Q)(h:Uz K H a ps)(hl:ps.length+qs.length<=1000)(k:∀b c,aB H c->Uz K c b (ps++qs)->Q (.ref b) c):eT gc (E7 1) (S8 r) [ac v,ac (.ref a)] H Q:=by exists 1,i λus p t q=>?_;have n:us.length=qs.length:=(by rw[q.len,ah]);exists by rw[ah,n];exact uL ∅,λb u=>?_;have f:=aB.new (o:=.lst (us.map ci)) u;have e:=aq (H:=p) (a:=b) (o:=.lst (us.map ci));generalize upd p b (.lst (us.map ci))=H2 at f e;obtain⟨g,y,m⟩:=h;have j:=t.trans f;have s:g.length=ps.length:=(by rw[m.len,ah]);exists a,b,52,j _ _ y,e,by rw[ah,ah,n,s];exact uL hl,λd w=>?_;have l:=aB.new (o:=.lst (g.map ci++us.map ci)) w;refine k d _ (j.trans l) ⟨g++us,by rw[aq,bx],4⟩;rw[show LI (ps++qs)=LI ps++LI qs from bx];exact (m.mono λb x=>(j.trans l).iA).app (q.mono λb x=>(f.trans l).iA)
def wn{qs:List (Str×Str)}{Q:VK}(h:Uz K H a ps)(hl:ps.length+qs.length<=1000)(k:∀b c,aB H c->Uz K c b (ps++qs)->Q (.ref b) c):eT gc (E7 1) (S8 (nu qs)) [ac v,ac (.ref a)] H Q:=yB (λk=>XF qs k) h hl k
theorem SX{v:V}{k:TS}:∀(c:List (List (Str×Str))){a:am}{ps:List (Str×Str)}{H:Hp}{D:en},Uz K H a ps->ps.length+c.flatten.length<=1000->(∀b d,aB H d->Uz K d b (ps++c.flatten)->k D [ac v,ac (.ref b)] d)->eI c k D [ac v,ac (.ref a)] H
 |[],a,ps,H,D,h,_,e=>e a H (aB.refl _) (by rw[show ps++([]:List (List (Str×Str))).flatten=ps from fF _];exact h)
 |g::c,a,ps,H,D,h,hl,e=>by
  rw[Au,av] at hl;show stC g {D with nx:=eI c k D} _ H;refine wn h ∅ λb d i m=>?_;refine SX c m (by rw[av];lia) λn j l f=>e n j (i.trans l) ?_;rw[kg] at f;exact f
theorem Uz.get(h:Uz K H l ps){c:Int}{n:Nat}(f:ps.length=n)(i:0<n):∃q vs,bH K H l vs/\KN vs (c%n)=ac (.ref q)/\dY K H q [.str (ps.getD (c%n).toNat ("","")).1,.str (ps.getD (c%n).toNat ("","")).2]:=by obtain⟨a,hq,t⟩:=h;have e:a.length=n:=(by rw[t.len,ah,f]);have g:=ya c (show (n:Int)≠0 by lia);have k:=qP c (show (0:Int)<n by lia);obtain⟨j,d⟩:∃j:Nat,c%n=(j:Int):=⟨(c%n).toNat,6⟩;have b:j<n:=∅;rw[d,g5];exists a[j],_,bH.of hq,dF (by rw[ak,aa ∅];rfl),t.at' j _ _ (aa ∅) ?_;rw[ak,ao,aa ∅];rfl
noncomputable def fM:List Str:=["round 0","round 1","call 2 0","call 1 2","lay 0 1","fall 0 0","fall 2 0","move 0 2","move 3 1","post 0 all","post 1 0","post 3 all","post 2 3","run","rest 0","round 0"]
inductive Z0(K:af)(vs:List V)(H:Hp)(Q:VK)(E:XK):Prop
 |mk(c:Int):vs=[.int c]->(∀H',aB H H'->Q (.str (fM.getD (c%16).toNat "")) H')->Z0 K vs H Q E
theorem aeH(T:Txt K mg w t):bu P w K mg base iJ 1 t.Gb t.Le ["_law_cell"] (Z0 K):=by refine T.YK.F.jB HP λH Q E A h=>?_;·obtain⟨c,rfl,k⟩:=h;exists _,(aj (sS 1 HP (cu (Ki au au au au au))) (aj (sS 1 HP (fc fX (pv 1) (cu (Ki au au au au au)))) (aj (sS 1 HP (fc fX (pv 1) (cu (oI au au au au au au)))) (oR (xL (pv 1) (fc V2 (pv 0) aC)))))),4;left;exists Kb,λf n=>?_;have u:=aB.new (o:=.lst (bf (fM.take 5))) n;have l:=aq (H:=H) (a:=f) (o:=.lst (bf (fM.take 5)));show Mh _ _ _ _ (upd H f (.lst (bf (fM.take 5))));generalize upd H f (.lst (bf (fM.take 5)))=H1 at u l;exists 1,Kb,λe g=>⟨f,e,52,aB.new g _ _ l,aq,aab,λd v=>?_⟩;have s:=(aB.new (o:=.lst (bf ((fM.drop 5).take 5))) g).trans (aB.new (o:=.lst (bf (fM.take 10))) v);have r:=aq (H:=upd H1 e (.lst (bf ((fM.drop 5).take 5)))) (a:=d) (o:=.lst (bf (fM.take 10)));show Mh _ _ _ _ (upd (upd H1 e (.lst (bf ((fM.drop 5).take 5)))) d (.lst (bf (fM.take 10))));generalize upd (upd H1 e (.lst (bf ((fM.drop 5).take 5)))) d (.lst (bf (fM.take 10)))=H3 at s r;exists 1,abn,λi q=>⟨d,i,52,aB.new q _ _ r,aq,Jn,λp y=>?_⟩;have x:=(aB.new (o:=.lst (bf (fM.drop 10))) q).trans (aB.new (o:=.lst (bf fM)) y);have z:=aq (H:=upd H3 i (.lst (bf (fM.drop 10)))) (a:=p) (o:=.lst (bf fM));have n:=ya c (show (16:Int)≠0 by decide);have g:=qP c (show (0:Int)<16 by decide);obtain⟨j,m⟩:∃j:Nat,c%16=(j:Int):=⟨(c%16).toNat,6⟩;have b:j<fM.length:=(by show j<16;lia);have k:=k _ (u.trans (s.trans x));rw[m,g5,ao,aa b] at k;exists 37520,p,8,bH.of z,4,k;rw[m];exact dF (by rw[ak,aa b];rfl)
noncomputable def anp:List (List (Str×Str)):=[[("call  0 0","text"),("call 0 x","text")],
 [("call 3 9","house"),("call 0 3","group"),("round 3","group"),("rest 7","group")],
 [("row 3 3","house"),("row 0 3","group"),("open 3","group")],
 [("open","text"),("rest","text")],
 [("fall 3 0","wire"),("fall 0 2","wire"),("lay 1 0","wire")],
 [("lay 9 9","wire"),("fall 0","text")],
 [("move 4 9","caller"),("move 0 3","house"),("move 0","text"),("post 4 all","caller")],
 [("post 0 9","caller"),("post 0 2","apart"),("post 3 1","apart"),("post 0 All","text")],
 [("post all 0","text"),("post 0","text"),("pass 99","copy")],
 [("pass","text"),("pass -1","text")],
 [("run 1","text"),("flying 0","text"),("had 4","caller")],
 [("had","text"),("story 99","letter")],
 [("story","text"),("Run","text"),("run ","text")],
 [(" run","text"),("call 01 0","text")]]
def kw:List (Str×Str):=[("","text"),("call 0","text"),("call 0 0 0","text")]
noncomputable def ajR:List (Str×Str):=[("call 0 1111111111111111111111111111111111111111111111111111111111111","text"),("post 9 0","caller")]
def SY:List (Str×Str):=kw++anp.flatten++ajR
inductive yA(K:af)(vs:List V)(H:Hp)(Q:VK)(E:XK):Prop
 |mk (c:Int):vs=[.int c]->(∀p H',aB H H'->dY K H' p [.str (SY.getD (c%44).toNat ("","")).1,.str (SY.getD (c%44).toNat ("","")).2]->Q (.ref p) H')->yA K vs H Q E
theorem XV{ps:List (Str×Str)}{Q:VK}(hl:ps.length<=1000)(k:∀b a,aB H a->Uz K a b ps->Q (.ref b) a):S8 (nu ps) σ H Q:=by refine XF (K:=K) ps λe h g d=>?_;have f:e.length=ps.length:=(by rw[d.len,ah]);exists by rw[ah,f];exact uL hl,λb c=>k b _ (g.trans (aB.new c)) ⟨e,aq,d.mono λb x=>(aB.new c).iA⟩
theorem pz{ps:List (Str×Str)}{u:TS}(hl:ps.length<=1000)(k:∀l a,aB H a->Uz K a l ps->u D [ac v,ac (.ref l)] a):Mh (VZ (S8 (nu ps)) (pH 1)) u D [ac v,ae] H:=by show S8 (nu ps) [ac v,ae] H λx b=>u D ([ac v,ae].set 1 (ac x)) b;exact XV (K:=K) hl k
theorem ajS{c:TE}{p:Str×Str}{y:Str}(h:∀{H:Hp}{Q:VK},Q (.str x) H->c σ H Q)(k:∀qs b,aB H b->gI K b qs (LI [(x,y),p])->Q (qs.map ci) b):eU (hQ (eU c (eU (tC (.str y)) xy))) (eU (hQ (eU (tC (.str p.1)) (eU (tC (.str p.2)) xy))) xy) σ H Q:=by refine h ⟨c8,λq hq=>XF (K:=K) [p] λqs b e g=>?_⟩;have l:=aB.new (o:=.tup [cm x,.str y]) hq;have j:=e _ _ (aq (H:=H) (a:=q) (o:=.tup [cm x,.str y]));refine k (q::qs) b (l.trans e) ⟨by show _+1=_+1;rw[g.len],λi a x f d=>?_⟩;cases i with|zero=>cases f;cases d;exact dY.of j|succ i=>exact g.at' i a x f d
theorem ajT:("call 0 " : Str)++⟨List.foldl (λa b=>a++b) #[] (bV (61:Int).toNat ("1" : Str).cps)⟩=(ajR.getD 0 ("","")).1:=↑_
theorem ahE(T:Txt K mg w t):bu P w K mg base iJ 1 t.Lc t.P6 ["_law_cell"] (yA K):=by refine T.acv.F.jB iM λH Q E y h=>?_;·obtain⟨c,rfl,k⟩:=h;exists _,(aj (sS 1 iM (cu (KO (bE (dX au au)) (bE (dX au au)) (bE (dX au au))))) (aj (sS 1 iM (fc fX (pv 1) (cu (dX (bE (dX au au)) (bE (dX au au)))))) (aj (sS 1 iM (fc fX (pv 1) (cu (jx (bE (dX au au)) (bE (dX au au)) (bE (dX au au)) (bE (dX au au)))))) (aj (sS 1 iM (fc fX (pv 1) (cu (KO (bE (dX au au)) (bE (dX au au)) (bE (dX au au)))))) (aj (sS 1 iM (fc fX (pv 1) (cu (dX (bE (dX au au)) (bE (dX au au)))))) (aj (sS 1 iM (fc fX (pv 1) (cu (KO (bE (dX au au)) (bE (dX au au)) (bE (dX au au)))))) (aj (sS 1 iM (fc fX (pv 1) (cu (dX (bE (dX au au)) (bE (dX au au)))))) (aj (sS 1 iM (fc fX (pv 1) (cu (jx (bE (dX au au)) (bE (dX au au)) (bE (dX au au)) (bE (dX au au)))))) (aj (sS 1 iM (fc fX (pv 1) (cu (jx (bE (dX au au)) (bE (dX au au)) (bE (dX au au)) (bE (dX au au)))))) (aj (sS 1 iM (fc fX (pv 1) (cu (KO (bE (dX au au)) (bE (dX au au)) (bE (dX au au)))))) (aj (sS 1 iM (fc fX (pv 1) (cu (dX (bE (dX au au)) (bE (dX au au)))))) (aj (sS 1 iM (fc fX (pv 1) (cu (KO (bE (dX au au)) (bE (dX au au)) (bE (dX au au)))))) (aj (sS 1 iM (fc fX (pv 1) (cu (dX (bE (dX au au)) (bE (dX au au)))))) (aj (sS 1 iM (fc fX (pv 1) (cu (KO (bE (dX au au)) (bE (dX au au)) (bE (dX au au)))))) (aj (sS 1 iM (fc fX (pv 1) (cu (dX (bE (dX au au)) (bE (dX au au)))))) (aj (sS 1 iM (fc fX (pv 1) (cu (dX (bE (dX (fc Qm au (fc aiS au aC)) au)) (bE (dX au au)))))) (oR (xL (pv 1) (fc V2 (pv 0) aC))))))))))))))))))),4;left;show Mh (VZ (S8 (nu kw)) (pH 1)) (eI anp _) _ [ac (.int c),ae] H;refine pz (K:=K) (ps:=kw) (!_) λs v d l=>?_;refine SX (K:=K) anp l (↑_) λr u j e=>?_;refine yB (K:=K) (qs:=ajR) (λ{H Q} i=>ajS (K:=K) (x:=(ajR.getD 0 ("","")).1) (λ{H Q} q=>?_) i) e (↑_) λb o m f=>?_;exists 520000,↑_,52,↑_,4;rw[ajT];exact q;obtain⟨q,p,hq,a,g⟩:=f.get (c:=c) (n:=44) (↑_) (!_);exists 37520,b,8,hq,a,k q o (d.trans (j.trans m)) g
noncomputable def ahF:List (List (Str×Str)):=[[("names 1; caller 0 3","town"),("names 1 2; rope 0 1 0 1 1","town")],
 [("names 1 2; rope 0 2 1 1 1","town"),("names 1 1; rope 0 0 0 0","text")],[("names 1; caller 1 0","town")]]
def ml:List (Str×Str):=[("names","text"),("names 1 1","town")]
def ro:List (Str×Str):=[("names 4 4; hut 1","text")]
def adv:List (Str×Str):=ml++ahF.flatten++ro
inductive Z1(K:af)(vs:List V)(H:Hp)(Q:VK)(E:XK):Prop
 |mk (c:Int):vs=[.int c]->(∀p H',aB H H'->dY K H' p [.str (adv.getD (c%8).toNat ("","")).1,.str (adv.getD (c%8).toNat ("","")).2]->Q (.ref p) H')->Z1 K vs H Q E
theorem aeI(T:Txt K mg w t):bu P w K mg base iJ 1 t.Gc t.Lf ["_law_cell"] (Z1 K):=by refine T.YL.F.jB CC λH Q E v h=>?_;·obtain⟨c,rfl,k⟩:=h;exists _,(aj (sS 1 CC (cu (dX (bE (dX au au)) (bE (dX au au))))) (aj (sS 1 CC (fc fX (pv 1) (cu (dX (bE (dX au au)) (bE (dX au au)))))) (aj (sS 1 CC (fc fX (pv 1) (cu (dX (bE (dX au au)) (bE (dX au au)))))) (aj (sS 1 CC (fc fX (pv 1) (cu (dg (bE (dX au au)))))) (oR (xL (fc fX (pv 1) (cu (dg (bE (dX au au))))) (fc V2 (pv 0) aC))))))),4;left;show Mh (VZ (S8 (nu ml)) (pH 1)) (eI ahF _) _ [ac (.int c),ae] H;refine pz (K:=K) (ps:=ml) (!_) λr u d j=>?_;refine SX (K:=K) ahF j (↑_) λp s i e=>?_;refine wn (K:=K) (qs:=ro) e (↑_) λb m l f=>?_;obtain⟨q,o,hq,a,g⟩:=f.get (c:=c) (n:=8) (↑_) (!_);exists 1520,b,8,hq,a,k q m (d.trans (i.trans l)) g
noncomputable def xh(i:Nat):Str:=["town","house","group","wire","caller","apart","copy","letter","text"].getD i ""
end
section
variable{ns:List Int}{rs:List R5}{o:dS ns rs}{bs:List (List Bool)}{cl:List (Nat×Nat)}{B:Nat}{s s':NS}
theorem fD.ph(r:fD o g m s k s'):Ph (cx ns) rs s'<=Ph (cx ns) rs s:=by induction r with|zero=>exact az _|succ _ _ _ a=>exact aE Xr a
theorem Rn.ph(h:SK ns rs bs cl B s)(r:Rn o s k s'):Ph (cx ns) rs s'<=Ph (cx ns) rs s:=by induction r with|zero=>exact az _|succ q p a=>have:=((h.rn q).ps p).2;have:=a h;lia
theorem er.less(h:er (cx ns) rs s)(e:Ph (cx ns) rs s'<=Ph (cx ns) rs s)(a:cx s'.ls=s.ls.length):er (cx ns) rs s':=by unfold er at h ⊢;rw[a];lia
theorem er.ahl(h:SK ns rs bs cl B s)(f:Fits ns rs s c)(d:Ca o s c x s')(p:er (cx ns) rs s):er (cx ns) rs s':=by have ln:=d.ln;cases c with|round g=>obtain⟨k,r,_⟩:=d;exact p.less r.ph ln|rest g=>obtain⟨rfl,_⟩:=d;exact p|row a g=>obtain⟨rfl,_⟩:=d;exact p|Qe g=>obtain⟨rfl,_⟩:=d;exact p|call a g=>obtain⟨e,_,_,rfl,_⟩:=d;exact p.less Xr ln|vP i y=>obtain⟨w,r,_,_,rfl,_⟩:=d;exact p.less Ap ln|lay i y=>obtain⟨w,r,n,_,_,_,_,rfl,_⟩:=d;exact p.less v0 ln|move a b=>obtain⟨rfl,_⟩:=d;exact p.less AC ln|post a to=>obtain⟨os,O,j,rfl,_⟩:=d;obtain⟨D,m,_⟩:=h;have l:s.aL.getD a 0<cx ns:=(by rw[ao,aa f.1];exact m.bd.hm _ (aD f.1));have:=FK (to:=to) (Fo.of O) l;unfold er at p ⊢;rw[show (Aq rs s a to os).ls.length=s.ls.length+1 from ln,Nat.mul_add,Nat.mul_one];lia|pass k=>exact p.less (by have:=(h.ps d).2;lia) ln|run=>obtain⟨k,r,_⟩:=d;exact p.less (r.ph h) ln|flying=>obtain⟨rfl,_⟩:=d;exact p|had a=>obtain⟨rfl,_⟩:=d;exact p|rE i=>obtain⟨rfl,_⟩:=d;exact p
theorem er.cps(p:er (cx ns) rs s):cx s.cps<=2*cx rs*cx s.ls:=by unfold er Ph at p;lia
theorem er.zero:er (cx ns) rs (S0 ns rs cl):=by unfold er Ph;exact az _
end
section
variable{P:bv}{w:World}{K:af}{mg:Str->Option ap}{base:Heap}
theorem fb(a b:Str):(a++b).length=a.length+b.length:=by rw[<- TX.yp,TX.QF,av,TX.yp,TX.yp]
theorem wf{a b:Str}(c:a.length<=1000)(d:b.length<=1000):(a++b).length<=a9:=by rw[fb,sizeLine_eq];lia
def XB:TX.cs Str.empty=[]:=rfl
theorem KB{w:Str}(b:TX.cs w'=TX.cs w++[32])(a:Str):Str.empty++w'++a=Txt.join TX.lN [w,a]:=by refine TX.aaR ?_;rw[TX.join_eq,TX.xD,TX.QF,TX.QF,b,XB,List.nil_append,kg];rfl
noncomputable def NO:List ou:=[.row 0 0,.row 1 0,.row 2 0,.row 0 1,.row 1 1,.row 2 1,.row 1 2,.Qe 0,.Qe 1,.Qe 2,.flying,.rest 0,.had 0,.had 1,.had 2,.had 3]
def du(n:Nat):List ou:=NO++(ay n).map ou.rE
noncomputable def tS:List Str:=["row 0 0","row 1 0","row 2 0","row 0 1","row 1 1","row 2 1","row 1 2","open 0","open 1","open 2","flying","rest 0","had 0","had 1","had 2","had 3"]
theorem ahI:NO.map ou.text=tS:=↑_
def Told{ns:List Int}{rs:List R5}(o:dS ns rs)(s:NS)(cs:List ou)(as:List Str):Prop:=as.length=cs.length/\∀(i:Nat)c a,cs[i]?=ac c->as[i]?=ac a->Ca o s c a s
theorem Told.eq(E:ng s s)(c:Told o s cs as)(e:Told o s cs bs):as=bs:=by refine vR (by rw[c.1,e.1]) λi a b=>?_;have d:i<cs.length:=c.1▸a;exact (Ca.eq2 E (c.2 i _ _ (aa d) (aa a)) (e.2 i _ _ (aa d) (aa b))).1
theorem ahJ{ns:List Int}{s:NS}(d:cx ns=3)(a:s.aL.length=4):∀c∈du (cx s.ls),Fits ns rs s c:=by
 intro c hc;rcases bh.mp hc with hc|hc;·simp only[NO,aM,cN,or_false] at hc;rcases hc with rfl|rfl|rfl|rfl|rfl|rfl|rfl|rfl|rfl|rfl|rfl|rfl|rfl|rfl|rfl|rfl <;> simp[Fits,d,a]
 obtain⟨k,b,rfl⟩:=aF.mp hc;exact dO.mp b
theorem aeJ:∀c∈du n,Ca o s c a s'->s'=s:=by
 intro c hc;rcases bh.mp hc with hc|hc;·simp only[NO,aM,cN,or_false] at hc;rcases hc with rfl|rfl|rfl|rfl|rfl|rfl|rfl|rfl|rfl|rfl|rfl|rfl|rfl|rfl|rfl|rfl <;> exact λd=>d.1
 obtain⟨k,b,rfl⟩:=aF.mp hc;exact λd=>d.1
theorem ahK(n:Nat):bf tS++bf (((ay n).map ou.rE).map ou.text)=bf ((du n).map ou.text):=by rw[<- ahI];simp[bf,du]
inductive VS(K:af)(CT CD:am)(c:NC)(vs:List V)(H:Hp)(Q:VK)(E:XK):Prop
 |mk(F:am->Prop)(p tp ln lr dk dx:am)(ns:List Int)(rs:List R5)(o:dS ns rs)(bs:List (List Bool))(cl:List (Nat×Nat))(B:Nat)(s:NS):vs=[.ref dk,.int (s.ls.length:Nat)]->Off H F dk=ac (.ins CD dx [("net",.ref p)])->NW K c CT H F p tp ln lr ns rs s->TB ns rs->SK ns rs bs cl B s->B<=205000->cx s.ls<=1000->cx ns=3->s.aL.length=4->(∀l as F' H',Told o s (du (cx s.ls)) as->dH K c H' F' p tp (cx ns) s->Step H F H' F'->H l=ae->¬F' l->H' l=ac (.lst (bf as))->Q (.ref l) H')->VS K CT CD c vs H Q E
theorem S1(T:Txt K mg w t):bu P w K mg base iJ 11 t.CJ t.HW ["_law_desk","_law_posted"] (VS K t.aK t.nS (nc t)):=by refine T.MT.F.jB uc λH Q E hr h=>?_;·obtain⟨F,p,tp,ln,lr,dk,dx,ns,rs,o,bs,cl,B,s,rfl,mu,N,tb,sk,hB,hl,n3,h4,k⟩:=h;exists _,(aj (sS 2 uc (cu (qC au (qC au (aN7 au au au au au au au))))) (aj (sS 2 uc (fc fX (pv 2) (cu (KO au au au)))) (aj (sS 2 uc (fc fX (fc fX (pv 2) (cu (jx au au au au))) (fN (kO uc ["_law_number"] [ae]) rfl (lZ rfl T.sX (dg (pv 1))) (λ_ _ _ _=>by exact (gS 0 Tp)) (λ_ _ _ _=>by exact gk) (λ_ _ _ _=>by exact (al8 (HC (kh au (kh (HD (pv 0)) Mr)))))))) (oR (fN (kO uc ["_law_row","_law_desk"] [ae,ac 0]) rfl (dZ (pv 2)) (λ_ _ _ _=>by exact (gS 0 Tq)) (λ_ _ _ _=>by exact gk) (λ_ _ _ _=>by exact (cM (pv 1) T.J0 T.uu (OP T) hr (dg (pv 0))))))))),4;left;refine cy λNx gq=>?_;exists abr,λl1 h1=>gq _ _ ?_;have u1:=aB.new (o:=.lst (bf (tS.take 9))) h1;have I:=aq (H:=H) (a:=l1) (o:=.lst (bf (tS.take 9)));show Mh _ _ _ _ (upd H l1 (.lst (bf (tS.take 9))));generalize upd H l1 (.lst (bf (tS.take 9)))=H1 at u1 I;refine cy λNx gq=>?_;exists 1,ft,λl2 L=>⟨l1,l2,52,aB.new L _ _ I,aq,aac,λl3 h3=>gq _ _ ?_⟩;have u3:=(aB.new (o:=.lst (bf ((tS.drop 9).take 3))) L).trans (aB.new (o:=.lst (bf (tS.take 12))) h3);have e3:=aq (H:=upd H1 l2 (.lst (bf ((tS.drop 9).take 3)))) (a:=l3) (o:=.lst (bf (tS.take 12)));show Mh _ _ _ _ (upd (upd H1 l2 (.lst (bf ((tS.drop 9).take 3)))) l3 (.lst (bf (tS.take 12))));generalize upd (upd H1 l2 (.lst (bf ((tS.drop 9).take 3)))) l3 (.lst (bf (tS.take 12)))=H3 at u3 e3;refine cy λNx gq=>?_;exists 1,hX,λl4 O=>⟨l3,l4,52,aB.new O _ _ e3,aq,Jn,λl5 h5=>?_⟩;have u5:=(aB.new (o:=.lst (bf (tS.drop 12))) O).trans (aB.new (o:=.lst (bf tS)) h5);have e5:=aq (H:=upd H3 l4 (.lst (bf (tS.drop 12)))) (a:=l5) (o:=.lst (bf tS));exists 3766,λacc X=>?_;refine Ig (n:=((s.ls.length:Nat):Int).toNat) (λj=>cf (j:Nat)) (λj=>cm (ou.rE j).text) X JE yg (λj H6 x H7 hj s6 G=>?_) ∅ (λj H6 R S hj s6 h6=>?_) (λH6 s6 hy=>?_);obtain⟨rfl,rfl⟩:=G;exact⟨2,by rw[j9]⟩;have hj':j<=1000:=∅;have hlen:=(TX.HK (Cb (n:=j) ∅)).2;exists 1,(↑_),37,vT (Cb (n:=j) ∅),1,wf (↑_) (by show (TX.num j).length<=1000;lia),wf (↑_) (by show (TX.num j).length<=1000;lia),4;rw[KB (w:="story") (↑_)];exact h6 _ (aB.refl _);have ey:(ay ((s.ls.length:Nat):Int).toNat).map (λj=>cm (ou.rE j).text)=bf (((ay (cx s.ls)).map ou.rE).map ou.text):=(by rw[g5];simp[bf,cz]);rw[ey] at hy;have W:=((u1.trans u3).trans u5).trans s6;exists l5,acc,52,s6 _ _ e5,hy,(by rw[ah,ah,ah,ah,bI];show 16+_<=_;exact aE (show _<=2000 by lia) (!_)),λU h7=>gq _ _ ?_;rw[ahK];have u7:=aB.new (o:=.lst (bf ((du (cx s.ls)).map ou.text))) h7;have e7:=aq (H:=H6) (a:=U) (o:=.lst (bf ((du (cx s.ls)).map ou.text)));generalize upd H6 U (.lst (bf ((du (cx s.ls)).map ou.text)))=H7 at u7 e7;have r:=W.trans u7;have nl7:=W.free h7;have nF7:¬F U:=λz=>(by obtain⟨o',e⟩:=N.cj.there z;rw[nl7] at e;cases e);have N7:=N.mono r;have SJ:=(Ft (F:=F) r) _ _ mu;have VC:bH K (Off H7 F) U _:=bH.of (yt nF7 e7);have hcl:((bf ((du (cx s.ls)).map ou.text))).length=(du (cx s.ls)).length:=(by simp[bf]);exists 1,U,2,⟨_,cK.seq VC⟩,λl u=>?_;have nFa:¬F l:=λz=>(by obtain⟨o',e⟩:=N7.cj.there z;rw[u] at e;cases e);have u8:=aB.new (o:=.lst []) u;exists λi m H2=>m=(du (cx s.ls)).length-i/\i<=(du (cx s.ls)).length/\∃(J:am->Prop) (as:List Str),as.length=i/\(∀(j:Nat) c a,(du (cx s.ls))[j]?=ac c->as[j]?=ac a->Ca o s c a s)/\dH K (nc t) H2 J p tp (cx ns) s/\Step H7 F H2 J/\H2 l=ac (.lst (bf as))/\¬J l,⟨1,bA _,F,[],2,(λj c a _ e=>by cases e),N7.cj.mono u8,Step.refl' u8,aq,nFa⟩,4;rintro i m H2 ⟨rfl,hi,J,as,g,hd,N2,q,L,C⟩;have D:=(Cw q).seq VC;rcases Nat.lt_or_ge i (du (cx s.ls)).length with f|hge;refine .inr ⟨⟨33,cK.seq D,aa (by rw[hcl];exact f)⟩,4⟩;rintro x H3 ⟨rfl,G⟩;have G:=G _ (cK.seq D);have ex:x=.str ((du (cx s.ls))[i]).text:=(by rw[ak,ak,aa f] at G;exact (aT G).symm);subst ex;have A:=aD f;have Y:=cK _ _ ((Cw q) _ _ SJ);have W2:=N7.done q N2;exists 1,dk,5,Y,7,J,p,tp,ln,lr,dk,dx,ns,rs,o,bs,cl,B,s,(du (cx s.ls))[i],2,Y,W2,tb,sk,hB,ahJ n3 h4 _ A,λa s' F4 H4 d N4 Hy=>?_;have es:=aeJ (o:=o) _ A d;subst es;have Z:=Hy.kp _ _ L C;have M:¬F4 l:=λz=>(by rcases Hy.fr _ z with y|y;exact C y;rw[L] at y;cases y);exists _,Z,by rw[ah,g];exact bF (show i<1000000 by have:(du s'.ls.length).length=16+cx s'.ls:=by {simp[du,NO];lia};lia) (!_),_,Nat.sub_lt_sub_left f (pG i),2,f,F4,as++[a],by rw[av,g];rfl,λj c b I e2=>?_,N4.past (yt M Z) tX,44,M;rcases Nat.lt_or_ge j as.length with hj|hj;rw[bG hj] at e2;exact hd j c b I e2;have:j=i:=(by have:=(ai.mp e2).1;rw[av,g] at this;have:j<i+1:=this;lia);subst this;rw[bO hj,g,lF] at e2;rw[aa f] at I;cases I;cases e2;exact d;have:=q.trans Hy;exists λb v e z=>dU b v (this.kp b v e z) (aJ e u),λb z=>this.fr b z;rw[aq];simp[bf];have:i=(du (cx s.ls)).length:=∅;subst this;refine .inl ⟨⟨_,cK.seq D,by rw[hcl];exact az _⟩,4⟩;exact k l as J H2 ⟨g,hd⟩ N2 ((Step.refl' r).trans q) (r.free u) C L
theorem ajU(rs:List R5):(rs.map λr=>bV r.d.toNat ag).map c4=rs.map λr=>ay r.d.toNat:=by rw[cz];exact dP λr _=>aaM _
theorem ahM{rs:List R5}(ok:∀r∈rs,r.Ok n):Fit rs (rs.map λr=>bV r.d.toNat ag):=by exists ah _,λi r b c a=>?_;rw[ak,c] at a;cases a;rw[List.length_replicate];have:=(ok r (aQ c)).d1;lia
theorem SZ{cl:List (Nat×Nat)}(o:dS ns rs)(k:cl.length<=20)(e:∀c∈cl,c.1<cx ns/\c.2<3):SD ns rs (rs.map λr=>bV r.d.toNat ag) cl 0 (S0 ns rs cl):=by exists ⟨ah _,λw a=>?_,λg _ i b=>⟨4,Int.le_refl _,⟨Int.le_refl _,by show (0:Int)<(ns.length:Int);lia⟩,.inl rfl⟩⟩,⟨44,λg f=>?_,λh m=>?_,4,λw a=>?_,bA _,λl z=>(by cases z),bA _,λc z=>(by cases z),λg=>⟨bA _,mO⟩⟩,(ajU rs).symm,ahM o.ok,22;obtain⟨r,j,rfl⟩:=aF.mp a;rw[bI];have:=(o.ok r j).d4;lia;show 0<=ns.getD i 0;rw[ao,aa b];exact o.pos _ (aD b);show (cl.map _).length=(cl.map _).length;rw[ah,ah];show (cl.map _).length<=20;rw[ah];exact k;obtain⟨c,z,rfl⟩:=aF.mp f;exact (e c z).2;obtain⟨c,z,rfl⟩:=aF.mp m;exact (e c z).1;show (cl.map _).length=(cl.map _).length;rw[ah,ah];obtain⟨c,z,rfl⟩:=aF.mp a;exact bA _
def xW:List Int:=[4,2,9]
def zO:List R5:=[⟨(0),(1),(3),(2),(7)⟩,⟨(1),(2),(1),(1),(3)⟩,⟨(2),(0),(5),(1),(5)⟩]
def Z2:List (Nat×Nat):=[(0,0),(2,0),(1,1),(0,1)]
theorem qO:dS xW zO:=by exists !_,λr a=>?_,!_,!_,!_,!_;simp only[zO,aM,cN,or_false] at a;rcases a with rfl|rfl|rfl <;> refine⟨4444444444⟩ <;> decide
theorem hG:TB xW zO:=⟨↑_,↑_⟩
theorem NA:uI xW (zO.map R5.ns) (fo Z2):=by have c:∀n:Int,0<=n->n<10->TX.Wr n:=λn g h=>⟨g,Int.lt_trans h (↑_)⟩;have e:∀n∈xW,0<=n/\n<10:=!_;have f:∀r∈zO.map R5.ns,∀n∈r,0<=n/\n<10:=!_;have d:∀r∈fo Z2,∀n∈r,0<=n/\n<10:=!_;exists λn a=>c n (e n a).1 (e n a).2,λr b n a=>c n (f r b n a).1 (f r b n a).2,λr b n a=>c n (d r b n a).1 (d r b n a).2,!_,!_,!_,!_,!_,!_
theorem Xt:("names 4 2 9; rope 0 1 3 2 7; rope 1 2 1 1 3; rope 2 0 5 1 5" : Str)++"; caller 0 0; caller 2 0; caller 1 1; caller 0 1" = TX.lO xW (zO.map R5.ns) (fo Z2):=↑_
noncomputable def PL:List ou:=[.round 0,.round 1,.call 2 0,.call 1 2,.lay 0 1,.vP 0 0,.vP 2 0,.move 0 2,.move 3 1,.post 0 ae,.post 1 (ac 0),.post 3 ae,.post 2 (ac 3),.run,.rest 0,.round 0]
theorem ahO:PL.map ou.text=fM:=↑_
def Z3(b0 b1:Bool):List (List Bool):=[[b0,ag],[ag],[b1]]
structure JS(j:Nat)(b0 b1:Bool)(cl:List (Nat×Nat))(s:NS):Prop where
 sk:SK xW zO (Z3 b0 b1) cl (5000*j) s
 ph:er xW.length zO s
 gr:cl.map (·.2)=[0,0,1,1]
 ll:cx s.ls<=j
 eq:ng s s
theorem JS.hm(h:JS j b0 b1 cl s):s.aL.length=4:=by obtain⟨D,a,_⟩:=h.sk;have:=c6 List.length h.gr;rw[a.hm,ah];rw[ah] at this;exact this
theorem JS.grp(h:JS j b0 b1 cl s):s.groups=[0,0,1,1]:=by obtain⟨D,a,_⟩:=h.sk;rw[a.gr,h.gr]
theorem JS.ws(h:JS j b0 b1 cl s):s.ws=[c4 [b0,ag],[0],c4 [b1]]:=by obtain⟨D,a,_⟩:=h.sk;rw[a.ws];rfl
def NP(k:Nat)(b0 b1:Bool):Bool:=k==4 || (k==5&&!b0) || (k==6&&!b1)
theorem JS.fits{k:Nat}(h:JS j a b cl s)(f:k<16)(e:NP k a b=al):Fits xW zO s (PL.getD k .run):=by
 have hm:=h.hm;have d:=h.grp;have c:=h.ws;have:k=0∨k=1∨k=2∨k=3∨k=4∨k=5∨k=6∨k=7∨k=8∨k=9∨k=10∨k=11∨k=12∨k=13∨k=14∨k=15:=∅;rcases this with rfl|rfl|rfl|rfl|rfl|rfl|rfl|rfl|rfl|rfl|rfl|rfl|rfl|rfl|rfl|rfl;show 0<3;decide;show 1<3;decide;exists !_,!_;exists !_,!_;cases e;·have:a=ag:=(by cases a <;> first|rfl|cases e);subst this;exists 33,by rw[c];rfl,20
 ·have:b=ag:=(by cases b <;> first|rfl|cases e);subst this;exists 33,by rw[c];rfl,20
 exists 60;exists 60;exact⟨6,λy z=>by cases z⟩;exact⟨6,λy z=>by cases z;exact⟨6,by rw[d];rfl⟩⟩;exact⟨6,λy z=>by cases z⟩;exact⟨6,λy z=>by cases z;exact⟨6,by rw[d];rfl⟩⟩;trivial;show 0<3;decide;show 0<3;decide
theorem SU{k:Nat}(c:k<16)(e:NP k a b=al):k4 (Z3 a b) (PL.getD k .run)=Z3 (a&&k != 5) (b&&k != 6):=by have:∀k:Fin 16,∀a b:Bool,NP k a b=al->k4 (Z3 a b) (PL.getD k .run)=Z3 (a&&k.1 != 5) (b&&k.1 != 6):=(by decide +kernel);exact this ⟨k,c⟩ a b e
theorem JS.ahl{k:Nat}(h:JS j b0 b1 cl s)(b:k<16)(e:NP k b0 b1=al)(d:Ca qO s (PL.getD k .run) x s'):∃a,JS (j+1) (b0&&k != 5) (b1&&k != 6) a s':=by have f:=h.fits b e;obtain⟨a,sk,c⟩:=h.sk.ahl hG f d;rw[SU b e] at sk;exists a,sk.mono ∅,h.ph.ahl h.sk f d,c.trans h.gr,4,(Ca.eq2 h.eq d d).2;have:=d.ln;have g:il (PL.getD k .run)<=1:=(by cases PL.getD k .run <;> first|exact bA _|exact az _);have:=h.ll;lia
theorem JS.skip(h:JS j b0 b1 cl s):JS (j+1) b0 b1 cl s:=⟨h.sk.mono ∅,h.ph,h.gr,by have:=h.ll;lia,h.eq⟩
noncomputable def Qf(row:Str):Option (Nat×List V):=match oW.findIdx? (λz=>decide (z=(Txt.split row TX.lN).headD "")) with
 |none=>ae
 |some k=>(dA (Txt.split row TX.lN) (VQ.getD k 0)).map λus=>(k,us)
theorem VT(h:oW.findIdx? (λz=>decide (z=(Txt.split row TX.lN).headD ""))=ac k):k<14/\(Txt.split row TX.lN).headD "" = oW.getD k "":=by obtain⟨a,b,_⟩:=List.findIdx?_eq_some_iff_getElem.mp h;exists a,4;rw[ao,aa a];exact (c7 b).symm
theorem eW(h:Qf row=ae):kF ns rs s row 8:=by unfold Qf at h;cases e:oW.findIdx? (λz=>decide (z=(Txt.split row TX.lN).headD "")) with|none=>refine .word λk b z=>?_;have:=List.findIdx?_eq_none_iff.mp e (oW.getD k "") (by rw[ao,aa (show k<oW.length from b)];exact aD _);rw[b6 z] at this;cases this|some k=>rw[e] at h;obtain⟨a,c⟩:=VT e;exact .text k a c (by simpa using h)
theorem iI{k:Nat}{us:List V}(h:Qf row=ac (k,us))(b:m7 ns rs s k us i):kF ns rs s row i:=by unfold Qf at h;cases e:oW.findIdx? (λz=>decide (z=(Txt.split row TX.lN).headD "")) with|none=>rw[e] at h;cases h|some a=>rw[e] at h;obtain⟨g,j⟩:=VT e;have h:(dA (Txt.split row TX.lN) (VQ.getD a 0)).map (λus=>(a,us))=ac (k,us):=h;rw[Option.map_eq_some_iff] at h;obtain⟨f,c,d⟩:=h;cases d;exact .bad k us i g j c b
theorem JS.odd(h:JS j a b1 cl s)(g:j<=16):∀p∈SY,∃i,kF xW zO s p.1 i/\xh i=p.2:=by have hm:=h.hm;have c:=h.grp;have b:=h.ws;have e:cx s.cps<=6*cx s.ls:=h.ph.cps;have f:=h.ll;have d:∀k∈c4 [a,ag],(2:Int)≠(k:Nat):=(by cases a <;> decide);show ∀p∈[_,_,_,_,_,_,_,_,_,_,_,_,_,_,_,_,_,_,_,_,_,_,_,_,_,_,_,_,_,_,_,_,_,_,_,_,_,_,_,_,_,_,_,_],_;simp only[List.forall_mem_cons];exists ⟨(8),eW (↑_),↑_⟩,⟨(8),eW (↑_),↑_⟩,⟨(8),eW (↑_),↑_⟩,⟨(8),eW (↑_),↑_⟩,⟨(8),eW (↑_),↑_⟩,⟨(1),iI (k:=0) (us:=[.int 3,.int 9]) (↑_) (.ak5 3 9 (λz=>b3 z.2 (!_))),↑_⟩,⟨(2),iI (k:=0) (us:=[.int 0,.int 3]) (↑_) (.ak6 0 3 ⟨!_,!_⟩ (λz=>b3 z.2 (!_))),↑_⟩,⟨(2),iI (k:=1) (us:=[.int 3]) (↑_) (.round 3 (λz=>b3 z.2 (!_))),↑_⟩,⟨(2),iI (k:=2) (us:=[.int 7]) (↑_) (.rest 7 (λz=>b3 z.2 (!_))),↑_⟩,⟨(1),iI (k:=3) (us:=[.int 3,.int 3]) (↑_) (.apT 3 3 (λz=>b3 z.2 (!_))),↑_⟩,⟨(2),iI (k:=3) (us:=[.int 0,.int 3]) (↑_) (.apU 0 3 ⟨!_,!_⟩ (λz=>b3 z.2 (!_))),↑_⟩,⟨(2),iI (k:=4) (us:=[.int 3]) (↑_) (.Qe 3 (λz=>b3 z.2 (!_))),↑_⟩,⟨(8),eW (↑_),↑_⟩,⟨(8),eW (↑_),↑_⟩,⟨(3),iI (k:=5) (us:=[.int 3,.int 0]) (↑_) (.vP 3 0 (.inl (λz=>b3 z.2 (!_)))),↑_⟩,⟨(3),iI (k:=5) (us:=[.int 0,.int 2]) (↑_) (.vP 0 2 (.inr ⟨(0),1,by rw[b];rfl,d⟩)),↑_⟩,⟨(3),iI (k:=6) (us:=[.int 1,.int 0]) (↑_) (.lay 1 0 (.inr ⟨(1),5,by rw[b];rfl,2,.inr ⟨(0),!_,rfl⟩⟩)),↑_⟩,⟨(3),iI (k:=6) (us:=[.int 9,.int 9]) (↑_) (.lay 9 9 (.inl (λz=>b3 z.2 (!_)))),↑_⟩,⟨(8),eW (↑_),↑_⟩,⟨(4),iI (k:=7) (us:=[.int 4,.int 9]) (↑_) (.ak7 4 9 (λz=>by have:=z.2;rw[hm] at this;revert this;decide)),↑_⟩,⟨(1),iI (k:=7) (us:=[.int 0,.int 3]) (↑_) (.ak8 0 3 ⟨!_,by rw[hm];decide⟩ (λz=>b3 z.2 (!_))),↑_⟩,⟨(8),eW (↑_),↑_⟩,⟨(4),iI (k:=8) (us:=[.int 4,.fW]) (↑_) (.postC 4 (.fW) (λz=>by have:=z.2;rw[hm] at this;revert this;decide)),↑_⟩,⟨(4),iI (k:=8) (us:=[.int 0,.int 9]) (↑_) (.ak9 0 9 ⟨!_,by rw[hm];decide⟩ (λz=>by have:=z.2;rw[hm] at this;revert this;decide)),↑_⟩,⟨(5),iI (k:=8) (us:=[.int 0,.int 2]) (↑_) (.apart 0 2 ⟨!_,by rw[hm];decide⟩ ⟨!_,by rw[hm];decide⟩ (by rw[c];decide)),↑_⟩,⟨(5),iI (k:=8) (us:=[.int 3,.int 1]) (↑_) (.apart 3 1 ⟨!_,by rw[hm];decide⟩ ⟨!_,by rw[hm];decide⟩ (by rw[c];decide)),↑_⟩,⟨(8),eW (↑_),↑_⟩,⟨(8),eW (↑_),↑_⟩,⟨(8),eW (↑_),↑_⟩,⟨(6),iI (k:=9) (us:=[.int 99]) (↑_) (.copy 99 (λz=>by have:=z.2;lia)),↑_⟩,⟨(8),eW (↑_),↑_⟩,⟨(8),eW (↑_),↑_⟩,⟨(8),eW (↑_),↑_⟩,⟨(8),eW (↑_),↑_⟩,⟨(4),iI (k:=12) (us:=[.int 4]) (↑_) (.had 4 (λz=>by have:=z.2;rw[hm] at this;revert this;decide)),↑_⟩,⟨(8),eW (↑_),↑_⟩,⟨(7),iI (k:=13) (us:=[.int 99]) (↑_) (.letter 99 (λz=>by have:=z.2;lia)),↑_⟩,⟨(8),eW (↑_),↑_⟩,⟨(8),eW (↑_),↑_⟩,⟨(8),eW (↑_),↑_⟩,⟨(8),eW (↑_),↑_⟩,⟨(8),eW (↑_),↑_⟩,⟨(8),eW (↑_),↑_⟩,⟨(4),iI (k:=8) (us:=[.int 9,.int 0]) (↑_) (.postC 9 (.int 0) (λz=>by have:=z.2;rw[hm] at this;revert this;decide)),↑_⟩,λp z=>b3 z cN
theorem SL{cl:List (Nat×Nat)}(o:dS ns rs)(k:TB ns rs)(j:cl.length<=20)(e:∀c∈cl,c.1<cx ns/\c.2<3):SK ns rs (rs.map λr=>bV r.d.toNat ag) cl 0 (S0 ns rs cl):=by refine⟨(0),SZ o j e,az _,λg _ h a=>⟨4,Int.le_refl _⟩,λw f i b=>?_,λl z=>by cases z⟩;show ns.getD h 0<_;rw[ao,aa a];exact k.n _ (aD a);obtain⟨c,_,rfl⟩:=aF.mp f;cases b
theorem JS.zero:JS 0 ag ag Z2 (S0 xW zO Z2):=⟨SL qO hG (!_) (!_),er.zero,2,az _,⟨2,λ_=>.refl _,λ_=>mO,λ_=>mO⟩⟩
theorem Z4{ns:List Int}{rs cl:List (List Int)}(k1:∀n∈ns,0<=n/\n<10)(k2:∀r∈rs,∀n∈r,0<=n/\n<10)(k3:∀r∈cl,∀n∈r,0<=n/\n<10)(i:1<=cx ns)(h:cx ns<=12)(f:∀r∈rs,r.length=5)(e:∀r∈cl,r.length=2)(j:cx rs<=30)(d:cl.length<=30):uI ns rs cl:=by have c:∀n:Int,0<=n->n<10->TX.Wr n:=λn k g=>⟨k,Int.lt_trans g (↑_)⟩;exists λn a=>c n (k1 n a).1 (k1 n a).2,λr b n a=>c n (k2 r b n a).1 (k2 r b n a).2,λr b n a=>c n (k3 r b n a).1 (k3 r b n a).2,i,h,f,e,j,d
theorem ahP:∀p∈adv,∃i,Uy p.1 i/\xh i=p.2:=by show ∀p∈[_,_,_,_,_,_,_,_],_;simp only[List.forall_mem_cons];exists ⟨(8),.text (↑_) (↑_) (↑_),↑_⟩,⟨(0),.names [1,1] (↑_) (Z4 (!_) (!_) (!_) (!_) (!_) (!_) (!_) (!_) (!_)) (!_) (!_) (!_) (↑_),↑_⟩,⟨(0),.caller [1] 0 3 (↑_) (Z4 (!_) (!_) (!_) (!_) (!_) (!_) (!_) (!_) (!_)) (!_) (!_) (!_) (!_) (λz=>b3 z.2.2 (!_)),↑_⟩,⟨(0),.aeG [1,2] 0 1 0 1 1 (↑_) (Z4 (!_) (!_) (!_) (!_) (!_) (!_) (!_) (!_) (!_)) (!_) (!_) (!_) (↑_) (.cost (!_) (!_) (!_) (!_) (!_) (!_)),↑_⟩,⟨(0),.aeG [1,2] 0 2 1 1 1 (↑_) (Z4 (!_) (!_) (!_) (!_) (!_) (!_) (!_) (!_) (!_)) (!_) (!_) (!_) (↑_) (.out (!_) (!_) (!_) (!_)),↑_⟩,⟨(8),.text (↑_) (↑_) (↑_),↑_⟩,⟨(0),.caller [1] 1 0 (↑_) (Z4 (!_) (!_) (!_) (!_) (!_) (!_) (!_) (!_) (!_)) (!_) (!_) (!_) (!_) (λz=>b3 z.1.2 (!_)),↑_⟩,⟨(8),.text (↑_) (↑_) (↑_),↑_⟩,λp z=>b3 z cN
theorem ajV:∀p∈SY,p.1.cps.all (·<128)=ag/\p.1.length<=900:=↑_
theorem mem_getD{a:Type}{l:List a}{d:a}{k:Nat}(h:k<l.length):l.getD k d∈l:=by rw[ao,aa h];exact aD h
structure EF(K:af)(t:Ad)(X:am)(i:Nat):Prop where
 x:xC K X
 h:cD K (.ref X) (.ref t.gW)=ac ag
 is:∀j,j<9->bD K (.ref X) (.ref (Iz t j))=ac (decide (i=j))
 v:bD K (.ref X) (.type "ValueError")=ac ag
theorem Nw{t:Ad}(T:Txt K mg w t):∀i,i<9->EF K t (Iz t i) i
 |0,_=>⟨T.jO,T.Ir,T.aeg,T.Gh⟩
 |1,_=>⟨T.Vg,T.Iu,T.aeh,T.Gi⟩
 |2,_=>⟨T.Vi,T.Iv,T.aei,T.Gj⟩
 |3,_=>⟨T.Lk,T.J2,T.agt,T.Io⟩
 |4,_=>⟨T.Ri,T.Gk,T.aa6,T.EX⟩
 |5,_=>⟨T.acy,T.Ll,T.ai2,T.J1⟩
 |6,_=>⟨T.YQ,T.J3,T.agu,T.Ip⟩
 |7,_=>⟨T.Rk,T.Gm,T.aa7,T.EY⟩
 |8,_=>⟨T.vL,T.J4,T.agv,T.Iq⟩
 |_+9,z=>b3 z ∅
inductive Xi(K:af)(CT CD:am)(c:NC)(H:Hp)(v:V)(row:Str):Bool->Nat->Prop where
 |nD (i:Nat):Uy row i->Xi K CT CD c H v row ag i
 |say (i:Nat) (F:am->Prop) (p tp ln lr dk dx:am) (ns:List Int) (rs:List R5) (s:NS):v=.ref dk->H dk=ac (.ins CD dx [("net",.ref p)])->RN K CT c H F p tp ln lr ns rs s->row.cps.all (·<128)=ag->row.length<=900->kF ns rs s row i->Xi K CT CD c H v row al i
theorem kF.lt(h:kF ns rs s row i):i<9:=by cases h with|word=>decide|text=>decide|bad k a i _ _ _ b=>have:=b.lt;lia
theorem Xi.lt(h:Xi K CT CD c H v row b i):i<9:=by cases h with|nD _ h=>(rcases h.lt with h|h <;> lia)|say _ _ _ _ _ _ _ _ _ _ _ _ _ _ _ _ h=>exact h.lt
theorem Xi.or(h:Xi K CT CD c H v row b i):(b=ag/\Uy row i)∨(b=al/\∃(F:am->Prop)(p d g e a f:am)(ns:List Int)(rs:List R5)(s:NS),v=.ref a/\H a=ac (.ins CD f [("net",.ref p)])/\RN K CT c H F p d g e ns rs s/\row.cps.all (·<128)=ag/\row.length<=900/\kF ns rs s row i):=by cases h with|nD i m=>exact .inl ⟨2,m⟩|say i F p d g e a f ns rs s l j q k o n=>exact .inr ⟨2,F,p,d,g,e,a,f,ns,rs,s,l,j,q,k,o,n⟩
def No(K:af)(C:am):TE:=hE (sg K) (eU (E7 4) (eU (tC (.ref C)) xy))
def kt(K:af)(H:Hp)(l:am)(xs:List (List V)):Prop:=∃qs:List am,H l=ac (.lst (qs.map ci))/\gI K H qs xs
theorem ahQ{n:Nat}{l:List (Option Nat)}{g:TG}{z:TT}{te:TE}{u:L2.St}{v:Hp->Prop}{d:Hp}{a ea C:am}{J:It}(B:d ea=ac (EU ea C))(P:Nat->List V->Hp->Prop)(j:d a=ae)(go:∀i H,i<n->aB d H->J.go i H)(stop:∀H,aB d H->J.stop n H)(A:P 0 [] (upd d a (.lst [])))(step:∀i ys H,i<n->aB d H->H a=ac (.lst ys)->P i ys H->∀x k,J.Mc i H x k->g x (fU l u) k λf r=>z f r λb o=>if b=ag then te f o λy q=>∃xs,q a=ac (.lst xs)/\xs.length<a9 /\∃c,c<n-i/\CW d a n P (i+1) c (upd q a (.lst (xs++[y]))) else ∃c,c<n-i/\CW d a n P (i+1) c o)(t:∀ys H,aB d H->H a=ac (.lst ys)->P n ys H->v H) :∃W:Nat->Nat->Hp->Prop,(∃m,W 0 m (upd d a (.lst [])))/\∀i m H,W i m H->H ea=ac (EU ea C) /\((J.stop i H/\v H)∨(J.go i H/\∀x k,J.Mc i H x k->g x (fU l u) k λf r=>z f r λb o=>if b=ag then te f o λy q=>∃xs,q a=ac (.lst xs)/\xs.length<a9 /\∃c,c<m/\W (i+1) c (upd q a (.lst (xs++[y]))) else ∃c,c<m/\W (i+1) c o)):=by exists CW d a n P,⟨n,2,bA _,aB.new j,[],aq,A⟩,4;rintro i m H ⟨rfl,D,s,ys,w,p⟩;exists s _ _ B,4;by_cases h:i<n;exact .inr ⟨go i H h s,step i ys H h s w p⟩;·have e:i=n:=∅;subst e;exact .inl ⟨stop H s,t ys H s w p⟩
def markL(K:af)(t:Ad):List (Str×Nat)->TA
 |[]=>xy
 |p::r=>eU (hQ (eU (tC (.str p.1)) (eU (No K (Iz t p.2)) xy))) (markL K t r)
noncomputable abbrev L4(i:Nat)(ps:List (Str×Nat)):List (List V):=ps.map λp=>[.str p.1,.bl (decide (i=p.2))]
theorem Ij{t:Ad}{i:Nat}{ea:am}(g:EF K t (Iz t i) i):∀(ps:List (Str×Nat)){d:L2.St}{H:Hp}{Q:List V->Hp->Prop},(∀p∈ps,p.2<9)->d[4]?=ac (ac (.ref ea))->H ea=ac (EU ea (Iz t i))->(∀qs c,aB H c->gI K c qs (L4 i ps)->Q (qs.map ci) c)->markL K t ps d H Q
 |[],_,H,_,_,_,_,k=>k [] H (aB.refl _) ⟨2,λi q x e=>by cases e⟩
 |p::r,d,H,Q,s,b,l,k=>by
  exists _,b,ea,Iz t i,35,l,g.x,.inr ⟨12⟩,g.is p.2 (s p aP),c8,λq hq=>?_;have u:=aB.new (o:=.tup [cm p.1,.bl (decide (i=p.2))]) hq;refine Ij g r (λp f=>s p (aR _ f)) b (u _ _ l) λqs c j n=>?_;have v:=j _ _ (aq (H:=H) (a:=q) (o:=.tup [cm p.1,.bl (decide (i=p.2))]));refine k (q::qs) c (u.trans j) ⟨by show _+1=_+1;rw[n.len],λi a x m h=>?_⟩;cases i with
  |zero=>cases m;cases h;exact dY.of v
  |succ i=>exact n.at' i a x m h
theorem Qg{k:Nat}{j:L2.St}{t:TA}(l:j[k]?=ac (ac (.ref a)))(i:∀{Q:List V->Hp->Prop},(∀us c,aB H c->gI K c us ys->Q (us.map ci) c)->t j H Q)(h:kt K H a xs)(hl:xs.length+ys.length<=1000)(z:∀b c,aB H c->kt K c b (xs++ys)->Q (.ref b) c):eT gc (E7 k) (S8 t) j H Q:=by exists _,l,i λus r v s=>?_;have q:us.length=ys.length:=s.len;exists by rw[ah,q];exact uL ∅,λb w=>?_;have f:=aB.new (o:=.lst (us.map ci)) w;have e:=aq (H:=r) (a:=b) (o:=.lst (us.map ci));generalize upd r b (.lst (us.map ci))=H2 at f e;obtain⟨g,A,p⟩:=h;have m:=v.trans f;have u:g.length=xs.length:=p.len;exists a,b,52,m _ _ A,e,by rw[ah,ah,q,u];exact uL hl,λd y=>?_;have n:=aB.new (o:=.lst (g.map ci++us.map ci)) y;exact z d _ (m.trans n) ⟨g++us,by rw[aq,bx],(p.mono λb x=>(m.trans n).iA).app (s.mono λb x=>(f.trans n).iA)⟩
noncomputable def tG:List (Str×Nat):=[("text",8),("town",0),("house",1),("group",2),("wire",3),("caller",4),("apart",5),("copy",6),("letter",7)]
theorem aeK:∀i,i<9->(tG.filter λp=>decide (i=p.2)).map (·.1)=[xh i]:=by have:∀i:Fin 9,(tG.filter λp=>decide (i.1=p.2)).map (·.1)=[xh i]:=(by decide +kernel);exact λi h=>this ⟨i,h⟩
theorem ahR:∀i,i<9->(xh i).length<=10:=by have:∀i:Fin 9,(xh i).length<=10:=(by decide +kernel);exact λi h=>this ⟨i,h⟩
theorem join_one(z x:Str):Txt.join z [x]=x:=by refine TX.aaR ?_;rw[TX.join_eq,TX.xD];rfl
def ajW{k l:L2.St->Hp->VK->XK->Prop}{D X:am}{i:Nat}{ts:am->TS}{d:en}{g:L2.St}{H:Hp}{b:Bool}(j:g[2]?=ac (ac (.bl b)))(h:∀(o:VK)(n:XK),(∀c,aB H c->n (.ref X) ae c)->(if b=ag then k else l) g H o n)(f:∀c,aB H c->cD K (.ref X) (.ref D)=ac ag/\∀ea,c ea=ae->ts ea {nx:=λa e=>d.nx (a.set i ae) e,rt:=d.rt,bk:=λa e=>d.bk (a.set i ae) e,ct:=λa e=>d.ct (a.set i ae) e} (g.set i (ac (.ref ea))) (upd c ea (EU ea X))):rv K (tB (E7 2)) k l D i ts d g H :=⟨_,j,b,2,h _ _ λc m=>⟨X,2,(f c m).1,(f c m).2⟩⟩
inductive OQ(K:af)(CT CD:am)(c:NC)(vs:List V)(H:Hp)(Q:VK)(E:XK):Prop
 |mk(v:V)(row:Str)(b:Bool)(i:Nat):vs=[v,.str row,.bl b]->Xi K CT CD c H v row b i->(∀H',aB H H'->Q (.str (xh i)) H')->OQ K CT CD c vs H Q E
theorem Ep(T:Txt K mg w t):bu P w K mg base iJ 9 t.vF t.Af ["_law_desk","_law_row","_law_town_here"] (OQ K t.aK t.nS (nc t)):=by refine T.Ah.F.jB iD λH Q E hr h=>?_;·obtain⟨v,row,b,i,rfl,R,k⟩:=h;exists _,(aj (sS 3 iD au) (aj (aiT (i:=4) (j3 (pv 2)) (afI T.qk.M (PK T) (hr.mono (!_)) rfl T.ags T.qk.B .nil rfl (dg (pv 1))) (afH (pv 0) T.J0 T.uu.m (XD T) (hr.mono (!_)) T.uu.B .nil rfl (dg (pv 1))) rfl T.YM T.YN iD.nd rfl rfl rfl rfl rfl (λD=>(aj (sS 5 iD (cu (dX (bE (dX au (cB (j4 K rfl) T.iH boot_isinstance (dX (pv 4) (cF rfl T.vK (v:=.ref t.eB) rfl))))) (bE (dX au (cB (j4 K rfl) T.iH boot_isinstance (dX (pv 4) (cF rfl T.jN (v:=.ref t.dD) rfl)))))))) (aj (sS 5 iD (fc fX (pv 5) (cu (dX (bE (dX au (cB (j4 K rfl) T.iH boot_isinstance (dX (pv 4) (cF rfl T.Vf (v:=.ref t.eN) rfl))))) (bE (dX au (cB (j4 K rfl) T.iH boot_isinstance (dX (pv 4) (cF rfl T.Vh (v:=.ref t.dc) rfl))))))))) (aj (sS 5 iD (fc fX (pv 5) (cu (dg (bE (dX au (cB (j4 K rfl) T.iH boot_isinstance (dX (pv 4) (cF rfl T.Lj (v:=.ref t.fq) rfl))))))))) (aj (sS 5 iD (fc fX (pv 5) (cu (dX (bE (dX au (cB (j4 K rfl) T.iH boot_isinstance (dX (pv 4) (cF rfl T.Rh (v:=.ref t.cZ) rfl))))) (bE (dX au (cB (j4 K rfl) T.iH boot_isinstance (dX (pv 4) (cF rfl T.acw (v:=.ref t.jC) rfl))))))))) (aj (sS 5 iD (fc fX (pv 5) (cu (dX (bE (dX au (cB (j4 K rfl) T.iH boot_isinstance (dX (pv 4) (cF rfl T.YO (v:=.ref t.iN) rfl))))) (bE (dX au (cB (j4 K rfl) T.iH boot_isinstance (dX (pv 4) (cF rfl T.Rj (v:=.ref t.eV) rfl))))))))) (aX (sS 3 iD (og K rfl cX Ce Cd (agi K rfl) au (dg (fc fX (agh (kO iD ["_law_mark"] [ae]) rfl (pv 5) (λ_ _ _ _=>by exact (gS 0 OY)) (λ_ _ _ _=>by exact (xB (j3 (yT K (pv 0) aC)))) (λ_ _ _ _=>by exact (yT K (pv 0) aC))) (fc alF (cu (dg au)) (eK UD (by rfl) T.acB boot_int (dg (nr (cB (j4 K rfl) T.iH boot_isinstance (dX (pv 4) (aid rfl T.WE (by rfl) (v:=.ty "ValueError") rfl))))))))))))))))))) (oR (pv 3)))),4;left;have r:=Nw T i R.lt;refine cy λNx gq=>?_;refine gq _ _ ?_;refine cy λNx gq=>?_;refine ajW (X:=Iz t i) (b:=b) rfl (λQ' E' S=>?_) (λH3 s3=>⟨r.h,λD XM=>?_⟩);rcases R.or with ⟨eb,od⟩|⟨eb,F,p,tp,ln,lr,I,dx,ns,rs,s,ev,mu,N,hz,O,od⟩;rw[b4 eb];exists 1,λI dx nd L3 ne=>?_;have t3:aB H (upd (upd H dx (.own I)) I (.ins t.nS dx [])):=(aB.new L3).trans (aB.new (by rw[aI (bS ne)];exact nd));exists I,row,i,2,od,λH' s'=>S H' (t3.trans s');rw[b5 (by rw[eb];exact aN),ev];exists 1,I,5,mu,7,F,p,tp,ln,lr,I,dx,ns,rs,s,row,i,2,mu,N,hz,O,od,S;have he:=aq (H:=H3) (a:=D) (o:=EU D (Iz t i));have s4:=s3.trans (aB.new (o:=EU D (Iz t i)) XM);generalize upd H3 D (EU D (Iz t i))=H4 at s4 he;refine cy λg f=>?_;refine Ij (K:=K) r (tG.take 2) (!_) rfl he λc H5 s5 h5=>⟨4,λl5 hl5=>f _ _ ?_⟩;rw[ah,h5.len];show 2<=a9;decide;have u6:=aB.new (o:=.lst (c.map ci)) hl5;have h6:kt K (upd H5 l5 (.lst (c.map ci))) l5 (L4 i (tG.take 2)):=⟨c,aq,h5.mono λb x=>u6.iA⟩;have A:=u6 _ _ (s5 _ _ he);have z6:=s4.trans (s5.trans u6);generalize upd H5 l5 (.lst (c.map ci))=H6 at h6 A z6;refine cy λg f=>?_;refine Qg (K:=K) (ys:=L4 i [("house",1),("group",2)]) rfl (λz=>Ij r [("house",1),("group",2)] (!_) rfl A z) h6 (by show 4<=1000;decide) λl7 H7 s7 h7=>f _ _ ?_;have Y:=s7 _ _ A;have z7:=z6.trans s7;refine cy λg f=>?_;refine Qg (K:=K) (ys:=L4 i [("wire",3)]) rfl (λz=>Ij r [("wire",3)] (!_) rfl Y z) h7 (by show 5<=1000;decide) λl8 H8 s8 h8=>f _ _ ?_;have he8:=s8 _ _ Y;have z8:=z7.trans s8;refine cy λg f=>?_;refine Qg (K:=K) (ys:=L4 i [("caller",4),("apart",5)]) rfl (λz=>Ij r [("caller",4),("apart",5)] (!_) rfl he8 z) h8 (by show 7<=1000;decide) λl9 H9 s9 h9=>f _ _ ?_;have he9:=s9 _ _ he8;have z9:=z8.trans s9;refine cy λg f=>?_;refine Qg (K:=K) (ys:=L4 i [("copy",6),("letter",7)]) rfl (λz=>Ij r [("copy",6),("letter",7)] (!_) rfl he9 z) h9 (by show 9<=1000;decide) λZM XJ Z9 Zd=>f _ _ ?_;have W:=Z9 _ _ he9;have z10:=z9.trans Z9;obtain⟨c,hm,tm⟩:=Zd;have tm:gI K XJ c (L4 i tG):=tm;have eq:c.length=9:=tm.len;have J:=R.lt;exists 7,ZM,Iz t i,2,⟨_,bH.of hm⟩,λacc q=>?_;refine ahQ (n:=(c.map ci).length) (C:=Iz t i) W (λj ys _=>ys=((tG.take j).filter λp=>decide (i=p.2)).map λp=>cm p.1) q (vY (bH.of hm)) (lK (bH.of hm)) rfl ?_ ?_;rintro j ys UQ hj y hy rfl x d ⟨rfl,hx⟩;have hx:=hx _ (y.seq (bH.of hm));have hj':j<c.length:=(by rw[ah] at hj;exact hj);have U:j<tG.length:=(by show j<9;lia);rw[ak,aa hj'] at hx;cases hx;have ht:dY K d c[j] [.str tG[j].1,.bl (decide (i=tG[j].2))]:=y.iA (tm.at' j _ _ (aa hj') (by rw[ak,aa U];rfl));have et:tG.take (j+1)=tG.take j++[tG[j]]:=(by rw[i7,aa U];rfl);exists 1,c[j],8,ht,24;exists 14;by_cases ei:i=tG[j].2;rw[b6 ei];refine cS ⟨1,c[j],8,ht,24⟩;refine gG q hj y hy (by rw[ah];exact bK (bM _ _) (by rw[bT];exact bK (pF _ _) (!_))) ?_;rw[et,gp,bx,dm (by rw[b6 ei])];rfl;rw[c5 ei];refine dh ?_;refine oz hj y hy ?_;rw[et,gp,dw (by rw[c5 ei];exact aN)];simp;rintro ys UQ y hy rfl;have hw:((tG.take (c.map ci).length).filter λp=>decide (i=p.2)).map (λp=>cm p.1)=[cm (xh i)]:=(by rw[ah,eq];have:=c6 (List.map cm) (aeK i J);rw[cz] at this;exact this);rw[hw] at hy;have ats:=y _ _ W;exists gN,λu h12=>?_;have l:=aB.new (o:=.lst [cm "-"]) h12;have e12:=aq (H:=UQ) (a:=u) (o:=.lst [cm "-"]);generalize upd UQ u (.lst [cm "-"])=d at l e12;exists 1,D,Iz t i,35,l _ _ ats,r.x,.inl ⟨22⟩,r.v,1,.inr ⟨1,u,(0),12,e12,!_,!_,(by show 1*0<=a9;decide),λe h13=>?_⟩;have G:=aB.new (o:=.lst []) h13;have Z:=aq (H:=d) (a:=e) (o:=.lst []);show gc _ _ (upd d e (.lst [])) _;generalize upd d e (.lst [])=H13 at G Z;exists acc,e,52,G _ _ (l _ _ hy),Z,gN,λL h14=>?_;have u14:=aB.new (o:=.lst [cm (xh i)]) h14;have e14:=aq (H:=H13) (a:=L) (o:=.lst [cm (xh i)]);exists _,L,[xh i],22,bH.of e14,44;have:=ahR i J;show (xh i).length+0+1*1<=_;lia;rw[join_one];exact gq _ _ ⟨1,k _ (z10.trans (y.trans (l.trans (G.trans u14))))⟩
theorem rk(h:NW K c CT H F p tp ln lr xW zO s)(b:JS j b0 b1 cl s):RN K CT c H F p tp ln lr xW zO s:=by obtain⟨D,a,_⟩:=b.sk;exists h,qO,a.ok,by rw[a.hm,a.gr,ah,ah]
section
variable{H H':Hp}{l b:am}{o:HO}
theorem uM:aB (dy H l) H:=λb o e=>by
 unfold dy at e;split at e
 ·cases e
 ·exact e
theorem NQ(s:aB H H'):aB (dy H l) (dy H' l):=λb o e=>by
 unfold dy at e ⊢;split at e
 ·cases e
 ·rename_i n;rw[b5 n];exact s _ _ e
theorem Mb:dy (upd H l o) l=dy H l:=funext λb=>by
 unfold dy;split
 ·rfl
 ·rename_i n;exact aI n
theorem aeL(h:H l=ae):aB H (dy H l):=λb o e=>by
 unfold dy;rw[b5 λz=>by rw[z,h] at e;cases e];exact e
end
theorem ahS:∀k,k<16->fM.getD k "" = (PL.getD k .run).text:=by intro k a;rw[<- ahO,ao,ao,ak,aa (show k<PL.length from a)];rfl
theorem Mo{k:Nat}(h:k<16):decide (cm (fM.getD k "")=cm "lay 0 1")=(k==4):=by have:∀k:Fin 16,decide (cm (fM.getD k "")=cm "lay 0 1")=(k.1==4):=(by decide +kernel);exact this ⟨k,h⟩
theorem pu{k:Nat}(h:k<16):decide (cm (fM.getD k "")=cm "fall 0 0")=(k==5):=by have:∀k:Fin 16,decide (cm (fM.getD k "")=cm "fall 0 0")=(k.1==5):=(by decide +kernel);exact this ⟨k,h⟩
theorem pp{k:Nat}(h:k<16):decide (cm (fM.getD k "")=cm "fall 2 0")=(k==6):=by have:∀k:Fin 16,decide (cm (fM.getD k "")=cm "fall 2 0")=(k.1==6):=(by decide +kernel);exact this ⟨k,h⟩
theorem ajY{k:Nat}(h:k<16):(if Txt.startswith (fM.getD k "") "post" = ag then (1:Int) else 0)=(il (PL.getD k .run):Nat):=by have:∀k:Fin 16,(if Txt.startswith (fM.getD k "") "post" = ag then (1:Int) else 0)=(il (PL.getD k .run):Nat):=(by decide +kernel);exact this ⟨k,h⟩
structure LQ(K:af)(CT CD:am)(c:NC)(p tp ln lr dk dx ls a lc:am)(cs xs:List Int)(A:Hp)(F:am->Prop)(s:NS)(b0 b1:Bool):Prop where
 cj:dH K c A F p tp xW.length s
 nD:dR K CT (dy (Off A F) ls) tp ln lr xW zO
 aeM:dy (Off A F) ls dk=ac (.ins CD dx [("net",.ref p)])
 Hv:Off A F ls=ac (.lst [cn b0,.bl b1])
 scr:bH K (dy (Off A F) ls) a (cs.map cf)
 cell:bH K (dy (Off A F) ls) lc (xs.map cf)
section
variable{CT CD:am}{c:NC}{p tp ln lr dk dx ls a lc:am}{cs xs:List Int}{i j:Nat}{A A':Hp}{F F':am->Prop}{s s':NS}{b0 b1:Bool}{cl cl':List (Nat×Nat)}
theorem LQ.nw(h:LQ K CT CD c p tp ln lr dk dx ls a lc cs xs A F s b0 b1):NW K c CT A F p tp ln lr xW zO s:=by have T:=h.nD.mono uM;obtain⟨⟨g,d⟩,e,i,b,f⟩:=id T;exists h.cj,T.mono cK,(vv d).1,(vv e).1,(vv b).1
theorem LQ.mono(h:LQ K CT CD c p tp ln lr dk dx ls a lc cs xs A F s b0 b1)(e:aB A A'):LQ K CT CD c p tp ln lr dk dx ls a lc cs xs A' F s b0 b1:=by have O:=Ft (F:=F) e;have b:=NQ (l:=ls) O;exists h.cj.mono e,h.nD.mono b,b _ _ h.aeM,O _ _ h.Hv,b.seq h.scr,b.seq h.cell
theorem LQ.step(h:LQ K CT CD c p tp ln lr dk dx ls a lc cs xs A F s b0 b1)(st:Step A F A' F')(N:dH K c A' F' p tp xW.length s'):LQ K CT CD c p tp ln lr dk dx ls a lc cs xs A' F' s' b0 b1:=by have O:=Cw st;have b:=NQ (l:=ls) O;exists N,h.nD.mono b,b _ _ h.aeM,O _ _ h.Hv,b.seq h.scr,b.seq h.cell
theorem LQ.set(h:LQ K CT CD c p tp ln lr dk dx ls a lc cs xs A F s b0 b1):LQ K CT CD c p tp ln lr dk dx ls a lc cs xs (upd A ls (.lst [cn d0,.bl d1])) F s d0 d1:=by have nf:=(vv h.Hv).1;have b:Off (upd A ls (.lst [cn d0,.bl d1])) F=upd (Off A F) ls (.lst [cn d0,.bl d1]):=BM nf;exists h.cj.past h.Hv tX,by rw[b,Mb];exact h.nD,by rw[b,Mb];exact h.aeM,by rw[b,aq],by rw[b,Mb];exact h.scr,by rw[b,Mb];exact h.cell
def LQ.ajZ(h:LQ K CT CD c p tp ln lr dk dx ls a lc cs xs A F s b0 b1):A dk=ac (.ins CD dx [("net",.ref p)]):=cK _ _ (uM _ _ h.aeM)
end
def XO(z:Str):Prop:=∀c,128<=c->c∉TX.cs z
theorem Z5{l:List Str}(e:XO z)(h:∀x∈l,XO x):XO (Txt.join z l):=λc a=>by
 rw[TX.join_eq,TX.xD];refine TX.Mw (e c a) λp b=>?_;obtain⟨x,d,rfl⟩:=aF.mp b;exact h x d c a
theorem Er{n:Int}(h:0<=n):XO (TX.num n):=λc a z=>by
 have:=TX.HL h c z
 lia
theorem NR(h:(TX.cs z).all (·<128)=ag):XO z:=λc b a=>by
 have:=iQ.mp h c a
 simp only[decide_eq_true_eq] at this;lia
theorem XG{vs:List V}(h:∀v∈vs,XO (eH v)):XO (C7 vs):=by unfold C7;split;exact NR (↑_);refine Z5 (NR (↑_)) λx b=>?_;obtain⟨v,a,rfl⟩:=aF.mp b;exact h v a
theorem Z6(l:List Nat):XO (C7 (bN l)):=XG λv a=>by
 obtain⟨k,_,rfl⟩:=aF.mp a;exact Er ∅
theorem ahT(d:k6):XO (C7 d.vs):=by have st:∀z:Str,(TX.cs z).all (·<128)=ag->XO (eH (.str z)):=λz h=>NR h;have a:∀k:Nat,XO (eH (.int (k:Int))):=λk=>Er ∅;refine XG ?_;cases d <;> simp only[k6.vs,List.forall_mem_cons] <;> first|exact⟨st _ (↑_),a _,λv z=>b3 z cN⟩|exact⟨st _ (↑_),a _,a _,λv z=>b3 z cN⟩|exists st _ (↑_),a _,a _,a _,λv z=>b3 z cN
theorem aj0(h:Ay n m r):XO (C7 (cO r)):=by refine XG ?_;simp only[cO,List.forall_mem_cons];exists Er h.hd,Er h.co,Er h.ho.1,4,λv z=>b3 z cN;by_cases a:r.by_<0;rw[br a];exact NR (↑_);rw[be ∅];exact Er ∅
theorem ahU(j:SD xW zO bs cl D s):∀c∈du n,Ca qO s c a s->XO a:=by
 have row:∀h g,h<3->g<3->Ca qO s (.row h g) a s->XO a:=λh g i e d=>(by obtain⟨_,rfl⟩:=d;exact aj0 (j.ok.fit g e h i));have Qe:∀g,Ca qO s (.Qe g) a s->XO a:=λg d=>(by obtain⟨_,os,_,rfl⟩:=d;exact Z6 os);have had:∀g,Ca qO s (.had g) a s->XO a:=λg d=>(by obtain⟨_,rfl⟩:=d;exact Z6 _);have rest:Ca qO s (.rest 0) a s->XO a:=λd=>(by obtain⟨_,y,_,rfl⟩:=d;cases y <;> exact NR (↑_));have b:Ca qO s .flying a s->XO a:=λd=>(by obtain⟨_,rfl⟩:=d;exact Er ∅);intro c hc;rcases bh.mp hc with hc|hc;·simp only[NO,aM,cN,or_false] at hc;rcases hc with rfl|rfl|rfl|rfl|rfl|rfl|rfl|rfl|rfl|rfl|rfl|rfl|rfl|rfl|rfl|rfl <;> first|exact row _ _ (!_) (!_)|exact Qe _|exact had _|exact rest|exact b
 obtain⟨k,m,rfl⟩:=aF.mp hc;rintro⟨_,l,_,rfl⟩;refine Z5 (NR (↑_)) λx f=>?_;obtain⟨d,_,rfl⟩:=aF.mp f;exact ahT d
theorem WP(h:Told qO s (du (cx s.ls)) as)(g:JS j b0 b1 cl s):bi (as.map .str)=ag:=by obtain⟨D,k,_⟩:=g.sk;refine SV λz f=>?_;obtain⟨i,d⟩:=m9 f;have b:=(ai.mp d).1;have a:i<(du (cx s.ls)).length:=h.1▸b;have A:=ahU k _ (aD a) (h.2 i _ _ (aa a) d);rw[<- Array.all_toList,iQ];intro c e;rw[decide_eq_true_eq];exact Nat.lt_of_not_le λq=>A c q e
theorem VU:∀as:List Str,bb (as.map .str)=0
 |[]=>rfl
 |a::as=>by
  show max 0 (bb (as.map .str))=0;rw[VU as];rfl
theorem abJ(as:List Str):(PyData.list (as.map .str)).depth<=64:=by show bb (as.map .str)+1<=64;rw[VU];decide
theorem Z7:∀as:List Str,PyData.eqvAll (as.map .str) (as.map .str)=ag
 |[]=>rfl
 |a::as=>by
  show ((a==a)&&PyData.eqvAll (as.map .str) (as.map .str))=ag;rw[Z7 as,beq_self_eq_true];rfl
def ahV(as:List Str):PyData.eqv (.list (as.map .str)) (.list (as.map .str))=ag:=Z7 as
inductive mi(K:af)(vs:List V)(H:Hp)(Q:VK)(E:XK):Prop
 |mk(a:am)(ns:List Int):vs=[.ref a]->bH K H a (ns.map cf)->cx ns<=63->(∀H',Q (.bl ag) H')->mi K vs H Q E
theorem WF(T:Txt K mg w t):bu P w K mg base iJ 12 t.YI t.YJ ["_law_script"] (mi K):=by refine T.ago.F.jB rY λH Q E M h=>?_;·obtain⟨a,cs,rfl,hS,hlen,k⟩:=h;exists _,(aj (sS 1 rY au) (aj (sS 2 rY (cI T.qk (SI T) M T.ags (dg (fc Qm (pv 1) au)))) (aj (sS 3 rY aC) (aj (sS 4 rY (cu (dX IB IB))) (aj (fS (dZ (fc fX (cu (dX aC aC)) (iY ow (pv 0) kX (jQ aC)))) (gT 5 rY) (aj (sS 6 rY (cG (aeH T) M T.YK (dg (pv 5)))) (aj (sS 7 rY (ut (qE xj (pv 6) au) (ut (E9 (qE xj (pv 6) au) (JA (nr (xL (pv 4) aC)))) (JA (E9 (qE xj (pv 6) au) (JA (nr (xL (pv 4) aC)))))))) (aj (bY (g9 (j3 (pv 7))) (aj (cP (cM (pv 2) T.J0 T.uu (OP T) M (dg (pv 6)))) (aj (x5 (i:=3) rY.nd rfl (Or.inl rfl) (eK UD (by rfl) T.acB boot_int (dg (mX cX PySem.F.slot_str_startswith PySem.F.type_str_startswith Tf (pv 6) (dg au)))) x4) (aj (Fb (E9 (xL (pv 4) aC) (JA (qE lJ (pv 6) au))) (Mi (pv 4) aC dC)) (aX (Fb (E9 (xL (pv 4) aC) (JA (qE lJ (pv 6) au))) (Mi (pv 4) aC dC)))))) bq) (aj (Fb (cG (ahE T) M T.acv (dg (fc Hm (pv 5) aC))) (nn (n:=2) rfl (Cf (gT 8 rY) (Cf (gT 9 rY) VY)))) (aj (sS 10 rY (cG (S1 T) M T.MT (dX (pv 2) (pv 3)))) (aj (bY (PW.pt (XS (qT lJ (cG (Ep T) M T.Ah (KO (pv 2) (pv 8) IB)) (pv 9)) (Qj (qT lJ (cG (Ep T) M T.Ah (KO (pv 2) (pv 8) IB)) (pv 9))))) oB bq) (aX (bY (qT xb (cG (S1 T) M T.MT (dX (pv 2) (pv 3))) (pv 10)) oB bq))))))))) (aj (Fb (cG (aeI T) M T.YL (dg (fc Hm (cG (Xf T) M T.Om (dX (pv 0) aC)) aC))) (nn (n:=2) rfl (Cf (gT 11 rY) (Cf (gT 9 rY) VY)))) (oR (qE xj (cG (Ep T) M T.Ah (KO (pv 2) (pv 11) IB)) (pv 9))))))))),4;left;refine cy λNx gq=>?_;refine gq _ _ ?_;refine cy λNx gq=>?_;exists 152,↑_,4;refine λC S nd L3 ne=>?_;have t3:aB H (upd (upd H S (.own C)) C (.ins t.nS S [])):=(aB.new L3).trans (aB.new (by rw[aI (bS ne)];exact nd));exists C,S,xW,zO,Z2,by rw[<- Xt];rfl,aq,NA,qO,!_,!_,λF p tp ln lr H3 N1 T1 mu kp=>⟨2,gq _ _ ?_⟩;have S3:aB H (Off H3 F):=λb v e=>kp b v (t3 b v e) (aJ e nd);have hS3:=S3.seq hS;have hTd:Off H3 F C≠ae:=(by rw[mu];exact λz=>by cases z);refine cy λNx gq=>?_;refine gq _ _ ?_;refine cy λNx gq=>?_;exists c8,λls hls=>gq _ _ ?_;have u4:=aB.new (o:=.lst [cn ag,.bl ag]) hls;have S6:=aq (H:=H3) (a:=ls) (o:=.lst [cn ag,.bl ag]);generalize upd H3 ls (.lst [cn ag,.bl ag])=H4 at u4 S6;have nFs:¬F ls:=λz=>(by obtain⟨o',e⟩:=N1.there z;rw[hls] at e;cases e);refine cy λNx gq=>?_;exists c8,λl5 h5=>?_;have u5:=aB.new (o:=.lst [cf 4,.int 9]) h5;have e5:=aq (H:=H4) (a:=l5) (o:=.lst [cf 4,.int 9]);generalize upd H4 l5 (.lst [cf 4,.int 9])=H5 at u5 e5;have hS5:=u5.seq (u4.seq (cK.seq hS3));exists 37,a,1,hS5,λl6 h6=>?_;have ec:Aw (cs.map cf) ae (ac 14)=(cs.take 14).map cf:=(alW (cs.map cf) 14).trans List.map_take.symm;rw[ec];have u6:=aB.new (o:=.lst ((cs.take 14).map cf)) h6;have e6:=aq (H:=H5) (a:=l6) (o:=.lst ((cs.take 14).map cf));generalize upd H5 l6 (.lst ((cs.take 14).map cf))=H6 at u6 e6;have hcl:(cs.take 14).length<=14:=(by rw[bT];lia);exists l5,l6,52,u6 _ _ e5,e6,(by rw[ah];show 2+_<=_;exact uL ∅),λY h7=>?_;have u7:=aB.new (o:=.lst (([4,9]++cs.take 14).map cf)) h7;have e7:=aq (H:=H6) (a:=Y) (o:=.lst (([4,9]++cs.take 14).map cf));show mI K _ _ (upd H6 Y (.lst (([4,9]++cs.take 14).map cf)));generalize upd H6 Y (.lst (([4,9]++cs.take 14).map cf))=H7 at u7 e7;have s37:=((u4.trans u5).trans u6).trans u7;have N7:=N1.mono s37;have O7:aB (Off H3 F) (Off H7 F):=Ft s37;have T7:=T1.mono O7;have SJ:=O7 _ _ mu;have hS7:=O7.seq hS3;have nF:∀{b},H3 b=ae->¬F b:=λe z=>(by obtain⟨o',y⟩:=N1.there z;rw[e] at y;cases y);have ap4:Off H7 F ls=ac (.lst [cn ag,.bl ag]):=yt nFs ((u5.trans (u6.trans u7)) _ _ S6);have atw:bH K (Off H7 F) Y (([4,9]++cs.take 14).map cf):=bH.of (yt (nF ((u4.trans (u5.trans u6)).free h7)) e7);have nz:Off H3 F ls=ae:=(by unfold TW.Off;split;rfl;exact hls);have Z:aB (Off H3 F) (dy (Off H7 F) ls):=(aeL nz).trans (NQ O7);have ap5:bH K (dy (Off H7 F) ls) Y (([4,9]++cs.take 14).map cf):=(by refine bH.of ?_;unfold dy;rw[b5 λz=>?_];exact yt (nF ((u4.trans (u5.trans u6)).free h7)) e7;rw[z,(u5.trans u6) _ _ S6] at h7;cases h7);have L0:LQ K t.aK t.nS (nc t) p tp ln lr C S ls a Y cs ([4,9]++cs.take 14) H7 F (S0 xW zO Z2) ag ag:=⟨N7,T1.mono Z,Z _ _ mu,ap4,Z.seq hS3,ap5⟩;have hxl:([4,9]++cs.take 14).length<=16:=(by rw[av];show 2+_<=16;lia);generalize [4,9]++cs.take 14=xs at L0 hxl;exists Y,2,⟨_,cK.seq (uM.seq L0.cell)⟩,HG (K:=K) (a:=Y) (xs:=xs.map cf) (λi σ A=>∃(F:am->Prop) (s:NS) (B g:Bool) (J:List (Nat×Nat)) (v5 v6 v7 v8 v9 D G:Option V),σ=[ac (.ref a),ac (.str "names 4 2 9; rope 0 1 3 2 7; rope 1 2 1 1 3; rope 2 0 5 1 5"),ac (.ref C),ac (.int (s.ls.length:Nat)),ac (.ref ls),v5,v6,v7,v8,v9,D,G]/\LQ K t.aK t.nS (nc t) p tp ln lr C S ls a Y cs xs A F s B g/\JS i B g J s) ⟨F,_,ag,ag,Z2,3339,L0,JS.zero⟩ (λi σ A _ z=>by obtain⟨F,s,B,g,J,v5,v6,v7,v8,v9,D,G,_,z,_⟩:=z;exact cK.seq (uM.seq z.cell)) ?_ ?_;rotate_left;rintro σ A ⟨F,s,B,g,J,v5,v6,v7,v8,v9,D,G,rfl,L,r⟩;refine gq _ _ ?_;refine cy λNy hNy=>?_;exists 1,a,cs,(0),2,cK.seq (uM.seq L.scr),!_,_,_,rfl,rfl,⟨!_,!_⟩,_,rfl,λq A1 s1 hq=>⟨q,1,hq,2552,hNy _ _ ?_⟩;generalize cs.getD (0:Int).toNat 0/704=c;have q1:=ya c (show (8:Int)≠0 by decide);have q2:=qP c (show (0:Int)<8 by decide);obtain⟨j,od,ej⟩:=ahP _ (mem_getD (l:=adv) (d:=("","")) (k:=(c%8).toNat) (by show _<8;lia));exists 3733,ag,j,2,.nD j od,λA2 s2=>⟨124⟩;rw[ej,b6 rfl];exact k _;rintro i x σ A Nf Uo hi ⟨F,s,B,g,J,v5,v6,v7,v8,v9,D,G,rfl,L,r⟩;have hil:=(ai.mp hi).1;rw[ah] at hil;rw[ak,aa hil] at hi;cases hi;generalize xs[i]=c;have aw2:i<16:=∅;have q1:=ya c (show (16:Int)≠0 by decide);have q2:=qP c (show (0:Int)<16 by decide);refine cy λN1 hN1=>?_;exists 1,c,2,λA1 s1=>hN1 _ _ ?_;replace L:=L.mono s1;have X:(c%16).toNat<16:=∅;generalize (c%16).toNat=kk at X;have I:=bH.of (K:=K) (cK _ _ L.Hv);refine cy λN1 hN1=>?_;have O:∀y:Bool,y=NP kk B g->N1 [ac (.ref a),ac (.str "names 4 2 9; rope 0 1 3 2 7; rope 1 2 1 1 3; rope 2 0 5 1 5"),ac (.ref C),ac (.int (s.ls.length:Nat)),ac (.ref ls),ac (.int c),ac (.str (fM.getD kk "")),ac (.bl y),v8,v9,D,G] A1:=λy ey=>hN1 _ _ ?_;(·exists 174;rw[Mo X];by_cases e4:kk=4;subst e4;exact cS (O ag rfl);rw[show (kk==4)=al from by simpa using e4];refine dh ?_;exists 174;rw[pu X];by_cases e5:kk=5;(subst e5;refine cS ⟨1,ls,8,I,74⟩;exists 14;cases B with|false=>exact cS (O ag rfl)|true=>exact dh ⟨17,dh (O al rfl)⟩);rw[show (kk==5)=al from by simpa using e5];refine dh ⟨1,dh ⟨174⟩⟩;rw[pp X];by_cases e6:kk=6;(·subst e6;refine cS ⟨1,ls,8,I,7,O _ ?_⟩;cases g <;> rfl);rw[show (kk==6)=al from by simpa using e6];refine dh (O al ?_);unfold NP;rw[show (kk==4)=al from by simpa using e4,show (kk==5)=al from by simpa using e5,show (kk==6)=al from by simpa using e6];rfl);refine alV (λσ A=>∃(F:am->Prop) (s:NS) (B g:Bool) (J:List (Nat×Nat)),σ=[ac (.ref a),ac (.str "names 4 2 9; rope 0 1 3 2 7; rope 1 2 1 1 3; rope 2 0 5 1 5"),ac (.ref C),ac (.int (s.ls.length:Nat)),ac (.ref ls),ac (.int c),ac (.str (fM.getD kk "")),ac (.bl y),v8,v9,D,G]/\LQ K t.aK t.nS (nc t) p tp ln lr C S ls a Y cs xs A F s B g/\JS (i+1) B g J s) ?_ (λhJ=>?_);rotate_left;(exists 1,y,24;cases y with|true=>exact dh (hJ _ _ ⟨F,s,B,g,J,2,L,r.skip⟩)|false=>(refine cS ?_;refine cy λN2 f=>?_;exists 1,C,5,L.ajZ,7,F,p,tp,ln,lr,C,S,xW,zO,qO,Z3 B g,J,5000*i,s,PL.getD kk .run,by rw[ahS kk X];rfl,L.ajZ,L.nw,hG,r.sk,6,r.fits X ey.symm,λx s' F' A2 d N' st'=>f _ _ ?_;obtain⟨cl',js'⟩:=r.ahl X ey.symm d;have W:=L.step st' N';have ln':=d.ln;have I:=bH.of (K:=K) (cK _ _ W.Hv);refine cy λN2 f=>?_;exists 37252,.inr ⟨152,f _ _ ?_⟩;have ep:((s.ls.length:Nat):Int)+(if Txt.startswith (fM.getD kk "") "post" = ag then (1:Int) else 0)=((s'.ls.length:Nat):Int):=(by rw[ajY X,ln'];exact (Int.natCast_add _ _).symm);dsimp only;rw[ep];refine cy λN2 f=>?_;have f0:∀v:Bool,v=(B&&kk != 5)->N2 [ac (.ref a),ac (.str "names 4 2 9; rope 0 1 3 2 7; rope 1 2 1 1 3; rope 2 0 5 1 5"),ac (.ref C),ac (.int (s'.ls.length:Nat)),ac (.ref ls),ac (.int c),ac (.str (fM.getD kk "")),ac (.bl al),v8,v9,D,G] (upd A2 ls (.lst [cn v,.bl g])):=λv ev=>f _ _ ?_;(exists 1,ls,8,I,74;cases B with|false=>exact dh ⟨1,ls,_,(0),(0),22,cK _ _ W.Hv,2,f0 al rfl⟩|true=>refine cS ⟨124⟩;rw[pu X];exists 1,ls,_,(0),(0),22,cK _ _ W.Hv,2,f0 _ rfl);replace W:=W.set (d0:=v) (d1:=g);generalize upd A2 ls (.lst [cn v,.bl g])=A3 at W;replace I:=bH.of (K:=K) (cK _ _ W.Hv);have f1:∀u:Bool,u=(g&&kk != 6)->_:=λu eu=>hJ _ (upd A3 ls (.lst [cn v,.bl u])) ⟨F',s',v,u,cl',2,W.set,by rw[ev,eu];exact js'⟩;exists 1,ls,8,I,74;cases g with|false=>exact dh ⟨1,ls,_,(1),(1),22,cK _ _ W.Hv,2,f1 al rfl⟩|true=>refine cS ⟨124⟩;rw[pp X];exists 1,ls,_,(1),(1),22,cK _ _ W.Hv,2,f1 _ rfl));rintro σ A ⟨F,s,B,g,J,rfl,L,r⟩;refine cy λN2 f=>?_;exists _,rfl,_,_,rfl,rfl,⟨!_,!_⟩,_,rfl,λq A2 s2 hq=>⟨q,1,hq,2552,f _ _ ?_⟩;replace L:=L.mono s2;have q3:=ya (c/16) (show (44:Int)≠0 by decide);have q4:=qP (c/16) (show (0:Int)<44 by decide);have hmem:=mem_getD (l:=SY) (d:=(("",""):Str×Str)) (k:=(c/16%44).toNat) (by rw[show SY.length=44 by decide +kernel];lia);obtain⟨m,od,em⟩:=r.odd ∅ _ hmem;have U:=ajV _ hmem;generalize SY.getD (c/16%44).toNat (("",""):Str×Str)=pr at od em U;refine cy λN2 f=>?_;exists 37,F,p,tp,ln,lr,C,S,xW,zO,qO,Z3 B g,J,5000*(i+1),s,2,uM _ _ L.aeM,L.nw,hG,r.sk,6,by have:=r.ll;lia,2,r.hm,λl1 as F1 A3 told N3 st3 hn1 nf1 R=>f _ _ ?_;replace L:=L.step st3 N3;replace R:=yt nf1 R;refine cy λN2 f=>?_;exists 373,pr.1,al,m,2,.say m F1 p tp ln lr C S xW zO s rfl L.ajZ (rk L.nw r) U.1 U.2 od,λA4 s4=>⟨174⟩;replace L:=L.mono s4;replace R:=Ft s4 _ _ R;rw[em,b6 rfl];refine dh ⟨373,pr.1,al,m,2,.say m F1 p tp ln lr C S xW zO s rfl L.ajZ (rk L.nw r) U.1 U.2 od,λA5 s5=>⟨174⟩⟩;replace L:=L.mono s5;replace R:=Ft s5 _ _ R;rw[em,b6 rfl];refine dh (f _ _ ?_);exists 37,F1,p,tp,ln,lr,C,S,xW,zO,qO,Z3 B g,J,5000*(i+1),s,2,uM _ _ L.aeM,L.nw,hG,r.sk,6,by have:=r.ll;lia,2,r.hm,λl2 N F2 A6 ap8 N6 st6 hn2 nf2 h2=>?_;replace L:=L.step st6 N6;replace R:=Cw st6 _ _ R;replace R:=cK _ _ R;have ea:=Told.eq (o:=qO) r.eq ap8 told;subst ea;have lay:bi (N.map .str)=ag:=WP told r;exists 1,.list (N.map .str),.list (N.map .str),⟨l2,1,bH.of h2,L6 _⟩,⟨l1,1,bH.of R,L6 _⟩,lay,lay,bK (cE (aE (ji _ _) (abJ N)) _) M.units,14;rw[ahV N];exact dh (Uo _ _ ⟨F2,s,B,g,J,3339,L,r⟩)
end
theorem walk{l:PySem.W.OpenLaw}{q:bv}{b:List Str}{XP:(Str->Option ap)->Heap->Prop}{p:World->Heap->Prop}{d:DefRec}{K:Params->af}(u:l.most=ac 63)(j:d.params.defaults=[])(m:d.name = "law")
 (C:∀(w:World)(h:Heap),p w h->(K w.params).In h)
 (F:∀(w:World)(i:Str->Option ap)(h:Heap),(K w.params).In h->h.Ns ba i->∃t,Txt (K w.params) i w t):
 PySem.W.WalkO q b XP p l.row.toRowW d [] (λf vs=>PySem.call f vs):=
 L2.ain (n:=63) (k:=12) (x:="_law_script") (CX:=λ_=>iJ) (sp:=λw=>mi (K w.params)) u (!_) j ⟨200⟩ C
  (λw i D h r G c=>by
   obtain⟨t,T⟩:=F w i h r G;rw[m] at c;have e:=c.symm.trans T.ago.g;cases e;exists t.YJ,λs v=>?_,λo _ _=>WF T;obtain⟨_,_,_,_,_,_,_,_,_,e,_⟩:=T.ago.F.ex;rw[e];exact .of_eq rfl)
  (λ_ _ a y B _ A=>⟨a,y,2,A,B,λ_=>rfl⟩) λ_ _ _ _ _ z=>z
end e9
end
structure PySem.W.Fast:Prop where(tw2813508039335122576 tw11251281638697496167 tw6929996747390586981 tw16686671332335616215 tw8974986500021437258 tw6690700598569750243 tw6397346075724730098 tw9868702135385416164 tw10812288057443289240 tw10466445422522899451 tw7717894920524814786 tw3438794020827208119 tw6421228903859018560 tw16303820798948281529 tw10122748608991393436 tw12506201714399711314 tw15752698120993207572 tw17659437961804897970 tw7755626851686364051 tw16942884637892508474 tw17438403541532742390 tw14430585634158642735 tw11838280356140196163 tw2740825504295834131 tw17667886705876469840 tw18343317548334755507 tw8210054791271341453 tw10697579475486879955 tw2164541477689239105 tw14189627203614933307 tw765228764511388532 tw13063309480586592546 tw15976686124708270781 tw146084686128060217 tw10722345569464467811 tw2208370203494621041 tw1634383605070985037 tw5666997288619334593 tw4078181953051981917 tw2805586766437597773 tw6258215491938526155 tw1435271063511494613 tw6789804261892540673 tw15694140076373702338 tw3134131910202798049 tw10670837740858387331 tw17152603255675468673 tw12627440176114904647 tw12561899381810147095 tw10678214504853679853 tw4025437487674931714 tw15546707631284950874 tw10731733215258484460 tw18276134085746541216 tw2848934978385751852 tw16480428188460994054 tw3569542793849249679 tw12151258039445379270 tw17226132164126182271 tw3358693358618003720 tw7398520643767840405 tw1757472133312701346 tw3818167580476898883 tw3662878004623414145 tw7970935880213209213 tw7300777310497339976 tw2867177045632748140 tw7476074678724640019 tw10844369876761743617 tw14894903908918883554 tw13500682205742392910 tw17903494802156605906 tw17583914622269284652 tw18120667314000899970 tw5988245120632216910 tw17084081020784351511 tw13835620626326664114 tw8896519761513541847 tw13166993574784421778 tw11183373245901733713 tw10716252717362115627 tw10970227862351744833 tw3784423400080169970 tw16240675560992854416 tw18140878184209057337 tw15626275284724559930 tw7157719298244520607 tw14475095757718086151 tw9463077941354525657 tw12786127975874767577 tw12571086153326974743 tw5816891626850789912 tw11208710541409869557 tw6781536489790488565 tw10025211499524383031 tw5961203508640471534 tw10749427746370872279 tw10479987209440747632 tw12625937763382998950 tw14376232738078565990 tw6693289278214555304 tw17695656370392101253 tw15269639798315790173 tw12897231514893698754 tw7216319921760665756 tw7190926791772259014 tw11911595998814624837 tw12567752435492086485 tw9670862185695475978 tw11310568299845621136 tw6514794983113535740 tw1630163159147569771 tw8195431053344473693 tw9297479003678222032 tw8983893564390801326 tw5013685181847969514 tw9745816686545164167 tw16319100928999150860 tw2824855516817766996 tw11742435095085733843 tw8656141525282376810 tw17624048837513444841 tw4543318283801046229 tw11580601008564567759 tw11225353904982528634 tw6943741976282828429 tw1608059675237474566 tw12629409100290793886 tw14191229094409112186 tw14944783164761853549 tw16194694267112704674 tw5794296569374901138 tw17654745044171810421 tw6100821062337920478 tw1069057629373463188 tw12854331875649210951 tw1873223929587106775 tw18143814154144510122 tw2520976575460716838 tw14263472184946493448 tw7494087085754759850 tw927275958571790949 tw12250585789824519745 tw15564757408033621604 tw11931690164438728165 tw16493154284931539182 tw14857498613875951440 tw14295831777465754197 tw9103674344863511519 tw16844171812279377729 tw10786684386821503052 tw8270825738380464568 tw18101837502823590906 tw7231374856149538337 tw4031227934759036429 tw459497936507683546 tw14485439730584456971 tw12225101884600228292 tw12870440544331983274 tw4118220591485750080 tw4185403631980352875 tw8583743288786649826 tw6007398345550953598 tw4576557483843445873 tw1583931653855058357 tw2743764361263546939 tw9848503637837898927 tw5220893603558644017 tw3551291921343731480 tw1296525668659161228 tw8020895375560128062 tw1418899491373226868 tw13493818326947338250 tw10769822557257053669 tw1083853152001778061 tw2168853926121035736 tw7223633793145699489 tw16043422960427541516 tw3093893622595895739 tw18281375048004706078 tw10570923083915126139 tw3862721044197185407 tw1825095731758875818 tw15772669955075158495 tw14467707279463803607 tw12637482463087963243 tw14101979701937308281 tw7146754572014854504 tw5021343326654327097 tw3440440569379808569 tw3679915080897485889 tw6873349522864021486 tw1409357615518303080 tw4417523812131383179 tw10148123717056447967 tw5271417515802568841 tw5426489931106426180 tw7881866023816715900 tw16410524306899168293 tw7697880247274433459 tw17746939201315732820 tw15312181011070717830 tw7214177924890529373 tw1776641387549721827 tw2996918911624836487 tw14319211520284737521 tw17491344787059844258 tw9940363959946322157 tw8394968634258994485 tw7751533226177272722 tw9087583777999694509 tw3513440234449214125 tw11484553854545605136 tw646094717066854758 tw713590208564510187 tw8101705700812878480 tw14329866288517612410 tw5894561501164699401 tw6668520607745235542 tw16908517097213111408 tw13062527729343938428 tw7483081995177288602 tw18304601015711022581 tw15299949473687364269 tw14741173869338370103 tw16726152162655907012 tw6030125489779384456 tw3575653563723955262 tw8791001523428391629 tw15709804930807110253 tw9736318570876454254 tw15262858257825879523 tw3014965190447300734 tw7517645069742877236 tw5122900411092521742 tw13472168204593609750 tw9373077220101677000 tw14541756568028882713 tw7092308520116584579 tw1647750912644298763 tw487969503559549034 tw6481947811673038619 tw17427372499071350937 tw8275622152800531669 tw1622439306576464451 tw11781108421045037051 tw13336080721622703982 tw11718062262136403680 tw14950739000739557430 tw1228387104455483076 tw2682061254329013198 tw14698257117356942012 tw7419139121023859971 tw8267154481965297219 tw14887068032694603711 tw14232337578678491894 tw5278393845275249895 tw14427663775787220467 tw13300758746627585802 tw257951848267720252 tw15921077980867827427 tw12107362815053304056 tw772970801684852574 tw18024457181338304523 tw12932161914100529141 tw2393060016105264888 tw9828281715981571998 tw2095375096061550946 tw15571654216528573511 tw5084602092184016418 tw14498174085413925508 tw13001497757283135424 tw7513655022206122105 tw11432691544450046186 tw3631958150980540619 tw3464363447509817381 tw13609899758506658671 tw8367640618508124203 tw6518160887131290411 tw6657811468581951678 tw12824958811553925747 tw1745531438505056648 tw13995550758841520323 tw10107827462726283391 tw4689913459650679944 tw2377568434503605637 tw11074998558360660658 tw16993103459884038566 tw232103484436661899 tw5567737837565047012 tw2118156941738352092 tw16334995169983870976 tw18391881251746120370 tw10391988120922340942 tw10335473980446230995 tw9124906883878853929 tw9023303165628872834 tw7644216744593568055 tw6380490562524627100 tw17505962441304678770 tw16146266531446685046 tw13257722551719998914 tw11204781320847362482 tw18443535235871998950 tw5413834454291543905 tw18145371306880114584 tw14024089036439142180 tw12683328768481033107 tw9044378383875025626 tw16661748511529813119 tw12391555731843277084 tw1180726287845274503 tw3035199011482821147 tw6360204792496415160 tw5686487795848909463 tw15849601505605574054 tw4508226882828680913 tw4213644238476273909 tw724895668993595440 tw5302646043244527675 tw2620714673975522987 tw16584059250630723921 tw9924400888016414753 tw3389953659558457351 tw7979887723343659840 tw3297510287688606460 tw11654213721804398162 tw6081145315436900272 tw5772457945717614021 tw5003037073128513 tw15852967362525668042 tw11031568278550635041 tw12223288772346917844 tw14745352228421603282 tw3384548286246247624 tw13288401063332717948 tw11564974856355753771 tw15025662300495171741 tw922512812240654483 tw17583496473050749736 tw6153452725979798749 tw12248371840842749487 tw3623252662115576582 tw12859139988054237332 tw2740145554457397461 tw8502481360656207155 tw1378941153771628215 tw3026263902194170123 tw13548576922145553850 tw1522473980853952012 tw11554067693528848059 tw11268753117610710155 tw2648878755516579654 tw16825855947698875206 tw7796252363978775871 tw3473646483309171591 tw10094494999494773217 tw7665668871588518958 tw2001637489174435317 tw5258886396353799943 tw17886281329957905537 tw5849276656156218332 tw1095174649142553963 tw13344455798349566657 tw6284623671627746989 tw9860821834639243975 tw2197039276305124082 tw132187117788229863 tw6089198769623523352 tw16990139359503498011 tw269349720108426229 tw4245234170588258481 tw12964145175092297935 tw193521666064054786 tw13814379008451171096 tw5371095807584912124 tw5265951115864612448 tw15912611531583656565 tw13142390737903623719 tw7859142059034136073 tw12635546900640736893 tw12375989154669924528 tw9738443854627354615:True)
open PySem PySem.W PyProof.Rows
set_option maxRecDepth 100000 in
set_option maxHeartbeats 0 in
theorem PySem.Challenge.cw_knotless_k40_desk_refused_holds : PySem.Challenge.rw_knotless_k40_desk_refused.Holds := by
 w_on;o_law;k_head;(case hw=>w_witness2)
 k_fill
 refine e9.walk (l:=PySem.Challenge.rw_knotless_k40_desk_refused) rfl rfl rfl (fun w h Y=>PySem.W.kIn_of Y) ?F
 case F =>
  intro w mg h KX G
  apply e9.amg KX G
  all_goals first|k_is|exact L2.EZ (by k_is) (by k_is) (by k_is) (by k_is) (by k_is)|exact L2.exG KX G (by k_is) (by k_is) (by k_is) (by k_is)|exact L2.sY (by k_is) (by k_is) (by k_is) (by k_is) (by k_is) (by k_is)|exact⟨by k_exc,by k_is,by k_is,by k_is,by k_is,by k_is,by k_is,by k_is,by k_is⟩|kit_is|exact L2.isA (by kit_is) (by kit_is) (by kit_is) (by kit_is) (by kit_is) (by kit_is) (by kit_is) (by kit_is) (by kit_is)|(refine' L2.al9 ?l1 ?l2 ?l3 ?l4;(case l1=>k_is);(case l2=>decide);(case l3=>exact (.cons rfl rfl (.cons rfl rfl (.cons rfl rfl (.cons rfl rfl (.cons rfl rfl (.cons rfl rfl (.cons rfl rfl (.cons rfl rfl (.cons rfl rfl (.cons rfl rfl (.cons rfl rfl (.cons rfl rfl (.cons rfl rfl (.cons rfl rfl .nil)))))))))))))));(case l4=>decide +kernel))|exact L2.twE (by k_is)
