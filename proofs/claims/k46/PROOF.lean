import PyProof.Rows.All
import Wide.All
import OpenK.AllK
import Wide.FinOn
import Lean
import PyProof.EqAt
import PyProof.EqKinds
import PyProof.TupleCall
import PySem.Challenge.RW_knotless_k46_whole_from_text_to_answers
set_option autoImplicit true
set_option relaxedAutoImplicit true
set_option Elab.async false
set_option compiler.extract_closed false
noncomputable section
universe u v
section
local macro_rules|`(∅)=>`(by lia)
local macro_rules|`(!$x)=>`(List $x)
local macro_rules|`(!_)=>`(by decide)
local macro_rules|`(-_)=>`(by simp)
local macro_rules|`(⟨$x,*⟩)=>do
 let qa<-`(_);let qb<-`(rfl);let qc<-`(?_);let qd<-`(∅);let qe<-`(!_);let qf<-`(⟨!_,!_⟩)
 let mut a:=#[];let mut b:=false
 for e in x.getElems do
  if let some n:=e.raw.isNatLit? then
   b:=true
   for c in n.repr.toList do a:=a++match c with |'0'=>#[qa,qa,qb,qb,qf]|'1'=>#[qa,qb]|'2'=>#[qb]|'3'=>#[qa]|'4'=>#[qc]|'5'=>#[qd]|'6'=>#[qa,qa,qb]|'7'=>#[qb,qa,qb,qe,qa,qb,qa,qb]|'8'=>#[qb,qa,qb]|_=>#[qa,qa,qa,qb,qb]
  else a:=a.push e
 if b then `(⟨$a,*⟩) else Lean.Macro.throwUnsupported
local macro_rules|`(↑_)=>`(by decide +kernel)
local macro_rules|`(tactic|exists $x,*)=>`(tactic|refine⟨$x,*⟩)
local macro_rules|`(~~~$x)=>`(λ_ _ _ _=>by exact $x)
local macro_rules|`($x⁻¹)=>`(by simpa using $x)
local macro_rules|`(tactic|erw[$x,*])=>do
 let a:=x.getElems.map λr=>(⟨r.raw[1]⟩:Lean.Term);if a.size=1 then `(tactic|refine $(a[0]!)) else `(tactic|refine⟨$a,*⟩)
theorem qE1{G:Prop}{p:α->Prop}(h:∃a,p a)(k:∀a,p a->G):G:=h.elim k
theorem qE2{G:Prop}{p:α->β->Prop}(h:∃a b,p a b)(k:∀a b,p a b->G):G:=qE1 h λa z=>qE1 z (k a)
theorem qE3{G:Prop}{p:α->β->γ->Prop}(h:∃a b c,p a b c)(k:∀a b c,p a b c->G):G:=qE1 h λa z=>qE2 z (k a)
theorem qE4{G:Prop}{p:α->β->γ->δ->Prop}(h:∃a b c d,p a b c d)(k:∀a b c d,p a b c d->G):G:=qE1 h λa z=>qE3 z (k a)
theorem qE6{G:Prop}{p:α->β->γ->δ->ε->ζ->Prop}(h:∃a b c d e f,p a b c d e f)(k:∀a b c d e f,p a b c d e f->G):G:=qE2 h λa b z=>qE4 z (k a b)
theorem qE8{G:Prop}{p:α->β->γ->δ->ε->ζ->η->θ->Prop}(h:∃a b c d e f g h,p a b c d e f g h)(k:∀a b c d e f g h,p a b c d e f g h->G):G:=qE2 h λa b z=>qE6 z (k a b)
theorem qN1{G:Prop}(h:A/\B)(k:A->B->G):G:=k h.1 h.2
theorem qN2{G:Prop}(h:A/\B/\C)(k:A->B->C->G):G:=qN1 h λa z=>qN1 z (k a)
theorem qN3{G:Prop}(h:A/\B/\C/\D)(k:A->B->C->D->G):G:=qN1 h λa z=>qN2 z (k a)
theorem qN4{G:Prop}(h:A/\B/\C/\D/\E)(k:A->B->C->D->E->G):G:=qN1 h λa z=>qN3 z (k a)
theorem qN6{G:Prop}(h:A/\B/\C/\D/\E/\F/\P)(k:A->B->C->D->E->F->P->G):G:=qN2 h λa b z=>qN4 z (k a b)
theorem qN8{G:Prop}(h:A/\B/\C/\D/\E/\F/\P/\H/\I)(k:A->B->C->D->E->F->P->H->I->G):G:=qN2 h λa b z=>qN6 z (k a b)
local macro_rules|`(tactic|let $d:letDecl)=>do
 let p:=d.raw[0];unless p.isOfKind `Lean.Parser.Term.letPatDecl do return<-`(tactic|have $d:letDecl)
 let g f (e:Lean.Syntax):Lean.MacroM (Lean.TSyntax `rcasesPat):=do if e.isIdent then `(rcasesPat|$(⟨e⟩):ident) else if e.getNumArgs<3 then `(rcasesPat|_) else let a<-e[1].getSepArgs.mapM f;`(rcasesPat|⟨$[$a:rcasesPat],*⟩)
 let q<-g (g (g (g λ_=>`(rcasesPat|_)))) p[0];let t:Lean.Term:=⟨p[4]⟩;let x:=p[0][1].getSepArgs.map λe=>(⟨e⟩:Lean.Term)
 let s (e:Lean.Term):=e.raw.getNumArgs<3&&e.raw.getId != `rfl
 let o (v e:Lean.Term):Lean.MacroM (Lean.TSyntax `tactic):=if e.raw.isIdent then do let q<-g (λ_=>`(rcasesPat|_)) e;`(tactic|obtain $q:rcasesPat:=$v) else `(tactic|let $e:term:=$v)
 let y<-`(y);let z<-`(z);let mut r<-`(tactic|obtain $q:rcasesPat:=$t)
 for (l,n,m) in [(`qN1,1,true),(`qN2,2,true),(`qN3,3,true),(`qN4,4,true),(`qN6,6,true),(`qN8,8,true),(`qE1,1,false),(`qE2,2,false),(`qE3,3,false),(`qE4,4,false),(`qE6,6,false),(`qE8,8,false)] do
  let b:=x.extract 0 (n-1)
  if n<x.size&&b.all s&&(m||s x[n-1]!) then
   let w:=x[n-1]!;let c:=x.extract n x.size;let i:=c.size==1&&s c[0]!;let k (e:Lean.Term):=t.raw.isIdent&&e.raw.getId==t.raw.getId
   let d:=b.push (if s w then w else y);let j:=i&&k c[0]!;let a:=d.push (if i&&j.not then c[0]! else z)
   if d.any k then continue
   let mut u:=Array.empty.push (<-`(tactic|refine $(Lean.mkIdent l) $t λ$a* =>?_))
   if t.raw.isIdent then u:=u.push (<-`(tactic|try clear $(⟨t⟩):ident))
   if j then u:=u.push (<-`(tactic|rename _=>$(⟨t⟩):ident))
   unless s w do u:=u.push (<-o y w)
   unless i do u:=u.push (<-if c.size==1 then o z c[0]! else `(tactic|let #[$c,*]:=$z))
   r<-`(tactic|first|($[$u]*)|$r:tactic)
 return r
local macro_rules|`(tactic|intro $[$h:term]*)=>do
 let c (p:Lean.Term):=p.raw.isOfKind `Lean.Parser.Term.anonymousCtor;unless h.any c do Lean.Macro.throwUnsupported
 let t<-h.mapM λp=>if c p then `(tactic|(intro x;let $p:term:=x)) else `(tactic|intro $p:term)
 `(tactic|($[$t]*))
local macro_rules|`(#[$x,*])=>`(⟨$x,*⟩)
local macro_rules|`(tactic|ext $p)=>`(tactic|first|subst $(⟨p.raw[0][0]⟩):ident|cases $(⟨p.raw[0][0]⟩):ident)
set_option hygiene false in
local macro_rules|`(tactic|w_up)=>`(tactic|first|exact .inl rfl|exact .inr rfl|assumption)
set_option hygiene false in
local macro_rules|`(tactic|k_go)=>`(tactic|first|exact Or.inl rfl|exact Or.inr (Or.inl rfl)|exact Or.inr (Or.inr rfl))
set_option hygiene false in
local macro_rules|`(tactic|k_in)=>`(tactic|(intro _ _ _ _ h;cases h;subst_vars;rfl))
set_option hygiene false in
local macro_rules|`(tactic|x_go)=>`(tactic|first|exact λ_ _ _ _ _ _=>fc.mi λ_=>rfl|exact λ_ _ _ _ _ _=>fc.t8 λ_ _=>rfl|exact λ_ _ _ _ _ _=>fc.mf λ_ _ _=>rfl|exact λ_ _ _ _ _ _=>fc.ox λ_ _ _ _=>rfl|exact λ_ _ _ _ _ _=>fc.ot λ_ _ _ _ _=>rfl|exact λ_ _ _ _ _ _=>fc.og λ_ _ _ _ _ _=>rfl)
local macro_rules|`(tactic|delta $[$x]* $[$l]?)=>`(tactic|unfold $[$x]* $[$l]?)
theorem IU:1<=PySem.sizeLine:=!_
theorem g5:2<=PySem.sizeLine:=!_
theorem vD:3<=PySem.sizeLine:=!_
theorem kw:4<=PySem.sizeLine:=!_
theorem aaC:5<=PySem.sizeLine:=!_
def eG:=@if_pos.{u}
def eH:=@if_neg.{u}
def fy:=@decide_eq_true
def gh:=@decide_eq_false
def g4:=@of_decide_eq_true
def ff:=@absurd.{v}
def gZ:=@congrArg.{u,v}
def g6:=@decide_eq_true_iff
open List renaming length -> ge, getElem?_eq_getElem -> aa, length_map -> af, getElem?_eq_some_iff -> ai, getD_eq_getElem?_getD -> ak, getElem?_map -> ao, range -> av, length_append -> az, getElem_mem -> aB, mem_of_getElem? -> aD, mem_map -> aG, mem_cons_self -> aM, map_append -> aN, mem_cons_of_mem -> aO, mem_singleton -> aP, mem_append -> aR, mem_cons -> aT, getElem?_append_left -> aW, length_range -> aX, mem_filter -> aZ, size_toArray -> bq, length_set -> bu, length_filter_le -> bx, map_cons -> bz, getElem?_append_right -> bE, length_cons -> bG, replicate -> bN, mem_range -> bO, length_take -> bU, mem_append_right -> bW, map_map -> bZ, append_nil -> cu, mem_map_of_mem -> cF, getElem?_set -> cP, take_of_length_le -> cX, getElem?_of_mem -> c7, filter_cons_of_pos -> dc, filter_cons_of_neg -> dg, map_congr_left -> dm, getElem?_range -> dw, mem_append_left -> dJ, append_assoc -> dW, nodup_cons -> dY, filter_append -> dZ, range_succ -> fk, filterMap_cons -> fO, take_add_one -> fV, take_length -> gH, lookup_cons -> gI, getElem_of_mem -> gK, take_succ_eq_append_getElem -> iF, nodup_append -> iP, mem_or_eq_of_mem_set -> iW, getElem?_take_of_lt -> jg, all_eq_true -> jl, replicate_succ -> jS, length_pos_iff -> jT, foldl_cons -> jU, filter_sublist -> jV, filter_cons -> kZ, ext_getElem -> k6, any_eq_true -> k7, sum_cons -> lB, mem_filterMap -> lD, map_set -> lE, getElem?_eq_none -> lF, nodup_nil -> lY, pairwise_map -> mQ, set_append_right -> qd, length_nil -> qe, getElem?_concat_length -> qg, any_cons -> rB, drop_eq_getElem_cons -> tZ, length_drop -> um, lookup -> uq, mem_of_mem_eraseIdx -> uW, length_filterMap_le -> uX, getElem_range -> wc, find?_cons -> we, filter_nil -> wk, countP_append -> wm, pairwise_lt_range -> xS, length_pos_of_mem -> xU, flatten_cons -> yK, set_set -> z6, countP_singleton -> z7, not_mem_nil -> AK, nodup_range -> AL, getElem_map -> AM
open PySem.W renaming Frag -> ah, findIn -> aV, nsIn -> bQ, mg_of -> cE, mg_none_of -> eY, keepIn -> fz, fnOf -> fN, emptyDict -> iN, codeIn -> lX, instObj -> mP, callWith_K -> vW, hasDictIn -> yI, plainGet -> AG
open Nat renaming le_refl -> aA, le_trans -> aJ, zero_le -> bL, lt_of_le_of_lt -> bM, ne_of_lt -> bV, add_le_add_left -> b5, lt_of_lt_of_le -> b9, min_le_left -> dX, sub_self -> fB, le_of_lt -> gp, lt_irrefl -> gG, le_succ -> iO, le_succ_of_le -> jO, toDigits -> lA, not_lt_zero -> qc, add_le_add_right -> rG, toDigits_of_lt_base -> vZ, lt_succ_self -> AH, le_add_right -> AI
open Option.some renaming inj -> aI
open Bool renaming false_ne_true -> aU, and_eq_true -> dh, not_eq_true' -> iQ, or_eq_true -> qi, eq_iff_iff -> qj
open Option renaming some_ne_none -> bC, map_some -> vY
open PySem.F renaming plainAttrs_list -> bK, type_list_append -> bS, slot_list_append -> bT, plainAttrs_str -> cW, slot_str_split -> gv, type_str_join -> k9, slot_str_join -> lg, type_str_split -> pH, slot_list_count -> vX
open Ne renaming symm -> cC
open Int renaming toNat_natCast -> cQ, zero_add -> cT, emod_lt_of_pos -> ig, emod_nonneg -> iZ, eq_ofNat_of_zero_le -> nZ, le_refl -> ur, natCast_nonneg -> wo, toNat -> z8
open Array renaming length_toList -> eK, getElem?_eq_some_iff -> rC
open Sum renaming inl -> iY, inr -> rF
open ForInStep renaming yield -> mR
open False renaming elim -> mS
open Classical renaming choose_spec -> qh
open List.cons renaming inj -> rA
open PySem.Builtin.Str renaming strKind -> tY
open PySem renaming mem_of_lookup -> uo
open PyProof.Rows renaming slot_tuple_getitem -> yJ
open Option renaming some -> ac, none -> de
open Bool renaming true -> df, false -> dr
open PySem renaming Addr -> du, Value -> dy, Shared -> dA, wpAny_bind -> dC, wpAny_pure -> dE, sizeLine -> eD, mainGlobals -> eI, starEach -> eP, compareOp -> fa, wpAny -> fg, Program -> ft, Around -> fv
open PySem.Heap renaming get?_push_of_some -> dL, get?_push_size -> en, lt_size -> eA, get?_update_other -> fb
open PySem.Str renaming ofString -> eC
open PySem.PyData renaming depthAll -> eJ, canLayAll0 -> eQ
open PySem.NameKind renaming free -> eR
set_option linter.all false
set_option maxRecDepth 100000
namespace L2
open PySem PySem.Spec PyProof.Rows
abbrev hJ:=Sum Int Str
noncomputable def O6:hJ->dy->Bool
 |.inl k,v=>Value.isInt k v
 |.inr x,v=>Value.isStrOf x v
noncomputable def Ix(w:World):hJ->Int
 |.inl k=>hashInt k
 |.inr x=>hashStr w x
theorem jv:∀{k:hJ}{v:dy},O6 k v=df->(∃i t,k=iY i/\v=Value.int i t)\/(∃x t,k=rF x/\v=Value.str x t)
 |.inl i,v,h=>by
  let#[t,e]:=Value.isInt_shape (k:=i) (v:=v) h;erw[.inl #[i,t,2,e]]
 |.inr x,v,h=>by
  let#[t,e]:=Value.isStrOf_shape (x:=x) (v:=v) h;erw[.inr #[x,t,2,e]]
theorem YZ(i:Int)(t:Tok):O6 (.inl i) (.int i t)=df:=by simp[O6,Value.isInt]
theorem HF(x:Str)(t:Tok):O6 (.inr x) (.str x t)=df:=by simp[O6,Value.isStrOf]
theorem Ya(a b:Int):decide ((iY a:hJ)=iY b)=(a==b):=by by_cases e:a=b;subst e;simp;let h:¬(iY a:hJ)=iY b:=λq=>e (Sum.inl.inj q);rw[gh h];erw[(beq_eq_false_iff_ne.mpr e).symm]
theorem XV(a b:Str):decide ((rF a:hJ)=rF b)=decide (a=b):=by by_cases e:a=b;subst e;simp;let h:¬(rF a:hJ)=rF b:=λq=>e (Sum.inr.inj q);rw[gh h,gh e]
theorem XB(a:Int)(b:Str):decide ((iY a:hJ)=rF b)=dr:=gh (λq=>nomatch q)
theorem Xt(a:Str)(b:Int):decide ((rF a:hJ)=iY b)=dr:=gh (λq=>nomatch q)
noncomputable def iw(prog:ft)(w:World):PySem.KeyKind prog w hJ where
 is:=O6
 hash:=Ix w
 inj:=λv a b ha hb=>by
  obtain⟨i,t,rfl,rfl⟩|⟨x,t,rfl,rfl⟩:=jv ha
  ·obtain⟨j,u,rfl,e⟩|⟨y,u,rfl,e⟩:=jv hb
   ·injection e with e1 _;rw[e1]
   ·erw[nomatch e]
  ·obtain⟨j,u,rfl,e⟩|⟨y,u,rfl,e⟩:=jv hb
   ·erw[nomatch e]
   ·injection e with e1 _;rw[e1]
 byValue:=λk v h=>by
  obtain⟨i,t,rfl,rfl⟩|⟨x,t,rfl,rfl⟩:=jv h <;> rfl
 pyHash:=λhv h=>by
  obtain⟨i,t,rfl,rfl⟩|⟨x,t,rfl,rfl⟩:=jv hv
  ·erw[wpAny_pyHash_int h]
  ·erw[wpAny_pyHash_str h]
 eqBool:=λhu hv h=>by
  obtain⟨i,t,rfl,rfl⟩|⟨x,t,rfl,rfl⟩:=jv hu
  ·obtain⟨j,u,rfl,rfl⟩|⟨y,u,rfl,rfl⟩:=jv hv
   ·rw[Ya] at h;erw[wpAny_eqBool_int h]
   ·rw[XB] at h;erw[SeqAt.EqAt.int_str i t y u _ _ _ _ h]
  ·obtain⟨j,u,rfl,rfl⟩|⟨y,u,rfl,rfl⟩:=jv hv
   ·rw[Xt] at h;erw[SeqAt.EqAt.str_int x t j u _ _ _ _ h]
   ·rw[XV] at h;erw[wpAny_eqBool_str h]
 «strs»:=λk x t v h=>by
  obtain⟨i,u,rfl,e⟩|⟨y,u,rfl,e⟩:=jv h
  ·erw[nomatch e]
  ·injection e with e1 _
   subst e1;ext v <;> rfl
def SE(prog:ft)(w:World)(i:Int)(t:Tok):(iw prog w).is (.inl i) (.int i t)=df:=YZ i t
def SG(prog:ft)(w:World)(x:Str)(t:Tok):(iw prog w).is (.inr x) (.str x t)=df:=HF x t
inductive V where
 |gw|bl (b:Bool)|int (i:Int)|str (x:Str)|W6 (b:Array UInt8)|flt (b:UInt64)|ref (a:du)|ty (n:String)
 deriving DecidableEq
def RelV:V->dy->Prop
 |.gw,u=>u=Value.none
 |.bl b,u=>u=Value.bool b
 |.int i,u=>∃t,u=Value.int i t
 |.str x,u=>∃t,u=Value.str x t
 |.W6 b,u=>∃t,u=Value.bytes b t
 |.flt b,u=>∃t,u=Value.float b t
 |.ref a,u=>u=Value.ref a
 |.ty n,u=>u=Value.type n
abbrev cO:!V->!dy->Prop:=Paired RelV
theorem cO.length(r:cO xs us):ge xs=ge us:=Paired.length r
theorem cO.get:∀{xs:!V}{us:!dy}{i:Nat}{x:V},cO xs us->xs[i]?=ac x->∃u,us[i]?=ac u/\RelV x u
 |_,_,_,_,.nil,e=>by simp at e
 |_,_,0,_,.cons r _,e=>by simp at e;subst e;erw[1,r]
 |_,_,i+1,x,.cons _ t,e=>by
  let#[u,b,a]:=cO.get (i:=i) (x:=x) t e⁻¹;exists u,by simpa using b,a
theorem cO.set{x:V}{u:dy}(r:RelV x u):∀{xs:!V}{us:!dy}(i:Nat),cO xs us->cO (xs.set i x) (us.set i u)
 |_,_,_,.nil=>.nil
 |_,_,0,.cons _ t=>.cons r t
 |_,_,i+1,.cons q t=>.cons q (cO.set r i t)
theorem cO.append:∀{xs a:!V}{us ws:!dy},cO xs us->cO a ws->cO (xs++a) (us++ws)
 |_,_,_,_,.nil,s=>s
 |_,_,_,_,.cons r t,s=>.cons r (cO.append t s)
theorem cO.take:∀{xs:!V}{us:!dy}(n:Nat),cO xs us->cO (xs.take n) (us.take n)
 |_,_,0,_=>.nil
 |_,_,_+1,.nil=>.nil
 |_,_,n+1,.cons r t=>.cons r (cO.take n t)
theorem cO.drop:∀{xs:!V}{us:!dy}(n:Nat),cO xs us->cO (xs.drop n) (us.drop n)
 |_,_,0,r=>r
 |_,_,_+1,.nil=>.nil
 |_,_,n+1,.cons _ t=>cO.drop n t
def CJ:Option V->Option dy->Prop
 |some v,ac u=>RelV v u
 |none,de=>True
 |_,_=>False
def KV{κ:Type}:!(κ×V)->!(κ×dy)->Prop:=Paired λ(p:κ×V)(q:κ×dy)=>p.1=q.1/\RelV p.2 q.2
noncomputable def kV:hJ->V
 |.inl i=>.int i
 |.inr x=>.str x
inductive HO where
 |lst (xs:!V)
 |tup (xs:!V)
 |dK (kvs:!(hJ×V))|dT (kvs:!(!hJ×V))
 |set (S:Int->Bool) (n:Nat)
 |ins (C dx:du) (fs:!(Str×V))
 |own (x:du)
 |xd (fs:!(Str×V))
 |met (f x:du)
 |W7 (lo hi:Int)
 |Y0 (o:Obj) (u:HO)
 |xA (ps:Array dy)
 |ext (φ:Heap->Prop)
abbrev Hp:=du->Option HO
noncomputable def upd(H:Hp)(a:du)(o:HO):Hp:=λb=>if b=a then ac o else H b
theorem ay:upd H a o a=ac o:=by delta upd;rw[eG rfl]
theorem aY{a b:du}(h:b≠a):upd H a o b=H b:=by delta upd;rw[eH h]
theorem Qt:upd (upd H a o) a u=upd H a u:=by funext b;delta upd;split <;> rfl
theorem rD{H:Hp}(h:H a=ac o)(h':H b=ac u)(d:o≠u):a≠b:=by intro e;subst e;rw[h] at h';erw[d (aI h')]
theorem aS{H:Hp}(h:H a=ac o)(h':H b=de):a≠b:=by intro e;subst e;rw[h] at h';ext h'
section
variable(P:ft)(w:World)
def jL(H:Hp)(h:Heap)(a:du):HO->Prop
 |.lst xs=>ge xs<=eD/\∃(its:!dy)(n:Nat),cO xs its/\h.get? a=ac {cls:=.type "list",data:=.seq its.toArray n}
 |.tup xs=>ge xs<=eD/\∃its:!dy,cO xs its/\IsTup h a its.toArray
 |.dK kvs=>ge kvs<=eD/\(a==sysModules)=dr/\∃vs,KV kvs vs/\h.DictOf (iw P w) a vs
 |.dT kvs=>ge kvs<=eD/\(a==sysModules)=dr/\∃xs:!(!hJ×du×dy),
  Paired (λ(p:!hJ×V)(q:!hJ×du×dy)=>p.1=q.1/\H q.2.1=ac (.tup (p.1.map kV))/\RelV p.2 q.2.2) kvs xs /\
  ∃o es ep,h.get? a=ac o/\o.ExactDict/\o.data=.dict es ep/\es.toList=xs.map (entryOfKey (tupleKind (iw P w)))/\(xs.map (·.1)).Nodup
 |.set S n=>h.SetOf (intKind P w) a S n
 |.ins C dx fs=>H dx=ac (.own a)/\ge fs<=1000/\dx≠a/\h.get? a=ac (mP C dx) /\
  ∃mA,h.Ns1 dx mA/\(∀f,CJ (fs.lookup f) (mA f))/\PySem.Within mA (fs.map (·.1))
 |.own _=>∃o,h.get? a=ac o
 |.xd fs=>∃mA,h.Ns1 a mA/\∀f,CJ (fs.lookup f) (mA f)
 |.W7 lo hi=>∃t u v,h.get? a=ac {cls:=.type "range",data:=.fields [.int lo t,.int hi u,.int 1 v].toArray}
 |.Y0 o u=>h.get? a=ac o/\jL H h a u
 |.xA ps=>h.get? a=ac {cls:=.none,data:=.fields ps}
 |.met f x=>h.get? a=ac (PySem.W.methodObj (.ref f) (.ref x))
 |.ext φ=>φ h/\(∃o,h.get? a=ac o)/\∀h1 h2:Heap,φ h1->(∀o,h1.get? a=ac o->h2.get? a=ac o)->φ h2
def CK(H:Hp)(h:Heap):Prop:=∀a o,H a=ac o->jL P w H h a o
end
section
variable{P:ft}{w:World}{H H':Hp}{h h':Heap}{a:du}{o:HO}
theorem jL.lt(x:jL P w H h a o):a<h.objs.size:=by cases o with|lst c=>let#[_,_,_,_,e]:=x;erw[eA e]|tup c=>let#[_,_,_,p]:=x;erw[p.lt]|dK b=>let#[_,_,_,_,o,_,_,e,_]:=x;erw[eA e]|dT b=>let#[_,_,_,_,o,_,_,e,_]:=x;erw[eA e]|set S n=>let#[o,_,_,_,e,_]:=x;erw[eA e]|ins C j d=>let#[_,_,_,e,_]:=x;erw[eA e]|own y=>let#[_,e]:=x;erw[eA e]|xd d=>let#[_,#[_,_,_,e,_],_]:=x;erw[eA e]|W7 lo k=>let#[_,_,_,e]:=x;erw[eA e]|Y0 ob u=>let#[e,_]:=x;erw[eA e]|xA i=>erw[eA (show h.get? a=ac _ from x)]|met f y=>erw[eA (show h.get? a=ac _ from x)]|ext g=>let#[_,#[_,e],_]:=x;erw[eA e]
theorem Paired.ahe{c d:Type}{F G:c->d->Prop}:∀{l₁:!c}{l₂:!d},Paired F l₁ l₂->(∀a b,F a b->G a b)->Paired G l₁ l₂
 |_,_,.nil,_=>.nil
 |_,_,.cons r t,f=>.cons (f _ _ r) (Paired.ahe t f)
theorem jL.stay(x:jL P w H h a o)(k:∀b u,(b=a\/H b=ac (.own a))->h.get? b=ac u->h'.get? b=ac u)(G:∀b,H b=ac (.own a)->H' b=ac (.own a))(J:∀b xs,H b=ac (.tup xs)->H' b=ac (.tup xs)):jL P w H' h' a o:=by induction o with|lst xs=>let#[z,j,n,r,e]:=x;erw[z,j,n,r,k _ _ (.inl rfl) e]|tup xs=>let#[z,j,r,ob,e,c]:=x;erw[z,j,r,ob,k _ _ (.inl rfl) e,c]|dK m=>let#[z,y,B,r,ob,g,i,e,c]:=x;erw[z,y,B,r,ob,g,i,k _ _ (.inl rfl) e,c]|dT m=>let#[z,y,xs,r,ob,g,i,e,c]:=x;erw[z,y,xs,Paired.ahe r λp q z=>#[z.1,J _ _ z.2.1,z.2.2],ob,g,i,k _ _ (.inl rfl) e,c]|set S n=>let#[ob,g,i,t,e,c]:=x;erw[ob,g,i,t,k _ _ (.inl rfl) e,c]|ins C L I=>let#[d,z,E,e,l,#[s,g,i,F,c],r]:=x;erw[G _ d,z,E,k _ _ (.inl rfl) e,l,#[s,g,i,k _ _ (.inr d) F,c],r]|own y=>let#[ob,e]:=x;erw[ob,k _ _ (.inl rfl) e]|xd I=>let#[l,#[s,g,i,e,c],r]:=x;erw[l,#[s,g,i,k _ _ (.inl rfl) e,c],r]|W7 lo M=>let#[t,u,v,e]:=x;erw[t,u,v,k _ _ (.inl rfl) e]|Y0 ob u D=>let#[e,q]:=x;erw[k _ _ (.inl rfl) e,D q]|xA A=>let e:h.get? a=ac {cls:=.none,data:=.fields A}:=x;show h'.get? a=ac {cls:=.none,data:=.fields A};erw[k a _ (.inl rfl) e]|met f y=>let e:h.get? a=ac (PySem.W.methodObj (.ref f) (.ref y)):=x;show h'.get? a=ac (PySem.W.methodObj (.ref f) (.ref y));erw[k a _ (.inl rfl) e]|ext K=>let#[p,#[o,e],st]:=x;erw[st _ _ p λo q=>k _ _ (.inl rfl) q,#[o,k _ _ (.inl rfl) e],st]
theorem CK.lt(x:CK P w H h)(e:H a=ac o):a<h.objs.size:=(x a o e).lt
theorem CK.fresh(x:CK P w H h)(e:h.objs.size<=a):H a=de:=by cases q:H a with|none=>rfl|some u=>erw[ff (b9 (x.lt q) e) (gG _)]
def CK.kept(x:CK P w H h)(k:∀b u,h.get? b=ac u->h'.get? b=ac u):CK P w H h':=λa o e => (x a o e).stay (λb u _ q=>k b u q) (λ_ q=>q) λ_ _ q=>q
theorem CK.laid(x:CK P w H h)(k:∀b u,h.get? b=ac u->h'.get? b=ac u)(i:h.objs.size<=a)(d:jL P w (upd H a o) h' a o):CK P w (upd H a o) h':=λb u e=>by
 let f:=x.fresh i;by_cases g:b=a
 ·subst g;rw[ay] at e;ext e;erw[d]
 ·rw[aY g] at e
  exact (x b u e).stay (λc v _ q=>k c v q) (λc q=>by rw[aY (aS q f)];erw[q]) λc j q=>by rw[aY (aS q f)];erw[q]
end
def Rd(H:Hp)(a:du)(u:HO):Prop:=H a=ac u\/∃o,H a=ac (.Y0 o u)
theorem Rd.ok(r:Rd H a u)(x:CK P w H h):jL P w H h a u:=by obtain r|⟨o,r⟩:=r;erw[x a u r];let#[_,q]:=x a _ r;erw[q]
def kz:Option HO->Prop
 |some (.lst _)=>True
 |some (.dK _)=>True
 |some (.dT _)=>True
 |some (.set _ _)=>True
 |some (.ins _ _ _)=>True
 |some (.ext _)=>True
 |_=>False
section
variable{P:ft}{w:World}{H:Hp}{h h':Heap}{x e:du}{o':HO}
theorem CK.write(ok:CK P w H h)(g:kz (H x))(n:e=x\/H e=ac (.own x))(k:∀b u,b≠e->h.get? b=ac u->h'.get? b=ac u)(l:∃u,h'.get? e=ac u)
 (m:jL P w (upd H x o') h' x o'):CK P w (upd H x o') h':=λb u q=>by
 let d:∀c y,H c=ac (.own y)->c≠x:=λc y r z=>by subst z;rw[r] at g;erw[g]
 let j:∀c i,H c=ac (.tup i)->c≠x:=λc i r z=>by subst z;rw[r] at g;erw[g]
 by_cases f:b=x
 ·subst f;rw[ay] at q;ext q;erw[m]
 ·rw[aY f] at q
  by_cases a:b=e
  ·let o:H b=ac (.own x):=by
    obtain z|z:=n
    ·erw[ff (a.trans z) f]
    ·rw[a];erw[z]
   rw[q] at o;ext o;let#[v,p]:=l;exists v,by rw[a];erw[p]
  ·refine (ok b u q).stay (λc v hc r=>k c v ?_ r) (λc r=>by rw[aY (d c b r)];erw[r]) λc i r=>by rw[aY (j c i r)];exact r
   obtain rfl|hc:=hc
   ·erw[a]
   ·rintro rfl
    obtain z|z:=n
    ·erw[d c b hc z]
    ·rw[hc] at z;ext z;erw[f rfl]
end
structure Un(fs ex:!du)(H H':Hp)(h h':Heap):Prop where
 keep:∀b o,h.get? b=ac o->H b=de->b∉fs->b∉ex->h'.get? b=ac o
 slot:∀b o,h.get? b=ac o->H b=de->b∈fs->b∉ex->∃sl,h'.get? b=ac {o with slots:=sl}
 free:∀b o,h.get? b=ac o->H b=de->b∉ex->H' b=de
 there:∀b o,h.get? b=ac o->b∉ex->∃o',h'.get? b=ac o'
 tups:∀b xs,H b=ac (.tup xs)->H' b=ac (.tup xs)
 Gp:∀b o u,H b=ac (.Y0 o u)->H' b=ac (.Y0 o u)
 HG:∀b ps,H b=ac (.xA ps)->∃more,H' b=ac (.xA (ps++more))
section
variable{fs fs' ex ex':!du}{H H1 H2:Hp}{h h1 h2 h':Heap}{a x e:du}{o:HO}
theorem Un.any(u:Un fs ex H H1 h h1)(q:h.get? b=ac ob)(n:H b=de)(c:b∉ex):∃d,h1.get? b=ac {ob with slots:=d}:=by by_cases a:b∈fs;erw[u.slot b ob q n a c];erw[ob.slots,u.keep b ob q n a c]
theorem Un.trans(a:Un fs ex H H1 h h1)(b:Un fs ex H1 H2 h1 h2):Un fs ex H H2 h h2 where
 keep:=λc ob q n f d=>b.keep c ob (a.keep c ob q n f d) (a.free c ob q n d) f d
 slot:=λc ob q n f d=>by
  let#[p,e]:=a.slot c ob q n f d;let#[j,k]:=b.slot c _ e (a.free c ob q n d) f d;erw[j,k]
 free:=λc ob q n d=>by
  let#[i,e]:=a.there c ob q d;erw[b.free c i e (a.free c ob q n d) d]
 there:=λc ob q d=>by
  let#[i,e]:=a.there c ob q d;erw[b.there c i e d]
 tups:=λc g q=>b.tups c g (a.tups c g q)
 Gp:=λc ob g q=>b.Gp c ob g (a.Gp c ob g q)
 HG:=λc m q=>by
  let#[l,e]:=a.HG c m q;let#[o,k]:=b.HG c _ e;exists l++o,by rw[k,Array.append_assoc]
theorem Un.kept(k:∀b u,h.get? b=ac u->h'.get? b=ac u):Un fs ex H H h h' :=#[λb ob q _ _ _=>k b ob q,λb ob q _ _ _=>#[ob.slots,k b ob q],λ_ _ _ n _=>n,λb ob q _=>#[ob,k b ob q],λ_ _ q=>q,λ_ _ _ q=>q,λ_ a q=>#[[].toArray,by rw[q];simp]]
def Un.refl:Un fs ex H H h h:=Un.kept λ_ _ q=>q
theorem Un.laid(k:∀b u,h.get? b=ac u->h'.get? b=ac u)(d:h.objs.size<=a)(c:H a=de):Un fs ex H (upd H a o) h h' where
 keep:=λb u q _ _ _=>k b u q
 slot:=λb u q _ _ _=>#[u.slots,k b u q]
 free:=λb u q n _=>by rw[aY (bV (b9 (eA q) d))];erw[n]
 there:=λb u q _=>#[u,k b u q]
 tups:=λb e q=>by rw[aY (aS q c)];erw[q]
 Gp:=λb u e q=>by rw[aY (aS q c)];erw[q]
 HG:=λb f q=>#[[].toArray,by rw[aY (aS q c),q];simp]
theorem Un.write(c:kz (H x))(l:e=x\/H e=ac (.own x))(k:∀b u,b≠e->h.get? b=ac u->h'.get? b=ac u)(d:∃u,h'.get? e=ac u):Un fs ex H (upd H x o) h h':=by
 let g:∀b,H b=de->b≠x:=λb n z=>(by subst z;rw[n] at c;erw[c]);let i:∀b,H b=de->b≠e:=λb n z=>(by subst z;obtain r|r:=l;erw[g b n r];rw[n] at r;ext r);let f:∀b u,H b=ac u->¬kz (ac u)->b≠x:=λb u q j z=>(by subst z;rw[q] at c;erw[j c])
 erw[λb u q n _ _=>k b u (i b n) q,λb u q n _ _=>#[u.slots,k b u (i b n) q],λb u q n _=>by rw[aY (g b n)];exact n,λb u q _=>?_,
  λb m q=>by rw[aY (f b _ q λz=>z)];exact q,λb u m q=>by rw[aY (f b _ q λz=>z)];exact q,λb p q=>#[[].toArray,by rw[aY (f b _ q λz=>z),q];simp]]
 by_cases a:b=e;subst a;erw[d];erw[u,k b u a q]
end
noncomputable def kS(h:Heap)(H:Hp):!du:=(av h.objs.size).filter λa=>(H a).isSome
noncomputable def Qu(h:Heap)(H:Hp):Heap:=PySem.W.hideAll h (kS h H)
def Y3(h:Heap)(H:Hp):(Qu h H).objs.size=h.objs.size:=PySem.W.hideAll_size _ _
theorem aaN{h:Heap}{H:Hp}(e:h.get? b=ac o)(n:H b=de):(Qu h H).get? b=ac o:=
 PySem.W.hideAll_get _ e λa=>by
  let q:(H b).isSome=df:=(aZ.mp a).2;rw[n] at q;simp at q
theorem ad7(e:(Qu h H).get? b=ac o):h.get? b=ac o/\H b=de:=by let a:h.get? b=ac o:=PySem.W.of_hideAll (kS h H) e;erw[a,4];cases q:H b with|none=>rfl|some x=>let c:b∈kS h H:=aZ.mpr #[bO.mpr (eA a),by simp[q]];let z:(Qu h H).get? b=de:=PySem.W.hideAll_none (kS h H) c;rw[z] at e;ext e
noncomputable def ad8(g h:Heap)(L:du):!(du×Obj):=(av h.objs.size).filterMap λa=>if a=L\/(g.get? a).isSome=df then de else (h.get? a).map λo=>(a,o)
noncomputable def rest(g h:Heap)(L d:du):!(du×Obj):=(ad8 g h L).filter λp=>decide (p.1≠d)
structure Mod(K:ah)(mg:Str->Option dy)(base:Heap):Prop where
 DL:K.In base
 glob:base.Ns eI mg
 blt:∃mb,base.Ns builtinsNs mb/\∀x:Str,x≠"__name__" -> mb x=bootBuiltins x
 nolimit:base.NoLimit
structure Cx where
 prog:ft
 w:World
 K:ah
 mg:Str->Option dy
 base:Heap
 A:fv
 N:!Str
 s₀:dA
 H₀:Hp
 env:Env
 outer:!Env
 stack:!Env
 ex:!du
 fn:Str->Bool
 calm:Bool
 pn:!(du×Obj)
 xe:dy->dA->Prop
noncomputable def im(l:!Env):!du:=l.filterMap (·.frame)
noncomputable abbrev Cx.fs(X:Cx):!du:=im X.outer
def my(sc:Scope)(x:Str):Prop:=sc.names.lookup x=ac .local\/sc.names.lookup x=ac .cell\/sc.names.lookup x=ac .free
def Loc(sc:Scope)(x:Str):Prop:=sc.names.lookup x=ac .local\/sc.names.lookup x=ac .cell
def Look(env:Env)(h:Heap)(m:Str->Option dy)(x:Str)(u:dy):Prop:=
 (env.kindOf x=ac .local/\m x=ac u)\/((env.kindOf x=ac .cell\/env.kindOf x=ac .free)/\∃c,env.cells.lookup x=ac c/\h.IsCell c (ac u))
structure Cx.Ok(X:Cx):Prop where
 mod:Mod X.K X.mg X.base
 kind:X.env.scope.kind=.function
 glob:X.env.globals=eI
 blt:X.env.builtins=builtinsNs
 above:X.s₀.heap.objs.size<=X.env.locals
 inj:∀x y c,X.env.cells.lookup x=ac c->X.env.cells.lookup y=ac c->x=y
 has:∀x,(X.env.kindOf x=ac .cell\/X.env.kindOf x=ac .free)->∃c,X.env.cells.lookup x=ac c
 X7:∀x c,X.fn x=df->X.env.cells.lookup x=ac c->X.s₀.heap.objs.size<=c
 hd:X.calm=df->X.A.handled=de
 frames:X.A.frames=ac X.stack
 stk:X.stack=X.outer\/(X.stack=X.env::X.outer/\X.env.frame=ac X.env.locals)
 exf:∀b∈X.ex,b≠X.env.locals/\∀x c,X.env.cells.lookup x=ac c->c≠b
 bs:∀b o,X.base.get? b=ac o->X.s₀.heap.get? b=ac o/\X.H₀ b=de
 nW:X.base.objs.size<=X.s₀.heap.objs.size
 Y4:∀b o,X.base.get? b=ac o->b∉X.ex
 aaO:∀b∈X.ex,b∉X.fs
 Gq:X.s₀.heap.FunFrames X.base X.outer
 Gb:∀b∈X.fs,X.H₀ b=de
structure Inv(X:Cx)(pins:!(du×Obj))(σ:!(Option V))(H:Hp)(s:dA):Prop where
 ok:X.Ok
 os:s.os=X.s₀.os
 bare:AllBare s.gens
 base:Un X.fs X.ex X.H₀ H X.s₀.heap s.heap
 loc:∃m,s.heap.Ns X.env.locals m/\∀(i:Nat)(x:Str)(v:V),X.N[i]?=ac x->σ[i]?=ac (ac v)->my X.env.scope x->∃u,RelV v u/\Look X.env s.heap m x u
 cell:∀x c,X.env.cells.lookup x=ac c->∃v,s.heap.IsCell c v
 free:H X.env.locals=de
 z9:∀x c,X.env.cells.lookup x=ac c->H c=de
 pin:∀p∈X.pn++pins,s.heap.get? p.1=ac p.2/\H p.1=de/\p.1≠X.env.locals/\p.1∉X.fs/\∀v,p.2.data≠.cell v
 hok:CK X.prog X.w H s.heap
 len:ge σ=ge X.N
section
variable{X:Cx}{pins:!(du×Obj)}{σ:!(Option V)}{H H':Hp}{s:dA}{h':Heap}
theorem Cx.Ok.aoT(ok:X.Ok)(e:X.base.get? b=ac o):b∉X.fs:=λa=>by
 let:=(ok.Gq.mem a).1
 rw[e] at this;ext this
theorem Inv.bs(I:Inv X pins σ H s):∀b o,X.base.get? b=ac o->s.heap.get? b=ac o/\H b=de:=λb o e => #[I.base.keep b o (I.ok.bs b o e).1 (I.ok.bs b o e).2 (I.ok.aoT e) (I.ok.Y4 b o e),I.base.free b o (I.ok.bs b o e).1 (I.ok.bs b o e).2 (I.ok.Y4 b o e)]
def Inv.bk(I:Inv X pins σ H s):∀b o,X.base.get? b=ac o->s.heap.get? b=ac o:=λb o e=>(I.bs b o e).1
theorem Inv.mod(I:Inv X pins σ H s):Mod X.K X.mg X.base:=I.ok.mod
def Inv.NI(I:Inv X pins σ H s):X.K.In s.heap:=I.ok.mod.DL.keeps I.bk
theorem Inv.lt(I:Inv X pins σ H s):X.env.locals<s.heap.objs.size:=let ⟨_,a,_⟩:=I.loc;a.lt
def Inv.sz(I:Inv X pins σ H s):X.s₀.heap.objs.size<=s.heap.objs.size:=aJ I.ok.above (gp I.lt)
theorem Inv.aoU(I:Inv X pins σ H s){a:du}(h:s.heap.objs.size<=a):a∉X.fs:=λc=>by
 let#[_,o,b,_]:=I.ok.Gq.mem c;erw[ff (b9 (eA b) (aJ I.sz h)) (gG _)]
theorem Inv.Nn(I:Inv X pins σ H s):∀x c,X.env.cells.lookup x=ac c->c≠X.env.locals:=λx c e z=>by
 let#[v,o,d,f]:=I.cell x c e;let#[m,#[g,i,h,a,b,_],_]:=I.loc;rw[z,a] at d;ext d;rw[b] at f;ext f
theorem Inv.Gq(I:Inv X pins σ H s):s.heap.FunFrames X.base X.outer:=by let d:∀(l:!Env),(∀b∈im l,b∈X.fs)->X.s₀.heap.FunFrames X.base l->s.heap.FunFrames X.base l:=(by intro l;induction l with|nil=>intro _ _;trivial|cons h r m=>intro g k;let#[j,#[L,o,a,i,q,p],n]:=k;let f:L∈X.fs:=g L (by delta im;rw[fO,a];erw[aM]);let#[t,e]:=I.base.slot L o q (I.ok.Gb L f) f λz=>I.ok.aaO L z f;erw[j,#[L,_,a,i,e,p],m (λb c=>g b (by delta im;rw[fO,a];erw[aO _ c])) n]);erw[d X.outer (λ_ c=>c) I.ok.Gq]
theorem Inv.stack(I:Inv X pins σ H s):s.heap.FunFrames X.base X.stack:=by obtain e|⟨e,b⟩:=I.ok.stk;rw[e];erw[I.Gq];rw[e];let#[m,a,_]:=I.loc;erw[.cons (by rw[I.ok.kind];decide) b a ?_ I.Gq];erw[Heap.get?_none_of_le (aJ I.ok.nW I.ok.above)]
theorem Inv.HH(I:Inv X pins σ H s):∀b∈im X.stack,b∈X.env.locals::X.fs:=λb a=>by
 obtain e|⟨e,c⟩:=I.ok.stk
 ·rw[e] at a;erw[aO _ a]
 ·rw[e] at a
  delta im at a;rw[fO,c] at a;erw[a]
theorem Inv.Qv(I:Inv X pins σ H s):∀b∈im X.stack,H b=de:=λb hb=>by
 obtain e|hb:=aT.mp (I.HH b hb)
 ·rw[e];erw[I.free]
 ·let#[_,o,a,_]:=I.ok.Gq.mem hb
  erw[I.base.free b o a (I.ok.Gb b hb) λz=>I.ok.aaO b z hb]
theorem Inv.step{g':Array GenState}{t':Nat}{d':Drawn}{ch:!du}(I:Inv X pins σ H s)(f:∀b∈ch,(b∈X.ex\/X.s₀.heap.objs.size<=b)/\b≠X.env.locals/\(∀x c,X.env.cells.lookup x=ac c->c≠b)/\∀p∈X.pn++pins,p.1≠b)(keep:∀b o,b≠X.env.locals->b∉X.fs->b∉ch->s.heap.get? b=ac o->H b=de->h'.get? b=ac o)(slot:∀b o,b≠X.env.locals->b∈X.fs->b∉ch->s.heap.get? b=ac o->H b=de->∃J,h'.get? b=ac {o with slots:=J})(free:∀b o,b∉ch->s.heap.get? b=ac o->H b=de->H' b=de)(there:∀b o,b∉ch->s.heap.get? b=ac o->∃D,h'.get? b=ac D)(tups:∀b y,H b=ac (.tup y)->H' b=ac (.tup y))(Gp:∀b o u,H b=ac (.Y0 o u)->H' b=ac (.Y0 o u))(HG:∀b G,H b=ac (.xA G)->∃E,H' b=ac (.xA (G++E)))(U:∀m,s.heap.Ns X.env.locals m->h'.Ns X.env.locals m)(M:CK X.prog X.w H' h')(R:AllBare g') :Inv X pins σ H' {s with heap:=h',gens:=g',drawn:=d',toks:=t'}:=by let C:∀b o,X.s₀.heap.get? b=ac o->b≠X.env.locals:=λb o e=>bV (b9 (eA e) I.ok.above);let t:∀b o,X.s₀.heap.get? b=ac o->b∉X.ex->b∉ch:=λb o e a A=>(by obtain z|z:=(f b A).1;erw[a z];erw[ff (b9 (eA e) z) (gG _)]);let g:∀x c,X.env.cells.lookup x=ac c->∀v,s.heap.IsCell c v->h'.IsCell c v:=λx c e v ⟨o,B,L⟩=>(by let h:c∉ch:=λz=>(f c z).2.2.1 x c e rfl;by_cases P:c∈X.fs;let#[J,q]:=slot c o (I.Nn x c e) P h B (I.z9 x c e);erw[_,q,L];erw[o,keep c o (I.Nn x c e) P h B (I.z9 x c e),L]);erw[I.ok,I.os,R,#[λb o e n A a=>?_,λb o e n A a=>?_,λb o e n a=>?_,λb o e a=>?_,λb y e=>tups b y (I.base.tups b y e),λb o y e=>Gp b o y (I.base.Gp b o y e),λb G e=>?_],4,λx c e=>?_,4,λx c e=>?_,λp N=>?_,M,I.len];erw[keep b o (C b o e) A (t b o e a) (I.base.keep b o e n A a) (I.base.free b o e n a)];let#[J,j]:=I.base.slot b o e n A a;let#[K,F]:=slot b _ (C b o e) A (t b o e a) j (I.base.free b o e n a);erw[K,F];let#[D,j]:=I.base.there b o e a;erw[free b D (t b o e a) j (I.base.free b o e n a)];let#[D,j]:=I.base.there b o e a;erw[there b D (t b o e a) j];let#[W,j]:=I.base.HG b G e;let#[V,F]:=HG b _ j;erw[W++V,by rw[F,Array.append_assoc]];let#[m,Q,S]:=I.loc;erw[m,U m Q,λi x v j F T=>?_];let#[u,r,l]:=S i x v j F T;erw[u,r,4];obtain l|⟨k,c,e,z⟩:=l;erw[.inl l];erw[.inr #[k,c,e,g x c e _ z]];let#[v,z]:=I.cell x c e;erw[v,g x c e v z];let#[m,#[o,_,_,B,_],_]:=I.loc;erw[free _ o (λz=>(f _ z).2.1 rfl) B I.free];let#[v,o,B,L]:=I.cell x c e;erw[free c o (λz=>(f c z).2.2.1 x c e rfl) B (I.z9 x c e)];let#[e,n,O,nf,d]:=I.pin p N;let h:p.1∉ch:=λz=>(f p.1 z).2.2.2 p N rfl;erw[keep p.1 p.2 O nf h e n,free p.1 p.2 h e n,O,nf,d]
theorem Inv.un{t':Nat}(I:Inv X pins σ H s)(u:Un X.fs [] H H' s.heap h')(g:CK X.prog X.w H' h'):Inv X pins σ H' {s with heap:=h',toks:=t'}:=by let#[m,#[o,t,v,h,r],_]:=id I.loc;let#[p,k]:=u.any h I.free (-_);erw[I.step (g':=s.gens) (d':=s.drawn) (ch:=[]) (λ_ z=>nomatch z) (λb o _ c _ e n=>u.keep b o e n c (-_)) (λb o _ c _ e n=>u.slot b o e n c (-_)) (λb o _ e n=>u.free b o e n (-_)) (λb o _ e=>u.there b o e (-_)) u.tups u.Gp u.HG (λq j=>by let#[l,f,d,a,i]:=j;rw[h] at a;ext a;erw[_,f,d,k,i]) g I.bare]
theorem Inv.call{g':Array GenState}{t':Nat}{d':Drawn}{ch:!du}(I:Inv X pins σ H s)(u:Un (im X.stack) ch H H' s.heap h')(j:CK X.prog X.w H' h')(l:AllBare g')(d:∀b∈ch,(b∈X.ex\/X.s₀.heap.objs.size<=b)/\b≠X.env.locals/\(∀x c,X.env.cells.lookup x=ac c->c≠b)/\∀p∈X.pn++pins,p.1≠b) :Inv X pins σ H' {s with heap:=h',gens:=g',drawn:=d',toks:=t'}:=by let#[m,#[o,C,D,k,r],_]:=id I.loc;let#[A,i]:=u.any k I.free λz=>(d _ z).2.1 rfl;erw[I.step (ch:=ch) d (λb o i q a e n=>u.keep b o e n (λz=>(aT.mp (I.HH b z)).elim i q) a) (λb o _ _ a e n=>u.any e n a) (λb o a e n=>u.free b o e n a) (λb o a e=>u.there b o e a) u.tups u.Gp u.HG (λB v=>by let#[y,h,g,f,t]:=v;rw[k] at f;ext f;erw[_,h,g,i,t]) j l]
theorem Inv.turned{t':Nat}{a:du}(I:Inv X pins σ H s)(k:∀b o,b≠a->s.heap.get? b=ac o->h'.get? b=ac o)(i:H a=de)(g:a≠X.env.locals)(l:a∈X.ex\/X.s₀.heap.objs.size<=a)(h:∀x c,X.env.cells.lookup x=ac c->c≠a)(A:∀p∈X.pn++pins,p.1≠a):Inv X pins σ H {s with heap:=h',toks:=t'}:=by let f:∀b u,H b=ac u->b≠a:=λb u e z=>(by rw[z,i] at e;ext e);erw[I.step (g':=s.gens) (d':=s.drawn) (ch:=[a]) (λb j=>?_) (λb o _ _ d e _=>k b o (λz=>d (by simp[z])) e) (λb o _ _ d e _=>#[o.slots,k b o (λz=>d (by simp[z])) e]) (λ_ _ _ _ n=>n) (λb o d e=>#[o,k b o (λz=>d (by simp[z])) e]) (λ_ _ e=>e) (λ_ _ _ e=>e) (λb C e=>#[[].toArray,by rw[e];simp]) (λm y=>?_) (λb u e=>?_) I.bare];let e:b=a:=j⁻¹;subst e;erw[l,g,h,A];let#[o,t,B,w,r]:=y;erw[o,t,B,k _ o (cC g) w,r];erw[(I.hok b u e).stay (λc v d q=>k c v ?_ q) (λ_ q=>q) λ_ _ q=>q];obtain z|z:=d;rw[z];erw[f b u e];erw[f c _ z]
def Inv.tok(I:Inv X pins σ H s)(t:Nat):Inv X pins σ H {s with toks:=t}:=I.un (h':=s.heap) (t':=t) Un.refl I.hok
theorem Inv.kept{t':Nat}(I:Inv X pins σ H s)(k:∀b u,s.heap.get? b=ac u->h'.get? b=ac u):Inv X pins σ H {s with heap:=h',toks:=t'}:=I.un (Un.kept k) (I.hok.kept k)
theorem Inv.laid{a:du}{o:HO}{t':Nat}(I:Inv X pins σ H s)(k:∀b u,s.heap.get? b=ac u->h'.get? b=ac u)(d:s.heap.objs.size<=a)(c:jL X.prog X.w (upd H a o) h' a o) :Inv X pins σ (upd H a o) {s with heap:=h',toks:=t'}:=I.un (Un.laid k d (I.hok.fresh d)) (I.hok.laid k d c)
theorem Inv.write{x e:du}{o:HO}{t':Nat}(I:Inv X pins σ H s)(f:kz (H x))(d:e=x\/H e=ac (.own x))(k:∀b u,b≠e->s.heap.get? b=ac u->h'.get? b=ac u)(a:∃u,h'.get? e=ac u)(c:jL X.prog X.w (upd H x o) h' x o):Inv X pins σ (upd H x o) {s with heap:=h',toks:=t'}:=I.un (Un.write f d k a) (I.hok.write f d k a c)
def Inv.W8{a:!(du×Obj)}(I:Inv X pins σ H s)(h:∀p∈a,s.heap.get? p.1=ac p.2/\H p.1=de/\p.1≠X.env.locals/\p.1∉X.fs/\∀v,p.2.data≠.cell v):Inv X a σ H s :=#[I.ok,I.os,I.bare,I.base,I.loc,I.cell,I.free,I.z9,λp b=>(aR.mp b).elim (λz=>I.pin p (dJ _ z)) (h p),I.hok,I.len]
theorem SH{N:!Str}(c:N.Nodup){i j:Nat}(a:N[i]?=ac x)(b:N[j]?=ac x):i=j:=by let#[g,d]:=ai.mp a;let#[f,e]:=ai.mp b;erw[(List.getElem_inj c).mp (d.trans e.symm)]
theorem O9{M:Model}{A:fv}{E:dy->dA->Prop}{i:Nat}{x:Str}{v:V}{u:dy}{Q:Unit->dA->Prop}(I:Inv X pins σ H s)(hN:X.N.Nodup)(R:X.N[i]?=ac x)(t:Loc X.env.scope x)(r:RelV v u)(h:∀s',Inv X pins (σ.set i (ac v)) H s'->(∃a,Heap.SameBut a s.heap s'.heap/\(a=X.env.locals\/X.env.cells.lookup x=ac a))->Q () s')(hf:X.fn x=df\/X.env.scope.names.lookup x=ac .local:=by w_up):fg M A (storeName X.env x u) Q E s:=by let#[m,Z,hl]:=id I.loc;let P:(X.env.scope.kind==.class || (X.env.scope.kind==.module&&X.env.locals != X.env.globals))=dr:=(by rw[I.ok.kind];rfl);let K:i<ge σ:=(by rw[I.len];erw[(ai.mp R).1]);let Nn:=I.Nn;let l:∀{a:du}{h':Heap},(∃o,s.heap.get? a=ac o/\H a=de)->Heap.SameBut a s.heap h'->CK X.prog X.w H h':=λ{a h'}ha f b ob e=>(by let#[_,_,B]:=ha;erw[(I.hok b ob e).stay (λc T hc q=>(f.2 c ?_).trans q) (λ_ q=>q) λ_ _ q=>q];rintro rfl;obtain rfl|hc:=hc;rw[B] at e;ext e;rw[B] at hc;ext hc);obtain hk|hk:=t;erw[wpAny_storeName_local hk Z (λh' ab f=>?_) P];let#[oL,_,_,ad,_]:=id Z;erw[h _ #[I.ok,I.os,I.bare,#[λb o e n F t=>?_,λb o e n F t=>?_,I.base.free,λb o e t=>?_,I.base.tups,I.base.Gp,I.base.HG],#[_,ab,λj y v' g C e3=>?_],λy c e=>?_,I.free,I.z9,λp Y=>?_,l #[oL,ad,I.free] f,by simpa using I.len] #[_,f,.inl rfl]];erw[(f.2 b (bV (b9 (eA e) I.ok.above))).trans (I.base.keep b o e n F t)];let#[sl,g]:=I.base.slot b o e n F t;erw[sl,(f.2 b (bV (b9 (eA e) I.ok.above))).trans g];let#[W,g]:=I.base.there b o e t;erw[W,(f.2 b (bV (b9 (eA e) I.ok.above))).trans g];by_cases G:j=i;subst G;rw[R] at g;ext g;rw[List.getElem?_set_self K] at C;ext C;erw[u,r,.inl #[hk,-_]];rw[List.getElem?_set_ne (cC G)] at C;let#[u',r',q]:=hl j y v' g C e3;erw[u',r',4];obtain⟨k,e⟩|⟨k,c,e,z⟩:=q;erw[.inl #[k,4]];let:y≠x:=λe=>G (SH hN g (e▸R));simp[this,e];erw[.inr #[k,c,e,z.sameBut f (Nn y c e)]];let#[T,z]:=I.cell y c e;erw[T,z.sameBut f (Nn y c e)];let#[e,n,U,nf,d]:=I.pin p Y;erw[(f.2 p.1 U).trans e,n,U,nf,d];let D:X.fn x=df:=(by obtain z|z:=hf;erw[z];rw[z] at hk;ext hk);let#[c,hc]:=I.ok.has x (.inl hk);let#[T,z]:=I.cell x c hc;erw[wpAny_storeName_cell I.ok.kind hk hc z (λh' O f=>?_)];let#[oc,L,aa]:=id z;erw[h {s with heap:=h'} #[I.ok,I.os,I.bare,#[λb o e n F t=>?_,λb o e n F t=>?_,I.base.free,λb o e t=>?_,I.base.tups,I.base.Gp,I.base.HG],#[m,Z.sameBut f (cC (Nn x c hc)),λj y v' g C e3=>?_],λy S e=>?_,I.free,I.z9,λp Y=>?_,l #[oc,L,I.z9 x c hc] f,by simpa using I.len] #[c,f,.inr hc]];erw[(f.2 b (bV (b9 (eA e) (I.ok.X7 x c D hc)))).trans (I.base.keep b o e n F t)];let#[sl,g]:=I.base.slot b o e n F t;erw[sl,(f.2 b (bV (b9 (eA e) (I.ok.X7 x c D hc)))).trans g];let#[W,g]:=I.base.there b o e t;erw[W,(f.2 b (bV (b9 (eA e) (I.ok.X7 x c D hc)))).trans g];by_cases G:j=i;subst G;rw[R] at g;ext g;rw[List.getElem?_set_self K] at C;ext C;erw[u,r,.inr #[.inl hk,c,hc,O]];rw[List.getElem?_set_ne (cC G)] at C;let#[u',r',q]:=hl j y v' g C e3;erw[u',r',4];obtain q|⟨k,S,e,z'⟩:=q;erw[.inl q];erw[.inr #[k,S,e,z'.sameBut f ?_]];rintro rfl;erw[G (SH hN g (I.ok.inj _ _ _ e hc▸R))];by_cases J:S=c;subst J;erw[_,O];let#[w2,z2]:=I.cell y S e;erw[w2,z2.sameBut f J];let#[e,n,U,nf,d]:=I.pin p Y;erw[(f.2 p.1 ?_).trans e,n,U,nf,d];intro q;rw[q,L] at e;let q':oc=p.2:=aI e;erw[d T (by rw[<- q'];erw[aa])]
theorem KW{M:Model}{A:fv}{E:dy->dA->Prop}{i:Nat}{x:Str}{v:V}{u:dy}{Q:Unit->dA->Prop}(I:Inv X pins σ H s)(a:X.N.Nodup)(c:X.N[i]?=ac x)(e:Loc X.env.scope x)(r:RelV v u)(h:∀s',Inv X pins (σ.set i (ac v)) H s'->Q () s')(d:X.fn x=df\/X.env.scope.names.lookup x=ac .local:=by w_up):fg M A (storeName X.env x u) Q E s :=O9 I a c e r (λs' b _=>h s' b) d
theorem Inv.af3{s':dA}{ch:!du}(I:Inv X pins σ H s)(f:s'.os=s.os)(u:Un (im X.stack) ch H H' s.heap s'.heap)(a:CK X.prog X.w H' s'.heap)(h:AllBare s'.gens)(d:∀b∈ch,(b∈X.ex\/X.s₀.heap.objs.size<=b)/\b≠X.env.locals/\(∀x c,X.env.cells.lookup x=ac c->c≠b)/\∀p∈X.pn++pins,p.1≠b):Inv X pins σ H' s':=by let#[h',g',d',t',g]:=s';let e:g=s.os:=f;subst e;erw[I.call (g':=g') (t':=t') (d':=d') u a h d]
end
abbrev XK:=dy->Option du->Hp->Prop
abbrev St:=!(Option V)
abbrev VK:=V->Hp->Prop
abbrev TE:=St->Hp->VK->Prop
abbrev TT:=St->Hp->(Bool->Hp->Prop)->Prop
abbrev TA:=St->Hp->(!V->Hp->Prop)->Prop
structure ip where
 nx:St->Hp->Prop
 rt:VK
 bk:St->Hp->Prop:=λ_ _=>False
 ct:St->Hp->Prop:=λ_ _=>False
abbrev TS:=ip->St->Hp->Prop
inductive EP(X:Cx)(pins:!(du×Obj))(σ:St)(Q:VK)(u:dy)(s':dA):Prop
 |mk(v:V)(H':Hp)(a:Inv X pins σ H' s')(b:RelV v u)(c:Q v H'):EP X pins σ Q u s'
inductive TP(X:Cx)(pins:!(du×Obj))(σ:St)(Q:Bool->Hp->Prop)(b:Bool)(s':dA):Prop
 |mk(H':Hp)(a:Inv X pins σ H' s')(c:Q b H'):TP X pins σ Q b s'
inductive AP(X:Cx)(pins:!(du×Obj))(σ:St)(Q:!V->Hp->Prop)(us:!dy)(s':dA):Prop
 |mk(vs:!V)(H':Hp)(a:Inv X pins σ H' s')(b:cO vs us)(c:Q vs H'):AP X pins σ Q us s'
def SP(X:Cx)(pins:!(du×Obj))(D:ip)(f:Flow)(s':dA):Prop:=
 match f with
 |.next=>∃σ' H',Inv X pins σ' H' s'/\D.nx σ' H'
 |.brk=>∃σ' H',Inv X pins σ' H' s'/\D.bk σ' H'
 |.cont=>∃σ' H',Inv X pins σ' H' s'/\D.ct σ' H'
 |.ret u=>∃v σ' H',Inv X pins σ' H' s'/\RelV v u/\D.rt v H'
def PE(X:Cx)(e:Expr)(t:TE):Prop:=
 ∀(pins:!(du×Obj))(s:dA)(σ:St)(H:Hp)(Q:VK),Inv X pins σ H s->t σ H Q->fg (model X.prog X.w) X.A (eval e X.env) (EP X pins σ Q) X.xe s
def PT(X:Cx)(e:Expr)(t:TT):Prop:=
 ∀(pins:!(du×Obj))(s:dA)(σ:St)(H:Hp)(Q:Bool->Hp->Prop),Inv X pins σ H s->t σ H Q->fg (model X.prog X.w) X.A (isTrue e X.env (eval e X.env)) (TP X pins σ Q) X.xe s
def PW(X:Cx)(e:Expr)(t:TT):Prop:=
 ∀(whole:Sem dy)(pins:!(du×Obj))(s:dA)(σ:St)(H:Hp)(Q:Bool->Hp->Prop),Inv X pins σ H s->t σ H Q->fg (model X.prog X.w) X.A (isTrue e X.env whole) (TP X pins σ Q) X.xe s
def PW.pt(h:PW X e t):PT X e t:=h _
def PA(X:Cx)(es:!Expr)(t:TA):Prop:=
 ∀(pos:Pos)(pins:!(du×Obj))(s:dA)(σ:St)(H:Hp)(Q:!V->Hp->Prop),Inv X pins σ H s->t σ H Q->fg (model X.prog X.w) X.A (spliced (backTo pos (eP es X.env))) (AP X pins σ Q) X.xe s
def PS(X:Cx)(st:Stmt)(t:TS):Prop:=
 ∀(pins:!(du×Obj))(s:dA)(σ:St)(H:Hp)(D:ip),Inv X pins σ H s->t D σ H->fg (model X.prog X.w) X.A (exec st X.env) (SP X pins D) X.xe s
def iR(X:Cx)(st:!Stmt)(t:TS):Prop:=
 ∀(pins:!(du×Obj))(s:dA)(σ:St)(H:Hp)(D:ip),Inv X pins σ H s->t D σ H->fg (model X.prog X.w) X.A (execs st X.env) (SP X pins D) X.xe s
def iS{c:Type}{t:Sem c}{Q b:c->dA->Prop}{M:Model}{A:fv}{E:dy->dA->Prop}{s:dA}(h:fg M A t Q E s)(d:∀a s,Q a s->b a s):fg M A t b E s:=wpAny_mono h d λ_ _ x=>x
section
variable{X:Cx}
inductive Qw(i:Nat)(σ:St)(H:Hp)(Q:VK):Prop
 |mk(v:V)(a:σ[i]?=ac (ac v))(b:Q v H):Qw i σ H Q
def tC(v:V):TE:=λ_ H Q=>Q v H
theorem WP{i:Nat}(p:X.N[i]?=ac x)(q:my X.env.scope x)(g:(x==("__debug__" : Str))=dr:=by decide)(f:(x==("__classdict__" : Str))=dr:=by decide):PE X (.Name x pos) (Qw i):=by intro d s k H Q I h;let#[v,e,h]:=h;let#[m,n,o]:=I.loc;let#[u,r,l]:=o i x v p e q;let b:EP X d k Q u s:=#[v,H,I,r,h];obtain⟨hk,t⟩|⟨hk,c,j,a⟩:=l;erw[wpAny_Name (wpAny_loadName_local I.ok.kind hk n t b) g];obtain hk|hk:=hk;erw[wpAny_Name (wpAny_loadName_cell I.ok.kind hk j a b) g];erw[wpAny_Name (wpAny_loadName_free I.ok.kind hk j a b f) g]
def aF{i j pos}:PE X (.Constant (.int i) j pos) (tC (.int i)):=λ_ _ _ H _ I h=>wpAny_Constant_int #[.int i,H,I.tok _,#[1],h]
def KY{b j pos}:PE X (.Constant (.bool b) j pos) (tC (.bl b)):=λ_ _ _ H _ I h=>Constant_bool #[.bl b,H,I,2,h]
def pI{j pos}:PE X (.Constant .none j pos) (tC .gw):=λ_ _ _ H _ I h=>Constant_none #[.gw,H,I,2,h]
def bH{x j pos}:PE X (.Constant (.str x) j pos) (tC (.str x)):=λ_ _ _ H _ I h=>Calls.Constant_str #[.str x,H,I.tok _,#[1],h]
def Gl(X:Cx)(x:Str):Prop:=X.env.kindOf x=ac .globalImplicit
theorem Gs{E:dy->dA->Prop}{a:!(du×Obj)}{s:dA}{c:St}{H:Hp}{x:Str}{u:dy}{b:Pos}{Q:dy->dA->Prop}(I:Inv X a c H s)(e:Gl X x)(d:X.mg x=ac u)(h:Q u s)(f:(x==("__debug__" : Str))=dr:=by decide):fg (model X.prog X.w) X.A (eval (.Name x b) X.env) Q E s :=Calls.Name_function_global I.ok.kind e (Calls.loadGlobal_global (by rw[I.ok.glob];erw[I.mod.glob.keeps I.bk]) d h) f
theorem Qx{E:dy->dA->Prop}{a:!(du×Obj)}{s:dA}{c:St}{H:Hp}{x:Str}{u:dy}{b:Pos}{Q:dy->dA->Prop}(I:Inv X a c H s)(f:Gl X x)(k:X.mg x=de)(i:bootBuiltins x=ac u)(h:Q u s) (e:x≠"__name__" := by decide) (j:(x==("__debug__" : Str))=dr:=by decide):fg (model X.prog X.w) X.A (eval (.Name x b) X.env) Q E s:=by let#[l,g,d]:=I.mod.blt;erw[Calls.Name_function_global I.ok.kind f (Calls.loadGlobal_builtin (by rw[I.ok.glob];erw[I.mod.glob.keeps I.bk]) k (by rw[I.ok.blt];erw[g.keeps I.bk]) ((d x e).trans i) h) j]
theorem je(b:Gl X x)(a:X.mg x=ac u)(r:RelV v u)(c:(x==("__debug__" : Str))=dr:=by decide):PE X (.Name x pos) (tC v) :=λ_ _ _ H _ I h=>Gs I b a #[v,H,I,r,h] c
variable{a b:Expr}{ta tb:TE}{pos:Pos}
def PC(X:Cx)(op:CmpOp)(a b:Expr)(t:TE):Prop:=
 ∀(pins:!(du×Obj))(s:dA)(σ:St)(H:Hp)(Q:VK),Inv X pins σ H s->t σ H Q ->
  fg (model X.prog X.w) X.A (eval a X.env) (λv s₁=>fg (model X.prog X.w) X.A (eval b X.env) (λu s₂=>fg (model X.prog X.w) X.A (fa op v u) (EP X pins σ Q) X.xe s₂) X.xe s₁) X.xe s
inductive ss(Q:Bool->Hp->Prop)(x:V)(H1:Hp):Prop
 |mk(c:Bool)(a:x=.bl c)(b:Q c H1):ss Q x H1
def tB(t:TE):TT:=λσ H Q=>t σ H (ss Q)
theorem Dx(h:PC X op a b t)(f:behindInMarks op b=dr:=by rfl):PT X (.Compare a [op] [b] pos) (tB t):=by intro e s g H Q I n;erw[wpAny_isTrue_Compare1 (iS (h e s g H _ I n) λv r f=>iS f λu p i=>iS i λc o u_=>?_) f];let#[x,k,l,m,j]:=u_;let#[d,rfl,q]:=j;ext m;erw[wpAny_truthy_bool #[k,l,q]]
theorem mT(h:PE X e t)(l:∀a,isTrue e X.env a=(do let v <- a;standAt e.pos;holding [v] (truthy v)):=by intro _;rfl):PT X e (tB t):=by intro b s c H Q I k;erw[isTrue_plain (iS (h b s c H _ I k) λv m u_=>?_) (l _)];let#[x,g,i,j,f]:=u_;let#[d,rfl,q]:=f;ext j;erw[wpAny_truthy_bool #[g,i,q]]
variable{tA tB':TT}{rest:!Expr}
def HI(t u:TT):TT:=λσ H Q=>t σ H λc H1=>if c=df then u σ H1 Q else Q dr H1
def Fs(t u:TT):TT:=λσ H Q=>t σ H λc H1=>if c=df then Q df H1 else u σ H1 Q
def Hn(t:TT):TT:=λσ H Q=>t σ H λc H1=>Q (c.not) H1
theorem qk(d:PT X a tA):PW X (.BoolOp .And [a] pos) tA:=by intro g b s f H Q I h;erw[isTrue_and (iS (d b s f H Q I h) λc i e=>?_)];cases c with|true=>erw[isTrue_and_nil e]|false=>erw[e]
theorem HJ(d:PT X a tA):PW X (.BoolOp .Or [a] pos) tA:=by intro g b s f H Q I h;erw[isTrue_or (iS (d b s f H Q I h) λc i e=>?_)];cases c with|false=>erw[isTrue_or_nil e]|true=>erw[e]
theorem wu(l:PT X a tA)(j:PW X (.BoolOp .And (b::rest) pos) tB'):PW X (.BoolOp .And (a::b::rest) pos) (HI tA tB'):=by intro m d s e H Q I h;erw[isTrue_and (iS (l d s e H _ I h) λc k u_=>?_)];let#[g,i,f]:=u_;cases c with|true=>erw[j m d k e g Q i f]|false=>erw[g,i,f]
theorem Pa(l:PT X a tA)(j:PW X (.BoolOp .Or (b::rest) pos) tB'):PW X (.BoolOp .Or (a::b::rest) pos) (Fs tA tB'):=by intro m d s e H Q I h;erw[isTrue_or (iS (l d s e H _ I h) λc k u_=>?_)];let#[g,i,f]:=u_;cases c with|true=>erw[g,i,f]|false=>erw[j m d k e g Q i f]
theorem ki(g:PT X a tA):PT X (.UnaryOp .Not a pos) (Hn tA):=by intro b s e H Q I h;erw[isTrue_not (iS (g b s e H (λc d=>Q (c.not) d) I h) λ_ _ ⟨d,f,i⟩=>#[d,f,i])]
def Pm(ta tb:TE):TE:=λσ H Q=>ta σ H λx H1=>∃c,x=.bl c/\if c=df then tb σ H1 Q else Q (.bl dr) H1
def Pl(ta:TE):TE:=λσ H Q=>ta σ H λx H1=>∃c,x=.bl c/\Q (.bl (c.not)) H1
def Vs{op}{t:TE}(h:PE X a t):PE X (.BoolOp op [a] pos) t:=λb s c H Q I d=>BoolOp_one (h b s c H Q I d)
theorem Qy(m:PE X a ta)(j:PE X (.BoolOp .And (b::rest) pos) tb):PE X (.BoolOp .And (a::b::rest) pos) (Pm ta tb):=by intro d s f H Q I h;erw[BoolOp_and (iS (m d s f H _ I h) λv k u_=>?_)];let#[x,g,i,l,e]:=u_;let#[c,rfl,e]:=e;ext l;erw[wpAny_truthy_bool ?_];cases c with|true=>erw[j d k f g Q i e]|false=>erw[.bl dr,g,i,2,e]
theorem WF(i:PE X a ta):PE X (.UnaryOp .Not a pos) (Pl ta):=by intro b s f H Q I h;erw[UnaryOp_ (iS (i b s f H _ I h) λv k u_=>?_)];let#[x,e,g,j,d]:=u_;let#[c,rfl,d]:=d;ext j;erw[not_of (wpAny_truthy_bool #[.bl (c.not),e,g,2,d])]
def Fu(t:TT)(ta tb:TE):TE:=λσ H Q=>t σ H λc H1=>if c=df then ta σ H1 Q else tb σ H1 Q
theorem lG(n:PT X c tA)(l:PE X a ta)(m:PE X b tb):PE X (.IfExp c a b pos) (Fu tA ta tb):=by intro e s f H Q I h;erw[wpAny_IfExp (iS (n e s f H _ I h) λd k u_=>?_)];let#[g,i,j]:=u_;cases d with|true=>erw[l e k f g Q i j]|false=>erw[m e k f g Q i j]
end
def bJ(K:ah)(H:Hp)(a:du)(xs:!V):Prop:=
 Rd H a (.lst xs) \/
  ∃(o:Obj)(its:Array dy)(n:Nat),K.lookup a=ac o/\o.cls=.type "list" /\ o.dict=de/\o.data=.seq its n/\its.size<=eD/\cO xs its.toList
def dH(K:ah)(H:Hp)(a:du)(xs:!V):Prop:=
 Rd H a (.tup xs) \/
  ∃(o:Obj)(its:Array dy)(n:Nat),K.lookup a=ac o/\o.cls=.type "tuple" /\ o.data=.seq its n/\its.size<=eD/\cO xs its.toList
noncomputable def Kt:dy->Option V
 |.none=>ac .gw
 |.bool b=>ac (.bl b)
 |.int i _=>ac (.int i)
 |.str x _=>ac (.str x)
 |.bytes b _=>ac (.W6 b)
 |.float b _=>ac (.flt b)
 |.ref a=>ac (.ref a)
 |.type n=>ac (.ty n)
 |_=>de
theorem RelV.abs(r:RelV x u):Kt u=ac x:=by cases x with|gw=>ext r;rfl|bl _=>ext r;rfl|int _=>let#[t,rfl]:=r;rfl|str _=>let#[t,rfl]:=r;rfl|W6 _=>let#[t,rfl]:=r;rfl|flt _=>let#[t,rfl]:=r;rfl|ref _=>ext r;rfl|ty _=>ext r;rfl
def RelV.inj(r:RelV x u)(q:RelV y u):x=y:=aI (r.abs.symm.trans q.abs)
theorem cO.inj:∀{xs a:!V}{us:!dy},cO xs us->cO a us->xs=a
 |_,_,_,.nil,.nil=>rfl
 |_,_,_,.cons r t,.cons b t'=>by rw[r.inj b,cO.inj t t']
section
variable{X:Cx}{pins:!(du×Obj)}{σ:St}{H:Hp}{s:dA}{a:du}{xs ys:!V}
def bJ.of{K:ah}(h:H a=ac (.lst xs)):bJ K H a xs:=.inl (.inl h)
def dH.of{K:ah}(h:H a=ac (.tup xs)):dH K H a xs:=.inl (.inl h)
theorem Inv.list(I:Inv X pins σ H s)(h:bJ X.K H a xs):∃b:!dy,cO xs b/\PlainL s.heap a b.toArray/\ge xs<=eD:=by obtain h|⟨o,b,n,d,c,g,f,i,r⟩:=h;let#[z,b,n,r,e]:=h.ok I.hok;erw[b,r,#[_,n,e,222],z];erw[b.toList,r,#[o,n,I.NI a o d,c,g,by simpa using f],4];let e:=r.length;simp only[eK] at e;lia
theorem Inv.tuple(I:Inv X pins σ H s)(h:dH X.K H a xs):∃b:!dy,cO xs b/\IsTup s.heap a b.toArray/\ge xs<=eD:=by obtain h|⟨o,b,n,d,c,f,g,r⟩:=h;let#[z,b,r,p]:=h.ok I.hok;erw[b,r,p,z];erw[b.toList,r,#[o,I.NI a o d,c,n,by simpa using f],4];let e:=r.length;simp only[eK] at e;lia
theorem Inv.KZ(I:Inv X pins σ H s)(h:bJ X.K H a xs)(h':bJ X.K H a ys):xs=ys:=by
 let#[c,r,#[o,n,e,_,_,d],_]:=I.list h;let#[b,i,#[j,k,g,_,_,f],_]:=I.list h';rw[e] at g;ext g;rw[d] at f;injection f with d1 _
 let:c=b:=(by simpa using gZ Array.toList d1);subst this;erw[r.inj i]
theorem Inv.Y5(I:Inv X pins σ H s)(h:dH X.K H a xs)(h':dH X.K H a ys):xs=ys:=by
 let#[c,r,#[o,e,_,n,d],_]:=I.tuple h;let#[b,i,#[j,g,_,k,f],_]:=I.tuple h';rw[e] at g;ext g;rw[d] at f;injection f with d1 _
 let:c=b:=(by simpa using gZ Array.toList d1);subst this;erw[r.inj i]
end
noncomputable abbrev Cx.NJ(X:Cx)(E:dy->dA->Prop):Cx:={X with xe:=E}
noncomputable abbrev Cx.z0(X:Cx):Cx:=X.NJ λ_ _=>False
theorem Cx.Ok.NJ{X:Cx}(ok:X.Ok)(E:dy->dA->Prop):(X.NJ E).Ok :=#[ok.mod,ok.kind,ok.glob,ok.blt,ok.above,ok.inj,ok.has,ok.X7,ok.hd,ok.frames,ok.stk,ok.exf,ok.bs,ok.nW,ok.Y4,ok.aaO,ok.Gq,ok.Gb]
def Cx.Ok.CL{X:Cx}(ok:(X.NJ E).Ok):X.Ok :=#[ok.mod,ok.kind,ok.glob,ok.blt,ok.above,ok.inj,ok.has,ok.X7,ok.hd,ok.frames,ok.stk,ok.exf,ok.bs,ok.nW,ok.Y4,ok.aaO,ok.Gq,ok.Gb]
section
variable{X:Cx}{pins:!(du×Obj)}{σ:St}{H:Hp}{s:dA}{E:dy->dA->Prop}
theorem Inv.NJ(I:Inv X pins σ H s)(E:dy->dA->Prop):Inv (X.NJ E) pins σ H s:=#[I.ok.NJ E,I.os,I.bare,I.base,I.loc,I.cell,I.free,I.z9,I.pin,I.hok,I.len]
theorem Inv.CL(I:Inv (X.NJ E) pins σ H s):Inv X pins σ H s:=#[I.ok.CL,I.os,I.bare,I.base,I.loc,I.cell,I.free,I.z9,I.pin,I.hok,I.len]
theorem SP.CL(h:SP (X.NJ E) pins D f s'):SP X pins D f s':=by cases f with|next=>let#[a,b,I,q]:=h;erw[a,b,I.CL,q]|brk=>let#[a,b,I,q]:=h;erw[a,b,I.CL,q]|cont=>let#[a,b,I,q]:=h;erw[a,b,I.CL,q]|ret u=>let#[v,a,b,I,r,q]:=h;erw[v,a,b,I.CL,r,q]
theorem iR.z0{st:!Stmt}(h:iR X.z0 st t):iR X st t:=λpins s σ H D I a => wpAny_mono (h pins s σ H D (I.NJ _) a) (λ_ _ q=>q.CL) λ_ _ z=>mS z
end
section
variable{X:Cx}{st:Stmt}{rest:!Stmt}{t u:TS}{e:Expr}{te:TE}{pos:Pos}
def SI:TS:=λD σ H=>D.nx σ H
def mx(t u:TS):TS:=λD σ H=>t {D with nx:=u D} σ H
def bR:iR X [] SI:=λ_ _ a H _ I h=>wpAny_execs_nil #[a,H,I,h]
theorem au(i:PS X st t)(d:iR X rest u):iR X (st::rest) (mx t u):=by intro a s c H D I h;erw[wpAny_execs_cons (iS (i a s c H {D with nx:=u D} I h) λf g q=>?_)];cases f with|next=>let#[b,j,e,q]:=q;erw[d a g b j D e q]|ret v=>erw[q]|brk=>erw[q]|cont=>erw[q]
theorem b6(c:PS X st t):iR X [st] t:=by intro a s b H D I h;erw[wpAny_execs_cons (iS (c a s b H D I h) λf d q=>?_)];cases f with|next=>erw[wpAny_execs_nil q]|ret v=>erw[q]|brk=>erw[q]|cont=>erw[q]
theorem Inv.quiet{H:Hp}(I:Inv X pins σ H s):interactive X.env=dr:=by simp[interactive,I.ok.kind]
def xc(te:TE):TS:=λD σ H=>te σ H λ_ H1=>D.nx σ H1
theorem fC(f:PE X e te)(hs:swapsWith e de pos.line X.env=pure dr:=by rfl):PS X (.Expr e pos) (xc te):=by intro a s b H D I h;erw[wpAny_Expr_any (iS (f a s b H _ I h) λv i ⟨x,c,d,j,g⟩=>#[b,c,d,g]) I.quiet hs]
def pz(te:TE):TS:=λD σ H=>te σ H D.rt
theorem Do(f:PE X e te):PS X (.Return (ac e) pos) (pz te):=by intro a s b H D I h;erw[wpAny_Return_some (iS (f a s b H _ I h) λv j ⟨x,c,d,i,g⟩=>#[x,b,c,d,i,g])]
def py(c:TT)(t u:TS):TS:=λD σ H=>c σ H λb H1=>if b=df then t D σ H1 else u D σ H1
theorem cV(n:PT X c tc)(l:iR X a t)(m:iR X b u):PS X (.If c a b pos) (py tc t u):=by intro e s f H D I h;erw[wpAny_If (iS (n e s f H _ I h) λd k u_=>?_)];let#[g,i,j]:=u_;cases d with|true=>erw[l e k f g D i j]|false=>erw[m e k f g D i j]
def U2:TS:=λ_ _ _=>False
def dO:iR X sts U2:=λ_ _ _ _ _ _ h=>h.elim
end
abbrev TG:=V->St->Hp->(St->Hp->Prop)->Prop
abbrev R1:=!V->St->Hp->(St->Hp->Prop)->Prop
def PG(X:Cx)(target:Expr)(t:TG):Prop:=
 ∀(pins:!(du×Obj))(s:dA)(σ:St)(H:Hp)(v:V)(u:dy)(Q:St->Hp->Prop),Inv X pins σ H s->RelV v u->t v σ H Q ->
  fg (model X.prog X.w) X.A (assign target X.env u) (λ_ s'=>∃σ' H',Inv X pins σ' H' s'/\Q σ' H') X.xe s
def j8(X:Cx)(ts:!Expr)(t:R1):Prop:=
 ∀(pins:!(du×Obj))(s:dA)(σ:St)(H:Hp)(vs:!V)(us:!dy)(Q:St->Hp->Prop),Inv X pins σ H s->cO vs us->t vs σ H Q ->
  fg (model X.prog X.w) X.A (assignInOrder ((assignEach ts X.env).map (·.2)) us) (λ_ s'=>∃σ' H',Inv X pins σ' H' s'/\Q σ' H') X.xe s
abbrev px:=V->V->V->Hp->(Hp->Prop)->Prop
def vr(X:Cx)(t:px):Prop:=
 ∀(pins:!(du×Obj))(s:dA)(σ:St)(H:Hp)(o i v:V)(ov iv u:dy)(Q:Hp->Prop),Inv X pins σ H s->RelV o ov->RelV i iv->RelV v u->t o i v H Q ->
  fg (model X.prog X.w) X.A (setItem ov iv u) (λ_ s'=>∃H',Inv X pins σ H' s'/\Q H') X.xe s
abbrev mB:=V->V->Hp->VK->Prop
def EQ(X:Cx)(op:Operator)(t:mB):Prop:=
 ∀(pins:!(du×Obj))(s:dA)(σ:St)(H:Hp)(x y:V)(v u:dy)(Q:VK),Inv X pins σ H s->RelV x v->RelV y u->t x y H Q ->
  fg (model X.prog X.w) X.A (inplaceOp op v u) (EP X pins σ Q) X.xe s
section
variable{X:Cx}{pos:Pos}
def iU(i:Nat):TG:=λv σ H Q=>Q (σ.set i (ac v)) H
theorem W9{i:Nat}(b:X.N.Nodup)(d:X.N[i]?=ac x)(f:Loc X.env.scope x)(e:X.fn x=df\/X.env.scope.names.lookup x=ac .local:=by w_up):PG X (.Name x pos) (iU i):=by intro a s g H v u Q I r h;erw[wpAny_assign_Name (KW I b d f r (λj c=>#[_,H,c,h]) e)]
def Kk:R1:=λvs σ H Q=>vs=[]/\Q σ H
inductive xb(t:TG)(u:R1)(vs:!V)(σ:St)(H:Hp)(Q:St->Hp->Prop):Prop
 |mk(v:V)(r:!V)(a:vs=v::r)(b:t v σ H λσ' H'=>u r σ' H' Q):xb t u vs σ H Q
theorem Qz:j8 X [] Kk:=by intro a s b H c d Q I r h;let#[e,h]:=h;subst e;ext r;erw[assignInOrder_nil #[b,H,I,h]]
theorem Aa{e:Expr}{b:!Expr}{t:TG}{u:R1}(n:PG X e t)(f:j8 X b u)(hs:(assignEach (e::b) X.env).map (·.2)=assign e X.env::(assignEach b X.env).map (·.2):=by rfl):j8 X (e::b) (xb t u):=by intro a s d H o q Q I r h;let#[v,p,j,h]:=h;subst j;cases r with|cons r g=>rw[hs];erw[assignInOrder_cons (iS (n a s d H _ _ _ I r h) λ_ m u_=>?_)];let#[c,k,l,i]:=u_;erw[f a m c k _ _ Q l g i]
inductive pu(K:ah)(n:Nat)(t:R1)(v:V)(σ:St)(H:Hp)(Q:St->Hp->Prop):Prop
 |mk(a:du)(xs:!V)(h1:v=.ref a)(h2:dH K H a xs)(h3:ge xs=n)(h4:t xs σ H Q):pu K n t v σ H Q
theorem Vt{d:!Expr}{k:Nat}{t:R1}{n:Nat}(A:X.calm=df)(h:j8 X d t)(q:ge (assignEach d X.env)=n:=by rfl)(g:(assignEach d X.env).findIdx? (·.1)=de:=by rfl):PG X (.Tuple d k pos) (pu X.K n t):=by intro c s i H v u Q I r f;let#[a,B,l,w,y,f]:=f;subst l;ext r;let#[z,j,C,D]:=I.tuple w;erw[assign_Tuple_tuple (I.ok.hd A) C (by simp[q,<- y,j.length]) g λx m=>?_];let p:Inv X c i H {s with heap:=x}:=I.kept (t':=s.toks) λb o e=>m b o (bV (eA e)) e;erw[h c _ i H B _ Q p j⁻¹ f]
def Kj(to ti:TE)(t:px):TG:=λv σ H Q=>to σ H λo H1=>ti σ H1 λi H2=>t o i v H2 λH3=>Q σ H3
theorem HK{o i:Expr}{to e:TE}{t:px}(A:PE X o to)(E:PE X i e)(hs:vr X t)
 (B:∀v,assign (.Subscript o i pos) X.env v=(do
  let b <- holding [v] (eval o X.env);let c <- holding [v,b] (eval i X.env)
  standAt pos
  holding [v,b,c] (setItem b c v)
  release [v,b,c] []):=by intro _;rfl):PG X (.Subscript o i pos) (Kj to e t):=by intro a s d H v u Q I r h;rw[B];erw[dC (wpAny_holding (iS (A a s d H _ I h) λb p u_=>?_))];let#[x,k,l,q,f]:=u_;erw[dC (wpAny_holding (iS (E a p d k _ l f) λc m u_=>?_))];let#[y,z,w,C,D]:=u_;erw[dC (wpAny_standAt (dC (wpAny_holding (iS (hs a m d z x y v b c u _ w q C r D) λ_ F u_=>?_))))];let#[n,g,j]:=u_;erw[wpAny_release #[d,n,g,j]]
def mm(te:TE)(g:TG):TS:=λD σ H=>te σ H λx H1=>g x σ H1 D.nx
theorem HL{b e:Expr}{d:TE}{g:TG}(o:PE X e d)(k:PG X b g)(hs:swapsWithSole [b] e pos.line X.env=pure dr:=by rfl)(n:swappedStores [b] e X.env=pure de:=by rfl)(p:(assignEach [b] X.env).map (·.2)=[assign b X.env]:=by rfl):PS X (.Assign [b] e pos) (mm d g):=by intro a s c H D I h;erw[wpAny_Assign_stores (iS (o a s c H _ I h) λv l u_=>?_) hs n];let#[x,i,j,m,f]:=u_;rw[p];erw[iS (k a l c i x v _ j m f) λ_ r q=>q]
theorem UV{i:Nat}{x:Str}{e:Expr}{c:TE}{a:Pos}(p:X.N.Nodup)(q:X.N[i]?=ac x)(j:Loc X.env.scope x)(n:PE X e c)(hs:swapsWith e (ac (.Name x a)) pos.line X.env=pure dr:=by rfl)(g:X.fn x=df\/X.env.scope.names.lookup x=ac .local:=by w_up) :PS X (.Assign [.Name x a] e pos) (mm c (iU i)):=by intro b s d H D I h;erw[wpAny_Assign_Name (iS (n b s d H _ I h) λv t u_=>?_) hs];let#[y,k,l,m,f]:=u_;erw[KW l p q j m (λr o=>#[_,k,o,f]) g]
def Ki(i:Nat)(te:TE)(ti:mB):TS:=λD σ H=>∃x,σ[i]?=ac (ac x)/\te σ H λy H1=>ti x y H1 λz H2=>D.nx (σ.set i (ac z)) H2
theorem UF{i:Nat}{x:Str}{e:Expr}{q:TE}{op:Operator}{p:mB}{f:Pos}(S:X.N.Nodup)(B:X.N[i]?=ac x)(j:Loc X.env.scope x)(Q:PE X e q)(V:EQ X op p)(G:X.fn x=df\/X.env.scope.names.lookup x=ac .local:=by w_up) :PS X (.AugAssign (.Name x f) op e pos) (Ki i q p):=by intro a s o H D I h;let#[v,F,h]:=h;let#[m,L,M]:=I.loc;let n:my X.env.scope x:=(by obtain k|k:=j;erw[.inl k];erw[.inr (.inl k)]);let#[u,r,l]:=M i x v B F n;erw[wpAny_AugAssign_Name ?_];let t:fg (model X.prog X.w) X.A (eval e X.env) (λw d=>fg (model X.prog X.w) X.A (inplaceOp op u w) (λr g=>fg (model X.prog X.w) X.A (storeName X.env x r) (λ_=>SP X a D .next) X.xe g) X.xe d) X.xe s:=(by erw[iS (Q a s o H _ I h) λw O u_=>?_];let#[y,J,K,P,C]:=u_;erw[iS (V a O o J v y u w _ K r P C) λz s2 u_=>?_];let#[zv,T,R,Y,Z]:=u_;erw[KW R S B j Y (λs3 E=>#[_,T,E,Z]) G]);obtain⟨hk,W⟩|⟨hk,c,U,b⟩:=l;erw[wpAny_loadName_local I.ok.kind hk L W t];obtain hk|hk:=hk;erw[wpAny_loadName_cell I.ok.kind hk U b t];obtain k|k:=j;let:X.env.scope.names.lookup x=ac .free:=hk;rw[k] at this;ext this;let:X.env.scope.names.lookup x=ac .free:=hk;rw[k] at this;ext this
def FB(f:Int->Int->Int):mB:=λx y H Q=>∃i j,x=.int i/\y=.int j/\Q (.int (f i j)) H
theorem Uf:EQ X .Add (FB λi j=>i+j):=by intro a s f H x y v u Q I c e h;let#[i,j,b,d,q]:=h;subst b;subst d;let#[t,rfl]:=c;let#[g,rfl]:=e;erw[iadd_int #[.int _,H,I.tok _,#[1],q]]
def Db(c:TT)(tb:TS):TS:=λD σ H=>∃W:Nat->St->Hp->Prop,(∃m,W m σ H)/\∀m σ H,W m σ H ->
 c σ H λb H1=>if b=df then ∃N:St->Hp->Prop,(∀σ' H',N σ' H'->∃m',m'<m/\W m' σ' H')/\tb {D with nx:=N,ct:=N,bk:=D.nx} σ H1 else D.nx σ H1
theorem aaS(t:PassesOwn (model X.prog X.w) X.A X.env X.xe)(L:PT X c tc)(J:iR X body tb):PS X (.While c body [] pos) (Db tc tb):=by intro d s C H D I h;let#[W,#[M,E],j]:=h;erw[wpAny_While (codeAny_whileLoop (λn P=>∃i B,Inv X d i B P/\W n i B) ?_ M #[C,H,I,E])];intro n K ⟨e,u,F,O⟩;erw[wpAny_passesOwn t (iS (L d K e u _ F (j n e u O)) λb G u_=>?_)];let#[z,x,l]:=u_;cases b with|true=>(let#[N,y,l]:=l;rw[eG rfl];erw[wpAny_passesOwn t (iS (J d G e z _ x l) λf Q k=>?_)];cases f with|next=>let#[a,g,m,r]:=k;let#[p,q,o]:=y a g r;erw[p,q,a,g,m,o]|cont=>let#[a,g,m,r]:=k;let#[p,q,o]:=y a g r;erw[p,q,a,g,m,o]|brk=>erw[k]|ret v=>erw[k])|false=>rw[eH aU];erw[wpAny_execs_nil #[e,z,x,l]]
end
structure It where
 go:Nat->Hp->Prop
 NK:Nat->Hp->V->Hp->Prop
 stop:Nat->Hp->Prop
def Gu(X:Cx)(pins:!(du×Obj))(H:Hp)(b:du):Prop:=
 H b=de/\b≠X.env.locals/\b∉X.fs/\(b∈X.ex\/X.s₀.heap.objs.size<=b)/\(∀x c,X.env.cells.lookup x=ac c->c≠b)/\∀p∈X.pn++pins,p.1≠b
theorem Inv.aaT{H d:Hp}{b:du}(I:Inv X pins σ H s)(a:s.heap.objs.size<=b)(f:d b=de):Gu X pins d b:=by erw[f,Nat.ne_of_gt (b9 I.lt a),I.aoU a,.inr (aJ I.sz a),λx c e z=>?_,λp g z=>?_];let#[v,q]:=I.cell x c e;erw[ff (b9 q.lt (by rw[z];erw[a])) (gG _)];erw[ff (b9 (eA (I.pin p g).1) (by rw[z];erw[a])) (gG _)]
structure iq(P:ft)(w:World)(K:ah)(tg:Expr)(J:It)(fp:!du)(it:du)(tn:Nat->Heap->Prop):Prop where
 mem:it∈fp
 obj:∀i h,tn i h->∀b∈fp,∃o,h.get? b=ac o/\∀v,o.data≠.cell v
 keep:∀i h h',tn i h->(∀b∈fp,∀o,h.get? b=ac o->h'.get? b=ac o)->tn i h'
 item:∀(X:Cx),X.prog=P->X.w=w->X.K=K->X.calm=df->∀(i:Nat)(pins:!(du×Obj))(s:dA)(σ:St)(H:Hp)(E:dy->dA->Prop),Inv X pins σ H s->(∀b∈fp,Gu X pins H b)->tn i s.heap->J.go i H ->
  fg (model P w) X.A (pyNext (.ref it)) (λr s1=>∃u,r=ac u /\
   fg (model P w) X.A (letOwnedTupleGo tg (.ref it) u) (λ_ s2=>∃x H',Inv X pins σ H' s2/\RelV x u/\J.NK i H x H'/\tn (i+1) s2.heap/\∀b∈fp,H' b=de) E s1) E s
 done:∀(X:Cx),X.prog=P->X.w=w->X.K=K->X.calm=df->∀(i:Nat)(pins:!(du×Obj))(s:dA)(σ:St)(H:Hp)(E:dy->dA->Prop),Inv X pins σ H s->(∀b∈fp,Gu X pins H b)->tn i s.heap->J.stop i H ->
  fg (model P w) X.A (pyNext (.ref it)) (λr s1=>r=de/\Inv X pins σ H s1) E s
 self:∀(A:fv)(i:Nat)(s:dA)(Q:dy->dA->Prop)(E:dy->dA->Prop),tn i s.heap->Q (.ref it) s->fg (model P w) A (pyIter (.ref it)) Q E s
abbrev TI:=St->Hp->(It->Hp->Prop)->Prop
def Fa(X:Cx)(pins:!(du×Obj))(σ:St)(tg:Expr)(R:It->Hp->Prop)(itv:dy)(s2:dA):Prop:=
 ∃(it:du)(fp:!du)(tn:Nat->Heap->Prop)(J:It)(H':Hp),itv=.ref it/\Inv X pins σ H' s2/\iq X.prog X.w X.K tg J fp it tn/\tn 0 s2.heap/\(∀b∈fp,Gu X pins H' b)/\R J H'
def PI(X:Cx)(tg iter:Expr)(wi:TI):Prop:=
 ∀(pins:!(du×Obj))(s:dA)(σ:St)(H:Hp)(R:It->Hp->Prop),Inv X pins σ H s->wi σ H R ->
  fg (model X.prog X.w) X.A (eval iter X.env) (λv s1=>fg (model X.prog X.w) X.A (pyIter v) (Fa X pins σ tg R) X.xe s1) X.xe s
theorem Xa{M:Model}{A:fv}{E:dy->dA->Prop}{s:dA}{c:Expr}{b:du}{u:dy}{o:Obj}{n:String}{vs:Array dy}{Q:Unit->dA->Prop}(g:s.heap.get? b=ac o)(e:o.cls=.type n)(f:o.data=.fields vs)(d:["enumerate","zip","dict_itemiterator","dict_reverseitemiterator","odict_iterator","itertools.zip_longest","itertools.pairwise"].contains n=dr)(a:Q () s):fg M A (letOwnedTupleGo c (.ref b) u) Q E s:=by
 delta letOwnedTupleGo;ext c <;> first
  |erw[dE a]
  | (ext u <;> first
   |erw[dE a]
   | (refine dC (wpAny_load g ?_)
      rw[e,f];show fg M A (if (["enumerate","zip","dict_itemiterator","dict_reverseitemiterator","odict_iterator","itertools.zip_longest","itertools.pairwise"].contains n&&vs[0]?==ac (rawInt _))=df then _ else _) Q E s;rw[eH (by intro h;rw[d,Bool.false_and] at h;ext h)];erw[dE a]))
noncomputable def QA(K:ah)(a:du):It:=
 #[λi H=>∃xs x,bJ K H a xs/\xs[i]?=ac x,λi H x H'=>H'=H/\∀xs,bJ K H a xs->xs[i]?=ac x,λi H=>∃xs,bJ K H a xs/\ge xs<=i]
noncomputable def mM(K:ah)(a:du):It:=
 #[λi H=>∃xs x,dH K H a xs/\xs[i]?=ac x,λi H x H'=>H'=H/\∀xs,dH K H a xs->xs[i]?=ac x,λi H=>∃xs,dH K H a xs/\ge xs<=i]
noncomputable def nj(lo:Int)(n:Nat):It:=#[λi _=>i<n,λi H x H'=>H'=H/\x=.int (lo+i),λi _=>n<=i]
theorem Y6{P:ft}{w:World}{K:ah}{W:Expr}(a g:du):iq P w K W (QA K a) [g] g (λi h=>h.IsListIter g a i) where
 mem:=-_
 obj:=λi h st b j=>by
  let e:b=g:=j⁻¹
  subst e;let#[o,e,c,d]:=st;exists o,e,λv z=>by rw[d] at z;ext z
 keep:=λi h q st k=>st.at λo e=>k g (-_) o e
 item:=by
  intro X J D r O i f s N H E I m st A;subst J D r;let#[xs,x,n,t]:=A;let#[L,B,p,Z]:=I.list n;let#[u,Q,T]:=B.get t;let#[F,C,S,y,M,G]:=m g (-_);erw[wpAny_pyNext_list_item st p.isList (x:=u) Q⁻¹ λq l U=>?_];let R:Inv X f N H {s with heap:=q}:=I.turned (t':=s.toks) (λb o j e=>(U.2 b j).trans e) F C y M G;let#[o,e,c,d]:=id l;erw[u,2,Xa (s:={s with heap:=q}) e c d (!_) #[x,H,R,T,#[2,λys V=>by rw[I.KZ V n];erw[t]],l,λb j=>(m b j).1]]
 done:=by
  intro X J D r O i f s N H E I m st A;subst J D r;let#[xs,n,t]:=A;let#[L,B,p,Z]:=I.list n;let#[F,C,S,y,M,G]:=m g (-_);let hl:=B.length;erw[wpAny_pyNext_list_end (I.ok.hd O) st p.isList (by simp;lia) λq Y=>#[2,I.turned (t':=s.toks) (λb o j e=>Y b o j e) F C y M G]]
 self:=λ_ _ _ _ _ st h=>wpAny_pyIter_listiter st h
theorem Vu{P:ft}{w:World}{K:ah}{W:Expr}(a g:du):iq P w K W (mM K a) [g] g (λi h=>h.IsTupleIter g a i) where
 mem:=-_
 obj:=λi h st b j=>by
  let e:b=g:=j⁻¹
  subst e;let#[o,e,c,d]:=st;exists o,e,λv z=>by rw[d] at z;ext z
 keep:=λi h r st k=>st.at λo e=>k g (-_) o e
 item:=by
  intro X L F t O i f s N H E I n st B;subst L F t;let#[xs,x,q,y]:=B;let#[l,C,p,Z]:=I.tuple q;let#[u,Q,T]:=C.get y;let#[G,D,S,A,M,J]:=n g (-_);erw[wpAny_pyNext_tuple_item st (show s.heap.IsTuple a l.toArray from p) (x:=u) Q⁻¹ λr m U=>?_];let R:Inv X f N H {s with heap:=r}:=I.turned (t':=s.toks) (λb o j e=>(U.2 b j).trans e) G D A M J;let#[o,e,c,d]:=id m;erw[u,2,Xa (s:={s with heap:=r}) e c d (!_) #[x,H,R,T,#[2,λys V=>by rw[I.Y5 V q];erw[y]],m,λb j=>(n b j).1]]
 done:=by
  intro X L F t O i f s N H E I n st B;subst L F t;let#[xs,q,y]:=B;let#[l,C,p,Z]:=I.tuple q;let#[G,D,S,A,M,J]:=n g (-_);let hl:=C.length;erw[wpAny_pyNext_tuple_end (I.ok.hd O) st (show s.heap.IsTuple a l.toArray from p) (by simp;lia) λr Y=>#[2,I.turned (t':=s.toks) (λb o j e=>Y b o j e) G D A M J]]
 self:=λ_ _ _ _ _ st h=>wpAny_pyIter_tupleiter st h
theorem Vv{P:ft}{w:World}{K:ah}{J:Expr}(a:du)(lo:Int)(n:Nat):iq P w K J (nj lo n) [a] a (λi h=>IsRangeIter h a (lo+(i:Nat)*1) ((n:Int)-(i:Nat)) 1) where
 mem:=-_
 obj:=λi h st b d=>by
  let e:b=a:=d⁻¹
  subst e;erw[_,st,λv z=>by
   let O:Data.fields _=Data.cell v:=z;ext O]
 keep:=λi h j st k=>k a (-_) _ st
 item:=by
  intro X y r l A i c s C H E I g st p;subst y r l;let#[u,q,G,m,B,x]:=g a (-_);let W:=Walks.range (prog:=X.prog) (w:=X.w) (I.ok.hd A) a lo 1 n;erw[W.item i s _ _ p st λv j D M f N=>?_];let#[t,rfl]:=M;let F:Inv X c C H {s with heap:=j,toks:=D}:=I.turned (λb o d e=>N b o d⁻¹ e) u q m B x;erw[1,Xa (s:={s with heap:=j,toks:=D}) (n:="range_iterator") f rfl rfl (!_) #[.int (lo+i),H,F,#[t,4],#[22],f,λb d=>(g b d).1]];rw[Int.mul_one]
 done:=by
  intro X y r l A i c s C H E I g st p;subst y r l;let#[u,q,G,m,B,x]:=g a (-_);erw[wpAny_pyNext_range_end (I.ok.hd A) st (by let:n<=i:=p;lia) λj L=>#[2,I.turned (t':=s.toks) (λb o d e=>L b o d e) u q m B x]]
 self:=λ_ _ _ _ _ st h=>wpAny_pyIter_rangeiter st h
section
variable{X:Cx}{tg:Expr}
inductive xa(K:ah)(R:It->Hp->Prop)(x:V)(H1:Hp):Prop
 |mk(a:du)(h1:x=.ref a)(h2:∃xs,bJ K H1 a xs)(h3:R (QA K a) H1):xa K R x H1
def Pi(K:ah)(tl:TE):TI:=λσ H R=>tl σ H (xa K R)
def vk(K:ah)(tl:TE):TI:=λσ H R=>tl σ H λx H1=>∃a,x=.ref a/\(∃xs,dH K H1 a xs)/\R (mM K a) H1
theorem cY(hl:PE X l tl):PI X tg l (Pi X.K tl):=by intro c s g H R I h;erw[iS (hl c s g H _ I h) λv f u_=>?_];let#[x,j,d,n,i]:=u_;let#[a,e,#[w,k],q]:=i;subst e;ext n;let#[r,t,p,u]:=d.list k;erw[wpAny_pyIter_list p.isList ?_];erw[f.heap.objs.size,[f.heap.objs.size],33,j,2,d.kept (t':=f.toks) λb o e=>dL _ e,Y6 a _,#[_,en _ rfl,22],λb m=>?_,q];let e:b=f.heap.objs.size:=m⁻¹;subst e;erw[d.aaT (aA _) (d.hok.fresh (aA _))]
theorem QB(hl:PE X l tl):PI X tg l (vk X.K tl):=by intro d s i H R I h;erw[iS (hl d s i H _ I h) λv c u_=>?_];let#[x,k,f,r,j]:=u_;let#[a,e,#[w,m],q]:=j;subst e;ext r;let#[g,t,p,u]:=f.tuple m;erw[wpAny_pyIter_tuple (show c.heap.IsTuple a g.toArray from p) ?_];erw[c.heap.objs.size,[c.heap.objs.size],33,k,2,f.kept (t':=c.toks) λb o e=>dL _ e,Vu a _,#[_,en _ rfl,22],λb n=>?_,q];let e:b=c.heap.objs.size:=n⁻¹;subst e;erw[f.aaT (aA _) (f.hok.fresh (aA _))]
theorem aaV{c:!(du×Obj)}{d:St}{H:Hp}{s:dA}{R:It->Hp->Prop}{E:dy->dA->Prop}{lo a:Int}{t u v:Tok}{tk:Nat}(I:Inv X c d H s)(j:-(2^62)<=lo)(g:lo<2^62)(m:-(2^62)<=a)(l:a<2^62)(q:R (nj lo (a-lo).toNat) H):fg (model X.prog X.w) X.A (pyIter (.ref s.heap.objs.size)) (Fa X c d tg R) E {s with heap:=s.heap.push {cls:=.type "range",data:=.fields [.int lo t,.int a u,.int 1 v].toArray},toks:=tk}:=by
 erw[wpAny_pyIter_range (IsRange.new ..) (small_one j g m l) ?_];let f:Inv X c d H {s with heap:=s.heap.push {cls:=.type "range",data:=.fields [.int lo t,.int a u,.int 1 v].toArray},toks:=tk}:=I.kept λb o e=>dL _ e;erw[(s.heap.push {cls:=.type "range",data:=.fields [.int lo t,.int a u,.int 1 v].toArray}).objs.size,[(s.heap.push {cls:=.type "range",data:=.fields [.int lo t,.int a u,.int 1 v].toArray}).objs.size],33,H,2,
  f.kept (t':=tk) λb o e=>dL _ e,Vv _ lo (a-lo).toNat,4,λb i=>?_,q]
 ·let h:lo+((0:Nat):Int)*1=lo:=-_;let k:(((a-lo).toNat:Nat):Int)-((0:Nat):Int)=Builtin.Range.rangeSize lo a 1:=(by rw[rangeSize_one];split <;> lia);show IsRangeIter _ _ (lo+((0:Nat):Int)*1) ((((a-lo).toNat:Nat):Int)-((0:Nat):Int)) 1;rw[h,k];erw[en _ rfl]
 let e:b=(s.heap.push {cls:=.type "range",data:=.fields [.int lo t,.int a u,.int 1 v].toArray}).objs.size:=i⁻¹;subst e;erw[f.aaT (aA _) (f.hok.fresh (aA _))]
inductive wT(R:It->Hp->Prop)(vs:!V)(H1:Hp):Prop
 |mk(j:Int)(h1:vs=[.int j])(h2:-(2^62)<=j)(h3:j<2^62)(h4:R (nj 0 j.toNat) H1):wT R vs H1
def OK(ta:TA):TI:=λσ H R=>ta σ H (wT R)
theorem eW{a:Expr}{p:Pos}(i:Gl X "range")(m:X.mg "range" = de)(l:PA X [a] ta)(hs:eP [a] X.env=[(dr,eval a X.env)]:=by rfl):PI X tg (.Call (.Name "range" p) [a] [] pos) (OK ta):=by intro b s d H R I h;erw[Call_ (Qx I i m boot_range (PyProof.Rows.callWith_type1 (iS (l pos b s d H _ I h) λw v u_=>?_) hs rfl))];let#[o,u,g,k,c]:=u_;let#[j,e,c,n,q]:=c;subst e;cases k with|cons r f=>ext f;let#[t,rfl]:=r;erw[call_range_1 (aaV g ∅ ∅ c n q⁻¹)]
def ut(wi:TI)(g:TG)(tb:TS):TS:=λD σ H=>wi σ H λJ H1=>∃W:Nat->Nat->St->Hp->Prop,(∃m,W 0 m σ H1)/\∀i m σ H,W i m σ H ->
 (J.stop i H/\D.nx σ H)\/(J.go i H/\∃N:St->Hp->Prop,(∀σ' H',N σ' H'->∃m',m'<m/\W (i+1) m' σ' H')/\∀x H',J.NK i H x H'->g x σ H' λσ2 H2=>tb {D with nx:=N,ct:=N,bk:=D.nx} σ2 H2)
noncomputable def K0(fp:!du)(h:Heap):!(du×Obj):=fp.filterMap λb=>(h.get? b).map λo=>(b,o)
theorem Fj{fp:!du}{h:Heap}{b:du}(a:b∈fp)(e:h.get? b=ac o):(b,o)∈K0 fp h:=lD.mpr #[b,a,by rw[e];rfl]
theorem Y7{p:du×Obj}(d:p∈K0 fp h):p.1∈fp/\h.get? p.1=ac p.2:=by let#[b,a,e]:=lD.mp d;cases q:h.get? b with|none=>rw[q] at e;ext e|some o=>rw[q] at e;let c:(b,o)=p:=aI e;subst c;erw[a,q]
theorem Inv.pinned{H:Hp}{fp:!du}(I:Inv X pins σ H s)(f:∀b∈fp,Gu X pins H b)(k:∀b∈fp,∃o,s.heap.get? b=ac o/\∀v,o.data≠.cell v):Inv X (pins++K0 fp s.heap) σ H s:=
 I.W8 λp g=>(aR.mp g).elim (λz=>I.pin p (bW _ z)) λz=>by
  let#[a,e]:=Y7 z;let#[j,i,h,_]:=f p.1 a;let#[o,c,d]:=k p.1 a;rw[e] at c;ext c;erw[e,j,i,h,d]
def Inv.Gv{a pl:!(du×Obj)}{H:Hp}(I:Inv X (a++pl) σ H s):Inv X a σ H s:=I.W8 λp b=>I.pin p (bW _ (dJ _ b))
theorem TK{y:Expr}{B:!Stmt}{wi:TI}{g:TG}{tb:TS}{Y:Pos}(L:PassesOwn (model X.prog X.w) X.A X.env X.xe)(hc:X.calm=df)(hi:PI X tg y wi)(hg:PG X tg g)(l:iR X B tb)(hs:∀x,foldedSetIterable y X.env x=pure x:=by intro _;rfl):PS X (.For tg y B [] Y) (ut wi g tb):=by intro a s σ H D I h;erw[wpAny_For (iS (hi a s σ H _ I h) λv s1 h1=>iS h1 λaa s2 h2=>?_) hs];let#[it,O,tn,J,H2,e,I2,T,V,f2,W,#[m0,w0],G]:=h2;subst e;let p:∀{z:Hp},(∀b∈O,z b=de)->∀b∈O,Gu X a z b:=λhn b l=>#[hn b l,(f2 b l).2];erw[codeAny_forLoop_any (λn s'=>∃i k z,Inv X a k z s'/\tn i s'.heap/\(∀b∈O,z b=de)/\W i n k z) ?_ m0 #[(0),σ,H2,I2,V,λb l=>(f2 b l).1,w0]];intro n s3 ⟨i,j,P,I3,K,E,w3⟩;obtain⟨F,qn⟩|⟨go,N,hN,step⟩:=G i n j P w3;erw[wpAny_passesOwn L (iS (T.done X rfl rfl rfl hc i a s3 j P X.xe I3 (p E) K F) λr s4 u_=>?_)];let#[hr,I4]:=u_;subst hr;erw[wpAny_execs_nil #[j,P,I4,qn]];·erw[wpAny_passesOwn L (iS (T.item X rfl rfl rfl hc i a s3 j P X.xe I3 (p E) K go) λr s4 u_=>?_)];let#[u,hr,h4]:=u_;subst hr;erw[wpAny_passesOwn L (iS h4 λ_ s5 u_=>?_)];let#[x,H5,I5,r5,y5,Q,S]:=u_;let U:=I5.pinned (p S) (T.obj _ _ Q);erw[wpAny_passesOwn L (iS (hg _ s5 j H5 x u _ U r5 (step x H5 y5)) λ_ s6 u_=>?_)];let#[Z,H6,I6,q6]:=u_;erw[wpAny_passesOwn L (iS (l _ s6 Z H6 _ I6 q6) λf R C=>?_)];let again:∀{c:St}{t:Hp},Inv X (a++K0 O s5.heap) c t R->N c t->∃m,m<n/\∃i k z,Inv X a k z R/\tn i R.heap/\(∀b∈O,z b=de)/\W i m k z:=λ{c t}q M=>(by let#[m',hm,w7]:=hN c t M;erw[m',hm,i+1,c,t,q.Gv,T.keep _ _ _ Q λb l o e=>(q.pin (b,o) (bW _ (bW _ (Fj l e)))).1,λb l=>?_,w7];let#[o,e,d]:=T.obj _ _ Q b l;erw[(q.pin (b,o) (bW _ (bW _ (Fj l e)))).2.1]);cases f with|next=>let#[c,t,q,M]:=C;erw[again q M]|cont=>let#[c,t,q,M]:=C;erw[again q M]|brk=>let#[c,t,q,C]:=C;erw[c,t,q.Gv,C]|ret v=>let#[x7,c,t,q,r7,C]:=C;erw[x7,c,t,q.Gv,r7,C]
end
theorem wz{K:ah}{a:du}{xs:!V}{g:TG}{l:TS}{D:ip}{b:St}{H:Hp}(c:Nat->St->Hp->Prop)(o:c 0 b H)(hl:∀i b H,i<=ge xs->c i b H->bJ K H a xs)(hs:∀i x b H,xs[i]?=ac x->c i b H->g x b H λd k=>l {D with nx:=c (i+1),ct:=c (i+1),bk:=D.nx} d k)(s:∀b H,c (ge xs) b H->D.nx b H) :∃W:Nat->Nat->St->Hp->Prop,(∃m,W 0 m b H)/\∀i m b H,W i m b H ->((QA K a).stop i H/\D.nx b H)\/((QA K a).go i H/\∃N:St->Hp->Prop,(∀f h,N f h->∃n,n<m/\W (i+1) n f h)/\∀x h,(QA K a).NK i H x h->g x b h λd k=>l {D with nx:=N,ct:=N,bk:=D.nx} d k):=by erw[λi m b H=>m=ge xs-i/\i<=ge xs/\c i b H,#[ge xs,-_,bL _,o],4];intro i m b H ⟨rfl,t,p⟩;let q:=hl i b H t p;by_cases j:i<ge xs;erw[.inr #[#[xs,xs[i],q,by simp[j]],c (i+1),λf h r=>#[ge xs-(i+1),52,j,r],λx h y=>?_]];let#[e,y]:=y;subst e;erw[hs i x b _ (y xs q) p];let e:i=ge xs:=∅;subst e;erw[.inl #[#[xs,q,aA _],s b H p]]
theorem D3{lo:Int}{n:Nat}{g:TG}{k:TS}{D:ip}{a:St}{H:Hp}(c:Nat->St->Hp->Prop)(o:c 0 a H)(hs:∀i a H,i<n->c i a H->g (.int (lo+i)) a H λd j=>k {D with nx:=c (i+1),ct:=c (i+1),bk:=D.nx} d j)(r:∀a H,c n a H->D.nx a H) :∃W:Nat->Nat->St->Hp->Prop,(∃m,W 0 m a H)/\∀i m a H,W i m a H ->((nj lo n).stop i H/\D.nx a H)\/((nj lo n).go i H/\∃N:St->Hp->Prop,(∀f h,N f h->∃l,l<m/\W (i+1) l f h)/\∀x h,(nj lo n).NK i H x h->g x a h λd j=>k {D with nx:=N,ct:=N,bk:=D.nx} d j):=by erw[λi m a H=>m=n-i/\i<=n/\c i a H,#[n,-_,bL _,o],4];intro i m a H ⟨rfl,s,p⟩;by_cases b:i<n;erw[.inr #[b,c (i+1),λf h q=>#[n-(i+1),52,b,q],λx h y=>?_]];let#[e,y]:=y;subst e y;erw[hs i a _ b p];let e:i=n:=∅;subst e;erw[.inl #[aA _,r a H p]]
abbrev R2:=V->V->Hp->VK->Prop
def AN(X:Cx)(f:dy->dy->Sem dy)(r:R2):Prop:=
 ∀(pins:!(du×Obj))(s:dA)(σ:St)(H:Hp)(x y:V)(v u:dy)(Q:VK),Inv X pins σ H s->RelV x v->RelV y u->r x y H Q ->
  fg (model X.prog X.w) X.A (f v u) (EP X pins σ Q) X.xe s
def pU(X:Cx)(f:dy)(r:!V->Hp->VK->Prop):Prop:=
 ∀(pins:!(du×Obj))(s:dA)(σ:St)(H:Hp)(xs:!V)(us:!dy)(Q:VK),Inv X pins σ H s->cO xs us->r xs H Q ->
  fg (model X.prog X.w) X.A (call f us) (EP X pins σ Q) X.xe s
def Kb(X:Cx)(r:V->Hp->(Bool->Hp->Prop)->Prop):Prop:=
 ∀(pins:!(du×Obj))(s:dA)(σ:St)(H:Hp)(x:V)(v:dy)(Q:Bool->Hp->Prop),Inv X pins σ H s->RelV x v->r x H Q ->
  fg (model X.prog X.w) X.A (truthy v) (TP X pins σ Q) X.xe s
def nk(r:R2)(ta tb:TE):TE:=λσ H Q=>ta σ H λx H1=>tb σ H1 λy H2=>r x y H2 Q
inductive rI(C:Int->Int->Prop)(g:Int->Int->V)(x y:V)(H:Hp)(Q:VK):Prop
 |mk(i j:Int)(h1:x=.int i)(h2:y=.int j)(h3:C i j)(h4:Q (g i j) H):rI C g x y H Q
inductive nu(g:Int->Int->V)(x y:V)(H:Hp)(Q:VK):Prop
 |mk(i j:Int)(h1:x=.int i)(h2:y=.int j)(h3:Q (g i j) H):nu g x y H Q
section
variable{X:Cx}{a b c:Expr}{ta tb tc:TE}{pos:Pos}
theorem pr(t:PE X a ta)(o:PE X b tb){c:!(du×Obj)}{s:dA}{d:St}{H:Hp}{R:V->V->Hp->Prop}(I:Inv X c d H s)(h:ta d H λx k=>tb d k λy e=>R x y e){Q:dy->dA->Prop}{f:dy->dy->Sem dy}(m:∀v u j x y e,Inv X c d e j->RelV x v->RelV y u->R x y e->fg (model X.prog X.w) X.A (f v u) Q X.xe j) :fg (model X.prog X.w) X.A (eval a X.env) (λv i=>fg (model X.prog X.w) X.A (eval b X.env) (λu g=>fg (model X.prog X.w) X.A (f v u) Q X.xe g) X.xe i) X.xe s:=by erw[iS (t c s d H _ I h) λv p u_=>?_];let#[x,k,n,q,l]:=u_;erw[iS (o c p d k _ n l) λu j u_=>?_];let#[y,e,r,B,z]:=u_;erw[m v u j x y e r q B z]
theorem ck(k:AN X (binaryOp op) r)(l:PE X a ta)(f:PE X b tb):PE X (.BinOp a op b pos) (nk r ta tb):=by intro c s d H Q I h;erw[wpAny_BinOp (pr l f I h λv u e x y j i m g q=>k c e d j x y v u Q i m g q)]
theorem kl{f:dy->dy->Sem dy}{C:Int->Int->Prop}{g:Int->Int->Int}(rule:∀(i j:Int)(t u:Tok)(s:dA)(Q:dy->dA->Prop)(E:dy->dA->Prop),C i j->Q (.int (g i j) s.toks) {s with toks:=s.toks+1}->fg (model X.prog X.w) X.A (f (.int i t) (.int j u)) Q E s) :AN X f (rI C λi j=>.int (g i j)):=by intro a s k H x y v u Q I d b h;let#[i,j,rfl,rfl,c,q]:=h;let#[t,rfl]:=d;let#[e,rfl]:=b;erw[rule i j t e s _ _ c #[.int (g i j),H,I.tok _,#[1],q]]
theorem pp{f:dy->dy->Sem dy}{g:Int->Int->Int}(rule:∀(i j:Int)(t u:Tok)(s:dA)(Q:dy->dA->Prop)(E:dy->dA->Prop),Q (.int (g i j) s.toks) {s with toks:=s.toks+1}->fg (model X.prog X.w) X.A (f (.int i t) (.int j u)) Q E s) :AN X f (nu λi j=>.int (g i j)):=by intro a s e H x y v u Q I c b h;let#[i,j,rfl,rfl,q]:=h;let#[t,rfl]:=c;let#[d,rfl]:=b;erw[rule i j t d s _ _ #[.int (g i j),H,I.tok _,#[1],q]]
theorem ml{f:dy->dy->Sem dy}{g:Int->Int->Bool}(rule:∀(i j:Int)(t u:Tok)(s:dA)(Q:dy->dA->Prop)(E:dy->dA->Prop),Q (.bool (g i j)) s->fg (model X.prog X.w) X.A (f (.int i t) (.int j u)) Q E s) :AN X f (nu λi j=>.bl (g i j)):=by intro a s e H x y v u Q I c b h;let#[i,j,rfl,rfl,q]:=h;let#[t,rfl]:=c;let#[d,rfl]:=b;erw[rule i j t d s _ _ #[.bl (g i j),H,I,2,q]]
def Jn(i j:Int):Prop:=0<j/\j<1073741824
def IR(i j:Int):Prop:=0<=j/\j<=1000000/\i.natAbs<2^64
def ahv(i j:Int):Prop:=(-(2^64)<i/\i<2^64)\/(-(2^64)<j/\j<2^64)
theorem ahv.ok(h:ahv i j):IntMulOk i j:=by obtain⟨b,a⟩|⟨b,a⟩:=h;erw[.of_left (intBits_le_64 b a)];erw[.of_right (intBits_le_64 b a)]
theorem Vw(k:Nat):(0:Int)<=2^k:=by rw[two_pow_cast];erw[wo _]
def kj:AN X (binaryOp .Add) (nu λi j=>.int (i+j)):=pp λ_ _ _ _ _ _ _ q=>add_int q
def Vx:AN X (binaryOp .Sub) (nu λi j=>.int (i-j)):=pp λ_ _ _ _ _ _ _ q=>sub_int q
def K1:AN X (binaryOp .Mult) (rI ahv λi j=>.int (i*j)):=kl λ_ _ _ _ _ _ _ a q=>mul_int q a.ok
theorem mC:AN X (binaryOp .FloorDiv) (rI Jn λi j=>.int (i/j)):=kl λi j _ _ _ _ _ a q=>by
 let c:(0:Int)<j:=a.1;let b:j<1073741824:=a.2;erw[floordiv_int ∅ (by rw[Int.fdiv_eq_ediv_of_nonneg i ∅];erw[q]) (.inl (PyProof.noPylong_small ∅))]
theorem ir:AN X (binaryOp .Mod) (rI (λ_ j=>0<j) λi j=>.int (i%j)):=kl λi j _ _ _ _ _ a q=>by
 let b:(0:Int)<j:=a;erw[mod_int' ∅ (by rw[Int.fmod_eq_emod_of_nonneg i ∅];erw[q])]
def Da:AN X (binaryOp .Pow) (rI IR λi j=>.int (i^j.toNat)):=kl λ_ _ _ _ _ _ _ a q=>pow_int_small a.1 a.2.1 a.2.2 q
theorem TD:AN X (binaryOp .RShift) (rI (λ_ j=>0<=j) λi j=>.int (i/2^j.toNat)):=kl λi j _ _ _ _ _ a q => rshift_int a (by rw[Int.fdiv_eq_ediv_of_nonneg i (Vw _)];erw[q])
def Ch:AN X (binaryOp .BitAnd) (nu λi j=>.int (Builtin.bitAnd i j)):=pp λ_ _ _ _ _ _ _ q=>and_int q
end
noncomputable def pk:V->V->Bool
 |.gw,.gw=>df|.gw,.int _=>df|.int _,.gw=>df|.gw,.bl _=>df|.bl _,.gw=>df|.gw,.str _=>df|.str _,.gw=>df
 |.int _,.int _=>df|.bl _,.bl _=>df|.str _,.str _=>df|.W6 _,.W6 _=>df
 |.int _,.str _=>df|.str _,.int _=>df|.bl _,.str _=>df|.str _,.bl _=>df
 |_,_=>dr
inductive sK(x y:V)(H:Hp)(Q:VK):Prop
 |mk(a:pk x y=df)(b:Q (.bl (decide (x=y))) H):sK x y H Q
inductive sB(x y:V)(H:Hp)(Q:VK):Prop
 |mk(a:pk x y=df)(b:Q (.bl ((decide (x=y)).not)) H):sB x y H Q
theorem Xb:decide (V.int i=V.int j)=(i==j):=by rw[qj];simp
theorem BM:decide (V.bl i=V.bl j)=(i==j):=by rw[qj];simp
theorem Xc:decide (V.str i=V.str j)=(i==j):=by rw[qj];simp
theorem Xd:decide (V.W6 i=V.W6 j)=(i.toList==j.toList):=by rw[qj];ext i;ext j;simp
section
variable{X:Cx}{a b c:Expr}{ta tb tc:TE}{pos:Pos}
theorem fH{H:Hp}{Q:VK}{a:Bool}(I:Inv X pins σ H s)(q:Q (.bl k) H)(e:k=a):EP X pins σ Q (.bool a) s:=by subst e;erw[.bl k,H,I,2,q]
theorem i0:AN X (fa .Eq) sK:=by intro e s f H x y v u Q I d a h;let#[c,q]:=h;cases x with|gw=>(ext d;cases y with|gw=>ext a;erw[PySem.EqNone.eq_none_none (fH I q (-_))]|bl j=>ext a;erw[PySem.EqNone.eq_none_bool (fH I q (-_))]|int j=>let#[b,rfl]:=a;erw[PySem.EqNone.eq_none_int (fH I q (-_))]|str j=>let#[b,rfl]:=a;erw[PySem.EqNone.eq_none_str (fH I q (-_))]|_=>erw[ff (show dr=df from c) aU])|bl i=>(ext d;cases y with|gw=>ext a;erw[PySem.EqNone.eq_bool_none (fH I q (-_))]|bl j=>ext a;erw[eq_bool (fH I q BM)]|str j=>let#[b,rfl]:=a;erw[PySem.EqMixed.eq_bool_str (fH I q (-_))]|_=>erw[ff (show dr=df from c) aU])|int i=>(let#[t,rfl]:=d;cases y with|gw=>ext a;erw[PySem.EqNone.eq_int_none (fH I q (-_))]|int j=>let#[b,rfl]:=a;erw[eq_int (fH I q Xb)]|str j=>let#[b,rfl]:=a;erw[PySem.EqMixed.eq_int_str (fH I q (-_))]|_=>erw[ff (show dr=df from c) aU])|str i=>(let#[t,rfl]:=d;cases y with|gw=>ext a;erw[PySem.EqNone.eq_str_none (fH I q (-_))]|bl j=>ext a;erw[PySem.EqMixed.eq_str_bool (fH I q (-_))]|int j=>let#[b,rfl]:=a;erw[PySem.EqMixed.eq_str_int (fH I q (-_))]|str j=>let#[b,rfl]:=a;erw[eq_str (fH I q Xc)]|_=>erw[ff (show dr=df from c) aU])|W6 i=>(let#[t,rfl]:=d;cases y with|W6 j=>let#[b,rfl]:=a;erw[PySem.W.eq_bytes (fH I q Xd)]|_=>erw[ff (show dr=df from c) aU])|_=>ext y <;> erw[ff (show dr=df from c) aU]
theorem oq:AN X (fa .NotEq) sB:=by intro e s f H x y v u Q I d a h;let#[c,q]:=h;cases x with|gw=>(ext d;cases y with|gw=>ext a;erw[PySem.EqNone.ne_none_none (fH I q (-_))]|bl j=>ext a;erw[PySem.EqNone.ne_none_bool (fH I q (-_))]|int j=>let#[b,rfl]:=a;erw[PySem.EqNone.ne_none_int (fH I q (-_))]|str j=>let#[b,rfl]:=a;erw[PySem.EqNone.ne_none_str (fH I q (-_))]|_=>erw[ff (show dr=df from c) aU])|bl i=>(ext d;cases y with|gw=>ext a;erw[PySem.EqNone.ne_bool_none (fH I q (-_))]|bl j=>ext a;erw[ne_bool (fH I q (gZ not BM))]|str j=>let#[b,rfl]:=a;erw[PySem.EqMixed.ne_bool_str (fH I q (-_))]|_=>erw[ff (show dr=df from c) aU])|int i=>(let#[t,rfl]:=d;cases y with|gw=>ext a;erw[PySem.EqNone.ne_int_none (fH I q (-_))]|int j=>let#[b,rfl]:=a;erw[ne_int (fH I q (gZ not Xb))]|str j=>let#[b,rfl]:=a;erw[PySem.EqMixed.ne_int_str (fH I q (-_))]|_=>erw[ff (show dr=df from c) aU])|str i=>(let#[t,rfl]:=d;cases y with|gw=>ext a;erw[PySem.EqNone.ne_str_none (fH I q (-_))]|bl j=>ext a;erw[PySem.EqMixed.ne_str_bool (fH I q (-_))]|int j=>let#[b,rfl]:=a;erw[PySem.EqMixed.ne_str_int (fH I q (-_))]|str j=>let#[b,rfl]:=a;erw[ne_str (fH I q (gZ not Xc))]|_=>erw[ff (show dr=df from c) aU])|W6 i=>(let#[t,rfl]:=d;cases y with|W6 j=>let#[b,rfl]:=a;erw[PySem.W.ne_bytes (fH I q (gZ not Xd))]|_=>erw[ff (show dr=df from c) aU])|_=>ext y <;> erw[ff (show dr=df from c) aU]
def xV:AN X (fa .Lt) (nu λi j=>.bl (decide (i<j))):=ml λ_ _ _ _ _ _ _ q=>lt_int q
def rE:AN X (fa .LtE) (nu λi j=>.bl (decide (i<=j))):=ml λ_ _ _ _ _ _ _ q=>le_int q
def si:AN X (fa .Gt) (nu λi j=>.bl (decide (j<i))):=ml λ_ _ _ _ _ _ _ q=>gt_int q
def Oy:AN X (fa .GtE) (nu λi j=>.bl (decide (j<=i))):=ml λ_ _ _ _ _ _ _ q=>ge_int q
theorem Y8:AN X (fa .In) (λx y H Q=>∃i j,x=.str i/\y=.str j/\Q (.bl ((Builtin.Str.occurrences j i 0 j.length 1).isEmpty.not)) H):=by intro a s d H x y v u Q I c b h;let#[i,j,rfl,rfl,q]:=h;let#[t,rfl]:=c;let#[e,rfl]:=b;erw[in_str (fH I q rfl)]
theorem Vy:AN X (fa .Is) (λx y H Q=>y=.gw/\Q (.bl (decide (x=.gw))) H):=by
 intro b s d H x y v u Q I a c h;let#[rfl,q]:=h;ext c;erw[is_none_gen (fH I q ?_)];ext x <;> first
  | (ext a;rfl)
  | (let#[t,rfl]:=a;rfl)
theorem QC:AN X (fa .IsNot) (λx y H Q=>y=.gw/\Q (.bl ((decide (x=.gw)).not)) H):=by
 intro b s d H x y v u Q I a c h;let#[rfl,q]:=h;ext c;erw[isnot_none_gen (fH I q ?_)];ext x <;> first
  | (ext a;rfl)
  | (let#[t,rfl]:=a;rfl)
theorem D1(b:Expr){op:CmpOp}(h:op≠.In:=by decide)(a:op≠.NotIn:=by decide):behindInMarks op b=dr:=by let c:(op==CmpOp.In)=dr:=(by ext op <;> first|rfl|erw[ff rfl h]);let d:(op==CmpOp.NotIn)=dr:=(by ext op <;> first|rfl|erw[ff rfl a]);ext b <;> simp[behindInMarks,c,d]
theorem D4(k:AN X (fa op) r)(l:PE X a ta)(f:PE X b tb)(m:behindInMarks op b=dr):PE X (.Compare a [op] [b] pos) (nk r ta tb):=by intro c s d H Q I h;erw[wpAny_Compare1 (pr l f I h λv u e x y j i n g q=>k c e d j x y v u Q i n g q) m]
def sh(t:TE):TT:=λσ H Q=>t σ H (ss Q)
theorem oS(C:AN X (fa op) r)(D:PE X a ta)(q:PE X b tb)(E:behindInMarks op b=dr):PT X (.Compare a [op] [b] pos) (sh (nk r ta tb)):=by intro d s f H Q I h;erw[wpAny_isTrue_Compare1 (iS (D d s f H _ I h) λv t ⟨x,l,m,w,g⟩=>iS (q d t f l _ m g) λu n ⟨y,B,A,G,F⟩ => iS (C d n f B x y v u _ A w G F) λc J u_=>?_) E];let#[z,o,i,p,k,e,j]:=u_;subst e;ext p;erw[wpAny_truthy_bool #[o,i,j]]
def DD(r r':R2)(ta tb tc:TE):TE:=λσ H Q=>ta σ H λx H1=>tb σ H1 λy H2=>r x y H2 λz H3=>∃k,z=.bl k /\
 (if k=df then tc σ H3 λw' H4=>r' y w' H4 Q else Q (.bl dr) H3)
theorem SJ{op g:CmpOp}{r o:R2}(T:AN X (fa op) r)(j:AN X (fa g) o)(U:PE X a ta)(G:PE X b tb)(R:PE X c tc)(V:lastMarks [op,g] [b,c]=dr:=by with_unfolding_all rfl):PE X (.Compare a [op,g] [b,c] pos) (DD r o ta tb tc):=by intro f s i H Q I h;erw[Compare_chain (iS (U f s i H _ I h) λv J ⟨x,A,B,K,q⟩=>chain_link (iS (G f J i A _ B q) λu C ⟨y,P,N,p,W⟩ => iS (T f C i P x y v u _ N K p W) λd w u_=>?_)) V];let#[z,n,l,D,k,e,m]:=u_;subst e;ext D;erw[wpAny_truthy_bool ?_];cases k with|false=>erw[ite_ff #[.bl dr,n,l,2,m]]|true=>erw[ite_tt (chain_last (iS (R f w i n _ l m) λE L ⟨S,F,M,t,O⟩=>j f L i F y S u E Q M p t O))]
theorem lH{op g:CmpOp}{r o:R2}(Z:AN X (fa op) r)(j:AN X (fa g) o)(ha:PE X a ta)(K:PE X b tb)(U:PE X c tc)(hm:lastMarks [op,g] [b,c]=dr:=by with_unfolding_all rfl):PT X (.Compare a [op,g] [b,c] pos) (sh (DD r o ta tb tc)):=by intro f s i H Q I h;erw[isTrue_chain (iS (ha f s i H _ I h) λv L ⟨x,C,D,M,t⟩=>test_link (iS (K f L i C _ D t) λu E ⟨y,S,P,p,q2⟩ => iS (Z f E i S x y v u _ P M p q2) λd B u_=>?_)) hm];let#[z,n,l,F,k,e,m]:=u_;subst e;ext F;erw[wpAny_truthy_bool ?_];cases k with|false=>let#[k',e',q']:=m;ext e';erw[ite_ff #[n,l,q']]|true=>erw[ite_tt (test_last (iS (U f B i n _ l m) λG N ⟨V,J,O,w,R⟩=>iS (j f N i J y V u G _ O p w R) λd' s5 u_=>?_))];let#[z2,A,q,Y,k2,T,W]:=u_;subst T;ext Y;erw[wpAny_truthy_bool #[A,q,W]]
def ph(K:ah)(x:V)(H:Hp)(k:Bool):Prop:=
 match x with
 |.gw=>k=dr
 |.bl b=>k=b
 |.int i=>k=(i != 0)
 |.str y=>y.length<=eD/\k=((y.length:Int) != 0)
 |.W6 y=>y.size<=eD/\k=((y.size:Int) != 0)
 |.ref p=>(∃xs,bJ K H p xs/\k=xs.isEmpty.not)\/(∃xs,dH K H p xs/\k=xs.isEmpty.not)\/∃kvs,H p=ac (.dK kvs)/\k=kvs.isEmpty.not
 |_=>False
theorem Vz{a:Type}{kvs:!(a×V)}{vs:!(a×dy)}(r:KV kvs vs):(vs.isEmpty.not)=kvs.isEmpty.not:=by ext r <;> rfl
theorem K2(r:cO xs its):(its.toArray.isEmpty.not)=xs.isEmpty.not:=by ext r <;> simp
theorem Fk:(eD:Nat)<2^63:=by rw[sizeLine_eq];decide
theorem TC:Kb X (λx H Q=>∃k,ph X.K x H k/\Q k H):=by intro z s C H x v Q I g h;let#[k,e,q]:=h;let D:=Fk;let E:eD=16777216:=sizeLine_eq;cases x with|gw=>ext g;let a:k=dr:=e;subst a;erw[truthy_none #[H,I,q]]|bl b=>ext g;let a:k=b:=e;subst a;erw[wpAny_truthy_bool #[H,I,q]]|int i=>let#[t,rfl]:=g;let a:k=(i != 0):=e;subst a;erw[PySem.P.truthy_int #[H,I,q]]|str y=>let#[t,rfl]:=g;obtain⟨B,a⟩:y.length<=eD/\k=((y.length:Int) != 0):=e;subst a;erw[PySem.P.truthy_str ∅ #[H,I.tok _,q]]|W6 y=>let#[t,rfl]:=g;obtain⟨B,a⟩:y.size<=eD/\k=((y.size:Int) != 0):=e;subst a;erw[PySem.W.truthy_bytes ∅ #[H,I.tok _,q]]|ref p=>(ext g;let a:(∃f,bJ X.K H p f/\k=f.isEmpty.not)\/(∃f,dH X.K H p f/\k=f.isEmpty.not)\/∃c,H p=ac (.dK c)/\k=c.isEmpty.not:=e;obtain⟨f,j,a⟩|⟨f,j,a⟩|⟨c,j,a⟩:=a;subst a;let#[o,r,n,u]:=I.list j;let d:=r.length;erw[wpAny_truthy_list n.isList (by simp only[bq];lia) #[H,I.tok _,by rw[K2 r];erw[q]]];subst a;let#[o,r,n,u]:=I.tuple j;let d:=r.length;erw[truthy_tuple n (by simp only[bq];lia) #[H,I.tok _,by rw[K2 r];erw[q]]];subst a;obtain⟨u,A,l,r,m⟩:ge c<=eD/\(p==sysModules)=dr/\∃l,KV c l/\s.heap.DictOf (iw X.prog X.w) p l:=I.hok p _ j;let d:ge c=ge l:=Paired.length r;erw[wpAny_truthy_dict A m ∅ #[H,I.tok _,by rw[Vz r];erw[q]]])|_=>erw[(show False from e).elim]
theorem aa4(n:PE X a ta)(m:∀b,isTrue a X.env b=(do let v <- b;standAt a.pos;holding [v] (truthy v))) :PT X a (λd H Q=>ta d H λx e=>∃k,ph X.K x e k/\Q k e):=by intro c s d H Q I h;erw[isTrue_plain (iS (n c s d H _ I h) λv j ⟨x,g,i,l,f⟩=>TC c j d g x v Q i l f) (m _)]
theorem vals1{x:V}(r:cO [x] us):∃u,us=[u]/\RelV x u:=by cases r with|cons b a=>ext a;erw[1,b]
theorem vR:pU X (.type "int") (λxs H Q=>(∃i,xs=[.int i]/\Q (.int i) H)\/∃k,xs=[.bl k]/\Q (.int (if k then 1 else 0)) H):=by intro a s c H xs d Q I r h;obtain⟨i,rfl,q⟩|⟨k,rfl,q⟩:=h;let#[u,rfl,t,rfl]:=vals1 r;erw[call_int_int #[.int i,H,I,#[1],q]];let#[u,rfl,b]:=vals1 r;ext b;erw[call_int_bool #[.int (if k then 1 else 0),H,I.tok _,#[1],q]]
theorem ko:pU X (.type "str") (λxs H Q=>∃i,xs=[.int i]/\i.natAbs.log2<1920/\Q (.str (toString i)) H):=by intro a s c H xs d Q I r h;let#[i,rfl,b,q]:=h;let#[u,rfl,t,rfl]:=vals1 r;erw[PySem.P.str_of_int b #[.str _,H,I.tok _,#[1],q]]
end
structure VA(h:Heap)(x dx C:du)(mA:Str->Option dy):Prop where
 obj:h.get? x=ac (mP C dx)
 ns:h.Ns1 dx mA
 ne:dx≠x
theorem Pb{h:Heap}(n:h.Ns1 dx mA):∃c,h.get? dx=ac c/\∀name,PySem.W.lookIn name c=ac (mA name):=by let#[o,d,m,j,i,g,_,k]:=n;erw[o,j,λname=>?_];let e:=k name;delta nsFind findBy at e;rw[<- Array.find?_toList] at e;delta PySem.W.lookIn;rw[i];dsimp only;split;rename_i y q;rw[q] at e;erw[gZ ac e];rename_i q;rw[q] at e;let a:d.toList.any (·.refKey)=dr:=(by rw[List.any_eq_false];intro y f;let#[z,t,b]:=g y (Array.mem_toList_iff.mp f);simp[DictEntry.refKey,b]);let l:¬d.toList.any (·.refKey)=df:=(by rw[a];erw[aU]);rw[eH l];erw[gZ ac e]
theorem VA.look(I:VA h x dx C mA):∃a,PySem.W.InstAt h x (mP C dx) C (ac a)/\∀name,PySem.W.lookIn name a=ac (mA name):=
 let ⟨a,b,c⟩:=Pb I.ns
 #[a,#[I.obj,22,b],c]
section
variable{prog:ft}{w:World}{A:fv}{E:dy->dA->Prop}{s:dA}{K:ah}{x dx C f:du}{mA:Str->Option dy}{name:Str}{v:dy}
theorem get_map{a:Bool}{Q:dy->dA->Prop}(X:K.In s.heap)(I:VA s.heap x dx C mA)(d:AG K C name=df)(e:yI K C=df)(c:aV K (.ref C) name=ac de)(g:mA name=ac v)(b:PySem.W.handedIn v=df)(h:Q v {s with toks:=s.toks+1}) :fg (model prog w) A (getAttr (.ref x) name a) Q E s:=by let#[i,J,f]:=I.look;erw[PySem.W.get_value X J (PySem.W.plainGet_of d).1 (PySem.W.findObj_own e c rfl (by rw[f,g])) b h]
theorem aa5{pl:Sem Bool}{Q:dy×!dy->dA->Prop}(X:K.In s.heap)(I:VA s.heap x dx C mA)(a:AG K C name=df)(e:aV K (.ref C) name=ac (ac (.ref f)))(d:PySem.W.isFn K (.ref f)=df)(g:mA name=de)(h:Q (.ref f,[.ref x]) s) :fg (model prog w) A (getMethod (.ref x) name pl) Q E s:=by let#[c,J,b]:=I.look;erw[PySem.W.method_fn X J (PySem.W.plainGet_of a).1 (PySem.W.plainGet_of a).2 e (beq_iff_eq.mp d) (by show (PySem.W.lookIn name c).map (·.isSome)=ac dr;rw[b,g];rfl) h]
theorem aec{ns:!Str}{Q:Unit->dA->Prop}(X:K.In s.heap)(I:VA s.heap x dx C mA) (hs:aV K (.ref C) "__setattr__" = ac (ac (.builtin "object.__setattr__"))) (k:PySem.W.plainOver K C=df) (p:PySem.W.takerIn K C name=ac de) (j:yI K C=df) (m:PySem.Within mA ns) (hsz:ge ns<=eD) (h:∀h',VA h' x dx C (λy=>if y=name then ac v else mA y)->Heap.SameBut dx s.heap h'->Q () {s with heap:=h',toks:=s.toks+2}) :fg (model prog w) A (setAttr (.ref x) name v) Q E s:=by let#[u,J,t]:=I.look;erw[PySem.W.set_plain X J hs (PySem.W.osa_open (s:={s with toks:=s.toks+1}) (r:=de) X J k p λb=>?_)];let#[z,o,f]:=PySem.W.any_some j;let l:s.heap.get? x=ac #[.ref C,ac dx,.plain,[].toArray]:=I.obj;erw[dC (dE (dC (dC (wpAny_loadPart l (dC (PySem.W.Looks.here (s:={s with toks:=s.toks+1}) (PySem.W.looks_clsIn X o) ?_))))))];rw[f];erw[dE (a:=ac dx) (dC (dE (dC ?_)))];erw[wpAny_nsSet1 (s:={s with toks:=s.toks+1}) I.ns λh' c d=>?_];let#[B,n,q,g,e,i]:=c.count (PySem.Within.cons name v m);erw[dC (wpAny_lookBehind g (by rw[e];erw[pastItsLine_dict (aJ i (by rw[bG];lia))]) ?_)];erw[dE (h _ #[(d.2 _ (cC I.ne)).trans I.obj,c,I.ne] d)]
theorem aa6{R:Result->dA->Prop}{vs:!dy}{b:!(Str×dy)}(X:K.In s.heap)(e:PySem.W.makesIn K C=df) (i:aV K (.ref C) "__init__" = ac (ac (.ref f))) (c:PySem.W.typeIn K (.ref f)=ac (.type "function")) (h:codeAny (model prog w) (A.under (.builtin "type.__call__" #[.ref C::vs,b])) (.call (.ref f) #[.ref (s.heap.objs.size+1)::vs,b]) (PySem.W.InitBack (s.heap.objs.size+1) R) {s with heap:=(s.heap.push iN).push (mP C s.heap.objs.size)}) :codeAny (model prog w) A (.call (.ref C) #[vs,b]) R s:=by let#[j,g,d,t,os]:=s;erw[PySem.W.make_core (PySem.W.makes_of X e) (PySem.W.looks_findIn X i) (λa=>PySem.W.bind_fn X a c) (.inl rfl) h]
end
noncomputable def Ab(f:Str)(v:V):!(Str×V)->!(Str×V)
 |[]=>[(f,v)]
 | (g,x)::r=>if g=f then (g,v)::r else (g,x)::Ab f v r
theorem Jw(f g:Str)(v:V):∀c:!(Str×V),(Ab f v c).lookup g=if g=f then ac v else c.lookup g
 |[]=>by
  show uq g [(f,v)]=_;by_cases h:g=f
  ·let a:(g==f)=df:=beq_iff_eq.mpr h
   simp only[uq,a,eG h]
  ·let a:(g==f)=dr:=beq_eq_false_iff_ne.mpr h
   simp only[uq,a,eH h]
 | (k,x)::r=>by
  let d:=Jw f g v r;rw[show Ab f v ((k,x)::r)=(if k=f then (k,v)::r else (k,x)::Ab f v r) from rfl];by_cases b:k=f
  ·rw[eG b]
   by_cases h:g=k
   ·let a:(g==k)=df:=beq_iff_eq.mpr h
    simp only[uq,a,eG (h.trans b)]
   ·let a:(g==k)=dr:=beq_eq_false_iff_ne.mpr h
    simp only[uq,a,eH (λe:g=f=>h (e.trans b.symm))]
  ·rw[eH b]
   by_cases h:g=k
   ·let a:(g==k)=df:=beq_iff_eq.mpr h
    simp only[uq,a,eH (λe:g=f=>b (h.symm.trans e))]
   ·let a:(g==k)=dr:=beq_eq_false_iff_ne.mpr h
    simp only[uq,a];erw[d]
theorem HM(f:Str)(v:V):∀b:!(Str×V),f∈(Ab f v b).map (·.1)/\∀g,g∈b.map (·.1)->g∈(Ab f v b).map (·.1)
 |[]=>#[by simp[Ab],λg h=>by simp at h]
 | (k,x)::r=>by
  let#[d,c]:=HM f v r;rw[show Ab f v ((k,x)::r)=(if k=f then (k,v)::r else (k,x)::Ab f v r) from rfl];by_cases a:k=f
  ·rw[eG a]
   subst a;exists -_,λg h=>by simpa using h
  ·rw[eH a]
   erw[4,λg h=>?_]
   ·rw[bz]
    erw[aO _ d]
   ·rw[bz] at h ⊢
    obtain e|e:=aT.mp h
    ·erw[aT.mpr (.inl e)]
    ·erw[aO _ (c g e)]
theorem Jx(f:Str)(v:V):∀b:!(Str×V),ge (Ab f v b)<=ge b+1
 |[]=>by simp[Ab]
 | (k,x)::r=>by
  let c:=Jx f v r;rw[show Ab f v ((k,x)::r)=(if k=f then (k,v)::r else (k,x)::Ab f v r) from rfl];by_cases a:k=f
  ·rw[eG a,bG,bG];lia
  ·rw[eH a,bG,bG];lia
theorem CJ.some_of(r:CJ (ac v) o):∃u,o=ac u/\RelV v u:=by cases o with|none=>erw[(show False from r).elim]|some u=>erw[u,2,r]
theorem CJ.none_of(r:CJ de o):o=de:=by cases o with|none=>rfl|some u=>erw[(show False from r).elim]
theorem Y9(r:RelV v u):PySem.W.handedIn u=df:=by cases v with|gw=>cases (show u=Value.none from r);rfl|bl b=>cases (show u=Value.bool b from r);rfl|int i=>let#[t,e]:=(show ∃t,u=Value.int i t from r);ext e;rfl|str x=>let#[t,e]:=(show ∃t,u=Value.str x t from r);ext e;rfl|W6 b=>let#[t,e]:=(show ∃t,u=Value.bytes b t from r);ext e;rfl|flt b=>let#[t,e]:=(show ∃t,u=Value.float b t from r);ext e;rfl|ref a=>cases (show u=Value.ref a from r);rfl|ty n=>cases (show u=Value.type n from r);rfl
section
variable{P:ft}{w:World}{H H':Hp}{h h':Heap}{a C dx:du}{fs fs':!(Str×V)}
theorem QD(c:CK P w H h)(e:H a=ac (.ins C dx fs)):∃b,VA h a dx C b/\(∀f,CJ (fs.lookup f) (b f))/\PySem.Within b (fs.map (·.1))/\ge fs<=1000/\H dx=ac (.own a):=by let#[d,z,g,ob,b,n,r,q]:=(show jL P w H h a (.ins C dx fs) from c a _ e);erw[b,#[ob,n,g],r,q,z,d]
end
structure ND(K:ah)(C:du):Prop where
 pg:AG K C Str.empty=df
 hd:yI K C=df
 po:PySem.W.plainOver K C=df
 sa:aV K (.ref C) "__setattr__" = ac (ac (.builtin "object.__setattr__"))
def ND.get{K:ah}(c:ND K C)(f:Str):AG K C f=df:=c.pg
def fh(K:ah)(C:du)(f:Str):Prop:=aV K (.ref C) f=ac de
theorem fh.akQ{K:ah}(n:fh K C f):PySem.W.takerIn K C f=ac de:=by delta PySem.W.takerIn;rw[show aV K (.ref C) f=ac de from n];rfl
structure QE(K:ah)(C:du)(m:Str)(f:du):Prop where
 at_:aV K (.ref C) m=ac (ac (.ref f))
 fn:PySem.W.isFn K (.ref f)=df
 kp:fz K (.ref f)=df
section
variable{X:Cx}{pins:!(du×Obj)}{σ:St}{H:Hp}{s:dA}{a C dx:du}{fs:!(Str×V)}{f:Str}{v:V}{A:fv}{E:dy->dA->Prop}
theorem VB{b:Bool}{Q:dy->dA->Prop}(I:Inv X pins σ H s)(e:H a=ac (.ins C dx fs))(c:ND X.K C)(n:fh X.K C f)(l:fs.lookup f=ac v)(h:∀u s',Inv X pins σ H s'->RelV v u->Q u s'):fg (model X.prog X.w) A (getAttr (.ref a) f b) Q E s:=by let#[g,O,r,_,_,_]:=QD I.hok e;let#[u,i,d]:=CJ.some_of (v:=v) (o:=g f) (by rw[<- l];erw[r f]);erw[get_map I.NI O (c.get f) c.hd n i (Y9 d) (h u _ (I.tok _) d)]
theorem K3{m:Str}{g:du}{pl:Sem Bool}{Q:dy×!dy->dA->Prop}(I:Inv X pins σ H s)(e:H a=ac (.ins C dx fs))(c:ND X.K C)(k:QE X.K C m g)(l:fs.lookup m=de)(h:Q (.ref g,[.ref a]) s):fg (model X.prog X.w) A (getMethod (.ref a) m pl) Q E s:=by let#[d,O,r,_,_,_]:=QD I.hok e;let b:d m=de:=CJ.none_of (by rw[<- l];erw[r m]);erw[aa5 I.NI O (c.get m) k.at_ k.fn b h]
theorem VC{y:V}{u:dy}{Q:Unit->dA->Prop}(I:Inv X pins σ H s)(e:H a=ac (.ins C dx fs))(c:ND X.K C)(n:fh X.K C f)(hl:ge fs<1000)(v:RelV y u)(h:∀s',Inv X pins σ (upd H a (.ins C dx (Ab f y fs))) s'->Q () s'):fg (model X.prog X.w) A (setAttr (.ref a) f u) Q E s:=by let#[i,O,r,j,_,k]:=QD I.hok e;let B:ge (fs.map (·.1))<=eD:=(by rw[af,sizeLine_eq];lia);erw[aec I.NI O c.sa c.po n.akQ c.hd j B λm d p=>h _ ?_];let hd:∃o,m.get? dx=ac o:=let ⟨o,_,_,D,_⟩:=d.ns;#[o,D];erw[I.write (x:=a) (e:=dx) (by rw[e];erw[True.intro]) (.inr k) (λb q t z=>(p.2 b t).trans z) hd ?_];exists by rw[aY O.ne];exact k,4,O.ne,d.obj,_,d.ns,λg=>?_,λg l=>?_;let:=Jx f y fs;lia;show CJ ((Ab f y fs).lookup g) (if g=f then ac u else i g);rw[Jw];by_cases q:g=f;rw[eG q,eG q];erw[v];rw[eH q,eH q];erw[r g];by_cases q:g=f;rw[q];erw[(HM f y fs).1];erw[(HM f y fs).2 g (j g λz=>l ?_)];show (if g=f then ac u else i g)=de;rw[eH q];erw[z]
theorem Inv.made(I:Inv X pins σ H s):Inv X pins σ (upd (upd H s.heap.objs.size (.own (s.heap.objs.size+1))) (s.heap.objs.size+1) (.ins C s.heap.objs.size [])) {s with heap:=(s.heap.push iN).push (mP C s.heap.objs.size)}:=by let c:(s.heap.push iN).get? s.heap.objs.size=ac iN:=en s.heap rfl;let i:((s.heap.push iN).push (mP C s.heap.objs.size)).get? (s.heap.objs.size+1)=ac (mP C s.heap.objs.size):=(by let:=en (s.heap.push iN) (o:=mP C s.heap.objs.size) rfl;rwa [Heap.size_push] at this);let j:(s.heap.push iN).Ns s.heap.objs.size (λ_=>de):=#[iN,[].toArray,_,c,2,(λe h=>ff h (-_)),λ_=>rfl];let f:=I.laid (a:=s.heap.objs.size) (o:=.own (s.heap.objs.size+1)) (h':=s.heap.push iN) (t':=s.toks) (λb u q=>dL _ q) (aA _) #[_,c];erw[f.laid (a:=s.heap.objs.size+1) (o:=.ins C s.heap.objs.size []) (t':=s.toks) (λb u q=>dL _ q) (Nat.le_of_eq (Heap.size_push _ _)) ?_];let d:s.heap.objs.size≠s.heap.objs.size+1:=bV (AH _);exists by rw[aY d,ay],bL _,d,i,λ_=>de,(Heap.Ns1.of_empty j).at λo q=>dL _ q,λ_=>True.intro,λy g=>ff rfl g
theorem aed{prog:ft}{w:World}{env:Env}{e:Expr}{f:Str}{b:Pos}{s:dA}{Q:dy->dA->Prop}(c:attributeBase e f env (eval e env)=eval e env)(h:fg (model prog w) A (eval e env) (λo a=>fg (model prog w) A (getAttr o f df) Q E a) E s):fg (model prog w) A (eval (.Attribute e f b) env) Q E s :=Attribute_any_ h (by rw[arm_eval_Attribute,c])
end
inductive uk(K:ah)(f:Str)(Q:VK)(x:V)(H1:Hp):Prop
 |mk(a C dx:du)(fs:!(Str×V))(v:V)(h1:x=.ref a)(h2:H1 a=ac (.ins C dx fs))(h3:ND K C)(h4:fh K C f)(h5:fs.lookup f=ac v)(h6:Q v H1):uk K f Q x H1
def K4(K:ah)(ta:TE)(f:Str):TE:=λσ H Q=>ta σ H (uk K f Q)
def IN(K:ah)(ta tv:TE)(f:Str):TS:=λD σ H=>tv σ H λy H1=>ta σ H1 λx H2=>∃a C dx fs,x=.ref a/\H2 a=ac (.ins C dx fs)/\ND K C/\fh K C f/\ge fs<1000 /\
 D.nx σ (upd H2 a (.ins C dx (Ab f y fs)))
section
variable{X:Cx}{o e value:Expr}{f:Str}{pos pos' tpos:Pos}{ta tv:TE}
theorem bF(p:PE X e ta)(m:attributeBase e f X.env (eval e X.env)=eval e X.env):PE X (.Attribute e f pos) (K4 X.K ta f):=by intro b s d H Q I h;erw[aed m (iS (p b s d H _ I h) λu y u_=>?_)];let#[x,i,j,t,a,C,z,A,v,g,o,c,n,l,q]:=u_;subst g;obtain rfl:u=Value.ref a:=t;erw[VB j o c n l λB w r k=>#[v,i,r,k,q]]
theorem gR(w:PE X o ta)(v:PE X value tv)(hs:swapsWith value (ac (.Attribute o f pos')) pos.line X.env=pure dr):PS X (.Assign [.Attribute o f pos'] value pos) (IN X.K ta tv f):=by intro b s d H D I h;erw[plainObj_wpAny_Assign_Attribute (iS (v b s d H _ I h) λu m ⟨y,j,k,p,q⟩=>iS (w b m d j _ k q) λe E u_=>?_) hs];let#[x,G,t,z,a,C,F,J,i,r,c,n,l,A]:=u_;subst i;obtain rfl:e=Value.ref a:=z;erw[VC t r c n l p λB g=>#[d,_,g,A]]
end
structure mK(k:Nat)(A:fv):Prop where
 hd:A.handled=de
 dp:A.depth+3*k+5<recursionLimit
 un:A.units+16*k+200<cLine
theorem mK.mono{j:Nat}(r:mK k A)(h:j<=k):mK j A:=#[r.hd,by let:=r.dp;lia,by let:=r.un;lia]
theorem mK.deeper{k:Nat}(r:mK (k+1) A)(env:Env):mK k (A.deeper env) :=#[r.hd,by let:=r.dp;show A.depth+1+3*k+5<_;lia,by let:=r.un;show A.units+3+16*k+200<_;lia]
theorem VD{A:fv}{us:!dy}{a:!(Str×dy)}:(A.under (.builtin "type.__call__" #[.ref C::us,a])).depth=A.depth+1:=by (first|rfl|simp[Around.under,Code.weight,Code.isCreation,Code.isGuard,Code.isCaller,Code.frames,Code.isFrame,guardIds])
theorem VE{A:fv}{us:!dy}{a:!(Str×dy)}:(A.under (.builtin "type.__call__" #[.ref C::us,a])).units=A.units+1:=by (first|rfl|simp[Around.under,Code.cUnits,Code.frames,Code.isFrame])
theorem mK.make{k:Nat}(r:mK (k+1) A)(C:du)(us:!dy)(a:!(Str×dy)):mK k (A.under (.builtin "type.__call__" #[.ref C::us,a])) :=#[r.hd,by let:=r.dp;rw[VD];lia,by let:=r.un;rw[VE];lia]
theorem mK.depth(r:mK k A):A.depth<recursionLimit:=by let:=r.dp;lia
theorem mK.units(r:mK k A):A.units+64<cLine:=by let:=r.un;lia
def HN:TA:=λ_ H Q=>Q [] H
def mD(ta:TE)(tr:TA):TA:=λσ H Q=>ta σ H λx H1=>tr σ H1 λxs H2=>Q (x::xs) H2
section
variable{X:Cx}{e:Expr}{es:!Expr}{te:TE}{t:TA}{pos:Pos}
def gx:PA X [] HN:=λ_ _ _ _ H Q I h=>Calls.spliced_nil #[[],H,I,.nil,h]
theorem aee(n:PE X e te)(j:PA X es t)(hs:eP (e::es) X.env=(dr,eval e X.env)::eP es X.env:=by rfl):PA X (e::es) (mD te t):=by intro pos a s b H Q I h;rw[hs];show fg _ _ (spliced ((dr,eval e X.env)::backTo pos (eP es X.env))) _ _ s;erw[Calls.spliced_cons (iS (n a s b H _ I h) λu g u_=>?_)];let#[x,d,f,i,c]:=u_;erw[iS (j pos a g b d _ f c) λr q ⟨m,l,k,p,o⟩=>#[x::m,l,k,.cons i p,o]]
def IH(t:TA):TE:=λσ H Q=>t σ H λxs H1=>ge xs<=eD/\∀p,H1 p=de->Q (.ref p) (upd H1 p (.tup xs))
def Iy(t:TA):TE:=λσ H Q=>t σ H λxs H1=>ge xs<=eD/\∀p,H1 p=de->Q (.ref p) (upd H1 p (.lst xs))
theorem i6{x1}(h:PA X es t):PE X (.Tuple es x1 pos) (IH t):=by intro a s g H Q I j;erw[wpAny_Tuple_spliced (iS (h pos a s g H _ I j) λl c ⟨k,d,f,r,z,q⟩=>#[by rw[<- r.length];exact z,4])];let i:d c.heap.objs.size=de:=f.hok.fresh (aA _);erw[.ref c.heap.objs.size,upd d c.heap.objs.size (.tup k),f.laid (t':=c.toks) (λb u e=>dL _ e) (aA _) ?_,2,q _ i];erw[z,l,r,#[_,en _ rfl,8]]
theorem eB(h:PA X es t):PE X (.List es pos) (Iy t):=by intro a s g H Q I j;erw[wpAny_List_spliced (iS (h pos a s g H _ I j) λl c ⟨k,d,f,r,z,q⟩=>#[by rw[<- r.length];exact z,4])];let i:d c.heap.objs.size=de:=f.hok.fresh (aA _);erw[.ref c.heap.objs.size,upd d c.heap.objs.size (.lst k),f.laid (t':=c.toks) (λb u e=>dL _ e) (aA _) ?_,2,q _ i];erw[z,l,(0),r,en _ rfl]
end
abbrev Sp:=!V->Hp->VK->XK->Prop
abbrev Za:=!Env->Hp->dA->XK->dy->dA->Prop
structure VF(P:ft)(w:World)(K:ah)(mg:Str->Option dy)(base:Heap)(A:fv)(outer:!Env)(s:dA)(H:Hp):Prop where
 frames:A.frames=ac outer
 mod:Mod K mg base
 bs:∀b o,base.get? b=ac o->s.heap.get? b=ac o/\H b=de
 nW:base.objs.size<=s.heap.objs.size
 Gq:s.heap.FunFrames base outer
 Gb:∀b∈im outer,H b=de
 hok:CK P w H s.heap
 bare:AllBare s.gens
def CE(outer:!Env)(P:ft)(w:World)(H:Hp)(s:dA)(Q:VK)(u:dy)(s':dA):Prop:=
 ∃v H',s'.os=s.os/\AllBare s'.gens/\Un (im outer) [] H H' s.heap s'.heap/\CK P w H' s'.heap/\RelV v u/\Q v H'
def CR(CX:Za)(outer:!Env)(P:ft)(w:World)(H:Hp)(s:dA)(Q:VK)(E:XK)(r:Result)(s':dA):Prop:=
 match r with
 |.ok (.ret u)=>CE outer P w H s Q u s'
 |.ok _=>False
 |.error e=>CX outer H s E e s'
structure ou(P:ft)(w:World)(K:ah)(mg:Str->Option dy)(base:Heap)(CX:Za)(k:Nat)(f:du)(fd:FuncData)(ps:!Str)(sp:Sp):Prop where
 len:∀vs H Q E,sp vs H Q E->ge vs=ge ps
 run:∀(A:fv)(outer:!Env)(s:dA)(H:Hp)(args:Args)(us:!dy)(vs:!V)(Q:VK)(E:XK),mK k A->VF P w K mg base A outer s H->BindsTo s fd args (ps.zip us)->cO vs us->sp vs H Q E ->
  codeAny (model P w) A (.call (.ref f) args) (CR CX outer P w H s Q E) s
theorem VF.make{P:ft}{w:World}{K:ah}{b:Str->Option dy}{base:Heap}{A:fv}{a:!Env}{s:dA}{H:Hp}(e:VF P w K b base A a s H)(C:du)(us:!dy)(c:!(Str×dy)) :VF P w K b base (A.under (.builtin "type.__call__" #[.ref C::us,c])) a s H:=#[by first|erw[e.frames]|(simpa [Around.under,Code.envs,Code.isFrame,pushEnvs] using e.frames),e.mod,e.bs,e.nW,e.Gq,e.Gb,e.hok,e.bare]
section
variable{X:Cx}{pins:!(du×Obj)}{σ:St}{H:Hp}{s s':dA}
def Inv.akS(I:Inv X pins σ H s):VF X.prog X.w X.K X.mg X.base X.A X.stack s H :=#[I.ok.frames,I.ok.mod,I.bs,aJ I.ok.nW I.sz,I.stack,I.Qv,I.hok,I.bare]
theorem Inv.after(I:Inv X pins σ H s)(h:CE X.stack X.prog X.w H s Q u s'):EP X pins σ Q u s':=by let#[v,j,os,a,i,e,r,q]:=h;let#[f,g,d,t,c]:=s';obtain rfl:c=s.os:=os;erw[v,j,I.call (h':=f) (g':=g) (d':=d) (t':=t) (ch:=[]) i e a (λb z=>ff z (-_)),r,q]
end
def wS(sp:Sp)(EZ:!V)(E:XK)(t:TA):TE:=λσ H Q=>t σ H λvs H1=>sp (vs++EZ) H1 Q E
inductive wq(C:du)(m:Str)(sp:Sp)(EZ:!V)(E:XK)(t:TA)(σ:St)(Q:VK)(x:V)(H1:Hp):Prop
 |mk(a dx:du)(fs:!(Str×V))(h1:x=.ref a)(h2:H1 a=ac (.ins C dx fs))(h3:fs.lookup m=de)(h4:t σ H1 λvs H2=>sp (x::(vs++EZ)) H2 Q E):wq C m sp EZ E t σ Q x H1
def Jy(C:du)(m:Str)(sp:Sp)(EZ:!V)(E:XK)(ta:TE)(t:TA):TE:=λσ H Q=>ta σ H (wq C m sp EZ E t σ Q)
def sg(C:du)(sp:Sp)(EZ:!V)(E:XK)(t:TA):TE:=λσ H Q=>t σ H λvs H1=>∀x dx,H1 x=de->H1 dx=de->dx≠x ->
 sp (.ref x::(vs++EZ)) (upd (upd H1 dx (.own x)) x (.ins C dx [])) (λv H2=>v=.gw/\Q (.ref x) H2) E
def Binds(K:ah)(fd:FuncData)(ps:!Str)(ds:!dy):Prop:=
 ∀(s:dA)(us:!dy),K.In s.heap->ge (us++ds)=ge ps->BindsTo s fd #[us,[]] (ps.zip (us++ds))
theorem Binds.all{K:ah}{ps:!Str}(h:∀us:!dy,ge us=ge ps->bindArgs fd #[us,[]]=pure (ps.zip us)):Binds K fd ps []:=λs us _ a=>by
 rw[cu] at a ⊢;erw[.of_eq (h us a)]
def wA(CX:Za)(X:Cx)(E:XK):Prop:=∀(pins:!(du×Obj))(σ:St)(H:Hp)(s:dA)(e:dy)(s':dA),Inv X pins σ H s->CX X.stack H s E e s'->X.xe e s'
section
variable{X:Cx}{CX:Za}{k:Nat}{f C:du}{fd:FuncData}{ps:!Str}{sp:Sp}{EZ:!V}{ds:!dy}{E:XK}{x m:Str}{p pos apos:Pos}{e o:Expr}{es:!Expr}{ta:TE}{t:TA}
theorem K5{a:!(du×Obj)}{c:St}{H:Hp}{s:dA}{Q:VK}{us:!dy}{vs:!V}(F:ou X.prog X.w X.K X.mg X.base CX k f fd ps sp)(l:mK k X.A)(j:Binds X.K fd ps ds)(n:cO EZ ds)(g:wA CX X E)(I:Inv X a c H s)(r:cO vs us)(h:sp (vs++EZ) H Q E):fg (model X.prog X.w) X.A (call (.ref f) us) (EP X a c Q) X.xe s:=by let d:cO (vs++EZ) (us++ds):=r.append n;let i:ge (us++ds)=ge ps:=(by rw[<- d.length];erw[F.len _ _ _ _ h]);erw[wpAny_call (codeAny_mono (F.run X.A X.stack s H #[us,[]] (us++ds) (vs++EZ) Q E l I.akS (j s us I.NI i) d h) λr o b=>?_)];cases r with|error e=>erw[g a c H s e o I b]|ok m=>(cases m with|ret u=>erw[I.after b]|next=>erw[mS b]|brk=>erw[mS b]|cont=>erw[mS b])
theorem D5(F:ou X.prog X.w X.K X.mg X.base CX k f fd ps sp)(n:mK k X.A)(j:Gl X x)(y:X.mg x=ac (.ref f))(l:fz X.K (.ref f)=df)(m:Binds X.K fd ps ds)(u:cO EZ ds)(i:wA CX X E)(v:PA X (e::es) t)(b:(x==("__debug__" : Str))=dr:=by decide)(o:eP (e::es) X.env=(dr,eval e X.env)::eP es X.env:=by rfl)(c:(backTo pos (eP es X.env)).any (·.1)=dr:=by rfl) :PE X (.Call (.Name x p) (e::es) [] pos) (wS sp EZ E t):=by intro a s g H Q I h;erw[wpAny_Call_Name_kw (Gs I j y ?_ b)];erw[vW (h₀:=X.base) I.ok.mod.DL l (iS (v pos a s g H _ I h) λD C ⟨z,B,d,r,q⟩=>#[d.NI,4]) o c];erw[K5 F n m u i d r q]
theorem sr{pl:Sem Bool}(J:PE X o ta)(c:ND X.K C)(hm:QE X.K C m f)(F:ou X.prog X.w X.K X.mg X.base CX k f fd ps sp)(L:mK k X.A)(B:Binds X.K fd ps ds)(M:cO EZ ds)(v:wA CX X E)(N:PA X (e::es) t)
 (g:eP (e::es) X.env=(dr,eval e X.env)::eP es X.env:=by rfl) (d:(backTo pos (eP es X.env)).any (·.1)=dr:=by rfl)
 (R:eval (.Call (.Attribute o m apos) (e::es) [] pos) X.env=(do
  let j <- eval o X.env
  standAt apos.atName
  let (f,first) <- holding [j] (getMethod j m pl)
  callWith pos f first (backTo pos (eP (e::es) X.env)) (backToKw pos (keywordEach [] X.env))):=by rfl):
 PE X (.Call (.Attribute o m apos) (e::es) [] pos) (Jy C m sp EZ E ta t):=by intro b s i H Q I h;erw[PySem.W.methodCall_KW (pl:=pl) (iS (J b s i H _ I h) λu D u_=>?_) R];let#[x,z,n,O,a,T,V,y,G,l,q]:=u_;subst y;obtain rfl:u=Value.ref a:=O;erw[K3 n G c hm l ?_];erw[vW (first:=[.ref a]) (h₀:=X.base) I.ok.mod.DL hm.kp (iS (N pos b D i z _ n q) λus S ⟨vs,U,p,r,P⟩=>#[p.NI,4]) g d];erw[K5 (us:=.ref a::us) (vs:=.ref a::vs) F L B M v p (.cons rfl r) P]
theorem ow{pl:Sem Bool}(r:PE X o ta)(c:ND X.K C)(hm:QE X.K C m f)(F:ou X.prog X.w X.K X.mg X.base CX k f fd ps sp)(t:mK k X.A)(n:Binds X.K fd ps ds)(v:cO EZ ds)(i:wA CX X E)
 (z:eval (.Call (.Attribute o m apos) [] [] pos) X.env=(do
  let e <- eval o X.env
  standAt apos.atName
  let (f,first) <- holding [e] (getMethod e m pl)
  callWith pos f first (backTo pos (eP [] X.env)) (backToKw pos (keywordEach [] X.env))):=by rfl):
 PE X (.Call (.Attribute o m apos) [] [] pos) (Jy C m sp EZ E ta HN):=by intro b s g H Q I h;erw[PySem.W.methodCall_KW (pl:=pl) (iS (r b s g H _ I h) λu D u_=>?_) z];let#[x,B,d,y,a,G,J,j,p,l,q]:=u_;subst j;obtain rfl:u=Value.ref a:=y;erw[K3 d p c hm l ?_];erw[PySem.W.callWith_K0 (first:=[.ref a]) d.NI hm.kp (K5 (us:=[.ref a]) (vs:=[.ref a]) F t n v i d (.cons rfl .nil) q)]
structure Mk(K:ah)(C f:du):Prop where
 makes:PySem.W.makesIn K C=df
 init:aV K (.ref C) "__init__" = ac (ac (.ref f))
 fn:PySem.W.isFn K (.ref f)=df
 kp:fz K (.ref C)=df
theorem SM{b:!(du×Obj)}{g:St}{H:Hp}{s:dA}{Q:VK}{us:!dy}{vs:!V}(M:Mk X.K C f)(F:ou X.prog X.w X.K X.mg X.base CX k f fd ps sp)(t:mK (k+1) X.A)(q:Binds X.K fd ps ds)(B:cO EZ ds)(n:wA CX X E)(I:Inv X b g H s)(r:cO vs us)(h:∀x d,H x=de->H d=de->d≠x->sp (.ref x::(vs++EZ)) (upd (upd H d (.own x)) x (.ins C d [])) (λv z=>v=.gw/\Q (.ref x) z) E) :fg (model X.prog X.w) X.A (call (.ref C) us) (EP X b g Q) X.xe s:=by let i:=h (s.heap.objs.size+1) s.heap.objs.size (I.hok.fresh (iO _)) (I.hok.fresh (aA _)) (bV (AH _));let c:=Inv.made (C:=C) I;let j:cO (V.ref (s.heap.objs.size+1)::(vs++EZ)) (Value.ref (s.heap.objs.size+1)::(us++ds)):=.cons rfl (r.append B);let p:ge (Value.ref (s.heap.objs.size+1)::us++ds)=ge ps:=(by let e:=j.length;rw[F.len _ _ _ _ i] at e;erw[e.symm]);erw[wpAny_call (aa6 (f:=f) I.NI M.makes M.init (beq_iff_eq.mp M.fn) (codeAny_mono (F.run _ X.stack _ _ #[Value.ref (s.heap.objs.size+1)::us,[]] (Value.ref (s.heap.objs.size+1)::(us++ds)) _ _ E (t.make C us []) (c.akS.make C us []) (q _ (Value.ref (s.heap.objs.size+1)::us) c.NI p) j i) λr D a=>?_))];cases r with|error e=>erw[n b g _ _ e D c a]|ok y=>(cases y with|ret u=>let#[v,G,l,o,J,m]:=c.after a;subst J;erw[o,#[V.ref (s.heap.objs.size+1),G,l,2,m]]|next=>erw[mS a]|brk=>erw[mS a]|cont=>erw[mS a])
theorem Xe(M:Mk X.K C f)(F:ou X.prog X.w X.K X.mg X.base CX k f fd ps sp)(m:mK (k+1) X.A)(j:Gl X x)(v:X.mg x=ac (.ref C))(l:Binds X.K fd ps ds)(o:cO EZ ds)(i:wA CX X E)(u:PA X (e::es) t)(b:(x==("__debug__" : Str))=dr:=by decide)(n:eP (e::es) X.env=(dr,eval e X.env)::eP es X.env:=by rfl)(c:(backTo pos (eP es X.env)).any (·.1)=dr:=by rfl) :PE X (.Call (.Name x p) (e::es) [] pos) (sg C sp EZ E t):=by intro a s g H Q I h;erw[wpAny_Call_Name_kw (Gs I j v ?_ b)];erw[vW (h₀:=X.base) I.ok.mod.DL M.kp (iS (u pos a s g H _ I h) λD B ⟨y,z,d,r,q⟩=>#[d.NI,4]) n c];erw[SM M F m l o i d r q]
theorem aa8(M:Mk X.K C f)(F:ou X.prog X.w X.K X.mg X.base CX k f fd ps sp)(c:mK (k+1) X.A)(e:Gl X x)(d:X.mg x=ac (.ref C))(g:Binds X.K fd ps ds)(j:cO EZ ds)(i:wA CX X E)(a:(x==("__debug__" : Str))=dr:=by decide):PE X (.Call (.Name x p) [] [] pos) (sg C sp EZ E HN):=by intro b s l H Q I h;erw[wpAny_Call_Name_kw (Gs I e d ?_ a)];erw[PySem.W.callWith_K0 I.NI M.kp (SM (us:=[]) M F c g j i I .nil h)]
end
structure aQ(N P:!Str)(sc:Scope):Prop where
 kind:sc.kind=.function
 co:sc.isCoroutine=dr
 gen:sc.isGenerator=dr
 nd:N.Nodup
 pre:N.take (ge P)=P
 par:∀x∈P,sc.names.lookup x=ac .local\/sc.names.lookup x=ac .cell
 ahA:∀y∈sc.names,y.2≠.free
theorem Pc{kindOf:Str->Option NameKind}{x:Str}:∀{a:!(Str×dy)}{m:Str->Option dy},(∀v,(x,v)∉a)->bindL kindOf a m x=m x
 |[],_,_=>rfl
 | (n,v)::r,m,h=>by
  delta bindL;rw[Pc λw b=>h w (aO _ b)];split
  ·let:x≠n:=by rintro rfl;exact h v aM
   simp[this]
  ·rfl
theorem Pd{kindOf:Str->Option NameKind}{x:Str}:∀{a:!(Str×dy)}{m:Str->Option dy},(∀v,(x,v)∉a)->bindC kindOf a m x=m x
 |[],_,_=>rfl
 | (n,v)::r,m,h=>by
  delta bindC;rw[Pd λw b=>h w (aO _ b)];split
  ·rfl
  ·let:x≠n:=by rintro rfl;exact h v aM
   simp[this]
theorem Pe{kindOf:Str->Option NameKind}{x:Str}{v:dy}:∀{P:!Str}{vs:!dy}{i:Nat}{m:Str->Option dy},P.Nodup->P[i]?=ac x->vs[i]?=ac v->kindOf x=ac .local ->
 bindL kindOf (P.zip vs) m x=ac v
 |[],_,_,_,_,h,_,_=>by simp at h
 |_::_,[],_,_,_,_,h,_=>by simp at h
 |p::P,w::vs,0,m,nd,b,a,c=>by
  simp at b a;subst b;subst a;show bindL kindOf ((p,w)::P.zip vs) m p=_;delta bindL;rw[Pc λv d=>(dY.mp nd).1 (List.of_mem_zip d).1,eG c];simp
 |p::P,w::vs,i+1,m,nd,b,a,c=>by
  show bindL kindOf ((p,w)::P.zip vs) m x=_;delta bindL;erw[Pe (i:=i) (dY.mp nd).2 b⁻¹ a⁻¹ c]
theorem Pf{kindOf:Str->Option NameKind}{x:Str}{v:dy}:∀{P:!Str}{vs:!dy}{i:Nat}{m:Str->Option dy},P.Nodup->P[i]?=ac x->vs[i]?=ac v->kindOf x≠ac .local ->
 bindC kindOf (P.zip vs) m x=ac v
 |[],_,_,_,_,h,_,_=>by simp at h
 |_::_,[],_,_,_,_,h,_=>by simp at h
 |p::P,w::vs,0,m,nd,b,a,c=>by
  simp at b a;subst b;subst a;show bindC kindOf ((p,w)::P.zip vs) m p=_;delta bindC;rw[Pd λv d=>(dY.mp nd).1 (List.of_mem_zip d).1,eH c];simp
 |p::P,w::vs,i+1,m,nd,b,a,c=>by
  show bindC kindOf ((p,w)::P.zip vs) m x=_;delta bindC;erw[Pf (i:=i) (dY.mp nd).2 b⁻¹ a⁻¹ c]
noncomputable def start(N:!Str)(vs:!V):St:=vs.map ac++bN (ge N-(ge vs)) de
noncomputable def rH(CX:Za)(P:ft)(w:World)(K:ah)(mg:Str->Option dy)(base:Heap)(N:!Str)(qual:Str)(scope:Scope)(f:du)(cd:dy)(A:fv)(outer:!Env)(s:dA)(H:Hp)(E:XK):Cx where
 prog:=P
 w:=w
 K:=K
 mg:=mg
 base:=base
 A:=A.deeper (envOfC qual scope s.heap.objs.size f cd)
 N:=N
 s₀:=s
 H₀:=H
 env:=envOfC qual scope s.heap.objs.size f cd
 outer:=outer
 stack:=envOfC qual scope s.heap.objs.size f cd::outer
 ex:=[]
 calm:=df
 fn:=λ_=>df
 pn:=[]
 xe:=λe s'=>fg (model P w) (A.deeper (envOfC qual scope s.heap.objs.size f cd)) (leaving (envOfC qual scope s.heap.objs.size f cd) e) (λ_ s''=>CX outer H s E e s'') (λe' s''=>CX outer H s E e' s'') s'
theorem SN{a:Scope}(h:a.names.lookup x=ac .cell):∃c,(cellsFrom n a.names []).lookup x=ac c:=by let q:=PySem.W.cellsFrom_some a.names n [] (.inl h);erw[Option.isSome_iff_exists.mp q]
theorem Zb{CX:Za}{P:ft}{w:World}{K:ah}{F:Str->Option dy}{base:Heap}{N ps:!Str}{g:Str}{scope:Scope}{f:du}{C:dy}{A:fv}{d:!Env}{s J:dA}{H:Hp}{E:XK}{us:!dy}{vs:!V}(S:aQ N ps scope)(O:A.handled=de)(l:VF P w K F base A d s H)(hl:ge vs=ge ps)(r:cO vs us)(x:InCallC s s.heap.objs.size (bindL (envOfC g scope s.heap.objs.size f C).kindOf (ps.zip us) λ_=>de) (cellsFrom (s.heap.objs.size+1) scope.names []) (bindC (envOfC g scope s.heap.objs.size f C).kindOf (ps.zip us) λ_=>de) J) :Inv (rH CX P w K F base N g scope f C A d s H E) [] (start N vs) H J:=by
 let M:ge ps<=ge N:=(by let:=gZ ge S.pre;rw[bU] at this;lia);let#[B,T,rfl,I]:=x.done;let m:∀b:du,b∉(rH CX P w K F base N g scope f C A d s H E).ex:=λb z=>ff (show b∈([]:!du) from z) (-_);erw[#[l.mod,S.kind,22,aA _,λy z c B j=>?_,λy hy=>?_,λy c _ h=>?_,λ_=>O,Around.frames_deeper l.frames,.inr #[22],λb z=>ff z (m b),l.bs,l.nW,λb _ _=>m b,λb z=>ff z (m b),l.Gq,l.Gb],
  rfl,l.bare,Un.kept I,#[_,x.toInCall.ns,λi y v B j R=>?_],λy c h=>#[_,x.cell y c h],l.hok.fresh (aA _),λy c h=>?_,λp o=>ff (show p∈([]:!(du×Obj)) from o) (-_),l.hok.kept I,4]
 erw[name_of_addr x.apart (uo B) (uo j)];let hy:scope.names.lookup y=ac .cell\/scope.names.lookup y=ac .free:=hy;obtain hy|hy:=hy;erw[SN hy];erw[ff rfl (S.ahA _ (uo hy))];erw[gp (x.above y c (uo h))];·let D:i<ge vs:=(by delta start at j;by_cases D:i<ge vs;erw[D];·rw[bE D⁻¹] at j;rw[List.getElem?_replicate] at j;split at j <;> ext j);let Q:vs[i]?=ac v:=(by delta start at j;rw[aW D⁻¹,ao] at j;cases e:vs[i]? with|none=>rw[e] at j;ext j|some a=>rw[e] at j;ext j;rfl);let#[u,G,L]:=r.get Q;let o:ps[i]?=ac y:=(by rw[<- S.pre,jg ∅];erw[B]);let t:ps.Nodup:=(by rw[<- S.pre];erw[S.nd.sublist (List.take_sublist _ _)]);erw[u,L,4];obtain k|k:=S.par y (aD o);erw[.inl #[k,Pe t o G k]];let#[c,e]:=SN (n:=s.heap.objs.size+1) k;erw[.inr #[.inl k,c,e,4]];let q:=x.cell y c e;rw[Pf t o G (by show scope.names.lookup y≠_;rw[k];decide)] at q;erw[q]
 erw[l.hok.fresh (gp (x.above y c (uo h)))];delta start;show _=ge N;rw[az,af,List.length_replicate];lia
theorem rx{CX:Za}{P:ft}{w:World}{K:ah}{G:Str->Option dy}{base:Heap}{k:Nat}{f:du}{name c:Str}{g:Arguments}{h:!Stmt}{scope:Scope}{dV kV F Y d ct oc:dy}{an od:Option du}{U:Array (Option dy)}{N ps:!Str}{sp:Sp}(lk:K.lookup f=ac #[oc,od,.func (fN name c g h scope dV kV F Y an d ct),U])(O:lX K d c=df)(S:aQ N ps scope)(z:∀vs H Q E,sp vs H Q E->ge vs=ge ps)(l:∀(A:fv)(a:!Env)(s:dA)(H:Hp)(vs:!V)(Q:VK)(E:XK),mK k (A.deeper (envOfC c scope s.heap.objs.size f d))->sp vs H Q E ->∃t,iR (rH CX P w K G base N c scope f d A a s H E) h t/\t {nx:=λ_ j=>Q .gw j,rt:=Q} (start N vs) H) :ou P w K G base CX (k+1) f (fN name c g h scope dV kV F Y an d ct) ps sp:=by
 erw[z,λA a s H aa us vs Q E T B hb r D=>?_];let hl:=z _ _ _ _ D;let Z:K.In s.heap:=B.mod.DL.keeps λb o e=>(B.bs b o e).1;let M:s.heap.NoLimit:=B.mod.nolimit.keeps λb o e=>(B.bs b o e).1;let m:∀y∈ps.zip us,scope.names.lookup y.1=ac .local\/(scope.names.lookup y.1=ac .cell/\((cellsFrom (s.heap.objs.size+1) scope.names []).lookup y.1).isSome=df):=λ⟨n,v⟩hy=>(by obtain q|q:=S.par n (List.of_mem_zip hy).1;erw[.inl q];erw[.inr #[q,PySem.W.cellsFrom_some _ _ _ (.inl q)]])
 erw[codeAny_call_function T.depth (Z _ _ lk) rfl S.co S.gen rfl (PySem.W.codeRec_of Z O) (hb _ _ _ _ ?_)];erw[wpAny_newFunctionEnv_cells S.kind m λab he X x=>?_];subst he;erw[M.keeps x.toInCall.keep,codeAny_func ?_];let#[t,ht,hq]:=l A a s H vs Q E (T.deeper _) D;let I:Inv (rH CX P w K G base N c scope f d A a s H E) [] (start N vs) H X:=Zb S T.hd B hl r x;erw[wpAny_mono (ht [] X (start N vs) H _ I hq) (λfl L p=>?_) λe L p=>p];let C:∀{i:St}{j:Hp}{v:V}{u:dy},Inv (rH CX P w K G base N c scope f d A a s H E) [] i j L->RelV v u->Q v j->CE a P w H s Q u L:=
  λ{i j v u}J R q=>#[v,j,J.os,J.bare,J.base,J.hok,R,q]
 cases fl with|ret u=>let#[v,i,j,J,R,q]:=p;erw[C J R q]|next=>let#[i,j,J,q]:=p;erw[C (v:=V.gw) (u:=Value.none) J rfl q]|brk=>let#[_,_,_,q]:=p;erw[mS q]|cont=>let#[_,_,_,q]:=p;erw[mS q]
section
variable{X:Cx}{x:Str}{p pos:Pos}{e:Expr}{es:!Expr}{t:TA}{id T:String}{r:!V->Hp->VK->Prop}
def lf(r:!V->Hp->VK->Prop)(t:TA):TE:=λσ H Q=>t σ H λvs H1=>r vs H1 Q
theorem SO(u:pU X (.builtin id) r)(l:Gl X x)(w:X.mg x=de)(q:bootBuiltins x=ac (.builtin id))(v:PA X (e::es) t)(k:x≠"__name__" := by decide)(b:(x==("__debug__" : Str))=dr:=by decide) (o:eP (e::es) X.env=(dr,eval e X.env)::eP es X.env:=by rfl) (c:(backTo pos (eP es X.env)).any (·.1)=dr:=by rfl):PE X (.Call (.Name x p) (e::es) [] pos) (lf r t):=by intro a s d H Q I h;erw[wpAny_Call_Name_kw (Qx I l w q ?_ k b)];erw[PyProof.Rows.callWith_builtin1 (iS (v pos a s d H _ I h) λy m ⟨g,i,j,n,f⟩=>u a m d i g y Q j n f) o c]
theorem cJ(u:pU X (.type T) r)(l:Gl X x)(w:X.mg x=de)(q:bootBuiltins x=ac (.type T))(v:PA X (e::es) t)(k:x≠"__name__" := by decide)(b:(x==("__debug__" : Str))=dr:=by decide) (o:eP (e::es) X.env=(dr,eval e X.env)::eP es X.env:=by rfl) (c:(backTo pos (eP es X.env)).any (·.1)=dr:=by rfl):PE X (.Call (.Name x p) (e::es) [] pos) (lf r t):=by intro a s d H Q I h;erw[wpAny_Call_Name_kw (Qx I l w q ?_ k b)];erw[PyProof.Rows.callWith_type1 (iS (v pos a s d H _ I h) λy m ⟨g,i,j,n,f⟩=>u a m d i g y Q j n f) o c]
end
end L2
open L2.HO renaming lst -> gc, ins -> gd
open L2.V renaming int -> fw, ref -> fx, str -> fA, bl -> fI
namespace HT
open PySem PyProof.Rows
theorem Gw(A:fv)(s:dA)(a:Int)(t:Tok)(c:Int)(u:Tok):∃e,SeqAt.EqAt A s (.int a t) (.int c u) e/\(e=df↔a=c) :=#[(a==c),SeqAt.EqAt.int_int a t c u,-_]
def SQ(A:fv)(s:dA)(a:Int)(t:Tok)(c:Int)(u:Tok)(prog:ft)(w:World)(E:dy->dA->Prop)(Q:dy->dA->Prop)(h:Q (.bool (decide (a<c))) s) :fg (model prog w) A (richCompare .Lt (.int a t) (.int c u)) Q E s :=(PyProof.Rows.lt_int h:fg (model prog w) A (fa .Lt (.int a t) (.int c u)) Q E s)
section
open PySem.SeqAt
open PySem.AutoSeq1 (wpAny_loadPart')
open PySem.MeetsSeq PySem.MeetsSeq2 PySem.MeetsSeq3
end
section
variable{prog:ft}{w:World}{A:fv}{E:dy->dA->Prop}{s:dA}
noncomputable def n6(n d:Nat):Option Int->Nat
 |none=>d
 |some v=>if v<0 then (v+(n:Int)).toNat else min v.toNat n
theorem QF(n d k:Nat):n6 n d (ac (k:Int))=min k n:=by show (if (k:Int)<0 then ((k:Int)+(n:Int)).toNat else min (k:Int).toNat n)=min k n;rw[eH ∅,cQ]
theorem ahB(n d:Nat)(b:d<=n)(o:Option Int):n6 n d o<=n:=by cases o with|none=>erw[b]|some v=>show (if v<0 then (v+(n:Int)).toNat else min v.toNat n)<=n;by_cases a:v<0;rw[eG a];lia;rw[eH a];erw[Nat.min_le_right _ _]
theorem Xf(v:Int)(n d:Nat):(if v<0 then max (v+(n:Int)) 0 else min v (n:Int))=((n6 n d (ac v):Nat):Int):=by show (if v<0 then max (v+(n:Int)) 0 else min v (n:Int))=(((if v<0 then (v+(n:Int)).toNat else min v.toNat n):Nat):Int);by_cases a:v<0;simp only[eG a];lia;simp only[eH a];lia
theorem VG(lo a:Option Int)(n:Nat):Builtin.Slice.sliceAdjust lo a 1 (n:Int)=(((n6 n 0 lo:Nat):Int),((n6 n n a:Nat):Int)):=by
 let b:¬((1:Int)<0):=∅;delta Builtin.Slice.sliceAdjust;simp only[b,if_false];erw[Prod.ext ?_ ?_];cases lo with|none=>rfl|some v=>erw[Xf v n 0]
 cases a with|none=>rfl|some v=>erw[Xf v n n]
theorem VH(i j:Nat):Builtin.Slice.slicePlaces (i:Int) (j:Int) 1=j-i:=by delta Builtin.Slice.slicePlaces;let a:(1:Int) > 0:=∅;simp only[a,if_true,Int.ediv_one];split <;> lia
theorem K6{Q:Option Int->dA->Prop}(p:IsPart v o)(h:Q o s):fg (model prog w) A (Builtin.Slice.slicePartIndex v) Q E s:=by cases p with|none=>erw[slicePart_none h]|int i t=>erw[slicePart_int h]
theorem HP{f:du}{d e:dy}{lo c:Option Int}{n:Nat}{Q:Int×Int×Nat->dA->Prop}(hs:s.heap.IsSliceOf f d e .none)(pl:IsPart d lo)(g:IsPart e c)(h:Q (((n6 n 0 lo:Nat):Int),1,n6 n n c-n6 n 0 lo) s):fg (model prog w) A (Builtin.Slice.sliceApplied (.ref f) (pure (n:Int))) Q E s:=by let#[os,b,i,a]:=id hs;delta Builtin.Slice.sliceApplied Builtin.Slice.sliceFields;erw[dC (dC (wpAny_field b a (x:=d) rfl (dC (wpAny_field b a (x:=e) rfl (dC (wpAny_field b a (x:=.none) rfl (dE ?_)))))))];erw[dC (slicePart_none ?_)];show fg _ _ (if ((1:Int)==0)=df then _ else _) _ _ s;rw[eH (!_)];erw[dC (K6 pl (dC (K6 g (dC (dE ?_)))))];show fg _ _ (match Builtin.Slice.sliceAdjust lo c 1 (n:Int) with|(lo,c)=>pure (lo,(1:Int),Builtin.Slice.slicePlaces lo c 1)) _ _ s;rw[VG lo c n];show fg _ _ (pure (((n6 n 0 lo:Nat):Int),(1:Int),Builtin.Slice.slicePlaces ((n6 n 0 lo:Nat):Int) ((n6 n n c:Nat):Int) 1)) _ _ s;rw[VH];erw[dE h]
theorem aba(xs:Array dy)(i k:Nat):((av k).filterMap λ(m:Nat)=>xs[((i:Int)+(m:Int)*1).toNat]?).toArray=((xs.toList.drop i).take k).toArray:=by let e:(λ(m:Nat)=>xs[((i:Int)+(m:Int)*1).toNat]?)=λm=>xs[i+m]?:=(by funext m;let:((i:Int)+(m:Int)*1).toNat=i+m:=∅;rw[this]);rw[e];let:=pick_run xs i k;rw[List.filterMap_map] at this;let a:((λx=>xs[x]?)∘λx=>i+x)=λm=>xs[i+m]?:=rfl;rw[a] at this;rw[this]
theorem Gx{t f:du}{items:Array dy}{k j:dy}{lo a:Option Int}{Q:dy->dA->Prop}(c:IsTup s.heap t items)(hs:s.heap.IsSliceOf f k j .none)(pl:IsPart k lo)(l:IsPart j a)(n:¬(n6 items.size 0 lo=0/\n6 items.size items.size a=items.size))(h:Q (.ref s.heap.objs.size) {s with heap:=s.heap.push {cls:=.type "tuple",data:=.seq ((items.toList.drop (n6 items.size 0 lo)).take (n6 items.size items.size a-n6 items.size 0 lo)).toArray}})(p:items.size<=eD):fg (model prog w) A (getItem (.ref t) (.ref f)) Q E s:=by
 let b:sizeOk (.seq ((items.toList.drop (n6 items.size 0 lo)).take (n6 items.size items.size a-n6 items.size 0 lo)).toArray):=(by show ((items.toList.drop (n6 items.size 0 lo)).take (n6 items.size items.size a-n6 items.size 0 lo)).toArray.size<=eD;rw[bq,bU,um,eK];lia);let u:n6 items.size items.size a<=items.size:=ahB _ _ (aA _) a;let#[os,d,i,o]:=id hs;let e:s.TypeIs (.ref f) "slice" := #[os,d,i];delta getItem;(try with_reducible erw[wpAny_holding ?_]);(first|erw[dC (dE ?_)]|skip);erw[dC (wpAny_sequenceKey c.typeIs (!_) ?_)];erw[dC (wpAny_callSpecial?_slot (name:=eC "__getitem__") c.typeIs yJ (wpAny_call_entry yJ c.typeIs entry_tuple_getitem ?_ (args_tuple_getitem _ _)))];show fg _ _ (Builtin.Tuple.tupleItemsOf (.ref t) >>= _) _ _ s;erw[dC (tupleItemsOf_ c ?_)];erw[dC (wpAny_typeOf e ?_)];rw[eG (!_)];erw[dC (HP hs pl l ?_)];let g:¬((((n6 items.size 0 lo:Nat):Int)==0&&(1:Int)==1&&(n6 items.size items.size a-n6 items.size 0 lo)==items.size)=df):=(by intro q;rw[dh,dh] at q;let r:((n6 items.size 0 lo:Nat):Int)=0:=eq_of_beq q.1.1;let v:n6 items.size items.size a-n6 items.size 0 lo=items.size:=eq_of_beq q.2;erw[n #[55]]);show fg _ _ (if (((n6 items.size 0 lo:Nat):Int)==0&&(1:Int)==1&&(n6 items.size items.size a-n6 items.size 0 lo)==items.size)=df then _ else _) _ _ s;rw[eH g,aba]
 first
  |erw[dC (m:=Builtin.Tuple.tupleExact _) (wpAny_newObj_type (dE #[1,dE h]) b)]
  |erw[dC (m:=Builtin.Tuple.tupleExact _) (wpAny_newObj_type (dC (dE (dE #[1,dE h]))) b)]
  |erw[dC (dC (m:=Builtin.Tuple.tupleExact _) (wpAny_newObj_type (dE (dE #[1,dE h])) b))]
  |erw[dC (dC (m:=Builtin.Tuple.tupleExact _) (wpAny_newObj_type (dE #[1,dE h]) b))]
end
end HT
namespace L2
open PySem PySem.Spec PyProof.Rows
abbrev TO:=St->Hp->(Option Int->Hp->Prop)->Prop
def PO(X:Cx)(e:Option Expr)(t:TO):Prop:=
 ∀(pins:!(du×Obj))(s:dA)(σ:St)(H:Hp)(Q:Option Int->Hp->Prop),Inv X pins σ H s->t σ H Q ->
  fg (model X.prog X.w) X.A (evalPart e X.env) (λu s'=>∃o H',Inv X pins σ H' s'/\IsPart u o/\Q o H') X.xe s
def aef:TO:=λ_ H Q=>Q de H
inductive wp(Q:Option Int->Hp->Prop)(x:V)(H1:Hp):Prop
 |mk(i:Int)(a:x=.int i)(b:Q (ac i) H1):wp Q x H1
def Os(t:TE):TO:=λσ H Q=>t σ H (wp Q)
theorem intsAre_of:∀{us:!dy},cO (ns.map fw) us->IntsAre us ns:=by induction ns with|nil=>intro us r;rw[List.map_nil] at r;ext r;erw[.nil]|cons n ns a=>(intro us r;rw[bz] at r;cases r with|cons b c=>let#[t,e]:=b;subst e;erw[.cons n t (a c)])
section
variable{X:Cx}{e:Expr}{te:TE}{lo hi:Option Expr}{tl th:TO}{pos p2:Pos}
theorem oU:PO X de aef:=by intro a s b H Q I h;rw[evalPart_none];erw[dE #[de,H,I,.none,h]]
theorem jP(h:PE X e te):PO X (ac e) (Os te):=by intro a s b H Q I j;rw[evalPart_some];erw[iS (h a s b H _ I j) λu k u_=>?_];let#[x,d,f,g,c]:=u_;let#[i,rfl,q]:=c;let#[t,rfl]:=g;erw[ac i,d,f,.int i t,q]
def mI(X:Cx)(r:V->Option Int->Option Int->Hp->VK->Prop):Prop:=
 ∀(pins:!(du×Obj))(s:dA)(σ:St)(H:Hp)(x:V)(v vl vu:dy)(lo hi:Option Int)(sl:du)(Q:VK),Inv X pins σ H s->RelV x v->s.heap.IsSliceOf sl vl vu .none->IsPart vl lo->IsPart vu hi->r x lo hi H Q ->
  ∃T id,typeLookup (.type T) "__getitem__" = pure (ac (.builtin id))/\s.TypeIs v T/\fg (model X.prog X.w) X.A (getItem v (.ref sl)) (EP X pins σ Q) X.xe s
def Fn(r:V->Option Int->Option Int->Hp->VK->Prop)(te:TE)(tl th:TO):TE:=λσ H Q=>te σ H λx H1=>tl σ H1 λl H2=>th σ H2 λu H3=>r x l u H3 Q
theorem jw(F:mI X r)(G:PE X e te)(hl:PO X lo tl)(m:PO X hi th):PE X (.Subscript e (.Slice lo hi de p2) pos) (Fn r te tl th):=by intro a s d H Q I h;erw[Subscript_ (iS (G a s d H _ I h) λv B u_=>?_)];let#[x,o,p,D,j]:=u_;erw[wpAny_Slice (iS (hl a B d o _ p j) λg t ⟨l,L,K,E,M⟩=>iS (m a t d L _ K M) λf c u_=>?_)];let#[u,i,k,y,n]:=u_;rw[evalPart_none];erw[dE ?_];let J:Inv X a d i {c with heap:=c.heap.push {cls:=.type "slice",data:=.fields [g,f,.none].toArray}}:=k.kept (t':=c.toks) λb ob q=>dL _ q;let#[T,id,C,N,z]:=F a {c with heap:=c.heap.push {cls:=.type "slice",data:=.fields [g,f,.none].toArray}} d i x v g f l u c.heap.objs.size Q J D (Heap.IsSliceOf.new ..) E y n;show fg (model X.prog X.w) X.A (subscriptTail e (.Slice lo hi de p2) v (.ref c.heap.objs.size)) (EP X a d Q) X.xe {c with heap:=c.heap.push {cls:=.type "slice",data:=.fields [g,f,.none].toArray}};erw[tail_any (ops:=[.ref c.heap.objs.size,v]) N C z (by with_unfolding_all rfl)]
noncomputable def Ac(xs:!V)(lo hi:Option Int):!V:=(xs.drop (HT.n6 (ge xs) 0 lo)).take (HT.n6 (ge xs) (ge xs) hi-HT.n6 (ge xs) 0 lo)
theorem Jz(xs:!V)(lo hi:Option Int):ge (Ac xs lo hi)<=ge xs:=by delta Ac;rw[bU,um];lia
def uj(K:ah):V->Option Int->Option Int->Hp->VK->Prop:=λx lo hi H Q=>∃a xs,x=.ref a/\dH K H a xs /\
 ¬(HT.n6 (ge xs) 0 lo=0/\HT.n6 (ge xs) (ge xs) hi=ge xs)/\∀p,H p=de->Q (.ref p) (upd H p (.tup (Ac xs lo hi)))
theorem QG:mI X (uj X.K):=by intro g s t H x v y u lo hi w Q I p l n k h;let#[a,d,rfl,j,m,q]:=h;ext p;let#[e,r,i,f]:=I.tuple j;let c:e.toArray.size=ge d:=(by rw[bq];erw[r.length.symm]);erw["tuple",_,yJ.lookup,i.typeIs,4];erw[HT.Gx i l n k (by rw[c];erw[m]) ?_ (by rw[c];erw[f])];rw[c];erw[.ref s.heap.objs.size,_,I.laid (t':=s.toks) (o:=.tup (Ac d lo hi)) (λb ob q=>dL _ q) (aA _) ?_,2,q _ (I.hok.fresh (aA _))];erw[aJ (Jz d lo hi) f,_,(r.drop (HT.n6 (ge d) 0 lo)).take (HT.n6 (ge d) (ge d) hi-HT.n6 (ge d) 0 lo),IsTup.new _ _]
end
noncomputable def su(n:Nat)(i:Int):Option Nat:=if 0<=i then (if i<n then ac i.toNat else de) else if -(n:Int)<=i then ac (i+n).toNat else de
noncomputable def xW{α:Type}(xs:!α)(i:Int):Option α:=(su (ge xs) i).bind λj=>xs[j]?
theorem QH(h:su n i=ac j):seqIndex? i n=ac j/\j<n/\-(n:Int)<=i/\i<n:=by delta su at h;by_cases b:0<=i;rw[eG b] at h;by_cases a:i<n;rw[eG a] at h;let e:i.toNat=j:=aI h;exists by rw[seqIndex_of b a,e],55,a;rw[eH a] at h;ext h;rw[eH b] at h;by_cases a:-(n:Int)<=i;rw[eG a] at h;let e:(i+n).toNat=j:=aI h;exists by rw[seqIndex_neg ∅ a,e],5,a,5;rw[eH a] at h;ext h
theorem QI{a:Type}{xs:!a}{i:Int}{v:a}(h:xW xs i=ac v):∃j,seqIndex? i (ge xs)=ac j/\xs[j]?=ac v/\j<ge xs/\-(ge xs:Int)<=i/\i<ge xs:=by delta xW at h;cases e:su (ge xs) i with|none=>rw[e] at h;ext h|some j=>rw[e] at h;let#[d,c,b,f]:=QH e;erw[j,d,h,c,b,f]
theorem cH{a:Type}{xs:!a}{j:Nat}{v:a}(h:xs[j]?=ac v):xW xs (j:Int)=ac v:=by let b:j<ge xs:=(ai.mp h).1;let e:su (ge xs) (j:Int)=ac j:=(by delta su;rw[eG ∅,eG ∅];simp);delta xW;rw[e];erw[h]
def Gy(b:Expr):Prop:=∀o i,subscripted b dr o i=operate [o,i] (getItem o i)
def ZR(X:Cx)(r:R2):Prop:=
 ∀(value slice:Expr)(pins:!(du×Obj))(s:dA)(σ:St)(H:Hp)(x y:V)(v u:dy)(Q:VK),Inv X pins σ H s->RelV x v->RelV y u->r x y H Q ->
  subscripted slice dr v u=operate [v,u] (getItem v u)->fg (model X.prog X.w) X.A (subscriptTail value slice v u) (EP X pins σ Q) X.xe s
def qO(X:Cx)(id:String)(r:V->!V->Hp->VK->Prop):Prop:=
 ∀(pins:!(du×Obj))(s:dA)(σ:St)(H:Hp)(x:V)(xs:!V)(v:dy)(us:!dy)(Q:VK),Inv X pins σ H s->RelV x v->cO xs us->r x xs H Q ->
  fg (model X.prog X.w) X.A (call (.builtin id) (v::us)) (EP X pins σ Q) X.xe s
section
variable{X:Cx}{a b:Expr}{ta tb:TE}{pos:Pos}
theorem SR(i:ZR X r)(l:PE X a ta)(f:PE X b tb)(hs:Gy b):PE X (.Subscript a b pos) (nk r ta tb):=by intro c s d H Q I h;erw[Subscript_ (pr l f I h λv u e x y k j m g q=>i a b c e d k x y v u Q j m g q (hs _ _))]
inductive VI(K:ah)(x y:V)(H:Hp)(Q:VK):Prop
 |mk(p:du)(xs:!V)(i:Int)(v:V)(h1:x=.ref p)(h2:y=.int i)(h3:bJ K H p xs)(h4:xW xs i=ac v)(h5:Q v H):VI K x y H Q
inductive Zc(K:ah)(x y:V)(H:Hp)(Q:VK):Prop
 |mk(p:du)(xs:!V)(i:Int)(v:V)(h1:x=.ref p)(h2:y=.int i)(h3:dH K H p xs)(h4:xW xs i=ac v)(h5:Q v H):Zc K x y H Q
def Hd:R2:=λx y H Q=>∃z i c,x=.str z/\y=.int i/\z.length<=eD/\xW z.cps.toList i=ac c/\Q (.str #[[c].toArray]) H
theorem Xh:ZR X (VI X.K):=by intro e d a s m H x y v u Q I L E h o;let#[p,P,i,z,rfl,rfl,C,G,q]:=h;ext L;let#[t,rfl]:=E;let#[k,r,f,O]:=I.list C;let#[j,c,B,R,J,F]:=QI G;let#[w,A,l]:=r.get B;let D:=r.length;let N:=Fk;let b:EP X a m Q w s:=#[z,H,I,l,q];by_cases n:0<=i;let g:i.toNat=j:=(by rw[seqIndex_of n F] at c;erw[aI c]);erw[item_listR f.isList n ∅ (by rw[g];simpa using A) b o];·let g:(i+(k.toArray.size:Int)).toNat=j:=(by rw[seqIndex_neg ∅ J] at c;rw[bq,<- D];erw[aI c]);erw[subscriptTail_builtinR (x:=w) f.isList.typeIs slot_list_getitem.lookup (wpAny_getItem_list_neg (Q:=λr M=>r=w/\EP X a m Q r M) f.isList ∅ (by rw[bq] <;> lia) ∅ (by rw[g];simpa using A) #[2,b]) o]
theorem AT:ZR X (Zc X.K):=by
 intro c b a s f H x y v u Q I D o h n;let#[p,M,i,z,rfl,rfl,l,A,q]:=h;ext D;let#[t,rfl]:=o;let#[C,r,g,L]:=I.tuple l;let#[j,B,k,O,N,J]:=QI A;let#[w,F,e]:=r.get k;let m:=r.length;let G:=Fk;let d:EP X a f Q w s:=#[z,H,I,e,q];exact subscriptTail_builtinR (x:=w) g.typeIs slot_tuple_getitem.lookup
  (getItem_tuple (j:=j) (Q:=λr E=>r=w/\EP X a f Q r E) g ∅ ∅ (by rw[bq,<- m];erw[B]) F⁻¹ #[2,d]) n
theorem ahC:ZR X Hd:=by
 intro b a e s A H x y v u Q I w m h l;let#[z,i,c,rfl,rfl,C,o,q]:=h;let#[t,rfl]:=w;let#[E,rfl]:=m;let#[j,d,f,D,r,n]:=QI o;let k:ge z.cps.toList=z.length:=(by simp[Str.length]);rw[k] at d r n;let B:=Fk;erw[tail_any (typeIs_str s z t) slot_str_getitem.lookup (getItem_str (c:=c) (by
  let g:decide (i < -(2^63:Int))=dr:=gh ∅;let p:decide (i≥2^63)=dr:=gh ∅;rw[g,p,Bool.or_false]) (by rw[d];simpa using f) #[.str #[[c].toArray],H,I.tok _,#[1],q]) l]
theorem VJ(a:!dy)(n j:Nat)(u:dy):Obj.mapSeq (·.setIfInBounds j u) {cls:=.type "list",data:=.seq a.toArray n}={cls:=.type "list",data:=.seq (a.set j u).toArray n}:=by simp[Obj.mapSeq]
theorem Inv.lst{b:!(du×Obj)}{c:St}{H:Hp}{s:dA}{p:du}{xs:!V}(I:Inv X b c H s)(h:H p=ac (.lst xs)) :∃(a:!dy)(n:Nat),cO xs a/\s.heap.get? p=ac {cls:=.type "list",data:=.seq a.toArray n}/\ge xs<=eD:=by let#[z,a,n,r,e]:=I.hok p _ h;erw[a,n,r,e,z]
theorem Inv.ahD{a:!(du×Obj)}{i:St}{H:Hp}{s:dA}{p:du}{xs d:!V}{c its':!dy}{n g:Nat}{f:Obj->Obj}(I:Inv X a i H s)(h:H p=ac (.lst xs)) (m:s.heap.get? p=ac {cls:=.type "list",data:=.seq c.toArray n}) (j:f {cls:=.type "list",data:=.seq c.toArray n}={cls:=.type "list",data:=.seq its'.toArray g}) (r:cO d its') (l:ge d<=eD) (t:Nat) :Inv X a i (upd H p (.lst d)) {s with heap:=s.heap.update p f,toks:=t}:=by let e:(s.heap.update p f).get? p=ac {cls:=.type "list",data:=.seq its'.toArray g}:=(by rw[Heap.get?_update_self f m (by rw[j] <;> rfl),j]);erw[I.write (x:=p) (e:=p) (by rw[h];trivial) (.inl rfl) (λb u k q=>(fb _ _ (cC k)).trans q) #[_,e] ?_];erw[l,its',g,r,e]
def Op:V->V->V->Hp->(Hp->Prop)->Prop:=λo i v H Q=>∃p xs k j,o=.ref p/\i=.int k/\H p=ac (.lst xs)/\su (ge xs) k=ac j/\Q (upd H p (.lst (xs.set j v)))
theorem hY:vr X Op:=by
 intro b s y H o i v G K u Q I A C z h;let#[p,E,k,j,rfl,rfl,l,D,q]:=h;ext A;let#[t,rfl]:=C;let#[a,n,r,f,B]:=I.lst l;let#[c,F,x,w]:=QH D;let e:=r.length;let J:=Fk;let m:Inv X b y (upd H p (.lst (E.set j v))) {s with heap:=s.heap.update p (Obj.mapSeq (·.setIfInBounds j u))}:=
  I.ahD l f (VJ a n j u) (r.set z j) (by rw[bu];erw[B]) s.toks
 by_cases g:0<=k;let d:k.toNat=j:=(by rw[seqIndex_of g w] at c;erw[aI c]);erw[PySem.W.ki_setAt f g ∅ (by rw[bq,<- e];erw[w]) (by rw[d];erw[_,m,q])];let d:(k+(a.toArray.size:Int)).toNat=j:=(by rw[seqIndex_neg ∅ x] at c;rw[bq,<- e];erw[aI c]);erw[PySem.W.ki_setBack f ∅ (by rw[bq,<- e];erw[x]) ∅ (by rw[d];erw[_,m,q])]
theorem QJ(lo a:Option Int)(n:Nat):(sliceBounds lo a de n).1=((HT.n6 n 0 lo:Nat):Int)/\(sliceBounds lo a de n).2.1=((HT.n6 n n a:Nat):Int)/\(sliceBounds lo a de n).2.2=1:=by
 exists 442;·cases lo with|none=>simp[sliceBounds,HT.n6]|some i=>simp only[sliceBounds,HT.n6,Option.getD_none,show (1:Int) > 0 by decide,if_true];by_cases h:i<0;(·simp only[h,if_true] <;> lia);·simp only[h,if_false] <;> lia
 ·cases a with|none=>simp[sliceBounds,HT.n6]|some i=>simp only[sliceBounds,HT.n6,Option.getD_none,show (1:Int) > 0 by decide,if_true];by_cases h:i<0;(·simp only[h,if_true] <;> lia);·simp only[h,if_false] <;> lia
theorem NN(a:!dy)(lo b:Option Int):slicePick a.toArray lo b de=((a.drop (HT.n6 (ge a) 0 lo)).take (HT.n6 (ge a) (ge a) b-HT.n6 (ge a) 0 lo)).toArray:=by let#[e,d,c]:=QJ lo b a.toArray.size;delta slicePick;rw[e,d,c];simp only[sliceRange_one,pick_run,bq] <;> rfl
def Hc(K:ah):V->Option Int->Option Int->Hp->VK->Prop:=λx lo hi H Q=>∃a xs,x=.ref a/\bJ K H a xs/\∀p,H p=de->Q (.ref p) (upd H p (.lst (Ac xs lo hi)))
theorem vd:mI X (Hc X.K):=by intro f s t H x v y u lo e w Q I p k l j h;let#[a,c,rfl,i,q]:=h;ext p;let#[n,r,g,m]:=I.list i;let d:=r.length;erw["list",_,slot_list_getitem.lookup,g.isList.typeIs,4];erw[wpAny_getItem_list_slice g.isList k l j .none (-_) ?_ (by rw[bq] <;> lia)];rw[NN,<- d];erw[.ref s.heap.objs.size,_,I.laid (t':=s.toks) (o:=.lst (Ac c lo e)) (λb ob q=>dL _ q) (aA _) ?_,2,q _ (I.hok.fresh (aA _))];erw[aJ (Jz c lo e) m,_,(0),(r.drop (HT.n6 (ge c) 0 lo)).take (HT.n6 (ge c) (ge c) e-HT.n6 (ge c) 0 lo),en _ rfl]
noncomputable def Cq:V->Bool
 |.gw=>df
 |.bl _=>df
 |.int _=>df
 |.str _=>df
 |_=>dr
noncomputable def Zd:V->V->Bool
 |.gw,.gw=>df
 |.bl a,.bl b=>a==b
 |.bl a,.int b=>(if a then 1 else 0)==b
 |.int a,.bl b=>a==(if b then 1 else 0)
 |.int a,.int b=>a==b
 |.str a,.str b=>a==b
 |_,_=>dr
theorem ahE(f:RelV y u)(c:RelV x v)(g:Cq y=df)(e:Cq x=df):SeqAt.EqAt A s u v (Zd y x):=by cases y with|gw=>(ext f;cases x with|gw=>ext c;erw[SeqAt.EqAt.same _]|bl b=>ext c;erw[SeqAt.EqAt.none_bool b]|int b=>let#[t,rfl]:=c;erw[SeqAt.EqAt.none_int b t]|str b=>let#[t,rfl]:=c;erw[SeqAt.EqAt.none_str b t]|_=>erw[ff (show dr=df from e) aU])|bl a=>(ext f;cases x with|gw=>ext c;erw[SeqAt.EqAt.bool_none a]|bl b=>ext c;erw[SeqAt.EqAt.bool_bool a b]|int b=>let#[t,rfl]:=c;erw[SeqAt.EqAt.bool_int a b t]|str b=>let#[t,rfl]:=c;erw[SeqAt.EqAt.bool_str a b t]|_=>erw[ff (show dr=df from e) aU])|int a=>(let#[d,rfl]:=f;cases x with|gw=>ext c;erw[SeqAt.EqAt.int_none a d]|bl b=>ext c;erw[SeqAt.EqAt.int_bool a d b]|int b=>let#[t,rfl]:=c;erw[SeqAt.EqAt.int_int a d b t]|str b=>let#[t,rfl]:=c;erw[SeqAt.EqAt.int_str a d b t]|_=>erw[ff (show dr=df from e) aU])|str a=>(let#[d,rfl]:=f;cases x with|gw=>ext c;erw[SeqAt.EqAt.str_none a d]|bl b=>ext c;erw[SeqAt.EqAt.str_bool a d b]|int b=>let#[t,rfl]:=c;erw[SeqAt.EqAt.str_int a d b t]|str b=>let#[t,rfl]:=c;erw[SeqAt.EqAt.str_str a d b t]|_=>erw[ff (show dr=df from e) aU])|_=>erw[ff (show dr=df from g) aU]
noncomputable def VL(x:V)(u:dy):Bool:=match u with
 |.none=>Zd .gw x
 |.bool b=>Zd (.bl b) x
 |.int i _=>Zd (.int i) x
 |.str z _=>Zd (.str z) x
 |_=>dr
theorem AC(r:RelV y u)(f:Cq y=df):VL x u=Zd y x:=by cases y with|gw=>ext r;rfl|bl b=>ext r;rfl|int i=>let#[t,rfl]:=r;rfl|str z=>let#[t,rfl]:=r;rfl|_=>erw[ff (show dr=df from f) aU]
theorem Gz{x:V}:∀{xs:!V}{us:!dy},cO xs us->xs.all Cq=df->us.any (VL x)=xs.any λy=>Zd y x
 |_,_,.nil,_=>rfl
 |y::xs,u::us,.cons r t,f=>by
  rw[List.all_cons,dh] at f;rw[rB,rB,AC r f.1,Gz t f.2]
theorem CM{A:fv}{s:dA}{x:V}{v:dy}(b:RelV x v)(a:Cq x=df):∀{xs:!V}{us:!dy},cO xs us->xs.all Cq=df->∀u∈us,SeqAt.EqAt A s u v (VL x u)
 |_,_,.nil,_=>λu hu=>by ext hu
 |y::xs,u::us,.cons r t,f=>λc hu=>by
  rw[List.all_cons,dh] at f;obtain rfl|hu:=aT.mp hu
  ·rw[AC r f.1];erw[ahE r b f.1 a]
  ·erw[CM b a t f.2 c hu]
noncomputable def NF(x:V)(xs:!V):Bool:=xs.any λy=>Zd y x
inductive lw(K:ah)(neg:Bool)(x y:V)(H:Hp)(Q:VK):Prop
 |mk(p:du)(xs:!V)(h1:y=.ref p)(h2:bJ K H p xs\/dH K H p xs)(h3:Cq x=df)(h4:xs.all Cq=df)(h5:Q (.bl (if neg then (NF x xs).not else NF x xs)) H):lw K neg x y H Q
theorem pV:AN X (fa .In) (lw X.K dr):=by intro g s k H x y v u Q I f i h;let#[p,l,rfl,hq,e,b,q]:=h;ext i;obtain hq|hq:=hq;let#[a,r,d,j]:=I.list hq;erw[SeqAt.in_listAt (VL x) d.isList (λw c=>CM f e r b w c⁻¹) #[.bl _,H,I,24]];rw[show a.toArray.any (VL x)=a.any (VL x) by simp,Gz r b];erw[q];let#[a,r,d,j]:=I.tuple hq;erw[SeqAt.in_tupleAt (VL x) d (λw c=>CM f e r b w c⁻¹) #[.bl _,H,I,24]];rw[show a.toArray.any (VL x)=a.any (VL x) by simp,Gz r b];erw[q]
theorem ve:AN X (fa .NotIn) (lw X.K df):=by intro g s k H x y v u Q I f i h;let#[p,l,rfl,hq,e,b,q]:=h;ext i;obtain hq|hq:=hq;let#[a,r,d,j]:=I.list hq;erw[SeqAt.notIn_listAt (VL x) d.isList (λw c=>CM f e r b w c⁻¹) #[.bl _,H,I,24]];rw[show a.toArray.any (VL x)=a.any (VL x) by simp,Gz r b];erw[q];let#[a,r,d,j]:=I.tuple hq;erw[SeqAt.notIn_tupleAt (VL x) d (λw c=>CM f e r b w c⁻¹) #[.bl _,H,I,24]];rw[show a.toArray.any (VL x)=a.any (VL x) by simp,Gz r b];erw[q]
theorem QK:pU X (.builtin "len") (λxs H Q=>∃p b,xs=[.ref p]/\(bJ X.K H p b\/dH X.K H p b)/\Q (.int (ge b)) H):=by
 intro f s j H xs l Q I r h;let#[p,b,rfl,hq,q]:=h;let#[u,rfl,i]:=vals1 r;ext i;let k:=Fk;obtain hq|hq:=hq;·let#[d,e,c,g]:=I.list hq;let a:=e.length;erw[Calls.call_len_list c.isList (by simp only[bq] <;> lia) #[.int (ge b),H,I.tok _,#[s.toks+1,by rw[bq,a]],q]]
 ·let#[d,e,c,g]:=I.tuple hq;let a:=e.length;erw[len_tuple c (by simp only[bq] <;> lia) #[.int (ge b),H,I.tok _,#[s.toks+1,by rw[bq,a]],q]]
theorem QL:pU X (.builtin "len") (λxs H Q=>∃z,xs=[.str z]/\z.length<=eD/\Q (.int z.length) H):=by intro a s b H xs e Q I r h;let#[z,rfl,d,q]:=h;let#[u,rfl,t,rfl]:=vals1 r;let c:=Fk;erw[len_str ∅ #[.int z.length,H,I.tok _,#[1],q]]
theorem kq:pU X (.type "list") (λxs H Q=>∃p d,xs=[.ref p]/\(bJ X.K H p d\/dH X.K H p d)/\∀l,H l=de->Q (.ref l) (upd H l (.lst d))):=by
 intro t s B H xs D Q I r h;let#[p,d,rfl,hq,q]:=h;let#[u,rfl,C]:=vals1 r;ext C;let m:∀(a:!dy),cO d a->ge d<=eD->∀(c:Heap)(f:Nat),(∀b A,s.heap.get? b=ac A->c.get? b=ac A) ->
  c.get? s.heap.objs.size=ac {cls:=.type "list",dict:=de,data:=.seq a.toArray f,slots:=[].toArray}->EP X t B Q (.ref s.heap.objs.size) {s with heap:=c}:=λa g j c f i e=>
  #[.ref s.heap.objs.size,_,I.laid (t':=s.toks) i (aA _) (show jL X.prog X.w _ c _ (.lst d) from #[j,a,f,g,e]),2,q _ (I.hok.fresh (aA _))]
 obtain hq|hq:=hq;·let#[a,g,v,j]:=I.list hq;let k:=g.length;let#[o,z,x,n,y]:=v.isList;erw[call_list_seq p (.inl rfl) z x y (λc f i e=>m a g j c f i e) (by simp only[bq] <;> lia)]
 ·let#[a,g,v,j]:=I.tuple hq;let k:=g.length;let#[o,z,x,n,y]:=v;erw[call_list_seq p (.inr rfl) z x y (λc f i e=>m a g j c f i e) (by simp only[bq] <;> lia)]
theorem E2:pU X (.type "tuple") (λxs H Q=>∃p d,xs=[.ref p]/\((bJ X.K H p d/\∀l,H l=de->Q (.ref l) (upd H l (.tup d)))\/(dH X.K H p d/\Q (.ref p) H))):=by
 intro a s k H xs z Q I r h;let#[p,d,rfl,h]:=h;let#[u,rfl,y]:=vals1 r;ext y;obtain⟨g,q⟩|⟨g,q⟩:=h
 ·let#[c,j,i,t]:=I.list g;let n:=j.length;erw[call_tuple_list i.isList (λf v=>?_) (by simp only[bq] <;> lia)];let m:Inv X a k H {s with heap:=f}:=I.kept (t':=s.toks) v;let x:Inv X a k (upd H f.objs.size (.tup d)) {s with heap:=f.push {cls:=.type "tuple",data:=.seq c.toArray}}:=
   m.laid (t':=s.toks) (λb o e=>dL _ e) (aA _) (show jL X.prog X.w _ _ _ (.tup d) from #[t,c,j,IsTup.new _ _])
  erw[.ref f.objs.size,_,x,2,q _ (m.hok.fresh (aA _))]
 let#[c,j,i,t]:=I.tuple g;erw[call_tuple_same i #[.ref p,H,I,2,q]]
def m4(K:ah)(T:String)(x:V)(H:Hp):Prop:=match x with
 |.str _=>T = "str"
 |.int _=>T = "int"
 |.ref p=>(T = "list" /\ ∃xs,bJ K H p xs)\/(T = "tuple" /\ ∃o,K.lookup p=ac o/\o.cls=.type "tuple" /\ o.dict=de) \/
  (T = "dict" /\ ((∃kvs,H p=ac (.dK kvs))\/∃kvs,H p=ac (.dT kvs)))\/(T = "set" /\ ∃S n,H p=ac (.set S n))
 |_=>False
theorem Ap{f:!(du×Obj)}{m:St}{H:Hp}{s:dA}{T:String}{x:V}{v:dy}(I:Inv X f m H s)(r:RelV x v)(g:m4 X.K T x H) :s.TypeIs v T/\∀a,v=.ref a->∃ob,s.heap.get? a=ac ob/\ob.dict=de:=by cases x with|str z=>let#[t,rfl]:=r;cases (show T = "str" from g);erw[typeIs_str s z t,λ_ e=>nomatch e]|int i=>let#[t,rfl]:=r;cases (show T = "int" from g);erw[typeIs_int s i t,λ_ e=>nomatch e]|ref p=>(ext r;obtain⟨rfl,y,q⟩|⟨rfl,o,b,w,k⟩|⟨rfl,b⟩|⟨rfl,S,n,b⟩:=g;let#[u,_,l,_]:=I.list q;erw[l.isList.typeIs,λa e=>?_];ext e;let#[o,n,e,c,k,_]:=l;erw[o,e,k];erw[#[o,I.NI p o b,w],λa e=>?_];ext e;erw[o,I.NI _ o b,k];let z:∃o,s.heap.get? p=ac o/\o.ExactDict:=(by obtain⟨h,b⟩|⟨h,b⟩:=b;let#[_,_,_,_,o,_,_,e,d,_]:=I.hok p _ b;erw[o,e,d];let#[_,_,_,_,o,_,_,e,d,_]:=I.hok p _ b;erw[o,e,d]);let#[o,e,d]:=z;erw[#[o,e,d.1],λa j=>?_];ext j;erw[o,e,d.2.1];let#[o,_,_,_,e,d,_]:=I.hok p _ b;erw[#[o,e,d.1],λa j=>?_];ext j;erw[o,e,d.2.1])|_=>erw[mS g]
def Hb(K:ah)(T:String)(r:V->!V->Hp->VK->Prop)(to:TE):TE:=λσ H Q=>to σ H λx H1=>m4 K T x H1/\r x [] H1 Q
def sw(K:ah)(T:String)(r:V->!V->Hp->VK->Prop)(to:TE)(t:TA):TE:=λσ H Q=>to σ H λx H1=>m4 K T x H1/\t σ H1 λxs H2=>r x xs H2 Q
variable{o e:Expr}{es:!Expr}{to:TE}{t:TA}{name:Str}{apos cpos:Pos}{T id:String}{r:V->!V->Hp->VK->Prop}
theorem ahF(pa:PlainAttrs T)(d:Slot T name id)(e:typeOf (.builtin id)=pure (.type "method_descriptor"))(t:qO X id r)(q:PE X o to)(c:attributeBase o name X.env (eval o X.env)=eval o X.env:=by rfl)(b:(apos.endLine==cpos.line)=df:=by rfl):PE X (.Call (.Attribute o name apos) [] [] cpos) (Hb X.K T r to):=by intro a s f H Q I h;erw[wpAny_Call_method0_late c b (iS (q a s f H _ I h) λv n u_=>?_)];let#[x,m,g,i,l,k]:=u_;let#[p,j]:=Ap g i l;erw[T,id,pa,d,e,p,j,Calls.callWith_builtin rfl (PySem.evalArgs_none (t a n f m x [] v [] Q g i .nil k))]
theorem jM(pa:PlainAttrs T)(g:Slot T name id)(j:typeOf (.builtin id)=pure (.type "method_descriptor"))(G:qO X id r)(E:PE X o to)(F:PA X (e::es) t)(d:attributeBase o name X.env (eval o X.env)=eval o X.env:=by rfl)(f:((backTo cpos (eP (e::es) X.env)).all (λx=>x.1.not)&&(backToKw cpos (keywordEach [] X.env)).all (λx=>x.1.isSome) && decide (ge (e::es)+ge ([]:!Keyword)+(if ([]:!Keyword).isEmpty then 0 else 1)<30))=df:=by rfl)(c:(apos.endLine==cpos.line)=df:=by rfl)(z:eP (e::es) X.env=(dr,eval e X.env)::eP es X.env:=by rfl)(b:(backTo cpos (eP es X.env)).any (·.1)=dr:=by rfl) :PE X (.Call (.Attribute o name apos) (e::es) [] cpos) (sw X.K T r to t):=by intro a s i H Q I h;erw[wpAny_Call_method_late d f c rfl (iS (E a s i H _ I h) λv A u_=>?_)];let#[x,w,k,l,q,p]:=u_;let#[C,n]:=Ap k l q;erw[T,id,pa,g,j,C,n,4];let m:=F cpos a A i w _ k p;rw[z] at m ⊢;erw[Calls.callWith_builtin (by show (dr || (backTo cpos (eP es X.env)).any (·.1))=dr;rw[b] <;> rfl) (Calls.evalArgs_plain ?_)];erw[iS m λM y ⟨u,D,B,L,J⟩=>G a y i D x u v M Q B l L J]
end
def Fh(X:Cx)(id:String)(r:V->!V->Hp->VK->Prop):Prop:=
 ∀(pins:!(du×Obj))(s:dA)(σ:St)(H:Hp)(x:V)(xs:!V)(v:dy)(us:!dy)(Q:VK),Inv X pins σ H s->RelV x v->cO xs us->r x xs H Q ->
  fg (model X.prog X.w) X.A (call (.builtin id) (v::us)) (EP X pins σ Q) X.xe s
theorem cO.one:∀{x:V}{us:!dy},cO [x] us->∃u,us=[u]/\RelV x u
 |_,_,.cons r .nil=>#[1,r]
theorem cO.zero:∀{us:!dy},cO [] us->us=[]
 |_,.nil=>rfl
theorem cO.eraseIdx:∀{xs:!V}{us:!dy}(i:Nat),cO xs us->cO (xs.eraseIdx i) (us.eraseIdx i)
 |_,_,_,.nil=>.nil
 |_,_,0,.cons _ t=>t
 |_,_,i+1,.cons r t=>.cons r (cO.eraseIdx i t)
theorem cO.rep{xs:!V}{us:!dy}(h:cO xs us):∀k:Nat,cO (bN k xs).flatten (bN k us).flatten
 |0=>.nil
 |k+1=>by
  rw[jS,jS,yK,yK];erw[cO.append h (cO.rep h k)]
theorem Pg{a:Type}:∀(l:!a)(i:Nat),ge (l.eraseIdx i)<=ge l
 |[],_=>aA _
 |_::_,0=>iO _
 |_::r,i+1=>Nat.succ_le_succ (Pg r i)
theorem foldl_rep(a:!dy):∀(k:Nat)(b:!dy),
 List.foldl (λf d=>f++d) b.toArray (bN k a.toArray)=(b++(bN k a).flatten).toArray
 |0,b=>-_
 |k+1,b=>by
  let e:b.toArray++a.toArray=(b++a).toArray:=-_
  let c:(b++a)++(bN k a).flatten=b++(bN (k+1) a).flatten:=by
   rw[jS,yK,dW]
  rw[<- c,<- foldl_rep a k (b++a),<- e,jS,jU]
section
variable{X:Cx}{pins:!(du×Obj)}{σ:St}{H:Hp}{s:dA}{l b:du}{xs ys zs:!V}
theorem Inv.akX{a its':!dy}{n:Nat}{f:Array dy->Array dy}{t':Nat}(I:Inv X pins σ H s)(d:H l=ac (.lst xs))(e:s.heap.get? l=ac {cls:=.type "list",data:=.seq a.toArray n})(b:f a.toArray=its'.toArray)(i:cO ys its')(h:ge ys<=eD) :Inv X pins σ (upd H l (.lst ys)) {s with heap:=s.heap.update l (Obj.mapSeq f),toks:=t'}:=by let q:=PySem.IsL.update e f;rw[b] at q;erw[I.write (x:=l) (e:=l) (by rw[d];erw[trivial]) (.inl rfl) (λj u g c=>(fb s.heap (Obj.mapSeq f) (cC g)).trans c) #[_,q] ?_];erw[h,its',_,i,q]
def Inv.akY{a:!dy}{t':Nat}(I:Inv X pins σ H s)(c:cO ys a)(b:ge ys<=eD) :Inv X pins σ (upd H s.heap.objs.size (.lst ys)) {s with heap:=s.heap.push {cls:=.type "list",data:=.seq a.toArray},toks:=t'} :=I.laid (λ_ _ q=>dL _ q) (aA _) #[b,a,(0),c,en _ rfl]
theorem Inv.fresh(I:Inv X pins σ H s):H s.heap.objs.size=de:=I.hok.fresh (aA _)
theorem Inv.abe(I:Inv X pins σ H s)(b:H l=ac (.lst xs)):ge xs<=eD/\∃(a:!dy)(n:Nat),cO xs a/\ge xs=ge a/\s.heap.get? l=ac {cls:=.type "list",data:=.seq a.toArray n}:=by let#[z,a,n,r,e]:=I.hok l _ b;erw[z,a,n,r,r.length,e]
theorem abf{n:Nat}(h:n<=eD):Builtin.List.listTooLong n=dr:=by delta Builtin.List.listTooLong;erw[gh ∅]
end
section
variable{X:Cx}
inductive Xi(x:V)(vs:!V)(H:Hp)(Q:VK):Prop
 |mk(l:du)(xs:!V)(y:V)(h1:x=.ref l)(h2:vs=[y])(h3:H l=ac (.lst xs))(h4:ge xs<eD)(h5:Q .gw (upd H l (.lst (xs++[y])))):Xi x vs H Q
theorem fY:Fh X "list.append" Xi:=by intro c s i H x j v p Q I g f h;let#[l,o,y,rfl,rfl,b,m,q]:=h;ext g;let#[u,rfl,d]:=f.one;let#[z,a,n,r,k,e]:=I.abe b;erw[call_meets F.slot_list_append #[_,e,2] F.entry_list_append (F.args_list_append_2 _ _) (PySem.list_append l a.toArray n u (by rw[bq];lia)) #[e,4]];erw[.gw,_,I.akX (its':=a++[u]) b e (-_) (r.append (.cons d .nil)) ?_,2,q];rw[az,List.length_singleton];lia
def ahG:V->!V->Hp->VK->Prop:=λx vs H Q=>∃l xs i k y,x=.ref l/\vs=[.int i]/\H l=ac (.lst xs)/\-(2^63)<=i/\i<2^63/\seqIndex? i (ge xs)=ac k/\xs[k]?=ac y/\Q y (upd H l (.lst (xs.eraseIdx k)))
theorem abg:Fh X "list.pop" ahG:=by intro d s E H x G v J Q I D o h;let#[l,C,i,k,y,rfl,rfl,c,B,f,m,g,q]:=h;ext D;let#[u,rfl,j]:=o.one;let#[t,rfl]:=j;let#[z,a,n,r,p,e]:=I.abe c;let#[w,A,b]:=r.get g;erw[call_meets F.slot_list_pop #[_,e,2] F.entry_list_pop (F.args_list_pop_2 _ _) (MeetsSeq.list_pop_at l a.toArray n i t k w (fitsIndex_both B f) (by rw[bq,<- p];erw[m]) (by rw[<- Array.getElem?_toList];erw[A]) (by rw[bq];lia)) #[e,4]];erw[y,_,I.akX (its':=a.eraseIdx k) c e ?_ (r.eraseIdx k) ?_,b,q];show a.toArray.eraseIdxIfInBounds k=(a.eraseIdx k).toArray;rw[List.eraseIdxIfInBounds_toArray];let:=Pg C k;lia
def Ha:R2:=λx y H Q=>∃l b xs zs,x=.ref l/\y=.ref b/\H l=ac (.lst xs)/\H b=ac (.lst zs)/\ge xs+ge zs<=eD/\∀p,H p=de->Q (.ref p) (upd H p (.lst (xs++zs)))
theorem CN:AN X (binaryOp .Add) Ha:=by intro d s t H x y v u Q I m g h;let#[l,b,D,E,rfl,rfl,f,p,B,q]:=h;ext m;ext g;let#[z,c,n,r,w,e]:=I.abe f;let#[C,a,A,o,i,k]:=I.abe p;erw[PySem.P.add_list e k ?_ (by rw[bq,bq];lia)];let j:c.toArray++a.toArray=(c++a).toArray:=-_;rw[j];erw[.ref _,_,I.akY (t':=s.toks) (r.append o) (by rw[az];lia),2,q _ I.fresh]
def GT:R2:=λx y H Q=>∃l k xs,x=.ref l/\y=.int k/\H l=ac (.lst xs)/\-(2^63)<=k/\k<2^63/\ge xs*k.toNat<=eD /\
 ∀p,H p=de->Q (.ref p) (upd H p (.lst (bN k.toNat xs).flatten))
theorem jp{b:Type}(xs:!b)(k:Nat):ge (bN k xs).flatten=k*ge xs:=by induction k with|zero=>simp|succ k a=>rw[jS,yK,az,a,Nat.succ_mul,Nat.add_comm]
theorem ahH:AN X (binaryOp .Mult) GT:=by intro w s L H x y v u Q I J D h;let#[l,k,N,rfl,rfl,B,G,A,p,q]:=h;ext J;let#[t,rfl]:=D;let#[z,b,n,r,C,e]:=I.abe B;let c:b.toArray.size*k.toNat<=eD:=(by rw[bq,<- C];erw[p]);let f:¬b.toArray.size*k.toNat > (2^63-1)/8:=(by let:(eD:Nat)<=(2^63-1)/8:=!_;lia);let d:¬((Builtin.List.listFitsIndex k).not)=df:=(by rw[fitsIndex_both G A];erw[aU]);let j:¬Builtin.List.listTooLong (b.toArray.size*k.toNat)=df:=(by rw[abf c];erw[aU]);let g:List.foldl (λi o=>i++o) [].toArray (bN (if b.toArray.isEmpty=df then 0 else k.toNat) b.toArray)=(bN k.toNat b).flatten.toArray:=(by let E:∀m:Nat,List.foldl (λi o=>i++o) [].toArray (bN m b.toArray)=(bN m b).flatten.toArray:=λm=>(by let:=foldl_rep b m [];rw[List.nil_append] at this;erw[this]);rw[E];cases b with|nil=>simp|cons a M=>rw[eH (-_)]);erw[wpAny_binaryOp_repeat_ref (T:="list") (U:="int") (!_) #[_,e,2] (λK=>typeIs_int K k t) noFill_list_mul F.fills_int_mul F.slot_int_rmul repeat_list F.slot_int_index.lookup (call_meets F.slot_int_rmul (typeIs_int s k t) F.entry_int_rmul (F.args_int_rmul_2 _ _) (int___rmul___int_list k t l b.toArray n) #[e,2,#[_,e,2],call_meets F.slot_list_mul #[_,e,2] F.entry_list_mul (F.args_list_mul_2 _ _) (AutoListH.list___mul___list_int_3 l b.toArray n k t d f j) #[e,4]])];rw[g];erw[.ref _,_,I.akY (t':=s.toks) (r.rep k.toNat) (by rw[jp,Nat.mul_comm];erw[p]),2,q _ I.fresh]
end
section
variable{κ:Type}[DecidableEq κ]
noncomputable def CO(kvs:!(κ×V))(k:κ):Option V:=(kvs.find? λkv=>decide (kv.1=k)).map (·.2)
noncomputable def ih(kvs:!(κ×V))(k:κ)(v:V):!(κ×V):=
 if (kvs.any λkv=>decide (kv.1=k))=df then kvs.map (λkv=>if kv.1=k then (kv.1,v) else kv) else kvs++[(k,v)]
theorem CP{p:κ×V}{r:!(κ×V)}{k:κ}(e:p.1=k):CO (p::r) k=ac p.2:=by simp[CO,we,e]
theorem CQ{p:κ×V}{k:κ}(e:¬p.1=k):CO (p::r) k=CO r k:=by simp[CO,we,e]
theorem SS(k:κ):∀kvs:!(κ×V),(kvs.any λa=>decide (a.1=k))=(CO kvs k).isSome
 |[]=>rfl
 |p::r=>by
  rw[rB];by_cases e:p.1=k
  ·simp only[CP e,fy e,Bool.true_or,Option.isSome_some]
  ·rw[CQ e,gh e,Bool.false_or];erw[SS k r]
theorem JA(kvs:!(κ×V))(k:κ)(v:V):ge (ih kvs k v)<=ge kvs+1:=by delta ih;split;rw[af];lia;rw[az,bG,qe];lia
theorem CJ.D6(r:CJ o u):o.isSome=u.isSome:=by
 cases o with
 |none=>cases u with
  |none=>rfl
  |some _=>erw[(show False from r).elim]
 |some _=>cases u with
  |none=>erw[(show False from r).elim]
  |some _=>rfl
theorem CJ.getD(r:CJ o u)(a:RelV d d'):RelV (o.getD d) (u.getD d'):=by
 cases o with
 |none=>cases u with
  |none=>erw[a]
  |some _=>erw[(show False from r).elim]
 |some _=>cases u with
  |none=>erw[(show False from r).elim]
  |some _=>erw[r]
theorem KV.val(r:KV kvs vs)(k:κ):CJ (CO kvs k) (valueAt vs k):=by delta KV at r;induction r with|nil=>erw[True.intro]|@cons p q i a h t f=>let#[d,g]:=h;by_cases e:p.1=k;let c:q.1=k:=d.symm.trans e;let b:valueAt (q::a) k=ac q.2:=(by simp[valueAt,we,c]);rw[CP e,b];erw[g];let c:¬q.1=k:=λz=>e (d.trans z);let b:valueAt (q::a) k=valueAt a k:=(by simp[valueAt,we,c]);rw[CQ e,b];erw[f]
theorem KV.any(r:KV kvs vs)(k:κ):(kvs.any λa=>decide (a.1=k))=vs.any λa=>decide (a.1=k):=by delta KV at r;induction r with|nil=>rfl|cons h t b=>rw[rB,rB,b,h.1]
theorem KV.repl{kvs:!(κ×V)}{vs:!(κ×dy)}(r:KV kvs vs)(k:κ){y:V}{u:dy}(d:RelV y u) :KV (kvs.map λa=>if a.1=k then (a.1,y) else a) (vs.map λa=>if a.1=k then (a.1,u) else a):=by delta KV at r ⊢;induction r with|nil=>erw[.nil]|@cons p q i g h t f=>rw[bz,bz];erw[.cons ?_ f];let#[b,c]:=h;by_cases e:p.1=k;rw[eG e,eG (b.symm.trans e)];erw[b,d];rw[eH e,eH (λz=>e (b.trans z))];erw[b,c]
theorem KV.put(r:KV kvs vs)(k:κ)(a:RelV y u):KV (ih kvs k y) (stored vs k u):=by delta ih stored;rw[r.any k];by_cases e:(vs.any λb=>decide (b.1=k))=df;rw[eG e,eG e];erw[r.repl k a];rw[eH e,eH e];erw[Paired.snoc r #[2,a]]
theorem KV.length(r:KV kvs vs):ge kvs=ge vs:=Paired.length r
end
theorem Pj(r:RelV (kV k) u):(iw P w).is k u=df:=by cases k with|inl i=>let#[t,e]:=(show ∃t,u=Value.int i t from r);subst e;erw[SE P w i t]|inr x=>let#[t,e]:=(show ∃t,u=Value.str x t from r);subst e;erw[SG P w x t]
theorem Pk{P:ft}{w:World}:∀{a:!hJ}{us:!dy},cO (a.map kV) us->ItemsAre (iw P w) a us
 |[],_,r=>by rw[List.map_nil] at r;ext r;erw[.nil]
 |k::a,_,r=>by
  rw[bz] at r;cases r with
  |cons h t=>erw[.cons (Pj h) (Pk t)]
abbrev KT(H:Hp):!(!hJ×V)->!(!hJ×du×dy)->Prop:=Paired λp q=>p.1=q.1/\H q.2.1=ac (.tup (p.1.map kV))/\RelV p.2 q.2.2
theorem KT.val(r:KT H kvs xs)(k:!hJ):CJ (CO kvs k) ((atKey xs k).map (·.2)):=by induction r with|nil=>erw[True.intro]|@cons p q i a h t f=>let#[d,_,g]:=h;by_cases e:p.1=k;let c:q.1=k:=d.symm.trans e;let b:atKey (q::a) k=ac q.2:=(by simp[atKey,we,c]);rw[CP e,b];erw[g];let c:¬q.1=k:=λz=>e (d.trans z);let b:atKey (q::a) k=atKey a k:=(by simp[atKey,we,c]);rw[CQ e,b];erw[f]
theorem KT.repl{H:Hp}{kvs:!(!hJ×V)}{xs:!(!hJ×du×dy)}(r:KT H kvs xs)(k:!hJ){y:V}{u:dy}(d:RelV y u) :KT H (kvs.map λb=>if b.1=k then (b.1,y) else b) (xs.map (putAt k u)):=by induction r with|nil=>erw[.nil]|@cons p q j i h t f=>rw[bz,bz];erw[.cons ?_ f];let#[a,c,g]:=h;delta putAt;by_cases e:p.1=k;rw[eG e,eG (a.symm.trans e)];erw[a,c,d];rw[eH e,eH (λz=>e (a.trans z))];erw[a,c,g]
theorem KT.put{H:Hp}{kvs:!(!hJ×V)}{xs:!(!hJ×du×dy)}(r:KT H kvs xs)(k:!hJ){b:du}{y:V}{u:dy}(c:H b=ac (.tup (k.map kV)))(a:RelV y u) :KT H (ih kvs k y) (storedH xs k b u):=by let e:(kvs.any λd=>decide (d.1=k))=(atKey xs k).isSome:=(by rw[SS,(r.val k).D6,Option.isSome_map]);delta ih storedH;rw[e];by_cases q:(atKey xs k).isSome=df;rw[eG q,eG q];erw[r.repl k a];rw[eH q,eH q];erw[Paired.snoc r #[2,c,a]]
def KT.keeps{c:Hp}(r:KT H kvs xs)(d:∀b a,H b=ac (.tup a)->c b=ac (.tup a)):KT c kvs xs :=Paired.ahe r λ_ _ z=>#[z.1,d _ _ z.2.1,z.2.2]
section
variable{P:ft}{w:World}{H:Hp}{h:Heap}{a:du}
def wn(ok:CK P w H h)(e:Rd H a u):jL P w H h a u:=e.ok ok
theorem Xj(ok:CK P w H h)(e:Rd H a (.dK kvs)):ge kvs<=eD/\(a==sysModules)=dr/\∃vs,KV kvs vs/\h.DictOf (iw P w) a vs:=
 show jL P w H h a (.dK kvs) from wn ok e
def PQ(ok:CK P w H h)(e:H a=ac (.dK kvs)):ge kvs<=eD/\(a==sysModules)=dr/\∃vs,KV kvs vs/\h.DictOf (iw P w) a vs:=Xj ok (.inl e)
theorem QM{c:!hJ}(ok:CK P w H h)(e:H a=ac (.tup (c.map kV))):(tupleKind (iw P w)).is h c a:=by let#[_,b,r,o,g,d,n,f]:=(show jL P w H h a (.tup (c.map kV)) from ok a _ e);exists o,b.toArray,n,g,d,f,by simpa using Pk r
theorem Xk{kvs:!(!hJ×V)}(ok:CK P w H h)(e:Rd H a (.dT kvs)):ge kvs<=eD/\(a==sysModules)=dr /\∃xs,KT H kvs xs/\h.DictOfH (tupleKind (iw P w)) a xs:=by let#[z,y,xs,r,o,j,s,i,d,n,k,f]:=(show jL P w H h a (.dT kvs) from wn ok e);erw[z,y,xs,r,o,j,s,i,d,n,k,λx hx=>?_,f];let b:∀{l:!(!hJ×V)}{m:!(!hJ×du×dy)},KT H l m->∀x∈m,(tupleKind (iw P w)).is h x.1 x.2.1:=(by intro l m q;induction q with|nil=>(intro x hx;erw[nomatch hx])|@cons p q v u c t g=>(intro x hx;obtain e|hx:=aT.mp hx;subst e;erw[QM ok (by rw[<- c.1];erw[c.2.1])];erw[g x hx]));erw[b r x hx]
def PP{kvs:!(!hJ×V)}(ok:CK P w H h)(e:H a=ac (.dT kvs)):ge kvs<=eD/\(a==sysModules)=dr /\∃xs,KT H kvs xs/\h.DictOfH (tupleKind (iw P w)) a xs:=Xk ok (.inl e)
end
def NO(H:Hp)(a:du)(y:V)(r:Option V):Prop:=
 (∃kvs k,Rd H a (.dK kvs)/\y=kV k/\r=CO kvs k)\/∃kvs k b,Rd H a (.dT kvs)/\y=.ref b/\H b=ac (.tup (k.map kV))/\r=CO kvs k
def SV(H:Hp)(a:du)(y v:V)(H':Hp):Prop:=
 (∃kvs k,H a=ac (.dK kvs)/\y=kV k/\ge kvs<eD/\H'=upd H a (.dK (ih kvs k v))) \/
 ∃kvs k b,H a=ac (.dT kvs)/\y=.ref b/\H b=ac (.tup (k.map kV))/\ge kvs<eD/\H'=upd H a (.dT (ih kvs k v))
theorem NO.k{H:Hp}{a:du}{kvs:!(hJ×V)}{k:hJ}(e:H a=ac (.dK kvs)):NO H a (kV k) (CO kvs k):=.inl #[kvs,k,.inl e,22]
def NO.t{H:Hp}{k:!hJ}(e:H a=ac (.dT kvs))(c:H b=ac (.tup (k.map kV))):NO H a (.ref b) (CO kvs k):=.inr #[kvs,k,b,.inl e,2,c,2]
theorem SV.k{H:Hp}{a:du}{kvs:!(hJ×V)}{k:hJ}{v:V}(e:H a=ac (.dK kvs))(hl:ge kvs<eD):SV H a (kV k) v (upd H a (.dK (ih kvs k v))):=.inl #[kvs,k,e,2,hl,2]
def SV.t{H:Hp}{a b:du}{kvs:!(!hJ×V)}{k:!hJ}{v:V}(e:H a=ac (.dT kvs))(c:H b=ac (.tup (k.map kV)))(hl:ge kvs<eD) :SV H a (.ref b) v (upd H a (.dT (ih kvs k v))):=.inr #[kvs,k,b,e,2,c,hl,2]
section
variable{X:Cx}{pins:!(du×Obj)}{σ:St}{H:Hp}{s:dA}{a:du}{y v:V}{u r:dy}{o:Option V}{A:fv}{E:dy->dA->Prop}
theorem Inv.big(I:Inv X pins σ H s):sysModules<s.heap.objs.size:=by let h:eI<s.heap.objs.size:=(I.mod.glob.keeps I.bk).lt;erw[Nat.lt_trans (!_) h]
theorem GM{Q:dy->dA->Prop}(m:A.units+1<cLine)(I:Inv X pins σ H s)(g:NO H a y o)(j:RelV y u)(h:∀s',Inv X pins σ H s'->Q (.bool o.isSome) s') :fg (model X.prog X.w) A (fa .In u (.ref a)) Q E s:=by obtain⟨c,k,e,d,l⟩|⟨c,k,b,e,d,n,l⟩:=g;subst d;let#[z,f,p,rel,i]:=Xj I.hok e;erw[wpAny_in_of (Pj j) f i.mapOf ?_];rw[<- (rel.val k).D6,<- l];erw[h _ (I.tok _)];subst d;cases (show u=Value.ref b from j);let#[z,f,r,rel,i]:=Xk I.hok e;erw[wpAny_in_heap (tupleKind_room_in1 m) (QM I.hok n) f i ?_];let q:=(rel.val k).D6;rw[Option.isSome_map] at q;rw[<- q,<- l];erw[h _ (I.tok _)]
def Xl{h':Heap}{t':Nat}{ob:HO}(I:Inv X pins σ H s)(g:kz (H a))(hs:Heap.SameBut a s.heap h')(d:∃q,h'.get? a=ac q)(c:jL X.prog X.w (upd H a ob) h' a ob) :Inv X pins σ (upd H a ob) {s with heap:=h',toks:=t'} :=I.write (x:=a) (e:=a) g (.inl rfl) (λb q f z=>(hs.2 b f).trans z) d c
def ahI{P:ft}{w:World}{c:Hp}{h':Heap}{kvs:!(hJ×V)}{vs:!(hJ×dy)}(z:ge kvs<=eD)(d:(a==sysModules)=dr)(b:KV kvs vs)(dd:h'.DictOf (iw P w) a vs) :jL P w c h' a (.dK kvs):=#[z,d,vs,b,dd]
theorem Ze{J:Hp}{Q:Unit->dA->Prop}(L:A.units+1<cLine)(I:Inv X pins σ H s)(g:SV H a y v J)(G:RelV y u)(D:RelV v r)(h:∀s',Inv X pins σ J s'->Q () s') :fg (model X.prog X.w) A (setItem (.ref a) u r) Q E s:=by obtain⟨d,k,e,p,l,j⟩|⟨d,k,b,e,p,F,l,j⟩:=g;subst p j;let#[z,t,M,rel,x]:=PQ I.hok e;let o:ge M<=eD:=(by rw[<- rel.length];erw[z]);let m:ge (ih d k v)<=eD:=(by let:=JA d k v;lia);erw[wpAny_setItem_pairs (hsz:=o) (Pj G) x λC f n=>h _ ?_];let O:∃q,C.get? a=ac q:=let ⟨q,_,_,i,_⟩:=f;#[q,i];erw[Xl I (by rw[e];erw[True.intro]) n O (ahI m t (rel.put k D) f)];subst p j;cases (show u=Value.ref b from G);let#[z,t,R,rel,x]:=PP I.hok e;let o:ge R<=eD:=(by rw[<- Paired.length rel];erw[z]);let m:ge (ih d k v)<=eD:=(by let:=JA d k v;lia);erw[wpAny_setItem_heap (hsz:=o) (tupleKind_room_in1 L) (QM I.hok F) x λC f n=>h _ ?_];let#[q,P,U,i,K,T,S,_,N]:=f;erw[Xl I (by rw[e];erw[True.intro]) n #[q,i] #[m,t,_,(rel.put k F D).keeps λc V B=>?_,q,P,U,i,K,T,S,N]];rw[aY (rD B e (λz=>nomatch z))];erw[B]
end
def vw(i:Expr):Prop:=∀ov iv,subscripted i dr ov iv=operate [ov,iv] (getItem ov iv)
theorem aeh{prog:ft}{w:World}{A:fv}{E:dy->dA->Prop}{s:dA}{env:Env}{b a:Expr}{l:Pos}{T id:String}{Q:dy->dA->Prop}(hl:typeLookup (.type T) "__getitem__" = pure (ac (.builtin id)))(hs:vw a)(h:fg (model prog w) A (eval b env) (λo e=>fg (model prog w) A (eval a env) (λi c=>c.TypeIs o T/\fg (model prog w) A (getItem o i) Q E c) E e) E s) :fg (model prog w) A (eval (.Subscript b a l) env) Q E s:=by
 erw[Subscript_ (wpAny_mono h (λo e j=>wpAny_mono j (λi c d=>?_) λ_ _ x=>x) λ_ _ x=>x)];let#[m,d]:=d;delta subscriptTail;erw[dC ?_];rw[getitemInPython_of_ne m.not_modules];erw[dC (wpAny_specialOf m hl ?_)];let g:fg (model prog w) A (subscripted a dr o i) (λr f=>fg (model prog w) A (letTemporaryGo b o r >>= λ_=>pure r) Q E f) E c:=(by rw[hs o i];erw[wpAny_operating (wpAny_mono d (λr f k=>dC (wpAny_letTemporaryGo (dE k))) λ_ _ x=>x)])
 first
  |erw[dE (dC g)]
  |erw[dC (dE (dC g))]
  |erw[dC g]
def GE(ty td:TE):TE:=λσ H Q=>ty σ H λy H1=>td σ H1 λx H2=>∃a o,x=.ref a/\NO H2 a y o/\Q (.bl o.isSome) H2
def PH(td ty tv:TE):TS:=λD σ H=>tv σ H λv H1=>td σ H1 λx H2=>ty σ H2 λy H3=>∃a H4,x=.ref a/\SV H3 a y v H4/\D.nx σ H4
section
variable{X:Cx}{o i e value:Expr}{pos pos' tpos:Pos}{td ty tv:TE}
theorem ahJ(j:X.A.units+1<cLine)(z:PE X i ty)(t:PE X o td):PC X .In i o (GE ty td):=by intro b s c H Q I h;erw[iS (z b s c H _ I h) λD n ⟨y,l,m,p,e⟩=>iS (t b n c l _ m e) λu C u_=>?_];let#[x,r,q,v,a,d,k,g,w]:=u_;subst k;obtain rfl:u=Value.ref a:=v;erw[GM j q g p λB f=>#[.bl d.isSome,r,f,2,w]]
theorem Xm(j:X.A.units+1<cLine)(F:PE X o td)(K:PE X i ty)(E:PE X value tv)(hs:swapsWith value (ac (.Subscript o i pos')) pos.line X.env=pure dr) :PS X (.Assign [.Subscript o i pos'] value pos) (PH td ty tv):=by intro b s c H D I h;erw[wpAny_Assign_Subscript (iS (E b s c H _ I h) λr t ⟨v,l,m,p,d⟩=>iS (F b t c l _ m d) λu n ⟨x,C,B,G,J⟩=>iS (K b n c C _ B J) λO L u_=>?_) hs];let#[y,M,e,w,a,q,k,g,f]:=u_;subst k;obtain rfl:u=Value.ref a:=G;erw[Ze j e g w p λN z=>#[c,q,z,f]]
end
def abh(h:Heap)(a:sysModules<h.objs.size):jL P w H (h.push {cls:=.type "dict",data:=.dict [].toArray}) h.objs.size (.dK []) :=#[bL _,beq_eq_false_iff_ne.mpr (cC (bV a)),[],.nil,Heap.DictOf.new h]
def abi(h:Heap)(a:sysModules<h.objs.size):jL P w H (h.push {cls:=.type "dict",data:=.dict [].toArray}) h.objs.size (.dT []) :=#[bL _,beq_eq_false_iff_ne.mpr (cC (bV a)),[],.nil,_,[].toArray,(0),en _ rfl,#[222],22,lY]
def ahK:TE:=λ_ H Q=>∀p,H p=de->Q (.ref p) (upd H p (.dK []))
def ahL:TE:=λ_ H Q=>∀p,H p=de->Q (.ref p) (upd H p (.dT []))
section
variable{X:Cx}{pos:Pos}
def abj:PE X (.Dict [] [] pos) ahK:=λb s c H Q I h => wpAny_Dict_empty #[.ref s.heap.objs.size,_,I.laid (a:=s.heap.objs.size) (o:=.dK []) (t':=s.toks) (λ_ _ q=>dL _ q) (aA _) (abh s.heap I.big),2,h _ (I.hok.fresh (aA _))]
def SW:PE X (.Dict [] [] pos) ahL:=λb s c H Q I h => wpAny_Dict_empty #[.ref s.heap.objs.size,_,I.laid (a:=s.heap.objs.size) (o:=.dT []) (t':=s.toks) (λ_ _ q=>dL _ q) (aA _) (abi s.heap I.big),2,h _ (I.hok.fresh (aA _))]
end
structure M1(X:Cx)(o:Expr)(m:Str)(apos:Pos)(e:Expr)(cpos:Pos):Prop where
 base:attributeBase o m X.env (eval o X.env)=eval o X.env
 few:((backTo cpos (eP [e] X.env)).all (λx=>x.1.not)&&(backToKw cpos (keywordEach [] X.env)).all (λx=>x.1.isSome)
  && decide (ge ([e]:!Expr)+ge ([]:!Keyword)+(if ([]:!Keyword).isEmpty then 0 else 1)<30))=df
 line:(apos.endLine==cpos.line)=df
 trees:backTo cpos (eP [e] X.env)=[(dr,eval e X.env)]
def Fm(H:Hp)(a:du):Prop:=(∃kvs,Rd H a (.dK kvs))\/∃kvs,Rd H a (.dT kvs)
theorem ahM{X:Cx}{f:!(du×Obj)}{k:St}{H:Hp}{s:dA}{a:du}(I:Inv X f k H s)(d:Fm H a) :s.TypeIs (.ref a) "dict" /\ (∀b,Value.ref a=.ref b->∃ob,s.heap.get? b=ac ob/\ob.dict=de)/\(a==sysModules)=dr:=by obtain⟨h,e⟩|⟨h,e⟩:=d;let#[_,j,l,_,c]:=Xj I.hok e;erw[c.typeIs,λb q=>?_,j];ext q;let#[ob,_,_,i,g,_]:=c;erw[ob,i,g.2.1];let#[_,j,m,_,c]:=Xk I.hok e;erw[c.typeIs,λb q=>?_,j];ext q;let#[ob,_,_,i,g,_]:=c;erw[ob,i,g.2.1]
section
variable{X:Cx}{pins:!(du×Obj)}{σ:St}{H:Hp}{s:dA}{a:du}{y d:V}{u r:dy}{o:Option V}{A:fv}{E:dy->dA->Prop}
theorem ahN{Q:dy->dA->Prop}(n:A.units+1<cLine)(I:Inv X pins σ H s)(g:NO H a y o)(m:RelV y u)(h:∀j s',Inv X pins σ H s'->RelV (o.getD .gw) j->Q j s') :fg (model X.prog X.w) A (call (.builtin "dict.get") [.ref a,u]) Q E s:=by obtain⟨d,k,e,f,l⟩|⟨d,k,b,e,f,p,l⟩:=g;subst f;let#[z,i,r,rel,c]:=Xj I.hok e;erw[call_meetsIn PySem.F.slot_dict_get c.typeIs PySem.F.entry_dict_get (PySem.F.args_dict_get_2 _ _) (meets_dict_get (iw X.prog X.w) a (Pj m) i) #[_,c.mapOf,h _ _ (I.tok _) ?_]];rw[l];erw[(rel.val k).getD rfl];subst f;cases (show u=Value.ref b from m);let#[z,i,q,rel,c]:=Xk I.hok e;erw[call_meetsIn PySem.F.slot_dict_get c.typeIs PySem.F.entry_dict_get (PySem.F.args_dict_get_2 _ _) (meetsH_dict_get (tupleKind (iw X.prog X.w)) a b i) #[tupleKind_room_in1 n,k,q,QM I.hok p,c,h _ _ (I.tok _) ?_]];rw[l];erw[(rel.val k).getD rfl]
end
def ahO(td ty:TE):TE:=λσ H Q=>td σ H λx H1=>∃a,x=.ref a/\Fm H1 a/\ty σ H1 λy H2=>∃o,NO H2 a y o/\Q (o.getD .gw) H2
section
variable{X:Cx}{o e f:Expr}{apos cpos:Pos}{td ty tx:TE}
theorem abk(p:X.A.units+1<cLine)(C:PE X o td)(w:PE X e ty)(m:M1 X o "get" apos e cpos):PE X (.Call (.Attribute o "get" apos) [e] [] cpos) (ahO td ty):=by intro b s f H Q I h;erw[wpAny_Call_method m.base m.few m.line PySem.F.plainAttrs_dict PySem.F.slot_dict_get PySem.F.type_dict_get (iS (C b s f H _ I h) λu t u_=>?_)];let#[x,r,i,D,a,q,d,l]:=u_;subst q;obtain rfl:u=Value.ref a:=D;let#[k,j,_]:=ahM i d;erw[k,j,4];rw[m.trees];erw[Calls.callWith_builtin rfl (Calls.evalArgs_plain (Calls.spliced_cons (iS (w b t f r _ i l) λM K ⟨y,B,z,v,G,g,E⟩=>Calls.spliced_nil ?_)))];erw[ahN p z g v λL J n c=>#[_,B,n,c,E]]
end
end L2
namespace Att
open PySem PySem.W PySem.Calls PyProof.Rows
theorem JZ:∀(ns:!Int)(vs:!dy),WellAll P h vs (ns.map WData.int)->IntsAre vs ns:=by intro ns;induction ns with|nil=>intro vs w;rw[List.map_nil] at w;ext w;erw[.nil]|cons n ns c=>(intro vs w;rw[bz] at w;cases w with|cons a b=>ext a;erw[.cons _ _ (c _ b)])
theorem Zf{l:OpenLaw}{n:Nat}(p:l.most=ac n){P:Params}{h:Heap}{args:!WData}{b:!dy}(c:l.row.toRowW.claim.pre args=df)(j:WellAll P h b args) :∃a vs ns,b=[Value.ref a]/\args=[WData.list (ns.map WData.int)]/\h.get? a=ac {cls:=.type "list",data:=.seq vs.toArray}/\IntsAre vs ns/\ge ns<=n:=by
 let k:WShape.hasAll [] args [.list .int]=df:=(pre_splitW c).1;let m:l.pre.holds [] {args:=args}=df:=(pre_splitW c).2;let#[d,r,rfl,s,o]:=hasAllW_cons k;obtain rfl:=hasAllW_nil o;let#[y,rfl,w]:=hasW_list s;let#[ns,rfl]:=items_int w;let f:ge ns<=n:=by
  delta OpenLaw.pre at m;let i:(WTm.not (.lt (.lit (.int (n:Int))) (.len (.arg 0)))).holds [] {args:=[.list (ns.map .int)]}=df:=(by let i:=(holds_andW m).1;rw[p] at i;erw[i]);let g:=condW_of i (w_not (w_lt w_lit (w_len_list (w_arg rfl))));rw[af] at g;erw[Nat.le_of_not_lt λq=>?_];let u:(n:Int)<((ge ns:Nat):Int):=∅
  first
   | (rw[fy u] at g;erw[ff g (!_)])
   | (simp at g;lia)
 cases j with|cons v x=>(ext x;cases v with|list t e=>erw[33,ns,22,t,JZ ns _ e,f])
theorem Zg(l:OpenLaw)(args:!WData):l.row.toRowW.claim.post args (.bool df) args=df :=postW_of (r:=l.row.toRowW) (X:=(df==df)) (show WShape.has [] (.bool df) .bool=df by first|rfl|decide|simp[WShape.has,WShape.arms,WShape.armsAll]) (show (WTm.eq .res (.lit (.bool df))).value [] {args:=args,res:=ac (.bool df),after:=args}=ac (.bool (df==df)) from w_eq_bool (w_res rfl) w_lit) rfl
theorem SX{l:OpenLaw}{n:Nat}{q:ft}{c:!Str}{XP:(Str->Option dy)->Heap->Prop}{F:World->Heap->Prop}{d:DefRec}(K:l.most=ac n)(A:d.params.defaults=[])(call:∀(w:World)(e b:dA)(p y:Str->Option dy)(j:du)(o:Obj)(z s g:dy)(a:du)(vs:!dy)(ns:!Int),Ground q c [] XP w e p y b.heap->F w b.heap ->b.heap.get? j=ac o->o.data=.func (docDef d.name d.params d.body d.scope z s g)->b.heap.CodeRec s d.name->p d.name=ac (.ref j) ->b.heap.get? a=ac {cls:=.type "list",data:=.seq vs.toArray}->IntsAre vs ns->ge ns<=n->b.gens=[].toArray ->codeAny (model l.prog w) callerA (.call (.ref j) #[[.ref a],[]]) (λr t=>r=.ok (.ret (.bool df))/\OldK b.heap t.heap/\t.os=b.os/\AllBare t.gens) b) :WalkO q c XP F l.row.toRowW d [] (λf vs=>PySem.call f vs):=by intro w e b p y G Y j o z s g M kV P N v E x J C B T i D S u L;obtain rfl:M=.none:=Dflts.none E A;obtain rfl:kV=.none:=Dflts.noKw E;let#[a,vs,ns,rfl,rfl,m,h,k]:=Zf K i u;erw[enter_call (codeAny_mono (call w e b p y j o z s g a vs ns G Y P (fd_plain N) v x m h k J) λr t I=>?_)];let#[rfl,H,R,O]:=I;erw[.inl #[.bool df,.bool df,[],2,λ_=>rfl,.bool df,Zg l _,λ_=>#[List.Pairwise.nil,λ_ Q=>(nomatch Q)]],H,R,O]
end Att
namespace L2
open PySem PySem.Spec PyProof.Rows
theorem Po:∀{vs:!dy}{ns:!Int},IntsAre vs ns->cO (ns.map fw) vs
 |_,_,.nil=>.nil
 |_,_,.cons n t h=>.cons #[t,2] (Po h)
def p3(H:Hp):Prop:=∀b,H b=de\/∃o xs,H b=ac (.Y0 o (.lst xs))
theorem abl{P:ft}{w:World}{K:ah}{D M:Str->Option dy}{CX:Za}{k:Nat}{R a:du}{Z:FuncData}{x:Str}{sp:Sp}{c:dA}{vs:!dy}{ns:!Int} (X:K.In c.heap) (C:c.heap.Ns eI D) (f:c.heap.Ns builtinsNs M) (U:∀x:Str,x≠"__name__" -> M x=bootBuiltins x) (A:c.heap.NoLimit) (hg:c.gens=[].toArray) (I:c.heap.get? a=ac {cls:=.type "list",data:=.seq vs.toArray}) (W:IntsAre vs ns) (hl:ge ns<=eD) (hr:mK k callerA) (F:∀base:Heap,K.In base->base.Ns eI D->ou P w K D base CX k R Z [x] sp) (l:∀(s:dA) (u:dy),BindsTo s Z #[[u],[]] [(x,u)]) (N:∀H:Hp,p3 H->bJ K H a (ns.map fw)->sp [.ref a] H (λv _=>v=.bl df) λ_ _ _=>False) (T:∀H e g,CX [] H c (λ_ _ _=>False) e g->False) :codeAny (model P w) callerA (.call (.ref R) #[[.ref a],[]]) (λr g=>r=.ok (.ret (.bool df))/\OldK c.heap g.heap/\g.os=c.os/\AllBare g.gens) c:=by
 let rv:=Po W;let Q:=W.length;let j:∀H:Hp,p3 H->bJ K H a (ns.map fw)->CK P w H c.heap->(∀b,H b≠de->b=a)->(H a≠de->K.lookup a=de) ->
  codeAny (model P w) callerA (.call (.ref R) #[[.ref a],[]]) (λr g=>r=.ok (.ret (.bool df))/\OldK c.heap g.heap/\g.os=c.os/\AllBare g.gens) c:=by
  intro H hO hS p hA hK;let Xn:∀{b:du}{o:Obj},c.heap.get? b=ac o->H b=de->(Qu c.heap H).get? b=ac o:=λe n=>aaN e n;let O:∀{b:du}{o:Obj}{E:Array DictEntry}{t:Nat},c.heap.get? b=ac o->o.data=.dict E t->H b=de:=λ{b o E t}e d=>by
   cases q:H b with
   |none=>rfl
   |some u=>
    let S:b=a:=hA b (by rw[q];simp);subst S;rw[I] at e;ext e;let d':Data.seq vs.toArray _=Data.dict E t:=d;ext d'
  let i:∀{b:du}{m:Str->Option dy},c.heap.Ns b m->(Qu c.heap H).Ns b m:=λ{b m} ⟨o,E,t,e,d,r⟩=>#[o,E,t,Xn e (O e d),d,r];let G:K.In (Qu c.heap H):=λb o e=>Xn (X b o e) (by
   cases q:H b with
   |none=>rfl
   |some u=>
    let S:b=a:=hA b (by rw[q];simp);subst S;rw[hK (by rw[q];simp)] at e;ext e)
  let hM:Mod K D (Qu c.heap H):=#[G,i C,#[M,i f,U],let ⟨mc,h1,h2⟩:=A;#[mc,i h1,h2]];let e0:VF P w K D (Qu c.heap H) callerA [] c H:=#[2,hM,λb o e=>ad7 e,Nat.le_of_eq (Y3 _ _),trivial,λb f=>ff (show b∈([]:!du) from f) (-_),p,.of_eq hg];erw[codeAny_mono ((F _ G (i C)).run callerA [] c H #[[.ref a],[]] [.ref a] [.ref a] _ _ hr e0 (l c (.ref a)) (.cons rfl .nil) (N H hO hS)) λr g h=>?_];cases r with
  |error e=>erw[(T H e g h).elim]
  |ok fl=>
   cases fl with
   |next=>erw[mS h]
   |brk=>erw[mS h]
   |cont=>erw[mS h]
   |ret u=>
    let#[v,H',os,B,un,L,r',q]:=h;let q':v=.bl df:=q;subst q';obtain rfl:u=Value.bool df:=r';erw[2,OldK.of_keep λb o e=>?_,os,B];cases q:H b with
    |none=>erw[un.keep b o e q (by intro z;erw[ff (show b∈([]:!du) from z) (-_)]) (-_)]
    |some u=>
     obtain z|⟨ob,xs,z⟩:=hO b
     ·rw[q] at z;ext z
     ·let z2:=un.Gp b ob _ z
      let#[Y,_]:=p b _ z;let#[e2,_]:=L b _ z2;rw[e] at Y;ext Y;erw[e2]
 cases J:K.lookup a with|some o=>let e:=X a o J;rw[I] at e;ext e;erw[j (λ_=>de) (λ_=>.inl rfl) (.inr #[_,vs.toArray,_,J,222,by rw[bq,Q];exact hl,by simpa using rv]) (λb u z=>by let y:(de:Option HO)=ac u:=z;ext y) (λb z=>ff rfl z) λz=>ff rfl z]|none=>erw[j (λb=>if b=a then ac (.Y0 {cls:=.type "list",data:=.seq vs.toArray} (.lst (ns.map fw))) else de) (λb=>?_) (.inl (.inr #[{cls:=.type "list",data:=.seq vs.toArray},eG rfl])) (λb u z=>?_) (λb z=>?_) λ_=>J];by_cases f:b=a;erw[.inr #[33,eG f]];erw[.inl (eH f)];by_cases f:b=a;let y:=(eG f).symm.trans z;ext y;subst f;exists I,by rw[af];exact hl,vs,_,rv,I;let y:=(eH f).symm.trans z;ext y;by_cases f:b=a;erw[f];erw[ff (eH f) z]
theorem aei{l:PySem.W.OpenLaw}{n k:Nat}{q:ft}{i:!Str}{XP:(Str->Option dy)->Heap->Prop}{I:World->Heap->Prop}{d:DefRec}{K:Params->ah}{CX:World->Za}{sp:World->Sp}{x:Str}(M:l.most=ac n)(y:n<=eD)(C:d.params.defaults=[])(S:mK k callerA)(R:∀(w:World)(h:Heap),I w h->(K w.params).In h)(F:∀(w:World)(m:Str->Option dy)(t:du)(h:Heap),(K w.params).In h->h.Ns eI m->m d.name=ac (.ref t) ->∃A:FuncData,(∀(s:dA)(u:dy),BindsTo s A #[[u],[]] [(x,u)]) /\∀base:Heap,(K w.params).In base->base.Ns eI m->ou l.prog w (K w.params) m base (CX w) k t A [x] (sp w))(B:∀(w:World)(H:Hp)(a:du)(ns:!Int),ge ns<=n->p3 H->bJ (K w.params) H a (ns.map fw)->sp w [.ref a] H (λv _=>v=.bl df) λ_ _ _=>False)(D:∀(w:World)(H:Hp)(s:dA)(e:dy)(s':dA),CX w [] H s (λ_ _ _=>False) e s'->False) :PySem.W.WalkO q i XP I l.row.toRowW d [] (λf vs=>PySem.call f vs):=by erw[Att.SX M C λw J p m Z t o pm cd X a vs ns G Y ho hd L z r j c P=>?_];let E:=R w _ Y;let#[A,Q,O]:=F w m t _ E G.T.g z;erw[abl E G.T.g G.T.b G.T.builtins G.T.nolimit P r j (aJ c y) S O Q (λH U N=>B w H a ns c U N) λH e s'=>D w H p e s']
noncomputable def gt(s:Stmt)(j:Nat):Stmt:=match s with
 |.ClassDef _ _ _ body _ _ _ _ _ _ _=>body.getD j (.Pass #[(0),(0),(0),(0)])
 |_=>.Pass #[(0),(0),(0),(0)]
noncomputable def kr(s:Stmt):Arguments:=match s with
 |.FunctionDef _ a _ _ _ _ _ _ _ _=>a
 |_=>{posonlyargs:=[],args:=[],vararg:=de,kwonlyargs:=[],kw_defaults:=[],kwarg:=de,defaults:=[]}
noncomputable def g7(s:Stmt):!Stmt:=match s with
 |.FunctionDef _ _ b _ _ _ _ _ _ _=>b
 |_=>[]
noncomputable def aC(s:Stmt):Scope:=match s with
 |.FunctionDef _ _ _ _ _ _ sc _ _ _=>sc
 |_=>{kind:=.function,names:=[],isGenerator:=dr,isCoroutine:=dr}
abbrev QN:Za:=λ_ _ _ _ _ _=>False
abbrev E0:XK:=λ_ _ _=>False
def nX:wA QN X E0:=λ_ _ _ _ _ _ _ h=>h.elim
structure Vn(K:ah)(x qual:Str)(st:Stmt)(f:du)(fd:FuncData):Prop where
 ex:∃(oc:dy)(od:Option du)(kV doc pm:dy)(an:Option du)(cdv ct:dy)(osl:Array (Option dy)),
  fd=fN x qual (kr st) (g7 st) (aC st) .none kV doc pm an cdv ct/\K.lookup f=ac #[oc,od,.func fd,osl]/\lX K cdv qual=df
 kp:fz K (.ref f)=df
section
variable{P:ft}{w:World}{K:ah}{mg:Str->Option dy}{base:Heap}
theorem Vn.ok{x b:Str}{st:Stmt}{f:du}{j:FuncData}{N ps:!Str}{k:Nat}{sp:Sp}(F:Vn K x b st f j)(S:aQ N ps (aC st))(g:∀vs H Q E,sp vs H Q E->ge vs=ge ps)(d:∀(c:dy)(A:fv)(a:!Env)(s:dA)(H:Hp)(vs:!V)(Q:VK)(E:XK),mK k (A.deeper (envOfC b (aC st) s.heap.objs.size f c))->sp vs H Q E ->∃t,iR (rH QN P w K mg base N b (aC st) f c A a s H E).z0 (g7 st) t/\t {nx:=λ_ o=>Q .gw o,rt:=Q} (start N vs) H):ou P w K mg base QN (k+1) f j ps sp:=by let#[p,r,kV,m,v,u,c,y,n,rfl,lk,e]:=F.ex;erw[rx lk e S g λA a s H vs Q E l i=>?_];let#[t,h,q]:=d c A a s H vs Q E l i;erw[t,h.z0,q]
theorem Vn.binds{x a:Str}{st:Stmt}{f:du}{g:FuncData}{ps:!Str}(F:Vn K x a st f g)(h:∀(kV b e:dy)(d:Option du)(c ct:dy)(us:!dy),ge us=ge ps->bindArgs (fN x a (kr st) (g7 st) (aC st) .none kV b e d c ct) #[us,[]]=pure (ps.zip us)):Binds K g ps []:=by let#[k,l,kV,b,e,d,c,ct,j,rfl,lk,i]:=F.ex;erw[.all (h kV b e d c ct)]
def zt{x a:Str}{st:Stmt}{f:du}{i:dy}{j g:Option du}{e:Array (Option dy)}{kV d h b ct:dy}(l:K.lookup f=ac #[i,j,.func (fN x a (kr st) (g7 st) (aC st) .none kV d h g b ct),e])(c:lX K b a=df)(k:fz K (.ref f)=df):Vn K x a st f (fN x a (kr st) (g7 st) (aC st) .none kV d h g b ct):=#[#[i,j,kV,d,h,g,b,ct,e,2,l,c],k]
end
theorem Pp(a:mK k A):A.units+1<cLine:=bM (b5 (by decide:1<=64) _) a.units
theorem bP{n:Nat}(h:n<=1000):n<eD:=bM h (!_)
section
variable{X:Cx}
theorem pv(i:Nat){x:Str}{a:Pos}(c:X.N[i]?=ac x:=by rfl)(d:my X.env.scope x:=by k_go)(e:(x==("__debug__" : Str))=dr:=by decide) (b:(x==("__classdict__" : Str))=dr:=by decide):PE X (.Name x a) (Qw i):=WP c d e b
end
theorem fP{A B:Prop}(h:B):if dr=df then A else B:=by rw[eH aU];erw[h]
theorem fZ{A B:Prop}(h:A):if df=df then A else B:=by rw[eG rfl];erw[h]
theorem lZ{A B:Prop}[Decidable c](b:c->A)(a:¬c->B):if c then A else B:=by by_cases h:c;rw[eG h];erw[b h];rw[eH h];erw[a h]
def aH(H H':Hp):Prop:=∀b o,H b=ac o->H' b=ac o
def aH.refl(H:Hp):aH H H:=λ_ _ h=>h
def aH.trans(a:aH H H1)(b:aH H1 H2):aH H H2:=λc o h=>b c o (a c o h)
theorem aH.free(e:aH H H')(h:H' l=Option.none):H l=Option.none:=by cases q:H l with|none=>rfl|some o=>rw[e l o q] at h;ext h
theorem aH.seq{K:ah}(e:aH H H')(h:bJ K H a xs):bJ K H' a xs:=by obtain (h|⟨o,h⟩)|h:=h;erw[.inl (.inl (e _ _ h))];erw[.inl (.inr #[o,e _ _ h])];erw[.inr h]
theorem Zh{env:Env}(h:env.cells.lookup x=ac c):cellOf env x=pure c:=by delta cellOf;rw[h]
noncomputable def qm(env:Env):!(Str×NameKind)->!(Str×du)->!(Str×du)
 |[],cs=>cs
 | (n,k)::r,cs=>qm env r (if k==.free then (n,(env.cells.lookup n).getD 0)::cs else cs)
theorem QO{env:Env}:∀(ns:!(Str×NameKind))(cs:!(Str×du)),(∀n,(n,eR)∈ns->∃c,env.cells.lookup n=ac c) ->
 (forIn (m:=Sem) ns cs λx r=>match x with
  | (a,d)=>if (d==eR)=df then do let c <- cellOf env a;pure (mR ((a,c)::r)) else pure (mR r))=pure (qm env ns cs)
 |[],cs,_=>rfl
 | (n,k)::r,cs,h=>by
  rw[List.forIn_cons];by_cases b:(k==eR)=df
  ·let g:k=.free:=b⁻¹
   let#[c,e]:=h n (by rw[g];erw[aM]);simp only[b,if_true,Zh e];let q:=QO r ((n,c)::cs) λm f=>h m (aO _ f);show (forIn (m:=Sem) r ((n,c)::cs) _)=pure (qm env r (if (k==.free)=df then (n,(env.cells.lookup n).getD 0)::cs else cs));rw[eG b,e];erw[q]
  ·simp only[b]
   let q:=QO r cs λm f=>h m (aO _ f);show (forIn (m:=Sem) r cs _)=pure (qm env r (if (k==.free)=df then (n,(env.cells.lookup n).getD 0)::cs else cs));rw[eH b];erw[q]
theorem E3{scope:Scope}{env:Env}(h:∀n,(n,eR)∈scope.names->∃c,env.cells.lookup n=ac c):closureFor scope env=pure (qm env scope.names []):=by
 let e:=QO scope.names [] h;delta closureFor;show (forIn (m:=Sem) scope.names [] (λx r=>match x with
  | (a,b)=>if (b==eR)=df then do let c <- cellOf env a;pure (mR ((a,c)::r)) else pure (mR r)) >>= λs=>pure s)=_
 rw[e];rfl
theorem pJ{env:Env}{x:Str}{c:du}:∀(ns:!(Str×NameKind))(cs:!(Str×du)),(∀n,(n,eR)∈ns->∃c,env.cells.lookup n=ac c)->(cs.lookup x=ac c->env.cells.lookup x=ac c) ->
 (qm env ns cs).lookup x=ac c->env.cells.lookup x=ac c
 |[],_,_,a,h=>a h
 | (n,k)::r,cs,g,a,h=>by
  delta qm at h;erw[pJ r _ (λm l=>g m (aO _ l)) (λq=>?_) h];by_cases f:(k==eR)=df
  ·let j:k=.free:=f⁻¹
   subst j;let#[d,e]:=g n aM;rw[eG f,e,gI] at q;by_cases b:(x==n)=df
   ·let i:x=n:=b⁻¹
    rw[b] at q;subst i;rw[e];erw[q]
   ·simp only[b] at q
    erw[a q]
  ·rw[eH f] at q
   erw[a q]
theorem Fl{env:Env}{x:Str}:∀(ns:!(Str×NameKind))(cs:!(Str×du)),((cs.lookup x).isSome=df\/(x,eR)∈ns)->((qm env ns cs).lookup x).isSome=df
 |[],_,h=>h.elim id λz=>ff z (-_)
 | (n,k)::r,cs,h=>by
  delta qm;erw[Fl r _ ?_];obtain h|h:=h
  ·refine .inl ?_
   split
   ·rw[gI]
    split
    ·rfl
    ·erw[h]
   ·erw[h]
  ·obtain e|h:=aT.mp h
   ·ext e
    erw[.inl ?_];rw[eG (show (eR==eR)=df from rfl),gI];simp
   ·erw[.inr h]
noncomputable def lI(cap:!(Option Nat))(σ:St):St:=cap.map λo=>o.bind λj=>(σ[j]?).join
noncomputable def pK(X:Cx)(scope:Scope)(N':!Str)(fp:!du)(pins:!(du×Obj))(s₃:dA)(apl:Hp):Cx where
 prog:=X.prog
 w:=X.w
 K:=X.K
 mg:=X.mg
 base:=X.base
 A:=X.A
 N:=N'
 s₀:=s₃
 H₀:=apl
 env:=compEnvC scope (qm X.env scope.names []) s₃.heap.objs.size X.env
 outer:=X.stack
 stack:=X.stack
 ex:=fp
 fn:=λ_=>dr
 calm:=X.calm
 pn:=X.pn++pins
 xe:=λ_ _=>False
structure ku(X:Cx)(scope:Scope)(N':!Str)(cap:!(Option Nat)):Prop where
 kind:scope.kind=.function
 VM:∀y∈scope.names,y.2≠.cell
 loc:∀y∈scope.names,y.2=.local->scope.names.lookup y.1=ac .local
 fr:∀y∈scope.names,y.2=.free->X.env.kindOf y.1=ac .cell
 frl:∀y∈scope.names,y.2=.free->scope.names.lookup y.1=ac .free
 nd:N'.Nodup
 len:ge cap=ge N'
 cap:∀(i j:Nat)(x:Str),cap[i]?=ac (ac j)->N'[i]?=ac x->X.N[j]?=ac x/\(x,eR)∈scope.names
section
variable{X:Cx}{scope:Scope}{N':!Str}{cap:!(Option Nat)}{fp:!du}{pins:!(du×Obj)}{s:dA}{σ:St}{H:Hp}
def ku.clos(S:ku X scope N' cap)(ok:X.Ok):∀n,(n,eR)∈scope.names->∃c,X.env.cells.lookup n=ac c:=λn a=>ok.has n (.inl (S.fr _ a rfl))
theorem AO{env:Env}{x:Str}:∀{names:!(Str×NameKind)}{k:NameKind},
 (names.map λ(n,k)=>if (k==eR&&env.scope.kind==.function&&env.kindOf n==ac .cell) then (n,NameKind.cell) else (n,k)).lookup x=ac k->k=.cell\/k=.free->(∀y∈names,y.2≠.cell)->(x,eR)∈names
 |[],_,h,_,_=>by simp at h
 | (n,q)::r,k,h,hk,d=>by
  let h':uq x ((if (q==eR&&env.scope.kind==.function&&env.kindOf n==ac .cell)=df then (n,NameKind.cell) else (n,q))::(r.map λ(n,k)=>if (k==eR&&env.scope.kind==.function&&env.kindOf n==ac .cell) then (n,NameKind.cell) else (n,k)))=ac k:=h;by_cases b:(x==n)=df
  ·let f:x=n:=b⁻¹
   subst f;by_cases c:(q==eR&&env.scope.kind==.function&&env.kindOf x==ac .cell)=df
   ·let:q=.free:=by
     rw[dh,dh] at c
     simpa using c.1.1
    subst this;erw[aM]
   ·rw[eH c,gI,b] at h'
    let e:q=k:=aI h';subst e;obtain hk|hk:=hk
    ·erw[ff hk (d _ aM)]
    ·rw[hk];erw[aM]
  ·let a:(x==n)=dr:=b⁻¹
   erw[aO _ (AO (env:=env) (k:=k) ?_ hk λy g=>d y (aO _ g))];split at h'
   ·rw[gI,a] at h';erw[h']
   ·rw[gI,a] at h';erw[h']
theorem GA{env:Env}{x:Str}(c:env.scope.kind=.function)(d:env.kindOf x=ac .cell):∀{names:!(Str×NameKind)},names.lookup x=ac .free ->
 (names.map λ(n,k)=>if (k==eR&&env.scope.kind==.function&&env.kindOf n==ac .cell) then (n,NameKind.cell) else (n,k)).lookup x=ac .cell
 |[],h=>by simp at h
 | (n,k)::r,h=>by
  show uq x ((if (k==eR&&env.scope.kind==.function&&env.kindOf n==ac .cell)=df then (n,NameKind.cell) else (n,k))::_)=_;cases a:x==n with
  |true=>
   let e:x=n:=a⁻¹
   subst e;simp only[gI,a] at h;let f:k=.free:=aI h;subst f;rw[eG (by rw[c,d];rfl),gI,a]
  |false=>
   simp only[gI,a] at h;let b:=GA c d h;split
   ·rw[gI,a];erw[b]
   ·rw[gI,a];erw[b]
theorem ku.ok(S:ku X scope N' cap)(I:Inv X pins σ H s)(d:∀b∈fp,Gu X pins H b)(f:∀b∈fp,∃o,s.heap.get? b=ac o):(pK X scope N' fp pins s H).Ok where
 mod:=I.ok.mod
 kind:=S.kind
 glob:=I.ok.glob
 blt:=I.ok.blt
 above:=aA _
 inj:=λx y c j g=>I.ok.inj x y c (pJ _ _ (S.clos I.ok) (λz=>by simp at z) j) (pJ _ _ (S.clos I.ok) (λz=>by simp at z) g)
 has:=λx hx=>by
  let k:(x,eR)∈scope.names:=by
   obtain hx|hx:=hx
   ·erw[AO (env:=X.env) hx (.inl rfl) S.VM]
   ·erw[AO (env:=X.env) hx (.inr rfl) S.VM]
  erw[Option.isSome_iff_exists.mp (Fl scope.names [] (.inr k))]
 X7:=λx c h=>by ext h
 hd:=I.ok.hd
 frames:=I.ok.frames
 stk:=.inl rfl
 exf:=λb a=>by
  let#[o,e]:=f b a;erw[bV (eA e),λx c h=>(d b a).2.2.2.2.1 x c (pJ _ _ (S.clos I.ok) (λz=>by simp at z) h)]
 bs:=I.bs
 nW:=aJ I.ok.nW I.sz
 Y4:=λb o e a=>by
  obtain z|z:=(d b a).2.2.2.1
  ·erw[I.ok.Y4 b o e z]
  ·erw[ff (b9 (eA e) (aJ I.ok.nW z)) (gG _)]
 aaO:=λb a i=>by
  obtain z|z:=aT.mp (I.HH b i)
  ·erw[(d b a).2.1 z]
  ·erw[(d b a).2.2.1 z]
 Gq:=I.stack
 Gb:=I.Qv
theorem ku.look(S:ku X scope N' cap)(I:Inv X pins σ H s){f:Heap}{m:Str->Option dy}(g:∀x c v,X.env.cells.lookup x=ac c->s.heap.IsCell c v->f.IsCell c v)(i:Nat)(x:Str)(v:V)(G:N'[i]?=ac x)(E:(lI cap σ)[i]?=ac (ac v)) :∃u,RelV v u/\Look (compEnvC scope (qm X.env scope.names []) s.heap.objs.size X.env) f m x u:=by let L:∀x c,(qm X.env scope.names []).lookup x=ac c->X.env.cells.lookup x=ac c:=λx c h=>pJ _ _ (S.clos I.ok) (λz=>by simp at z) h;let d:((cap[i]?).map λo=>o.bind λj=>(σ[j]?).join)=ac (ac v):=(by let:=E;delta lI at this;rw[ao] at this;erw[this]);cases q:cap[i]? with|none=>rw[q] at d;ext d|some o=>(cases o with|none=>rw[q] at d;ext d|some j=>(rw[q] at d;let#[J,a]:=S.cap i j x q G;let n:(σ[j]?).join=ac v:=aI d;let K:σ[j]?=ac (ac v):=(by cases A:σ[j]? with|none=>rw[A] at n;ext n|some y=>(cases y with|none=>rw[A] at n;ext n|some z=>rw[A] at n;let e:z=v:=aI n;rw[e]));let b:=S.fr _ a rfl;let#[M,F,w]:=I.loc;let#[u,r,l]:=w j x v J K (.inr (.inl b));erw[u,r,4];obtain⟨C,_⟩|⟨C,c,D,k⟩:=l;let z:X.env.kindOf x=ac .cell:=b;rw[C] at z;ext z;let#[t,p]:=Option.isSome_iff_exists.mp (Fl (env:=X.env) (x:=x) scope.names [] (.inr a));let B:t=c:=(by let:=L x t p;rw[D] at this;erw[(aI this).symm]);subst B;erw[.inr #[.inl (GA I.ok.kind b (S.frl _ a rfl)),t,p,g x t _ D k]]))
theorem ku.start(S:ku X scope N' cap)(I:Inv X pins σ H s)(w:∀b∈fp,Gu X pins H b)(r:∀b∈fp,∃o,s.heap.get? b=ac o){a:Heap}{tk:Nat}{m:Str->Option dy}(l:a.Ns s.heap.objs.size m)(j:∀b o,s.heap.get? b=ac o->a.get? b=ac o):Inv (pK X scope N' fp pins s H) [] (lI cap σ) H {s with heap:=a,toks:=tk}:=by let t:∀x c,(qm X.env scope.names []).lookup x=ac c->X.env.cells.lookup x=ac c:=λx c h=>pJ _ _ (S.clos I.ok) (λz=>by simp at z) h;let f:∀{c:du}{v:Option dy},s.heap.IsCell c v->a.IsCell c v:=λ{c v} ⟨o,e,d⟩=>#[o,j c o e,d];erw[S.ok I w r,2,I.bare,Un.kept j,#[m,l,λi x v B u C=>S.look I (λ_ _ _ _ z=>f z) i x v B u],λx c h=>?_,I.hok.fresh (aA _),λx c h=>I.z9 x c (t x c h),λp y=>?_,I.hok.kept j,4];let#[v,z]:=I.cell x c (t x c h);erw[v,f z];let g:p∈(X.pn++pins)++[]:=y;let k:p∈X.pn++pins:=(by rw[cu] at g;erw[g]);let#[e,n,A,nf,d]:=I.pin p k;erw[j _ _ e,n,bV (eA e),λz=>?_,d];obtain q|q:=aT.mp (I.HH p.1 z);erw[A q];erw[nf q];delta lI;rw[af];erw[S.len]
theorem ku.again(S:ku X scope N' cap)(I:Inv X pins σ H s)(h:∀b∈fp,Gu X pins H b)(a:Inv (pK X scope N' fp pins s H) [] σ8 H8 s8):Inv (pK X scope N' fp pins s H) [] (lI cap σ) H8 s8:=by let#[m,k,_]:=a.loc;erw[a.ok,a.os,a.bare,a.base,#[m,k,λi x v n g r=>S.look I (λy c u f j=>?_) i x v n g],a.cell,a.free,a.z9,a.pin,a.hok,4];let#[o,e,d]:=j;let#[p,q]:=a.base.any e (I.z9 y c f) λl=>(h c l).2.2.2.2.1 y c f rfl;erw[_,q,d];delta lI;rw[af];erw[S.len]
theorem ku.back{h j:Hp}{d s3 s':dA}{r:St}{g:du}{a:Heap}(S:ku X scope N' cap)(s:Inv X pins σ h d)(A:∀b∈fp,Gu X pins h b){o:HO}(J:s3.heap.objs.size=d.heap.objs.size+1)(k3:∀b u,d.heap.get? b=ac u->s3.heap.get? b=ac u)(x:g=d.heap.objs.size)(K:s3.os=d.os)(m:Inv (pK X scope N' fp pins s3 (upd h g o)) [] r j s')(p:Heap.SameBut s3.heap.objs.size s'.heap a):Inv X pins σ j {s' with heap:=a}:=by
 let F:Un (im X.stack) fp h (upd h g o) d.heap s3.heap:=Un.laid k3 (by rw[x];erw[aA _]) (s.hok.fresh (by rw[x];erw[aA _]));let f:Un (im X.stack) fp h j d.heap s'.heap:=F.trans m.base;let i:∀b ob,d.heap.get? b=ac ob->b≠s3.heap.objs.size:=λb ob e=>(by let:=eA e;rw[J];erw[bV (Nat.lt_succ_of_lt this)]);let t:j s3.heap.objs.size=de:=m.free;let E:Un (im X.stack) fp h j d.heap a:=
  #[λb ob e n l k=>(p.2 b (i b ob e)).trans (f.keep b ob e n l k),λb ob e n l k=>by
   let#[C,q]:=f.slot b ob e n l k;exact#[C,(p.2 b (i b ob e)).trans q],f.free,λb ob e k=>by
   let#[y,q]:=f.there b ob e k;exact#[y,(p.2 b (i b ob e)).trans q],f.tups,f.Gp,f.HG]
 let hok:CK X.prog X.w j a:=λb ob e=>(m.hok b ob e).stay (λc v H q=>(p.2 c (by rintro rfl;obtain z|z:=H;rw[<- z,t] at e;ext e;rw[t] at z;ext z)).trans q) (λ_ q=>q) λ_ _ q=>q;erw[s.af3 (s':={s' with heap:=a}) (ch:=fp) (m.os.trans K) E hok m.bare λb l=>?_];let#[_,D,_,B,I,G]:=A b l;erw[B,D,I,G]
def j9(X:Cx)(ifs:!Expr)(t:TT):Prop:=
 ∀(pins:!(du×Obj))(s:dA)(σ:St)(H:Hp)(Q:Bool->Hp->Prop),Inv X pins σ H s->t σ H Q ->
  fg (model X.prog X.w) X.A (forIn ifs df λc r=>if r=df then do let ok <- isTrue c X.env (eval c X.env);pure (mR ok) else pure (mR r)) (TP X pins σ Q) X.xe s
def Pv:TT:=λ_ H Q=>Q df H
def fj:j9 X [] Pv:=λ_ _ _ H _ I h=>wpAny_tests_nil #[H,I,h]
def kB(h:PT X c t):j9 X [c] t:=λpins s σ H Q I a=>wpAny_tests_one (h pins s σ H Q I a)
def wd(wi:TI)(cap:!(Option Nat))(g:TG)(tc:TT)(te:TE):TE:=λσ H Q=>wi σ H λJ H1=>∀acc,H1 acc=de->∃W:Nat->Nat->Hp->Prop,(∃m,W 0 m (upd H1 acc (.lst [])))/\∀i m H,W i m H ->
 (J.stop i H/\Q (.ref acc) H)\/(J.go i H/\∀x H',J.NK i H x H'->g x (lI cap σ) H' λσ2 H2=>tc σ2 H2 λb H3=>if b=df then te σ2 H3 λy H4=>∃xs,H4 acc=ac (.lst xs)/\ge xs<eD /\
  ∃m',m'<m/\W (i+1) m' (upd H4 acc (.lst (xs++[y]))) else ∃m',m'<m/\W (i+1) m' H3)
theorem Zj{t a k:PySem.Expr}{o:!PySem.Expr}{scope:Scope}{B:Pos}{E p:dy}{env:Env}{prog:ft}{w:World}{A:fv}{s:dA}{R:Result->dA->Prop}(I:Nat->dA->Prop)
 (C:∀n s,I n s->fg (model prog w) A (pyNext E) (λr b=>match r with
  |none=>R (.ok .next) b
  |some v=>fg (model prog w) A (letOwnedTupleGo a E v) (λ_ l=>fg (model prog w) A (assign a env v) (λ_ f=>
   fg (model prog w) A (forIn o df λc r=>if r=df then do let ok <- isTrue c env (eval c env);pure (mR ok) else pure (mR r)) (λok d=>if ok=df then fg (model prog w) A (eval t env) (λx e=>
    fg (model prog w) A (call (.builtin "list.append") [p,x]) (λ_ i=>∃m,m<n/\I m i) (λ_ _=>False) e) (λ_ _=>False) d
    else ∃m,m<n/\I m d) (λ_ _=>False) f)
   (λ_ _=>False) l) (λ_ _=>False) b) (λ_ _=>False) s)
 (n:Nat) (h:I n s):codeAny (model prog w) A (.compLoop (.ListComp t [#[a,k,o,(0)]] scope B) 0 E p env) R s:=by erw[codeAny_loop rfl I (λn s G=>?_) n h];show fg _ A ((compTurn (.ListComp t [#[a,k,o,(0)]] scope B) 0 E p env).onRaise (λx=>do noteFrame x env;theTreesLotGoes x)) _ _ s;erw[wpAny_noted ?_];rw[compTurn_list];erw[dC (wpAny_standAt (dC (wpAny_mono (C n s G) (λr b g=>?_) λ_ _ z=>z.elim)))];cases r with|none=>erw[dE g]|some v=>(erw[dC (wpAny_mono g (λ_ l q=>?_) λ_ _ z=>z.elim)];erw[dC (wpAny_mono q (λ_ f y=>?_) λ_ _ z=>z.elim)];erw[dC (wpAny_mono y (λF d j=>?_) λ_ _ z=>z.elim)];cases F with|false=>erw[dE #[2,j]]|true=>erw[dC (dC (wpAny_mono j (λx e D=>dC (wpAny_mono D (λ_ i u=>dE (dE #[2,u])) λ_ _ z=>z.elim)) λ_ _ z=>z.elim))])
theorem K7{V tg L:Expr}{M:!Expr}{af:Pos}{g:TG}{tc:TT}{te:TE}{Q:VK}{a:dA}{D:Hp}{it:du}{Z:Nat->Heap->Prop}{J:It}{E:dy->dA->Prop}{RR:dy->du->Result->dA->Prop}(S:ku X scope N' cap)(hc:X.calm=df)(hg:∀fp pins s H,PG (pK X scope N' fp pins s H) tg g)(aj:∀fp pins s H,j9 (pK X scope N' fp pins s H) M tc)(he:∀fp pins s H,PE (pK X scope N' fp pins s H) V te)(I2:Inv X pins σ D a)(T:iq X.prog X.w X.K tg J fp it Z)(R:Z 0 a.heap)(Y:∀b∈fp,Gu X pins D b)(h:∀k,D k=de->∃W:Nat->Nat->Hp->Prop,(∃m,W 0 m (upd D k (.lst [])))/\∀i m H,W i m H ->(J.stop i H/\Q (.ref k) H)\/(J.go i H/\∀x j,J.NK i H x j->g x (lI cap σ) j λae D=>tc ae D λb H3=>if b=df then te ae H3 λy H4=>∃xs,H4 k=ac (.lst xs)/\ge xs<eD /\∃t,t<m/\W (i+1) t (upd H4 k (.lst (xs++[y]))) else ∃t,t<m/\W (i+1) t H3))(ap:∀C s' j,(∃m,s'.heap.Ns C m)->(∀U,Heap.SameBut C s'.heap U->Inv X pins σ j {s' with heap:=U})->Q (.ref a.heap.objs.size) j->j C=de->a.heap.objs.size<C ->RR (.ref a.heap.objs.size) C (.ok .next) s') :fg (model X.prog X.w) X.A (newList []) (λk ah=>fg (model X.prog X.w) X.A (newFunctionEnv scope X.env.globals (qm X.env scope.names []) [] X.env.qual de .none (ac X.env)) (λI ag => codeAny (model X.prog X.w) X.A (.compStart (.ListComp V [#[tg,L,M,(0)]] scope af) 0 (.ref it) k {I with scope:=relabel scope X.env}) (RR k I.locals) ag) E ah) E a:=by erw[wpAny_newObj_type (wpAny_newFunctionEnv S.VM (by intro y hy;simp at hy) (λv VN VO=>?_) S.kind)];dsimp only at VN VO ⊢;let ar:D a.heap.objs.size=de:=I2.hok.fresh (aA _);generalize P:a.heap.push {cls:=.type "list",dict:=de,data:=.seq ([]:!dy).toArray}=h3 at VN VO ⊢;let e3:h3.objs.size=a.heap.objs.size+1:=(by rw[<- P,Heap.size_push]);let k3:∀b u,a.heap.get? b=ac u->h3.get? b=ac u:=λb u e=>(by rw[<- P];erw[dL _ e]);let I3:Inv X pins σ (upd D a.heap.objs.size (.lst [])) {a with heap:=h3,toks:=a.toks}:=(by erw[I2.laid (t':=a.toks) k3 (aA _) ?_];exists bL _,[],(0),.nil,by rw[<- P];erw[en _ rfl]);let f3:∀b∈fp,Gu X pins (upd D a.heap.objs.size (.lst [])) b:=λb f=>(by let#[o,e,_]:=T.obj _ _ R b f;exists by rw[aY (bV (eA e))];exact (Y b f).1,(Y b f).2);let ad:∀b∈fp,∃o,h3.get? b=ac o:=λb f=>(by let#[o,e,_]:=T.obj _ _ R b f;erw[o,k3 b o e]);let kp:∀b o,h3.get? b=ac o->v.get? b=ac o:=λb o e=>VO.extBut b o (bV (eA e)) (dL _ e);let I4:=S.start (fp:=fp) (tk:=a.toks+ge ([]:!(Str×dy))) I3 f3 ad VN kp;let HQ:Z 0 v:=T.keep _ _ _ R λb _ o e=>kp b o (k3 b o e);let#[W,#[m0,w0],aa]:=h a.heap.objs.size ar;letI G:=pK X scope N' fp pins {a with heap:=h3,toks:=a.toks} (upd D a.heap.objs.size (.lst []));let B:∀{O7:!(du×Obj)}{j:Hp},(∀p∈O7,p.1∉fp)->(∀b∈fp,j b=de)->∀b∈fp,Gu G O7 j b:=λ{O7 j}as hn b f=>(by let#[o,e]:=ad b f;erw[hn b f,bV (eA e),λz=>?_,.inl f,λx c hx=>(f3 b f).2.2.2.2.1 x c (pJ _ _ (S.clos I2.ok) (λz=>by simp at z) hx),λp hp=>?_];obtain q|q:=aT.mp (I2.HH b z);erw[(Y b f).2.1 q];erw[(Y b f).2.2.1 q];obtain q|q:=aR.mp hp;erw[(Y b f).2.2.2.2.2 p q];erw[λz=>as p q (z▸f)]);let F:codeAny (model X.prog X.w) X.A (.compLoop (.ListComp V [#[tg,L,M,(0)]] scope af) 0 (.ref it) (.ref a.heap.objs.size) G.env) (RR (.ref a.heap.objs.size) h3.objs.size) {a with heap:=v,toks:=a.toks+ge ([]:!(Str×dy))}:=(by erw[Zj (λn s'=>∃i j,Inv G [] (lI cap σ) j s'/\Z i s'.heap/\(∀b∈fp,j b=de)/\W i n j) ?_ m0 #[(0),_,I4,HQ,λb f=>(f3 b f).1,w0]];intro n s5 ⟨i,H5,I5,Vm,ab,w5⟩;obtain⟨stop,qn⟩|⟨go,step⟩:=aa i n H5 w5;(·erw[wpAny_mono (T.done G rfl rfl rfl hc i [] s5 (lI cap σ) H5 (λ_ _=>False) I5 (B (λ_ z=>ff z (-_)) ab) Vm stop) (λr s6 u_=>?_) λ_ _ z=>z];let#[hr,I6]:=u_;subst hr;erw[ap _ s6 H5 ?_ (λU sb=>S.back I2 Y (s3:={a with heap:=h3,toks:=a.toks}) e3 k3 rfl rfl I6 sb) qn I6.free (by rw[e3];erw[AH _])];let#[m,hn,_]:=I6.loc;erw[m,hn]);erw[wpAny_mono (T.item G rfl rfl rfl hc i [] s5 (lI cap σ) H5 (λ_ _=>False) I5 (B (λ_ z=>ff z (-_)) ab) Vm go) (λr s6 u_=>?_) λ_ _ z=>z];let#[u,hr,h6]:=u_;subst hr;erw[wpAny_mono h6 (λ_ s7 u_=>?_) λ_ _ z=>z];let#[x,H7,I7,r7,y7,VP,am]:=u_;let ao:=I7.pinned (B (λ_ z=>ff z (-_)) am) (T.obj _ _ VP);let again:∀{l:St}{O:Hp}{N:dA},Inv G ([]++K0 fp s7.heap) l O N->(∃t,t<n/\W (i+1) t O)->∃m,m<n/\∃i j,Inv G [] (lI cap σ) j N/\Z i N.heap/\(∀b∈fp,j b=de)/\W i m j:=λ{l O N}I8 n8=>(by let#[t,hm,w8]:=n8;let pn:∀b∈fp,∃o,s7.heap.get? b=ac o/\N.heap.get? b=ac o/\O b=de:=λb f=>(by let#[o,e,d]:=T.obj _ _ VP b f;let q:=I8.pin (b,o) (bW _ (bW _ (Fj f e)));erw[o,e,q.1,q.2.1]);erw[t,hm,i+1,O,S.again I3 f3 I8.Gv,T.keep _ _ _ VP λb f o e=>?_,λb f=>?_,w8];let#[o',e',q,_]:=pn b f;rw[e] at e';ext e';erw[q];let#[_,_,_,q]:=pn b f;erw[q]);erw[wpAny_mono (hg fp pins _ _ _ s7 (lI cap σ) H7 x u _ ao r7 (step x H7 y7)) (λ_ N u_=>?_) λ_ _ z=>z];let#[l,O,I8,q8]:=u_;erw[wpAny_mono (aj fp pins _ _ _ N l O _ I8 q8) (λb s9 u_=>?_) λ_ _ z=>z];let#[H9,I9,q9]:=u_;cases b with|false=>erw[again I9 q9]|true=>erw[wpAny_mono (he fp pins _ _ _ s9 l H9 _ I9 q9) (λu AQ u_=>?_) λ_ _ z=>z];let#[y,NH,ai,ak,xs,hx,hl,al]:=u_;erw[wpAny_mono (fY (X:=G) _ AQ l NH (.ref a.heap.objs.size) [y] (.ref a.heap.objs.size) [u] (λ_ j=>∃t,t<n/\W (i+1) t j) ai rfl (.cons ak .nil) #[_,xs,y,22,hx,hl,al]) (λ_ Fq ⟨_,Kv,an,_,aq⟩=>again an aq) λ_ _ z=>z]);erw[codeAny_compStart_list F (T.self _ 0 _ _ _ HQ F)]
theorem dP{c d a:Expr}{b:!Expr}{k:Pos}{n:TI}{g:TG}{p:TT}{o:TE}(S:ku X scope N' cap)(K:X.calm=df)(O:PI X d a n)(z:∀fp pins s H,PG (pK X scope N' fp pins s H) d g)(i:∀fp pins s H,j9 (pK X scope N' fp pins s H) b p)(E:∀fp pins s H,PE (pK X scope N' fp pins s H) c o)(hs:∀x,foldedSetIterable a X.env x=pure x:=by intro _;rfl) :PE X (.ListComp c [#[d,a,b,(0)]] scope k) (wd n cap g p o):=by intro pins s σ H Q I h;rw[eval_ListComp];erw[wpAny_comprehension_free (use:=de) rfl hs (E3 (S.clos I.ok)) S.kind S.loc (iS (O pins s σ H _ I h) λv U G=>iS G λL r q=>?_)];let#[P,fp,R,J,V,e,F,T,j,y,N]:=q;subst e;erw[K7 (RR:=λf C=>compPost (model X.prog X.w) X.A X.xe de (EP X pins σ Q) f C) S K z i E F T j y N ?_];intro C W M ⟨m,t⟩ D u _ _;erw[m,t,λl B=>#[.ref r.heap.objs.size,M,D l B,2,u]]
theorem kC{k E f:Expr}{j:!Expr}{t:Pos}{Y:TI}{g:TG}{tc:TT}{te:TE}{i:Nat}{x:Str}{d l:Pos}(hN:X.N.Nodup)(L:X.N[i]?=ac x)(hx:Loc X.env.scope x)(S:ku X scope N' cap)(hc:X.calm=df)(hi:PI X E f Y)(hg:∀fp pins s H,PG (pK X scope N' fp pins s H) E g)(M:∀fp pins s H,j9 (pK X scope N' fp pins s H) j tc)(he:∀fp pins s H,PE (pK X scope N' fp pins s H) k te)(hs:∀x,foldedSetIterable f X.env x=pure x:=by intro _;rfl)(P:swapsWith (.ListComp k [#[E,f,j,(0)]] scope t) (ac (.Name x d)) l.line X.env=pure df:=by rfl)(hf:X.fn x=df\/X.env.scope.names.lookup x=ac .local:=by w_up) :PS X (.Assign [.Name x d] (.ListComp k [#[E,f,j,(0)]] scope t) l) (mm (wd Y cap g tc te) (iU i)):=by intro pins s σ H D I h;rw[exec_Assign_Name_used _ _ _ _ P];erw[dC (wpAny_standAt (dC ?_))];show fg _ X.A (do let _ <- comprehension (.ListComp k [#[E,f,j,(0)]] scope t) scope X.env _ (newList []) dr (eval f X.env) (ac (assign (.Name x d) X.env))) _ _ s;erw[dC (wpAny_mono (wpAny_comprehension_free (use:=ac (assign (.Name x d) X.env)) (Q:=λ_ n=>SP X pins D .next n) rfl hs (E3 (S.clos I.ok)) S.kind S.loc (iS (hi pins s σ H _ I h) λv s1 h1=>iS h1 λaa G h2=>?_)) (λ_ n U=>dE (dE U)) λ_ _ e=>e)];let#[it,fp,tn,J,H2,e,r,T,R,f2,hW]:=h2;subst e;erw[K7 (RR:=λW C=>compPost (model X.prog X.w) X.A X.xe (ac (assign (.Name x d) X.env)) (λ_ n=>SP X pins D .next n) W C) (Q:=λx H1=>iU i x σ H1 D.nx) S hc hg M he r T R f2 hW ?_];intro C n Z ⟨m,hn⟩ hI U hC u;let I':Inv X pins σ Z n:=hI n.heap (.refl ..);show fg _ _ (assign (.Name x d) X.env (.ref G.heap.objs.size)) _ _ n;erw[wpAny_assign_Name (O9 (v:=.ref G.heap.objs.size) I' hN L hx rfl (λs6 I6 u_=>?_) hf)];let#[a,sb,ha]:=u_;let B:∀b,b<G.heap.objs.size->b≠C:=λb O=>bV (Nat.lt_trans O u);let V:a≠C:=(by obtain z|z:=ha;rw[z];erw[B _ r.lt];let#[_,q]:=r.cell x a z;erw[B _ q.lt]);erw[m,hn.sameBut sb (cC V),λh' K=>#[_,Z,I6.turned (t':=s6.toks) (λb o O e=>(K.2 b O).trans e) hC (cC (B _ r.lt)) (.inr (aJ r.sz (gp u))) (λy c F=>?_) (λp hp=>?_),U]];let#[_,q]:=r.cell y c F;erw[B _ q.lt];erw[B _ (eA (r.pin p hp).1)]
end
section
variable{X:Cx}
noncomputable def m1(K:ah)(a:du):It:=
 #[λi H=>∃xs x,bJ K H a xs/\xs[i]?=ac x,λi H x H'=>∃p v,H p=de/\x=.ref p/\H'=upd H p (.tup [.int (i:Nat),v])/\∀xs,bJ K H a xs->xs[i]?=ac v,λi H=>∃xs,bJ K H a xs/\ge xs<=i]
theorem Zk{P:ft}{w:World}{K:ah}{G:!Expr}{x1}{U:Pos}(a e f:du)(F:e≠f):
 iq P w K (.Tuple G x1 U) (m1 K a) [e,f] e (λi h=>∃old,IsEnum h e f (i:Nat) old/\h.IsListIter f a i) where
 mem:=-_
 obj:=λi h ⟨old,st,y⟩b hb=>by
  obtain z|hb:=aT.mp hb
  ·subst z
   erw[_,st,λv z=>by
    let z':Data.fields _=Data.cell v:=z;ext z']
  ·let z:b=f:=hb⁻¹
   subst z;let#[o,e,c,d]:=y;exists o,e,λv z=>by rw[d] at z;ext z
 keep:=λi h h' ⟨old,st,y⟩k=>#[old,k e (-_) _ st,y.at λo q=>k f (-_) o q]
 item:=by
  intro X S hw L g i t s σ H E I A ⟨old,st,y⟩ Q;subst S hw L;let#[V,x,J,M]:=Q;let#[T,Y,p,hz]:=I.list J;let#[u,hu,ru]:=Y.get M;erw[wpAny_pyNext_enum_item st y p.isList (x:=u) hu⁻¹ F λh' eo R tu sz kp=>?_];erw[1,wpAny_letOwnedTupleGo_enum eo λC e2 B=>?_];let j:H s.heap.objs.size=de:=I.hok.fresh (aA _);let nE:∀b o,H b=ac o->b≠e:=λb o q z=>by rw[z,(A e (-_)).1] at q;ext q
  let nI:∀b o,H b=ac o->b≠f:=λb o q z=>by rw[z,(A f (-_)).1] at q;ext q
  let l:∀b o,b≠e->b≠f->s.heap.get? b=ac o->C.get? b=ac o:=λb o h1 h3 q=>(B.2 b h1).trans (kp b o h1 h3 q);let W:e<s.heap.objs.size:=eA st;let O:C.get? s.heap.objs.size=ac {cls:=.type "tuple",data:=.seq [.int (i:Nat) s.toks,u].toArray}:=(B.2 _ (Nat.ne_of_gt W)).trans tu;let aa:C.IsListIter f a (i+1):=R.at λo q=>(B.2 f (cC F)).trans q;let D:∀b,b∉[e,f]->b≠e/\b≠f:=λb hb=>#[λz=>hb (by simp[z]),λz=>hb (by simp[z])];let ad:∀b∈[e,f],upd H s.heap.objs.size (.tup [.int (i:Nat),x]) b=de:=λb hb=>by
   obtain⟨o,q,_⟩:∃o,s.heap.get? b=ac o/\True:=by
    obtain z|hb:=aT.mp hb
    ·subst z;erw[_,st,trivial]
    ·let z:b=f:=hb⁻¹
     subst z;let#[o,q,_]:=y;erw[o,q,trivial]
   rw[aY (bV (eA q))];erw[(A b hb).1]
  let I1:Inv X t σ (upd H s.heap.objs.size (.tup [.int (i:Nat),x])) {s with heap:=C,toks:=s.toks+1}:=by
   refine I.step (g':=s.gens) (d':=s.drawn) (ch:=[e,f]) (λb hb=>?_) (λb o _ _ g q _=>l b o (D b g).1 (D b g).2 q) (λb o _ _ g q _=>#[o.slots,l b o (D b g).1 (D b g).2 q])
    (λb o _ q n=>by rw[aY (bV (eA q))];erw[n]) (λb o g q=>#[o,l b o (D b g).1 (D b g).2 q]) (λb V q=>by rw[aY (aS q j)];erw[q]) (λb o u q=>by rw[aY (aS q j)];erw[q])
    (λb ps q=>#[[].toArray,by rw[aY (aS q j),q];simp]) (λm hm=>?_) (λb o q=>?_) I.bare
   ·let#[_,Z,_,N,f4,f5]:=A b hb
    erw[N,Z,f4,f5]
   ·let#[o,es,ep,ho,r]:=hm
    erw[o,es,ep,l _ o (cC (A e (-_)).2.1) (cC (A f (-_)).2.1) ho,r]
   ·by_cases hb:b=s.heap.objs.size
    ·subst hb
     rw[ay] at q;ext q;exists by show 2<=eD;decide,[.int (i:Nat) s.toks,u],.cons #[1] (.cons ru .nil),#[_,O,8]
    ·rw[aY hb] at q
     refine (I.hok b o q).stay (λc v g r=>l c v ?_ ?_ r) (λc r=>by rw[aY (aS r j)];erw[r]) λc V r=>by rw[aY (aS r j)];erw[r]
     ·obtain z|z:=g
      ·rw[z];erw[nE b o q]
      ·erw[nE c _ z]
     ·obtain z|z:=g
      ·rw[z];erw[nI b o q]
      ·erw[nI c _ z]
  erw[.ref s.heap.objs.size,_,I1,2,#[_,x,j,22,λys hy=>by rw[I.KZ hy J];erw[M]],#[u,4,aa],ad];let ab:IsEnum C e f ((i:Int)+1) u:=e2;show IsEnum C e f (((i+1:Nat):Int)) u;rw[Int.natCast_add];erw[ab]
 done:=by
  intro X S hw L g i t s σ H E I A ⟨old,st,y⟩ Q;subst S hw L;let#[V,J,M]:=Q;let#[T,Y,p,hz]:=I.list J;let#[f0,Z,f2,N,f4,f5]:=A f (-_);let hl:=Y.length;erw[wpAny_pyNext_enum_end (I.ok.hd g) st y p.isList (by simp;lia) λh' eb=>#[2,I.turned (t':=s.toks) (λb o hb q=>eb b o hb q) f0 Z N f4 f5]]
 self:=λ_ _ _ _ _ ⟨_,st,_⟩h=>wpAny_pyIter_enum st h
def Pt(K:ah)(ta:TA):TI:=λσ H R=>ta σ H λvs H1=>∃a xs,vs=[.ref a]/\bJ K H1 a xs/\R (m1 K a) H1
theorem aej{l:Expr}{t:TA}{p i:Pos}{g:!Expr}{x1}{f:Pos}(w:Gl X "enumerate")(G:X.mg "enumerate" = de)(F:PA X [l] t)(hs:eP [l] X.env=[(dr,eval l X.env)]:=by rfl) :PI X (.Tuple g x1 f) (.Call (.Name "enumerate" p) [l] [] i) (Pt X.K t):=by intro c s m H R I h;erw[Call_ (Qx I w G boot_enumerate (PyProof.Rows.callWith_type1 (iS (F i c s m H _ I h) λP d u_=>?_) hs rfl))];let#[L,k,j,y,u]:=u_;let#[a,O,e,v,q]:=u;subst e;cases y with|cons r J=>(ext J;ext r;let#[D,M,B,N]:=j.list v;erw[call_enumerate_list B.isList λx o E Q A=>wpAny_pyIter_enum o ?_];let C:Inv X c m k {d with heap:=x,toks:=d.toks}:=j.kept A;let n:∀b,d.heap.objs.size<=b->Gu X c k b:=λb hb=>j.aaT hb (j.hok.fresh hb);erw[d.heap.objs.size+1,[d.heap.objs.size+1,d.heap.objs.size],33,k,2,C,Zk a _ _ (Nat.succ_ne_self _),#[.none,o,E],λb hb=>?_,q];obtain z|hb:=aT.mp hb;subst z;erw[n _ ∅];let z:b=d.heap.objs.size:=hb⁻¹;subst z;erw[n _ ∅])
end
theorem aH.cU{K:ah}(e:aH H H')(h:dH K H a xs):dH K H' a xs:=by obtain (h|⟨o,h⟩)|h:=h;erw[.inl (.inl (e _ _ h))];erw[.inl (.inr #[o,e _ _ h])];erw[.inr h]
theorem aH.new{H:Hp}(h:H p=de):aH H (upd H p o):=λb u e=>by rw[aY (aS e h)];erw[e]
theorem aH.out(s:aH H0 H)(h:H0 p=de):aH H0 (upd H p o):=λb u e=>by rw[aY (aS e h)];erw[s b u e]
mutual
def Rep(K:ah)(H:Hp):PyData->V->Prop
 |.none,v=>v=.gw
 |.bool b,v=>v=.bl b
 |.int i,v=>v=.int i
 |.str x,v=>v=.str x
 |.list ds,v=>∃a vs,v=.ref a/\bJ K H a vs/\eU K H ds vs
 |.tuple ds,v=>∃a vs,v=.ref a/\dH K H a vs/\eU K H ds vs
 |.dict _,_=>False
def eU(K:ah)(H:Hp):!PyData->!V->Prop
 |[],vs=>vs=[]
 |d::ds,vs=>∃v r,vs=v::r/\Rep K H d v/\eU K H ds r
end
section
variable{K:ah}{H H':Hp}
mutual
theorem Rep.mono(s:aH H H'):∀{d:PyData}{v:V},Rep K H d v->Rep K H' d v
 |.none,_,h=>h
 |.bool _,_,h=>h
 |.int _,_,h=>h
 |.str _,_,h=>h
 |.list ds,_,⟨a,vs,e,q,r⟩=>#[a,vs,e,s.seq q,eU.mono s r]
 |.tuple ds,_,⟨a,vs,e,q,r⟩=>#[a,vs,e,s.cU q,eU.mono s r]
 |.dict _,_,h=>h
theorem eU.mono(s:aH H H'):∀{ds:!PyData}{vs:!V},eU K H ds vs->eU K H' ds vs
 |[],_,h=>h
 |_::_,_,⟨v,r,e,q,t⟩=>#[v,r,e,q.mono s,eU.mono s t]
end
theorem eU.length:∀{ds:!PyData}{vs:!V},eU K H ds vs->ge vs=ge ds
 |[],_,h=>by rw[h];rfl
 |_::_,_,⟨v,r,e,_,t⟩=>by rw[e,bG,bG,eU.length t]
theorem eU.get:∀{ds:!PyData}{vs:!V}{i:Nat}{d:PyData},eU K H ds vs->ds[i]?=ac d->∃v,vs[i]?=ac v/\Rep K H d v
 |[],_,_,_,_,e=>by simp at e
 |x::ds,_,0,d,⟨v,r,e,q,t⟩,h=>by
  subst e;let z:x=d:=h⁻¹
  subst z;erw[v,2,q]
 |_::ds,_,i+1,d,⟨v,r,e,q,t⟩,h=>by
  subst e;let#[y,b,a]:=eU.get (i:=i) (d:=d) t h⁻¹;exists y,by simpa using b,a
theorem pW:∀ns:!Int,eU K H (ns.map PyData.int) (ns.map fw)
 |[]=>rfl
 |n::ns=>#[.int n,12,pW ns]
theorem CS:∀{ns:!Int}{vs:!V},eU K H (ns.map PyData.int) vs->vs=ns.map fw
 |[],_,h=>h
 |n::ns,_,⟨v,r,e,q,t⟩=>by
  let q':v=.int n:=q;rw[e,q',CS t];rfl
def Rep.ints{ns:!Int}(h:bJ K H a (ns.map fw)):Rep K H (.list (ns.map .int)) (.ref a):=#[a,1,h,pW ns]
def Rep.Pq{ns:!Int}(h:dH K H a (ns.map fw)):Rep K H (.tuple (ns.map .int)) (.ref a):=#[a,1,h,pW ns]
theorem Rep.CU{ns:!Int}(h:Rep K H (.tuple (ns.map .int)) v):∃a,v=.ref a/\dH K H a (ns.map fw):=by let#[a,b,e,q,r]:=h;rw[CS r] at q;erw[a,e,q]
end
section
variable{X:Cx}{pins:!(du×Obj)}{σ:St}{H:Hp}{s:dA}
mutual
theorem Rep.reads(I:Inv X pins σ H s):∀{d:PyData}{v:V}{u:dy},Rep X.K H d v->RelV v u->∃k,Reads s.heap u d k
 |.none,_,_,h,r=>by ext h;ext r;erw[_,.none]
 |.bool b,_,_,h,r=>by ext h;ext r;erw[_,.bool b]
 |.int i,_,_,h,r=>by ext h;let#[t,rfl]:=r;erw[_,.int i t]
 |.str x,_,_,h,r=>by ext h;let#[t,rfl]:=r;erw[_,.str x t]
 |.list p,_,_,⟨a,w,e,q,t⟩,r=>by
  subst e;ext r;let#[l,j,#[o,n,c,m,y,g],_]:=I.list q;let#[k,f]:=eU.reads I t j;erw[_,.list c m g f⁻¹]
 |.tuple p,_,_,⟨a,w,e,q,t⟩,r=>by
  subst e;ext r;let#[l,j,#[o,c,m,n,g],_]:=I.tuple q;let#[k,f]:=eU.reads I t j;erw[_,.tuple c m g f⁻¹]
 |.dict _,_,_,h,_=>h.elim
theorem eU.reads(I:Inv X pins σ H s):∀{ds:!PyData}{vs:!V}{us:!dy},eU X.K H ds vs->cO vs us->∃a,ReadsAll s.heap us ds a
 |[],_,_,h,r=>by ext h;ext r;erw[_,.nil]
 |_::_,_,_,⟨v,g,e,q,t⟩,r=>by
  subst e;cases r with
  |cons c f=>
   let#[a,d]:=q.reads I c;let#[i,b]:=eU.reads I t f;erw[_,.cons d b]
end
end
section
variable{X:Cx}
def Go(K:ah)(u:Nat):R2:=λx y H Q=>∃da db,Rep K H da x/\Rep K H db y/\da.canLay0=df/\db.canLay0=df/\u+min da.depth db.depth<cLine/\Q (.bl (PyData.eqv da db)) H
def FX(K:ah)(u:Nat):R2:=λx y H Q=>∃da db,Rep K H da x/\Rep K H db y/\da.canLay0=df/\db.canLay0=df/\u+min da.depth db.depth<cLine/\Q (.bl ((PyData.eqv da db).not)) H
theorem yM:AN X (fa .Eq) (Go X.K X.A.units):=by intro a s k H x y v u Q I i g ⟨l,o,h,f,b,c,d,q⟩;let#[m,e]:=h.reads I i;let#[n,j]:=f.reads I g;erw[SeqAt.compareEq_reads e j b c d #[.bl _,H,I,2,q]]
theorem K8:AN X (fa .NotEq) (FX X.K X.A.units):=by intro a s k H x y v u Q I i g ⟨l,o,h,f,b,c,d,q⟩;let#[m,e]:=h.reads I i;let#[n,j]:=f.reads I g;erw[SeqAt.compareNe_reads e j b c d #[.bl _,H,I,2,q]]
theorem Pr(v:X.calm=df):pU X (.type "set") (λxs H Q=>∃(a:du)(ns:!Int),xs=[.ref a]/\bJ X.K H a (ns.map fw)/\ge ns+1<scanBound /\∀p,H p=de->Q (.ref p) (upd H p (.set (λd=>(firstMet (λi=>ns.getD i 0) (ge ns)).any (·==d)) (ge (firstMet (λi=>ns.getD i 0) (ge ns)))))):=by intro k s w H xs A Q I r ⟨a,ns,e,l,n,q⟩;subst e;let#[u,e,m]:=cO.one r;subst e;ext m;let#[f,g,p,y]:=I.list l;let h:=g.length;rw[af] at h;let c:f.toArray.size=ge ns:=(by simp[h]);erw[call_set_list (I.ok.hd v) p.isList (ns:=ns) (by simpa using intsAre_of g) (by rw[c];erw[n]) λx z j t=>?_];rw[c] at j;erw[.ref s.heap.objs.size,_,I.laid (o:=.set (λd=>(firstMet (λi=>ns.getD i 0) (ge ns)).any (·==d)) (ge (firstMet (λi=>ns.getD i 0) (ge ns)))) (λb o e=>t b o (eA e) e) (aA _) j,2,q _ (I.hok.fresh (aA _))]
theorem Pu:pU X (.builtin "len") (λxs H Q=>∃(a:du)(S:Int->Bool)(n:Nat),xs=[.ref a]/\H a=ac (.set S n)/\Q (.int n) H):=by intro b s m H xs y Q I r ⟨a,S,n,e,f,q⟩;subst e;let#[u,e,g]:=cO.one r;subst e;ext g;let#[o,k,x,t,d,j,l,v,p,c,h,i]:=(show s.heap.SetOf (intKind X.prog X.w) a S n from I.hok a _ f);subst i;erw[call_len_set d j l h ?_ #[.int _,H,I.tok _,#[1],q]];let:k.size<2^62:=b9 c (!_);lia
theorem Pw(C:X.calm=df):pU X (.builtin "min") (λxs H Q=>∃(a:du)(ns:!Int),xs=[.ref a]/\bJ X.K H a (ns.map fw)/\0<ge ns/\∀m,m∈ns->(∀n∈ns,m<=n)->Q (.int m) H):=by intro k s D H xs L Q I r ⟨a,ns,e,w,c,q⟩;subst e;let#[u,e,x]:=cO.one r;subst e;ext x;let#[d,z,p,F]:=I.list w;let l:IntsAre d ns:=intsAre_of z;let g:=p.isList;let#[xs,e]:=l.allInts.items;let b:ns=xs.toList.map (·.1):=(by rw[<- l.numsOf,<- nums_intItems,<- e]);let f:0<xs.size:=(by let i:=c;rw[b,af,eK] at i;erw[i]);rw[e] at g;erw[min_intList (I.ok.hd C) g f λv E J B y=>?_];let#[t,rfl]:=intItems_at B;let#[G,o]:=argBest_lt (numAt xs) (xs.size-1);erw[.int _,H,I.kept y,#[t,2],q _ ?_ λa h=>?_];rw[b,numAt_eq];erw[getD_mem (by rw[af,eK];lia)];rw[b] at h;let#[j,A,rfl]:=mem_getD h;rw[af,eK] at A;rw[<- numAt_eq];erw[o j ∅]
end
noncomputable def D8(scope dsc:Scope)(N0 N2:!Str)(cap:!(Option Nat)):Bool:=
 (scope.kind==.function)&&(scope.names.all λy=>y.2 != .cell)&&(scope.names.all λy=>y.2 != .local || scope.names.lookup y.1==ac .local) &&
 (scope.names.all λy=>y.2 != .free || dsc.names.lookup y.1==ac .cell)&&(scope.names.all λy=>y.2 != .free || scope.names.lookup y.1==ac .free)&&decide N2.Nodup&&(ge cap==ge N2) &&
 ((av (ge cap)).all λi=>match cap[i]?,N2[i]? with
   |some (ac j),ac x=>N0[j]?==ac x&&scope.names.any (λy=>y.1==x&&y.2==.free)
   |_,_=>df)
theorem Px{X:Cx}{b:Scope}{m:!Str}(v:X.env.scope=b)(s:X.N=m)(h:D8 scope b m N2 cap=df):ku X scope N2 cap:=by delta D8 at h;simp only[dh] at h;obtain⟨⟨⟨⟨⟨⟨⟨r,c⟩,k⟩,g⟩,f⟩,o⟩,n⟩,l⟩:=h;rw[jl] at c k g f l;exists by simpa using r,λy a e=>?_,λy a e=>?_,λy a e=>?_,λy a e=>?_,g4 o,by simpa using n,λi j x d t=>?_;let:=c y a;rw[e] at this;erw[ff this (!_)];let:=k y a;rw[e] at this;simpa using this;let:=g y a;rw[e] at this;show X.env.scope.names.lookup y.1=ac .cell;rw[v];simpa using this;let:=f y a;rw[e] at this;simpa using this;let w:i<ge cap:=(ai.mp d).1;let q:=l i (bO.mpr w);rw[d,t] at q;simp only[dh] at q;exists by rw[s];simpa using q.1,4;let#[y,a,z]:=k7.mp q.2;simp only[dh] at z;let u:y.1=x:=(by simpa using z.1);let p:y.2=.free:=(by simpa using z.2);rw[<- u,<- p];erw[a]
def CW(H1:Hp)(acc:du)(n:Nat)(P:Nat->!V->Hp->Prop):Nat->Nat->Hp->Prop:=
 λi m H=>m=n-i/\i<=n/\aH H1 H/\∃ys,H acc=ac (.lst ys)/\P i ys H
theorem fK{J:It}{n:Nat}{q:!(Option Nat)}{g:TG}{A:TT}{z:TE}{v:St}{B:Hp->Prop}{f:Hp}{a:du}(P:Nat->!V->Hp->Prop)(o:f a=de)(go:∀i H,i<n->aH f H->J.go i H)(stop:∀H,aH f H->J.stop n H)(C:P 0 [] (upd f a (.lst [])))(step:∀i h H,i<n->aH f H->H a=ac (.lst h)->P i h H->∀x r,J.NK i H x r->g x (lI q v) r λc t=>A c t λb k=>if b=df then z c k λy l=>∃xs,l a=ac (.lst xs)/\ge xs<eD /\∃d,d<n-i/\CW f a n P (i+1) d (upd l a (.lst (xs++[y]))) else ∃d,d<n-i/\CW f a n P (i+1) d k)(u:∀h H,aH f H->H a=ac (.lst h)->P n h H->B H) :∃W:Nat->Nat->Hp->Prop,(∃m,W 0 m (upd f a (.lst [])))/\∀i m H,W i m H ->(J.stop i H/\B H)\/(J.go i H/\∀x r,J.NK i H x r->g x (lI q v) r λc t=>A c t λb k=>if b=df then z c k λy l=>∃xs,l a=ac (.lst xs)/\ge xs<eD /\∃d,d<m/\W (i+1) d (upd l a (.lst (xs++[y]))) else ∃d,d<m/\W (i+1) d k):=by erw[CW f a n P,#[n,2,bL _,aH.new o,[],ay,C],4];intro i m H ⟨rfl,D,s,h,w,p⟩;by_cases j:i<n;erw[.inr #[go i H j s,step i h H j s w p]];·let e:i=n:=∅;subst e;erw[.inl #[stop H s,u h H s w p]]
def dS{e c:Hp}{a:du}{n i:Nat}{P:Nat->!V->Hp->Prop}{b:!V}{y:V}(d:e a=de)(h:i<n)(s:aH e c)(g:c a=ac (.lst b))(hl:ge b<eD)(p:P (i+1) (b++[y]) (upd c a (.lst (b++[y])))) :∃xs,c a=ac (.lst xs)/\ge xs<eD/\∃f,f<n-i/\CW e a n P (i+1) f (upd c a (.lst (xs++[y]))) :=#[b,g,hl,n-(i+1),52,h,s.out d,_,ay,p]
def gU{n i:Nat}{P:Nat->!V->Hp->Prop}(c:i<n)(s:aH H1 H3)(b:H3 acc=ac (.lst ys))(p:P (i+1) ys H3):∃a,a<n-i/\CW H1 acc n P (i+1) a H3 :=#[n-(i+1),52,c,s,_,b,p]
theorem jC{K:ah}(h:bJ K H1 a xs):∀i H,i<ge xs->aH H1 H->(QA K a).go i H:=λi H b s=>#[xs,xs[i],s.seq h,by simp[b]]
def fQ{K:ah}(h:bJ K H1 a xs):∀H,aH H1 H->(QA K a).stop (ge xs) H:=λH s=>#[xs,s.seq h,aA _]
theorem ahR{K:ah}(h:bJ K H1 a xs):∀i H,i<ge xs->aH H1 H->(m1 K a).go i H:=λi H b s=>#[xs,xs[i],s.seq h,by simp[b]]
def abo{K:ah}(h:bJ K H1 a xs):∀H,aH H1 H->(m1 K a).stop (ge xs) H:=λH s=>#[xs,s.seq h,aA _]
def wB{lo:Int}:∀i H,i<n->aH H1 H->(nj lo n).go i H:=λi H a s=>a
def mU{lo:Int}:∀H,aH H1 H->(nj lo n).stop n H:=λH s=>aA n
noncomputable def js(H:Hp)(l:du):Hp:=λb=>if b=l then de else H b
theorem ZB{a:Type}{xs:!a}{i:Int}{v:a}(b:0<=i)(h:xs[i.toNat]?=ac v):xW xs i=ac v:=by let#[k,rfl]:=nZ b;erw[cH h⁻¹]
theorem SY{ns:!Int}{i:Int}(b:0<=i)(h:i<ge ns):xW (ns.map fw) i=ac (.int (ns.getD i.toNat 0)):=by let a:i.toNat<ge ns:=∅;erw[ZB b ?_];rw[ao,ak,aa a];rfl
section
variable{X:Cx}
theorem abp(K:ah)(h:X.K=K):ZR X (VI K):=by subst h;erw[Xh]
theorem aek(K:ah)(h:X.K=K):ZR X (Zc K):=by subst h;erw[AT]
theorem Xp(K:ah)(h:X.K=K):mI X (uj K):=by subst h;erw[QG]
theorem Ft(K:ah)(h:X.K=K):AN X (fa .In) (lw K dr):=by subst h;erw[pV]
theorem Kw(K:ah)(h:X.K=K)(b:PE X e ta)(a:attributeBase e f X.env (eval e X.env)=eval e X.env):PE X (.Attribute e f pos) (K4 K ta f):=by subst h;erw[bF b a]
theorem ael(K:ah)(h:X.K=K){a:!Expr}{k:Nat}{c:Pos}{t:R1}{n:Nat}(d:X.calm=df)(h':j8 X a t)(e:ge (assignEach a X.env)=n:=by rfl)(b:(assignEach a X.env).findIdx? (·.1)=de:=by rfl):PG X (.Tuple a k c) (pu K n t):=by subst h;erw[Vt d h' e b]
noncomputable def iT:Expr->Bool
 |.Starred _ _=>dr
 |_=>df
theorem S2(h:iT e=df):eP (e::es) env=(dr,eval e env)::eP es env:=by ext e <;> first|rfl|(erw[Bool.noConfusion h])|simp[eP]
theorem xQ(a:PE X e te)(b:PA X es t)(hs:iT e=df:=by rfl):PA X (e::es) (mD te t):=aee a b (S2 hs)
theorem aem{bs:!Bool}(r:cO (bs.map fI) us){i:Nat}(h:us[i]?=ac v):v=.bool (bs.getD i df):=by let c:=r.length;rw[af] at c;let d:i<ge us:=(ai.mp h).1;let e:(bs.map fI)[i]?=ac (.bl (bs.getD i df)):=(by rw[ao,aa ∅,ak,aa ∅];rfl);let#[u,a,b]:=r.get e;rw[h] at a;ext a;erw[b]
theorem i1(bs:!Bool):((av (ge bs)).all λi=>bs.getD i df)=bs.all id:=by rw[qj,jl,jl];constructor;intro h x b;let#[i,a,e]:=gK b;let:=h i (bO.mpr a);rw[ak,aa a,e] at this;erw[this];intro h i a;let a:=bO.mp a;let:=h bs[i] (aB a);rw[ak,aa a];erw[this]
theorem S3(t:X.calm=df):pU X (.builtin "all") (λxs H Q=>∃(a:du)(bs:!Bool),xs=[.ref a]/\bJ X.K H a (bs.map fI)/\Q (.bl (bs.all id)) H):=by intro h s y H xs D Q I r ⟨a,bs,e,j,q⟩;subst e;let#[u,e,k]:=cO.one r;subst e;ext k;let#[c,f,p,C]:=I.list j;let g:=f.length;rw[af] at g;erw[call_all_walk (wpAny_pyIter_list p.isList ?_)];let d:a<s.heap.objs.size:=(by let#[o,n,e,_]:=p;erw[eA e]);erw[s.heap.objs.size,33333,λi=>bs.getD i df,2,Walks.list (A:=X.A.in1) (show X.A.in1.handled=de from I.ok.hd t) _ a (bV d) c.toArray,#[#[_,en _ rfl,22],p.isList.at λo e=>dL _ e],4,λB x l=>?_];intro i v s Q E m w;let e:=aem f (show c[i]?=ac v by simpa using m);subst e;erw[wpAny_truthy_bool w];let e:(av c.toArray.size).all (λi=>bs.getD i df)=bs.all id:=(by rw[show c.toArray.size=ge bs by simp[g]];erw[i1 bs]);rw[e];erw[.bl _,H,I.kept (t':=x) λb o e=>l b o (by intro z;let:b=s.heap.objs.size:=z⁻¹;erw[ff (eA e) (by rw[this];erw[gG _])]) (dL _ e),2,q]
end
end L2
namespace Gr
abbrev Ps:=!(Int×Int)
def k8(ps:Ps)(k:Nat)(x y:Int):Prop:=ps[k]?=ac (x,y)\/ps[k]?=ac (y,x)
theorem k8.symm(h:k8 ps k x y):k8 ps k y x:=Or.symm h
inductive Reach(ps:Ps):Int->Int->Prop where
 |refl (x:Int):Reach ps x x
 |step {x y z:Int} {k:Nat}:Reach ps x y->k8 ps k y z->Reach ps x z
theorem Reach.trans(a:Reach ps x y)(b:Reach ps y z):Reach ps x z:=by induction b with|refl=>erw[a]|step _ h c=>erw[.step c h]
def Reach.one(h:k8 ps k x y):Reach ps x y:=.step (.refl x) h
theorem Reach.symm(a:Reach ps x y):Reach ps y x:=by induction a with|refl=>erw[.refl _]|step _ h b=>erw[(Reach.one h.symm).trans b]
theorem Y2(h:k8 ps k x y):k<ge ps:=by obtain h|h:=h <;> erw[(ai.mp h).1]
theorem pX{c:Type}[DecidableEq c]:∀{xs B:!c},xs.Nodup->(∀x∈xs,x∈B)->ge xs<=ge B
 |[],_,_,_=>bL _
 |x::xs,B,a,hs=>by
  let d:=hs x aM;let f:∀y∈xs,y∈B.erase x:=λy b=>by
   let g:y≠x:=λe=>(dY.mp a).1 (e▸b);erw[(List.mem_erase_of_ne g).mpr (hs y (aO _ b))]
  let h:=pX (dY.mp a).2 f;let j:=List.length_erase_of_mem d;let i:0<ge B:=xU d;rw[bG];lia
theorem K9{c:Type}{xs:!c}{x:c}(h:xs.Nodup)(g:x∉xs):(xs++[x]).Nodup:=by rw[iP];erw[h,-_,λa d b f=>?_];let:b=x:=f⁻¹;rw[this];erw[λe=>g (e▸d)]
noncomputable def ends(ps:Ps):!Int:=ps.flatMap λp=>[p.1,p.2]
structure mV(ps:Ps)(one other:Int)(fs:!Nat)(hs:!Int):Prop where
 len:ge hs=ge fs+1
 fst:hs[0]?=ac one
 lst:hs[ge fs]?=ac other
 nd:hs.Nodup
 st:∀(i k:Nat)(x y:Int),fs[i]?=ac k->hs[i]?=ac x->hs[i+1]?=ac y->k8 ps k x y
structure InR(ps:Ps)(n:Nat):Prop where
 h:∀(k:Nat)(a b:Int),ps[k]?=ac (a,b)->0<=a/\a<n/\0<=b/\b<n/\a≠b
theorem InR.k8(r:InR ps n)(a:k8 ps k x y):0<=x/\x<n/\0<=y/\y<n/\x≠y:=by obtain a|a:=a;erw[r.h k x y a];let#[d,c,b,f,e]:=r.h k y x a;erw[b,f,d,c,cC e]
end Gr
namespace L2
open PySem Gr
noncomputable abbrev two(a b:Int):!V:=[.int a,.int b]
def zr(K:ah)(ta:TE):TT:=λσ H Q=>ta σ H λx H'=>∃k,ph K x H' k/\Q k H'
def HR(d:PE X a ta)(c:∀b,isTrue a X.env b=(do let v <- b;standAt a.pos;holding [v] (truthy v))):PT X a (zr X.K ta):=aa4 d c
theorem aen{c:TT}{j:TS}{D:ip}{a:St}{H:Hp}(f:Nat->St->Hp->Prop)(k:Nat)(n:f k a H)(hs:∀m a H,f m a H->c a H λb e=>if b=df then j {D with nx:=λd i=>∃g,g<m/\f g d i,ct:=λd i=>∃g,g<m/\f g d i,bk:=D.nx} a e else D.nx a e)(h:∀a H Q l,(∀b e,Q b e->l b e)->c a H Q->c a H l):Db c j D a H:=by erw[f,#[k,n],λm a H p=>h a H _ _ (λb e q=>?_) (hs m a H p)];cases b with|true=>erw[_,λd i z=>z,q]|false=>erw[q]
end L2
namespace L2
open PySem PySem.Spec PyProof.Rows
section
variable{X:Cx}
theorem JB:pU X (.type "range") (λxs H Q=>∃j:Int,xs=[.int j]/\∀p,H p=de->Q (.ref p) (upd H p (.W7 0 j))):=by intro c s f H xs g Q I r ⟨j,e,q⟩;subst e;let#[u,e,d]:=cO.one r;subst e;let#[t,rfl]:=d;erw[call_range_1 #[.ref s.heap.objs.size,_,I.laid (a:=s.heap.objs.size) (o:=.W7 0 j) (λb o e=>dL _ e) (aA _) ?_,2,q _ (I.hok.fresh (aA _))]];erw[333,en _ rfl]
theorem VQ{a:Array dy}{n:Nat}(hl:a.size=n)(h:∀(i:Nat)(v:dy),a[i]?=ac v->∃t,v=Value.int (0+(i:Int)*1) t):cO ((av n).map λk=>fw (k:Nat)) a.toList:=by let c:∀(b:!dy)(m:Nat),(∀(i:Nat)(v:dy),b[i]?=ac v->∃t,v=Value.int ((m+i:Nat):Int) t)->cO ((List.range' m (ge b)).map λk=>fw (k:Nat)) b:=(by intro b;induction b with|nil=>intro m _;erw[.nil]|cons u b f=>intro m d;rw[bG,List.range'_succ,bz];erw[.cons (d 0 u rfl) (f (m+1) λi v e=>?_)];let#[t,q]:=d (i+1) v e⁻¹;exists t,by rw[q];congr 1;lia);let:=c a.toList 0 λi v e=>(by let#[t,q]:=h i v e⁻¹;exists t,by rw[q];congr 1;lia);rw[eK,hl,<- List.range_eq_range'] at this;erw[this]
theorem La(B:X.calm=df):pU X (.type "list") (λxs H Q=>∃(p:du)(j:Nat),xs=[.ref p]/\H p=ac (.W7 0 j)/\j<=1000/\∀l,H l=de->Q (.ref l) (upd H l (.lst ((av j).map λk=>.int (k:Nat))))):=by intro f s D H xs G Q I r ⟨p,j,e,g,z,q⟩;subst e;let#[u,e,m]:=cO.one r;subst e;ext m;let#[t,u,v,y]:=(show jL X.prog X.w H s.heap p (.W7 0 j) from I.hok p _ g);erw[call_list_range (I.ok.hd B) (n:=j) y (small_one ∅ ∅ ∅ ∅) (by rw[rangeSize_one];split <;> lia) ∅ λE F b h x i C=>?_];let#[d,c]:=C;let A:=VQ d c;erw[.ref s.heap.objs.size,_,I.laid (a:=s.heap.objs.size) (o:=.lst ((av j).map λk=>.int (k:Nat))) x (aA _) #[4,b.toList,h,A,by simpa using i],2,q _ (I.hok.fresh (aA _))];rw[af,aX];erw[gp (bP z)]
end
end L2
namespace Gr
theorem S4{ps:Ps}(h:k8 (ps.take m) k x y):k8 ps k x y/\k<m:=by let b:=Y2 h;let a:k<m:=(by let:=List.length_take_le m ps;lia);delta k8 at *;rw[jg a] at h;erw[h,a]
noncomputable def Cr(M:!Int)(x:Int):Int:=M.getD x.toNat 0
noncomputable def joinM(M:!Int)(a b:Int):!Int:=M.map λm=>if m=Cr M a then Cr M b else m
structure Ae(ps:Ps)(n:Nat)(M:!Int):Prop where
 len:ge M=n
 iff:∀x y:Int,0<=x->x<n->0<=y->y<n->(Cr M x=Cr M y↔Reach ps x y)
theorem abr{M:!Int}{x:Int}(f:0<=x)(d:x<ge M):Cr (joinM M a b) x=if Cr M x=Cr M a then Cr M b else Cr M x:=by let c:x.toNat<ge M:=∅;let e:Cr M x=M[x.toNat]:=(by delta Cr;rw[ak,aa c];rfl);rw[e];show (joinM M a b).getD x.toNat 0=_;delta joinM;rw[ak,ao,aa c];rfl
theorem Zm(h:Reach [] x y):x=y:=by cases h with|refl=>rfl|step _ a=>(obtain a|a:=a <;> simp at a)
theorem Ae.nil(n:Nat):Ae [] n ((av n).map λk=>((k:Nat):Int)):=by let e:∀x:Int,0<=x->x<n->Cr ((av n).map λk=>((k:Nat):Int)) x=x:=λx g f=>(by delta Cr;rw[ak,ao,dw ∅];show ((x.toNat:Nat):Int)=x;lia);erw[-_,λx y a c b d=>?_];rw[e x a c,e y b d];erw[λz=>z▸.refl _,Zm]
theorem Reach.Zn{ps:Ps}(h:Reach (ps.take k) x y):Reach (ps.take (k+1)) x y:=by induction h with|refl=>erw[.refl _]|@step y z j _ a b=>let#[c,d]:=S4 a;erw[.step (k:=j) b ?_];delta k8 at *;rw[jg ∅];erw[c]
theorem Ae.step{ps:Ps}{a b:Int}(A:Ae (ps.take k) n M)(R:InR ps n)(e:ps[k]?=ac (a,b)):Ae (ps.take (k+1)) n (joinM M a b):=by
 let#[q,s,t,E,_]:=R.h k a b e;let G:=A.len;let new:k8 (ps.take (k+1)) k a b:=(by delta k8;rw[jg (AH k)];erw[.inl e]);let I:∀{x y:Int},Reach (ps.take k) x y->Reach (ps.take (k+1)) x y:=λh=>h.Zn;let d:∀{x y:Int},0<=x->x<n->0<=y->y<n->Cr M x=Cr M y->Reach (ps.take (k+1)) x y:=λl g f i h=>I ((A.iff _ _ l g f i).mp h);let p:∀{x:Int},0<=x->x<n->Cr (joinM M a b) x=if Cr M x=Cr M a then Cr M b else Cr M x:=λF h1=>abr F ∅
 exists by delta joinM;rw[af];exact G,λx y l g f i=>#[λh=>?_,λr=>?_];rw[p l g,p f i] at h;by_cases o:Cr M x=Cr M a;by_cases m:Cr M y=Cr M a;erw[(d l g q s o).trans (d q s f i m.symm)];rw[eG o,eH m] at h;erw[(d l g q s o).trans ((Reach.one new).trans (d t E f i h))];by_cases m:Cr M y=Cr M a;rw[eH o,eG m] at h;erw[(d l g t E h).trans ((Reach.one new.symm).trans (d q s f i m.symm))];rw[eH o,eH m] at h;erw[d l g f i h];·let one:∀{j:Nat}{u v:Int},k8 (ps.take (k+1)) j u v->Cr (joinM M a b) u=Cr (joinM M a b) v:=λ{j u v}h=>(by let#[h1,K]:=S4 h;let#[w,B,D,C,_]:=R.k8 h1;rw[p w B,p D C];by_cases c:j<k;let J:k8 (ps.take k) j u v:=(by delta k8 at *;rw[jg c];erw[h1]);rw[(A.iff u v w B D C).mpr (Reach.one J)];·let:j=k:=∅;subst this;let z:(if Cr M b=Cr M a then Cr M b else Cr M b)=Cr M b:=(by split <;> rfl);obtain h1|h1:=h1;rw[e] at h1;ext h1;rw[eG rfl,z];rw[e] at h1;ext h1;rw[eG rfl,z]);clear l g f i;induction r with|refl=>rfl|step _ h H=>rw[H,one h]
end Gr
namespace L2
open PySem PySem.Spec PyProof.Rows
def wh(h:Heap)(e T:du)(cls fl:dy):Prop:=
 ∃oe vs oT ts,h.get? e=ac oe/\oe.cls=cls/\(oe.dict=de/\vs[2]?=ac Value.none)/\oe.data=.fields vs/\vs[1]?=ac (.ref T)/\T≠e/\h.get? T=ac oT/\oT.data=.fields ts/\ts[3]?=ac fl
structure Py(F R:!du)(h h':Heap):Prop where
 keep:∀b o,b∉F->b∉R->h.get? b=ac o->h'.get? b=ac o
 slot:∀b o,b∈F->b∉R->h.get? b=ac o->∃sl,h'.get? b=ac {o with slots:=sl}
def Py.mono{d:!du}(t:Py F R h h')(hs:∀b∈R,b∈d):Py F d h h' :=#[λb o c a e=>t.keep b o c (λz=>a (hs b z)) e,λb o c a e=>t.slot b o c (λz=>a (hs b z)) e]
theorem Py.trans(a:Py F R h h1)(b:Py F R h1 h2):Py F R h h2:=
 #[λc o f d e=>b.keep c o f d (a.keep c o f d e),λc o f d e=>by
  let#[k,i]:=a.slot c o f d e;let#[g,j]:=b.slot c _ f d i;erw[g,j]]
theorem Py.ak8:Py F [a] h (h.update a g) :=#[λb o _ c e=>(fb _ _ (λz=>c (by simp[z]))).trans e,λb o _ c e=>#[o.slots,(fb _ _ (λz=>c (by simp[z]))).trans e]]
theorem Zo:(Obj.mapFields f o).dict=o.dict:=by let#[c,d,a,b]:=o;ext a <;> rfl
section
variable{M:Model}{A:fv}{E:dy->dA->Prop}{s:dA}{base:Heap}{env:Env}{outer:!Env}{L e:du}
theorem Lb(hl:s.heap.FunFrames base (env::outer))(d:s.heap.get? e=ac oe)(f:oe.data=.fields vs):e∉im (env::outer):=λc=>by
 let#[_,o,b,a]:=hl.mem c;rw[d] at b;ext b;erw[a vs f]
theorem Pz{g:Obj}{vs:Array dy}{a:dy}{G:Bool}{Q:Unit->dA->Prop}(v:A.frames=ac (env::outer))(hl:s.heap.FunFrames base (env::outer))(B:env.frame=ac L)(x:s.heap.get? e=ac g)(c:g.dict=de/\vs[2]?=ac Value.none)(u:g.data=.fields vs)(hsz:1<vs.size)(h:∀h',wh h' e s.heap.objs.size g.cls (rawInt L)->Py (im (env::outer)) [e] s.heap h'->Q () {s with heap:=h'}) :fg M A (do let D <- frameOf env;let k <- entryPlaceOf L G;let y <- EntryCells.newEntry a D .none (rawInt L) .none k;setField (.ref e) 1 y) Q E s:=by
 let r:=Lb hl x u;erw[dC (wpAny_frameOf_fun v hl B λg1 F=>?_)];let#[n,j,t]:=F;erw[dC (wpAny_entryPlaceOf λk d=>?_)];delta EntryCells.newEntry newFields;erw[dC (wpAny_newObj_type ?_ (d.sizeOk5 _ _ _ _ _))];let m:g1.get? e=ac g:=(j e r).trans x;let i:g1.objs.size≠e:=Nat.ne_of_gt (eA m);erw[wpAny_setField (dL _ m) u hsz (h _ ?_ ?_)];·let f:=Obj.data_mapFields u (·.setIfInBounds 1 (Value.ref g1.objs.size));let qT:=(fb _ (Obj.mapFields (·.setIfInBounds 1 (Value.ref g1.objs.size))) (cC i)).trans (en g1 (o:={cls:=.type "traceback",dict:=de,data:=.fields ([a,.ref L,.none,rawInt L,.none]++(if k.isEmpty then bN 6 Value.none else k)).toArray}) rfl);rw[<- n];erw[3333,Heap.get?_update_self _ (dL _ m) (Obj.isFreed_of_fields f),Obj.cls_mapFields _ _,4,f,4,i,qT,24];rw[Zo];erw[c.1,by simp[c.2]];simp[hsz];·obtain rfl|⟨_,_,_,_,_,_,_,rfl⟩:=d <;> simp
 erw[λb o w l p=>?_,λb o w l p=>?_];rw[fb _ _ (λz=>l (by simp[z]))];erw[dL _ ((j b w).trans p)];let#[C,q]:=t b o p;erw[C,4];rw[fb _ _ (λz=>l (by simp[z]))];erw[dL _ q]
theorem VR{a:Obj}{vs:Array dy}{Q:Unit->dA->Prop}(c:A.frames=ac (env::outer))(hl:s.heap.FunFrames base (env::outer))(g:env.frame=ac L)(d:s.heap.get? e=ac a)(b:a.dict=de/\vs[2]?=ac Value.none)(i:a.data=.fields vs)(f:vs[1]?=ac .none)(h:∀h',wh h' e s.heap.objs.size a.cls (rawInt L)->Py (im (env::outer)) [e] s.heap h'->Q () {s with heap:=h'}):fg M A (noteFrame (.ref e) env) Q E s:=by delta noteFrame;simp only[g];erw[dC (wpAny_field d i f ?_)];rw[eH (!_)];erw[Pz c hl g d b i (rC.mp f).1 h]
theorem Zp{T:du}{cls:dy}{Q:Unit->dA->Prop}(k:A.frames=ac (env::outer))(hl:s.heap.FunFrames base (env::outer))(l:env.frame=ac L)(w:wh s.heap e T cls .none)(h:∀h',wh h' e s.heap.objs.size cls (rawInt L)->Py (im (env::outer)) [e,T] s.heap h'->Q () {s with heap:=h'}):fg M A (noteFrame (.ref e) env) Q E s:=by let#[y,D,F,x,m,B,g,p,n,r,f,c,q]:=w;subst B;delta noteFrame;simp only[l];erw[dC (wpAny_field m p n ?_)];rw[eG (-_)];erw[dC (wpAny_field f c q ?_)];rw[eH (by simp[rawInt])];erw[dC (wpAny_setField f c (rC.mp q).1 ?_)];let v:=Lb (e:=T) hl f c;let j:(s.heap.update T (Obj.mapFields (·.setIfInBounds 3 Value.none))).objs.size=s.heap.objs.size:=Heap.size_after_update ..;let a:∀b,b≠T->(s.heap.update T (Obj.mapFields (·.setIfInBounds 3 Value.none))).get? b=s.heap.get? b:=λb d=>fb _ _ (cC d);erw[Pz (s:={s with heap:=s.heap.update T (Obj.mapFields (·.setIfInBounds 3 Value.none))}) (base:=base) k (hl.of_keeps λb o d i=>#[o,(a b λz=>?_).trans d,2]) l ((a e (cC r)).trans m) g p (rC.mp n).1 λh' u C=>?_];rw[z,f] at d;ext d;erw[i x c];let t:wh h' e s.heap.objs.size y.cls (rawInt L):=j▸u;erw[h h' t ((Py.ak8.mono (-_)).trans (C.mono (-_)))]
theorem JC{T:du}{cls n:dy}{Q:Unit->dA->Prop}(f:wh s.heap e T cls n)(h:∀h',wh h' e T cls .none->(∀F,Py F [T] s.heap h')->h'.objs.size=s.heap.objs.size->Q () {s with heap:=h'}) :fg M A (setFlight (.ref e) de) Q E s:=by let#[p,m,t,o,j,q,d,l,k,g,i,c,r]:=f;let a:3<o.size:=(rC.mp r).1;delta setFlight;erw[dC (wpAny_field j l k ?_)];rw[eG (-_)];erw[wpAny_setField i c a (h _ ?_ (λF=>Py.ak8) (Heap.size_after_update ..))];let b:=Obj.data_mapFields c (·.setIfInBounds 3 ((de:Option du).elim Value.none λf=>rawInt f));exists p,m,33,(fb _ _ g).trans j,q,d,l,k,g,Heap.get?_update_self _ i (Obj.isFreed_of_fields b),b,by simp[a]
end
theorem jL.there{P:ft}{w:World}{H:Hp}{h:Heap}{a:du}:∀{o:HO},jL P w H h a o->∃ob,h.get? a=ac ob:=by
 intro o e;cases o
 ·let#[_,_,_,_,e]:=e;exact #[_,e]
 ·let#[_,_,_,o,e,_]:=e;exact #[o,e]
 ·let#[_,_,_,_,o,_,_,e,_]:=e;exact #[o,e]
 ·let#[_,_,_,_,o,_,_,e,_]:=e;exact #[o,e]
 ·let#[o,_,_,_,e,_]:=e;exact #[o,e]
 ·let#[_,_,_,e,_]:=e;exact #[_,e]
 ·exact e
 ·let#[_,n,_]:=e;let#[o,e,_]:=Pb n;exact #[o,e]
 ·exact #[_,e]
 ·let#[_,_,_,e]:=e;exact #[_,e]
 ·rename_i o _;let#[e,_]:=e;exact #[o,e]
 ·exact #[_,e]
 ·let#[_,e,_]:=e;exact e
theorem CK.trn(ok:CK P w H h)(t:Py F R h h')(c:∀b∈F,H b=de)(d:∀b∈R,H b=de):CK P w H h':=λa o e=>
 (ok a o e).stay (λb u hb q=>t.keep b u (λz=>by
  let:=c b z
  obtain rfl|hb:=hb
  ·rw[e] at this;ext this
  ·rw[hb] at this;ext this) (λz=>by
  let:=d b z
  obtain rfl|hb:=hb
  ·rw[e] at this;ext this
  ·rw[hb] at this;ext this) q) (λ_ q=>q) λ_ _ q=>q
def j2(X:Cx)(pins:!(du×Obj))(H:Hp)(b:du):Prop:=
 H b=de/\b≠X.env.locals/\b∉X.fs/\X.s₀.heap.get? b=de/\(∀x c,X.env.cells.lookup x=ac c->c≠b)/\∀p∈X.pn++pins,p.1≠b
section
variable{X:Cx}{pins:!(du×Obj)}{σ:St}{H H':Hp}{s:dA}{h':Heap}
theorem Inv.aep(I:Inv X pins σ H s)(f:X.ex=[])(h:H' b=de)(d:s.heap.get? b=de):j2 X pins H' b:=by
 erw[h,λz=>?_,λz=>?_,4,λx c e z=>?_,λp g z=>?_];let#[m,#[o,_,_,a,_],_]:=I.loc;rw[<- z,d] at a;ext a;let#[_,o,a,_]:=I.Gq.mem z;rw[d] at a;ext a;cases q:X.s₀.heap.get? b with|none=>rfl|some o=>let#[i,e]:=I.base.there b o q (by rw[f];simp);rw[d] at e;ext e
 let#[v,o,a,_]:=I.cell x c e;rw[z,d] at a;ext a;let:=(I.pin p g).1;rw[z,d] at this;ext this
theorem Inv.S8(I:Inv X pins σ H s)(a:X.ex=[]):j2 X pins H s.heap.objs.size:=by erw[I.aep a (I.hok.fresh (aA _)) ?_];cases q:s.heap.get? s.heap.objs.size with|none=>rfl|some o=>erw[ff (eA q) (gG _)]
theorem Inv.trn{R:!du}{t':Nat}(I:Inv X pins σ H s)(C:∀b∈R,j2 X pins H b)(t:Py (im X.stack) R s.heap h'):Inv X pins σ H {s with heap:=h',toks:=t'}:=by
 let G:∀b∈im X.stack,H b=de:=λb a=>I.Qv b a;let g:∀b o,b∉R->s.heap.get? b=ac o->∃A,h'.get? b=ac {o with slots:=A}:=λb o D e=>(by by_cases a:b∈im X.stack;erw[t.slot b o a D e];erw[o.slots,t.keep b o a D e]);let j:∀b o,b≠X.env.locals->b∉X.fs->b∉R->s.heap.get? b=ac o->h'.get? b=ac o:=λb o S a D e=>
  t.keep b o (λz=>(aT.mp (I.HH b z)).elim S a) D e
 let E:∀b o,X.s₀.heap.get? b=ac o->b≠X.env.locals:=λb o e=>bV (b9 (eA e) I.ok.above);let h:∀b o,X.s₀.heap.get? b=ac o->b∉R:=λb o e z=>(by rw[(C b z).2.2.2.1] at e;ext e);let f:∀x c,X.env.cells.lookup x=ac c->∀v,s.heap.IsCell c v->h'.IsCell c v:=λx c e v ⟨o,J,Q⟩=>(by let#[A,q]:=g c o (λz=>(C c z).2.2.2.2.1 x c e rfl) J;erw[_,q,Q]);erw[I.ok,I.os,I.bare,#[λb o e n a y=>?_,λb o e n a y=>?_,I.base.free,λb o e y=>?_,I.base.tups,I.base.Gp,I.base.HG],4,λx c e=>?_,I.free,I.z9,λp K=>?_,I.hok.trn t G (λb a=>(C b a).1),I.len];erw[j b o (E b o e) a (h b o e) (I.base.keep b o e n a y)];let#[A,w]:=I.base.slot b o e n a y;let#[F,B]:=g b _ (h b o e) w;erw[F,B];let#[U,w]:=I.base.there b o e y;let#[A,B]:=g b _ (h b o e) w;erw[_,B];let#[m,#[o,O,T,J,r],N]:=I.loc;let#[A,q]:=g _ o (λz=>(C _ z).2.1 rfl) J;erw[m,#[_,O,T,q,r],λi x v w B P=>?_];let#[u,M,l]:=N i x v w B P;erw[u,M,4];obtain l|⟨k,c,e,z⟩:=l;erw[.inl l];erw[.inr #[k,c,e,f x c e _ z]];let#[v,z]:=I.cell x c e;erw[v,f x c e v z];let#[e,n,L,nf,d]:=I.pin p K;erw[j p.1 p.2 L nf (λz=>(C p.1 z).2.2.2.2.2 p K rfl) e,n,L,nf,d]
end
def XP(X:Cx)(pins:!(du×Obj))(σ:St)(E:XK)(e:dy)(s':dA):Prop:=
 ∃ea T cls H',e=.ref ea/\Inv X pins σ H' s'/\wh s'.heap ea T cls .none/\j2 X pins H' ea/\j2 X pins H' T/\E cls de H'
def HD(P:ft)(w:World):Za:=λouter H s E e s'=>
 ∃ea T cls H',e=.ref ea/\s'.os=s.os/\AllBare s'.gens/\Un (im outer) [] H H' s.heap s'.heap/\CK P w H' s'.heap/\wh s'.heap ea T cls .none/\s.heap.get? ea=de/\s.heap.get? T=de/\H' ea=de/\H' T=de/\E cls de H'
theorem On{H:Hp}(I:Inv X pins σ H s)(c:X.ex=[])(h:HD X.prog X.w X.stack H s E e s'):XP X pins σ E e s':=by let#[j,T,d,o,k,os,a,n,f,m,p,i,l,g,q]:=h;erw[j,T,d,o,k,I.af3 (ch:=[]) os n f a (λb z=>ff z (-_)),m,I.aep c l p,I.aep c g i,q]
theorem zn{H:Hp}{R:!du}(I:Inv X pins σ H s)(a:X.ex=[])(c:∀b∈R,j2 X pins H b)(t:Py (im X.stack) R s.heap h'):Un X.fs [] X.H₀ H X.s₀.heap h':=by let:=(I.trn (t':=s.toks) c t).base;rw[a] at this;erw[this]
section
variable{P:ft}{w:World}{K:ah}{mg:Str->Option dy}{base:Heap}{N:!Str}{qual:Str}{scope:Scope}{f:du}{cd:dy}{A:fv}{outer:!Env}{s0:dA}{H0:Hp}{E:XK}
theorem NM(h:XP (rH (HD P w) P w K mg base N qual scope f cd A outer s0 H0 E) pins σ E e s):(rH (HD P w) P w K mg base N qual scope f cd A outer s0 H0 E).xe e s:=by let#[c,T,d,k,rfl,I,t,g,u,q]:=h;show fg _ _ (leaving _ (.ref c)) _ _ s;delta leaving;erw[dC (Zp (base:=base) I.ok.frames I.stack rfl t λv r o=>?_)];erw[JC r λn p m x=>?_];let i:=I.S8 rfl;let l:∀b∈[c,T,s.heap.objs.size],j2 (rH (HD P w) P w K mg base N qual scope f cd A outer s0 H0 E) pins k b:=(by intro b j;simp only[aT,AK,or_false] at j;obtain z|z|z:=j;rw[z];erw[g];rw[z];erw[u];rw[z];erw[i]);let a:Py (im (rH (HD P w) P w K mg base N qual scope f cd A outer s0 H0 E).stack) [c,T,s.heap.objs.size] s.heap n:=(o.mono (-_)).trans ((m _).mono (-_));let J:=I.trn (t':=s.toks) l a;erw[c,_,d,k,2,I.os,I.bare,zn I rfl l a,J.hok,p,g.2.2.2.1,i.2.2.2.1,g.1,i.1,q]
def Xq:wA (HD P w) (rH (HD P w) P w K mg base N qual scope f cd A outer s0 H0 E) E:=λa b H s e c I h=>NM (On I rfl h)
theorem Vn.okX{x qual:Str}{st:Stmt}{f:du}{g:FuncData}{N ps:!Str}{k:Nat}{sp:Sp}(F:Vn K x qual st f g)(S:aQ N ps (aC st))(d:∀vs H Q E,sp vs H Q E->ge vs=ge ps)(b:∀(a:dy)(A:fv)(outer:!Env)(s:dA)(H:Hp)(vs:!V)(Q:VK)(E:XK),mK k (A.deeper (envOfC qual (aC st) s.heap.objs.size f a))->sp vs H Q E ->∃t,iR (rH (HD P w) P w K mg base N qual (aC st) f a A outer s H E) (g7 st) t/\t {nx:=λ_ l=>Q .gw l,rt:=Q} (start N vs) H):ou P w K mg base (HD P w) (k+1) f g ps sp:=by let#[m,n,kV,i,p,o,a,q,j,rfl,lk,c]:=F.ex;erw[rx lk c S d λA outer s H vs Q E h e=>b a A outer s H vs Q E h e]
end
theorem S9:wA (HD P w) X E0:=λ_ _ _ _ _ _ _ h=>by
 let#[_,_,_,_,_,_,_,_,_,_,_,_,_,_,q]:=h;erw[q.elim]
abbrev NE:!dy:=[.type "ValueError",.type "Exception",.type "BaseException",.type "object"]
structure kn(K:ah)(C:du):Prop where
 ex:PySem.W.excIn K C NE "ValueError.__new__" = df
 ga:aV K (.ref C) "__getattribute__" = ac (ac (.builtin "BaseException.__getattribute__"))
 gb:aV K (.ref C) "__getattr__" = ac de
 hd:yI K C=df
 ca:aV K (.ref C) "__class__" = ac (ac (.builtin "object.__class__"))
 cg:PySem.W.specialIn K (.builtin "object.__class__") "__get__" = ac (ac (.builtin "getset_descriptor.__get__"))
 ct:PySem.W.takesIn K (.builtin "object.__class__")=ac df
 mo:PySem.W.mroIn K C (.type "object")=ac df
 mb:PySem.W.mroIn K C (.type "BaseException")=ac df
theorem aeq{K:ah}{h:Heap}{C:du}{a:!dy}{i:String}(X:K.In h)(q:PySem.W.excIn K C a i=df) :∃bm N nm d bs e sn c ab col dd k0 k1 k2 k3 k5 g,h.get? C=ac (excClassObj nm d C N bs bm e sn c ab col dd k0 k1 k2 k3 k5 i)/\h.Ns N g/\g "__init__" = de/\OwnTail h a bm/\bm.contains (.type "BaseException")=a.contains (.type "BaseException"):=by delta PySem.W.excIn at q;split at q;rename_i dd u j v;let#[nm,bs,w,m,d,e,sn,c,ab,col,r]:=u;let#[j]:=j;split at q;rename_i D bm k0 k1 k2 k3 n k5 o k;simp only[dh,beq_iff_eq,iQ] at q;obtain⟨⟨⟨⟨⟨p,t⟩,l⟩,s⟩,b⟩,f⟩:=q;dsimp only at o k l b f;subst p t o k l;let T:=PySem.W.tail_of_in X s;erw[bm,m,nm,d,bs,e,sn,c,ab,col,dd,k0,k1,k2,k3,k5,h.nsMap m,X _ _ v,.of_isNs (PySem.W.isNs_of_in X b),PySem.W.nsMap_none_of_in X b f,T,T.hasType rfl];ext q;ext q
section
variable{P:ft}{w:World}{K:ah}{mg:Str->Option dy}{base:Heap}{N:!Str}{qual:Str}{scope:Scope}{f:du}{cd:dy}{A:fv}{outer:!Env}{s0:dA}{H0:Hp}{E:XK}
theorem ke{a:!(du×Obj)}{j:St}{H:Hp}{s:dA}{h':Heap}{e C:du}{vs:!dy}(I:Inv (rH (HD P w) P w K mg base N qual scope f cd A outer s0 H0 E) a j H s)(hm:Heap.MadeExcOf s.heap h' e (.ref C) vs)(q:E (.ref C) de H):(rH (HD P w) P w K mg base N qual scope f cd A outer s0 H0 E).xe (.ref e) {s with heap:=h'}:=by let g:H e=de:=(by cases z:H e with|none=>rfl|some o=>let#[ob,k]:=(I.hok e o z).there;rw[hm.new] at k;ext k);let h:=I.aep rfl g hm.new;let d:Inv (rH (HD P w) P w K mg base N qual scope f cd A outer s0 H0 E) a j H {s with heap:=h'}:=I.kept (t':=s.toks) hm.keeps;let#[t,x,_,_]:=hm.there;show fg _ _ (leaving _ (.ref e)) _ _ _;delta leaving;erw[dC (VR (base:=base) d.ok.frames d.stack rfl x #[22] rfl rfl λy v r=>?_)];erw[JC v λp u n B=>?_];let i:=d.S8 rfl;let m:∀b∈[e,h'.objs.size],j2 (rH (HD P w) P w K mg base N qual scope f cd A outer s0 H0 E) a H b:=(by intro b l;simp only[aT,AK,or_false] at l;obtain z|z:=l;rw[z];erw[h];rw[z];erw[i]);let c:Py (im (rH (HD P w) P w K mg base N qual scope f cd A outer s0 H0 E).stack) [e,h'.objs.size] h' p:=(r.mono (-_)).trans ((n _).mono (-_));let J:=d.trn (t':=s.toks) m c;erw[e,_,.ref C,H,2,I.os,I.bare,zn d rfl m c,J.hok,u,h.2.2.2.1,i.2.2.2.1,h.1,i.1,q]
theorem GB{x:Str}{C:du}{a:Expr}{L b l:Pos}{n:TE}(z:Gl (rH (HD P w) P w K mg base N qual scope f cd A outer s0 H0 E) x)(S:mg x=ac (.ref C))(u:kn K C)(p:A.handled=de)(R:PE (rH (HD P w) P w K mg base N qual scope f cd A outer s0 H0 E) a n)(j:(x==("__debug__" : Str))=dr:=by decide)(o:backTo b (eP [a] (rH (HD P w) P w K mg base N qual scope f cd A outer s0 H0 E).env)=[(dr,eval a (rH (HD P w) P w K mg base N qual scope f cd A outer s0 H0 E).env)]:=by rfl) :PS (rH (HD P w) P w K mg base N qual scope f cd A outer s0 H0 E) (.Raise (ac (.Call (.Name x L) [a] [] b)) de l) (λ_ g H=>n g H λ_ m=>E (.ref C) de m):=by intro c s g H D I h;let#[bm,t,nm,M,bs,O,sn,B,ab,col,dd,k0,k1,k2,k3,k5,U,Q,J,i,T,G]:=aeq I.ok.mod.DL u.ex;erw[wpAny_Raise_call_subT (C:=C) (nm:=nm) (q:=M) (N:=t) (bs:=bs) (bm:=bm) (hdct:=O) (sn:=sn) (sub:=B) (ab:=ab) (col:=col) (dd:=dd) (k0:=k0) (k1:=k1) (k2:=k2) (k3:=k3) (k5:=k5) PySem.F.excBase_ValueError (by rw[G];decide) p (by rw[o];rfl) i (Gs I z S #[24] j)];rw[o];erw[Calls.evalArgs_plain (Calls.spliced_cons (iS (R c s g H _ I h) λv W ⟨y,m,d,X,r⟩=>Calls.spliced_nil ?_))];exists 2,by show 1<=eD;decide,d.bk _ _ Q,J.keeps d.bk,T.keeps d.bk,λV e k=>ke d k r
end
section
variable{X:Cx}{e:Expr}{es:!Expr}{pos:Pos}{te:TE}
abbrev TJ:=St->Hp->Str->VK->Prop
def PJ(X:Cx)(es:!Expr)(t:TJ):Prop:=
 ∀(pins:!(du×Obj))(s:dA)(σ:St)(H:Hp)(out:Str)(Q:VK),Inv X pins σ H s->t σ H out Q->fg (model X.prog X.w) X.A (joinParts out (evalEach es X.env)) (EP X pins σ Q) X.xe s
def uv:PJ X [] (λ_ H out Q=>out.length<=eD/\Q (.str out) H):=λa s c H out Q I ⟨b,q⟩=>joinParts_nil #[.str out,H,I.tok _,#[1],q] b
theorem cZ(i:PE X e te)(j:PJ X es t):PJ X (e::es) (λc H b Q=>te c H λv d=>∃y,v=.str y/\(b++y).length<=eD/\t c d (b++y) Q):=by intro a s c H b Q I h;erw[joinParts_cons (iS (i a s c H _ I h) λu g u_=>?_)];let#[v,d,f,r,y,l,k,q]:=u_;subst l;let#[m,rfl]:=r;erw[k,j a g c d _ Q f q]
def oV{c:Expr}(h:PJ X (e::c::es) t):PE X (.JoinedStr (e::c::es) pos) (λb H Q=>t b H Str.empty Q):=λa s b H Q I q=>JoinedStr_many (h a s b H _ Q I q)
theorem jx(f:PE X e te):PE X (.FormattedValue e (-1) de pos) (λb H Q=>te b H λv c=>∃i:Int,v=.int i/\i.natAbs.log2<1920/\Q (.str (toString i)) c):=by intro a s b H Q I h;erw[FormattedValue_plain (iS (f a s b H _ I h) λu k u_=>?_)];let#[v,c,d,r,i,j,g,q]:=u_;subst j;let#[l,rfl]:=r;erw[formatField_int_small g #[.str _,c,d.tok _,#[1],q]]
end
end L2
namespace RM
structure Row where
 hd:Int
 co:Int
 ho:Int
 by_:Int
deriving DecidableEq
theorem Row.ext'{r s:Row}(c:r.hd=s.hd)(b:r.co=s.co)(a:r.ho=s.ho)(d:r.by_=s.by_):r=s:=by ext r;ext s;simp_all
def lt(r s:Row):Prop:=r.hd<s.hd\/(r.hd=s.hd/\(r.co<s.co\/(r.co=s.co/\(r.ho<s.ho\/(r.ho=s.ho/\r.by_<s.by_)))))
instance (r s:Row):Decidable (lt r s):=by delta lt;infer_instance
def le(r s:Row):Prop:=¬lt s r
instance (r s:Row):Decidable (le r s):=by delta le;infer_instance
theorem le_refl(r:Row):le r r:=by delta le lt;lia
theorem pE{a b c:Int}{l k g:Prop}(h:¬l->¬k->¬g)(f:¬(b<a\/(b=a/\l)))(d:¬(c<b\/(c=b/\k))):¬(c<a\/(c=a/\g)):=by let i:a<=b:=Int.not_lt.mp λy=>f (.inl y);let j:b<=c:=Int.not_lt.mp λy=>d (.inl y);intro z;obtain z|⟨z,n⟩:=z;erw[Int.not_lt.mpr (Int.le_trans i j) z];subst z;let e:=Int.le_antisymm i j;subst e;erw[h (λy=>f (.inr #[2,y])) (λy=>d (.inr #[2,y])) n]
theorem le_trans(d:le r s)(c:le s t):le r t :=pE (pE (pE λa b=>Int.not_lt.mpr (Int.le_trans (Int.not_lt.mp a) (Int.not_lt.mp b)))) d c
theorem lex_{p q:Prop}{x y:Int}(a:¬(x<y\/x=y/\p))(b:¬(y<x\/y=x/\q)):x=y/\¬p/\¬q:=by obtain h|h|h:=Int.lt_trichotomy x y;exact absurd (.inl h) a;exact #[h,λz=>a (.inr #[h,z]),λz=>b (.inr #[h.symm,z])];exact absurd (.inl h) b
theorem le_antisymm(b:le r s)(a:le s r):r=s:=by delta le lt at *;let#[h,a,b]:=lex_ a b;let#[i,a,b]:=lex_ a b;let#[j,a,b]:=lex_ a b;exact Row.ext' h i j (Int.le_antisymm (Int.not_lt.mp b) (Int.not_lt.mp a))
theorem le_total(r s:Row):le r s\/le s r:=by delta le lt;lia
theorem abv(h:lt r s):le r s:=by delta le lt at *;lia
theorem lt_irrefl(r:Row):¬lt r r:=by delta lt;lia
structure Net where
 n:Nat
 nm:Nat->Int
 a:Nat->Nat
 b:Nat->Nat
 c:Nat->Int
 live:!Nat
 inj:∀i j,i<n->j<n->nm i=nm j->i=j
 ab:∀k∈live,a k<n/\b k<n/\a k≠b k
 c1:∀k∈live,1<=c k
section
variable(N:Net)
def CC(k h g:Nat):Prop:=k∈N.live/\((N.a k=h/\N.b k=g)\/(N.b k=h/\N.a k=g))
noncomputable def own(h:Nat):Row:=#[N.nm h,(0),(0),-1]
noncomputable def over(k:Nat)(r:Row):Row:=#[r.hd,r.co+N.c k,r.ho+1,k]
end
variable{N:Net}
def CC.symm(e:CC N k h g):CC N k g h:=#[e.1,e.2.elim (λz=>.inr #[z.2,z.1]) λz=>.inl #[z.2,z.1]]
theorem CC.lt(e:CC N k h g):h<N.n/\g<N.n/\h≠g:=by let#[d,e]:=e;let#[c,b,a]:=N.ab k d;obtain⟨rfl,rfl⟩|⟨rfl,rfl⟩:=e;erw[c,b,a];erw[b,c,cC a]
def CC.cost(e:CC N k h g):1<=N.c k:=N.c1 k e.1
theorem HS(h:le r s):le (over N k r) (over N k s):=by delta le lt over at *;dsimp only at *;lia
structure nY(cut:Int)(R:Nat->Row)(h:Nat)(d:Row):Prop where
 one:d=own N h\/∃k g,CC N k h g/\(R g).ho+1<cut/\d=over N k (R g)
 own:le d (RM.own N h)
 all:∀k g,CC N k h g->(R g).ho+1<cut->le d (over N k (R g))
theorem nY.uniq(p:nY (N:=N) cut R h d)(q:nY (N:=N) cut R h e):d=e:=by apply le_antisymm;obtain z|⟨k,g,a,c,z⟩:=q.one;rw[z];erw[p.own];rw[z];erw[p.all k g a c];obtain z|⟨k,g,a,c,z⟩:=p.one;rw[z];erw[q.own];rw[z];erw[q.all k g a c]
def Rest(N:Net)(S:Nat->Row):Prop:=∀h,h<N.n->nY (N:=N) N.n S h (S h)
def Sane(N:Net)(R:Nat->Row):Prop:=∀h,h<N.n->0<=(R h).ho/\(R h).ho<N.n
theorem pX{d:Type}[DecidableEq d]:∀{xs B:!d},xs.Nodup->(∀x∈xs,x∈B)->ge xs<=ge B
 |[],_,_,_=>bL _
 |x::xs,B,a,hs=>by
  let b:x∈B:=hs x aM;let g:∀y∈xs,y∈B.erase x:=λy c=>by
   let h:y≠x:=λe=>(dY.mp a).1 (e▸c);erw[(List.mem_erase_of_ne h).mpr (hs y (aO _ c))]
  let f:=pX (dY.mp a).2 g;rw[List.length_erase_of_mem b] at f
  let:0<ge B:=xU b
  rw[bG];lia
theorem Y1{n:Nat}{xs:!Nat}(a:xs.Nodup)(hl:∀x∈xs,x<n)(e:ge xs=n){h:Nat}(b:h<n):h∈xs:=by apply Classical.byContradiction;intro q;let:=pX (xs:=h::xs) (B:=av n) (dY.mpr #[q,a]) (λx c=>by rw[bO];obtain rfl|z:=aT.mp c;erw[b];erw[hl x z]);rw[bG,aX] at this;lia
theorem j1{S:Nat->Row}(R:Rest N S):∀(m g:Nat),g<N.n->(S g).ho=m->∃gs:!Nat,ge gs=m+1/\gs.Nodup/\g∈gs/\∀x∈gs,x<N.n/\(S x).hd=(S g).hd/\(x=g\/(S x).co<(S g).co)/\(S x).ho<=m
 |0,g,d,e=>#[[g],2,-_,-_,λx f=>by
  let:x=g:=f⁻¹
  subst this;erw[d,2,.inl rfl,5]]
 |m+1,g,d,e=>by
  obtain z|⟨k,b,a,c,z⟩:=(R g d).one
  ·rw[z] at e
   let:(0:Int)=((m+1:Nat):Int):=e
   lia
  ·let t:(S g).hd=(S b).hd:=by rw[z];rfl
   let r:(S g).co=(S b).co+N.c k:=by rw[z];rfl
   let p:(S g).ho=(S b).ho+1:=by rw[z];rfl
   let o:=a.cost;let#[gs,l,i,u,h]:=j1 R m b a.lt.2.1 ∅;exists g::gs,by rw[bG,l],dY.mpr #[λq=>?_,i],aM,λx f=>?_
   ·let:=(h g q).2.2.2
    lia
   ·obtain rfl|q:=aT.mp f
    ·erw[d,2,.inl rfl,5]
    ·let#[j,v,q3,s]:=h x q
     erw[j,5,.inr ?_,5];obtain rfl|q3:=q3 <;> lia
theorem nz(R:Rest N S)(hs:Sane N S){g h:Nat}(a:g<N.n)(d:h<N.n)(e:(N.n:Int)<=(S g).ho+1):(S h).hd=(S g).hd/\(h=g\/(S h).co<(S g).co):=by let l:=hs g a;let#[k,j,c,i,b]:=j1 R (N.n-1) g a ∅;let:=b h (Y1 c (λx f=>(b x f).1) ∅ d);erw[this.2.1,this.2.2.1]
theorem QS(R:Rest N S)(hs:Sane N S)(a:CC N k h g)(d:le (S g) r):le (S h) (over N k r):=by let#[b,e,f]:=a.lt;let j:=a.cost;by_cases c:(S g).ho+1<N.n;erw[le_trans ((R h b).all k g a c) (HS d)];let#[l,i]:=nz R hs e b ∅;let m:=i.resolve_left f;delta le lt over at *;dsimp only at *;lia
noncomputable def upd(R:Nat->Row)(h:Nat)(d:Row):Nat->Row:=λx=>if x=h then d else R x
inductive Run(N:Net):(Nat->Row)->!Nat->(Nat->Row)->Prop
 |nil (R):Run N R [] R
 |cons {R R' h d cs} (i:nY (N:=N) N.n R h d) (t:Run N (upd R h d) cs R'):Run N R (h::cs) R'
theorem Run.other(t:Run N R cs a){x:Nat}(h:x∉cs):a x=R x:=by induction t with|nil=>rfl|@cons R a c d cs i t b=>rw[b λq=>h (aO _ q)];let e:x≠c:=λq=>h (by rw[q];erw[aM]);delta upd;rw[eH e]
theorem Run.append(t:Run N R cs R')(u:Run N R' ds R''):Run N R (cs++ds) R'':=by induction t with|nil=>erw[u]|cons i t a=>erw[.cons i (a u)]
theorem Run.split:∀{cs ds:!Nat}{R a:Nat->Row},Run N R (cs++ds) a->∃b,Run N R cs b/\Run N b ds a
 |[],_,R,_,t=>#[R,.nil R,t]
 |_::_,_,_,_,.cons i t=>by
  let#[b,u,v]:=Run.split t;erw[b,.cons i u,v]
theorem Run.round{P Q:Nat->Row->Prop}(b:∀h r,Q h r->P h r)(hs:∀R h d,h<N.n->(∀g,g<N.n->P g (R g))->nY (N:=N) N.n R h d->Q h d){R a:Nat->Row}{cs:!Nat}(t:Run N R cs a)(j:∀c∈cs,c<N.n)(f:∀g,g<N.n->P g (R g)):(∀g,g<N.n->P g (a g))/\∀h∈cs,Q h (a h):=by induction t with|nil=>erw[f,λh q=>ff q (-_)]|@cons R a h d cs i t p=>let k:=hs _ _ _ (j h aM) f i;let#[s,l]:=p (λc q=>j c (aO _ q)) (λg o=>by delta upd;by_cases e:g=h;rw[eG e,e];erw[b _ _ k];rw[eH e];erw[f g o]);erw[s,λx m=>?_];by_cases q:x∈cs;erw[l x q];let e:x=h:=(aT.mp m).resolve_right q;rw[t.other q,e];delta upd;rw[eG rfl];erw[k]
def qo(n:Nat):Nat->!Nat->Prop
 |0,_=>True
 |m+1,cs=>∃xs ys,cs=xs++ys/\(∀h,h<n->h∈xs)/\qo n m ys
theorem Run.rounds{P:Nat->Nat->Row->Prop}(a:∀r h x,P (r+1) h x->P r h x)(step:∀r R h d,h<N.n->(∀g,g<N.n->P r g (R g))->nY (N:=N) N.n R h d->P (r+1) h d):
 ∀(m r:Nat){cs:!Nat}{R f:Nat->Row},qo N.n m cs->(∀c∈cs,c<N.n)->Run N R cs f->(∀g,g<N.n->P r g (R g))->∀g,g<N.n->P (r+m) g (f g)
 |0,r,cs,R,f,_,j,t,o,g,b=>(Run.round (P:=P r) (Q:=P r) (λ_ _ z=>z) (λR h d k l i=>a _ _ _ (step r R h d k l i)) t j o).1 g b
 |m+1,r,cs,R,f,⟨B,y,e,u,v⟩,j,t,o,g,b=>by
  subst e;let#[A,s,p]:=Run.split t;let w:=(Run.round (P:=P r) (Q:=P (r+1)) (a r) (λR h d k l i=>step r R h d k l i) s (λc q=>j c (dJ _ q)) o).2
  let:=Run.rounds a step m (r+1) v (λc q=>j c (bW _ q)) p (λg b=>w g (u g b)) g b
  rw[show r+(m+1)=r+1+m by lia];erw[this]
theorem aer(s:Rest N S)(hs:Sane N S){m:Nat}(J:2*N.n<=m)(D:qo N.n m cs)(E:∀c∈cs,c<N.n)(t:Run N R cs R')(G:Sane N R):∀h,h<N.n->R' h=S h:=by let u:=Run.rounds (P:=λr h x=>h<N.n->0<=x.ho/\x.ho<N.n/\(lt x (S h)->(r:Int)<=x.ho)/\((S h).ho<(r:Int)-N.n->x=S h)) (N:=N) ?_ ?_ m 0 D E t ?_;intro h f;let#[_,_,_,q]:=u h f f;erw[q (by let:=(hs h f).2;lia)];intro r h x p f;let#[w,B,o,v]:=p f;exists w,B,λz=>by let:=o z;lia,λz=>v ∅;intro r j h d f l i _;let b:lt d (S h)->((r+1:Nat):Int)<=d.ho:=(by intro z;obtain e|⟨k,g,a,c,e⟩:=i.one;rw[e] at z;erw[ff z (s h f).own];let#[w,B,o,v]:=l g a.lt.2.1 a.lt.2.1;let ho:d.ho=(j g).ho+1:=(by rw[e];rfl);let q:lt (j g) (S g):=(by apply Classical.byContradiction;intro q;erw[QS s hs a q (e▸z)]);let:=o q;lia);let ho:0<=d.ho/\d.ho<N.n:=(by obtain e|⟨k,g,a,c,e⟩:=i.one;rw[e];show 0<=(0:Int)/\(0:Int)<N.n;lia;let:=l g a.lt.2.1 a.lt.2.1;rw[e];show 0<=(j g).ho+1/\(j g).ho+1<N.n;lia);erw[ho.1,ho.2,b,λz=>?_];let H:=hs h f;let I:(N.n:Int)<=r:=∅;let C:le (S h) d:=λq=>(by let:=b q;lia);erw[le_antisymm ?_ C];obtain e|⟨k,g,a,c,e⟩:=(s h f).one;rw[e];erw[i.own];let F:(S h).ho=(S g).ho+1:=(by rw[e];rfl);let A:j g=S g:=(l g a.lt.2.1 a.lt.2.1).2.2.2 ∅;let:=i.all k g a (by rw[A];erw[c]);rw[A] at this;rw[e];erw[this];intro g y _;let:=G g y;exists this.1,this.2,λ_=>∅,λz=>by let:=(hs g y).1;lia
theorem least:∀(x0:Row)(xs:!Row),∃m,(m=x0\/m∈xs)/\le m x0/\∀x∈xs,le m x
 |x0,[]=>#[x0,.inl rfl,le_refl _,λx h=>ff h (-_)]
 |x0,y::e=>by
  let#[m,d,c,b]:=least x0 e;obtain q|q:=le_total m y
  ·exists m,d.imp id (aO _),c,λx a=>?_
   obtain rfl|z:=aT.mp a
   ·erw[q]
   ·erw[b x z]
  ·exists y,.inr aM,le_trans q c,λx a=>?_
   obtain rfl|z:=aT.mp a
   ·erw[le_refl _]
   ·erw[le_trans q (b x z)]
theorem Lc(N:Net)(cut:Int)(R:Nat->Row)(h:Nat):∃d,nY (N:=N) cut R h d:=by let#[m,n,l,o]:=least (own N h) (N.live.filterMap λk=>if N.a k=h/\(R (N.b k)).ho+1<cut then ac (over N k (R (N.b k))) else if N.b k=h/\(R (N.a k)).ho+1<cut then ac (over N k (R (N.a k))) else de);erw[m,4,l,λk g a c=>o _ ?_];obtain z|z:=n;erw[.inl z];let#[k,f,e]:=lD.mp z;erw[.inr ?_];by_cases i:N.a k=h/\(R (N.b k)).ho+1<cut;rw[eG i] at e;ext e;erw[k,N.b k,#[f,.inl #[i.1,2]],i.2,2];rw[eH i] at e;by_cases j:N.b k=h/\(R (N.a k)).ho+1<cut;rw[eG j] at e;ext e;erw[k,N.a k,#[f,.inr #[j.1,2]],j.2,2];rw[eH j] at e;ext e;let#[f,q]:=a;erw[lD.mpr #[k,f,4]];obtain⟨rfl,rfl⟩|⟨rfl,rfl⟩:=q;rw[eG #[2,c]];rw[eH (λz=>(N.ab k f).2.2 z.1),eG #[2,c]]
noncomputable def Zq(N:Net)(cut:Int)(R:Nat->Row)(h:Nat):Row:=Classical.choose (Lc N cut R h)
def Ky(N:Net)(cut:Int)(R:Nat->Row)(h:Nat):nY (N:=N) cut R h (Zq N cut R h):=qh (Lc N cut R h)
noncomputable def W(N:Net):Nat->Nat->Row
 |0=>own N
 |k+1=>Zq N (k+2) (W N k)
theorem Zr(N:Net):∀k h,0<=(W N k h).ho/\(W N k h).ho<=k
 |0,h=>by show 0<=(0:Int)/\(0:Int)<=(0:Nat);lia
 |k+1,h=>by
  obtain z|⟨r,g,a,c,z⟩:=(Ky N (k+2) (W N k) h).one
  ·show 0<=(Zq N (k+2) (W N k) h).ho/\(Zq N (k+2) (W N k) h).ho<=(k+1:Nat)
   rw[z];show 0<=(0:Int)/\(0:Int)<=(k+1:Nat);lia
  ·let:=Zr N k g
   show 0<=(Zq N (k+2) (W N k) h).ho/\(Zq N (k+2) (W N k) h).ho<=(k+1:Nat);rw[z];show 0<=(W N k g).ho+1/\(W N k g).ho+1<=(k+1:Nat);lia
theorem Xr(N:Net)(k h:Nat):W N (k+1) h=own N h\/∃r g,CC N r h g/\W N (k+1) h=over N r (W N k g):=by obtain z|⟨r,g,a,c,z⟩:=(Ky N (k+2) (W N k) h).one;erw[.inl z];erw[.inr #[r,g,a,z]]
theorem Xs(N:Net):∀k h,le (W N k h) (own N h)
 |0,h=>le_refl _
 |k+1,h=>(Ky N (k+2) (W N k) h).own
theorem rg(N:Net)(k:Nat)(a:CC N r h g):le (W N (k+1) h) (over N r (W N k g)) :=(Ky N (k+2) (W N k) h).all r g a (by let:=(Zr N k g).2;lia)
theorem VT(N:Net):∀k h,le (W N (k+1) h) (W N k h)
 |0,h=>Xs N 1 h
 |k+1,h=>by
  obtain z|⟨r,g,a,z⟩:=Xr N k h
  ·rw[z];erw[Xs N _ h]
  ·rw[z]
   erw[le_trans (rg N (k+1) a) (HS (VT N k g))]
theorem tI(N:Net)(h:Nat){j k:Nat}(q:j<=k):le (W N k h) (W N j h):=by induction q with|refl=>erw[le_refl _]|step _ a=>erw[le_trans (VT N _ h) a]
theorem Xu(N:Net):∀k h,le (W N (W N k h).ho.toNat h) (W N k h)
 |0,h=>le_refl _
 |k+1,h=>by
  obtain z|⟨r,g,a,z⟩:=Xr N k h
  ·rw[z];erw[Xs N _ h]
  ·let b:=Zr N k g
   let e:(W N (k+1) h).ho.toNat=(W N k g).ho.toNat+1:=by
    rw[z];show ((W N k g).ho+1).toNat=_;lia
   rw[e];erw[le_trans (rg N _ a) ?_];rw[z];erw[HS (Xu N k g)]
theorem Xv(N:Net):∀(m k h:Nat),h<N.n->(W N k h).ho=m->∃gs:!Nat,ge gs=m+1/\gs.Nodup/\∀x∈gs,x<N.n/\∃j,j<=k/\(W N j x).hd=(W N k h).hd/\(W N j x).co<=(W N k h).co
 |0,k,h,b,e=>#[[h],2,-_,λx d=>by
  let:x=h:=d⁻¹
  subst this;erw[b,k,aA _,2,ur _]]
 |m+1,0,h,b,e=>by
  let:(0:Int)=((m+1:Nat):Int):=e
  lia
 |m+1,k+1,h,b,e=>by
  obtain z|⟨r,g,a,z⟩:=Xr N k h
  ·rw[z] at e
   let:(0:Int)=((m+1:Nat):Int):=e
   lia
  ·let u:=a.cost
   let y:(W N (k+1) h).hd=(W N k g).hd:=by rw[z];rfl
   let w:(W N (k+1) h).co=(W N k g).co+N.c r:=by rw[z];rfl
   let v:(W N (k+1) h).ho=(W N k g).ho+1:=by rw[z];rfl
   let#[gs,s,i,f]:=Xv N m k g a.lt.2.1 ∅;exists h::gs,by rw[bG,s],dY.mpr #[λq=>?_,i],λx d=>?_
   ·let#[_,j,l,t,o]:=f h q
    let:=tI N h (show j<=k+1 by lia)
    delta le lt at this;lia
   ·obtain rfl|q:=aT.mp d
    ·erw[b,k+1,aA _,2,ur _]
    ·let#[p,j,l,t,o]:=f x q
     erw[p,j,555]
theorem Xw(N:Net)(k h:Nat)(c:h<N.n):(W N k h).ho<N.n:=by let g:=(Zr N k h).1;let#[f,e,b,a]:=Xv N (W N k h).ho.toNat k h c ∅;let:=pX (B:=av N.n) b λx d=>bO.mpr (a x d).1;rw[aX] at this;lia
noncomputable def hZ(N:Net):Nat->Row:=W N (N.n-1)
theorem VU(N:Net)(h:Nat)(a:h<N.n):W N (N.n-1+1) h=hZ N h:=by erw[le_antisymm (VT N _ h) ?_];let c:=(Zr N (N.n-1+1) h).1;let b:=Xw N (N.n-1+1) h a;erw[le_trans (tI N h ∅) (Xu N (N.n-1+1) h)]
def GC(N:Net):Sane N (hZ N):=λh a=>#[(Zr N _ h).1,Xw N _ h a]
theorem GD(N:Net):Rest N (hZ N):=λh b=>by
 let e:=VU N h b;let s:=GC N h b;erw[4,Xs N _ h,λk g a c=>?_]
 ·obtain z|⟨r,g,a,z⟩:=Xr N (N.n-1) h
  ·erw[.inl (e.symm.trans z)]
  ·refine .inr #[r,g,a,4,e.symm.trans z]
   let d:hZ N h=over N r (hZ N g):=e.symm.trans z
   let:(hZ N h).ho=(hZ N g).ho+1:=by rw[d];rfl
   lia
 ·rw[<- e]
  erw[rg N (N.n-1) a]
inductive mV(N:Net):Nat->Nat->Prop
 |refl (h):mV N h h
 |step {k h g x} (a:CC N k h g) (t:mV N g x):mV N h x
theorem mV.trans(t:mV N h g)(u:mV N g x):mV N h x:=by induction t with|refl=>erw[u]|step a _ b=>erw[.step a (b u)]
theorem mV.lt(t:mV N h g)(c:h<N.n):g<N.n:=by induction t with|refl=>erw[c]|step a _ b=>erw[b a.lt.2.1]
theorem Rest.agi(b:Rest N S)(sS:Sane N S)(a:CC N k h g):(S h).hd<=(S g).hd:=by let:=QS b sS a (le_refl (S g));delta le lt over at this;dsimp only at this;lia
theorem Rest.abx(b:Rest N S)(sS:Sane N S)(t:mV N h g):(S h).hd=(S g).hd:=by induction t with|refl=>rfl|step a _ c=>let e:=b.agi sS a;let d:=b.agi sS a.symm;lia
theorem Rest.root{S:Nat->Row}(b:Rest N S)(sS:Sane N S):∀(m h:Nat),h<N.n->(S h).ho=m->∃g,mV N h g/\S g=own N g
 |0,h,d,e=>by
  obtain z|⟨k,g,a,c,z⟩:=(b h d).one
  ·erw[h,.refl h,z]
  ·let f:=(sS g a.lt.2.1).1
   let:(S h).ho=(S g).ho+1:=by rw[z];rfl
   lia
 |m+1,h,d,e=>by
  obtain z|⟨k,g,a,c,z⟩:=(b h d).one
  ·erw[h,.refl h,z]
  ·let:(S h).ho=(S g).ho+1:=by rw[z];rfl
   let#[x,l,q]:=b.root sS m g a.lt.2.1 ∅;erw[x,.step a l,q]
theorem Rest.head(a:Rest N S)(sS:Sane N S){h:Nat}(b:h<N.n):(∃g,mV N h g/\S g=own N g/\(S h).hd=N.nm g)/\∀g,mV N h g->(S h).hd<=N.nm g:=by let#[g,l,q]:=a.root sS (S h).ho.toNat h b (by let:=(sS h b).1;lia);let e:=a.abx sS l;erw[#[g,l,q,by rw[e,q];rfl],λx t=>?_];rw[a.abx sS t];let:=(a x (t.lt b)).own;delta le lt own at this;dsimp only at this;lia
theorem Rest.aby(b:Rest N S)(sS:Sane N S){h:Nat}(a:h<N.n)(e:(S h).hd=N.nm h):S h=own N h:=by let#[#[g,l,q,z],_]:=b.head sS a;let:g=h:=N.inj g h (l.lt a) a ∅;subst this;erw[q]
structure lJ(N:Net)(R:Nat->Row)(k h g:Nat):Prop where
 k8:CC N k h g
 cut:(R g).ho+1<N.n
 eq:R h=over N k (R g)
theorem CC.far(a:CC N k h g)(b:CC N k h g'):g=g':=by let#[c,e]:=a;let#[_,d]:=b;let:=(N.ab k c).2.2;lia
section
variable{R:Nat->Row}{k h g:Nat}
theorem lJ.ho(t:lJ N R k h g):(R h).ho=(R g).ho+1:=by rw[t.eq];rfl
theorem lJ.hd(t:lJ N R k h g):(R h).hd=(R g).hd:=by rw[t.eq];rfl
theorem lJ.by(t:lJ N R k h g):(R h).by_=k:=by rw[t.eq];rfl
theorem lJ.uniq(t:lJ N R k h g)(u:lJ N R k' h g'):k=k'/\g=g':=by let b:=t.by;let a:=u.by;let e:k=k':=∅;subst e;erw[2,t.k8.far u.k8]
theorem lJ.one(t:lJ N R k h g)(u:lJ N R k h' g'):h=h'/\g=g':=by let#[i,e]:=t.k8;let#[_,c]:=u.k8;let f:=t.ho;let d:=u.ho;let a:h=h'\/(h=g'/\g=h'):=(by obtain⟨rfl,rfl⟩|⟨rfl,rfl⟩:=e <;> obtain⟨rfl,rfl⟩|⟨rfl,rfl⟩:=c <;> simp);obtain a|⟨a,b⟩:=a;subst a;erw[2,t.k8.far u.k8];subst a b;lia
end
theorem Rest.hangs(b:Rest N S){h:Nat}(d:h<N.n):S h=own N h\/∃k g,lJ N S k h g:=by obtain z|⟨k,g,a,c,z⟩:=(b h d).one;erw[.inl z];erw[.inr #[k,g,a,c,z]]
theorem Rest.abz(sS:Sane N S)(e:S h=own N h)(t:lJ N S k h g):False:=by let a:=t.ho;rw[e] at a;let b:=(sS g t.k8.lt.2.1).1;let:(0:Int)=(S g).ho+1:=a;lia
inductive Up(N:Net)(R:Nat->Row):Nat->Nat->Prop
 |refl (h):Up N R h h
 |step {k h g x} (t:lJ N R k h g) (u:Up N R g x):Up N R h x
theorem Up.agj(t:Up N R h g):mV N h g:=by induction t with|refl h=>erw[.refl h]|step a _ b=>erw[.step a.k8 b]
theorem Rest.QT{S:Nat->Row}(a:Rest N S)(sS:Sane N S):∀(m h:Nat),h<N.n->(S h).ho=m->∃g,Up N S h g/\S g=own N g/\(S h).hd=N.nm g
 |0,h,b,e=>by
  obtain z|⟨k,g,t⟩:=a.hangs b
  ·exists h,.refl h,z,by rw[z];rfl
  ·let c:=(sS g t.k8.lt.2.1).1
   let:=t.ho
   lia
 |m+1,h,b,e=>by
  obtain z|⟨k,g,t⟩:=a.hangs b
  ·exists h,.refl h,z,by rw[z];rfl
  ·let:=t.ho
   let#[x,l,q,z]:=a.QT sS m g t.k8.lt.2.1 ∅;exists x,.step t l,q,by rw[t.hd];erw[z]
inductive VV(N:Net)(R:Nat->Row):Nat->Nat->Prop
 |refl (h):VV N R h h
 |up {k h g x} (t:lJ N R k h g) (u:VV N R g x):VV N R h x
 |down {k h g x} (t:lJ N R k g h) (u:VV N R g x):VV N R h x
theorem VV.trans(t:VV N R h g)(u:VV N R g x):VV N R h x:=by induction t with|refl=>erw[u]|up a _ b=>erw[.up a (b u)]|down a _ b=>erw[.down a (b u)]
theorem VV.symm(t:VV N R h g):VV N R g h:=by induction t with|refl h=>erw[.refl h]|up a _ b=>erw[b.trans (.down a (.refl _))]|down a _ b=>erw[b.trans (.up a (.refl _))]
theorem Up.NP(t:Up N R h g):VV N R h g:=by induction t with|refl h=>erw[.refl h]|step a _ b=>erw[.up a b]
theorem Rest.NP(b:Rest N S)(sS:Sane N S){h:Nat}(a:h<N.n)(l:mV N h g):VV N S h g:=by let c:=l.lt a;let#[x,u,q,z]:=b.QT sS (S h).ho.toNat h a (by let:=(sS h a).1;lia);let#[y,v,r,w]:=b.QT sS (S g).ho.toNat g c (by let:=(sS g c).1;lia);let e:x=y:=N.inj x y (u.agj.lt a) (v.agj.lt c) (by let:=b.abx sS l;lia);subst e;erw[u.NP.trans v.NP.symm]
def ahX(n:Nat)(xs:!Nat):Prop:=∀h,h<n->h∈xs
end RM
namespace RM
variable{N:Net}
end RM
namespace L2
open PySem PySem.Spec PyProof.Rows
inductive Le:!dy->!dy->Bool->Prop
 |nil:Le [] [] dr
 |ne {a c:Int} {t u:Tok} {vs ws:!dy} (h:a≠c):Le (.int a t::vs) (.int c u::ws) (decide (a<c))
 |eq {a:Int} {t u:Tok} {vs ws:!dy} {r:Bool} (h:Le vs ws r):Le (.int a t::vs) (.int a u::ws) r
section
open PySem.SeqAt
open PySem.AutoSeq1 (wpAny_loadPart')
open PySem.MeetsSeq PySem.MeetsSeq2 PySem.MeetsSeq3
theorem VW(l b:du)(items f:Array dy)(n K:Nat)(dd D:Option du)(H F:Array (Option dy))(r:Bool)(N:Le items.toList f.toList r)(hsz:items.size=f.size):
 Meets (Builtin.«tuple.__lt__» #[[.ref l,.ref b],[]])
  (λ_ R s=>s.heap.get? l=ac {cls:=.type "tuple",dict:=dd,data:=.seq items n,slots:=H}/\s.heap.get? b=ac {cls:=.type "tuple",dict:=D,data:=.seq f K,slots:=F} /\
   R (.ok (.ret (.bool r))) s):=
 .of_wp λk w A R s h=>by
  let#[v,g,d,z,os]:=s;let#[I,J,h]:=h;let P:=AutoSeq1.sub_tuple_tuple
  wp_walk using wpAny_loadPart' I,wpAny_loadPart' J,wpAny_forIn_list _ (λrest b E=>b.1=de/\E=#[v,g,d,z,os]/\∃(p q:!dy),rest=p.zip q/\Le p q r) _
  case turn=>
   intro ⟨y,x⟩ rest b E ⟨m,rfl,p,q,j,o⟩;cases o with
   |nil=>rw[List.zip_nil_left] at j;ext j
   |@ne a c t u p q C=>
    rw[List.zip_cons_cons] at j;injection j with hyx hrest
    injection hyx with hy o
    subst hy o;let#[e,B,i]:=HT.Gw A.in1 #[v,g,d,z,os] a t c u;erw[dC (B k w _ _ ?_)];cases e with
    |true=>erw[ff (i.mp rfl) C]
    |false=>
     let M:=HT.SQ A.in1 #[v,g,d,z,os] a t c u k w
     wp_walk using M
     exists 1,by simpa using h
   |@eq a t u p q Q G=>
    rw[List.zip_cons_cons] at j;injection j with hyx hrest
    injection hyx with hy o
    subst hy o;let#[e,B,i]:=HT.Gw A.in1 #[v,g,d,z,os] a t a u;erw[dC (B k w _ _ ?_)];cases e with
    |true=>
     wp_walk
     erw[2233,hrest,G]
    |false=>erw[ff (i.mpr rfl) aU]
  case fin=>
   intro ⟨S,O⟩ E ⟨m,rfl,p,q,j,o⟩;simp only at m;subst m;cases o with
   |nil=>
    let L:decide (items.size<f.size)=dr:=gh ∅;rw[<- L] at h
    wp_walk
    exists 1,by simpa [Builtin.Tuple.tupleCompareSizes] using h
   |ne=>rw[List.zip_cons_cons] at j;ext j
   |eq=>rw[List.zip_cons_cons] at j;ext j
  case h=>
   erw[22,items.toList,f.toList,2,N]
end
theorem aes{prog:ft}{w:World}{A:fv}{E:dy->dA->Prop}{s:dA}{l b:du}{items a:Array dy}{r:Bool}{Q:dy->dA->Prop}(hl:IsTup s.heap l items)(t:IsTup s.heap b a)(z:Le items.toList a.toList r)(hsz:items.size=a.size)(p:A.units<cLine)(h:Q (.bool r) s):fg (model prog w) A (fa .Lt (.ref l) (.ref b)) Q E s:=by let#[#[o,y,m,q],k,i,n,j]:=id hl;let#[#[v,f,data2,g],e,c,u,d]:=id t;simp only at i j c d;subst i j c d;erw[richCompare_meets_room (op:=.Lt) #[_,k,2] #[_,e,2] PySem.F.slot_tuple_lt PySem.F.entry_tuple_lt (PySem.F.args_tuple_lt_2 _ _) (VW l b items a n u y f q g r z hsz) #[k,e,show Value.bool r≠Value.notImplemented/\Q (.bool r) s from #[(λx=>nomatch x),h]] p]
inductive Fv:!V->!V->Bool->Prop
 |nil:Fv [] [] dr
 |ne {a c:Int} {vs ws:!V} (h:a≠c):Fv (.int a::vs) (.int c::ws) (decide (a<c))
 |eq {a:Int} {vs ws:!V} {r:Bool} (h:Fv vs ws r):Fv (.int a::vs) (.int a::ws) r
theorem Fv.vals(h:Fv vs ws r):∀{us a:!dy},cO vs us->cO ws a->Le us a r:=by induction h with|nil=>intro us a c b;ext c;ext b;erw[.nil]|ne h=>(intro us a c b;cases c with|cons d _=>(cases b with|cons e _=>let#[t,rfl]:=d;let#[u,rfl]:=e;erw[.ne h]))|eq _ f=>(intro us a c b;cases c with|cons d i=>(cases b with|cons e g=>let#[t,rfl]:=d;let#[u,rfl]:=e;erw[.eq (f i g)]))
section
variable{X:Cx}
def FV(K:ah):R2:=λx y H Q=>∃a b xs ys r,x=.ref a/\y=.ref b/\dH K H a xs/\dH K H b ys/\ge xs=ge ys/\Fv xs ys r/\Q (.bl r) H
theorem YP(g:X.A.units<cLine):AN X (fa .Lt) (FV X.K):=by intro e s w H x y v u Q I p m h;let#[a,b,B,z,r,rfl,rfl,o,k,l,i,q]:=h;ext p;ext m;let#[n,c,j,_]:=I.tuple o;let#[d,f,t,_]:=I.tuple k;erw[aes j t (i.vals c f) (by rw[bq,bq,<- c.length,<- f.length];erw[l]) g #[.bl r,H,I,2,q]]
end
end L2
namespace RM
open PySem L2
noncomputable def jf(b:Int):V:=if b<0 then .gw else .int b
noncomputable abbrev cz(r:Row):!V:=[.int r.hd,.int r.co,.int r.ho,jf r.by_]
def bB{b:Int}(h:b<0):jf b=.gw:=eG h
theorem bg{b:Int}(h:0<=b):jf b=.int b:=eH ∅
theorem Yf{r s:Row}(h:r.hd≠s.hd\/r.co≠s.co\/r.ho≠s.ho\/(0<=r.by_/\0<=s.by_)):Fv (cz r) (cz s) (decide (lt r s)):=by let#[i,l,f,d]:=r;let#[t,q,p,g]:=s;dsimp only at h;let a:∀{b m:Bool}{vs ws},Fv vs ws b->b=m->Fv vs ws m:=λh e=>e▸h;by_cases j:i=t;subst j;by_cases c:l=q;subst c;by_cases k:f=p;subst k;obtain⟨u,o⟩:0<=d/\0<=g:=(by obtain h|h|h|h:=h;erw[ff rfl h];erw[ff rfl h];erw[ff rfl h];erw[h]);show Fv [.int i,.int l,.int f,jf d] [.int i,.int l,.int f,jf g] _;rw[bg u,bg o];by_cases n:d=g;subst n;erw[a (.eq (.eq (.eq (.eq .nil)))) (gh (lt_irrefl _)).symm];erw[a (.eq (.eq (.eq (.ne n)))) (by delta lt;simp)];erw[a (.eq (.eq (.ne k))) (by delta lt;simp[k])];erw[a (.eq (.ne c)) (by delta lt;simp[c])];erw[a (.ne j) (by delta lt;simp[j])]
end RM
namespace L2
open PySem PySem.Spec PyProof.Rows
theorem Xx(a:Nat->Nat->Bool):∀k,argBest a k<=k
 |0=>aA _
 |k+1=>by
  show (if a (k+1) (argBest a k) then k+1 else argBest a k)<=k+1;split
  ·erw[aA _]
  ·erw[jO (Xx a k)]
def HV(ps:!(du×Obj))(h:Heap):Prop:=∀p∈ps,h.get? p.1=ac p.2
section
variable{prog:ft}{w:World}{A:fv}{R:Result->dA->Prop}{I:du}{fp wr:!du}{n:Nat}{P:Nat->dy->Prop}{St:Nat->Heap->Prop}{ps:!(du×Obj)}
def VX(prog:ft)(w:World)(A:fv)(ps:!(du×Obj))(P:Nat->dy->Prop)(bt:Nat->Nat->Bool):Prop:=
 ∀i j vi vj(s:dA)(Q E:dy->dA->Prop),j<i->HV ps s.heap->P i vi->P j vj->Q (.bool (bt i j)) s->fg (model prog w) A (richCompare .Lt vi vj) Q E s
theorem Zs(W:Walks prog w A.in1 I fp wr n P St)(l:Nat->Nat->Bool)(K:VX prog w A.in1 ps P l)(S:du)(V:S∉fp)(T:∀p∈ps,p.1∉wr/\p.1≠S):∀(k j:Nat) (s:dA) (a:dy) (c:Nat),k=n-(j+1)->j<n->St (j+1) s.heap ->P (argBest l j) a->HV ps s.heap->s.heap.get? S=ac {cls:=.type "list",dict:=de,data:=.seq [a,a].toArray c,slots:=[].toArray} ->(∀v N G,P (argBest l (n-1)) v->(∀b o,b≠S->b∉wr->s.heap.get? b=ac o->N.get? b=ac o)->R (.ok (.ret v)) {s with heap:=N,toks:=G})->codeAny (model prog w) A (.builtin "min.loop" #[[.ref I,.none,.ref S],[]]) R s:=by let X:S∉wr:=λz=>V (W.sub _ z);let M : "min.loop" = (toString "min" ++ toString ".loop" : String):=!_;intro k;induction k with|zero=>intro j s a c e lt st D x B d;obtain rfl:n=j+1:=∅;erw[codeAny_builtin F.entry_min_loop (by rw[Around.under_plainId F.plain_min_loop _];erw[(show fg (model prog w) A.in1 (seqItems? (.ref S) >>= _) _ _ s from dC (wpAny_seqItems B rfl ?_))];erw[(show fg (model prog w) A.in1 (tryCatch (pyNext (.ref I)) _ >>= _) _ _ s from dC (wpAny_tryCatch (W.done s _ _ st λQ G f=>?_)))];erw[(show fg (model prog w) A.in1 (updateSeq S (λ_=>[].toArray) >>= _) _ _ _ from dC (wpAny_updateSeq (f S _ X B) rfl (dC (wpAny_letGo (dE ?_)))))];erw[d a _ G D λb o r h t=>(fb _ _ (cC r)).trans (f b o h t)])]|succ k O=>intro j s a c e lt st D x B d;let me:j+1<n:=∅;erw[codeAny_builtin F.entry_min_loop (by rw[Around.under_plainId F.plain_min_loop _];erw[(show fg (model prog w) A.in1 (seqItems? (.ref S) >>= _) _ _ s from dC (wpAny_seqItems B rfl ?_))];erw[(show fg (model prog w) A.in1 (tryCatch (pyNext (.ref I)) _ >>= _) _ _ s from dC (wpAny_tryCatch (W.item (j+1) s _ _ me st λv Q G U C f=>?_)))];let m:HV ps Q:=λp u=>f _ _ (T p u).1 (x p u);let g:=f S _ X B;erw[(show fg (model prog w) A.in1 (tryCatch (holding [v,v] (richCompare .Lt v a >>= _)) _ >>= _) _ _ _ from dC (wpAny_tryCatch (wpAny_holding (dC (K (j+1) (argBest l j) v a _ _ _ (Nat.lt_succ_of_le (Xx l j)) m U D ?_)))))];erw[dC (wpAny_holding (wpAny_truthy_bool (dC (wpAny_letGo (dE ?_)))))];by_cases E:l (j+1) (argBest l j)=df;rw[E];simp only[if_true];erw[dC (wpAny_updateSeq g rfl (dC (wpAny_letGo ?_)))];rw[<- M];erw[dE #[plainId_quiet F.plain_min_loop _,O (j+1) _ v _ ∅ me (W.frame _ _ _ C λb q o z=>?_) (by simp only[argBest,E,if_true];erw[U]) (λp u=>?_) (Heap.get?_update_self _ g rfl) λJ H i L q=>?_]];erw[(fb _ _ (λy:S=b=>V (y▸q))).trans z];erw[(fb _ _ (cC (T p u).2)).trans (m p u)];erw[d J H i L λb o r h t=>q b o r h ((fb _ _ (cC r)).trans (f b o h t))];rw[Bool.eq_false_iff.mpr E];simp only[Bool.false_eq_true,if_false];erw[dC (wpAny_letGo ?_)];rw[<- M];erw[dE #[plainId_quiet F.plain_min_loop _,O (j+1) _ a c ∅ me C (by simp only[argBest,E,Bool.false_eq_true,if_false];erw[D]) m g λJ H i L q=>?_]];erw[d J H i L λb o r h t=>q b o r h (f b o h t)])]
theorem VY(W:Walks prog w A.in1 I fp wr n P St)(m:Nat->Nat->Bool)(e:VX prog w A.in1 ps P m)(S:du)(k:S∉fp)(j:∀p∈ps,p.1∉wr/\p.1≠S)(u:0<n){s:dA}{c:Nat}(st:St 0 s.heap)(f:HV ps s.heap) (x:s.heap.get? S=ac {cls:=.type "list",dict:=de,data:=.seq [].toArray c,slots:=[].toArray}) (i:∀v B D,P (argBest m (n-1)) v->(∀b o,b≠S->b∉wr->s.heap.get? b=ac o->B.get? b=ac o)->R (.ok (.ret v)) {s with heap:=B,toks:=D}) :codeAny (model prog w) A (.builtin "min.loop" #[[.ref I,.none,.ref S],[]]) R s:=by let N:S∉wr:=λz=>k (W.sub _ z);let J : "min.loop" = (toString "min" ++ toString ".loop" : String):=!_;erw[codeAny_builtin F.entry_min_loop (by rw[Around.under_plainId F.plain_min_loop _];erw[(show fg (model prog w) A.in1 (seqItems? (.ref S) >>= _) _ _ s from dC (wpAny_seqItems x rfl ?_))];erw[(show fg (model prog w) A.in1 (tryCatch (pyNext (.ref I)) _ >>= _) _ _ s from dC (wpAny_tryCatch (W.item 0 s _ _ u st λv L D M g h=>?_)))];let r:HV ps L:=λp a=>h _ _ (j p a).1 (f p a);let d:=h S _ N x;erw[(show fg (model prog w) A.in1 (updateSeq S (λ_=>[v,v].toArray) >>= _) _ _ _ from dC (wpAny_updateSeq d rfl ?_))];rw[<- J];erw[dE #[plainId_quiet F.plain_min_loop _,Zs W m e S k j _ 0 _ v _ rfl u (W.frame _ _ _ g λb q o z=>?_) M (λp a=>?_) (Heap.get?_update_self _ d rfl) λG E l K q=>?_]];erw[(fb _ _ (λy:S=b=>k (y▸q))).trans z];erw[(fb _ _ (cC (j p a).2)).trans (r p a)];erw[i G E l K λb o t C H=>q b o t C ((fb _ _ (cC t)).trans (h b o C H))])]
end
section
variable{prog:ft}{w:World}{A:fv}{E:dy->dA->Prop}{s:dA}{ps:!(du×Obj)}
theorem Zt{x:dy}{Q:dy->dA->Prop} (h:fg (model prog w) A.in1 (pyIter x) (λk a=>∃I fp e n P St f,k=.ref I/\Walks prog w A.in1 I fp e n P St/\St 0 a.heap/\(∀b∈fp,b<a.heap.objs.size)/\0<n/\VX prog w A.in1 ps P f /\HV ps a.heap/\(∀p∈ps,p.1∉e)/\∀v h' tk,P (argBest f (n-1)) v->(∀b o,b∉e->a.heap.get? b=ac o->h'.get? b=ac o)->Q v {a with heap:=h',toks:=tk}) E s):fg (model prog w) A (call (.builtin "min") [x]) Q E s:=by let t : "min.loop" = (toString "min" ++ toString ".loop" : String):=!_;let D:Builtin.Builtins.bindParams "min" ["key","default"] 0 #[[],[]]=pure [de,de]:=rfl;erw[call_function_tree F.kind_min F.plain_min F.entry_min (F.args_min1 _) (show fg _ A.in1 (Builtin.Builtins.bindParams "min" ["key","default"] 0 #[[],[]] >>= _) _ _ s from dC (wpAny_of_eq D (dC (dE ?_))))];erw[dC (wpAny_mono h (λk a q=>?_) λ_ _ z=>z)];let#[I,fp,e,n,P,St,f,rfl,W,st,i,r,g,c,B,j]:=q;let C:a.heap.objs.size∉fp:=λz=>ff (i _ z) (gG _);erw[dC (wpAny_newObj_type ?_)];rw[<- t];erw[dE #[plainId_quiet F.plain_min_loop _,VY W f g a.heap.objs.size C (λp d=>#[B p d,bV (eA (c p d))]) r (W.frame _ _ _ st λb _ o z=>dL _ z) (λp d=>dL _ (c p d)) (en _ rfl) λv h' tk y u=>?_]];erw[j v h' tk y λb o m l=>u b o (bV (eA l)) m (dL _ l)]
end
end L2
namespace L2
open PySem PySem.Spec PyProof.Rows RM
section
variable{X:Cx}
theorem HW(f:Nat->RM.Row):∀k j,j<=k->le (f (argBest (λi j=>decide (lt (f i) (f j))) k)) (f j)
 |0,j,h=>by
  obtain rfl:j=0:=∅
  erw[le_refl _]
 |k+1,j,h=>by
  show le (f (if decide (lt (f (k+1)) (f (argBest _ k))) then k+1 else argBest _ k)) (f j);by_cases c:lt (f (k+1)) (f (argBest (λi j=>decide (lt (f i) (f j))) k))
  ·rw[eG (fy c)]
   obtain q|rfl:=Nat.lt_or_eq_of_le h
   ·erw[le_trans (abv c) (HW f k j ∅)]
   ·erw[le_refl _]
  ·rw[eH c⁻¹]
   obtain q|rfl:=Nat.lt_or_eq_of_le h
   ·erw[HW f k j ∅]
   ·erw[c]
end
end L2
namespace L2
open PySem PySem.Spec PyProof.Rows
section
variable{X:Cx}
def FS(K:ah):R2:=λx y H Q=>∃da db,Rep K H da x/\Rep K H db y/\da.canLay0=df/\db.canLay0=df/\da.depth<=64/\Q (.bl (PyData.eqv da db)) H
theorem Xy(K:ah)(d:X.K=K)(f:X.A.units+64<cLine):AN X (fa .Eq) (FS K):=by subst d;intro a s b H x y v u Q I l i ⟨g,m,k,h,c,e,j,q⟩;erw[yM a s b H x y v u Q I l i #[g,m,k,h,c,e,bM (b5 (aJ (dX _ _) j) _) f,q]]
end
end L2
namespace RM
open PySem L2
noncomputable def lC(b:Int):PyData:=if b<0 then .none else .int b
noncomputable def Fw(r:Row):PyData:=.tuple [.int r.hd,.int r.co,.int r.ho,lC r.by_]
theorem aeu{K:ah}(b:Int):Rep K H (lC b) (jf b):=by delta lC jf;by_cases h:b<0;rw[eG h,eG h];rfl;rw[eH h,eH h];rfl
def wC{K:ah}(h:dH K H p (cz r)):Rep K H (Fw r) (.ref p) :=#[p,1,h,6262626,aeu _,2]
theorem wD(r:Row):(Fw r).canLay0=df:=by show (df&&(df&&(df&&((lC r.by_).canLay0&&df))))=df;delta lC;split <;> rfl
theorem HX(r:Row):(Fw r).depth=1:=by show max 0 (max 0 (max 0 (max (lC r.by_).depth 0)))+1=1;delta lC;split <;> rfl
theorem Lf{r s:Row}(g:-1<=r.by_)(hs:-1<=s.by_):PyData.eqv (Fw r) (Fw s)=decide (r=s):=by let e:PyData.eqv (Fw r) (Fw s)=((r.hd==s.hd)&&((r.co==s.co)&&((r.ho==s.ho)&&(PyData.eqv (lC r.by_) (lC s.by_)&&df)))):=rfl;rw[e];let d:PyData.eqv (lC r.by_) (lC s.by_)=decide (r.by_=s.by_):=(by delta lC;by_cases c:r.by_<0 <;> by_cases b:s.by_<0;rw[eG c,eG b];erw[(fy ∅).symm];rw[eG c,eH b];erw[(gh ∅).symm];rw[eH c,eG b];erw[(gh ∅).symm];rw[eH c,eH b];show (r.by_==s.by_)=_;by_cases a:r.by_=s.by_;rw[fy a,a];erw[beq_self_eq_true _];rw[gh a];erw[beq_eq_false_iff_ne.mpr a]);rw[d];by_cases h:r=s;subst h;simp;rw[gh h];let:¬(r.hd=s.hd/\r.co=s.co/\r.ho=s.ho/\r.by_=s.by_):=λz=>h (Row.ext' z.1 z.2.1 z.2.2.1 z.2.2.2);simp only[Bool.and_true];by_cases c:r.hd=s.hd;by_cases b:r.co=s.co;by_cases a:r.ho=s.ho;let f:¬r.by_=s.by_:=λz=>this #[c,b,a,z];simp[f];simp[a];simp[b];simp[c]
end RM
namespace L2
open PySem PySem.Spec PyProof.Rows
end L2
namespace RM
open PySem L2
theorem aev(h:r.hd=s.hd->r.co=s.co->r.ho=s.ho->¬lt r s):Fv [.int r.hd,.int r.co,.int r.ho] [.int s.hd,.int s.co,.int s.ho] (decide (lt r s)):=by let#[m,k,j,p]:=r;let#[l,i,n,o]:=s;dsimp only at h;let a:∀{b g:Bool}{vs ws},Fv vs ws b->b=g->Fv vs ws g:=λh e=>e▸h;by_cases f:m=l;subst f;by_cases d:k=i;subst d;by_cases c:j=n;subst c;erw[a (.eq (.eq (.eq .nil))) (gh (h rfl rfl rfl)).symm];erw[a (.eq (.eq (.ne c))) (by delta lt;simp[c])];erw[a (.eq (.ne d)) (by delta lt;simp[d])];erw[a (.ne f) (by delta lt;simp[f])]
end RM
namespace L2
open PySem PySem.Spec PyProof.Rows
end L2
set_option maxHeartbeats 4000000
namespace TW
open PySem L2 PyProof.Rows
open RM (cz jf bB bg)
seal L2.PE L2.PA L2.PT L2.PW L2.PS L2.iR L2.PG L2.j8 L2.PI L2.j9
structure Bz(n:Int)(a b c d e:Int):Prop where
 a0:0<=a
 a1:a<n
 b0:0<=b
 b1:b<n
 ab:a≠b
 c1:1<=c
 d1:1<=d
 d4:d<=4
 e1:1<=e
 e7:e<=7
noncomputable abbrev tz(a b c d e:Int):!V:=[.int a,.int b,.int c,.int d,.int e]
structure R5 where
 a:Int
 b:Int
 c:Int
 d:Int
 e:Int
noncomputable abbrev R5.vs(r:R5):!V:=tz r.a r.b r.c r.d r.e
noncomputable abbrev R5.ns(r:R5):!Int:=[r.a,r.b,r.c,r.d,r.e]
noncomputable def R5.D(r:R5):PyData:=.tuple (r.ns.map .int)
abbrev R5.Ok(n:Int)(r:R5):Prop:=Bz n r.a r.b r.c r.d r.e
def Lg(K:ah)(H:Hp)(l:du)(rs:!R5):Prop:=Rep K H (.list (rs.map R5.D)) (.ref l)
section
variable{K:ah}{H H':Hp}{l:du}{rs:!R5}
theorem Lg.mono(s:aH H H')(h:Lg K H l rs):Lg K H' l rs:=Rep.mono s h
theorem Lg.at(h:Lg K H l rs):∃vs,bJ K H l vs/\ge vs=ge rs/\∀(i:Nat)r,rs[i]?=ac r->∃p,vs[i]?=ac (.ref p)/\dH K H p r.vs:=by let#[a,vs,e,q,r]:=h;ext e;exists vs,q,by rw[r.length,af],λi x g=>?_;let#[v,f,b]:=r.get (i:=i) (d:=x.D) (by rw[ao,g];rfl);let#[p,e,c]:=Rep.CU (ns:=x.ns) b;subst e;erw[p,f,c]
end
theorem CV:∀(ns:!Int),ns.Nodup->ge (firstMet (λi=>ns.getD i 0) (ge ns))=ge ns:=by intro ns j;let e:(av (ge ns)).map (λi=>ns.getD i 0)=ns:=(by apply k6;simp;intro i d m;simp at d;simp[ak,d]);let c:∀(b a:!Int),(a++b).Nodup->b.foldl step_dedup a=a++b:=(by intro b;induction b with|nil=>intro a _;simp|cons x b f=>intro a h;let l:x∉a:=λg=>(by rw[iP] at h;erw[h.2.2 x g x (-_) rfl]);let k:step_dedup a x=a++[x]:=(by delta step_dedup;simp[l]);rw[jU,k,f _ h⁻¹];simp);delta firstMet;rw[e,c ns [] j⁻¹];simp
theorem fF{f:Str}{v:V}:∀{a:!(Str×V)}{names:!Str},a.map (·.1)=names->names.contains f=dr->Ab f v a=a++[(f,v)]
 |[],_,_,_=>rfl
 | (g,u)::r,_,e,h=>by
  subst e;rw[bz,List.contains_cons,Bool.or_eq_false_iff] at h;let b:¬g=f:=λz=>by
   let:=h.1
   rw[z] at this;simp at this
  show (if g=f then (g,v)::r else (g,u)::Ab f v r)=_;rw[eH b,fF rfl h.2];rfl
theorem D9{K:ah}{H c:Hp}{p:du}(k:∀b o,H b=ac o->b≠p->c b=ac o)(d:H p=ac (.ins C dx fs))(h:bJ K H a xs):bJ K c a xs:=by obtain (h|⟨o,h⟩)|h:=h;erw[.inl (.inl (k _ _ h (rD h d (by intro z;ext z))))];erw[.inl (.inr #[o,k _ _ h (rD h d (by intro z;ext z))])];erw[.inr h]
theorem aew{K:ah}{H c:Hp}{p:du}(k:∀b o,H b=ac o->b≠p->c b=ac o)(d:H p=ac (.ins C dx fs))(h:dH K H a xs):dH K c a xs:=by obtain (h|⟨o,h⟩)|h:=h;erw[.inl (.inl (k _ _ h (rD h d (by intro z;ext z))))];erw[.inl (.inr #[o,k _ _ h (rD h d (by intro z;ext z))])];erw[.inr h]
mutual
theorem aex{K:ah}{H f:Hp}{p C g:du}{i:!(Str×V)}(k:∀b o,H b=ac o->b≠p->f b=ac o)(c:H p=ac (.ins C g i)):∀{d:PyData}{v:V},Rep K H d v->Rep K f d v
 |.none,_,h=>h
 |.bool _,_,h=>h
 |.int _,_,h=>h
 |.str _,_,h=>h
 |.list ds,_,⟨a,vs,e,q,r⟩=>#[a,vs,e,D9 k c q,mW k c r]
 |.tuple ds,_,⟨a,vs,e,q,r⟩=>#[a,vs,e,aew k c q,mW k c r]
 |.dict _,_,h=>h
theorem mW{K:ah}{H c:Hp}{p C d:du}{f:!(Str×V)}(k:∀b o,H b=ac o->b≠p->c b=ac o)(a:H p=ac (.ins C d f)):∀{ds:!PyData}{vs:!V},eU K H ds vs->eU K c ds vs
 |[],_,h=>h
 |_::_,_,⟨v,r,e,q,t⟩=>#[v,r,e,aex k a q,mW k a t]
end
noncomputable abbrev FR(ln lr:du)(n m:Nat):!(Str×V):=[("house_names",.ref ln),("rope_tuples",.ref lr),("size",.int n),("many",.int m)]
structure eN(K:ah)(C:du)(H:Hp)(p ln lr:du)(ns:!Int)(rs:!R5):Prop where
 ob:∃dx,H p=ac (.ins C dx (FR ln lr (ge ns) (ge rs)))
 nl:H ln=ac (.lst (ns.map fw))
 rl:∃vs,H lr=ac (.lst vs)/\eU K H (rs.map R5.D) vs
section
variable{K:ah}{C:du}{H H':Hp}{p ln lr:du}{ns:!Int}{rs:!R5}
theorem eN.mono(s:aH H H')(h:eN K C H p ln lr ns rs):eN K C H' p ln lr ns rs:=by let#[#[d,c],b,e,a,f]:=h;erw[#[d,s _ _ c],s _ _ b,e,s _ _ a,f.mono s]
end
theorem QU(a x:Int):Zd (.int a) (.int x)=decide (x=a):=by show (a==x)=decide (x=a);by_cases e:x=a;rw[fy e,e];erw[beq_self_eq_true a];rw[gh e];erw[beq_eq_false_iff_ne.mpr (cC e)]
theorem Af(x:Int)(xs:!Int):NF (.int x) (xs.map fw)=decide (x∈xs):=by delta NF;induction xs with|nil=>simp|cons y d c=>rw[bz,rB,c,QU];by_cases a:x=y;subst a;simp;by_cases b:x∈d;simp[a,b];simp[a,b]
theorem Ag(xs:!Int):(xs.map fw).all Cq=df:=by rw[jl];intro v a;let#[x,_,rfl]:=aG.mp a;rfl
noncomputable def above(xs:!Int)(x:Int):Nat:=ge (xs.filter λy=>decide (x<=y))
theorem QV{K:ah}(h:dH K H1 a xs):∀i H,i<ge xs->aH H1 H->(mM K a).go i H:=λi H b s=>#[xs,xs[i],s.cU h,by simp[b]]
def GF{K:ah}(h:dH K H1 a xs):∀H,aH H1 H->(mM K a).stop (ge xs) H:=λH s=>#[xs,s.cU h,aA _]
structure AR(n m:Nat)(r:RM.Row):Prop where
 hd:0<=r.hd
 co:0<=r.co
 ho:0<=r.ho/\r.ho<n
 by_:r.by_=-1\/(0<=r.by_/\r.by_<m)
noncomputable abbrev bA(ks:!Nat):!V:=ks.map λk=>fw (k:Nat)
theorem gy(a:!Nat)(k:Nat):bA (a++[k])=bA a++[fw (k:Nat)]:=by delta bA;rw[aN];rfl
theorem aey{K:ah}{H:Hp}(b:H q=ac (.lst xs))(h:dH K H a ys):dH K (upd H q o) a ys:=by obtain (h|⟨ob,h⟩)|h:=h;erw[.inl (.inl (by rw[aY (rD h b (by intro z;ext z))];erw[h]))];erw[.inl (.inr #[ob,by rw[aY (rD h b (by intro z;ext z))];erw[h]])];erw[.inr h]
noncomputable def aL(ns:!Int)(rs:!R5)(live:!Nat)(nd:ns.Nodup)(ok:∀r∈rs,r.Ok (ge ns))(hl:∀k∈live,k<ge rs):RM.Net where
 n:=ge ns
 nm i:=ns.getD i 0
 a k:=((rs[k]?).map λr=>r.a.toNat).getD 0
 b k:=((rs[k]?).map λr=>r.b.toNat).getD 0
 c k:=((rs[k]?).map λr=>r.c).getD 0
 live:=live
 inj i j hi hj e:=by
  let e1:ns.getD i 0=ns[i]:=by simp[ak,hi]
  let e2:ns.getD j 0=ns[j]:=by simp[ak,hj]
  let e:ns[i]=ns[j]:=by rw[<- e1,<- e2];erw[e]
  erw[(List.getElem?_inj hi nd).mp (by rw[aa hi,aa hj,e])]
 ab k hk:=by
  let h:=hl k hk;let o:=ok _ (aB h);simp only[aa h,vY,Option.getD_some];let h1:=o.a0;let h2:=o.a1;let h3:=o.b0;let h4:=o.b1;let h5:=o.ab;exists 555
 c1 k hk:=by
  let h:=hl k hk;let o:=ok _ (aB h);simp only[aa h,vY,Option.getD_some];erw[o.c1]
def yN(K:ah)(H:Hp)(l:du)(n:Nat)(R:Nat->RM.Row):Prop:=∃ps:!du,bJ K H l (ps.map fx)/\ge ps=n/\∀(i:Nat)p,ps[i]?=ac p->dH K H p (cz (R i))
theorem yN.mono{K:ah}(s:aH H H')(h:yN K H l n R):yN K H' l n R:=by let#[d,c,b,a]:=h;erw[d,s.seq c,b,λi p e=>s.cU (a i p e)]
theorem iJ:∀ns:!Int,eQ (ns.map .int)=df
 |[]=>rfl
 |n::ns=>by
  show (PyData.canLay0 (.int n)&&eQ (ns.map .int))=df;rw[iJ ns];rfl
theorem pY:∀ns:!Int,eJ (ns.map .int)=0
 |[]=>rfl
 |n::ns=>by
  show max (PyData.depth (.int n)) (eJ (ns.map .int))=0;rw[pY ns];rfl
theorem Lh(xs:!V)(i:Nat):Ac xs (ac (i:Int)) de=xs.drop i:=by delta Ac;rw[HT.QF];show (xs.drop (min i (ge xs))).take (ge xs-min i (ge xs))=_;by_cases h:i<=ge xs;rw[Nat.min_eq_left h,cX (by rw[um];erw[aA _])];rw[Nat.min_eq_right ∅,List.drop_of_length_le (aA _),List.drop_of_length_le ∅];simp
section
variable{ns:!Int}{rs:!R5}{live:!Nat}{nd:ns.Nodup}{ok:∀r∈rs,r.Ok (ge ns)}{hl:∀k∈live,k<ge rs}
def wF(n m:Nat)(R:Nat->RM.Row):Prop:=∀i,i<n->AR n m (R i)
def wF.VS(h:wF (ge ns) m R):RM.Sane (aL ns rs live nd ok hl) R:=λi a=>(h i a).ho
theorem Xz{h:Nat}(m:wF (ge ns) (ge rs) R)(b:h<ge ns)(j:∀x∈ns,0<=x)(i:RM.nY (N:=aL ns rs live nd ok hl) (ge ns) R h d):AR (ge ns) (ge rs) d:=by obtain e|⟨k,g,a,c,e⟩:=i.one;rw[e];let l:(aL ns rs live nd ok hl).nm h=ns[h]:=(by show ns.getD h 0=_;simp[ak,b]);erw[4,ur _,#[ur _,4],.inl rfl];show 0<=(aL ns rs live nd ok hl).nm h;rw[l];erw[j _ (aB b)];show (0:Int)<ge ns;lia;let f:=m g a.lt.2.1;let n:=a.cost;let o:k<ge rs:=hl k a.1;rw[e];erw[f.hd,4,#[4,c],.inr #[44]];show 0<=(R g).co+(aL ns rs live nd ok hl).c k;let:=f.co;lia;show 0<=(R g).ho+1;let:=f.ho.1;lia;show (0:Int)<=(k:Nat);lia;show ((k:Nat):Int)<(ge rs:Nat);lia
end
theorem AR.by1(h:AR n m r):-1<=r.by_:=by let:=h.by_;lia
noncomputable def gN(rs:!R5)(h:Int)(i:Nat):Bool:=match rs[i]? with|some r=>decide (h=r.a) || decide (h=r.b)|none=>dr
noncomputable def lT(rs:!R5)(h:Int)(n:Nat):!Nat:=(av n).filter (gN rs h)
theorem Tc(rs:!R5)(h:Int)(n:Nat):lT rs h (n+1)=lT rs h n++(if gN rs h n then [n] else []):=by delta lT;rw[fk,dZ];congr 1;by_cases a:gN rs h n=df;rw[eG a];simp[a];rw[eH a];simp[a]
theorem aez(rs:!R5)(h:Int)(n:Nat):ge (lT rs h n)<=n:=by let:=bx (gN rs h) (av n);rw[aX] at this;erw[this]
theorem ah0(x a b:Int):NF (fw x) [fw a,fw b]=(decide (x=a) || decide (x=b)):=by show (Zd (.int a) (.int x) || (Zd (.int b) (.int x) || dr))=_;rw[QU,QU,Bool.or_false]
theorem gz(a:!Nat):bA a=(a.map λk:Nat=>(k:Int)).map fw:=by delta bA;rw[bZ];rfl
theorem wG(x:Nat)(xs:!Nat):NF (.int (x:Nat)) (bA xs)=decide (x∈xs):=by rw[gz,Af];by_cases h:x∈xs;rw[fy h];erw[fy (aG.mpr #[x,h,2])];rw[gh h];erw[gh λz=>h ?_];let#[y,a,e]:=aG.mp z;let:y=x:=∅;erw[this▸a]
theorem nG(xs:!Nat):(bA xs).all Cq=df:=by rw[gz];erw[Ag _]
def abC(rs:!R5)(h:Int)(n:Nat):(lT rs h n).Pairwise (·<·):=List.Pairwise.filter _ xS
theorem aeA{a:!Nat}(h:a.Pairwise (·<·)){j:Nat}(c:j<ge a){k:Nat}(b:k∈a.take j):k<a[j]:=by let#[i,d,e]:=gK b;rw[bU] at d;rw[List.getElem_take] at e;rw[<- e];erw[List.pairwise_iff_getElem.mp h i j ∅ c ∅]
theorem Ea:k∈lT rs h n↔k<n/\gN rs h k=df:=by delta lT;rw[aZ,bO]
section
variable{ns:!Int}{rs:!R5}{live:!Nat}{nd:ns.Nodup}{ok:∀r∈rs,r.Ok (ge ns)}{hl:∀k∈live,k<ge rs}
noncomputable def iu(r:R5)(h:Nat):Nat:=(if (h:Int)=r.a then r.b else r.a).toNat
theorem xX{k:Nat}(f:k∈live):RM.CC (aL ns rs live nd ok hl) k h g↔gN rs (h:Int) k=df/\g=iu (rs[k]'(hl k f)) h:=by let d:=hl k f;let o:=ok _ (aB d);let i:rs[k]?=ac rs[k]:=aa d;let j:(aL ns rs live nd ok hl).a k=rs[k].a.toNat:=(by show ((rs[k]?).map λr=>r.a.toNat).getD 0=_;rw[i];rfl);let l:(aL ns rs live nd ok hl).b k=rs[k].b.toNat:=(by show ((rs[k]?).map λr=>r.b.toNat).getD 0=_;rw[i];rfl);delta RM.CC gN iu;rw[j,l,i];dsimp only;generalize rs[k]=r at o;let p:=o.a0;let m:=o.b0;let n:=o.ab;constructor;rintro⟨_,⟨e,c⟩|⟨e,c⟩⟩;let z:(h:Int)=r.a:=∅;rw[eG z];exists by simp[z],c.symm;let z:(h:Int)=r.b:=∅;rw[eH ∅];exists by simp[z],c.symm;intro ⟨e,c⟩;erw[f,4];let e:(h:Int)=r.a\/(h:Int)=r.b:=e⁻¹;by_cases z:(h:Int)=r.a;rw[eG z] at c;erw[.inl #[5,c.symm]];rw[eH z] at c;erw[.inr #[5,c.symm]]
end
theorem AS{a:Type}{xs:!a}{x y:a}{j:Nat}(h:(xs++[x])[j]?=ac y):xs[j]?=ac y\/(j=ge xs/\y=x):=by by_cases b:j<ge xs;rw[aW b] at h;erw[.inl h];let:=(ai.mp h).1;rw[az] at this;let e:j=ge xs:=(by let:j<ge xs+1:=this;lia);subst e;rw[bE (aA _),fB] at h;ext h;erw[.inr #[22]]
theorem nY.congr{N:RM.Net}{R S:Nat->RM.Row}(e:∀g,g<N.n->R g=S g)(i:RM.nY (N:=N) cut S h d):RM.nY (N:=N) cut R h d:=by erw[4,i.own,λk g a c=>?_];obtain z|⟨k,g,a,c,z⟩:=i.one;erw[.inl z];erw[.inr #[k,g,a,44]];rw[e g a.lt.2.1];erw[c];rw[e g a.lt.2.1];erw[z];rw[e g a.lt.2.1] at c ⊢;erw[i.all k g a c]
theorem Rest.congr{N:RM.Net}{R S:Nat->RM.Row}(e:∀g,g<N.n->R g=S g)(r:RM.Rest N S):RM.Rest N R:=λh a=>by
 rw[e h a];erw[nY.congr e (r h a)]
section
variable{ns:!Int}{rs:!R5}{live:!Nat}{nd:ns.Nodup}{ok:∀r∈rs,r.Ok (ge ns)}{hl:∀k∈live,k<ge rs}
def abD{m:Nat}(b:2*ge ns<=m)(a:RM.qo (ge ns) m cs)(d:∀c∈cs,c<ge ns)(t:RM.Run (aL ns rs live nd ok hl) R cs R')(f:wF (ge ns) (ge rs) R):RM.Rest (aL ns rs live nd ok hl) R' :=Rest.congr (RM.aer (RM.GD _) (RM.GC _) b a d t f.VS) (RM.GD _)
end
theorem qo.post{n:Nat}{w:!Nat}:∀{m:Nat}{cs:!Nat},RM.qo n m cs->RM.qo n m (cs++w)
 |0,_,_=>trivial
 |m+1,_,⟨xs,a,e,c,r⟩=>#[xs,a++w,by rw[e,dW],c,qo.post r]
theorem qo.snoc{n:Nat}{w:!Nat}(a:RM.ahX n w):∀{m:Nat}{cs:!Nat},RM.qo n m cs->RM.qo n (m+1) (cs++w)
 |0,cs,_=>#[cs++w,[],by rw[cu],λh d=>bW _ (a h d),trivial]
 |m+1,_,⟨xs,b,e,c,r⟩=>#[xs,b++w,by rw[e,dW],c,qo.snoc a r]
theorem AU{n i:Nat}(h:i<n):su n (i:Int)=ac i:=by delta su;rw[eG ∅,eG ∅];simp
section
variable{ns:!Int}{rs:!R5}{live:!Nat}{nd:ns.Nodup}{ok:∀r∈rs,r.Ok (ge ns)}{hl:∀k∈live,k<ge rs}
theorem rk{k:Nat}(h:k<ge rs):(aL ns rs live nd ok hl).a k=rs[k].a.toNat:=by show ((rs[k]?).map λr=>r.a.toNat).getD 0=_;rw[aa h];rfl
theorem rh{k:Nat}(h:k<ge rs):(aL ns rs live nd ok hl).b k=rs[k].b.toNat:=by show ((rs[k]?).map λr=>r.b.toNat).getD 0=_;rw[aa h];rfl
theorem NA{k:Nat}(h:k<ge rs):(aL ns rs live nd ok hl).c k=rs[k].c:=by show ((rs[k]?).map λr=>r.c).getD 0=_;rw[aa h];rfl
end
end TW
namespace TW
open PySem L2 PyProof.Rows
def bY{a b:TS}{H:Hp}(h:∀N:L2.St->Hp->Prop,(∀c d,b D c d->N c d)->a {D with nx:=N} σ H):mx a b D σ H:=h _ λ_ _ x=>x
def dI{K:ah}{Q:VK}(h:bJ K H p xs)(e:xW xs i=ac v)(k:Q v H):VI K (.ref p) (.int i) H Q:=#[p,xs,i,v,22,h,e,k]
def GG{K:ah}{Q:VK}(h:bJ K H p xs)(e:xW xs i=ac v)(k:Q v H):tC (.int i) σ H λy a=>VI K (.ref p) y a Q:=#[p,xs,i,v,22,h,e,k]
def gf{K:ah}{Q:VK}(h:dH K H p xs)(e:xW xs i=ac v)(k:Q v H):tC (.int i) σ H λy a=>Zc K (.ref p) y a Q:=#[p,xs,i,v,22,h,e,k]
def xY{r:TS}{H:Hp}(J:L2.St->Hp->Prop)(b:∀a H,J a H->r D a H)(h:∀N:L2.St->Hp->Prop,(∀a H,J a H->N a H)->py c t u {D with nx:=N} a H):mx (py c t u) r D a H:=h _ b
def wH{lo:Int}{n:Nat}{g:TG}{h:TS}{D:ip}{a:L2.St}{H:Hp}(e:Nat->L2.St->Hp->Prop)(k:e 0 a H)(hs:∀i a H(N:L2.St->Hp->Prop),(∀b c,e (i+1) b c->N b c)->i<n->e i a H->g (.int (lo+i)) a H λd f=>h {D with nx:=N,ct:=N,bk:=D.nx} d f)(l:∀a H,e n a H->D.nx a H) :∃W:Nat->Nat->L2.St->Hp->Prop,(∃m,W 0 m a H)/\∀i m a H,W i m a H ->((nj lo n).stop i H/\D.nx a H)\/((nj lo n).go i H/\∃N:L2.St->Hp->Prop,(∀b c,N b c->∃j,j<m/\W (i+1) j b c)/\∀x c,(nj lo n).NK i H x c->g x a c λd f=>h {D with nx:=N,ct:=N,bk:=D.nx} d f) :=D3 e k (λi a H o p=>hs i a H _ (λ_ _ x=>x) o p) l
def rJ{K:ah}{a:du}{xs:!V}{g:TG}{j:TS}{D:ip}{b:L2.St}{H:Hp}(f:Nat->L2.St->Hp->Prop)(l:f 0 b H)(hl:∀i b H,i<=ge xs->f i b H->bJ K H a xs)(hs:∀i x b H(N:L2.St->Hp->Prop),(∀c d,f (i+1) c d->N c d)->xs[i]?=ac x->f i b H->g x b H λe h=>j {D with nx:=N,ct:=N,bk:=D.nx} e h)(n:∀b H,f (ge xs) b H->D.nx b H) :∃W:Nat->Nat->L2.St->Hp->Prop,(∃m,W 0 m b H)/\∀i m b H,W i m b H ->((QA K a).stop i H/\D.nx b H)\/((QA K a).go i H/\∃N:L2.St->Hp->Prop,(∀c d,N c d->∃k,k<m/\W (i+1) k c d)/\∀x d,(QA K a).NK i H x d->g x b d λe h=>j {D with nx:=N,ct:=N,bk:=D.nx} e h) :=wz f l hl (λi x b H o p=>hs i x b H _ (λ_ _ x=>x) o p) n
end TW
namespace TW
open PySem L2 PyProof.Rows
open RM (cz jf bB bg)
seal L2.PE L2.PA L2.PT L2.PW L2.PS L2.iR L2.PG L2.j8 L2.PI L2.j9
section
open Classical
noncomputable def wI(N:RM.Net)(R:Nat->RM.Row)(h:Nat):Option (Nat×Nat):=
 if e:∃p:Nat×Nat,RM.lJ N R p.1 h p.2 then ac (choose e) else de
end
theorem pZ:wI N R h=ac (k,g)↔RM.lJ N R k h g:=by delta wI;constructor;intro e;split at e;rename_i q;let:=qh q;rw[aI e] at this;erw[this];ext e;intro t;let q:∃p:Nat×Nat,RM.lJ N R p.1 h p.2:=#[(k,g),t];rw[dif_pos q];let u:=qh q;let#[a,b]:=u.uniq t;erw[gZ ac (Prod.ext a b)]
theorem Td(q:∀k g,¬RM.lJ N R k h g):wI N R h=de:=by cases e:wI N R h with|none=>rfl|some p=>erw[ff (pZ.mp e) (q p.1 p.2)]
def yO(K:ah)(H:Hp)(v:V):Option (Nat×Nat)->Prop
 |none=>v=.gw
 |some p=>∃t,v=.ref t/\dH K H t [.int (p.1:Nat),.int (p.2:Nat)]
theorem yO.mono{K:ah}(s:aH H H')(h:yO K H v o):yO K H' v o:=by cases o with|none=>erw[h]|some p=>let#[t,e,q]:=h;erw[t,e,s.cU q]
theorem yO.lst{K:ah}{H:Hp}(hl:H l=ac (.lst xs))(h:yO K H v o):yO K (upd H l ob) v o:=by cases o with|none=>erw[h]|some p=>let#[t,e,q]:=h;erw[t,e,aey hl q]
def ah1(K:ah)(H:Hp)(l:du)(n:Nat)(u:Nat->Option (Nat×Nat)):Prop:=∃vs:!V,H l=ac (.lst vs)/\ge vs=n/\∀(i:Nat)v,vs[i]?=ac v->yO K H v (u i)
section
variable{ns:!Int}{rs:!R5}{live:!Nat}{nd:ns.Nodup}{ok:∀r∈rs,r.Ok (ge ns)}{hl:∀k∈live,k<ge rs}
theorem abG{k:Nat}(a:k∈live):(∃g,RM.lJ (aL ns rs live nd ok hl) R k h g)↔gN rs (h:Int) k=df/\(R (iu (rs[k]'(hl k a)) h)).ho+1<ge ns/\R h=RM.over (aL ns rs live nd ok hl) k (R (iu (rs[k]'(hl k a)) h)):=by constructor;intro ⟨g,t⟩;let#[c,b]:=(xX a).mp t.k8;subst b;erw[c,t.cut,t.eq];intro ⟨c,b,d⟩;erw[_,(xX a).mpr #[c,2],b,d]
def ah2(t:RM.lJ (aL ns rs live nd ok hl) R k h g):g=iu (rs[k]'(hl k t.k8.1)) h:=((xX t.k8.1).mp t.k8).2
theorem VZ{k:Nat}(a:k<ge rs)(ok:∀r∈rs,r.Ok (ge ns)):iu rs[k] h<ge ns:=by let o:=ok _ (aB a);let d:=o.a0;let c:=o.a1;let b:=o.b0;let e:=o.b1;delta iu;split <;> lia
theorem XA{k h:Nat}(c:k<ge rs)(ok:∀r∈rs,r.Ok (ge ns)):(if (h:Int)=rs[k].a then rs[k].b else rs[k].a)=((iu rs[k] h:Nat):Int):=by let o:=ok _ (aB c);let e:=o.a0;let d:=o.b0;delta iu;split <;> lia
end
theorem aeB(xs:!Nat):NF .gw (bA xs)=dr:=by delta NF;rw[Bool.eq_false_iff];intro h;let#[x,a,e]:=k7.mp h;let#[y,_,rfl]:=aG.mp a;ext e
end TW
namespace L2
open PySem PySem.Spec PyProof.Rows
theorem QW(h:IntsAre us ns):cO (ns.map fw) us:=by induction h with|nil=>erw[.nil]|cons n t _ a=>erw[.cons #[t,2] a]
section
variable{X:Cx}
def aeC(K:ah):!V->Hp->VK->Prop:=λxs H Q=>∃(a:du)(ns:!Int),xs=[.ref a]/\bJ K H a (ns.map fw)/\ge ns<64/\∀l(ns':!Int),H l=de->ns'.Perm ns->ns'.Pairwise (·<=·)->Q (.ref l) (upd H l (.lst (ns'.map fw)))
theorem CY:pU X (.builtin "sorted") (aeC X.K):=by intro g s w H y z Q I r ⟨a,n,e,j,i,q⟩;subst e;let#[u,e,k]:=cO.one r;subst e;ext k;let#[c,l,p,x]:=I.list j;let h:IntsAre c n:=intsAre_of l;let f:=IntsAre.length h;erw[sorted_ints (vs:=c) p.isList h ∅ λout d t a2 v=>?_];let#[e,m]:=sortedAll_at s.heap c out;erw[.ref (s.heap.objs.size+1),_,I.laid (a:=s.heap.objs.size+1) (o:=.lst (d.map fw)) (t':=s.toks) (λb o e=>sortedAll_old e) (iO _) #[4,out.toList,e,QW t,4],2,q _ d (I.hok.fresh (iO _)) a2 v];rw[af,a2.length_eq];erw[gp (bP ∅)];rw[m]
end
end L2
namespace TW
open PySem L2 PyProof.Rows
open RM (cz jf bB bg)
seal L2.PE L2.PA L2.PT L2.PW L2.PS L2.iR L2.PG L2.j8 L2.PI L2.j9
theorem PB:∀{xs c:!Nat},xs.Pairwise (·<·)->c.Pairwise (·<·)->(∀k,k∈xs↔k∈c)->xs=c
 |[],[],_,_,_=>rfl
 |[],y::c,_,_,h=>ff ((h y).mpr aM) (-_)
 |x::xs,[],_,_,h=>ff ((h x).mp aM) (-_)
 |x::xs,y::c,d,f,h=>by
  let a:=List.pairwise_cons.mp d;let b:=List.pairwise_cons.mp f;let e:x=y:=by
   obtain z|z:=aT.mp ((h x).mp aM)
   ·erw[z]
   ·obtain w|w:=aT.mp ((h y).mpr aM)
    ·erw[w.symm]
    ·let:=b.1 x z
     let:=a.1 y w
     lia
  subst e;rw[PB a.2 b.2 λk=>?_];constructor
  ·intro z
   obtain w|w:=aT.mp ((h k).mp (aO _ z))
   ·let:=a.1 k z;lia
   ·erw[w]
  ·intro z
   obtain w|w:=aT.mp ((h k).mpr (aO _ z))
   ·let:=b.1 k z;lia
   ·erw[w]
theorem lJ.lt(t:RM.lJ N R k h g):h<N.n/\g<N.n:=#[t.k8.lt.1,t.k8.lt.2.1]
def fm(N:RM.Net)(R:Nat->RM.Row)(os:!Nat):Prop:=os.Pairwise (·<·)/\∀k,k∈os↔∃h g,RM.lJ N R k h g
def fm.uniq(a:fm N R xs)(b:fm N R ys):xs=ys:=PB a.1 b.1 λk=>(a.2 k).trans (b.2 k).symm
theorem Te{g:!Nat}{c:!Int}(p:c.Perm (g.map λk:Nat=>(k:Int)))(t:c.Pairwise (·<=·))(nd:g.Nodup):∃os:!Nat,c.map fw=bA os/\os.Pairwise (·<·)/\(∀k,k∈os↔k∈g)/\ge os=ge g:=by let j:∀m∈c,∃k:Nat,m=(k:Int)/\k∈g:=λm i=>(by let#[k,d,e]:=aG.mp (p.mem_iff.mp i);erw[k,e.symm,d]);let o:(c.map z8).map (λk:Nat=>(k:Int))=c:=(by rw[bZ];(conv=>rhs;rw[<- List.map_id c]);apply dm;intro m i;let#[k,e,_]:=j m i;rw[e];rfl);let l:c.Nodup:=(by erw[p.nodup_iff.mpr ?_];delta List.Nodup;rw[mQ];erw[nd.imp λh e=>h ∅]);erw[c.map z8,44,λk=>?_,by rw[af,p.length_eq,af]];rw[gz,o];rw[mQ];let f:=List.pairwise_and_iff.mpr #[t,l];erw[List.Pairwise.imp_of_mem (λ{a b}s r h=>?_) f];let#[x,v,_]:=j a s;let#[y,n,_]:=j b r;let w:=h.1;let u:=h.2;lia;constructor;intro d;let#[m,i,e]:=aG.mp d;let#[y,n,q]:=j m i;rw[n] at e;let:y=k:=(by rw[<- e];rfl);erw[this▸q];intro d;let:((k:Nat):Int)∈c:=p.mem_iff.mpr (aG.mpr #[k,d,2]);erw[aG.mpr #[_,this,2]]
end TW
namespace TW
open PySem L2 PyProof.Rows Gr
open RM (cz jf bB bg)
noncomputable def hG(rs:!R5)(k:Nat):Int×Int:=match rs[k]? with
 |some r=>(r.a,r.b)
 |none=>(0,0)
noncomputable abbrev gA(rs:!R5)(os:!Nat):Ps:=os.map (hG rs)
theorem rK{rs:!R5}{k:Nat}(h:k<ge rs):hG rs k=(rs[k].a,rs[k].b):=by delta hG;rw[aa h]
theorem Tf{n:Nat}{rs:!R5}{os:!Nat}(ok:∀r∈rs,r.Ok n)(h:∀k∈os,k<ge rs):InR (gA rs os) n:=#[λi a b e=>by
 rw[ao] at e;cases q:os[i]? with
 |none=>rw[q] at e;ext e
 |some k=>
  rw[q] at e;let c:=h k (aD q);let e:hG rs k=(a,b):=aI e;rw[rK c] at e;let o:=ok _ (aB c);let d:rs[k].a=a:=gZ Prod.fst e;let f:rs[k].b=b:=gZ Prod.snd e;rw[<- d,<- f];erw[o.a0,o.a1,o.b0,o.b1,o.ab]]
section
variable{ns:!Int}{rs:!R5}{live:!Nat}{nd:ns.Nodup}{ok:∀r∈rs,r.Ok (ge ns)}{hl:∀k∈live,k<ge rs}
theorem Tg(a:RM.CC (aL ns rs live nd ok hl) k h g):hG rs k=((h:Int),(g:Int))\/hG rs k=((g:Int),(h:Int)):=by let c:=hl k a.1;let o:=ok _ (aB c);let i:=o.a0;let f:=o.b0;rw[rK c];obtain⟨e,d⟩|⟨e,d⟩:=a.2;rw[rk c] at e;rw[rh c] at d;erw[.inl (Prod.ext (by show rs[k].a=_;lia) (by show rs[k].b=_;lia))];rw[rh c] at e;rw[rk c] at d;erw[.inr (Prod.ext (by show rs[k].a=_;lia) (by show rs[k].b=_;lia))]
theorem Th{os:!Nat}(O:fm (aL ns rs live nd ok hl) R os):∀k∈os,k<ge rs:=λk a=>by
 let#[h,g,t]:=(O.2 k).mp a;erw[hl k t.k8.1]
end
def Bn{M:!Int}{x:Int}(a:0<=x)(b:x<ge M):xW (M.map fw) x=ac (.int (Cr M x)):=SY a b
theorem E4{M:!Int}{i:Nat}(e:M[i]?=ac x):(M.take (i+1)).map fw=(M.take i).map fw++[.int x]:=by rw[List.take_succ,e,aN];rfl
end TW
namespace L2
open PySem PySem.Calls PySem.Spec PyProof.Rows PyProof.V PySem.W
end L2
namespace Gr
end Gr
namespace TW
open PySem L2 PyProof.Rows Gr
theorem abI{xs b:!Nat}(h:∀k∈xs,k∈b)(r:Reach (gA rs xs) x y):Reach (gA rs b) x y:=by induction r with|refl=>erw[.refl _]|@step y z j _ a c=>(delta k8 at a;rw[ao] at a;cases q:xs[j]? with|none=>(rw[q] at a;obtain a|a:=a <;> ext a)|some k=>rw[q] at a;let#[i,d,e]:=gK (h k (aD q));erw[.step (k:=i) c ?_];delta k8;rw[ao,aa d,e];erw[a])
end TW
namespace L2
open PySem PySem.Calls PySem.Spec PyProof.Rows PyProof.V PySem.W
end L2
namespace TW
open PySem L2 PyProof.Rows Gr
section
variable{ns:!Int}{rs:!R5}{live:!Nat}{nd:ns.Nodup}{ok:∀r∈rs,r.Ok (ge ns)}{hl:∀k∈live,k<ge rs}
theorem abJ{k h g:Nat}(d:k∈live)(e:hG rs k=((h:Int),(g:Int))\/hG rs k=((g:Int),(h:Int))):RM.CC (aL ns rs live nd ok hl) k h g:=by let c:=hl k d;let o:=ok _ (aB c);let l:=o.a0;let j:=o.b0;rw[rK c] at e;erw[d,4];rw[rk c,rh c];obtain e|e:=e;let f:rs[k].a=h:=gZ Prod.fst e;let i:rs[k].b=g:=gZ Prod.snd e;erw[.inl #[55]];let f:rs[k].a=g:=gZ Prod.fst e;let i:rs[k].b=h:=gZ Prod.snd e;erw[.inr #[55]]
theorem Zu{os:!Nat}(O:fm (aL ns rs live nd ok hl) R os)(t:RM.VV (aL ns rs live nd ok hl) R h g):Reach (gA rs os) (h:Int) (g:Int):=by let one:∀{k x y:Nat},RM.lJ (aL ns rs live nd ok hl) R k x y->Reach (gA rs os) (x:Int) (y:Int):=λ{k x y}t=>(by let#[i,b,e]:=gK ((O.2 k).mpr #[x,y,t]);erw[Reach.one (k:=i) ?_];delta k8;rw[ao,aa b,e];obtain z|z:=Tg t.k8;erw[.inl (by rw[<- z];rfl)];erw[.inr (by rw[<- z];rfl)]);induction t with|refl h=>erw[.refl _]|up t _ a=>erw[(one t).trans a]|down t _ a=>erw[(one t).symm.trans a]
theorem Ti(r:Reach (gA rs live) x y):∀h:Nat,x=(h:Int)->∃g:Nat,y=(g:Int)/\RM.mV (aL ns rs live nd ok hl) h g:=by induction r with|refl=>erw[λh e=>#[h,e,.refl h]]|@step y z j _ a f=>(intro h e;let#[g,l,t]:=f h e;delta k8 at a;rw[ao] at a;cases q:live[j]? with|none=>(rw[q] at a;obtain a|a:=a <;> ext a)|some k=>rw[q] at a;let c:=aD q;let d:=hl k c;let o:=ok _ (aB d);let p:=o.a0;let m:=o.b0;let a':hG rs k=(y,z)\/hG rs k=(z,y):=a.imp (λe=>aI e) (λe=>aI e);let n:0<=z:=(by rw[rK d] at a';obtain a'|a':=a' <;> ext a' <;> assumption);subst l;obtain⟨b,i⟩:∃b:Nat,z=(b:Int):=#[z.toNat,5];subst i;erw[b,2,t.trans (.step (abJ c a') (.refl _))])
theorem Tj(t:RM.mV (aL ns rs live nd ok hl) h g):Reach (gA rs live) (h:Int) (g:Int):=by induction t with|refl h=>erw[.refl _]|@step k h g x a _ b=>(erw[Reach.trans ?_ b];let#[i,c,e]:=gK (show k∈live from a.1);erw[Reach.one (k:=i) ?_];delta k8;rw[ao,aa c,e];obtain z|z:=Tg a;erw[.inl (by rw[<- z];rfl)];erw[.inr (by rw[<- z];rfl)])
theorem Li{h g:Nat}:Reach (gA rs live) (h:Int) (g:Int)↔RM.mV (aL ns rs live nd ok hl) h g:=by erw[λr=>?_,Tj];let#[a,e,t]:=Ti (ns:=ns) (nd:=nd) (ok:=ok) (hl:=hl) r h rfl;let:g=a:=∅;subst this;erw[t]
theorem V0{os:!Nat}(b:RM.Rest (aL ns rs live nd ok hl) S)(sS:RM.Sane (aL ns rs live nd ok hl) S)(O:fm (aL ns rs live nd ok hl) S os){h g:Nat}(a:h<ge ns):Reach (gA rs os) (h:Int) (g:Int)↔Reach (gA rs live) (h:Int) (g:Int):=by constructor;erw[λr=>abI (λk c=>by let#[x,y,t]:=(O.2 k).mp c;erw[t.k8.1]) r];erw[λr=>Zu O (b.NP sS a ((Li (ns:=ns) (nd:=nd) (ok:=ok) (hl:=hl)).mp r))]
end
end TW
namespace TW
open PySem L2 PyProof.Rows
noncomputable def gL(b:!Bool):!Nat:=(av (ge b)).filter λk=>b.getD k dr
theorem iy{k:Nat}:k∈gL b↔b[k]?=ac df:=by delta gL;rw[aZ,bO,ak];constructor;intro ⟨a,c⟩;rw[aa a] at c ⊢;simpa using c;intro h;let a:=(ai.mp h).1;exists a,by rw[h];rfl
def wJ(b:!Bool):(gL b).Pairwise (·<·):=List.Pairwise.filter _ xS
theorem Zv(b:!Bool):ge (gL b)<=ge b:=by let:=bx (λk=>b.getD k dr) (av (ge b));rw[aX] at this;erw[this]
theorem GH:∀{xs a:!Nat},xs.Pairwise (·<·)->a.Pairwise (·<·)->(∀k,k∈xs↔k∈a)->xs=a
 |[],[],_,_,_=>rfl
 |[],y::a,_,_,h=>ff ((h y).mpr (-_)) (-_)
 |x::xs,[],_,_,h=>ff ((h x).mp (-_)) (-_)
 |x::xs,y::a,c,d,h=>by
  rw[List.pairwise_cons] at c d;let e:x=y:=by
   let h1:=(h x).mp (-_);let h2:=(h y).mpr (-_);rw[aT] at h1 h2;obtain h1|h1:=h1
   ·erw[h1]
   ·obtain h2|h2:=h2
    ·erw[h2.symm]
    ·let:=c.1 _ h2
     let:=d.1 _ h1
     lia
  subst e;rw[GH c.2 d.2 λk=>?_];constructor
  ·intro b
   obtain rfl|z:=aT.mp ((h k).mp (aO _ b))
   ·erw[ff (c.1 _ b) (gG _)]
   ·erw[z]
  ·intro b
   obtain rfl|z:=aT.mp ((h k).mpr (aO _ b))
   ·erw[ff (d.1 _ b) (gG _)]
   ·erw[z]
theorem Lj:(gL b).filter (λj=>decide (j≠k))=gL (b.set k dr):=by erw[GH (List.Pairwise.filter _ (wJ b)) (wJ _) λj=>?_];rw[aZ,iy,iy,cP];by_cases e:k=j;subst e;simp;rw[eH e];simp[cC e]
theorem Zw{b:!Bool}{k:Nat}{xs:!Nat}(d:b[k]?=ac dr)(f:xs.Perm (gL b++[k]))(hs:xs.Pairwise (·<=·)):xs=gL (b.set k df):=by let g:(gL b++[k]).Nodup:=(by rw[iP];erw[(wJ b).imp λz=>bV z,-_,λx a y h=>?_];let:y=k:=h⁻¹;subst this;intro e;subst e;rw[iy,d] at a;ext a);let a:=(f.nodup_iff).mpr g;let i:xs.Pairwise (·<·):=(hs.and a).imp λz=>Nat.lt_of_le_of_ne z.1 z.2;erw[GH i (wJ _) λj=>?_];let c:=(ai.mp d).1;rw[f.mem_iff,aR,iy,iy,cP,aP];by_cases e:k=j;subst e;rw[eG rfl,eG c];simp;rw[eH e];simp[cC e]
theorem V1(n:Nat):gL (bN n df)=av n:=by erw[GH (wJ _) xS λj=>?_];rw[iy,List.getElem?_replicate,bO];by_cases h:j<n;simp[h];simp[h]
theorem PD:gL b=[]↔∀x∈b,x=dr:=by
 constructor;intro h x c;let#[k,a]:=c7 c;cases x with|false=>rfl|true=>let:=iy.mpr a;rw[h] at this;ext this
 intro h;cases e:gL b with|nil=>rfl|cons k r=>let:k∈gL b:=(by rw[e];simp);let:=h _ (aD (iy.mp this));ext this
theorem QX{w:!Nat}{xs:!Int}(b:xs.Perm (w.map λk:Nat=>(k:Int)))(hs:xs.Pairwise (·<=·)):∃a:!Nat,xs=a.map (λk:Nat=>(k:Int))/\a.Perm w/\a.Pairwise (·<=·):=by let e:xs=(xs.map z8).map λk:Nat=>(k:Int):=(by rw[bZ];erw[Eq.symm ((dm λx c=>?_).trans (List.map_id xs))];let#[k,_,rfl]:=aG.mp (b.mem_iff.mp c);rfl);erw[xs.map z8,e,44];let:=b.map z8;rw[bZ] at this;let d:(z8∘λk:Nat=>(k:Int))=id:=rfl;rw[d,List.map_id] at this;erw[this];rw[mQ];erw[hs.imp λz=>Int.toNat_le_toNat z]
theorem ah3(k:Nat):(bN k [fI df]).flatten=(bN k df).map fI:=by induction k with|zero=>rfl|succ k a=>rw[jS,yK,a,jS];rfl
def S7(rs:!R5)(bs:!(!Bool)):Prop:=ge bs=ge rs/\∀(i:Nat)r b,rs[i]?=ac r->bs[i]?=ac b->(ge b:Int)=r.d
theorem S7.set{i:Nat}(h:S7 rs bs)(c:bs[i]?=ac b):S7 rs (bs.set i (b.set k x)):=by exists by rw[bu];exact h.1,λj r e d a=>?_;rw[cP] at a;by_cases z:i=j;subst z;rw[eG rfl,eG (ai.mp c).1] at a;ext a;rw[bu];erw[h.2 i r b d c];rw[eH z] at a;erw[h.2 j r e d a]
theorem S7.at{i:Nat}(h:S7 rs bs)(a:rs[i]?=ac r):∃b,bs[i]?=ac b/\(ge b:Int)=r.d:=by let:=(ai.mp a).1;erw[_,aa (by let:=h.1;lia),h.2 i r _ a (aa (by let:=h.1;lia))]
structure xZ(C:du)(H:Hp)(p tp lu:du)(ws:!(!Nat)):Prop where
 ob:∃dx,H p=ac (.ins C dx [("town",.ref tp),("upright",.ref lu)])
 up:∃ls:!du,H lu=ac (.lst (ls.map fx))/\ge ls=ge ws/\∀(i:Nat)l w,ls[i]?=ac l->ws[i]?=ac w->H l=ac (.lst (bA w))
section
variable{C:du}{H H':Hp}{p tp lu:du}{ws:!(!Nat)}
theorem xZ.mono(s:aH H H')(h:xZ C H p tp lu ws):xZ C H' p tp lu ws:=by let#[#[f,e],g,d,c,j]:=h;erw[#[f,s _ _ e],g,s _ _ d,c,λi l w a b=>s _ _ (j i l w a b)]
theorem Ah{ls:!du}{i:Nat}(e:ls[i]?=ac l):bA w≠ls.map fx:=by intro z;let a:(bA w)[i]?=ac (fx l):=(by rw[z,ao,e];rfl);rw[ao] at a;cases b:w[i]? with|none=>rw[b] at a;ext a|some k=>rw[b] at a;ext a
theorem xZ.ne(h:xZ C H p tp lu ws):p≠lu:=by let#[#[c,b],d,a,_]:=h;erw[rD b a (by intro z;ext z)]
theorem xZ.put{i:Nat}{ls:!du}(h:xZ C H p tp lu ws)(e:H lu=ac (.lst (ls.map fx)))(g:H q=ac (.lst (bA w)))(E:i<ge ws)(k:∀b u,H b=ac u->b≠lu->H' b=ac u)(r:H' lu=ac (.lst ((ls.map fx).set i (.ref q)))):xZ C H' p tp lu (ws.set i w):=by let c:=h.ne;let#[#[A,y],d,f,D,B]:=h;rw[e] at f;let z:=HO.lst.inj (aI f);let z:ls=d:=(by let:=gZ (List.map λv=>match v with|V.ref a=>a|_=>0) z;rw[bZ,bZ] at this;let s:((λv=>match v with|V.ref a=>a|_=>0)∘fx)=(id:du->du):=rfl;rw[s,List.map_id,List.map_id] at this;erw[this]);subst z;let m:i<ge ls:=∅;let x:q≠lu:=(by erw[rD g e λz=>?_];erw[Ah (aa m) (HO.lst.inj z)]);exists #[A,k _ _ y c],ls.set i q,by rw[r,lE],by rw[bu,bu,D],λj l t a b=>?_;rw[cP] at a b;by_cases o:i=j;subst o;rw[eG rfl,eG m] at a;rw[eG rfl,eG E] at b;ext a;ext b;erw[k _ _ g x];rw[eH o] at a b;let n:=B j l t a b;erw[k _ _ n (rD n e λz=>Ah a (HO.lst.inj z))]
structure IW(H:Hp)(ls:du)(AV:!du)(bs:!(!Bool)):Prop where
 at_:H ls=ac (.lst (AV.map fx))
 len:ge AV=ge bs
 nd:AV.Nodup
 it:∀(i:Nat)l b,AV[i]?=ac l->bs[i]?=ac b->H l=ac (.lst (b.map fI))
def IW.mono(s:aH H H')(h:IW H ls AV bs):IW H' ls AV bs:=#[s _ _ h.at_,h.len,h.nd,λi l b x y=>s _ _ (h.it i l b x y)]
theorem abK{b:!Bool}{ls:!du}{i:Nat}(e:ls[i]?=ac l):b.map fI≠ls.map fx:=by intro z;let a:(b.map fI)[i]?=ac (fx l):=(by rw[z,ao,e];rfl);rw[ao] at a;cases c:b[i]? with|none=>rw[c] at a;ext a|some k=>rw[c] at a;ext a
theorem IW.put{i:Nat}{b:!Bool}(h:IW H ls AV bs)(f:AV[i]?=ac l)(k:∀c u,H c=ac u->c≠l->H' c=ac u)(hl:H' l=ac (.lst (b.map fI)))(d:ls≠l):IW H' ls AV (bs.set i b):=by exists k _ _ h.at_ d,by rw[bu,h.len],h.nd,λj n p x y=>?_;let a:i<ge bs:=(by rw[<- h.len];erw[(ai.mp f).1]);rw[cP] at y;by_cases e:i=j;subst e;rw[eG rfl,eG a] at y;ext y;rw[f] at x;ext x;erw[hl];rw[eH e] at y;erw[k _ _ (h.it j n p x y) λz=>e ?_];subst z;let o:=ai.mp f;let g:=ai.mp x;let#[r,a2]:=o;let#[q,m]:=g;erw[(List.getElem_inj h.nd).mp (a2.trans m.symm)]
theorem eN.but{K:ah}{C:du}{tp:du}(h:eN K C H tp ln lr ns rs)(k:∀b o,H b=ac o->b≠p->H' b=ac o)(a:H p=ac (.ins C' dx fs))(g:tp≠p):eN K C H' tp ln lr ns rs:=by let#[#[d,f],c,i,e,j]:=h;erw[#[d,k _ _ f g],k _ _ c (rD c a (by intro z;ext z)),i,k _ _ e (rD e a (by intro z;ext z)),mW k a j]
end
end TW
namespace L2
open PySem PySem.Spec PyProof.Rows
section
variable{X:Cx}
theorem Zx(K:ah)(e:X.K=K)(c:PE X a ta)(d:∀b,isTrue a X.env b=(do let v <- b;standAt a.pos;holding [v] (truthy v))):PT X a (zr K ta):=by subst e;erw[HR c d]
end
end L2
namespace TW
open PySem L2 PyProof.Rows
noncomputable def x6(e:Int)(g:Nat):Bool:=decide (e/2^g%2=1)
theorem Tn{e:Int}{g:Nat}(d:1<=e)(f:e<=7)(a:([1,2,4]:!Int)[g]?=ac z):((decide (Builtin.bitAnd e z=0)).not)=x6 e g:=by let c:g=0\/g=1\/g=2:=(by let:=(ai.mp a).1;simp at this;lia);let b:e=1\/e=2\/e=3\/e=4\/e=5\/e=6\/e=7:=∅;obtain rfl|rfl|rfl:=c <;> ext a <;> obtain rfl|rfl|rfl|rfl|rfl|rfl|rfl:=b <;> decide +kernel
theorem tm{g:Nat}(h:g<3):∃z,([1,2,4]:!Int)[g]?=ac z:=#[_,aa h⁻¹]
noncomputable def hQ(rs:!R5)(ws:!(!Nat))(g i:Nat):Bool:=match rs[i]?,ws[i]? with|some r,ac w=>(w.isEmpty.not)&&x6 r.e g|_,_=>dr
noncomputable def pL(rs:!R5)(ws:!(!Nat))(g n:Nat):!Nat:=(av n).filter (hQ rs ws g)
theorem p5(rs:!R5)(ws:!(!Nat))(g n:Nat):pL rs ws g (n+1)=pL rs ws g n++(if hQ rs ws g n=df then [n] else []):=by delta pL;rw[fk,dZ];congr 1;by_cases h:hQ rs ws g n=df;rw[eG h,kZ,eG h];rfl;rw[eH h,kZ,eH h];rfl
theorem Fx(rs:!R5)(ws:!(!Nat))(g n:Nat):ge (pL rs ws g n)<=n:=by let:=bx (hQ rs ws g) (av n);rw[aX] at this;erw[this]
theorem Zy(b:!Bool):b.any id=(gL b).isEmpty.not:=by cases e:gL b with|nil=>let:=PD.mp e;let:b.any id=dr:=(by rw[Bool.eq_false_iff];intro z;let#[x,d,a]:=k7.mp z;rw[this x d] at a;ext a);rw[this];rfl|cons k r=>let c:k∈gL b:=(by rw[e];simp);let:=iy.mp c;let:b.any id=df:=k7.mpr #[df,aD this,2];rw[this];rfl
end TW
namespace L2
open PySem PySem.Spec PyProof.Rows
structure wa(K:ah)(C:du)(m:Str)(f:du):Prop where
 hg:PySem.W.specialIn K (.ref C) "__getattribute__" = ac (ac (.builtin "type.__getattribute__"))
 hr:PySem.W.readsIn K C (.type "type")=df
 md:PySem.W.findCls K (.ref C) (.type "type") m=ac (.val (.ref f))
 kp:fz K (.ref f)=df
section
variable{X:Cx}
def HY(d:PE X e t)(c:PE X e u):PE X e (λb H Q=>t b H Q\/u b H Q):=λa s b H Q I h=>h.elim (d a s b H Q I) (c a s b H Q I)
end
def Nw(C:du)(sp:Sp)(EZ:!V)(E:XK)(ta:TE)(t:TA):TE:=λσ H Q=>ta σ H λx H1=>x=.ref C/\t σ H1 λvs H2=>sp (vs++EZ) H2 Q E
section
variable{X:Cx}{CX:Za}{k:Nat}{f C:du}{fd:FuncData}{ps:!Str}{sp:Sp}{EZ:!V}{ds:!dy}{E:XK}{x m:Str}{p pos apos:Pos}{e o:Expr}{es:!Expr}{ta:TE}{t:TA}
theorem V2{pl:Sem Bool}(B:PE X o ta)(c:wa X.K C m f)
 (F:ou X.prog X.w X.K X.mg X.base CX k f fd ps sp) (hr:mK k X.A) (y:Binds X.K fd ps ds) (G:cO EZ ds) (n:wA CX X E) (J:PA X (e::es) t)
 (g:eP (e::es) X.env=(dr,eval e X.env)::eP es X.env:=by rfl) (d:(backTo pos (eP es X.env)).any (·.1)=dr:=by rfl)
 (N:eval (.Call (.Attribute o m apos) (e::es) [] pos) X.env=(do
  let j <- eval o X.env
  standAt apos.atName
  let (f,first) <- holding [j] (getMethod j m pl)
  callWith pos f first (backTo pos (eP (e::es) X.env)) (backToKw pos (keywordEach [] X.env))):=by rfl):
 PE X (.Call (.Attribute o m apos) (e::es) [] pos) (Nw C sp EZ E ta t):=by intro a s i H Q I h;erw[PySem.W.methodCall_KW (pl:=pl) (iS (B a s i H _ I h) λu z u_=>?_) N];let#[x,v,b,L,p,q]:=u_;subst p;obtain rfl:u=Value.ref C:=L;erw[PySem.W.method_cls b.NI c.hg (PySem.W.cls_value b.NI c.hr c.md rfl ?_)];let D:=b.tok (z.toks+1);erw[vW (first:=[]) (h₀:=X.base) I.ok.mod.DL c.kp (iS (J pos a _ i v _ D q) λus O ⟨vs,P,l,r,M⟩=>#[l.NI,4]) g d];erw[K5 (us:=us) (vs:=vs) F hr y G n l r M]
end
end L2
namespace TW
open PySem L2 PyProof.Rows
theorem lK{b:Bool}{A B:Prop}(e:b=dr)(h:B):if b=df then A else B:=by subst e;erw[fP h]
theorem E5{b:Bool}{A B:Prop}(e:b=df)(h:A):if b=df then A else B:=by subst e;erw[fZ h]
inductive JD(cL c1 cA:du)(H:Hp)(a:du)(s to:Int):Int->Prop
 |bare (dx:du) (h:H a=ac (.ins cL dx [("sender",.int s)])):JD cL c1 cA H a s to 0
 |one (dx:du) (h:H a=ac (.ins c1 dx [("sender",.int s),("to",.int to)])):JD cL c1 cA H a s to 1
 |all (dx:du) (h:H a=ac (.ins cA dx [("sender",.int s)])):JD cL c1 cA H a s to 2
section
variable{cL c1 cA:du}{H H':Hp}{a lh q:du}{s to k:Int}{xs:!V}
theorem JD.mono(h:JD cL c1 cA H a s to k)(e:aH H H'):JD cL c1 cA H' a s to k:=by cases h with|bare b h=>erw[.bare b (e _ _ h)]|one b h=>erw[.one b (e _ _ h)]|all b h=>erw[.all b (e _ _ h)]
end
end TW
namespace L2
open PySem PySem.W PyProof.Rows
section
variable{n:Nat}{r:Nat->Int}{cmp:Nat->Nat->(Bool->dA->Prop)->dA->Prop}{s:dA}
variable(hc:∀i j C,i<n->j<n->C (decide (r i<r j)) s->cmp i j C s)
include hc
end
end L2
namespace L2
open PySem PySem.W PySem.Spec PyProof.Rows
abbrev T3:=Int×Int×Int
section
variable{X:Cx}
theorem XC:∀{qs:!du}{a:!dy},cO (qs.map fx) a->a=qs.map Value.ref
 |[],_,r=>by ext r;rfl
 |q::qs,_,r=>by
  cases r with
  |cons h t=>
   let h:_=Value.ref q:=h;rw[h,XC t];rfl
end
end L2
namespace L2
end L2
namespace TW
open PySem L2 PyProof.Rows
noncomputable def p6(t:T3):!hJ×V:=([.inl t.1,.inl t.2.1],.int t.2.2)
noncomputable abbrev ik(h c:Int):!hJ:=[.inl h,.inl c]
def gB(ts:!T3):Prop:=(ts.map λt=>(t.1,t.2.1)).Nodup
noncomputable def yP(ts:!T3)(h c:Int):Option Int:=(ts.find? λt=>decide (t.1=h/\t.2.1=c)).map λt=>t.2.2
noncomputable def hX(ts:!T3)(h c r:Int):!T3:=(ts.filter λt=>(decide (t.1=h/\t.2.1=c)).not)++[(h,c,r)]
theorem Zz(n:gB ts):yP ts h c=ac r↔(h,c,r)∈ts:=by
 delta yP;constructor;intro e;cases f:ts.find? λt=>decide (t.1=h/\t.2.1=c) with|none=>rw[f] at e;ext e|some t=>rw[f] at e;ext e;let a:=List.find?_some f;let b:=List.mem_of_find?_eq_some f;let a:t.1=h/\t.2.1=c:=a⁻¹;let#[o,m,p]:=t;let#[rfl,rfl]:=a;erw[b]
 intro e;cases f:ts.find? λt=>decide (t.1=h/\t.2.1=c) with|none=>let:=List.find?_eq_none.mp f _ e;simp at this|some t=>let a:=List.find?_some f;let b:=List.mem_of_find?_eq_some f;let a:t.1=h/\t.2.1=c:=a⁻¹;let#[i,k]:=c7 e;let#[j,d]:=c7 b;let g:(ts.map λt=>(t.1,t.2.1))[i]?=ac (h,c):=(by rw[ao,k];rfl);let l:(ts.map λt=>(t.1,t.2.1))[j]?=ac (h,c):=(by rw[ao,d,<- a.1,<- a.2];rfl);let:i=j:=(List.getElem?_inj (ai.mp g).1 n).mp (g.trans l.symm);subst this;rw[k] at d;ext d;rfl
theorem abL(n:gB ts):gB (hX ts h c r):=by delta gB hX;rw[aN,iP];erw[4,-_,λx f y b=>?_];erw[List.Nodup.sublist ((jV).map _) n];let#[t,d,rfl]:=aG.mp f;let a:=(aZ.mp d).2;let e:y=(h,c):=b⁻¹;rw[e];intro z;let g:t.1=h/\t.2.1=c:=#[(Prod.mk.inj z).1,(Prod.mk.inj z).2];simp[g] at a
theorem rL(t:T3)(h c:Int):(p6 t).1=ik h c↔t.1=h/\t.2.1=c:=by delta p6 ik;constructor;intro e;let a:=(rA e).1;let b:=(rA (rA e).2).1;erw[Sum.inl.inj a,Sum.inl.inj b];intro ⟨rfl,rfl⟩;rfl
theorem Lk:∀(ts:!T3)(h c:Int),CO (ts.map p6) (ik h c)=(yP ts h c).map fw
 |[],h,c=>rfl
 |t::ts,h,c=>by
  rw[bz];by_cases e:t.1=h/\t.2.1=c
  ·rw[CP ((rL t h c).mpr e)]
   delta yP;rw[List.find?_cons_of_pos (by simp[e])];rfl
  ·rw[CQ (λz=>e ((rL t h c).mp z)),Lk ts h c]
   delta yP;rw[List.find?_cons_of_neg (by rw[gh e];erw[aU])]
noncomputable def GI(h c r:Int)(t:T3):T3:=if t.1=h/\t.2.1=c then (h,c,r) else t
theorem abM(h c r:Int)(t:T3):((GI h c r t).1,(GI h c r t).2.1)=(t.1,t.2.1):=by delta GI;split;rename_i e;show (h,c)=(t.1,t.2.1);rw[e.1,e.2];rfl
theorem PF{h c r:Int}:∀{ts:!T3},gB ts->(∃t∈ts,t.1=h/\t.2.1=c)->(ts.map (GI h c r)).Perm (hX ts h c r)
 |[],_,⟨_,h,_⟩=>by ext h
 |t::ts,n,f=>by
  let i:gB ts:=(dY.mp n).2;let g:=(dY.mp n).1;delta hX;by_cases e:t.1=h/\t.2.1=c
  ·let b:∀u∈ts,¬(u.1=h/\u.2.1=c):=λu hu z=>g (aG.mpr #[u,hu,Prod.ext (z.1.trans e.1.symm) (z.2.trans e.2.symm)])
   let d:ts.map (GI h c r)=ts:=by
    erw[(dm λu hu=>?_).trans (List.map_id ts)];delta GI;rw[eH (b u hu)];rfl
   let j:ts.filter (λu=>(decide (u.1=h/\u.2.1=c)).not)=ts:=List.filter_eq_self.mpr λu hu=>by rw[gh (b u hu)];rfl
   rw[bz,d,kZ,eH (by simp[e]),j];let a:GI h c r t=(h,c,r):=by delta GI;rw[eG e]
   rw[a];erw[(List.perm_append_comm (l₁:=[(h,c,r)]) (l₂:=ts))]
  ·let a:GI h c r t=t:=by delta GI;rw[eH e]
   rw[bz,a,kZ,eG (by rw[gh e];rfl)];erw[List.Perm.cons t (PF i ?_)];let#[u,hu,z]:=f;obtain rfl|hu:=aT.mp hu
   ·erw[ff z e]
   ·erw[u,hu,z]
def PK{xs:!T3}(a:xs.Perm ys)(h c r:Int):(hX xs h c r).Perm (hX ys h c r):=(a.filter _).append_right _
theorem V3{ts:!T3}(f:ts.Perm ks)(n:gB ts):∃b,ih (ts.map p6) (ik h c) (fw r)=b.map p6/\b.Perm (hX ks h c r)/\gB b:=by delta ih;by_cases a:((ts.map p6).any λg=>decide (g.1=ik h c))=df;rw[eG a];erw[ts.map (GI h c r),444];rw[bZ,bZ];erw[dm λt _=>?_];show (if (p6 t).1=ik h c then ((p6 t).1,fw r) else p6 t)=p6 (GI h c r t);delta GI;by_cases e:t.1=h/\t.2.1=c;rw[eG ((rL t h c).mpr e),eG e,(rL t h c).mpr e];rfl;rw[eH (λz=>e ((rL t h c).mp z)),eH e];erw[(PF n ?_).trans (PK f h c r)];let#[g,j,i]:=k7.mp a;let#[t,d,rfl]:=aG.mp j;erw[t,d,(rL t h c).mp (g4 i)];delta gB;rw[bZ];let:((λt:T3=>(t.1,t.2.1))∘GI h c r)=λt:T3=>(t.1,t.2.1):=funext λt=>abM h c r t;rw[this];erw[n];rw[eH a];let k:∀t∈ts,¬(t.1=h/\t.2.1=c):=λt d z=>a (k7.mpr #[p6 t,aG.mpr #[t,d,2],fy ((rL t h c).mpr z)]);let e:hX ts h c r=ts++[(h,c,r)]:=(by delta hX;rw[List.filter_eq_self.mpr λu l=>by rw[gh (k u l)];rfl]);exists ts++[(h,c,r)],by rw[aN];rfl,e▸PK f h c r,e▸abL n
structure wK(C:du)(H:Hp)(p d:du)(ts:!T3):Prop where
 ob:∃dx,H p=ac (.ins C dx [("kept",.ref d)])
 di:H d=ac (.dT (ts.map p6))
theorem wK.mono(s:aH H H')(h:wK C H p d ts):wK C H' p d ts:=by let#[#[c,b],a]:=h;erw[#[c,s _ _ b],s _ _ a]
def Ai(u:HO):Prop:=∀xs,u≠.tup xs/\∀o,u≠.Y0 o (.tup xs)
theorem jm:Ai (.lst ys):=λa=>#[λe=>(by ext e),λo e=>(by ext e)]
theorem No:Ai (.dT kvs):=λa=>#[λe=>(by ext e),λo e=>(by ext e)]
theorem n9:Ai (.ins C dx fs):=λa=>#[λe=>(by ext e),λo e=>(by ext e)]
theorem dH.past{K:ah}{H f:Hp}(d:H z=ac u)(g:Ai u)(c:∀b v,H b=ac v->b≠z->f b=ac v)(h:dH K H a xs):dH K f a xs:=by obtain (h|⟨o,h⟩)|h:=h;erw[.inl (.inl (c _ _ h λe=>by subst e;rw[d] at h;erw[(g xs).1 (aI h)]))];erw[.inl (.inr #[o,c _ _ h λe=>by subst e;rw[d] at h;erw[(g xs).2 o (aI h)]])];erw[.inr h]
theorem cj:∀b v,H b=ac v->b≠z->(upd H z o) b=ac v:=λb v e a=>by rw[aY a];erw[e]
noncomputable def two(f:Bool->du):!V:=[.ref (f dr),.ref (f df)]
noncomputable def oy(b:Bool):Int:=if b=df then 1 else 0
theorem V4{H:Hp}(d:H a=ac u)(c:H b=ac v)(n:u≠v):a≠b:=λe=>by
 subst e;rw[d] at c;erw[n (aI c)]
end TW
namespace L2
open PySem PySem.W PySem.Spec PyProof.Rows
end L2
namespace TW
open PySem L2 PyProof.Rows
theorem CZ{J:It}{n:Nat}{q:!(Option Nat)}{g:TG}{G:TT}{E:TE}{B:L2.St}{I:Hp->Prop}{k:Hp}{c:du}(C:Nat->V)(f:Nat->Option V)(j:k c=de)(go:∀i H,i<n->aH k H->J.go i H)(stop:∀H,aH k H->J.stop n H)(NK:∀i H x a,i<n->aH k H->J.NK i H x a->a=H/\x=C i)(L:n<=1000)(step:∀(i:Nat)(H:Hp)(R:V->Hp->Prop)(S:Hp->Prop),i<n->aH k H->(∀y a,aH H a->f i=ac y->R y a)->(∀a,aH H a->f i=de->S a) ->g (C i) (lI q B) H λd z=>G d z λb l=>if b=df then E d l R else S l)(A:∀H,aH k H->H c=ac (.lst ((av n).filterMap f))->I H) :∃W:Nat->Nat->Hp->Prop,(∃m,W 0 m (upd k c (.lst [])))/\∀i m H,W i m H ->(J.stop i H/\I H)\/(J.go i H/\∀x a,J.NK i H x a->g x (lI q B) a λd z=>G d z λb l=>if b=df then E d l λy w=>∃xs,w c=ac (.lst xs)/\ge xs<eD /\∃p,p<m/\W (i+1) p (upd w c (.lst (xs++[y]))) else ∃p,p<m/\W (i+1) p l):=by
 let o:∀i,ge ((av i).filterMap f)<=i:=λi=>(by let:=uX f (av i);rwa [aX] at this);erw[fK (n:=n) (λi u _=>u=(av i).filterMap f) j go stop rfl ?_ ?_];·rintro i u H r s t rfl x a K;let#[rfl,rfl]:=NK i H x a r s K;let e:(av (i+1)).filterMap f=(av i).filterMap f++(f i).toList:=(by rw[fk,List.filterMap_append];cases h:f i <;> simp[h]);erw[step i a _ _ r s (λy w F v=>?_) (λl D v=>?_)];erw[dS j r (s.trans F) (F _ _ t) (bP (aJ (o i) (aJ (gp r) L))) ?_];show _=(av (i+1)).filterMap f;rw[e,v];rfl;erw[gU r (s.trans D) (D _ _ t) ?_];show _=(av (i+1)).filterMap f;rw[e,v];simp
 rintro u H s t rfl;erw[A H s t]
theorem AW{a b:Type}:∀(xs:!a)(F:a->Option b),(av (ge xs)).filterMap (λi=>xs[i]?.bind F)=xs.filterMap F
 |[],F=>rfl
 |x::xs,F=>by
  let e:((λi:Nat=>(x::xs)[i]?.bind F)∘Nat.succ)=λi=>xs[i]?.bind F:=funext λi=>-_
  rw[bG,List.range_succ_eq_map,fO,List.filterMap_map,e,AW xs F,fO];rfl
theorem ZA{K:ah}{l c:du}{xs:!Int}{q:!(Option Nat)}{g:TG}{B:TT}{A:TE}{w:L2.St}{D:Hp->Prop}{j:Hp}(F:Int->Option V)(o:j c=de)(hl:bJ K j l (xs.map fw))(I:ge xs<=1000)(step:∀(x:Int)(H:Hp)(R:V->Hp->Prop)(S:Hp->Prop),x∈xs->aH j H->(∀y a,aH H a->F x=ac y->R y a)->(∀a,aH H a->F x=de->S a) ->g (.int x) (lI q w) H λd t=>B d t λb k=>if b=df then A d k R else S k)(v:∀H,aH j H->H c=ac (.lst (xs.filterMap F))->D H) :∃W:Nat->Nat->Hp->Prop,(∃m,W 0 m (upd j c (.lst [])))/\∀i m H,W i m H ->((QA K l).stop i H/\D H)\/((QA K l).go i H/\∀x a,(QA K l).NK i H x a->g x (lI q w) a λd t=>B d t λb k=>if b=df then A d k λy z=>∃xs,z c=ac (.lst xs)/\ge xs<eD /\∃p,p<m/\W (i+1) p (upd z c (.lst (xs++[y]))) else ∃p,p<m/\W (i+1) p k):=by let E:ge (xs.map fw)=ge xs:=af _;erw[CZ (n:=ge xs) (λi=>(xs.map fw).getD i .gw) (λi=>xs[i]?.bind F) o (λi H f s=>jC hl i H (by rw[E];erw[f]) s) (λH s=>by let:=fQ hl H s;rwa [E] at this) (λi H x a f s h=>?_) I (λi H R S f s L G=>?_) (λH s J=>v H s (by rw[<- AW];erw[J]))];let#[rfl,h]:=h;let h:=h _ (s.seq hl);erw[2,by rw[ak,h];rfl];let e:(xs.map fw).getD i .gw=fw xs[i]:=(by rw[ak,ao,aa f];rfl);let C:xs[i]?=ac xs[i]:=aa f;rw[e];erw[step _ H R S (aB f) s (λy a u r=>L y a u ?_) (λa u r=>G a u ?_)];show xs[i]?.bind F=_;rw[C];erw[r];show xs[i]?.bind F=_;rw[C];erw[r]
theorem ZC(xs:!Int)(f:Int->Bool):xs.filterMap (λx=>if f x=df then ac (fw x) else de)=(xs.filter f).map fw:=by induction xs with|nil=>rfl|cons x xs a=>by_cases h:f x=df;rw[dc h,bz,<- a,fO];simp only[h,if_true];rw[dg h,<- a,fO];simp only[h];rfl
theorem wL{K:ah}{l c:du}{xs:!Int}{n:!(Option Nat)}{g:TG}{w:TT}{v:TE}{t:L2.St}{z:Hp->Prop}{e:Hp}(f:Int->Bool)(j:e c=de)(hl:bJ K e l (xs.map fw))(C:ge xs<=1000)(step:∀(x:Int)(H:Hp)(R:V->Hp->Prop)(S:Hp->Prop),x∈xs->aH e H->(∀a,aH H a->f x=df->R (.int x) a)->(∀a,aH H a->f x=dr->S a) ->g (.int x) (lI n t) H λd p=>w d p λb h=>if b=df then v d h R else S h)(r:∀H,aH e H->H c=ac (.lst ((xs.filter f).map fw))->z H) :∃W:Nat->Nat->Hp->Prop,(∃m,W 0 m (upd e c (.lst [])))/\∀i m H,W i m H ->((QA K l).stop i H/\z H)\/((QA K l).go i H/\∀x a,(QA K l).NK i H x a->g x (lI n t) a λd p=>w d p λb h=>if b=df then v d h λy u=>∃xs,u c=ac (.lst xs)/\ge xs<eD /\∃k,k<m/\W (i+1) k (upd u c (.lst (xs++[y]))) else ∃k,k<m/\W (i+1) k h):=by erw[ZA (λx=>if f x=df then ac (fw x) else de) j hl C (λx H R S B s E A=>step x H R S B s (λa q o=>E _ a q (eG o)) (λa q o=>A a q (eH (by rw[o];erw[aU])))) (λH s D=>r H s (by rw[<- ZC];erw[D]))]
def v0(u:HO):Prop:=∀xs,u≠.lst xs/\∀o,u≠.Y0 o (.lst xs)
theorem Bi:v0 (.ins C dx fs):=λa=>#[λe=>(by ext e),λo e=>(by ext e)]
theorem bJ.past{K:ah}{H f:Hp}(d:H z=ac u)(g:v0 u)(c:∀b v,H b=ac v->b≠z->f b=ac v)(h:bJ K H a xs):bJ K f a xs:=by obtain (h|⟨o,h⟩)|h:=h;erw[.inl (.inl (c _ _ h λe=>by subst e;rw[d] at h;erw[(g xs).1 (aI h)]))];erw[.inl (.inr #[o,c _ _ h λe=>by subst e;rw[d] at h;erw[(g xs).2 o (aI h)]])];erw[.inr h]
noncomputable def HZ(c:Option Int):V:=(c.map fw).getD .gw
theorem GJ(i:Int)(c:Option Int):pk (.int i) (HZ c)=df:=by ext c <;> rfl
theorem abO(c:Option Int):Cq (HZ c)=df:=by ext c <;> rfl
theorem Ll(xs:!Int):NF .gw (xs.map fw)=dr:=by delta NF;rw[List.any_map,List.any_eq_false];intro x _;show ¬(Zd (.int x) .gw)=df;simp[Zd]
noncomputable def mY(c:Option Int)(r:Int):Bool:=(decide (fw r=HZ c)).not
noncomputable def ZD(ts:!T3)(so:Option Int)(qp:Int)(cK:Option Int)(os hs:!Int):!Int:=
 match so with
 |none=>os.filter (mY cK)
 |some to=>if to∈hs then [] else match yP ts qp to with
  |some r=>if r∈os then [r].filter (mY cK) else os.filter (mY cK)
  |none=>os.filter (mY cK)
noncomputable def Ia(s to k c:Int):Bool:=if k=1 then decide (fw c=fw to) else if k=2 then (decide (fw c=fw s)).not else dr
noncomputable def sy(to k:Int):Option Int:=if k=1 then ac to else de
theorem made{H:Hp}(c:H x=de)(b:H dx=de)(a:dx≠x):aH H (upd (upd (upd H dx (.own x)) x (.ins C dx [])) x (.ins C dx fs)):=by rw[Qt];erw[(aH.new b).trans (aH.new (by rw[aY (cC a)];erw[c]))]
theorem neT{b:Bool}(h:¬b=df):b=dr:=by ext b;rfl;erw[ff rfl h]
end TW
namespace TX
open PySem PySem.StrLaws PySem.Builtin PySem.Builtin.Str
noncomputable abbrev cs(x:Str):!Nat:=x.cps.toList
def V5(h:cs x=cs y):x=y:=Str.ext' (Array.toList_inj.mp h)
theorem AX(a b:Str):cs (a++b)=cs a++cs b:=by show (Str.append a b).cps.toList=_;simp[Str.append,cs]
def yQ(x:Str):ge (cs x)=x.length:=eK
noncomputable def inter(sep:!Nat):!(!Nat)->!Nat
 |[]=>[]
 |[p]=>p
 |p::q::r=>p++(sep++inter sep (q::r))
theorem x8(a:Str):∀l:!Str,cs (Str.join a l)=inter (cs a) (l.map cs)
 |[]=>rfl
 |[x]=>rfl
 |x::y::r=>by
  show cs (x++a++Str.join a (y::r))=cs x++(cs a++inter (cs a) ((y::r).map cs));rw[AX,AX,x8 a (y::r),dW]
theorem cut{c:Nat}:∀{p q X Y:!Nat},c∉p->c∉q->p++c::X=q++c::Y->p=q/\X=Y
 |[],[],X,Y,_,_,h=>#[2,(rA h).2]
 |[],b::q,X,Y,_,d,h=>ff (rA h).1 λe=>d (e▸aM ..)
 |a::p,[],X,Y,f,_,h=>ff (rA h).1 λe=>f (e▸aM ..)
 |a::p,b::q,X,Y,f,d,h=>by
  let g:=rA h;let#[i,j]:=cut (λz=>f (aO _ z)) (λz=>d (aO _ z)) g.2;exists by rw[g.1,i],j
theorem PL{c:Nat}{t:!Nat}:∀{l m:!(!Nat)},l≠[]->m≠[]->(∀p∈l,c∉p)->(∀p∈m,c∉p)->inter (c::t) l=inter (c::t) m->l=m
 |[],_,h,_,_,_,_=>ff rfl h
 |_::_,[],_,h,_,_,_=>ff rfl h
 |[p],[q],_,_,_,_,h=>by rw[show p=q from h]
 |[p],q::q'::r,_,_,hl,_,h=>by
  let h:p=q++(c::t++inter (c::t) (q'::r)):=h;erw[ff (by rw[h];simp) (hl p (aM ..))]
 |p::d::r,[q],_,_,_,a,h=>by
  let h:p++(c::t++inter (c::t) (d::r))=q:=h;erw[ff (by rw[<- h];simp) (a q (aM ..))]
 |p::d::r,q::q'::s,_,_,hl,a,h=>by
  let h:p++c::(t++inter (c::t) (d::r))=q++c::(t++inter (c::t) (q'::s)):=h;let#[e,f]:=cut (hl p (aM ..)) (a q (aM ..)) h;let g:=PL (-_) (-_) (λx b=>hl x (aO _ b)) (λx b=>a x (aO _ b)) (List.append_cancel_left f);rw[e,g]
theorem To{c:Nat}{t:!Nat}(a:c∉t):∀{l:!(!Nat)}{k:Nat},(∀p∈l,c∉p)->(inter (c::t) l)[k]?=ac c->((inter (c::t) l).drop k).take (ge t+1)=c::t
 |[],k,_,h=>by simp[inter] at h
 |[p],k,hl,h=>ff (aD h) (hl p (aM ..))
 |p::q::r,k,hl,h=>by
  let e:inter (c::t) (p::q::r)=p++(c::t++inter (c::t) (q::r)):=rfl;rw[e] at h ⊢;by_cases f:k<ge p
  ·rw[aW f] at h
   erw[ff (aD h) (hl p (aM ..))]
  ·rw[bE ∅] at h
   rw[List.drop_append,List.drop_eq_nil_of_le ∅,List.nil_append];generalize k-(ge p)=j at h;by_cases b:j<ge (c::t)
   ·rw[aW b] at h
    cases j with
    |zero=>simp
    |succ j=>erw[ff (aD h⁻¹) a]
   ·rw[bE ∅] at h
    let:=To a (λx d=>hl x (aO _ d)) h
    rw[List.drop_append,List.drop_eq_nil_of_le ∅,List.nil_append];erw[this]
theorem abP(x y:Str):Txt.split x y≠[]:=by delta Txt.split;split;simp;split;simp;rw[partsBetween_eq];let#[p,r,e]:=partsFrom_ne x y.length 0 (occurrences x y 0 x.length (x.length+1));rw[e];simp
theorem Lm:∀{l m:!Str},l.map cs=m.map cs->l=m
 |[],[],_=>rfl
 |[],_::_,h=>by simp at h
 |_::_,[],h=>by simp at h
 |x::l,y::m,h=>by
  let a:=rA h;rw[V5 a.1,Lm a.2]
theorem Ln{c:Nat}{t:!Nat}{ws:!Str}(d:cs y=c::t)(g:ws≠[])(f:∀w∈ws,c∉cs w)(hs:∀p∈Txt.split (Str.join y ws) y,c∉cs p):Txt.split (Str.join y ws) y=ws:=by let h:=gZ cs (join_split (Str.join y ws) y);rw[x8,x8,d] at h;erw[Lm (PL (c:=c) (t:=t) ?_ ?_ ?_ ?_ h)];intro e;erw[abP _ _ (List.map_eq_nil_iff.mp e)];intro e;erw[g (List.map_eq_nil_iff.mp e)];intro p b;let#[q,a,rfl]:=aG.mp b;erw[hs q a];intro p b;let#[q,a,rfl]:=aG.mp b;erw[f q a]
def Ib{c:Nat}{ws:!Str}(b:ws≠[])(a:∀w∈ws,c∉cs w):Txt.split (Str.join #[[c].toArray] ws) #[[c].toArray]=ws:=Ln (t:=[]) rfl b a (split_free _ c)
theorem Lo(i:∀k,(cs x)[k]?=ac c->At x y x.length k){a b:Nat}(g:∀k,a<=k->k<b->¬At x y x.length k):c∉cs (strSub x a b):=by intro d;let d:c∈((cs x).drop a).take (b-a):=(by rw[<- strSub_toList];erw[d]);let#[j,f]:=c7 d;let e:j<b-a:=(by let h:=(ai.mp f).1;rw[bU] at h;lia);rw[jg e,List.getElem?_drop] at f;erw[g (a+j) ∅ ∅ (i _ f)]
theorem JE{x y:Str}{c:Nat}(i:∀k,(cs x)[k]?=ac c->At x y x.length k):∀(b:!Nat)(a f:Nat),ChainG x y x.length a b f->(∀k,f<=k->¬At x y x.length k)->∀p∈partsFrom x y.length a b,c∉cs p
 |[],a,f,h,j,p,g=>by
  let e:f=a:=h;subst e;rw[aP.mp g];erw[Lo i λk l _=>j k l]
 |d::r,a,f,h,j,p,g=>by
  let#[l,o,n,m]:=h;obtain e|hp':=aT.mp g
  ·rw[e]
   erw[Lo i n]
  ·erw[JE i r _ f m j p hp']
theorem ZE{c:Nat}{t:!Nat}{ws:!Str}(d:cs y=c::t)(F:c∉t)(j:tY y=1)(A:ws≠[])(n:∀w∈ws,c∉cs w):Txt.split (Str.join y ws) y=ws:=by let i:∀k,(cs (Str.join y ws))[k]?=ac c->At (Str.join y ws) y (Str.join y ws).length k:=λk h=>(by let e:=x8 y ws;rw[d] at e;let G:=h;rw[e] at h;let m:=To F (λp a=>by let#[q,u,rfl]:=aG.mp a;erw[n q u]) h;rw[<- e] at m;let z:y.length=ge t+1:=(by rw[<- yQ,d];rfl);exists 44;let:=gZ ge m;rw[bU,um,yQ] at this;simp only[bG] at this;lia;rw[subAt_eq,z];show (List.take (ge t+1) (List.drop k (cs (Str.join y ws)))==cs y)=df;rw[m,d];erw[beq_self_eq_true _]);erw[Ln d A n λp a=>?_];let l:1<=y.length:=(by rw[<- yQ,d];simp);let s:∀x:Str,¬tY x<tY y:=λx=>(by rw[j];delta tY;split;lia;·split <;> lia);generalize Str.join y ws=x at i a;let b:(∀k,¬At x y x.length k)->∀p∈[x],c∉cs p:=λh p a=>(by rw[aP.mp a];intro D;let#[k,j]:=c7 D;erw[h k (i k j)]);let#[f,g,o]:=occ_tight x y l;delta Txt.split at a;split at a;rename_i r;rw[qi,decide_eq_true_eq,decide_eq_true_eq] at r;obtain h|h:=r;erw[b (λk E=>by let:=E.1;lia) p a];erw[ff h (s x)];split at a;rename_i B;let C:occurrences x y 0 x.length (x.length+1)=[]:=B⁻¹;rw[C] at g;let v:f=0:=g;subst v;erw[b (λk=>o k (bL _)) p a];rw[partsBetween_eq] at a;erw[JE i _ _ f g o p a]
end TX
namespace TX
open PySem PySem.StrLaws PySem.Builtin PySem.Builtin.Str PySem.NumText
noncomputable abbrev num(n:Int):Str:=eC (toString n)
def QY(m:Nat):cs (num m)=(lA 10 m).map Char.toNat:=PySem.W.KIN.signs_num m
theorem Lp{m:Nat}(h:¬m<10):lA 10 m=lA 10 (m/10)++[Nat.digitChar (m%10)]:=by let a:m%10<10:=Nat.mod_lt m (!_);let t:lA 10 (m/10)++lA 10 (m%10)=lA 10 (10*(m/10)+m%10):=Nat.toDigits_append_toDigits (!_) ∅ a;rw[Nat.div_add_mod,vZ a] at t;erw[t.symm]
theorem XD:∀(k m:Nat),1<=k->m<10^k->ge (lA 10 m)<=k
 |0,_,h,_=>ff h (!_)
 |k+1,m,_,h=>by
  by_cases a:m<10
  ·rw[vZ a]
   show 1<=k+1;lia
  ·rw[Lp a,az]
   let b:m/10<10^k:=by
    rw[Nat.pow_succ] at h;erw[Nat.div_lt_of_lt_mul ∅]
   let c:1<=k:=by
    cases k with
    |zero=>simp at h;lia
    |succ k=>lia
   erw[Nat.succ_le_succ (XD k _ c b)]
theorem XE(m:Nat):lA 10 m≠[]:=by by_cases h:m<10;rw[vZ h];simp;rw[Lp h];simp
theorem abQ:∀d:Nat,d<10->(Nat.digitChar d).toNat=48->d=0:=!_
theorem abR(m:Nat):((lA 10 m).map Char.toNat)[0]?=ac 48->m=0:=by induction m using Nat.strongRecOn with|_ m b=>intro h;by_cases a:m<10;rw[vZ a] at h;erw[abQ m a h⁻¹];rw[Lp a,aN] at h;let c:0<ge ((lA 10 (m/10)).map Char.toNat):=(by rw[af];erw[jT.mpr (XE _)]);rw[aW c] at h;let:=b (m/10) ∅ h;lia
theorem aeD{c:Nat}(h:c∈(lA 10 m).map Char.toNat):48<=c/\c<=57:=by let#[b,a,e]:=aG.mp h;let r:=PyProof.Rows.digit_range (Nat.isDigit_of_mem_toDigits (!_) (!_) a);rw[<- e];erw[r]
abbrev Wr(n:Int):Prop:=0<=n/\n<10^60
theorem gP(h:Wr n):1<=(num n).length/\(num n).length<=60:=by let#[m,rfl]:=nZ h.1;let a:m<10^60:=(by let:=h.2;exact_mod_cast this);rw[<- yQ,QY,af];erw[jT.mpr (XE _),XD 60 m (!_) a]
theorem x9{n:Int}(h:0<=n):∀c∈cs (num n),48<=c/\c<=57:=λc a=>by
 let#[m,rfl]:=nZ h;rw[QY] at a;erw[aeD a]
theorem abS{n:Int}(h:0<=n)(e:(cs (num n))[0]?=ac 48):n=0:=by let#[m,rfl]:=nZ h;rw[QY] at e;rw[abR m e];rfl
theorem num_reads(h:Wr n):PySem.intText? (num n)=ac n:=by let b:=gP h;let#[m,rfl]:=nZ h.1;let e:=intText_digits (x:=num m) (x9 ∅) (by intro z;let:ge (cs (num m))=0:=(by rw[show cs (num m)=[] from z];rfl);rw[yQ] at this;lia) ∅;let a:digitsVal (num (m:Int)).cps.toList=m:=(by let:=QY m;rw[show (num (m:Int)).cps.toList=_ from this];erw[PySem.W.KIN.val_back m]);rw[a] at e;erw[e]
theorem t9{n:Int}(h:0<=n){c:Nat}(a:c<48\/57<c):c∉cs (num n):=λz=>by
 let:=x9 h c z
 lia
theorem PM{n:Int}(h:0<=n):(num n).cps.all (·<128)=df:=by rw[<- Array.all_toList,jl];intro c a;let:=x9 h c a;erw[fy ∅]
end TX
namespace TX
open PySem PySem.StrLaws PySem.Builtin PySem.Builtin.Str
noncomputable abbrev oz:Str:=" "
noncomputable abbrev ZF:Str:="; "
noncomputable def wordsOf(w:Str)(ns:!Int):!Str:=w::ns.map num
noncomputable def fJ(w:Str)(ns:!Int):Str:=Txt.join oz (wordsOf w ns)
noncomputable def partsOf(nm:!Int)(rs cl:!(!Int)):!Str:=fJ "names" nm::(rs.map (fJ "rope")++cl.map (fJ "caller"))
noncomputable def qt(nm:!Int)(rs cl:!(!Int)):Str:=Txt.join ZF (partsOf nm rs cl)
def join_eq(s:Str)(l:!Str):Txt.join s l=Str.join s l:=glued_eq_join s l
theorem AY{ns:!Int}(d:32∉cs w)(b:∀n∈ns,Wr n):Txt.split (fJ w ns) oz=wordsOf w ns:=by delta fJ;rw[join_eq];erw[Ib (c:=32) (ws:=wordsOf w ns) (by simp[wordsOf]) λx e=>?_];obtain rfl|h:=aT.mp e;erw[d];let#[n,a,rfl]:=aG.mp h;erw[t9 (b n a).1 (.inl (!_))]
theorem PN{a:!Nat}{c:Nat}(hs:c∉a):∀{l:!(!Nat)},(∀p∈l,c∉p)->c∉inter a l
 |[],_=>by simp[inter]
 |[p],h=>h p (aM ..)
 |p::q::r,h=>by
  show c∉p++(a++inter a (q::r));rw[aR,aR];rintro (z|z|z)
  ·erw[h p (aM ..) z]
  ·erw[hs z]
  ·erw[PN hs (λx b=>h x (aO _ b)) z]
theorem C0{ns:!Int}(d:59∉cs w)(b:∀n∈ns,Wr n):59∉cs (fJ w ns):=by delta fJ;rw[join_eq,x8];erw[PN (!_) λp c=>?_];let#[x,e,rfl]:=aG.mp c;obtain rfl|h:=aT.mp e;erw[d];let#[n,a,rfl]:=aG.mp h;erw[t9 (b n a).1 (.inr (!_))]
theorem V6{nm:!Int}{rs cl:!(!Int)}(e:∀n∈nm,Wr n)(b:∀r∈rs,∀n∈r,Wr n)(f:∀r∈cl,∀n∈r,Wr n):Txt.split (qt nm rs cl) ZF=partsOf nm rs cl:=by delta qt;rw[join_eq];erw[ZE (c:=59) (t:=[32]) (↑_) (!_) (↑_) (by simp[partsOf]) λp d=>?_];obtain rfl|h:=aT.mp d;erw[C0 (↑_) e];obtain h|h:=aR.mp h;let#[r,a,rfl]:=aG.mp h;erw[C0 (↑_) (b r a)];let#[r,a,rfl]:=aG.mp h;erw[C0 (↑_) (f r a)]
theorem Lq{B:Nat}:∀{l:!Nat},(∀x∈l,x<=B)->l.sum<=ge l*B
 |[],_=>-_
 |x::l,h=>by
  let c:=h x (aM ..);let b:=Lq λy a=>h y (aO _ a);rw[lB,bG,Nat.succ_mul];lia
theorem PR{w:Str}{ns:!Int}(f:w.length<=60)(d:∀n∈ns,Wr n):((wordsOf w ns).map (·.length)).sum+ge (wordsOf w ns)*oz.length<=(ge ns+1)*61:=by let h:=Lq (B:=60) (l:=(wordsOf w ns).map (·.length)) λx c=>(by let#[y,e,rfl]:=aG.mp c;obtain rfl|h:=aT.mp e;erw[f];let#[n,a,rfl]:=aG.mp h;erw[(gP (d n a)).2]);let b:ge (wordsOf w ns)=ge ns+1:=(by simp[wordsOf]);let g:oz.length=1:=(by decide +kernel);rw[af,b] at h;rw[b,g];lia
theorem Tp{w:Str}{ns:!Int}(b:w.length<=60)(a:∀n∈ns,Wr n):(fJ w ns).length<=(ge ns+1)*61:=by delta fJ;rw[join_eq];erw[aJ (join_length_le _ _) (PR b a)]
theorem ZG{nm:!Int}{rs cl:!(!Int)}(m:∀n∈nm,Wr n)(d:∀r∈rs,∀n∈r,Wr n)(p:∀r∈cl,∀n∈r,Wr n)(o:ge nm<=12)(q:∀r∈rs,ge r<=12)(f:∀r∈cl,ge r<=12)(t:ge rs<=30)(s:ge cl<=30) :((partsOf nm rs cl).map (·.length)).sum+ge (partsOf nm rs cl)*ZF.length<=100000:=by let a:∀{w:Str}{ns:!Int},w.length<=60->(∀n∈ns,Wr n)->ge ns<=12->(fJ w ns).length<=800:=λ{w ns}k g c=>(by let:=Tp k g;let:(ge ns+1)*61<=13*61:=Nat.mul_le_mul_right _ ∅;lia);let h:=Lq (B:=800) (l:=(partsOf nm rs cl).map (·.length)) λx e=>(by let#[y,i,rfl]:=aG.mp e;obtain rfl|h:=aT.mp i;erw[a (↑_) m o];obtain h|h:=aR.mp h;let#[r,b,rfl]:=aG.mp h;erw[a (↑_) (d r b) (q r b)];let#[r,b,rfl]:=aG.mp h;erw[a (↑_) (p r b) (f r b)]);let c:ge (partsOf nm rs cl)<=61:=(by simp only[partsOf,bG,az,af];lia);let j:ZF.length=2:=(by decide +kernel);rw[af] at h;let:ge (partsOf nm rs cl)*800<=61*800:=Nat.mul_le_mul_right _ c;rw[j];lia
noncomputable def Aj(nm:!Int)(rs cl:!(!Int)):!(!Str):=wordsOf "names" nm::(rs.map (wordsOf "rope")++cl.map (wordsOf "caller"))
theorem JF{nm:!Int}{rs cl:!(!Int)}(d:∀n∈nm,Wr n)(b:∀r∈rs,∀n∈r,Wr n)(c:∀r∈cl,∀n∈r,Wr n):(partsOf nm rs cl).map (λp=>Txt.split p oz)=Aj nm rs cl:=by delta partsOf Aj;rw[bz,aN,bZ,bZ,AY (↑_) d];congr 1;congr 1;erw[dm λr a=>AY (↑_) (b r a)];erw[dm λr a=>AY (↑_) (c r a)]
theorem abT{rs:!(!Int)}{i:Nat}(h:i<ge rs):(Aj nm rs cl)[i+1]?=ac (wordsOf "rope" rs[i]):=by delta Aj;rw[List.getElem?_cons_succ,aW (by rw[af];erw[h]),ao,aa h];rfl
theorem abU{cl:!(!Int)}{j:Nat}(h:j<ge cl):(Aj nm rs cl)[ge rs+j+1]?=ac (wordsOf "caller" cl[j]):=by delta Aj;rw[List.getElem?_cons_succ,bE (by rw[af];lia),af,show ge rs+j-(ge rs)=j by lia,ao,aa h];rfl
theorem QZ(nm:!Int)(rs cl:!(!Int)):ge (Aj nm rs cl)=1+ge rs+ge cl:=by simp[Aj];lia
end TX
namespace L2
open PySem PySem.W PySem.Spec PyProof.Rows
section
variable{X:Cx}
theorem Ic:∀(a:!Str)(t:Nat),cO (a.map fA) (strsFrom t a)
 |[],_=>.nil
 |y::a,t=>.cons #[t,2] (Ic a (t+1))
theorem PU:∀{a:!Str}{us:!dy},cO (a.map fA) us->StrsAre us a
 |[],_,h=>by
  let:=h.zero
  subst this;erw[.nil]
 |y::a,us,h=>by
  cases h with
  |cons r t=>
   let#[k,rfl]:=r;erw[.cons y k (PU t)]
theorem split_len(x y:Str):ge (Txt.split x y)<=x.length+2:=by delta Txt.split;split;show 1<=_;lia;split;show 1<=_;lia;rw[StrLaws.partsBetween_eq];let h:=StrLaws.occ_length_le x y 0 x.length (x.length+1);generalize Builtin.Str.occurrences x y 0 x.length (x.length+1)=b at h;let e:∀(b:!Nat)(a:Nat),ge (StrLaws.partsFrom x y.length a b)=ge b+1:=λb=>(by induction b with|nil=>intro a;rfl|cons c cs d=>intro a;show _+1=_;rw[d];rfl);rw[e];lia
def ah5:V->!V->Hp->VK->Prop:=λx vs H Q=>∃z y,x=.str z/\vs=[.str y]/\(y.length==0)=dr/\z.length<=100000/\∀l,H l=de->Q (.ref l) (upd H l (.lst ((Txt.split z y).map fA)))
theorem GK:qO X "str.split" ah5:=by
 intro f s m H x B v E Q I A p h;let#[z,y,rfl,rfl,j,D,q]:=h;let#[t,rfl]:=A;let#[u,rfl,n]:=p.one;let#[i,rfl]:=n;let C:eD=16777216:=!_;let l:=split_len z y;let c:∀(a:!dy)(k:Nat),cO ((Txt.split z y).map fA) a->EP X f m Q (.ref s.heap.objs.size) {s with heap:=s.heap.push {cls:=.type "list",data:=.seq a.toArray},toks:=k}:=λa k r=>
  #[.ref s.heap.objs.size,_,I.laid (t':=k) (λb o e=>dL _ e) (aA _) (show jL X.prog X.w _ _ _ (.lst ((Txt.split z y).map fA)) from #[by rw[af];lia,a,(0),r,en _ rfl]),2,q _ (I.hok.fresh (aA _))]
 cases d:(decide (z.length<y.length) || decide (Builtin.Str.strKind z<Builtin.Str.strKind y));cases g:(Builtin.Str.occurrences z y 0 z.length (z.length+1)).isEmpty;let e:Txt.split z y=Builtin.Str.partsBetween z (Builtin.Str.occurrences z y 0 z.length (z.length+1)) y.length:=(eH (ne_true_of_eq_false d)).trans (eH (ne_true_of_eq_false g));erw[call_meets F.slot_str_split (typeIs_str _ _ _) F.entry_str_split (F.args_str_split_2 _ _) (meets_str_split_sep z y t i d j g ∅ (by rw[<- e];lia)) ?_];erw[c _ _ (by rw[<- e];erw[Ic _ _])];let e:Txt.split z y=[z]:=(eH (ne_true_of_eq_false d)).trans (eG g);erw[call_meets F.slot_str_split (typeIs_str _ _ _) F.entry_str_split (F.args_str_split_2 _ _) (meets_str_split_not_found z y t i d j g) ?_];erw[c [Value.str z t] s.toks (by rw[e];erw[.cons #[t,2] .nil])];let e:Txt.split z y=[z]:=eG d;erw[call_meets F.slot_str_split (typeIs_str _ _ _) F.entry_str_split (F.args_str_split_2 _ _) (meets_str_split_cannot_occur z y t i d) ?_];erw[c [Value.str z t] s.toks (by rw[e];erw[.cons #[t,2] .nil])]
def i3(K:ah):V->!V->Hp->VK->Prop:=λx vs H Q=>∃z l ys,x=.str z/\vs=[.ref l]/\bJ K H l (ys.map fA)/\(ys.map (·.length)).sum+ge ys*z.length<=16777216/\Q (.str (Txt.join z ys)) H
theorem GL:qO X "str.join" (i3 X.K):=by intro a s m H x o v w Q I i d h;let#[z,l,n,rfl,rfl,b,e,q]:=h;let#[t,rfl]:=i;let#[u,rfl,c]:=d.one;ext c;let#[g,r,f,p]:=I.list b;erw[join_list f.isList (PU r) e λj k=>#[.str _,H,I.tok k,#[j,2],q]]
theorem Ie:pU X (.type "int") (λxs H Q=>∃z n,xs=[.str z]/\PySem.intText? z=ac n/\z.length<=640/\Q (.int n) H):=by intro a s e H xs f Q I r h;let#[z,n,rfl,b,c,q]:=h;let#[u,rfl,d]:=vals1 r;let#[t,rfl]:=d;erw[KIN.call_text b c #[.int n,H,I.tok _,#[1],q]]
noncomputable def mN(x:Str):It:=#[λi _=>i<x.cps.size,λi H v H'=>H'=H/\∃c,x.cps[i]?=ac c/\v=.str #[[c].toArray],λi _=>x.cps.size<=i]
theorem abV{P:ft}{w:World}{K:ah}{M:Expr}(g:du)(x:Str)(t:Tok):iq P w K M (mN x) [g] g (λi h=>h.IsStrIter g "str_ascii_iterator" x t i) where
 mem:=-_
 obj:=λi h st b j=>by
  let e:b=g:=j⁻¹
  subst e;let#[o,e,c,d]:=st;exists o,e,λv z=>by rw[d] at z;ext z
 keep:=λi h n st k=>by
  let#[o,e,c,d]:=st;erw[o,k g (-_) _ e,c,d]
 item:=by
  intro X B u p F i f s D H E I m st a;subst B u p;let a:i<x.cps.size:=a;let#[y,r,J,q,C,A]:=m g (-_);erw[wpAny_pyNext_ascii_item st (c:=x.cps[i]) (by simp[a]) λn l L=>?_];let G:Inv X f D H {s with heap:=n,toks:=s.toks+1}:=I.turned (t':=s.toks+1) (λb o j e=>(L.2 b j).trans e) y r q C A;let#[o,e,c,d]:=id l;erw[1,Xa (s:={s with heap:=n,toks:=s.toks+1}) e c d (!_) #[.str #[[x.cps[i]].toArray],H,G,#[1],#[2,x.cps[i],by simp[a],2],l,λb j=>(m b j).1]]
 done:=by
  intro X B u p F i f s D H E I m st a;subst B u p;let a:x.cps.size<=i:=a;let#[y,r,J,q,C,A]:=m g (-_);erw[wpAny_pyNext_ascii_end (I.ok.hd F) st (Array.getElem?_eq_none a) λn N=>#[2,I.turned (t':=s.toks) (λb o j e=>N b o j e) y r q C A]]
 self:=λ_ _ _ _ _ st h=>wpAny_pyIter_striter_ascii st h
def FM(ts:TE):TI:=λσ H R=>ts σ H λv H1=>∃x:Str,v=.str x/\x.cps.all (·<128)=df/\R (mN x) H1
theorem ah6(hl:PE X l ts):PI X tg l (FM ts):=by intro a s f H R I h;erw[iS (hl a s f H _ I h) λv c u_=>?_];let#[y,g,d,j,x,e,k,q]:=u_;subst e;let#[t,rfl]:=j;erw[wpAny_pyIter_ascii k ?_];erw[c.heap.objs.size,[c.heap.objs.size],33,g,2,d.kept (t':=c.toks) λb o e=>dL _ e,abV _ x t,#[_,en _ rfl,22],λb i=>?_,q];let e:b=c.heap.objs.size:=i⁻¹;subst e;erw[d.aaT (aA _) (d.hok.fresh (aA _))]
def ah7:∀i H,i<x.cps.size->aH H1 H->(mN x).go i H:=λi H a s=>a
def abW:∀H,aH H1 H->(mN x).stop x.cps.size H:=λH s=>aA _
theorem V7(K:ah)(j:X.K=K){o e:Expr}{c:!Expr}{to:TE}{t:TA}{name:Str}{apos a:Pos}{T id:String}{r:V->!V->Hp->VK->Prop}(pa:PlainAttrs T)(h:Slot T name id)(i:typeOf (.builtin id)=pure (.type "method_descriptor"))(n:qO X id r)(l:PE X o to)(m:PA X (e::c) t)(f:attributeBase o name X.env (eval o X.env)=eval o X.env:=by rfl)(g:((backTo a (eP (e::c) X.env)).all (λx=>x.1.not)&&(backToKw a (keywordEach [] X.env)).all (λx=>x.1.isSome)&&decide (ge (e::c)+ge ([]:!Keyword)+(if ([]:!Keyword).isEmpty then 0 else 1)<30))=df:=by rfl)(d:(apos.endLine==a.line)=df:=by rfl)(k:eP (e::c) X.env=(dr,eval e X.env)::eP c X.env:=by rfl)(b:(backTo a (eP c X.env)).any (·.1)=dr:=by rfl) :PE X (.Call (.Attribute o name apos) (e::c) [] a) (sw K T r to t):=by subst j;erw[jM pa h i n l m f g d k b]
def FK(a b:TI):TI:=λσ H R=>a σ H R\/b σ H R
def ah8(f:PI X tg l a)(e:PI X tg l b):PI X tg l (FK a b):=λc s d H R I h=>h.elim (f c s d H R I) (e c s d H R I)
end
theorem Tq{a c:Type}{f g:a->Option c}:∀{l:!a},(∀x∈l,f x=g x)->l.filterMap f=l.filterMap g
 |[],_=>rfl
 |x::l,h=>by
  rw[fO,fO,h x (aM ..),Tq λy b=>h y (aO _ b)]
end L2
namespace TW
open PySem L2 PyProof.Rows
noncomputable abbrev gq(ws:!Str):!V:=ws.map fA
theorem Kz{K:ah}{l a:du}{xs:!V}{q:!(Option Nat)}{g:TG}{A:TT}{z:TE}{v:L2.St}{B:Hp->Prop}{j:Hp}(f:Nat->Option V)(o:j a=de)(hl:bJ K j l xs)(D:ge xs<=1000)(step:∀(i:Nat)(x:V)(H:Hp)(R:V->Hp->Prop)(S:Hp->Prop),xs[i]?=ac x->aH j H->(∀y d,aH H d->f i=ac y->R y d)->(∀d,aH H d->f i=de->S d) ->g x (lI q v) H λc r=>A c r λb k=>if b=df then z c k R else S k)(t:∀H,aH j H->H a=ac (.lst ((av (ge xs)).filterMap f))->B H) :∃W:Nat->Nat->Hp->Prop,(∃m,W 0 m (upd j a (.lst [])))/\∀i m H,W i m H ->((QA K l).stop i H/\B H)\/((QA K l).go i H/\∀x d,(QA K l).NK i H x d->g x (lI q v) d λc r=>A c r λb k=>if b=df then z c k λy w=>∃xs,w a=ac (.lst xs)/\ge xs<eD /\∃p,p<m/\W (i+1) p (upd w a (.lst (xs++[y]))) else ∃p,p<m/\W (i+1) p k):=by erw[CZ (n:=ge xs) (λi=>xs.getD i .gw) f o (jC hl) (fQ hl) (λi H x d u s h=>?_) D (λi H R S u s E C=>?_) t];let#[rfl,h]:=h;let h:=h _ (s.seq hl);erw[2,by rw[ak,h];rfl];let e:xs.getD i .gw=xs[i]:=(by rw[ak,aa u];rfl);rw[e];erw[step i _ H R S (aa u) s E C]
theorem AZ{b d:Type}(xs:!b)(h:b->d):(av (ge xs)).filterMap (λi=>xs[i]?.map h)=xs.map h:=by let e:∀l:!b,l.filterMap (λx=>ac (h x))=l.map h:=λl=>(by induction l with|nil=>rfl|cons a l c=>rw[fO,c];rfl);rw[<- e,<- AW xs (λx=>ac (h x))];erw[Tq λi _=>?_];cases xs[i]? <;> rfl
structure kD(K:ah)(H:Hp)(qs:!du)(xss:!(!Int)):Prop where
 len:ge qs=ge xss
 at':∀(i:Nat)q xs,qs[i]?=ac q->xss[i]?=ac xs->dH K H q (xs.map fw)
def kD.mono{K:ah}(s:aH H H')(h:kD K H qs xss):kD K H' qs xss:=#[h.len,λi q c a b=>s.cU (h.at' i q c a b)]
theorem kD.past{K:ah}{H c:Hp}(d:H z=ac u)(g:Ai u)(e:∀b v,H b=ac v->b≠z->c b=ac v)(h:kD K H qs xss):kD K c qs xss :=#[h.len,λi q f a b=>dH.past d g e (h.at' i q f a b)]
theorem kD.nil{K:ah}:kD K H [] []:=#[2,λi q a h=>by ext h]
theorem kD.snoc{K:ah}{xs:!Int}(h:kD K H qs xss)(d:dH K H q (xs.map fw)):kD K H (qs++[q]) (xss++[xs]):=by exists by rw[az,az,h.len];rfl,λi a u b c=>?_;by_cases z:i<ge qs;rw[aW z] at b;rw[aW (h.len▸z)] at c;erw[h.at' i a u b c];let e:i=ge qs:=(by let:=(ai.mp b).1;rw[az] at this;let:i<ge qs+1:=this;lia);subst e;rw[qg] at b;rw[h.len,qg] at c;ext b;ext c;erw[d]
def TL(K:ah)(H:Hp)(l:du)(xss:!(!Int)):Prop:=∃qs:!du,H l=ac (.lst (qs.map fx))/\kD K H qs xss
theorem TL.mono{K:ah}(s:aH H H')(h:TL K H l xss):TL K H' l xss:=by let#[b,c,a]:=h;erw[b,s _ _ c,a.mono s]
theorem TL.past{K:ah}{c:Hp}(h:TL K H l xss)(f:H z=ac u)(i:Ai u)(n:l≠z)(a:∀b v,H b=ac v->b≠z->c b=ac v):TL K c l xss:=by let#[e,g,d]:=h;erw[e,a _ _ g n,kD.past f i a d]
theorem TL.push{K:ah}{H:Hp}{xs:!Int}{qs:!du}(c:H l=ac (.lst (qs.map fx)))(a:kD K H qs xss)(b:dH K H q (xs.map fw)):TL K (upd H l (.lst (qs.map fx++[.ref q]))) l (xss++[xs]) :=#[qs++[q],by rw[ay,aN];rfl,kD.past c jm cj (a.snoc b)]
structure Sn(H:Hp)(ps:!du)(Vg:!(!Str)):Prop where
 len:ge ps=ge Vg
 at':∀(i:Nat)p ws,ps[i]?=ac p->Vg[i]?=ac ws->H p=ac (.lst (gq ws))
def Sn.mono(s:aH H H')(h:Sn H ps Vg):Sn H' ps Vg:=#[h.len,λi p c a b=>s _ _ (h.at' i p c a b)]
theorem Sn.snoc(h:Sn H ps Vg)(d:H p=ac (.lst (gq ws))):Sn H (ps++[p]) (Vg++[ws]):=by exists by rw[az,az,h.len];rfl,λi a u b c=>?_;by_cases z:i<ge ps;rw[aW z] at b;rw[aW (h.len▸z)] at c;erw[h.at' i a u b c];let e:i=ge ps:=(by let:=(ai.mp b).1;rw[az] at this;let:i<ge ps+1:=this;lia);subst e;rw[qg] at b;rw[h.len,qg] at c;ext b;ext c;erw[d]
def Ec:xW (gq (TX.wordsOf w ns)) 0=ac (.str w):=cH (j:=0) rfl
theorem ya(w:Str)(ns:!Int):Ac (gq (TX.wordsOf w ns)) (ac 1) de=gq (ns.map TX.num):=by let:=Lh (gq (TX.wordsOf w ns)) 1;rw[show ((1:Nat):Int)=1 from rfl] at this;rw[this];rfl
inductive Role where
 |c6|dB|eZ|iK (i:Nat)|wM|rows (g:Nat)|mh|book (g:Nat)|gQ (g:Nat)
 |aE|groups|jy|handed (c:Nat)|dQ|cR (i:Nat)|letter (i:Nat)|done (i:Nat)|aK (i:Nat)|gj
 deriving DecidableEq
structure yR(H:Hp)(loc:Role->du)(ob:Role->Option HO):Prop where
 get:∀r o,ob r=ac o->H (loc r)=ac o
 inj:∀r q,ob r≠de->ob q≠de->loc r=loc q->r=q
noncomputable def jz(ob:Role->Option HO)(r:Role)(o:HO):Role->Option HO:=λq=>if q=r then ac o else ob q
noncomputable def uw(loc:Role->du)(r:Role)(a:du):Role->du:=λq=>if q=r then a else loc q
def fD:jz ob r o r=ac o:=eG rfl
def dD{r q:Role}(h:q≠r):jz ob r o q=ob q:=eH h
def gV:uw loc r a r=a:=eG rfl
def gC{r q:Role}(h:q≠r):uw loc r a q=loc q:=eH h
def Fp(loc:Role->du)(ob:Role->Option HO)(b:du):Prop:=∃r,ob r≠de/\loc r=b
section
variable{H H':Hp}{loc:Role->du}{ob:Role->Option HO}
def yR.mono(h:yR H loc ob)(s:aH H H'):yR H' loc ob:=#[λr o e=>s _ _ (h.get r o e),h.inj]
theorem yR.keep(h:yR H loc ob)(k:∀b o,H b=ac o->Fp loc ob b->H' b=ac o):yR H' loc ob :=#[λr o e=>k _ _ (h.get r o e) #[r,by rw[e];exact bC o,2],h.inj]
theorem yR.set(h:yR H loc ob)(a:ob r≠de)(o:HO):yR (upd H (loc r) o) loc (jz ob r o):=by let d:∀q,jz ob r o q≠de->ob q≠de:=λq c=>(by by_cases e:q=r;rw[e];erw[a];rw[dD e] at c;erw[c]);erw[λq u e=>?_,λq b g f e=>h.inj q b (d q g) (d b f) e];by_cases z:q=r;subst z;rw[fD] at e;ext e;erw[ay];rw[dD z] at e;rw[aY (λw=>z (h.inj q r (by rw[e];erw[bC u]) a w))];erw[h.get q u e]
theorem yR.new(h:yR H loc ob)(j:H p=de)(r:Role)(o:HO):yR (upd H p o) (uw loc r p) (jz ob r o):=by let g:∀q,q≠r->ob q≠de->loc q≠p:=λq k f e=>(by cases i:ob q with|none=>erw[f i]|some u=>let:=h.get q u i;rw[e,j] at this;ext this);erw[λq u e=>?_,λq d c b e=>?_];by_cases z:q=r;subst z;rw[fD] at e;ext e;rw[gV];erw[ay];rw[dD z] at e;rw[gC z,aY (g q z (by rw[e];erw[bC u]))];erw[h.get q u e];by_cases z:q=r;by_cases a:d=r;rw[z,a];rw[z,gV,gC a] at e;rw[dD a] at b;erw[ff e.symm (g d a b)];by_cases a:d=r;rw[a,gV,gC z] at e;rw[dD z] at c;erw[ff e (g q z c)];rw[gC z,gC a] at e;rw[dD z] at c;rw[dD a] at b;erw[h.inj q d c b e]
theorem yR.abX(h:yR H loc ob)(d:Fp (uw loc r p) (jz ob r o) b):Fp loc ob b\/b=p:=by let#[q,c,a]:=d;by_cases z:q=r;rw[z,gV] at a;erw[.inr a.symm];rw[dD z] at c;rw[gC z] at a;erw[.inl #[q,c,a]]
theorem Lr(d:ob r≠de):Fp loc (jz ob r o) b↔Fp loc ob b:=by constructor;intro ⟨q,a,c⟩;erw[q,4,c];by_cases z:q=r;rw[z];erw[d];rw[dD z] at a;erw[a];intro ⟨q,a,c⟩;erw[q,4,c];by_cases z:q=r;rw[z,fD];erw[bC o];rw[dD z];erw[a]
end
inductive kE where
 |post (h:Nat)|CF (h r:Nat)|hand (h c:Nat)|send (h r w:Nat)|twice (h r:Nat)|abY (h r:Nat)
noncomputable def kE.vs:kE->!V
 |.post h=>[.str "post",.int h]
 |.CF h r=>[.str "come",.int h,.int r]
 |.hand h c=>[.str "hand",.int h,.int c]
 |.send h r w=>[.str "send",.int h,.int r,.int w]
 |.twice h r=>[.str "twice",.int h,.int r]
 |.abY h r=>[.str "lost",.int h,.int r]
structure LS where
 s:Nat
 to:Nat
 kd:Int
 grp:Nat
 old:Bool
 done:!Nat
 aK:!kE
structure Cp where
 l:Nat
 r:Nat
 w:Nat
 h:Nat
noncomputable def Cp.vs(c:Cp):!V:=[.int c.l,.int c.r,.int c.w,.int c.h]
structure NS where
 ws:!(!Nat)
 R:Nat->Nat->RM.Row
 ts:Nat->!T3
 aE:!Nat
 groups:!Nat
 had:!(!Nat)
 ls:!LS
 cps:!Cp
structure TQ where
 rq:Nat->!du
 dq:Nat->!du
 cq:!du
structure NC where
 c6:du
 str:du
 book:du
 post:du
 auP:du
 let1:du
 alp:du
noncomputable def vf(c:NC)(dx:du)(l:LS):HO:=if l.kd=1 then .ins c.let1 dx [("sender",.int l.s),("to",.int l.to)] else .ins c.alp dx [("sender",.int l.s)]
noncomputable def g0(c:NC)(dx:Role->du)(tp:du)(loc:Role->du)(q:TQ)(s:NS):Role->Option HO
 |.c6=>ac (.ins c.c6 (dx .c6) [("town",.ref tp),("strands",.ref (loc .dB)),("rows_by_group",.ref (loc .wM)),("books",.ref (loc .mh)),("homes",.ref (loc .aE)),("groups",.ref (loc .groups)),("handed",.ref (loc .jy)),("letters",.ref (loc .dQ)),("copies",.ref (loc .gj))])
 |.dB=>ac (.ins c.str (dx .dB) [("town",.ref tp),("upright",.ref (loc .eZ))])
 |.eZ=>ac (.lst ((av (ge s.ws)).map λi=>.ref (loc (.iK i))))
 |.iK i=>s.ws[i]?.map λw=>.lst (bA w)
 |.wM=>ac (.lst ((av 3).map λg=>.ref (loc (.rows g))))
 |.rows g=>if g<3 then ac (.lst ((q.rq g).map fx)) else de
 |.mh=>ac (.lst ((av 3).map λg=>.ref (loc (.book g))))
 |.book g=>if g<3 then ac (.ins c.book (dx (.book g)) [("kept",.ref (loc (.gQ g)))]) else de
 |.gQ g=>if g<3 then ac (.dT ((s.ts g).map p6)) else de
 |.aE=>ac (.lst (bA s.aE))
 |.groups=>ac (.lst (bA s.groups))
 |.jy=>ac (.lst ((av (ge s.had)).map λi=>.ref (loc (.handed i))))
 |.handed i=>s.had[i]?.map λw=>.lst (bA w)
 |.dQ=>ac (.lst ((av (ge s.ls)).map λi=>.ref (loc (.cR i))))
 |.cR i=>s.ls[i]?.map λl=>.ins c.post (dx (.cR i)) [("letter",.ref (loc (.letter i))),("group",.int l.grp),("old",.bl l.old),("done_at",.ref (loc (.done i))),("deeds",.ref (loc (.aK i)))]
 |.letter i=>s.ls[i]?.map λl=>vf c (dx (.letter i)) l
 |.done i=>s.ls[i]?.map λl=>.dK (l.done.map λh:Nat=>(iY (h:Int),.bl df))
 |.aK i=>s.ls[i]?.map λl=>.lst ((q.dq i).map fx)
 |.gj=>ac (.lst (q.cq.map fx))
mutual
noncomputable def Tr:PyData->Bool
 |.none=>df
 |.bool _=>df
 |.int _=>df
 |.str _=>df
 |.list _=>dr
 |.tuple ds=>Ig ds
 |.dict _=>df
noncomputable def Ig:!PyData->Bool
 |[]=>df
 |d::ds=>Tr d&&Ig ds
end
structure fE(K:ah)(H:Hp)(qs:!du)(xs:!(!V)):Prop where
 len:ge qs=ge xs
 at':∀(i:Nat)q x,qs[i]?=ac q->xs[i]?=ac x->dH K H q x
def fE.mono{K:ah}(h:fE K H qs xs)(k:∀b x,dH K H b x->dH K H' b x):fE K H' qs xs:=#[h.len,λi q x a b=>k _ _ (h.at' i q x a b)]
noncomputable def i7(n:Nat)(R:Nat->RM.Row):!(!V):=(av n).map λi=>RM.cz (R i)
structure qu(K:ah)(H:Hp)(n:Nat)(q:TQ)(s:NS):Prop where
 rows:∀g,g<3->fE K H (q.rq g) (i7 n (s.R g))
 aK:∀i l,s.ls[i]?=ac l->fE K H (q.dq i) (l.aK.map kE.vs)
 cps:fE K H q.cq (s.cps.map Cp.vs)
theorem qu.mono{K:ah}(h:qu K H n q s)(k:∀b x,dH K H b x->dH K H' b x):qu K H' n q s :=#[λg a=>(h.rows g a).mono k,λi l e=>(h.aK i l e).mono k,h.cps.mono k]
inductive eT(K:ah)(c:NC)(H:Hp)(F:du->Prop)(p tp:du)(n:Nat)(s:NS):Prop
 |mk(loc dx:Role->du)(q:TQ):loc .c6=p->yR H loc (g0 c dx tp loc q s)->(∀b,F b↔Fp loc (g0 c dx tp loc q s) b)->qu K H n q s->eT K c H F p tp n s
structure Step(H:Hp)(F:du->Prop)(H':Hp)(F':du->Prop):Prop where
 kp:∀b o,H b=ac o->¬F b->H' b=ac o
 fr:∀b,F' b->F b\/H b=de
theorem V8(h:g0 c dx tp loc q s r=ac o):Ai o:=by
 let b:∀{g:Type}{f:g->HO}{x:Option g},(∀a,Ai (f a))->x.map f=ac o->Ai o:=λ{g f x}i e=>(by cases x with|none=>ext e|some a=>ext e;erw[i a]);let ins:∀{C d:du}{j:!(Str×V)},Ai (.ins C d j):=n9;ext r <;> simp only[g0] at h
 all_goals first
  | (ext h;erw[n9])
  | (ext h;erw[jm])
  |erw[b (λ_=>jm) h]
  |erw[b (λ_=>n9) h]
  | (split at h
     ·ext h;first|erw[jm]|erw[n9]|erw[No]
     ·ext h)
  | (erw[b (λl=>?_) h];delta vf;split <;> erw[n9])
  | (erw[b (λl=>?_) h];erw[λk=>#[λe=>(by ext e),λo e=>(by ext e)]])
section
variable{K:ah}{c:NC}{CT:du}{H H':Hp}{F F':du->Prop}{p tp ln lr:du}{n:Nat}{s s':NS}{ns:!Int}{rs:!R5}
theorem eT.mono(h:eT K c H F p tp n s)(e:aH H H'):eT K c H' F p tp n s:=by let#[a,i,q,g,d,f,j]:=h;erw[a,i,q,g,d.mono e,f,j.mono λb x=>e.cU]
theorem eT.ago(h:eT K c H F p tp n s)(k:F b)(e:H b=ac o):Ai o:=by let#[d,j,q,l,g,i,m]:=h;let#[r,f,rfl]:=(i b).mp k;cases a:g0 c j tp d q s r with|none=>erw[ff a f]|some u=>let:=g.get r u a;rw[e] at this;ext this;erw[V8 a]
theorem eT.there(h:eT K c H F p tp n s)(j:F b):∃o,H b=ac o:=by let#[a,i,q,k,f,g,l]:=h;let#[r,e,rfl]:=(g b).mp j;cases d:g0 c i tp a q s r with|none=>erw[ff d e]|some u=>erw[u,f.get r u d]
theorem eT.tup(h:eT K c H F p tp n s)(a:∀b o,H b=ac o->¬F b->H' b=ac o)(e:dH K H b x):dH K H' b x:=by obtain (e|⟨o,e⟩)|e:=e;erw[.inl (.inl (a _ _ e λz=>(h.ago z e x).1 rfl))];erw[.inl (.inr #[o,a _ _ e λz=>(h.ago z e x).2 o rfl])];erw[.inr e]
theorem eT.keep(h:eT K c H F p tp n s)(l:∀b o,H b=ac o->F b->H' b=ac o)(j:∀b x,dH K H b x->dH K H' b x):eT K c H' F p tp n s:=by let#[a,i,q,g,f,d,k]:=h;erw[a,i,q,g,f.keep λb o e z=>l b o e ((d b).mpr z),d,k.mono j]
end
mutual
theorem Rep.tups{K:ah}{H g:Hp}(c:∀b x,dH K H b x->dH K g b x):∀{d:PyData}{v:V},Tr d=df->Rep K H d v->Rep K g d v
 |.none,_,_,h=>h
 |.bool _,_,_,h=>h
 |.int _,_,_,h=>h
 |.str _,_,_,h=>h
 |.list _,_,f,_=>by simp[Tr] at f
 |.tuple ds,_,f,⟨a,vs,e,q,r⟩=>#[a,vs,e,c _ _ q,eU.tups c f r]
 |.dict _,_,_,h=>h
theorem eU.tups{K:ah}{H a:Hp}(c:∀b x,dH K H b x->dH K a b x):∀{ds:!PyData}{vs:!V},Ig ds=df->eU K H ds vs->eU K a ds vs
 |[],_,_,h=>h
 |d::ds,_,f,⟨v,r,e,q,t⟩=>by
  let f:(Tr d&&Ig ds)=df:=f;rw[dh] at f;erw[v,r,e,Rep.tups c f.1 q,eU.tups c f.2 t]
end
theorem Lu:∀rs:!R5,Ig (rs.map R5.D)=df
 |[]=>rfl
 |r::rs=>by
  show (Tr r.D&&Ig (rs.map R5.D))=df;rw[Lu rs];rfl
section
variable{K:ah}{c:NC}{CT:du}{H H':Hp}{F F':du->Prop}{p tp ln lr:du}{n:Nat}{s s':NS}{ns:!Int}{rs:!R5}
theorem eN.keep(h:eN K CT H tp ln lr ns rs)(k1:∀b o,H b=ac o->b=tp\/b=ln\/b=lr->H' b=ac o)(f:∀b x,dH K H b x->dH K H' b x):eN K CT H' tp ln lr ns rs:=by let#[#[e,d],c,g,a,i]:=h;erw[#[e,k1 _ _ d (.inl rfl)],k1 _ _ c (.inr (.inl rfl)),g,k1 _ _ a (.inr (.inr rfl)),eU.tups f (Lu rs) i]
structure NW(K:ah)(c:NC)(CT:du)(H:Hp)(F:du->Prop)(p tp ln lr:du)(ns:!Int)(rs:!R5)(s:NS):Prop where
 c6:eT K c H F p tp (ge ns) s
 yS:eN K CT H tp ln lr ns rs
 o1:¬F tp
 o2:¬F ln
 o3:¬F lr
theorem NW.mono(h:NW K c CT H F p tp ln lr ns rs s)(e:aH H H'):NW K c CT H' F p tp ln lr ns rs s:=#[h.c6.mono e,h.yS.mono e,h.o1,h.o2,h.o3]
theorem NW.done(h:NW K c CT H F p tp ln lr ns rs s)(st:Step H F H' F')(f:eT K c H' F' p tp (ge ns) s'):NW K c CT H' F' p tp ln lr ns rs s':=by let i:∀b x,dH K H b x->dH K H' b x:=λb x=>h.c6.tup st.kp;let#[#[l,g],a,k,j,m]:=id h.yS;let nf:∀b o,H b=ac o->¬F b->¬F' b:=λb o e d z=>(by obtain w|w:=st.fr b z;erw[d w];rw[e] at w;ext w);erw[f,h.yS.keep (λb o e q=>st.kp b o e ?_) i,nf _ _ g h.o1,nf _ _ a h.o2,nf _ _ j h.o3];obtain rfl|rfl|rfl:=q;erw[h.o1];erw[h.o2];erw[h.o3]
def Step.refl'(e:aH H H'):Step H F H' F:=#[λb o q _=>e _ _ q,λb z=>.inl z]
theorem Step.trans(a:Step H F H' F')(b:Step H' F' H'' F''):Step H F H'' F'':=by erw[λx o e nf=>b.kp x o (a.kp x o e nf) λz=>?_,λx z=>?_];obtain w|w:=a.fr x z;erw[nf w];rw[e] at w;ext w;obtain w|w:=b.fr x z;erw[a.fr x w];by_cases q:F x;erw[.inl q];erw[.inr ?_];cases c:H x with|none=>rfl|some o=>let:=a.kp x o c q;rw[this] at w;ext w
end
theorem yR.join{H:Hp}{i k:Role->du}{j c:Role->Option HO}(a:yR H i j)(b:yR H k c)(m:∀r q,j r≠de->c q≠de->i r≠k q) :yR H (λr=>if (c r).isSome=df then k r else i r) (λr=>if (c r).isSome=df then c r else j r):=by let l:∀{r},(c r).isSome=df->c r≠de:=λ{r}h e=>(by rw[e] at h;ext h);erw[λr o e=>?_,λr q f d e=>?_];by_cases z:(c r).isSome=df;rw[eG z] at e ⊢;erw[b.get r o e];rw[eH z] at e ⊢;erw[a.get r o e];by_cases z:(c r).isSome=df;by_cases g:(c q).isSome=df;simp only[z,g,if_true] at f d e;erw[b.inj r q f d e];simp only[z,g,if_true,if_false] at f d e;erw[ff e.symm (m q r d⁻¹ (l z))];by_cases g:(c q).isSome=df;simp only[z,g,if_true,if_false] at f d e;erw[ff e (m r q f⁻¹ (l g))];simp only[z,g,if_false] at f d e;erw[a.inj r q f⁻¹ d⁻¹ e]
structure J0(H0 H:Hp)(p:du)(loc:Role->du)(ob:Role->Option HO):Prop where
 own:yR H loc ob
 np:loc .c6=p
 hn:ob .c6≠de
 kp:∀b o,H0 b=ac o->b≠p->H b=ac o
 fr:∀b,Fp loc ob b->b=p\/H0 b=de
section
variable{H0 H H':Hp}{p:du}{loc:Role->du}{ob:Role->Option HO}
theorem J0.free(h:J0 H0 H p loc ob)(c:H a=de):H0 a=de:=by cases e:H0 a with|none=>rfl|some o=>by_cases z:a=p;(exfalso;cases b:ob .c6 with|none=>erw[h.hn b]|some u=>let:=h.own.get .c6 u b;rw[h.np,<- z,c] at this;ext this);let:=h.kp a o e z;rw[c] at this;ext this
theorem J0.new(h:J0 H0 H p loc ob)(c:H a=de){r:Role}(d:r≠.c6)(o:HO):J0 H0 (upd H a o) p (uw loc r a) (jz ob r o):=by exists h.own.new c r o,by rw[gC (cC d)];exact h.np,by rw[dD (cC d)];exact h.hn,λb u e n=>?_,λb f=>?_;let:=h.kp b u e n;rw[aY (aS this c)];erw[this];obtain z|rfl:=h.own.abX f;erw[h.fr b z];erw[.inr (h.free c)]
theorem J0.put(h:J0 H0 H p loc ob)(o:HO):J0 H0 (upd H p o) p loc (jz ob .c6 o):=by let e:=h.own.set (r:=.c6) h.hn o;rw[h.np] at e;exists e,h.np,by rw[fD];exact bC o,λb u q n=>?_,λb a=>h.fr b ((Lr h.hn).mp a);rw[aY n];erw[h.kp b u q n]
theorem yR.add{H H':Hp}{loc:Role->du}{ob:Role->Option HO}(h:yR H loc ob)(s:aH H H')(c:H a=de)(e:H' a=ac o)(r:Role):yR H' (uw loc r a) (jz ob r o):=by let d:=h.new c r o;erw[λq u b=>?_,d.inj];by_cases z:q=r;subst z;rw[fD] at b;ext b;rw[gV];erw[e];rw[dD z] at b;rw[gC z];erw[s _ _ (h.get q u b)]
theorem J0.add(h:J0 H0 H p loc ob)(s:aH H H')(d:H a=de)(e:H' a=ac o){r:Role}(f:r≠.c6):J0 H0 H' p (uw loc r a) (jz ob r o):=by let c:=h.new d f o;erw[h.own.add s d e r,c.np,c.hn,λb u q n=>s _ _ (h.kp b u q n),c.fr]
theorem J0.aia(h:J0 H0 H p loc ob)(a:ob r≠de)(f:r≠.c6)(o:HO):J0 H0 (upd H (loc r) o) p loc (jz ob r o):=by exists h.own.set a o,h.np,by rw[dD (cC f)];exact h.hn,λb u e n=>?_,λb d=>h.fr b ((Lr a).mp d);let c:b≠loc r:=λz=>(by obtain w|w:=h.fr (loc r) #[r,a,2];erw[n (z.trans w)];rw[z,w] at e;ext e);rw[aY c];erw[h.kp b u e n]
theorem J0.ext{loc':Role->du}{XF:Role->Option HO}(h:J0 H0 H p loc ob)(d:∀r,ob r=XF r)(c:∀r,ob r≠de->loc r=loc' r):J0 H0 H p loc' XF:=by let e:ob=XF:=funext d;subst e;erw[#[λr o e=>?_,λr q a b e=>h.own.inj r q a b ?_],4,h.hn,h.kp,λb f=>?_];rw[<- c r (by rw[e];erw[bC o])];erw[h.own.get r o e];rw[c r a,c q b];erw[e];rw[<- c .c6 h.hn];erw[h.np];let#[r,a,e]:=f;erw[h.fr b #[r,a,(c r a).trans e]]
theorem J0.join{f:Role->du}{a:Role->Option HO}(h:J0 H0 H p loc ob)(b:yR H' f a)(g:a .c6=de)(fresh:∀r,a r≠de->H (f r)=de)(s:aH H H') :J0 H0 H' p (λr=>if (a r).isSome=df then f r else loc r) (λr=>if (a r).isSome=df then a r else ob r):=by
 erw[(h.own.mono s).join b λr q d c e=>?_,44,λb o e n=>s _ _ (h.kp b o e n),λx j=>?_];cases i:ob r with|none=>erw[d i]|some u=>let:=h.own.get r u i;rw[e,fresh q c] at this;ext this
 show (if (a .c6).isSome=df then _ else _)=p;rw[g];erw[h.np];show (if (a .c6).isSome=df then _ else _)≠de;rw[g];erw[h.hn];let#[r,d,c]:=j;by_cases z:(a r).isSome=df;simp only[z,if_true] at d c;rw[<- c];erw[.inr (h.free (fresh r d))];simp only[z,if_false] at d c;erw[h.fr x #[r,by simpa using d,by simpa using c]]
end
noncomputable def CG(ns:!Int)(i:Nat):RM.Row:=#[ns.getD i 0,(0),(0),-1]
noncomputable def S0(ns:!Int)(rs:!R5)(cl:!(Nat×Nat)):NS where
 ws:=rs.map λr=>av r.d.toNat
 R:=λ_=>CG ns
 ts:=λ_=>[]
 aE:=cl.map (·.1)
 groups:=cl.map (·.2)
 had:=cl.map λ_=>[]
 ls:=[]
 cps:=[]
noncomputable def ZH(C dx tp lu:du)(ls:!du)(ws:!(!Nat)):Role->Option HO
 |.dB=>ac (.ins C dx [("town",.ref tp),("upright",.ref lu)])
 |.eZ=>ac (.lst (ls.map fx))
 |.iK i=>ws[i]?.map λw=>.lst (bA w)
 |_=>de
noncomputable def mv(sp lu:du)(ls:!du):Role->du
 |.dB=>sp
 |.eZ=>lu
 |.iK i=>ls.getD i 0
 |_=>0
theorem Tb{H:Hp}{C sp s m d:du}{ls:!du}{ws:!(!Nat)}(p:H sp=ac (.ins C s [("town",.ref m),("upright",.ref d)]))(t:H d=ac (.lst (ls.map fx)))(hl:ge ls=ge ws) (x:∀(i:Nat) l w,ls[i]?=ac l->ws[i]?=ac w->H l=ac (.lst (bA w))) (nd:ls.Nodup) (A:d∉ls):yR H (mv sp d ls) (ZH C s m d ls ws):=by
 let b:∀{i:Nat},ZH C s m d ls ws (.iK i)≠de->∃(a:i<ge ls),mv sp d ls (.iK i)=ls[i]:=λ{i}h=>(by let a:i<ge ls:=(by rw[hl];by_cases z:i<ge ws;erw[z];erw[ff (show (ws[i]?.map λw=>gc (bA w))=de by rw[lF ∅];rfl) h]);erw[a,4];show ls.getD i 0=ls[i];rw[ak,aa a];rfl);let D:∀{i:Nat}(a:i<ge ls),∃w,H ls[i]=ac (.lst (bA w)):=λ{i}a=>#[ws[i]'(hl▸a),x i _ _ (aa a) (aa (hl▸a))];let y:sp≠d:=V4 p t (λe=>by ext e);let v:∀{i:Nat}(a:i<ge ls),sp≠ls[i]:=λ{i}a=>(by let#[w,g]:=D a;erw[V4 p g (λe=>by ext e)]);let u:∀{i:Nat}(a:i<ge ls),d≠ls[i]:=λ{i}a e=>A (e▸aB a);erw[λr o e=>?_,λr q f k e=>?_];·(ext r <;> first|(ext e;done)|skip);(case dB=>ext e;erw[p]);(case eZ=>ext e;erw[t]);case iK i=>let#[a,c]:=b (i:=i) (by rw[e];erw[bC o]);let g:=aa (hl▸a:i<ge ws);let e:(ws[i]?.map λw=>gc (bA w))=ac o:=e;rw[g] at e;ext e;rw[c];erw[x i _ _ (aa a) g]
 ·(ext r <;> first|erw[ff rfl f]|skip);(all_goals ext q <;> first|erw[ff rfl k]|rfl|skip);(case dB.eZ=>erw[ff e y]);(case dB.iK i=>let#[a,c]:=b k;erw[ff (e.trans c) (v a)]);(case eZ.dB=>erw[ff e.symm y]);(case eZ.iK i=>let#[a,c]:=b k;erw[ff (e.trans c) (u a)]);(case iK.dB i=>let#[a,c]:=b f;erw[ff (e.symm.trans c) (v a)]);(case iK.eZ i=>let#[a,c]:=b f;erw[ff (e.symm.trans c) (u a)]);case iK.iK i j=>let#[a,c]:=b f;let#[B,n]:=b k;rw[c,n] at e;let q:ls[i]?=ls[j]?:=(by rw[aa a,aa B,e]);let:=(List.getElem?_inj a nd).mp q;rw[this]
structure cS(ns:!Int)(rs:!R5):Prop where
 nd:ns.Nodup
 ok:∀r∈rs,r.Ok (ge ns)
 n1:1<=ge ns
 V9:ge ns<=10
 Sw:ge rs<=20
 pos:∀x∈ns,0<=x
structure A0(ns:!Int)(rs:!R5)(s:NS):Prop where
 wl:ge s.ws=ge rs
 w4:∀w∈s.ws,ge w<=4
 fit:∀g,g<3->wF (ge ns) (ge rs) (s.R g)
noncomputable abbrev lN(rs:!R5)(ws:!(!Nat))(g:Nat):!Nat:=pL rs ws g (ge rs)
def mZ:∀k∈lN rs ws g,k<ge rs:=λk a=>bO.mp (aZ.mp a).1
noncomputable def gW(ns:!Int)(rs:!R5)(o:cS ns rs)(ws:!(!Nat))(g:Nat):RM.Net:=aL ns rs (lN rs ws g) o.nd o.ok mZ
section
variable{K:ah}{c:NC}{CT:du}{H H':Hp}{loc dx:Role->du}{q:TQ}{p tp ln lr:du}{n:Nat}{s:NS}{ns:!Int}{rs:!R5}
theorem yR.strAt(O:yR H loc (g0 c dx tp loc q s)):xZ c.str H (loc .dB) tp (loc .eZ) s.ws:=by exists #[dx .dB,O.get .dB _ rfl],(av (ge s.ws)).map λi=>loc (.iK i),4,by rw[af,aX],λi l w a b=>?_;let:=O.get .eZ _ rfl;rw[this,bZ];rfl;let d:=(ai.mp b).1;rw[ao,dw d] at a;ext a;erw[O.get (.iK i) _ (by show (s.ws[i]?.map _)=_;rw[b];rfl)]
def yR.Wa(O:yR H loc (g0 c dx tp loc q s)){g:Nat}(a:g<3):wK c.book H (loc (.book g)) (loc (.gQ g)) (s.ts g) :=#[#[dx (.book g),O.get (.book g) _ (eG a)],O.get (.gQ g) _ (eG a)]
theorem ux{m g:Nat}(h:g<m):xW ((av m).map f) (g:Int)=ac (f g):=cH (by rw[ao,dw h];rfl)
theorem fE.Q0(h:fE K H qs (i7 n R))(hl:bJ K H l (qs.map fx)):yN K H l n R:=by let e:ge qs=n:=(by rw[h.len];simp[i7]);erw[qs,hl,e,λi p a=>h.at' i p _ a ?_];let b:=(ai.mp a).1;delta i7;rw[ao,dw ∅];rfl
theorem ua{xs:!Nat}{i:Nat}(h:i<ge xs):xW (bA xs) (i:Int)=ac (.int (xs[i]:Nat)):=cH (by rw[ao,aa h];rfl)
end
noncomputable def gM{α:Type}(f:Nat->α)(i:Nat)(v:α):Nat->α:=λg=>if g=i then v else f g
def c9{a:Type}{f:Nat->a}{i:Nat}{v:a}:gM f i v i=v:=eG rfl
def fL{a:Type}{f:Nat->a}{i g:Nat}{v:a}(h:g≠i):gM f i v g=f g:=eH h
theorem yR.ext{loc':Role->du}{XF:Role->Option HO}(h:yR H loc ob)(d:∀r,ob r=XF r)(c:∀r,ob r≠de->loc r=loc' r):yR H loc' XF/\∀b,Fp loc ob b↔Fp loc' XF b:=by let e:ob=XF:=funext d;subst e;erw[#[λr o e=>?_,λr q a b e=>h.inj r q a b ?_],λb=>#[λ⟨r,a,e⟩=>#[r,a,(c r a).symm.trans e],λ⟨r,a,e⟩=>#[r,a,(c r a).trans e]]];rw[<- c r (by rw[e];erw[bC o])];erw[h.get r o e];rw[c r a,c q b];erw[e]
section
variable{K:ah}{c:NC}{H H':Hp}{F:du->Prop}{loc dx:Role->du}{q:TQ}{p tp:du}{n g:Nat}{s:NS}
theorem Wb(D:loc .c6=p)(O:yR H loc (g0 c dx tp loc q s))(B:∀b,F b↔Fp loc (g0 c dx tp loc q s) b)(h:qu K H n q s)(C:g<3){d' a:du}(t:H d'=de) (S:H' (loc (.book g))=ac (.ins c.book a [("kept",.ref d')])) (L:H' d'=ac (.dT [])) (E:∀b o,H b=ac o->b≠loc (.book g)->H' b=ac o) :∃J,eT K c H' J p tp n {s with ts:=gM s.ts g []}/\Step H F H' J:=by let y:g0 c dx tp loc q s (.book g)≠de:=(by show (if g<3 then ac _ else de)≠de;rw[eG C];erw[bC _]);let f:F (loc (.book g)):=(B _).mpr #[.book g,y,2];let j:∀b o,H b=ac o->¬F b->H' b=ac o:=λb o e z=>E b o e λw=>z (w▸f);let u:eT K c H F p tp n s:=#[loc,dx,q,D,O,B,h];let G:=O.set y (.ins c.book a [("kept",.ref d')]);let v:d'≠loc (.book g):=λz=>(by let:=u.there f;let#[o,e]:=this;rw[z,e] at t;ext t);let A:(upd H (loc (.book g)) (.ins c.book a [("kept",.ref d')])) d'=de:=(by rw[aY v];erw[t]);let M:=G.new A (.gQ g) (.dT []);let R:yR H' (uw loc (.gQ g) d') (jz (jz (g0 c dx tp loc q s) (.book g) (.ins c.book a [("kept",.ref d')])) (.gQ g) (.dT [])):=(by erw[M.keep λb o e _=>?_];by_cases z:b=d';rw[z,ay] at e;ext e;rw[z];erw[L];rw[aY z] at e;by_cases m:b=loc (.book g);rw[m,ay] at e;ext e;rw[m];erw[S];rw[aY m] at e;erw[E b o e m]);let#[Q,T]:=R.ext (XF:=g0 c (λr=>if r=.book g then a else dx r) tp (uw loc (.gQ g) d') q {s with ts:=gM s.ts g []}) (loc':=uw loc (.gQ g) d') (λr=>by (ext r <;> first|rfl|skip);rename_i k;show jz (g0 c dx tp loc q s) (.book g) _ (.book k)=(if k<3 then ac (gd c.book (if Role.book k=.book g then a else dx (.book k)) [("kept",.ref (uw loc (.gQ g) d' (.gQ k)))]) else de);by_cases z:k=g;subst z;rw[fD,eG C,eG rfl,gV];let I:Role.book k≠.book g:=λe=>z (by ext e;rfl);let d:Role.gQ k≠.gQ g:=λe=>z (by ext e;rfl);rw[dD I,eH I,gC d];rfl;rename_i k;show jz (jz (g0 c dx tp loc q s) (.book g) _) (.gQ g) _ (.gQ k)=(if k<3 then ac (HO.dT ((gM s.ts g [] k).map p6)) else de);by_cases z:k=g;subst z;rw[fD,eG C,c9];rfl;let d:Role.gQ k≠.gQ g:=λe=>z (by ext e;rfl);rw[dD d,fL z];rfl) (λr _=>rfl);erw[Fp _ _,#[33,q,4,Q,λb=>Iff.rfl,#[λk N=>(h.rows k N).mono λb x=>u.tup j,λi l e=>(h.aK i l e).mono λb x=>u.tup j,h.cps.mono λb x=>u.tup j]],j,λb P=>?_];rw[gC (λz=>by ext z)];erw[D];obtain z|rfl:=G.abX ((T b).mpr P);erw[.inl ((B b).mpr ((Lr y).mp z))];erw[.inr t]
theorem aeF(D:loc .c6=p)(O:yR H loc (g0 c dx tp loc q s))(u:∀b,F b↔Fp loc (g0 c dx tp loc q s) b)(h:qu K H n q s)(E:g<3){x:Nat}(U:x<n){a:du}{d:RM.Row}(Q:dH K H a (RM.cz d)) :∃J,eT K c (upd H (loc (.rows g)) (.lst (((q.rq g).map fx).set x (.ref a)))) J p tp n {s with R:=gM s.R g (RM.upd (s.R g) x d)}/\Step H F (upd H (loc (.rows g)) (.lst (((q.rq g).map fx).set x (.ref a)))) J:=by let t:g0 c dx tp loc q s (.rows g)≠de:=(by show (if g<3 then ac _ else de)≠de;rw[eG E];erw[bC _]);let A:F (loc (.rows g)):=(u _).mpr #[.rows g,t,2];let I:∀b o,H b=ac o->¬F b->(upd H (loc (.rows g)) (.lst (((q.rq g).map fx).set x (.ref a)))) b=ac o:=λb o e z=>(by let L:b≠loc (.rows g):=λw=>z (w▸A);rw[aY L];erw[e]);let T:eT K c H F p tp n s:=#[loc,dx,q,D,O,u,h];let j:∀{b x},dH K H b x->_:=λ{b x}e=>T.tup I (b:=b) (x:=x) e;let P:=O.set t (.lst (((q.rq g).map fx).set x (.ref a)));let#[N,S]:=P.ext (XF:=g0 c dx tp loc {q with rq:=gM q.rq g ((q.rq g).set x a)} {s with R:=gM s.R g (RM.upd (s.R g) x d)}) (loc':=loc) (λr=>by (ext r <;> first|rfl|skip);rename_i k;show jz (g0 c dx tp loc q s) (.rows g) _ (.rows k)=(if k<3 then ac (gc ((gM q.rq g ((q.rq g).set x a) k).map fx)) else de);by_cases z:k=g;subst z;rw[fD,eG E,c9,lE];rw[dD (λe=>z (by ext e;rfl)),fL z];rfl) (λr _=>rfl);erw[Fp _ _,#[loc,dx,_,D,N,λb=>Iff.rfl,#[λk G=>?_,λi l e=>(h.aK i l e).mono λb x=>j,h.cps.mono λb x=>j]],I,λb M=>.inl ((u b).mpr ((Lr t).mp ((S b).mpr M)))];show fE K _ (gM q.rq g ((q.rq g).set x a) k) (i7 n (gM s.R g (RM.upd (s.R g) x d) k));by_cases z:k=g;subst z;rw[c9,c9];let C:=h.rows k G;let y:ge (q.rq k)=n:=(by rw[C.len];simp[i7]);exists by rw[bu,y];simp[i7],λi b v f B=>?_;let m:=(ai.mp f).1;rw[bu,y] at m;delta i7 at B;rw[ao,dw m] at B;ext B;rw[cP] at f;by_cases w:x=i;subst w;rw[eG rfl,eG (by rw[y];erw[m])] at f;ext f;let:RM.upd (s.R k) x d x=d:=(by delta RM.upd;rw[eG rfl]);show dH K _ a (RM.cz (RM.upd (s.R k) x d x));rw[this];erw[j Q];rw[eH w] at f;let:RM.upd (s.R k) x d i=s.R k i:=(by delta RM.upd;rw[eH (cC w)]);show dH K _ b (RM.cz (RM.upd (s.R k) x d i));rw[this];erw[j (C.at' i b _ f (by delta i7;rw[ao,dw m];rfl))];rw[fL z,fL z];erw[(h.rows k G).mono λb x=>j]
end
section
variable{K:ah}{c:NC}{H H':Hp}{F:du->Prop}{loc dx:Role->du}{q:TQ}{p tp:du}{n j:Nat}{s:NS}
theorem Tt(C:loc .c6=p)(O:yR H loc (g0 c dx tp loc q s))(A:∀b,F b↔Fp loc (g0 c dx tp loc q s) b)(f:qu K H n q s)(T:j<ge s.ws){a:du}{w:!Nat}{ls:!du}(L:H (loc .eZ)=ac (.lst (ls.map fx)))(m:H a=de)(S:H' a=ac (.lst (bA w)))(I:H' (loc .eZ)=ac (.lst ((ls.map fx).set j (.ref a))))(D:∀b o,H b=ac o->b≠loc .eZ->H' b=ac o) :∃G,eT K c H' G p tp n {s with ws:=s.ws.set j w}/\Step H F H' G:=by let v:g0 c dx tp loc q s .eZ≠de:=bC _;let d:F (loc .eZ):=(A _).mpr #[.eZ,v,2];let g:∀b o,H b=ac o->¬F b->H' b=ac o:=λb o e z=>D b o e λw=>z (w▸d);let t:eT K c H F p tp n s:=#[loc,dx,q,C,O,A,f];let u:ls.map fx=(av (ge s.ws)).map λi=>fx (loc (.iK i)):=(by let:=O.get .eZ _ rfl;rw[L] at this;erw[HO.lst.inj (aI this)]);let E:=O.set v (.lst ((ls.map fx).set j (.ref a)));let y:a≠loc .eZ:=λz=>(by let#[o,e]:=t.there d;rw[z,e] at m;ext m);let B:(upd H (loc .eZ) (.lst ((ls.map fx).set j (.ref a)))) a=de:=(by rw[aY y];erw[m]);let M:=E.new B (.iK j) (.lst (bA w));let R:yR H' (uw loc (.iK j) a) (jz (jz (g0 c dx tp loc q s) .eZ (.lst ((ls.map fx).set j (.ref a)))) (.iK j) (.lst (bA w))):=(by erw[M.keep λb o e _=>?_];by_cases z:b=a;rw[z,ay] at e;ext e;rw[z];erw[S];rw[aY z] at e;by_cases h:b=loc .eZ;rw[h,ay] at e;ext e;rw[h];erw[I];rw[aY h] at e;erw[D b o e h]);let#[Q,W]:=R.ext (XF:=g0 c dx tp (uw loc (.iK j) a) q {s with ws:=s.ws.set j w}) (loc':=uw loc (.iK j) a) (λr=>by (ext r <;> first|rfl|skip);show ac (gc ((ls.map fx).set j (.ref a)))=ac (gc ((av (ge (s.ws.set j w))).map λi=>fx (uw loc (.iK j) a (.iK i))));rw[u,bu];congr 2;erw[k6 (-_) λi J X=>?_];simp only[bu,af,aX] at J;rw[List.getElem_set];by_cases z:j=i;subst z;simp[gV];let U:Role.iK i≠.iK j:=λe=>z (by ext e;rfl);simp[z,gC U];rename_i i;show jz (jz (g0 c dx tp loc q s) .eZ _) (.iK j) _ (.iK i)=((s.ws.set j w)[i]?.map λw=>gc (bA w));by_cases z:i=j;subst z;rw[fD,cP,eG rfl,eG T];rfl;rw[dD (λe=>z (by ext e;rfl)),cP,eH (cC z)];rfl) (λr _=>rfl);erw[Fp _ _,#[_,dx,q,4,Q,λb=>Iff.rfl,#[λk N=>(f.rows k N).mono λb x=>t.tup g,λi l e=>(f.aK i l e).mono λb x=>t.tup g,f.cps.mono λb x=>t.tup g]],g,λb P=>?_];rw[gC (λz=>by ext z)];erw[C];obtain z|rfl:=E.abX ((W b).mpr P);erw[.inl ((A b).mpr ((Lr v).mp z))];erw[.inr m]
theorem Wc(t:loc .c6=p)(O:yR H loc (g0 c dx tp loc q s))(u:∀b,F b↔Fp loc (g0 c dx tp loc q s) b)(y:qu K H n q s){l:du}{qs:!du}{cps:!Cp}(hl:H l=ac (.lst (qs.map fx)))(G:¬F l)(M:fE K H qs (cps.map Cp.vs)) :∃I,eT K c (upd H p (.ins c.c6 (dx .c6) [("town",.ref tp),("strands",.ref (loc .dB)),("rows_by_group",.ref (loc .wM)),("books",.ref (loc .mh)),("homes",.ref (loc .aE)),("groups",.ref (loc .groups)),("handed",.ref (loc .jy)),("letters",.ref (loc .dQ)),("copies",.ref l)])) I p tp n {s with cps:=cps} /\(∀b o,H b=ac o->b≠p->(upd H p (.ins c.c6 (dx .c6) [("town",.ref tp),("strands",.ref (loc .dB)),("rows_by_group",.ref (loc .wM)),("books",.ref (loc .mh)),("homes",.ref (loc .aE)),("groups",.ref (loc .groups)),("handed",.ref (loc .jy)),("letters",.ref (loc .dQ)),("copies",.ref l)])) b=ac o)/\F p/\∀b,I b->F b\/b=l:=by generalize J:gd c.c6 (dx .c6) [("town",.ref tp),("strands",.ref (loc .dB)),("rows_by_group",.ref (loc .wM)),("books",.ref (loc .mh)),("homes",.ref (loc .aE)),("groups",.ref (loc .groups)),("handed",.ref (loc .jy)),("letters",.ref (loc .dQ)),("copies",.ref l)]=o1;let m:g0 c dx tp loc q s .c6≠de:=bC _;let f:F p:=(u _).mpr #[.c6,m,t];let S:eT K c H F p tp n s:=#[loc,dx,q,t,O,u,y];let A:∀b o,H b=ac o->b≠p->(upd H p o1) b=ac o:=λb o e z=>(by rw[aY z];erw[e]);let C:∀{b x},dH K H b x->dH K (upd H p o1) b x:=λ{b x} e=>S.tup (λb o e z=>A b o e λw=>z (w▸f)) e;let D:=O.set m o1;rw[t] at D;let v:l≠p:=λz=>G (z▸f);let L:yR (upd H p o1) (uw loc .gj l) (jz (jz (g0 c dx tp loc q s) .c6 o1) .gj (.lst (qs.map fx))):=(by erw[λr o e=>?_,λr E a b e=>?_];by_cases z:r=.gj;subst z;rw[fD] at e;ext e;rw[gV];erw[A _ _ hl v];rw[dD z] at e;rw[gC z];erw[D.get r o e];let g:∀{r:Role},r≠.gj->jz (g0 c dx tp loc q s) .c6 o1 r≠de->loc r≠l:=λ{r} z h e=>(by erw[G ((u _).mpr #[r,4,e])];by_cases w:r=.c6;rw[w];erw[m];rw[dD w] at h;erw[h]);by_cases z:r=.gj;by_cases d:E=.gj;rw[z,d];rw[z,gV,gC d] at e;rw[dD d] at b;erw[ff e.symm (g d b)];by_cases d:E=.gj;rw[d,gV,gC z] at e;rw[dD z] at a;erw[ff e (g z a)];rw[gC z,gC d] at e;rw[dD z] at a;rw[dD d] at b;erw[D.inj r E a b e]);let#[Q,R]:=L.ext (XF:=g0 c dx tp (uw loc .gj l) {q with cq:=qs} {s with cps:=cps}) (loc':=uw loc .gj l) (λr=>by subst J;ext r <;> rfl) (λr _=>rfl);erw[Fp _ _,#[_,dx,34,Q,λb=>Iff.rfl,#[λk N=>(y.rows k N).mono λb x=>C,λi l e=>(y.aK i l e).mono λb x=>C,M.mono λb x=>C]],A,f,λb P=>?_];rw[gC (λz=>by ext z)];erw[t];let#[r,B,j]:=(R b).mpr P;by_cases z:r=.gj;rw[z,gV] at j;erw[.inr j.symm];rw[gC z] at j;rw[dD z] at B;erw[.inl ((u b).mpr #[r,4,j])];by_cases w:r=.c6;rw[w];erw[m];rw[dD w] at B;erw[B]
end
end TW
namespace TW
open PySem L2 PyProof.Rows
open Classical in
noncomputable def Off(H:Hp)(F:du->Prop):Hp:=λb=>if F b then de else H b
section
variable{K:ah}{c:NC}{CT:du}{H H':Hp}{F F' F1 F2 G:du->Prop}{p tp ln lr:du}{n:Nat}{s:NS}{ns:!Int}{rs:!R5}
theorem fG(h:Off H F b=ac o):¬F b/\H b=ac o:=by delta Off at h;by_cases z:F b;rw[eG z] at h;ext h;rw[eH z] at h;erw[z,h]
theorem mw(z:¬F b)(h:H b=ac o):Off H F b=ac o:=by delta Off;rw[eH z];erw[h]
def be:aH (Off H F) H:=λb o e=>(fG e).2
theorem iL(st:Step H F H' F'):aH (Off H F) (Off H' F'):=λb o e=>by
 let#[c,a]:=fG e;erw[mw (λz=>?_) (st.kp b o a c)];obtain w|w:=st.fr b z
 ·erw[c w]
 ·rw[a] at w;ext w
def iM(e:aH H H'):aH (Off H F) (Off H' F):=iL (Step.refl' e)
theorem Ed(a:¬F z):Off (upd H z o) F=upd (Off H F) z o:=by funext b;by_cases e:b=z;subst e;rw[ay];erw[mw a ay];rw[aY e];delta Off;rw[aY e]
theorem eN.nw(a:eN K CT (Off H G) tp ln lr ns rs)(N:eT K c H F p tp (ge ns) s)(sub:∀b,F b->G b):NW K c CT H F p tp ln lr ns rs s:=by let#[#[g,f],e,h,d,i]:=id a;erw[N,a.mono be,λz=>(fG f).1 (sub _ z),λz=>(fG e).1 (sub _ z),λz=>(fG d).1 (sub _ z)]
end
inductive aeG(K:ah)(H:Hp)(l:du)(rs:!R5):Prop
 |mk(qs:!du):H l=ac (.lst (qs.map fx))->fE K H qs (rs.map R5.vs)->aeG K H l rs
theorem aeG.agp{K:ah}{H:Hp}{l:du}:∀{rs:!R5}{qs:!du},fE K H qs (rs.map R5.vs)->eU K H (rs.map R5.D) (qs.map fx)
 |[],[],_=>rfl
 |[],_::_,h=>by cases h.len
 |_::_,[],h=>by cases h.len
 |r::rs,q::qs,h=>#[.ref q,qs.map fx,2,Rep.Pq (ns:=r.ns) (h.at' 0 q _ rfl rfl),aeG.agp (l:=l) #[Nat.succ.inj h.len,λi p x a b=>h.at' (i+1) p x a b]]
theorem ab1{c:Hp}{F:du->Prop}(t:aH H H0)(a:H p=de)(d:∀b o,H0 b=ac o->b≠p->c b=ac o)(f:∀b,F b->b=p\/H0 b=de):aH H (Off c F):=λb o e=>mw (λz=>by
 obtain rfl|w:=f b z
 ·rw[e] at a;ext a
 ·rw[t _ _ e] at w;ext w) (d b o (t b o e) (aS e a))
end TW
namespace L2
open PySem PySem.Spec PyProof.Rows
structure Q2(K:ah)(x qual:Str)(st:Stmt)(f:du)(fd:FuncData)(dv:dy):Prop where
 ex:∃(oc:dy)(od:Option du)(T:du)(o:Obj)(n:Nat)(kV doc pm:dy)(an:Option du)(cdv ct:dy)(osl:Array (Option dy)),
  fd=fN x qual (kr st) (g7 st) (aC st) (.ref T) kV doc pm an cdv ct/\K.lookup f=ac #[oc,od,.func fd,osl]/\lX K cdv qual=df/\K.lookup T=ac o/\o.data=.seq [dv].toArray n
 kp:fz K (.ref f)=df
section
variable{P:ft}{w:World}{K:ah}{mg:Str->Option dy}{base:Heap}
theorem Q2.ok{x b:Str}{st:Stmt}{f:du}{j:FuncData}{r:dy}{N ps:!Str}{k:Nat}{sp:Sp}(F:Q2 K x b st f j r)(S:aQ N ps (aC st))(g:∀vs H Q E,sp vs H Q E->ge vs=ge ps)(d:∀(c:dy)(A:fv)(a:!Env)(s:dA)(H:Hp)(vs:!V)(Q:VK)(E:XK),mK k (A.deeper (envOfC b (aC st) s.heap.objs.size f c))->sp vs H Q E ->∃t,iR (rH QN P w K mg base N b (aC st) f c A a s H E).z0 (g7 st) t/\t {nx:=λ_ u=>Q .gw u,rt:=Q} (start N vs) H):ou P w K mg base QN (k+1) f j ps sp:=by let#[v,y,T,o,n,kV,m,z,B,c,C,p,rfl,lk,e,_]:=F.ex;erw[rx lk e S g λA a s H vs Q E l i=>?_];let#[t,h,q]:=d c A a s H vs Q E l i;erw[t,h.z0,q]
theorem Q2.binds{x a:Str}{st:Stmt}{f:du}{g:FuncData}{i:dy}{ps:!Str}{ds:!dy}{m:Nat}(F:Q2 K x a st f g i)(y:m+ge ds=ge ps)(h:∀(T:du)(kV b d:dy)(e:Option du)(c ct:dy)(us:!dy),ge us=m ->∃k,bindArgs (fN x a (kr st) (g7 st) (aC st) (.ref T) kV b d e c ct) #[us,[]]=seqItems? (.ref T) >>= k/\k (ac [i].toArray)=pure (ps.zip (us++ds))):Binds K g ps ds:=by let#[v,w,T,o,n,kV,b,d,e,c,ct,t,rfl,lk,p,lt,u]:=F.ex;intro s us l q;let#[k,r,j]:=h T kV b d e c ct us (by rw[az] at q;lia);erw[PySem.W.binds_K l rfl lt u r j]
def XG{x a:Str}{st:Stmt}{f T:du}{o:Obj}{n:Nat}{m:dy}{i:dy}{j g:Option du}{e:Array (Option dy)}{kV d h b ct:dy}(l:K.lookup f=ac #[i,j,.func (fN x a (kr st) (g7 st) (aC st) (.ref T) kV d h g b ct),e])(c:lX K b a=df)(k:fz K (.ref f)=df)(lt:K.lookup T=ac o)(p:o.data=.seq [m].toArray n):Q2 K x a st f (fN x a (kr st) (g7 st) (aC st) (.ref T) kV d h g b ct) m:=#[#[i,j,T,o,n,kV,d,h,g,b,ct,e,2,l,c,lt,p],k]
end
end L2
namespace TW
open PySem L2 PyProof.Rows
structure mz(K:ah)(c:NC)(H:Hp)(F:du->Prop)(loc dx:Role->du)(q:TQ)(p tp:du)(n:Nat)(s:NS):Prop where
 hp:loc .c6=p
 own:yR H loc (g0 c dx tp loc q s)
 fp:∀b,F b↔Fp loc (g0 c dx tp loc q s) b
 tup:qu K H n q s
section
variable{K:ah}{c:NC}{H H':Hp}{F:du->Prop}{loc dx:Role->du}{q:TQ}{p tp:du}{n:Nat}{s:NS}
def mz.c6(h:mz K c H F loc dx q p tp n s):eT K c H F p tp n s:=#[loc,dx,q,h.hp,h.own,h.fp,h.tup]
theorem mz.mono(h:mz K c H F loc dx q p tp n s)(e:aH H H'):mz K c H' F loc dx q p tp n s:=#[h.hp,h.own.mono e,h.fp,h.tup.mono λb x=>e.cU]
theorem A1(X:mz K c H F loc dx q p tp n s){r:Role}(g:g0 c dx tp loc q s r≠de){o:HO}{q':TQ}{s':NS}(l:∀x,jz (g0 c dx tp loc q s) r o x=g0 c dx tp loc q' s' x)(a:(∀b x,dH K H b x->dH K (upd H (loc r) o) b x)->qu K (upd H (loc r) o) n q' s') :mz K c (upd H (loc r) o) F loc dx q' p tp n s'/\Step H F (upd H (loc r) o) F:=by let#[h,O,d,j]:=X;let f:F (loc r):=(d _).mpr #[r,g,2];let t:eT K c H F p tp n s:=#[loc,dx,q,h,O,d,j];let i:∀b u,H b=ac u->¬F b->(upd H (loc r) o) b=ac u:=λb u e z=>cj b u e λw=>z (w▸f);let#[k,m]:=(O.set g o).ext (XF:=g0 c dx tp loc q' s') (loc':=loc) l (λx _=>rfl);erw[#[h,k,λb=>(d b).trans ((Lr g).symm.trans (m b)),a λb x=>t.tup i],i,λb z=>.inl z]
theorem fR{ls:!LS}{i k:Nat}(a:i<ge ls):(ls.set i l')[k]?=if k=i then ac l' else ls[k]?:=by rw[cP];by_cases z:i=k;subst z;rw[eG rfl,eG a,eG rfl];rw[eH z,eH (cC z)]
noncomputable def qv(c:NC)(dx:Role->du)(loc:Role->du)(i:Nat)(l:LS):HO:=.ins c.post (dx (.cR i)) [("letter",.ref (loc (.letter i))),("group",.int l.grp),("old",.bl l.old),("done_at",.ref (loc (.done i))),("deeds",.ref (loc (.aK i)))]
theorem aeH(X:mz K c H F loc dx q p tp n s){i:Nat}{l:LS}(hl:s.ls[i]?=ac l) :mz K c (upd H (loc (.cR i)) (qv c dx loc i {l with old:=df})) F loc dx q p tp n {s with ls:=s.ls.set i {l with old:=df}}/\Step H F (upd H (loc (.cR i)) (qv c dx loc i {l with old:=df})) F:=by
 let a:=(ai.mp hl).1;erw[A1 X (r:=.cR i) (q':=q) (by show (s.ls[i]?.map _)≠de;rw[hl];erw[bC _]) (λx=>?_) (λb=>#[λg f=>(X.tup.rows g f).mono b,λk d e=>?_,X.tup.cps.mono b])];·(ext x <;> first|rfl|skip);show ac _=ac (gc ((av (ge (s.ls.set i _))).map _));rw[bu];(all_goals rename_i k);show jz (g0 c dx tp loc q s) (.cR i) _ (.cR k)=((s.ls.set i _)[k]?.map λl=>qv c dx loc k l);rw[fR a];by_cases z:k=i;subst z;rw[fD,eG rfl];rfl;rw[dD (λe=>z (by ext e;rfl)),eH z];rfl;show (s.ls[k]?.map λl=>vf c (dx (.letter k)) l)=((s.ls.set i _)[k]?.map λl=>vf c (dx (.letter k)) l);rw[fR a];by_cases z:k=i;subst z;rw[eG rfl,hl];rfl;rw[eH z];show (s.ls[k]?.map λl=>HO.dK (l.done.map λh:Nat=>(iY (h:Int),.bl df)))=((s.ls.set i _)[k]?.map λl=>HO.dK (l.done.map λh:Nat=>(iY (h:Int),.bl df)));rw[fR a];by_cases z:k=i;subst z;rw[eG rfl,hl];rfl;rw[eH z];show (s.ls[k]?.map λ_=>gc ((q.dq k).map fx))=((s.ls.set i _)[k]?.map λ_=>gc ((q.dq k).map fx));rw[fR a];by_cases z:k=i;subst z;rw[eG rfl,hl];rfl;rw[eH z]
 let e:(s.ls.set i _)[k]?=ac d:=e;rw[fR a] at e;by_cases z:k=i;subst z;rw[eG rfl] at e;ext e;erw[(X.tup.aK k l hl).mono b];rw[eH z] at e;erw[(X.tup.aK k d e).mono b]
theorem ab2(X:mz K c H F loc dx q p tp n s){i:Nat}{l:LS}(hl:s.ls[i]?=ac l)(ds:!Nat) :mz K c (upd H (loc (.done i)) (.dK (ds.map λh:Nat=>(iY (h:Int),.bl df)))) F loc dx q p tp n {s with ls:=s.ls.set i {l with done:=ds}}/\Step H F (upd H (loc (.done i)) (.dK (ds.map λh:Nat=>(iY (h:Int),.bl df)))) F:=by
 let a:=(ai.mp hl).1;erw[A1 X (r:=.done i) (q':=q) (by show (s.ls[i]?.map _)≠de;rw[hl];erw[bC _]) (λx=>?_) (λb=>#[λg f=>(X.tup.rows g f).mono b,λk d e=>?_,X.tup.cps.mono b])];·(ext x <;> first|rfl|skip);show ac _=ac (gc ((av (ge (s.ls.set i _))).map _));rw[bu];(all_goals rename_i k);show (s.ls[k]?.map λl=>qv c dx loc k l)=((s.ls.set i _)[k]?.map λl=>qv c dx loc k l);rw[fR a];by_cases z:k=i;subst z;rw[eG rfl,hl];rfl;rw[eH z];show (s.ls[k]?.map λl=>vf c (dx (.letter k)) l)=((s.ls.set i _)[k]?.map λl=>vf c (dx (.letter k)) l);rw[fR a];by_cases z:k=i;subst z;rw[eG rfl,hl];rfl;rw[eH z];show jz (g0 c dx tp loc q s) (.done i) _ (.done k)=((s.ls.set i _)[k]?.map λl=>HO.dK (l.done.map λh:Nat=>(iY (h:Int),.bl df)));rw[fR a];by_cases z:k=i;subst z;rw[fD,eG rfl];rfl;rw[dD (λe=>z (by ext e;rfl)),eH z];rfl;show (s.ls[k]?.map λ_=>gc ((q.dq k).map fx))=((s.ls.set i _)[k]?.map λ_=>gc ((q.dq k).map fx));rw[fR a];by_cases z:k=i;subst z;rw[eG rfl,hl];rfl;rw[eH z]
 let e:(s.ls.set i _)[k]?=ac d:=e;rw[fR a] at e;by_cases z:k=i;subst z;rw[eG rfl] at e;ext e;erw[(X.tup.aK k l hl).mono b];rw[eH z] at e;erw[(X.tup.aK k d e).mono b]
theorem C1(X:mz K c H F loc dx q p tp n s){i:Nat}{l:LS}(hl:s.ls[i]?=ac l){a:du}{d:kE}(A:dH K H a d.vs) :mz K c (upd H (loc (.aK i)) (.lst ((q.dq i).map fx++[.ref a]))) F loc dx {q with dq:=gM q.dq i (q.dq i++[a])} p tp n {s with ls:=s.ls.set i {l with aK:=l.aK++[d]}}/\Step H F (upd H (loc (.aK i)) (.lst ((q.dq i).map fx++[.ref a]))) F:=by
 let o:=(ai.mp hl).1;erw[A1 X (r:=.aK i) (q':={q with dq:=gM q.dq i (q.dq i++[a])}) (by show (s.ls[i]?.map _)≠de;rw[hl];erw[bC _]) (λx=>?_) (λf=>#[λg w=>(X.tup.rows g w).mono f,λk v e=>?_,X.tup.cps.mono f])];·(ext x <;> first|rfl|skip);show ac _=ac (gc ((av (ge (s.ls.set i _))).map _));rw[bu];(all_goals rename_i k);show (s.ls[k]?.map λl=>qv c dx loc k l)=((s.ls.set i _)[k]?.map λl=>qv c dx loc k l);rw[fR o];by_cases z:k=i;subst z;rw[eG rfl,hl];rfl;rw[eH z];show (s.ls[k]?.map λl=>vf c (dx (.letter k)) l)=((s.ls.set i _)[k]?.map λl=>vf c (dx (.letter k)) l);rw[fR o];by_cases z:k=i;subst z;rw[eG rfl,hl];rfl;rw[eH z];show (s.ls[k]?.map λl=>HO.dK (l.done.map λh:Nat=>(iY (h:Int),.bl df)))=((s.ls.set i _)[k]?.map λl=>HO.dK (l.done.map λh:Nat=>(iY (h:Int),.bl df)));rw[fR o];by_cases z:k=i;subst z;rw[eG rfl,hl];rfl;rw[eH z];show jz (g0 c dx tp loc q s) (.aK i) _ (.aK k)=((s.ls.set i _)[k]?.map λ_=>gc ((gM q.dq i (q.dq i++[a]) k).map fx));rw[fR o];by_cases z:k=i;subst z;rw[fD,eG rfl,c9,aN];rfl;rw[dD (λe=>z (by ext e;rfl)),eH z,fL z];rfl
 show fE K _ (gM q.dq i (q.dq i++[a]) k) _;let e:(s.ls.set i _)[k]?=ac v:=e;rw[fR o] at e;by_cases z:k=i;subst z;rw[eG rfl] at e;ext e;rw[c9];show fE K _ _ ((l.aK++[d]).map kE.vs);rw[aN];let u:=(X.tup.aK k l hl).mono f;exists by rw[az,az,u.len];rfl,λj b x t m=>?_;obtain t|⟨rfl,rfl⟩:=AS t;let y:=(ai.mp t).1;rw[aW (by rw[<- u.len];erw[y])] at m;erw[u.at' j b x t m];rw[u.len,bE (aA _)] at m;rw[fB] at m;ext m;erw[f _ _ A];rw[eH z] at e;rw[fL z];erw[(X.tup.aK k v e).mono f]
theorem XH(X:mz K c H F loc dx q p tp n s){qs:!du}{cps:!Cp}(b:fE K H qs (cps.map Cp.vs)) :mz K c (upd H (loc .gj) (.lst (qs.map fx))) F loc dx {q with cq:=qs} p tp n {s with cps:=cps}/\Step H F (upd H (loc .gj) (.lst (qs.map fx))) F :=A1 X (r:=.gj) (q':={q with cq:=qs}) (bC _) (λx=>by ext x <;> rfl) (λa=>#[λg d=>(X.tup.rows g d).mono a,λk l e=>(X.tup.aK k l e).mono a,b.mono a])
theorem ab3(X:mz K c H F loc dx q p tp n s)(hs:!Nat) :mz K c (upd H (loc .aE) (.lst (bA hs))) F loc dx q p tp n {s with aE:=hs}/\Step H F (upd H (loc .aE) (.lst (bA hs))) F :=A1 X (r:=.aE) (q':=q) (bC _) (λx=>by ext x <;> rfl) (λa=>#[λg b=>(X.tup.rows g b).mono a,λk l e=>(X.tup.aK k l e).mono a,X.tup.cps.mono a])
theorem ab4(X:mz K c H F loc dx q p tp n s){i:Nat}(d:i<ge s.had)(a:!Nat) :mz K c (upd H (loc (.handed i)) (.lst (bA a))) F loc dx q p tp n {s with had:=s.had.set i a}/\Step H F (upd H (loc (.handed i)) (.lst (bA a))) F:=by
 erw[A1 X (r:=.handed i) (q':=q) (by show (s.had[i]?.map _)≠de;rw[aa d];erw[bC _]) (λx=>?_) (λb=>#[λg f=>(X.tup.rows g f).mono b,λk l e=>(X.tup.aK k l e).mono b,X.tup.cps.mono b])];ext x <;> first|rfl|skip
 show ac _=ac (gc ((av (ge (s.had.set i _))).map _));rw[bu];rename_i k;show jz (g0 c dx tp loc q s) (.handed i) _ (.handed k)=((s.had.set i a)[k]?.map λw=>gc (bA w));rw[cP];by_cases z:k=i;subst z;rw[fD,eG rfl,eG d];rfl;rw[dD (λe=>z (by ext e;rfl)),eH (cC z)];rfl
end
theorem wN{a:Type}{xs:!a}{i:Nat}{x:a}(h:xs[i]?=ac x):xs.set i x=xs:=by let#[b,rfl]:=ai.mp h;erw[List.set_getElem_self b]
noncomputable def CH(c:NC)(HE Q3 la da ea:du)(n:Nat)(l:LS):Role->Option HO
 |.cR i=>if i=n then ac (.ins c.post HE [("letter",.ref la),("group",.int l.grp),("old",.bl l.old),("done_at",.ref da),("deeds",.ref ea)]) else de
 |.letter i=>if i=n then ac (vf c Q3 l) else de
 |.done i=>if i=n then ac (.dK (l.done.map λh:Nat=>(iY (h:Int),.bl df))) else de
 |.aK i=>if i=n then ac (.lst []) else de
 |_=>de
noncomputable def ij(pa la da ea:du):Role->du
 |.cR _=>pa
 |.letter _=>la
 |.done _=>da
 |.aK _=>ea
 |_=>0
section
variable{K:ah}{c:NC}{H H':Hp}{F:du->Prop}{loc dx:Role->du}{q:TQ}{p tp:du}{n:Nat}{s:NS}
theorem Ta{HE Q3 pa la da ea:du}{l:LS}(u:H pa=ac (.ins c.post HE [("letter",.ref la),("group",.int l.grp),("old",.bl l.old),("done_at",.ref da),("deeds",.ref ea)]))(t:H la=ac (vf c Q3 l))(x:H da=ac (.dK (l.done.map λh:Nat=>(iY (h:Int),.bl df))))(v:H ea=ac (.lst [])) (m:pa≠la) (s:pa≠da) (j:pa≠ea) (k:la≠da) (p:la≠ea) (q:da≠ea):yR H (ij pa la da ea) (CH c HE Q3 la da ea n l):=by
 let d:∀{i:Nat}{o:HO}{g:HO},(if i=n then ac o else de)=ac g->o=g/\i=n:=λ{i o g}e=>(by by_cases z:i=n;rw[eG z] at e;ext e;erw[2,z];rw[eH z] at e;ext e);let f:∀{i:Nat}{o:HO},(if i=n then ac o else de)≠de->i=n:=λ{i o}e=>(by by_cases z:i=n;erw[z];rw[eH z] at e;erw[ff rfl e]);erw[λr o e=>?_,λr w a b e=>?_];·(ext r <;> first|(ext e;done)|skip);rw[<- (d e).1];erw[u];rw[<- (d e).1];erw[t];rw[<- (d e).1];erw[x];rw[<- (d e).1];erw[v]
 ·(ext r <;> first|erw[ff rfl a]|skip);(all_goals ext w <;> first|erw[ff rfl b]|skip)
  all_goals first
   | (rw[f a,f b];done)
   |erw[ff e m]
   |erw[ff e.symm m]
   |erw[ff e s]
   |erw[ff e.symm s]
   |erw[ff e j]
   |erw[ff e.symm j]
   |erw[ff e k]
   |erw[ff e.symm k]
   |erw[ff e p]
   |erw[ff e.symm p]
   |erw[ff e q]
   |erw[ff e.symm q]
theorem ab5(C:loc .c6=p)(O:yR H loc (g0 c dx tp loc q s))(j:∀b,F b↔Fp loc (g0 c dx tp loc q s) b)(m:qu K H n q s){HE Q3 pa la da ea:du}{l:LS}(W:l.aK=[]) (T:H pa=ac (.ins c.post HE [("letter",.ref la),("group",.int l.grp),("old",.bl l.old),("done_at",.ref da),("deeds",.ref ea)])) (I:H la=ac (vf c Q3 l)) (h3:H da=ac (.dK (l.done.map λh:Nat=>(iY (h:Int),.bl df)))) (X:H ea=ac (.lst [])) (P:pa≠la) (Z:pa≠da) (L:pa≠ea) (M:la≠da) (U:la≠ea) (Y:da≠ea) (n1:¬F pa) (n2:¬F la) (n3:¬F da) (n4:¬F ea) :∃G,eT K c (upd H (loc .dQ) (.lst (((av (ge s.ls)).map λi=>.ref (loc (.cR i)))++[.ref pa]))) G p tp n {s with ls:=s.ls++[l]} /\(∀b o,H b=ac o->¬F b->(upd H (loc .dQ) (.lst (((av (ge s.ls)).map λi=>.ref (loc (.cR i)))++[.ref pa]))) b=ac o)/\∀b,G b->F b\/b=pa\/b=la\/b=da\/b=ea:=by
 let B:=Ta (n:=ge s.ls) (c:=c) T I h3 X P Z L M U Y;let N0:eT K c H F p tp n s:=#[loc,dx,q,C,O,j,m];let t:g0 c dx tp loc q s .dQ≠de:=bC _;let y:F (loc .dQ):=(j _).mpr #[.dQ,t,2];let v:∀r,CH c HE Q3 la da ea (ge s.ls) l r≠de->¬F (ij pa la da ea r):=λr h=>(by ext r <;> first|erw[ff rfl h]|assumption);let D:∀b o,H b=ac o->¬F b->(upd H (loc .dQ) (.lst (((av (ge s.ls)).map λi=>.ref (loc (.cR i)))++[.ref pa]))) b=ac o:=λb u e z=>cj b u e λw=>z (w▸y);let A:∀b x,dH K H b x->dH K _ b x:=λb x=>N0.tup D;let J:=O.join B λr q' a b e=>v q' b (e▸(j _).mpr #[r,a,2]);let S:=J.set (r:=.dQ) t (.lst (((av (ge s.ls)).map λi=>fx (loc (.cR i)))++[.ref pa]));let d:∀{k:Nat},k≠ge s.ls->(s.ls++[l])[k]?=s.ls[k]?:=λ{k}z=>(by by_cases w:k<ge s.ls;erw[aW w];rw[lF (by rw[az];show ge s.ls+1<=k;lia),lF ∅]);let f:(s.ls++[l])[ge s.ls]?=ac l:=(by rw[bE (aA _),fB];rfl);let#[R,F4]:=S.ext (XF:=g0 c (λr=>if r=.cR (ge s.ls) then HE else if r=.letter (ge s.ls) then Q3 else dx r) tp (λr=>if (CH c HE Q3 la da ea (ge s.ls) l r).isSome=df then ij pa la da ea r else loc r) {q with dq:=gM q.dq (ge s.ls) []} {s with ls:=s.ls++[l]})
  (loc':=λr=>if (CH c HE Q3 la da ea (ge s.ls) l r).isSome=df then ij pa la da ea r else loc r) (λr=>by
   ext r <;> first|rfl|skip
   ·
    show ac _=ac (gc ((av (ge (s.ls++[l]))).map _));rw[az];show _=ac (gc ((av (ge s.ls+1)).map _));rw[fk,aN];congr 2;congr 1
    ·refine dm λi hi=>?_
     let z:i≠ge s.ls:=by let:=bO.mp hi;lia
     simp[CH,z]
    ·simp[CH,ij]
   all_goals rename_i k
   all_goals by_cases z:k=ge s.ls
   all_goals first|subst z|skip
   all_goals rw[dD (λe=>by ext e)]
   ·simp[CH,ij,g0,f]
   ·let:=d z
    simp[CH,ij,g0,z,this]
   ·simp[CH,ij,g0,f]
   ·let:=d z
    simp[CH,ij,g0,z,this]
   ·simp[CH,ij,g0,f]
   ·let:=d z
    simp[CH,ij,g0,z,this]
   ·simp[CH,ij,g0,f,c9]
   ·let:=d z
    simp[CH,ij,g0,z,this,fL z]) (λr _=>rfl)
 erw[Fp _ _,#[λr=>if (CH c HE Q3 la da ea (ge s.ls) l r).isSome=df then ij pa la da ea r else loc r,33,C,R,λb=>Iff.rfl,#[λg N=>(m.rows g N).mono A,λk E e=>?_,m.cps.mono A]],D,λb Q=>?_];let e:(s.ls++[l])[k]?=ac E:=e;show fE K _ (gM q.dq (ge s.ls) [] k) _;by_cases z:k=ge s.ls;subst z;rw[f] at e;ext e;rw[c9,W];erw[2,λi b x e=>by ext e];rw[d z] at e;rw[fL z];erw[(m.aK k E e).mono A];·let#[r,a,e]:=(Lr (ob:=λr=>if (CH c HE Q3 la da ea (ge s.ls) l r).isSome=df then CH c HE Q3 la da ea (ge s.ls) l r else g0 c dx tp loc q s r) (r:=.dQ) t).mp ((F4 b).mpr Q);by_cases z:(CH c HE Q3 la da ea (ge s.ls) l r).isSome=df;(·simp only[z,if_true] at e;(subst e;right;ext r <;> first|(ext z;done)|skip);erw[.inl rfl];erw[.inr (.inl rfl)];erw[.inr (.inr (.inl rfl))];erw[.inr (.inr (.inr rfl))]);simp only[z,if_false] at a e;erw[.inl ((j b).mpr #[r,by simpa using a,by simpa using e])]
end
theorem XI(a b x y:Int):PyData.eqv (.tuple (([a,b]:!Int).map .int)) (.tuple (([x,y]:!Int).map .int))=decide (a=x/\b=y):=by show (PyData.eqv (.int a) (.int x)&&(PyData.eqv (.int b) (.int y)&&df))=_;show ((a==x)&&((b==y)&&df))=_;rw[Bool.and_true,qj];simp
section
variable{K:ah}{c:NC}{H H':Hp}{F:du->Prop}{loc dx:Role->du}{q:TQ}{p tp:du}{n:Nat}{s:NS}
theorem mz.past(X:mz K c H F loc dx q p tp n s)(d:H z=ac u)(g:Ai u)(f:¬F z)(a:∀b v,H b=ac v->b≠z->H' b=ac v):mz K c H' F loc dx q p tp n s :=#[X.hp,X.own.keep λb o e y=>a b o e λw=>f (w▸(X.fp b).mpr y),X.fp,X.tup.mono λb x=>dH.past d g a]
end
noncomputable def nS(i x:Nat)(c:Cp):Bool:=decide (c.r=i/\c.w=x)
noncomputable def eF(s:NS)(i:Nat)(d:kE):NS:=match s.ls[i]? with|some l=>{s with ls:=s.ls.set i {l with aK:=l.aK++[d]}}|none=>s
theorem gD{s:NS}{i:Nat}(h:s.ls[i]?=ac l):eF s i d={s with ls:=s.ls.set i {l with aK:=l.aK++[d]}}:=by delta eF;rw[h]
noncomputable def qw(i x:Nat)(s:NS)(c:Cp):NS:=if nS i x c=df then eF s c.l (.abY c.h i) else s
noncomputable def kg(s:NS)(i x:Nat)(m:Nat):NS:=(s.cps.take m).foldl (qw i x) s
noncomputable def m5(s:NS)(i x:Nat):NS:={kg s i x (ge s.cps) with cps:=s.cps.filter λc=>(nS i x c).not}
theorem Tu:ge (eF s i d).ls=ge s.ls:=by delta eF;cases s.ls[i]? with|none=>rfl|some l=>erw[bu]
theorem ZI:ge (qw i x s c).ls=ge s.ls:=by delta qw;split;erw[Tu];rfl
theorem Tv:(eF s i d).cps=s.cps:=by delta eF;cases s.ls[i]? <;> rfl
theorem ZJ:(qw i x s c).cps=s.cps:=by delta qw;split;erw[Tv];rfl
theorem PV{i x:Nat}:∀{cs:!Cp}{s:NS},ge (cs.foldl (qw i x) s).ls=ge s.ls
 |[],_=>rfl
 |c::cs,s=>by rw[jU,PV,ZI]
theorem PX{i x:Nat}:∀{cs:!Cp}{s:NS},(cs.foldl (qw i x) s).cps=s.cps
 |[],_=>rfl
 |c::cs,s=>by rw[jU,PX,ZJ]
theorem A2:kg s i x 0=s:=by delta kg;rw[List.take_zero];rfl
theorem wO{s:NS}{m:Nat}(h:m<ge s.cps):kg s i x (m+1)=qw i x (kg s i x m) s.cps[m]:=by delta kg;rw[iF h,List.foldl_append];rfl
def PY:ge (kg s i x m).ls=ge s.ls:=PV
def ZK:(kg s i x m).cps=s.cps:=PX
theorem PZ{a:Type}{f:a->Bool}{xs:!a}{i:Nat}(b:i<ge xs):(xs.take (i+1)).filter f=(xs.take i).filter f++if f xs[i]=df then [xs[i]] else []:=by rw[iF b,dZ];congr 1;cases e:f xs[i];rw[eH (!_),dg (by rw[e];decide)];rfl;rw[eG rfl,dc e];rfl
theorem fE.snoc{K:ah}(h:fE K H qs xs)(e:dH K H a x):fE K H (qs++[a]) (xs++[x]):=by exists by rw[az,az,h.len];rfl,λj b y c d=>?_;obtain c|⟨rfl,rfl⟩:=AS c;let f:=(ai.mp c).1;rw[aW (by rw[<- h.len];erw[f])] at d;erw[h.at' j b y c d];rw[h.len,bE (aA _),fB] at d;ext d;erw[e]
end TW
namespace RM
variable{N:Net}{S:Nat->Row}
structure ab6(N:Net)(S:Nat->Row)(h:Nat):Prop where
 got:∃g,mV N h g/\(S h).hd=N.nm g
 least:∀g,mV N h g->(S h).hd<=N.nm g
 apC:N.nm h=(S h).hd->S h=own N h
 one:N.nm h≠(S h).hd->∃k g,CC N k h g/\S h=over N k (S g)
 all:N.nm h≠(S h).hd->∀k g,CC N k h g->le (S h) (over N k (S g))
theorem Rest.right(b:Rest N S)(sS:Sane N S){h:Nat}(d:h<N.n):ab6 N S h:=by let#[#[g,l,_,e],c]:=b.head sS d;erw[#[g,l,e],c,λe=>b.aby sS d e.symm,λf=>?_,λ_ k g a=>QS b sS a (le_refl (S g))];obtain z|⟨k,g,a,_,z⟩:=(b h d).one;erw[ff (by rw[z];rfl) f];erw[k,g,a,z]
end RM
namespace Gr
end Gr
namespace L2
open PySem PySem.Spec PyProof.Rows
section
variable{X:Cx}{pos:Pos}
theorem sS(i:Nat){x:Str}{e:Expr}{b:TE}{a:Pos}{ps:!Str}{j:Scope}(S:aQ X.N ps j)(c:PE X e b)(f:X.N[i]?=ac x:=by rfl)(h:Loc X.env.scope x:=by w_up)(d:swapsWith e (ac (.Name x a)) pos.line X.env=pure dr:=by rfl)(g:X.fn x=df\/X.env.scope.names.lookup x=ac .local:=by w_up) :PS X (.Assign [.Name x a] e pos) (mm b (iU i)):=UV S.nd f h c d g
theorem gS(i:Nat)(a:X.N.Nodup)(b:X.N[i]?=ac x:=by rfl)(d:Loc X.env.scope x:=by w_up)(c:X.fn x=df\/X.env.scope.names.lookup x=ac .local:=by w_up):PG X (.Name x pos) (iU i):=W9 a b d c
theorem gT(i:Nat)(S:aQ X.N ps sc)(a:X.N[i]?=ac x:=by rfl)(c:Loc X.env.scope x:=by w_up)(b:X.fn x=df\/X.env.scope.names.lookup x=ac .local:=by w_up):PG X (.Name x pos) (iU i):=W9 S.nd a c b
def oR(a:PE X e te):iR X [.Return (ac e) pos] (pz te):=b6 (Do a)
def oB{b j pos'}:iR X [.Return (ac (.Constant (.bool b) j pos')) pos] (pz (tC (.bl b))):=b6 (Do KY)
theorem oE(a:PE X e te)(hs:swapsWith e de pos.line X.env=pure dr:=by rfl):iR X [.Expr e pos] (xc te):=b6 (fC a hs)
theorem dj(b:PE X e1 t1)(a:iT e1=df:=by rfl):PA X [e1] (mD t1 HN):=(xQ b gx a)
theorem oW(d:PE X e1 t1)(c:PE X e2 t2)(a:iT e1=df:=by rfl)(b:iT e2=df:=by rfl):PA X [e1,e2] (mD t1 (mD t2 HN)):=(xQ d (xQ c gx b) a)
theorem Lv(d:PE X e1 t1)(c:PE X e2 t2)(b:PE X e3 t3)(e:iT e1=df:=by rfl)(a:iT e2=df:=by rfl)(f:iT e3=df:=by rfl):PA X [e1,e2,e3] (mD t1 (mD t2 (mD t3 HN))):=(xQ d (xQ c (xQ b gx f) a) e)
theorem mj(d:PE X e1 t1)(c:PE X e2 t2)(b:PE X e3 t3)(h:PE X e4 t4)(e:iT e1=df:=by rfl)(a:iT e2=df:=by rfl)(g:iT e3=df:=by rfl)(f:iT e4=df:=by rfl):PA X [e1,e2,e3,e4] (mD t1 (mD t2 (mD t3 (mD t4 HN)))):=(xQ d (xQ c (xQ b (xQ h gx f) g) a) e)
theorem Ev(e:PE X e1 t1)(c:PE X e2 t2)(b:PE X e3 t3)(d:PE X e4 t4)(j:PE X e5 t5)(f:iT e1=df:=by rfl)(a:iT e2=df:=by rfl)(i:iT e3=df:=by rfl)(g:iT e4=df:=by rfl)(h:iT e5=df:=by rfl):PA X [e1,e2,e3,e4,e5] (mD t1 (mD t2 (mD t3 (mD t4 (mD t5 HN))))):=(xQ e (xQ c (xQ b (xQ d (xQ j gx h) g) i) a) f)
theorem Ee(f:PE X e1 t1)(d:PE X e2 t2)(c:PE X e3 t3)(e:PE X e4 t4)(k:PE X e5 t5)(b:PE X e6 t6)(g:iT e1=df:=by rfl)(a:iT e2=df:=by rfl)(j:iT e3=df:=by rfl)(h:iT e4=df:=by rfl)(i:iT e5=df:=by rfl)(l:iT e6=df:=by rfl):PA X [e1,e2,e3,e4,e5,e6] (mD t1 (mD t2 (mD t3 (mD t4 (mD t5 (mD t6 HN)))))):=(xQ f (xQ d (xQ c (xQ e (xQ k (xQ b gx l) i) h) j) a) g)
theorem kO(S:aQ N ps dsc)(b:!Str)(a:!(Option Nat))(d:X.env.scope=dsc:=by rfl)(c:X.N=N:=by rfl)(h:D8 scope dsc N b a=df:=by decide +kernel):ku X scope b a:=Px d c h
end
section
variable{X:Cx}{a b tg iter:Expr}{ta tb:TE}{pos:Pos}{op:CmpOp}{r:R2}{body:!Stmt}{wi:TI}{g:TG}{ts:TS}
theorem xL(c:PE X a ta)(d:PE X b tb)(hs:Gy b:=by erw[λ_ _=>rfl]):PE X (.Subscript a b pos) (nk (VI X.K) ta tb):=SR Xh c d hs
theorem xT(c:PE X a ta)(d:PE X b tb)(hs:Gy b:=by erw[λ_ _=>rfl]):PE X (.Subscript a b pos) (nk (Zc X.K) ta tb):=SR AT c d hs
theorem yL(K:ah)(c:PE X a ta)(e:PE X b tb)(d:X.K=K:=by rfl)(f:Gy b:=by erw[λ_ _=>rfl]):PE X (.Subscript a b pos) (nk (VI K) ta tb):=SR (abp K d) c e f
theorem yT(K:ah)(c:PE X a ta)(e:PE X b tb)(d:X.K=K:=by rfl)(f:Gy b:=by erw[λ_ _=>rfl]):PE X (.Subscript a b pos) (nk (Zc K) ta tb):=SR (aek K d) c e f
theorem qE(c:AN X (fa op) r)(d:PE X a ta)(g:PE X b tb)(f:op≠.In:=by decide)(e:op≠.NotIn:=by decide):PE X (.Compare a [op] [b] pos) (nk r ta tb):=D4 c d g (D1 b f e)
theorem qT(c:AN X (fa op) r)(d:PE X a ta)(g:PE X b tb)(f:op≠.In:=by decide)(e:op≠.NotIn:=by decide):PT X (.Compare a [op] [b] pos) (sh (nk r ta tb)):=oS c d g (D1 b f e)
theorem fS(c:PI X tg iter wi)(a:PG X tg g)(b:iR X body ts)(f:PassesOwn (model X.prog X.w) X.A X.env X.xe:=by erw[PassesOwn.never])(e:X.calm=df:=by rfl)(d:∀x,foldedSetIterable iter X.env x=pure x:=by intro _;rfl):PS X (.For tg iter body [] pos) (ut wi g ts):=TK f e c a b d
end
section
variable{X:Cx}{x:Str}{p pos:Pos}{e:Expr}{es:!Expr}{te:TE}{t:TA}{id:String}{r:!V->Hp->VK->Prop}
theorem cB(f:pU X (.builtin id) r)(d:X.mg x=de)(j:bootBuiltins x=ac (.builtin id))(c:PA X (e::es) t)(i:Gl X x:=by rfl)(g:x≠"__name__" := by decide)(a:(x==("__debug__" : Str))=dr:=by decide) (h:eP (e::es) X.env=(dr,eval e X.env)::eP es X.env:=by rfl) (b:(backTo pos (eP es X.env)).any (·.1)=dr:=by rfl):PE X (.Call (.Name x p) (e::es) [] pos) (lf r t):=SO f i d j c g a h b
theorem lS(f:X.mg "len" = de)(d:PE X e te)(h:Gl X "len" := by rfl)(a:iT e=df:=by rfl)(g:eP [e] X.env=(dr,eval e X.env)::eP [] X.env:=by rfl)(c:(backTo pos (eP [] X.env)).any (·.1)=dr:=by rfl) :PE X (.Call (.Name "len" p) [e] [] pos) (lf (λi H Q=>∃p b,i=[.ref p]/\(bJ X.K H p b\/dH X.K H p b)/\Q (.int (ge b)) H) (mD te HN)):=SO QK h f PySem.boot_len (xQ d gx a) (!_) (!_) g c
end
theorem iG{N P:!Str}{a:Scope}(e:a.kind=.function:=by rfl)(c:a.isCoroutine=dr:=by rfl)(d:a.isGenerator=dr:=by rfl)(h:N.Nodup:=by decide +kernel)(g:N.take (ge P)=P:=by rfl)(b:∀x∈P,a.names.lookup x=ac .local\/a.names.lookup x=ac .cell:=by decide +kernel)(f:∀y∈a.names,y.2≠.free:=by decide +kernel):aQ N P a:=#[e,c,d,h,g,b,f]
structure gO(K:ah)(mg:Str->Option dy)(x key:Str)(st:Stmt)(f:du)(d:FuncData)(ps:!Str):Prop where
 F:Vn K x key st f d
 B:Binds K d ps []
 g:mg x=ac (.ref f)
structure jn(K:ah)(C:du)(x key:Str)(st:Stmt)(f:du)(d:FuncData)(ps:!Str):Prop where
 F:Vn K x key st f d
 B:Binds K d ps []
 m:QE K C x f
structure Lw(K:ah)(C:du)(key:Str)(st:Stmt)(f:du)(d:FuncData)(ps:!Str):Prop where
 F:Vn K "__init__" key st f d
 B:Binds K d ps []
 M:Mk K C f
def EG(K:ah)(mg:Str->Option dy)(x key:Str)(st:Stmt)(f:du):Prop:=∃d,Vn K x key st f d/\mg x=ac (.ref f)
def EM(K:ah)(C:du)(x key:Str)(st:Stmt)(f:du):Prop:=∃d,Vn K x key st f d/\QE K C x f
structure EC(K:ah)(C:du):Prop where
 c:ND K C
 mak:PySem.W.makesIn K C=df
 kc:fz K (.ref C)=df
section
variable{K:ah}{h:Heap}{mg:Str->Option dy}{x key:Str}{st:Stmt}{C f:du}{oc:dy}{od an:Option du}{osl:Array (Option dy)}{kV doc pm cdv ct:dy}
def Xg(X:K.In h)(G:h.Ns eI mg)(a:bQ K eI x=ac (ac (.ref f)))(l:K.lookup f=ac #[oc,od,.func (fN x key (kr st) (g7 st) (aC st) .none kV doc pm an cdv ct),osl])(c:lX K cdv key=df)(k:fz K (.ref f)=df):EG K mg x key st f:=#[_,zt l c k,cE X G a]
def Hx(a:aV K (.ref C) x=ac (ac (.ref f)))(i:PySem.W.isFn K (.ref f)=df)(l:K.lookup f=ac #[oc,od,.func (fN x key (kr st) (g7 st) (aC st) .none kV doc pm an cdv ct),osl])(c:lX K cdv key=df)(k:fz K (.ref f)=df):EM K C x key st f:=#[_,zt l c k,#[a,i,k]]
def t7(e:AG K C Str.empty=df)(c:yI K C=df)(b:PySem.W.plainOver K C=df)(d:aV K (.ref C) "__setattr__" = ac (ac (.builtin "object.__setattr__")))(f:PySem.W.makesIn K C=df)(a:fz K (.ref C)=df):EC K C:=#[#[e,c,b,d],f,a]
end
section
variable{X:Cx}{k k':Nat}{f C:du}{fd:FuncData}{ps:!Str}{sp:Sp}{x m key:Str}{st:Stmt}{p pos apos:Pos}{e o:Expr}{es:!Expr}{ta:TE}{t:TA}
theorem cG(F:ou X.prog X.w X.K X.mg X.base QN k f fd ps sp)(i:mK k' X.A)(c:gO X.K X.mg x key st f fd ps)(h:PA X (e::es) t)(b:k<=k':=by decide)(l:Gl X x:=by rfl)(a:(x==("__debug__" : Str))=dr:=by decide)(j:eP (e::es) X.env=(dr,eval e X.env)::eP es X.env:=by rfl)(d:(backTo pos (eP es X.env)).any (·.1)=dr:=by rfl) :PE X (.Call (.Name x p) (e::es) [] pos) (wS sp [] E0 t):=D5 F (i.mono b) l c.g c.F.kp c.B .nil nX h a j d
theorem cM{pl:Sem Bool}(i:PE X o ta)(c:ND X.K C)(u:jn X.K C m key st f fd ps)(F:ou X.prog X.w X.K X.mg X.base QN k f fd ps sp)(h:mK k' X.A)(j:PA X (e::es) t)(a:k<=k':=by decide)
 (d:eP (e::es) X.env=(dr,eval e X.env)::eP es X.env:=by rfl) (b:(backTo pos (eP es X.env)).any (·.1)=dr:=by rfl)
 (l:eval (.Call (.Attribute o m apos) (e::es) [] pos) X.env=(do
  let g <- eval o X.env
  standAt apos.atName
  let (f,first) <- holding [g] (getMethod g m pl)
  callWith pos f first (backTo pos (eP (e::es) X.env)) (backToKw pos (keywordEach [] X.env))):=by rfl):
 PE X (.Call (.Attribute o m apos) (e::es) [] pos) (Jy C m sp [] E0 ta t):=sr i c u.m F (h.mono a) u.B .nil nX j d b l
theorem cI(u:Lw X.K C key st f fd ps)(F:ou X.prog X.w X.K X.mg X.base QN k f fd ps sp)(g:mK k' X.A)(h:X.mg x=ac (.ref C))(d:PA X (e::es) t)(b:k+1<=k':=by decide)(j:Gl X x:=by rfl)(a:(x==("__debug__" : Str))=dr:=by decide)(i:eP (e::es) X.env=(dr,eval e X.env)::eP es X.env:=by rfl)(c:(backTo pos (eP es X.env)).any (·.1)=dr:=by rfl) :PE X (.Call (.Name x p) (e::es) [] pos) (sg C sp [] E0 t):=Xe u.M F (g.mono b) j h u.B .nil nX d a i c
end
section
variable{P:ft}{w:World}{K:ah}{mg:Str->Option dy}{base:Heap}
theorem Vn.iV{x a:Str}{st:Stmt}{f:du}{e:FuncData}{N ps:!Str}{k:Nat}{sp:Sp}(F:Vn K x a st f e)(S:aQ N ps (aC st))(g:∀{c:dy}{A:fv}{b:!Env}{s:dA}{vs:!V}(H:Hp)(Q:VK)(E:XK),mK k (A.deeper (envOfC a (aC st) s.heap.objs.size f c))->sp vs H Q E ->∃t,iR (rH QN P w K mg base N a (aC st) f c A b s H E).z0 (g7 st) t/\t {nx:=λ_ j=>Q .gw j,rt:=Q} (start N vs) H)(d:∀vs H Q E,sp vs H Q E->ge vs=ge ps:=by k_in):ou P w K mg base QN (k+1) f e ps sp:=F.ok S d λ_ _ _ _ H _ Q E i h=>g H Q E i h
theorem Vn.ZL{x a:Str}{st:Stmt}{f:du}{e:FuncData}{N ps:!Str}{k:Nat}{sp:Sp}(F:Vn K x a st f e)(S:aQ N ps (aC st))(g:∀{c:dy}{A:fv}{b:!Env}{s:dA}{vs:!V}(H:Hp)(Q:VK)(E:XK),mK k (A.deeper (envOfC a (aC st) s.heap.objs.size f c))->sp vs H Q E ->∃t,iR (rH (HD P w) P w K mg base N a (aC st) f c A b s H E) (g7 st) t/\t {nx:=λ_ j=>Q .gw j,rt:=Q} (start N vs) H)(d:∀vs H Q E,sp vs H Q E->ge vs=ge ps:=by k_in):ou P w K mg base (HD P w) (k+1) f e ps sp:=F.okX S d λ_ _ _ _ H _ Q E i h=>g H Q E i h
theorem Q2.iV{x a:Str}{st:Stmt}{f:du}{e:FuncData}{j:dy}{N ps:!Str}{k:Nat}{sp:Sp}(F:Q2 K x a st f e j)(S:aQ N ps (aC st))(g:∀{c:dy}{A:fv}{b:!Env}{s:dA}{vs:!V}(H:Hp)(Q:VK)(E:XK),mK k (A.deeper (envOfC a (aC st) s.heap.objs.size f c))->sp vs H Q E ->∃t,iR (rH QN P w K mg base N a (aC st) f c A b s H E).z0 (g7 st) t/\t {nx:=λ_ l=>Q .gw l,rt:=Q} (start N vs) H)(d:∀vs H Q E,sp vs H Q E->ge vs=ge ps:=by k_in):ou P w K mg base QN (k+1) f e ps sp:=F.ok S d λ_ _ _ _ H _ Q E i h=>g H Q E i h
end
end L2
namespace L2
open PySem PySem.W PySem.Spec PyProof.Rows
abbrev T2:=Int×Int
noncomputable def me(x y:T2):Bool:=decide (x.1<y.1) || (decide (x.1=y.1)&&decide (x.2<y.2))
end L2
namespace L2
open PySem PySem.W PySem.Spec PySem.Calls PyProof.Rows
end L2
namespace L2
open PySem PySem.Spec PyProof.Rows
end L2
namespace L2
open PySem PySem.Spec PyProof.Rows PySem.Builtin PySem.Builtin.Str
end L2
namespace TX
open PySem PySem.Builtin PySem.Builtin.Str
end TX
namespace TX
open PySem PySem.StrLaws PySem.Builtin PySem.Builtin.Str
noncomputable def told(x:Str):!(!Str):=(Txt.split x ZF).map λp=>Txt.split p oz
end TX
namespace ST
open PySem
end ST
namespace ST
open PySem PyProof.Rows
end ST
namespace L2
open PySem PySem.Spec PyProof.Rows ST
end L2
namespace ST
open PySem PyProof.Rows
end ST
namespace L2
open PySem PySem.Spec PyProof.Rows ST
end L2
namespace L2
open PySem PySem.W PySem.Spec PyProof.Rows TW
section
variable{X:Cx}{pins:!(du×Obj)}{σ:St}{H:Hp}{s:dA}
open Classical in
noncomputable def Xo(qs:!du)(ts:!(!Int))(t:!Int):dy->Bool
 |.ref a=>decide (∃i:Nat,qs[i]?=ac a/\ts[i]?=ac t)
 |_=>dr
theorem XJ:∀{x y:!Int},x.map fw=y.map fw->x=y
 |[],[],_=>rfl
 |[],_::_,h=>by ext h
 |_::_,[],h=>by ext h
 |a::x,b::y,h=>by
  rw[bz,bz] at h;injection h with h1 h2
  rw[V.int.inj h1,XJ h2]
open Classical in
end
def kA(K:ah)(w:World)(a:du)(kvs:!(hJ×V)):Prop:=
 (a==sysModules)=dr/\∀(P:ft)(h:Heap),K.In h->∃vs,KV kvs vs/\h.DictOf (iw P w) a vs
inductive Ent(w:World):!DictEntry->!(Str×V)->Prop
 |nil:Ent w [] []
 |cons {x:Str} {t:Tok} {hs:Int} {u:dy} {v:V} {es:!DictEntry} {kvs:!(Str×V)} (hh:hs=hashStr w x) (r:RelV v u) (h:Ent w es kvs):Ent w (#[hs,.str x t,u]::es) ((x,v)::kvs)
theorem Ent.ok{w:World}(P:ft):∀{a:!DictEntry}{kvs:!(Str×V)},Ent w a kvs->∃vs:!(hJ×dy),KV (kvs.map λp=>((rF p.1:hJ),p.2)) vs/\vs.map (·.1)=kvs.map (λp=>rF p.1)/\Pairs (iw P w) a vs/\∀e∈a,∃k,(iw P w).is k e.key=df/\e.hash=(iw P w).hash k
 |_,_,.nil=>#[[],.nil,2,.nil,λe z=>by ext z]
 |_,_,.cons (x:=x) (t:=t) (u:=u) hh r h=>by
  let#[vs,c,b,f,d]:=h.ok P;exists (rF x,u)::vs,.cons #[2,r] c,by rw[bz,bz,b],.cons (HF x t) rfl f,λe z=>?_;obtain rfl|z:=aT.mp z
  ·erw[rF x,HF x t,hh]
  ·erw[d e z]
theorem aid{K:ah}{d:!DictEntry}(l:K.lookup a=ac {cls:=.type "dict",data:=.dict d.toArray ep})(o:(a==sysModules)=dr)(h:Ent w d kvs)(k:(kvs.map (·.1)).Nodup):kA K w a (kvs.map λp=>((rF p.1:hJ),p.2)):=by erw[o,λP q g=>?_];let#[i,j,f,n,m]:=h.ok P;erw[i,j,33,ep,g _ _ l,#[222],2,λe z=>m e z⁻¹,n,4];rw[f];let:(kvs.map λp=>(rF p.1:hJ))=(kvs.map (·.1)).map rF:=(by rw[bZ];rfl);rw[this];erw[List.Pairwise.map _ (λa b c e=>c (Sum.inr.inj e)) k]
noncomputable abbrev pc(l:!(Str×V)):!(hJ×V):=l.map λp=>((rF p.1:hJ),p.2)
def GN(K:ah)(p:du)(n:Int)(f:du):Prop:=∀H,dH K H p [.int n,.ref f]
def twE{K:ah}{b:Option du}{a:Array (Option dy)}(l:K.lookup p=ac #[.type "tuple",b,.seq [.int n t,.ref f].toArray m,a]):GN K p n f:=λH=>.inr #[333,l,22,g5,.cons #[1] (.cons rfl .nil)]
section
variable{X:Cx}{o i e fe:Expr}{es:!Expr}{pos:Pos}{td ty ta:TE}{t:TA}{a f:du}{kvs:!(hJ×V)}
def Hm(a:du)(kvs:!(hJ×V))(td ty:TE):TE:=λσ H Q=>td σ H λx H1=>ty σ H1 λy H2=>∃k v,x=.ref a/\y=kV k/\CO kvs k=ac v/\Q v H2
def Hk(a:du)(kvs:!(hJ×V))(ty td:TE):TE:=λσ H Q=>ty σ H λy H1=>td σ H1 λx H2=>∃k,x=.ref a/\y=kV k/\Q (.bl ((CO kvs k).isSome.not)) H2
theorem ab7(D:kA X.K X.w a kvs)(C:PE X o td)(J:PE X i ty)(hs:vw i):PE X (.Subscript o i pos) (Hm a kvs td ty):=by intro b s d H Q I h;erw[aeh PySem.F.slot_dict_getitem.lookup hs (iS (C b s d H _ I h) λu r ⟨x,n,p,E,g⟩=>iS (J b r d n _ p g) λM q u_=>?_)];let#[y,A,e,t,k,v,m,B,l,G]:=u_;subst m B;obtain rfl:u=Value.ref a:=E;let#[j,rel,f]:=D.2 X.prog q.heap e.NI;let#[L,z,c]:=CJ.some_of (v:=v) (o:=valueAt j k) (by rw[<- l];erw[rel.val k]);erw[f.typeIs,wpAny_getItem_of (Pj t) f.mapOf z #[v,A,e.tok _,c,G]]
theorem Wd(D:kA X.K X.w a kvs)(A:PE X i ty)(t:PE X o td):PC X .NotIn i o (Hk a kvs ty td):=by intro b s c H Q I h;erw[iS (A b s c H _ I h) λC m ⟨y,g,j,n,e⟩=>iS (t b m c g _ j e) λu l u_=>?_];let#[x,p,d,v,k,f,q,z]:=u_;subst f q;obtain rfl:u=Value.ref a:=v;let#[B,rel,r]:=D.2 X.prog l.heap d.NI;erw[wpAny_notIn_of (Pj n) D.1 r.mapOf ?_];rw[<- (rel.val k).D6];erw[.bl _,p,d.tok _,2,z]
theorem ZM:pU X (.type "str") (λxs H Q=>(∃i,xs=[.int i]/\i.natAbs.log2<1920/\Q (.str (toString i)) H)\/∃z,xs=[.str z]/\Q (.str z) H):=by intro a s b H xs c Q I r h;obtain h|⟨z,rfl,q⟩:=h;erw[ko a s b H xs c Q I r h];let#[u,rfl,t,rfl]:=vals1 r;erw[PySem.P.str_of_str #[.str z,H,I,#[t,2],q]]
theorem P0:∀{bs:!Bool}{us:!dy},cO (bs.map fI) us->∀y∈us,∃b,y=Value.bool b
 |[],_,.nil,y,z=>by ext z
 |b::bs,_,.cons r t,y,z=>by
  obtain rfl|z:=aT.mp z
  ·erw[b,r]
  ·erw[P0 t y z]
theorem JG(k:Bool):∀{bs:!Bool}{us:!dy},cO (bs.map fI) us->us.countP (isBoolOf k)=bs.count k
 |[],_,.nil=>rfl
 |b::bs,_,.cons r t=>by
  cases (show _=Value.bool b from r);rw[List.countP_cons,List.count_cons,JG k t];rfl
def aeJ(K:ah):V->!V->Hp->VK->Prop:=λx vs H Q=>∃(l:du)(bs:!Bool)(k:Bool),x=.ref l/\vs=[.bl k]/\bJ K H l (bs.map fI)/\Q (.int (bs.count k:Nat)) H
theorem ZN:qO X "list.count" (aeJ X.K):=by intro f s B H x C v G Q I A t h;let#[l,E,k,rfl,rfl,m,q]:=h;ext A;let#[u,rfl,p]:=t.one;ext p;let#[a,r,w,D]:=I.list m;let#[#[i,z,g,j],e,c,n,d]:=id w.isList;simp only at c d;subst c d;erw[call_meets vX #[_,e,2] PySem.F.entry_list_count (PySem.F.args_list_count_2 _ _) (PySem.SeqAt.list_countAt l a.toArray n z j (.bool k) (isBoolOf k)) #[e,λy o=>?_,4]];let#[b,rfl]:=P0 r y o⁻¹;erw[PySem.SeqAt.EqAt.bool_bool b k];rw[show a.toArray.toList=a from rfl,JG k r];erw[.int _,H,I.tok _,#[1],q]
end
def Runs(X:Cx)(q:du×Sp):Prop:=fz X.K (.ref q.1)=df/\∀(pins:!(du×Obj))(σ:St)(H:Hp)(s:dA)(Q:VK)(us:!dy)(vs:!V),Inv X pins σ H s->cO vs us->q.2 vs H Q E0->fg (model X.prog X.w) X.A (call (.ref q.1) us) (EP X pins σ Q) X.xe s
inductive Ef(X:Cx):!(du×Sp)->Prop
 |nil:Ef X []
 |cons {q:du×Sp} {qs:!(du×Sp)}:Runs X q->Ef X qs->Ef X (q::qs)
theorem Ef.of(h:Ef X qs):∀q∈qs,Runs X q:=by induction h with|nil=>intro q z;ext z|cons r _ a=>(intro q z;obtain rfl|z:=aT.mp z;erw[r];erw[a q z])
theorem nH{X:Cx}{st:Stmt}(F:ou X.prog X.w X.K X.mg X.base QN k f fd ps sp)(d:mK k' X.A)(c:gO X.K X.mg x key st f fd ps)(a:k<=k':=by decide):Runs X (f,sp) :=#[c.F.kp,λb e H s Q i g I r h=>K5 (EZ:=[]) F (d.mono a) c.B .nil nX I r (by rw[cu];erw[h])]
def SZ(fs:!(du×Sp))(ta:TE)(t:TA):TE:=λσ H Q=>ta σ H λx H1=>∃q,q∈fs/\x=.ref q.1/\t σ H1 λvs H2=>q.2 vs H2 Q E0
theorem ab8{X:Cx}{d e:Expr}{c:!Expr}{a:Pos}{j:TE}{t:TA}{l:!(du×Sp)}(D:PE X d j)(J:PA X (e::c) t)(y:Ef X l)(hs:eP (e::c) X.env=(dr,eval e X.env)::eP c X.env:=by rfl)(i:(backTo a (eP c X.env)).any (·.1)=dr:=by rfl)
 (g:eval (.Call d (e::c) [] a) X.env=(do
  let E <- eval d X.env
  callWith a E [] (backTo a (eP (e::c) X.env)) (backToKw a (keywordEach [] X.env))):=by rfl):PE X (.Call d (e::c) [] a) (SZ l j t):=by intro b s f H Q I h;rw[g];erw[dC (iS (D b s f H _ I h) λu B u_=>?_)];let#[x,o,p,K,q,w,n,z]:=u_;subst n;obtain rfl:u=Value.ref q.1:=K;let#[A,C]:=y.of q w;erw[vW (first:=[]) (h₀:=X.base) I.ok.mod.DL A (iS (J a b B f o _ p z) λL v ⟨m,F,k,r,G⟩=>#[k.NI,4]) hs i];erw[C b f F v Q L m k r G]
end L2
namespace L2
open PySem PySem.W PySem.Spec PyProof.Rows TW RM
section
variable{X:Cx}{e:Expr}{pos:Pos}{te:TE}
theorem Q4{f:Nat->Int}{ns:!Int}(h:∀i,i<ge ns->f i=ns.getD i 0):∀n,n<=ge ns->preSum f n=(ns.take n).sum
 |0,_=>rfl
 |n+1,a=>by
  show preSum f n+f n=_;rw[Q4 h n ∅,h n ∅,iF ∅,List.sum_append,ak,aa ∅];simp
theorem We:∀{ns:!Int},(∀n∈ns,0<=n/\n<=1)->0<=ns.sum/\ns.sum<=ge ns
 |[],_=>-_
 |n::ns,h=>by
  let c:=h n aM;let b:=We λm a=>h m (aO _ a);rw[lB,bG];lia
theorem ZO(z:X.calm=df):pU X (.builtin "sum") (λxs H Q=>∃(a:du)(ns:!Int),xs=[.ref a]/\bJ X.K H a (ns.map fw)/\ge ns<=1000/\(∀n∈ns,0<=n/\n<=1)/\Q (.int ns.sum) H):=by intro m s A H xs F Q I r ⟨a,ns,e,v,h,d,q⟩;subst e;let#[u,e,w]:=cO.one r;subst e;ext w;let#[g,y,p,C]:=I.list v;let o:IntsAre g ns:=intsAre_of y;let k:=p.isList;let#[xs,e]:=o.allInts.items;let c:ns=xs.toList.map (·.1):=(by rw[<- o.numsOf,<- nums_intItems,<- e]);let f:ge ns=xs.size:=(by rw[c,af,eK]);let b:∀i,i<ge ns->numAt xs i=ns.getD i 0:=λi _=>(by rw[c,numAt_eq]);rw[e] at k;erw[sum_intList (I.ok.hd z) k (λj D=>?_) λB E G x=>?_];rw[b j ∅,Q4 b (j+1) ∅];let l:ns.getD j 0∈ns:=(by rw[ak,aa ∅];erw[aB _]);let l:=d _ l;let t:=We (ns:=ns.take (j+1)) λn h=>d n (List.mem_of_mem_take h);rw[bU] at t;delta InLong;lia;rw[<- f,Q4 b _ (aA _),gH];erw[.int _,H,I.kept x,#[1],q]
theorem Wf:qO X "str.isdigit" (λx vs H Q=>∃z,x=.str z/\vs=[]/\Q (.bl (Txt.isdigit z)) H):=by intro a s d H x vs v e Q I b c h;let#[z,rfl,rfl,q]:=h;let#[t,rfl]:=b;ext c;erw[SC.isdigit #[.bl _,H,I,2,q]]
noncomputable def isStrOf(k:Str):dy->Bool
 |.str y _=>y==k
 |_=>dr
theorem Tw:∀{a:!Str}{us:!dy},cO (a.map fA) us->∀y∈us,∃z t,y=Value.str z t
 |[],_,.nil,y,z=>by ext z
 |b::bs,_,.cons r t,y,z=>by
  obtain rfl|z:=aT.mp z
  ·let#[t,e]:=r
   erw[b,t,e]
  ·erw[Tw t y z]
theorem Lx(k:Str):∀{a:!Str}{us:!dy},cO (a.map fA) us->us.countP (isStrOf k)=a.count k
 |[],_,.nil=>rfl
 |b::bs,_,.cons r t=>by
  let#[tk,rfl]:=r;rw[List.countP_cons,List.count_cons,Lx k t];rfl
def aeK(K:ah):V->!V->Hp->VK->Prop:=λx vs H Q=>∃(l:du)(zs:!Str)(k:Str),x=.ref l/\vs=[.str k]/\bJ K H l (zs.map fA)/\Q (.int (zs.count k:Nat)) H
theorem ZP:qO X "list.count" (aeK X.K):=by intro f s D H x E v L Q I C z h;let#[l,J,k,rfl,rfl,o,q]:=h;ext C;let#[u,rfl,w]:=z.one;let#[i,rfl]:=w;let#[a,r,A,G]:=I.list o;let#[#[j,B,g,m],e,c,n,d]:=id A.isList;simp only at c d;subst c d;erw[call_meets vX #[_,e,2] PySem.F.entry_list_count (PySem.F.args_list_count_2 _ _) (PySem.SeqAt.list_countAt l a.toArray n B m (.str k i) (isStrOf k)) #[e,λy p=>?_,4]];let#[b,t,rfl]:=Tw r y p⁻¹;erw[PySem.SeqAt.EqAt.str_str b t k i];rw[show a.toArray.toList=a from rfl,Lx k r];erw[.int _,H,I.tok _,#[1],q]
inductive mr:V->Str->Prop
 |int {i:Int} (h:i.natAbs.log2<1920):mr (.int i) (toString i)
 |str {z:Str} (h:z.length<=eD):mr (.str z) z
theorem XM(i:PE X e te):PE X (.FormattedValue e (-1) de pos) (λc H Q=>te c H λv b=>∃z,mr v z/\Q (.str z) b):=by intro a s c H Q I h;erw[FormattedValue_plain (iS (i a s c H _ I h) λu l u_=>?_)];let#[v,b,g,r,z,f,q]:=u_;cases f with|int d=>let#[j,rfl]:=r;erw[formatField_int_small d #[.str _,b,g.tok _,#[1],q]]|str d=>let#[j,rfl]:=r;erw[formatField_str (λm k=>#[.str _,b,g.tok _,#[1],q]) d]
end
section
variable{X:Cx}{pins:!(du×Obj)}{σ:St}{H:Hp}{s:dA}
def Sh(K:ah)(H:Hp)(qs:!du)(ts:!(!Int)):Prop:=ge qs=ge ts/\∀(i:Nat)q t,qs[i]?=ac q->ts[i]?=ac t->bJ K H q (t.map fw)
theorem GO:∀a b:!Int,PyData.eqvAll (a.map .int) (b.map .int)=decide (a=b)
 |[],[]=>rfl
 |[],_::_=>rfl
 |_::_,[]=>rfl
 |x::a,y::b=>by
  show (PyData.eqv (.int x) (.int y)&&PyData.eqvAll (a.map .int) (b.map .int))=_;rw[GO a b,show PyData.eqv (.int x) (.int y)=decide (x=y) from rfl];by_cases d:x=y <;> by_cases c:a=b <;> simp[d,c]
theorem SU(I:Inv X pins σ H s){A:fv}(g:A.units+2<cLine){t u:!Int}(b:bJ X.K H p (t.map fw))(a:bJ X.K H q (u.map fw)):SeqAt.EqAt A s (.ref p) (.ref q) (decide (t=u)):=by let#[f,c]:=(Rep.ints b).reads I (u:=.ref p) rfl;let#[e,d]:=(Rep.ints a).reads I (u:=.ref q) rfl;let:=SeqAt.eqAt_reads _ _ A s _ _ _ _ c d (iJ t) (iJ u) (bM (b5 (dX _ _) _) (by show A.units+(eJ (t.map .int)+1)<cLine;rw[pY];lia));rw[show PyData.eqv (.list (t.map .int)) (.list (u.map .int))=PyData.eqvAll (t.map .int) (u.map .int) from rfl,GO] at this;erw[this]
open Classical in
theorem Wg(I:Inv X pins σ H s)(h:Sh X.K H qs ts){i:Nat}(c:qs[i]?=ac a)(b:ts[i]?=ac u):Xo qs ts t (.ref a)=decide (u=t):=by delta Xo;by_cases e:u=t;rw[fy e];erw[fy #[i,c,by rw[b,e]]];rw[gh e];erw[gh λ⟨j,d,f⟩=>e ?_];erw[XJ (I.KZ (h.2 i a u c b) (h.2 j a t d f))]
def He(K:ah)(x y:V)(H:Hp)(Q:VK):Prop:=∃(p q:du)(qs:!du)(ts:!(!Int))(t:!Int),x=.ref q/\y=.ref p/\bJ K H q (t.map fw)/\bJ K H p (qs.map fx)/\Sh K H qs ts/\Q (.bl (decide (t∈ts))) H
theorem SL(K:ah)(l:X.K=K)(J:X.A.units+64<cLine):AN X (fa .In) (He K):=by subst l;intro pins s σ H x y v u Q I G B ⟨p,q,c,d,t,m,E,o,n,b,k⟩;subst m E;ext G;ext B;let#[D,r,C,L]:=I.list n;let g:=XC r;subst g;let M:=b.1;erw[SeqAt.in_listAt (Xo c d t) C.isList (λy w=>?_) #[.bl _,H,I,24]];let#[a,h,rfl]:=aG.mp (show y∈c.map Value.ref by simpa using w);let#[i,f,rfl]:=gK h;let j:d[i]?=ac (d[i]'∅):=aa _;rw[Wg I b (aa f) j];erw[SU I (by show X.A.units+1+2<cLine;lia) (b.2 i _ _ (aa f) j) o];rw[show (c.map Value.ref).toArray.any (Xo c d t)=decide (t∈d) by rw[show (c.map Value.ref).toArray.any (Xo c d t)=(c.map Value.ref).any (Xo c d t) by simp];by_cases e:t∈d;rw[fy e,k7];let#[i,f,rfl]:=gK e;erw[.ref (c[i]'∅),cF (aB _),4];rw[Wg I b (aa _) (aa f)];erw[fy rfl];rw[gh e,List.any_eq_false];intro v F;let#[a,h,rfl]:=aG.mp F;let#[i,f,rfl]:=gK h;rw[Wg I b (aa f) (aa ∅)];intro z;erw[e (g4 z▸aB _)]];erw[k]
end
section
open AutoSeq1 (wpAny_loadPart')
open MeetsSeq MeetsSeq2 MeetsSeq3
theorem aeM(l b:du)(items f:Array dy)(n N:Nat)(dd H:Option du)(L I:Array (Option dy))(hsz:items.size=f.size)(r:Bool)(k:Nat) :∀i:Nat,items.size-i=k->Le (items.toList.drop i) (f.toList.drop i) r->Meets (Builtin.«list.__eq__.loop» #[[.ref l,.ref b,rawInt i,rawInt 0],[]]) (λA R s=>s.heap.get? l=ac {cls:=.type "list",dict:=dd,data:=.seq items n,slots:=L}/\s.heap.get? b=ac {cls:=.type "list",dict:=H,data:=.seq f N,slots:=I}/\R (.ok (.ret (.bool r))) s):=by
 induction k with
 |zero=>
  intro i M q j w A R s h;let#[B,g,d,C,os]:=s;let#[v,x,h]:=h
  wp_walk using wpAny_loadPart' v,wpAny_loadPart' x
  let o:items[((i:Nat):Int).toNat]?=de:=by simp;lia
  let p:f[((i:Nat):Int).toNat]?=de:=by simp;lia
  let D:items.toList.drop i=[]:=by rw[List.drop_eq_nil_iff,eK];lia
  let G:f.toList.drop i=[]:=by rw[List.drop_eq_nil_iff,eK];lia
  rw[D,G] at q;ext q;rw[o,p]
  wp_walk using wpAny_loadPart' v,wpAny_loadPart' x
  show R (.ok (.ret (.bool (decide (items.size<f.size))))) _;rw[gh ∅];erw[h]
 |succ k O=>
  intro i M q j w A R s h;let#[B,g,d,C,os]:=s;let#[v,x,h]:=h
  wp_walk using wpAny_loadPart' v,wpAny_loadPart' x
  let y:i<items.size:=∅
  let z:i<f.size:=∅
  let o:items[((i:Nat):Int).toNat]?=ac items[i]:=by simp[y]
  let p:f[((i:Nat):Int).toNat]?=ac f[i]:=by simp[z]
  let P:((i:Int)+1)=((i+1:Nat):Int):=by push_cast;rfl
  let D:items.toList.drop i=items[i]::items.toList.drop (i+1):=by rw[tZ y⁻¹];simp
  let G:f.toList.drop i=f[i]::f.toList.drop (i+1):=by rw[tZ z⁻¹];simp
  rw[D,G] at q;rw[o,p];generalize U:items[i]=va at q o;generalize T:f[i]=vb at q p;cases q with
  |@ne a c t u K Q F=>
   let#[e,E,m]:=HT.Gw A.in1 #[B,g,d,C,os] a t c u;erw[dC (E j w _ _ ?_)];cases e with
   |true=>erw[ff (m.mp rfl) F]
   |false=>
    wp_walk using wpAny_loadPart' v,wpAny_loadPart' x
    rw[o,p];let S:=HT.SQ A.in1 #[B,g,d,C,os] a t c u j w
    wp_walk using S
    erw[h]
  |@eq a t u K Q V J=>
   let#[e,E,m]:=HT.Gw A.in1 #[B,g,d,C,os] a t a u;erw[dC (E j w _ _ ?_)];cases e with
   |true=>
    wp_walk
    rw[P];erw[plainId_quiet plain_eq_loop _,codeAny_builtin entry_eq_loop (by
     rw[Around.under_plainId plain_eq_loop _];erw[O (i+1) ∅ J j w A R _ #[v,x,h]])]
   |false=>erw[ff (m.mpr rfl) aU]
theorem ZQ(l b:du)(items a:Array dy)(n m:Nat)(dd e:Option du)(i f:Array (Option dy))(hsz:items.size=a.size)(r:Bool)(o:Le items.toList a.toList r):
 Meets (Builtin.«list.__lt__» #[[.ref l,.ref b],[]])
  (λA R s=>s.heap.get? l=ac {cls:=.type "list",dict:=dd,data:=.seq items n,slots:=i}/\s.heap.get? b=ac {cls:=.type "list",dict:=e,data:=.seq a m,slots:=f}/\R (.ok (.ret (.bool r))) s):=by
 intro c w A R s h;let#[p,g,d,t,os]:=s;let#[j,k,h]:=h;let q:=AutoSeq1.sub_list_list
 wp_walk using wpAny_loadPart' j,wpAny_loadPart' k
 erw[plainId_quiet plain_eq_loop _,codeAny_builtin entry_eq_loop (by
  rw[Around.under_plainId plain_eq_loop _];erw[aeM l b items a n m dd e i f hsz r _ 0 rfl o⁻¹ c w A R _ #[j,k,h]])]
theorem aeN{prog:ft}{w:World}{A:fv}{E:dy->dA->Prop}{s:dA}{l b:du}{items a:Array dy}{r:Bool}{Q:dy->dA->Prop}(hl:s.heap.IsList l items)(t:s.heap.IsList b a)(z:Le items.toList a.toList r)(hsz:items.size=a.size)(p:A.units<cLine)(h:Q (.bool r) s):fg (model prog w) A (fa .Lt (.ref l) (.ref b)) Q E s:=by let#[#[o,y,m,q],k,i,n,j]:=id hl;let#[#[v,f,data2,g],e,c,u,d]:=id t;simp only at i j c d;subst i j c d;erw[richCompare_meets_room (op:=.Lt) #[_,k,2] #[_,e,2] PySem.F.slot_list_lt PySem.F.entry_list_lt (PySem.F.args_list_lt_2 _ _) (ZQ l b items a n u y f q g hsz r z) #[k,e,show Value.bool r≠Value.notImplemented/\Q (.bool r) s from #[(λx=>nomatch x),h]] p]
end
section
variable{X:Cx}
theorem Wh(hc:X.calm=df)(hu:X.A.in1.units<cLine):pU X (.builtin "min") (λxs H Q=>∃(l:du)(ps:!du)(rows:!RM.Row),xs=[.ref l]/\bJ X.K H l (ps.map fx)/\ge ps=ge rows/\0<ge rows/\(∀(i:Nat)p r,ps[i]?=ac p->rows[i]?=ac r->bJ X.K H p (cz r))/\(∀r∈rows,0<=r.by_)/\∀(m:Nat)p r,ps[m]?=ac p->rows[m]?=ac r->(∀s∈rows,le r s)->Q (.ref p) H):=by
 intro ae s σ H xs us Q I r h;let#[l,ps,rows,rfl,hL,hl,hn,ht,F,q]:=h;let#[u,rfl,ru]:=cO.one r;ext ru;let#[b,rv,p,hz]:=I.list hL;let il:ge b=ge rows:=(by rw[<- rv.length,af,hl]);let hI:s.heap.IsList l b.toArray:=p.isList;let#[ol,el,_]:=id hI;let ll:=eA el;let d:∀i v,b.toArray[i]?=ac v->∃p r,i<ge rows/\v=.ref p/\ps[i]?=ac p/\rows[i]?=ac r/\bJ X.K H p (cz r):=(by intro i v e;rw[List.getElem?_toArray] at e;let t:i<ge b:=(ai.mp e).1;let w:ps[i]?=ac ps[i]:=aa ∅;let J:rows[i]?=ac rows[i]:=aa ∅;let#[y,ey,ry]:=cO.get rv (i:=i) (x:=.ref ps[i]) (by rw[ao,w];rfl);rw[e] at ey;ext ey;erw[335,ry,w,J,ht _ _ _ w J]);let n:∀i,i<ge rows->∃(z:du×Obj)(a:!dy)(p:du)(r:RM.Row),ps[i]?=ac p/\rows[i]?=ac r/\z.1=p/\s.heap.get? p=ac z.2/\cO (cz r) a/\(∀h:Heap,h.get? p=ac z.2->h.IsList p a.toArray):=(by intro i t;let w:ps[i]?=ac ps[i]:=aa ∅;let J:rows[i]?=ac rows[i]:=aa t;let#[S,ra,pa,_]:=I.list (ht _ _ _ w J);let#[oa,ea,ca]:=id pa.isList;erw[(ps[i],oa),S,ps[i],rows[i],w,J,2,ea,ra,λh e=>#[oa,e,ca]]);letI k:Nat->du×Obj:=λi=>if h:i<ge rows then Classical.choose (n i h) else (0,ol)
 let zs:∀i(h:i<ge rows),∃(a:!dy)(p:du)(r:RM.Row),ps[i]?=ac p/\rows[i]?=ac r/\(k i).1=p/\s.heap.get? p=ac (k i).2/\cO (cz r) a/\(∀h:Heap,h.get? p=ac (k i).2->h.IsList p a.toArray):=(by intro i h;let e:k i=Classical.choose (n i h):=dif_pos h;rw[e];erw[qh (n i h)]);let B:∀i,i<ge rows->k i∈(av (ge rows)).map k:=λi h=>aG.mpr #[i,bO.mpr h,2];let E:∀z∈(av (ge rows)).map k,s.heap.get? z.1=ac z.2:=(by intro z g;let#[i,t,rfl]:=aG.mp g;let#[_,p,r,_,_,M,P,_]:=zs i (bO.mp t);rw[M];erw[P]);letI f:Nat->RM.Row:=λi=>(rows[i]?).getD #[(0),(0),(0),(0)];let L:∀i r,rows[i]?=ac r->f i=r:=λi r e=>(by show (rows[i]?).getD _=r;rw[e];rfl);let ag:(s.heap.push {cls:=.type "list_iterator",data:=.fields [.ref l,.int 0 0].toArray}).objs.size=s.heap.objs.size+1:=Heap.size_push ..;erw[Zt (ps:=(av (ge rows)).map k) (wpAny_pyIter_list hI ?_)];erw[_,[_,l],[_],333,λi j=>decide (lt (f i) (f j)),2,Walks.list (A:=X.A.in1) (I.ok.hd hc) _ l (bV ll) b.toArray,#[#[_,en _ rfl,22],hI.push _],λc hm=>?_,(by rw[bq];lia),444,λv h' tk hP hk=>?_];show c<(s.heap.push _).objs.size;rw[Heap.size_push];simp only[aT,AK,or_false] at hm;obtain rfl|rfl:=hm;erw[AH _];erw[Nat.lt_succ_of_lt ll];intro i j vi vj R Q1 E1 ah C t N O;let#[pi,ri,li,rfl,Z,Y,_]:=d i vi t;let#[pj,rj,lj,rfl,ad,W,_]:=d j vj N;let#[S,p1,r1,M,P,e3,e4,e5,e6]:=zs i li;let#[ib,p2,r2,d1,d2,d3,d4,d5,d6]:=zs j lj;rw[Z] at M;ext M;rw[Y] at P;ext P;rw[ad] at d1;ext d1;rw[W] at d2;ext d2;let t1:=e6 R.heap (by let:=C (k i) (B i li);rw[e3] at this;erw[this]);let t2:=d6 R.heap (by let:=C (k j) (B j lj);rw[d3] at this;erw[this]);let ab:=(Yf (.inr (.inr (.inr #[F ri (aD Y),F rj (aD W)])))).vals e5 d5;let U:S.toArray.size=ib.toArray.size:=(by rw[bq,bq,<- e5.length,<- d5.length];rfl);let O:Q1 (Value.bool (decide (lt (f i) (f j)))) R:=O;rw[L i ri Y,L j rj W] at O;erw[(aeN t1 t2 ab U hu O:fg _ _ (fa .Lt (.ref pi) (.ref pj)) _ _ _)];intro z g;erw[dL _ (E z g)];intro z g y;let lz:=eA (E z g);simp only[aT,AK,or_false] at y;rw[y] at lz;erw[ff lz (gG _)];let D:∀c o,s.heap.get? c=ac o->h'.get? c=ac o:=λc o e=>(by erw[hk c o (λz=>?_) (dL _ e)];let lc:=eA e;simp only[aT,AK,or_false] at z;rw[z] at lc;erw[ff lc (gG _)]);let#[pm,rm,lm,rfl,T,G,_]:=d _ v hP;erw[.ref pm,H,I.kept D,2,q _ pm rm T G λy hy=>?_];let#[j,N]:=c7 hy;let lj:j<ge rows:=(ai.mp N).1;let:=HW f (b.toArray.size-1) j (by rw[bq];lia);rw[L _ rm G,L j y N] at this;erw[this]
end
end L2
namespace fc
open PySem L2
noncomputable def hE(i:Nat):Stmt:=PySem.Challenge.pw_knotless_k46_whole_from_text_to_answers.main.body.getD i (.Pass #[(0),(0),(0),(0)])
noncomputable abbrev yU:Stmt:=(gt (hE 12) 0)
noncomputable abbrev A3:Stmt:=(gt (hE 12) 1)
noncomputable abbrev A4:Stmt:=(gt (hE 12) 2)
noncomputable abbrev yV:Stmt:=(gt (hE 12) 4)
noncomputable abbrev Ih:Stmt:=(hE 14)
noncomputable abbrev Fy:Stmt:=(hE 15)
noncomputable abbrev uy:Stmt:=(gt (hE 17) 0)
noncomputable abbrev wQ:Stmt:=(gt (hE 17) 1)
noncomputable abbrev wR:Stmt:=(gt (hE 17) 2)
noncomputable abbrev uz:Stmt:=(gt (hE 17) 3)
noncomputable abbrev wU:Stmt:=(gt (hE 18) 0)
noncomputable abbrev yW:Stmt:=(gt (hE 18) 1)
noncomputable abbrev yX:Stmt:=(gt (hE 18) 2)
noncomputable abbrev wV:Stmt:=(gt (hE 18) 3)
noncomputable abbrev yY:Stmt:=(gt (hE 19) 0)
noncomputable abbrev Ii:Stmt:=(hE 21)
noncomputable abbrev Q5:Stmt:=(hE 22)
noncomputable abbrev rr:Stmt:=(hE 23)
noncomputable abbrev Ij:Stmt:=(hE 24)
noncomputable abbrev rf:Stmt:=(hE 27)
noncomputable abbrev Q6:Stmt:=(hE 28)
noncomputable abbrev Ik:Stmt:=(hE 30)
noncomputable abbrev Q7:Stmt:=(hE 31)
noncomputable abbrev yZ:Stmt:=(gt (hE 38) 0)
noncomputable abbrev C2:Stmt:=(gt (hE 38) 1)
noncomputable abbrev C3:Stmt:=(gt (hE 38) 2)
noncomputable abbrev uA:Stmt:=(gt (hE 38) 3)
noncomputable abbrev wW:Stmt:=(gt (hE 38) 4)
noncomputable abbrev C4:Stmt:=(gt (hE 38) 5)
noncomputable abbrev y9:Stmt:=(hE 39)
noncomputable abbrev za:Stmt:=(hE 40)
noncomputable abbrev A5:Stmt:=(hE 41)
noncomputable abbrev C5:Stmt:=(hE 42)
noncomputable abbrev rM:Stmt:=(gt (hE 44) 0)
noncomputable abbrev wX:Stmt:=(gt (hE 44) 1)
noncomputable abbrev zb:Stmt:=(gt (hE 44) 2)
noncomputable abbrev pM:Stmt:=(gt (hE 44) 3)
noncomputable abbrev pN:Stmt:=(gt (hE 44) 4)
noncomputable abbrev wY:Stmt:=(gt (hE 44) 5)
noncomputable abbrev Fz:Stmt:=(hE 45)
noncomputable abbrev zc:Stmt:=(hE 46)
noncomputable abbrev uB:Stmt:=(gt (hE 49) 0)
noncomputable abbrev A6:Stmt:=(gt (hE 50) 0)
noncomputable abbrev FA:Stmt:=(gt (hE 50) 1)
noncomputable abbrev FD:Stmt:=(gt (hE 50) 2)
noncomputable abbrev C6:Stmt:=(gt (hE 50) 3)
noncomputable abbrev zd:Stmt:=(gt (hE 50) 5)
noncomputable abbrev A7:Stmt:=(gt (hE 50) 6)
noncomputable abbrev FE:Stmt:=(gt (hE 50) 7)
noncomputable abbrev FF:Stmt:=(gt (hE 50) 8)
noncomputable abbrev Il:Stmt:=(gt (hE 50) 9)
noncomputable abbrev Im:Stmt:=(gt (hE 50) 11)
noncomputable abbrev FG:Stmt:=(gt (hE 50) 12)
noncomputable abbrev kG:Stmt:=(gt (hE 50) 13)
noncomputable abbrev A8:Stmt:=(gt (hE 50) 14)
noncomputable abbrev g8:Stmt:=(gt (hE 50) 15)
noncomputable abbrev ze:Stmt:=(gt (hE 50) 17)
noncomputable abbrev uC:Stmt:=(gt (hE 50) 18)
noncomputable abbrev rN:Stmt:=(gt (hE 50) 19)
noncomputable abbrev FH:Stmt:=(gt (hE 50) 20)
noncomputable abbrev qy:Stmt:=(gt (hE 50) 21)
noncomputable abbrev uD:Stmt:=(gt (hE 50) 22)
noncomputable abbrev jW:Stmt:=(gt (hE 50) 23)
noncomputable abbrev qz:Stmt:=(gt (hE 50) 24)
noncomputable abbrev pO:Stmt:=(gt (hE 50) 25)
noncomputable abbrev rO:Stmt:=(gt (hE 50) 26)
noncomputable abbrev A9:Stmt:=(hE 51)
noncomputable abbrev uE:Stmt:=(hE 52)
noncomputable abbrev zf:Stmt:=(hE 58)
noncomputable abbrev wZ:Stmt:=(hE 59)
noncomputable abbrev C7:Stmt:=(hE 60)
noncomputable abbrev Ba:Stmt:=(hE 61)
noncomputable abbrev Io:Stmt:=(hE 63)
noncomputable abbrev Ly:Stmt:=(hE 64)
noncomputable abbrev zg:Stmt:=(hE 65)
noncomputable abbrev w6:Stmt:=(hE 66)
noncomputable abbrev zh:Stmt:=(hE 67)
noncomputable abbrev Bb:Stmt:=(hE 68)
noncomputable abbrev zj:Stmt:=(hE 69)
noncomputable abbrev zk:Stmt:=(hE 70)
noncomputable abbrev Bc:Stmt:=(hE 71)
noncomputable abbrev zl:Stmt:=(hE 72)
noncomputable abbrev zm:Stmt:=(hE 73)
noncomputable abbrev zo:Stmt:=(hE 74)
noncomputable abbrev Be:Stmt:=(hE 75)
noncomputable abbrev uF:Stmt:=(hE 76)
noncomputable abbrev Bf:Stmt:=(hE 77)
noncomputable abbrev C8:Stmt:=(hE 78)
noncomputable abbrev zp:Stmt:=(gt (hE 80) 0)
noncomputable abbrev FI:Stmt:=(gt (hE 80) 1)
noncomputable abbrev zq:Stmt:=(hE 81)
noncomputable abbrev C9:Stmt:=(hE 83)
noncomputable abbrev Lz:Stmt:=(hE 84)
noncomputable abbrev LA:Stmt:=(hE 85)
noncomputable abbrev LB:Stmt:=(hE 86)
noncomputable abbrev LC:Stmt:=(hE 87)
noncomputable abbrev LD:Stmt:=(hE 88)
noncomputable abbrev Ip:Stmt:=(hE 89)
noncomputable abbrev Q8:Stmt:=(hE 90)
noncomputable abbrev Iq:Stmt:=(hE 91)
noncomputable abbrev LF:Stmt:=(hE 92)
noncomputable abbrev Q9:Stmt:=(hE 93)
noncomputable abbrev Dc:Stmt:=(hE 94)
noncomputable abbrev rd:Stmt:=(hE 95)
def LG:aQ ["self"] ["self"] (aC yU):=iG
def NQ:aQ ["self","house","caller","rope"] ["self","house","caller","rope"] (aC A3):=iG
def NR:aQ ["self","house","caller"] ["self","house","caller"] (aC A4):=iG
def LH:aQ ["self"] ["self"] (aC yV):=iG
def FJ:aQ ["book","letter","house","came","open_here","here","handed"] ["book","letter","house","came","open_here","here"] (aC Ih):=iG
theorem NT:(["caller","letter"]:!Str).Nodup:=↑_
def yb:aQ ["book","sought","house","came","open_here","here","noted","leading"] ["book","sought","house","came","open_here","here"] (aC Fy):=iG
theorem LI:(["rope","came"]:!Str).Nodup:=↑_
def Ir:aQ ["self","sender"] ["self","sender"] (aC uy):=iG
def J1:aQ ["self","caller"] ["self","caller"] (aC wQ):=iG
def J2:aQ ["self"] ["self"] (aC wR):=iG
def Iu:aQ ["self"] ["self"] (aC uz):=iG
def J3:aQ ["self","sender","to"] ["self","sender","to"] (aC wU):=iG
def LL:aQ ["self","caller"] ["self","caller"] (aC yW):=iG
def LM:aQ ["self"] ["self"] (aC yX):=iG
def J4:aQ ["self"] ["self"] (aC wV):=iG
def LN:aQ ["self","caller"] ["self","caller"] (aC yY):=iG
def Wi:aQ ["town","house"] ["town","house"] (aC Ii):=iG
def Tz:aQ ["town","row","rope","hops"] ["town","row","rope"] (aC Q5):=iG
def LO:aQ ["town","live","rows","house","least","rope","made"] ["town","live","rows","house"] (aC rr):=iG
def LP:aQ ["town","live","rows"] ["town","live","rows"] (aC Ij):=iG
theorem NU:(["house","live","rows","town"]:!Str).Nodup:=↑_
def x3:aQ ["town","live","rows"] ["town","live","rows"] (aC rf):=iG
theorem ZS:(["house","live","rows","town"]:!Str).Nodup:=↑_
def TF:aQ ["town","live","rows"] ["town","live","rows"] (aC Q6):=iG
theorem TH:(["up"]:!Str).Nodup:=↑_
def FL:aQ ["town","live","rows","house","joined"] ["town","live","rows","house"] (aC Ik):=iG
theorem NV:(["rope","joined"]:!Str).Nodup:=↑_
def LQ:aQ ["town","live","rows","house","rope","other"] ["town","live","rows","house"] (aC Q7):=iG
def LR:aQ ["self","names","ropes"] ["self","names","ropes"] (aC yZ):=iG
def Ra:aQ ["self","house"] ["self","house"] (aC C2):=iG
def Rb:aQ ["self","number"] ["self","number"] (aC C3):=iG
def Ak:aQ ["self","house"] ["self","house"] (aC uA):=iG
theorem uY:(["number","rope","house"]:!Str).Nodup:=↑_
def Cs:aQ ["self","rope","house","ends"] ["self","rope","house"] (aC wW):=iG
def Rc:aQ ["self","rope","group"] ["self","rope","group"] (aC C4):=iG
def LU:aQ ["names"] ["names"] (aC y9):=iG
def Dd:aQ ["size","ropes","rope"] ["size","ropes"] (aC za):=iG
def NX:aQ ["size","rope"] ["size","rope"] (aC A5):=iG
def Rf:aQ ["size","one","other"] ["size","one","other"] (aC C5):=iG
def yc:aQ ["self","town"] ["self","town"] (aC rM):=iG
theorem De:(["rope","town"]:!Str).Nodup:=↑_
def uG:aQ ["self","rope","wire","ahead"] ["self","rope","wire"] (aC wX):=iG
theorem FN:(["each","wire"]:!Str).Nodup:=↑_
def Df:aQ ["self","rope","wire","ahead"] ["self","rope","wire"] (aC zb):=iG
def ET:aQ ["self","rope"] ["self","rope"] (aC pM):=iG
def uZ:aQ ["self","rope","number","stand"] ["self","rope","number"] (aC pN):=iG
def Ct:aQ ["self","group"] ["self","group"] (aC wY):=iG
theorem FO:(["rope","group","self"]:!Str).Nodup:=↑_
def TM:aQ ["town","rope"] ["town","rope"] (aC Fz):=iG
def LV:aQ ["group"] ["group"] (aC zc):=iG
def Iv:aQ ["self","letter","group"] ["self","letter","group"] (aC uB):=iG
def lV:aQ ["self","town","callers"] ["self","town","callers"] (aC A6):=iG
theorem Iw:(["bit","town"]:!Str).Nodup:=↑_
theorem Iz:(["bit"]:!Str).Nodup:=↑_
theorem IA:(["caller"]:!Str).Nodup:=↑_
theorem IB:(["caller"]:!Str).Nodup:=↑_
theorem IC:(["caller"]:!Str).Nodup:=↑_
def TN:aQ ["self","group"] ["self","group"] (aC FA):=iG
def TR:aQ ["self","group"] ["self","group"] (aC FD):=iG
def Rg:aQ ["self","group"] ["self","group"] (aC C6):=iG
def LW:aQ ["self","group"] ["self","group"] (aC zd):=iG
def NY:aQ ["self","house","group"] ["self","house","group"] (aC A7):=iG
def Dg:aQ ["self","house","group","ahead","row"] ["self","house","group"] (aC FE):=iG
def JH:aQ ["self","rope","wire","ended"] ["self","rope","wire"] (aC FF):=iG
def LX:aQ ["self","rope","wire","began"] ["self","rope","wire"] (aC Il):=iG
def Wj:aQ ["self","caller"] ["self","caller"] (aC Im):=iG
def TU:aQ ["self","caller","house"] ["self","caller","house"] (aC FG):=iG
def yd:aQ ["self","sender","to","letter","number","house"] ["self","sender","to"] (aC kG):=iG
def NZ:aQ ["self"] ["self"] (aC A8):=iG
def i8:aQ ["self","at","landed","number","rope","house","posted","fate"] ["self","at"] (aC g8):=iG
def LY:aQ ["self","posted","rope","house"] ["self","posted","rope","house"] (aC ze):=iG
def f9:aQ ["self","number","house","came","posted","group","open_here","here","found","caller","rope"] ["self","number","house","came"] (aC uC):=iG
def qA:aQ ["self","house","group","there"] ["self","house","group"] (aC rN):=iG
theorem Dh:(["caller","self","there"]:!Str).Nodup:=↑_
def Di:aQ ["self","number","house","rope","posted","wire"] ["self","number","house","rope"] (aC FH):=iG
def pP:aQ ["self","rope","wire","left","flown"] ["self","rope","wire"] (aC qy):=iG
def Al:aQ ["self","group","posted"] ["self","group"] (aC uD):=iG
def oA:aQ ["self","rope","group"] ["self","rope"] (aC jW):=iG
def FP:aQ ["self","house"] ["self","house"] (aC qz):=iG
def EU:aQ ["self","caller"] ["self","caller"] (aC pO):=iG
def GP:aQ ["self","sender","to"] ["self","sender","to"] (aC rO):=iG
def E6:aQ ["town"] ["town"] (aC A9):=iG
theorem ID:(["house","town"]:!Str).Nodup:=↑_
def Am:aQ ["town","callers","caller"] ["town","callers"] (aC uE):=iG
def Dj:aQ ["word"] ["word"] (aC zf):=iG
theorem GQ:(["sign"]:!Str).Nodup:=↑_
def Cu:aQ ["words","many"] ["words","many"] (aC wZ):=iG
theorem FQ:(["word"]:!Str).Nodup:=↑_
def kH:aQ ["text","told","names","ropes","callers","words"] ["text"] (aC C7):=iG
theorem J5:(["part"]:!Str).Nodup:=↑_
def E7:aQ ["words"] ["words"] (aC Ba):=iG
theorem IE:(["word"]:!Str).Nodup:=↑_
def Wk:aQ ["told"] ["told"] (aC Io):=iG
def P1:aQ ["numbers"] ["numbers"] (aC Ly):=iG
theorem Rh:(["number"]:!Str).Nodup:=↑_
def LZ:aQ ["net","numbers"] ["net","numbers"] (aC zg):=iG
def uH:aQ ["net","numbers","changed"] ["net","numbers"] (aC w6):=iG
theorem FT:(["house","net","numbers"]:!Str).Nodup:=↑_
def L0:aQ ["net","numbers"] ["net","numbers"] (aC zh):=iG
def Oa:aQ ["net","numbers"] ["net","numbers"] (aC Bb):=iG
def L1:aQ ["net","numbers"] ["net","numbers"] (aC zj):=iG
def L3:aQ ["net","numbers"] ["net","numbers"] (aC zk):=iG
def Ob:aQ ["net","numbers"] ["net","numbers"] (aC Bc):=iG
def L4:aQ ["net","numbers"] ["net","numbers"] (aC zl):=iG
def L5:aQ ["net","numbers"] ["net","numbers"] (aC zm):=iG
def L6:aQ ["net","numbers"] ["net","numbers"] (aC zo):=iG
def zu:aQ ["net","numbers","arrived"] ["net","numbers"] (aC Be):=iG
def IF:aQ ["net","numbers"] ["net","numbers"] (aC uF):=iG
def Oc:aQ ["net","numbers"] ["net","numbers"] (aC Bf):=iG
def Dk:aQ ["self","text","told"] ["self","text"] (aC zp):=iG
def Dl:aQ ["self","row","words","wanted"] ["self","row"] (aC FI):=iG
def L7:aQ ["words","many"] ["words","many"] (aC zq):=iG
def Ri:aQ ["_law_script","_law_k"] ["_law_script","_law_k"] (aC C9):=iG
def An:aQ ["_law_cell","_law_size","_law_one","_law_other"] ["_law_cell","_law_size"] (aC Lz):=iG
def jo:aQ ["_law_script","_law_size","_law_seed","_law_names","_law_k","_law_name","_law_ropes","_law_callers","_law_cell"] ["_law_script"] (aC LA):=iG
theorem Rj:(["_law_k","_law_script","_law_size"]:!Str).Nodup:=↑_
def vS:aQ ["_law_told","_law_pieces"] ["_law_told"] (aC LB):=iG
theorem Rk:(["_law_name"]:!Str).Nodup:=↑_
theorem Rl:(["_law_rope_here"]:!Str).Nodup:=↑_
theorem Rm:(["_law_number"]:!Str).Nodup:=↑_
theorem Ro:(["_law_pair"]:!Str).Nodup:=↑_
def vU:aQ ["_law_desk","_law_cell","_law_strung","_law_rope_here","_law_wire_here","_law_stood","_law_others"] ["_law_desk","_law_cell","_law_strung"] (aC LC):=iG
theorem Rp:(["_law_stands"]:!Str).Nodup:=↑_
def jX:aQ ["_law_desk","_law_cell","_law_size","_law_callers","_law_strung","_law_kind","_law_more","_law_caller","_law_house","_law_sender","_law_some","_law_to","_law_group"] ["_law_desk","_law_cell","_law_size","_law_callers","_law_strung"] (aC LD):=iG
theorem Rq:(["_law_at","_law_callers","_law_sender"]:!Str).Nodup:=↑_
def pQ:aQ ["_law_size","_law_pairs","_law_marks_here","_law_one","_law_other","_law_gone"] ["_law_size","_law_pairs"] (aC Ip):=iG
theorem Od:(["_law_mark","_law_gone","_law_marks_here","_law_other"]:!Str).Nodup:=↑_
def GR:aQ ["_law_desk","_law_house","_law_group","_law_words"] ["_law_desk","_law_house","_law_group"] (aC Q8):=iG
theorem TV:(["_law_word"]:!Str).Nodup:=↑_
theorem TY:(["_law_word"]:!Str).Nodup:=↑_
def xg:aQ ["_law_rows","_law_ropes","_law_live","_law_house","_law_offers","_law_rope_here","_law_here","_law_far"] ["_law_rows","_law_ropes","_law_live","_law_house"] (aC Iq):=iG
def iX:aQ ["_law_desk","_law_told","_law_live","_law_group","_law_size","_law_turn","_law_house","_law_rows","_law_marks_here","_law_bys","_law_head","_law_ropes_told"] ["_law_desk","_law_told","_law_live","_law_group"] (aC LF):=iG
theorem Rr:(["_law_house","_law_desk","_law_group"]:!Str).Nodup:=↑_
theorem Rt:(["_law_rope_here","_law_told"]:!Str).Nodup:=↑_
theorem Ru:(["_law_at","_law_house","_law_marks_here","_law_told"]:!Str).Nodup:=↑_
theorem Rv:(["_law_rope_here"]:!Str).Nodup:=↑_
def TZ:aQ ["_law_desk","_law_caller","_law_number","_law_words"] ["_law_desk","_law_caller","_law_number"] (aC Q9):=iG
def fT:aQ ["_law_desk","_law_callers","_law_marks_here","_law_sender","_law_group","_law_at","_law_near","_law_mark","_law_met","_law_to","_law_number","_law_meant"] ["_law_desk","_law_callers","_law_marks_here","_law_sender"] (aC Dc):=iG
theorem J6:(["_law_at","_law_callers","_law_group"]:!Str).Nodup:=↑_
theorem J7:(["_law_at","_law_callers","_law_group","_law_mark","_law_marks_here"]:!Str).Nodup:=↑_
theorem J8:(["_law_at","_law_sender","_law_to"]:!Str).Nodup:=↑_
def qB:aQ ["_law_script","_law_told","_law_size","_law_callers","_law_strung","_law_desk","_law_cell","_law_marks_here","_law_group","_law_live","_law_sender"] ["_law_script"] (aC rd):=iG
theorem ZT:(["_law_rope_here"]:!Str).Nodup:=↑_
theorem ZU:(["_law_at","_law_group","_law_strung","_law_told"]:!Str).Nodup:=↑_
theorem ZV:(["_law_rope_here","_law_told"]:!Str).Nodup:=↑_
set_option genInjectivity false in
structure Ad where
 (sA vg vh sC Eg Bg gJ qC jY jq qD sD sE qF sF Eh KA XN vV XO Ei Ej KC sG ye yf oX qG yg sH sI vm yh nJ m6 oF i9 ja m7 Bj oH oY vn Bk Bl yi sJ vo Bm Bo Ek El Bp vp sL oZ nK Bq mE o4 iz mF kI nL vq o8 sM qH yj vt Em GS jD jb jE kJ jF jG kK jH jI jJ kL iH kM jZ sN Br sO yk GU GV GW GX GY Eo KD Ep GZ KE yl XQ:du)
 (Oe Rx Ry Of ZW Wl J9 L8 Ma Ka Mb Og Oh Mc Oi ZX aeO aly ZY alz aeP ZZ aeQ Oj T4 T5 Kc Me T6 Ol Om Rz T7 IG Dm E8 xh xj Dn Wm E9 Kd RA Wo Wp T8 Oo RC Wq Ws Z0 Z1 Wt RD Oq Ke II Wu G0 Kf Ao G1 FU IJ RE Kg Ot Mf T9 RG Z2 acj Ou Mg Ov RH Ow Ox RI Oz OA OB RJ Kh RK Mh OC Wv OD Ua ack acm acn acp acq Z3 aeR Z4 acr aeS Ub agr:FuncData)
 kP:du
 Bs:FuncData
 g9:du
 sP:FuncData
 lW:Tok
 j0:du
 iA:du
 kQ:du
 lO:du
 bf:du
 dR:du
 gX:du
 dF:du
 eV:du
 Aq:du
 Er:du
 sQ:Tok
 vv:Tok
 vz:Tok
 vA:Tok
 qI:Tok
 fU:du
 Es:Tok
 qJ:Tok
 qK:Tok
 nM:Tok
 (p7 Dp ym Dq JI Dr Dt JJ Du Dv Dw JK uc JL Bt:du)
structure Txt(K:ah)(mg:Str->Option dy)(w:World)(t:Ad):Prop where
 sR:Lw K t.gX "Book.__init__" yU t.sA t.Oe ["self"]
 Bu:jn K t.gX "learn" "Book.learn" A3 t.vg t.Rx ["self","house","caller","rope"]
 Bv:jn K t.gX "known" "Book.known" A4 t.vh t.Ry ["self","house","caller"]
 sU:jn K t.gX "forget" "Book.forget" yV t.sC t.Of ["self"]
 IK:gO K mg "targets" "targets" Ih t.Eg t.ZW ["book","letter","house","came","open_here","here"]
 FW:gO K mg "ropes_on" "ropes_on" Fy t.Bg t.Wl ["book","sought","house","came","open_here","here"]
 pe:Lw K t.j0 "Letter.__init__" uy t.gJ t.J9 ["self","sender"]
 xm:jn K t.j0 "meant" "Letter.meant" wQ t.qC t.L8 ["self","caller"]
 m8:jn K t.j0 "seeks" "Letter.seeks" wR t.jY t.Ma ["self"]
 lP:jn K t.j0 "number" "Letter.number" uz t.jq t.Ka ["self"]
 xo:Lw K t.iA "ToOne.__init__" wU t.qD t.Mb ["self","sender","to"]
 zw:jn K t.iA "meant" "ToOne.meant" yW t.sD t.Og ["self","caller"]
 sV:jn K t.iA "seeks" "ToOne.seeks" yX t.sE t.Oh ["self"]
 qL:jn K t.iA "number" "ToOne.number" wV t.qF t.Mc ["self"]
 zx:jn K t.kQ "meant" "ToAll.meant" yY t.sF t.Oi ["self","caller"]
 Et:gO K mg "own_row" "own_row" Ii t.Eh t.ZX ["town","house"]
 KG:gO K mg "offer" "offer" Q5 t.KA t.aeO ["town","row","rope"]
 XR:gO K mg "due" "due" rr t.XN t.aly ["town","live","rows","house"]
 Eu:gO K mg "resting" "resting" Ij t.vV t.ZY ["town","live","rows"]
 acs:gO K mg "ups" "ups" rf t.XO t.alz ["town","live","rows"]
 Ew:gO K mg "opens" "opens" Q6 t.Ei t.aeP ["town","live","rows"]
 IL:gO K mg "open_at" "open_at" Ik t.Ej t.ZZ ["town","live","rows","house"]
 RL:gO K mg "up_of" "up_of" Q7 t.KC t.aeQ ["town","live","rows","house"]
 zy:Lw K t.bf "Town.__init__" yZ t.sG t.Oj ["self","names","ropes"]
 Dy:jn K t.bf "name" "Town.name" C2 t.ye t.T4 ["self","house"]
 yo:jn K t.bf "rope" "Town.rope" C3 t.yf t.T5 ["self","number"]
 lQ:jn K t.bf "ropes_at" "Town.ropes_at" uA t.oX t.Kc ["self","house"]
 m9:jn K t.bf "far_end" "Town.far_end" wW t.qG t.Me ["self","rope","house"]
 yp:jn K t.bf "lets" "Town.lets" C4 t.yg t.T6 ["self","rope","group"]
 zA:gO K mg "check_names" "check_names" y9 t.sH t.Ol ["names"]
 zB:gO K mg "check_ropes" "check_ropes" za t.sI t.Om ["size","ropes"]
 Bw:gO K mg "check_rope" "check_rope" A5 t.vm t.Rz ["size","rope"]
 Dz:gO K mg "joins_two" "joins_two" C5 t.yh t.T7 ["size","one","other"]
 rP:Lw K t.dR "Strands.__init__" rM t.nJ t.IG ["self","town"]
 xq:jn K t.dR "fall" "Strands.fall" wX t.m6 t.Dm ["self","rope","wire"]
 zC:jn K t.dR "lay" "Strands.lay" zb t.oF t.E8 ["self","rope","wire"]
 fW:jn K t.dR "standing" "Strands.standing" pM t.i9 t.xh ["self","rope"]
 pR:jn K t.dR "wire_for" "Strands.wire_for" pN t.ja t.xj ["self","rope","number"]
 xr:jn K t.dR "live" "Strands.live" wY t.m7 t.Dn ["self","group"]
 Bx:gO K mg "wires_of" "wires_of" Fz t.Bj t.Wm ["town","rope"]
 jK:gO K mg "check_group" "check_group" zc t.oH t.E9 ["group"]
 uI:Lw K t.lO "Posted.__init__" uB t.oY t.Kd ["self","letter","group"]
 By:Lw K t.dF "Net.__init__" A6 t.vn t.RA ["self","town","callers"]
 pS:jn K t.dF "rows" "Net.rows" FA t.Bk t.Wo ["self","group"]
 rQ:jn K t.dF "live" "Net.live" FD t.Bl t.Wp ["self","group"]
 yq:jn K t.dF "opens" "Net.opens" C6 t.yi t.T8 ["self","group"]
 zD:jn K t.dF "resting" "Net.resting" zd t.sJ t.Oo ["self","group"]
 vB:jn K t.dF "row_at" "Net.row_at" A7 t.vo t.RC ["self","house","group"]
 BA:jn K t.dF "call" "Net.call" FE t.Bm t.Wq ["self","house","group"]
 FY:jn K t.dF "fall" "Net.fall" FF t.Bo t.Ws ["self","rope","wire"]
 IM:jn K t.dF "lay" "Net.lay" Il t.Ek t.Z0 ["self","rope","wire"]
 IP:jn K t.dF "had" "Net.had" Im t.El t.Z1 ["self","caller"]
 FZ:jn K t.dF "move" "Net.move" FG t.Bp t.Wt ["self","caller","house"]
 xu:Q2 K "post" "Net.post" kG t.kP t.Bs (.none)
 ail:Binds K t.Bs ["self","sender","to"] [.none]
 Ww:Binds K t.Bs ["self","sender","to"] []
 Wx:QE K t.dF "post" t.kP
 nN:jn K t.dF "flying" "Net.flying" A8 t.vp t.RD ["self"]
 oJ:Q2 K "pass_on" "Net.pass_on" g8 t.g9 t.sP (.int 0 t.lW)
 OE:Binds K t.sP ["self","at"] [.int 0 t.lW]
 OF:Binds K t.sP ["self","at"] []
 Fb:QE K t.dF "pass_on" t.g9
 zE:jn K t.dF "fate_of" "Net.fate_of" ze t.sL t.Oq ["self","posted","rope","house"]
 pq:jn K t.dF "do_letter" "Net.do_letter" uC t.oZ t.Ke ["self","number","house","came"]
 rR:jn K t.dF "callers_at" "Net.callers_at" rN t.nK t.II ["self","house","group"]
 F0:jn K t.dF "send" "Net.send" FH t.Bq t.Wu ["self","number","house","rope"]
 qM:jn K t.dF "lose_copies" "Net.lose_copies" qy t.mE t.G0 ["self","rope","wire"]
 lR:jn K t.dF "take_news" "Net.take_news" uD t.o4 t.Kf ["self","group"]
 iB:jn K t.dF "take_news_of_rope" "Net.take_news_of_rope" jW t.iz t.Ao ["self","rope"]
 mG:jn K t.dF "check_house" "Net.check_house" qz t.mF t.G1 ["self","house"]
 gY:jn K t.dF "check_caller" "Net.check_caller" pO t.kI t.FU ["self","caller"]
 rS:jn K t.dF "check_pair" "Net.check_pair" rO t.nL t.IJ ["self","sender","to"]
 BB:gO K mg "first_rows" "first_rows" A9 t.vq t.RE ["town"]
 uJ:gO K mg "check_callers" "check_callers" uE t.o8 t.Kg ["town","callers"]
 oK:gO K mg "read_number" "read_number" zf t.sM t.Ot ["word"]
 ng:gO K mg "read_numbers" "read_numbers" wZ t.qH t.Mf ["words","many"]
 DA:gO K mg "read_town" "read_town" C7 t.yj t.T9 ["text"]
 BC:gO K mg "read_names" "read_names" Ba t.vt t.RG ["words"]
 rT:gO K mg "written" "written" Io t.Em t.Z2 ["told"]
 DB:gO K mg "listed" "listed" Ly t.GS t.acj ["numbers"]
 zF:gO K mg "answer_call" "answer_call" zg t.jD t.Ou ["net","numbers"]
 xw:gO K mg "answer_round" "answer_round" w6 t.jb t.Mg ["net","numbers"]
 zG:gO K mg "answer_rest" "answer_rest" zh t.jE t.Ov ["net","numbers"]
 BD:gO K mg "answer_row" "answer_row" Bb t.kJ t.RH ["net","numbers"]
 zH:gO K mg "answer_open" "answer_open" zj t.jF t.Ow ["net","numbers"]
 zI:gO K mg "answer_fall" "answer_fall" zk t.jG t.Ox ["net","numbers"]
 BE:gO K mg "answer_lay" "answer_lay" Bc t.kK t.RI ["net","numbers"]
 zJ:gO K mg "answer_move" "answer_move" zl t.jH t.Oz ["net","numbers"]
 zK:gO K mg "answer_post" "answer_post" zm t.jI t.OA ["net","numbers"]
 zL:gO K mg "answer_pass" "answer_pass" zo t.jJ t.OB ["net","numbers"]
 BF:gO K mg "answer_run" "answer_run" Be t.kL t.RJ ["net","numbers"]
 uK:gO K mg "answer_flying" "answer_flying" uF t.iH t.Kh ["net","numbers"]
 BG:gO K mg "answer_had" "answer_had" Bf t.kM t.RK ["net","numbers"]
 Mi:gO K mg "answer_story" "answer_story" C8 t.jZ t.Mh ["net","numbers"]
 zM:Lw K t.eV "Desk.__init__" zp t.sN t.OC ["self","text"]
 eE:jn K t.eV "say" "Desk.say" FI t.Br t.Wv ["self","row"]
 zN:gO K mg "read_behind" "read_behind" zq t.sO t.OD ["words","many"]
 p8:gO K mg "_law_cell_at" "_law_cell_at" C9 t.yk t.Ua ["_law_script","_law_k"]
 Mj:gO K mg "_law_rope" "_law_rope" Lz t.GU t.ack ["_law_cell","_law_size"]
 Ml:gO K mg "_law_town" "_law_town" LA t.GV t.acm ["_law_script"]
 Mm:gO K mg "_law_text" "_law_text" LB t.GW t.acn ["_law_told"]
 Mn:gO K mg "_law_wire" "_law_wire" LC t.GX t.acp ["_law_desk","_law_cell","_law_strung"]
 Mp:gO K mg "_law_deed" "_law_deed" LD t.GY t.acq ["_law_desk","_law_cell","_law_size","_law_callers","_law_strung"]
 Ex:gO K mg "_law_marks" "_law_marks" Ip t.Eo t.Z3 ["_law_size","_law_pairs"]
 RN:gO K mg "_law_row" "_law_row" Q8 t.KD t.aeR ["_law_desk","_law_house","_law_group"]
 IQ:gO K mg "_law_least" "_law_least" Iq t.Ep t.Z4 ["_law_rows","_law_ropes","_law_live","_law_house"]
 Mq:gO K mg "_law_rest" "_law_rest" LF t.GZ t.acr ["_law_desk","_law_told","_law_live","_law_group"]
 RO:gO K mg "_law_had" "_law_had" Q9 t.KE t.aeS ["_law_desk","_law_caller","_law_number"]
 DC:gO K mg "_law_letters" "_law_letters" Dc t.yl t.Ub ["_law_desk","_law_callers","_law_marks_here","_law_sender"]
 XS:gO K mg "law" "law" rd t.XQ t.agr ["_law_script"]
 Mr:ND K t.j0
 acu:mg "Letter" = ac (.ref t.j0)
 aaF:fh K t.j0 "sender"
 ags:fh K t.j0 "to"
 sW:ND K t.iA
 aeT:mg "ToOne" = ac (.ref t.iA)
 xx:fh K t.iA "sender"
 BI:fh K t.iA "to"
 BJ:ND K t.kQ
 aeU:mg "ToAll" = ac (.ref t.kQ)
 qN:fh K t.kQ "sender"
 aim:fh K t.kQ "to"
 fq:ND K t.lO
 acv:mg "Posted" = ac (.ref t.lO)
 jr:fh K t.lO "letter"
 nh:fh K t.lO "group"
 BK:fh K t.lO "old"
 rU:fh K t.lO "done_at"
 j3:fh K t.lO "deeds"
 gk:ND K t.bf
 ain:mg "Town" = ac (.ref t.bf)
 xy:fh K t.bf "house_names"
 jc:fh K t.bf "rope_tuples"
 kh:fh K t.bf "size"
 yr:fh K t.bf "many"
 fM:ND K t.dR
 Z5:mg "Strands" = ac (.ref t.dR)
 nv:fh K t.dR "town"
 iC:fh K t.dR "upright"
 Ga:ND K t.gX
 aio:mg "Book" = ac (.ref t.gX)
 yt:fh K t.gX "kept"
 bX:ND K t.dF
 alA:mg "Net" = ac (.ref t.dF)
 kR:fh K t.dF "town"
 oN:fh K t.dF "strands"
 oh:fh K t.dF "rows_by_group"
 yu:fh K t.dF "books"
 ny:fh K t.dF "homes"
 nO:fh K t.dF "groups"
 BL:fh K t.dF "handed"
 ic:fh K t.dF "letters"
 kT:fh K t.dF "copies"
 j4:ND K t.eV
 aip:mg "Desk" = ac (.ref t.eV)
 Mt:fh K t.eV "net"
 DE:mg "opens_opens" = ac (.ref t.Ei)
 Kl:mg "resting_rows" = ac (.ref t.vV)
 OG:QE K t.kQ "seeks" t.jY
 Mu:QE K t.kQ "number" t.jq
 aeV:Mk K t.kQ t.gJ
 IS:wa K t.j0 "__init__" t.gJ
 Mv:mg "NoWire" = ac (.ref t.Aq)
 Mw:kn K t.Aq
 Z8:mg "NoGroup" = ac (.ref t.Er)
 Z9:kn K t.Er
 OH:mg "MOST_HOUSES" = ac (.int 10 t.sQ)
 RP:mg "MOST_ROPES" = ac (.int 20 t.vv)
 RQ:mg "MOST_WIRES" = ac (.int 4 t.vz)
 RS:mg "ALL_GROUPS" = ac (.int 7 t.vA)
 Mx:mg "MOST_CALLERS" = ac (.int 20 t.qI)
 nP:mg "GROUP_BITS" = ac (.ref t.fU)
 ie:∀H,dH K H t.fU [.int 1,.int 2,.int 4]
 aaa:mg "FIGURES" = ac (.str "0123456789" t.Es)
 My:mg "MOST_FIGURES" = ac (.int 60 t.qJ)
 Mz:mg "ROPE_NUMBERS" = ac (.int 5 t.qK)
 IT:mg "CALLER_NUMBERS" = ac (.int 2 t.nM)
 P4:mg "ANSWERS" = ac (.ref t.p7)
 P5:kA K w t.p7 (pc [("call",.ref t.Dp),("round",.ref t.ym),("rest",.ref t.Dq),("row",.ref t.JI),("open",.ref t.Dr),("fall",.ref t.Dt),("lay",.ref t.JJ),("move",.ref t.Du),("post",.ref t.Dv),("pass",.ref t.Dw),("run",.ref t.JK),("flying",.ref t.uc),("had",.ref t.JL),("story",.ref t.Bt)])
 s_call:GN K t.Dp 2 t.jD
 aeW:GN K t.ym 1 t.jb
 aiq:GN K t.Dq 1 t.jE
 s_row:GN K t.JI 2 t.kJ
 air:GN K t.Dr 1 t.jF
 ais:GN K t.Dt 2 t.jG
 alB:GN K t.JJ 2 t.kK
 ait:GN K t.Du 2 t.jH
 aiu:GN K t.Dv 2 t.jI
 aiv:GN K t.Dw 1 t.jJ
 alC:GN K t.JK 0 t.kL
 acw:GN K t.uc 0 t.iH
 alD:GN K t.JL 1 t.kM
 anX:GN K t.Bt 1 t.jZ
 gE:mg "len" = de
 G2:mg "int" = de
 BN:mg "list" = de
 XT:mg "tuple" = de
 gF:mg "range" = de
 Uc:mg "enumerate" = de
 acy:mg "min" = de
 agt:mg "set" = de
 MA:mg "str" = de
 agu:mg "all" = de
 alE:mg "sum" = de
 MB:mg "sorted" = de
abbrev oG{K:ah}{x key:Str}{st:Stmt}{f:du}{fd:FuncData}{ps:!Str}(P:ft)(w:World)(mg:Str->Option dy)(base:Heap)(_:gO K mg x key st f fd ps)(k:Nat)(sp:Sp):Prop:=ou P w K mg base QN k f fd ps sp
abbrev oM{K:ah}{C:du}{x key:Str}{st:Stmt}{f:du}{fd:FuncData}{ps:!Str}(P:ft)(w:World)(mg:Str->Option dy)(base:Heap)(_:jn K C x key st f fd ps)(k:Nat)(sp:Sp):Prop:=ou P w K mg base QN k f fd ps sp
abbrev oI{K:ah}{C:du}{key:Str}{st:Stmt}{f:du}{fd:FuncData}{ps:!Str}(P:ft)(w:World)(mg:Str->Option dy)(base:Heap)(_:Lw K C key st f fd ps)(k:Nat)(sp:Sp):Prop:=ou P w K mg base QN k f fd ps sp
theorem mi{a:Type}{M:!a->Prop}(h:∀b,M [b]):∀us:!a,ge us=1->M us
 |[_],_=>h _
theorem t8{a:Type}{M:!a->Prop}(h:∀b c,M [b,c]):∀us:!a,ge us=2->M us
 |[_,_],_=>h _ _
theorem mf{a:Type}{M:!a->Prop}(h:∀b d c,M [b,d,c]):∀us:!a,ge us=3->M us
 |[_,_,_],_=>h _ _ _
theorem ox{a:Type}{M:!a->Prop}(h:∀b e d c,M [b,e,d,c]):∀us:!a,ge us=4->M us
 |[_,_,_,_],_=>h _ _ _ _
theorem ot{a:Type}{M:!a->Prop}(h:∀b f e c d,M [b,f,e,c,d]):∀us:!a,ge us=5->M us
 |[_,_,_,_,_],_=>h _ _ _ _ _
theorem og{a:Type}{M:!a->Prop}(h:∀c g f d e b,M [c,g,f,d,e,b]):∀us:!a,ge us=6->M us
 |[_,_,_,_,_,_],_=>h _ _ _ _ _ _
abbrev BH(x key:Str)(st:Stmt)(ps:!Str):Prop:=∀(kV doc pm:dy)(an:Option du)(cdv ct:dy)(us:!dy),ge us=ge ps->bindArgs (fN x key (kr st) (g7 st) (aC st) .none kV doc pm an cdv ct) #[us,[]]=pure (ps.zip us)
noncomputable def dG{K:ah}{mg:Str->Option dy}{x key:Str}{st:Stmt}{f:du}(e:EG K mg x key st f):FuncData:=e.choose
theorem cg{K:ah}{st:Stmt}(e:EG K mg x key st f)(h:BH x key st ps:=by x_go):gO K mg x key st f (dG e) ps:=#[e.choose_spec.1,e.choose_spec.1.binds h,e.choose_spec.2]
noncomputable def dM{K:ah}{C:du}{x key:Str}{st:Stmt}{f:du}(e:EM K C x key st f):FuncData:=e.choose
theorem cm{K:ah}{st:Stmt}(e:EM K C x key st f)(h:BH x key st ps:=by x_go):jn K C x key st f (dM e) ps:=#[e.choose_spec.1,e.choose_spec.1.binds h,e.choose_spec.2]
theorem ci{K:ah}{a:Str}{st:Stmt}(e:EM K C "__init__" a st f)(Q:EC K C)(h:BH "__init__" a st ps:=by x_go):Lw K C a st f (dM e) ps:=#[e.choose_spec.1,e.choose_spec.1.binds h,#[Q.mak,e.choose_spec.2.at_,e.choose_spec.2.fn,Q.kc]]
theorem aiw{w:World}{K:ah}{h:Heap}{a:Str->Option dy}(X:K.In h)(G:h.Ns eI a){sA vg vh sC Eg Bg s qC u L qD sD sE qF sF Eh KA XN vV XO Ei Ej KC sG ye yf oX qG yg sH sI vm yh nJ m6 oF i9 ja m7 Bj oH oY vn Bk Bl yi sJ vo Bm Bo Ek El Bp vp sL oZ nK Bq mE o4 iz mF kI nL vq o8 sM qH yj vt Em GS jD jb I x jF A kK B J jJ F iH kM jZ sN Br sO yk GU GV GW GX GY Eo KD Ep GZ KE yl XQ:du} {Ud JM JN JO DF JP:dy} {Ue JQ:Option du} {Ug:Array (Option dy)} {o:du} {z:du} {RT:Option du} {Uh:Nat} {RU:Array (Option dy)} {MC DG DH DI Z DJ:dy} {MD DK:Option du} {ME:Array (Option dy)} {n:du} {zO:du} {Km:Option du} {MF:Nat} {Kn:Array (Option dy)} {lW:Tok} {e:du} {i:du} {g:du} {j:du} {d:du} {f:du} {k:du} {b:du} {l:du} {MG:du} {N:du} {sQ:Tok} {vv:Tok} {vz:Tok} {vA:Tok} {qI:Tok} {R:du} {OI:Option du} {RV:Nat} {OJ OL OM:Tok} {ON:Array (Option dy)} {Es:Tok} {qJ:Tok} {qK:Tok} {nM:Tok} {v Dp ym Dq JI T Dt D V E U JK uc Q Y:du} (IX:bQ K eI "Letter" = ac (ac (.ref e))) (MH:bQ K eI "ToOne" = ac (ac (.ref i))) (MI:bQ K eI "ToAll" = ac (ac (.ref g))) (IY:bQ K eI "Posted" = ac (ac (.ref j))) (RW:bQ K eI "Town" = ac (ac (.ref d))) (Gc:bQ K eI "Strands" = ac (ac (.ref f))) (RX:bQ K eI "Book" = ac (ac (.ref k))) (Wy:bQ K eI "Net" = ac (ac (.ref b))) (RY:bQ K eI "Desk" = ac (ac (.ref l))) (sX:EM K k "__init__" "Book.__init__" yU sA) (vE:EM K k "learn" "Book.learn" A3 vg) (vF:EM K k "known" "Book.known" A4 vh) (sY:EM K k "forget" "Book.forget" yV sC) (Ey:EG K a "targets" "targets" Ih Eg) (BO:EG K a "ropes_on" "ropes_on" Fy Bg) (q:EM K e "__init__" "Letter.__init__" uy s) (qP:EM K e "meant" "Letter.meant" wQ qC) (r:EM K e "seeks" "Letter.seeks" wR u) (p:EM K e "number" "Letter.number" uz L) (qQ:EM K i "__init__" "ToOne.__init__" wU qD) (sZ:EM K i "meant" "ToOne.meant" yW sD) (tw:EM K i "seeks" "ToOne.seeks" yX sE) (qR:EM K i "number" "ToOne.number" wV qF) (tD:EM K g "meant" "ToAll.meant" yY sF) (Ez:EG K a "own_row" "own_row" Ii Eh) (KH:EG K a "offer" "offer" Q5 KA) (XU:EG K a "due" "due" rr XN) (EA:EG K a "resting" "resting" Ij vV) (XW:EG K a "ups" "ups" rf XO) (KI:EG K a "opens" "opens" Q6 Ei) (EB:EG K a "open_at" "open_at" Ik Ej) (KJ:EG K a "up_of" "up_of" Q7 KC) (tE:EM K d "__init__" "Town.__init__" yZ sG) (yv:EM K d "name" "Town.name" C2 ye) (yw:EM K d "rope" "Town.rope" C3 yf) (pA:EM K d "ropes_at" "Town.ropes_at" uA oX) (qS:EM K d "far_end" "Town.far_end" wW qG) (yx:EM K d "lets" "Town.lets" C4 yg) (tF:EG K a "check_names" "check_names" y9 sH) (tG:EG K a "check_ropes" "check_ropes" za sI) (vG:EG K a "check_rope" "check_rope" A5 vm) (yy:EG K a "joins_two" "joins_two" C5 yh) (nQ:EM K f "__init__" "Strands.__init__" rM nJ) (qU:EM K f "fall" "Strands.fall" wX m6) (tH:EM K f "lay" "Strands.lay" zb oF) (kU:EM K f "standing" "Strands.standing" pM i9) (kW:EM K f "wire_for" "Strands.wire_for" pN ja) (qV:EM K f "live" "Strands.live" wY m7) (BP:EG K a "wires_of" "wires_of" Fz Bj) (tK:EG K a "check_group" "check_group" zc oH) (pB:EM K j "__init__" "Posted.__init__" uB oY) (vH:EM K b "__init__" "Net.__init__" A6 vn) (BQ:EM K b "rows" "Net.rows" FA Bk) (BR:EM K b "live" "Net.live" FD Bl) (yz:EM K b "opens" "Net.opens" C6 yi) (tL:EM K b "resting" "Net.resting" zd sJ) (vI:EM K b "row_at" "Net.row_at" A7 vo) (BS:EM K b "call" "Net.call" FE Bm) (BU:EM K b "fall" "Net.fall" FF Bo) (ED:EM K b "lay" "Net.lay" Il Ek) (EF:EM K b "had" "Net.had" Im El) (BV:EM K b "move" "Net.move" FG Bp) (Gd:aV K (.ref b) "post" = ac (ac (.ref o))) (Ge:PySem.W.isFn K (.ref o)=df) (Gf:K.lookup o=ac #[Ud,Ue,.func (fN "post" "Net.post" (kr kG) (g7 kG) (aC kG) (.ref z) JM JN JO JQ DF JP),Ug]) (Gg:lX K DF "Net.post" = df) (BW:fz K (.ref o)=df) (DM:K.lookup z=ac #[.type "tuple",RT,.seq [.none].toArray Uh,RU]) (vJ:EM K b "flying" "Net.flying" A8 vp) (zP:aV K (.ref b) "pass_on" = ac (ac (.ref n))) (zQ:PySem.W.isFn K (.ref n)=df) (zR:K.lookup n=ac #[MC,MD,.func (fN "pass_on" "Net.pass_on" (kr g8) (g7 g8) (aC g8) (.ref zO) DG DH DI DK Z DJ),ME]) (zS:lX K Z "Net.pass_on" = df) (tM:fz K (.ref n)=df) (xB:K.lookup zO=ac #[.type "tuple",Km,.seq [.int 0 lW].toArray MF,Kn]) (tN:EM K b "fate_of" "Net.fate_of" ze sL) (pC:EM K b "do_letter" "Net.do_letter" uC oZ) (nR:EM K b "callers_at" "Net.callers_at" rN nK) (BX:EM K b "send" "Net.send" FH Bq) (mH:EM K b "lose_copies" "Net.lose_copies" qy mE) (pD:EM K b "take_news" "Net.take_news" uD o4) (iD:EM K b "take_news_of_rope" "Net.take_news_of_rope" jW iz) (mJ:EM K b "check_house" "Net.check_house" qz mF) (kX:EM K b "check_caller" "Net.check_caller" pO kI) (nU:EM K b "check_pair" "Net.check_pair" rO nL) (vK:EG K a "first_rows" "first_rows" A9 vq) (pF:EG K a "check_callers" "check_callers" uE o8) (tO:EG K a "read_number" "read_number" zf sM) (qW:EG K a "read_numbers" "read_numbers" wZ qH) (yC:EG K a "read_town" "read_town" C7 yj) (vL:EG K a "read_names" "read_names" Ba vt) (EH:EG K a "written" "written" Io Em) (G3:EG K a "listed" "listed" Ly GS) (tP:EG K a "answer_call" "answer_call" zg jD) (qX:EG K a "answer_round" "answer_round" w6 jb) (tQ:EG K a "answer_rest" "answer_rest" zh I) (vM:EG K a "answer_row" "answer_row" Bb x) (tR:EG K a "answer_open" "answer_open" zj jF) (tS:EG K a "answer_fall" "answer_fall" zk A) (vN:EG K a "answer_lay" "answer_lay" Bc kK) (tT:EG K a "answer_move" "answer_move" zl B) (tU:EG K a "answer_post" "answer_post" zm J) (tV:EG K a "answer_pass" "answer_pass" zo jJ) (vO:EG K a "answer_run" "answer_run" Be F) (pG:EG K a "answer_flying" "answer_flying" uF iH) (vP:EG K a "answer_had" "answer_had" Bf kM) (qY:EG K a "answer_story" "answer_story" C8 jZ) (tW:EM K l "__init__" "Desk.__init__" zp sN) (BY:EM K l "say" "Desk.say" FI Br) (tX:EG K a "read_behind" "read_behind" zq sO) (yD:EG K a "_law_cell_at" "_law_cell_at" C9 yk) (G4:EG K a "_law_rope" "_law_rope" Lz GU) (G5:EG K a "_law_town" "_law_town" LA GV) (G6:EG K a "_law_text" "_law_text" LB GW) (G7:EG K a "_law_wire" "_law_wire" LC GX) (G8:EG K a "_law_deed" "_law_deed" LD GY) (EI:EG K a "_law_marks" "_law_marks" Ip Eo) (KL:EG K a "_law_row" "_law_row" Q8 KD) (EJ:EG K a "_law_least" "_law_least" Iq Ep) (G9:EG K a "_law_rest" "_law_rest" LF GZ) (KN:EG K a "_law_had" "_law_had" Q9 KE) (yE:EG K a "_law_letters" "_law_letters" Dc yl) (XX:EG K a "law" "law" rd XQ) (Hf:EC K e) (rW:aV K (.ref e) "sender" = ac de) (BZ:aV K (.ref e) "to" = ac de) (KO:EC K i) (uL:aV K (.ref i) "sender" = ac de) (DN:aV K (.ref i) "to" = ac de) (Hg:EC K g) (uM:aV K (.ref g) "sender" = ac de) (DO:aV K (.ref g) "to" = ac de) (Hh:EC K j) (rX:aV K (.ref j) "letter" = ac de) (uN:aV K (.ref j) "group" = ac de) (zT:aV K (.ref j) "old" = ac de) (qZ:aV K (.ref j) "done_at" = ac de) (uO:aV K (.ref j) "deeds" = ac de) (RZ:EC K d) (oi:aV K (.ref d) "house_names" = ac de) (oj:aV K (.ref d) "rope_tuples" = ac de) (Ca:aV K (.ref d) "size" = ac de) (Cb:aV K (.ref d) "many" = ac de) (EK:EC K f) (uP:aV K (.ref f) "town" = ac de) (pT:aV K (.ref f) "upright" = ac de) (R0:EC K k) (Cc:aV K (.ref k) "kept" = ac de) (XY:EC K b) (DP:aV K (.ref b) "town" = ac de) (xC:aV K (.ref b) "strands" = ac de) (nA:aV K (.ref b) "rows_by_group" = ac de) (Cd:aV K (.ref b) "books" = ac de) (Ce:aV K (.ref b) "homes" = ac de) (zU:aV K (.ref b) "groups" = ac de) (zV:aV K (.ref b) "handed" = ac de) (xD:aV K (.ref b) "letters" = ac de) (zW:aV K (.ref b) "copies" = ac de) (R3:EC K l) (DQ:aV K (.ref l) "net" = ac de) (xE:bQ K eI "opens_opens" = ac (ac (.ref Ei))) (uQ:bQ K eI "resting_rows" = ac (ac (.ref vV))) (xF:aV K (.ref g) "seeks" = ac (ac (.ref u))) (uR:aV K (.ref g) "number" = ac (ac (.ref L))) (MJ:aV K (.ref g) "__init__" = ac (ac (.ref s))) (rY:PySem.W.specialIn K (.ref e) "__getattribute__" = ac (ac (.builtin "type.__getattribute__"))) (rZ:PySem.W.readsIn K e (.type "type")=df) (r6:PySem.W.findCls K (.ref e) (.type "type") "__init__" = ac (.val (.ref s))) (IZ:bQ K eI "NoWire" = ac (ac (.ref MG))) (I0:kn K MG) (Gh:bQ K eI "NoGroup" = ac (ac (.ref N))) (Gi:kn K N) (zX:bQ K eI "MOST_HOUSES" = ac (ac (.int 10 sQ))) (Cf:bQ K eI "MOST_ROPES" = ac (ac (.int 20 vv))) (Cg:bQ K eI "MOST_WIRES" = ac (ac (.int 4 vz))) (Ci:bQ K eI "ALL_GROUPS" = ac (ac (.int 7 vA))) (xG:bQ K eI "MOST_CALLERS" = ac (ac (.int 20 qI))) (Cj:bQ K eI "GROUP_BITS" = ac (ac (.ref R))) (Ck:K.lookup R=ac #[.type "tuple",OI,.seq [.int 1 OJ,.int 2 OL,.int 4 OM].toArray RV,ON]) (Ja:bQ K eI "FIGURES" = ac (ac (.str "0123456789" Es))) (xH:bQ K eI "MOST_FIGURES" = ac (ac (.int 60 qJ))) (xJ:bQ K eI "ROPE_NUMBERS" = ac (ac (.int 5 qK))) (r9:bQ K eI "CALLER_NUMBERS" = ac (ac (.int 2 nM))) (Jb:bQ K eI "ANSWERS" = ac (ac (.ref v))) (Jc:kA K w v (pc [("call",.ref Dp),("round",.ref ym),("rest",.ref Dq),("row",.ref JI),("open",.ref T),("fall",.ref Dt),("lay",.ref D),("move",.ref V),("post",.ref E),("pass",.ref U),("run",.ref JK),("flying",.ref uc),("had",.ref Q),("story",.ref Y)])) (R4:GN K Dp 2 jD) (MK:GN K ym 1 jb) (R6:GN K Dq 1 I) (Wz:GN K JI 2 x) (R7:GN K T 1 jF) (R8:GN K Dt 2 A) (WA:GN K D 2 kK) (R9:GN K V 2 B) (Sa:GN K E 2 J) (Sb:GN K U 1 jJ) (WB:GN K JK 0 F) (Jd:GN K uc 0 iH) (WC:GN K Q 1 kM) (ML:GN K Y 1 jZ) (M:bQ K eI "len" = ac de) (ab:bQ K eI "int" = ac de) (WD:bQ K eI "list" = ac de) (Sd:bQ K eI "tuple" = ac de) (Se:bQ K eI "range" = ac de) (DR:bQ K eI "enumerate" = ac de) (aa:bQ K eI "min" = ac de) (S:bQ K eI "set" = ac de) (ad:bQ K eI "str" = ac de) (y:bQ K eI "all" = ac de) (P:bQ K eI "sum" = ac de) (MM:bQ K eI "sorted" = ac de):∃t,Txt K a w t:=by
 let O:=XG (st:=kG) Gf Gg BW DM rfl;let C:=XG (st:=g8) zR zS tM xB rfl;erw[#[sA,vg,vh,sC,Eg,Bg,s,qC,u,L,qD,sD,sE,qF,sF,Eh,KA,XN,vV,XO,Ei,Ej,KC,sG,ye,yf,oX,qG,yg,sH,sI,vm,yh,nJ,m6,oF,i9,ja,m7,Bj,oH,oY,vn,Bk,Bl,yi,sJ,vo,Bm,Bo,Ek,El,Bp,vp,sL,oZ,nK,Bq,mE,o4,iz,mF,kI,nL,vq,o8,sM,qH,yj,vt,Em,GS,jD,jb,I,x,jF,A,kK,B,J,jJ,F,iH,kM,jZ,sN,Br,sO,yk,GU,GV,GW,GX,GY,Eo,KD,Ep,GZ,KE,yl,XQ,dM sX,dM vE,dM vF,dM sY,dG Ey,dG BO,dM q,dM qP,dM r,dM p,dM qQ,dM sZ,dM tw,dM qR,dM tD,dG Ez,dG KH,dG XU,dG EA,dG XW,dG KI,dG EB,dG KJ,dM tE,dM yv,dM yw,dM pA,dM qS,dM yx,dG tF,dG tG,dG vG,dG yy,dM nQ,dM qU,dM tH,dM kU,dM kW,dM qV,dG BP,dG tK,dM pB,dM vH,dM BQ,dM BR,dM yz,dM tL,dM vI,dM BS,dM BU,dM ED,dM EF,dM BV,dM vJ,dM tN,dM pC,dM nR,dM BX,dM mH,dM pD,dM iD,dM mJ,dM kX,dM nU,dG vK,dG pF,dG tO,dG qW,dG yC,dG vL,dG EH,dG G3,dG tP,dG qX,dG tQ,dG vM,dG tR,dG tS,dG vN,dG tT,dG tU,dG tV,dG vO,dG pG,dG vP,dG qY,dM tW,dM BY,dG tX,dG yD,dG G4,dG G5,dG G6,dG G7,dG G8,dG EI,dG KL,dG EJ,dG G9,dG KN,dG yE,dG XX,o,(fN "post" "Net.post" (kr kG) (g7 kG) (aC kG) (.ref z) JM JN JO JQ DF JP),n,(fN "pass_on" "Net.pass_on" (kr g8) (g7 g8) (aC g8) (.ref zO) DG DH DI DK Z DJ),lW,e,i,g,j,d,f,k,b,l,MG,N,sQ,vv,vz,vA,qI,R,Es,qJ,qK,nM,v,Dp,ym,Dq,JI,T,Dt,D,V,E,U,JK,uc,Q,Y],#[(ci sX R0),
  (cm vE),
  (cm vF),
  (cm sY),
  (cg Ey),
  (cg BO),
  (ci q Hf),
  (cm qP),
  (cm r),
  (cm p),
  (ci qQ KO),
  (cm sZ),
  (cm tw),
  (cm qR),
  (cm tD),
  (cg Ez),
  (cg KH),
  (cg XU),
  (cg EA),
  (cg XW),
  (cg KI),
  (cg EB),
  (cg KJ),
  (ci tE RZ),
  (cm yv),
  (cm yw),
  (cm pA),
  (cm qS),
  (cm yx),
  (cg tF),
  (cg tG),
  (cg vG),
  (cg yy),
  (ci nQ EK),
  (cm qU),
  (cm tH),
  (cm kU),
  (cm kW),
  (cm qV),
  (cg BP),
  (cg tK),
  (ci pB Hh),
  (ci vH XY),
  (cm BQ),
  (cm BR),
  (cm yz),
  (cm tL),
  (cm vI),
  (cm BS),
  (cm BU),
  (cm ED),
  (cm EF),
  (cm BV),
  O,
  (O.binds (ps:=["self","sender","to"]) (ds:=[.none]) (m:=2) rfl λ_ _ _ _ _ _ _=>t8 λ_ _=>#[12]),
  (O.binds (ps:=["self","sender","to"]) (ds:=[]) (m:=3) rfl λ_ _ _ _ _ _ _=>mf λ_ _ _=>#[12]),
  #[Gd,Ge,BW],
  (cm vJ),
  C,
  (C.binds (ps:=["self","at"]) (ds:=[.int 0 lW]) (m:=1) rfl λ_ _ _ _ _ _ _=>mi λ_=>#[12]),
  (C.binds (ps:=["self","at"]) (ds:=[]) (m:=2) rfl λ_ _ _ _ _ _ _=>t8 λ_ _=>#[12]),
  #[zP,zQ,tM],
  (cm tN),
  (cm pC),
  (cm nR),
  (cm BX),
  (cm mH),
  (cm pD),
  (cm iD),
  (cm mJ),
  (cm kX),
  (cm nU),
  (cg vK),
  (cg pF),
  (cg tO),
  (cg qW),
  (cg yC),
  (cg vL),
  (cg EH),
  (cg G3),
  (cg tP),
  (cg qX),
  (cg tQ),
  (cg vM),
  (cg tR),
  (cg tS),
  (cg vN),
  (cg tT),
  (cg tU),
  (cg tV),
  (cg vO),
  (cg pG),
  (cg vP),
  (cg qY),
  (ci tW R3),
  (cm BY),
  (cg tX),
  (cg yD),
  (cg G4),
  (cg G5),
  (cg G6),
  (cg G7),
  (cg G8),
  (cg EI),
  (cg KL),
  (cg EJ),
  (cg G9),
  (cg KN),
  (cg yE),
  (cg XX),
  Hf.c,
  (cE X G IX),
  rW,
  BZ,
  KO.c,
  (cE X G MH),
  uL,
  DN,
  Hg.c,
  (cE X G MI),
  uM,
  DO,
  Hh.c,
  (cE X G IY),
  rX,
  uN,
  zT,
  qZ,
  uO,
  RZ.c,
  (cE X G RW),
  oi,
  oj,
  Ca,
  Cb,
  EK.c,
  (cE X G Gc),
  uP,
  pT,
  R0.c,
  (cE X G RX),
  Cc,
  XY.c,
  (cE X G Wy),
  DP,
  xC,
  nA,
  Cd,
  Ce,
  zU,
  zV,
  xD,
  zW,
  R3.c,
  (cE X G RY),
  DQ,
  (cE X G xE),
  (cE X G uQ),
  #[xF,(r).choose_spec.2.fn,(r).choose_spec.2.kp],
  #[uR,(p).choose_spec.2.fn,(p).choose_spec.2.kp],
  #[Hg.mak,MJ,(q).choose_spec.2.fn,Hg.kc],
  #[rY,rZ,r6,(q).choose_spec.2.kp],
  (cE X G IZ),
  I0,
  (cE X G Gh),
  Gi,
  (cE X G zX),
  (cE X G Cf),
  (cE X G Cg),
  (cE X G Ci),
  (cE X G xG),
  (cE X G Cj),
  (λH=>.inr #[333,Ck,22,vD,(.cons #[1] (.cons #[1] (.cons #[1] .nil)))]),
  (cE X G Ja),
  (cE X G xH),
  (cE X G xJ),
  (cE X G r9),
  (cE X G Jb),
  Jc,
  R4,
  MK,
  R6,
  Wz,
  R7,
  R8,
  WA,
  R9,
  Sa,
  Sb,
  WB,
  Jd,
  WC,
  ML,
  (eY X G M),
  (eY X G ab),
  (eY X G WD),
  (eY X G Sd),
  (eY X G Se),
  (eY X G DR),
  (eY X G aa),
  (eY X G S),
  (eY X G ad),
  (eY X G y),
  (eY X G P),
  (eY X G MM)]]
end fc
namespace fc
open PySem L2 TW PyProof.Rows
open RM (cz jf bB bg)
seal L2.PE L2.PA L2.PT L2.PW L2.PS L2.iR L2.PG L2.j8 L2.PI L2.j9
def bD{K:ah}:(rH CX P w K mg base N qual scope f cd A outer s H E).K=K:=rfl
local macro_rules|`(tactic|left)=>`(tactic|try dsimp only[bD])
section
variable{P:ft}{w:World}{K:ah}{mg:Str->Option dy}{base:Heap}
inductive zi(K:ah)(vs:!V)(H:Hp)(Q:VK)(E:XK):Prop
 |mk(a:du)(ns:!Int)(k:Int):vs=[.ref a,.int k]->bJ K H a (ns.map fw)->0<=k->Q (.int (ns.getD k.toNat 0)) H->zi K vs H Q E
theorem vQ(T:Txt K mg w t):oG P w mg base T.p8 1 (zi K):=by erw[T.p8.F.iV Ri λH Q E g h=>?_];·let#[a,ns,i,rfl,b,f,k]:=h;erw[_,(au (cV (qT xV (pv 1) (lS T.gE (pv 0))) (oR (xL (pv 0) (pv 1))) bR) (oR aF)),4];left;erw[38,a,1,.inl b,684];erw[lZ (λc=>?_) (λc=>?_)];let d:i<ge ns:=c⁻¹;erw[38,a,9,b,SY f d,k];let d:¬i<ge ns:=c⁻¹;let e:ns.getD i.toNat 0=0:=(by rw[ak,lF ∅];rfl);rw[e] at k;erw[k]
inductive XZ(vs:!V)(H:Hp)(Q:VK)(E:XK):Prop
 |mk(n a b:Int):vs=[.int n,.int a,.int b]->0<=a->a<n->0<=b->b<n->a≠b->Q (.bl df) H->XZ vs H Q E
theorem Sf(T:Txt K mg w t):oG P w mg base T.Dz 1 XZ:=by erw[T.Dz.F.iV Rf λH Q E i h=>?_];·let#[n,a,b,rfl,e,c,d,g,f,k]:=h;erw[_,(oR (Qy (SJ rE xV aF (pv 1) (pv 0)) (Qy (SJ rE xV aF (pv 2) (pv 0)) (Vs (qE oq (pv 1) (pv 2)))))),4];left;exists 1684;rw[fy e];erw[fZ #[1684]];rw[fy c];erw[fZ #[1684]];rw[fy d];erw[fZ #[1684]];rw[fy g];erw[fZ #[3824]];rw[gh (λz=>f (V.int.inj z))];erw[k]
inductive JR(K:ah)(vs:!V)(H:Hp)(Q:VK)(E:XK):Prop
 |mk(n:Int)(p:du)(a b c d e:Int):vs=[.int n,.ref p]->dH K H p (tz a b c d e)->Bz n a b c d e->Q .gw H->JR K vs H Q E
theorem OO(T:Txt K mg w t):oG P w mg base T.Bw 2 (JR K):=by erw[T.Bw.F.iV NX λH Q E o h=>?_];·let#[n,p,a,b,c,d,e,rfl,f,l,k]:=h;let#[q,i,s,r,m,y,j,u,x,g]:=l;erw[_,(au (cV (qT oq (lS T.gE (pv 1)) aF) dO bR) (au (cV (ki (mT (cG (Sf T) o T.Dz (Lv (pv 0) (xT (pv 1) aF) (xT (pv 1) aF))))) dO bR) (au (cV (qT xV (xT (pv 1) aF) aF) dO bR) (au (cV (ki (lH rE rE aF (xT (pv 1) aF) (je rfl T.RQ (v:=.int 4) #[1]))) dO bR) (b6 (cV (ki (lH rE rE aF (xT (pv 1) aF) (je rfl T.RS (v:=.int 7) #[1]))) dO bR)))))),4];left;erw[1,p,1,.inr f,8,fP ?_];erw[38,p,9,f,8,p,9,f,24];erw[36,q,i,s,r,m,1,fP ?_];erw[1,p,9,f,2684];rw[gh (show ¬c<1 by lia)];erw[fP ?_];erw[1,p,9,f,2684];rw[fy j];erw[fZ ?_];exists 684;rw[fy u];erw[fP ?_];erw[1,p,9,f,2684];rw[fy x];erw[fZ ?_];exists 684;rw[fy g];erw[fP ?_];erw[k]
inductive Hi(K:ah)(vs:!V)(H:Hp)(Q:VK)(E:XK):Prop
 |mk(n:Int)(l:du)(rs:!R5):vs=[.int n,.ref l]->Lg K H l rs->ge rs<=20->(∀r∈rs,r.Ok n)->Q .gw H->Hi K vs H Q E
theorem MN(T:Txt K mg w t):oG P w mg base T.zB 3 (Hi K):=by erw[T.zB.F.iV Dd λH Q E x h=>?_];·let#[n,l,j,rfl,z,A,u,k]:=h;let#[f,d,B,s]:=z.at;erw[_,(au (cV (qT si (lS T.gE (pv 1)) (je rfl T.RP (v:=.int 20) #[1])) dO bR) (b6 (fS (cY (pv 1)) (gT 2 Dd) (oE (cG (OO T) x T.Bw (oW (pv 0) (pv 2))))))),4];left;erw[1,l,1,.inl d,684];rw[gh (show ¬(20:Int)<ge f by lia)];erw[fP ?_];erw[1,l,2,#[_,d],wz (K:=K) (a:=l) (xs:=f) (λi b c=>c=H/\∃v,b=[ac (.int n),ac (.ref l),v]) #[8] (λi b c _ u_=>by let#[e,_]:=u_;rw[e];erw[d]) ?_ ?_];intro i y b c o ⟨rfl,v,rfl⟩;let q:i<ge f:=(ai.mp o).1;let g:j[i]?=ac j[i]:=-_;let#[p,m,r]:=s i _ g;rw[o] at m;ext m;erw[38,n,p,3336,r,u _ (aD g),8];intro b c ⟨rfl,v,rfl⟩;erw[k]
inductive Hj(K:ah)(vs:!V)(H:Hp)(Q:VK)(E:XK):Prop
 |mk(l:du)(ns:!Int):vs=[.ref l]->bJ K H l (ns.map fw)->1<=ge ns->ge ns<=10->(∀n∈ns,0<=n)->ns.Nodup->(∀H',aH H H'->Q .gw H')->Hj K vs H Q E
theorem MO(T:Txt K mg w t):oG P w mg base T.zA 1 (Hj K):=by erw[T.zA.F.iV LU λH Q E q h=>?_];·let#[l,ns,rfl,a,r,n,j,f,k]:=h;erw[_,(au (cV (ki (lH rE rE aF (lS T.gE (pv 0)) (je rfl T.OH (v:=.int 10) #[1]))) dO bR) (au (cV (qT xV (cB (Pw rfl) T.acy boot_min (dj (pv 0))) aF) dO bR) (b6 (cV (qT oq (cB Pu T.gE PySem.boot_len (dj (cJ (Pr rfl) (by rfl) T.agt boot_set (dj (pv 0))))) (lS T.gE (pv 0))) dO bR)))),4];left;erw[1,l,1,.inl a,684];rw[fy (show (1:Int)<=ge (ns.map fw) by rw[af];lia)];erw[fZ ?_];exists 684;rw[fy (show (ge (ns.map fw):Int)<=10 by rw[af];lia)];erw[fP ?_];erw[1,l,ns,2,a,5,λm g e=>?_];exists 684;rw[gh (show ¬m<0 by let:=j m g;lia)];erw[fP ?_];erw[1,l,ns,2,a,b9 (show ge ns+1<100 by lia) (!_),λp b=>?_];let d:=aH.new (o:=.set (λc=>(firstMet (λi=>ns.getD i 0) (ge ns)).any (·==c)) (ge (firstMet (λi=>ns.getD i 0) (ge ns)))) b;erw[p,6,ay,1,l,1,.inl (d.seq a),84];rw[CV ns f,af];simp only[decide_true,Bool.not_true];erw[fP ?_];erw[k _ (aH.new b)]
inductive y8(K:ah)(C:du)(vs:!V)(H:Hp)(Q:VK)(E:XK):Prop
 |mk(p dx l1 l2:du)(ns:!Int)(rs:!R5):vs=[.ref p,.ref l1,.ref l2]->H p=ac (.ins C dx [])->bJ K H l1 (ns.map fw)->Lg K H l2 rs->1<=ge ns->ge ns<=10->(∀n∈ns,0<=n)->ns.Nodup->ge rs<=20->(∀r∈rs,r.Ok (ge ns))->(∀ln lr H',H ln=de->H lr=de->eN K C H' p ln lr ns rs->(∀b o,H b=ac o->b≠p->H' b=ac o)->Q .gw H')->y8 K C vs H Q E
theorem MP(T:Txt K mg w t):oI P w mg base T.zy 4 (y8 K t.bf):=by erw[T.zy.F.iV LR λH Q E hr h=>?_];·let#[p,f,y,z,ns,rs,rfl,hp,hL,hR,h1,h2,h3,h4,h5,h6,k]:=h;erw[_,(au (fC (cG (MO T) hr T.zA (dj (pv 1)))) (au (fC (cG (MN T) hr T.zB (oW (lS T.gE (pv 1)) (pv 2)))) (au (gR (pv 0) (cJ kq (by rfl) T.BN boot_list (dj (pv 1))) rfl) (au (gR (pv 0) (cJ kq (by rfl) T.BN boot_list (dj (pv 2))) rfl) (au (gR (pv 0) (lS T.gE (pv 1)) rfl) (b6 (gR (pv 0) (lS T.gE (pv 2)) rfl))))))),4];left;erw[1,y,ns,2,hL,h1,h2,h3,h4,λU r=>?_];erw[1,y,1,.inl (r.seq hL),4];erw[1,(ge ns:Int),z,rs,-_,hR.mono r,h5,h6,4];let c:=r _ _ hp;let S:=hR.mono r;let G:=r.seq hL;let#[_,i,e,hq,B]:=id S;ext e;erw[1,y,1,.inl G,λg W=>?_];let m:p≠g:=aS c W;let s2:=aH.new (o:=.lst (ns.map fw)) W;erw[1,p,_,f,[],2,s2 _ _ c,T.gk,T.xy,!_,?_];rw[fF (names:=[]) rfl rfl];generalize n:upd (upd U g (.lst (ns.map fw))) p (.ins t.bf f ([]++[(eC "house_names",fx g)]))=H2;let A:∀b o,U b=ac o->b≠p->H2 b=ac o:=λb o e a=>(by rw[<- n,aY a];erw[s2 _ _ e]);let d:H2 p=ac (.ins t.bf f [(eC "house_names",fx g)]):=(by rw[<- n];erw[ay]);let R:H2 g=ac (.lst (ns.map fw)):=(by rw[<- n,aY (cC m),ay]);let ai:∀{b:du},U b=de->b≠p->b≠g->H2 b=de:=λ{b} e n1 n2=>(by rw[<- n,aY n1,aY n2];erw[e]);let aa:bJ K H2 y (ns.map fw):=D9 (λb o e a=>A b o e a) c G;let I:bJ K H2 z i:=D9 (λb o e a=>A b o e a) c hq;let ag:eU K H2 (rs.map R5.D) i:=mW (λb o e a=>A b o e a) c B;erw[1,z,1,.inl I,λj v=>?_];let l:p≠j:=aS d v;let s3:=aH.new (o:=.lst i) v;erw[1,p,_,f,1,s3 _ _ d,T.gk,T.jc,(by show 1<1000;decide),4];rw[fF (names:=["house_names"]) rfl (↑_)];generalize s:upd (upd H2 j (.lst i)) p (.ins t.bf f ([(eC "house_names",fx g)]++[(eC "rope_tuples",fx j)]))=H3;let C:∀b o,H2 b=ac o->b≠p->H3 b=ac o:=λb o e a=>(by rw[<- s,aY a];erw[s3 _ _ e]);let x:H3 p=ac (.ins t.bf f [(eC "house_names",fx g),(eC "rope_tuples",fx j)]):=(by rw[<- s];erw[ay]);let ab:H3 j=ac (.lst i):=(by rw[<- s,aY (cC l),ay]);let ad:=C _ _ R (cC m);let Z:bJ K H3 y (ns.map fw):=D9 C d aa;let ah:bJ K H3 z i:=D9 C d I;let Y:eU K H3 (rs.map R5.D) i:=mW C d ag;erw[1,y,1,.inl Z,1,p,_,f,1,x,T.gk,T.kh,(by show 2<1000;decide),4];rw[fF (names:=["house_names","rope_tuples"]) rfl (↑_)];generalize J:upd H3 p (.ins t.bf f ([(eC "house_names",fx g),(eC "rope_tuples",fx j)]++[(eC "size",fw (ge (ns.map fw):Nat))]))=H4;let L:∀b o,H3 b=ac o->b≠p->H4 b=ac o:=λb o e a=>(by rw[<- J,aY a];erw[e]);let M:H4 p=ac (.ins t.bf f [(eC "house_names",fx g),(eC "rope_tuples",fx j),(eC "size",fw (ge (ns.map fw):Nat))]):=(by rw[<- J];erw[ay]);let ae:bJ K H4 z i:=D9 L x ah;let X:eU K H4 (rs.map R5.D) i:=mW L x Y;erw[1,z,1,.inl ae,1,p,_,f,1,M,T.gk,T.yr,(by show 3<1000;decide),4];rw[fF (names:=["house_names","rope_tuples","size"]) rfl (↑_)];let N:∀b o,H4 b=ac o->b≠p->∀u,(upd H4 p u) b=ac o:=λb o e a u=>(by rw[aY a];erw[e]);let O:ge i=ge rs:=(by rw[B.length,af]);erw[k g j _ (r.free W) ?_ #[#[f,4],4,i,4,mW (λb o e a=>N b o e a _) M X] ?_];(cases q:H j with|none=>rfl|some o=>let:=A j o (r _ _ q) (λe=>l e.symm);rw[v] at this;ext this);rw[ay,O,af];rfl;erw[N _ _ (L _ _ ad (cC m)) (cC m) _];erw[N _ _ (L _ _ ab (cC l)) (cC l) _];erw[λb o e a=>N _ _ (L _ _ (C _ _ (A _ _ (r _ _ e) a) a) a) a _]
inductive y6(K:ah)(C:du)(vs:!V)(H:Hp)(Q:VK)(E:XK):Prop
 |mk(p ln lr:du)(ns:!Int)(rs:!R5)(i:Nat)(n:Int):vs=[.ref p,.int i]->eN K C H p ln lr ns rs->ns[i]?=ac n->Q (.int n) H->y6 K C vs H Q E
theorem Sg(T:Txt K mg w t):oM P w mg base T.Dy 1 (y6 K t.bf):=by erw[T.Dy.F.iV Ra λH Q E m h=>?_];·let#[p,g,q,o,l,i,n,rfl,d,j,k]:=h;let#[#[e,a],c,r,f,b]:=id d;erw[_,(oR (xL (bF (pv 0) rfl) (pv 1))),4];left;erw[1,p,_,e,6,a,T.gk,T.xy,8,g,9,bJ.of c,cH (v:=fw n) (by rw[ao,j];rfl),k]
inductive y3(K:ah)(C:du)(vs:!V)(H:Hp)(Q:VK)(E:XK):Prop
 |mk(p ln lr:du)(ns:!Int)(rs:!R5)(i:Nat)(r:R5):vs=[.ref p,.int i]->eN K C H p ln lr ns rs->rs[i]?=ac r->(∀q,H q=ac (.tup r.vs)\/dH K H q r.vs->Q (.ref q) H)->y3 K C vs H Q E
theorem Hl(T:Txt K mg w t):oM P w mg base T.yo 1 (y3 K t.bf):=by erw[T.yo.F.iV Rb λH Q E x h=>?_];·let#[p,y,o,ns,u,i,r,rfl,j,n,k]:=h;let#[#[l,c],s,z,b,a]:=id j;let#[v,m,g]:=a.get (i:=i) (d:=r.D) (by rw[ao,n];rfl);let#[q,e,f]:=Rep.CU (ns:=r.ns) g;subst e;erw[_,(oR (xL (bF (pv 0) rfl) (pv 1))),4];left;erw[1,p,_,l,6,c,T.gk,T.jc,8,o,9,bJ.of b,cH m,k q (.inr f)]
inductive vT(K:ah)(C:du)(vs:!V)(H:Hp)(Q:VK)(E:XK):Prop
 |mk(p ln lr:du)(ns:!Int)(rs:!R5)(i:Nat)(r:R5)(h:Int):vs=[.ref p,.int i,.int h]->eN K C H p ln lr ns rs->rs[i]?=ac r->Q (.int (if h=r.a then r.b else r.a)) H->vT K C vs H Q E
theorem uS(T:Txt K mg w t):oM P w mg base T.m9 1 (vT K t.bf):=by erw[T.m9.F.iV Cs λH Q E B h=>?_];·let#[p,C,y,ns,A,i,r,x,rfl,n,u,k]:=h;let#[#[o,l],z,G,j,b]:=id n;let#[v,s,m]:=b.get (i:=i) (d:=r.D) (by rw[ao,u];rfl);let#[q,e,g]:=Rep.CU (ns:=r.ns) m;subst e;erw[_,(au (sS 3 Cs (xL (bF (pv 0) rfl) (pv 1))) (oR (lG (qT i0 (pv 2) (xT (pv 3) aF)) (xT (pv 3) aF) (xT (pv 3) aF)))),4];left;erw[1,p,_,o,6,l,T.gk,T.jc,8,y,9,bJ.of j,cH s,4];erw[38,q,9,g,284];erw[lZ (λc=>?_) (λc=>?_)];let f:x=r.a:=c⁻¹;rw[eG f] at k;erw[1,q,9,g,2,k];let f:¬x=r.a:=c⁻¹;rw[eH f] at k;erw[1,q,9,g,2,k]
inductive ui(K:ah)(C:du)(vs:!V)(H:Hp)(Q:VK)(E:XK):Prop
 |mk(p ln lr:du)(ns:!Int)(rs:!R5)(h:Int):vs=[.ref p,.int h]->eN K C H p ln lr ns rs->ge rs<=20->(∀l H',aH H H'->H l=de->H' l=ac (.lst (bA (lT rs h (ge rs))))->Q (.ref l) H')->ui K C vs H Q E
theorem se(T:Txt K mg w t):oM P w mg base T.lQ 1 (ui K t.bf):=by erw[T.lQ.F.iV Ak λH Q E hr h=>?_];·let#[p,ln,lr,ns,rs,x,rfl,hT,xR,k]:=h;let#[#[dx,X],hn,C,j,u]:=id hT;let G:ge C=ge rs:=(by rw[u.length,af]);erw[_,(oR (dP (kO Ak ["number","rope","house"] [de,de,ac 1]) rfl (aej rfl T.Uc (dj (bF (pv 0) rfl))) (~~~(ael K rfl (n:=2) rfl (Aa (gS 0 uY) (Aa (gS 1 uY) Qz)))) (~~~(kB (oS (Ft K rfl) (pv 2) (i6 (oW (yT K (pv 1) aF) (yT K (pv 1) aF))) (by with_unfolding_all rfl)))) (~~~(pv 0)))),4];left;erw[1,p,_,dx,6,X,T.gk,T.jc,2,lr,C,2,bJ.of j,λg f=>?_];erw[fK (n:=ge C) (λi m _=>m=bA (lT rs x i)) f (ahR (bJ.of j)) (abo (bJ.of j)) rfl ?_ ?_];(·intro i m B W l A r y H3 ⟨q,v,I,rfl,rfl,hv⟩;let L:=hv C (l.seq (bJ.of j));let R:rs[i]?=ac rs[i]:=-_;let#[v',z,Y]:=u.get (i:=i) (d:=(rs[i]).D) (by rw[ao,R];rfl);rw[L] at z;ext z;let#[b,e,hb]:=Rep.CU (ns:=(rs[i]).ns) Y;subst e;let s:=(l.out (o:=.tup [.int (i:Nat),.ref b]) (l.free I)).cU hb;let nq:g≠q:=aS A I;erw[q,1,dH.of ay,26624];erw[38,b,9,s,8,b,9,s,2,g5,λc U=>?_];erw[c,1,.inr (dH.of ay),284];let eb:NF (fw x) [fw rs[i].a,fw rs[i].b]=gN rs x i:=(by delta gN;rw[R];erw[ah0 _ _ _]);let N:=l.out (o:=.tup [.int (i:Nat),.ref b]) (l.free I);let S:=N.out (o:=.tup [fw rs[i].a,fw rs[i].b]) (N.free U);let O:(upd (upd B q (HO.tup [fw (i:Nat),fx b])) c (HO.tup [fw rs[i].a,fw rs[i].b])) g=ac (.lst m):=(by let M:(upd B q (HO.tup [fw (i:Nat),fx b])) g=ac (.lst m):=(by rw[aY nq];erw[A]);rw[aY (aS M U)];erw[M]);(try dsimp only);rw[eH aU,eb];let Z:ge m<eD:=(by rw[r,af];erw[bM (aJ (aez rs x i) ∅) (bP (aA _))]);erw[lZ (λJ=>?_) (λJ=>?_)];erw[1,dS f W S O Z (by rw[r,Tc,eG J,gy])];erw[gU W S O (by rw[r,Tc,eH J,cu])]);intro m B l A r;rw[G] at r;erw[k g B l f (by rw[A,r])]
inductive Ui(K:ah)(C:du)(vs:!V)(H:Hp)(Q:VK)(E:XK):Prop
 |mk(p ln lr:du)(ns:!Int)(rs:!R5)(i:Nat)(n:Int):vs=[.ref p,.int i]->eN K C H p ln lr ns rs->ns[i]?=ac n->(∀q H',aH H H'->dH K H' q (cz #[n,(0),(0),-1])->Q (.ref q) H')->Ui K C vs H Q E
theorem MQ(T:Txt K mg w t):oG P w mg base T.Et 2 (Ui K t.bf):=by erw[T.Et.F.iV Wi λH Q E e h=>?_];·let#[p,j,m,g,d,i,n,rfl,a,l,k]:=h;let#[#[f,b],_,_,_]:=id a;erw[_,(oR (i6 (mj (cM (pv 0) T.gk T.Dy (Sg T) e (dj (pv 1))) aF aF pI))),4];left;erw[1,p,f,1,b,8,p,j,m,g,d,i,n,2,a,l,kw,λq c=>?_];erw[k q _ (aH.new c) (dH.of ay)]
inductive X0(K:ah)(C:du)(vs:!V)(H:Hp)(Q:VK)(E:XK):Prop
 |mk(p ln lr:du)(ns:!Int)(rs:!R5)(i:Nat)(x:R5)(a:du)(r:RM.Row):vs=[.ref p,.ref a,.int i]->eN K C H p ln lr ns rs->rs[i]?=ac x->dH K H a (cz r)->(¬r.ho+1<ge ns->∀H',aH H H'->Q .gw H')->(r.ho+1<ge ns->∀q H',aH H H'->dH K H' q (cz #[r.hd,r.co+x.c,r.ho+1,i])->Q (.ref q) H')->X0 K C vs H Q E
theorem Uj(T:Txt K mg w t):oG P w mg base T.KG 2 (X0 K t.bf):=by erw[T.KG.F.iV Tz λH Q E s h=>?_];·let#[p,v,A,ns,o,i,x,a,r,rfl,g,y,d,m,k]:=h;let#[#[j,f],_,_,_]:=id g;erw[_,(au (sS 3 Tz (ck kj (xT (pv 1) aF) aF)) (au (cV (qT Oy (pv 3) (bF (pv 0) rfl)) (oR pI) bR) (oR (i6 (mj (xT (pv 1) aF) (ck kj (xT (pv 1) aF) (xT (cM (pv 0) T.gk T.yo (Hl T) s (dj (pv 2))) aF)) (pv 3) (pv 2)))))),4];left;erw[1,a,9,d,2624];erw[38,p,_,j,6,f,T.gk,T.kh,2684];erw[lZ (λe=>?_) (λe=>?_)];let B:(ge ns:Int)<=r.ho+1:=g4 e;erw[m ∅ _ (aH.refl _)];let B:¬(ge ns:Int)<=r.ho+1:=of_decide_eq_false (eq_false_of_ne_true e);erw[1,a,9,d,8,a,9,d,8,p,j,1,f,8,p,v,A,ns,o,i,x,2,g,y,λq n=>?_];let b:dH K H q x.vs:=n.elim (λz=>dH.of z) id;erw[q,9,b,2681,kw,λu l=>?_];erw[k ∅ u _ (aH.new l) (dH.of ?_)];rw[ay];show ac (HO.tup [.int r.hd,.int (r.co+x.c),.int (r.ho+1),.int (i:Int)])=ac (HO.tup [.int r.hd,.int (r.co+x.c),.int (r.ho+1),jf (i:Int)]);rw[bg ∅]
inductive vy(K:ah)(C:du)(vs:!V)(H:Hp)(Q:VK)(E:XK):Prop
 |mk(p ln lr c b:du)(ns:!Int)(rs:!R5)(live:!Nat)(nd:ns.Nodup)(ok:∀r∈rs,r.Ok (ge ns))(hl:∀k∈live,k<ge rs)(R:Nat->RM.Row)(h:Nat):vs=[.ref p,.ref c,.ref b,.int h]->eN K C H p ln lr ns rs->bJ K H c (bA live)->yN K H b (ge ns) R->h<ge ns->ge rs<=20->RM.Sane (aL ns rs live nd ok hl) R->(∀q d H',aH H H'->dH K H' q (cz d)->RM.nY (N:=aL ns rs live nd ok hl) (ge ns) R h d->Q (.ref q) H')->vy K C vs H Q E
theorem y2(T:Txt K mg w t):oG P w mg base T.XR 3 (vy K t.bf):=by
 erw[T.XR.F.iV LO λH Q E hr h=>?_]
 ·let#[p,ln,lr,c,b,ns,rs,e,n,i,m,R,x,rfl,hT,hC,hR,hx,xR,VS,k]:=h;let#[#[dx,hp],_,_,_]:=id hT;let#[ps,hP,aI,ar]:=hR;let aw:(aL ns rs e n i m).nm x=ns[x]:=(by show ns.getD x 0=_;simp[ak,hx]);erw[_,(au (sS 4 LO (cG (MQ T) hr T.Et (oW (pv 0) (pv 3)))) (au (fS (cY (cM (pv 0) T.gk T.lQ (se T) hr (dj (pv 3)))) (gT 5 LO) (b6 (cV (oS pV (pv 5) (pv 1) (by with_unfolding_all rfl)) (au (sS 6 LO (cG (Uj T) hr T.KG (Lv (pv 0) (xL (pv 2) (cM (pv 0) T.gk T.m9 (uS T) hr (oW (pv 5) (pv 3)))) (pv 5)))) (b6 (cV (PW.pt (wu (qT QC (pv 6) pI) (qk (qT (YP (Nat.lt_of_succ_lt (Pp hr))) (jw QG (pv 6) oU (jP aF)) (jw QG (pv 4) oU (jP aF)))))) (b6 (sS 4 LO (pv 6))) bR))) bR))) (oR (pv 4)))),4];left;erw[38,p,ln,lr,ns,rs,x,ns[x],2,hT,aa hx,λp0 H0 s0 an=>?_];let ag:dH K H0 p0 (cz (RM.own (aL ns rs e n i m) x)):=(by delta RM.own;rw[aw];erw[an])
  erw[1,p,dx,1,s0 _ _ hp,8,p,ln,lr,ns,rs,x,2,hT.mono s0,xR,λl H1 s1 aG Y=>?_];let aj:=s0.trans s1;erw[l,2,#[_,bJ.of Y],4];generalize S:lT rs (x:Int) (ge rs)=v at Y;refine wz (K:=K) (a:=l) (xs:=bA v) (λj σ H2=>aH H1 H2/\∃(q:du)(d:RM.Row)(v5 v6:Option V),σ=[ac (.ref p),ac (.ref c),ac (.ref b),ac (.int x),ac (.ref q),v5,v6]/\dH K H2 q (cz d) /\
   (d=RM.own (aL ns rs e n i m) x\/∃f g,f∈v.take j/\RM.CC (aL ns rs e n i m) f x g/\(R g).ho+1<ge ns/\d=RM.over (aL ns rs e n i m) f (R g))/\RM.le d (RM.own (aL ns rs e n i m) x) /\
   ∀f g,f∈v.take j->RM.CC (aL ns rs e n i m) f x g->(R g).ho+1<ge ns->RM.le d (RM.over (aL ns rs e n i m) f (R g)))
   #[aH.refl _,p0,RM.own (aL ns rs e n i m) x,6,s1.cU ag,.inl rfl,RM.le_refl _,λf g he=>by simp at he] (λj σ H2 _ z=>bJ.of (z.1 _ _ Y)) ?_ ?_
  (·intro j y σ H2 hj ⟨s2,q,d,v5,v6,rfl,hq,d1,d2,W⟩;let G:j<ge v:=(by let:=(ai.mp hj).1;rw[af] at this;erw[this]);rw[ao,aa G] at hj;ext hj;let et:v.take (j+1)=v.take j++[v[j]]:=(by rw[fV,aa G];rfl);let X:v[j]∈v:=aB G;let ae:∀A∈v.take j,A<v[j]:=λA s=>aeA (S▸abC rs (x:Int) (ge rs)) G s;let I:(d=RM.own (aL ns rs e n i m) x\/∃f g,f∈v.take j++[v[j]]/\RM.CC (aL ns rs e n i m) f x g/\(R g).ho+1<ge ns/\d=RM.over (aL ns rs e n i m) f (R g)):=d1.imp id λ⟨a1,a2,a3,a4⟩=>#[a1,a2,dJ _ a3,a4];rw[et];show iU 5 (fw ((v[j]:Nat):Int)) _ _ _;generalize v[j]=f at X ae I;rw[<- S,Ea] at X;let#[Eb,ap]:=X;let B:=aj.trans s2;erw[38,c,1,.inl (B.seq hC),2,nG e,14];(try dsimp only);rw[eH aU,wG];erw[lZ (λN=>?_) (λN=>?_)];(case refine_2=>let N:f∉e:=λz=>N (fy z);erw[s2,q,d,6,hq,I,d2,λA g s k8 U=>?_];obtain z|z:=aR.mp s;erw[W A g z k8 U];rw[aP.mp z] at k8;erw[ff k8.1 N]);let N:f∈e:=g4 N;let Z:rs[f]?=ac rs[f]:=aa Eb;let k8:RM.CC (aL ns rs e n i m) f x (iu rs[f] x):=(xX N).mpr #[ap,2];let ah:iu rs[f] x<ge ns:=k8.lt.2.1;let aC:=VS _ ah;let ad:(if (x:Int)=rs[f].a then rs[f].b else rs[f].a)=((iu rs[f] x:Nat):Int):=(by let o:=i _ (aB Eb);let h1:=o.a0;let h2:=o.b0;delta iu;split <;> lia);let aq:(aL ns rs e n i m).c f=rs[f].c:=(by show ((rs[f]?).map λr=>r.c).getD 0=_;rw[Z];rfl);let fu:∀g,RM.CC (aL ns rs e n i m) f x g->g=iu rs[f] x:=λg a=>((xX N).mp a).2;generalize iu rs[f] x=g at k8 ah aC ad fu;let ab:ps[g]?=ac ps[g]:=aa ∅;let av:xW (ps.map fx) (if (x:Int)=rs[f].a then rs[f].b else rs[f].a)=ac (.ref ps[g]):=(by rw[ad];erw[cH (by rw[ao,ab];rfl)]);let ax:=B.cU (ar g _ ab);erw[138,p,dx,1,B _ _ hp,81,p,ln,lr,ns,rs,f,rs[f],x,2,hT.mono B,Z,b,9,B.seq hP,av,14];erw[p,ln,lr,ns,rs,f,rs[f],ps[g],R g,2,hT.mono B,Z,ax,λU H3 s3=>?_,λU u H3 s3 hu=>?_];erw[18,fP (fP ?_)];erw[s2.trans s3,q,d,6,s3.cU hq,I,d2,λA J s D O=>?_];obtain z|z:=aR.mp s;erw[W A J z D O];rw[aP.mp z] at D;rw[fu J D] at O;erw[ff O U];let am:(#[(R g).hd,(R g).co+rs[f].c,(R g).ho+1,f]:RM.Row)=RM.over (aL ns rs e n i m) f (R g):=(by delta RM.over;rw[aq]);rw[am] at hu;let M:=s3.cU hq;let L:=s2.trans s3;erw[18,fZ ?_];let aD:Fv [fw (RM.over (aL ns rs e n i m) f (R g)).hd,fw (RM.over (aL ns rs e n i m) f (R g)).co,fw (RM.over (aL ns rs e n i m) f (R g)).ho] [fw d.hd,fw d.co,fw d.ho] (decide (RM.lt (RM.over (aL ns rs e n i m) f (R g)) d)):=RM.aev (by obtain z|⟨A,J,s,_,_,z⟩:=d1;rw[z];intro _ _ e3;let:(R g).ho+1=0:=e3;lia;let aE:=ae A s;rw[z];intro e1 e2 e3 e4;obtain e4|⟨_,e4|⟨_,e4|⟨_,e4⟩⟩⟩:=e4;lia;lia;lia;let:((f:Nat):Int)<((A:Nat):Int):=e4;lia);let nw:∀r:RM.Row,¬(HT.n6 (ge (cz r)) 0 de=0/\HT.n6 (ge (cz r)) (ge (cz r)) (ac 3)=ge (cz r)):=λr z=>ff z.2 (by show HT.n6 4 4 (ac 3)≠4;decide);let ct:∀r:RM.Row,Ac (cz r) de (ac 3)=[fw r.hd,fw r.co,fw r.ho]:=λr=>rfl;erw[38,u,1,hu,nw _,λz1 az=>?_];rw[ct];let t1:=aH.new (o:=.tup [fw (RM.over (aL ns rs e n i m) f (R g)).hd,fw (RM.over (aL ns rs e n i m) f (R g)).co,fw (RM.over (aL ns rs e n i m) f (R g)).ho]) az;erw[38,q,1,t1.cU M,nw _,λz2 as=>?_];rw[ct];let t2:=aH.new (o:=.tup [fw d.hd,fw d.co,fw d.ho]) as;let L:=L.trans (t1.trans t2);let hu:=(t1.trans t2).cU hu;let M:=(t1.trans t2).cU M;erw[z1,z2,9,dH.of (t2 _ _ ay),dH.of ay,2,aD,14];by_cases C:RM.lt (RM.over (aL ns rs e n i m) f (R g)) d;rw[fy C];erw[fZ ?_];erw[1,L,u,36,hu,.inr #[f,g,bW _ (aP.mpr rfl),k8,U,2],RM.le_trans (RM.abv C) d2,λA J s D O=>?_];obtain z|z:=aR.mp s;erw[RM.le_trans (RM.abv C) (W A J z D O)];rw[aP.mp z] at D ⊢;rw[fu J D];erw[RM.le_refl _];rw[gh C];erw[fP #[L,q,d,6,M,I,d2,λA J s D O=>?_]];obtain z|z:=aR.mp s;erw[W A J z D O];rw[aP.mp z] at D ⊢;rw[fu J D];erw[C]);intro σ H2 ⟨s2,q,d,v5,v6,rfl,hq,d1,d2,W⟩;rw[af,cX (aA _)] at W;erw[1,k q d H2 (aj.trans s2) hq #[d1.imp id λ⟨a1,a2,_,a4⟩=>#[a1,a2,a4],d2,λf g k8 U=>W f g ?_ k8 U]];rw[<- S,Ea];erw[m f k8.1,((xX k8.1).mp k8).1]
inductive P6(K:ah)(C:du)(vs:!V)(H:Hp)(Q:VK)(E:XK):Prop
 |mk(p ln lr c b:du)(ns:!Int)(rs:!R5)(live:!Nat)(nd:ns.Nodup)(ok:∀r∈rs,r.Ok (ge ns))(hl:∀k∈live,k<ge rs)(R:Nat->RM.Row):vs=[.ref p,.ref c,.ref b]->eN K C H p ln lr ns rs->bJ K H c (bA live)->yN K H b (ge ns) R->ge ns<=12->ge rs<=20->wF (ge ns) (ge rs) R->(∀x∈ns,0<=x)->(∀(y:Bool)H',aH H H'->(y=df↔RM.Rest (aL ns rs live nd ok hl) R)->Q (.bl y) H')->P6 K C vs H Q E
theorem WE(T:Txt K mg w t):oG P w mg base T.Eu 4 (P6 K t.bf):=by erw[T.Eu.F.iV LP λH Q E U h=>?_];·let#[p,ln,lr,c,b,ns,O,f,X,M,Z,R,rfl,S,hC,Y,ab,xR,fit,B,k]:=h;let#[#[dx,hp],_,_,_]:=id S;let#[s,hP,ad,L]:=id Y;erw[_,(oR (cB (S3 rfl) T.agu boot_all (dj (dP (kO LP ["house","live","rows","town"] [de,ac 1,ac 2,ac 0]) rfl (eW rfl T.gF (dj (bF (pv 0) rfl))) (~~~(gS 0 NU)) (~~~fj) (~~~(qE (Xy K rfl U.units) (yL K (pv 2) (pv 0)) (cG (y2 T) U T.XR (mj (pv 3) (pv 1) (pv 2) (pv 0))))))))),4];left;erw[1,p,_,dx,6,hp,T.gk,T.kh,2,(ge ns:Int),255,λC e=>?_];erw[fK (n:=((ge ns:Int)).toNat) (λi v _=>∃l:!Bool,v=l.map fI/\ge l=i/\(l.all id=df↔∀j,j<i->RM.nY (N:=aL ns O f X M Z) (ge ns) R j (R j))) e wB mU #[[],22,-_] ?_ ?_];intro i v H2 u a A ⟨l,r,G,I⟩ x H3 ⟨rfl,rfl⟩;let m:i<ge ns:=∅;let o:s[i]?=ac s[i]:=aa ∅;let D:xW (s.map fx) (0+(i:Int))=ac (.ref s[i]):=(by rw[cT];erw[cH (by rw[ao,o];rfl)]);erw[38,b,9,a.seq hP,D,4];exists 3838,p,ln,lr,c,b,ns,O,f,X,M,Z,R,i,by rw[cT];rfl,S.mono a,a.seq hC,Y.mono a,m,xR,fit.VS,λq d H3 y hq g=>?_;let fd:=Xz fit m B g;erw[RM.Fw (R i),RM.Fw d,RM.wC ((a.trans y).cU (L i _ o)),RM.wC hq,RM.wD _,RM.wD _,(by rw[RM.HX];decide),4];rw[RM.Lf (fit i m).by1 fd.by1];erw[dS e u (a.trans y) (y _ _ A) (by rw[r,af,G];erw[bP ∅]) #[l++[decide (R i=d)],by rw[r,aN];rfl,by rw[az,G];rfl,4]];rw[List.all_append,dh,I];constructor;intro ⟨q1,J⟩ j W;obtain z|rfl:=Nat.lt_or_eq_of_le (Nat.le_of_lt_succ W);erw[q1 j z];let J:R j=d:=J⁻¹;erw[J▸g];intro q;erw[λj W=>q j ∅,4];let:=(q i ∅).uniq g;simpa using this;intro v H2 a A ⟨l,r,G,I⟩;erw[C,l,2,bJ.of (by rw[A,r]),k _ _ a ?_];rw[I];constructor;erw[λq i u=>q i (by let:i<ge ns:=u;lia)];erw[λq i u=>q i (by show i<ge ns;lia)]
inductive yB(K:ah)(C:du)(vs:!V)(H:Hp)(Q:VK)(E:XK):Prop
 |mk(p ln lr c b:du)(ns:!Int)(rs:!R5)(live:!Nat)(nd:ns.Nodup)(ok:∀r∈rs,r.Ok (ge ns))(hl:∀k∈live,k<ge rs)(R:Nat->RM.Row)(h:Nat):vs=[.ref p,.ref c,.ref b,.int h]->eN K C H p ln lr ns rs->bJ K H c (bA live)->yN K H b (ge ns) R->h<ge ns->ge rs<=20->wF (ge ns) (ge rs) R->(∀v H',aH H H'->yO K H' v (wI (aL ns rs live nd ok hl) R h)->Q v H')->yB K C vs H Q E
theorem acP(T:Txt K mg w t):oG P w mg base T.RL 3 (yB K t.bf):=by erw[T.RL.F.iV LQ λH Q E I h=>?_];·let#[p,ln,lr,c,b,ns,rs,live,nd,ok,s,R,i,rfl,N,hC,ad,ab,xR,af,k]:=h;let#[#[dx,hp],_,_,_]:=id N;let#[q,M,ak,A]:=id ad;let B:q[i]?=ac q[i]:=aa ∅;let x:xW (q.map fx) (i:Int)=ac (.ref q[i]):=cH (by rw[ao,B];rfl);let Z:=A i _ B;let fi:=af i ab;erw[_,(au (sS 4 LQ (xT (xL (pv 2) (pv 3)) aF)) (au (cV (PW.pt (Pa (oS ve (pv 4) (pv 1) (by with_unfolding_all rfl)) (HJ (oS ve (pv 4) (cM (pv 0) T.gk T.lQ (se T) I (dj (pv 3))) (by with_unfolding_all rfl))))) (oR pI) bR) (au (sS 5 LQ (cM (pv 0) T.gk T.m9 (uS T) I (oW (pv 4) (pv 3)))) (au (cV (qT K8 (cG (Uj T) I T.KG (Lv (pv 0) (xL (pv 2) (pv 5)) (pv 4))) (xL (pv 2) (pv 3))) (oR pI) bR) (oR (i6 (oW (pv 4) (pv 5)))))))),4];left;erw[38,dI M x (gf Z rfl ?_)];let f:∀{H3:Hp},aH H H3->(∀k g,¬RM.lJ (aL ns rs live nd ok s) R k i g)->Q .gw H3:=λs3 no=>k .gw _ s3 (by rw[Td no];rfl);show iU 4 (jf (R i).by_) _ _ _;obtain ae|⟨b0,b1⟩:=fi.by_;(·rw[show jf (R i).by_=V.gw by rw[ae];rfl];erw[38,c,1,.inl hC,2,nG live,14];(try dsimp only);rw[eG rfl,aeB];erw[fZ (fZ (f (aH.refl _) λn g t=>?_))];(let:=t.by);lia);obtain⟨d,ai⟩:∃d:Nat,(R i).by_=(d:Int):=#[(R i).by_.toNat,5];let D:d<ge rs:=∅;rw[show jf (R i).by_=fw (d:Nat) by rw[ai,bg ∅]];let o:∀n g,RM.lJ (aL ns rs live nd ok s) R n i g->n=d:=λn g t=>(by let:=t.by;lia);erw[38,c,1,.inl hC,2,nG live,14];(try dsimp only);rw[eG rfl,wG];by_cases L:d∈live;(case neg=>rw[gh L];erw[fZ (fZ (f (aH.refl _) λn g t=>?_))];let:=o n g t;subst this;erw[L t.k8.1]);rw[fy L];erw[fP ?_];erw[38,p,dx,1,hp,8,p,ln,lr,ns,rs,i,2,N,xR,λl H1 v aj ah=>?_];erw[l,1,.inl (bJ.of ah),2,nG _,14];(try dsimp only);rw[eG rfl,wG];by_cases m:d∈lT rs (i:Int) (ge rs);(case neg=>rw[gh m];erw[fZ (f v λn g t=>?_)];let:=o n g t;subst this;erw[m (Ea.mpr #[D,((xX L).mp t.k8).1])]);rw[fy m];erw[fP ?_];let m:=(Ea.mp m).2;let J:rs[d]?=ac rs[d]:=aa D;let z:=XA (h:=i) D ok;let ag:iu rs[d] i<ge ns:=VZ D ok;let G:=abG (ns:=ns) (rs:=rs) (live:=live) (nd:=nd) (ok:=ok) (hl:=s) (R:=R) (h:=i) L;let S:=NA (ns:=ns) (live:=live) (nd:=nd) (ok:=ok) (hl:=s) D;let r:∀g,RM.lJ (aL ns rs live nd ok s) R d i g->g=iu rs[d] i:=λg t=>ah2 t;erw[1,p,dx,1,v _ _ hp,81,p,ln,lr,ns,rs,d,rs[d],i,2,N.mono v,J,4];show iU 5 (fw (if (i:Int)=rs[d].a then rs[d].b else rs[d].a)) _ _ _;rw[z];generalize iu rs[d] i=g at z ag G r;let y:q[g]?=ac q[g]:=aa ∅;let Y:xW (q.map fx) (g:Int)=ac (.ref q[g]):=cH (by rw[ao,y];rfl);erw[138,dI (v.seq M) Y #[1,p,ln,lr,ns,rs,d,rs[d],q[g],R g,2,N.mono v,J,v.cU (A g _ y),λMR H2 W=>?_,λMR u H2 W hu=>?_]];let j:=v.trans W;erw[38,dI (j.seq M) x #[.none,RM.Fw (R i),2,RM.wC (j.cU Z),2,RM.wD _,bM (b5 (aJ (dX _ _) (!_)) _) I.units,14]];erw[fZ (f j λn C t=>?_)];let U:=o n C t;subst U;let e2:=r C t;subst e2;erw[MR t.cut];·let j:=v.trans W;let O:(#[(R g).hd,(R g).co+rs[d].c,(R g).ho+1,d]:RM.Row)=RM.over (aL ns rs live nd ok s) d (R g):=(by delta RM.over;rw[S]);rw[O] at hu;erw[38,dI (j.seq M) x #[RM.Fw (RM.over (aL ns rs live nd ok s) d (R g)),RM.Fw (R i),RM.wC hu,RM.wC (j.cU Z),RM.wD _,RM.wD _,bM (b5 (aJ (dX _ _) (by rw[RM.HX];decide)) _) I.units,14]];rw[RM.Lf (show (-1:Int)<=(d:Nat) by lia) fi.by1];by_cases e:RM.over (aL ns rs live nd ok s) d (R g)=R i;(case neg=>rw[gh e];erw[fZ (f j λn C t=>?_)];let U:=o n C t;subst U;let e2:=r C t;subst e2;erw[e t.eq.symm]);rw[fy e];erw[fP ?_];let hh:RM.lJ (aL ns rs live nd ok s) R d i g:=(by let#[g2,t]:=G.mpr #[m,MR,e.symm];let:=r g2 t;subst this;erw[t]);erw[38,g5,λo2 X=>?_];erw[k (.ref o2) _ (j.trans (aH.new X)) (by rw[pZ.mpr hh];erw[o2,2,dH.of ay])]
inductive vx(K:ah)(C:du)(vs:!V)(H:Hp)(Q:VK)(E:XK):Prop
 |mk(p ln lr c b:du)(ns:!Int)(rs:!R5)(live:!Nat)(nd:ns.Nodup)(ok:∀r∈rs,r.Ok (ge ns))(hl:∀k∈live,k<ge rs)(R:Nat->RM.Row):vs=[.ref p,.ref c,.ref b]->eN K C H p ln lr ns rs->bJ K H c (bA live)->yN K H b (ge ns) R->ge ns<=12->ge rs<=20->wF (ge ns) (ge rs) R->(∀l H',aH H H'->H l=de->ah1 K H' l (ge ns) (wI (aL ns rs live nd ok hl) R)->Q (.ref l) H')->vx K C vs H Q E
theorem Tk(T:Txt K mg w t):oG P w mg base T.acs 4 (vx K t.bf):=by erw[T.acs.F.iV x3 λH Q E M h=>?_];·let#[p,V,X,c,b,ns,C,d,D,A,G,R,rfl,B,S,u,J,Y,y,k]:=h;let#[#[N,I],_,_,_]:=id B;erw[_,(oR (dP (kO x3 ["house","live","rows","town"] [de,ac 1,ac 2,ac 0]) rfl (eW rfl T.gF (dj (bF (pv 0) rfl))) (~~~(gS 0 ZS)) (~~~fj) (~~~(cG (acP T) M T.RL (mj (pv 3) (pv 1) (pv 2) (pv 0)))))),4];left;erw[1,p,_,N,6,I,T.gk,T.kh,2,(ge ns:Int),255,λs a=>?_];erw[fK (n:=((ge ns:Int)).toNat) (λi l r=>ge l=i/\∀(j:Nat)v,l[j]?=ac v->yO K r v (wI (aL ns C d D A G) R j)) a wB mU #[2,λj v e=>by simp at e] ?_ ?_];intro i l r W g o ⟨m,f⟩ x Z ⟨rfl,rfl⟩;exists 3838,p,V,X,c,b,ns,C,d,D,A,G,R,i,by rw[cT];rfl,B.mono g,g.seq S,u.mono g,5,Y,y,λv H4 q O=>?_;erw[dS a W (g.trans q) (q _ _ o) (by rw[m];erw[bP ∅]) #[by rw[az,m];rfl,λj w e=>?_]];erw[yO.lst (q _ _ o) ?_];obtain z|⟨L,U⟩:=AS e;erw[(f j w z).mono q];rw[L,U,m];erw[O];intro l r g o ⟨m,f⟩;erw[k s r g a #[l,o,5,f]]
inductive Yb(K:ah)(C:du)(vs:!V)(H:Hp)(Q:VK)(E:XK):Prop
 |mk(p ln lr c b:du)(ns:!Int)(rs:!R5)(live:!Nat)(nd:ns.Nodup)(ok:∀r∈rs,r.Ok (ge ns))(hl:∀k∈live,k<ge rs)(R:Nat->RM.Row):vs=[.ref p,.ref c,.ref b]->eN K C H p ln lr ns rs->bJ K H c (bA live)->yN K H b (ge ns) R->ge ns<=12->ge rs<=20->wF (ge ns) (ge rs) R->(∀l os H',aH H H'->H l=de->H' l=ac (.lst (bA os))->fm (aL ns rs live nd ok hl) R os->ge os<=12->Q (.ref l) H')->Yb K C vs H Q E
theorem Uk(T:Txt K mg w t):oG P w mg base T.Ew 5 (Yb K t.bf):=by erw[T.Ew.F.iV TF λH Q E hr h=>?_];·let#[p,ln,lr,c,b,ns,L,a,O,I,J,R,rfl,hT,hC,M,V,xR,S,k]:=h;erw[_,(oR (cB CY T.MB boot_sorted (dj (dP (kO TF ["up"] [de]) rfl (cY (cG (Tk T) hr T.acs (Lv (pv 0) (pv 1) (pv 2)))) (~~~(gS 0 TH)) (~~~(kB (qT QC (pv 0) pI))) (~~~(yT K (pv 0) aF)))))),4];left;erw[138,p,ln,lr,c,b,ns,L,a,O,I,J,R,2,hT,hC,M,V,xR,S,λlu H2 s2 ad hO=>?_];let#[Y,d,ab,X]:=hO;erw[lu,2,#[_,bJ.of d],λW j=>?_];erw[fK (n:=ge Y) (λi U _=>∃f:!Nat,U=bA f/\ge f<=i/\f.Nodup/\∀k,k∈f↔∃h g,h<i/\RM.lJ (aL ns L a O I J) R k h g) j (jC (bJ.of d)) (fQ (bJ.of d)) #[[],2,bL _,lY,λk=>#[λz=>ff z (-_),λ⟨_,_,z,_⟩=>ff z (qc _)]] ?_ ?_];(intro i U H3 D r C ⟨f,rfl,Z,G,u⟩ y H4 ⟨rfl,hv⟩;let x:=hv _ (r.seq (bJ.of d));rw[aa D] at x;ext x;let o:=(X i _ (aa D)).mono r;generalize Y[i]=v at o;cases s:wI (aL ns L a O I J) R i with|none=>rw[s] at o;let o:v=.gw:=o;subst o;erw[18,fP ?_];erw[gU D r C #[f,25,G,λk=>(u k).trans #[λ⟨h,g,z,t⟩=>#[h,g,5,t],λ⟨h,g,z,t⟩=>#[h,g,4,t]]]];by_cases e:h=i;subst e;rw[pZ.mpr t] at s;ext s;lia|some q=>rw[s] at o;let#[t1,rfl,ht]:=o;let m:=(pZ (k:=q.1) (g:=q.2)).mp s;erw[18,fZ ?_];erw[1,t1,_,(0),12,ht,24];erw[dS j D r C (by rw[af];erw[bP ∅]) #[f++[q.1],by rw[gy],by rw[az];exact rG Z 1,Gr.K9 G λz=>?_,λk=>?_]];let#[h,g,z1,t]:=(u _).mp z;let:=(t.one m).1;lia;rw[aR,aP,u];constructor;rintro (⟨h,g,z,t⟩|rfl);erw[h,g,5,t];erw[i,q.2,5,m];intro ⟨h,g,z,t⟩;by_cases e:h=i;subst e;erw[.inr (t.uniq m).1];erw[.inl #[h,g,5,t]]);intro U H3 r C ⟨f,rfl,Z,G,u⟩;exists W,f.map λk:Nat=>(k:Int),2,bJ.of (by rw[C,gz]),by rw[af];lia,λl ms hl A pw=>?_;let#[os,N,o1,o2,o3]:=Te A pw G;rw[N];let B:=s2.trans r;erw[k l os _ (B.trans (aH.new hl)) (B.free hl) ay #[o1,λk=>?_] ∅];rw[o2,u];constructor;intro ⟨h,g,_,t⟩;erw[h,g,t];intro ⟨h,g,t⟩;let:h<ge ns:=(lJ.lt t).1;erw[h,g,5,t]
theorem P7{xs:!Nat}{i:Nat}(a:i<ge xs):(xs.take (i+1)).filter p=(xs.take i).filter p++if p xs[i] then [xs[i]] else []:=by rw[iF a,dZ];congr 1;cases e:p xs[i];rw[eH (!_),dg (by rw[e];decide)];rfl;rw[eG rfl,dc e];rfl
inductive Ul(K:ah)(C:du)(vs:!V)(H:Hp)(Q:VK)(E:XK):Prop
 |mk(p ln lr c b:du)(ns:!Int)(rs:!R5)(live:!Nat)(nd:ns.Nodup)(ok:∀r∈rs,r.Ok (ge ns))(hl:∀k∈live,k<ge rs)(R:Nat->RM.Row)(h:Int):vs=[.ref p,.ref c,.ref b,.int h]->eN K C H p ln lr ns rs->bJ K H c (bA live)->yN K H b (ge ns) R->ge ns<=12->ge rs<=20->wF (ge ns) (ge rs) R->(∀l os H',aH H H'->H l=de->H' l=ac (.lst (bA (os.filter (gN rs h))))->fm (aL ns rs live nd ok hl) R os->ge os<=12->Q (.ref l) H')->Ul K C vs H Q E
theorem WG(T:Txt K mg w t):oG P w mg base T.IL 6 (Ul K t.bf):=by erw[T.IL.F.iV FL λH Q E S h=>?_];·let#[p,V,W,c,b,U,rs,o,nd,ok,X,R,x,rfl,D,hC,I,A,Y,O,k]:=h;erw[_,(au (sS 4 FL (cM (pv 0) T.gk T.lQ (se T) S (dj (pv 3)))) (oR (dP (kO FL ["rope","joined"] [de,ac 4]) rfl (cY (D5 (Uk T) (S.mono (!_)) rfl T.DE T.Ew.F.kp T.Ew.B .nil nX (Lv (pv 0) (pv 1) (pv 2)))) (~~~(gS 0 NV)) (~~~(kB (oS (Ft K rfl) (pv 0) (pv 1) (by with_unfolding_all rfl)))) (~~~(pv 0))))),4];left;let#[#[dx,Z],_]:=id D;erw[1,p,dx,1,Z,8,p,V,W,U,rs,x,2,D,Y,λlj H1 m ad L=>?_];erw[138,p,V,W,c,b,U,rs,o,nd,ok,X,R,2,D.mono m,m.seq hC,I.mono m,A,Y,O,λlo os H2 C ab e j J=>?_];let s:=C _ _ L;let v:∀k∈os,decide (k∈lT rs x (ge rs))=gN rs x k:=λk hk=>(by let#[h,g,t]:=(j.2 k).mp hk;let N:k<ge rs:=X k t.k8.1;by_cases z:gN rs x k=df;rw[z];erw[fy (Ea.mpr #[N,z])];rw[Bool.not_eq_true] at z;rw[z];erw[gh λy=>?_];rw[(Ea.mp y).2] at z;ext z);erw[lo,2,#[_,bJ.of e],λG a=>?_];erw[fK (n:=ge (bA os)) (λi u _=>u=bA ((os.take i).filter (gN rs x))) a (jC (bJ.of e)) (fQ (bJ.of e)) rfl ?_ ?_];(·rintro i u H3 r f l rfl y H4 ⟨rfl,q⟩;let q:=q _ (f.seq (bJ.of e));let d:i<ge os:=(by rw[af] at r;erw[r]);rw[ao,aa d] at q;ext q;erw[38,lj,1,.inl (bJ.of (f _ _ s)),2,nG _,14];(try dsimp only);rw[eH aU,wG,v _ (aB d)];erw[lZ (λM=>?_) (λM=>?_)];exists 14;erw[dS a r f l ?_ ?_];rw[af];erw[bP (aJ (bx _ _) ?_)];rw[bU];lia;rw[P7 d,eG M,gy];erw[gU r f l ?_];rw[P7 d,eH M,cu]);rintro u H3 f l rfl;rw[af,gH] at l;let Yc:=(m.trans C).trans f;erw[k G os _ Yc ((m.trans C).free a) l j J]
inductive yA(K:ah)(C:du)(vs:!V)(H:Hp)(Q:VK)(E:XK):Prop
 |mk(p ln lr:du)(ns:!Int)(rs:!R5)(i:Nat)(r:R5)(g:Nat)(z:Int):vs=[.ref p,.int i,.int g]->eN K C H p ln lr ns rs->rs[i]?=ac r->([1,2,4]:!Int)[g]?=ac z->Q (.bl ((decide (Builtin.bitAnd r.e z=0)).not)) H->yA K C vs H Q E
theorem Ho(T:Txt K mg w t):oM P w mg base T.yp 1 (yA K t.bf):=by erw[T.yp.F.iV Rc λH Q E B h=>?_];·let#[p,C,x,ns,A,i,r,g,z,rfl,m,u,n,k]:=h;let#[#[o,c],y,G,b,a]:=id m;let#[v,s,j]:=a.get (i:=i) (d:=r.D) (by rw[ao,u];rfl);let#[q,e,f]:=Rep.CU (ns:=r.ns) j;subst e;erw[_,(oR (qE oq (ck Ch (xT (xL (bF (pv 0) rfl) (pv 1)) aF) (xT (je rfl T.nP (v:=.ref t.fU) rfl) (pv 2))) aF)),4];left;erw[1,p,_,o,6,c,T.gk,T.jc,8,x,9,bJ.of b,cH s,4];erw[q,9,f,24];let l:([.int 1,.int 2,.int 4]:!V)[g]?=ac (.int z):=(by let e:([.int 1,.int 2,.int 4]:!V)=([1,2,4]:!Int).map fw:=rfl;rw[e,ao,n];rfl);erw[139,T.ie H,cH l,6224];let e:decide (fw (Builtin.bitAnd r.e z)=fw 0)=decide (Builtin.bitAnd r.e z=0):=-_;rw[e];erw[k]
inductive P8(K:ah)(C:du)(vs:!V)(H:Hp)(Q:VK)(E:XK):Prop
 |mk(p ln lr:du)(ns:!Int)(rs:!R5)(i:Nat)(r:R5):vs=[.ref p,.int i]->eN K C H p ln lr ns rs->rs[i]?=ac r->Q (.int r.d) H->P8 K C vs H Q E
theorem JS(T:Txt K mg w t):oG P w mg base T.Bx 2 (P8 K t.bf):=by erw[T.Bx.F.iV TM λH Q E e h=>?_];·let#[p,j,m,g,d,i,r,rfl,b,l,k]:=h;let#[#[f,c],_]:=id b;erw[_,(oR (xT (cM (pv 0) T.gk T.yo (Hl T) e (dj (pv 1))) aF)),4];left;erw[1,p,f,1,c,8,p,j,m,g,d,i,r,2,b,l,λq a=>?_];let a:dH K H q r.vs:=a.elim dH.of id;erw[q,9,a,2,k]
inductive MT(K:ah)(CT C NW:du)(vs:!V)(H:Hp)(Q:VK)(E:XK):Prop
 |mk(p tp lu ln lr:du)(ns:!Int)(rs:!R5)(ws:!(!Nat))(i:Int):vs=[.ref p,.int i]->eN K CT H tp ln lr ns rs->xZ C H p tp lu ws->ge ws=ge rs->(∀(j:Nat)w l H',i=(j:Int)->ws[j]?=ac w->aH H H'->H l=de->H' l=ac (.lst (bA w))->Q (.ref l) H')->(¬(0<=i/\i<ge rs)->E (.ref NW) de H)->MT K CT C NW vs H Q E
theorem om(T:Txt K mg w t):ou P w K mg base (HD P w) 1 t.i9 t.xh ["self","rope"] (MT K t.bf t.dR t.Aq):=by erw[T.fW.F.ZL ET λH Q E y h=>?_];·let#[p,A,C,J,L,I,rs,m,i,rfl,x,G,M,k,o]:=h;let#[#[s,q],b,D,u,d]:=id G;let#[#[v,f],_]:=id x;erw[_,(au (cV (ki (lH rE xV aF (pv 1) (bF (bF (pv 0) rfl) rfl))) (b6 (GB rfl T.Mv T.Mw y.hd bH)) bR) (oR (cJ kq (by rfl) T.BN boot_list (dj (xL (bF (pv 0) rfl) (pv 1)))))),4];left;exists 1684;by_cases e:0<=i;(case neg=>rw[gh e];erw[fP #[1,fZ (o λz=>e z.1)]]);rw[fy e];erw[fZ ?_];erw[1,p,_,s,6,q,T.fM,T.nv,2,A,_,v,6,f,T.gk,T.yr,2684];by_cases g:i<(ge rs:Int);(case neg=>rw[gh g];erw[fZ (o λz=>g z.2)]);rw[fy g];erw[fP ?_];obtain⟨j,rfl⟩:∃j:Nat,i=(j:Int):=#[i.toNat,5];let B:j<ge m:=∅;let c:m[j]?=ac m[j]:=aa B;let a:b[j]?=ac b[j]:=aa ∅;let n:xW (b.map fx) (j:Int)=ac (.ref b[j]):=cH (by rw[ao,a];rfl);erw[1,p,_,s,6,q,T.fM,T.iC,8,C,9,bJ.of D,n,b[j],1,.inl (bJ.of (d j _ _ a c)),λl r=>?_];erw[k j _ l _ rfl c (aH.new r) r ay]
inductive Yd(K:ah)(CT C NW:du)(vs:!V)(H:Hp)(Q:VK)(E:XK):Prop
 |mk(p tp lu ln lr:du)(ns:!Int)(rs:!R5)(ws:!(!Nat))(i x:Int):vs=[.ref p,.int i,.int x]->eN K CT H tp ln lr ns rs->xZ C H p tp lu ws->ge ws=ge rs->(∀w∈ws,ge w<=4)->(∀(j k:Nat)w(ls:!du)(q:du)H',i=(j:Int)->x=(k:Int)->ws[j]?=ac w->k∈w->H lu=ac (.lst (ls.map fx))->H q=de->H' q=ac (.lst (bA (w.filter λz=>decide (z≠k))))->H' lu=ac (.lst ((ls.map fx).set j (.ref q)))->(∀b o,H b=ac o->b≠lu->H' b=ac o)->Q (.bl (w.filter λz=>decide (z≠k)).isEmpty) H')->(¬(0<=i/\i<ge rs)->E (.ref NW) de H)->(∀(j:Nat)w H',i=(j:Int)->ws[j]?=ac w->(∀k∈w,x≠(k:Nat))->aH H H'->E (.ref NW) de H')->Yd K CT C NW vs H Q E
theorem Ko(T:Txt K mg w t):ou P w K mg base (HD P w) 2 t.m6 t.Dm ["self","rope","wire"] (Yd K t.bf t.dR t.Aq):=by erw[T.xq.F.ZL uG λH Q E hr h=>?_];·let#[p,tp,G,ln,lr,ns,rs,ws,i,x,rfl,hT,hW,ew,h4,k,kx,ky]:=h;let#[#[dx,hp],X,Vp,ap,an]:=id hW;erw[_,(au (sS 3 uG (sr (pv 0) T.fM T.fW.m (om T) (hr.mono (!_)) T.fW.B .nil Xq (dj (pv 1)))) (au (cV (oS ve (pv 2) (pv 3) (by with_unfolding_all rfl)) (b6 (GB rfl T.Mv T.Mw hr.hd bH)) bR) (au (HL (dP (kO uG ["each","wire"] [de,ac 2]) rfl (cY (pv 3)) (~~~(gS 0 FN)) (~~~(kB (qT oq (pv 0) (pv 1)))) (~~~(pv 0))) (HK (bF (pv 0) rfl) (pv 1) hY)) (oR (qE yM (xL (bF (pv 0) rfl) (pv 1)) (eB gx)))))),4];left;erw[1,p,dx,1,hp,8,p,tp,G,ln,lr,ns,rs,ws,i,2,hT,hW,ew,λj c l H1 ej O Z am hl=>?_,kx];subst ej;let ab:=(ai.mp O).1;let w4:=h4 _ (aD O);erw[38,l,1,.inl (bJ.of hl),2,nG c,14];(try dsimp only);rw[eG rfl,gz,Af];by_cases W:x∈c.map λk:Nat=>(k:Int);(case neg=>rw[gh W];erw[fZ (ky j c H1 rfl O (λz D e=>W (aG.mpr #[z,D,e.symm])) Z)]);rw[fy W];erw[fP ?_];let#[s,aj,rfl]:=aG.mp W;erw[1,l,2,#[_,bJ.of hl],λd f=>?_];let hC:=bJ.of (K:=K) hl;erw[fK (n:=ge (bA c)) (λi ys _=>ys=bA ((c.take i).filter λz=>decide (z≠s))) f (jC hC) (fQ hC) rfl ?_ ?_];rintro i ys H2 N L u rfl y S ⟨rfl,R⟩;let R:=R _ (L.seq hC);let ae:i<ge c:=(by rw[af] at N;erw[N]);let J:c[i]?=ac c[i]:=aa ae;rw[ao,J] at R;ext R;exists 3884;let et:c.take (i+1)=c.take i++[c[i]]:=(by rw[fV,J];rfl);by_cases D:c[i]=s;let e1:decide (fw (c[i]:Nat)=fw (s:Nat))=df:=fy (by rw[D]);rw[e1];erw[fP (gU N L u ?_)];rw[et,dZ,D];simp;let e1:decide (fw (c[i]:Nat)=fw (s:Nat))=dr:=gh λq=>D (by let:=V.int.inj q;lia);rw[e1];erw[fZ #[1,dS f N L u ?_ ?_]];rw[af];let:=bx (λz=>decide (z≠s)) (c.take i);rw[bU] at this;erw[bP ∅];rw[et,dZ,<- gy];simp[D];rintro ys H2 L u rfl;rw[af,gH] at u;let g:=Z.trans L;let A:=g _ _ Vp;let ag:=g _ _ hp;let C:j<ge X:=∅;erw[1,p,_,dx,6,ag,T.fM,T.iC,8,G,33,j,22,A,(by rw[af];erw[AU C]),4];let ah:=hW.mono g;generalize I:upd H2 G (.lst ((X.map fx).set j (.ref d)))=S;let k3:∀b o,H2 b=ac o->b≠G->S b=ac o:=λb o e Y=>(by rw[<- I,aY Y];erw[e]);let v:S G=ac (.lst ((X.map fx).set j (.ref d))):=(by rw[<- I];erw[ay]);let ad:=ah.put A u ab k3 v;let M:S d=ac (.lst (bA (c.filter λz=>decide (z≠s)))):=k3 _ _ u (rD u A λz=>Ah (aa C) (HO.lst.inj z));let#[#[al,ak],_]:=id ad;erw[1,p,_,al,6,ak,T.fM,T.iC,8,G,33,fx d,22,bJ.of v,cH (by rw[cP,eG rfl,eG (by rw[af];erw[C])]),bL _,λq hq=>?_];let U:=aH.new (o:=.lst []) hq;erw[.list (((c.filter λz=>decide (z≠s)).map λk:Nat=>(k:Int)).map .int),.list [],#[d,1,bJ.of (U _ _ M),(by rw[gz];erw[pW _])],#[q,1,bJ.of ay,2],iJ _,2,bM (b5 (aJ (Nat.min_le_right _ _) (!_)) _) hr.units,4];let z:=k j s c X d _ rfl rfl O aj Vp (Z.free f) (U _ _ M) (U _ _ v) (λb o e Y=>U _ _ (k3 _ _ (g _ _ e) Y));cases e:c.filter λz=>decide (z≠s) with|nil=>rw[e] at z;erw[z]|cons a r=>rw[e] at z;erw[z]
inductive Ye(NG:du)(vs:!V)(H:Hp)(Q:VK)(E:XK):Prop
 |mk(g:Int):vs=[.int g]->(0<=g/\g<3->Q .gw H)->(¬(0<=g/\g<3)->E (.ref NG) de H)->Ye NG vs H Q E
theorem DS(T:Txt K mg w t):ou P w K mg base (HD P w) 1 t.oH t.E9 ["group"] (Ye t.Er):=by erw[T.jK.F.ZL LV λH Q E d h=>?_];·let#[g,rfl,k,c]:=h;erw[_,(b6 (cV (ki (lH rE xV aF (pv 0) (lS T.gE (je rfl T.nP (v:=.ref t.fU) rfl)))) (b6 (GB rfl T.Z8 T.Z9 d.hd bH)) bR)),4];left;exists 1684;by_cases b:0<=g;(case neg=>rw[gh b];erw[fP #[1,fZ (c λz=>b z.1)]]);rw[fy b];erw[fZ ?_];erw[6,.inr (T.ie H),684];by_cases a:g<3;(case neg=>let e:decide (g<((ge ([.int 1,.int 2,.int 4]:!V):Nat):Int))=dr:=gh a;rw[e];erw[fZ (c λz=>a z.2)]);let e:decide (g<((ge ([.int 1,.int 2,.int 4]:!V):Nat):Int))=df:=fy a;rw[e];erw[fP (k #[b,a])]
inductive yn(K:ah)(CT C NG:du)(vs:!V)(H:Hp)(Q:VK)(E:XK):Prop
 |mk(p tp lu ln lr:du)(ns:!Int)(rs:!R5)(ws:!(!Nat))(g:Int):vs=[.ref p,.int g]->eN K CT H tp ln lr ns rs->xZ C H p tp lu ws->ge ws=ge rs->ge rs<=20->(∀r∈rs,1<=r.e/\r.e<=7)->(∀(gg:Nat)l H',g=(gg:Int)->gg<3->aH H H'->H l=de->H' l=ac (.lst (bA (pL rs ws gg (ge rs))))->Q (.ref l) H')->(¬(0<=g/\g<3)->E (.ref NG) de H)->yn K CT C NG vs H Q E
theorem Kp(T:Txt K mg w t):ou P w K mg base (HD P w) 2 t.m7 t.Dn ["self","group"] (yn K t.bf t.dR t.Er):=by erw[T.xr.F.ZL Ct λH Q E R h=>?_];·let#[p,s,lu,ln,lr,ns,rs,d,g,rfl,N,hW,ew,xR,Z,k,X]:=h;let#[#[I,C],J,Vp,W,y]:=id hW;let#[#[M,o],_]:=id N;erw[_,(au (fC (D5 (DS T) (R.mono (!_)) rfl T.jK.g T.jK.F.kp T.jK.B .nil Xq (dj (pv 1)))) (oR (dP (kO Ct ["rope","group","self"] [de,ac 1,ac 0]) rfl (eW rfl T.gF (dj (bF (bF (pv 0) rfl) rfl))) (~~~(gS 0 FO)) (~~~(kB (PW.pt (wu (Zx K rfl (yL K (Kw K rfl (pv 2) rfl) (pv 0)) (λ_=>rfl)) (qk (mT (cM (Kw K rfl (pv 2) rfl) T.gk T.yp (Ho T) R (oW (pv 0) (pv 1))))))))) (~~~(pv 0))))),4];left;erw[1,g,2,λhg=>?_,X];obtain⟨a,rfl⟩:∃a:Nat,g=(a:Int):=#[g.toNat,5];let l:a<3:=∅;let#[z,S]:=tm l;erw[1,p,_,I,6,C,T.fM,T.nv,2,s,_,M,6,o,T.gk,T.yr,8,(by show -(2^62)<=((ge rs:Nat):Int);lia),(by show ((ge rs:Nat):Int)<2^62;lia),λG c=>?_];erw[fK (n:=(((ge rs:Nat):Int)).toNat) (λi A _=>A=bA (pL rs d a i)) c wB mU rfl ?_ ?_];(rintro i A U u b m rfl x H3 ⟨rfl,rfl⟩;let v:i<ge rs:=u⁻¹;let D:rs[i]?=ac rs[i]:=aa v;let q:d[i]?=ac d[i]:=aa ∅;let j:J[i]?=ac J[i]:=aa ∅;let Y:ge (bA (pL rs d a i))<eD:=(by rw[af];erw[bP (by let:=Fx rs d a i;lia)]);let L:hQ rs d a i=(((d[i]).isEmpty.not)&&x6 (rs[i]).e a):=(by delta hQ;rw[D,q]);erw[1,p,_,I,6,b _ _ C,T.fM,T.iC,8,lu,33,fx J[i],22,bJ.of (b _ _ Vp),(by rw[cT];erw[cH (by rw[ao,j];rfl)]),4];erw[(bA d[i]).isEmpty.not,44];erw[.inl #[_,bJ.of (b _ _ (y i _ _ j q)),2]];cases f:d[i] with|nil=>erw[fP (gU u b m ?_)];rw[p5,L,f];simp|cons y0 r0=>(erw[fZ ?_];erw[1,p,_,I,6,b _ _ C,T.fM,T.nv,2,s,M,1,b _ _ o,81,s,ln,lr,ns,rs,i,rs[i],a,z,(by show [fx s,fw (0+(i:Int)),fw (a:Nat)]=_;rw[cT]),N.mono b,D,S,14];let r:=Z _ (aD D);rw[Tn r.1 r.2 S];cases O:x6 rs[i].e a with|true=>erw[fZ #[1,dS c u b m Y ?_]];rw[p5,L,f,O,cT];erw[(gy _ _).symm]|false=>erw[fP (gU u b m ?_)];rw[p5,L,f,O];simp));rintro A U b m rfl;erw[k a G U rfl l b c (by rw[m,cQ])]
inductive Yh(K:ah)(vs:!V)(H:Hp)(Q:VK)(E:XK):Prop
 |mk (p C dx:du) (s:Int):vs=[.ref p,.int s]->H p=ac (.ins C dx [])->ND K C->fh K C "sender" -> Q .gw (upd H p (.ins C dx [("sender",.int s)]))->Yh K vs H Q E
theorem Ar(T:Txt K mg w t):oI P w mg base T.pe 1 (Yh K):=by erw[T.pe.F.iV Ir λH Q E e h=>?_];·let#[p,C,b,f,rfl,d,c,a,k]:=h;erw[_,(b6 (gR (pv 0) (pv 1) rfl)),4];left;erw[38,p,C,b,[],2,d,c,a,!_,k]
inductive Um(vs:!V)(H:Hp)(Q:VK)(E:XK):Prop
 |mk(p:du)(c:Int):vs=[.ref p,.int c]->Q (.bl dr) H->Um vs H Q E
theorem Kq(T:Txt K mg w t):oM P w mg base T.xm 1 Um:=by erw[T.xm.F.iV J1 λH Q E a h=>?_];let#[p,c,rfl,k]:=h;erw[_,oB,k]
inductive Uo(vs:!V)(H:Hp)(Q:VK)(E:XK):Prop
 |mk(p:du):vs=[.ref p]->Q .gw H->Uo vs H Q E
theorem Cw(T:Txt K mg w t):oM P w mg base T.m8 1 Uo:=by erw[T.m8.F.iV J2 λH Q E a h=>?_];let#[p,rfl,k]:=h;erw[_,(oR pI),k]
inductive EL(K:ah)(vs:!V)(H:Hp)(Q:VK)(E:XK):Prop
 |mk (p C dx:du) (s:Int):vs=[.ref p]->H p=ac (.ins C dx [("sender",.int s)])->ND K C->fh K C "sender" -> Q (.int s) H->EL K vs H Q E
theorem As(T:Txt K mg w t):oM P w mg base T.lP 1 (EL K):=by erw[T.lP.F.iV Iu λH Q E e h=>?_];let#[p,C,b,f,rfl,d,c,a,k]:=h;erw[_,(oR (bF (pv 0) rfl)),1,p,C,b,6,d,c,a,2,k]
inductive P9(C:du)(vs:!V)(H:Hp)(Q:VK)(E:XK):Prop
 |mk (p dx:du) (s to:Int):vs=[.ref p,.int s,.int to]->H p=ac (.ins C dx [])->(∀H',H' p=ac (.ins C dx [("sender",.int s),("to",.int to)])->(∀b o,H b=ac o->b≠p->H' b=ac o)->Q .gw H')->P9 C vs H Q E
theorem Kr(T:Txt K mg w t):oI P w mg base T.xo 2 (P9 t.iA):=by erw[T.xo.F.iV J3 λH Q E f h=>?_];·let#[p,c,g,i,rfl,d,k]:=h;erw[_,(au (fC (V2 (je rfl T.acu (v:=.ref t.j0) rfl) T.IS (Ar T) (f.mono (!_)) T.pe.B .nil nX (oW (pv 0) (pv 1)))) (b6 (gR (pv 0) (pv 2) rfl))),4];left;erw[81,p,t.iA,c,g,2,d,T.sW,T.xx,4];erw[38,p,t.iA,c,1,ay,T.sW,T.BI,(by show 1<1000;decide),4];rw[fF (names:=["sender"]) rfl (↑_)];erw[k _ ay λb o e a=>(by rw[aY a,aY a];erw[e])]
inductive Uq(C:du)(vs:!V)(H:Hp)(Q:VK)(E:XK):Prop
 |mk (p dx:du) (s to c:Int):vs=[.ref p,.int c]->H p=ac (.ins C dx [("sender",.int s),("to",.int to)])->Q (.bl (decide (fw c=fw to))) H->Uq C vs H Q E
theorem MU(T:Txt K mg w t):oM P w mg base T.zw 1 (Uq t.iA):=by erw[T.zw.F.iV LL λH Q E d h=>?_];let#[p,a,e,f,c,rfl,b,k]:=h;erw[_,(oR (qE i0 (pv 1) (bF (pv 0) rfl))),38,p,_,a,6,b,T.sW,T.BI,22,k]
inductive Ur(C:du)(vs:!V)(H:Hp)(Q:VK)(E:XK):Prop
 |mk (p dx:du) (s to:Int):vs=[.ref p]->H p=ac (.ins C dx [("sender",.int s),("to",.int to)])->Q (.int to) H->Ur C vs H Q E
theorem MV(T:Txt K mg w t):oM P w mg base T.sV 1 (Ur t.iA):=by erw[T.sV.F.iV LM λH Q E c h=>?_];let#[p,a,d,e,rfl,b,k]:=h;erw[_,(oR (bF (pv 0) rfl)),1,p,_,a,6,b,T.sW,T.BI,2,k]
inductive Je(C:du)(vs:!V)(H:Hp)(Q:VK)(E:XK):Prop
 |mk (p dx:du) (s to:Int):vs=[.ref p]->H p=ac (.ins C dx [("sender",.int s),("to",.int to)])->Q (.int (s+to+1)) H->Je C vs H Q E
theorem Ks(T:Txt K mg w t):oM P w mg base T.qL 1 (Je t.iA):=by erw[T.qL.F.iV J4 λH Q E c h=>?_];let#[p,a,d,e,rfl,b,k]:=h;erw[_,(oR (ck kj (ck kj (bF (pv 0) rfl) (bF (pv 0) rfl)) aF)),1,p,_,a,6,b,T.sW,T.xx,8,p,_,a,6,b,T.sW,T.BI,26262,k]
inductive Us(C:du)(vs:!V)(H:Hp)(Q:VK)(E:XK):Prop
 |mk(p dx:du)(s c:Int):vs=[.ref p,.int c]->H p=ac (.ins C dx [("sender",.int s)])->Q (.bl ((decide (fw c=fw s)).not)) H->Us C vs H Q E
theorem MW(T:Txt K mg w t):oM P w mg base T.zx 1 (Us t.kQ):=by erw[T.zx.F.iV LN λH Q E d h=>?_];let#[p,a,e,c,rfl,b,k]:=h;erw[_,(oR (qE oq (pv 1) (bF (pv 0) rfl))),38,p,_,a,6,b,T.BJ,T.qN,22,k]
inductive Yi(C:du)(vs:!V)(H:Hp)(Q:VK)(E:XK):Prop
 |mk(p dx:du):vs=[.ref p]->H p=ac (.ins C dx [])->(∀d H',H d=de->wK C H' p d []->(∀b o,H b=ac o->b≠p->H' b=ac o)->Q .gw H')->Yi C vs H Q E
theorem MX(T:Txt K mg w t):oI P w mg base T.sR 1 (Yi t.gX):=by erw[T.sR.F.iV LG λH Q E i h=>?_];·let#[p,f,rfl,c,k]:=h;erw[_,(b6 (gR (pv 0) SW rfl)),4];left;erw[λd a=>#[1,p,t.gX,f,[],24,T.Ga,T.yt,!_,?_]];rw[aY (aS c a)];erw[c];erw[k d _ a #[#[f,ay],4] λb o e g=>?_];rw[aY (aS c a).symm];erw[ay];rw[aY g,aY (aS e a)];erw[e]
inductive Yj(C:du)(vs:!V)(H:Hp)(Q:VK)(E:XK):Prop
 |mk(p d:du)(ts:!T3)(h c r:Int):vs=[.ref p,.int h,.int c,.int r]->wK C H p d ts->ge ts<10000->(∀H',H' d=ac (.dT (ih (ts.map p6) (ik h c) (.int r)))->(∀b o,H b=ac o->b≠d->H' b=ac o)->Q .gw H')->Yj C vs H Q E
theorem OP(T:Txt K mg w t):oM P w mg base T.Bu 1 (Yj t.gX):=by erw[T.Bu.F.iV NQ λH Q E l h=>?_];·let#[p,d,q,g,n,r,rfl,#[#[m,i],c],j,k]:=h;erw[_,(b6 (Xm (Pp l) (bF (pv 0) rfl) (i6 (oW (pv 1) (pv 2))) (pv 3) rfl)),4];left;erw[38,p,t.gX,m,6,i,T.Ga,T.yt,81,g5,λb a=>?_];let f:d≠b:=aS c a;erw[d,1,SV.t (k:=ik g n) (kvs:=q.map p6) (by rw[aY f];erw[c]) ay (by rw[af];erw[Nat.lt_trans j (by show 10000<2^24;decide)]),4];erw[k _ ay λx o e nx=>(by rw[aY nx,aY (aS e a)];erw[e])]
inductive Yk(C:du)(vs:!V)(H:Hp)(Q:VK)(E:XK):Prop
 |mk(p d:du)(ts:!T3)(h c:Int):vs=[.ref p,.int h,.int c]->wK C H p d ts->(∀H',aH H H'->Q (((yP ts h c).map fw).getD .gw) H')->Yk C vs H Q E
theorem OQ(T:Txt K mg w t):oM P w mg base T.Bv 1 (Yk t.gX):=by erw[T.Bv.F.iV NR λH Q E j h=>?_];·let#[p,d,m,a,e,rfl,#[#[l,g],f],k]:=h;erw[_,(oR (abk (Pp j) (bF (pv 0) rfl) (i6 (oW (pv 1) (pv 2))) #[2222])),4];left;erw[1,p,t.gX,l,6,g,T.Ga,T.yt,2,d,2,.inr #[_,.inl f],38,g5,λb i=>?_];let c:=aH.new (o:=.tup [.int a,.int e]) i;erw[_,NO.t (k:=ik a e) (c _ _ f) ay,4];rw[Lk];erw[k _ c]
inductive Ut(C:du)(vs:!V)(H:Hp)(Q:VK)(E:XK):Prop
 |mk(p d:du)(ts:!T3):vs=[.ref p]->wK C H p d ts->(∀d' H',H d'=de->wK C H' p d' []->(∀b o,H b=ac o->b≠p->H' b=ac o)->Q .gw H')->Ut C vs H Q E
theorem MY(T:Txt K mg w t):oM P w mg base T.sU 1 (Ut t.gX):=by erw[T.sU.F.iV LH λH Q E j h=>?_];·let#[p,d,l,rfl,#[#[f,c],m],k]:=h;erw[_,(b6 (gR (pv 0) SW rfl)),4];left;erw[λi a=>#[1,p,t.gX,f,[("kept",.ref d)],24,T.Ga,T.yt,(by show 1<1000;decide),4]];rw[aY (aS c a)];erw[c];erw[k i _ a #[#[f,ay],4] λb o e g=>?_];rw[aY (aS c a).symm];erw[ay];rw[aY g,aY (aS e a)];erw[e]
inductive ub(K:ah)(C:du)(vs:!V)(H:Hp)(Q:VK)(E:XK):Prop
 |mk(bk d lo lh:du)(ts:!T3)(so cK:Option Int)(qp:Int)(os hs:!Int):vs=[.ref bk,HZ so,.int qp,HZ cK,.ref lo,.ref lh]->wK C H bk d ts->bJ K H lo (os.map fw)->bJ K H lh (hs.map fw)->ge os<=1000->(∀l H',aH H H'->H l=de->H' l=ac (.lst ((ZD ts so qp cK os hs).map fw))->Q (.ref l) H')->ub K C vs H Q E
theorem Uu(T:Txt K mg w t):oG P w mg base T.FW 2 (ub K t.gX):=by
 erw[T.FW.F.iV yb λH Q E hr h=>?_]
 ·let#[Z,d,lo,lh,O,so,g,I,os,u,rfl,hB,D,hH,J,k]:=h;erw[_,(au (cV (oS pV (pv 1) (pv 5) (by with_unfolding_all rfl)) (oR (eB gx)) bR) (au (sS 6 yb (lG (qT Vy (pv 1) pI) pI (cM (pv 0) T.Ga T.Bv (OQ T) hr (oW (pv 2) (pv 1))))) (au (sS 7 yb (lG (oS pV (pv 6) (pv 4) (by with_unfolding_all rfl)) (eB (dj (pv 6))) (pv 4))) (oR (dP (kO yb ["rope","came"] [de,ac 3]) rfl (cY (pv 7)) (~~~(gS 0 LI)) (~~~(kB (qT oq (pv 0) (pv 1)))) (~~~(pv 0))))))),4];left;let#[dx,N]:=hB.ob;erw[38,lh,1,.inl hH,abO so,Ag u,14];cases so with
  |none=>erw[lK (by show NF .gw _=dr;erw[Ll u]) ?_];erw[18,E5 (fy rfl) ?_];erw[38,lo,1,.inl D,2,Ag os,1,lK (by show NF .gw _=dr;erw[Ll os]) ?_];erw[38,lo,2,#[_,D],λc a=>?_];erw[wL (mY g) a D J (λx n R S _ q A j=>?_) (λn q f=>k c n q a f)];erw[38,GJ x g,14];erw[lZ (λe=>#[1,A _ (aH.refl _) e]) (λe=>j _ (aH.refl _) (neT e))]
  |some p=>
   erw[lZ (λe=>?_) (λe=>?_)];erw[bL _,λl v=>k l _ (aH.new v) v ?_];let U:p∈u:=(by let e:NF (.int p) (u.map fw)=df:=e;rw[Af] at e;erw[g4 e]);show _=ac (gc (List.map fw (if p∈u then [] else _)));rw[eG U];erw[ay];let U:¬p∈u:=λz=>e (by show NF (.int p) (u.map fw)=df;rw[Af];erw[fy z])
   erw[18,lK (gh λz=>by ext z) ?_];erw[1,Z,dx,1,N,81,Z,d,O,I,p,2,hB,λX y=>?_];let m:∀l b,aH H b->H l=de->b l=ac (.lst ((match yP O I p with
    |some r=>if r∈os then [r].filter (mY g) else os.filter (mY g)
    |none=>os.filter (mY g)).map fw))->Q (.ref l) b:=λl b s v f=>k l b s v (by
    show _=ac (gc (List.map fw (if p∈u then [] else _)));rw[eH U];erw[f])
   let i:=y.seq D;cases hk:yP O I p with|none=>rw[hk] at m;erw[38,lo,1,.inl i,2,Ag os,1,lK (by show NF .gw _=dr;erw[Ll os]) ?_];erw[38,lo,2,#[_,i],λc a=>?_];erw[wL (mY g) a i J (λx n R S _ q A j=>?_) (λn q f=>m c n (y.trans q) (y.free a) f)];erw[38,GJ x g,14];erw[lZ (λe=>#[1,A _ (aH.refl _) e]) (λe=>j _ (aH.refl _) (neT e))]|some r=>rw[hk] at m;dsimp only[vY,Option.getD_some];erw[38,lo,1,.inl i,2,Ag os,1,lZ (λC=>?_) (λC=>?_)];let B:r∈os:=(by let C:NF (.int r) (os.map fw)=df:=C;rw[Af] at C;erw[g4 C]);let m:∀l b,aH H b->H l=de->b l=ac (.lst (([r].filter (mY g)).map fw))->Q (.ref l) b:=λl b s v f=>m l b s v (by show _=ac (gc (List.map fw (if r∈os then _ else _)));rw[eG B];erw[f]);erw[1,IU,λG M=>?_];let L:=aH.new (o:=.lst [fw r]) M;let j:bJ K (upd X G (.lst [fw r])) G ([r].map fw):=bJ.of ay;generalize upd X G (.lst [fw r])=n at L j;erw[1,G,2,#[_,j],λc a=>?_];erw[wL (mY g) a j (by show 1<=1000;decide) (λx Y R S _ W A j=>?_) (λY W f=>m c Y (y.trans (L.trans W)) (y.free (L.free a)) f)];erw[38,GJ x g,14];erw[lZ (λe=>#[1,A _ (aH.refl _) e]) (λe=>j _ (aH.refl _) (neT e))];let B:¬r∈os:=λz=>C (by show NF (.int r) (os.map fw)=df;rw[Af];erw[fy z]);let m:∀l b,aH H b->H l=de->b l=ac (.lst ((os.filter (mY g)).map fw))->Q (.ref l) b:=λl b s v f=>m l b s v (by show _=ac (gc (List.map fw (if r∈os then _ else _)));rw[eH B];erw[f]);erw[38,lo,2,#[_,i],λc a=>?_];erw[wL (mY g) a i J (λx n R S _ q A j=>?_) (λn q f=>m c n (y.trans q) (y.free a) f)];erw[38,GJ x g,14];erw[lZ (λe=>#[1,A _ (aH.refl _) e]) (λe=>j _ (aH.refl _) (neT e))]
inductive Qa(K:ah)(C cL c1 cA:du)(vs:!V)(H:Hp)(Q:VK)(E:XK):Prop
 |mk(bk d la lo lh:du)(ts:!T3)(s to kd qp:Int)(cK:Option Int)(os hs:!Int):vs=[.ref bk,.ref la,.int qp,HZ cK,.ref lo,.ref lh]->wK C H bk d ts->JD cL c1 cA H la s to kd->bJ K H lo (os.map fw)->bJ K H lh (hs.map fw)->ge os<=1000->ge hs<=1000->(∀p l1 l2 H',aH H H'->H p=de->H l1=de->H l2=de->l1≠l2->H' p=ac (.tup [.ref l1,.ref l2])->H' l1=ac (.lst ((hs.filter (Ia s to kd)).map fw))->H' l2=ac (.lst ((ZD ts (sy to kd) qp cK os hs).map fw))->Q (.ref p) H')->Qa K C cL c1 cA vs H Q E
theorem WH(T:Txt K mg w t):oG P w mg base T.IK 3 (Qa K t.gX t.j0 t.iA t.kQ):=by erw[T.IK.F.iV FJ λH Q E v h=>?_];·let#[U,d,g,lo,C,J,L,A,kd,D,G,os,I,rfl,Y,hL,W,z,O,N,k]:=h;erw[_,(au (kC (i:=6) FJ.nd rfl (Or.inl rfl) (kO FJ ["caller","letter"] [de,ac 1]) rfl (cY (pv 5)) (~~~(gS 0 NT)) (~~~(kB (mT (HY (cM (pv 1) T.Mr T.xm (Kq T) v (dj (pv 0))) (HY (cM (pv 1) T.sW T.zw (MU T) v (dj (pv 0))) (cM (pv 1) T.BJ T.zx (MW T) v (dj (pv 0)))))))) (~~~(pv 0))) (oR (i6 (oW (pv 6) (cG (Uu T) v T.FW (Ee (pv 0) (HY (ow (pv 1) T.Mr T.m8.m (Cw T) (v.mono (!_)) T.m8.B .nil nX) (HY (ow (pv 1) T.sW T.sV.m (MV T) (v.mono (!_)) T.sV.B .nil nX) (ow (pv 1) T.BJ T.OG (Cw T) (v.mono (!_)) T.m8.B .nil nX))) (pv 2) (pv 3) (pv 4) (pv 5))))))),4];left;erw[1,C,2,#[_,z],λs q=>?_];erw[wL (Ia L A kd) q z N (λx X R S _ b h1 M=>?_) (λX b hy=>?_)];(let r:=hL.mono b;cases r with|bare c f=>erw[.inl #[1,g,c,1,f,8,g,x,8,M _ (aH.refl _) rfl]]|one c f=>erw[.inr (.inl #[1,g,c,1,f,8,g,c,L,A,x,2,f,14])];erw[lZ (λe=>#[1,h1 _ (aH.refl _) e]) (λe=>M _ (aH.refl _) (neT e))]|all c f=>erw[.inr (.inr #[1,g,c,1,f,8,g,c,L,x,2,f,14])];erw[lZ (λe=>#[1,h1 _ (aH.refl _) e]) (λe=>M _ (aH.refl _) (neT e))]);let r:=hL.mono b;let rest:∀j l,aH X l->X j=de->l j=ac (.lst ((ZD J (sy A kd) D G os I).map fw))->2<=eD/\∀p,l p=de->Q (.ref p) (upd l p (.tup [.ref s,.ref j])):=λj l n a y=>(by erw[!_,λp Z=>?_];let u:=aH.new (o:=.tup [fx s,.ref j]) Z;erw[k p s j _ ((b.trans n).trans u) (b.free (n.free Z)) q (b.free a) (aS hy a) ay (u _ _ (n _ _ hy)) (u _ _ y)]);exists 384;cases r with|bare c f=>erw[.inl #[1,g,c,1,f,2,g,8138,U,d,lo,C,J,de,G,D,os,I,2,Y.mono b,b.seq W,b.seq z,O,λj l n a y=>rest j l n a y]]|one c f=>erw[.inr (.inl #[1,g,c,1,f,2,g,c,L,A,2,f,3838,U,d,lo,C,J,ac A,G,D,os,I,2,Y.mono b,b.seq W,b.seq z,O,λj l n a y=>rest j l n a y])]|all c f=>erw[.inr (.inr #[1,g,c,1,f,2,g,8138,U,d,lo,C,J,de,G,D,os,I,2,Y.mono b,b.seq W,b.seq z,O,λj l n a y=>rest j l n a y])]
inductive MZ(K:ah)(CT C:du)(vs:!V)(H:Hp)(Q:VK)(E:XK):Prop
 |mk (p dx tp ln lr:du) (ns:!Int) (rs:!R5):vs=[.ref p,.ref tp]->H p=ac (.ins C dx [])->eN K CT H tp ln lr ns rs->ge rs<=20->(∀r∈rs,1<=r.d/\r.d<=4)->(∀lu (ls:!du) H',H lu=de->(∀l∈ls,H l=de)->lu∉ls->ls.Nodup->ge ls=ge rs->H' p=ac (.ins C dx [("town",.ref tp),("upright",.ref lu)])->H' lu=ac (.lst (ls.map fx))->(∀(j:Nat) l r,ls[j]?=ac l->rs[j]?=ac r->H' l=ac (.lst (bA (av r.d.toNat))))->(∀b o,H b=ac o->b≠p->H' b=ac o)->Q .gw H')->MZ K CT C vs H Q E
theorem Hq(T:Txt K mg w t):oI P w mg base T.rP 3 (MZ K t.bf t.dR):=by erw[T.rP.F.iV yc λH Q E hr h=>?_];·let#[p,W,B,ln,lr,ns,rs,rfl,hp,hT,xR,hw,k]:=h;erw[_,(au (gR (pv 0) (pv 1) rfl) (b6 (gR (pv 0) (dP (kO yc ["rope","town"] [de,ac 1]) rfl (eW rfl T.gF (dj (bF (pv 1) rfl))) (~~~(gS 0 De)) (~~~fj) (~~~(cJ (La rfl) (by rfl) T.BN boot_list (dj (cJ JB (by rfl) T.gF boot_range (dj (cG (JS T) hr T.Bx (oW (pv 1) (pv 0))))))))) rfl))),4];left;let#[#[dt,ah],_]:=id hT;let ab:B≠p:=rD ah hp λz=>(by let:=(HO.ins.inj z).2.2;ext this);erw[38,p,_,W,[],2,hp,T.fM,T.nv,!_,?_];rw[fF (names:=[]) rfl rfl];generalize G:upd H p (.ins t.dR W ([]++[(eC "town",fx B)]))=H1;let k1:∀b o,H b=ac o->b≠p->H1 b=ac o:=λb o e N=>(by rw[<- G,aY N];erw[e]);let v:H1 p=ac (.ins t.dR W [(eC "town",fx B)]):=(by rw[<- G];erw[ay]);let C:=hT.but k1 hp ab;let f1:∀{l:du},H1 l=de->H l=de:=λ{l} e=>(by cases q:H l with|none=>rfl|some o=>by_cases z:l=p;rw[z,v] at e;ext e;let:=k1 _ _ q z;rw[e] at this;ext this);let#[#[dt,ae],_]:=id C;erw[1,B,_,dt,6,ae,T.gk,T.yr,8,(by show -(2^62)<=((ge rs:Nat):Int);lia),(by show ((ge rs:Nat):Int)<2^62;lia),λc a=>?_];erw[fK (n:=(((ge rs:Nat):Int)).toNat) (λi ys U=>∃f:!du,ys=f.map fx/\ge f=i/\f.Nodup/\(∀l∈f,H l=de/\U l≠de)/\∀(j:Nat) l r,f[j]?=ac l->rs[j]?=ac r->U l=ac (.lst (bA (av r.d.toNat)))/\l≠c) a wB mU #[[],22,lY,λl u=>(by ext u),λj l r e=>by simp at e] ?_ ?_];intro i ys U R A O ⟨f,rfl,s,nd,m,g⟩ x H3 ⟨rfl,rfl⟩;let R:i<ge rs:=R⁻¹;let Cv:rs[i]?=ac rs[i]:=aa R;let wi:=hw _ (aD Cv);obtain⟨d,ed⟩:∃d:Nat,rs[i].d=(d:Int):=#[rs[i].d.toNat,5];erw[38,B,ln,lr,ns,rs,i,rs[i],(by show [fx B,fw (0+(i:Int))]=_;rw[cT]),C.mono A,Cv,4];erw[rs[i].d,2,λq hq=>?_];let S:=aH.new (o:=.W7 0 rs[i].d) hq;erw[q,d,2,(by rw[ay,ed]),5,λl u=>?_];let Z:H l=de:=f1 ((A.trans S).free u);let nl:l∉f:=λz=>(m l z).2 (S.free u);let L:=S.trans (aH.new (o:=.lst ((av d).map λk=>fw (k:Nat))) u);let Vo:=L _ _ O;let WI:(upd (upd H3 q (.W7 0 rs[i].d)) l (.lst ((av d).map λk=>fw (k:Nat)))) l=ac (.lst (bA (av d))):=ay;let y:l≠c:=(aS (S _ _ O) u).symm;generalize upd (upd H3 q (.W7 0 rs[i].d)) l (.lst ((av d).map λk=>fw (k:Nat)))=H4 at L Vo WI;erw[dS a R⁻¹ (A.trans L) Vo (by rw[af,s];erw[bP ∅]) #[f++[l],by rw[aN];rfl,by rw[az,s];rfl,Gr.K9 nd nl,λI Y=>?_,λj I r D M=>?_]];obtain z|z:=aR.mp Y;(let#[z1,X]:=m I z;erw[z1,4];by_cases q:I=c;rw[q,ay];erw[bC _];rw[aY q];cases e:H3 I with|none=>erw[ff e X]|some o=>rw[L _ _ e];erw[bC _]);rw[aP.mp z];erw[Z,by rw[aY y,WI];erw[bC _]];obtain D|⟨rfl,rfl⟩:=AS D;let#[z1,X]:=g j I r D M;exists by rw[aY X];exact L _ _ z1,X;rw[s,Cv] at M;ext M;rw[ed,cQ];exists by rw[aY y];exact WI,y;intro ys U A O ⟨f,rfl,s,nd,m,g⟩;let s:ge f=ge rs:=s⁻¹;let ag:p≠c:=aS v a;let J:=A _ _ v;erw[1,p,_,W,1,J,T.fM,T.iC,(by show 1<1000;decide),4];rw[fF (names:=["town"]) rfl (↑_)];erw[k c f _ (f1 a) (λl u=>(m l u).1) (λz=>?_) nd s ay (by rw[aY (cC ag)];erw[O]) (λj l r D M=>?_) λb o e N=>(by rw[aY N];erw[A _ _ (k1 _ _ e N)])];let#[j,hj]:=c7 z;let ad:=(ai.mp hj).1;erw[(g j c _ hj (aa (s▸ad))).2 rfl];let z:=(g j l r D M).1;rw[aY (rD z J (by intro z;ext z))];erw[z]
inductive JT(K:ah)(C:du)(vs:!V)(H:Hp)(Q:VK)(E:XK):Prop
 |mk(tp ln lr:du)(ns:!Int)(rs:!R5):vs=[.ref tp]->eN K C H tp ln lr ns rs->ge ns<=12->(∀l(qs:!du)H',aH H H'->H l=de->H' l=ac (.lst (qs.map fx))->fE K H' qs (i7 (ge ns) (CG ns))->Q (.ref l) H')->JT K C vs H Q E
theorem OR(T:Txt K mg w t):oG P w mg base T.BB 3 (JT K t.bf):=by erw[T.BB.F.iV E6 λH Q E C h=>?_];·let#[v,D,G,ns,A,rfl,u,B,k]:=h;erw[_,(oR (dP (kO E6 ["house","town"] [de,ac 0]) rfl (eW rfl T.gF (dj (bF (pv 0) rfl))) (~~~(gS 0 ID)) (~~~fj) (~~~(cG (MQ T) C T.Et (oW (pv 1) (pv 0)))))),4];left;let#[#[y,r],_]:=id u;erw[1,v,_,y,6,r,T.gk,T.kh,2,(ge ns:Int),255,λo a=>?_];erw[fK (n:=((ge ns:Int)).toNat) (λi l j=>∃c:!du,l=c.map fx/\fE K j c (i7 i (CG ns))) a wB mU #[[],2,#[2,λi q x e=>by ext e]] ?_ ?_];intro i l j f g m ⟨c,rfl,d⟩ x I ⟨rfl,rfl⟩;let f:i<ge ns:=f⁻¹;rw[cT];erw[38,v,D,G,ns,A,i,ns[i],2,u.mono g,aa f,λq J p z=>?_];let s:=p _ _ m;let L:ge c=i:=(by rw[d.len];simp[i7]);erw[dS a f⁻¹ (g.trans p) s (by rw[af];erw[bP ∅]) #[c++[q],by rw[aN];rfl,4]];let e:i7 (i+1) (CG ns)=i7 i (CG ns)++[cz #[ns[i],(0),(0),-1]]:=(by delta i7;rw[fk,aN,bz,List.map_nil];congr 3;delta CG;rw[ak,aa f];rfl);rw[e];erw[(fE.snoc (d.mono λb x=>p.cU) z).mono λb x=>dH.past s jm cj];intro l j g m ⟨c,rfl,d⟩;rw[show ((ge ns:Int)).toNat=ge ns from rfl] at d;erw[k o c j g a m d]
inductive DT(K:ah)(C:du)(vs:!V)(H:Hp)(Q:VK)(E:XK):Prop
 |mk(tp ln lr lc:du)(ns:!Int)(rs:!R5)(qs:!du)(cl:!(Nat×Nat)):vs=[.ref tp,.ref lc]->eN K C H tp ln lr ns rs->bJ K H lc (qs.map fx)->fE K H qs (cl.map λc=>[.int c.1,.int c.2])->ge cl<=20->(∀c∈cl,c.1<ge ns/\c.2<3)->Q .gw H->DT K C vs H Q E
theorem Jf(T:Txt K mg w t):oG P w mg base T.uJ 1 (DT K t.bf):=by erw[T.uJ.F.iV Am λH Q E M h=>?_];·let#[B,N,O,j,ns,L,c,cl,rfl,G,p,x,R,r,k]:=h;erw[_,(au (cV (qT si (lS T.gE (pv 1)) (je rfl T.Mx (v:=.int 20) #[1])) dO bR) (b6 (fS (cY (pv 1)) (gT 2 Am) (au (cV (qT oq (lS T.gE (pv 2)) aF) dO bR) (au (cV (ki (lH rE xV aF (xT (pv 2) aF) (bF (pv 0) rfl))) dO bR) (b6 (cV (ki (lH rE xV aF (xT (pv 2) aF) (lS T.gE (je rfl T.nP (v:=.ref t.fU) rfl)))) dO bR))))))),4];left;let#[#[D,o],_]:=id G;let C:ge c=ge cl:=(by rw[x.len,af]);erw[1,j,1,.inl p,68,lK (gh (by rw[af];lia)) ?_];erw[1,j,2,#[_,p],wz (K:=K) (a:=j) (xs:=c.map fx) (λi g e=>e=H/\∃m:Option V,g=[ac (.ref B),ac (.ref j),m]) #[8] (λi g e _ z=>by rw[z.1];erw[p]) ?_ ?_];intro i y g e s ⟨rfl,m,rfl⟩;let b:=(ai.mp s).1;rw[af] at b;let f:i<ge cl:=C▸b;let J:y=.ref c[i]:=(by rw[ao,aa b] at s;erw[(aI s).symm]);subst J;let d:dH K e c[i] [.int cl[i].1,.int cl[i].2]:=x.at' i _ _ (aa b) (by rw[ao,aa f];rfl);let#[u,A]:=r _ (aB f);generalize c[i]=q at d;generalize cl[i]=cc at d u A;let#[n,l]:=cc;erw[1,q,1,.inr d,8,lK (by show ((decide (fw 2=fw 2)).not)=dr;rw[fy rfl];rfl) ?_];erw[1,q,9,d,2684];rw[fy (show (0:Int)<=(n:Int) by lia)];erw[fZ #[1,B,_,D,6,o,T.gk,T.kh,2684]];rw[fy (show (n:Int)<(ge ns:Int) by let:n<ge ns:=u;lia)];erw[fP ?_];erw[1,q,9,d,2684];rw[fy (show (0:Int)<=(l:Int) by lia)];erw[fZ #[6,.inr (T.ie _),684]];let I:decide ((l:Int)<((ge ([.int 1,.int 2,.int 4]:!V):Nat):Int))=df:=fy (by show (l:Int)<3;let:l<3:=A;lia);rw[I];erw[fP #[8]];intro g e ⟨rfl,m,rfl⟩;erw[k]
end
noncomputable abbrev nc(t:Ad):NC:=#[t.dF,t.dR,t.gX,t.lO,t.j0,t.iA,t.kQ]
section
variable{P:ft}{w:World}{K:ah}{mg:Str->Option dy}{base:Heap}
inductive Qc(K:ah)(CT:du)(c:NC)(vs:!V)(H:Hp)(Q:VK)(E:XK):Prop
 |mk(p dx tp ln lr lc:du)(ns:!Int)(rs:!R5)(qs:!du)(cl:!(Nat×Nat)):vs=[.ref p,.ref tp,.ref lc]->H p=ac (.ins c.c6 dx [])->eN K CT H tp ln lr ns rs->ge ns<=12->ge rs<=20->(∀r∈rs,1<=r.d/\r.d<=4)->bJ K H lc (qs.map fx)->fE K H qs (cl.map λc=>[.int c.1,.int c.2])->ge cl<=20->(∀c∈cl,c.1<ge ns/\c.2<3)->(∀F H',eT K c H' F p tp (ge ns) (S0 ns rs cl)->(∀b o,H b=ac o->b≠p->H' b=ac o)->(∀b,F b->b=p\/H b=de)->Q .gw H')->Qc K CT c vs H Q E
noncomputable abbrev nf(fs:!(Str×V))(k:Str)(v:V):!(Str×V):=fs++[(k,v)]
structure JU(K:ah)(CT:du)(H:Hp)(tp ln lr lc:du)(ns:!Int)(rs:!R5)(qs:!du)(cl:!(Nat×Nat)):Prop where
 yS:eN K CT H tp ln lr ns rs
 vC:bJ K H lc (qs.map fx)
 tup:fE K H qs (cl.map λc=>[.int c.1,.int c.2])
theorem JU.mono(h:JU K CT H tp ln lr lc ns rs qs cl)(s:aH H H'):JU K CT H' tp ln lr lc ns rs qs cl:=#[h.yS.mono s,s.seq h.vC,h.tup.mono λb x=>s.cU]
theorem JU.put(h:JU K CT H tp ln lr lc ns rs qs cl)(a:H p=ac (.ins C dx fs))(n:tp≠p):JU K CT (upd H p o) tp ln lr lc ns rs qs cl :=#[h.yS.but (λb u e c=>by rw[aY c];erw[e]) a n,bJ.past a Bi cj h.vC,h.tup.mono λb x=>dH.past a n9 cj]
theorem Au(la:Nat->du)(i:Nat)(l:du):(av (i+1)).map (λg=>fx (gM la i l g))=(av i).map (λg=>fx (la g))++[.ref l]:=by rw[fk,aN,bz,List.map_nil,c9];congr 1;erw[dm λg a=>?_];rw[fL (bV (bO.mp a))]
noncomputable def pd(loc:Role->du)(acc:du)(la:Nat->du):Role->du
 |.wM=>acc
 |.rows g=>la g
 |r=>loc r
noncomputable def nr(ob:Role->Option HO)(la:Nat->du)(rq:Nat->!du)(i:Nat):Role->Option HO
 |.wM=>ac (.lst ((av i).map λg=>.ref (la g)))
 |.rows g=>if g<i then ac (.lst ((rq g).map fx)) else de
 |r=>ob r
noncomputable def mn(loc:Role->du)(acc:du)(lb ld:Nat->du):Role->du
 |.mh=>acc
 |.book g=>lb g
 |.gQ g=>ld g
 |r=>loc r
noncomputable def ma(C:du)(ob:Role->Option HO)(WK lb ld:Nat->du)(i:Nat):Role->Option HO
 |.mh=>ac (.lst ((av i).map λg=>.ref (lb g)))
 |.book g=>if g<i then ac (.ins C (WK g) [("kept",.ref (ld g))]) else de
 |.gQ g=>if g<i then ac (.dT []) else de
 |r=>ob r
noncomputable def t0(loc:Role->du)(acc:du)(lh:Nat->du):Role->du
 |.jy=>acc
 |.handed g=>lh g
 |r=>loc r
noncomputable def sT(ob:Role->Option HO)(lh:Nat->du)(i:Nat):Role->Option HO
 |.jy=>ac (.lst ((av i).map λg=>.ref (lh g)))
 |.handed g=>if g<i then ac (.lst []) else de
 |r=>ob r
noncomputable def tf(dx dxs:du)(WK:Nat->du):Role->du
 |.c6=>dx
 |.dB=>dxs
 |.book g=>WK g
 |_=>0
noncomputable def tJ(p sp lu:du)(ls:!du)(acc:du)(la:Nat->du)(acb:du)(lb ld:Nat->du)(ach acg acd:du)(lh:Nat->du)(acl aco:du):Role->du
 |.c6=>p
 |.dB=>sp
 |.eZ=>lu
 |.iK i=>ls.getD i 0
 |.wM=>acc
 |.rows g=>la g
 |.mh=>acb
 |.book g=>lb g
 |.gQ g=>ld g
 |.aE=>ach
 |.groups=>acg
 |.jy=>acd
 |.handed i=>lh i
 |.dQ=>acl
 |.gj=>aco
 |_=>0
theorem OT(T:Txt K mg w t):oI P w mg base T.By 5 (Qc K t.bf (nc t)):=by erw[T.By.F.iV lV λH Q E hr h=>?_];·let#[p,s,y,ln,lr,lc,ns,rs,qs,cl,rfl,hp,hT,bH,xR,hw,hL,CI,cf,bN,k]:=h;erw[_,(au (fC (cG (Jf T) hr T.uJ (oW (pv 1) (pv 2)))) (au (gR (pv 0) (pv 1) rfl) (au (gR (pv 0) (cI T.rP (Hq T) hr T.Z5 (dj (pv 1))) rfl) (au (gR (pv 0) (dP (kO lV ["bit","town"] [de,ac 1]) rfl (QB (je rfl T.nP (v:=.ref t.fU) rfl)) (~~~(gS 0 Iw)) (~~~fj) (~~~(cG (OR T) hr T.BB (dj (pv 1))))) rfl) (au (gR (pv 0) (dP (kO lV ["bit"] [de]) rfl (QB (je rfl T.nP (v:=.ref t.fU) rfl)) (~~~(gS 0 Iz)) (~~~fj) (~~~(aa8 T.sR.M (MX T) (hr.mono (!_)) rfl T.aio T.sR.B .nil nX))) rfl) (au (gR (pv 0) (dP (kO lV ["caller"] [de]) rfl (cY (pv 2)) (~~~(gS 0 IA)) (~~~fj) (~~~(yT K (pv 0) aF))) rfl) (au (gR (pv 0) (dP (kO lV ["caller"] [de]) rfl (cY (pv 2)) (~~~(gS 0 IB)) (~~~fj) (~~~(yT K (pv 0) aF))) rfl) (au (gR (pv 0) (dP (kO lV ["caller"] [de]) rfl (cY (pv 2)) (~~~(gS 0 IC)) (~~~fj) (~~~(eB gx))) rfl) (au (gR (pv 0) (eB gx) rfl) (b6 (gR (pv 0) (eB gx) rfl))))))))))),4];left;let#[#[dt,cn],ct,vs,cr,_]:=id hT;let ae:y≠p:=rD cn hp λz=>(by let:=(HO.ins.inj z).2.2;ext this);erw[bY λNx N=>?_];erw[38,y,ln,lr,lc,ns,rs,qs,cl,2,hT,hL,CI,cf,bN,N _ _ ?_];let B0:J0 H H p (λ_=>p) (λr=>if r=.c6 then ac (.ins t.dF s []) else de):=(by erw[#[λr o e=>?_,λr q h1 h2 _=>?_],2,-_,λb o e _=>e,λb hb=>.inl ?_];by_cases z:r=.c6;rw[eG z] at e;ext e;erw[hp];rw[eH z] at e;ext e;let g:∀{r:Role},(if r=Role.c6 then ac (gd t.dF s []) else de)≠de->r=.c6:=λ{r} h=>(by by_cases z:r=.c6;erw[z];rw[eH z] at h;erw[ff rfl h]);rw[g h1,g h2];let#[_,_,e]:=hb;erw[e.symm]);erw[bY λNx N=>?_];erw[38,p,_,s,[],2,hp,T.bX,T.kR,!_,?_];rw[fF (names:=[]) rfl rfl];erw[N _ _ ?_];let B1:=B0.put (.ins t.dF s ([]++[(eC "town",fx y)]));let as:eN K t.bf (upd H p (.ins t.dF s ([]++[(eC "town",fx y)]))) y ln lr ns rs:=hT.but (λb o e n=>by rw[aY n];erw[e]) hp ae;let aT:=ay (H:=H) (a:=p) (o:=.ins t.dF s ([]++[(eC "town",fx y)]));let cm:∀b x,dH K H b x->dH K (upd H p (.ins t.dF s ([]++[(eC "town",fx y)]))) b x:=λb x=>dH.past hp n9 cj;let br:=bJ.past hp Bi (cj (o:=.ins t.dF s ([]++[(eC "town",fx y)]))) hL;let a1:=CI.mono cm;generalize upd H p (.ins t.dF s ([]++[(eC "town",fx y)]))=H1 at B1 as aT br a1;erw[bY λNx N=>?_];erw[1,λI J aw bW ax=>?_];let t2:aH H1 (upd (upd H1 J (.own I)) I (.ins t.dR J [])):=(aH.new bW).trans (aH.new (by rw[aY (cC ax)];erw[aw]));erw[I,J,y,ln,lr,ns,rs,2,ay,as.mono t2,xR,hw,λlu L H2 Vp b2 cb nd el bV co b8 kp=>#[24]];let s2:aH H1 H2:=λb o e=>kp b o (t2 b o e) (aS e aw);let b4:H1 lu=de:=t2.free Vp;let cp:∀l∈L,H1 l=de:=λl hl=>t2.free (b2 l hl);let OS:yR H2 (mv I lu L) (ZH t.dR J y lu L (rs.map λr=>av r.d.toNat)):=(by erw[Tb bV co (by rw[af];erw[el]) (λi l w' e1 e2=>?_) nd cb];rw[ao] at e2;cases e3:rs[i]? with|none=>rw[e3] at e2;ext e2|some r=>rw[e3] at e2;ext e2;erw[b8 i l r e1 e3]);let B2:=B1.join OS rfl (λr m=>by (ext r <;> first|erw[ff rfl m]|skip);erw[aw];erw[b4];rename_i i;show H1 (L.getD i 0)=de;by_cases z:i<ge L;rw[ak,aa z];erw[cp _ (aB z)];erw[ff (show ((rs.map λr:R5=>av r.d.toNat)[i]?.map λw=>gc (bA w))=de by rw[lF (by rw[af];lia)];rfl) m]) s2;let bR:JU K t.bf H2 y ln lr lc ns rs qs cl:=#[as.mono s2,s2.seq br,a1.mono λb x=>s2.cU];let bq:=s2 _ _ aT;erw[1,p,_,s,1,bq,T.bX,T.oN,(by show 1<1000;decide),4];rw[fF (names:=["town"]) rfl (↑_)];erw[N _ _ ?_];let B3:=B2.put (.ins t.dF s (([]++[(eC "town",fx y)])++[(eC "strands",fx I)]));let aK:=bR.put bq ae (o:=.ins t.dF s (([]++[(eC "town",fx y)])++[(eC "strands",fx I)]));let bt:=ay (H:=H2) (a:=p) (o:=.ins t.dF s (([]++[(eC "town",fx y)])++[(eC "strands",fx I)]));generalize upd H2 p (.ins t.dF s (([]++[(eC "town",fx y)])++[(eC "strands",fx I)]))=H3 at B3 aK bt;generalize b1:(λr=>if (ZH t.dR J y lu L (rs.map λr:R5=>av r.d.toNat) r).isSome=df then mv I lu L r else p)=M0 at B3;generalize ah:(jz (λr=>if (ZH t.dR J y lu L (rs.map λr:R5=>av r.d.toNat) r).isSome=df then ZH t.dR J y lu L (rs.map λr:R5=>av r.d.toNat) r else jz (λr=>if r=.c6 then ac (.ins t.dF s []) else de) .c6 (.ins t.dF s ([]++[(eC "town",fx y)])) r) .c6 (.ins t.dF s (([]++[(eC "town",fx y)])++[(eC "strands",fx I)])))=Vr at B3;erw[bY λNx N=>?_];erw[1,#[_,T.ie _],λA al=>?_];erw[fK (n:=3) (λi ys X=>∃(la:Nat->du) (G:Nat->!du),ys=(av i).map (λg=>.ref (la g))/\J0 H X p (pd M0 A la) (nr Vr la G i)/\(∀g,g<i->fE K X (G g) (i7 (ge ns) (CG ns)))) al (QV (T.ie _)) (GF (T.ie _)) ?_ ?_ ?_];(·erw[λ_=>0,λ_=>[],2,(B3.new al (r:=.wM) (!_) (.lst [])).ext (λr=>?_) (λr m=>?_),λg D=>ff D ∅];(·(ext r <;> first|rfl|skip);rename_i g;show Vr (.rows g)=_;rw[show Vr (.rows g)=de by rw[<- ah];rfl];show de=(if g<0 then ac (gc (([]:!du).map fx)) else de);rw[eH (qc g)]);·(ext r <;> first|rfl|skip);rename_i g;erw[ff (show Vr (.rows g)=de by rw[<- ah];rfl) m]);(·intro i ys X Y sx W ⟨la,G,rfl,B,hR⟩ x H4 ⟨rfl,hx⟩;erw[1,y,ln,lr,ns,rs,2,(aK.mono sx).yS,bH,λl a4 H5 s5 hl h5 ht=>?_];let Yl:=s5 _ _ W;let B5:=((B.add s5 hl h5 (r:=.rows i) (λz=>by ext z)).aia (r:=.wM) (bC _) (λz=>by ext z) (.lst ((av i).map (λg=>fx (la g))++[.ref l])));let cs:l≠A:=(aS W hl).symm;erw[dS al Y (sx.trans s5) Yl (by rw[af,aX];erw[bP ∅]) #[gM la i l,gM G i a4,(Au la i l).symm,B5.ext (λr=>?_) (λr m=>?_),λg D=>?_]];(·(ext r <;> first|rfl|skip);show ac (gc _)=ac (gc _);rw[Au];rename_i g;(show jz (nr Vr la G i) (.rows i) _ (.rows g)=if g<i+1 then ac (gc ((gM G i a4 g).map fx)) else de);by_cases z:g=i;subst z;rw[fD,eG ∅,c9];rw[dD (λe=>z (by ext e;rfl)),fL z];show (if g<i then ac (gc ((G g).map fx)) else de)=_;by_cases z2:g<i;rw[eG z2,eG ∅];rw[eH z2,eH ∅]);(·(ext r <;> first|rfl|skip);rename_i g;show uw (pd M0 A la) (.rows i) l (.rows g)=gM la i l g;by_cases z:g=i;subst z;rw[gV,c9];rw[gC (λe=>z (by ext e;rfl)),fL z];rfl);by_cases z:g=i;subst z;rw[c9];erw[ht.mono λb x=>dH.past Yl jm cj];rw[fL z];erw[((hR g ∅).mono λb x=>s5.cU).mono λb x=>dH.past Yl jm cj]);intro ys H4 s4 W ⟨la,G,rfl,B4,bS⟩;let cq:=aK.mono s4;let aD:=s4 _ _ bt;erw[1,p,_,s,1,aD,T.bX,T.oh,(by show 2<1000;decide),4];rw[fF (names:=["town","strands"]) rfl (↑_)];erw[N _ _ ?_];generalize ch:gd t.dF s ((([]++[(eC "town",fx y)])++[(eC "strands",fx I)])++[(eC "rows_by_group",fx A)])=o5;let B5:=B4.put o5;let a5:=cq.put aD ae (o:=o5);let bB:=ay (H:=H4) (a:=p) (o:=o5);let bl:∀g,g<3->fE K (upd H4 p o5) (G g) (i7 (ge ns) (CG ns)):=λg D=>(bS g D).mono λb x=>dH.past aD n9 cj;generalize upd H4 p o5=H5 at B5 a5 bB bl;generalize b7:pd M0 A la=acV at B5;generalize aA:jz (nr Vr la G 3) .c6 o5=rV at B5;let n5:∀g,rV .mh=de/\rV (.book g)=de/\rV (.gQ g)=de:=λg=>(by rw[<- aA,<- ah];exists 222);erw[bY λNx N=>?_];erw[1,#[_,T.ie _],λC aM=>?_];erw[fK (n:=3) (λi ys X=>∃(U ld WK:Nat->du),ys=(av i).map (λg=>.ref (U g))/\J0 H X p (mn acV C U ld) (ma t.gX rV WK U ld i)) aM (QV (T.ie _)) (GF (T.ie _)) ?_ ?_ ?_];(·erw[λ_=>0,λ_=>0,λ_=>0,2,(B5.new aM (r:=.mh) (λz=>by ext z) (.lst [])).ext (λr=>?_) (λr m=>?_)];(·(ext r <;> first|rfl|skip);rename_i g;show rV (.book g)=(if g<0 then ac (gd t.gX 0 [("kept",.ref 0)]) else de);rw[eH (qc g)];erw[(n5 g).2.1];rename_i g;show rV (.gQ g)=(if g<0 then ac (HO.dT []) else de);rw[eH (qc g)];erw[(n5 g).2.2]);·(ext r <;> first|rfl|skip);rename_i g;erw[ff (n5 g).2.1 m];rename_i g;erw[ff (n5 g).2.2 m]);(·intro i ys X Y sx W ⟨U,ld,WK,rfl,B⟩ x H6 ⟨rfl,hx⟩;erw[λbp HE az ca ax=>?_];let t6:aH H6 (upd (upd H6 HE (.own bp)) bp (.ins t.gX HE [])):=(aH.new ca).trans (aH.new (by rw[aY (cC ax)];erw[az]));erw[bp,HE,2,ay,λd H7 hd hB kp=>#[24]];let s7:aH H6 H7:=λb o e=>kp b o (t6 b o e) (aS e az);let bE:H6 d=de:=t6.free hd;let#[#[aG,be],bi]:=hB;let bU:bp≠d:=V4 be bi (λe=>by ext e);let sm:aH H6 (js H7 d):=λb o e=>(by let nb:b≠d:=aS e bE;show (if b=d then de else H7 b)=ac o;rw[eH nb];erw[s7 _ _ e]);let ci:aH (js H7 d) H7:=λb o e=>(by let e:(if b=d then de else H7 b)=ac o:=e;by_cases z:b=d;rw[eG z] at e;ext e;rw[eH z] at e;erw[e]);let bM:(js H7 d) bp=ac (.ins t.gX aG [("kept",.ref d)]):=(by show (if bp=d then de else H7 bp)=_;rw[eH bU];erw[be]);let bT:(js H7 d) d=de:=eG rfl;let B1:=B.add sm az bM (r:=.book i) (λz=>by ext z);let B2:=B1.add ci bT bi (r:=.gQ i) (λz=>by ext z);let B3:=B2.aia (r:=.mh) (bC _) (λz=>by ext z) (.lst ((av i).map (λg=>fx (U g))++[.ref bp]));erw[dS aM Y (sx.trans s7) (s7 _ _ W) (by rw[af,aX];erw[bP ∅]) #[gM U i bp,gM ld i d,gM WK i aG,(Au U i bp).symm,B3.ext (λr=>?_) (λr m=>?_)]];(·(ext r <;> first|rfl|skip);show ac (gc _)=ac (gc _);rw[Au];rename_i g;(show jz (ma t.gX rV WK U ld i) (.book i) _ (.book g)=if g<i+1 then ac (gd t.gX (gM WK i aG g) [("kept",.ref (gM ld i d g))]) else de);by_cases z:g=i;subst z;rw[fD,eG ∅,c9,c9];rw[dD (λe=>z (by ext e;rfl)),fL z,fL z];show (if g<i then ac (gd t.gX (WK g) [("kept",.ref (ld g))]) else de)=_;by_cases z2:g<i;rw[eG z2,eG ∅];rw[eH z2,eH ∅];rename_i g;(show jz (jz (ma t.gX rV WK U ld i) (.book i) _) (.gQ i) _ (.gQ g)=if g<i+1 then ac (HO.dT []) else de);by_cases z:g=i;subst z;rw[fD,eG ∅];rfl;rw[dD (λe=>z (by ext e;rfl))];show (if g<i then ac (HO.dT []) else de)=_;by_cases z2:g<i;rw[eG z2,eG ∅];rw[eH z2,eH ∅]);·(ext r <;> first|rfl|skip);rename_i g;show uw (mn acV C U ld) (.book i) bp (.book g)=gM U i bp g;by_cases z:g=i;subst z;rw[gV,c9];rw[gC (λe=>z (by ext e;rfl)),fL z];rfl;rename_i g;show uw (uw (mn acV C U ld) (.book i) bp) (.gQ i) d (.gQ g)=gM ld i d g;by_cases z:g=i;subst z;rw[gV,c9];rw[gC (λe=>z (by ext e;rfl)),fL z];rfl);intro ys H6 s6 W ⟨U,ld,WK,rfl,B6⟩;let b5:=a5.mono s6;let bF:∀g,g<3->fE K H6 (G g) (i7 (ge ns) (CG ns)):=λg D=>(bl g D).mono λb x=>s6.cU;let aC:=s6 _ _ bB;subst ch;erw[1,p,_,s,1,aC,T.bX,T.yu,(by show 3<1000;decide),4];rw[fF (names:=["town","strands","rows_by_group"]) rfl (↑_)];erw[N _ _ ?_];generalize ck:gd t.dF s (((([]++[(eC "town",fx y)])++[(eC "strands",fx I)])++[(eC "rows_by_group",fx A)])++[(eC "books",fx C)])=o7;let B7:=B6.put o7;let WL:=b5.put aC ae (o:=o7);let bs:=ay (H:=H6) (a:=p) (o:=o7);let aZ:∀g,g<3->fE K (upd H6 p o7) (G g) (i7 (ge ns) (CG ns)):=λg D=>(bF g D).mono λb x=>dH.past aC n9 cj;generalize upd H6 p o7=H7 at B7 WL bs aZ;let ap:ge (qs.map fx)=ge cl:=(by rw[af,WL.tup.len,af]);let bk:∀{i:Nat} {x:V} {X:Hp},(qs.map fx)[i]?=ac x->JU K t.bf X y ln lr lc ns rs qs cl->∃(Y:i<ge cl) (q:du),x=.ref q/\dH K X q [.int cl[i].1,.int cl[i].2]:=λ{i x X} hx ev=>(by let Y:=(ai.mp hx).1;rw[ap] at Y;let hq:i<ge qs:=(by rw[<- af (f:=fx),ap];erw[Y]);erw[Y,qs[i],4,ev.tup.at' i _ _ (aa hq) (by rw[ao,aa Y];rfl)];rw[ao,aa hq] at hx;erw[(aI hx).symm]);erw[bY λNx N=>?_];erw[1,lc,2,#[_,WL.vC],λO bw=>?_];erw[Kz (λi=>cl[i]?.map λc=>fw (c.1:Nat)) bw WL.vC ∅ (λi x X R S hx sx h1 h2=>?_) (λH8 s8 W=>?_)];let#[Y,q,rfl,hq]:=bk hx (WL.mono sx);erw[1,q,9,hq,2,h1 _ _ (aH.refl _) (by rw[aa Y];rfl)];rw[ap,AZ] at W;let B8:=B7.add s8 bw W (r:=.aE) (λz=>by ext z);let bG:=WL.mono s8;let aP:=s8 _ _ bs;subst ck;erw[1,p,_,s,1,aP,T.bX,T.ny,(by show 4<1000;decide),4];rw[fF (names:=["town","strands","rows_by_group","books"]) rfl (↑_)];erw[N _ _ ?_];generalize b0:gd t.dF s ((((([]++[(eC "town",fx y)])++[(eC "strands",fx I)])++[(eC "rows_by_group",fx A)])++[(eC "books",fx C)])++[(eC "homes",fx O)])=o9;let B9:=B8.put o9;let am:=bG.put aP ae (o:=o9);let a9:=ay (H:=H8) (a:=p) (o:=o9);let bo:∀g,g<3->fE K (upd H8 p o9) (G g) (i7 (ge ns) (CG ns)):=λg D=>((aZ g D).mono λb x=>s8.cU).mono λb x=>dH.past aP n9 cj;generalize upd H8 p o9=H9 at B9 am a9 bo;erw[bY λNx N=>?_];erw[1,lc,2,#[_,am.vC],λab a7=>?_];erw[Kz (λi=>cl[i]?.map λc=>fw (c.2:Nat)) a7 am.vC ∅ (λi x X R S hx sx h1 h2=>?_) (λNH AQ W=>?_)];let#[Y,q,rfl,hq]:=bk hx (am.mono sx);erw[1,q,9,hq,2,h1 _ _ (aH.refl _) (by rw[aa Y];rfl)];rw[ap,AZ] at W;let bO:=B9.add AQ a7 W (r:=.groups) (λz=>by ext z);let bK:=am.mono AQ;let aO:=AQ _ _ a9;subst b0;erw[1,p,_,s,1,aO,T.bX,T.nO,(by show 5<1000;decide),4];rw[fF (names:=["town","strands","rows_by_group","books","homes"]) rfl (↑_)];erw[N _ _ ?_];generalize b3:gd t.dF s (((((([]++[(eC "town",fx y)])++[(eC "strands",fx I)])++[(eC "rows_by_group",fx A)])++[(eC "books",fx C)])++[(eC "homes",fx O)])++[(eC "groups",fx ab)])=WY;let aq:=bO.put WY;let Ym:=bK.put aO ae (o:=WY);let bn:=ay (H:=NH) (a:=p) (o:=WY);let bg:∀g,g<3->fE K (upd NH p WY) (G g) (i7 (ge ns) (CG ns)):=λg D=>((bo g D).mono λb x=>AQ.cU).mono λb x=>dH.past aO n9 cj;generalize upd NH p WY=Kv at aq Ym bn bg;generalize ce:uw (uw (mn acV C U ld) .aE O) .groups ab=agD at aq;generalize aU:jz (jz (jz (jz (jz (ma t.gX rV WK U ld 3) .c6 _) .aE _) .c6 _) .groups _) .c6 WY=acW at aq;let bz:∀g,acW .jy=de/\acW (.handed g)=de:=λg=>(by rw[<- aU,<- aA,<- ah];exists 22);erw[bY λNx N=>?_];erw[1,lc,2,#[_,Ym.vC],λad aL=>?_];erw[fK (n:=ge (qs.map fx)) (λi ys X=>∃Z:Nat->du,ys=(av i).map (λg=>.ref (Z g))/\J0 H X p (t0 agD ad Z) (sT acW Z i)) aL (jC Ym.vC) (fQ Ym.vC) ?_ ?_ ?_];(·erw[λ_=>0,2,(aq.new aL (r:=.jy) (λz=>by ext z) (.lst [])).ext (λr=>?_) (λr m=>?_)];(·(ext r <;> first|rfl|skip);rename_i g;show acW (.handed g)=(if g<0 then ac (gc []) else de);rw[eH (qc g)];erw[(bz g).2]);·(ext r <;> first|rfl|skip);rename_i g;erw[ff (bz g).2 m]);(·intro i ys X Y sx W ⟨Z,rfl,B⟩ x aj ⟨rfl,hx⟩;erw[bL _,λl hl=>?_];let u:=aH.new (o:=.lst []) hl;let B3:=(B.new hl (r:=.handed i) (λz=>by ext z) (.lst [])).aia (r:=.jy) (bC _) (λz=>by ext z) (.lst ((av i).map (λg=>fx (Z g))++[.ref l]));erw[dS aL Y (sx.trans u) (u _ _ W) (by rw[af,aX];erw[bP ∅]) #[gM Z i l,(Au Z i l).symm,B3.ext (λr=>?_) (λr m=>?_)]];(·(ext r <;> first|rfl|skip);show ac (gc _)=ac (gc _);rw[Au];rename_i g;(show jz (sT acW Z i) (.handed i) _ (.handed g)=if g<i+1 then ac (gc []) else de);by_cases z:g=i;subst z;rw[fD,eG ∅];rw[dD (λe=>z (by ext e;rfl))];show (if g<i then ac (gc []) else de)=_;by_cases z2:g<i;rw[eG z2,eG ∅];rw[eH z2,eH ∅]);·(ext r <;> first|rfl|skip);rename_i g;show uw (t0 agD ad Z) (.handed i) l (.handed g)=gM Z i l g;by_cases z:g=i;subst z;rw[gV,c9];rw[gC (λe=>z (by ext e;rfl)),fL z];rfl);intro ys aj aW W ⟨Z,rfl,aR⟩;rw[ap] at aR;let cc:∀g,g<3->fE K aj (G g) (i7 (ge ns) (CG ns)):=λg D=>(bg g D).mono λb x=>aW.cU;let bd:=aW _ _ bn;subst b3;erw[1,p,_,s,1,bd,T.bX,T.BL,(by show 6<1000;decide),4];rw[fF (names:=["town","strands","rows_by_group","books","homes","groups"]) rfl (↑_)];erw[N _ _ ?_];generalize cg:gd t.dF s ((((((([]++[(eC "town",fx y)])++[(eC "strands",fx I)])++[(eC "rows_by_group",fx A)])++[(eC "books",fx C)])++[(eC "homes",fx O)])++[(eC "groups",fx ab)])++[(eC "handed",fx ad)])=o13;let aQ:=aR.put o13;let a6:=ay (H:=aj) (a:=p) (o:=o13);let bc:∀g,g<3->fE K (upd aj p o13) (G g) (i7 (ge ns) (CG ns)):=λg D=>(cc g D).mono λb x=>dH.past bd n9 cj;generalize upd aj p o13=H13 at aQ a6 bc;erw[bY λNx N=>?_];erw[bL _,λag aV=>?_];let ba:=aQ.new aV (r:=.dQ) (λz=>by ext z) (.lst []);let bx:=aH.new (o:=.lst []) aV;let aJ:=bx _ _ a6;let bm:∀g,g<3->fE K (upd H13 ag (.lst [])) (G g) (i7 (ge ns) (CG ns)):=λg D=>(bc g D).mono λb x=>bx.cU;generalize upd H13 ag (.lst [])=H14 at ba aJ bm;subst cg;erw[1,p,_,s,1,aJ,T.bX,T.ic,(by show 7<1000;decide),4];rw[fF (names:=["town","strands","rows_by_group","books","homes","groups","handed"]) rfl (↑_)];erw[N _ _ ?_];generalize bI:gd t.dF s (((((((([]++[(eC "town",fx y)])++[(eC "strands",fx I)])++[(eC "rows_by_group",fx A)])++[(eC "books",fx C)])++[(eC "homes",fx O)])++[(eC "groups",fx ab)])++[(eC "handed",fx ad)])++[(eC "letters",fx ag)])=o15;let bj:=ba.put o15;let bu:=ay (H:=H14) (a:=p) (o:=o15);let bb:∀g,g<3->fE K (upd H14 p o15) (G g) (i7 (ge ns) (CG ns)):=λg D=>(bm g D).mono λb x=>dH.past aJ n9 cj;generalize upd H14 p o15=H15 at bj bu bb;erw[bL _,λan a8=>?_];let a3:=bj.new a8 (r:=.gj) (λz=>by ext z) (.lst []);let a0:=aH.new (o:=.lst []) a8;let aN:=a0 _ _ bu;let bv:∀g,g<3->fE K (upd H15 an (.lst [])) (G g) (i7 (ge ns) (CG ns)):=λg D=>(bb g D).mono λb x=>a0.cU;generalize upd H15 an (.lst [])=H16 at a3 aN bv;subst bI;erw[1,p,_,s,1,aN,T.bX,T.kT,(by show 8<1000;decide),4];rw[fF (names:=["town","strands","rows_by_group","books","homes","groups","handed","letters"]) rfl (↑_)];generalize bQ:gd t.dF s ((((((((([]++[(eC "town",fx y)])++[(eC "strands",fx I)])++[(eC "rows_by_group",fx A)])++[(eC "books",fx C)])++[(eC "homes",fx O)])++[(eC "groups",fx ab)])++[(eC "handed",fx ad)])++[(eC "letters",fx ag)])++[(eC "copies",fx an)])=o17;let bh:=a3.put o17;let a2:∀g,g<3->fE K (upd H16 p o17) (G g) (i7 (ge ns) (CG ns)):=λg D=>(bv g D).mono λb x=>dH.past aN n9 cj;generalize upd H16 p o17=H17 at bh a2;subst bQ aU ce aA b7 ah b1;let cd:ge (rs.map λr:R5=>av r.d.toNat)=ge L:=(by rw[af];erw[el.symm]);let b9:L.map fx=(av (ge (rs.map λr:R5=>av r.d.toNat))).map λi=>fx (L.getD i 0):=(by rw[cd];erw[k6 (-_) λi h1 h2=>?_];simp at h1;simp[h1]);let ar:J0 H H17 p (tJ p I lu L A la C U ld O ab ad Z ag an) (g0 (nc t) (tf s J WK) y (tJ p I lu L A la C U ld O ab ad Z ag an) #[G,λ_=>[],[]] (S0 ns rs cl)):=(by erw[bh.ext (λr=>?_) (λr m=>?_)];(·(ext r <;> first|rfl|skip);(case eZ=>show ac (gc (L.map fx))=ac (gc ((av (ge (rs.map λr:R5=>av r.d.toNat))).map λi=>fx (L.getD i 0)));rw[<- b9]);(case iK j=>show (if ((rs.map λr:R5=>av r.d.toNat)[j]?.map λw=>gc (bA w)).isSome=df then ((rs.map λr:R5=>av r.d.toNat)[j]?.map λw=>gc (bA w)) else de)=((rs.map λr:R5=>av r.d.toNat)[j]?.map λw=>gc (bA w));cases (rs.map λr:R5=>av r.d.toNat)[j]? <;> rfl);(case aE=>show ac (gc _)=ac (gc ((cl.map (·.1)).map _));rw[bZ];rfl);(case groups=>show ac (gc _)=ac (gc ((cl.map (·.2)).map _));rw[bZ];rfl);(case jy=>show ac (gc ((av (ge cl)).map λg=>fx (Z g)))=ac (gc ((av (ge (cl.map λ_=>([]:!Nat)))).map λg=>fx (Z g)));rw[af]);case handed j=>show (if j<ge cl then ac (gc []) else de)=((cl.map λ_=>([]:!Nat))[j]?.map λw=>gc (bA w));rw[ao];by_cases z:j<ge cl;rw[eG z,aa z];rfl;rw[eH z,lF ∅];rfl);·(ext r <;> first|rfl|erw[ff rfl m]|skip);case iK j=>show (if ((rs.map λr:R5=>av r.d.toNat)[j]?.map λw=>gc (bA w)).isSome=df then L.getD j 0 else p)=L.getD j 0;let m:(if ((rs.map λr:R5=>av r.d.toNat)[j]?.map λw=>gc (bA w)).isSome=df then ((rs.map λr:R5=>av r.d.toNat)[j]?.map λw=>gc (bA w)) else de)≠de:=m;cases e:(rs.map λr:R5=>av r.d.toNat)[j]? with|none=>rw[e] at m;erw[ff rfl m]|some w'=>rfl);erw[k _ H17 #[_,tf s J WK,#[G,λ_=>[],[]],ar.np,ar.own,λb=>Iff.rfl,#[a2,λi l e=>?_,#[2,λi q x e=>by ext e]]] ar.kp ar.fr];ext e
inductive Yn(K:ah)(c:NC)(vs:!V)(H:Hp)(Q:VK)(E:XK):Prop
 |mk(F:du->Prop)(p tp:du)(n g:Nat)(s:NS):vs=[.ref p,.int g]->eT K c H F p tp n s->g<3->(∀l(qs:!du)H',aH H H'->H l=de->H' l=ac (.lst (qs.map fx))->fE K H' qs (i7 n (s.R g))->Q (.ref l) H')->Yn K c vs H Q E
theorem ud(T:Txt K mg w t):oM P w mg base T.pS 2 (Yn K (nc t)):=by erw[T.pS.F.iV TN λH Q E j h=>?_];·let#[F,p,r,n,g,st,rfl,#[a,s,q,f,O,m,i],c,k]:=h;erw[_,(au (fC (D5 (DS T) (j.mono (!_)) rfl T.jK.g T.jK.F.kp T.jK.B .nil S9 (dj (pv 1)))) (oR (cJ kq (by rfl) T.BN boot_list (dj (xL (bF (pv 0) rfl) (pv 1)))))),4];left;let e:=O.get .c6 _ rfl;rw[f] at e;erw[1,g,2,λ_=>?_,λz=>ff #[55] z];erw[1,p,336,e,T.bX,T.oh,8,a .wM,9,bJ.of (O.get .wM _ rfl),ux c,a (.rows g),1,.inl (bJ.of (O.get (.rows g) _ (eG c))),λl d=>?_];let u:=aH.new (o:=.lst ((q.rq g).map fx)) d;erw[k l (q.rq g) _ u d ay ((i.rows g c).mono λb x=>u.cU)]
inductive Yo(K:ah)(CT:du)(c:NC)(vs:!V)(H:Hp)(Q:VK)(E:XK):Prop
 |mk(F:du->Prop)(p tp ln lr:du)(ns:!Int)(rs:!R5)(s:NS)(g:Nat):vs=[.ref p,.int g]->NW K c CT H F p tp ln lr ns rs s->cS ns rs->A0 ns rs s->g<3->(∀l H',aH H H'->H l=de->H' l=ac (.lst (bA (lN rs s.ws g)))->Q (.ref l) H')->Yo K CT c vs H Q E
theorem yF(T:Txt K mg w t):oM P w mg base T.rQ 3 (Yo K t.bf (nc t)):=by erw[T.rQ.F.iV TR λH Q E j h=>?_];·let#[F,p,n,y,C,v,i,st,g,rfl,N,ok,u,D,k]:=h;erw[_,(oR (sr (bF (pv 0) rfl) T.fM T.xr.m (Kp T) (j.mono (!_)) T.xr.B .nil S9 (dj (pv 1)))),4];left;let#[a,o,q,d,O,G,I]:=N.c6;let c:=O.get .c6 _ rfl;rw[d] at c;erw[1,p,336,c,T.bX,T.oN,2,a .dB,o .dB,1,O.get .dB _ rfl,8,a .dB,n,a .eZ,y,C,v,i,st.ws,g,2,N.yS,O.strAt,u.wl,ok.Sw,(λr b=>#[(ok.ok r b).e1,(ok.ok r b).e7]),λs l A J _ x f e=>?_,λz=>ff #[55] z];let:s=g:=∅;subst this;erw[k l A x f e]
inductive Uv(K:ah)(CT:du)(c:NC)(vs:!V)(H:Hp)(Q:VK)(E:XK):Prop
 |mk(F:du->Prop)(p tp ln lr:du)(ns:!Int)(rs:!R5)(s:NS)(o:cS ns rs)(g:Nat):vs=[.ref p,.int g]->NW K c CT H F p tp ln lr ns rs s->A0 ns rs s->g<3->(∀l os H',aH H H'->H l=de->H' l=ac (.lst (bA os))->fm (gW ns rs o s.ws g) (s.R g) os->ge os<=12->Q (.ref l) H')->Uv K CT c vs H Q E
theorem Hr(T:Txt K mg w t):oM P w mg base T.yq 6 (Uv K t.bf (nc t)):=by erw[T.yq.F.iV Rg λH Q E e h=>?_];·let#[F,p,f,o,r,ns,j,st,ok,g,rfl,N,m,d,k]:=h;erw[_,(oR (D5 (Uk T) (e.mono (!_)) rfl T.DE T.Ew.F.kp T.Ew.B .nil nX (Lv (bF (pv 0) rfl) (cM (pv 0) T.bX T.rQ (yF T) e (dj (pv 1))) (cM (pv 0) T.bX T.pS (ud T) e (dj (pv 1)))))),4];left;let#[C,X,q,u,O,V,W]:=id N.c6;let c:=O.get .c6 _ rfl;rw[u] at c;erw[1,p,336,c,T.bX,T.kR,24];erw[1,p,6,c,8,F,p,f,o,r,ns,j,st,g,2,N,ok,m,d,λI S b z D=>?_];let n:=N.mono b;erw[1,p,6,b _ _ c,8,F,p,f,ge ns,g,st,2,n.c6,d,λM U Y a A s L=>?_];exists f,o,r,I,M,ns,j,_,ok.nd,ok.ok,mZ,st.R g,2,n.yS.mono a,bJ.of (a _ _ D),L.Q0 (bJ.of s),by let:=ok.V9;lia,ok.Sw,m.fit g d,λl os x v y J G i=>?_;erw[k l os x (b.trans (a.trans v)) ((b.trans a).free y) J G i]
inductive M2(K:ah)(CT:du)(c:NC)(vs:!V)(H:Hp)(Q:VK)(E:XK):Prop
 |mk(F:du->Prop)(p tp ln lr:du)(ns:!Int)(rs:!R5)(s:NS)(o:cS ns rs)(g:Nat):vs=[.ref p,.int g]->NW K c CT H F p tp ln lr ns rs s->A0 ns rs s->g<3->(∀(y:Bool)H',aH H H'->(y=df↔RM.Rest (gW ns rs o s.ws g) (s.R g))->Q (.bl y) H')->M2 K CT c vs H Q E
theorem M3(T:Txt K mg w t):oM P w mg base T.zD 5 (M2 K t.bf (nc t)):=by erw[T.zD.F.iV LW λH Q E e h=>?_];·let#[F,p,f,m,n,ns,i,st,ok,g,rfl,N,j,c,k]:=h;erw[_,(oR (D5 (WE T) (e.mono (!_)) rfl T.Kl T.Eu.F.kp T.Eu.B .nil nX (Lv (bF (pv 0) rfl) (cM (pv 0) T.bX T.rQ (yF T) e (dj (pv 1))) (cM (pv 0) T.bX T.pS (ud T) e (dj (pv 1)))))),4];left;let#[A,U,q,r,O,M,S]:=id N.c6;let a:=O.get .c6 _ rfl;rw[r] at a;erw[1,p,336,a,T.bX,T.kR,24];erw[1,p,6,a,8,F,p,f,m,n,ns,i,st,g,2,N,ok,j,c,λD J d x C=>?_];let l:=N.mono d;erw[1,p,6,d _ _ a,8,F,p,f,ge ns,g,st,2,l.c6,c,λI L V b z o G=>?_];exists f,m,n,D,I,ns,i,_,ok.nd,ok.ok,mZ,st.R g,2,l.yS.mono b,bJ.of (b _ _ C),G.Q0 (bJ.of o),by let:=ok.V9;lia,ok.Sw,j.fit g c,ok.pos,λy u s v=>k y u (d.trans (b.trans s)) v
inductive Uw(K:ah)(CT:du)(c:NC)(vs:!V)(H:Hp)(Q:VK)(E:XK):Prop
 |mk(F:du->Prop)(p tp ln lr:du)(ns:!Int)(rs:!R5)(s:NS)(h:Nat):vs=[.ref p,.int h]->NW K c CT H F p tp ln lr ns rs s->h<ge ns->Q .gw H->Uw K CT c vs H Q E
theorem xK(T:Txt K mg w t):oM P w mg base T.mG 1 (Uw K t.bf (nc t)):=by erw[T.mG.F.iV FP λH Q E m h=>?_];·let#[F,p,e,o,r,ns,l,st,x,rfl,N,g,k]:=h;erw[_,(b6 (cV (ki (lH rE xV aF (pv 1) (bF (bF (pv 0) rfl) rfl))) dO bR)),4];left;let#[f,n,q,c,O,i,j]:=id N.c6;let#[#[d,a],_]:=id N.yS;let b:=O.get .c6 _ rfl;rw[c] at b;exists 1684;rw[fy (show (0:Int)<=(x:Int) by lia)];erw[fZ #[1,p,336,b,T.bX,T.kR,2,e,_,d,6,a,T.gk,T.kh,2684]];rw[fy (show (x:Int)<(ge ns:Int) by lia)];erw[fP k]
inductive Qd(K:ah)(c:NC)(vs:!V)(H:Hp)(Q:VK)(E:XK):Prop
 |mk(F:du->Prop)(p tp:du)(n x:Nat)(s:NS):vs=[.ref p,.int x]->eT K c H F p tp n s->x<ge s.aE->Q .gw H->Qd K c vs H Q E
theorem jQ(T:Txt K mg w t):oM P w mg base T.gY 1 (Qd K (nc t)):=by erw[T.gY.F.iV EU λH Q E g h=>?_];·let#[F,p,i,n,x,st,rfl,#[a,j,q,c,O,e,f],d,k]:=h;erw[_,(b6 (cV (ki (lH rE xV aF (pv 1) (lS T.gE (bF (pv 0) rfl)))) dO bR)),4];left;let b:=O.get .c6 _ rfl;rw[c] at b;exists 1684;rw[fy (show (0:Int)<=(x:Int) by lia)];erw[fZ #[1,p,336,b,T.bX,T.ny,2,a .aE,1,.inl (bJ.of (O.get .aE _ rfl)),684]];rw[af,fy (show (x:Int)<(ge st.aE:Int) by lia)];erw[fP k]
inductive Ux(K:ah)(CT:du)(c:NC)(vs:!V)(H:Hp)(Q:VK)(E:XK):Prop
 |mk(F:du->Prop)(p tp ln lr:du)(ns:!Int)(rs:!R5)(s:NS)(h g:Nat):vs=[.ref p,.int h,.int g]->NW K c CT H F p tp ln lr ns rs s->h<ge ns->g<3->(∀q H',aH H H'->dH K H' q (cz (s.R g h))->Q (.ref q) H')->Ux K CT c vs H Q E
theorem Fc(T:Txt K mg w t):oM P w mg base T.vB 3 (Ux K t.bf (nc t)):=by erw[T.vB.F.iV NY λH Q E e h=>?_];·let#[F,p,f,y,z,ns,r,st,x,g,rfl,N,d,o,k]:=h;erw[_,(au (fC (cM (pv 0) T.bX T.mG (xK T) e (dj (pv 1)))) (oR (xL (cM (pv 0) T.bX T.pS (ud T) e (dj (pv 2))) (pv 1)))),4];left;let#[s,D,q,m,O,A,C]:=id N.c6;let c:=O.get .c6 _ rfl;rw[m] at c;erw[1,p,6,c,8,F,p,f,y,z,ns,r,st,x,2,N,d,4];erw[1,p,6,c,8,F,p,f,ge ns,g,st,2,N.c6,o,λl b u n B j i=>?_];let G:ge b=ge ns:=(by rw[i.len];simp[i7]);let a:x<ge b:=∅;erw[1,l,9,bJ.of j,cH (v:=.ref b[x]) (by rw[ao,aa a];rfl),k _ u n (i.at' x _ _ (aa a) ?_)];delta i7;rw[ao,dw d];rfl
inductive x5(K:ah)(c:NC)(vs:!V)(H:Hp)(Q:VK)(E:XK):Prop
 |mk(F:du->Prop)(p tp:du)(n x:Nat)(s:NS)(hd:!Nat):vs=[.ref p,.int x]->eT K c H F p tp n s->x<ge s.aE->s.had[x]?=ac hd->(∀l H',aH H H'->H l=de->H' l=ac (.lst (bA hd))->Q (.ref l) H')->x5 K c vs H Q E
theorem WM(T:Txt K mg w t):oM P w mg base T.IP 2 (x5 K (nc t)):=by erw[T.IP.F.iV Wj λH Q E g h=>?_];·let#[F,p,i,n,x,st,j,rfl,N,f,a,k]:=h;erw[_,(au (fC (cM (pv 0) T.bX T.gY (jQ T) g (dj (pv 1)))) (oR (cJ kq (by rfl) T.BN boot_list (dj (xL (bF (pv 0) rfl) (pv 1)))))),4];left;let#[b,r,q,e,O,m,o]:=id N;let d:=O.get .c6 _ rfl;rw[e] at d;let c:=(ai.mp a).1;erw[1,p,6,d,8,F,p,i,n,x,st,2,N,f,4];erw[1,p,336,d,T.bX,T.BL,8,b .jy,9,bJ.of (O.get .jy _ rfl),ux c,b (.handed x),1,.inl (bJ.of (O.get (.handed x) (.lst (bA j)) (by show (st.had[x]?.map _)=_;rw[a];rfl))),λl c=>?_];erw[k l _ (aH.new c) c ay]
inductive Qe(K:ah)(c:NC)(vs:!V)(H:Hp)(Q:VK)(E:XK):Prop
 |mk(F:du->Prop)(p tp:du)(n:Nat)(s:NS):vs=[.ref p]->eT K c H F p tp n s->(∀l(qs:!du)H',aH H H'->H l=de->H' l=ac (.lst (qs.map fx))->fE K H' qs (s.cps.map Cp.vs)->Q (.ref l) H')->Qe K c vs H Q E
theorem Fd(T:Txt K mg w t):oM P w mg base T.nN 1 (Qe K (nc t)):=by erw[T.nN.F.iV NZ λH Q E i h=>?_];·let#[F,p,j,n,st,rfl,N,k]:=h;erw[_,(oR (cJ kq (by rfl) T.BN boot_list (dj (bF (pv 0) rfl)))),4];left;let#[a,m,q,e,O,g,f]:=id N;let d:=O.get .c6 _ rfl;rw[e] at d;erw[1,p,336,d,T.bX,T.kT,2,a .gj,1,.inl (bJ.of (O.get .gj _ rfl)),λl c=>?_];let u:=aH.new (o:=.lst (q.cq.map fx)) c;erw[k l q.cq _ u c ay (f.cps.mono λb x=>u.cU)]
noncomputable def xM(g:Nat)(l:LS):LS:=if l.grp=g then {l with old:=df} else l
noncomputable def Av(s:NS)(g:Nat):NS:={s with ts:=gM s.ts g [],ls:=s.ls.map (xM g)}
inductive Yp(K:ah)(c:NC)(vs:!V)(H:Hp)(Q:VK)(E:XK):Prop
 |mk(F:du->Prop)(p tp:du)(n g:Nat)(s:NS):vs=[.ref p,.int g]->eT K c H F p tp n s->g<3->(∀F' H',eT K c H' F' p tp n (Av s g)->Step H F H' F'->Q .gw H')->Yp K c vs H Q E
theorem sf(T:Txt K mg w t):oM P w mg base T.lR 2 (Yp K (nc t)):=by erw[T.lR.F.iV Al λH Q E hr h=>?_];·let#[F,p,Y,n,g,st,rfl,#[d,dx,q,U,O,hF,hT],A,k]:=h;erw[_,(au (fC (ow (xL (bF (pv 0) rfl) (pv 1)) T.Ga T.sU.m (MY T) (hr.mono (!_)) T.sU.B .nil nX)) (b6 (fS (cY (bF (pv 0) rfl)) (gT 2 Al) (b6 (cV (qT i0 (bF (pv 2) rfl) (pv 1)) (b6 (gR (pv 2) KY rfl)) bR))))),4];left;let Z:=O.get .c6 _ rfl;rw[U] at Z;erw[1,p,336,Z,T.bX,T.yu,8,d .mh,9,bJ.of (O.get .mh _ rfl),ux A,d (.book g),dx (.book g),1,O.get (.book g) _ (eG A),2,d (.book g),d (.gQ g),st.ts g,2,O.Wa A,λd' W M hB kp=>?_];let#[#[ab,D],L]:=hB;let#[v,N',G]:=Wb U O hF hT A M D L kp;let#[b,l,q',s,J,N,I]:=N';let X:mz K (nc t) W v b l q' p Y n {st with ts:=gM st.ts g []}:=#[s,J,N,I];let u:=J.get .c6 _ rfl;rw[s] at u;let WN:=J.get .dQ _ rfl;erw[1,p,336,u,T.bX,T.ic,2,b .dQ,2,#[_,bJ.of WN],wz (K:=K) (a:=b .dQ) (xs:=(av (ge st.ls)).map λi=>.ref (b (.cR i))) (λi x r=>mz K (nc t) r v b l q' p Y n {st with ts:=gM st.ts g [],ls:=(st.ls.take i).map (xM g)++st.ls.drop i}/\Step W v r v/\∃C:Option V,x=[ac (.ref p),ac (.int g),C]) #[by rw[List.take_zero,List.drop_zero];exact X,Step.refl' (aH.refl _),1] (λi x r _ z=>?_) ?_ ?_];let e:=z.1.own.get .dQ _ rfl;let el:ge ((st.ls.take i).map (xM g)++st.ls.drop i)=ge st.ls:=(by rw[az,af,<- az,List.take_append_drop]);erw[bJ.of (e.trans ?_)];show ac (gc ((av (ge ((st.ls.take i).map (xM g)++st.ls.drop i))).map _))=_;rw[el];(·intro i y x r S ⟨o,f,C,rfl⟩;let c:i<ge st.ls:=(by let:=(ai.mp S).1;rw[af,aX] at this;erw[this]);rw[ao,dw c] at S;ext S;let j:((st.ls.take i).map (xM g)++st.ls.drop i)[i]?=ac st.ls[i]:=(by rw[bE (by rw[af,bU];lia),af,bU,Nat.min_eq_left ∅,fB,List.getElem?_drop,Nat.add_zero];erw[aa c]);(let Sx:=o.own.get (.cR i) (qv (nc t) l b i st.ls[i]) (by show (((st.ls.take i).map (xM g)++st.ls.drop i)[i]?.map _)=_;rw[j];rfl);let next:(st.ls.take (i+1)).map (xM g)++st.ls.drop (i+1)=((st.ls.take i).map (xM g)++st.ls.drop i).set i (xM g st.ls[i]):=by rw[fV,aa c,aN,dW,qd _ _ (by rw[af,bU];lia),af,bU,Nat.min_eq_left ∅,fB,tZ c];rfl);rw[next];erw[13336,Sx,T.fq,T.nh,88,lZ (λe=>?_) (λe=>?_)];let e:(st.ls[i]).grp=g:=(by let:=V.int.inj (g4 e);lia);erw[1336,Sx,T.fq,T.BK,(by show 5<1000;decide),4];let#[X3,R]:=aeH o j;erw[4,f.trans R,1];delta xM;rw[eG e];erw[X3];let e:¬(st.ls[i]).grp=g:=λz=>e (fy (by rw[z]));erw[4,f,1];let:xM g st.ls[i]=st.ls[i]:=eH e;rw[this,wN j];erw[o]);intro x r ⟨o,f,C,rfl⟩;rw[af,aX,cX (aA _),List.drop_eq_nil_of_le (aA _),cu] at o;erw[k v r o.c6 (G.trans f)]
noncomputable def nB(s:NS)(g x:Nat)(d:RM.Row):NS:=if d=s.R g x then s else Av {s with R:=gM s.R g (RM.upd (s.R g) x d)} g
inductive Uy(K:ah)(CT:du)(c:NC)(vs:!V)(H:Hp)(Q:VK)(E:XK):Prop
 |mk(F:du->Prop)(p tp ln lr:du)(ns:!Int)(rs:!R5)(s:NS)(o:cS ns rs)(x g:Nat):vs=[.ref p,.int x,.int g]->NW K c CT H F p tp ln lr ns rs s->A0 ns rs s->x<ge ns->g<3->(∀d F' H',RM.nY (N:=gW ns rs o s.ws g) (ge ns) (s.R g) x d->AR (ge ns) (ge rs) d->eT K c H' F' p tp (ge ns) (nB s g x d)->Step H F H' F'->(d=s.R g x->aH H H')->Q (.bl ((decide (d=s.R g x)).not)) H')->Uy K CT c vs H Q E
theorem JV(T:Txt K mg w t):oM P w mg base T.BA 4 (Uy K t.bf (nc t)):=by erw[T.BA.F.iV Dg λH Q E j h=>?_];·let#[F,p,r,Y,M,ns,W,st,ok,x,g,rfl,N,A,i,a,k]:=h;erw[_,(au (sS 3 Dg (cM (pv 0) T.bX T.vB (Fc T) j (oW (pv 1) (pv 2)))) (au (sS 4 Dg (cG (y2 T) j T.XR (mj (bF (pv 0) rfl) (cM (pv 0) T.bX T.rQ (yF T) j (dj (pv 2))) (cM (pv 0) T.bX T.pS (ud T) j (dj (pv 2))) (pv 1)))) (au (cV (qT yM (pv 4) (pv 3)) oB bR) (au (HL (pv 4) (HK (xL (bF (pv 0) rfl) (pv 2)) (pv 1) hY)) (au (fC (cM (pv 0) T.bX T.lR (sf T) j (dj (pv 2)))) oB))))),4];left;let#[ah,dx,q,hp,O,hF,hT]:=id N.c6;let D:=O.get .c6 _ rfl;rw[hp] at D;erw[1,p,6,D,81,F,p,r,Y,M,ns,W,st,x,g,2,N,i,a,λq1 H1 B X=>?_];let N1:=N.mono B;let jh:=B _ _ D;erw[1,p,336,jh,T.bX,T.kR,24];erw[1,p,6,jh,8,F,p,r,Y,M,ns,W,st,g,2,N1,ok,A,a,λl2 H2 I ae h2=>?_];let N2:=N1.mono I;erw[1,p,6,I _ _ jh,8,F,p,r,ge ns,g,st,2,N2.c6,a,λl3 qs H3 G aa h3 ht=>?_];let N3:=N2.mono G;erw[1,r,Y,M,l2,l3,ns,W,_,ok.nd,ok.ok,mZ,st.R g,x,2,N3.yS,bJ.of (G _ _ h2),ht.Q0 (bJ.of h3),i,ok.Sw,(A.fit g a).VS,λq4 d H4 s4 s f=>?_];let J:=Xz (A.fit g a) i ok.pos f;let N4:=N3.mono s4;let m:=I.trans (G.trans s4);let b:=B.trans m;erw[38,RM.Fw d,RM.Fw (st.R g x),RM.wC s,RM.wC (m.cU X),RM.wD _,RM.wD _,bM (b5 (aJ (dX _ _) (by rw[RM.HX];decide:(RM.Fw d).depth<=64)) _) j.units,4];rw[RM.Lf J.by1 (A.fit g a x i).by1];erw[1,lZ (λe=>?_) (λe=>?_)];let l:d=st.R g x:=g4 e;let:=k d F H4 f J (by delta nB;rw[eG l];erw[N4.c6]) (Step.refl' b) (λ_=>b);rw[fy l] at this;erw[this];let l:¬d=st.R g x:=λz=>e (fy z);let#[c,ab,n,o,y,U,v]:=id N4.c6;let DU:=y.get .c6 _ rfl;rw[o] at DU;let C:ge (n.rq g)=ge ns:=(by rw[(v.rows g a).len];simp[i7]);let#[F5,S,Vm]:=aeF o y U v a i s;erw[38,p,336,DU,T.bX,T.oh,8,c .wM,9,bJ.of (y.get .wM _ rfl),ux a,1,c (.rows g),9,y.get (.rows g) _ (eG a),AU (by rw[af,C];erw[i]),4];generalize upd H4 (c (.rows g)) (.lst (((n.rq g).map fx).set x (.ref q4)))=H5 at S Vm;let#[ad,ai,q5,Z,O5,aj,ag]:=id S;let u:=O5.get .c6 _ rfl;rw[Z] at u;erw[1,p,6,u,8,F5,p,r,ge ns,g,1,S,a,λF6 H6 N6 L=>?_];let:=k d F6 H6 f J (by delta nB;rw[eH l];erw[N6]) ((Step.refl' b).trans (Vm.trans L)) (λz=>ff z l);rw[gh l] at this;erw[this]
noncomputable def ji(s:NS)(e:Int)(m:Nat):NS:=(av m).foldl (λs g=>if x6 e g=df then Av s g else s) s
theorem jd:ji s e (m+1)=if x6 e m=df then Av (ji s e m) m else ji s e m:=by delta ji;rw[fk,List.foldl_append];rfl
inductive JW(K:ah)(CT:du)(c:NC)(vs:!V)(H:Hp)(Q:VK)(E:XK):Prop
 |mk(F:du->Prop)(p tp ln lr:du)(ns:!Int)(rs:!R5)(s:NS)(i:Nat)(r:R5):vs=[.ref p,.int i]->NW K c CT H F p tp ln lr ns rs s->cS ns rs->rs[i]?=ac r->(∀F' H',NW K c CT H' F' p tp ln lr ns rs (ji s r.e 3)->Step H F H' F'->Q .gw H')->JW K CT c vs H Q E
theorem oO(T:Txt K mg w t):oM P w mg base T.iB 3 (JW K t.bf (nc t)):=by erw[T.iB.F.iV oA λH Q E A h=>?_];·let#[F,p,l,C,G,ns,y,st,i,r,rfl,N,tok,D,k]:=h;let d:=tok.ok r (aD D);erw[_,(b6 (fS (eW rfl T.gF (dj (lS T.gE (je rfl T.nP (v:=.ref t.fU) rfl)))) (gT 2 oA) (b6 (cV (mT (cM (bF (pv 0) rfl) T.gk T.yp (Ho T) A (oW (pv 1) (pv 2)))) (oE (cM (pv 0) T.bX T.lR (sf T) A (dj (pv 2)))) bR)))),4];left;erw[6,.inr (T.ie _),(3:Int),2554];erw[D3 (n:=3) (λg m f=>∃(c:du->Prop)(o:Option V),NW K (nc t) t.bf f c p l C G ns y (ji st r.e g)/\Step H F f c/\m=[ac (.ref p),ac (.int i),o]) #[F,_,N,Step.refl' (aH.refl _),2] ?_ ?_];intro g m f x ⟨c,o,b,a,rfl⟩;rw[cT];let#[R,X,q,J,O,U,W]:=id b.c6;let#[#[L,s],_]:=id b.yS;let u:=O.get .c6 _ rfl;rw[J] at u;let#[z,B]:=tm x;erw[1,p,336,u,T.bX,T.kR,2,l,L,1,s,81,l,C,G,ns,y,i,r,g,z,2,b.yS,D,B,14];rw[Tn d.e1 d.e7 B];erw[lZ (λe=>?_) (λe=>?_)];erw[1,p,6,u,8,c,p,l,ge ns,g,1,b.c6,x,λM S I j=>?_];erw[M,34,a.trans j,2];rw[jd,eG e];erw[b.done j I];erw[c,34,a,2];rw[jd,eH e];erw[b];intro m f ⟨c,o,b,a,rfl⟩;erw[k c f b a]
theorem zY{n:Nat}(h:n<=1000000):n<eD:=bM h (by show 1000000<2^24;decide)
theorem WO{s:NS}{B:Nat}(h:∀l∈s.ls,ge l.aK<=B):∀l∈(eF s i d).ls,ge l.aK<=B+1:=by intro l a;delta eF at a;cases e:s.ls[i]? with|none=>rw[e] at a;erw[jO (h l a)]|some b=>(rw[e] at a;obtain z|rfl:=iW a;erw[jO (h l z)];show ge (b.aK++[d])<=B+1;rw[az];erw[rG (h b (aD e)) 1])
theorem Uz{s:NS}{i x B:Nat}(h:∀l∈s.ls,ge l.aK<=B):∀m,m<=ge s.cps->∀l∈(kg s i x m).ls,ge l.aK<=B+m
 |0,_=>by rw[A2];erw[h]
 |m+1,c=>by
  let a:=Uz (i:=i) (x:=x) h m ∅;rw[wO ∅];delta qw;split
  ·erw[WO a]
  ·erw[λl b=>jO (a l b)]
inductive Yq(K:ah)(c:NC)(vs:!V)(H:Hp)(Q:VK)(E:XK):Prop
 |mk(F:du->Prop)(p tp:du)(n:Nat)(i x:Nat)(s:NS)(B:Nat):vs=[.ref p,.int i,.int x]->eT K c H F p tp n s->(∀cp∈s.cps,cp.l<ge s.ls)->(∀l∈s.ls,ge l.aK<=B)->B+ge s.cps<=1000000->(∀F' H',eT K c H' F' p tp n (m5 s i x)->Step H F H' F'->Q .gw H')->Yq K c vs H Q E
theorem Gj(T:Txt K mg w t):oM P w mg base T.qM 1 (Yq K (nc t)):=by erw[T.qM.F.iV pP λH Q E hr h=>?_];·let#[F,p,tp,n,i,x,st,B,rfl,N,hc,hB,aq,k]:=h;erw[_,(au (sS 3 pP (eB gx)) (au (fS (cY (bF (pv 0) rfl)) (gT 4 pP) (b6 (cV (qT yM (jw QG (pv 4) (jP aF) (jP aF)) (i6 (oW (pv 1) (pv 2)))) (oE (jM bK bT bS fY (bF (xL (bF (pv 0) rfl) (xT (pv 4) aF)) rfl) (dj (i6 (Lv bH (xT (pv 4) aF) (pv 1)))))) (oE (jM bK bT bS fY (pv 3) (dj (pv 4))))))) (b6 (gR (pv 0) (pv 3) rfl)))),4];left;erw[bY λNx c8=>?_];erw[bL _,λl hl=>c8 _ _ ?_];let u1:=aH.new (o:=.lst []) hl;let h1:=ay (H:=H) (a:=l) (o:=.lst []);generalize upd H l (.lst [])=H1 at u1 h1;let nF:¬F l:=λz=>(by let#[o,e]:=N.there z;rw[hl] at e;ext e);let#[m,dx,q,hp,O,hF,hT]:=id (N.mono u1);let X:mz K (nc t) H1 F m dx q p tp n st:=#[hp,O,hF,hT];let cD:=O.get .c6 _ rfl;rw[hp] at cD;let ap:=O.get .gj _ rfl;let u:ge q.cq=ge st.cps:=(by let:=hT.cps.len;rw[af] at this;erw[this]);erw[bY λNx c8=>?_];erw[1,p,336,cD,T.bX,T.kT,2,m .gj,2,#[_,bJ.of ap],rJ (K:=K) (a:=m .gj) (xs:=q.cq.map fx) (λj σ I=>∃(Y:TQ)(M:!du)(v4:Option V),mz K (nc t) I F m dx Y p tp n (kg st i x j)/\Y.cq=q.cq/\Step H F I F/\I l=ac (.lst (M.map fx))/\fE K I M (((st.cps.take j).filter λc=>(nS i x c).not).map Cp.vs)/\σ=[ac (.ref p),ac (.int i),ac (.int x),ac (.ref l),v4]) #[q,[],_,by rw[A2];exact X,2,Step.refl' u1,h1,#[2,λi q x e=>by ext e],2] (λj σ I _ z=>?_) ?_ ?_];let#[Y,M,v4,s,eq,_]:=z;let:=s.own.get .gj _ rfl;erw[bJ.of (this.trans ?_)];rw[eq];intro j y σ I Nf C hj ⟨Y,M,v4,s,eq,Z,U,CI,rfl⟩;let ab:j<ge q.cq:=(by let:=(ai.mp hj).1;rw[af] at this;erw[this]);let J:j<ge st.cps:=∅;rw[ao,aa ab] at hj;ext hj;let G:dH K I q.cq[j] (st.cps[j]).vs:=s.tup.cps.at' j _ _ (by rw[eq];erw[aa ab]) (by rw[ZK,ao,aa J];rfl);let ae:=aB J;rw[wO J] at C;let ag:=PZ (f:=λc:Cp=>(nS i x c).not) J;rw[ag] at C;generalize st.cps[j]=g at G ae C;generalize q.cq[j]=a at G;let nw:¬(HT.n6 (ge g.vs) 0 (ac 1)=0/\HT.n6 (ge g.vs) (ge g.vs) (ac 3)=ge g.vs):=λz=>ff z.1 (by show HT.n6 4 0 (ac 1)≠0;decide);erw[138,a,1,G,nw,λz1 al=>?_];let ct:Ac g.vs (ac 1) (ac 3)=[fw g.r,fw g.w]:=rfl;rw[ct];let v1:=aH.new (o:=.tup [fw g.r,fw g.w]) al;erw[38,g5,λz2 ah=>?_];let v2:=aH.new (o:=.tup [fw i,fw x]) ah;erw[.tuple (([(g.r:Int),(g.w:Int)]:!Int).map .int),.tuple (([(i:Int),(x:Int)]:!Int).map .int),Rep.Pq (ns:=[(g.r:Int),(g.w:Int)]) (dH.of (v2 _ _ ay)),Rep.Pq (ns:=[(i:Int),(x:Int)]) (dH.of ay),iJ _,iJ _,bM (b5 (aJ (dX _ _) (by show eJ _+1<=64;rw[pY];decide)) _) hr.units,14];rw[XI];let v:=v1.trans v2;let L:=s.mono v;let WI:=v _ _ U;let R:=v.cU G;let D:=CI.mono λb x=>v.cU (a:=b) (xs:=x);let HQ:=Z.trans (Step.refl' (F:=F) v);generalize upd (upd I z1 (.tup [fw g.r,fw g.w])) z2 (.tup [fw i,fw x])=H4 at L WI R D HQ;erw[lZ (λe=>?_) (λe=>?_)];let on:nS i x g=df:=(by let#[e1,e2]:=g4 e;erw[fy #[55]]);let u:g.l<ge (kg st i x j).ls:=(by rw[PY];erw[hc g ae]);let A:(kg st i x j).ls[g.l]?=ac (kg st i x j).ls[g.l]:=aa u;let as:ge ((kg st i x j).ls[g.l]).aK<=B+j:=Uz hB j ∅ _ (aB u);let DU:=L.own.get .c6 _ rfl;rw[L.hp] at DU;let am:=L.own.get .dQ _ rfl;let ak:=L.own.get (.cR g.l) (qv (nc t) dx m g.l _) (by show ((kg st i x j).ls[g.l]?.map _)=_;rw[A];rfl);let ad:=L.own.get (.aK g.l) (.lst ((Y.dq g.l).map fx)) (by show ((kg st i x j).ls[g.l]?.map _)=_;rw[A];rfl);let Sy:=(L.tup.aK g.l _ A).len;rw[af] at Sy;delta qw at C;rw[eG on,gD A,on] at C;erw[1,p,336,DU,T.bX,T.ic,8,a,_,(0),12,R,2,m .dQ,9,bJ.of am,ux u,m (.cR g.l),336,ak,T.fq,T.j3,2,.inl #[23,bJ.of ad],1,a,_,(3),12,R,8,vD,λz3 aj=>?_];let v3:=aH.new (o:=.tup [fA "lost",fw g.h,fw i]) aj;let X5:=L.mono v3;erw[m (.aK g.l),62,v3 _ _ ad,zY (by rw[af,Sy];lia),4];let#[X6,W]:=C1 X5 A (d:=.abY g.h i) (dH.of ay);erw[C _ _ #[_,M,_,X6,eq,(HQ.trans (Step.refl' (F:=F) v3)).trans W,W.kp _ _ (v3 _ _ WI) nF,42]];rw[eH (!_),cu];erw[(D.mono λb x=>v3.cU (a:=b) (xs:=x)).mono λb x=>X5.c6.tup W.kp];let on:nS i x g=dr:=gh λz=>e (fy #[55]);delta qw at C;rw[on,eH (!_)] at C;let ar:ge M<=j:=(by rw[D.len,af];erw[aJ (bx _ _) ?_];rw[bU];erw[dX _ _]);erw[1,.inl #[23,bJ.of WI],1,l,62,WI,zY (by rw[af];lia),4];let S:=cj (H:=H4) (z:=l) (o:=.lst (M.map fx++[.ref a]));let X5:=L.past WI jm nF S;erw[C _ _ #[Y,M++[a],_,X5,eq,#[λb o e z=>S _ _ (HQ.kp b o e z) (aS e hl),HQ.fr],by rw[ay,aN];rfl,42]];rw[eG (!_),aN];erw[(D.snoc R).mono λb x=>dH.past WI jm S];intro σ I ⟨Y,M,v4,s,eq,Z,U,CI,rfl⟩;erw[c8 _ _ ?_];rw[af,u] at s CI;rw[gH] at CI;let#[F',N',kp,an,fr]:=Wc s.hp s.own s.fp s.tup U nF CI;let yG:=s.own.get .c6 _ rfl;rw[s.hp] at yG;erw[38,p,36,yG,T.bX,T.kT,(by show 9<1000;decide),4];erw[k F' _ N' #[λb o e z=>kp _ _ (Z.kp _ _ e z) (λy=>z (y▸an)),λb z=>?_]];obtain y|rfl:=fr b z;erw[.inl y];erw[.inr hl]
noncomputable def yH(s:NS)(i x:Nat)(w:!Nat)(e:Int):NS:=
 if (w.filter λz=>decide (z≠x)).isEmpty=df then ji (m5 {s with ws:=s.ws.set i (w.filter λz=>decide (z≠x))} i x) e 3 else m5 {s with ws:=s.ws.set i (w.filter λz=>decide (z≠x))} i x
inductive UA(K:ah)(CT:du)(c:NC)(vs:!V)(H:Hp)(Q:VK)(E:XK):Prop
 |mk(F:du->Prop)(p tp ln lr:du)(ns:!Int)(rs:!R5)(s:NS)(i x:Nat)(w:!Nat)(r:R5)(B:Nat):vs=[.ref p,.int i,.int x]->NW K c CT H F p tp ln lr ns rs s->cS ns rs->A0 ns rs s->(∀cp∈s.cps,cp.l<ge s.ls)->(∀l∈s.ls,ge l.aK<=B)->B+ge s.cps<=1000000->s.ws[i]?=ac w->rs[i]?=ac r->x∈w->(∀F' H',NW K c CT H' F' p tp ln lr ns rs (yH s i x w r.e)->Step H F H' F'->Q (.bl (w.filter λz=>decide (z≠x)).isEmpty) H')->UA K CT c vs H Q E
theorem UB(T:Txt K mg w t):oM P w mg base T.FY 4 (UA K t.bf (nc t)):=by erw[T.FY.F.iV JH λH Q E W h=>?_];·let#[F,p,y,Y,L,ns,rs,st,i,x,C,r,B,rfl,N,U,X,hc,hB,J,c,HU,D,k]:=h;erw[_,(au (sS 3 JH (sr (bF (pv 0) rfl) T.fM T.xq.m (Ko T) (W.mono (!_)) T.xq.B .nil S9 (oW (pv 1) (pv 2)))) (au (fC (cM (pv 0) T.bX T.qM (Gj T) W (oW (pv 1) (pv 2)))) (au (cV (mT (pv 3)) (oE (cM (pv 0) T.bX T.iB (oO T) W (dj (pv 1)))) bR) (oR (pv 3))))),4];left;let#[g,dx,q,hp,O,hF,hT]:=id N.c6;let cD:=O.get .c6 _ rfl;rw[hp] at cD;let u:=(ai.mp c).1;let Cv:i<ge rs:=(by rw[<- X.wl];erw[u]);erw[1,p,336,cD,T.bX,T.oN,2,g .dB,dx .dB,1,O.get .dB _ rfl,81,g .dB,y,g .eZ,Y,L,ns,rs,st.ws,i,x,2,N.yS,O.strAt,X.wl,X.w4,λj b w2 ls a H1 ej ek s Z Vp ha R G kp=>?_,λz=>ff #[55] z,λj w2 H1 ej s Z _=>?_];(case refine_2=>let:j=i:=∅;subst this;rw[c] at s;ext s;erw[ff rfl (Z x D)]);let:j=i:=∅;subst this;let:b=x:=∅;subst this;rw[c] at s;ext s;let#[F1,S,f]:=Tt hp O hF hT u Vp ha R G kp;let I:=N.done f S;let#[aj,ae,q1,A,O1,aa,ab]:=id S;let jh:=O1.get .c6 _ rfl;rw[A] at jh;dsimp only[iU];erw[1,p,6,jh,81,F1,p,y,ge ns,j,b,_,B,2,S,hc,hB,J,λF2 H2 N2 l=>?_];let o:=I.done l N2;delta yH at k;generalize (C.filter λz=>decide (z≠b)).isEmpty=eb at k;let#[ag,ad,q2,V,O2,af,ah]:=id N2;let yG:=O2.get .c6 _ rfl;rw[V] at yG;(try dsimp only);erw[xY (λσ v=>∃n:du->Prop,NW K (nc t) t.bf v n p y Y L ns rs (if eb=df then ji (m5 {st with ws:=st.ws.set j (C.filter λz=>decide (z≠b))} j b) r.e 3 else m5 {st with ws:=st.ws.set j (C.filter λz=>decide (z≠b))} j b)/\Step H F v n/\σ=[ac (.ref p),ac (.int j),ac (.int b),ac (.bl eb)]) ?_ λN' nx=>?_];(case refine_2=>erw[38,lZ (λe=>?_) (λe=>?_)];rw[eG e] at nx;erw[1,p,6,yG,8,F2,p,y,Y,L,ns,rs,_,j,r,2,o,U,HU,λn v M d=>?_];erw[nx _ _ #[n,M,f.trans (l.trans d),2]];rw[eH e] at nx;erw[nx _ _ #[F2,o,f.trans l,2]]);intro σ v ⟨n,M,d,rfl⟩;erw[1,k n v M d]
inductive x4(K:ah)(CT C NW:du)(vs:!V)(H:Hp)(Q:VK)(E:XK):Prop
 |mk(p tp lu ln lr:du)(ns:!Int)(rs:!R5)(ws:!(!Nat))(i x:Int):vs=[.ref p,.int i,.int x]->eN K CT H tp ln lr ns rs->xZ C H p tp lu ws->ge ws=ge rs->(∀w∈ws,ge w<=4)->(∀(j k:Nat)w w' r(ls:!du)(q:du)H',i=(j:Int)->x=(k:Int)->ws[j]?=ac w->rs[j]?=ac r->x<r.d->k∉w->w'.Perm (w++[k])->w'.Pairwise (·<=·)->H lu=ac (.lst (ls.map fx))->H q=de->H' q=ac (.lst (bA w'))->H' lu=ac (.lst ((ls.map fx).set j (.ref q)))->(∀b o,H b=ac o->b≠lu->H' b=ac o)->Q (.bl w.isEmpty) H')->(¬(0<=i/\i<ge rs)->E (.ref NW) de H)->(∀(j:Nat)w r H',i=(j:Int)->ws[j]?=ac w->rs[j]?=ac r->¬(0<=x/\x<r.d)\/(∃k∈w,x=(k:Nat))->aH H H'->E (.ref NW) de H')->x4 K CT C NW vs H Q E
theorem M4(T:Txt K mg w t):ou P w K mg base (HD P w) 3 t.oF t.E8 ["self","rope","wire"] (x4 K t.bf t.dR t.Aq):=by erw[T.zC.F.ZL Df λH Q E W h=>?_];·let#[p,tp,M,ln,lr,ns,u,ws,i,x,rfl,hT,hW,ew,h4,k,kx,ky]:=h;let#[#[dx,hp],Y,Vp,aq,ap]:=id hW;erw[_,(au (sS 3 Df (sr (pv 0) T.fM T.fW.m (om T) (W.mono (!_)) T.fW.B .nil Xq (dj (pv 1)))) (au (cV (PW.pt (Pa (ki (lH rE xV aF (pv 2) (cG (JS T) W T.Bx (oW (bF (pv 0) rfl) (pv 1))))) (HJ (oS pV (pv 2) (pv 3) (by with_unfolding_all rfl))))) (b6 (GB rfl T.Mv T.Mw W.hd bH)) bR) (au (HL (cB CY T.MB boot_sorted (dj (ck CN (pv 3) (eB (dj (pv 2)))))) (HK (bF (pv 0) rfl) (pv 1) hY)) (oR (qE yM (pv 3) (eB gx)))))),4];left;erw[1,p,dx,1,hp,8,p,tp,M,ln,lr,ns,u,ws,i,2,hT,hW,ew,λj c l L ej C g an S=>?_,kx];subst ej;let ao:=(ai.mp C).1;let w4:=h4 _ (aD C);let J:u[j]?=ac u[j]:=aa ∅;let ab:=g _ _ hp;let Z:=hT.mono g;exists 1684;by_cases h0:0<=x;(case neg=>rw[gh h0];erw[fP #[1,fZ (fZ (ky j c _ L rfl C J (.inl λz=>h0 z.1) g))]]);rw[fy h0];erw[fZ ?_];erw[1,p,_,dx,6,ab,T.fM,T.nv,8,tp,ln,lr,ns,u,j,u[j],2,Z,J,684];by_cases N:x<u[j].d;(case neg=>rw[gh N];erw[fZ (fZ (ky j c _ L rfl C J (.inl λz=>N z.2) g))]);rw[fy N];erw[fP ?_];obtain⟨f,rfl⟩:∃f:Nat,x=(f:Int):=#[x.toNat,5];erw[38,l,1,.inl (bJ.of S),2,nG c,14];(try dsimp only);rw[eH aU,wG];by_cases X:f∈c;(case pos=>rw[fy X];erw[fZ (ky j c _ L rfl C J (.inr #[f,X,2]) g)]);rw[gh X];erw[fP ?_];erw[38,IU,λq hq=>?_];let s2:=aH.new (o:=.lst [.int (f:Nat)]) hq;erw[l,q,62,s2 _ _ S,ay,4,λO h3=>?_];rw[af];erw[gp (bP (by show ge c+1<=1000;lia))];let s3:=s2.trans (aH.new (o:=.lst (bA c++[.int (f:Nat)])) h3);let G:(upd (upd L q (.lst [.int (f:Nat)])) O (.lst (bA c++[.int (f:Nat)]))) O=ac (.lst (((c++[f]).map λk:Nat=>(k:Int)).map fw)):=(by rw[ay,<- gy,gz]);generalize upd (upd L q (.lst [.int (f:Nat)])) O (.lst (bA c++[.int (f:Nat)]))=H3 at s3 G;erw[O,1,bJ.of G,(by rw[af,az];show ge c+1<64;lia),λs xs WI ah al=>?_];let#[D,rfl,ag,ae]:=QX ah al;let U:=s3.trans (aH.new (o:=.lst ((D.map λk:Nat=>(k:Int)).map fw)) WI);let y:(upd H3 s (.lst ((D.map λk:Nat=>(k:Int)).map fw))) s=ac (.lst (bA D)):=(by rw[ay,gz]);generalize upd H3 s (.lst ((D.map λk:Nat=>(k:Int)).map fw))=H4 at U y;let n:=g.trans U;let v:=n _ _ Vp;let ad:=n _ _ hp;let A:j<ge Y:=∅;erw[1,p,_,dx,6,ad,T.fM,T.iC,8,M,33,j,22,v,(by rw[af];erw[AU A]),4];generalize I:upd H4 M (.lst ((Y.map fx).set j (.ref s)))=H5;let k5:∀b o,H4 b=ac o->b≠M->H5 b=ac o:=λb o e nb=>(by rw[<- I,aY nb];erw[e]);let am:H5 M=ac (.lst ((Y.map fx).set j (.ref s))):=(by rw[<- I];erw[ay]);let WQ:H5 s=ac (.lst (bA D)):=k5 _ _ y (rD y v λz=>Ah (aa A) (HO.lst.inj z));let ak:H5 l=ac (.lst (bA c)):=k5 _ _ (U _ _ S) (rD (U _ _ S) v λz=>Ah (aa A) (HO.lst.inj z));erw[1,bL _,λq2 aj=>?_];let R:=aH.new (o:=.lst []) aj;erw[.list ((c.map λk:Nat=>(k:Int)).map .int),.list [],#[l,1,bJ.of (R _ _ ak),(by rw[gz];erw[pW _])],#[q2,1,bJ.of ay,2],iJ _,2,bM (b5 (aJ (Nat.min_le_right _ _) (!_)) _) W.units,4];let z:=k j f c D u[j] Y s _ rfl rfl C J N X ag ae Vp ((g.trans s3).free WI) (R _ _ WQ) (R _ _ am) (λb o e nb=>R _ _ (k5 _ _ (n _ _ e) nb));cases c with|nil=>erw[z]|cons a r=>erw[z]
noncomputable def Hs(s:NS)(i:Nat)(w w2:!Nat)(e:Int):NS:=
 if w.isEmpty=df then ji {s with ws:=s.ws.set i w2} e 3 else {s with ws:=s.ws.set i w2}
inductive Yr(K:ah)(CT:du)(c:NC)(vs:!V)(H:Hp)(Q:VK)(E:XK):Prop
 |mk(F:du->Prop)(p tp ln lr:du)(ns:!Int)(rs:!R5)(s:NS)(i x:Nat)(w:!Nat)(r:R5):vs=[.ref p,.int i,.int x]->NW K c CT H F p tp ln lr ns rs s->cS ns rs->A0 ns rs s->s.ws[i]?=ac w->rs[i]?=ac r->(x:Int)<r.d->x∉w->(∀w2 F' H',w2.Perm (w++[x])->w2.Pairwise (·<=·)->NW K c CT H' F' p tp ln lr ns rs (Hs s i w w2 r.e)->Step H F H' F'->Q (.bl w.isEmpty) H')->Yr K CT c vs H Q E
theorem WR(T:Txt K mg w t):oM P w mg base T.IM 4 (Yr K t.bf (nc t)):=by erw[T.IM.F.iV LX λH Q E hr h=>?_];·let#[F,p,S,X,L,C,rs,st,i,x,w',r,rfl,N,U,W,b,HU,v,D,k]:=h;erw[_,(au (sS 3 LX (sr (bF (pv 0) rfl) T.fM T.zC.m (M4 T) (hr.mono (!_)) T.zC.B .nil S9 (oW (pv 1) (pv 2)))) (au (cV (mT (pv 3)) (oE (cM (pv 0) T.bX T.iB (oO T) hr (dj (pv 1)))) bR) (oR (pv 3)))),4];left;let#[f,dx,q,hp,O,hF,hT]:=id N.c6;let Y:=O.get .c6 _ rfl;rw[hp] at Y;let o:=(ai.mp b).1;let Cv:i<ge rs:=(by rw[<- W.wl];erw[o]);erw[1,p,336,Y,T.bX,T.oN,2,f .dB,dx .dB,1,O.get .dB _ rfl,81,f .dB,S,f .eZ,X,L,C,rs,st.ws,i,x,2,N.yS,O.strAt,W.wl,W.w4,λj kk w1 u r2 ls a H1 ej ek n J ad hk I V Vp ha R G kp=>?_,λz=>ff #[55] z,λj u r2 H1 ej n J hz _=>?_];(case refine_2=>let:j=i:=∅;subst this;rw[b] at n;ext n;rw[HU] at J;ext J;obtain z|⟨y,hy,e⟩:=hz;erw[ff #[5,v] z];let:y=x:=∅;subst this;erw[ff hy D]);let:j=i:=∅;subst this;let:kk=x:=∅;subst this;rw[b] at n;ext n;let#[Z,N1,d]:=Tt hp O hF hT o Vp ha R G kp;let l:=N.done d N1;let#[af,ae,q1,A,O1,aa,ab]:=id N1;let jh:=O1.get .c6 _ rfl;rw[A] at jh;dsimp only[iU];let k:=k u;delta Hs at k;generalize w'.isEmpty=eb at k;erw[xY (λσ s=>∃g:du->Prop,NW K (nc t) t.bf s g p S X L C rs (if eb=df then ji {st with ws:=st.ws.set j u} r.e 3 else {st with ws:=st.ws.set j u})/\Step H F s g/\σ=[ac (.ref p),ac (.int j),ac (.int kk),ac (.bl eb)]) ?_ λN' nx=>?_];(case refine_2=>erw[38,lZ (λe=>?_) (λe=>?_)];rw[eG e] at nx;erw[1,p,6,jh,8,Z,p,S,X,L,C,rs,_,j,r,2,l,U,HU,λg s M c=>?_];erw[nx _ _ #[g,M,d.trans c,2]];rw[eH e] at nx;erw[nx _ _ #[Z,l,d,2]]);intro σ s ⟨g,M,c,rfl⟩;erw[1,k g s I V M c]
inductive Ys(K:ah)(c:NC)(vs:!V)(H:Hp)(Q:VK)(E:XK):Prop
 |mk(F:du->Prop)(p tp:du)(n x:Nat)(to:Option Nat)(s:NS):vs=[.ref p,.int x,HZ (to.map λy:Nat=>(y:Int))]->eT K c H F p tp n s->x<ge s.aE->ge s.groups=ge s.aE->(∀y,to=ac y->y<ge s.aE/\s.groups[y]?=s.groups[x]?)->Q .gw H->Ys K c vs H Q E
theorem Ht(T:Txt K mg w t):oM P w mg base T.rS 2 (Ys K (nc t)):=by erw[T.rS.F.iV GP λH Q E i h=>?_];·let#[F,p,j,n,x,u,st,rfl,N,o,r,f,k]:=h;erw[_,(au (fC (cM (pv 0) T.bX T.gY (jQ T) i (dj (pv 1)))) (b6 (cV (qT QC (pv 2) pI) (au (fC (cM (pv 0) T.bX T.gY (jQ T) i (dj (pv 2)))) (b6 (cV (qT oq (xL (bF (pv 0) rfl) (pv 1)) (xL (bF (pv 0) rfl) (pv 2))) dO bR))) bR))),4];left;let#[a,A,q,m,O,v,z]:=id N;let b:=O.get .c6 _ rfl;rw[m] at b;erw[1,p,6,b,8,F,p,j,n,x,st,2,N,o,4];cases u with|none=>erw[18,fP k]|some y=>let#[s,l]:=f y rfl;erw[18,fZ ?_];erw[1,p,6,b,8,F,p,j,n,y,st,2,N,s,4];let d:=bJ.of (K:=K) (O.get .groups _ rfl);let g:x<ge st.groups:=∅;let c:y<ge st.groups:=∅;let e:st.groups[y]=st.groups[x]:=(by rw[aa c,aa g] at l;erw[aI l]);erw[1,p,336,b,T.bX,T.nO,8,a .groups,9,d,ua g,1,p,336,b,T.bX,T.nO,8,a .groups,9,d,ua c,84];rw[e,fy rfl];erw[fP k]
noncomputable def Aw(s:NS)(x h:Nat):NS:=if s.aE[x]?=ac h then s else Av {s with aE:=s.aE.set x h} (s.groups.getD x 0)
inductive Yt(K:ah)(CT:du)(c:NC)(vs:!V)(H:Hp)(Q:VK)(E:XK):Prop
 |mk(F:du->Prop)(p tp ln lr:du)(ns:!Int)(rs:!R5)(s:NS)(x h:Nat):vs=[.ref p,.int x,.int h]->NW K c CT H F p tp ln lr ns rs s->x<ge s.aE->ge s.groups=ge s.aE->(∀g∈s.groups,g<3)->h<ge ns->(∀F' H',NW K c CT H' F' p tp ln lr ns rs (Aw s x h)->Step H F H' F'->Q .gw H')->Yt K CT c vs H Q E
theorem UC(T:Txt K mg w t):oM P w mg base T.FZ 3 (Yt K t.bf (nc t)):=by erw[T.FZ.F.iV TU λH Q E n h=>?_];·let#[F,p,j,R,S,ns,B,st,x,y,rfl,N,i,s,l,v,k]:=h;erw[_,(au (fC (cM (pv 0) T.bX T.gY (jQ T) n (dj (pv 1)))) (au (fC (cM (pv 0) T.bX T.mG (xK T) n (dj (pv 2)))) (b6 (cV (qT oq (pv 2) (xL (bF (pv 0) rfl) (pv 1))) (au (HL (pv 2) (HK (bF (pv 0) rfl) (pv 1) hY)) (oE (cM (pv 0) T.bX T.lR (sf T) n (dj (xL (bF (pv 0) rfl) (pv 1)))))) bR)))),4];left;let#[a,C,q,hp,O,u,A]:=id N.c6;let X:mz K (nc t) H F a C q p j (ge ns) st:=#[hp,O,u,A];let f:=O.get .c6 _ rfl;rw[hp] at f;let g:=O.get .aE _ rfl;let m:x<ge st.groups:=∅;erw[1,p,6,f,8,F,p,j,ge ns,x,st,2,N.c6,i,4];erw[1,p,6,f,8,F,p,j,R,S,ns,B,st,y,2,N,v,4];erw[38,p,336,f,T.bX,T.ny,8,a .aE,9,bJ.of g,ua i,84];delta Aw at k;rw[aa i] at k;by_cases e:st.aE[x]=y;rw[eG (by rw[e])] at k;rw[e,fy rfl];erw[fP (k F H N (Step.refl' (aH.refl _)))];rw[eH (λz=>e (aI z))] at k;rw[gh (λz=>e (by let:=V.int.inj z;lia))];erw[fZ ?_];erw[38,p,336,f,T.bX,T.ny,8,a .aE,33,x,22,g,(by rw[af];erw[AU i]),4];let I:(bA st.aE).set x (.int (y:Nat))=bA (st.aE.set x y):=(by rw[bA,bA,lE]);rw[I];let#[c,b]:=ab3 X (st.aE.set x y);generalize upd H (a .aE) (.lst (bA (st.aE.set x y)))=H1 at c b;let r:=c.own.get .c6 _ rfl;rw[c.hp] at r;let o:=bJ.of (K:=K) (c.own.get .groups _ rfl);let J:=N.done b c.c6;let M:st.groups.getD x 0=st.groups[x]:=(by rw[ak,aa m];rfl);rw[M] at k;erw[1,p,6,r,8,p,336,r,T.bX,T.nO,8,a .groups,9,o,ua m,F,p,j,ge ns,st.groups[x],1,c.c6,l _ (aB m),λL D G d=>?_];erw[k L D (J.done d G) (b.trans d)]
noncomputable def Jg(s:NS)(h g x:Nat):Bool:=decide (s.aE[x]?=ac h/\s.groups[x]?=ac g)
noncomputable def vc(s:NS)(h g:Nat):!Nat:=(av (ge s.aE)).filter (Jg s h g)
theorem sj:(av (i+1)).filter f=(av i).filter f++if f i=df then [i] else []:=by rw[fk,dZ];congr 1;cases e:f i;rw[eH (!_),dg (by rw[e];decide)];rfl;rw[eG rfl,dc e];rfl
inductive Yu(K:ah)(c:NC)(vs:!V)(H:Hp)(Q:VK)(E:XK):Prop
 |mk(F:du->Prop)(p tp:du)(n h g:Nat)(s:NS):vs=[.ref p,.int h,.int g]->eT K c H F p tp n s->ge s.groups=ge s.aE->ge s.aE<=20->(∀l H',aH H H'->H l=de->H' l=ac (.lst (bA (vc s h g)))->Q (.ref l) H')->Yu K c vs H Q E
theorem Hu(T:Txt K mg w t):oM P w mg base T.rR 1 (Yu K (nc t)):=by erw[T.rR.F.iV qA λH Q E Z h=>?_];·let#[F,p,tp,n,c,g,st,rfl,N,Y,xR,k]:=h;erw[_,(au (sS 3 qA (i6 (oW (pv 1) (pv 2)))) (oR (dP (kO qA ["caller","self","there"] [de,ac 0,ac 3]) rfl (eW rfl T.gF (dj (lS T.gE (bF (pv 0) rfl)))) (~~~(gS 0 Dh)) (~~~(kB (qT (Xy K rfl Z.units) (i6 (oW (yL K (Kw K rfl (pv 1) rfl) (pv 0)) (yL K (Kw K rfl (pv 1) rfl) (pv 0)))) (pv 2)))) (~~~(pv 0))))),4];left;erw[38,g5,λL x=>?_];let m:=aH.new (o:=.tup [fw c,fw g]) x;let M:=ay (H:=H) (a:=L) (o:=.tup [fw c,fw g]);generalize upd H L (.tup [fw c,fw g])=H1 at m M;let#[d,dx,q,X,O,hF,hT]:=N.mono m;let B:=O.get .c6 _ rfl;rw[X] at B;let l:=bJ.of (K:=K) (O.get .aE _ rfl);let C:=bJ.of (K:=K) (O.get .groups _ rfl);exists 1,p,336,B,T.bX,T.ny,2,d .aE,1,.inl l,((ge (bA st.aE):Nat):Int),25,by rw[af];lia,λz b=>?_;rw[af];erw[fK (n:=((ge st.aE:Int)).toNat) (λi r _=>r=bA ((av i).filter (Jg st c g))) b wB mU rfl ?_ ?_];(·rintro i r G U e u rfl y H4 ⟨rfl,rfl⟩;rw[cT];let f:i<ge st.aE:=∅;let j:i<ge st.groups:=∅;let R:=e _ _ B;erw[1,p,336,R,T.bX,T.ny,8,d .aE,9,e.seq l,ua f,1,p,336,R,T.bX,T.nO,8,d .groups,9,e.seq C,ua j,g5,λz1 s=>?_];let J:=aH.new (o:=.tup [fw (st.aE[i]:Nat),fw (st.groups[i]:Nat)]) s;let v:=e.trans J;let I:=J _ _ u;erw[1,.tuple (([(st.aE[i]:Int),(st.groups[i]:Int)]:!Int).map .int),.tuple (([(c:Int),(g:Int)]:!Int).map .int),Rep.Pq (ns:=[(st.aE[i]:Int),(st.groups[i]:Int)]) (dH.of ay),Rep.Pq (ns:=[(c:Int),(g:Int)]) (dH.of (v _ _ M)),iJ _,iJ _,(by show eJ _+1<=64;rw[pY];decide),14];(try dsimp only);let W:Jg st c g i=decide ((st.aE[i]:Int)=(c:Int)/\(st.groups[i]:Int)=(g:Int)):=(by delta Jg;rw[aa f,aa j,decide_eq_decide];constructor;intro ⟨D,S⟩;erw[by rw[aI D],by rw[aI S]];intro ⟨D,S⟩;erw[gZ ac ∅,gZ ac ∅]);rw[XI,<- W];erw[lZ (λA=>?_) (λA=>?_)];exists 14;erw[dS b U v I ?_ ?_];rw[af];erw[bP (aJ (bx _ _) ?_)];rw[aX];lia;rw[sj,eG A,gy];erw[gU U v I ?_];rw[sj,eH A,cu]);rintro r G e u rfl;let Yc:=m.trans e;erw[k z G Yc (m.free b) u]
inductive Qf(K:ah)(CT C NW:du)(vs:!V)(H:Hp)(Q:VK)(E:XK):Prop
 |mk(p tp lu ln lr:du)(ns:!Int)(rs:!R5)(ws:!(!Nat))(i x:Int):vs=[.ref p,.int i,.int x]->eN K CT H tp ln lr ns rs->xZ C H p tp lu ws->ge ws=ge rs->(∀(j:Nat)w H',i=(j:Int)->ws[j]?=ac w->aH H H'->(w=[]->Q .gw H')/\(∀k:Nat,w[(x%(ge w:Int)).toNat]?=ac k->w≠[]->Q (.int (k:Nat)) H'))->(¬(0<=i/\i<ge rs)->E (.ref NW) de H)->Qf K CT C NW vs H Q E
theorem EV(T:Txt K mg w t):ou P w K mg base (HD P w) 2 t.ja t.xj ["self","rope","number"] (Qf K t.bf t.dR t.Aq):=by erw[T.pR.F.ZL uZ λH Q E g h=>?_];·let#[p,N,W,Z,lr,U,M,X,i,x,rfl,L,r,ew,k,u]:=h;let#[#[O,A],_]:=id r;erw[_,(au (sS 3 uZ (sr (pv 0) T.fM T.fW.m (om T) (g.mono (!_)) T.fW.B .nil Xq (dj (pv 1)))) (au (cV (qT yM (pv 3) (eB gx)) (oR pI) bR) (oR (xL (pv 3) (ck ir (pv 2) (lS T.gE (pv 3))))))),4];left;erw[1,p,O,1,A,8,p,N,W,Z,lr,U,M,X,i,2,L,r,ew,λj e l H1 S R J D I=>?_,u];erw[1,bL _,λq G=>?_];let f:=aH.new (o:=.lst []) G;let c:=f _ _ I;erw[.list ((e.map λk:Nat=>(k:Int)).map .int),.list [],#[l,1,bJ.of c,(by rw[gz];erw[pW _])],#[q,1,bJ.of ay,2],iJ _,2,bM (b5 (aJ (Nat.min_le_right _ _) (!_)) _) g.units,14];let#[C,v]:=k j e _ S R (J.trans f);cases e with|nil=>erw[fZ (C rfl)]|cons y b=>erw[fP ?_];let a:(0:Int)<((ge (y::b):Nat):Int):=(by rw[bG];lia);let s:=iZ x (show ((ge (y::b):Nat):Int)≠0 by lia);let Y:=ig x a;let d:(x%((ge (y::b):Nat):Int)).toNat<ge (y::b):=∅;erw[138,l,1,.inl (bJ.of c),6,(by rw[af]),a,4];obtain⟨z,n⟩:∃z,(y::b)[(x%((ge (y::b):Nat):Int)).toNat]?=ac z:=#[_,aa d];erw[l,33,fw (z:Nat),22,bJ.of c,4,v z n (by intro z;ext z)];rw[show x%((ge (y::b):Nat):Int)=(((x%((ge (y::b):Nat):Int)).toNat:Nat):Int) by lia];erw[cH (by rw[ao,n];rfl)]
noncomputable def Fe(l:LS)(h:Nat):Bool:=(CO (l.done.map λh:Nat=>((iY (h:Int):hJ),fI df)) (iY (h:Int))).isSome
inductive Yv(K:ah)(CT:du)(c:NC)(vs:!V)(H:Hp)(Q:VK)(E:XK):Prop
 |mk (F:du->Prop) (loc dx:Role->du) (q:TQ) (p tp ln lr:du) (ns:!Int) (rs:!R5) (s:NS) (o:cS ns rs) (i r h:Nat) (l:LS):vs=[.ref p,.ref (loc (.cR i)),.int r,.int h]->mz K c H F loc dx q p tp (ge ns) s->NW K c CT H F p tp ln lr ns rs s->A0 ns rs s->s.ls[i]?=ac l->l.grp<3->(∀os H',aH H H'->fm (gW ns rs o s.ws l.grp) (s.R l.grp) os->ge os<=12->Q (.str (if r∈os then (if Fe l h=df then "twice" else "come") else "lost")) H')->Yv K CT c vs H Q E
theorem M5(T:Txt K mg w t):oM P w mg base T.zE 7 (Yv K t.bf (nc t)):=by erw[T.zE.F.iV LY λH Q E n h=>?_];·let#[F,a,C,q,p,B,I,J,G,A,st,o,i,r,v,l,rfl,X,N,D,b,y,k]:=h;erw[_,(au (cV (oS ve (pv 2) (cM (pv 0) T.bX T.yq (Hr T) n (dj (bF (pv 1) rfl))) (by with_unfolding_all rfl)) (oR bH) bR) (oR (lG (Dx (ahJ (Pp n) (pv 3) (bF (pv 1) rfl)) (by with_unfolding_all rfl)) bH bH))),4];left;let s:=X.own.get .c6 _ rfl;rw[X.hp] at s;let u:=X.own.get (.cR i) (qv (nc t) C a i l) (by show (st.ls[i]?.map _)=_;rw[b];rfl);let m:=X.own.get (.done i) (.dK (l.done.map λh:Nat=>(iY (h:Int),.bl df))) (by show (st.ls[i]?.map _)=_;rw[b];rfl);erw[38,p,6,s,8,a (.cR i),336,u,T.fq,T.nh,2,F,p,B,I,J,G,A,st,o,l.grp,2,N,D,y,λlo os x d z f c g=>#[lo,1,.inl (bJ.of f),2,nG _,14]];(try dsimp only);rw[eG rfl,wG];let k:=k os x d c g;by_cases e:r∈os;rw[eG e] at k;rw[fy e];erw[fP ?_];erw[38,a (.cR i),336,d _ _ u,T.fq,T.rU,2,a (.done i),1,NO.k (k:=.inl (v:Int)) (d _ _ m),14];delta Fe at k;erw[lZ (λj=>?_) (λj=>?_)];rw[eG j] at k;erw[k];rw[eH j] at k;erw[k];rw[eH e] at k;rw[gh e];erw[fZ k]
noncomputable def mO(l:LS):Nat:=if l.kd=1 then l.s+l.to+1 else l.s
theorem ae8{t:Ad}(T:Txt K mg w t){b a:Role->du}{f:L2.St}{H:Hp}{Q:VK}{i:Nat}{l:LS}(h:∀Q:VK,Q (.ref (a (.cR i))) H->Qw 4 f H Q)(j:H (a (.cR i))=ac (qv (nc t) b a i l))(d:H (a (.letter i))=ac (vf (nc t) (b (.letter i)) l))(q:Q (.int (mO l:Nat)) H) :Jy t.j0 (eC "number") (EL K) [] E0 (K4 K (Qw 4) (eC "letter")) HN f H Q\/Jy t.iA (eC "number") (Je t.iA) [] E0 (K4 K (Qw 4) (eC "letter")) HN f H Q\/Jy t.kQ (eC "number") (EL K) [] E0 (K4 K (Qw 4) (eC "letter")) HN f H Q:=by by_cases e:l.kd=1;let c:H (a (.letter i))=ac (.ins t.iA (b (.letter i)) [("sender",.int l.s),("to",.int l.to)]):=(by rw[d];delta vf;rw[eG e]);let g:fw ((l.s:Int)+(l.to:Int)+1)=.int (mO l:Nat):=(by delta mO;rw[eG e];rfl);erw[.inr (.inl ?_)];delta Jy K4;erw[(h _ #[a (.cR i),336,j,T.fq,T.jr,2,a (.letter i),b (.letter i),1,c,2,a (.letter i),b (.letter i),l.s,l.to,2,c,(by rw[g];erw[q])])];let c:H (a (.letter i))=ac (.ins t.kQ (b (.letter i)) [("sender",.int l.s)]):=(by rw[d];delta vf;rw[eH e]);let g:fw (l.s:Int)=.int (mO l:Nat):=(by delta mO;rw[eH e]);erw[.inr (.inr ?_)];delta Jy K4;erw[(h _ #[a (.cR i),336,j,T.fq,T.jr,2,a (.letter i),b (.letter i),1,c,2,a (.letter i),t.kQ,b (.letter i),l.s,2,c,T.BJ,T.qN,(by rw[g];erw[q])])]
noncomputable def UD(s:NS)(i h r x f:Nat):NS:={eF s i (.send h r x) with cps:=s.cps++[⟨i,r,x,f⟩]}
inductive Yw(K:ah)(CT:du)(c:NC)(vs:!V)(H:Hp)(Q:VK)(E:XK):Prop
 |mk(F:du->Prop)(p tp ln lr:du)(ns:!Int)(rs:!R5)(s:NS)(i h r:Nat)(l:LS)(re:R5)(w:!Nat)(x:Nat):vs=[.ref p,.int i,.int h,.int r]->NW K c CT H F p tp ln lr ns rs s->cS ns rs->A0 ns rs s->s.ls[i]?=ac l->ge l.aK<1000000->ge s.cps<1000000->rs[r]?=ac re->s.ws[r]?=ac w->w[(((mO l:Nat):Int)%(ge w:Int)).toNat]?=ac x->w≠[]->(∀F' H',NW K c CT H' F' p tp ln lr ns rs (UD s i h r x (iu re h))->Step H F H' F'->Q .gw H')->Yw K CT c vs H Q E
theorem UE(T:Txt K mg w t):oM P w mg base T.F0 3 (Yw K t.bf (nc t)):=by erw[T.F0.F.iV Di λH Q E v h=>?_];·let#[F,p,C,ln,lr,ns,A,st,i,c,r,l,re,w',x,rfl,N,tok,Cy,b,ag,ae,e,hw,G,I,k]:=h;erw[_,(au (sS 4 Di (xL (bF (pv 0) rfl) (pv 1))) (au (sS 5 Di (sr (bF (pv 0) rfl) T.fM T.pR.m (EV T) (v.mono (!_)) T.pR.B .nil S9 (oW (pv 3) (HY (ow (bF (pv 4) rfl) T.Mr T.lP.m (As T) (v.mono (!_)) T.lP.B .nil nX) (HY (ow (bF (pv 4) rfl) T.sW T.qL.m (Ks T) (v.mono (!_)) T.qL.B .nil nX) (ow (bF (pv 4) rfl) T.BJ T.Mu (As T) (v.mono (!_)) T.lP.B .nil nX)))))) (au (fC (jM bK bT bS fY (bF (pv 4) rfl) (dj (i6 (mj bH (pv 2) (pv 3) (pv 5)))))) (oE (jM bK bT bS fY (bF (pv 0) rfl) (dj (i6 (mj (pv 1) (pv 3) (pv 5) (cM (bF (pv 0) rfl) T.gk T.m9 (uS T) v (oW (pv 3) (pv 2))))))))))),4];left;let#[a,D,q,hp,O,hF,hT]:=id N.c6;let L:=O.get .c6 _ rfl;rw[hp] at L;let ab:=(ai.mp b).1;let J:=(ai.mp e).1;let WN:=O.get .dQ _ rfl;let Sx:=O.get (.cR i) (qv (nc t) D a i l) (by show (st.ls[i]?.map _)=_;rw[b];rfl);let Z:=O.get (.letter i) (vf (nc t) (D (.letter i)) l) (by show (st.ls[i]?.map _)=_;rw[b];rfl);erw[1,p,336,L,T.bX,T.ic,8,a .dQ,9,bJ.of WN,ux ab,4];erw[1,p,336,L,T.bX,T.oN,2,a .dB,D .dB,1,O.get .dB _ rfl,84];let n:=O.get (.aK i) (.lst ((q.dq i).map fx)) (by show (st.ls[i]?.map _)=_;rw[b];rfl);erw[ae8 T (l:=l) (λQ q=>#[1,q]) Sx Z ?_];erw[a .dB,C,a .eZ,ln,lr,ns,A,st.ws,r,(mO l:Nat),2,N.yS,O.strAt,Cy.wl,λj w2 H1 ej y s=>#[λz=>?_,λkk hk _=>?_],λz=>ff #[55] z];let:j=r:=∅;subst this;rw[hw] at y;ext y;erw[ff z I];let:j=r:=∅;subst this;rw[hw] at y;ext y;rw[G] at hk;ext hk;let X1:mz K (nc t) H1 F a D q p C (ge ns) st:=mz.mono #[hp,O,hF,hT] s;let Sy:=(X1.tup.aK i _ b).len;rw[af] at Sy;erw[1,a (.cR i),336,s _ _ Sx,T.fq,T.j3,2,.inl #[23,bJ.of (s _ _ n)],138,kw,λz1 U=>?_];let S:=aH.new (o:=.tup [fA "send",fw c,fw j,fw x]) U;erw[a (.aK i),62,S _ _ (s _ _ n),zY (by rw[af,Sy];lia),4];let#[g,aa]:=C1 (X1.mono S) b (d:=.send c j x) (dH.of ay);let f:=(Step.refl' (F:=F) (s.trans S)).trans aa;let Y:=N.done f g.c6;generalize upd (upd H1 z1 (.tup [fA "send",fw c,fw j,fw x])) (a (.aK i)) (.lst ((q.dq i).map fx++[.ref z1]))=H2 at g f Y;let W:=g.own.get .c6 _ rfl;rw[g.hp] at W;let u:=g.own.get .gj _ rfl;let#[#[dt,ad],_]:=id Y.yS;let X:ge q.cq=ge st.cps:=(by let z:=g.tup.cps.len;rw[af] at z;erw[z]);let#[_,rfl]:=ai.mp e;erw[1,p,336,W,T.bX,T.kT,2,.inl #[23,bJ.of u],3838,p,336,W,T.bX,T.kR,2,C,dt,1,ad,81,C,ln,lr,ns,A,j,_,c,2,Y.yS,e,4];rw[XA (h:=c) J tok.ok];erw[kw,λz2 M=>?_];let R:=aH.new (o:=.tup [fw i,fw j,fw x,fw (iu A[j] c:Nat)]) M;erw[a .gj,62,R _ _ u,zY (by rw[af,X];lia),4];let X3:=g.mono R;let#[X4,HQ]:=XH X3 (qs:=q.cq++[z2]) (cps:=st.cps++[#[i,j,x,iu A[j] c]]) (by rw[aN];erw[X3.tup.cps.snoc (dH.of ay)]);rw[aN] at X4 HQ;let Vm:=(f.trans (Step.refl' (F:=F) R)).trans HQ;erw[k F _ ?_ Vm];delta UD;rw[gD b];erw[N.done Vm X4.c6]
end
section
noncomputable def lU(ds:!Nat)(h:Nat):!Nat:=if h∈ds then ds else ds++[h]
theorem aae{ds:!Nat}{h:Nat}:ih (ds.map λh:Nat=>((iY (h:Int):hJ),fI df)) (iY (h:Int)) (fI df)=(lU ds h).map λh:Nat=>((iY (h:Int):hJ),fI df):=by
 let e:((ds.map λh:Nat=>((iY (h:Int):hJ),fI df)).any λb=>decide (b.1=(iY (h:Int):hJ)))=decide (h∈ds):=(by rw[qj,List.any_map,k7,g6];constructor;intro ⟨x,a,e⟩;let e:=Sum.inl.inj (g4 e);let:x=h:=∅;erw[this▸a];erw[λa=>#[h,a,fy rfl]]);delta ih lU;rw[e];by_cases z:h∈ds;·rw[eG (fy z),eG z,bZ];erw[dm λx _=>?_];show (if _ then _ else _)=_;split <;> rfl
 rw[eH (by rw[g6];erw[z]),eH z,aN];rfl
structure Fr(s s':NS):Prop where
 ws:s'.ws=s.ws
 R:s'.R=s.R
 ts:s'.ts=s.ts
 aE:s'.aE=s.aE
 groups:s'.groups=s.groups
 lt:∀(i:Nat)(l:LS),s.ls[i]?=ac l->∃l':LS,s'.ls[i]?=ac l'/\l'.s=l.s/\l'.to=l.to/\l'.kd=l.kd/\l'.grp=l.grp/\l'.old=l.old
def Fr.refl(s:NS):Fr s s:=#[22222,λ_ l h=>#[l,h,22222]]
theorem Fr.trans(f:Fr a b)(g:Fr b c):Fr a c:=by erw[g.ws.trans f.ws,g.R.trans f.R,g.ts.trans f.ts,g.aE.trans f.aE,g.groups.trans f.groups,λi l h=>?_];let#[o,p,j,q,s,m,e]:=f.lt i l h;let#[t,d,f1,f2,k,r,n]:=g.lt i o p;erw[t,d,f1.trans j,f2.trans q,k.trans s,r.trans m,n.trans e]
theorem Fr.ok(f:Fr s s')(h:A0 ns rs s):A0 ns rs s' :=#[by rw[f.ws];exact h.wl,by rw[f.ws];exact h.w4,by rw[f.R];erw[h.fit]]
theorem wP{s:NS}{i:Nat}{a:LS}{had:!(!Nat)}{cps:!Cp}(hl:s.ls[i]?=ac l)(e:a.s=l.s)(f:a.to=l.to)(g:a.kd=l.kd)(c:a.grp=l.grp)(d:a.old=l.old):Fr s {s with ls:=s.ls.set i a,had:=had,cps:=cps}:=by erw[22222,λk b h=>?_];show ∃b,(s.ls.set i a)[k]?=ac b/\_;rw[fR (ai.mp hl).1];by_cases z:k=i;subst z;rw[hl] at h;ext h;erw[a,eG rfl,e,f,g,c,d];exists b,by rw[eH z];exact h,22222
theorem Yx:Fr s (eF s i d):=by cases h:s.ls[i]? with|none=>delta eF;rw[h];erw[Fr.refl s]|some l=>rw[gD h];erw[wP h rfl rfl rfl rfl rfl]
structure Bd(n m D:Nat)(s:NS):Prop where
 gl:ge s.groups=ge s.aE
 xR:ge s.aE<=20
 g3:∀g∈s.groups,g<3
 hm:∀h∈s.aE,h<n
 hl:ge s.had=ge s.aE
 hb:∀w∈s.had,ge w<=D
 ll:ge s.ls<=D
 lb:∀l∈s.ls,ge l.aK+ge s.cps<=D/\ge l.done<=D/\l.grp<3/\(l.kd=1\/l.kd=2)
 cb:ge s.cps<=D
 cl:∀c∈s.cps,c.l<ge s.ls/\c.r<m/\c.h<n
 tb:∀g,50*ge (s.ts g)<=D/\gB (s.ts g)
def Bd.mono{a:Nat}(b:Bd n m D s)(h:D<=a):Bd n m a s :=#[b.gl,b.xR,b.g3,b.hm,b.hl,λw z=>aJ (b.hb w z) h,aJ b.ll h,λl z=>#[aJ (b.lb l z).1 h,aJ (b.lb l z).2.1 h,(b.lb l z).2.2],aJ b.cb h,b.cl,λg=>#[aJ (b.tb g).1 h,(b.tb g).2]]
theorem Bd.set{n m D:Nat}{s:NS}{i:Nat}{l a:LS}(b:Bd n m D s)(k:Nat)(hl:s.ls[i]?=ac l){cps:!Cp}{had:!(!Nat)}(t:ge cps<=ge s.cps+1)(k2:ge cps<=ge s.cps\/2<=k)(k1:1<=k)(u:ge a.aK+ge cps<=ge l.aK+ge s.cps+k)(v:ge a.done<=ge l.done+k)(o:a.grp=l.grp)(f:a.kd=l.kd)(q:∀c∈cps,c∈s.cps\/(c.l<ge s.ls/\c.r<m/\c.h<n))(j:ge had=ge s.had)(p:∀w∈had,ge w<=D+k):Bd n m (D+k) {s with ls:=s.ls.set i a,had:=had,cps:=cps}:=by let d:=b.lb l (aD hl);erw[b.gl,b.xR,b.g3,b.hm,j.trans b.hl,p,4,λe z=>?_,4,λc z=>?_,λg=>#[aJ (b.tb g).1 (AI _ _),(b.tb g).2]];show ge (s.ls.set i a)<=_;rw[bu];let:=b.ll;lia;obtain z|rfl:=iW z;let h:=b.lb e z;erw[44,h.2.2];show ge e.aK+ge cps<=_;let:=h.1;lia;let:=h.2.1;lia;erw[44,o▸d.2.2.1,f▸d.2.2.2];show ge e.aK+ge cps<=_;let:=d.1;lia;let:=d.2.1;lia;show ge cps<=_;let:=b.cb;lia;show c.l<ge (s.ls.set i a)/\_;rw[bu];obtain y|y:=q c z;erw[b.cl c y];erw[y]
theorem Bd.ai3(b:Bd n m D s)(i:Nat)(d:kE):Bd n m (D+1) (eF s i d):=by cases h:s.ls[i]? with|none=>delta eF;rw[h];erw[b.mono (iO D)]|some l=>rw[gD h];erw[b.set 1 h (iO _) (.inl (aA _)) (aA _) ?_ (iO _) rfl rfl (λc z=>.inl z) rfl (λw z=>jO (b.hb w z))];show ge (l.aK++[d])+_<=_;rw[az];show ge l.aK+1+_<=_;lia
noncomputable def gi(s:NS)(i h:Nat)(l:LS):NS:={s with ls:=s.ls.set i {l with done:=lU l.done h}}
def Si{s:NS}{i:Nat}(hl:s.ls[i]?=ac l):Fr s (gi s i h l):=wP hl rfl rfl rfl rfl rfl
theorem Yy{i:Nat}(b:Bd n m D s)(hl:s.ls[i]?=ac l):Bd n m (D+1) (gi s i h l):=by erw[b.set 1 hl (iO _) (.inl (aA _)) (aA _) (iO _) ?_ rfl rfl (λc z=>.inl z) rfl (λw z=>jO (b.hb w z))];show ge (lU l.done h)<=_;delta lU;split;erw[iO _];rw[az];erw[aA _]
noncomputable def uT(s:NS)(i c:Nat):NS:={s with had:=s.had.set c (s.had.getD c []++[i])}
noncomputable def jA(i h:Nat)(s:NS)(c:Nat):NS:=eF (uT s i c) i (.hand h c)
def KP:Fr s (jA i h s c):=Fr.trans (b:=uT s i c) #[22222,λ_ l h=>#[l,h,22222]] Yx
theorem Sj(b:Bd n m D s):Bd n m (D+1) (jA i h s c):=by let q:∀w∈(uT s i c).had,ge w<=D+1:=λw z=>(by obtain y|rfl:=iW z;erw[jO (b.hb w y)];rw[az];erw[rG ?_ 1];rw[ak];cases e:s.had[c]? with|none=>erw[bL _]|some w=>erw[b.hb w (aD e)]);delta jA;cases d:s.ls[i]? with|none=>delta eF;rw[show (uT s i c).ls[i]?=de from d];let a:=b.mono (iO D);erw[a.gl,a.xR,a.g3,a.hm,by show ge (s.had.set _ _)=_;rw[bu];exact a.hl,q,a.ll,a.lb,a.cb,a.cl,a.tb]|some l=>rw[gD (show (uT s i c).ls[i]?=ac l from d)];erw[b.set 1 d (iO _) (.inl (aA _)) (aA _) ?_ (iO _) rfl rfl (λc z=>.inl z) (by show ge (s.had.set _ _)=_;rw[bu]) q];show ge (l.aK++[_])+ge s.cps<=_;rw[az];show ge l.aK+1+ge s.cps<=_;lia
noncomputable def j7(ws:!(!Nat))(r k:Nat):Nat:=match ws[r]? with|some w=>w.getD (k%ge w) 0|none=>0
noncomputable def fX(rs:!R5)(r h:Nat):Nat:=match rs[r]? with|some re=>iu re h|none=>0
noncomputable def WS(s:NS)(i:Nat):Nat:=match s.ls[i]? with|some l=>mO l|none=>0
noncomputable def ue(rs:!R5)(i h:Nat)(s:NS)(r:Nat):NS:=UD s i h r (j7 s.ws r (WS s i)) (fX rs r h)
def KQ:Fr s (ue rs i h s r):=Fr.trans (Yx (i:=i) (d:=.send h r (j7 s.ws r (WS s i)))) #[22222,λ_ l h=>#[l,h,22222]]
theorem VZ(o:cS ns rs){r:Nat}(a:r<ge rs):fX rs r h<ge ns:=by delta fX;rw[aa a];let k:=o.ok _ (aB a);let d:=k.a0;let c:=k.b0;let b:=k.a1;let e:=k.b1;show iu _ _<_;delta iu;split <;> lia
theorem Yz(o:cS ns rs){i r:Nat}(b:Bd (ge ns) (ge rs) D s)(e:i<ge s.ls)(a:r<ge rs):Bd (ge ns) (ge rs) (D+2) (ue rs i h s r):=by let d:=aa e;delta ue UD;rw[gD d];erw[b.set 2 d (by rw[az];erw[aA _]) (.inr (aA _)) (!_) ?_ (AI _ _) rfl rfl (λc z=>?_) rfl (λw z=>aJ (b.hb w z) (AI _ _))];show ge (s.ls[i].aK++[_])+ge (s.cps++[_])<=_;rw[az,az];show ge s.ls[i].aK+1+(ge s.cps+1)<=_;lia;obtain y|y:=aR.mp z;erw[.inl y];rw[aP] at y;subst y;erw[.inr #[e,a,VZ o a]]
theorem Cm{f:NS->Nat->NS}(h:∀s x,Fr s (f s x)):∀(xs:!Nat)(s:NS),Fr s (xs.foldl f s)
 |[],s=>Fr.refl s
 |x::xs,s=>(h s x).trans (Cm h xs (f s x))
theorem EN{n m k:Nat}{f:NS->Nat->NS}(I:NS->Prop):∀(xs:!Nat)(s:NS)(D:Nat),(∀s x D,x∈xs->I s->Bd n m D s->I (f s x)/\Bd n m (D+k) (f s x))->I s->Bd n m D s->Bd n m (D+k*ge xs) (xs.foldl f s)
 |[],s,D,_,_,b=>b
 |x::xs,s,D,h,i,b=>by
  let#[a,c]:=h s x D aM i b
  let:=EN I xs (f s x) (D+k) (λs y D z=>h s y D (aO _ z)) a c
  erw[this.mono (Nat.le_of_eq ?_)];rw[bG,Nat.mul_succ];lia
theorem Qg{xs:!Nat}{j:Nat}(h:j<ge xs):(xs.take (j+1)).foldl f s=f ((xs.take j).foldl f s) xs[j]:=by rw[iF h,List.foldl_append];rfl
noncomputable def nC(s:NS)(l:LS)(h:Nat):!Nat:=(vc s h l.grp).filter λc=>Ia l.s l.to l.kd c
noncomputable def Ff(rs:!R5)(s:NS)(l:LS)(h:Nat)(cK:Option Nat)(os:!Nat):!Nat:=(ZD (s.ts l.grp) (sy l.to l.kd) h (cK.map λk:Nat=>(k:Int)) ((os.filter (gN rs h)).map λk:Nat=>(k:Int)) ((vc s h l.grp).map λk:Nat=>(k:Int))).map z8
noncomputable def SA(rs:!R5)(s:NS)(i h:Nat)(l:LS)(cK:Option Nat)(os:!Nat):NS:=(Ff rs s l h cK os).foldl (ue rs i h) ((nC s l h).foldl (jA i h) (gi s i h l))
theorem Hw{os:!Int}:(∀x∈ZD ts so qp cK os hs,x∈os)/\ge (ZD ts so qp cK os hs)<=ge os:=by let f:(∀x∈os.filter (mY cK),x∈os)/\ge (os.filter (mY cK))<=ge os:=#[λx z=>(aZ.mp z).1,bx _ _];delta ZD;split;erw[f];split;erw[λx z=>ff z (-_),bL _];split;split;(rename_i r _ a;erw[λx z=>?_,4];let:=(aZ.mp z).1;rw[aP] at this;erw[this▸a];erw[aJ (bx _ _) ?_];show 1<=ge os;cases os with|nil=>ext a|cons=>simp);erw[f];erw[f]
theorem ae9{rs:!R5}{s:NS}{l:LS}{h:Nat}{cK:Option Nat}{os:!Nat}:(ZD (s.ts l.grp) (sy l.to l.kd) h (cK.map λk:Nat=>(k:Int)) ((os.filter (gN rs h)).map λk:Nat=>(k:Int)) ((vc s h l.grp).map λk:Nat=>(k:Int))).map fw=bA (Ff rs s l h cK os):=by delta Ff;rw[bA,bZ];erw[dm λx a=>?_];let#[k,_,rfl]:=aG.mp (Hw.1 x a);rfl
theorem YA{os:!Nat}:(∀r∈Ff rs s l h cK os,r∈os)/\ge (Ff rs s l h cK os)<=ge os:=by delta Ff;erw[λr a=>?_,4];let#[x,c,rfl]:=aG.mp a;let#[k,b,rfl]:=aG.mp (Hw.1 x c);erw[(aZ.mp b).1];rw[af];erw[aJ Hw.2 ?_];rw[af];erw[bx _ _]
theorem M6:(∀c∈nC s l h,c<ge s.aE)/\ge (nC s l h)<=ge s.aE:=by delta nC vc;erw[λc z=>bO.mp (aZ.mp (aZ.mp z).1).1,4];erw[aJ (bx _ _) (aJ (bx _ _) ?_)];rw[aX];erw[aA _]
theorem EO{s:NS}{os:!Nat}(O:fm (gW ns rs o s.ws g) (s.R g) os){r:Nat}(c:r∈os):r<ge rs/\∃w,s.ws[r]?=ac w/\w≠[]:=by let#[a,b,t]:=(O.2 r).mp c;let m:r∈lN rs s.ws g:=t.k8.1;erw[mZ r m,4];let e:=(aZ.mp m).2;delta hQ at e;split at e;rename_i f w h d;erw[w,d,λz=>?_];subst z;ext e;ext e
def Tx{s:NS}{i:Nat}{os:!Nat}(hl:s.ls[i]?=ac l):Fr s (SA rs s i h l cK os):=((Si hl).trans (Cm (λ_ _=>KP) _ _)).trans (Cm (λ_ _=>KQ) _ _)
end
section
variable{P:ft}{w:World}{K:ah}{mg:Str->Option dy}{base:Heap}
theorem Ts{H:Hp}(h:H a=ac (vf c dx l))(k:l.kd=1\/l.kd=2):JD cL c.let1 c.alp H a l.s l.to l.kd:=by obtain e|e:=k;rw[e];erw[.one dx ?_];rw[h];delta vf;rw[eG e];rw[e];erw[.all dx ?_];rw[h];delta vf;rw[eH (by rw[e];decide)]
inductive wE(K:ah)(CT:du)(c:NC)(vs:!V)(H:Hp)(Q:VK)(E:XK):Prop
 |mk(F:du->Prop)(p tp ln lr:du)(ns:!Int)(rs:!R5)(s:NS)(o:cS ns rs)(i h:Nat)(cK:Option Nat)(l:LS)(D:Nat):vs=[.ref p,.int i,.int h,HZ (cK.map λk:Nat=>(k:Int))]->NW K c CT H F p tp ln lr ns rs s->A0 ns rs s->Bd (ge ns) (ge rs) D s->D<=900000->s.ls[i]?=ac l->(∀os F' H',fm (gW ns rs o s.ws l.grp) (s.R l.grp) os->ge os<=12->NW K c CT H' F' p tp ln lr ns rs (SA rs s i h l cK os)->Step H F H' F'->Q .gw H')->wE K CT c vs H Q E
theorem Ax(T:Txt K mg w t):oM P w mg base T.pq 7 (wE K t.bf (nc t)):=by
 erw[T.pq.F.iV f9 λH Q E hr h=>?_]
 ·let#[F,p,tp,ln,lr,ns,rs,st,o,i,f,Y,l,D,rfl,N,Cy,bd,hD,J,k]:=h;erw[_,(au (sS 4 f9 (xL (bF (pv 0) rfl) (pv 1))) (au (sS 5 f9 (bF (pv 4) rfl)) (au (Xm (Pp hr) (bF (pv 4) rfl) (pv 2) KY rfl) (au (sS 6 f9 (cG (WG T) hr T.IL (mj (bF (pv 0) rfl) (cM (pv 0) T.bX T.rQ (yF T) hr (dj (pv 5))) (cM (pv 0) T.bX T.pS (ud T) hr (dj (pv 5))) (pv 2)))) (au (sS 7 f9 (cM (pv 0) T.bX T.rR (Hu T) hr (oW (pv 2) (pv 5)))) (au (sS 8 f9 (cG (WH T) hr T.IK (Ee (xL (bF (pv 0) rfl) (pv 5)) (bF (pv 4) rfl) (pv 2) (pv 3) (pv 6) (pv 7)))) (au (fS (cY (xT (pv 8) aF)) (gT 9 f9) (au (fC (jM bK bT bS fY (xL (bF (pv 0) rfl) (pv 9)) (dj (pv 1)))) (oE (jM bK bT bS fY (bF (pv 4) rfl) (dj (i6 (Lv bH (pv 2) (pv 9)))))))) (b6 (fS (cY (xT (pv 8) aF)) (gT 10 f9) (oE (cM (pv 0) T.bX T.F0 (UE T) hr (Lv (pv 1) (pv 2) (pv 10))))))))))))),4];left;let#[g,dx,q,hp,O,hF,hT]:=id N.c6;let X:mz K (nc t) H F g dx q p tp (ge ns) st:=#[hp,O,hF,hT];let cD:=O.get .c6 _ rfl;rw[hp] at cD;let aO:=(ai.mp J).1;let#[bq,be,hg,aY]:=bd.lb l (aD J);let WN:=O.get .dQ _ rfl;let Sx:=O.get (.cR i) (qv (nc t) dx g i l) (by show (st.ls[i]?.map _)=_;rw[J];rfl);let aZ:=O.get (.done i) (.dK (l.done.map λh:Nat=>(iY (h:Int),.bl df))) (by show (st.ls[i]?.map _)=_;rw[J];rfl);erw[bY λNx M=>?_];erw[1,p,336,cD,T.bX,T.ic,8,g .dQ,9,bJ.of WN,ux aO,M _ _ ?_];erw[bY λNx M=>?_];erw[1,g (.cR i),336,Sx,T.fq,T.nh,2,M _ _ ?_];erw[bY λNx M=>?_];erw[1,g (.cR i),336,Sx,T.fq,T.rU,8,g (.done i),1,SV.k (k:=.inl (f:Int)) aZ (zY (by rw[af];lia)),4];rw[aae];erw[M _ _ ?_];let#[X1,am]:=ab2 X J (lU l.done f);let N1:=N.done am X1.c6;generalize upd H (g (.done i)) (.dK ((lU l.done f).map λh:Nat=>((iY (h:Int):hJ),fI df)))=H1 at X1 am N1;let a5:=Si (h:=f) J;let C:=Yy (h:=f) bd J;let aU:gi st i f l={st with ls:=st.ls.set i {l with done:=lU l.done f}}:=rfl;rw[<- aU] at X1 N1;let Jh:(gi st i f l).ls[i]?=ac {l with done:=lU l.done f}:=(by show (st.ls.set i _)[i]?=_;rw[fR aO,eG rfl]);let bk:(gi st i f l).ts=st.ts:=rfl;let bp:vc (gi st i f l) f l.grp=vc st f l.grp:=rfl;let k1:∀os F' H',fm (gW ns rs o (gi st i f l).ws l.grp) ((gi st i f l).R l.grp) os->ge os<=12->NW K (nc t) t.bf H' F' p tp ln lr ns rs ((Ff rs st l f Y os).foldl (ue rs i f) ((nC st l f).foldl (jA i f) (gi st i f l)))->Step H1 F H' F'->Q .gw H':=λos F' H' a b c d=>k os F' H' a b c (am.trans d);let ab:=a5.ok Cy;let aS:nC st l f=(vc (gi st i f l) f l.grp).filter λc:Nat=>Ia l.s l.to l.kd c:=rfl;let bt:∀os,Ff rs st l f Y os=(ZD ((gi st i f l).ts l.grp) (sy l.to l.kd) f (Y.map λk:Nat=>(k:Int)) ((os.filter (gN rs f)).map λk:Nat=>(k:Int)) ((vc (gi st i f l) f l.grp).map λk:Nat=>(k:Int))).map z8:=λos=>rfl;let ag:∀os,(ZD ((gi st i f l).ts l.grp) (sy l.to l.kd) f (Y.map λk:Nat=>(k:Int)) ((os.filter (gN rs f)).map λk:Nat=>(k:Int)) ((vc (gi st i f l) f l.grp).map λk:Nat=>(k:Int))).map fw=bA (Ff rs st l f Y os):=λos=>ae9;let I:∀os,(∀r∈Ff rs st l f Y os,r∈os)/\ge (Ff rs st l f Y os)<=ge os:=λos=>YA;let U:(∀c∈nC st l f,c<ge (gi st i f l).aE)/\ge (nC st l f)<=ge (gi st i f l).aE:=M6;let ap:((vc (gi st i f l) f l.grp).map λk:Nat=>(k:Int)).filter (Ia l.s l.to l.kd)=(nC st l f).map λk:Nat=>(k:Int):=(by rw[aS,List.filter_map];rfl);generalize Ff rs st l f Y=S at k1 ag I;generalize nC st l f=n at k1 U ap;generalize gi st i f l=m at X1 N1 C k1 Jh ab ag U ap;let bu:=(ai.mp Jh).1;let jh:=X1.own.get .c6 _ rfl;rw[X1.hp] at jh;erw[bY λNx M=>?_];erw[1,p,336,jh,T.bX,T.kR,24];erw[1,p,6,jh,8,F,p,tp,ln,lr,ns,rs,m,l.grp,2,N1,o,ab,hg,λa1 H2 t2 br h1=>?_];erw[1,p,6,t2 _ _ jh,8,F,p,tp,ge ns,l.grp,m,2,(N1.mono t2).c6,hg,λa2 qs H3 t3 bs h2 ht=>?_];exists 1,tp,ln,lr,a1,a2,ns,rs,_,o.nd,o.ok,mZ,m.R l.grp,f,2,(N1.mono (t2.trans t3)).yS,bJ.of (t3 _ _ h1),ht.Q0 (bJ.of h2),by let:=o.V9;lia,o.Sw,ab.fit l.grp hg,λlo os H4 t4 bn a7 hO aW=>M _ _ ?_;let aj:=t2.trans (t3.trans t4);erw[bY λNx M=>?_];erw[1,p,6,aj _ _ jh,81,F,p,tp,ge ns,f,l.grp,m,2,(N1.mono aj).c6,C.gl,C.xR,λlh H5 t5 bj aG=>M _ _ ?_];let ar:=aj.trans t5;let X5:=X1.mono ar;let aP:=t5 _ _ a7;let aR:=X5.own.get (.cR i) (qv (nc t) dx g i {l with done:=lU l.done f}) (by show (m.ls[i]?.map _)=_;rw[Jh];rfl);let ba:=X5.own.get (.letter i) (vf (nc t) (dx (.letter i)) {l with done:=lU l.done f}) (by show (m.ls[i]?.map _)=_;rw[Jh];rfl);rw[gz] at aP aG;erw[bY λNx M=>?_];erw[1,p,336,ar _ _ jh,T.bX,T.yu,8,g .mh,9,bJ.of (X5.own.get .mh _ rfl),ux hg,1,g (.cR i),336,aR,T.fq,T.jr,8138,g (.book l.grp),g (.gQ l.grp),g (.letter i),lo,lh,m.ts l.grp,l.s,l.to,l.kd,f,Y.map λk:Nat=>(k:Int),6,X5.own.Wa hg,Ts ba aY,bJ.of aP,bJ.of aG,44,λtq b1 b2 H6 t6 aV a6 bc bm aA ah ad=>M _ _ ?_];rw[af];let:=bx (gN rs f) os;lia;rw[af];delta vc;let:=bx (Jg m f l.grp) (av (ge m.aE));rw[aX] at this;let:=C.xR;lia;rw[ap,<- gz] at ah;rw[ag os] at ad;let I:=I os;let k1:=k1 os;generalize S os=S at ad I k1;let aL:=ar.trans t6;let X6:=X1.mono aL;let nF:∀{b},H5 b=de->¬F b:=λ{b}e z=>(by let#[u,e']:=X5.c6.there z;rw[e] at e';ext e');let nq:=nF aV;let n1:=nF a6;let n2:=nF bc;let aw:Step H1 F H6 F:=Step.refl' aL;erw[bY λNx M=>?_];erw[1,tq,_,(0),12,dH.of aA,2,b1,2,#[_,bJ.of ah],rJ (K:=K) (a:=b1) (xs:=bA n) (λj σ H7=>∃(q7:TQ)(v9:Option V),mz K (nc t) H7 F g dx q7 p tp (ge ns) ((n.take j).foldl (jA i f) m)/\Step H6 F H7 F/\σ=[ac (.ref p),ac (.int i),ac (.int f),ac (HZ (Y.map λk:Nat=>(k:Int))),ac (.ref (g (.cR i))),ac (.int l.grp),ac (.ref lo),ac (.ref lh),ac (.ref tq),v9,de]) #[q,de,X6,Step.refl' (aH.refl _),2] (λj σ H7 _ z=>?_) ?_ ?_];let#[q7,v9,W,VP,rfl]:=z;erw[bJ.of (VP.kp _ _ ah n1)];intro j y σ H7 Nf Cz hj ⟨q7,v9,W,VP,rfl⟩;let G:j<ge n:=(by let:=(ai.mp hj).1;rw[af] at this;erw[this]);rw[ao,aa G] at hj;ext hj;rw[Qg G] at Cz;let b7:Bd (ge ns) (ge rs) (D+1+1*ge (n.take j)) ((n.take j).foldl (jA i f) m):=EN (λ_=>True) _ _ _ (λs x D _ _ b=>#[trivial,Sj b]) trivial C;let f7:Fr m ((n.take j).foldl (jA i f) m):=Cm (λ_ _=>KP) _ _;let a8:ge (n.take j)<=20:=(by rw[bU];let:=U.2;let:=C.xR;lia);let#[l7,WQ,_]:=f7.lt i _ Jh;let B:n[j]<ge ((n.take j).foldl (jA i f) m).had:=(by rw[b7.hl,f7.aE];erw[U.1 _ (aB G)]);generalize (n.take j).foldl (jA i f) m=A at W b7 WQ B Cz;show iU 9 (fw ((n[j]:Nat):Int)) _ _ _;generalize n[j]=c at B Cz;let aI:=W.own.get .c6 _ rfl;rw[W.hp] at aI;let aN:=W.own.get (.handed c) (.lst (bA A.had[c])) (by show (A.had[c]?.map _)=_;rw[aa B];rfl);let al:=b7.hb _ (aB B);let a9:=(b7.lb l7 (aD WQ)).1;erw[1,p,336,aI,T.bX,T.BL,8,g .jy,9,bJ.of (W.own.get .jy _ rfl),ux B,.inl #[23,bJ.of aN],1,g (.handed c),62,aN,zY (by rw[af];lia),4];let#[X8,v]:=ab4 W B (A.had[c]++[i]);rw[gy] at X8 v;generalize upd H7 (g (.handed c)) (.lst (bA A.had[c]++[fw i]))=H8 at X8 v;let es:{A with had:=A.had.set c (A.had[c]++[i])}=uT A i c:=(by delta uT;rw[ak,aa B];rfl);rw[es] at X8;let Z:(uT A i c).ls[i]?=ac l7:=WQ;let a0:=X8.own.get (.cR i) (qv (nc t) dx g i l7) (by show ((uT A i c).ls[i]?.map _)=_;rw[Z];rfl);let aJ:=X8.own.get (.aK i) (.lst ((q7.dq i).map fx)) (by show ((uT A i c).ls[i]?.map _)=_;rw[Z];rfl);let Sy:=(X8.tup.aK i _ Z).len;rw[af] at Sy;erw[1,g (.cR i),336,a0,T.fq,T.j3,2,.inl #[23,bJ.of aJ],38,vD,λz1 a3=>?_];let u1:=aH.new (o:=.tup [fA "hand",fw f,fw c]) a3;erw[g (.aK i),62,u1 _ _ aJ,zY (by rw[af,Sy];lia),4];let#[X9,an]:=C1 (X8.mono u1) Z (d:=.hand f c) (dH.of ay);rw[<- gD Z] at X9;erw[Cz _ _ #[33,X9,(VP.trans v).trans ((Step.refl' (F:=F) u1).trans an),2]];intro σ H7 ⟨q7,v9,W,VP,rfl⟩;erw[M _ _ ?_];rw[af,gH] at W;let b7:Bd (ge ns) (ge rs) (D+1+1*ge n) (n.foldl (jA i f) m):=EN (λ_=>True) _ _ _ (λs x D _ _ b=>#[trivial,Sj b]) trivial C;let f7:Fr m (n.foldl (jA i f) m):=Cm (λ_ _=>KP) _ _;let a8:ge n<=20:=(by let:=U.2;let:=C.xR;lia);let N7:=N1.done (aw.trans VP) W.c6;let#[l7,WQ,_]:=f7.lt i _ Jh;let aM:=f7.ok ab;let aq:fm (gW ns rs o (n.foldl (jA i f) m).ws l.grp) ((n.foldl (jA i f) m).R l.grp) os:=(by rw[f7.ws,f7.R];erw[hO]);generalize n.foldl (jA i f) m=A at W b7 WQ N7 k1 aM aq;erw[1,tq,_,(1),12,dH.of (VP.kp _ _ aA nq),2,b2,2,#[_,bJ.of (VP.kp _ _ ad n2)],rJ (K:=K) (a:=b2) (xs:=bA S) (λj σ H8=>∃(F8:du->Prop)(ae:Option V),NW K (nc t) t.bf H8 F8 p tp ln lr ns rs ((S.take j).foldl (ue rs i f) A)/\Step H6 F H8 F8/\σ=[ac (.ref p),ac (.int i),ac (.int f),ac (HZ (Y.map λk:Nat=>(k:Int))),ac (.ref (g (.cR i))),ac (.int l.grp),ac (.ref lo),ac (.ref lh),ac (.ref tq),v9,ae]) #[F,de,N7,VP,2] (λj σ H8 _ z=>?_) ?_ ?_];let#[F8,ae,N8,v,rfl]:=z;erw[bJ.of (v.kp _ _ ad n2)];intro j y σ H8 Nf Cz hj ⟨F8,ae,N8,v,rfl⟩;let G:j<ge S:=(by let:=(ai.mp hj).1;rw[af] at this;erw[this]);rw[ao,aa G] at hj;ext hj;rw[Qg G] at Cz;let a4:∀r∈S,r<ge rs:=λr hr=>(EO aq (I.1 r hr)).1;let f8:Fr A ((S.take j).foldl (ue rs i f) A):=Cm (λ_ _=>KQ) _ _;let b8:Bd (ge ns) (ge rs) (D+1+1*ge n+2*ge (S.take j)) ((S.take j).foldl (ue rs i f) A):=EN (λs=>i<ge s.ls) _ _ _ (λs x D hx hi b=>#[by
   let#[l',e,_]:=(KQ (rs:=rs) (h:=f) (i:=i) (r:=x) (s:=s)).lt i _ (aa hi);exact (ai.mp e).1,Yz o b hi (a4 x (List.mem_of_mem_take hx))]) (ai.mp WQ).1 b7
  let bi:ge (S.take j)<=12:=(by rw[bU];let:=I.2;lia);let#[az,L,hw,ax]:=EO aq (I.1 _ (aB G));rw[<- f8.ws] at hw;let#[l8,Z,_]:=f8.lt i _ WQ;let aQ:=f8.ok aM;generalize (S.take j).foldl (ue rs i f) A=s8 at N8 b8 Z hw aQ Cz;show iU 10 (fw ((S[j]:Nat):Int)) _ _ _;generalize S[j]=r at az hw Cz;let#[bv,bh,q8,bb,O8,bo,bg]:=id N8.c6;let as:=O8.get .c6 _ rfl;rw[bb] at as;let a9:=(b8.lb l8 (aD Z)).1;let B:=b8.cb;let al:mO l8%ge L<ge L:=Nat.mod_lt _ (jT.mpr ax);let aT:L[(((mO l8:Nat):Int)%(ge L:Int)).toNat]?=ac L[mO l8%ge L]:=(by rw[show (((mO l8:Nat):Int)%(ge L:Int))=((mO l8%ge L:Nat):Int) from rfl,cQ];erw[aa al]);let aC:=aa az;erw[1,p,6,as,838,F8,p,tp,ln,lr,ns,rs,s8,i,f,r,l8,rs[r],L,1,N8,o,aQ,Z,55,aC,hw,aT,ax,λF9 H9 N9 an=>?_];erw[Cz _ _ #[F9,34,v.trans an,2]];let e1:j7 s8.ws r (WS s8 i)=L[mO l8%ge L]:=(by delta j7 WS;rw[hw,Z];show L.getD (mO l8%ge L) 0=_;rw[ak,aa al];rfl);let e2:fX rs r f=iu rs[r] f:=(by delta fX;rw[aC]);delta ue;rw[e1,e2];erw[N9];intro σ H8 ⟨F8,ae,N8,v,rfl⟩;rw[af,gH] at N8;erw[k1 F8 H8 hO aW N8 (aw.trans v)]
def Tl{a b:TS}{H:Hp}(J:L2.St->Hp->Prop)(d:∀c H,J c H->b D c H)(h:∀N:L2.St->Hp->Prop,(∀c H,J c H->N c H)->a {D with nx:=N} c H):mx a b D c H:=h _ d
inductive YB(C:du)(vs:!V)(H:Hp)(Q:VK)(E:XK):Prop
 |mk (p dx la:du) (g:Int):vs=[.ref p,.ref la,.int g]->H p=ac (.ins C dx [])->(∀da ea H',H da=de->H ea=de->da≠ea->H' p=ac (.ins C dx [("letter",.ref la),("group",.int g),("old",.bl dr),("done_at",.ref da),("deeds",.ref ea)])->H' da=ac (.dK [])->H' ea=ac (.lst [])->(∀b o,H b=ac o->b≠p->H' b=ac o)->Q .gw H')->YB C vs H Q E
theorem Ji(T:Txt K mg w t):oI P w mg base T.uI 1 (YB t.lO):=by erw[T.uI.F.iV Iv λH Q E s h=>?_];·let#[p,j,u,g,rfl,r,k]:=h;erw[_,(au (gR (pv 0) (pv 1) rfl) (au (gR (pv 0) (pv 2) rfl) (au (gR (pv 0) KY rfl) (au (gR (pv 0) abj rfl) (b6 (gR (pv 0) (eB gx) rfl)))))),4];left;erw[38,p,_,j,1,r,T.fq,T.jr,(!_),4];rw[fF (names:=[]) rfl rfl];erw[38,p,_,j,1,ay,T.fq,T.nh,(by show 1<1000;decide),4];rw[fF (names:=["letter"]) rfl (↑_),Qt];erw[1,p,_,j,1,ay,T.fq,T.BK,(by show 2<1000;decide),4];rw[fF (names:=["letter","group"]) rfl (↑_),Qt];intro i c;let d:H i=de:=(by by_cases z:i=p;subst z;rw[ay] at c;ext c;rw[aY z] at c;erw[c]);let q:p≠i:=aS r d;erw[1,p,_,j,1,(by rw[aY q];erw[ay]),T.fq,T.rU,(by show 3<1000;decide),4];rw[fF (names:=["letter","group","old"]) rfl (↑_)];erw[bL _,λn a=>?_];let l:n≠p:=λz=>(by subst z;rw[ay] at a;ext a);rw[aY l] at a;let f:i≠n:=λz=>(by subst z;rw[ay] at a;ext a);rw[aY (cC f),aY l] at a;erw[1,p,_,j,1,(by rw[aY (cC l)];erw[ay]),T.fq,T.j3,(by show 4<1000;decide),4];rw[fF (names:=["letter","group","old","done_at"]) rfl (↑_)];erw[k i n _ d a f ay ?_ ?_ λb o e m=>?_];rw[aY (cC q),aY f,aY (cC q)];erw[ay];rw[aY l];erw[ay];rw[aY m,aY (aS e a),aY m,aY (aS e d),aY m];erw[e]
noncomputable def gu(s:NS)(x:Nat)(to:Option Nat):LS:={s:=x,to:=to.getD 0,kd:=if to.isSome=df then 1 else 2,grp:=s.groups.getD x 0,old:=dr,done:=[],aK:=[]}
noncomputable def Qh(s:NS)(l:LS):NS:={s with ls:=s.ls++[l]}
noncomputable def jN(s:NS)(x:Nat)(to:Option Nat):NS:={s with ls:=s.ls++[{gu s x to with aK:=[.post (s.aE.getD x 0)]}]}
noncomputable def rz(rs:!R5)(s:NS)(x:Nat)(to:Option Nat)(os:!Nat):NS:=SA rs (jN s x to) (ge s.ls) (s.aE.getD x 0) {gu s x to with aK:=[.post (s.aE.getD x 0)]} de os
theorem aah:eF (Qh s (gu s x to)) (ge s.ls) (.post (s.aE.getD x 0))=jN s x to:=by rw[gD (l:=gu s x to) (by show (s.ls++[_])[ge s.ls]?=_;rw[bE (aA _),fB];rfl)];show {s with ls:=(s.ls++[_]).set (ge s.ls) _}={s with ls:=_};congr 1;rw[qd _ _ (aA _),fB];rfl
theorem jR{s:NS}:(s.ls++[l])[ge s.ls]?=ac l:=by rw[bE (aA _),fB];rfl
theorem YC{x:Nat}(b:Bd n m D s)(g:x<ge s.aE):Bd n m (D+1) (jN s x to):=by let a:=b.mono (iO D);erw[a.gl,a.xR,a.g3,a.hm,a.hl,a.hb,4,λl z=>?_,a.cb,λc z=>?_,a.tb];show ge (s.ls++[_])<=_;rw[az];erw[rG b.ll 1];obtain y|y:=aR.mp z;erw[a.lb l y];rw[aP] at y;subst y;erw[4,bL _,44];show 1+ge s.cps<=D+1;let:=b.cb;lia;show s.groups.getD x 0<3;let d:x<ge s.groups:=(by rw[b.gl];erw[g]);rw[ak,aa d];erw[b.g3 _ (aB d)];show (if _ then (1:Int) else 2)=1\/(if _ then (1:Int) else 2)=2;split;erw[.inl rfl];erw[.inr rfl];let#[f,e]:=b.cl c z;erw[4,e];show c.l<ge (s.ls++[_]);rw[az];erw[b9 f (AI _ _)]
inductive YD(K:ah)(CT:du)(c:NC)(vs:!V)(H:Hp)(Q:VK)(E:XK):Prop
 |mk(F:du->Prop)(p tp ln lr:du)(ns:!Int)(rs:!R5)(s:NS)(o:cS ns rs)(x:Nat)(to:Option Nat)(D:Nat):vs=[.ref p,.int x,HZ (to.map λy:Nat=>(y:Int))]->NW K c CT H F p tp ln lr ns rs s->A0 ns rs s->Bd (ge ns) (ge rs) D s->D<=800000->x<ge s.aE->(∀y,to=ac y->y<ge s.aE/\s.groups[y]?=s.groups[x]?)->(∀os F' H',fm (gW ns rs o s.ws (s.groups.getD x 0)) (s.R (s.groups.getD x 0)) os->ge os<=12->NW K c CT H' F' p tp ln lr ns rs (rz rs s x to os)->Step H F H' F'->Q (.int (ge s.ls)) H')->YD K CT c vs H Q E
theorem UG(T:Txt K mg w t):ou P w K mg base QN 8 t.kP t.Bs ["self","sender","to"] (YD K t.bf (nc t)):=by erw[T.xu.iV yd λH Q E hr h=>?_];·let#[F,p,tp,ln,lr,ns,rs,st,o,x,c,D,rfl,N,Cy,bd,hD,hx,aJ,k]:=h;erw[_,(au (fC (cM (pv 0) T.bX T.rS (Ht T) hr (oW (pv 1) (pv 2)))) (au (sS 3 yd (lG (qT Vy (pv 2) pI) (Xe T.aeV (Ar T) (hr.mono (!_)) rfl T.aeU T.pe.B .nil nX (dj (pv 1))) (cI T.xo (Kr T) hr T.aeT (oW (pv 1) (pv 2))))) (au (sS 4 yd (lS T.gE (bF (pv 0) rfl))) (au (fC (jM bK bT bS fY (bF (pv 0) rfl) (dj (cI T.uI (Ji T) hr T.acv (oW (pv 3) (xL (bF (pv 0) rfl) (pv 1))))))) (au (sS 5 yd (xL (bF (pv 0) rfl) (pv 1))) (au (fC (jM bK bT bS fY (bF (xL (bF (pv 0) rfl) (pv 4)) rfl) (dj (i6 (oW bH (pv 5)))))) (au (fC (cM (pv 0) T.bX T.pq (Ax T) hr (Lv (pv 4) (pv 5) pI))) (oR (pv 4))))))))),4];left;let#[n,dx,q,hp,O,hF,hT]:=id N.c6;let cD:=O.get .c6 _ rfl;rw[hp] at cD;let Sz:x<ge st.groups:=(by rw[bd.gl];erw[hx]);erw[bY λNx j=>?_];erw[1,p,6,cD,81,F,p,tp,ge ns,x,c,st,2,N.c6,hx,bd.gl,aJ,j _ _ ?_];erw[Tl (λσ r=>∃la Q3,aH H r/\H la=de/\r la=ac (vf (nc t) Q3 (gu st x c))/\σ=[ac (.ref p),ac (.int x),ac (HZ (c.map λy:Nat=>(y:Int))),ac (.ref la),de,de]) ?_ (λN hN=>?_)];rotate_left;(cases c with|none=>erw[18,fZ ?_];erw[1,λz dz Y v G=>#[z,_,dz,x,2,ay,T.BJ,T.qN,24]];erw[hN _ _ #[z,dz,made Y v G,Y,ay,2]]|some y=>erw[18,fP ?_];erw[38,λz dz Y v G=>#[z,dz,x,y,2,ay,λH3 aD kp=>#[24]]];erw[hN _ _ #[z,dz,λb u e=>kp b u (((aH.new v).trans (aH.new (by rw[aY (cC G)];erw[Y]))) b u e) (aS e Y),Y,aD,2]]);intro σ r ⟨la,Q3,s,ad,ab,rfl⟩;let jh:=s _ _ cD;let N1:=N.mono s;let#[O1,T1]:=And.intro (O.mono s) (hT.mono λb x=>s.cU (a:=b) (xs:=x));let A:=O1.get .dQ _ rfl;erw[bY λNx j=>?_];erw[1,p,336,jh,T.bX,T.ic,2,n .dQ,1,.inl (bJ.of A),4];rw[af,aX];erw[j _ _ ?_];erw[bY λNx j=>?_];erw[1,p,336,jh,T.bX,T.ic,2,.inl #[23,bJ.of A],38,p,336,jh,T.bX,T.nO,8,n .groups,9,bJ.of (O1.get .groups _ rfl),ua Sz,λpa HE f R S=>#[pa,HE,la,1,ay,λda ea H2 C U aw as aj aI ax=>#[24]]];let m:aH r H2:=λb u e=>ax b u (((aH.new R).trans (aH.new (by rw[aY (cC S)];erw[f]))) b u e) (aS e f);let X:r da=de:=(by cases e:r da with|none=>rfl|some u=>let:=((aH.new (o:=.own pa) R).trans (aH.new (o:=.ins t.lO HE []) (by rw[aY (cC S)];erw[f]))) _ _ e;rw[C] at this;ext this);let J:r ea=de:=(by cases e:r ea with|none=>rfl|some u=>let:=((aH.new (o:=.own pa) R).trans (aH.new (o:=.ins t.lO HE []) (by rw[aY (cC S)];erw[f]))) _ _ e;rw[U] at this;ext this);let nF:∀{b},r b=de->¬F b:=λ{b} e z=>(by let#[u,e']:=N1.c6.there z;rw[e] at e';ext e');let aB:¬F la:=λz=>(by let#[u,e']:=N.c6.there z;rw[ad] at e';ext e');let aG:pa≠da:=λz=>(by rw[<- z,ay] at C;ext C);let aC:pa≠ea:=λz=>(by rw[<- z,ay] at U;ext U);let L:∀{b},r b=de->la≠b:=λ{b} e=>aS ab e;let eg:st.groups.getD x 0=st.groups[x]:=(by rw[ak,aa Sz];rfl);let aA:=m _ _ A;erw[n .dQ,62,aA,zY (by rw[af,aX];let:=bd.ll;lia),4];let#[F3,N3,an,am]:=ab5 (l:=gu st x c) (HE:=HE) (Q3:=Q3) (pa:=pa) (la:=la) (da:=da) (ea:=ea) hp (O1.mono m) hF (T1.mono λb x=>m.cU (a:=b) (xs:=x)) rfl (by show _=ac (gd _ _ [_,(_,fw ((st.groups.getD x 0:Nat):Int)),_,_,_]);rw[eg];erw[as]) (m _ _ ab) aj aI (cC (L f)) aG aC (L X) (L J) aw (nF f) aB (nF X) (nF J);let M:Step H F _ F3:=#[λb u e z=>an b u (m _ _ (s _ _ e)) z,λb z=>by obtain y|rfl|rfl|rfl|rfl:=am b z;erw[.inl y];erw[.inr (s.free f)];erw[.inr ad];erw[.inr (s.free X)];erw[.inr (s.free J)]];let W3:=N.done M N3;generalize upd H2 (n .dQ) (.lst (((av (ge st.ls)).map λi=>fx (n (.cR i)))++[.ref pa]))=H3 at M W3 N3;erw[j _ _ ?_];let#[W,ah,q3,ag,Z,aq,ao]:=id W3.c6;let X3:mz K (nc t) H3 F3 W ah q3 p tp (ge ns) (Qh st (gu st x c)):=#[ag,Z,aq,ao];let Hv:=Z.get .c6 _ rfl;rw[ag] at Hv;let g:(Qh st (gu st x c)).ls[ge st.ls]?=ac (gu st x c):=jR;let ar:ge st.ls<ge (Qh st (gu st x c)).ls:=(ai.mp g).1;let eh:st.aE.getD x 0=st.aE[x]:=(by rw[ak,aa hx];rfl);erw[bY λNx j=>?_];erw[1,p,336,Hv,T.bX,T.ny,8,W .aE,9,bJ.of (Z.get .aE _ rfl),ua hx,j _ _ ?_];let aF:=Z.get (.cR (ge st.ls)) (qv (nc t) ah W (ge st.ls) (gu st x c)) (by show ((Qh st (gu st x c)).ls[ge st.ls]?.map _)=_;rw[g];rfl);let ae:=Z.get (.aK (ge st.ls)) (.lst ((q3.dq (ge st.ls)).map fx)) (by show ((Qh st (gu st x c)).ls[ge st.ls]?.map _)=_;rw[g];rfl);let Sy:=(X3.tup.aK _ _ g).len;rw[af] at Sy;erw[bY λNx j=>?_];erw[1,p,336,Hv,T.bX,T.ic,8,W .dQ,9,bJ.of (Z.get .dQ _ rfl),ux ar,W (.cR (ge st.ls)),336,aF,T.fq,T.j3,2,.inl #[23,bJ.of ae],1,g5,λz1 az=>?_];let u1:=aH.new (o:=.tup [fA "post",fw (st.aE[x]:Nat)]) az;erw[W (.aK (ge st.ls)),62,u1 _ _ ae,zY (by rw[af,Sy];erw[bL _]),4];let#[X4,HQ]:=C1 (X3.mono u1) g (d:=.post st.aE[x]) (dH.of ay);rw[<- gD g,<- eh,aah] at X4;rw[<- eh] at HQ u1;rw[<- eh];let I:=M.trans ((Step.refl' (F:=F3) u1).trans HQ);let W4:=N.done I X4.c6;generalize upd (upd H3 z1 (.tup [fA "post",fw (st.aE.getD x 0:Nat)])) (W (.aK (ge st.ls))) (.lst ((q3.dq (ge st.ls)).map fx++[.ref z1]))=H4 at X4 I W4;erw[j _ _ ?_];let DU:=X4.own.get .c6 _ rfl;rw[X4.hp] at DU;let al:A0 ns rs (jN st x c):=#[Cy.wl,Cy.w4,Cy.fit];erw[bY λNx j=>?_];erw[1,p,6,DU,81,F3,p,tp,ln,lr,ns,rs,jN st x c,o,ge st.ls,st.aE.getD x 0,de,{gu st x c with aK:=[.post (st.aE.getD x 0)]},D+1,2,W4,al,YC bd hx,5,jR,λos F5 H5 hO ap W5 Vm=>?_];erw[j _ _ #[1,k os F5 H5 hO ap W5 (I.trans Vm)]]
theorem ww(o:cS ns rs){i:Nat}{os:!Nat}(b:Bd (ge ns) (ge rs) D s)(hl:s.ls[i]?=ac l)(O:fm (gW ns rs o s.ws l.grp) (s.R l.grp) os)(n:ge os<=12):Bd (ge ns) (ge rs) (D+45) (SA rs s i h l cK os):=by
 let q:=Yy (h:=h) b hl;let f1:=Si (h:=h) hl;let g:Bd (ge ns) (ge rs) (D+1+1*ge (nC s l h)) ((nC s l h).foldl (jA i h) (gi s i h l)):=EN (λ_=>True) _ _ _ (λs x D _ _ b=>#[trivial,Sj b]) trivial q;let m:Fr (gi s i h l) ((nC s l h).foldl (jA i h) (gi s i h l)):=Cm (λ_ _=>KP) _ _;let#[y,a,_]:=(f1.trans m).lt i l hl;let v:=(M6 (s:=s) (l:=l) (h:=h)).2;let t:=b.xR;let c:=YA (rs:=rs) (s:=s) (l:=l) (h:=h) (cK:=cK) (os:=os);let w:=c.2;let p:=EN (k:=2) (f:=ue rs i h) (λs=>i<ge s.ls) (Ff rs s l h cK os) _ _ (λs x D j d b=>#[by
  let#[u,e,_]:=(KQ (rs:=rs) (h:=h) (i:=i) (r:=x) (s:=s)).lt i _ (aa d);exact (ai.mp e).1,Yz o b d (EO O (c.1 x j)).1]) (ai.mp a).1 g
 erw[p.mono ∅]
noncomputable def CA(l:LS)(cp:Cp)(os:!Nat):Str:=if cp.r∈os then (if Fe l cp.h=df then "twice" else "come") else "lost"
noncomputable def iE(l:LS)(cp:Cp)(os:!Nat):kE:=if cp.r∈os then (if Fe l cp.h=df then .twice cp.h cp.r else .CF cp.h cp.r) else .abY cp.h cp.r
theorem afi{os:!Nat}:(iE l cp os).vs=[.str (CA l cp os),.int cp.h,.int cp.r]:=by
 delta iE CA;split;·split <;> rfl
 rfl
noncomputable def ii(l:LS)(cp:Cp)(os:!Nat):Bool:=decide (cp.r∈os)&&(Fe l cp.h).not
theorem aai{os:!Nat}:decide (fA (CA l cp os)=fA "come")=ii l cp os:=by delta CA ii;by_cases e:cp.r∈os;rw[eG e,fy e];cases Fe l cp.h;rw[eH (!_)];decide +kernel;rw[eG rfl];decide +kernel;rw[eH e,gh e,Bool.false_and];decide +kernel
noncomputable def UH(s:NS)(a:Nat):NS:={s with cps:=s.cps.eraseIdx a}
noncomputable def Fg(s:NS)(g:Nat)(ts:!T3):NS:={s with ts:=gM s.ts g ts}
noncomputable def jB(s:NS)(a:Nat)(cp:Cp)(l:LS)(os:!Nat):NS:={s with cps:=s.cps.eraseIdx a,ls:=s.ls.set cp.l {l with aK:=l.aK++[iE l cp os]}}
noncomputable def cN(s:NS)(a:Nat)(cp:Cp)(l:LS)(os:!Nat)(ts:!T3):NS:=if l.old=df then jB s a cp l os else Fg (jB s a cp l os) l.grp ts
noncomputable def jj(rs:!R5)(s:NS)(a:Nat)(cp:Cp)(l:LS)(os:!Nat)(ts:!T3):NS:=
 if ii l cp os=df then SA rs (cN s a cp l os ts) cp.l cp.h {l with aK:=l.aK++[iE l cp os]} (ac cp.r) os else jB s a cp l os
theorem Jj{a:Nat}{cp:Cp}{os:!Nat}(b:Bd n m D s)(hl:s.ls[cp.l]?=ac l)(d:a<ge s.cps):Bd n m (D+1) (jB s a cp l os):=by let e:ge (s.cps.eraseIdx a)+1=ge s.cps:=(by rw[List.length_eraseIdx,eG d];lia);erw[b.set 1 hl ∅ (.inl ∅) (aA _) ?_ (iO _) rfl rfl (λc z=>.inl (uW z)) rfl (λw z=>jO (b.hb w z))];show ge (l.aK++[_])+_<=_;rw[az];show ge l.aK+1+_<=_;lia
theorem ac0{a:!T3}(p:a.Perm (hX ts h c r)):ge a<=ge ts+1:=by rw[p.length_eq];delta hX;rw[az];erw[rG (bx _ _) 1]
theorem afj{ts:!T3}(b:Bd n m D s)(p:ts.Perm (hX (s.ts g) h c r))(e:gB ts):Bd n m (D+50) (Fg s g ts):=by let a:=b.mono (AI D 50);erw[a.gl,a.xR,a.g3,a.hm,a.hl,a.hb,a.ll,a.lb,a.cb,a.cl,λd=>?_];show 50*ge (gM s.ts g ts d)<=_/\gB (gM s.ts g ts d);by_cases z:d=g;subst z;rw[c9];erw[4,e];let:=ac0 p;let:=(b.tb d).1;lia;rw[fL z];erw[a.tb d]
theorem Jk{s:NS}{cp:Cp}{os:!Nat}(hl:s.ls[cp.l]?=ac l):(jB s a cp l os).ls[cp.l]?=ac {l with aK:=l.aK++[iE l cp os]}:=by show (s.ls.set cp.l _)[cp.l]?=_;rw[fR (ai.mp hl).1,eG rfl]
theorem oQ{s:NS}{cp:Cp}{os:!Nat}(hl:s.ls[cp.l]?=ac l):(cN s a cp l os ts).ls[cp.l]?=ac {l with aK:=l.aK++[iE l cp os]}:=by delta cN;split;erw[Jk hl];erw[Jk (a:=a) hl]
theorem Ay{os:!Nat}:(cN s a cp l os ts).ws=s.ws/\(cN s a cp l os ts).R=s.R/\(cN s a cp l os ts).aE=s.aE/\(cN s a cp l os ts).groups=s.groups:=by delta cN;split <;> exists 2222
theorem UI{a:Nat}{cp:Cp}{os:!Nat}{ts:!T3}(b:Bd n m D s)(hl:s.ls[cp.l]?=ac l)(d:a<ge s.cps)(p:ts.Perm (hX (s.ts l.grp) h c r))(e:gB ts):Bd n m (D+51) (cN s a cp l os ts):=by delta cN;split;erw[(Jj b hl d).mono ∅];erw[(afj (h:=h) (c:=c) (r:=r) (Jj b hl d) p e).mono ∅]
theorem afk(o:cS ns rs){a:Nat}{cp:Cp}{os:!Nat}{ts:!T3}(b:Bd (ge ns) (ge rs) D s)(hl:s.ls[cp.l]?=ac l)(f:a<ge s.cps)(O:fm (gW ns rs o s.ws l.grp) (s.R l.grp) os)(d:ge os<=12)(p:ts.Perm (hX (s.ts l.grp) h c r))(g:gB ts):Bd (ge ns) (ge rs) (D+100) (jj rs s a cp l os ts):=by delta jj;split;let e:=Ay (s:=s) (a:=a) (cp:=cp) (l:=l) (os:=os) (ts:=ts);erw[(ww o (UI (h:=h) (c:=c) (r:=r) b hl f p g) (oQ hl) (by rw[e.1,e.2.1];erw[O]) d).mono ∅];erw[(Jj b hl f).mono ∅]
theorem _root_.TW.fE.erase(h:fE K H qs xs)(a:Nat):fE K H (qs.eraseIdx a) (xs.eraseIdx a):=by exists by rw[List.length_eraseIdx,List.length_eraseIdx,h.len],λi q x b c=>?_;rw[List.getElem?_eraseIdx] at b c;by_cases z:i<a;rw[eG z] at b c;erw[h.at' i q x b c];rw[eH z] at b c;erw[h.at' (i+1) q x b c]
theorem Jl{b c:Type}(f:b->c):∀(xs:!b)(a:Nat),(xs.map f).eraseIdx a=(xs.eraseIdx a).map f
 |[],_=>rfl
 |_::_,0=>rfl
 |x::xs,a+1=>gZ (f x::·) (Jl f xs a)
theorem ac1{c:NC}{H d:Hp}{F:du->Prop}{a j:Role->du}{q:TQ}{p i:du}{n g:Nat}{s:NS}(X:mz K c H F a j q p i n s)(f:g<3)(ts:!T3)(w:d (a (.gQ g))=ac (.dT (ts.map p6)))(v:∀b o,H b=ac o->b≠a (.gQ g)->d b=ac o) :mz K c d F a j q p i n (Fg s g ts)/\Step H F d F:=by let#[y,h]:=A1 X (r:=.gQ g) (o:=.dT (ts.map p6)) (q':=q) (s':=Fg s g ts) (by show (if g<3 then ac _ else de)≠de;rw[eG f];erw[bC _]) (λx=>by (ext x <;> first|rfl|skip);rename_i k;show jz (g0 c j i a q s) (.gQ g) _ (.gQ k)=(if k<3 then ac (HO.dT ((gM s.ts g ts k).map p6)) else de);by_cases z:k=g;subst z;rw[fD,eG f,c9];rw[dD (λe=>z (by ext e;rfl)),fL z];rfl) (λm=>#[λg f=>(X.tup.rows g f).mono m,λk l e=>(X.tup.aK k l e).mono m,X.tup.cps.mono m]);let t:aH (upd H (a (.gQ g)) (.dT (ts.map p6))) d:=λb u e=>(by by_cases z:b=a (.gQ g);rw[z,ay] at e;ext e;rw[z];erw[w];rw[aY z] at e;erw[v b u e z]);erw[y.mono t,h.trans (Step.refl' t)]
theorem afl{t:Ad}(T:Txt K mg w t){b a:Role->du}{f:L2.St}{H:Hp}{Q:VK}{i:Nat}{l:LS}(g:∀Q:VK,Q (.ref (a (.cR i))) H->Qw 6 f H Q)(h:H (a (.cR i))=ac (qv (nc t) b a i l))(c:H (a (.letter i))=ac (vf (nc t) (b (.letter i)) l))(q:Q (.int l.s) H) :K4 K (K4 K (Qw 6) (eC "letter")) (eC "sender") f H Q:=by by_cases e:l.kd=1;let d:H (a (.letter i))=ac (.ins t.iA (b (.letter i)) [("sender",.int l.s),("to",.int l.to)]):=(by rw[c];delta vf;rw[eG e]);delta K4;erw[(g _ #[a (.cR i),336,h,T.fq,T.jr,2,a (.letter i),_,b (.letter i),6,d,T.sW,T.xx,2,q])];let d:H (a (.letter i))=ac (.ins t.kQ (b (.letter i)) [("sender",.int l.s)]):=(by rw[c];delta vf;rw[eH e]);delta K4;erw[(g _ #[a (.cR i),336,h,T.fq,T.jr,2,a (.letter i),_,b (.letter i),6,d,T.BJ,T.qN,2,q])]
inductive YE(K:ah)(CT:du)(c:NC)(vs:!V)(H:Hp)(Q:VK)(E:XK):Prop
 |mk(F:du->Prop)(p tp ln lr:du)(ns:!Int)(rs:!R5)(s:NS)(o:cS ns rs)(a D:Nat)(cp:Cp)(l:LS):vs=[.ref p,.int a]->NW K c CT H F p tp ln lr ns rs s->A0 ns rs s->Bd (ge ns) (ge rs) D s->D<=400000->s.cps[a]?=ac cp->s.ls[cp.l]?=ac l->(∀os ts F' H',fm (gW ns rs o s.ws l.grp) (s.R l.grp) os->ge os<=12->ts.Perm (hX (s.ts l.grp) cp.h l.s cp.r)->gB ts->NW K c CT H' F' p tp ln lr ns rs (jj rs s a cp l os ts)->Step H F H' F'->Q (.str (CA l cp os)) H')->YE K CT c vs H Q E
theorem DV(T:Txt K mg w t):ou P w K mg base QN 8 t.g9 t.sP ["self","at"] (YE K t.bf (nc t)):=by erw[T.oJ.iV i8 λH Q E hr h=>?_];·let#[F,p,tp,ln,lr,ns,A,st,o,a,D,cp,l,rfl,N,J,bd,hD,ab,g,k]:=h;erw[_,(au (cV (ki (lH rE xV aF (pv 1) (lS T.gE (bF (pv 0) rfl)))) dO bR) (au (sS 2 i8 (jM bK PySem.F.slot_list_pop PySem.F.type_list_pop abg (bF (pv 0) rfl) (dj (pv 1)))) (au (sS 3 i8 (xT (pv 2) aF)) (au (sS 4 i8 (xT (pv 2) aF)) (au (sS 5 i8 (xT (pv 2) aF)) (au (sS 6 i8 (xL (bF (pv 0) rfl) (pv 3))) (au (sS 7 i8 (cM (pv 0) T.bX T.zE (M5 T) hr (Lv (pv 6) (pv 4) (pv 5)))) (au (fC (jM bK bT bS fY (bF (pv 6) rfl) (dj (i6 (Lv (pv 7) (pv 5) (pv 4)))))) (au (cV (qT i0 (pv 7) bH) (au (cV (ki (mT (bF (pv 6) rfl))) (oE (cM (xL (bF (pv 0) rfl) (bF (pv 6) rfl)) T.Ga T.Bu (OP T) hr (Lv (pv 5) (bF (bF (pv 6) rfl) rfl) (pv 4)))) bR) (oE (cM (pv 0) T.bX T.pq (Ax T) hr (Lv (pv 3) (pv 5) (pv 4))))) bR) (oR (pv 7))))))))))),4];left;let#[b,B,q,hp,O,hF,hT]:=id N.c6;let X:mz K (nc t) H F b B q p tp (ge ns) st:=#[hp,O,hF,hT];let cD:=O.get .c6 _ rfl;rw[hp] at cD;let ae:=(ai.mp ab).1;let as:=(ai.mp g).1;let ax:=bd.cb;let#[aA,aw,Z,az]:=bd.lb l (aD g);let#[ts,ak,y,I]:=V3 (h:=(cp.h:Int)) (c:=(l.s:Int)) (r:=(cp.r:Int)) (List.Perm.refl (st.ts l.grp)) (bd.tb l.grp).2;let C:=O.get .gj _ rfl;let ad:ge q.cq=ge st.cps:=(by let z:=hT.cps.len;rw[af] at z;erw[z]);let L:a<ge q.cq:=∅;erw[bY λx f=>?_];exists 1684;rw[fy (show (0:Int)<=(a:Int) by lia)];erw[fZ #[1,p,336,cD,T.bX,T.kT,2,b .gj,1,.inl (bJ.of C),684]];rw[af,ad,fy (show (a:Int)<(ge st.cps:Int) by lia)];erw[fP (f _ _ ?_)];erw[bY λx f=>?_];erw[1,p,336,cD,T.bX,T.kT,2,.inl #[23,bJ.of C],1,b .gj,_,a,a,12,C,55,(QH (by rw[af,ad];erw[AU ae])).1,(by rw[ao,aa L];rfl),4];let al:dH K H q.cq[a] cp.vs:=hT.cps.at' a _ _ (aa L) (by rw[ao,ab];rfl);let#[n,u]:=XH X (qs:=q.cq.eraseIdx a) (cps:=st.cps.eraseIdx a) (by rw[<- Jl];erw[hT.cps.erase a]);rw[Jl];let j:dH K _ q.cq[a] cp.vs:=N.c6.tup u.kp al;generalize upd H (b .gj) (.lst ((q.cq.eraseIdx a).map fx))=H1 at n u j;generalize q.cq[a]=qa at j;erw[f _ _ ?_];let es:{st with cps:=st.cps.eraseIdx a}=UH st a:=rfl;rw[es] at n;let Jh:(UH st a).ls[cp.l]?=ac l:=g;let N1:=N.done u n.c6;let jh:=n.own.get .c6 _ rfl;rw[n.hp] at jh;let am:=n.own.get (.cR cp.l) (qv (nc t) B b cp.l l) (by show ((UH st a).ls[cp.l]?.map _)=_;rw[Jh];rfl);erw[bY λx f=>?_];erw[1,qa,_,(0),12,j,2,f _ _ ?_];erw[bY λx f=>?_];erw[1,qa,_,(1),12,j,2,f _ _ ?_];erw[bY λx f=>?_];erw[1,qa,_,(3),12,j,2,f _ _ ?_];erw[bY λx f=>?_];erw[1,p,336,jh,T.bX,T.ic,8,b .dQ,9,bJ.of (n.own.get .dQ _ rfl),ux as,f _ _ ?_];let ah:A0 ns A (UH st a):=#[J.wl,J.w4,J.fit];erw[bY λx f=>?_];erw[1,p,6,jh,838,F,b,B,_,p,tp,ln,lr,ns,A,UH st a,o,cp.l,cp.r,cp.h,l,2,n,N1,ah,Jh,Z,λos H2 s2 hO M=>?_];let ef:(if cp.r∈os then (if Fe l cp.h=df then "twice" else "come") else "lost" : Str)=CA l cp os:=rfl;rw[ef];erw[f _ _ ?_];let k:=k os ts;let X2:=n.mono s2;let an:=s2 _ _ am;let Y:=X2.own.get (.aK cp.l) (.lst ((q.dq cp.l).map fx)) (by show ((UH st a).ls[cp.l]?.map _)=_;rw[Jh];rfl);let Sy:=(X2.tup.aK cp.l _ Jh).len;rw[af] at Sy;let Sy:ge (q.dq cp.l)=ge l.aK:=Sy;erw[bY λx f=>?_];erw[1,b (.cR cp.l),336,an,T.fq,T.j3,2,.inl #[23,bJ.of Y],138,vD,λz1 aq=>?_];let u1:=aH.new (o:=.tup [fA (CA l cp os),fw cp.h,fw cp.r]) aq;erw[b (.aK cp.l),62,u1 _ _ Y,zY (by rw[af,Sy];lia),4];let#[i,ap]:=C1 (X2.mono u1) Jh (d:=iE l cp os) (by rw[afi];erw[dH.of ay]);let m:=(u.trans (Step.refl' (F:=F) (s2.trans u1))).trans ap;generalize upd (upd H2 z1 (.tup [fA (CA l cp os),fw cp.h,fw cp.r])) (b (.aK cp.l)) (.lst ((q.dq cp.l).map fx++[.ref z1]))=H3 at i m;erw[f _ _ ?_];let es:{UH st a with ls:=(UH st a).ls.set cp.l {l with aK:=l.aK++[iE l cp os]}}=jB st a cp l os:=rfl;rw[es] at i;let Hv:=i.own.get .c6 _ rfl;rw[i.hp] at Hv;let U:=Jk (a:=a) (os:=os) g;let G:=i.own.get (.cR cp.l) (qv (nc t) B b cp.l {l with aK:=l.aK++[iE l cp os]}) (by show ((jB st a cp l os).ls[cp.l]?.map _)=_;rw[U];rfl);let ag:=i.own.get (.letter cp.l) (vf (nc t) (B (.letter cp.l)) {l with aK:=l.aK++[iE l cp os]}) (by show ((jB st a cp l os).ls[cp.l]?.map _)=_;rw[U];rfl);let N3:=N.done m i.c6;exists 184;rw[aai];by_cases e:ii l cp os=df;(let k:∀F' S,NW K (nc t) t.bf S F' p tp ln lr ns A (SA A (cN st a cp l os ts) cp.l cp.h {l with aK:=l.aK++[iE l cp os]} (ac cp.r) os)->Step H F S F'->Q (.str (CA l cp os)) S:=λF' S W z=>k F' S hO M y I (by delta jj;rw[eG e];erw[W]) z;rw[e];erw[fZ ?_];erw[xY (λσ H4=>mz K (nc t) H4 F b B {q with cq:=q.cq.eraseIdx a,dq:=gM q.dq cp.l (q.dq cp.l++[z1])} p tp (ge ns) (cN st a cp l os ts)/\Step H F H4 F/\σ=[ac (.ref p),ac (.int a),ac (.ref qa),ac (.int cp.l),ac (.int cp.r),ac (.int cp.h),ac (.ref (b (.cR cp.l))),ac (.str (CA l cp os))]) ?_ (λN' hN=>?_)];intro σ H4 ⟨X4,HQ,rfl⟩;let DU:=X4.own.get .c6 _ rfl;rw[X4.hp] at DU;let ew:=Ay (s:=st) (a:=a) (cp:=cp) (l:=l) (os:=os) (ts:=ts);let aj:A0 ns A (cN st a cp l os ts):=#[by rw[ew.1];exact J.wl,by rw[ew.1];exact J.w4,by rw[ew.2.1];erw[J.fit]];erw[1,p,6,DU,838,F,p,tp,ln,lr,ns,A,cN st a cp l os ts,o,cp.l,cp.h,ac cp.r,{l with aK:=l.aK++[iE l cp os]},D+51,2,N.done HQ X4.c6,aj,UI bd g ae y I,5,oQ g,λar F5 H5 v _ W5 Vm=>?_];let v:fm (gW ns A o (cN st a cp l os ts).ws l.grp) ((cN st a cp l os ts).R l.grp) ar:=v;rw[ew.1,ew.2.1] at v;rw[v.uniq hO] at W5;erw[1,k F5 H5 W5 (HQ.trans Vm)];erw[1,b (.cR cp.l),336,G,T.fq,T.BK,84];cases eo:l.old with|true=>erw[fP ?_];erw[hN _ _ #[4,m,2]];delta cN;rw[eG eo];erw[i]|false=>erw[fZ ?_];erw[1,p,336,Hv,T.bX,T.yu,8,b (.cR cp.l),336,G,T.fq,T.nh,2,b .mh,9,bJ.of (i.own.get .mh _ rfl),ux Z,b (.book l.grp),B (.book l.grp),1,i.own.get (.book l.grp) _ (eG Z),84];erw[afl T (λQ q=>#[1,q]) G ag ?_];erw[1,b (.book l.grp),b (.gQ l.grp),st.ts l.grp,cp.h,l.s,cp.r,2,i.own.Wa Z,4,λH4 h4 av=>?_];let:=(bd.tb l.grp).1;lia;rw[ak] at h4;let#[X4,HQ]:=ac1 i Z ts h4 av;erw[hN _ _ #[4,m.trans HQ,2]];delta cN;rw[eH (by rw[eo];decide)];erw[X4]);let e':ii l cp os=dr:=e⁻¹;rw[e'];erw[fP ?_];erw[1,k F H3 hO M y I ?_ m];delta jj;rw[e',eH (!_)];erw[N3]
end
section
inductive Rw(rs:!R5)(os:!Nat)(r0:Nat)(x:Nat):Nat->Prop
 |refl:Rw rs os r0 x x
 |step {y r:Nat} (t:Rw rs os r0 x y) (hr:r∈os) (ne:r≠r0) (ha:gN rs (y:Int) r=df):Rw rs os r0 x (fX rs r y)
inductive Ds(N:RM.Net)(R:Nat->RM.Row)(c:Nat):Nat->Prop
 |self:Ds N R c c
 |on {r x y:Nat} (t:RM.lJ N R r x y) (d:Ds N R c y):Ds N R c x
theorem Ds.rank(d:Ds N R c x):(R c).ho<=(R x).ho:=by induction d with|self=>erw[ur _]|on t _ a=>let:=t.ho;lia
variable{ns:!Int}{rs:!R5}{os:!Nat}{live:!Nat}{nd:ns.Nodup}{ok:∀r∈rs,r.Ok (ge ns)}{hl:∀k∈live,k<ge rs}{R:Nat->RM.Row}
theorem WT{r x:Nat}(a:r∈live)(b:gN rs (x:Int) r=df):RM.CC (aL ns rs live nd ok hl) r x (fX rs r x):=by erw[(xX a).mpr #[b,4]];delta fX;rw[aa (hl r a)]
theorem YF(d:RM.CC N r a b)(c:RM.CC N r x y):(a=x/\b=y)\/(a=y/\b=x):=by obtain⟨f,g⟩|⟨f,g⟩:=d.2 <;> obtain⟨h,e⟩|⟨h,e⟩:=c.2 <;> lia
theorem UJ{r x:Nat}(d:r<ge rs)(ok:∀r∈rs,r.Ok (ge ns))(c:gN rs (x:Int) r=df):gN rs ((fX rs r x:Nat):Int) r=df/\fX rs r (fX rs r x)=x/\fX rs r x≠x/\fX rs r x<ge ns:=by let o:=ok _ (aB d);let m:=o.a0;let k:=o.b0;let j:=o.ab;let n:=o.a1;let l:=o.b1;let h:∀y,fX rs r y=iu rs[r] y:=λy=>(by delta fX;rw[aa d]);let g:∀y:Int,gN rs y r=(decide (y=rs[r].a) || decide (y=rs[r].b)):=λy=>(by delta gN;rw[aa d]);rw[h,h,g];rw[g] at c;let c:(decide ((x:Int)=rs[r].a) || decide ((x:Int)=rs[r].b))=df:=c;rw[qi,g6,g6] at c;show (decide _ || decide _)=df/\iu rs[r] (iu rs[r] x)=x/\iu rs[r] x≠x/\iu rs[r] x<_;rw[qi,g6,g6];delta iu;obtain e|e:=c;rw[eG e];let f:((rs[r].b.toNat:Nat):Int)=rs[r].b:=∅;rw[f,eH (cC j)];lia;let i:¬(x:Int)=rs[r].a:=∅;rw[eH i];let f:((rs[r].a.toNat:Nat):Int)=rs[r].a:=∅;rw[f,eG rfl];lia
theorem YG(O:fm (aL ns rs live nd ok hl) R os)(e:RM.lJ (aL ns rs live nd ok hl) R r0 c p){r:Nat}(f:r∈os)(g:r≠r0)(h:RM.CC (aL ns rs live nd ok hl) r y z)(d:Ds (aL ns rs live nd ok hl) R c y):Ds (aL ns rs live nd ok hl) R c z:=by
 let#[a,b,t]:=(O.2 r).mp f;obtain⟨rfl,rfl⟩|⟨rfl,rfl⟩:=YF t.k8 h;cases d with|self=>erw[ff (t.uniq e).1 g]|on j i=>let#[_,rfl]:=t.uniq j;erw[i]
 erw[.on t d]
theorem afm(O:fm (aL ns rs live nd ok hl) R os){r x:Nat}(f:r∈os)(h:gN rs (x:Int) r=df):¬Rw rs os r x (fX rs r x):=by intro t;let#[c,p,i]:=(O.2 r).mp f;let l:∀k∈os,k∈live:=λk o=>(by let#[a,b,t]:=(O.2 k).mp o;erw[t.k8.1]);let q:∀{y z:Nat},Rw rs os r y z->Ds (aL ns rs live nd ok hl) R c y->Ds (aL ns rs live nd ok hl) R c z:=λ{y z}t=>(by induction t with|refl=>erw[id]|step t f m h j=>erw[λd=>YG O i f m (WT (l _ f) h) (j d)]);let g:∀{y z:Nat},Rw rs os r y z->Ds (aL ns rs live nd ok hl) R c z->Ds (aL ns rs live nd ok hl) R c y:=λ{y z}t=>(by induction t with|refl=>erw[id]|step t f m h j=>erw[λd=>j (YG O i f m (WT (l _ f) h).symm d)]);let e:=i.ho;obtain⟨rfl,s⟩|⟨n,rfl⟩:=YF i.k8 (WT (l r f) h);let:=(q t .self).rank;rw[<- s] at this;lia;let:=(g t (n▸.self)).rank;lia
theorem Rw.trans(a:Rw rs os r0 x y)(b:Rw rs os r0 y z):Rw rs os r0 x z:=by induction b with|refl=>erw[a]|step t d f c e=>erw[.step e d f c]
theorem Rw.symm(ok:∀r∈rs,r.Ok (ge ns))(lt:∀k∈os,k<ge rs)(a:Rw rs os r0 x y):Rw rs os r0 y x:=by induction a with|refl=>erw[.refl]|@step y r t b f g d=>let#[e,c,_]:=UJ (lt r b) ok g;let:Rw rs os r0 (fX rs r y) y:=(by let:=Rw.step (rs:=rs) (os:=os) (r0:=r0) (x:=fX rs r y) .refl b f e;rw[c] at this;erw[this]);erw[this.trans d]
structure En where
 h:Nat
 fr:Option (Nat×Nat)
noncomputable def En.by?(e:En):Option Nat:=e.fr.map (·.1)
noncomputable def h9(rs:!R5)(os:!Nat)(e:En):!Nat:=os.filter λr=>gN rs (e.h:Int) r&&(decide (ac r=e.by?)).not
theorem nD:r∈h9 rs os e↔r∈os/\gN rs (e.h:Int) r=df/\ac r≠e.by?:=by delta h9;rw[aZ,dh,iQ,decide_eq_false_iff_not]
structure Fo(ns:!Int)(rs:!R5)(os:!Nat):Prop where
 lt:∀r∈os,r<ge rs
 ok:∀r∈rs,r.Ok (ge ns)
 cut:∀r∈os,∀x:Nat,gN rs (x:Int) r=df->¬Rw rs os r x (fX rs r x)
 ri:os.Pairwise (·<·)
variable{ns:!Int}{rs:!R5}{os:!Nat}
def Fo.of{live:!Nat}{nd:ns.Nodup}{ok:∀r∈rs,r.Ok (ge ns)}{hl:∀k∈live,k<ge rs}{R:Nat->RM.Row}(O:fm (aL ns rs live nd ok hl) R os):Fo ns rs os:=#[Th O,ok,λ_ b _ a=>afm O b a,O.1]
def Fo.back(F:Fo ns rs os){r x:Nat}(b:r∈os)(a:gN rs (x:Int) r=df):gN rs ((fX rs r x:Nat):Int) r=df/\fX rs r (fX rs r x)=x/\fX rs r x≠x/\fX rs r x<ge ns:=UJ (F.lt r b) F.ok a
theorem Fo.two(F:Fo ns rs os){r x y:Nat}(c:r∈os)(f:gN rs (x:Int) r=df)(d:gN rs (y:Int) r=df):y=x\/y=fX rs r x:=by let hl:=F.lt r c;let o:=F.ok _ (aB hl);let h:=o.a0;let g:=o.b0;let e:∀y:Int,gN rs y r=(decide (y=rs[r].a) || decide (y=rs[r].b)):=λy=>(by delta gN;rw[aa hl]);rw[e,qi,g6,g6] at f d;delta fX;rw[aa hl];show y=x\/y=iu rs[r] x;delta iu;split <;> lia
theorem Fo.symm(F:Fo ns rs os)(a:Rw rs os r0 x y):Rw rs os r0 y x:=a.symm F.ok F.lt
theorem Fo.avoid(F:Fo ns rs os){q x:Nat}(f:q∈os)(g:gN rs (x:Int) q=df)(a:gN rs (x:Int) r'=df)(t:Rw rs os q (fX rs q x) z):Rw rs os r' (fX rs q x) z:=by induction t with|refl=>erw[.refl]|@step y r t b i c h=>(erw[.step h b (λe=>?_) c];subst e;obtain e|e:=F.two b a c;subst e;erw[F.cut q f y g (F.symm t)];let d:=Rw.step t b i c;rw[e,(F.back b a).2.1] at d;erw[F.cut q f x g (F.symm d)])
theorem Rw.first(F:Fo ns rs os)(t:Rw rs os r0 x z)(g:x≠z):∃a,a∈os/\a≠r0/\gN rs (x:Int) a=df/\Rw rs os a (fX rs a x) z:=by induction t with|refl=>erw[ff rfl g]|@step y r t b i c j=>(by_cases e:x=y;subst e;erw[r,b,i,c,.refl];let#[a,k,h,d,l]:=j e;erw[a,k,h,d,4];by_cases f:r=a;subst f;obtain z|z:=F.two b d c;erw[ff z.symm e];erw[ff (by rw[z,(F.back b d).2.1]) g];erw[.step l b f c])
theorem Fo.one(F:Fo ns rs os){q r x:Nat}(a:q∈os)(d:r∈os)(c:gN rs (x:Int) q=df)(b:gN rs (x:Int) r=df)(i:Rw rs os q (fX rs q x) z)(h:Rw rs os r (fX rs r x) z):q=r:=by by_cases e:q=r;erw[e];let g:=F.avoid a c b i;let f:Rw rs os r x (fX rs q x):=.step .refl a e c;erw[ff ((f.trans g).trans (F.symm h)) (F.cut r d x b)]
theorem Fo.all(F:Fo ns rs os)(t:Rw rs os r0 x z):Rw rs os (ge rs) x z:=by induction t with|refl=>erw[.refl]|step t a d c b=>erw[.step b a (bV (F.lt _ a)) c]
noncomputable def nx(rs:!R5)(e:En)(r:Nat):En:=#[fX rs r e.h,ac (r,e.h)]
def Bh(rs:!R5)(os:!Nat)(e:En)(z:Nat):Prop:=Rw rs os (e.by?.getD (ge rs)) e.h z
structure WJ(ns:!Int)(rs:!R5)(os:!Nat)(f:Nat)(D Pn:!En):Prop where
 nd:((D++Pn).map (·.h)).Nodup
 fr:∀e∈D++Pn,∀r p,e.fr=ac (r,p)->r∈os/\gN rs (p:Int) r=df/\fX rs r p=e.h/\(∃e'∈D,e'.h=p)/\Rw rs os r f p
 f0:∀e∈D++Pn,e.fr=de->e.h=f
 lt:∀e∈D++Pn,e.h<ge ns
theorem WJ.zero{f:Nat}(b:f<ge ns):WJ ns rs os f [] [#[f,de]] :=#[-_,λe a r p h=>(by rw[aP.mp a] at h;ext h),λe a _=>(by rw[aP.mp a]),λe a=>(by rw[aP.mp a];erw[b])]
variable{f:Nat}{D Pn A B:!En}{e:En}
theorem WJ.side(F:Fo ns rs os)(w:WJ ns rs os f D Pn)(g:e∈D++Pn){r0:Nat}(n:r0∈os)(m:gN rs (e.h:Int) r0=df)(l:ac r0≠e.by?):Rw rs os r0 f e.h:=by cases z:e.fr with|none=>rw[w.f0 e g z];erw[.refl]|some q=>let#[r,p]:=q;let#[c,d,i,_,k]:=w.fr e g r p z;let b:r≠r0:=λq=>l (by delta En.by?;rw[z,<- q];rfl);let#[j,a,_]:=F.back c d;rw[i] at j a;let t:=F.avoid c j m (by rw[a];erw[F.symm k]);rw[a] at t;let:=Rw.step (F.symm t) c b d;rw[i] at this;erw[this]
theorem M7(nd:((D++Pn).map (·.h)).Nodup)(b:e∈Pn):∀a∈D,a.h≠e.h:=λa c z=>by
 rw[aN,iP] at nd;erw[nd.2.2 _ (cF c) _ (cF b) z]
theorem WJ.next(F:Fo ns rs os)(w:WJ ns rs os f D (A++e::B)){gs:!Nat}(T:gs.Nodup)(o:∀r∈gs,r∈h9 rs os e):WJ ns rs os f (D++[e]) (A++B++gs.map (nx rs e)):=by let s:e∈A++e::B:=-_;let t:e∈D++(A++e::B):=bW _ s;let u:=M7 w.nd s;let pm:((D++[e])++(A++B++gs.map (nx rs e))).Perm ((D++(A++e::B))++gs.map (nx rs e)):=(by let c:([e]++(A++B)).Perm (A++e::B):=(by show (e::(A++B)).Perm _;erw[List.perm_middle.symm]);let g:=(c.append_left D).append_right (gs.map (nx rs e));simpa [dW] using g);let E:∀r∈gs,∀b∈D++(A++e::B),b.h≠fX rs r e.h:=λr k b i z=>(by let#[c,g,H]:=nD.mp (o r k);let P:=w.side F t c g H;let#[V,M,W,_]:=F.back c g;by_cases q:ac r=b.by?;(delta En.by? at q;cases y:b.fr with|none=>rw[y] at q;ext q|some v=>let#[U,p]:=v;rw[y] at q;let q:r=U:=aI q;subst q;let#[_,n,I,#[J,C,G],_]:=w.fr b i r p y;let:p=e.h:=(by let:=(F.back c n).2.1;rw[I,z,M] at this;erw[this.symm]);erw[u J C (G.trans this)]);let L:=w.side F i c (by rw[z];erw[V]) q;rw[z] at L;erw[F.cut r c e.h g ((F.symm P).trans L)]);let j:∀b,b∈(D++[e])++(A++B++gs.map (nx rs e))->b∈D++(A++e::B)\/∃r∈gs,b=nx rs e r:=λb i=>(by obtain h|h:=aR.mp (pm.mem_iff.mp i);erw[.inl h];let#[r,k,z]:=aG.mp h;erw[.inr #[r,k,z.symm]]);erw[4,λb i r p h=>?_,λb i h=>?_,λb i=>?_];rw[(pm.map (·.h)).nodup_iff,aN,iP];erw[w.nd,4,λx N y O=>?_];rw[bZ];erw[mQ.mpr (List.Pairwise.imp_of_mem ?_ T)];intro r l k d Q z;let#[c,g,_]:=nD.mp (o r k);let#[K,n,_]:=nD.mp (o l d);let z:fX rs r e.h=fX rs l e.h:=z;let:=Rw.step (rs:=rs) (os:=os) (r0:=r) (x:=e.h) .refl K (cC Q) n;rw[<- z] at this;erw[F.cut r c e.h g this];let#[a,S,rfl]:=aG.mp N;let#[b,i,rfl]:=aG.mp O;let#[r,k,rfl]:=aG.mp i;erw[E r k a S];obtain m|⟨l,d,rfl⟩:=j b i;let#[K,n,I,#[J,C,G],R]:=w.fr b m r p h;erw[K,n,I,#[J,dJ _ C,G],R];let#[c,g,H]:=nD.mp (o l d);ext h;erw[c,g,2,#[e,-_,2],w.side F t c g H];obtain m|⟨l,d,rfl⟩:=j b i;erw[w.f0 b m h];ext h;obtain m|⟨l,d,rfl⟩:=j b i;erw[w.lt b m];let#[c,g,_]:=nD.mp (o l d);erw[(F.back c g).2.2.2]
structure EE where
 e:En
 gs:!Nat
 wf:Nat->Nat
noncomputable def km(e:En):kE:=match e.fr with|none=>.post e.h|some (r,_)=>.CF e.h r
noncomputable def EE.UK(hs:Nat->!Nat)(x:EE):!kE:=km x.e::((hs x.e.h).map (kE.hand x.e.h)++x.gs.map λr=>.send x.e.h r (x.wf r))
noncomputable def dN(rs:!R5)(r:Nat):Nat:=match rs[r]? with|some re=>re.d.toNat|none=>0
structure LJ(ns:!Int)(rs:!R5)(os:!Nat)(hs:Nat->!Nat)(one:Option Nat)(f:Nat)(dn:!Nat)(ds:!kE)(Pn:!En)(E:!EE):Prop where
 dn:dn=E.map (·.e.h)
 ds:ds=E.flatMap (EE.UK hs)
 wj:WJ ns rs os f (E.map (·.e)) Pn
 gs:∀x∈E,x.gs.Nodup/\∀r∈x.gs,r∈h9 rs os x.e/\x.wf r<dN rs r/\nx rs x.e r∈E.map (·.e)++Pn
 od:∀(k:Nat)x,E[k]?=ac x->∀r p,x.e.fr=ac (r,p)->∃(j:Nat)(y:EE),j<k/\E[j]?=ac y/\y.e.h=p/\r∈y.gs
 h0:∀(k:Nat)x,E[k]?=ac x->(x.e.fr=de↔k=0)
 pf:∀e∈Pn,∀r p,e.fr=ac (r,p)->∃y∈E,y.e.h=p/\r∈y.gs
 pn:∀e∈Pn,e.fr=de->E=[]
 al:one=de->∀x∈E,x.gs=h9 rs os x.e
 to:∀z,one=ac z->z∈E.map (·.e.h)\/(∃e∈Pn,Bh rs os e z)\/¬Rw rs os (ge rs) f z
theorem LJ.zero(b:f<ge ns):LJ ns rs os hs one f [] [] [#[f,de]] []:=
 #[22,WJ.zero b,λx h=>(by ext h),λk x h=>(by ext h),λk x h=>(by ext h),λe a r p h=>(by rw[aP.mp a] at h;ext h),λ_ _ _=>rfl,λ_ x h=>(by ext h),λz _=>(by
  by_cases h:Rw rs os (ge rs) f z
  ·erw[.inr (.inl #[_,aP.mpr rfl,h])]
  ·erw[.inr (.inr h)])]
theorem LJ.next{hs:Nat->!Nat}{one:Option Nat}{dn:!Nat}{ds:!kE}{E:!EE}{gs:!Nat}{wf:Nat->Nat}(F:Fo ns rs os)(w:LJ ns rs os hs one f dn ds (A++e::B) E)(P:gs.Nodup)(D:∀r∈gs,r∈h9 rs os e/\wf r<dN rs r)(al:one=de->gs=h9 rs os e)(to:∀z,one=ac z->Bh rs os e z->e.h=z\/∃r∈gs,Bh rs os (nx rs e r) z) :e.h∉dn/\LJ ns rs os hs one f (dn++[e.h]) (ds++EE.UK hs #[e,gs,wf]) (A++B++gs.map (nx rs e)) (E++[#[e,gs,wf]]):=by
 let g:e∈A++e::B:=-_;let u:=M7 w.wj.nd g;let sub:∀b,b∈E.map (·.e)++(A++e::B)->b∈(E.map (·.e)++[e])++(A++B++gs.map (nx rs e)):=λb hb=>(by simp only[aR,aT] at hb ⊢;obtain h|h|h|h:=hb;erw[.inl (.inl h)];erw[.inr (.inl (.inl h))];erw[.inl (.inr (.inl h))];erw[.inr (.inl (.inr h))]);let s:∀(k:Nat)x,(E++[(#[e,gs,wf]:EE)])[k]?=ac x->E[k]?=ac x\/(k=ge E/\x=#[e,gs,wf]):=λk x h=>(by by_cases z:k<ge E;rw[aW z] at h;erw[.inl h];let I:=(ai.mp h).1;rw[az] at I;let:k=ge E:=(by simp at I;lia);subst this;rw[bE (aA _),fB] at h;erw[.inr #[2,(aI h).symm]]);let M:∀{k:Nat}{x:EE},E[k]?=ac x->(E++[(#[e,gs,wf]:EE)])[k]?=ac x:=λ{k x}h=>(by rw[aW (ai.mp h).1];erw[h]);let K:(E++[(#[e,gs,wf]:EE)]).map (·.e)=E.map (·.e)++[e]:=(by rw[aN];rfl);erw[λz=>?_,#[by rw[w.dn,aN];rfl,by rw[w.ds,List.flatMap_append];simp,by rw[K];exact w.wj.next F P λr l=>(D r l).1,λx o=>?_,λk x h r p i=>?_,λk x h=>?_,λb hb r p i=>?_,λb hb C=>?_,λd x o=>?_,λz N=>?_]];rw[w.dn] at z;let#[x,o,Q]:=aG.mp z;erw[u x.e (cF o) Q];rw[K];obtain h|h:=aR.mp o;exists (w.gs x h).1,λr l=>let ⟨a,b,c⟩:=(w.gs x h).2 r l;#[a,b,sub _ c];rw[aP.mp h];erw[P,λr l=>#[(D r l).1,(D r l).2,bW _ (bW _ (cF l))]];obtain h|⟨rfl,rfl⟩:=s k x h;let#[j,y,d,m,H,S]:=w.od k x h r p i;erw[j,y,d,M m,H,S];let#[y,d,m,H]:=w.pf e g r p i;let#[j,O]:=c7 d;erw[j,y,(ai.mp O).1,M O,m,H];obtain h|⟨rfl,rfl⟩:=s k x h;erw[w.h0 k x h];constructor;intro z;rw[w.pn e g z];rfl;intro z;cases q:e.fr with|none=>rfl|some v=>let#[y,d,_]:=w.pf e g v.1 v.2 q;rw[List.length_eq_zero_iff.mp z] at d;ext d
 obtain h|h:=aR.mp hb;let#[y,d,m]:=w.pf b (by simp only[aR,aT] at h ⊢;obtain h|h:=h;erw[.inl h];erw[.inr (.inr h)]) r p i;erw[y,dJ _ d,m];let#[R,t,rfl]:=aG.mp h;ext i;erw[#[e,gs,wf],-_,2,t];obtain h|h:=aR.mp hb;exfalso;let n:b∈A++e::B:=(by simp only[aR,aT] at h ⊢;obtain h|h:=h;erw[.inl h];erw[.inr (.inr h)]);let d:=w.wj.f0 b (bW _ n) C;let L:=w.pn b n C;let nd:=w.wj.nd;rw[L] at nd;let nd:((A++e::B).map (·.h)).Nodup:=nd;let G:e.fr=de:=(by cases q:e.fr with|none=>rfl|some v=>let#[y,d,_]:=w.pf e g v.1 v.2 q;rw[L] at d;ext d);let m:=w.wj.f0 e (bW _ g) G;rw[aN,bz,iP] at nd;let#[_,J,T]:=nd;rw[dY] at J;obtain h|h:=aR.mp h;erw[T _ (cF h) e.h (-_) (d.trans m.symm)];erw[J.1 (by rw[m,<- d];erw[cF h])];let#[R,t,rfl]:=aG.mp h;ext C;obtain h|h:=aR.mp o;erw[w.al d x h];rw[aP.mp h];erw[al d];rw[aN];obtain h|⟨b,hb,h⟩|h:=w.to z N;erw[.inl (dJ _ h)];by_cases q:b=e;subst q;obtain h|⟨r,l,h⟩:=to z N h;erw[.inl (by rw[<- h];simp)];erw[.inr (.inl #[_,bW _ (cF l),h])];erw[.inr (.inl #[b,dJ _ ?_,h])];simp only[aR,aT] at hb ⊢;obtain hb|hb|hb:=hb;erw[.inl hb];erw[ff hb q];erw[.inr hb];erw[.inr (.inr h)]
theorem LJ.aje{hs:Nat->!Nat}{one:Option Nat}{g:!Nat}{ds:!kE}{E:!EE}(F:Fo ns rs os)(w:LJ ns rs os hs one f g ds Pn E):∀x∈E,Rw rs os (ge rs) f x.e.h:=λx b=>by
 cases z:x.e.fr with
 |none=>rw[w.wj.f0 x.e (dJ _ (cF b)) z];erw[.refl]
 |some q=>
  let#[a,d,c,_,i]:=w.wj.fr x.e (dJ _ (cF b)) q.1 q.2 z
  let:=Rw.step (F.all i) a (bV (F.lt _ a)) d
  rw[c] at this;erw[this]
theorem LJ.afn{hs:Nat->!Nat}{l:!Nat}{ds:!kE}{E:!EE}(F:Fo ns rs os)(w:LJ ns rs os hs de f l ds [] E)(o:E≠[]):∀z,Rw rs os (ge rs) f z->∃x∈E,x.e.h=z:=λz t=>by
 induction t with
 |refl=>
  cases E with
  |nil=>erw[ff rfl o]
  |cons x E=>
   let:=(w.h0 0 x rfl).mpr rfl
   erw[x,-_,w.wj.f0 x.e (-_) this]
 |@step y r t g C A n=>
  let#[x,c,rfl]:=n;by_cases q:ac r=x.e.by?
  ·delta En.by? at q
   cases v:x.e.fr with
   |none=>rw[v] at q;ext q
   |some u=>
    let#[B,p]:=u;rw[v] at q;let q:r=B:=aI q;subst q;let#[_,j,b,#[i,s,m],_]:=w.wj.fr x.e (dJ _ (cF c)) r p v;let#[d,a,rfl]:=aG.mp s;erw[d,a,4];rw[m,<- b,(F.back g j).2.1]
  ·let k:r∈x.gs:=by rw[w.al rfl x c];exact nD.mpr #[g,A,q]
   let#[_,_,b]:=(w.gs x c).2 r k;rw[cu] at b;let#[d,a,i]:=aG.mp b;exists d,a,by rw[i];rfl
theorem LJ.afo{hs:Nat->!Nat}{b:!Nat}{ds:!kE}{E:!EE}{z:Nat}(w:LJ ns rs os hs (ac z) f b ds [] E)(t:Rw rs os (ge rs) f z):∃x∈E,x.e.h=z:=by obtain h|⟨e,a,_⟩|h:=w.to z rfl;let#[x,c,e]:=aG.mp h;erw[x,c,e];ext a;erw[ff t h]
end
section
variable{ns:!Int}{rs:!R5}{os:!Nat}{s:NS}{l:LS}{i h:Nat}
theorem UL:∀(cs:!Nat)(s:NS)(l:LS),s.ls[i]?=ac l->∃had,cs.foldl (jA i h) s={s with had:=had,ls:=s.ls.set i {l with aK:=l.aK++cs.map (kE.hand h)}}
 |[],s,l,e=>#[s.had,by
  show s={s with had:=s.had,ls:=s.ls.set i {l with aK:=l.aK++[]}};rw[cu,wN e]]
 |c::cs,s,l,e=>by
  let b:=(ai.mp e).1;let d:(uT s i c).ls[i]?=ac l:=e;let a:jA i h s c={s with had:=s.had.set c (s.had.getD c []++[i]),ls:=s.ls.set i {l with aK:=l.aK++[.hand h c]}}:=by
   delta jA;rw[gD d];rfl
  let#[had,f]:=UL cs (jA i h s c) {l with aK:=l.aK++[.hand h c]} (by rw[a];show (s.ls.set i _)[i]?=_;rw[fR b,eG rfl]);erw[had,4];rw[jU,f,a];show {s with had:=had,ls:=(s.ls.set i _).set i _}=_;rw[z6];simp only[dW,bz];rfl
theorem UM:∀(gs:!Nat)(s:NS)(l:LS),s.ls[i]?=ac l->gs.foldl (ue rs i h) s={s with cps:=s.cps++gs.map λr=>#[i,r,j7 s.ws r (mO l),fX rs r h],ls:=s.ls.set i {l with aK:=l.aK++gs.map λr=>.send h r (j7 s.ws r (mO l))}}
 |[],s,l,e=>by
  show s={s with cps:=s.cps++[],ls:=s.ls.set i {l with aK:=l.aK++[]}};rw[cu,cu,wN e]
 |r::gs,s,l,e=>by
  let b:=(ai.mp e).1;let c:WS s i=mO l:=by delta WS;rw[e]
  let a:ue rs i h s r={s with cps:=s.cps++[⟨i,r,j7 s.ws r (mO l),fX rs r h⟩],ls:=s.ls.set i {l with aK:=l.aK++[.send h r (j7 s.ws r (mO l))]}}:=by
   delta ue UD;rw[gD e,c]
  rw[jU,UM gs (ue rs i h s r) {l with aK:=l.aK++[.send h r (j7 s.ws r (mO l))]} (by rw[a];show (s.ls.set i _)[i]?=_;rw[fR b,eG rfl]),a];show {s with cps:=_,ls:=(s.ls.set i _).set i _}=_;rw[z6];simp only[dW,bz];rfl
theorem DW(e:s.ls[i]?=ac l):∃had,SA rs s i h l cK os={s with had:=had,cps:=s.cps++(Ff rs s l h cK os).map λr=>#[i,r,j7 s.ws r (mO l),fX rs r h],ls:=s.ls.set i {l with done:=lU l.done h,aK:=l.aK++((nC s l h).map (kE.hand h)++(Ff rs s l h cK os).map λr=>.send h r (j7 s.ws r (mO l)))}}:=by let a:=(ai.mp e).1;delta SA;let b:(gi s i h l).ls[i]?=ac {l with done:=lU l.done h}:=(by show (s.ls.set i _)[i]?=_;rw[fR a,eG rfl]);let#[had,c]:=UL (h:=h) (nC s l h) (gi s i h l) _ b;erw[had,4];rw[c,UM _ _ {l with done:=lU l.done h,aK:=l.aK++(nC s l h).map (kE.hand h)} (by show ((s.ls.set i _).set i _)[i]?=_;rw[fR (by rw[bu];erw[a]),eG rfl])];show {s with had:=had,cps:=_,ls:=((s.ls.set i _).set i _).set i _}=_;rw[z6,z6];simp only[dW];rfl
theorem UN{ds:!Nat}{h:Nat}{l:LS}(e:l.done=ds):Fe l h=decide (h∈ds):=by delta Fe;rw[e];clear e;induction ds with|nil=>rfl|cons d ds a=>rw[bz];by_cases z:d=h;subst z;rw[CP rfl];simp;rw[CQ (λe=>z (by let:=Sum.inl.inj e;lia)),a];let:¬h=d:=λe=>z e.symm;simp[this]
def NL(rs:!R5)(os:!Nat)(aE:!Nat)(ts:!T3):Prop:=∀t∈ts,∃h c r:Nat,t=((h:Int),(c:Int),(r:Int))/\r∈os/\gN rs (h:Int) r=df/\Rw rs os r (fX rs r h) (aE.getD c 0)
theorem Sk:((((os.filter (gN rs e.h)).map λk:Nat=>(k:Int)).filter (mY (e.by?.map λk:Nat=>(k:Int)))).map z8)=h9 rs os e:=by delta h9;rw[List.filter_map,bZ,List.filter_filter];let:(z8∘λk:Nat=>(k:Int))=id:=(by funext k;erw[cQ k]);rw[this,List.map_id];erw[List.filter_congr λr _=>?_];rw[Bool.and_comm];congr 1;show mY (e.by?.map λk:Nat=>(k:Int)) (r:Int)=_;delta mY;congr 1;rw[decide_eq_decide];cases e.by? with|none=>erw[λz=>(by ext z),λz=>(by ext z)]|some q=>erw[λz=>(by let z:fw (r:Int)=fw (q:Int):=z;let:=V.int.inj z;rw[show r=q by lia]),λz=>(by rw[aI z];rfl)]
def YH(F:Fo ns rs os):(h9 rs os e).Nodup:=List.Nodup.sublist jV (F.ri.imp λh=>bV h)
theorem ac7{c:Nat}:c∈vc s h g↔s.aE[c]?=ac h/\s.groups[c]?=ac g:=by delta vc Jg;rw[aZ,g6,bO];erw[λz=>z.2,λz=>#[(ai.mp z.1).1,z]]
theorem wv(F:Fo ns rs os){e:En}(P:gB (s.ts l.grp))(N:NL rs os s.aE (s.ts l.grp))(kd:l.kd=1\/l.kd=2)(W:l.kd=1->l.to<ge s.aE/\s.groups[l.to]?=ac l.grp) :(Ff rs s l e.h e.by? os).Nodup/\(∀r∈Ff rs s l e.h e.by? os,r∈h9 rs os e)/\(l.kd=2->Ff rs s l e.h e.by? os=h9 rs os e)/\(l.kd=1->Bh rs os e (s.aE.getD l.to 0)->e.h=s.aE.getD l.to 0\/∃r∈Ff rs s l e.h e.by? os,Bh rs os (nx rs e r) (s.aE.getD l.to 0)):=by
 obtain D|k2:=kd;·let#[X,Y]:=W D;let B:s.aE[l.to]?=ac (s.aE.getD l.to 0):=(by rw[ak,aa X];rfl);generalize O:s.aE.getD l.to 0=z at B;let n:¬l.kd=2:=∅;let u:sy (l.to:Int) l.kd=ac (l.to:Int):=(by delta sy;rw[eG D]);let g:∀a,a=h9 rs os e->a.Nodup/\(∀r∈a,r∈h9 rs os e)/\(l.kd=2->a=h9 rs os e)/\(l.kd=1->Bh rs os e z->e.h=z\/∃r∈a,Bh rs os (nx rs e r) z):=λa T=>(by subst T;erw[YH F,λ_ h=>h,λ_=>rfl,λ_ b=>?_];by_cases q:e.h=z;erw[.inl q];let#[r,p,d,A,w]:=Rw.first F b q;erw[.inr #[r,nD.mpr #[p,A,λy=>?_],w]];rw[<- y] at d;erw[d rfl]);delta Ff ZD;rw[u];(try dsimp only);by_cases i:(l.to:Int)∈(vc s e.h l.grp).map λk:Nat=>(k:Int);rw[eG i];let#[c,Q,E]:=aG.mp i;let E:c=l.to:=∅;subst E;let:=(ac7.mp Q).1;rw[B] at this;erw[lY,λr f=>(by ext f),λy=>ff y n,λ_ _=>.inl (aI this).symm];·rw[eH i];cases U:yP (s.ts l.grp) e.h l.to with|none=>erw[g _ Sk]|some q=>(try dsimp only);by_cases j:q∈(os.filter (gN rs e.h)).map λk:Nat=>(k:Int);rw[eG j];let#[k,M,S]:=aG.mp j;subst S;let#[G,H]:=aZ.mp M;let#[L,K,R,t,Z,r2,m]:=N _ ((Zz P).mp U);let x:e.h=L:=(by let:=gZ (·.1) t;simp at this;lia);let v:l.to=K:=(by let:=gZ (·.2.1) t;simp at this;lia);let o:k=R:=(by let:=gZ (·.2.2) t;simp at this;lia);subst x v o;rw[O] at m;let C:mY (e.by?.map λk:Nat=>(k:Int)) (k:Int)=df↔ac k≠e.by?:=(by delta mY;rw[iQ,decide_eq_false_iff_not];erw[not_congr ?_];cases e.by? with|none=>erw[λz=>(by ext z),λz=>(by ext z)]|some q=>erw[λz=>(by let z:fw (k:Int)=fw (q:Int):=z;let:=V.int.inj z;rw[show k=q by lia]),λz=>(by rw[aI z];rfl)]);by_cases b:mY (e.by?.map λk:Nat=>(k:Int)) (k:Int)=df;rw[dc b];show [((k:Int)).toNat].Nodup/\_;rw[cQ];erw[-_,λr f=>?_,λy=>ff y n,λ_ _=>.inr #[k,-_,m]];rw[aP.mp f];erw[nD.mpr #[G,H,C.mp b]];rw[dg b];erw[lY,λr f=>(by ext f),λy=>ff y n,λ_ I=>?_];by_cases y:e.h=z;erw[.inl y];exfalso;let#[r,p,d,A,w]:=Rw.first F I y;let:=F.one G p H A m w;subst this;erw[b (C.mpr λy=>?_)];rw[<- y] at d;erw[d rfl];rw[eH j];erw[g _ Sk]
 let u:sy (l.to:Int) l.kd=de:=(by delta sy;rw[eH ∅]);let J:Ff rs s l e.h e.by? os=h9 rs os e:=(by delta Ff ZD;rw[u];erw[Sk]);rw[J];erw[YH F,λ_ h=>h,λ_=>rfl,λy=>∅]
noncomputable def UO(aE groups:!Nat)(x:Nat)(to:Option Nat)(h:Nat):!Nat:=(av (ge aE)).filter λc=>decide (aE[c]?=ac h/\groups[c]?=groups[x]?)&&match to with|none=>(decide (c=x)).not|some y=>decide (c=y)
structure LK(aE groups:!Nat)(x:Nat)(to:Option Nat)(l:LS):Prop where
 sn:l.s=x
 tt:l.to=to.getD 0
 kd:l.kd=if to.isSome=df then 1 else 2
 gr:groups[x]?=ac l.grp
 hx:x<ge aE
 ht:∀y,to=ac y->y<ge aE/\groups[y]?=groups[x]?
theorem LK.hand(k:LK s.aE s.groups x to l):nC s l h=UO s.aE s.groups x to h:=by delta nC vc UO;rw[List.filter_filter];erw[List.filter_congr λc a=>?_];rw[Bool.and_comm,k.gr];congr 1;delta Ia;rw[k.kd,k.tt,k.sn];cases to with|none=>rw[eH (!_),eG (!_)];show (Bool.not _)=Bool.not _;congr 1;rw[decide_eq_decide];erw[λz=>by let:=V.int.inj z;lia,λz=>by rw[z]]|some y=>rw[eG (-_)];show _=decide (c=y);rw[decide_eq_decide];exists λz=>by let:=V.int.inj z;simp at this;lia,λz=>by rw[z];rfl
theorem LK.kinds(k:LK s.aE s.groups x to l):(l.kd=1\/l.kd=2)/\(l.kd=1->l.to<ge s.aE/\s.groups[l.to]?=ac l.grp)/\(to=de->l.kd=2)/\∀y,to=ac y->l.kd=1/\l.to=y:=by let c:=k.kd;let d:=k.tt;let e:=k.ht;cases to with|none=>erw[.inr c,λz=>by rw[c] at z;exact ff z (!_),λ_=>c,λy z=>(by ext z)]|some y=>let#[a,b]:=e y rfl;let d:l.to=y:=d;exists .inl c,λ_=>by rw[d];exact#[a,b.trans k.gr],λz=>(by ext z),λf z=>#[c,by rw[d];erw[aI z]]
noncomputable def pb(rs:!R5)(c:Cp):En:=#[c.h,ac (c.r,fX rs c.r c.h)]
noncomputable def hU(rs:!R5)(cps:!Cp)(i:Nat):!En:=(cps.filter λc=>decide (c.l=i)).map (pb rs)
theorem uf:hU rs (cps++cs) i=hU rs cps i++hU rs cs i:=by delta hU;rw[dZ,aN]
theorem Hy(F:Fo ns rs os){gs:!Nat}{wf:Nat->Nat}(d:∀r∈gs,r∈h9 rs os e):hU rs (gs.map λr=>(#[i,r,wf r,fX rs r e.h]:Cp)) j=if j=i then gs.map (nx rs e) else []:=by delta hU;rw[List.filter_map,bZ];by_cases z:j=i;subst z;rw[eG rfl,List.filter_eq_self.mpr (λr _=>-_)];erw[dm λr a=>?_];let#[c,b,_]:=nD.mp (d r a);show (#[fX rs r e.h,ac (r,fX rs r (fX rs r e.h))]:En)=#[fX rs r e.h,ac (r,e.h)];rw[(F.back c b).2.1];rw[eH z,List.filter_eq_nil_iff.mpr (λr _=>by simp[cC z])];rfl
theorem afp{cps:!Cp}{a:Nat}(h:cps[a]?=ac cp):cps=cps.take a++cp::cps.drop (a+1)/\cps.eraseIdx a=cps.take a++cps.drop (a+1):=by let#[b,rfl]:=ai.mp h;erw[4,List.eraseIdx_eq_take_drop_succ ..];rw[<- tZ b,List.take_append_drop]
theorem ac8{cps:!Cp}{a:Nat}(h:cps[a]?=ac cp):∃A B,hU rs cps cp.l=A++pb rs cp::B/\hU rs (cps.eraseIdx a) cp.l=A++B/\∀j,j≠cp.l->hU rs (cps.eraseIdx a) j=hU rs cps j:=by let#[c,b]:=afp h;exists hU rs (cps.take a) cp.l,hU rs (cps.drop (a+1)) cp.l,4,by rw[b,uf],λj d=>?_;(conv=>lhs;rw[c]);rw[uf];congr 1;delta hU;rw[dc (-_)];rfl;rw[b];(conv=>rhs;rw[c]);rw[uf,uf];congr 1;delta hU;rw[dg (by simp[cC d])]
end
section
variable{ns:!Int}{rs:!R5}{s:NS}{os:Nat->!Nat}{b:Nat}{Ls:!(Nat×Option Nat)}
structure AJ(ns:!Int)(rs:!R5)(os:Nat->!Nat)(b:Nat)(Ls:!(Nat×Option Nat))(s:NS):Prop where
 fo:∀g,g<3->Fo ns rs (os g)
 wr:∀g,g<3->∀r∈os g,∀k,j7 s.ws r k<dN rs r
 ll:ge s.ls=b+ge Ls
 nl:∀g,g<3->NL rs (os g) s.aE (s.ts g)
 li:∀(i x:Nat)(to:Option Nat),Ls[i]?=ac (x,to)->∃l E,s.ls[b+i]?=ac l/\l.old=dr/\LK s.aE s.groups x to l/\LJ ns rs (os l.grp) (UO s.aE s.groups x to) (to.map λy=>s.aE.getD y 0) (s.aE.getD x 0) l.done l.aK (hU rs s.cps (b+i)) E/\E≠[]
theorem WU(k:LK aE groups x to l){a:LS}(c:a.s=l.s)(d:a.to=l.to)(e:a.kd=l.kd)(b:a.grp=l.grp):LK aE groups x to a:=#[c.trans k.sn,d.trans k.tt,e.trans k.kd,k.gr.trans (by rw[b]),k.hx,k.ht]
theorem YI{aE:!Nat}{to:Option Nat}(h:(to.map λy=>aE.getD y 0)=ac z):∃y,to=ac y/\aE.getD y 0=z:=by cases to with|none=>ext h|some y=>erw[y,2,aI h]
theorem AJ.post{x:Nat}{to:Option Nat}(j:Bd n m D s)(Q:n=ge ns)(h:AJ ns rs os b Ls s)(o:x<ge s.aE)(ht:∀y,to=ac y->y<ge s.aE/\s.groups[y]?=s.groups[x]?):AJ ns rs os b (Ls++[(x,to)]) (rz rs s x to (os (s.groups.getD x 0))):=by let S:x<ge s.groups:=(by rw[j.gl];erw[o]);let eg:s.groups[x]?=ac (s.groups.getD x 0):=(by rw[ak,aa S];rfl);let g3:s.groups.getD x 0<3:=j.g3 _ (aD eg);let G:s.aE.getD x 0<ge ns:=(by rw[<- Q];erw[j.hm _ ?_];rw[ak,aa o];erw[aB o]);generalize w:s.aE.getD x 0=f at G;generalize a:s.groups.getD x 0=g at eg g3;let F:=h.fo g g3;let d:LK s.aE s.groups x to {gu s x to with aK:=[.post f]}:=#[222,eg.trans (by show ac g=ac (s.groups.getD x 0);rw[a]),o,ht];let Y:=wv (s:=jN s x to) (l:={gu s x to with aK:=[.post f]}) (e:=#[f,de]) F (by show gB (s.ts (s.groups.getD x 0));erw[(j.tb _).2]) (by show NL rs (os g) s.aE (s.ts (s.groups.getD x 0));rw[a];erw[h.nl g g3]) d.kinds.1 d.kinds.2.1;let#[U,ed]:=DW (rs:=rs) (os:=os g) (h:=f) (cK:=de) (s:=jN s x to) (i:=ge s.ls) (l:={gu s x to with aK:=[.post f]}) (by show (s.ls++[_])[ge s.ls]?=_;rw[w];erw[jR]);let ep:rz rs s x to (os g)=SA rs (jN s x to) (ge s.ls) f {gu s x to with aK:=[.post f]} de (os g):=(by delta rz;rw[w]);rw[ep,ed];let N:nC (jN s x to) {gu s x to with aK:=[.post f]} f=UO s.aE s.groups x to f:=LK.hand (s:=jN s x to) d;rw[N];generalize T:Ff rs (jN s x to) {gu s x to with aK:=[.post f]} f de (os g)=gs;obtain⟨gn,q,R,t⟩:gs.Nodup/\(∀r∈gs,r∈h9 rs (os g) ⟨f,de⟩)/\((gu s x to).kd=2->gs=h9 rs (os g) ⟨f,de⟩)/\((gu s x to).kd=1->Bh rs (os g) ⟨f,de⟩ (s.aE.getD (gu s x to).to 0)->f=s.aE.getD (gu s x to).to 0\/∃r∈gs,Bh rs (os g) (nx rs ⟨f,de⟩ r) (s.aE.getD (gu s x to).to 0)):=(by rw[<- T];erw[Y]);let C:∀p,(jN s x to).ls.set (ge s.ls) p=s.ls++[p]:=λp=>(by show (s.ls++[_]).set (ge s.ls) p=_;rw[qd _ _ (aA _),fB];rfl);rw[C];let v:hU rs s.cps (ge s.ls)=[]:=(by delta hU;rw[List.filter_eq_nil_iff.mpr λc hc=>?_];rfl;let:=(j.cl c hc).1;simp;lia);let#[_,J]:=(LJ.zero (os:=os g) (hs:=UO s.aE s.groups x to) (one:=to.map λy=>s.aE.getD y 0) G).next (A:=[]) (B:=[]) (gs:=gs) (wf:=λr=>j7 s.ws r (mO {gu s x to with aK:=[.post f]})) F gn (λr I=>#[q r I,h.wr g g3 r (nD.mp (q r I)).1 _]) (λz=>R (d.kinds.2.2.1 (by cases to with|none=>rfl|some y=>ext z))) (λz X=>by let#[y,P,Z]:=YI X;let#[O,q2]:=d.kinds.2.2.2 y P;let t:=t O;rw[q2] at t;rw[<- Z];erw[t]);erw[h.fo,h.wr,4,h.nl,λi V u k=>?_];show ge (s.ls++[_])=_;rw[az,az,h.ll];rfl;·by_cases z:i<ge Ls;rw[aW z] at k;let#[l,E,K,L,h3,h4,W]:=h.li i V u k;erw[l,E,4,L,h3,4,W];show (s.ls++[_])[b+i]?=_;rw[aW (ai.mp K).1];erw[K];show LJ ns rs _ _ _ _ _ _ (hU rs (s.cps++_) (b+i)) E;rw[uf,Hy F (e:=#[f,de]) q,eH (by let:=h.ll;lia),cu];erw[h4];·let H:=(ai.mp k).1;rw[az] at H;let M:i=ge Ls:=(by simp at H;lia);subst M;rw[bE (aA _),fB] at k;ext k;erw[{gu s x to with done:=lU [] f,aK:=[.post f]++((UO s.aE s.groups x to f).map (kE.hand f)++gs.map λr=>.send f r (j7 s.ws r (mO {gu s x to with aK:=[.post f]})))},[#[#[f,de],gs,λr=>j7 s.ws r (mO {gu s x to with aK:=[.post f]})]],42,WU d rfl rfl rfl rfl,4,-_];show (s.ls++[_])[b+ge Ls]?=_;rw[<- h.ll];erw[jR];show LJ ns rs (os (s.groups.getD x 0)) _ _ (s.aE.getD x 0) (lU [] f) _ (hU rs (s.cps++_) (b+ge Ls)) _;rw[<- h.ll,uf,v,Hy F (e:=#[f,de]) q,eG rfl,a,w];erw[J]
theorem AJ.pass{n m D a i x:Nat}{to:Option Nat}{cp:Cp}{l:LS}{ts:!T3}(bd:Bd n m D s)(h:AJ ns rs os b Ls s)(S:s.cps[a]?=ac cp)(hl:s.ls[cp.l]?=ac l)(hi:Ls[i]?=ac (x,to))(K:cp.l=b+i)(pt:ts.Perm (hX (s.ts l.grp) cp.h l.s cp.r))(oe:gB ts) :ii l cp (os l.grp)=df/\AJ ns rs os b Ls (jj rs s a cp l (os l.grp) ts):=by
 let#[l0,E,h1,h2,O,o,h5]:=h.li i x to hi;rw[<- K,hl] at h1;ext h1;let Sz:s.groups[x]?=ac l.grp:=O.gr;let g3:l.grp<3:=bd.g3 _ (aD Sz);let F:=h.fo l.grp g3;let#[A,B,p,V,Y]:=ac8 (rs:=rs) S;rw[<- K,p] at o;generalize ee:pb rs cp=e at p o;let c:cp.h=e.h:=(by rw[<- ee];rfl);let U:e.fr=ac (cp.r,fX rs cp.r cp.h):=(by rw[<- ee];rfl);let eb:e.by?=ac cp.r:=(by delta En.by?;rw[U];rfl);let Q:e∈E.map (·.e)++(A++e::B):=-_;let#[N,q2,q3,q4,q5]:=o.wj.fr e Q _ _ U;let q6:gN rs (cp.h:Int) cp.r=df/\fX rs cp.r (fX rs cp.r cp.h)=cp.h:=(by let:=F.back N q2;rw[q3,<- c] at this;erw[this.1,q3.trans c.symm]);let nd:e.h∉l.done:=λz=>(by rw[o.dn] at z;let#[y,hy,ey]:=aG.mp z;erw[M7 o.wj.nd (-_) y.e (cF hy) ey]);let q:Fe l cp.h=dr:=(by rw[UN rfl,c];erw[gh nd]);let G:ii l cp (os l.grp)=df:=(by delta ii;rw[q,fy N];rfl);erw[G,4];let u:iE l cp (os l.grp)=.CF cp.h cp.r:=(by delta iE;rw[q,eG N,eH (!_)]);let H:=(ai.mp hl).1;let X:NL rs (os l.grp) s.aE ts:=λt I=>(by let I:=pt.mem_iff.mp I;delta hX at I;obtain z|z:=aR.mp I;erw[h.nl _ g3 t (aZ.mp z).1];erw[cp.h,l.s,cp.r,aP.mp z,N,q6.1,4];rw[O.sn];erw[F.symm q5]);let C:∀g,g<3->NL rs (os g) s.aE (gM s.ts l.grp ts g):=λg hg=>(by by_cases z:g=l.grp;subst z;rw[c9];erw[X];rw[fL z];erw[h.nl g hg]);delta jj cN;rw[G,eG rfl,eH (show ¬l.old=df by rw[h2];decide),u];let T:(Fg (jB s a cp l (os l.grp)) l.grp ts).ls[cp.l]?=ac {l with aK:=l.aK++[.CF cp.h cp.r]}:=(by show (s.ls.set cp.l {l with aK:=l.aK++[iE l cp (os l.grp)]})[cp.l]?=_;rw[u,fR H,eG rfl]);let#[aa,ed]:=DW (rs:=rs) (os:=os l.grp) (h:=cp.h) (cK:=ac cp.r) T;let w:LK s.aE s.groups x to {l with aK:=l.aK++[.CF cp.h cp.r]}:=WU O rfl rfl rfl rfl;let W:=wv (s:=Fg (jB s a cp l (os l.grp)) l.grp ts) (l:={l with aK:=l.aK++[.CF cp.h cp.r]}) (e:=e) F (by show gB (gM s.ts l.grp ts l.grp);rw[c9];erw[oe]) (C _ g3) w.kinds.1 w.kinds.2.1;let hh:nC (Fg (jB s a cp l (os l.grp)) l.grp ts) {l with aK:=l.aK++[.CF cp.h cp.r]} cp.h=UO s.aE s.groups x to cp.h:=LK.hand (s:=Fg (jB s a cp l (os l.grp)) l.grp ts) w;rw[ed,hh];rw[eb,<- c] at W;generalize Ff rs (Fg (jB s a cp l (os l.grp)) l.grp ts) {l with aK:=l.aK++[.CF cp.h cp.r]} cp.h (ac cp.r) (os l.grp)=gs at W;let#[gn,L,ga,M]:=W;let#[_,J]:=o.next (gs:=gs) (wf:=λr=>j7 s.ws r (mO {l with aK:=l.aK++[.CF cp.h cp.r]})) F gn (λr hr=>#[L r hr,h.wr _ g3 r (nD.mp (L r hr)).1 _]) (λz=>ga (w.kinds.2.2.1 (by cases to with|none=>rfl|some y=>ext z))) (λz hz=>by let#[y,e1,e2]:=YI hz;let#[w1,w2]:=w.kinds.2.2.2 y e1;let M:=M w1;rw[w2] at M;rw[<- e2,<- c];erw[M]);let v:∀(k:Nat)(f:LS),((Fg (jB s a cp l (os l.grp)) l.grp ts).ls.set cp.l f)[k]?=if k=cp.l then ac f else s.ls[k]?:=λk f=>by show ((s.ls.set cp.l _).set cp.l f)[k]?=_;rw[z6,fR H]
 erw[h.fo,h.wr,4,C,λj x' Z R=>?_];show ge ((s.ls.set cp.l _).set cp.l _)=_;rw[bu,bu];erw[h.ll];·by_cases z:j=i;(·subst z;rw[hi] at R;ext R;exists {l with done:=lU l.done cp.h,aK:=l.aK++[.CF cp.h cp.r]++((UO s.aE s.groups x to cp.h).map (kE.hand cp.h)++gs.map λr=>.send cp.h r (j7 s.ws r (mO {l with aK:=l.aK++[.CF cp.h cp.r]})))},E++[#[e,gs,λr=>j7 s.ws r (mO {l with aK:=l.aK++[.CF cp.h cp.r]})]],by rw[<- K];erw[(v cp.l _).trans ?_];rw[eG rfl];rfl,h2,WU O rfl rfl rfl rfl,4,-_;show LJ ns rs (os l.grp) _ _ _ (lU l.done cp.h) _ (hU rs (s.cps.eraseIdx a++gs.map λr=>(#[cp.l,r,_,fX rs r cp.h]:Cp)) (b+j)) _;let d:=Hy (i:=cp.l) (j:=cp.l) (wf:=λr=>j7 s.ws r (mO {l with aK:=l.aK++[.CF cp.h cp.r]})) F L;rw[eG rfl,<- c] at d;rw[<- K,uf,V];delta lU;rw[eH (by rw[c];erw[nd])];erw[Eq.mp ?_ J];congr 1;rw[c];show l.aK++(km e::_)=l.aK++[.CF cp.h cp.r]++_;rw[dW];congr 1;delta km;rw[U];show _=kE.CF cp.h cp.r::_;rw[c];rfl;congr 1;erw[d.symm]);let#[f,E',r1,r2,r3,r4,r5]:=h.li j x' Z R;let P:b+j≠cp.l:=∅;erw[f,E',(v (b+j) _).trans ((eH P).trans r1),r2,r3,4,r5];show LJ ns rs _ _ _ _ _ _ (hU rs (s.cps.eraseIdx a++gs.map λr=>(#[cp.l,r,_,fX rs r cp.h]:Cp)) (b+j)) E';let d:=Hy (i:=cp.l) (j:=b+j) (wf:=λr=>j7 s.ws r (mO {l with aK:=l.aK++[.CF cp.h cp.r]})) F L;rw[eH P,<- c] at d;rw[uf,Y _ P];let d:hU rs (gs.map λr=>(#[cp.l,r,j7 s.ws r (mO {l with aK:=l.aK++[.CF cp.h cp.r]}),fX rs r cp.h]:Cp)) (b+j)=[]:=d;erw[Eq.mp ?_ r4];congr 1;erw[(cu _).symm.trans (gZ _ d.symm)]
end
section
noncomputable def WV(rs:!R5)(h:Nat):Nat:=ge ((av (ge rs)).filter (gN rs h))
noncomputable def CB(n:Nat)(rs:!R5)(done:!Nat):Nat:=(((av n).filter λh=>(decide (h∈done)).not).map (WV rs)).sum
noncomputable def Ph(n:Nat)(rs:!R5)(s:NS):Nat:=ge s.cps+(s.ls.map λl=>CB n rs l.done).sum
theorem sum_set{b:Type}{f:b->Nat}:∀{xs:!b}{i:Nat}{x:b}(y:b),xs[i]?=ac x->((xs.set i y).map f).sum+f x=(xs.map f).sum+f y
 |[],_,_,_,h=>by ext h
 |a::xs,0,x,y,h=>by
  ext h;show f y+(xs.map f).sum+f a=f a+(xs.map f).sum+f y;lia
 |a::xs,i+1,x,y,h=>by
  let:=sum_set (f:=f) (xs:=xs) (i:=i) y h
  show f a+((xs.set i y).map f).sum+f x=f a+(xs.map f).sum+f y;lia
theorem UP{f:Nat->Nat}{d:!Nat}{h:Nat}(c:h∉d):∀{L:!Nat},L.Nodup->(((L.filter λk=>(decide (k∈d++[h])).not).map f).sum+if h∈L then f h else 0)=((L.filter λk=>(decide (k∈d)).not).map f).sum
 |[],_=>rfl
 |a::L,nd=>by
  let#[g,i]:=dY.mp nd;let b:=UP (f:=f) c i;by_cases z:a=h
  ·subst z
   rw[eH g] at b;rw[eG aM,dg (-_),dc (by simp[c]),bz,lB];lia
  ·let e:(if h∈a::L then f h else 0)=(if h∈L then f h else 0):=by
    let q:¬h=a:=λy=>z y.symm;simp[q]
   rw[e];by_cases y:a∈d
   ·rw[dg (by simp[y]),dg (by simp[y])]
    erw[b]
   ·rw[dc (by simp[y,z]),dc (by simp[y]),bz,bz,lB,lB]
    lia
theorem Qi{n:Nat}{d:!Nat}{h:Nat}(b:h<n)(a:h∉d):CB n rs (lU d h)+WV rs h=CB n rs d:=by delta CB lU;rw[eH a];let:=UP (f:=WV rs) a (AL (n:=n));rw[eG (bO.mpr b)] at this;erw[this]
theorem RF:ge ((av n).filter λh:Nat=>gN rs (h:Int) k)<=2:=by cases e:rs[k]? with|none=>let:((av n).filter λh:Nat=>gN rs (h:Int) k)=[]:=List.filter_eq_nil_iff.mpr λh _=>(by delta gN;rw[e];erw[aU]);rw[this];decide|some r=>let:=Gr.pX (B:=[r.a.toNat,r.b.toNat]) (List.Nodup.sublist (l₁:=(av n).filter λh:Nat=>gN rs (h:Int) k) jV AL) λx c=>(by let c:=(aZ.mp c).2;delta gN at c;rw[e] at c;let c:(decide ((x:Int)=r.a) || decide ((x:Int)=r.b))=df:=c;rw[qi,g6,g6] at c;obtain z|z:=c;rw[<- z];simp;rw[<- z];simp);erw[this]
theorem UQ{n:Nat}{p:Nat->Nat->Bool}:∀m,((av n).map λh=>ge ((av m).filter (p h))).sum=((av m).map λk=>ge ((av n).filter λh=>p h k)).sum
 |0=>by
  show ((av n).map λh=>0).sum=0;generalize av n=L;induction L with
  |nil=>rfl
  |cons a L b=>rw[bz,lB,b];rfl
 |m+1=>by
  rw[fk,aN,List.sum_append,<- UQ m];show _=_+(ge ((av n).filter λh=>p h m)+0);generalize av n=L;induction L with
  |nil=>rfl
  |cons a L b=>
   rw[bz,bz,lB,lB,b,dZ,az];by_cases z:p a m=df
   ·rw[dc z,dc (p:=λh=>p h m) z,bG,bG,wk,qe]
    lia
   ·rw[dg z,dg (p:=λh=>p h m) z,wk,qe]
    lia
theorem afq:((av n).map (WV rs)).sum<=2*ge rs:=by let e:((av n).map (WV rs)).sum=_:=UQ (n:=n) (p:=λh k=>gN rs (h:Int) k) (ge rs);rw[e];generalize (ge rs)=m;induction m with|zero=>erw[aA _]|succ m a=>rw[fk,aN,List.sum_append];let:ge ((av n).filter λh:Nat=>gN rs (h:Int) m)<=2:=RF;show _+(ge ((av n).filter λh:Nat=>gN rs (h:Int) m)+0)<=_;lia
theorem xt{os:!Nat}(F:Fo ns rs os):ge (Ff rs s l h cK os)<=WV rs h:=by delta Ff WV;rw[af];erw[aJ Hw.2 ?_];rw[af];erw[Gr.pX (List.Nodup.sublist jV (F.ri.imp λh=>bV h)) λx a=>aZ.mpr #[bO.mpr (F.lt x (aZ.mp a).1),(aZ.mp a).2]]
theorem afr{os:!Nat}(F:Fo ns rs os){s:NS}(c:s.aE.getD x 0<ge ns):Ph (ge ns) rs (rz rs s x to os)<=Ph (ge ns) rs s+2*ge rs:=by delta rz;let#[e,f]:=DW (rs:=rs) (os:=os) (h:=s.aE.getD x 0) (cK:=de) (s:=jN s x to) (i:=ge s.ls) (l:={gu s x to with aK:=[.post (s.aE.getD x 0)]}) jR;rw[f];let g:=xt (s:=jN s x to) (l:={gu s x to with aK:=[.post (s.aE.getD x 0)]}) (h:=s.aE.getD x 0) (cK:=de) F;generalize Ff rs (jN s x to) _ _ _ os=gs at g;let b:∀a,(jN s x to).ls.set (ge s.ls) a=s.ls++[a]:=λa=>(by show (s.ls++[_]).set (ge s.ls) a=_;rw[qd _ _ (aA _),fB];rfl);delta Ph;rw[b];show ge (s.cps++_)+((s.ls++[_]).map _).sum<=_;rw[az,af,aN,List.sum_append];show ge s.cps+ge gs+(_+(CB (ge ns) rs (lU [] (s.aE.getD x 0))+0))<=_;let j:=Qi (rs:=rs) (d:=[]) c (-_);let k:CB (ge ns) rs []<=2*ge rs:=(by delta CB;rw[List.filter_eq_self.mpr (-_)];erw[afq]);lia
theorem afs{os:!Nat}(F:Fo ns rs os){s:NS}{a:Nat}(c:s.cps[a]?=ac cp)(hl:s.ls[cp.l]?=ac l)(k:cp.h<ge ns):Ph (ge ns) rs (jj rs s a cp l os ts)+1<=Ph (ge ns) rs s:=by
 let j:=(ai.mp hl).1;let e:=(ai.mp c).1;let x:ge (s.cps.eraseIdx a)+1=ge s.cps:=(by rw[List.length_eraseIdx,eG e];lia);let o:∀b,((jB s a cp l b).ls.map λl=>CB (ge ns) rs l.done).sum=(s.ls.map λl=>CB (ge ns) rs l.done).sum:=λb=>(by let:=sum_set (f:=λl:LS=>CB (ge ns) rs l.done) {l with aK:=l.aK++[iE l cp b]} hl;show ((s.ls.set cp.l _).map _).sum=_;simp only at this;lia);delta jj;split;·rename_i g;let i:cp.h∉l.done:=λz=>(by delta ii at g;rw[UN rfl,fy z] at g;simp at g);let#[n,q]:=DW (rs:=rs) (os:=os) (h:=cp.h) (cK:=ac cp.r) (oQ (a:=a) (os:=os) (ts:=ts) hl);rw[q];let v:=xt (s:=cN s a cp l os ts) (l:={l with aK:=l.aK++[iE l cp os]}) (h:=cp.h) (cK:=ac cp.r) F;generalize Ff rs (cN s a cp l os ts) _ _ _ os=gs at v;let m:(cN s a cp l os ts).cps=s.cps.eraseIdx a:=(by delta cN;split <;> rfl);let t:(cN s a cp l os ts).ls=s.ls.set cp.l {l with aK:=l.aK++[iE l cp os]}:=(by delta cN;split <;> rfl);delta Ph;(try dsimp only);rw[m,t,z6,az,af];let w:=Qi (rs:=rs) (d:=l.done) k i;let p:=λy=>sum_set (f:=λl:LS=>CB (ge ns) rs l.done) y hl;let u:=p {l with done:=lU l.done cp.h,aK:=l.aK++[iE l cp os]++((nC (cN s a cp l os ts) {l with aK:=l.aK++[iE l cp os]} cp.h).map (kE.hand cp.h)++gs.map λr=>.send cp.h r (j7 (cN s a cp l os ts).ws r (mO {l with aK:=l.aK++[iE l cp os]})))};dsimp only at u;lia
 delta Ph;rw[o];show ge (s.cps.eraseIdx a)+_+1<=_;lia
structure SD(ns:!Int)(rs:!R5)(bs:!(!Bool))(cl:!(Nat×Nat))(D:Nat)(s:NS):Prop where
 ok:A0 ns rs s
 bd:Bd (ge ns) (ge rs) D s
 ws:s.ws=bs.map gL
 fit:S7 rs bs
 hm:s.aE=cl.map (·.1)
 gr:s.groups=cl.map (·.2)
variable{ns:!Int}{rs:!R5}{bs:!(!Bool)}{cl:!(Nat×Nat)}{D:Nat}{s:NS}
theorem aft(b:Bd n m D s):Bd n m D (Av s g):=by exists b.gl,b.xR,b.g3,b.hm,b.hl,b.hb,by show ge (s.ls.map _)<=D;rw[af];exact b.ll,λl z=>?_,b.cb,λc z=>by show c.l<ge (s.ls.map _)/\_;rw[af];exact b.cl c z,λa=>?_;let#[d,e,rfl]:=aG.mp z;delta xM;split;erw[b.lb d e];erw[b.lb d e];show 50*ge (gM s.ts g [] a)<=D/\gB (gM s.ts g [] a);by_cases z:a=g;subst z;rw[c9];erw[bL _,lY];rw[fL z];erw[b.tb a]
def SD.news(h:SD ns rs bs cl D s)(g:Nat):SD ns rs bs cl D (Av s g):=#[#[h.ok.wl,h.ok.w4,h.ok.fit],aft h.bd,h.ws,h.fit,h.hm,h.gr]
theorem SD.ji(h:SD ns rs bs cl D s)(e:Int):∀m,SD ns rs bs cl D (ji s e m)
 |0=>h
 |m+1=>by
  rw[jd];split
  ·erw[(h.ji e m).news m]
  ·erw[h.ji e m]
theorem SD.call(h:SD ns rs bs cl D s)(c:AR (ge ns) (ge rs) d):SD ns rs bs cl D (nB s g x d):=by delta nB;split;erw[h];erw[SD.news (s:={s with R:=gM s.R g (RM.upd (s.R g) x d)}) #[#[h.ok.wl,h.ok.w4,λk a=>?_],#[h.bd.gl,h.bd.xR,h.bd.g3,h.bd.hm,h.bd.hl,h.bd.hb,h.bd.ll,h.bd.lb,h.bd.cb,h.bd.cl,h.bd.tb],h.ws,h.fit,h.hm,h.gr] g];show wF _ _ (gM s.R g (RM.upd (s.R g) x d) k);by_cases z:k=g;subst z;rw[c9];intro i b;delta RM.upd;split;erw[c];erw[h.ok.fit k a i b];rw[fL z];erw[h.ok.fit k a]
theorem SD.move{x y:Nat}(h:SD ns rs bs cl D s)(c:x<ge cl)(f:y<ge ns):SD ns rs bs (cl.set x (y,cl[x].2)) D (Aw s x y):=by let g:x<ge s.aE:=(by rw[h.hm,af];erw[c]);let a:(cl.set x (y,cl[x].2)).map (·.2)=cl.map (·.2):=(by rw[lE];erw[wN ?_];rw[ao,aa c];rfl);delta Aw;split;rename_i e;erw[h.ok,h.bd,h.ws,h.fit,4,by rw[a];erw[h.gr]];rw[lE,<- h.hm];erw[(wN e).symm];erw[SD.news (s:={s with aE:=s.aE.set x y}) #[#[h.ok.wl,h.ok.w4,h.ok.fit],4,h.ws,h.fit,by show s.aE.set x y=_;rw[lE,<- h.hm],by rw[a];erw[h.gr]] _];let b:=h.bd;exists by show ge s.groups=ge (s.aE.set x y);rw[bu];exact b.gl,by show ge (s.aE.set x y)<=20;rw[bu];exact b.xR,b.g3,λz d=>?_,by show ge s.had=ge (s.aE.set x y);rw[bu];exact b.hl,b.hb,b.ll,b.lb,b.cb,b.cl,b.tb;obtain w|rfl:=iW d;erw[b.hm z w];erw[f]
theorem UR{P Q:LS->Prop}{d:kE}(h:∀l∈s.ls,P l)(b:∀l,P l->Q l)(f:∀l,P l->Q {l with aK:=l.aK++[d]}):∀l∈(eF s i d).ls,Q l:=by intro l a;delta eF at a;cases e:s.ls[i]? with|none=>rw[e] at a;erw[b l (h l a)]|some c=>(rw[e] at a;obtain z|rfl:=iW a;erw[b l (h l z)];erw[f c (h c (aD e))])
theorem Cn:(eF s i d).ws=s.ws/\(eF s i d).R=s.R/\(eF s i d).ts=s.ts/\(eF s i d).aE=s.aE/\(eF s i d).groups=s.groups/\(eF s i d).had=s.had:=by delta eF;cases s.ls[i]? <;> exists 222222
theorem DX{i x:Nat}:∀m,m<=ge s.cps->(kg s i x m).ws=s.ws/\(kg s i x m).R=s.R/\(kg s i x m).ts=s.ts/\(kg s i x m).aE=s.aE/\(kg s i x m).groups=s.groups/\(kg s i x m).had=s.had
 |0,_=>by rw[A2];exists 222222
 |m+1,k=>by
  let a:=DX (i:=i) (x:=x) m ∅;rw[wO ∅];delta qw;split
  ·let#[f,e,c,j,g,b]:=Cn (s:=kg s i x m) (i:=(s.cps[m]).l) (d:=.abY (s.cps[m]).h i)
   erw[f.trans a.1,e.trans a.2.1,c.trans a.2.2.1,j.trans a.2.2.2.1,g.trans a.2.2.2.2.1,b.trans a.2.2.2.2.2]
  ·erw[a]
theorem US{i x:Nat}(h:∀l∈s.ls,ge l.aK+ge s.cps<=D/\ge l.done<=D/\l.grp<3/\(l.kd=1\/l.kd=2)):∀m,m<=ge s.cps->∀l∈(kg s i x m).ls,ge l.aK+ge ((s.cps.take m).filter λc=>(nS i x c).not)+ge s.cps<=D+m/\ge l.done<=D/\l.grp<3/\(l.kd=1\/l.kd=2)
 |0,_=>by rw[A2];erw[h]
 |m+1,j=>by
  let d:=US (i:=i) (x:=x) h m ∅;let b:m<ge s.cps:=∅
  rw[wO b,PZ (f:=λc:Cp=>(nS i x c).not) b,az];delta qw;cases e:nS i x s.cps[m]
  ·rw[eH (!_),eG (!_)]
   intro l a;let#[k,g]:=d l a;exists by show ge l.aK+(_+1)+_<=_;lia,g
  ·rw[eG rfl,eH (!_)]
   erw[UR d (λl a=>#[by let:=a.1;show ge l.aK+(_+0)+_<=_;lia,a.2]) (λl a=>#[4,a.2])]
   let:=a.1
   show ge (l.aK++[_])+(_+0)+_<=_;rw[az];show ge l.aK+1+(_+0)+_<=_;lia
theorem SD.lose(h:SD ns rs bs cl D s)(i x:Nat):SD ns rs bs cl D (m5 s i x):=by let#[e,j,k,a,d,f]:=DX (s:=s) (i:=i) (x:=x) (ge s.cps) (aA _);let lb:=US (i:=i) (x:=x) h.bd.lb (ge s.cps) (aA _);let ll:=PY (s:=s) (i:=i) (x:=x) (m:=ge s.cps);rw[gH] at lb;delta m5;generalize kg s i x (ge s.cps)=s2 at e j k a d f lb ll;let b:=h.bd;erw[#[e▸h.ok.wl,e▸h.ok.w4,j▸h.ok.fit],#[4444444,λl hl=>?_,4,λc o=>?_,4],e.trans h.ws,h.fit,a.trans h.hm,d.trans h.gr];show ge s2.groups=ge s2.aE;rw[a,d];erw[b.gl];show ge s2.aE<=20;rw[a];erw[b.xR];show ∀g∈s2.groups,g<3;rw[d];erw[b.g3];show ∀h∈s2.aE,h<ge ns;rw[a];erw[b.hm];show ge s2.had=ge s2.aE;rw[a,f];erw[b.hl];show ∀w∈s2.had,ge w<=D;rw[f];erw[b.hb];show ge s2.ls<=D;rw[ll];erw[b.ll];let#[p,n]:=lb l hl;exists by show ge l.aK+ge (s.cps.filter λc=>(nS i x c).not)<=D;lia,n;erw[aJ (bx _ _) b.cb];show c.l<ge s2.ls/\_;rw[ll];erw[b.cl c (aZ.mp o).1];show ∀g,50*ge (s2.ts g)<=D/\gB (s2.ts g);rw[k];erw[b.tb]
theorem SD.iK{i:Nat}(o:cS ns rs)(h:SD ns rs bs cl D s)(hb:bs[i]?=ac b):SD ns rs (bs.set i (b.set x v)) cl D {s with ws:=s.ws.set i (gL (b.set x v))}:=by let f:=h.fit.set hb (k:=x) (x:=v);let l:s.ws.set i (gL (b.set x v))=(bs.set i (b.set x v)).map gL:=(by rw[h.ws,lE]);erw[#[by show ge (s.ws.set i _)=_;rw[bu];exact h.ok.wl,λu c=>?_,h.ok.fit],#[h.bd.gl,h.bd.xR,h.bd.g3,h.bd.hm,h.bd.hl,h.bd.hb,h.bd.ll,h.bd.lb,h.bd.cb,h.bd.cl,h.bd.tb],l,f,h.hm,h.gr];let c:u∈s.ws.set i (gL (b.set x v)):=c;rw[l] at c;let#[m,d,rfl]:=aG.mp c;let#[j,g,e]:=gK d;let a:j<ge rs:=(by rw[<- f.1];erw[g]);let:=f.2 j _ _ (aa a) (aa g);let n:=(o.ok _ (aB a)).d4;let:=Zv m;rw[e] at *;lia
theorem SD.Az{i:Nat}(o:cS ns rs)(h:SD ns rs bs cl D s)(c:bs[i]?=ac b)(e:Int):SD ns rs (bs.set i (b.set x dr)) cl D (yH s i x (gL b) e):=by let a:=(h.iK (x:=x) (v:=dr) o c).lose i x;delta yH;rw[Lj];split;erw[a.ji e 3];erw[a]
theorem SD.lay{i:Nat}(o:cS ns rs)(h:SD ns rs bs cl D s)(c:bs[i]?=ac b)(e:Int):SD ns rs (bs.set i (b.set x df)) cl D (Hs s i (gL b) (gL (b.set x df)) e):=by let a:=h.iK (x:=x) (v:=df) o c;delta Hs;split;erw[a.ji e 3];erw[a]
theorem Gk{i:Nat}{os:!Nat}(hl:s.ls[i]?=ac l):(SA rs s i h l cK os).ws=s.ws/\(SA rs s i h l cK os).R=s.R/\(SA rs s i h l cK os).aE=s.aE/\(SA rs s i h l cK os).groups=s.groups:=by let f:=Tx (rs:=rs) (h:=h) (cK:=cK) (os:=os) hl;erw[f.ws,f.R,f.aE,f.groups]
theorem SD.post{x:Nat}{os:!Nat}(o:cS ns rs)(h:SD ns rs bs cl D s)(d:x<ge s.aE)(O:fm (gW ns rs o s.ws (s.groups.getD x 0)) (s.R (s.groups.getD x 0)) os)(b:ge os<=12):SD ns rs bs cl (D+100) (rz rs s x to os):=by let#[a,f,g,e]:=Gk (rs:=rs) (h:=s.aE.getD x 0) (cK:=de) (os:=os) (s:=jN s x to) (i:=ge s.ls) (l:={gu s x to with aK:=[.post (s.aE.getD x 0)]}) jR;let j:=ww o (h:=s.aE.getD x 0) (cK:=de) (YC (to:=to) h.bd d) jR O b;erw[#[(gZ ge a).trans h.ok.wl,λw c=>h.ok.w4 w (by rw[show (rz rs s x to os).ws=s.ws from a] at c;erw[c]),by rw[show (rz rs s x to os).R=s.R from f];erw[h.ok.fit]],j.mono ∅,a.trans h.ws,h.fit,g.trans h.hm,e.trans h.gr]
theorem SD.pass{a:Nat}{cp:Cp}{os:!Nat}{ts:!T3}(o:cS ns rs)(h:SD ns rs bs cl D s)(hl:s.ls[cp.l]?=ac l)(u:a<ge s.cps)(O:fm (gW ns rs o s.ws l.grp) (s.R l.grp) os)(f:ge os<=12)(p:ts.Perm (hX (s.ts l.grp) h' c r))(q:gB ts):SD ns rs bs cl (D+100) (jj rs s a cp l os ts):=by let v:=afk o (a:=a) (cp:=cp) h.bd hl u O f p q;let e:(jj rs s a cp l os ts).ws=s.ws/\(jj rs s a cp l os ts).R=s.R/\(jj rs s a cp l os ts).aE=s.aE/\(jj rs s a cp l os ts).groups=s.groups:=(by delta jj;split;let#[n,m,k,t]:=Ay (s:=s) (a:=a) (cp:=cp) (l:=l) (os:=os) (ts:=ts);let#[b,g,i,d]:=Gk (rs:=rs) (h:=cp.h) (cK:=ac cp.r) (os:=os) (oQ (a:=a) (os:=os) (ts:=ts) hl);erw[b.trans n,g.trans m,i.trans k,d.trans t];exists 2222);let#[b,g,i,d]:=e;erw[#[(gZ ge b).trans h.ok.wl,λw j=>h.ok.w4 w (by rw[b] at j;erw[j]),by rw[g];erw[h.ok.fit]],v,b.trans h.ws,h.fit,i.trans h.hm,d.trans h.gr]
end
section
variable{ns:!Int}{rs:!R5}{os:!Nat}{s s':NS}{g:Nat}
def Led(rs:!R5)(os:!Nat)(s:NS)(g h c r:Nat):Prop:=r∈os/\gN rs (h:Int) r=df/\s.groups[c]?=ac g/\Rw rs os r (fX rs r h) (s.aE.getD c 0)
structure Hz(rs:!R5)(os:!Nat)(g:Nat)(s:NS):Prop where
 nt:∀t∈s.ts g,∃h c r:Nat,t=((h:Int),(c:Int),(r:Int))/\Led rs os s g h c r
 cp:∀c∈s.cps,∀l,s.ls[c.l]?=ac l->l.grp=g->l.old=dr->Led rs os s g c.h l.s c.r
def n7(s:NS):Prop:=∀l∈s.ls,s.groups[l.s]?=ac l.grp
structure Ld(o:cS ns rs)(s:NS):Prop where
 sd:n7 s
 ld:∀g,g<3->∀os,fm (gW ns rs o s.ws g) (s.R g) os->Hz rs os g s
theorem Led.of(a:Led rs os s g h c r)(d:s'.groups=s.groups)(b:∀c,s.groups[c]?=ac g->s'.aE.getD c 0=s.aE.getD c 0):Led rs os s' g h c r:=#[a.1,a.2.1,by rw[d];exact a.2.2.1,by rw[b c a.2.2.1];erw[a.2.2.2]]
theorem Hz.of(a:Hz rs os g s)(w:∀t∈s'.ts g,t∈s.ts g)(f:s'.groups=s.groups)(d:∀c,s.groups[c]?=ac g->s'.aE.getD c 0=s.aE.getD c 0)(p:∀c∈s'.cps,∀b,s'.ls[c.l]?=ac b->b.grp=g->b.old=dr->c∈s.cps/\∃l,s.ls[c.l]?=ac l/\l.s=b.s/\l.grp=g/\l.old=dr):Hz rs os g s':=by erw[λt h=>?_,λc h b o i v=>?_];let#[h,c,r,e,q]:=a.nt t (w t h);erw[h,c,r,e,q.of f d];let#[k,l,j,m,n,u]:=p c h b o i v;let:=(a.cp c k l j n u).of f d;rw[m] at this;erw[this]
theorem WW(h:n7 s)(b:s'.groups=s.groups)(hl:∀a∈s'.ls,∃l∈s.ls,a.s=l.s/\a.grp=l.grp):n7 s':=λa d=>by
 let#[l,c,e,f]:=hl a d;rw[b,e,f];erw[h l c]
theorem xp:(xM k l).s=l.s/\(xM k l).grp=l.grp:=by delta xM;split <;> exists 22
theorem io{i:Nat}(h:(Av s k).ls[i]?=ac l'):∃l,s.ls[i]?=ac l/\l'=xM k l:=by let h:(s.ls.map (xM k))[i]?=ac l':=h;rw[ao] at h;cases e:s.ls[i]? with|none=>rw[e] at h;ext h|some l=>rw[e] at h;erw[l,2,(aI h).symm]
theorem M8(h:n7 s)(k:Nat):n7 (Av s k):=WW h rfl λc b=>by
 let#[l,a,rfl]:=aG.mp b;erw[l,a,xp]
theorem ER(h:n7 s)(e:Int):∀m,n7 (ji s e m)
 |0=>h
 |m+1=>by
  rw[jd];split
  ·erw[M8 (ER h e m) m]
  ·erw[ER h e m]
theorem Hz.YJ:Hz rs os g (Av s g):=by erw[λt h=>?_,λc _ e d b a=>?_];let h:t∈gM s.ts g [] g:=h;rw[c9] at h;ext h;exfalso;let#[l,f,rfl]:=io d;delta xM at b a;split at a;ext a;rename_i z;rw[eH z] at b;erw[z b]
theorem Hz.news(a:Hz rs os g s)(k:Nat):Hz rs os g (Av s k):=by by_cases z:g=k;subst z;erw[Hz.YJ];erw[a.of (λt h=>?_) rfl (λ_ _=>rfl) λc h m f d b=>?_];let h:t∈gM s.ts k [] g:=h;rw[fL z] at h;erw[h];let#[l,i,rfl]:=io f;let e:=xp (l:=l) (k:=k);let j:¬l.grp=k:=λq=>z (by rw[<- d,e.2,q]);delta xM at b;rw[eH j] at b;erw[h,l,i,e.1.symm,e.2▸d,b]
theorem Hz.nwR(a:Hz rs os g s)(e:Int):∀m,Hz rs os g (ji s e m)
 |0=>a
 |m+1=>by
  rw[jd];split
  ·erw[(a.nwR e m).news m]
  ·erw[a.nwR e m]
theorem Hz.ajh{e:Int}(hl:x6 e g=df):∀m,g<m->Hz rs os g (ji s e m)
 |0,h=>ff h (qc _)
 |m+1,h=>by
  rw[jd];by_cases z:g=m
  ·subst z
   rw[eG hl];erw[Hz.YJ]
  ·let a:=Hz.ajh hl m ∅
   split
   ·erw[a.news m]
   ·erw[a]
theorem M9{e:Int}:∀m:Nat,(ji s e m).ws=s.ws/\(ji s e m).R=s.R
 |0=>#[22]
 |m+1=>by
  let a:=M9 (e:=e) m;rw[jd];split <;> erw[a]
theorem Ld.call{o:cS ns rs}{x:Nat}{d:RM.Row}(h:Ld o s):Ld o (nB s g x d):=by delta nB;split;erw[h];erw[M8 (s:={s with R:=gM s.R g (RM.upd (s.R g) x d)}) h.sd g,λk b os O=>?_];by_cases z:k=g;subst z;erw[Hz.YJ];let O:fm (gW ns rs o s.ws k) (gM s.R g (RM.upd (s.R g) x d) k) os:=O;rw[fL z] at O;erw[Hz.news (s:={s with R:=gM s.R g (RM.upd (s.R g) x d)}) ((h.ld k b os O).of (λt h=>h) rfl (λ_ _=>rfl) λc h e f a i=>#[h,e,f,2,a,i]) g]
theorem Ld.move{x:Nat}(h:Ld o s)(j:x<ge s.groups):Ld o (Aw s x y):=by delta Aw;split;erw[h];erw[M8 (s:={s with aE:=s.aE.set x y}) h.sd _,λk b os O=>?_];by_cases z:k=s.groups.getD x 0;subst z;erw[Hz.YJ];erw[Hz.news (s:={s with aE:=s.aE.set x y}) ((h.ld k b os O).of (λt h=>h) rfl (λc g=>?_) λc h d f a i=>#[h,d,f,2,a,i]) _];show (s.aE.set x y).getD c 0=s.aE.getD c 0;let e:x≠c:=λq=>(by subst q;rw[ak,g] at z;erw[z rfl]);rw[ak,ak,cP,eH e]
theorem UT{i:Nat}(a:rs[i]?=ac r)(b:x6 r.e g=dr):lN rs (s.ws.set i w) g=lN rs s.ws g:=by
 delta lN pL;erw[List.filter_congr λk f=>?_];delta hQ;by_cases e:i=k;·subst e;rw[a];cases d:(s.ws.set i w)[i]? <;> cases c:s.ws[i]? <;> simp[b]
 rw[cP,eH e]
theorem UU{i:Nat}{w2:!Nat}(f:s.ws[i]?=ac w)(j:w≠[])(h:w2≠[]):lN rs (s.ws.set i w2) g=lN rs s.ws g:=by
 delta lN pL;erw[List.filter_congr λk l=>?_];delta hQ;by_cases e:i=k;subst e;rw[cP,eG rfl,eG (ai.mp f).1,f];cases rs[i]? with|none=>rfl|some r=>(cases w with|nil=>erw[ff rfl j]|cons a b=>(cases w2 with|nil=>erw[ff rfl h]|cons c d=>rfl))
 rw[cP,eH e]
theorem Co(e:lN rs ws' g=lN rs ws g)(O:fm (gW ns rs o ws' g) R os):fm (gW ns rs o ws g) R os:=by let:gW ns rs o ws' g=gW ns rs o ws g:=(by delta gW;congr 1);rw[<- this];erw[O]
theorem YK{k:Nat}(h:(m5 s i x).ls[k]?=ac b):∃l,s.ls[k]?=ac l/\b.s=l.s/\b.grp=l.grp/\b.old=l.old:=by let m:∀(cs:!Cp)(d:NS)(b:LS),(cs.foldl (qw i x) d).ls[k]?=ac b->∃l,d.ls[k]?=ac l/\b.s=l.s/\b.grp=l.grp/\b.old=l.old:=λcs=>(by induction cs with|nil=>erw[λd b h=>#[b,h,222]]|cons c cs o=>intro d b h;let#[g,a,e,f,j]:=o (qw i x d c) b h;delta qw at a;split at a;(delta eF at a;cases q:d.ls[c.l]? with|none=>rw[q] at a;erw[g,a,e,f,j]|some n=>rw[q] at a;let a:(d.ls.set c.l _)[k]?=ac g:=a;rw[fR (ai.mp q).1] at a;by_cases z:k=c.l;rw[eG z] at a;ext a;exists n,by rw[z];exact q,e,f,j;rw[eH z] at a;erw[g,a,e,f,j]);erw[g,a,e,f,j]);erw[m s.cps s b (by rw[<- gH (l:=s.cps)];erw[h])]
theorem Jm:(m5 s i x).ws=s.ws/\(m5 s i x).R=s.R/\(m5 s i x).ts=s.ts/\(m5 s i x).aE=s.aE/\(m5 s i x).groups=s.groups:=by let#[c,d,e,a,b,_]:=DX (s:=s) (i:=i) (x:=x) (ge s.cps) (aA _);erw[c,d,e,a,b]
theorem Hz.lose(a:Hz rs os g s):Hz rs os g (m5 s i x):=by let#[_,_,o,k,d]:=Jm (s:=s) (i:=i) (x:=x);erw[a.of (λt h=>by rw[o] at h;erw[h]) d (λ_ _=>by rw[k]) λc h q n b p=>?_];let#[l,f,e,j,m]:=YK n;erw[(aZ.mp h).1,l,f,e.symm,j▸b,m▸p]
theorem UW(h:n7 s):n7 (m5 s i x):=WW h (Jm (s:=s) (i:=i) (x:=x)).2.2.2.2 λf a=>by
 let#[k,b]:=c7 a;let#[l,d,c,e,_]:=YK b;erw[l,aD d,c,e]
theorem Hz.ws(a:Hz rs os g s)(ws:!(!Nat)):Hz rs os g {s with ws:=ws}:=a.of (λt h=>h) rfl (λ_ _=>rfl) λc h d f b e=>#[h,d,f,2,b,e]
theorem Ld.Az{o:cS ns rs}{i x:Nat}{w:!Nat}{r:R5}(h:Ld o s)(j:rs[i]?=ac r)(f:s.ws[i]?=ac w):Ld o (yH s i x w r.e):=by
 let c:=Jm (s:={s with ws:=s.ws.set i (w.filter λz=>decide (z≠x))}) (i:=i) (x:=x);delta yH;split;let#[l,d]:=M9 (s:=m5 {s with ws:=s.ws.set i (w.filter λz=>decide (z≠x))} i x) (e:=r.e) 3;erw[ER (UW (s:={s with ws:=s.ws.set i (w.filter λz=>decide (z≠x))}) h.sd) _ _,λg b os O=>?_];rw[l,d,c.1,c.2.1] at O;cases q:x6 r.e g with|true=>erw[Hz.ajh q 3 b]|false=>erw[((((h.ld g b os (Co (UT j q) O)).ws _).lose).nwR _ _)]
 rename_i k;let a:(w.filter λz=>decide (z≠x))≠[]:=λz=>k (by rw[z];rfl);erw[UW (s:={s with ws:=s.ws.set i (w.filter λz=>decide (z≠x))}) h.sd,λg b os O=>?_];rw[c.1,c.2.1] at O;erw[((h.ld g b os (Co (UU f (λz=>a (by rw[z];rfl)) a) O)).ws _).lose]
theorem Ld.lay{o:cS ns rs}{i:Nat}{w w2:!Nat}{r:R5}(h:Ld o s)(d:rs[i]?=ac r)(c:s.ws[i]?=ac w)(b:w2≠[]):Ld o (Hs s i w w2 r.e):=by
 delta Hs;split;let#[k,j]:=M9 (s:={s with ws:=s.ws.set i w2}) (e:=r.e) 3;erw[ER (s:={s with ws:=s.ws.set i w2}) h.sd _ _,λg a os O=>?_];rw[k,j] at O;cases q:x6 r.e g with|true=>erw[Hz.ajh q 3 a]|false=>erw[((h.ld g a os (Co (UT d q) O)).ws _).nwR _ _]
 rename_i f;erw[h.sd,λg a os O=>(h.ld g a os (Co (UU c (λz=>f (by rw[z];rfl)) b) O)).ws _]
end
section
variable{ns:!Int}{rs:!R5}{os:!Nat}{s:NS}{g:Nat}
theorem wt:∀r∈Ff rs s l h cK os,r∈os/\gN rs (h:Int) r=df/\ac r≠cK:=λr c=>by
 delta Ff at c;let#[x,a,rfl]:=aG.mp c;let b:mY (cK.map λk:Nat=>(k:Int)) x=df:=by
  delta ZD at a;split at a
  ·erw[(aZ.mp a).2]
  ·split at a
   ·ext a
   ·split at a
    ·split at a
     ·erw[(aZ.mp a).2]
     ·erw[(aZ.mp a).2]
    ·erw[(aZ.mp a).2]
 let#[k,d,rfl]:=aG.mp (Hw.1 x a);rw[cQ];erw[(aZ.mp d).1,(aZ.mp d).2,λz=>?_];rw[<- z] at b;delta mY at b;rw[iQ,decide_eq_false_iff_not] at b;erw[b rfl]
theorem Ld.post{x:Nat}(h:Ld o s)(M:x<ge s.aE)(C:x<ge s.groups)(g:∀c∈s.cps,c.l<ge s.ls)(E:fm (gW ns rs o s.ws (s.groups.getD x 0)) (s.R (s.groups.getD x 0)) os):Ld o (rz rs s x to os):=by let q:s.groups[x]?=ac (s.groups.getD x 0):=(by rw[ak,aa C];rfl);delta rz;generalize n:s.aE.getD x 0=f;let#[D,H]:=DW (rs:=rs) (os:=os) (h:=f) (cK:=de) (s:=jN s x to) (i:=ge s.ls) (l:={gu s x to with aK:=[.post f]}) (by show (s.ls++[_])[ge s.ls]?=_;rw[n];erw[jR]);rw[H];let p:=wt (rs:=rs) (os:=os) (s:=jN s x to) (l:={gu s x to with aK:=[.post f]}) (h:=f) (cK:=de);generalize Ff rs (jN s x to) {gu s x to with aK:=[.post f]} f de os=gs at p;let m:∀b,(jN s x to).ls.set (ge s.ls) b=s.ls++[b]:=λb=>(by show (s.ls++[_]).set (ge s.ls) b=_;rw[qd _ _ (aA _),fB];rfl);rw[m];erw[λb y=>?_,λk A j O=>?_];obtain z|z:=aR.mp y;erw[h.sd b z];rw[aP.mp z];erw[q];let a:=h.ld k A j O;erw[λt K=>a.nt t K,λc I b d e J=>?_];let d:(s.ls++[_])[c.l]?=ac b:=d;obtain z|z:=aR.mp I;rw[aW (g c z)] at d;erw[a.cp c z b d e J];let#[r,G,rfl]:=aG.mp z;rw[jR] at d;ext d;let e:s.groups.getD x 0=k:=e;subst e;let w:=E.uniq O;subst w;let F:=Fo.of O;let#[u,B,_]:=p r G;let#[L,v,_]:=F.back u B;erw[u,L,q,4];show Rw rs os r (fX rs r (fX rs r f)) (s.aE.getD x 0);rw[v,n];erw[.refl]
theorem Ld.pass{a:Nat}{ts:!T3}(h:Ld o s)(W:∀c∈s.cps,c.l<ge s.ls)(J:s.cps[a]?=ac cp)(hl:s.ls[cp.l]?=ac l)(hg:l.grp<3)(M:fm (gW ns rs o s.ws l.grp) (s.R l.grp) os)(S:ts.Perm (hX (s.ts l.grp) cp.h l.s cp.r)):Ld o (jj rs s a cp l os ts):=by
 let L:=(ai.mp hl).1;let A:=aD J;let F:=Fo.of M;let m:∀(n:NS)(x:LS),x.s=l.s->x.grp=l.grp->x.old=l.old->n.ls=s.ls.set cp.l x->∀(i:Nat)d,n.ls[i]?=ac d->∃e,s.ls[i]?=ac e/\e.s=d.s/\e.grp=d.grp/\e.old=d.old:=λn x X e2 V K i d p=>(by rw[K,fR L] at p;by_cases z:i=cp.l;rw[eG z] at p;ext p;exists l,by rw[z];exact hl,X.symm,e2.symm,V.symm;rw[eH z] at p;erw[d,p,222]);let y:∀n:NS,n.groups=s.groups->(∀(i:Nat)d,n.ls[i]?=ac d->∃e,s.ls[i]?=ac e/\e.s=d.s/\e.grp=d.grp/\e.old=d.old)->n7 n:=λn eg st=>WW h.sd eg λd G=>(by let#[i,p]:=c7 G;let#[e,j,u,v,_]:=st i d p;erw[e,aD j,u.symm,v.symm]);delta jj;split;·let le:=Ay (s:=s) (a:=a) (cp:=cp) (l:=l) (os:=os) (ts:=ts);let Z:(cN s a cp l os ts).cps=s.cps.eraseIdx a:=(by delta cN;split <;> rfl);let K:(cN s a cp l os ts).ls=s.ls.set cp.l {l with aK:=l.aK++[iE l cp os]}:=(by delta cN;split <;> rfl);let#[had,ed]:=DW (rs:=rs) (os:=os) (h:=cp.h) (cK:=ac cp.r) (oQ (a:=a) (os:=os) (ts:=ts) hl);rw[ed];let N:=wt (rs:=rs) (os:=os) (s:=cN s a cp l os ts) (l:={l with aK:=l.aK++[iE l cp os]}) (h:=cp.h) (cK:=ac cp.r);generalize Ff rs (cN s a cp l os ts) {l with aK:=l.aK++[iE l cp os]} cp.h (ac cp.r) os=gs at N;let st:=m {cN s a cp l os ts with had:=had,cps:=(cN s a cp l os ts).cps++gs.map λr=>(#[cp.l,r,j7 (cN s a cp l os ts).ws r (mO {l with aK:=l.aK++[iE l cp os]}),fX rs r cp.h]:Cp),ls:=(cN s a cp l os ts).ls.set cp.l {l with done:=lU l.done cp.h,aK:=l.aK++[iE l cp os]++((nC (cN s a cp l os ts) {l with aK:=l.aK++[iE l cp os]} cp.h).map (kE.hand cp.h)++gs.map λr=>.send cp.h r (j7 (cN s a cp l os ts).ws r (mO {l with aK:=l.aK++[iE l cp os]})))}} {l with done:=lU l.done cp.h,aK:=l.aK++[iE l cp os]++((nC (cN s a cp l os ts) {l with aK:=l.aK++[iE l cp os]} cp.h).map (kE.hand cp.h)++gs.map λr=>.send cp.h r (j7 (cN s a cp l os ts).ws r (mO {l with aK:=l.aK++[iE l cp os]})))} rfl rfl rfl (by rw[K,z6]);erw[y _ le.2.2.2 st,λk H g O=>?_];let O:fm (gW ns rs o (cN s a cp l os ts).ws k) ((cN s a cp l os ts).R k) g:=O;rw[le.1,le.2.1] at O;let b:=h.ld k H g O;let B:∀c,s.groups[c]?=ac k->(cN s a cp l os ts).aE.getD c 0=s.aE.getD c 0:=λc _=>(by rw[le.2.2.1]);erw[λt f=>?_,λc w d I C E=>?_];let old:t∈s.ts k->∃h c r:Nat,t=((h:Int),(c:Int),(r:Int))/\Led rs g _ k h c r:=λz=>(by let#[G,c',U,e',q]:=b.nt t z;erw[G,c',U,e',q.of le.2.2.2 B]);let f:t∈(cN s a cp l os ts).ts k:=f;delta cN at f;split at f;erw[old f];rename_i no;let f:t∈gM s.ts l.grp ts k:=f;by_cases z:k=l.grp;subst z;rw[c9] at f;let f:=S.mem_iff.mp f;delta hX at f;obtain w'|w':=aR.mp f;erw[old (aZ.mp w').1];erw[cp.h,l.s,cp.r,aP.mp w',4];erw[(b.cp cp A l hl rfl no⁻¹).of le.2.2.2 B];rw[fL z] at f;erw[old f];let#[e,j,u,v,D]:=st c.l d I;let w:c∈(cN s a cp l os ts).cps++_:=w;rw[Z] at w;obtain z|z:=aR.mp w;let:=(b.cp c (uW z) e j (v.trans C) (D.trans E)).of le.2.2.2 B;rw[u] at this;erw[this];let#[r,hr,rfl]:=aG.mp z;let j:s.ls[cp.l]?=ac e:=j;rw[hl] at j;ext j;let ek:l.grp=k:=v.trans C;subst ek;let Y:=M.uniq O;subst Y;let q:=b.cp cp A l hl rfl (D.trans E);let#[Q,P,g3]:=N r hr;let#[b1,b2,_]:=F.back Q P;let T:cp.r≠r:=λz=>g3 (by rw[z]);let t1:=F.avoid q.1 q.2.1 P q.2.2.2;let t2:Rw rs os r cp.h (fX rs cp.r cp.h):=.step .refl q.1 T q.2.1;let q':Led rs os s l.grp (fX rs r cp.h) l.s r:=#[Q,b1,q.2.2.1,by rw[b2];erw[t2.trans t1]];let:=q'.of le.2.2.2 B;rw[u] at this;erw[this]
 let st:=m (jB s a cp l os) {l with aK:=l.aK++[iE l cp os]} rfl rfl rfl rfl;erw[y _ rfl st,λk H g O=>?_];erw[(h.ld k H g O).of (λt h=>h) rfl (λ_ _=>rfl) λc w d I C E=>?_];let#[e,j,u,v,D]:=st c.l d I;erw[uW w,e,j,u,v.trans C,D.trans E]
end
section
variable{ns:!Int}{rs:!R5}{s s':NS}{n:Nat}
noncomputable def UX(s:NS):!(!Nat):=s.ls.map λl=>l.done
theorem afu:UX (eF s i d)=UX s:=by delta eF;cases e:s.ls[i]? with|none=>rfl|some l=>show (s.ls.set i _).map (λl=>l.done)=_;rw[lE];erw[wN (by rw[ao,e];rfl)]
theorem ES:UX (Av s g)=UX s:=by show (s.ls.map (xM g)).map (λl=>l.done)=s.ls.map λl=>l.done;rw[bZ];erw[dm λl _=>?_];show (xM g l).done=l.done;delta xM;split <;> rfl
theorem DY{e:Int}:∀m,UX (ji s e m)=UX s
 |0=>rfl
 |m+1=>by
  let a:=DY (e:=e) m;rw[jd];split
  ·rw[ES];erw[a]
  ·erw[a]
theorem Sl:UX (m5 s i x)=UX s:=by let b:∀(cs:!Cp)(a:NS),UX (cs.foldl (qw i x) a)=UX a:=λcs=>(by induction cs with|nil=>erw[λ_=>rfl]|cons c cs d=>intro a;rw[jU,d];delta qw;split;erw[afu];rfl);erw[b (s.cps.take (ge s.cps)) s]
theorem Jo{e:Int}:∀m,(ji s e m).cps=s.cps
 |0=>rfl
 |m+1=>by
  let a:=Jo (e:=e) m;rw[jd];split <;> erw[a]
theorem Gm(e:UX s'=UX s):ge s'.ls=ge s.ls:=by let:=gZ ge e;delta UX at this;rw[af,af] at this;erw[this]
theorem YL:ge (nB s g x d).ls=ge s.ls:=by delta nB;split;rfl;erw[Gm ES]
theorem afv:ge (Aw s x y).ls=ge s.ls:=by delta Aw;split;rfl;erw[Gm ES]
theorem afw:ge (yH s i x w e).ls=ge s.ls:=by let a:=Gm (Sl (s:={s with ws:=s.ws.set i (w.filter λz=>decide (z≠x))}) (i:=i) (x:=x));delta yH;split;erw[(Gm (DY 3)).trans a];erw[a]
theorem Rs:ge (Hs s i w w2 e).ls=ge s.ls:=by delta Hs;split;erw[Gm (DY (s:={s with ws:=s.ws.set i w2}) 3)];rfl
theorem ade{os:!Nat}:ge (rz rs s x to os).ls=ge s.ls+1:=by delta rz;let#[a,b]:=DW (rs:=rs) (os:=os) (h:=s.aE.getD x 0) (cK:=de) (s:=jN s x to) (i:=ge s.ls) (l:={gu s x to with aK:=[.post (s.aE.getD x 0)]}) jR;rw[b];show ge ((s.ls++[_]).set _ _)=_;rw[bu,az];rfl
theorem Na{cp:Cp}{os:!Nat}(hl:s.ls[cp.l]?=ac l):ge (jj rs s a cp l os ts).ls=ge s.ls:=by
 delta jj;split;·let#[b,c]:=DW (rs:=rs) (os:=os) (h:=cp.h) (cK:=ac cp.r) (oQ (a:=a) (os:=os) (ts:=ts) hl);rw[c];show ge ((cN s a cp l os ts).ls.set _ _)=_;rw[bu];delta cN;split <;> erw[bu]
 erw[bu]
end
section
variable{P:ft}{w:World}{K:ah}{mg:Str->Option dy}{base:Heap}
noncomputable def UY(x:!Int):PyData:=.tuple (x.map .int)
theorem Nb{H:Hp}:∀{qs:!du}{xs:!(!Int)},fE K H qs (xs.map λx=>x.map fw)->eU K H (xs.map UY) (qs.map fx)
 |[],[],_=>rfl
 |[],_::_,h=>by cases h.len
 |_::_,[],h=>by cases h.len
 |q::qs,x::xs,h=>#[.ref q,qs.map fx,2,Rep.Pq (ns:=x) (h.at' 0 q _ rfl rfl),Nb #[Nat.succ.inj h.len,λi p y a b=>h.at' (i+1) p y a b]]
theorem Nc:∀xs:!(!Int),eQ (xs.map UY)=df
 |[]=>rfl
 |x::xs=>by
  show (eQ (x.map .int)&&eQ (xs.map UY))=df;rw[Nc xs,iJ];rfl
theorem Jp:∀xs:!(!Int),eJ (xs.map UY)<=1
 |[]=>!_
 |x::xs=>by
  show max (eJ (x.map .int)+1) (eJ (xs.map UY))<=1
  let:=Jp xs
  let:=pY x
  lia
theorem KR:(PyData.list ds).eqv (.list [])=ds.isEmpty:=by ext ds <;> rfl
theorem ten_{p:Nat->Bool}(h:(List.range 10).all (λd=>p (48+d))=true){c:Nat}(k:48<=c/\c<=57):p c=true:=by let q:p (48+(c-48))=true:=List.all_eq_true.mp h (c-48) (by simp;lia);rw[Nat.add_sub_cancel' k.1] at q;exact q
theorem Re{c:Nat}(h:48<=c/\c<=57):((Builtin.Str.occurrences ("0123456789" : Str) #[[c].toArray] 0 ("0123456789" : Str).length 1).isEmpty.not)=df:=by rw[StrLaws.found_one];exact ten_ (p:=λc=>decide (c∈("0123456789":Str).cps.toList)) (by decide +kernel) h
inductive HA(vs:!V)(H:Hp)(Q:VK)(E:XK):Prop
 |mk(n:Int):vs=[.str (TX.num n)]->TX.Wr n->(∀H',aH H H'->Q (.int n) H')->HA vs H Q E
theorem xN(T:Txt K mg w t):oG P w mg base T.oK 1 HA:=by erw[T.oK.F.iV Dj λH Q E L h=>?_];·let#[n,rfl,a,k]:=h;erw[_,(au (cV (ki (lH rE rE aF (cB QL T.gE PySem.boot_len (dj (pv 0))) (je rfl T.My (v:=.int 60) #[1]))) dO bR) (au (cV (ki (mT (cB (S3 rfl) T.agu boot_all (dj (dP (kO Dj ["sign"] [de]) rfl (ah6 (pv 0)) (~~~(gS 0 GQ)) (~~~fj) (~~~(D4 Y8 (pv 0) (je rfl T.aaa (v:=.str "0123456789") #[1]) (by with_unfolding_all rfl)))))))) dO bR) (au (cV (PW.pt (wu (qT i0 (SR ahC (pv 0) aF (λ_ _=>rfl)) bH) (qk (qT oq (pv 0) bH)))) dO bR) (oR (cJ Ie (by rfl) T.G2 boot_int (dj (pv 0))))))),4];left;let u:=TX.gP a;let d:(TX.num n).length<=eD:=aJ u.2 (!_);erw[38,d,684];rw[fy (show (1:Int)<=((TX.num n).length:Int) by lia)];erw[fZ #[684]];rw[fy (show ((TX.num n).length:Int)<=60 by lia)];erw[fP ?_];erw[38,TX.PM a.1,λl b=>?_];let G:(TX.num n).cps.size=(TX.num n).length:=rfl;erw[CZ (n:=(TX.num n).cps.size) (λi=>.str #[[(TX.num n).cps.getD i 0].toArray]) (λ_=>ac (.bl df)) b ah7 abW (λi g x J o f s=>?_) ∅ (λi g R S o f y I=>?_) (λg f q=>?_)];let#[rfl,c,B,rfl]:=s;exists 24;rw[Array.getD_eq_getD_getElem?,B];rfl;exists 1624;let D:(TX.num n).cps.getD i 0∈TX.cs (TX.num n):=(by rw[Array.getD_eq_getD_getElem?,Array.getElem?_eq_getElem o];erw[Array.getElem_mem_toList o]);rw[Re (TX.x9 a.1 _ D)];erw[y _ _ (aH.refl _) rfl];let e:(av (TX.num n).cps.size).filterMap (λ_=>ac (fI df))=(bN (TX.num n).cps.size df).map fI:=(by rw[List.filterMap_eq_map',List.map_replicate];erw[(List.map_const' ..).trans (by rw[aX])]);rw[e] at q;erw[l,1,bJ.of q,14];rw[show (bN (TX.num n).cps.size df).all id=df by simp];erw[fP ?_];let p:0<ge (TX.num n).cps.toList:=(by rw[eK];lia);let m:xW (TX.num n).cps.toList 0=ac (TX.num n).cps.toList[0]:=cH (j:=0) (aa p);erw[19,d,m,8,lZ (λe=>?_) (λe=>?_)];let r:(#[[(TX.num n).cps.toList[0]].toArray]:Str)=("0" : Str):=V.str.inj (g4 e);let A:(TX.num n).cps.toList[0]=48:=(by let:=gZ (λz:Str=>z.cps.getD 0 0) r;erw[this]);let C:n=0:=TX.abS a.1 (by rw[aa p,A]);subst C;erw[18,lK (↑_) ?_];erw[16,TX.num_reads a,5,k g f];erw[16,TX.num_reads a,5,k g f]
inductive zZ(K:ah)(vs:!V)(H:Hp)(Q:VK)(E:XK):Prop
 |mk(l:du)(ns:!Int):vs=[.ref l,.int (ge ns)]->bJ K H l (gq (ns.map TX.num))->(∀n∈ns,TX.Wr n)->ge ns<=100->(∀l' H',aH H H'->H l'=de->H' l'=ac (.lst (ns.map fw))->Q (.ref l') H')->zZ K vs H Q E
theorem uU(T:Txt K mg w t):oG P w mg base T.ng 2 (zZ K):=by erw[T.ng.F.iV Cu λH Q E q h=>?_];·let#[l,ns,rfl,d,p,s,k]:=h;erw[_,(au (cV (qT oq (lS T.gE (pv 0)) (pv 1)) dO bR) (oR (dP (kO Cu ["word"] [de]) rfl (cY (pv 0)) (~~~(gS 0 FQ)) (~~~fj) (~~~(cG (xN T) q T.oK (dj (pv 0))))))),4];left;let b:ge (gq (ns.map TX.num))=ge ns:=-_;erw[1,l,1,.inl d,18,lK (by rw[b,fy rfl];rfl) ?_];erw[1,l,2,#[_,d],λe a=>?_];erw[Kz (λi=>ns[i]?.map fw) a d ∅ (λi x m R S c g r u=>?_) (λm g j=>?_)];let f:i<ge ns:=(by let:=(ai.mp c).1;lia);let o:x=.str (TX.num ns[i]):=(by simp only[ao,aa f,vY,Option.some.injEq] at c;erw[c.symm]);subst o;erw[1,ns[i],2,p _ (aB f),λv n=>r _ _ n (by rw[aa f];rfl)];rw[b,AZ] at j;erw[k e m g a j]
inductive JX(K:ah)(vs:!V)(H:Hp)(Q:VK)(E:XK):Prop
 |mk(l:du)(ns:!Int):vs=[.ref l]->H l=ac (.lst (gq (TX.wordsOf "names" ns)))->(∀n∈ns,TX.Wr n)->1<=ge ns->ge ns<=100->(∀l' H',aH H H'->H l'=de->H' l'=ac (.lst (ns.map fw))->Q (.ref l') H')->JX K vs H Q E
theorem OU(T:Txt K mg w t):oG P w mg base T.BC 2 (JX K):=by erw[T.BC.F.iV E7 λH Q E B h=>?_];·let#[l,ns,rfl,g,z,v,C,k]:=h;erw[_,(au (cV (PW.pt (Pa (qT oq (xL (pv 0) aF) bH) (HJ (qT xV (lS T.gE (pv 0)) aF)))) dO bR) (oR (dP (kO E7 ["word"] [de]) rfl (cY (jw vd (pv 0) (jP aF) oU)) (~~~(gS 0 IE)) (~~~fj) (~~~(cG (xN T) B T.oK (dj (pv 0))))))),4];left;let e:ge (gq (TX.wordsOf "names" ns))=ge ns+1:=(by simp[TX.wordsOf]);erw[1,l,9,bJ.of g,Ec,8,lK (by rw[fy rfl];rfl) ?_];erw[1,l,1,.inl (bJ.of g),68,lK (by rw[e];erw[gh ∅]) ?_];erw[38,l,1,bJ.of g,λq n=>?_];rw[ya];let j:=aH.new (o:=.lst (gq (ns.map TX.num))) n;let d:=ay (H:=H) (a:=q) (o:=.lst (gq (ns.map TX.num)));generalize upd H q (.lst (gq (ns.map TX.num)))=H2 at j d;let c:ge (gq (ns.map TX.num))=ge ns:=-_;erw[q,2,#[_,bJ.of d],λm b=>?_];erw[Kz (λi=>ns[i]?.map fw) b (bJ.of d) ∅ (λi x s R S f r v d=>?_) (λs r u=>?_)];let p:i<ge ns:=(by let:=(ai.mp f).1;lia);let y:x=.str (TX.num ns[i]):=(by simp only[ao,aa p,vY,Option.some.injEq] at f;erw[f.symm]);subst y;erw[1,ns[i],2,z _ (aB p),λD A=>v _ _ A (by rw[aa p];rfl)];rw[c,AZ] at u;erw[k m s (j.trans r) (j.free b) u]
structure z5(nm:!Int)(rs cl:!(!Int)):Prop where
 h1:∀n∈nm,TX.Wr n
 h2:∀r∈rs,∀n∈r,TX.Wr n
 h3:∀r∈cl,∀n∈r,TX.Wr n
 a1:1<=ge nm
 l1:ge nm<=12
 l2:∀r∈rs,ge r=5
 l3:∀r∈cl,ge r=2
 m2:ge rs<=30
 m3:ge cl<=30
theorem z5.sum(g:z5 nm rs cl):((TX.partsOf nm rs cl).map (·.length)).sum+ge (TX.partsOf nm rs cl)*TX.ZF.length<=100000 :=TX.ZG g.h1 g.h2 g.h3 g.l1 (λr a=>by rw[g.l2 r a];decide) (λr a=>by rw[g.l3 r a];decide) g.m2 g.m3
theorem z5.text(g:z5 nm rs cl):(TX.qt nm rs cl).length<=100000:=by delta TX.qt;rw[TX.join_eq];erw[aJ (StrLaws.join_length_le _ _) g.sum]
theorem z5.part(g:z5 nm rs cl){p:Str}(d:p∈TX.partsOf nm rs cl):p.length<=100000:=by let b:∀{l:!Nat}{x:Nat},x∈l->x<=l.sum:=λ{l x}h=>(by induction l with|nil=>ext h|cons a l c=>(rw[lB];obtain rfl|h:=aT.mp h;lia;let:=c h;lia));let:=b (aG.mpr #[p,d,2]:p.length∈(TX.partsOf nm rs cl).map (·.length));let:=g.sum;lia
inductive Nd(K:ah)(vs:!V)(H:Hp)(Q:VK)(E:XK):Prop
 |mk(nm:!Int)(rs cl:!(!Int)):vs=[.str (TX.qt nm rs cl)]->z5 nm rs cl->(∀p l0 l1 l2 H',aH H H'->H l0=de->H l1=de->H l2=de->l0≠l1->l0≠l2->l1≠l2->H' p=ac (.tup [.ref l0,.ref l1,.ref l2])->H' l0=ac (.lst (nm.map fw))->TL K H' l1 rs->TL K H' l2 cl->Q (.ref p) H')->Nd K vs H Q E
theorem Sm(T:Txt K mg w t):oG P w mg base T.DA 3 (Nd K):=by erw[T.DA.F.iV kH λH Q E hr h=>?_];·let#[nm,rs,cl,rfl,G,k]:=h;erw[_,(au (kC (i:=1) kH.nd rfl (Or.inl rfl) (kO kH ["part"] [de]) rfl (cY (jM cW gv pH GK (pv 0) (dj bH))) (~~~(gS 0 J5)) (~~~fj) (~~~(V7 K rfl cW gv pH GK (pv 0) (dj bH)))) (au (sS 2 kH (cG (OU T) hr T.BC (dj (xL (pv 1) aF)))) (au (sS 3 kH (eB gx)) (au (sS 4 kH (eB gx)) (au (fS (cY (jw vd (pv 1) (jP aF) oU)) (gT 5 kH) (b6 (cV (PW.pt (wu (qT i0 (xL (pv 5) aF) bH) (qk (qT yM (pv 4) (eB gx))))) (oE (jM bK bT bS fY (pv 3) (dj (cJ E2 (by rfl) T.XT boot_tuple (dj (cG (uU T) hr T.ng (oW (jw vd (pv 5) (jP aF) oU) (je rfl T.Mz (v:=.int 5) #[1])))))))) (b6 (cV (qT i0 (xL (pv 5) aF) bH) (oE (jM bK bT bS fY (pv 4) (dj (cJ E2 (by rfl) T.XT boot_tuple (dj (cG (uU T) hr T.ng (oW (jw vd (pv 5) (jP aF) oU) (je rfl T.IT (v:=.int 2) #[1])))))))) dO))))) (oR (i6 (Lv (pv 2) (pv 3) (pv 4))))))))),4];left;erw[1262,(↑_),G.text,λlp bj=>?_];rw[show Txt.split (TX.qt nm rs cl) _=TX.partsOf nm rs cl from TX.V6 G.h1 G.h2 G.h3];let u1:=aH.new (o:=.lst (gq (TX.partsOf nm rs cl))) bj;let L:=ay (H:=H) (a:=lp) (o:=.lst (gq (TX.partsOf nm rs cl)));generalize upd H lp (.lst (gq (TX.partsOf nm rs cl)))=H1 at u1 L;erw[lp,2,#[_,bJ.of L],λs Y=>?_];let aW:ge (TX.Aj nm rs cl)=ge (TX.partsOf nm rs cl):=(by rw[<- TX.JF G.h1 G.h2 G.h3,af]);let bt:ge (TX.partsOf nm rs cl)<=61:=(by rw[<- aW,TX.QZ];let:=G.m2;let:=G.m3;lia);erw[fK (n:=ge (gq (TX.partsOf nm rs cl))) (λi ys H3=>∃c:!du,ys=c.map fx/\Sn H3 c ((TX.Aj nm rs cl).take i)/\∀p∈c,p≠s) Y (jC (bJ.of L)) (fQ (bJ.of L)) #[[],2,#[2,λi p ws e=>by ext e],λp hp=>by ext hp] ?_ ?_];intro i ys H3 hi s3 hy ⟨c,rfl,g,av⟩ x H4 ⟨rfl,hx⟩;let hx:=hx _ (s3.seq (bJ.of L));let ag:i<ge (TX.partsOf nm rs cl):=(by rw[af] at hi;erw[hi]);let ex:x=.str (TX.partsOf nm rs cl)[i]:=(by simp only[ao,aa ag,vY,Option.some.injEq] at hx;erw[hx.symm]);subst ex;let hw:(TX.Aj nm rs cl)[i]?=ac (Txt.split (TX.partsOf nm rs cl)[i] TX.oz):=(by rw[<- TX.JF G.h1 G.h2 G.h3,ao,aa ag];rfl);erw[1262,(↑_),G.part (aB ag),λp hp=>?_];let u4:=aH.new (o:=.lst ((Txt.split (TX.partsOf nm rs cl)[i] TX.oz).map fA)) hp;let Vo:=u4 _ _ hy;let aV:p≠s:=(aS hy hp).symm;let br:ge c=i:=(by rw[g.len,bU];lia);erw[dS Y hi (s3.trans u4) Vo (by rw[af];erw[bP ∅]) #[c++[p],-_,44]];rw[fV,hw];let hs:=(g.mono u4).snoc (p:=p) (ws:=Txt.split (TX.partsOf nm rs cl)[i] TX.oz) ay;erw[hs.len,λj q ws a b=>?_];let nq:q≠s:=(by obtain z|z:=aR.mp (aD a);erw[av q z];rw[aP.mp z];erw[aV]);rw[aY nq];erw[hs.at' j q ws a b];intro q hq;obtain z|z:=aR.mp hq;erw[av q z];rw[aP.mp z];erw[aV];intro ys H3 s3 hy ⟨c,rfl,g,av⟩;rw[show ge (gq (TX.partsOf nm rs cl))=ge (TX.Aj nm rs cl) by rw[aW,af],gH] at g;let aE:=u1.trans s3;let aK:0<ge c:=(by rw[g.len,TX.QZ];lia);let bo:xW (c.map fx) 0=ac (.ref c[0]):=cH (j:=0) (by rw[ao,aa aK];rfl);let bk:H3 c[0]=ac (.lst (gq (TX.wordsOf "names" nm))):=g.at' 0 _ _ (aa aK) rfl;erw[1,s,9,bJ.of hy,bo,c[0],nm,2,bk,G.h1,G.a1,aJ G.l1 (!_),λl0 H4 s4 ba a8=>?_];let aG:=aE.trans s4;let Vo:=s4 _ _ hy;let bp:=g.mono s4;let bm:=aE.free ba;erw[bL _,λl1 aq=>?_];let u5:=aH.new (o:=.lst []) aq;let ab:=ay (H:=H4) (a:=l1) (o:=.lst []);let a6:l0≠l1:=aS a8 aq;let a7:=aG.free aq;let ap:=u5 _ _ a8;let Yl:=u5 _ _ Vo;let W:=bp.mono u5;let aj:=aG.trans u5;generalize upd H4 l1 (.lst [])=H5 at u5 ab ap Yl W aj;erw[bL _,λl2 B=>?_];let u6:=aH.new (o:=.lst []) B;let as:=ay (H:=H5) (a:=l2) (o:=.lst []);let ax:l0≠l2:=aS ap B;let am:l1≠l2:=aS ab B;let a3:=aj.free B;let X:=u6 _ _ ab;let a2:=u6 _ _ ap;let aC:=u6 _ _ Yl;let aT:∀i p,c[i]?=ac p->p≠l2:=λi p e=>(by let az:=(ai.mp e).1;rw[W.len] at az;erw[aS (W.at' i p _ e (aa az)) B]);let aw:=W.mono u6;let aA:=aj.trans u6;generalize upd H5 l2 (.lst [])=H6 at u6 as X a2 aC aw aA;let a4:∀i p ws,c[i]?=ac p->(TX.Aj nm rs cl)[i]?=ac ws->ws≠[]->p≠l1:=λi p ws e e2 hw z=>(by let q:=aw.at' i p ws e e2;rw[z,X] at q;let q:([]:!V)=gq ws:=HO.lst.inj (aI q);cases ws with|nil=>erw[hw rfl]|cons a b=>ext q);erw[38,s,1,bJ.of aC,λl7 WQ=>?_];let bd:Ac (c.map fx) (ac 1) de=(c.drop 1).map fx:=(by let:=Lh (c.map fx) 1;rw[show ((1:Nat):Int)=1 from rfl] at this;rw[this,List.map_drop]);rw[bd];let u7:=aH.new (o:=.lst ((c.drop 1).map fx)) WQ;let an:=ay (H:=H6) (a:=l7) (o:=.lst ((c.drop 1).map fx));let bl:l7≠l1:=(aS X WQ).symm;let bg:l7≠l2:=(aS as WQ).symm;let S:=aw.mono u7;let a9:=aA.trans u7;let aZ:=u7 _ _ a2;let aU:=u7 _ _ X;let aL:=u7 _ _ as;generalize upd H6 l7 (.lst ((c.drop 1).map fx))=H7 at u7 an S a9 aZ aU aL;let bs:ge c=1+ge rs+ge cl:=(by rw[S.len,TX.QZ]);let ar:ge ((c.drop 1).map fx)=ge rs+ge cl:=(by rw[af,um];lia);erw[l7,2,#[_,bJ.of an],wz (K:=K) (a:=l7) (xs:=(c.drop 1).map fx) (λi σ D=>(∀b o,H7 b=ac o->b≠l1->b≠l2->D b=ac o)/\TL K D l1 (rs.take i)/\TL K D l2 (cl.take (i-(ge rs)))/\∃v5:Option V,σ=[ac (.str (TX.qt nm rs cl)),ac (.ref s),ac (.ref l0),ac (.ref l1),ac (.ref l2),v5]) #[λb o e _ _=>e,#[[],aU,kD.nil],#[[],aL,by rw[Nat.zero_sub,List.take_zero];erw[kD.nil]],1] (λi σ D _ z=>bJ.of (z.1 _ _ an bl bg)) ?_ ?_];intro i y σ D hi ⟨kp,d,M,v5,rfl⟩;let bn:=(ai.mp hi).1;rw[ar] at bn;let a0:i+1<ge c:=∅;let ey:y=.ref c[i+1]:=(by rw[ao,List.getElem?_drop,Nat.add_comm 1 i,aa a0] at hi;erw[(aI hi).symm]);subst ey;generalize hq:c[i+1]=pw;let m:c[i+1]?=ac pw:=(by rw[aa a0,hq]);by_cases ad:i<ge rs;let ew:=TX.abT (nm:=nm) (cl:=cl) ad;let r:=kp _ _ (S.at' _ _ _ m ew) (a4 _ _ _ m ew (by simp[TX.wordsOf])) (aT _ _ m);erw[1,pw,9,bJ.of r,Ec,8,E5 (fy rfl) ?_];let#[aO,J,N]:=M;let e2:aO=[]:=(by let:=N.len;rw[show i-(ge rs)=0 by lia,List.take_zero] at this;erw[List.length_eq_zero_iff.mp this]);subst e2;erw[1,bL _,λl9 be=>?_];let R:=aH.new (o:=.lst []) be;let aN:=ay (H:=D) (a:=l9) (o:=.lst []);generalize upd D l9 (.lst [])=H9 at R aN;let rp:∀{l:du},H9 l=ac (.lst [])->Rep K H9 (.list []) (.ref l):=λ{l} e=>#[l,[],2,bJ.of e,2];erw[33,rp (R _ _ J),rp aN,22,bM (b5 (aJ (dX _ _) (show PyData.depth (.list [])<=64 by decide)) _) hr.units,1,E5 rfl ?_];let bb:=R _ _ r;let#[bq,aM,a5]:=d;let bc:=R _ _ aM;erw[1,.inl #[23,bJ.of bc],38,pw,1,bJ.of bb,λf ae=>?_];rw[ya];let I:=aH.new (o:=.lst (gq (rs[i].map TX.num))) ae;let C:=ay (H:=H9) (a:=f) (o:=.lst (gq (rs[i].map TX.num)));generalize upd H9 f (.lst (gq (rs[i].map TX.num)))=NH at I C;let HU:=aB ad;erw[f,rs[i],(by rw[G.l2 _ HU];rfl),bJ.of C,G.h2 _ HU,(by rw[G.l2 _ HU];decide),λal Kv Fq bf ak=>?_];erw[al,1,.inl #[bJ.of ak,λO ah=>?_]];let A:=aH.new (o:=.tup (rs[i].map fw)) ah;let u:=ay (H:=Kv) (a:=O) (o:=.tup (rs[i].map fw));generalize upd Kv O (.tup (rs[i].map fw))=H12 at A u;let U:=R.trans (I.trans (Fq.trans A));let aQ:=U _ _ aM;let bh:=a5.mono U;erw[l1,62,aQ,(by rw[af,a5.len,bU];erw[bP (by let:=G.m2;lia)]),4];exists λb o e n1 n2=>by rw[aY n1];exact U _ _ (kp b o e n1 n2),441;rw[fV,aa ad];erw[TL.push aQ bh (dH.of u)];rw[show i+1-(ge rs)=0 by lia,List.take_zero];exists [],by rw[aY am.symm];exact U _ _ J,kD.nil;obtain⟨j,rfl⟩:∃j,i=ge rs+j:=#[i-(ge rs),5];let hj:j<ge cl:=∅;let ew:=TX.abU (nm:=nm) (rs:=rs) hj;let r:=kp _ _ (S.at' _ _ _ m ew) (a4 _ _ _ m ew (by simp[TX.wordsOf])) (aT _ _ m);erw[1,pw,9,bJ.of r,Ec,8,lK (gh (↑_)) ?_];erw[1,pw,9,bJ.of r,Ec,8,E5 (fy rfl) ?_];let#[aO,J,N]:=M;erw[1,.inl #[23,bJ.of J],38,pw,1,bJ.of r,λf ae=>?_];rw[ya];let I:=aH.new (o:=.lst (gq (cl[j].map TX.num))) ae;let C:=ay (H:=D) (a:=f) (o:=.lst (gq (cl[j].map TX.num)));generalize upd D f (.lst (gq (cl[j].map TX.num)))=NH at I C;let HU:=aB hj;erw[f,cl[j],(by rw[G.l3 _ HU];rfl),bJ.of C,G.h3 _ HU,(by rw[G.l3 _ HU];decide),λal Kv Fq bf ak=>?_];erw[al,1,.inl #[bJ.of ak,λO ah=>?_]];let A:=aH.new (o:=.tup (cl[j].map fw)) ah;let u:=ay (H:=Kv) (a:=O) (o:=.tup (cl[j].map fw));generalize upd Kv O (.tup (cl[j].map fw))=H12 at A u;let U:=I.trans (Fq.trans A);let Z:=U _ _ J;let aX:=N.mono U;rw[show ge rs+j-(ge rs)=j by lia] at N aX;erw[l2,62,Z,(by rw[af,N.len,bU];erw[bP (by let:=G.m3;lia)]),4];exists λb o e n1 n2=>by rw[aY n2];exact U _ _ (kp b o e n1 n2),441;let d:TL K D l1 rs:=(by let e:rs.take (ge rs+j)=rs:=cX ∅;rw[e] at d;erw[d]);rw[cX (show ge rs<=ge rs+j+1 by lia)];erw[(d.mono U).past Z jm am cj];rw[show ge rs+j+1-(ge rs)=j+1 by lia,fV,aa hj];erw[TL.push Z aX (dH.of u)];intro σ D ⟨kp,d,M,v5,rfl⟩;rw[ar,cX ∅] at d;rw[ar,show ge rs+ge cl-(ge rs)=ge cl by lia,gH] at M;erw[138,vD,λp9 bi=>?_];let R:=aH.new (o:=.tup [fx l0,.ref l1,.ref l2]) bi;erw[k p9 l0 l1 l2 _ (λb o e=>?_) bm a7 a3 a6 ax am ay (R _ _ (kp _ _ aZ a6 ax)) (d.mono R) (M.mono R)];erw[R _ _ (kp _ _ (a9 _ _ e) (aS e a7) (aS e a3))]
end
section
inductive ug where
 |round (g:Nat)|rest (g:Nat)|row (h g:Nat)|NP (g:Nat)|call (h g:Nat)|Az (i x:Nat)|lay (i x:Nat)|move (c h:Nat)|post (c:Nat) (to:Option Nat)|pass (k:Nat)|run|flying|had (c:Nat)
noncomputable abbrev HB(n:Nat):Str:=TX.num (n:Int)
noncomputable def ug.hd:ug->Str
 |.round _=>"round"|.rest _=>"rest"|.row _ _=>"row"|.NP _=>"open"|.call _ _=>"call"|.Az _ _=>"fall"|.lay _ _=>"lay"|.move _ _=>"move"|.post _ _=>"post"|.pass _=>"pass"|.run=>"run"|.flying=>"flying"|.had _=>"had"
noncomputable def ug.kF:ug->!Int
 |.round g=>[g]|.rest g=>[g]|.row h g=>[h,g]|.NP g=>[g]|.call h g=>[h,g]|.Az i x=>[i,x]|.lay i x=>[i,x]|.move c h=>[c,h]|.post c to=>(c:Int)::(to.map λy:Nat=>(y:Int)).toList|.pass k=>[k]|.run=>[]|.flying=>[]|.had c=>[c]
noncomputable def ug.isAll:ug->Bool
 |.post _ de=>df
 |_=>dr
noncomputable def ug.words(c:ug):!Str:=c.hd::(c.kF.map TX.num++(if c.isAll then ["all"] else []:!Str))
noncomputable def ug.text(c:ug):Str:=Txt.join TX.oz c.words
noncomputable def ia:V->Str
 |.int i=>TX.num i
 |.str z=>z
 |_=>"-"
noncomputable def Gn(vs:!V):Str:=if vs.isEmpty then "-" else Txt.join TX.oz (vs.map ia)
variable{ns:!Int}{rs:!R5}(o:cS ns rs)
inductive j5(g:Nat):Nat->NS->Nat->NS->Prop
 |zero (s:NS):j5 g 0 s 0 s
 |succ {n k:Nat} {s s1:NS} {d:RM.Row}:j5 g n s k s1->RM.nY (N:=gW ns rs o s1.ws g) (ge ns) (s1.R g) n d->AR (ge ns) (ge rs) d->j5 g (n+1) s (k+if d=s1.R g n then 0 else 1) (nB s1 g n d)
inductive Ps(k:Nat)(s:NS)(x:Str)(s':NS):Prop
 |mk(cp:Cp)(l:LS)(os:!Nat)(ts:!T3):s.cps[k]?=ac cp->s.ls[cp.l]?=ac l->fm (gW ns rs o s.ws l.grp) (s.R l.grp) os->ge os<=12->ts.Perm (hX (s.ts l.grp) cp.h l.s cp.r)->gB ts->s'=jj rs s k cp l os ts->x=CA l cp os->Ps k s x s'
inductive Rn:NS->Nat->NS->Prop
 |zero (s:NS):Rn s 0 s
 |succ {k:Nat} {s s1 s2:NS} {x:Str}:Rn s k s1->Ps o 0 s1 x s2->Rn s (k+1) s2
def WX(s:NS):ug->Str->NS->Prop
 |.round g,x,s'=>∃k,j5 o g (ge ns) s k s'/\x=HB k
 |.rest g,x,s'=>s'=s/\∃y:Bool,(y=df↔RM.Rest (gW ns rs o s.ws g) (s.R g))/\x=if y then "yes" else "no"
 |.row h g,x,s'=>s'=s/\x=Gn (cz (s.R g h))
 |.NP g,x,s'=>s'=s/\∃os,fm (gW ns rs o s.ws g) (s.R g) os/\x=Gn (bA os)
 |.call h g,x,s'=>∃d,RM.nY (N:=gW ns rs o s.ws g) (ge ns) (s.R g) h d/\AR (ge ns) (ge rs) d/\s'=nB s g h d/\x=if d=s.R g h then "same" else "new"
 |.Az i y,x,s'=>∃w r,s.ws[i]?=ac w/\rs[i]?=ac r/\s'=yH s i y w r.e/\x=if (w.filter λz=>decide (z≠y)).isEmpty then "ends" else "same"
 |.lay i y,x,s'=>∃w r w2,s.ws[i]?=ac w/\rs[i]?=ac r/\w2.Perm (w++[y])/\w2.Pairwise (·<=·)/\s'=Hs s i w w2 r.e/\x=if w.isEmpty then "begins" else "same"
 |.move c h,x,s'=>s'=Aw s c h/\x = "ok"
 |.post c to,x,s'=>∃os,fm (gW ns rs o s.ws (s.groups.getD c 0)) (s.R (s.groups.getD c 0)) os/\ge os<=12/\s'=rz rs s c to os/\x=HB (ge s.ls)
 |.pass k,x,s'=>Ps o k s x s'
 |.run,x,s'=>∃k,Rn o s k s'/\s'.cps=[]/\x=HB k
 |.flying,x,s'=>s'=s/\x=HB (ge s.cps)
 |.had c,x,s'=>s'=s/\x=Gn (bA (s.had.getD c []))
def Fits(ns:!Int)(rs:!R5)(s:NS):ug->Prop
 |.round g=>g<3
 |.rest g=>g<3
 |.row h g=>h<ge ns/\g<3
 |.NP g=>g<3
 |.call h g=>h<ge ns/\g<3
 |.Az i y=>∃w r,s.ws[i]?=ac w/\rs[i]?=ac r/\y∈w
 |.lay i y=>∃w r,s.ws[i]?=ac w/\rs[i]?=ac r/\(y:Int)<r.d/\y∉w
 |.move c h=>c<ge s.aE/\h<ge ns
 |.post c to=>c<ge s.aE/\∀y,to=ac y->y<ge s.aE/\s.groups[y]?=s.groups[c]?
 |.pass k=>k<ge s.cps
 |.run=>True
 |.flying=>True
 |.had c=>c<ge s.aE
end
section
variable{ns:!Int}{rs:!R5}{o:cS ns rs}{bs:!(!Bool)}{cl:!(Nat×Nat)}{D B n:Nat}{s s':NS}
theorem UZ(b:ge s'.cps<=ge s.cps)(a:UX s'=UX s):Ph n rs s'<=Ph n rs s:=by let e:∀s:NS,Ph n rs s=ge s.cps+((UX s).map (CB n rs)).sum:=λs=>(by delta Ph UX;rw[bZ];rfl);rw[e,e,a];lia
theorem afC:Ph n rs (nB s g x d)<=Ph n rs s:=by delta nB;split;erw[aA _];erw[UZ (aA _) ES]
theorem afD:Ph n rs (Aw s x y)<=Ph n rs s:=by delta Aw;split;erw[aA _];erw[UZ (aA _) ES]
theorem afE:Ph n rs (yH s i x w e)<=Ph n rs s:=by let a:Ph n rs (m5 {s with ws:=s.ws.set i (w.filter λz=>decide (z≠x))} i x)<=Ph n rs s:=UZ (bx _ _) (Sl (s:={s with ws:=s.ws.set i (w.filter λz=>decide (z≠x))}));delta yH;split;erw[aJ (UZ (by rw[Jo];erw[aA _]) (DY 3)) a];erw[a]
theorem QR:Ph n rs (Hs s i w w2 e)<=Ph n rs s:=by delta Hs;split;erw[UZ (by rw[Jo];erw[aA _]) (DY (s:={s with ws:=s.ws.set i w2}) 3)];erw[aA _]
structure TB(ns:!Int)(rs:!R5):Prop where
 n:∀x∈ns,x<10^50
 c:∀r∈rs,r.c<=10^41
def RB(ns:!Int)(s:NS):Prop:=∀g,g<3->∀h,h<ge ns->(s.R g h).hd<10^50/\(s.R g h).co<=(s.R g h).ho*10^41
theorem So{e:Int}:∀m,(ji s e m).R=s.R
 |0=>rfl
 |m+1=>by
  let a:=So (e:=e) m;rw[jd];split <;> erw[a]
theorem RB.of(h:RB ns s)(e:s'.R=s.R):RB ns s':=by delta RB;rw[e];erw[h]
theorem QQ{g x:Nat}(a:TB ns rs)(h:RB ns s)(i:g<3)(b:x<ge ns)(hd:RM.nY (N:=gW ns rs o s.ws g) (ge ns) (s.R g) x d):d.hd<10^50/\d.co<=d.ho*10^41:=by obtain rfl|⟨k,y,f,_,rfl⟩:=hd.one;erw[4,ur _];show ns.getD x 0<_;rw[ak,aa b];erw[a.n _ (aB b)];let#[j,l]:=h g i y f.lt.2.1;erw[j,4];let e:k<ge rs:=mZ k f.1;let m:=a.c _ (aB e);show (s.R g y).co+((rs[k]?).map λr=>r.c).getD 0<=((s.R g y).ho+1)*10^41;rw[aa e,Int.add_mul];show (s.R g y).co+rs[k].c<=_;lia
theorem RB.call{g x:Nat}(f:TB ns rs)(h:RB ns s)(b:g<3)(i:x<ge ns)(hd:RM.nY (N:=gW ns rs o s.ws g) (ge ns) (s.R g) x d):RB ns (nB s g x d):=by let e:=QQ f h b i hd;delta nB;split;erw[h];intro k c y a;show (gM s.R g (RM.upd (s.R g) x d) k y).hd<_/\(gM s.R g (RM.upd (s.R g) x d) k y).co<=(gM s.R g (RM.upd (s.R g) x d) k y).ho*_;delta gM;split;delta RM.upd;split;erw[e];erw[h g b y a];erw[h k c y a]
noncomputable def Vq(c:Nat):kE->Bool
 |.hand _ x=>decide (x=c)
 |_=>dr
def HC(s:NS):Prop:=∀(i:Nat)l,s.ls[i]?=ac l->∀c,c<ge s.had->(s.had.getD c []).count i=l.aK.countP (Vq c)
theorem HC.of(h:HC s)(j:s'.had=s.had)(g:∀(i:Nat)a,s'.ls[i]?=ac a->∃l,s.ls[i]?=ac l/\∀c,a.aK.countP (Vq c)=l.aK.countP (Vq c)):HC s':=λi a f c b=>by
 rw[j] at b ⊢;let#[l,e,d]:=g i a f;rw[d];erw[h i l e c b]
theorem HC.ai3(h:HC s)(f:∀c,Vq c d=dr):HC (eF s i d):=by erw[h.of Cn.2.2.2.2.2 λk b a=>?_];delta eF at a;cases e:s.ls[i]? with|none=>rw[e] at a;erw[b,a,λ_=>rfl]|some l=>rw[e] at a;let a:(s.ls.set i {l with aK:=l.aK++[d]})[k]?=ac b:=a;rw[fR (ai.mp e).1] at a;split at a;rename_i z;ext a;erw[l,z▸e,λc=>by rw[wm,z7,f c];rfl];erw[b,a,λ_=>rfl]
theorem HC.hand{i c:Nat}(a:HC s)(hl:s.ls[i]?=ac l)(m:c<ge s.had):HC (jA i h s c)/\ge (jA i h s c).had=ge s.had/\∃j,(jA i h s c).ls[i]?=ac j:=by
 let g:=(ai.mp hl).1;let e:jA i h s c={s with had:=s.had.set c (s.had.getD c []++[i]),ls:=s.ls.set i {l with aK:=l.aK++[.hand h c]}}:=(by delta jA eF;rw[show (uT s i c).ls[i]?=ac l from hl];rfl);rw[e];erw[λk j f b d=>?_,bu,_,by show (s.ls.set i _)[i]?=_;rw[fR g,eG rfl]];let f:(s.ls.set i _)[k]?=ac j:=f;let d:b<ge (s.had.set c _):=d;rw[bu] at d;rw[fR g] at f;show ((s.had.set c (s.had.getD c []++[i])).getD b []).count k=_;let n:(s.had.set c (s.had.getD c []++[i])).getD b []=if c=b then s.had.getD c []++[i] else s.had.getD b []:=by rw[ak,cP];by_cases y:c=b;rw[eG y,eG y,eG m];rfl;rw[eH y,eH y,ak]
 rw[n];by_cases z:k=i;rw[eG z] at f;ext f;rw[wm,z7,<- a i l hl b d,z];by_cases y:c=b;subst y;rw[eG rfl,List.count_append,show Vq c (.hand h c)=df from fy rfl];simp;rw[eH y,show Vq b (.hand h c)=dr from gh y];rfl;rw[eH z] at f;rw[<- a k j f b d];by_cases y:c=b;subst y;rw[eG rfl,List.count_append,List.count_singleton];simp[cC z];rw[eH y]
theorem HC.do_{i:Nat}{os:!Nat}(a:HC s)(hl:s.ls[i]?=ac l)(v:ge s.had=ge s.aE):HC (SA rs s i y l cK os):=by let n:∀(cs:!Nat)(s:NS),HC s->(∃l,s.ls[i]?=ac l)->(∀c∈cs,c<ge s.had)->HC (cs.foldl (jA i y) s):=λcs=>(by induction cs with|nil=>erw[λs a _ _=>a]|cons c cs o=>intro s a ⟨l,hl⟩ j;let#[u,p,w]:=a.hand (h:=y) hl (j c aM);erw[o _ u w λq t=>(by rw[p];erw[j q (aO _ t)])]);let e:∀(m:!Nat)(s:NS),HC s->HC (m.foldl (ue rs i y) s):=λm=>(by induction m with|nil=>erw[λs a=>a]|cons r m o=>erw[λs a=>o _ ((a.ai3 (i:=i) (d:=.send y r (j7 s.ws r (WS s i))) λ_=>rfl).of rfl λk g b=>#[g,b,λ_=>rfl])]);let f:=(ai.mp hl).1;delta SA;erw[e _ _ (n _ _ (a.of rfl λk g b=>?_) #[_,by show (s.ls.set i _)[i]?=_;rw[fR f,eG rfl]] λc j=>?_)];let b:(s.ls.set i _)[k]?=ac g:=b;rw[fR f] at b;split at b;rename_i z;ext b;erw[l,z▸hl,λ_=>rfl];erw[g,b,λ_=>rfl];show c<ge s.had;rw[v];erw[M6.1 c j]
structure IV(s:NS):Prop where
 hb:∀w∈s.had,∀i∈w,i<ge s.ls
 ct:HC s
theorem IV.of(h:IV s)(a:s'.had=s.had)(b:ge s'.ls=ge s.ls)(d:∀(i:Nat)l',s'.ls[i]?=ac l'->∃l,s.ls[i]?=ac l/\∀c,l'.aK.countP (Vq c)=l.aK.countP (Vq c)):IV s':=#[by rw[a,b];exact h.hb,h.ct.of a d]
theorem IV.news(h:IV s)(g:Nat):IV (Av s g):=h.of rfl (Gm ES) λi d b=>by
 let#[l,a,rfl]:=io b;exists l,a,λc=>by delta xM;split <;> rfl
theorem IV.ji(h:IV s)(e:Int):∀m,IV (ji s e m)
 |0=>h
 |m+1=>by
  rw[jd];split
  ·erw[(h.ji e m).news m]
  ·erw[h.ji e m]
theorem HC.lose(a:HC s):HC (m5 s i x):=by let b:∀m,m<=ge s.cps->HC (kg s i x m):=λm=>(by induction m with|zero=>erw[λ_=>a]|succ m c=>intro d;rw[wO ∅];delta qw;split;erw[(c ∅).ai3 λ_=>rfl];erw[c ∅]);erw[(b _ (aA _)).of rfl λi l h=>#[l,h,λ_=>rfl]]
theorem IV.lose(h:IV s):IV (m5 s i x):=#[by
 rw[show (m5 s i x).had=s.had from (DX (s:=s) (i:=i) (x:=x) (ge s.cps) (aA _)).2.2.2.2.2,Gm Sl];exact h.hb,h.ct.lose]
theorem U0{n i h:Nat}(d:i<n):∀(cs:!Nat)(s:NS),(∀w∈s.had,∀k∈w,k<n)->∀w∈(cs.foldl (jA i h) s).had,∀k∈w,k<n
 |[],s,z=>z
 |c::cs,s,z=>by
  rw[jU];erw[U0 d cs _ ?_];let e:(jA i h s c).had=s.had.set c (s.had.getD c []++[i]):=Cn.2.2.2.2.2;rw[e];intro w f k b;obtain y|rfl:=iW f
  ·erw[z w y k b]
  ·obtain y|y:=aR.mp b
   ·rw[ak] at y
    cases a:s.had[c]? with
    |none=>rw[a] at y;ext y
    |some w=>rw[a] at y;erw[z w (aD a) k y]
   ·rw[aP.mp y]
    erw[d]
theorem Qj{i h:Nat}:∀(gs:!Nat)(s:NS),(gs.foldl (ue rs i h) s).had=s.had
 |[],s=>rfl
 |r::gs,s=>by
  rw[jU,Qj gs];erw[Cn.2.2.2.2.2]
theorem IV.do_(h:IV s){i:Nat}{os:!Nat}(hl:s.ls[i]?=ac l)(c:ge s.had=ge s.aE):IV (SA rs s i y l cK os):=by let a:=(ai.mp hl).1;let#[had,b]:=DW (rs:=rs) (os:=os) (h:=y) (cK:=cK) hl;let d:ge (SA rs s i y l cK os).ls=ge s.ls:=(by rw[b];erw[bu]);exists by rw[d];delta SA;rw[Qj];exact U0 a _ _ h.hb,h.ct.do_ hl c
theorem IV.post(a:IV s){os:!Nat}(g:ge s.had=ge s.aE):IV (rz rs s x to os):=by erw[IV.do_ (s:=jN s x to) #[λw z i b=>?_,λi l b c e=>?_] jR g];rw[show ge (jN s x to).ls=ge s.ls+1 from az];erw[Nat.lt_succ_of_lt (a.hb w z i b)];let b:(s.ls++[_])[i]?=ac l:=b;by_cases z:i<ge s.ls;rw[aW z] at b;erw[a.ct i l b c e];let d:=(ai.mp b).1;rw[az] at d;let f:i=ge s.ls:=(by simp at d;lia);subst f;rw[jR] at b;ext b;show (s.had.getD c []).count (ge s.ls)=[kE.post (s.aE.getD x 0)].countP (Vq c);rw[z7,show Vq c (.post (s.aE.getD x 0))=dr from rfl,List.count_eq_zero.mpr λq=>?_];rfl;let e:c<ge s.had:=e;rw[ak,aa e] at q;erw[gG _ (a.hb _ (aB e) _ q)]
theorem IV.pass(h:IV s){cp:Cp}{os:!Nat}(g:ge s.had=ge s.aE)(hl:s.ls[cp.l]?=ac l):IV (jj rs s a cp l os ts):=by
 let d:IV (jB s a cp l os):=h.of rfl bu λk e b=>(by let b:(s.ls.set cp.l _)[k]?=ac e:=b;rw[fR (ai.mp hl).1] at b;split at b;(·rename_i z;ext b;erw[l,z▸hl,λc=>?_];rw[wm,z7,show Vq c (iE l cp os)=dr by delta iE;split <;> (try split) <;> rfl];rfl);erw[e,b,λ_=>rfl]);let f:IV (cN s a cp l os ts):=(by delta cN;split;erw[d];erw[d.of rfl rfl λi l h=>#[l,h,λ_=>rfl]]);delta jj;split;·erw[f.do_ (oQ hl) (by delta cN;split <;> erw[g])]
 erw[d]
def SK(ns:!Int)(rs:!R5)(bs:!(!Bool))(cl:!(Nat×Nat))(B:Nat)(s:NS):Prop:=∃D,SD ns rs bs cl D s/\D+100*Ph (ge ns) rs s<=B/\RB ns s/\IV s
theorem SK.call{g x:Nat}(b:TB ns rs)(h:SK ns rs bs cl B s)(f:g<3)(e:x<ge ns)(j:RM.nY (N:=gW ns rs o s.ws g) (ge ns) (s.R g) x d)(c:AR (ge ns) (ge rs) d):SK ns rs bs cl B (nB s g x d):=by let#[D,i,l,k,a]:=h;let:=afC (n:=ge ns) (rs:=rs) (s:=s) (g:=g) (x:=x) (d:=d);erw[D,i.call c,5,k.call b f e j,4];delta nB;split;erw[a];erw[IV.news (s:={s with R:=gM s.R g (RM.upd (s.R g) x d)}) #[a.hb,a.ct] g]
theorem SK.rnd{g m:Nat}(c:TB ns rs)(h:SK ns rs bs cl B s)(b:g<3)(f:m<=ge ns)(r:j5 o g m s k s'):SK ns rs bs cl B s':=by induction r with|zero=>erw[h]|succ _ e d a=>erw[(a h ∅).call c b ∅ e d]
theorem QP{cp:Cp}{os:!Nat}(hl:s.ls[cp.l]?=ac l):(jj rs s a cp l os ts).R=s.R:=by delta jj;split;let#[c,b,e,d]:=Ay (s:=s) (a:=a) (cp:=cp) (l:=l) (os:=os) (ts:=ts);erw[(Gk (rs:=rs) (h:=cp.h) (cK:=ac cp.r) (os:=os) (oQ (a:=a) (os:=os) (ts:=ts) hl)).2.1.trans b];rfl
theorem SK.ps(h:SK ns rs bs cl B s)(p:Ps o k s x s'):SK ns rs bs cl B s'/\Ph (ge ns) rs s'+1<=Ph (ge ns) rs s:=by let#[D,d,q,n,m]:=h;let#[e,l,os,ts,b,a,O,c,g,j,rfl,rfl]:=p;let i:=d.bd.cl e (aD b);let f:=afs (ts:=ts) (Fo.of O) b a i.2.2;erw[#[D+100,d.pass o a (ai.mp b).1 O c g j,5,n.of (QP a),m.pass d.bd.hl a],f]
theorem SK.rn(h:SK ns rs bs cl B s)(r:Rn o s k s'):SK ns rs bs cl B s':=by induction r with|zero=>erw[h]|succ _ p a=>erw[((a h).ps p).1]
theorem Qr:(yH s i x w e).R=s.R:=by let a:(m5 {s with ws:=s.ws.set i (w.filter λz=>decide (z≠x))} i x).R=s.R:=(DX (s:={s with ws:=s.ws.set i (w.filter λz=>decide (z≠x))}) (i:=i) (x:=x) (ge s.cps) (aA _)).2.1;delta yH;split;erw[(So 3).trans a];erw[a]
theorem Mo:(Hs s i w w2 e).R=s.R:=by delta Hs;split;erw[So (s:={s with ws:=s.ws.set i w2}) 3];rfl
noncomputable def oP(bs:!(!Bool)):ug->!(!Bool)
 |.Az i x=>bs.set i ((bs.getD i []).set x dr)
 |.lay i x=>bs.set i ((bs.getD i []).set x df)
 |_=>bs
noncomputable def Zl:ug->Nat
 |.post _ _=>1
 |_=>0
theorem SD.wire{i:Nat}(h:SD ns rs bs cl D s)(a:s.ws[i]?=ac w):∃b,bs[i]?=ac b/\w=gL b/\bs.getD i []=b:=by rw[h.ws,ao] at a;cases e:bs[i]? with|none=>rw[e] at a;ext a|some b=>rw[e] at a;ext a;exists b,22,by rw[ak,e];rfl
noncomputable def oD(cl:!(Nat×Nat)):ug->!(Nat×Nat)
 |.move c h=>cl.set c (h,(cl.getD c (0,0)).2)
 |_=>cl
theorem SK.ajv(H:TB ns rs)(h:SK ns rs bs cl B s)(S:ge rs<=8)(f:Fits ns rs s c)(d:WX o s c x s'):SK ns rs (oP bs c) (oD cl c) (B+1700*Zl c) s':=by let hm:=h;cases c with|round g=>let#[k,r,_]:=d;erw[hm.rnd H f (aA _) r]|rest g=>let#[rfl,_]:=d;erw[hm]|row h g=>let#[rfl,_]:=d;erw[hm]|NP g=>let#[rfl,_]:=d;erw[hm]|call h g=>let#[d,N,v,rfl,_]:=d;erw[hm.call H f.2 f.1 N v]|Az i z=>let#[w,r,t,E,rfl,_]:=d;let#[D,a,u,m,j]:=hm;let#[b,hb,rfl,C]:=a.wire t;let:=afE (n:=ge ns) (rs:=rs) (s:=s) (i:=i) (x:=z) (w:=gL b) (e:=r.e);erw[D,by show SD ns rs (bs.set i ((bs.getD i []).set z dr)) _ _ _;rw[C];exact a.Az o hb r.e,5,m.of Qr,by let q:IV (m5 {s with ws:=s.ws.set i ((gL b).filter λy=>decide (y≠z))} i z):=IV.lose (s:={s with ws:=s.ws.set i ((gL b).filter λy=>decide (y≠z))}) #[j.hb,j.ct];delta yH;split;erw[q.ji r.e 3];erw[q]]|lay i z=>let#[w,r,w2,t,E,M,L,rfl,_]:=d;let#[R,U,I,K,T,A]:=f;rw[t] at I;ext I;rw[E] at K;ext K;let#[D,a,u,m,j]:=hm;let#[b,hb,rfl,C]:=a.wire t;let hl:(ge b:Int)=r.d:=a.fit.2 i r b E hb;let G:b[z]?=ac dr:=(by let p:z<ge b:=∅;rw[iy,aa p] at A;rw[aa p];cases e:b[z] with|false=>rfl|true=>rw[e] at A;erw[ff rfl A]);let P:=Zw G M L;subst P;let:=QR (n:=ge ns) (rs:=rs) (s:=s) (i:=i) (w:=gL b) (w2:=gL (b.set z df)) (e:=r.e);erw[D,by show SD ns rs (bs.set i ((bs.getD i []).set z df)) _ _ _;rw[C];exact a.lay o hb r.e,5,m.of Mo,by let q:IV {s with ws:=s.ws.set i (gL (b.set z df))}:=#[j.hb,j.ct];delta Hs;split;erw[q.ji r.e 3];erw[q]]|move c y=>let#[rfl,_]:=d;let#[D,a,u,m,j]:=hm;let J:c<ge cl:=(by let:=f.1;rw[a.hm,af] at this;erw[this]);let:=afD (n:=ge ns) (rs:=rs) (s:=s) (x:=c) (y:=y);let Q:cl.getD c (0,0)=cl[c]:=(by rw[ak,aa J];rfl);exists D,by show SD ns rs bs (cl.set c (y,(cl.getD c (0,0)).2)) _ _;rw[Q];exact a.move J f.2,5,m.of (by delta Aw;split <;> rfl),4;delta Aw;split;erw[j];erw[IV.news (s:={s with aE:=s.aE.set c y}) #[j.hb,j.ct] _]|post c to=>let#[os,O,F,rfl,_]:=d;let#[D,a,u,m,j]:=h;let v:s.aE.getD c 0<ge ns:=(by rw[ak,aa f.1];erw[a.bd.hm _ (aB f.1)]);let:=afr (to:=to) (Fo.of O) v;erw[D+100,a.post o f.1 O F,by show D+100+100*_<=B+1700*1;lia,m.of (Gk (rs:=rs) (s:=jN s c to) (i:=ge s.ls) (l:={gu s c to with aK:=[.post (s.aE.getD c 0)]}) jR).2.1,j.post a.bd.hl]|pass k=>erw[(hm.ps d).1]|run=>let#[k,r,_]:=d;erw[hm.rn r]|flying=>let#[rfl,_]:=d;erw[hm]|had c=>let#[rfl,_]:=d;erw[hm]
theorem j5.ln(r:j5 o g m s k s'):ge s'.ls=ge s.ls/\k<=m:=by induction r with|zero=>erw[2,aA _]|@succ n k s b d _ _ _ a=>erw[YL.trans a.1,4];let:=a.2;split <;> lia
theorem Rn.ln(r:Rn o s k s'):ge s'.ls=ge s.ls:=by induction r with|zero=>rfl|succ _ p a=>let#[c,l,os,d,_,b,_,_,_,_,rfl,_]:=p;erw[(Na b).trans a]
theorem WX.ln(d:WX o s c x s'):ge s'.ls=ge s.ls+Zl c:=by cases c with|round g=>let#[k,r,_]:=d;erw[r.ln.1]|rest g=>let#[rfl,_]:=d;rfl|row h g=>let#[rfl,_]:=d;rfl|NP g=>let#[rfl,_]:=d;rfl|call h g=>let#[d,_,_,rfl,_]:=d;erw[YL]|Az i z=>let#[w,r,_,_,rfl,_]:=d;erw[afw]|lay i z=>let#[w,r,j,_,_,_,_,rfl,_]:=d;erw[Rs]|move c y=>let#[rfl,_]:=d;erw[afv]|post c f=>let#[os,_,_,rfl,_]:=d;erw[ade]|pass k=>let#[b,l,os,e,_,a,_,_,_,_,rfl,_]:=d;erw[Na a]|run=>let#[k,r,_]:=d;erw[r.ln]|flying=>let#[rfl,_]:=d;rfl|had c=>let#[rfl,_]:=d;rfl
end
section
variable{P:ft}{w:World}{K:ah}{mg:Str->Option dy}{base:Heap}
inductive U1:V->Prop
 |gw:U1 .gw
 |int {i:Int} (h:TX.Wr i):U1 (.int i)
 |str {z:Str} (h:z.length<=60):U1 (.str z)
theorem iI(h:TX.Wr i):i.natAbs.log2<1920:=by let#[a,b]:=h;erw[bM (Nat.le_of_lt_succ ?_) (show 200<1920 by decide)];by_cases z:i.natAbs=0;rw[z];decide;rw[Nat.log2_lt z];let:i.natAbs<10^60:=∅;erw[Nat.lt_trans this (!_)]
theorem Qb(h:U1 v):(ia v).length<=60:=by cases h with|gw=>decide|int h=>erw[(TX.gP h).2]|str h=>erw[h]
inductive Jq(vs:!V)(H:Hp)(Q:VK)(E:XK):Prop
 |mk(v:V):vs=[v]->U1 v->Q (.str (ia v)) H->Jq vs H Q E
theorem xO(T:Txt K mg w t):oG P w mg base T.rT 1 Jq:=by erw[T.rT.F.iV Wk λH Q E c h=>?_];·let#[v,rfl,b,k]:=h;erw[_,(oR (lG (qT Vy (pv 0) pI) bH (cJ ZM (by rfl) T.MA boot_str (dj (pv 0))))),4];left;exists 184;cases b with|gw=>erw[fZ k]|int a=>erw[lK (gh λz=>by ext z) #[1,.inl #[1,iI a,k]]]|str d=>erw[lK (gh λz=>by ext z) #[1,.inr #[1,k]]]
theorem nV{J:It}{n:Nat}{l:!(Option Nat)}{g:TG}{B:TT}{z:TE}{v:L2.St}{C:Hp->Prop}{h:Hp}{a:du}(w:Nat->V)(f:Nat->V)(e:h a=de)(go:∀i H,i<n->aH h H->J.go i H)(stop:∀H,aH h H->J.stop n H)(NK:∀i H x d,i<n->aH h H->J.NK i H x d->d=H/\x=w i)(E:n<=1000000)(step:∀(i:Nat)(H:Hp)(R:V->Hp->Prop)(S:Hp->Prop),i<n->aH h H->(∀d,aH H d->R (f i) d) ->g (w i) (lI l v) H λc r=>B c r λb j=>if b=df then z c j R else S j)(t:∀H,aH h H->H a=ac (.lst ((av n).map f))->C H) :∃W:Nat->Nat->Hp->Prop,(∃m,W 0 m (upd h a (.lst [])))/\∀i m H,W i m H ->(J.stop i H/\C H)\/(J.go i H/\∀x d,J.NK i H x d->g x (lI l v) d λc r=>B c r λb j=>if b=df then z c j λy q=>∃xs,q a=ac (.lst xs)/\ge xs<eD /\∃k,k<m/\W (i+1) k (upd q a (.lst (xs++[y]))) else ∃k,k<m/\W (i+1) k j):=by erw[fK (n:=n) (λi o _=>o=(av i).map f) e go stop rfl ?_ ?_];rintro i o H u s p rfl x d D;let#[rfl,rfl]:=NK i H x d u s D;erw[step i d _ _ u s (λq A=>?_)];erw[dS e u (s.trans A) (A _ _ p) (by rw[af,aX,sizeLine_eq];lia) ?_];show _=(av (i+1)).map f;rw[fk,aN];rfl;rintro o H s p rfl;erw[t H s p]
theorem map_getD{b:Type}{xs:!V}(f:V->b):(av (ge xs)).map (λi=>f (xs.getD i .gw))=xs.map f:=by erw[k6 (-_) λi c a=>?_];simp only[AM,wc,ak];rw[aa a⁻¹];rfl
theorem Qk{a:!Str}{z:Str}(h:∀y∈a,y.length<=60)(hl:ge a<=210000)(b:z.length<=2):(a.map (·.length)).sum+ge a*z.length<=16777216:=by let c:=TX.Lq (l:=a.map (·.length)) (B:=60) λx e=>(by let#[y,d,rfl]:=aG.mp e;erw[h y d]);rw[af] at c;let f:ge a*z.length<=ge a*2:=Nat.mul_le_mul_left _ b;lia
inductive U3(K:ah)(vs:!V)(H:Hp)(Q:VK)(E:XK):Prop
 |mk(a:du)(xs:!V):vs=[.ref a]->(bJ K H a xs\/dH K H a xs)->(∀x∈xs,U1 x)->ge xs<=210000->(∀H',aH H H'->Q (.str (Gn xs)) H')->U3 K vs H Q E
theorem Jr(T:Txt K mg w t):oG P w mg base T.DB 2 (U3 K):=by erw[T.DB.F.iV P1 λH Q E B h=>?_];·let#[a,c,rfl,hS,r,A,k]:=h;erw[_,(oR (lG (HR (pv 0) (λ_=>rfl)) (jM cW lg k9 GL bH (dj (dP (kO P1 ["number"] [de]) rfl (ah8 (cY (pv 0)) (QB (pv 0))) (~~~(gS 0 Rh)) (~~~fj) (~~~(cG (xO T) B T.rT (dj (pv 0))))))) bH)),4];left;erw[1,c.isEmpty.not,hS.elim (λz=>.inl #[c,z,2]) (λz=>.inr (.inl #[c,z,2])),4];cases e:c.isEmpty with|true=>erw[fP ?_];let:=k H (aH.refl _);delta Gn at this;rw[e] at this;erw[this]|false=>(erw[fZ ?_];let C:Gn c=Txt.join TX.oz (c.map ia):=(by delta Gn;rw[e];rfl);rw[C] at k;exists 24;let o:∀(i:Nat) (b:Hp) (R:V->Hp->Prop),i<ge c->(∀s,aH b s->R (.str (ia (c.getD i .gw))) s)->Jq [c.getD i .gw] b R λ_ _ _=>False:=λi b R m p=>(by erw[14,p b (aH.refl _)];rw[ak,aa m];erw[r _ (aB m)]);let q:∀(d:du) (b:Hp),aH H b->b d=ac (.lst ((av (ge c)).map λi=>fA (ia (c.getD i .gw))))->i3 K (.str " ") [.ref d] b Q:=λd b g l=>(by rw[map_getD λv=>fA (ia v)] at l;erw[_,d,c.map ia,22,bJ.of (by rw[bZ];erw[l]),Qk (λy l=>?_) (by rw[af];erw[A]) (!_),k b g];let#[x,f,rfl]:=aG.mp l;erw[Qb (r x f)]);obtain hS|hS:=hS;erw[.inl #[1,a,2,#[_,hS],λd j=>?_]];erw[nV (n:=ge c) (λi=>c.getD i .gw) (λi=>fA (ia (c.getD i .gw))) j (jC hS) (fQ hS) (λi b x u m g f=>?_) ∅ (λi b R S m g p=>?_) (λb g l=>q d b g l)];let#[rfl,f]:=f;let f:=f _ (g.seq hS);erw[2,by rw[ak,f];rfl];erw[1,o i b R m p];erw[.inr #[1,a,2,#[_,hS],λd j=>?_]];erw[nV (n:=ge c) (λi=>c.getD i .gw) (λi=>fA (ia (c.getD i .gw))) j (QV hS) (GF hS) (λi b x u m g f=>?_) ∅ (λi b R S m g p=>?_) (λb g l=>q d b g l)];let#[rfl,f]:=f;let f:=f _ (g.cU hS);erw[2,by rw[ak,f];rfl];erw[1,o i b R m p])
noncomputable def ug.vals:ug->!V
 |.round g=>[.int g]|.rest g=>[.int g]|.row h g=>[.int h,.int g]|.NP g=>[.int g]|.call h g=>[.int h,.int g]|.Az i x=>[.int i,.int x]|.lay i x=>[.int i,.int x]|.move c h=>[.int c,.int h]|.post c to=>[.int c,HZ (to.map λy:Nat=>(y:Int))]|.pass k=>[.int k]|.run=>[]|.flying=>[]|.had c=>[.int c]
noncomputable def ug.kd:ug->Nat
 |.call _ _=>0|.round _=>1|.rest _=>2|.row _ _=>3|.NP _=>4|.Az _ _=>5|.lay _ _=>6|.move _ _=>7|.post _ _=>8|.pass _=>9|.run=>10|.flying=>11|.had _=>12
noncomputable abbrev FC(tp:du)(loc:Role->du):!(Str×V):=[("town",.ref tp),("strands",.ref (loc .dB)),("rows_by_group",.ref (loc .wM)),("books",.ref (loc .mh)),("homes",.ref (loc .aE)),("groups",.ref (loc .groups)),("handed",.ref (loc .jy)),("letters",.ref (loc .dQ)),("copies",.ref (loc .gj))]
theorem _root_.TW.eT.ob(N:eT K c H F p tp n s):∃(b:du)(a:Role->du),H p=ac (.ins c.c6 b (FC tp a)):=by let#[a,b,q,e,O,f,g]:=N;let d:=O.get .c6 _ rfl;rw[e] at d;erw[_,a,d]
inductive xP(K:ah)(CT:du)(c:NC)(m:Nat)(vs:!V)(H:Hp)(Q:VK)(E:XK):Prop
 |mk(F:du->Prop)(p tp ln lr l:du)(ns:!Int)(rs:!R5)(o:cS ns rs)(bs:!(!Bool))(cl:!(Nat×Nat))(B:Nat)(s:NS)(cmd:ug):vs=[.ref p,.ref l]->cmd.kd=m->bJ K (Off H F) l cmd.vals->NW K c CT H F p tp ln lr ns rs s->TB ns rs->SK ns rs bs cl B s->B<=205000->Fits ns rs s cmd->(∀a s' F' H',WX o s cmd a s'->eT K c H' F' p tp (ge ns) s'->Step H F H' F'->Q (.str a) H')->xP K CT c m vs H Q E
theorem gm{n:Nat}(h:n<=1000000):TX.Wr (n:Int):=#[wo _,by let:((1000000:Nat):Int)<10^60:=(by decide);lia]
theorem YM{l:!Nat}{B:Nat}(c:B<=1000000)(h:∀x∈l,x<=B):∀x∈bA l,U1 x:=λx b=>by
 let#[k,a,rfl]:=aG.mp b;erw[.int (gm (aJ (h k a) c))]
theorem Ng(T:Txt K mg w t):oG P w mg base T.zF 5 (xP K t.bf (nc t) 0):=by erw[T.zF.F.iV LZ λH Q E y h=>?_];·let#[F,p,z,J,L,l,C,u,o,X,M,B,s,a,rfl,I,c,N,O,r,Z,f,k]:=h;obtain⟨x,g,S⟩:∃x g,a=.call x g:=(by ext a <;> first|exact#[6]|ext I);subst a;erw[_,(oR (lG (mT (cM (pv 0) T.bX T.BA (JV T) y (oW (xL (pv 1) aF) (xL (pv 1) aF)))) bH bH)),4];left;let#[V,A,G]:=N.c6.ob;let#[D,v,U,Y,W]:=id r;let c:=be.seq c;erw[1,p,6,G,8,l,9,c,8,l,9,c,2,F,p,z,J,L,C,u,s,o,x,g,2,N,v.ok,f.1,f.2,λd n m q i j b _=>#[14]];by_cases e:d=s.R g x;rw[fy e];erw[fP (k _ _ n m #[d,q,i,2,by rw[eG e]] j b)];rw[gh e];erw[fZ (k _ _ n m #[d,q,i,2,by rw[eH e]] j b)]
theorem Nh(T:Txt K mg w t):oG P w mg base T.zG 6 (xP K t.bf (nc t) 2):=by erw[T.zG.F.iV L0 λH Q E n h=>?_];·let#[F,p,q,z,A,l,u,j,o,O,C,B,s,a,rfl,x,c,N,G,i,S,f,k]:=h;obtain⟨g,I⟩:∃g,a=.rest g:=(by ext a <;> first|exact#[1]|ext x);subst a;erw[_,(oR (lG (mT (cM (pv 0) T.bX T.zD (M3 T) n (dj (xL (pv 1) aF)))) bH bH)),4];left;let#[L,r,v]:=N.c6.ob;let#[D,m,J,R,M]:=id i;let c:=be.seq c;erw[1,p,6,v,8,l,9,c,2,F,p,q,z,A,u,j,s,o,g,2,N,m.ok,f,λy e b d=>#[14]];cases y with|true=>erw[fZ (k _ _ F e #[2,df,d,2] (N.c6.mono b) (Step.refl' b))]|false=>erw[fP (k _ _ F e #[2,dr,d,2] (N.c6.mono b) (Step.refl' b))]
theorem xn(o:cS ns rs)(ok:A0 ns rs s)(n:RB ns s){h g:Nat}(a:h<ge ns)(c:g<3):∀x∈cz (s.R g h),U1 x:=by let b:=ok.fit g c h a;let#[m,d]:=n g c h a;let V9:=o.V9;let Sw:=o.Sw;generalize s.R g h=r at b m d;let#[j,f,l,k]:=b;intro x i;let p:(10:Int)^50<10^60:=!_;let t:(20:Int)<10^60:=!_;let u:(10:Int)*10^41<10^60:=!_;let q:r.ho*10^41<=10*10^41:=Int.mul_le_mul_of_nonneg_right ∅ (!_);let:x=.int r.hd\/x=.int r.co\/x=.int r.ho\/x=jf r.by_:=(by simpa [cz] using i);obtain rfl|rfl|rfl|rfl:=this;erw[.int #[j,5]];erw[.int #[f,5]];erw[.int #[l.1,5]];obtain e|⟨e,v⟩:=k;rw[e];erw[.gw];rw[bg ∅];erw[.int #[e,5]]
theorem OV(T:Txt K mg w t):oG P w mg base T.BD 4 (xP K t.bf (nc t) 3):=by erw[T.BD.F.iV Oa λH Q E e h=>?_];·let#[F,p,u,C,G,l,y,n,o,V,J,B,s,a,rfl,A,b,N,L,m,W,f,k]:=h;obtain⟨x,g,M⟩:∃x g,a=.row x g:=(by ext a <;> first|exact#[6]|ext A);subst a;erw[_,(oR (cG (Jr T) e T.DB (dj (cM (pv 0) T.bX T.vB (Fc T) e (oW (xL (pv 1) aF) (xL (pv 1) aF)))))),4];left;let#[R,v,z]:=N.c6.ob;let#[D,r,O,I,U]:=id m;let b:=be.seq b;erw[1,p,6,z,8,l,9,b,8,l,9,b,2,F,p,u,C,G,y,n,s,x,g,2,N,f.1,f.2,λq S d j=>?_];erw[q,1,.inr j,xn o r.ok I f.1 f.2,(by show 4<=210000;decide),λi c=>k _ _ F i #[22] (N.c6.mono (d.trans c)) (Step.refl' (d.trans c))]
theorem Ni(T:Txt K mg w t):oG P w mg base T.zH 7 (xP K t.bf (nc t) 4):=by erw[T.zH.F.iV L1 λH Q E j h=>?_];·let#[F,p,z,J,L,l,C,u,o,Y,M,B,s,b,rfl,I,d,N,O,r,hB,f,k]:=h;obtain⟨g,R⟩:∃g,b=.NP g:=(by ext b <;> first|exact#[1]|ext I);subst b;erw[_,(oR (cG (Jr T) j T.DB (dj (cM (pv 0) T.bX T.yq (Hr T) j (dj (xL (pv 1) aF)))))),4];left;let#[U,A,G]:=N.c6.ob;let#[D,v,S,Z,W]:=id r;let d:=be.seq d;erw[1,p,6,G,8,l,9,d,2,F,p,z,J,L,C,u,s,o,g,2,N,v.ok,f,λa os V i X c m y=>?_];let Sw:=o.Sw;erw[a,1,.inl (bJ.of c),YM (B:=20) (!_) (λx n=>aJ (gp (Th m x n)) Sw),(by rw[af];lia),λq e=>k _ _ F q #[2,os,m,2] (N.c6.mono (i.trans e)) (Step.refl' (i.trans e))]
theorem Nk(T:Txt K mg w t):oG P w mg base T.zI 5 (xP K t.bf (nc t) 5):=by erw[T.zI.F.iV L3 λH Q E G h=>?_];·let#[F,p,I,R,S,l,L,C,o,Z,cl,B,s,a,rfl,O,g,N,U,y,hB,f,k]:=h;obtain⟨i,x,V⟩:∃i x,a=.Az i x:=(by ext a <;> first|exact#[6]|ext O);subst a;erw[_,(oR (lG (mT (cM (pv 0) T.bX T.FY (UB T) G (oW (xL (pv 1) aF) (xL (pv 1) aF)))) bH bH)),4];left;let#[X,J,M]:=N.c6.ob;let#[D,d,W,rb,Y]:=id y;let g:=be.seq g;let#[w,r,j,b,v]:=f;let A:=d.bd.cb;erw[1,p,6,M,8,l,9,g,8,l,9,g,2,F,p,I,R,S,L,C,s,i,x,w,r,D,2,N,o,d.ok,(λu z=>(d.bd.cl u z).1),(λl z=>by let:=(d.bd.lb l z).1;lia),5,j,b,v,λn m q c=>#[14]];cases e:(w.filter λz=>decide (z≠x)).isEmpty with|true=>erw[fZ (k _ _ n m #[w,r,j,b,2,by rw[e];rfl] q.c6 c)]|false=>erw[fP (k _ _ n m #[w,r,j,b,2,by rw[e];rfl] q.c6 c)]
theorem OW(T:Txt K mg w t):oG P w mg base T.BE 5 (xP K t.bf (nc t) 6):=by erw[T.BE.F.iV Ob λH Q E G h=>?_];·let#[F,p,I,R,S,l,L,A,o,bs,U,B,s,a,rfl,O,d,N,V,z,hB,f,k]:=h;obtain⟨i,x,W⟩:∃i x,a=.lay i x:=(by ext a <;> first|exact#[6]|ext O);subst a;erw[_,(oR (lG (mT (cM (pv 0) T.bX T.IM (WR T) G (oW (xL (pv 1) aF) (xL (pv 1) aF)))) bH bH)),4];left;let#[Y,J,M]:=N.c6.ob;let#[D,C,X,rb,Z]:=id z;let d:=be.seq d;let#[w,r,g,b,y,nx]:=f;erw[1,p,6,M,8,l,9,d,8,l,9,d,2,F,p,I,R,S,L,A,s,i,x,w,r,2,N,o,C.ok,g,b,y,nx,λq m j v u n c=>#[14]];cases e:w.isEmpty with|true=>erw[fZ (k _ _ m j #[w,r,q,g,b,v,u,2,by rw[e];rfl] n.c6 c)]|false=>erw[fP (k _ _ m j #[w,r,q,g,b,v,u,2,by rw[e];rfl] n.c6 c)]
theorem Nl(T:Txt K mg w t):oG P w mg base T.zJ 4 (xP K t.bf (nc t) 7):=by erw[T.zJ.F.iV L4 λH Q E i h=>?_];·let#[F,p,j,A,C,l,q,g,o,R,G,B,s,a,rfl,z,b,N,I,e,U,f,k]:=h;obtain⟨x,y,J⟩:∃x y,a=.move x y:=(by ext a <;> first|exact#[6]|ext z);subst a;erw[_,(au (fC (cM (pv 0) T.bX T.FZ (UC T) i (oW (xL (pv 1) aF) (xL (pv 1) aF)))) (oR bH)),4];left;let#[M,m,r]:=N.c6.ob;let#[D,d,L,S,O]:=id e;let b:=be.seq b;erw[1,p,6,r,8,l,9,b,8,l,9,b,2,F,p,j,A,C,q,g,s,x,y,2,N,f.1,d.bd.gl,d.bd.g3,f.2,λu n v c=>k _ _ u n #[22] v.c6 c]
theorem Nm(T:Txt K mg w t):oG P w mg base T.zK 9 (xP K t.bf (nc t) 8):=by erw[T.zK.F.iV L5 λH Q E i h=>?_];·let#[F,p,n,G,I,l,v,m,o,V,J,B,s,a,rfl,C,b,N,L,j,X,f,k]:=h;obtain⟨x,g,M⟩:∃x g,a=.post x g:=(by ext a <;> first|exact#[6]|ext C);subst a;erw[_,(oR (cG (xO T) i T.rT (dj (sr (pv 0) T.bX T.Wx (UG T) (i.mono (!_)) T.Ww .nil nX (oW (xL (pv 1) aF) (xL (pv 1) aF)))))),4];left;let#[S,q,y]:=N.c6.ob;let#[D,c,O,W,U]:=id j;let b:=be.seq b;let R:=c.bd.ll;erw[1,p,6,y,8,l,9,b,8,l,9,b,2,F,p,n,G,I,v,m,s,o,x,g,D,2,N,c.ok,c.bd,5,f.1,f.2,λos z u r d A e=>#[1,.int (gm ∅),k _ _ z u #[os,r,d,22] A.c6 e]]
theorem Np(T:Txt K mg w t):oG P w mg base T.zL 9 (xP K t.bf (nc t) 9):=by erw[T.zL.F.iV L6 λH Q E r h=>?_];·let#[F,p,u,M,O,l,C,n,o,X,cl,B,s,a,rfl,L,e,N,R,m,Z,f,k]:=h;obtain⟨j,S⟩:∃j,a=.pass j:=(by ext a <;> first|exact#[1]|ext L);subst a;erw[_,(oR (sr (pv 0) T.bX T.Fb (DV T) (r.mono (!_)) T.OF .nil nX (dj (xL (pv 1) aF)))),4];left;let#[V,v,G]:=N.c6.ob;let#[D,b,U,Y,W]:=id m;let e:=be.seq e;let f:j<ge s.cps:=f;let i:=aa f;let g:=aa (b.bd.cl _ (aB f)).1;erw[1,p,6,G,8,l,9,e,2,F,p,u,M,O,C,n,s,o,j,D,6,N,b.ok,b.bd,5,i,g,λos y I z x c q A J d=>k _ _ I z #[33,os,y,i,g,x,c,q,A,22] J.c6 d]
theorem Js(T:Txt K mg w t):oG P w mg base T.uK 2 (xP K t.bf (nc t) 11):=by erw[T.uK.F.iV IF λH Q E d h=>?_];·let#[F,p,n,O,S,l,ns,I,o,R,y,B,s,b,rfl,x,M,N,z,g,V,f,k]:=h;obtain⟨_,A⟩:∃_:Unit,b=.flying:=(by ext b <;> first|erw[(),2]|ext x);subst b;erw[_,(oR (cG (xO T) d T.rT (dj (lS T.gE (ow (pv 0) T.bX T.nN.m (Fd T) (d.mono (!_)) T.nN.B .nil nX))))),4];left;let#[J,q,u]:=N.c6.ob;let#[D,j,G,U,L]:=id g;let i:=j.bd.cb;erw[1,p,6,u,2,F,p,n,ge ns,s,2,N.c6,λa C r c _ v e=>#[a,1,.inl (bJ.of v),4]];(try dsimp only);rw[af,e.len,af];erw[1,.int (gm ∅),k _ _ F r #[22] (N.c6.mono c) (Step.refl' c)]
theorem OX(T:Txt K mg w t):oG P w mg base T.BG 3 (xP K t.bf (nc t) 12):=by erw[T.BG.F.iV Oc λH Q E m h=>?_];·let#[F,p,r,U,W,l,ns,O,o,V,I,B,s,b,rfl,C,e,N,J,q,Y,f,k]:=h;obtain⟨x,L⟩:∃x,b=.had x:=(by ext b <;> first|exact#[1]|ext C);subst b;erw[_,(oR (cG (Jr T) m T.DB (dj (cM (pv 0) T.bX T.IP (WM T) m (dj (xL (pv 1) aF)))))),4];left;let#[R,u,y]:=N.c6.ob;let#[D,d,M,X,z]:=id q;let e:=be.seq e;let f:x<ge s.aE:=f;let c:x<ge s.had:=(by rw[d.bd.hl];erw[f]);let v:s.had.getD x []=s.had[x]:=(by rw[ak,aa c];rfl);let hb:=d.bd.hb _ (aB c);erw[1,p,6,y,8,l,9,e,2,F,p,r,ge ns,x,s,s.had[x],2,N.c6,f,aa c,λa S j _ A=>?_];erw[a,1,.inl (bJ.of A),YM (B:=205000) (!_) (λi G=>by let:=z.hb _ (aB c) i G;let:=d.bd.ll;lia),(by rw[af];lia),λn g=>k _ _ F n #[2,by rw[v]] (N.c6.mono (j.trans g)) (Step.refl' (j.trans g))]
theorem _root_.TW.eT.past(N:eT K c H F p tp n s)(d:Off H F z=ac u)(g:Ai u):eT K c (upd H z o) F p tp n s:=by let#[nf,a]:=fG d;erw[N.keep (λb v e f=>cj b v e λw=>nf (w▸f)) (λb x=>dH.past a g cj)]
theorem Ku(T:Txt K mg w t):oG P w mg base T.xw 5 (xP K t.bf (nc t) 1):=by erw[T.xw.F.iV uH λH Q E hr h=>?_];·let#[F,p,Y,ln,lr,l,ns,rs,o,bs,cl,B,s,q,rfl,hm,hL,N,tb,sk,hB,f,k]:=h;obtain⟨g,ec⟩:∃g,q=.round g:=(by ext q <;> first|exact#[1]|ext hm);subst q;erw[_,(au (kC (i:=2) uH.nd rfl (Or.inl rfl) (kO uH ["house","net","numbers"] [de,ac 0,ac 1]) rfl (eW rfl T.gF (dj (bF (bF (pv 0) rfl) rfl))) (~~~(gS 0 FT)) (~~~fj) (~~~(cM (pv 1) T.bX T.BA (JV T) hr (oW (pv 0) (yL K (pv 2) aF))))) (oR (cG (xO T) hr T.rT (dj (jM bK vX PySem.F.type_list_count ZN (pv 2) (dj KY)))))),4];left;let#[dx,aj,cD]:=N.c6.ob;let#[#[dt,ad],ah,_,ag,_]:=id N.yS;let V9:=o.V9;let f:g<3:=f;erw[1,p,336,cD,T.bX,T.kR,2,Y,336,ad,T.gk,T.kh,855,λc a=>?_];let ab:¬F c:=λz=>(by let#[o',e]:=N.c6.there z;rw[a] at e;ext e);erw[λi m J=>m=ge ns-i/\i<=ge ns/\∃(S:Nat)(r:NS)(u:du->Prop)(A:!Bool),j5 o g i s S r/\eT K (nc t) J u p Y (ge ns) r/\Step H F J u/\J c=ac (.lst (A.map fI))/\¬u c/\ge A=i/\A.count df=S,#[1,bL _,(0),s,F,[],.zero s,N.c6.mono (aH.new a),Step.refl' (aH.new a),ay,ab,22],4];intro i m J ⟨rfl,hi,S,r,u,A,O,Z,j,n,D,I,L⟩;obtain C|hge:=Nat.lt_or_ge i (ge ns);erw[.inr #[by show i<_;lia,4]];intro x H3 ⟨rfl,rfl⟩;rw[cT];let W2:=N.done j Z;let#[ae,ai,yG]:=Z.ob;let X:=be.seq ((iL j).seq hL);let W:=sk.rnd tb f ∅ O;let#[D2,aa,_]:=W;erw[1,p,6,yG,81,l,9,X,2,u,p,Y,ln,lr,ns,rs,r,o,i,g,2,W2,aa.ok,C,f,λd F4 H4 hd hf N4 U _=>?_];let G:=U.kp _ _ n D;let M:¬F4 c:=λz=>(by obtain y|y:=U.fr _ z;erw[D y];rw[n] at y;ext y);exists _,G,by rw[af,I];exact bP ∅,ge ns-(i+1),52,C,33,F4,A++[(decide (d=r.R g i)).not],.succ O hd hf,N4.past (mw M G) jm,44,M,by rw[az,I];rfl,4;let:=j.trans U;erw[λb v e z=>cj b v (this.kp b v e z) (aS e a),λb z=>this.fr b z];rw[ay,aN];rfl;rw[List.count_append,L];by_cases e:d=r.R g i;rw[fy e,eG e];rfl;rw[gh e,eH e];rfl;let:i=ge ns:=∅;subst this;erw[.inl #[by show _<=_;lia,4]];erw[1,.inl #[23,bJ.of n],c,A,df,22,bJ.of n,4];rw[L];let:=O.ln.2;erw[1,.int (gm ∅),k _ _ u J #[S,O,2] Z j]
theorem OY(T:Txt K mg w t):oG P w mg base T.BF 9 (xP K t.bf (nc t) 10):=by erw[T.BF.F.iV zu λH Q E S h=>?_];·let#[F,p,J,ln,lr,l,ns,z,o,bs,cl,B,s,g,rfl,hm,hL,N,tb,W,hB,f,k]:=h;obtain⟨_,x⟩:∃_:Unit,g=.run:=(by ext g <;> first|erw[(),2]|ext hm);subst g;erw[_,(au (sS 2 zu aF) (au (aaS PassesOwn.never (HR (ow (pv 0) T.bX T.nN.m (Fd T) (S.mono (!_)) T.nN.B .nil nX) (λ_=>rfl)) (au (fC (ow (pv 0) T.bX T.Fb (DV T) (S.mono (!_)) T.OE (show cO [fw 0] [_] from .cons #[1] .nil) nX)) (b6 (UF (i:=2) zu.nd rfl (Or.inl rfl) aF Uf)))) (oR (cG (xO T) S T.rT (dj (pv 2)))))),4];left;erw[aen (λm M y=>∃(r:Nat)(b:NS)(c:du->Prop),M=[ac (.ref p),ac (.ref l),ac (.int (r:Nat))]/\Rn o s r b/\eT K (nc t) y c p J (ge ns) b/\Step H F y c/\m=Ph (ge ns) z b/\r+m<=Ph (ge ns) z s) (Ph (ge ns) z s) #[(0),s,F,2,.zero s,N.c6,Step.refl' (aH.refl _),25] ?_ ?_];(intro m M y ⟨r,b,c,rfl,L,A,j,rfl,hk⟩;let W2:=N.done j A;let#[Z,ad,X]:=A.ob;let u:=W.rn L;let#[D2,n,ab,_]:=id u;let#[D0,ah,ag,_]:=id W;erw[1,p,6,X,2,c,p,J,ge ns,b,2,A,λa q O d _ ha R=>#[(q.map fx).isEmpty.not,.inl #[_,bJ.of ha,2],4]];let I:ge q=ge b.cps:=(by rw[R.len,af]);cases x:b.cps with|nil=>let:q=[]:=List.length_eq_zero_iff.mp (by rw[I,x];rfl);subst this;erw[fP ?_];erw[38,.int (gm ∅),k _ _ c O #[r,L,x,2] (A.mono d) (j.trans (Step.refl' d))]|cons C ae=>let:(q.map fx).isEmpty=dr:=(by cases q with|nil=>rw[x] at I;ext I|cons=>rfl);rw[this];erw[fZ ?_];let U:b.cps[0]?=ac C:=(by rw[x];rfl);let Y:=aa (n.bd.cl C (aD U)).1;erw[1,p,6,d _ _ X,2,c,p,J,ln,lr,ns,z,b,o,(0),D2,C,1,W2.mono d,n.ok,n.bd,5,U,Y,λos ts F4 H4 hO D pt oe W4 HQ=>?_];let ps:Ps o 0 b _ _:=#[C,_,os,ts,U,Y,hO,D,pt,oe,22];let hp:=(u.ps ps).2;erw[16235,r+1,_,F4,2,.succ L ps,W4.c6,(j.trans (Step.refl' d)).trans HQ,25]);intro M y Q Q' R ⟨v,e,a,dx,fs,h1,h2,h3,c,p2,G,n2,b,h4,h5,h6⟩;exists v,e,a,dx,fs,h1,h2,h3,c,p2,G,n2,b,h4,h5,λa q O d z1 z2 z3=>by let#[kb,h7,h8]:=h6 a q O d z1 z2 z3;erw[kb,h7,R _ _ h8]
theorem Fits.small(o:cS ns rs)(t:SK ns rs bs cl B s)(F:B<=205000)(f:Fits ns rs s cmd):∀n∈cmd.kF,TX.Wr n:=by let#[D,j,C,_]:=t;let V9:=o.V9;let Sw:=o.Sw;let xR:=j.bd.xR;let q:=j.bd.cb;let E:=j.bd.ll;let d:∀{a:Nat},a<=1000000->∀n∈[(a:Int)],TX.Wr n:=λh n hn=>(by rw[aP.mp hn];erw[gm h]);let two:∀{a b:Nat},a<=1000000->b<=1000000->∀n∈[(a:Int),(b:Int)],TX.Wr n:=λv p n hn=>(by obtain rfl|hn:=aT.mp hn;erw[gm v];rw[aP.mp hn];erw[gm p]);cases cmd with|round g=>erw[d (by let:g<3:=f;lia)]|rest g=>erw[d (by let:g<3:=f;lia)]|row h g=>erw[two (by let:=f.1;lia) (by let:=f.2;lia)]|NP g=>erw[d (by let:g<3:=f;lia)]|call h g=>erw[two (by let:=f.1;lia) (by let:=f.2;lia)]|Az i x=>let#[w,r,m,e,l]:=f;let A:=(ai.mp e).1;let#[b,u,rfl,_]:=j.wire m;let:=(ai.mp (iy.mp l)).1;let:=j.fit.2 i r b e u;let:=(o.ok _ (aD e)).d4;erw[two ∅ ∅]|lay i x=>let#[w,r,m,e,l,_]:=f;let A:=(ai.mp e).1;let:=(o.ok _ (aD e)).d4;erw[two ∅ ∅]|move c h=>erw[two (by let:=f.1;lia) (by let:=f.2;lia)]|post c z=>(cases z with|none=>erw[d (by let:=f.1;lia)]|some y=>erw[two (by let:=f.1;lia) (by let:=(f.2 y rfl).1;lia)])|pass k=>erw[d (by let:k<ge s.cps:=f;lia)]|run=>intro n hn;ext hn|flying=>intro n hn;ext hn|had c=>erw[d (by let:c<ge s.aE:=f;lia)]
theorem afF(c:ug):32∉TX.cs c.hd:=by ext c <;> (simp only[ug.hd];decide +kernel)
theorem P3(c:ug):c.hd.length<=60:=by ext c <;> (simp only[ug.hd];decide +kernel)
theorem aao{c:ug}(h:∀n∈c.kF,TX.Wr n):Txt.split c.text TX.oz=c.words:=by delta ug.text;rw[TX.join_eq];erw[TX.Ib (c:=32) (ws:=c.words) (by simp[ug.words]) λx hx=>?_];obtain rfl|hx:=aT.mp hx;erw[afF c];obtain hx|hx:=aR.mp hx;let#[n,a,rfl]:=aG.mp hx;erw[TX.t9 (h n a).1 (.inl (!_))];split at hx;rw[aP.mp hx];decide +kernel;ext hx
theorem YN(c:ug):ge c.kF<=2:=by cases c with|post c a=>ext a <;> erw[(by simp[ug.kF])]|_=>simp[ug.kF]
theorem i2{c:ug}(h:∀n∈c.kF,TX.Wr n):c.text.length<=100000:=by delta ug.text;rw[TX.join_eq];erw[aJ (StrLaws.join_length_le _ _) ?_];let e:ge c.words<=4:=(by let:=YN c;simp only[ug.words,bG,az,af];split <;> simp <;> lia);let b:=TX.Lq (l:=c.words.map (·.length)) (B:=60) λx d=>(by let#[y,hy,rfl]:=aG.mp d;obtain rfl|hy:=aT.mp hy;erw[P3 c];obtain hy|hy:=aR.mp hy;let#[n,a,rfl]:=aG.mp hy;erw[(TX.gP (h n a)).2];split at hy;rw[aP.mp hy];decide;ext hy);rw[af] at b;show _+ge c.words*1<=_;lia
theorem afG(h:TX.Wr n):TX.num n≠"all" := λe=>by
 let:=TX.x9 h.1 97 (by rw[e];decide +kernel)
 lia
inductive U4(K:ah)(vs:!V)(H:Hp)(Q:VK)(E:XK):Prop
 |mk(l:du)(cmd:ug):vs=[.ref l,.int (ge cmd.vals:Nat)]->H l=ac (.lst (gq cmd.words))->(∀n∈cmd.kF,TX.Wr n)->(∀l' H',aH H H'->H l'=de->H' l'=ac (.lst cmd.vals)->Q (.ref l') H')->U4 K vs H Q E
theorem Nq(T:Txt K mg w t):oG P w mg base T.zN 3 (U4 K):=by
 erw[T.zN.F.iV L7 λH Q E G h=>?_]
 ·let#[l,b,rfl,u,J,k]:=h;erw[_,(au (cV (PW.pt (wu (qT i0 (xL (pv 0) aF) bH) (qk (qT yM (jw vd (pv 0) (jP aF) oU) (eB (dj bH)))))) (oR (eB (oW (cG (xN T) G T.oK (dj (xL (pv 0) aF))) pI))) bR) (oR (cG (uU T) G T.ng (oW (jw vd (pv 0) (jP aF) oU) (pv 1))))),4];left;let num:∀p,aH H p->b.isAll=dr->∀g,p g=de->zZ K [.ref g,.int (ge b.vals:Nat)] (upd p g (.lst (Ac (gq b.words) (ac 1) de))) Q E0:=λp N D g d=>by
   let W:b.words=TX.wordsOf b.hd b.kF:=(by delta ug.words;rw[D];simp[TX.wordsOf]);let S:b.vals=b.kF.map fw:=by
    cases b with
    |post c f=>cases f with
     |none=>ext D
     |some y=>rfl
    |_=>rfl
   rw[W,ya];let s:=aH.new (o:=.lst (gq (b.kF.map TX.num))) d;exists g,b.kF,by rw[S,af],bJ.of ay,J,by let:=YN b;lia,λC r n m v=>k C r (N.trans (s.trans n)) ((N.trans s).free m) (by rw[S];erw[v])
  erw[1,l,9,bJ.of u,cH (j:=0) rfl,84];by_cases B:b.hd = "post";(case neg=>erw[lK (gh λz=>B (V.str.inj z)) (fP ?_)];let D:b.isAll=dr:=(by ext b <;> first|rfl|erw[ff rfl B]);erw[38,l,1,bJ.of u,λg d=>#[1,num H (aH.refl _) D g d]]);erw[E5 (fy (by rw[B])) ?_];obtain⟨c,f,I⟩:∃c f,b=.post c f:=(by ext b <;> first|exact#[6]|erw[ff B (by simp only[ug.hd];decide +kernel)]);subst I;erw[38,l,1,bJ.of u,λg d=>?_];let I:Ac (gq (ug.post c f).words) (ac 2) de=gq ((ug.post c f).words.drop 2):=(by let:=Lh (gq (ug.post c f).words) 2;rw[show ((2:Nat):Int)=2 from rfl] at this;rw[this];erw[List.map_drop.symm]);rw[I];let s:=aH.new (o:=.lst (gq ((ug.post c f).words.drop 2))) d;let M:=ay (H:=H) (a:=g) (o:=.lst (gq ((ug.post c f).words.drop 2)));generalize upd H g (.lst (gq ((ug.post c f).words.drop 2)))=p at s M;erw[IU,λC m=>?_];let L:=aH.new (o:=.lst [fA "all"]) m;let v:=ay (H:=p) (a:=C) (o:=.lst [fA "all"]);generalize upd p C (.lst [fA "all"])=r at L v;let n:=s.trans L;let q:=L _ _ M;let A:∀{a:du} {z:Str},r a=ac (.lst [fA z])->Rep K r (.list [.str z]) (.ref a):=λ{a z} e=>#[a,1,bJ.of e,#[622]];cases f with|none=>erw[.list [.str "all"],.list [.str "all"],A q,A v,↑_,↑_,bM (b5 (aJ (dX _ _) (!_)) _) G.units,1,E5 (↑_) ?_];erw[1,l,9,bJ.of (n _ _ u),cH (j:=1) rfl,(c:Int),2,J _ aM,λH4 R=>#[g5,λU x=>?_]];erw[k U _ ((n.trans R).trans (aH.new x)) ((n.trans R).free x) ay]|some y=>let O:TX.Wr (y:Int):=J _ (aO _ aM);erw[.list [.str (TX.num y)],.list [.str "all"],A q,A v,4,↑_,bM (b5 (aJ (dX _ _) (by show 1<=64;decide)) _) G.units,1,lK ?_ ?_];show (PyData.strOk (TX.num y)&&df)=df;rw[Bool.and_true];delta PyData.strOk;let:=TX.PM O.1;rw[Array.all_eq_true] at this ⊢;intro i Z;let:=this i Z;simp only[decide_eq_true_eq] at this ⊢;lia;show ((TX.num y == "all")&&df)=dr;rw[Bool.and_true];erw[beq_eq_false_iff_ne.mpr (afG O)];erw[38,l,1,bJ.of (n _ _ u),λY X=>#[1,num r n rfl Y X]]
def afH{X:Cx}{st:Stmt}(c:gO X.K X.mg x key st f fd ps):Runs X (f,λ_ _ _ _=>False):=#[c.F.kp,λ_ _ _ _ _ _ _ _ _ h=>h.elim]
noncomputable def tj(t:Ad):ug->du
 |.call _ _=>t.Dp|.round _=>t.ym|.rest _=>t.Dq|.row _ _=>t.JI|.NP _=>t.Dr|.Az _ _=>t.Dt|.lay _ _=>t.JJ|.move _ _=>t.Du|.post _ _=>t.Dv|.pass _=>t.Dw|.run=>t.JK|.flying=>t.uc|.had _=>t.JL
noncomputable def oC(t:Ad):ug->du
 |.call _ _=>t.jD|.round _=>t.jb|.rest _=>t.jE|.row _ _=>t.kJ|.NP _=>t.jF|.Az _ _=>t.jG|.lay _ _=>t.kK|.move _ _=>t.jH|.post _ _=>t.jI|.pass _=>t.jJ|.run=>t.kL|.flying=>t.iH|.had _=>t.kM
theorem P2(T:Txt K mg w t)(c:ug)(H:Hp):dH K H (tj t c) [.int (ge c.vals:Nat),.ref (oC t c)]:=by cases c with|call=>erw[T.s_call H]|round=>erw[T.aeW H]|rest=>erw[T.aiq H]|row=>erw[T.s_row H]|NP=>erw[T.air H]|Az=>erw[T.ais H]|lay=>erw[T.alB H]|move=>erw[T.ait H]|post=>erw[T.aiu H]|pass=>erw[T.aiv H]|run=>erw[T.alC H]|flying=>erw[T.acw H]|had=>erw[T.alD H]
inductive p4(K:ah)(CT CD:du)(c:NC)(vs:!V)(H:Hp)(Q:VK)(E:XK):Prop
 |mk(F:du->Prop)(p tp ln lr dk dx:du)(ns:!Int)(rs:!R5)(o:cS ns rs)(bs:!(!Bool))(cl:!(Nat×Nat))(B:Nat)(s:NS)(cmd:ug):vs=[.ref dk,.str cmd.text]->H dk=ac (.ins CD dx [("net",.ref p)])->NW K c CT H F p tp ln lr ns rs s->TB ns rs->SK ns rs bs cl B s->B<=205000->Fits ns rs s cmd->(∀a s' F' H',WX o s cmd a s'->eT K c H' F' p tp (ge ns) s'->Step H F H' F'->Q (.str a) H')->p4 K CT CD c vs H Q E
theorem dU(T:Txt K mg w t):oM P w mg base T.eE 10 (p4 K t.bf t.eV (nc t)):=by erw[T.eE.F.iV Dl λH Q E c h=>?_];·let#[F,p,U,ln,lr,O,W,Y,S,o,bs,L,B,s,b,rfl,u,N,M,y,G,f,k]:=h;erw[_,(au (sS 2 Dl (jM cW gv pH GK (pv 1) (dj bH))) (au (cV (Dx (Wd T.P5 (xL (pv 2) aF) (je rfl T.P4 (v:=.ref t.p7) rfl)) (by with_unfolding_all rfl)) dO bR) (au (sS 3 Dl (ab7 T.P5 (je rfl T.P4 (v:=.ref t.p7) rfl) (xL (pv 2) aF) (λ_ _=>rfl))) (oR (ab8 (xT (pv 3) aF) (oW (bF (pv 0) rfl) (cG (Nq T) c T.zN (oW (pv 2) (xT (pv 3) aF)))) (.cons (nH (Ng T) c T.zF) (.cons (nH (Ku T) c T.xw) (.cons (nH (Nh T) c T.zG) (.cons (nH (OV T) c T.BD) (.cons (nH (Ni T) c T.zH) (.cons (nH (Nk T) c T.zI) (.cons (nH (OW T) c T.BE) (.cons (nH (Nl T) c T.zJ) (.cons (nH (Nm T) c T.zK) (.cons (nH (Np T) c T.zL) (.cons (nH (OY T) c T.BF) (.cons (nH (Js T) c T.uK) (.cons (nH (OX T) c T.BG) (.cons (afH T.Mi) .nil))))))))))))))))))),4];left;let q:=f.small o y G;erw[1262,(↑_),i2 q,λl R=>?_];rw[show Txt.split b.text _=b.words from aao q];let g:=aH.new (o:=.lst (gq b.words)) R;let m:=ay (H:=H) (a:=l) (o:=.lst (gq b.words));generalize upd H l (.lst (gq b.words))=H1 at g m;let i:xW (gq b.words) 0=ac (.str b.hd):=cH (j:=0) rfl;let A:CO (pc [("call",fx t.Dp),("round",.ref t.ym),("rest",.ref t.Dq),("row",.ref t.JI),("open",.ref t.Dr),("fall",.ref t.Dt),("lay",.ref t.JJ),("move",.ref t.Du),("post",.ref t.Dv),("pass",.ref t.Dw),("run",.ref t.JK),("flying",.ref t.uc),("had",.ref t.JL),("story",.ref t.Bt)]) (rF b.hd)=ac (.ref (tj t b)):=(by ext b <;> rfl);erw[1,l,9,bJ.of m,i,rF b.hd,284];rw[A];erw[fP ?_];erw[1,l,9,bJ.of m,i,rF b.hd,12,A,4];let C:=P2 T b;erw[139,C H1,2,(oC t b,xP K t.bf (nc t) b.kd),424];(·ext b <;> simp[oC,ug.kd]);erw[1,O,_,W,6,g _ _ u,T.j4,T.Mt,8139,C H1,2,l,b,2,m,q,λD H2 x r I=>?_];let X:=N.mono (g.trans x);let J:¬F D:=λz=>(by let#[o',e]:=(N.mono g).c6.there z;rw[r] at e;ext e);erw[F,p,U,ln,lr,D,Y,S,o,bs,L,B,s,b,22,bJ.of (mw J I),X,M,y,G,f,λa s' F' H' d Z n=>k a s' F' H' d Z ((Step.refl' (g.trans x)).trans n)]
theorem YO(h:kD K H qs xss):fE K H qs (xss.map λx=>x.map fw):=by exists by rw[af];exact h.len,λi q x b a=>?_;rw[ao] at a;cases e:xss[i]? with|none=>rw[e] at a;ext a|some y=>rw[e] at a;ext a;erw[h.at' i q y b e]
noncomputable abbrev AA(cl:!(Nat×Nat)):!(!Int):=cl.map λc=>[(c.1:Int),(c.2:Int)]
inductive xl(K:ah)(CT CD:du)(c:NC)(vs:!V)(H:Hp)(Q:VK)(E:XK):Prop
 |mk(dk dx:du)(ns:!Int)(rs:!R5)(cl:!(Nat×Nat)):vs=[.ref dk,.str (TX.qt ns (rs.map R5.ns) (AA cl))]->H dk=ac (.ins CD dx [])->z5 ns (rs.map R5.ns) (AA cl)->cS ns rs->ge cl<=20->(∀c∈cl,c.1<ge ns/\c.2<3)->(∀(F:du->Prop)p tp ln lr H',eT K c H' F p tp (ge ns) (S0 ns rs cl)->eN K CT (Off H' F) tp ln lr ns rs->Off H' F dk=ac (.ins CD dx [("net",.ref p)])->(∀b o,H b=ac o->b≠dk->Off H' F b=ac o)->H ln=de->H lr=de->Q .gw H')->xl K CT CD c vs H Q E
theorem Nr(T:Txt K mg w t):oI P w mg base T.zM 7 (xl K t.bf t.eV (nc t)):=by erw[T.zM.F.iV Dk λH Q E hr h=>?_];·let#[dk,dx,ns,rs,cl,rfl,ae,G,o,xR,M,k]:=h;erw[_,(au (sS 2 Dk (cG (Sm T) hr T.DA (dj (pv 1)))) (b6 (gR (pv 0) (cI T.By (OT T) hr T.alA (oW (cI T.zy (MP T) hr T.ain (oW (xT (pv 2) aF) (xT (pv 2) aF))) (xT (pv 2) aF))) rfl))),4];left;erw[1,ns,rs.map R5.ns,AA cl,2,G,λq l0 l1 l2 H1 D n0 n1 n2 ah ag aj hq h0 h1 h2=>?_];let#[us,af,Z]:=h1;let#[qs,ab,ad]:=h2;let j:=YO Z;let g:=YO ad;rw[show ((rs.map R5.ns).map λx=>x.map fw)=rs.map R5.vs by rw[bZ];rfl] at j;rw[show ((AA cl).map λx=>x.map fw)=cl.map λc=>[fw c.1,fw c.2] by rw[bZ];rfl] at g;let O:∀r∈rs,1<=r.d/\r.d<=4:=λr s=>#[(o.ok r s).d1,(o.ok r s).d4];erw[1,q,9,dH.of hq,8,q,9,dH.of hq,24];erw[λu C np Y c6=>?_];let f:aH H1 (upd (upd H1 C (.own u)) u (.ins t.bf C [])):=(aH.new Y).trans (aH.new (by rw[aY (cC c6)];erw[np]));erw[u,C,l0,l1,ns,rs,2,ay,bJ.of (f _ _ h0),#[l1,1,bJ.of (f _ _ af),aeG.agp (l:=l1) (j.mono λb x=>f.cU)],o.n1,o.V9,o.pos,o.nd,o.Sw,o.ok,λln lr B W L hT kp=>#[24]];let i:aH H1 B:=λb v e=>kp b v (f b v e) (aS e np);let aa:=D.free (f.free W);let R:=D.free (f.free L);erw[1,q,9,dH.of (i _ _ hq),24];erw[λp U n X S=>?_];let I:aH B (upd (upd B U (.own p)) p (.ins t.dF U [])):=(aH.new X).trans (aH.new (by rw[aY (cC S)];erw[n]));let V9:=o.V9;erw[p,U,u,ln,lr,l2,ns,rs,qs,cl,2,ay,hT.mono I,5,o.Sw,O,bJ.of (I _ _ (i _ _ ab)),g.mono λb x=>(i.trans I).cU,xR,M,λF H7 N kp fr=>#[24]];let J:aH B (Off H7 F):=ab1 I n kp fr;let a:=(D.trans i).trans J _ _ ae;erw[1,dk,_,dx,1,be _ _ a,T.j4,T.Mt,(by show 0<1000;decide),4];let eO:Off (upd H7 dk (.ins t.eV dx (Ab "net" (.ref p) []))) F=upd (Off H7 F) dk (.ins t.eV dx (Ab "net" (.ref p) [])):=Ed (fG a).1;let#[#[C,m],y,ak,A,ai]:=id (hT.mono J);erw[k F p u ln lr _ (N.past a n9) ?_ (by rw[eO,ay];rfl) (λb v e z=>by rw[eO];erw[cj b v ((D.trans i).trans J _ _ e) z]) aa R];rw[eO];erw[(hT.mono J).keep (λb v e z=>cj b v e λzz=>by rw[zz] at z;obtain z|z|z:=z;rw[<- z,a] at m;let e:=(HO.ins.inj (aI m)).2.2;ext e;rw[<- z,a] at y;ext y;rw[<- z,a] at A;ext A) (λb x=>dH.past a n9 cj)]
theorem kY(y:Int){n:Nat}(h:0<n):∃x:Nat,y%(n:Int)=(x:Int)/\x<n:=by let b:=iZ y (show (n:Int)≠0 by lia);let a:=ig y (show (0:Int)<(n:Int) by lia);erw[(y%(n:Int)).toNat,55]
inductive U5(vs:!V)(H:Hp)(Q:VK)(E:XK):Prop
 |mk(c:Int)(n:Nat):vs=[.int c,.int n]->2<=n->n<=10->(∀(r:R5)q H',r.Ok n->r.c<=10^41->aH H H'->H' q=ac (.tup r.vs)->Q (.ref q) H')->U5 vs H Q E
theorem aap(T:Txt K mg w t):oG P w mg base T.Mj 1 U5:=by erw[T.Mj.F.iV An λH Q E G h=>?_];·let#[c,n,rfl,C,p,k]:=h;erw[_,(au (sS 2 An (ck ir (pv 0) (pv 1))) (au (sS 0 An (ck mC (pv 0) (pv 1))) (au (sS 3 An (ck ir (ck kj (ck kj (pv 2) aF) (ck ir (pv 0) (ck Vx (pv 1) aF))) (pv 1))) (au (sS 0 An (ck mC (pv 0) (ck Vx (pv 1) aF))) (oR (i6 (Ev (pv 2) (pv 3) (ck kj aF (ck ir (ck mC (pv 0) aF) (ck Da aF aF))) (ck kj aF (ck ir (pv 0) aF)) (ck kj aF (ck ir (ck mC (pv 0) aF) aF))))))))),4];left;let#[x,i,v]:=kY c (show 0<n by lia);erw[3862,(by show (0:Int)<(n:Int);lia),4];show iU 2 (fw (c%(n:Int))) _ _ _;rw[i];erw[3862,#[55],4];show iU 0 (fw (c/(n:Int))) _ _ _;generalize c/(n:Int)=a;let f:(0:Int)<(n:Int)-1:=∅;let o:=iZ a (show (n:Int)-1≠0 by lia);let l:=ig a f;erw[16816262,f,6862,(by show (0:Int)<(n:Int);lia),4];show iU 3 (fw (((x:Int)+1+a%((n:Int)-1))%(n:Int))) _ _ _;let#[y,e,B]:=kY ((x:Int)+1+a%((n:Int)-1)) (show 0<n by lia);let m:x≠y:=λz=>(by subst z;generalize a%((n:Int)-1)=d at o l e;let:=Int.emod_emod_of_dvd ((x:Int)+1+d) (Int.dvd_refl (n:Int));by_cases g:(x:Int)+1+d<n;rw[Int.emod_eq_of_lt ∅ g] at e;lia;rw[<- Int.sub_emod_right,Int.emod_eq_of_lt ∅ ∅] at e;lia);rw[e];erw[386262,#[f,5],4];show iU 0 (fw (a/((n:Int)-1))) _ _ _;generalize a/((n:Int)-1)=c2;let b:(0:Int)<10^(40:Int).toNat:=!_;erw[138062,#[!_,!_,!_],62,b,6862,(by show (0:Int)<4;decide),68062,(by show (0:Int)<7;decide),62,aaC,λq j=>?_];let u:=iZ (c2/28) (show (10:Int)^(40:Int).toNat≠0 by decide);let I:=ig (c2/28) b;let J:=iZ c2 (show (4:Int)≠0 by decide);let A:=ig c2 (show (0:Int)<4 by decide);let s:=iZ (c2/4) (show (7:Int)≠0 by decide);let r:=ig (c2/4) (show (0:Int)<7 by decide);let D:(10:Int)^(40:Int).toNat<=10^41:=!_;erw[k #[x,y,1+c2/28%10^(40:Int).toNat,1+c2%4,1+c2/4%7] q _ ?_ (by show 1+c2/28%10^(40:Int).toNat<=_;lia) (aH.new j) ay];exists by show (0:Int)<=x;lia,by show (x:Int)<n;lia,by show (0:Int)<=y;lia,by show (y:Int)<n;lia,by show (x:Int)≠y;lia,by show 1<=1+_;lia,by show 1<=1+_;lia,by show 1+_<=4;lia,by show 1<=1+_;lia,by show 1+_<=7;lia
noncomputable abbrev OZ(cl:!(Nat×Nat)):!(!V):=cl.map λc=>[.int c.1,.int c.2]
noncomputable def Fi(sd:Int)(n:Nat)(k:Nat):Int:=(sd+3)*((k:Int)+1)*48271%2147483647/7%1000*(n:Int)+((k:Int)+sd)%(n:Int)
theorem i4{n:Nat}(a:0<n):Fi sd n k%(n:Int)=((k:Int)+sd)%(n:Int):=by delta Fi;rw[Int.add_emod,Int.mul_emod_left,cT,Int.emod_emod,Int.emod_emod]
theorem adn{n:Nat}(h:0<n)(e:n<=10):0<=Fi sd n k/\Fi sd n k<10^50:=by delta Fi;let a:=iZ ((sd+3)*((k:Int)+1)*48271%2147483647/7) (show (1000:Int)≠0 by decide);let c:=ig ((sd+3)*((k:Int)+1)*48271%2147483647/7) (show (0:Int)<1000 by decide);generalize (sd+3)*((k:Int)+1)*48271%2147483647/7%1000=x at a c;let b:=iZ ((k:Int)+sd) (show (n:Int)≠0 by lia);let d:=ig ((k:Int)+sd) (show (0:Int)<(n:Int) by lia);generalize ((k:Int)+sd)%(n:Int)=y at b d;let i:0<=x*(n:Int):=Int.mul_nonneg a ∅;let f:x*(n:Int)<=1000*10:=Int.mul_le_mul ∅ ∅ ∅ (!_);let g:(20000:Int)<10^50:=!_;lia
theorem afI{n:Nat}(f:0<n):((av n).map (Fi sd n)).Nodup:=by delta List.Nodup;rw[mQ];erw[List.Pairwise.imp_of_mem (λ{i j}c b a e=>a ?_) (AL (n:=n))];let c:=bO.mp c;let b:=bO.mp b;let e:=gZ (·%(n:Int)) e;simp only[i4 f] at e;let g:((i:Int)+sd-((j:Int)+sd))%(n:Int)=0:=(by rw[Int.sub_emod,e,Int.sub_self,Int.zero_emod]);let d:((i:Int)-(j:Int))%(n:Int)=0:=(by rw[show (i:Int)-(j:Int)=(i:Int)+sd-((j:Int)+sd) by lia];erw[g]);obtain h|h:=Int.le_total (j:Int) (i:Int);rw[Int.emod_eq_of_lt ∅ ∅] at d;lia;let:((j:Int)-(i:Int))%(n:Int)=0:=(by rw[show (j:Int)-(i:Int)=-((i:Int)-(j:Int)) by lia];erw[Int.emod_eq_zero_of_dvd (Int.dvd_neg.mpr (Int.dvd_of_emod_eq_zero d))]);rw[Int.emod_eq_of_lt ∅ ∅] at this;lia
inductive U6(K:ah)(vs:!V)(H:Hp)(Q:VK)(E:XK):Prop
 |mk(a:du)(cs:!Int):vs=[.ref a]->bJ K H a (cs.map fw)->(∀q a0 b0 c0 ns rs cl(us qs:!du)H',aH H H'->H' q=ac (.tup [.ref a0,.ref b0,.ref c0])->H' a0=ac (.lst (ns.map fw))->H' b0=ac (.lst (us.map fx))->fE K H' us (rs.map R5.vs)->H' c0=ac (.lst (qs.map fx))->fE K H' qs (OZ cl)->cS ns rs->TB ns rs->ge ns<=5->ge rs<=8->ge cl<=5->(∀c∈cl,c.1<ge ns/\c.2<3)->Q (.ref q) H')->U6 K vs H Q E
theorem aaq(T:Txt K mg w t):oG P w mg base T.Ml 2 (U6 K):=by erw[T.Ml.F.iV jo λH Q E hr h=>?_];·let#[a,cs,rfl,hS,k]:=h;erw[_,(au (sS 1 jo (ck kj aF (ck ir (cG (vQ T) hr T.p8 (oW (pv 0) aF)) aF))) (au (sS 2 jo (ck ir (cG (vQ T) hr T.p8 (oW (pv 0) aF)) (ck Da aF aF))) (au (sS 3 jo (eB gx)) (au (fS (eW rfl T.gF (dj (pv 1))) (gT 4 jo) (au (sS 5 jo (ck K1 (ck ir (ck mC (ck ir (ck K1 (ck K1 (ck kj (pv 2) aF) (ck kj (pv 4) aF)) aF) aF) aF) aF) (pv 1))) (oE (jM bK bT bS fY (pv 3) (dj (ck kj (pv 5) (ck ir (ck kj (pv 4) (pv 2)) (pv 1)))))))) (au (sS 6 jo (eB gx)) (au (cV (qT si (pv 1) aF) (b6 (kC (i:=6) jo.nd rfl (Or.inl rfl) (kO jo ["_law_k","_law_script","_law_size"] [de,ac 0,ac 1]) rfl (eW rfl T.gF (dj (ck kj aF (ck ir (ck mC (pv 2) aF) aF)))) (~~~(gS 0 Rj)) (~~~fj) (~~~(cG (aap T) hr T.Mj (oW (cG (vQ T) hr T.p8 (oW (pv 1) (ck kj aF (pv 0)))) (pv 2)))))) bR) (au (sS 7 jo (eB gx)) (au (fS (eW rfl T.gF (dj (ck ir (ck mC (pv 2) aF) aF))) (gT 4 jo) (au (sS 8 jo (cG (vQ T) hr T.p8 (oW (pv 0) (ck kj aF (pv 4))))) (oE (jM bK bT bS fY (pv 7) (dj (i6 (oW (ck ir (pv 8) (pv 1)) (ck K1 (ck ir (ck mC (pv 8) (pv 1)) aF) (ck ir (ck mC (pv 2) aF) aF))))))))) (oR (i6 (Lv (pv 3) (pv 6) (pv 7)))))))))))),4];left;erw[bY λNx f=>?_];erw[1,a,cs,(0),2,hS,!_,_,_,rfl,rfl,(by show (0:Int)<5;decide),624];obtain⟨n,hn,aT,aV⟩:∃n:Nat,1+cs.getD (0:Int).toNat 0%5=(n:Int)/\1<=n/\n<=5:=(by let h1:=iZ (cs.getD (0:Int).toNat 0) (show (5:Int)≠0 by decide);let W:=ig (cs.getD (0:Int).toNat 0) (show (0:Int)<5 by decide);erw[(1+cs.getD (0:Int).toNat 0%5).toNat,555]);let ae:n<=10:=∅;show iU 1 (fw (1+cs.getD (0:Int).toNat 0%5)) _ _ _;rw[hn];erw[f _ _ ?_];erw[bY λNx f=>?_];let aL:(0:Int)<10^(50:Int).toNat:=!_;erw[1,a,cs,(1),2,hS,!_,_,_,rfl,rfl,#[!_,!_,!_],62,aL,4];let aO:=iZ (cs.getD (1:Int).toNat 0) (show (10:Int)^(50:Int).toNat≠0 by decide);show iU 2 (fw (cs.getD (1:Int).toNat 0%10^(50:Int).toNat)) _ _ _;generalize cs.getD (1:Int).toNat 0%10^(50:Int).toNat=sd at aO;erw[f _ _ ?_];erw[bY λNx f=>?_];erw[bL _,λA aq=>f _ _ ?_];let u1:=aH.new (o:=.lst []) aq;let h1:=ay (H:=H) (a:=A) (o:=.lst []);generalize upd H A (.lst [])=H1 at u1 h1;erw[bY λNx f=>?_];erw[1,(n:Int),255,D3 (n:=((n:Int)).toNat) (λi B H2=>aH H H2/\H2 A=ac (.lst (((av i).map (Fi sd n)).map fw))/\∃R v5:Option V,B=[ac (.ref a),ac (.int (n:Nat)),ac (.int sd),ac (.ref A),R,v5,de,de,de]) #[u1,h1,6] ?_ ?_];intro i B H2 hi ⟨s2,W,R,v5,rfl⟩;rw[cT];let hi:i<n:=∅;erw[1686262,.inr #[55],62,.inr #[!_,!_],62,(by show (0:Int)<2147483647;decide),_,_,rfl,rfl,#[!_,!_],_,_,rfl,rfl,(by show (0:Int)<1000;decide),162,.inr #[55],4];exists 1,.inl #[23,bJ.of W],1386862,(by show (0:Int)<(n:Int);lia),62,A,62,W,by rw[af,af,aX];exact bP ∅,4;exists λb o e=>by rw[aY (aS e aq)];exact s2 b o e,46;rw[ay,fk,aN,aN];rfl;intro B H2 ⟨s2,W,R,v5,rfl⟩;rw[cQ] at W;erw[f _ _ ?_];let tn:ge ((av n).map (Fi sd n))=n:=(by rw[af,aX]);let ag:=afI (sd:=sd) (show 0<n by lia);let u:∀x∈(av n).map (Fi sd n),0<=x/\x<10^50:=λx O=>(by let#[i,_,rfl]:=aG.mp O;erw[adn ∅ ae]);generalize (av n).map (Fi sd n)=ns at W tn ag u;erw[bY λNx f=>?_];erw[bL _,λl2 aA=>f _ _ ?_];let u3:=aH.new (o:=.lst []) aA;let s3:=s2.trans u3;let al:=u3 _ _ W;let am:=ay (H:=H2) (a:=l2) (o:=.lst []);generalize upd H2 l2 (.lst [])=H3 at u3 s3 al am;erw[xY (λB H4=>∃(U:du)(d:!du)(rs:!R5),aH H3 H4/\H4 U=ac (.lst (d.map fx))/\fE K H4 d (rs.map R5.vs)/\(∀r∈rs,r.Ok n/\r.c<=10^41)/\ge rs<=8/\B=[ac (.ref a),ac (.int (n:Nat)),ac (.int sd),ac (.ref A),R,v5,ac (.ref U),de,de]) ?_ (λN' hN=>?_)];rotate_left;(·erw[168,lZ (λe=>?_) (λe=>?_)];rotate_left;erw[hN _ _ #[l2,[],[],aH.refl _,am,#[2,λi q x z=>(by ext z)],λr z=>(by ext z),bL _,2]];let n2:2<=n:=(by let:=g4 e;lia);erw[1062,(by show (0:Int)<8;decide),624];let#[m0,aw,aQ]:=kY (sd/5) (show 0<8 by decide);(try dsimp only);rw[show sd/5%8=(m0:Int) from aw,show (1:Int)+(m0:Int)=((m0+1:Nat):Int) by lia];let ar:m0+1<=8:=∅;generalize m0+1=m at ar;erw[(m:Int),255,λap J=>?_];erw[fK (n:=((m:Int)).toNat) (λi ys Z=>∃(d:!du)(rs:!R5),ys=d.map fx/\fE K Z d (rs.map R5.vs)/\(∀r∈rs,r.Ok n/\r.c<=10^41)/\ge rs=i) J wB mU #[[],[],2,#[2,λi q x z=>(by ext z)],λr z=>(by ext z),2] ?_ ?_];intro i ys Z hi L hy ⟨d,rs,rfl,G,j,X⟩ x H6 ⟨rfl,rfl⟩;rw[cT];let ax:=(s3.trans L).seq hS;erw[3862,a,cs,1,ax,513,n,2,n2,ae,λr q l ro rc I hq=>?_];let ul:ge d=ge rs:=(by rw[G.len,af]);erw[dS J hi (L.trans I) (I _ _ hy) (by rw[af,ul,X];erw[bP ∅]) #[d++[q],rs++[r],by rw[aN];rfl,44,by rw[az,X];rfl]];let kt:∀b x,dH K l b x->dH K (upd l ap (.lst (d.map fx++[.ref q]))) b x:=λb x=>dH.past (I _ _ hy) jm cj;let:=fE.snoc (G.mono λb x=>I.cU) (dH.of hq);rw[aN];erw[this.mono kt];intro r' p;obtain z|z:=aR.mp p;erw[j r' z];rw[aP.mp z];erw[ro,rc];intro ys Z L hy ⟨d,rs,rfl,G,j,X⟩;erw[hN _ _ #[ap,d,rs,L,hy,G,j,52]]);intro B H4 ⟨U,d,rs,ah,aj,aM,j,aK,rfl⟩;let s4:=s3.trans ah;let ab:=ah _ _ al;erw[bY λNx f=>?_];erw[bL _,λs C=>f _ _ ?_];let u5:=aH.new (o:=.lst []) C;let L:=s4.trans u5;let ad:=u5 _ _ ab;let ai:=u5 _ _ aj;let aa:fE K _ d (rs.map R5.vs):=aM.mono λb x=>u5.cU;let S:=ay (H:=H4) (a:=s) (o:=.lst []);let aC:A≠s:=aS ab C;let aJ:U≠s:=aS aj C;let ao:=s4.free C;generalize upd H4 s (.lst [])=Z at u5 L ad ai aa S;erw[bY λNx f=>?_];let#[m,em,hm]:=kY (sd/40) (show 0<6 by decide);erw[1062,(by show (0:Int)<6;decide),4];let em:sd/40%6=(m:Int):=em;rw[em];erw[(m:Int),255,D3 (n:=((m:Int)).toNat) (λi B l=>(∀b o,Z b=ac o->b≠s->l b=ac o)/\∃(M:!du)(cl:!(Nat×Nat))(R v9:Option V),l s=ac (.lst (M.map fx))/\fE K l M (OZ cl)/\ge cl=i/\(∀c∈cl,c.1<n/\c.2<3)/\B=[ac (.ref a),ac (.int (n:Nat)),ac (.int sd),ac (.ref A),R,v5,ac (.ref U),ac (.ref s),v9]) #[λb o e _=>e,[],[],33,S,#[2,λi q x z=>(by ext z)],2,λc z=>(by ext z),2] ?_ ?_];(·intro i B l hi ⟨Y,M,cl,R,v9,D,CI,X,N,rfl⟩;rw[cT];let hi:i<6:=∅;let aD:bJ K l a (cs.map fw):=(by let I:aH H l:=λb o e=>Y b o (L b o e) (aS e ao);erw[I.seq hS]);erw[3862,a,cs,1,aD,54];(try dsimp only);generalize cs.getD (10+(i:Int)).toNat 0=cc;let#[x,ex,O]:=kY cc (show 0<n by lia);let#[y,ey,hy]:=kY (cc/(n:Int)) (show 0<3 by decide);let#[z,ez,hz]:=kY (sd/240) (show 0<2 by decide);let aI:∃g:Nat,(y:Int)*(z:Int)=(g:Int)/\g<3:=#[y*z,by rw[Int.natCast_mul],by let:z=0\/z=1:=∅;obtain rfl|rfl:=this;rw[Nat.mul_zero];decide;rw[Nat.mul_one];erw[hy]];let#[g,eg,hg]:=aI;erw[1,.inl #[23,bJ.of D],3862,(by show (0:Int)<(n:Int);lia),3862,#[55],62,(by show (0:Int)<3;decide),1062,(by show (0:Int)<2;decide),4];(try dsimp only);rw[ex,show cc/(n:Int)%3=(y:Int) from ey,show sd/240%2=(z:Int) from ez];erw[62,.inr #[55],4];(try dsimp only);rw[eg];erw[g5,λq hq=>?_];let v:=aH.new (o:=.tup [fw (x:Nat),fw (g:Nat)]) hq;let h8:=ay (H:=l) (a:=q) (o:=.tup [fw (x:Nat),fw (g:Nat)]);let ak:=v _ _ D;let ql:ge M=i:=(by rw[CI.len,af,X]);exists s,62,ak,by rw[af,ql];exact bP ∅,4;exists λb o e nb=>by rw[aY nb];exact v _ _ (Y b o e nb),M++[q],cl++[(x,g)],33,by rw[ay,aN];rfl,4,by rw[az,X];rfl,42;let kt:∀b x,dH K _ b x->dH K (upd _ s (.lst (M.map fx++[.ref q]))) b x:=λb x=>dH.past ak jm cj;let:=fE.snoc (CI.mono λb x=>v.cU) (dH.of h8);show fE K _ _ ((cl++[(x,g)]).map _);rw[aN];erw[this.mono kt];intro c hc;obtain z|z:=aR.mp hc;erw[N c z];rw[aP.mp z];erw[O,hg]);intro B l ⟨Y,M,cl,aU,v9,D,CI,X,N,rfl⟩;erw[f _ _ ?_];let kt:∀b x,dH K Z b x->dH K l b x:=λb x=>dH.past S jm Y;let aB:=Y _ _ ad aC;let as:=Y _ _ ai aJ;let aE:=aa.mono kt;let I:aH H l:=λb o e=>Y b o (L b o e) (aS e ao);erw[138,vD,λq hq=>?_];let v:=aH.new (o:=.tup [fx A,fx U,fx s]) hq;let an:n=ge ns:=tn.symm;erw[k q A U s ns rs cl d M _ (I.trans v) ay (v _ _ aB) (v _ _ as) (aE.mono λb x=>v.cU) (v _ _ D) (CI.mono λb x=>v.cU) #[ag,λr p=>an▸(j r p).1,555,λx O=>(u x O).1] #[λx O=>(u x O).2,λr p=>(j r p).2] ∅ aK ∅ (an▸N)]
theorem afJ{X:Cx}(K:ah)(h:X.K=K)(hl:PE X l tl):PI X tg l (vk K tl):=by subst h;erw[QB hl]
theorem U7{X:Cx}(K:ah)(h:X.K=K):qO X "str.join" (i3 K):=by subst h;erw[GL]
theorem aar(h:D8 scope {kind:=.function,names:=[],isGenerator:=dr,isCoroutine:=dr} [] N2 cap=df):ku X scope N2 cap:=by erw[Px rfl rfl ?_];delta D8 at h ⊢;simp only[dh] at h ⊢;obtain⟨⟨⟨⟨⟨⟨⟨f,d⟩,e⟩,b⟩,l⟩,c⟩,g⟩,a⟩:=h;erw[#[#[#[#[#[#[f,d],e],4],l],c],g],4];rw[jl] at b ⊢;intro y j;let:=b y j;rw[qi] at this ⊢;obtain z|z:=this;erw[.inl z];ext z;rw[jl] at a ⊢;intro i k;let:=a i k;split at this;ext this;rfl
theorem kN(b:!Str)(a:!(Option Nat))(h:D8 scope {kind:=.function,names:=[],isGenerator:=dr,isCoroutine:=dr} [] b a=df:=by decide +kernel):ku X scope b a:=aar h
theorem Jt{a:Str}{ns:!Int}(d:a.length<=60)(c:∀n∈ns,TX.Wr n)(b:ge ns<=12):((TX.wordsOf a ns).map (·.length)).sum+ge (TX.wordsOf a ns)*TX.oz.length<=16777216:=by let:=TX.PR d c;let:(ge ns+1)*61<=13*61:=Nat.mul_le_mul_right _ ∅;lia
theorem Nt{ns:!Int}:(av (ge ns)).map (λi=>fA (TX.num (ns.getD i 0)))=(ns.map TX.num).map fA:=by erw[k6 (-_) λi c a=>?_];let b:i<ge ns:=a⁻¹;simp only[AM,wc,ak,aa b];rfl
inductive U8(K:ah)(vs:!V)(H:Hp)(Q:VK)(E:XK):Prop
 |mk(q a0 b0 c0:du)(ns:!Int)(rs:!R5)(cl:!(Nat×Nat))(us qs:!du):vs=[.ref q]->dH K H q [.ref a0,.ref b0,.ref c0]->bJ K H a0 (ns.map fw)->bJ K H b0 (us.map fx)->fE K H us (rs.map R5.vs)->bJ K H c0 (qs.map fx)->fE K H qs (OZ cl)->z5 ns (rs.map R5.ns) (AA cl)->(∀H',aH H H'->Q (.str (TX.qt ns (rs.map R5.ns) (AA cl))) H')->U8 K vs H Q E
theorem aas(T:Txt K mg w t):oG P w mg base T.Mm 1 (U8 K):=by erw[T.Mm.F.iV vS λH Q E hr h=>?_];·let#[q,a0,b0,c0,ns,rs,cl,u,s,rfl,hq,hA,hB,U,hC,CI,G,k]:=h;erw[_,(au (sS 1 vS (eB (dj (jM cW lg k9 GL bH (dj (ck CN (eB (dj bH)) (dP (kO vS ["_law_name"] [de]) rfl (cY (xT (pv 0) aF)) (~~~(gS 0 Rk)) (~~~fj) (~~~(cJ ko (by rfl) T.MA boot_str (dj (pv 0))))))))))) (au (sS 1 vS (ck CN (pv 1) (dP (kO vS ["_law_rope_here"] [de]) rfl (cY (xT (pv 0) aF)) (~~~(gS 0 Rl)) (~~~fj) (~~~(V7 K rfl cW lg k9 (U7 K rfl) bH (dj (ck CN (eB (dj bH)) (dP (kN ["_law_number"] [de]) rfl (afJ K rfl (pv 0)) (~~~(gS 0 Rm)) (~~~fj) (~~~(cJ ko (by rfl) T.MA boot_str (dj (pv 0)))))))))))) (oR (jM cW lg k9 GL bH (dj (ck CN (pv 1) (dP (kO vS ["_law_pair"] [de]) rfl (cY (xT (pv 0) aF)) (~~~(gS 0 Ro)) (~~~fj) (~~~(V7 K rfl cW lg k9 (U7 K rfl) bH (dj (eB (Lv bH (cJ ko (by rfl) T.MA boot_str (dj (yT K (pv 0) aF))) (cJ ko (by rfl) T.MA boot_str (dj (yT K (pv 0) aF))))))))))))))),4];left;erw[2,IU,λl1 am=>?_];let Z:=aH.new (o:=.lst [fA "names"]) am;let h1:=ay (H:=H) (a:=l1) (o:=.lst [fA "names"]);generalize upd H l1 (.lst [fA "names"])=H1 at Z h1;let A:=Z.seq hA;erw[1,q,9,Z.cU hq,2,a0,2,#[_,A],λal O=>?_];let el:ge (ns.map fw)=ge ns:=af _;erw[nV (n:=ge (ns.map fw)) (λi=>.int (ns.getD i 0)) (λi=>fA (TX.num (ns.getD i 0))) O (jC A) (fQ A) (λi H2 x H3 c N b=>?_) (by let:=G.l1;lia) (λi H2 R S c N h1=>?_) (λH2 N hy=>?_)];let#[rfl,b]:=b;let b:=b _ (N.seq A);rw[el] at c;rw[ao,aa c] at b;erw[2,by rw[ak,aa c];erw[(aI b).symm]];rw[el] at c;let hw:TX.Wr (ns.getD i 0):=(by rw[ak,aa c];erw[G.h1 _ (aB c)]);erw[38,iI hw,h1 H2 (aH.refl _)];rw[el,Nt] at hy;let ap:=G.l1;erw[l1,al,62,N _ _ h1,hy,(by simp only[af,bG,qe];erw[gp (bP ∅)]),λl9 C=>?_];erw[_,l9,TX.wordsOf "names" ns,22,bJ.of ay,Jt (!_) G.h1 G.l1,4];rw[show Txt.join (" " : Str) (TX.wordsOf "names" ns)=TX.fJ "names" ns from rfl];let s3:=aH.new (o:=.lst ([fA "names"]++(ns.map TX.num).map fA)) C;generalize upd H2 l9 (.lst ([fA "names"]++(ns.map TX.num).map fA))=H3 at s3;erw[IU,λl2 ab=>?_];let u4:=aH.new (o:=.lst [fA (TX.fJ "names" ns)]) ab;let W:=ay (H:=H3) (a:=l2) (o:=.lst [fA (TX.fJ "names" ns)]);let Y:=(Z.trans N).trans (s3.trans u4);generalize upd H3 l2 (.lst [fA (TX.fJ "names" ns)])=H4 at u4 W Y;let ai:ge u=ge rs:=(by rw[U.len,af]);let z:=Y.seq hB;erw[38,q,9,Y.cU hq,2,b0,2,#[_,z],λU9 EW=>?_];let aq:∀r∈rs,ge r.ns<=12:=λr _=>(by show 5<=12;decide);erw[nV (n:=ge (u.map fx)) (λi=>(u.map fx).getD i .gw) (λi=>fA (((rs.map R5.ns).map (TX.fJ "rope")).getD i Str.empty)) EW (jC z) (fQ z) (λi I x H6 c J b=>?_) (by let:=G.m2;rw[af] at this ⊢;lia) (λi I R S c J h1=>?_) (λI J Yl=>?_)];let#[rfl,b]:=b;let b:=b _ (J.seq z);erw[2,by rw[ak,b];rfl];let l:i<ge u:=(by rw[af] at c;erw[c]);let p:i<ge rs:=∅;let e1:(u.map fx).getD i .gw=.ref u[i]:=(by rw[ak,ao,aa l];rfl);let e2:((rs.map R5.ns).map (TX.fJ "rope")).getD i Str.empty=TX.fJ "rope" rs[i].ns:=(by rw[ak,ao,ao,aa p];rfl);rw[e1];rw[e2] at h1;let hT:=(Y.trans J).cU (U.at' i u[i] rs[i].vs (aa l) (by rw[ao,aa p];rfl));erw[2,IU,λD B=>?_];let L:=aH.new (o:=.lst [fA "rope"]) B;let m:=ay (H:=I) (a:=D) (o:=.lst [fA "rope"]);generalize upd I D (.lst [fA "rope"])=H6 at L m;let y:=L.cU hT;let d:=G.h2 rs[i].ns (aG.mpr #[_,aB p,2]);erw[1,u[i],2,#[_,y],λan O0=>?_];erw[nV (n:=ge rs[i].vs) (λj=>.int (rs[i].ns.getD j 0)) (λj=>fA (TX.num (rs[i].ns.getD j 0))) O0 (QV y) (GF y) (λj M x H8 hj e b=>?_) (by show 5<=1000000;decide) (λj M R' S' hj e h2=>?_) (λM e f=>?_)];let#[rfl,b]:=b;let b:=b _ (e.cU y);let g:j<ge rs[i].ns:=hj;rw[show rs[i].vs=rs[i].ns.map fw from rfl,ao,aa g] at b;erw[2,by rw[ak,aa g];erw[(aI b).symm]];let g:j<ge rs[i].ns:=hj;let hw:TX.Wr (rs[i].ns.getD j 0):=(by rw[ak,aa g];erw[d _ (aB g)]);erw[38,iI hw,h2 M (aH.refl _)];rw[show ge rs[i].vs=ge rs[i].ns from rfl,Nt] at f;erw[D,an,62,e _ _ m,f,(by show 1+5<=eD;decide),λl9 C=>?_];erw[_,l9,TX.wordsOf "rope" rs[i].ns,22,bJ.of ay,Jt (!_) d (by show 5<=12;decide),h1 _ (L.trans (e.trans (aH.new C)))];let ey:(av (ge (u.map fx))).map (λi=>fA (((rs.map R5.ns).map (TX.fJ "rope")).getD i Str.empty))=((rs.map R5.ns).map (TX.fJ "rope")).map fA:=(by erw[k6 (by simp[ai]) λi h1 h2=>?_];let p:i<ge rs:=h2⁻¹;simp only[AM,wc,ak,ao,aa p];rfl);rw[ey] at Yl;let m2:=G.m2;let m3:=G.m3;rw[af] at m2 m3;erw[l2,U9,62,J _ _ W,Yl,(by simp only[af,bG,qe];erw[gp (bP ∅)]),λD B=>?_];let L:=aH.new (o:=.lst ([fA (TX.fJ "names" ns)]++((rs.map R5.ns).map (TX.fJ "rope")).map fA)) B;let m:=ay (H:=I) (a:=D) (o:=.lst ([fA (TX.fJ "names" ns)]++((rs.map R5.ns).map (TX.fJ "rope")).map fA));let X:=Y.trans (J.trans L);generalize upd I D (.lst ([fA (TX.fJ "names" ns)]++((rs.map R5.ns).map (TX.fJ "rope")).map fA))=H6 at L m X;let ad:ge s=ge cl:=(by rw[CI.len,af]);let v:=X.seq hC;erw[81,q,9,X.cU hq,2,c0,2,#[_,v],λae aj=>?_];erw[nV (n:=ge (s.map fx)) (λi=>(s.map fx).getD i .gw) (λi=>fA (((AA cl).map (TX.fJ "caller")).getD i Str.empty)) aj (jC v) (fQ v) (λi M x H8 c e b=>?_) (by rw[af];lia) (λi M R S c e h1=>?_) (λM e f=>?_)];let#[rfl,b]:=b;let b:=b _ (e.seq v);erw[2,by rw[ak,b];rfl];let l:i<ge s:=(by rw[af] at c;erw[c]);let p:i<ge cl:=∅;let e1:(s.map fx).getD i .gw=.ref s[i]:=(by rw[ak,ao,aa l];rfl);let e2:((AA cl).map (TX.fJ "caller")).getD i Str.empty=TX.fJ "caller" [(cl[i].1:Int),(cl[i].2:Int)]:=(by rw[ak,ao,ao,aa p];rfl);rw[e1];rw[e2] at h1;let hT:=(X.trans e).cU (CI.at' i s[i] [fw cl[i].1,fw cl[i].2] (aa l) (by rw[ao,aa p];rfl));let d:=G.h3 [(cl[i].1:Int),(cl[i].2:Int)] (aG.mpr #[_,aB p,2]);let w1:=d _ aM;let w2:=d _ (aO _ aM);erw[8,s[i],9,hT,8,iI w1,1,s[i],9,hT,8,iI w2,vD,λl5 ah=>?_];erw[_,l5,TX.wordsOf "caller" [(cl[i].1:Int),(cl[i].2:Int)],22,bJ.of ay,Jt (!_) d (by show 2<=12;decide),h1 _ (aH.new ah)];let ey:(av (ge (s.map fx))).map (λi=>fA (((AA cl).map (TX.fJ "caller")).getD i Str.empty))=((AA cl).map (TX.fJ "caller")).map fA:=(by erw[k6 (by simp[ad]) λi h1 h2=>?_];let p:i<ge cl:=h2⁻¹;simp only[AM,wc,ak,ao,aa p];rfl);rw[ey] at f;erw[D,ae,62,e _ _ m,f,(by simp only[af,az,bG,qe];erw[gp (bP ∅)]),λl6 ag=>?_];erw[_,l6,TX.partsOf ns (rs.map R5.ns) (AA cl),22,bJ.of (by rw[ay];delta TX.partsOf;rw[bz,aN];rfl),4,k _ ((X.trans e).trans (aH.new ag))];let:=G.sum;erw[aJ this (!_)]
end
section
variable{ns:!Int}{rs:!R5}{bs:!(!Bool)}{cl:!(Nat×Nat)}{B D:Nat}{s s':NS}{o:cS ns rs}
structure KS(o:cS ns rs)(bs:!(!Bool))(cl:!(Nat×Nat))(s:NS):Prop where
 r8:ge rs<=8
 sk:SK ns rs bs cl (1700*ge s.ls) s
 ld:Ld o s
theorem KS.rnd{g m:Nat}(e:TB ns rs)(h:KS o bs cl s)(d:g<3)(c:m<=ge ns)(r:j5 o g m s k s'):KS o bs cl s':=by exists h.r8,by rw[r.ln.1];exact h.sk.rnd e d c r,4;let a:=h.ld;clear h;induction r with|zero=>erw[a]|succ _ _ _ b=>erw[(b ∅ a).call]
theorem KS.ps(h:KS o bs cl s)(p:Ps o k s x s'):KS o bs cl s':=by let f:=(h.sk.ps p).1;let#[D,b,_]:=h.sk;let#[i,l,os,j,e,a,O,_,g,_,rfl,_]:=p;exists h.r8,by rw[Na a];exact f,h.ld.pass (λc d=>(b.bd.cl c d).1) e a (b.bd.lb l (aD a)).2.2.1 O g
theorem KS.rn(h:KS o bs cl s)(r:Rn o s k s'):KS o bs cl s':=by induction r with|zero=>erw[h]|succ _ p a=>erw[(a h).ps p]
theorem KS.ajv(l:TB ns rs)(h:KS o bs cl s)(f:Fits ns rs s c)(d:WX o s c x s'):KS o (oP bs c) (oD cl c) s':=by let n:=h.sk.ajv l h.r8 f d;rw[<- Nat.mul_add,<- d.ln] at n;let#[D,b,_]:=id h.sk;erw[h.r8,n,4];cases c with|round g=>let#[k,r,_]:=d;erw[(h.rnd l f (aA _) r).ld]|call y g=>let#[_,_,_,rfl,_]:=d;erw[h.ld.call]|Az i z=>let#[w,r,j,a,rfl,_]:=d;erw[h.ld.Az a j]|lay i z=>let#[w,r,t,j,a,m,_,rfl,_]:=d;erw[h.ld.lay a j λe=>(by rw[e] at m;let:=m.length_eq;simp at this)]|move c y=>let#[rfl,_]:=d;erw[h.ld.move (by rw[b.bd.gl];erw[f.1])]|post c q=>let#[os,O,_,rfl,_]:=d;erw[h.ld.post f.1 (by rw[b.bd.gl];erw[f.1]) (λc p=>(b.bd.cl c p).1) O]|pass k=>erw[(h.ps d).ld]|run=>let#[k,r,_]:=d;erw[(h.rn r).ld]|_=>let#[rfl,_]:=d;erw[h.ld]
end
section
variable{ns:!Int}{rs:!R5}{bs:!(!Bool)}{cl:!(Nat×Nat)}{b x:Nat}{to:Option Nat}{os:Nat->!Nat}{s s':NS}{o:cS ns rs}
theorem afK{s:NS}{x:Nat}:(nB s g x d).R g=RM.upd (s.R g) x d/\(nB s g x d).ws=s.ws:=by delta nB;split;rename_i e;exists 42;funext y;delta RM.upd;split;rename_i z;rw[z,e];rfl;erw[c9,2]
theorem Va{g x g':Nat}(h:g'≠g):(nB s g x d).R g'=s.R g':=by delta nB;split;rfl;erw[fL h]
theorem j5.run(r:j5 o g m s k s'):s'.ws=s.ws/\RM.Run (gW ns rs o s.ws g) (s.R g) (av m) (s'.R g)/\∀g',g'≠g->s'.R g'=s.R g':=by induction r with|zero=>erw[2,.nil _,λ_ _=>rfl]|@succ n k s c d _ b _ f=>let#[a,i,j]:=f;let#[e,l]:=afK (s:=c) (g:=g) (x:=n) (d:=d);rw[a] at b;erw[l.trans a,4,λg' h=>(Va h).trans (j g' h)];rw[e,fk];erw[i.append (.cons b (.nil _))]
theorem j5.calm(r:j5 o g m s k s')(c:m<=ge ns)(a:RM.Rest (gW ns rs o s.ws g) (s.R g)):k=0/\s'=s:=by induction r with|zero=>exact#[22]|@succ n k s f d _ hd _ b=>let#[rfl,rfl]:=b ∅ a;let e:d=f.R g n:=hd.uniq (a n c);exists by rw[eG e],4;delta nB;rw[eG e]
theorem Vb{ns:!Int}{rs:!R5}{live:!Nat}{nd:ns.Nodup}{ok:∀r∈rs,r.Ok (ge ns)}{hl:∀k∈live,k<ge rs}(R:Nat->RM.Row):∃os,fm (aL ns rs live nd ok hl) R os/\ge os<=ge ns:=by erw[(av (ge rs)).filter λk=>decide (k∈(av (ge ns)).filterMap λh=>(wI (aL ns rs live nd ok hl) R h).map (·.1)),#[xS.sublist jV,λk=>?_],4];rw[aZ,bO,g6,lD];constructor;(intro ⟨_,h,_,e⟩;cases q:wI (aL ns rs live nd ok hl) R h with|none=>rw[q] at e;ext e|some p=>rw[q] at e;ext e;erw[h,p.2,pZ.mp q]);intro ⟨h,g,t⟩;erw[hl k t.k8.1,h,bO.mpr (lJ.lt t).1,by rw[pZ.mpr t];rfl];erw[aJ (Gr.pX (B:=(av (ge ns)).filterMap λh=>(wI (aL ns rs live nd ok hl) R h).map (·.1)) (AL.sublist jV) λk a=>?_) (aJ (uX _ _) (Nat.le_of_eq aX))];erw[g4 (aZ.mp a).2]
theorem Md{o:cS ns rs}{g:Nat}{os:!Nat}(h:Ld o s)(a:g<3)(O:fm (gW ns rs o s.ws g) (s.R g) os):NL rs os s.aE (s.ts g):=λt d=>by
 let#[b,c,r,e,q]:=(h.ld g a os O).nt t d;erw[b,c,r,e,q.1,q.2.1,q.2.2.2]
theorem Ql{cp:Cp}{os:!Nat}(hl:s.ls[cp.l]?=ac l):(jj rs s a cp l os ts).ws=s.ws/\(jj rs s a cp l os ts).R=s.R/\(jj rs s a cp l os ts).aE=s.aE/\(jj rs s a cp l os ts).groups=s.groups:=by delta jj;by_cases c:ii l cp os=df;rw[eG c];let#[g,e,d,j]:=Ay (s:=s) (a:=a) (cp:=cp) (l:=l) (os:=os) (ts:=ts);let#[b,i,k,f]:=Gk (rs:=rs) (h:=cp.h) (cK:=ac cp.r) (os:=os) (oQ (a:=a) (os:=os) (ts:=ts) hl);erw[b.trans g,i.trans e,k.trans d,f.trans j];rw[eH c];exists 2222
noncomputable def ni(rs:!R5)(r:Nat):Nat:=match rs[r]? with|some re=>re.a.toNat|none=>0
noncomputable def mu(rs:!R5)(r:Nat):Nat:=match rs[r]? with|some re=>re.b.toNat|none=>0
theorem Fo.ends{os:!Nat}(F:Fo ns rs os){r:Nat}(h:r∈os):gN rs (ni rs r:Int) r=df/\gN rs (mu rs r:Int) r=df/\fX rs r (ni rs r)=mu rs r/\fX rs r (mu rs r)=ni rs r/\ni rs r<ge ns/\mu rs r<ge ns/\∀x:Nat,gN rs (x:Int) r=df->x=ni rs r\/x=mu rs r:=by let c:=F.lt r h;let o:=F.ok _ (aB c);let l:=o.a0;let j:=o.b0;let n:=o.ab;let m:=o.a1;let k:=o.b1;let d:∀y:Int,gN rs y r=(decide (y=rs[r].a) || decide (y=rs[r].b)):=λy=>(by delta gN;rw[aa c]);let i:ni rs r=rs[r].a.toNat:=(by delta ni;rw[aa c]);let g:mu rs r=rs[r].b.toNat:=(by delta mu;rw[aa c]);let e:∀y,fX rs r y=iu rs[r] y:=λy=>(by delta fX;rw[aa c]);rw[e,e,d,d,i,g];delta iu;exists by simp;lia,by simp;lia,4455,λx f=>?_;rw[eG ∅];rw[eH ∅];rw[d,qi,g6,g6] at f;lia
theorem ads{os:!Nat}(F:Fo ns rs os){x:Nat}:Rw rs os (ge rs) x z↔Gr.Reach (gA rs os) (x:Int) (z:Int):=by
 let d:∀{k:Nat}{r:Nat},os[k]?=ac r->(gA rs os)[k]?=ac ((ni rs r:Int),(mu rs r:Int)):=λ{k r}e=>(by let c:=F.lt r (aD e);let o:=F.ok _ (aB c);let D:=o.a0;let A:=o.b0;show (os.map (hG rs))[k]?=_;rw[ao,e];show ac (hG rs r)=_;rw[rK c];delta ni mu;rw[aa c];show ac (rs[r].a,rs[r].b)=ac (((rs[r].a.toNat:Nat):Int),((rs[r].b.toNat:Nat):Int));rw[Int.toNat_of_nonneg D,Int.toNat_of_nonneg A]);constructor;intro t;induction t with|refl=>erw[.refl _]|@step y r t c I H h=>(let#[k,m]:=c7 c;let#[_,_,i,f,_,_,C]:=F.ends c;erw[.step (k:=k) h ?_];obtain e|e:=C y H;rw[e,i];erw[.inl (d m)];rw[e,f];erw[.inr (d m)])
 ·intro t;let g:∀{u v:Int},Gr.Reach (gA rs os) u v->∀x:Nat,u=(x:Int)->∃z:Nat,v=(z:Int)/\Rw rs os (ge rs) x z:=λ{u v}t=>(by induction t with|refl=>erw[λx e=>#[x,e,.refl]]|@step y v k t ad h=>(intro x e;let#[l,J,j]:=h x e;cases q:os[k]? with|none=>(exfalso;let:(gA rs os)[k]?=de:=(by show (os.map (hG rs))[k]?=de;rw[ao,q];rfl);obtain w|w:=ad <;> (rw[this] at w;ext w))|some r=>(let c:=aD q;let#[B,E,i,f,_]:=F.ends c;let n:=bV (F.lt r c);obtain w|w:=ad;rw[d q] at w;let#[p,s]:=Prod.mk.inj (aI w);let:l=ni rs r:=∅;subst this;erw[mu rs r,s.symm,i▸.step j c n B];rw[d q] at w;let#[p,s]:=Prod.mk.inj (aI w);let:l=mu rs r:=∅;subst this;erw[ni rs r,p.symm,f▸.step j c n E])));let#[G,e,q]:=g t x rfl;let:z=G:=∅;rw[this];erw[q]
theorem afL{to:Option Nat}{c:Nat}:c∈UO aE groups x to h↔aE[c]?=ac h/\groups[c]?=groups[x]?/\match to with|none=>c≠x|some y=>c=y:=by delta UO;rw[aZ,bO,dh,g6];cases to with|none=>show c<ge aE/\(_/\_)/\((decide (c=x)).not)=df↔_;rw[iQ,decide_eq_false_iff_not];erw[λz=>#[z.2.1.1,z.2.1.2,z.2.2],λz=>#[(ai.mp z.1).1,#[z.1,z.2.1],z.2.2]]|some y=>show c<ge aE/\(_/\_)/\decide (c=y)=df↔_;rw[g6];erw[λz=>#[z.2.1.1,z.2.1.2,z.2.2],λz=>#[(ai.mp z.1).1,#[z.1,z.2.1],z.2.2]]
structure YQ(o:cS ns rs)(os:Nat->!Nat)(b x:Nat)(to:Option Nat)(s:NS):Prop where
 aj:AJ ns rs os b [(x,to)] s
 all:∀c∈s.cps,c.l=b
 op:∀g,g<3->fm (gW ns rs o s.ws g) (s.R g) (os g)
theorem KS.aj(h:KS o bs cl s)(op:∀g,g<3->fm (gW ns rs o s.ws g) (s.R g) (os g)):AJ ns rs os (ge s.ls) [] s:=by let#[D,m,_]:=id h.sk;erw[λg a=>Fo.of (op g a),λg a r n k=>?_,2,λg a=>Md h.ld a (op g a),λi x to p=>(by ext p)];let#[c,w,l,f]:=EO (op g a) n;let#[b,e,rfl,_]:=m.wire l;delta j7 dN;rw[l,aa c];show (gL b).getD (k%ge (gL b)) 0<rs[r].d.toNat;let j:k%ge (gL b)<ge (gL b):=Nat.mod_lt _ (jT.mpr f);rw[ak,aa j];let t:=(ai.mp (iy.mp (aB j))).1;let q:=m.fit.2 r _ _ (aa c) e;show (gL b)[k%ge (gL b)]<_;lia
theorem YQ.post(h:KS o bs cl s)(op:∀g,g<3->fm (gW ns rs o s.ws g) (s.R g) (os g))(q:s.cps=[])(f:x<ge s.aE)(t:∀y,to=ac y->y<ge s.aE/\s.groups[y]?=s.groups[x]?)(O:fm (gW ns rs o s.ws (s.groups.getD x 0)) (s.R (s.groups.getD x 0)) os'):YQ o os (ge s.ls) x to (rz rs s x to os'):=by let#[D,d,_]:=id h.sk;let j:x<ge s.groups:=(by rw[d.bd.gl];erw[f]);let g3:s.groups.getD x 0<3:=d.bd.g3 _ (by rw[ak,aa j];erw[aB j]);let k:=O.uniq (op _ g3);subst k;let#[b,e,_,_]:=Gk (rs:=rs) (h:=s.aE.getD x 0) (cK:=de) (os:=os (s.groups.getD x 0)) (s:=jN s x to) (i:=ge s.ls) (l:={gu s x to with aK:=[.post (s.aE.getD x 0)]}) jR;let b:(rz rs s x to (os (s.groups.getD x 0))).ws=s.ws:=b;let e:(rz rs s x to (os (s.groups.getD x 0))).R=s.R:=e;erw[(h.aj op).post d.bd rfl f t,λc a=>?_,λg m=>by rw[b,e];erw[op g m]];let#[n,p]:=DW (rs:=rs) (h:=s.aE.getD x 0) (cK:=de) (os:=os (s.groups.getD x 0)) (s:=jN s x to) (i:=ge s.ls) (l:={gu s x to with aK:=[.post (s.aE.getD x 0)]}) jR;delta rz at a;rw[p] at a;obtain z|z:=aR.mp a;let z:c∈s.cps:=z;rw[q] at z;ext z;let#[r,_,rfl]:=aG.mp z;rfl
theorem YQ.ps(z:YQ o os b x to s)(h:KS o bs cl s)(p:Ps o k s y s'):YQ o os b x to s'/\s'.ws=s.ws/\s'.R=s.R:=by
 let#[D,t,_]:=id h.sk;let#[d,l,E,ts,m,e,O,_,C,F,rfl,_]:=p;let H:l.grp<3:=(t.bd.lb l (aD e)).2.2.1;let v:=O.uniq (z.op _ H);subst v;let#[n,u,J,I]:=Ql (rs:=rs) (a:=k) (os:=os l.grp) (ts:=ts) e;let j:=z.all d (aD m);let#[cm,aj]:=z.aj.pass t.bd m e (i:=0) rfl j C F;erw[#[aj,λc f=>?_,λg A=>by rw[n,u];erw[z.op g A]],n,u];delta jj at f;rw[eG cm] at f;let#[B,G]:=DW (rs:=rs) (os:=os l.grp) (h:=d.h) (cK:=ac d.r) (oQ (a:=k) (os:=os l.grp) (ts:=ts) e);rw[G] at f;obtain q|q:=aR.mp f;·let w:(cN s k d l (os l.grp) ts).cps=s.cps.eraseIdx k:=(by delta cN;split <;> rfl);rw[w] at q;erw[z.all c (uW q)]
 let#[r,_,rfl]:=aG.mp q;erw[j]
theorem YQ.rn(r:Rn o s k s')(z:YQ o os b x to s)(h:KS o bs cl s):YQ o os b x to s'/\s'.ws=s.ws/\s'.R=s.R:=by induction r with|zero=>erw[z,22]|succ r p a=>let#[i,d,e]:=a z h;let#[f,g,c]:=i.ps (h.rn r) p;erw[f,g.trans d,c.trans e]
def Wn(groups:!Nat)(x:Nat)(to:Option Nat)(a:Nat):Prop:=groups[a]?=groups[x]?/\match to with|none=>a≠x|some y=>a=y
theorem afM:(UO aE groups x to h).count a=(open Classical in if Wn groups x to a/\aE[a]?=ac h then 1 else 0):=by let b:(UO aE groups x to h).Nodup:=AL.sublist jV;let:=afL (aE:=aE) (groups:=groups) (x:=x) (to:=to) (h:=h) (c:=a);split;rename_i z;rw[List.Nodup.count b,eG (this.mpr #[z.2,z.1.1,z.1.2])];rename_i z;erw[List.count_eq_zero.mpr λq=>z #[#[(this.mp q).2.1,(this.mp q).2.2],(this.mp q).1]]
open Classical in
theorem Qm{aE groups:!Nat}{a h:Nat}(d:aE[a]?=ac h):∀E:!EE,(E.map (·.e.h)).Nodup->(E.flatMap (EE.UK (UO aE groups x to))).countP (Vq a)=if Wn groups x to a/\h∈E.map (·.e.h) then 1 else 0
 |[],_=>-_
 |y::E,nd=>by
  rw[bz,dY] at nd;rw[List.flatMap_cons,wm,Qm d E nd.2];let e:(EE.UK (UO aE groups x to) y).countP (Vq a)=(UO aE groups x to y.e.h).count a:=by
   delta EE.UK;rw[List.countP_cons,wm,List.countP_map,List.countP_map,show Vq a (km y.e)=dr by delta km;split <;> rfl];let f:y.gs.countP (Vq a∘λr=>kE.send y.e.h r (y.wf r))=0:=List.countP_eq_zero.mpr λr _=>by show ¬(dr=df);decide
   rw[f];show (UO aE groups x to y.e.h).countP (Vq a∘kE.hand y.e.h)+0+0=_;rw[Nat.add_zero];erw[List.countP_congr λc _=>?_];show decide (c=a)=df↔(c==a)=df;simp
  rw[e,afM,d];by_cases w:Wn groups x to a
  ·by_cases q:h=y.e.h
   ·let b:¬h∈E.map (·.e.h):=q▸nd.1
    rw[eG #[w,by rw[q]],eH λz=>b z.2,eG #[w,by rw[bz,q];erw[aM]]]
   ·rw[eH λz=>q (aI z.2),Nat.zero_add,bz]
    by_cases b:h∈E.map (·.e.h)
    ·rw[eG #[w,b],eG #[w,aO _ b]]
    ·rw[eH λz=>b z.2,eH λz=>(aT.mp z.2).elim q b]
  ·rw[eH λz=>w z.1,eH λz=>w z.1,eH λz=>w z.1]
theorem YQ.fin{a:Nat}(z:YQ o os b x to s)(h:KS o bs cl s)(e:s.cps=[])(m:a<ge s.aE):(s.had.getD a []).count b=(open Classical in if Wn s.groups x to a/\Rw rs (os (s.groups.getD x 0)) (ge rs) (s.aE.getD x 0) (s.aE.getD a 0) then 1 else 0):=by let#[D,k,_,_,p]:=id h.sk;let#[l,E,n,u,j,c,r]:=z.aj.li 0 x to rfl;rw[e] at c;let c:LJ ns rs (os l.grp) (UO s.aE s.groups x to) (to.map λy=>s.aE.getD y 0) (s.aE.getD x 0) l.done l.aK [] E:=c;let t:s.groups.getD x 0=l.grp:=(by rw[ak,j.gr];rfl);let F:=z.aj.fo l.grp (k.bd.g3 _ (aD j.gr));let i:s.aE[a]?=ac (s.aE.getD a 0):=(by rw[ak,aa m];rfl);let nd:(E.map (·.e.h)).Nodup:=(by let:=c.wj.nd;rw[cu,bZ] at this;erw[this]);rw[p.ct b l n a (by rw[k.bd.hl];erw[m]),c.ds,Qm i E nd,t];let f:Wn s.groups x to a->(s.aE.getD a 0∈E.map (·.e.h)↔Rw rs (os l.grp) (ge rs) (s.aE.getD x 0) (s.aE.getD a 0)):=λw=>(by constructor;intro q;let#[y,d,g]:=aG.mp q;rw[<- g];erw[c.aje F y d];intro q;cases to with|none=>let#[y,d,g]:=LJ.afn F c r _ q;rw[<- g];erw[cF d]|some y=>let:a=y:=w.2;subst this;let#[y,d,g]:=LJ.afo c q;erw[aG.mpr #[y,d,g]]);by_cases w:Wn s.groups x to a;by_cases q:Rw rs (os l.grp) (ge rs) (s.aE.getD x 0) (s.aE.getD a 0);rw[eG #[w,(f w).mpr q],eG #[w,q]];rw[eH λz=>q ((f w).mp z.2),eH λz=>q z.2];rw[eH λz=>w z.1,eH λz=>w z.1]
end
section
variable{ns:!Int}{rs:!R5}{live:!Nat}{nd:ns.Nodup}{ok:∀r∈rs,r.Ok (ge ns)}{hl:∀k∈live,k<ge rs}{S:Nat->RM.Row}{os:!Nat}{M:!Int}
noncomputable def O4(ns:!Int)(S:Nat->RM.Row)(h:Nat):Option Nat:=if (S h).hd=ns.getD h 0 then de else ac (S h).by_.toNat
noncomputable def EX(ns:!Int)(S:Nat->RM.Row)(n:Nat):!Nat:=(av n).filterMap (O4 ns S)
theorem Ju:EX ns S (n+1)=EX ns S n++(O4 ns S n).toList:=by delta EX;rw[fk,List.filterMap_append];congr 1
theorem Sq(a:RM.Rest (aL ns rs live nd ok hl) S)(sS:RM.Sane (aL ns rs live nd ok hl) S){h:Nat}(c:h<ge ns):O4 ns S h=ac k↔∃g,RM.lJ (aL ns rs live nd ok hl) S k h g:=by delta O4;constructor;intro e;split at e;ext e;rename_i d;obtain z|⟨b,g,t⟩:=a.hangs c;erw[ff (by rw[z];rfl) d];let:(S h).by_.toNat=b:=(by rw[t.by];erw[cQ b]);ext e;rw[this];erw[g,t];intro ⟨g,t⟩;rw[eH (show ¬(S h).hd=ns.getD h 0 from λe=>RM.Rest.abz sS (a.aby sS c e) t),t.by];erw[gZ ac (cQ k)]
theorem Nu(b:RM.Rest (aL ns rs live nd ok hl) S)(sS:RM.Sane (aL ns rs live nd ok hl) S){n:Nat}(c:n<=ge ns):k∈EX ns S n↔∃h g,h<n/\RM.lJ (aL ns rs live nd ok hl) S k h g:=by delta EX;rw[lD];constructor;intro ⟨h,a,e⟩;let a:=bO.mp a;let#[g,t]:=(Sq b sS ∅).mp e;erw[h,g,a,t];intro ⟨h,g,a,t⟩;erw[h,bO.mpr a,(Sq b sS ∅).mpr #[g,t]]
theorem KU(c:RM.Rest (aL ns rs live nd ok hl) S)(sS:RM.Sane (aL ns rs live nd ok hl) S):∀{n:Nat},n<=ge ns->(EX ns S n).Nodup
 |0,_=>lY
 |n+1,m=>by
  rw[Ju];cases e:O4 ns S n with
  |none=>rw[show (de:Option Nat).toList=[] from rfl,cu];erw[KU c sS ∅]
  |some k=>
   erw[iP.mpr #[KU c sS ∅,-_,λa f b d=>?_]];rw[aP.mp d];rintro rfl;let#[h,g,j,t]:=(Nu c sS ∅).mp f;let#[l,i]:=(Sq c sS ∅).mp e
   let:=(t.one i).1
   lia
theorem adt(a:RM.Rest (aL ns rs live nd ok hl) S)(sS:RM.Sane (aL ns rs live nd ok hl) S)(O:fm (aL ns rs live nd ok hl) S os):(EX ns S (ge ns)).Perm os:=by erw[(List.perm_ext_iff_of_nodup (KU a sS (aA _)) (O.1.imp bV)).mpr λk=>?_];rw[Nu a sS (aA _),O.2 k];erw[λ⟨h,g,_,t⟩=>#[h,g,t],λ⟨h,g,t⟩=>#[h,g,t.k8.lt.1,t]]
theorem Vc(a:Gr.Ae (gA rs live) (ge ns) M){h g:Nat}(c:h<ge ns)(b:g<ge ns):M.getD h 0=M.getD g 0↔RM.mV (aL ns rs live nd ok hl) h g:=by rw[<- Li];erw[a.iff (h:Int) (g:Int) ∅ ∅ ∅ ∅]
theorem adu(a:RM.Rest (aL ns rs live nd ok hl) S)(sS:RM.Sane (aL ns rs live nd ok hl) S)(O:fm (aL ns rs live nd ok hl) S os)(b:Gr.Ae (gA rs live) (ge ns) M){f z:Nat}(c:f<ge ns)(d:z<ge ns):M.getD z 0=M.getD f 0↔Rw rs os (ge rs) f z:=by rw[ads (Fo.of O),V0 a sS O c,eq_comm];erw[b.iff (f:Int) (z:Int) ∅ ∅ ∅ ∅]
end
section
variable{P:ft}{w:World}{K:ah}{mg:Str->Option dy}{base:Heap}
noncomputable def AB(rs:!R5)(k:Nat):!V:=[.int (hG rs k).1,.int (hG rs k).2]
inductive Qn(K:ah)(vs:!V)(H:Hp)(Q:VK)(E:XK):Prop
 |mk(n:Nat)(a:du)(qs:!du)(rs:!R5)(ks:!Nat):vs=[.int n,.ref a]->bJ K H a (qs.map fx)->fE K H qs (ks.map (AB rs))->n<=12->(∀r∈rs,r.Ok n)->(∀k∈ks,k<ge rs)->(∀lm M H',aH H H'->H lm=de->H' lm=ac (.lst (M.map fw))->Gr.Ae (gA rs ks) n M->Q (.ref lm) H')->Qn K vs H Q E
theorem Nv(T:Txt K mg w t):oG P w mg base T.Ex 1 (Qn K):=by erw[T.Ex.F.iV pQ λH Q E hr h=>?_];·let#[n,a,R,g,e,rfl,hA,CI,ag,ok,ab,k]:=h;let hR:Gr.InR (gA g e) n:=Tf ok ab;let eq:ge R=ge e:=(by rw[CI.len,af]);erw[_,(au (sS 2 pQ (cJ (La rfl) (by rfl) T.BN boot_list (dj (cJ JB (by rfl) T.gF boot_range (dj (pv 0)))))) (au (fS (cY (pv 1)) (Vt (n:=2) rfl (Aa (gT 3 pQ) (Aa (gT 4 pQ) Qz))) (au (sS 5 pQ (xL (pv 2) (pv 3))) (b6 (sS 2 pQ (dP (kO pQ ["_law_mark","_law_gone","_law_marks_here","_law_other"] [de,ac 5,ac 2,ac 4]) rfl (cY (pv 2)) (~~~(gS 0 Od)) (~~~fj) (~~~(lG (qT i0 (pv 0) (pv 1)) (yL K (pv 2) (pv 3)) (pv 0)))))))) (oR (pv 2)))),4];left;erw[38,λr ae=>?_];erw[r,n,2,ay,5,λb L=>?_];let s1:=aH.new (o:=.W7 0 (n:Int)) ae;let X:=s1.trans (aH.new (o:=.lst (bA (av n))) L);let p:H b=de:=s1.free L;let D:upd (upd H r (.W7 0 (n:Int))) b (.lst (bA (av n))) b=ac (.lst (((av n).map λk=>((k:Nat):Int)).map fw)):=(by rw[ay,gz]);generalize upd (upd H r (.W7 0 (n:Int))) b (.lst (bA (av n)))=H2 at X D;erw[1,a,2,#[_,X.seq hA],wz (K:=K) (a:=a) (xs:=R.map fx) (λi N q=>aH H q/\∃(b:du)(M:!Int)(v3 Z v5:Option V),N=[ac (.int (n:Nat)),ac (.ref a),ac (.ref b),v3,Z,v5]/\H b=de/\q b=ac (.lst (M.map fw))/\Gr.Ae ((gA g e).take i) n M) #[X,b,336,p,D,Gr.Ae.nil n] (λi N q _ z=>z.1.seq hA) ?_ ?_];intro i y N q hi ⟨C,b,M,v3,Z,v5,rfl,p,f,A⟩;let v:i<ge R:=(by let:=(ai.mp hi).1;rwa [af] at this);rw[ao,aa v] at hi;ext hi;let J:i<ge e:=∅;let Y:dH K H R[i] [.int (hG g e[i]).1,.int (hG g e[i]).2]:=CI.at' i _ _ (aa v) (by rw[ao,aa J];rfl);let m:(gA g e)[i]?=ac ((hG g e[i]).1,(hG g e[i]).2):=(by show (List.map (hG g) e)[i]?=_;rw[ao,aa J];rfl);generalize (hG g e[i]).1=x1 at Y m;generalize (hG g e[i]).2=x2 at Y m;let#[a0,a1,b0,b1,ah]:=hR.h i _ _ m;let hl:=A.len;erw[6,C.cU Y,26624];erw[38,dI (bJ.of f) (Bn a0 ∅) ?_];erw[1,b,2,#[_,bJ.of f],λad d=>?_];let aj:ge (Gr.joinM M x1 x2)=ge M:=(by delta Gr.joinM;rw[af]);let l:bJ K q b (M.map fw):=bJ.of f;erw[fK (n:=ge (M.map fw)) (λj O _=>O=((Gr.joinM M x1 x2).take j).map fw) d (jC l) (fQ l) rfl ?_ ?_];intro j O H4 U s S u x H5 ⟨rfl,hx⟩;let B:=hx _ (s.seq l);let G:=U;rw[af] at U;rw[ao,aa U] at B;ext B;let I:ge O<eD:=(by rw[u,af];let:=List.length_take_le j (Gr.joinM M x1 x2);erw[bP ∅]);let W:(Gr.joinM M x1 x2)[j]?=ac (if M[j]=Gr.Cr M x1 then Gr.Cr M x2 else M[j]):=(by delta Gr.joinM;rw[ao,aa U];rfl);exists 3884;erw[lZ (λc=>?_) (λc=>?_)];let ce:M[j]=Gr.Cr M x1:=V.int.inj (g4 c);rw[eG ce] at W;erw[38,dI (s.seq l) (Bn b0 ∅) (dS d G s S I (by rw[u];erw[(E4 W).symm]))];let ce:¬M[j]=Gr.Cr M x1:=λz=>c (fy (gZ fw z));rw[eH ce] at W;erw[1,dS d G s S I (by rw[u];erw[(E4 W).symm])];intro O H4 s S u;rw[af,cX ∅] at u;exists C.trans s,ad,336,C.free d,by rw[S,u],A.step hR m;intro N q ⟨C,b,M,v3,Z,v5,rfl,p,f,A⟩;rw[af,eq,cX (by rw[af];erw[aA _])] at A;erw[1,k b M q C p f A]
theorem ix(a b:Str):(a++b).length=a.length+b.length:=by rw[<- TX.yQ,TX.AX,az,TX.yQ,TX.yQ]
theorem DZ{a b:Str}(d:a.length<=1000)(c:b.length<=1000):(a++b).length<=eD:=by rw[ix,sizeLine_eq];lia
theorem Nz{a b:Str}{n m:Nat}(c:a.length<=n)(d:b.length<=m):(a++b).length<=n+m:=by rw[ix];lia
def xk:TX.cs Str.empty=[]:=rfl
theorem kf{w:Str}(b:TX.cs w'=TX.cs w++[32])(a:Str):Str.empty++w'++a=Txt.join TX.oz [w,a]:=by erw[TX.V5 ?_];rw[TX.join_eq,TX.x8,TX.AX,TX.AX,b,xk,List.nil_append,dW];rfl
theorem ka{w:Str}(c:TX.cs w'=TX.cs w++[32])(a b:Str):Str.empty++w'++a++" " ++ b=Txt.join TX.oz [w,a,b]:=by erw[TX.V5 ?_];rw[TX.join_eq,TX.x8,TX.AX,TX.AX,TX.AX,TX.AX,c,xk,List.nil_append,dW,dW,dW];show _=TX.cs w++32::(TX.cs a++32::TX.cs b);rfl
theorem adx{c:Bool}:(if c=df then eC a else eC b)=eC (if c=df then a else b):=by split <;> rfl
structure AD where
 tp:du
 ln:du
 lr:du
 dk:du
 dx:du
 p:du
 q:du
 a0:du
 b0:du
 c0:du
 ls:du
 lc:du
 AV:!du
 us:!du
 ns:!Int
 rs:!R5
 lq:du
 cs:!Int
structure uh(K:ah)(CT CD:du)(c:NC)(a:AD)(H:Hp)(F:du->Prop)(bs:!(!Bool))(cl:!(Nat×Nat))(bh:!(!Bool))(ch:!(Nat×Nat))(s:NS):Prop where
 c6:eT K c H F a.p a.tp (ge a.ns) s
 o:cS a.ns a.rs
 tb:TB a.ns a.rs
 s6:KS o bs cl s
 n5:ge a.ns<=5
 c5:ge ch<=5
 t:eN K CT (Off H F) a.tp a.ln a.lr a.ns a.rs
 dk:Off H F a.dk=ac (.ins CD a.dx [("net",.ref a.p)])
 tl:dH K (Off H F) a.q [.ref a.a0,.ref a.b0,.ref a.c0]
 nm:Off H F a.a0=ac (.lst (a.ns.map fw))
 rp:Off H F a.b0=ac (.lst (a.us.map fx))
 ru:fE K (Off H F) a.us (a.rs.map R5.vs)
 cc:∃cq:!du,Off H F a.lc=ac (.lst (cq.map fx))/\fE K (Off H F) cq (OZ ch)
 sts:IW (Off H F) a.ls a.AV bh
 sq:Off H F a.lq=ac (.lst (a.cs.map fw))
 ne:∀b,b∈a.AV\/b=a.dk\/b=a.a0\/b=a.b0\/b=a.ls\/b=a.lq\/b=a.tp\/b=a.ln\/b=a.lr->b≠a.lc
section
variable{CT CD:du}{c:NC}{a:AD}{H H':Hp}{F F':du->Prop}{bs bs':!(!Bool)}{cl cl':!(Nat×Nat)}{bh:!(!Bool)}{ch:!(Nat×Nat)}{s s':NS}
theorem uh.next(d:uh K CT CD c a H F bs cl bh ch s)(N:eT K c H' F' a.p a.tp (ge a.ns) s')(S:KS d.o bs' cl' s')(e:aH (Off H F) (Off H' F')):uh K CT CD c a H' F' bs' cl' bh ch s':=by let#[h,g,f]:=d.cc;erw[N,d.o,d.tb,S,d.n5,d.c5,d.t.mono e,e _ _ d.dk,e.cU d.tl,e _ _ d.nm,e _ _ d.rp,d.ru.mono λb x=>e.cU,#[h,e _ _ g,f.mono λb x=>e.cU],d.sts.mono e,e _ _ d.sq,d.ne]
theorem uh.mono(d:uh K CT CD c a H F bs cl bh ch s)(e:aH H H'):uh K CT CD c a H' F bs cl bh ch s:=d.next (d.c6.mono e) d.s6 (iM e)
theorem uh.bl(d:uh K CT CD c a H F bs cl bh ch s):ge bs=ge a.rs:=by let#[D,h,_]:=d.s6.sk;erw[h.fit.1]
theorem uh.aE(d:uh K CT CD c a H F bs cl bh ch s):s.aE=cl.map (·.1)/\s.groups=cl.map (·.2)/\(∀c∈cl,c.1<ge a.ns/\c.2<3):=by let#[D,h,_]:=d.s6.sk;erw[h.hm,h.gr,λc b=>#[h.bd.hm _ (by rw[h.hm];erw[cF b]),h.bd.g3 _ (by rw[h.gr];erw[cF b])]]
theorem uh.said(d:uh K CT CD c a H F bs cl bh ch s){z:Str}{Q:VK}(f:Fits a.ns a.rs s cmd)(h:ge s.ls<=120)(g:z=cmd.text)(k:∀x s' F' H',WX d.o s cmd x s'->Step H F H' F'->uh K CT CD c a H' F' (oP bs cmd) (oD cl cmd) bh ch s'->Q (.str x) H'):p4 K CT CD c [.ref a.dk,.str z] H Q E:=by subst g;erw[F,a.p,a.tp,a.ln,a.lr,a.dk,a.dx,a.ns,a.rs,d.o,bs,cl,_,s,cmd,2,(fG d.dk).2,(d.t).nw d.c6 (λb z=>z),d.tb,d.s6.sk,5,f,λx s' F' H' e N st=>k x s' F' H' e st (d.next N (d.s6.ajv d.tb f e) (iL st))]
end
noncomputable def bI(b:Bool):Int:=if b then 1 else 0
theorem Vd:(b.map bI).sum=0↔gL b=[]:=by rw[PD];induction b with|nil=>simp|cons x b c=>(let f:=(We (ns:=b.map bI) λn d=>by let#[y,_,rfl]:=aG.mp d;ext y <;> decide).1;rw[bz,lB];cases x with|true=>erw[λe=>by let:(1:Int)+(b.map bI).sum=0:=e;lia,λe=>ff (e df aM) (!_)]|false=>show (0:Int)+(b.map bI).sum=0↔_;rw[cT,c];erw[λh y a=>(aT.mp a).elim id (h y),λh y a=>h y (aO _ a)])
theorem Ve:∀{b:!Bool}{x:Nat}{v:Bool},b[x]?=ac v->(b.map bI).sum-bI v=((b.set x dr).map bI).sum
 |y::b,0,v,h=>by
  ext h;show bI y+(b.map bI).sum-bI y=0+(b.map bI).sum;lia
 |y::b,x+1,v,h=>by
  let:=Ve (b:=b) (x:=x) (v:=v) h
  show bI y+(b.map bI).sum-bI v=bI y+((b.set x dr).map bI).sum;lia
theorem Qo[Decidable c]{e:Bool}(h:e=df↔c):∃v,xW [fA A,fA B] (if decide c=df then 1 else 0)=ac v/\v=fA (if e then B else A):=by by_cases q:c;rw[fy q,h.mpr q];exists 12;rw[gh q,Bool.eq_false_iff.mpr λz=>q (h.mp z)];exists 12
theorem Qp{Q:VK}{x y:V}(e:x=y)(h:Q (.bl df) H):Q (.bl (decide (x=y))) H:=by rw[fy e];erw[h]
theorem afO{b:!Bool}:(av (ge b)).map (λi=>fw (bI (b.getD i dr)))=(b.map bI).map fw:=by erw[k6 (-_) λi d a=>?_];let c:i<ge b:=a⁻¹;simp only[AM,wc,ak,aa c];rfl
theorem KBl{H:Hp}{F:du->Prop}{l:du}{b:!Bool}{v:HO}(d:b≠[])(hl:Off H F l=ac (.lst (b.map fI))):(∀a x,dH K (Off H F) a x->dH K (Off (upd H l v) F) a x)/\∀a o,Off H F a=ac o->(∀y c,o≠.lst (.bl y::c))->Off (upd H l v) F a=ac o:=by rw[Ed (fG hl).1];erw[λa x=>dH.past hl jm cj,λa o e n=>cj a o e λz=>?_];rw[z,hl] at e;cases b with|nil=>erw[d rfl]|cons y b=>erw[n y _ (aI e).symm]
theorem uh.put(d:uh K CT CD c a H F bs cl bh ch s){i:Nat}(hl:a.AV[i]?=ac l)(J:bh[i]?=ac b)(u:b≠[]):uh K CT CD c a (upd H l (.lst ((b.map fI).set x (fI v)))) F bs cl (bh.set i (b.set x v)) ch s:=by
 let p:=d.sts.it i l b hl J;let#[n,k]:=KBl (K:=K) (v:=.lst ((b.map fI).set x (fI v))) u p;let#[N,m,G]:=d.cc;let E:∀{f:!du}y j,gc (f.map fx)≠.lst (.bl y::j):=λ{f}y j e=>(by cases f with|nil=>ext e|cons q f=>ext e);let A:∀{f:!Int}y j,gc (f.map fw)≠.lst (.bl y::j):=λ{f}y j e=>(by cases f with|nil=>ext e|cons q f=>ext e);let w:a.ls≠l:=λz=>(by let m:=d.sts.at_;rw[z,p] at m;erw[abK hl (HO.lst.inj (aI m))]);let#[#[O,D],B,L,C,g]:=id d.t;erw[d.c6.past p jm,d.o,d.tb,d.s6,d.n5,d.c5,d.t.keep (λb o e z=>k b o e ?_) n,k _ _ d.dk (λ_ _ z=>by ext z),n _ _ d.tl,k _ _ d.nm A,k _ _ d.rp E,d.ru.mono n,#[N,k _ _ m E,G.mono n],4,k _ _ d.sq A,d.ne];obtain rfl|rfl|rfl:=z;rw[D] at e;ext e;erw[λ_ _ z=>(by ext z)];rw[B] at e;ext e;erw[A];rw[C] at e;ext e;intro y j z;cases HO.lst.inj z;cases h:a.rs with|nil=>rw[h] at g;ext g|cons r rs=>rw[h] at g;let#[v,P,I,m,_]:=g;ext I;let#[_,_,M,_]:=m;ext M
 rw[Ed (fG p).1];erw[d.sts.put hl cj (by rw[ay,lE]) w]
inductive Vf(K:ah)(CT CD:du)(c:NC)(vs:!V)(H:Hp)(Q:VK)(E:XK):Prop
 |mk(F:du->Prop)(a:AD)(bs:!(!Bool))(cl:!(Nat×Nat))(s:NS)(cc:Int):vs=[.ref a.dk,.int cc,.ref a.ls]->uh K CT CD c a H F bs cl bs cl s->ge s.ls<=120->bs≠[]->(∀F' bs' s' H',uh K CT CD c a H' F' bs' cl bs' cl s'->ge s'.ls=ge s.ls->Q (.bl df) H')->Vf K CT CD c vs H Q E
theorem aat(T:Txt K mg w t):oG P w mg base T.Mn 11 (Vf K t.bf t.eV (nc t)):=by erw[T.Mn.F.iV vU λH Q E hr h=>?_];·let#[F,a,r,cl,s,cc,rfl,d,hL,ah,k]:=h;erw[_,(au (sS 3 vU (ck ir (pv 1) (lS T.gE (pv 2)))) (au (sS 4 vU (ck ir (ck mC (pv 1) (lS T.gE (pv 2))) (lS T.gE (xL (pv 2) (pv 3))))) (au (sS 5 vU (xL (xL (pv 2) (pv 3)) (pv 4))) (au (sS 6 vU (ck Vx (cB (ZO rfl) T.alE boot_sum (dj (dP (kO vU ["_law_stands"] [de]) rfl (cY (xL (pv 2) (pv 3))) (~~~(gS 0 Rp)) (~~~fj) (~~~(cJ vR (by rfl) T.G2 boot_int (dj (pv 0))))))) (cJ vR (by rfl) T.G2 boot_int (dj (pv 5))))) (au (HL (WF (pv 5)) (HK (xL (pv 2) (pv 3)) (pv 4) hY)) (au (cV (mT (pv 5)) (oR (qE i0 (cM (pv 0) T.j4 T.eE (dU T) hr (dj (oV (cZ bH (cZ (jx (pv 3)) (cZ bH (cZ (jx (pv 4)) uv))))))) (xL (eB (oW bH bH)) (cJ vR (by rfl) T.G2 boot_int (dj (qE i0 (pv 6) aF)))))) bR) (oR (qE i0 (cM (pv 0) T.j4 T.eE (dU T) hr (dj (oV (cZ bH (cZ (jx (pv 3)) (cZ bH (cZ (jx (pv 4)) uv))))))) (xL (eB (oW bH bH)) (cJ vR (by rfl) T.G2 boot_int (dj (qE i0 (pv 6) aF)))))))))))),4];left;let#[D,sd,hD,rb,iv]:=id d.s6.sk;let S:=d.sts;let o:=d.o;let Sw:=o.Sw;let aj:ge r=ge a.rs:=sd.fit.1;let ar:0<ge r:=jT.mpr ah;let f:=be _ _ S.at_;let u:((ge (a.AV.map fx):Nat):Int)=(ge a.rs:Int):=(by rw[af,S.len,aj]);let#[i,ei,I]:=kY cc (show 0<ge a.rs by lia);erw[38,a.ls,1,.inl (bJ.of f),62,(by rw[u];lia),4];(try dsimp only);rw[u,ei];let Cv:a.rs[i]?=ac a.rs[i]:=aa I;let X:=o.ok _ (aB I);let#[b,hb,as]:=sd.fit.at Cv;let aq:=(ai.mp hb).1;obtain⟨l,hl⟩:∃l,a.AV[i]?=ac l:=#[_,aa (by rw[S.len];erw[aq])];let WN:=S.it i l b hl hb;let L:=be _ _ WN;let p:xW (a.AV.map fx) (i:Int)=ac (.ref l):=cH (by rw[ao,hl];rfl);let d1:=X.d1;let d4:=X.d4;let Y:0<ge b:=∅;let ae:((ge (b.map fI):Nat):Int)=(ge b:Int):=(by rw[af]);let#[x,ex,j]:=kY (cc/(ge a.rs:Int)) Y;erw[38,a.ls,1,.inl (bJ.of f),62,(by rw[u];exists 55),38,a.ls,9,bJ.of f,p,l,1,.inl (bJ.of L),62,(by rw[ae];lia),4];(try dsimp only);rw[u,ae,ex];let g:b[x]?=ac b[x]:=aa j;let am:xW (b.map fI) (x:Int)=ac (fI b[x]):=cH (by rw[ao,g];rfl);erw[38,a.ls,9,bJ.of f,p,1,l,9,bJ.of L,am,4];erw[38,a.ls,9,bJ.of f,p,l,2,#[_,bJ.of L],λap Z=>?_];let G:bJ K H l (b.map fI):=bJ.of L;erw[nV (n:=ge (b.map fI)) (λi=>.bl (b.getD i dr)) (λi=>fw (bI (b.getD i dr))) Z (jC G) (fQ G) (λi H2 x H3 I N j=>?_) (by rw[af];lia) (λi H2 R S I N h1=>?_) (λH2 N hy=>?_)];let#[rfl,j]:=j;let j:=j _ (N.seq G);rw[af] at I;rw[ao,aa I] at j;erw[2,by rw[ak,aa I];erw[(aI j).symm]];erw[1,.inr #[1,h1 H2 (aH.refl _)]];rw[af,afO] at hy;exists ap,b.map bI,2,bJ.of hy,by rw[af];lia,λn hn=>?_,4;(·let#[y,_,rfl]:=aG.mp hn;ext y <;> decide);erw[1,.inr #[1624]];show iU 6 (fw ((b.map bI).sum-bI b[x])) _ _ _;rw[Ve g];let an:b≠[]:=List.ne_nil_of_length_pos Y;let d2:=d.mono N;let f:=N _ _ f;let L:=N _ _ L;erw[3838,a.ls,9,bJ.of f,p,1,l,33,x,22,L,(by rw[af];erw[AU j]),4];let M:=d2.put (x:=x) (v:=b[x].not) hl hb an;generalize upd H2 l (.lst ((b.map fI).set x (fI (b[x].not))))=H3 at M;let q:s.ws[i]?=ac (gL b):=(by rw[sd.ws,ao,hb];rfl);let wi:TX.Wr (i:Int):=gm ∅;let wx:TX.Wr (x:Int):=gm ∅;let O:=(TX.gP wi).2;let li:(TX.num (i:Int)).length<=1000:=aJ O (!_);let lx:(TX.num (x:Int)).length<=1000:=aJ (TX.gP wx).2 (!_);let l1:∀{z:Str},z.length<=900->(z++TX.num (i:Int)).length<=960:=λh=>Nz h O;let l2:∀{z:Str},z.length<=900->(z++TX.num (i:Int)++" ").length<=961:=λh=>Nz (m:=1) (l1 h) (show (" " : Str).length<=1 by decide);let ad:r.getD i []=b:=(by rw[ak,hb];rfl);let hz:decide (fw ((b.set x dr).map bI).sum=fw 0)=decide (gL (b.set x dr)=[]):=decide_eq_decide.mpr #[λz=>Vd.mp (V.int.inj z),λz=>gZ fw (Vd.mpr z)];let ab:∀{ys:!Nat},ys.isEmpty=df↔ys=[]:=List.isEmpty_iff;cases e:b[x] with|true=>rw[e] at M g;let al:=iy.mpr g;erw[38,fZ ?_];erw[1,a.dk,6,be _ _ M.dk,7,iI wi,1,DZ (!_) li,1,DZ (aJ (l1 (!_)) (!_)) (!_),38,iI wx,1,DZ (aJ (l2 (!_)) (!_)) lx,DZ (aJ (l2 (!_)) (!_)) lx,4];erw[M.said (cmd:=.Az i x) #[33,q,Cv,al] hL (ka (w:="fall") (↑_) _ _) λz s' F' H4 U st d4=>?_];let J:=U.ln;let#[_,_,W,_,_,rfl]:=U;rw[q] at W;ext W;let d4:uh K t.bf t.eV (nc t) a H4 F' (r.set i ((r.getD i []).set x dr)) cl (r.set i (b.set x ((not df)))) cl s':=d4;rw[ad] at d4;let#[v,hv,ev]:=Qo (A:="same") (B:="ends") (e:=((gL b).filter λz=>decide (z≠x)).isEmpty) (c:=gL (b.set x dr)=[]) (by rw[Lj];erw[ab]);rw[<- hz] at hv;subst ev;erw[g5,λl3 C=>#[12,.inr #[1,dI (bJ.of ay) hv #[24]]]];erw[Qp (gZ fA adx.symm) (k F' _ s' _ (d4.mono (aH.new C)) J)]|false=>rw[e] at M g;let ag:x∉gL b:=λz=>(by rw[iy,g] at z;ext z);erw[38,fP ?_];erw[1,a.dk,6,be _ _ M.dk,7,iI wi,1,DZ (!_) li,1,DZ (aJ (l1 (!_)) (!_)) (!_),38,iI wx,1,DZ (aJ (l2 (!_)) (!_)) lx,DZ (aJ (l2 (!_)) (!_)) lx,4];erw[M.said (cmd:=.lay i x) #[33,q,Cv,5,ag] hL (ka (w:="lay") (↑_) _ _) λz s' F' H4 U st d4=>?_];let J:=U.ln;let#[_,_,_,W,_,_,_,_,rfl]:=U;rw[q] at W;ext W;let d4:uh K t.bf t.eV (nc t) a H4 F' (r.set i ((r.getD i []).set x df)) cl (r.set i (b.set x ((not dr)))) cl s':=d4;rw[ad] at d4;let eb:b.set x dr=b:=wN g;rw[eb] at hz ⊢;let#[v,hv,ev]:=Qo (A:="same") (B:="begins") (e:=(gL b).isEmpty) (c:=gL b=[]) ab;rw[<- hz] at hv;subst ev;erw[g5,λl3 C=>#[12,.inr #[1,dI (bJ.of ay) hv #[24]]]];erw[Qp (gZ fA adx.symm) (k F' _ s' _ (d4.mono (aH.new C)) J)]
theorem YR(cl:!(Nat×Nat)):OZ cl=(AA cl).map λx=>x.map fw:=by rw[bZ];rfl
theorem xi{H:Hp}:∀b:!Bool,eU K H (b.map .bool) (b.map fI)
 |[]=>rfl
 |x::b=>#[.bl x,12,xi b]
noncomputable abbrev WZ(bs:!(!Bool)):!PyData:=bs.map λb=>PyData.list (b.map PyData.bool)
theorem YS{H:Hp}:∀{a:!du}{bs:!(!Bool)},ge a=ge bs->(∀(i:Nat)l b,a[i]?=ac l->bs[i]?=ac b->H l=ac (.lst (b.map fI)))->eU K H (WZ bs) (a.map fx)
 |[],[],_,_=>rfl
 |[],_::_,e,_=>by ext e
 |_::_,[],e,_=>by ext e
 |l::a,b::bs,e,h=>#[.ref l,1,#[l,1,bJ.of (h 0 l b rfl rfl),xi b],YS (Nat.succ.inj e) λi l b c d=>h (i+1) l b c d]
theorem xf:∀b:!Bool,eQ (b.map .bool)=df
 |[]=>rfl
 |x::b=>by
  show (PyData.canLay0 (.bool x)&&eQ (b.map .bool))=df;rw[xf b];rfl
theorem YT:∀bs:!(!Bool),eQ (WZ bs)=df
 |[]=>rfl
 |b::bs=>by
  show (eQ (b.map .bool)&&eQ (WZ bs))=df;rw[YT bs,xf b];rfl
theorem YU:∀b:!Bool,eJ (b.map .bool)=0
 |[]=>rfl
 |x::b=>by
  show max (PyData.depth (.bool x)) (eJ (b.map .bool))=0;rw[YU b];rfl
theorem Vh:∀bs:!(!Bool),eJ (WZ bs)<=1
 |[]=>!_
 |b::bs=>by
  show max (eJ (b.map .bool)+1) (eJ (WZ bs))<=1
  let:=Vh bs
  let:=YU b
  lia
noncomputable def AE(cl:!(Nat×Nat))(x y:Nat):Bool:=decide ((cl.getD y (0,0)).2=(cl.getD x (0,0)).2)
theorem L9{n:Nat}(h:n<=1000000):Txt.isdigit (HB n)=df:=by delta Txt.isdigit;rw[dh];erw[fy (TX.gP (gm h)).1,4];rw[<- Array.all_toList,jl];intro c a;let a:=TX.x9 (wo n) c a;exact ten_ (c:=c) (by decide +kernel) a
theorem nT{z:Str}(b:z.length<=900)(e:TX.Wr i):(z++TX.num i).length<=eD/\(z++TX.num i++" ").length<=eD/\∀y:Str,y.length<=60->(z++TX.num i++" " ++ y).length<=eD:=by let c:=Nz b (TX.gP e).2;let a:=Nz (m:=1) c (show (" " : Str).length<=1 by decide);rw[sizeLine_eq];exists 55,λy d=>by let:=Nz a d;lia
theorem uh.turn{A w:du}{c:NC}{a:AD}{H:Hp}{F:du->Prop}{bs B:!(!Bool)}{cl ch:!(Nat×Nat)}{s:NS}(d:uh K A w c a H F bs cl B ch s){x y g:Nat}{z:du}{cq:!du}(r:Off H F a.lc=ac (.lst (cq.map fx)))(u:fE K (Off H F) cq (OZ ch))(C:dH K (Off H F) z [.int y,.int g]):uh K A w c a (upd H a.lc (.lst ((cq.map fx).set x (.ref z)))) F bs cl B (ch.set x (y,g)) s:=by
 let m:=Ed (H:=H) (F:=F) (o:=.lst ((cq.map fx).set x (.ref z))) (fG r).1;let k:∀b p,dH K (Off H F) b p->dH K (Off (upd H a.lc (.lst ((cq.map fx).set x (.ref z)))) F) b p:=λb p=>(by rw[m];erw[dH.past r jm cj]);let j:∀b o,Off H F b=ac o->b≠a.lc->Off (upd H a.lc (.lst ((cq.map fx).set x (.ref z)))) F b=ac o:=λb o e n=>(by rw[m];erw[cj b o e n]);let ne:=d.ne;exists d.c6.past r jm,d.o,d.tb,d.s6,d.n5,by rw[bu];exact d.c5,d.t.keep (λb o e z=>j b o e (ne b ?_)) k,j _ _ d.dk (ne _ (-_)),k _ _ d.tl,j _ _ d.nm (ne _ (-_)),j _ _ d.rp (ne _ (-_)),d.ru.mono k,#[cq.set x z,by rw[m,ay,lE],4],#[j _ _ d.sts.at_ (ne _ (-_)),d.sts.len,d.sts.nd,λi l b f h=>j _ _ (d.sts.it i l b f h) (ne _ (.inl (aD f)))],j _ _ d.sq (ne _ (-_)),ne;·obtain rfl|rfl|rfl:=z <;> simp
 let e:OZ (ch.set x (y,g))=(OZ ch).set x [.int y,.int g]:=(by delta OZ;rw[lE]);rw[e];exists by rw[bu,bu];exact u.len,λi q v f h=>?_;rw[cP] at f h;by_cases n:x=i;rw[eG n] at f h;split at f;split at h;ext f;ext h;erw[k _ _ C];ext h;ext f;rw[eH n] at f h;erw[k _ _ (u.at' i q v f h)]
inductive Vi(K:ah)(CT CD:du)(c:NC)(vs:!V)(H:Hp)(Q:VK)(E:XK):Prop
 |mk(F:du->Prop)(a:AD)(bs:!(!Bool))(cl:!(Nat×Nat))(s:NS)(cc:Int):vs=[.ref a.dk,.int cc,.int (ge a.ns:Nat),.ref a.lc,.ref a.ls]->uh K CT CD c a H F bs cl bs cl s->ge s.ls<=100->(∀F' bs' cl' s' H',uh K CT CD c a H' F' bs' cl' bs' cl' s'->ge s'.ls<=ge s.ls+1->Q (.bl df) H')->Vi K CT CD c vs H Q E
theorem aau(T:Txt K mg w t):oG P w mg base T.Mp 12 (Vi K t.bf t.eV (nc t)):=by erw[T.Mp.F.iV jX λH Q E W h=>?_];·let#[F,a,B,cl,s,cc,rfl,d,hL,k]:=h;erw[_,(au (sS 5 jX (ck ir (pv 1) aF)) (au (sS 6 jX (ck mC (pv 1) aF)) (au (cV (PW.pt (wu (qT i0 (pv 5) aF) (qk (qT K8 (pv 4) (eB gx))))) (oR (cG (aat T) W T.Mn (Lv (pv 0) (pv 6) (pv 4)))) bR) (au (cV (PW.pt (wu (qT i0 (pv 5) aF) (qk (qT K8 (pv 3) (eB gx))))) (au (sS 7 jX (ck ir (pv 6) (lS T.gE (pv 3)))) (au (sS 8 jX (ck ir (ck mC (pv 6) aF) (pv 2))) (au (HL (i6 (oW (pv 8) (xT (xL (pv 3) (pv 7)) aF))) (HK (pv 3) (pv 7) hY)) (oR (qE i0 (cM (pv 0) T.j4 T.eE (dU T) W (dj (oV (cZ bH (cZ (jx (pv 7)) (cZ bH (cZ (jx (pv 8)) uv))))))) bH))))) bR) (au (cV (PW.pt (wu (qT i0 (pv 5) aF) (qk (qT K8 (pv 3) (eB gx))))) (au (sS 9 jX (ck ir (pv 6) (lS T.gE (pv 3)))) (au (sS 10 jX (ck CN (dP (kO jX ["_law_at","_law_callers","_law_sender"] [de,ac 3,ac 9]) rfl (eW rfl T.gF (dj (lS T.gE (pv 3)))) (~~~(gS 0 Rq)) (~~~(kB (qT i0 (yT K (yL K (pv 1) (pv 0)) aF) (yT K (yL K (pv 1) (pv 2)) aF)))) (~~~(cJ ko (by rfl) T.MA boot_str (dj (pv 0))))) (eB (oW bH bH)))) (au (sS 11 jX (xL (pv 10) (ck ir (ck mC (pv 6) aF) (lS T.gE (pv 10))))) (oR (ahF cW PySem.F.slot_str_isdigit PySem.F.type_str_isdigit Wf (cM (pv 0) T.j4 T.eE (dU T) W (dj (oV (cZ bH (cZ (jx (pv 9)) (cZ bH (cZ (XM (pv 11)) uv)))))))))))) bR) (au (cV (PW.pt (wu (qT i0 (pv 5) aF) (qk (qT oq (cM (pv 0) T.j4 T.eE (dU T) W (dj bH)) bH)))) (oR (D4 pV (cM (pv 0) T.j4 T.eE (dU T) W (dj bH)) (eB (Lv bH bH bH)) (by with_unfolding_all rfl))) bR) (au (sS 8 jX (ck ir (pv 6) (pv 2))) (au (sS 12 jX (ck ir (ck mC (pv 6) aF) aF)) (oR (D4 pV (cM (pv 0) T.j4 T.eE (dU T) W (dj (oV (cZ bH (cZ (jx (pv 8)) (cZ bH (cZ (jx (pv 12)) uv))))))) (eB (oW bH bH)) (by with_unfolding_all rfl))))))))))),4];left;let n1:=d.o.n1;let n5:=d.n5;let c5:=d.c5;erw[162,(by show (0:Int)<6;decide),4];show iU 5 (fw (cc%6)) _ _ _;exists 104;show iU 6 (fw (cc/6)) _ _ _;generalize cc%6=kd;generalize cc/6=mo;(try dsimp only[iU,SI]);erw[xY (λc U=>c=[ac (.ref a.dk),ac (.int cc),ac (.int (ge a.ns:Nat)),ac (.ref a.lc),ac (.ref a.ls),ac (.int kd),ac (.int mo),de,de,de,de,de,de]/\∃p,uh K t.bf t.eV (nc t) a U p B cl B cl s) ?_ (λN' N=>?_)];rotate_left;erw[18,lZ (λ_=>?_) (λ_=>fP (N _ _ #[2,F,d]))];erw[1,bL _,λC m=>?_];let u3:=aH.new (o:=.lst []) m;let u:=ay (H:=H) (a:=C) (o:=.lst []);generalize upd H C (.lst [])=O at u3 u;let A:=d.mono u3;let S:=A.sts;erw[PyData.list (WZ B),.list [],#[a.ls,1,bJ.of (be _ _ S.at_),YS S.len λi l b e1 e2=>be _ _ (S.it i l b e1 e2)],#[C,[],2,bJ.of u,2],YT _,2,bM (b5 (aJ (dX _ _) (by show eJ _+1<=64;let:=Vh B;lia)) _) W.units,14];rw[KR];by_cases J:B=[];subst J;erw[fP (N _ _ #[2,F,A])];let:(WZ B).isEmpty=dr:=(by cases h:B with|nil=>erw[ff h J]|cons=>rfl);rw[this];erw[fZ ?_];erw[138,F,a,B,cl,s,mo,2,A,5,J,λp aK s' U d' e=>k p aK cl s' U d' ∅];intro c H1 ⟨rfl,F1,d1⟩;let aj:cl≠[]->((AA cl).map UY).isEmpty=dr:=λJ=>(by cases h:cl with|nil=>erw[ff h J]|cons=>rfl);let#[aw,aG,aP]:=d1.aE;let aQ:ge s.aE=ge cl:=(by rw[aw,af]);(try dsimp only[iU,SI]);erw[xY (λc U=>c=[ac (.ref a.dk),ac (.int cc),ac (.int (ge a.ns:Nat)),ac (.ref a.lc),ac (.ref a.ls),ac (.int kd),ac (.int mo),de,de,de,de,de,de]/\∃p,uh K t.bf t.eV (nc t) a U p B cl B cl s) ?_ (λN' N=>?_)];rotate_left;(·erw[18,lZ (λ_=>?_) (λ_=>fP (N _ _ #[2,F1,d1]))];erw[1,bL _,λC m=>?_];let u3:=aH.new (o:=.lst []) m;let u:=ay (H:=H1) (a:=C) (o:=.lst []);generalize upd H1 C (.lst [])=O at u3 u;let A:=d1.mono u3;let#[r,c1,Y]:=A.cc;let I:=be _ _ c1;let eq:ge r=ge cl:=(by rw[Y.len,af]);let ag:fE K O r ((AA cl).map λx=>x.map fw):=(by rw[<- YR];erw[Y.mono λb x z=>be.cU z]);erw[.list ((AA cl).map UY),.list [],#[a.lc,1,bJ.of I,Nb ag],#[C,[],2,bJ.of u,2],Nc _,2,bM (b5 (aJ (dX _ _) (by show eJ _+1<=64;let:=Jp (AA cl);lia)) _) W.units,14];rw[KR];by_cases J:cl=[];subst J;erw[fP (N _ _ #[2,F1,A])];rw[aj J];erw[fZ ?_];let M:0<ge cl:=jT.mpr J;let NB:((ge (r.map fx):Nat):Int)=(ge cl:Int):=(by rw[af,eq]);let#[x,ex,R]:=kY mo M;let#[y,ey,f]:=kY (mo/5) (show 0<ge a.ns by lia);erw[38,a.lc,1,.inl (bJ.of I),62,(by rw[NB];lia),4];(try dsimp only);rw[NB,ex];erw[10162,(by show (0:Int)<((ge a.ns:Nat):Int);lia),4];(try dsimp only);rw[ey];let aI:dH K O (r[x]'∅) [.int cl[x].1,.int cl[x].2]:=be.cU (Y.at' x _ _ (aa _) (by rw[ao,aa R];rfl));let aD:xW (r.map fx) (x:Int)=ac (.ref (r[x]'∅)):=cH (by rw[ao,aa];rfl);erw[138,dI (bJ.of I) aD (gf aI rfl #[g5,λz hz=>?_])];let u5:=aH.new (o:=.tup [fw (y:Nat),fw (cl[x].2:Nat)]) hz;let aq:=ay (H:=O) (a:=z) (o:=.tup [fw (y:Nat),fw (cl[x].2:Nat)]);generalize upd O z (.tup [fw (y:Nat),fw (cl[x].2:Nat)])=X at u5 aq;let d5:=A.mono u5;let ap:=iM (F:=F1) u5 _ _ c1;let aA:fE K (Off X F1) r (OZ cl):=Y.mono λb x e=>(iM (F:=F1) u5).cU e;let nF:¬F1 z:=λq=>(by let#[o',e]:=A.c6.there q;rw[hz] at e;ext e);erw[38,a.lc,33,x,22,be _ _ ap,(by rw[af,eq];erw[AU R]),4];let d6:=d5.turn (x:=x) (y:=y) (g:=cl[x].2) ap aA (dH.of (mw nF aq));generalize upd X a.lc (.lst ((r.map fx).set x (.ref z)))=H6 at d6;let wx:TX.Wr (x:Int):=gm ∅;let wy:TX.Wr (y:Int):=gm ∅;let#[z1,z2,D]:=nT (z:=Str.empty++"move ") (!_) wx;let D:=D _ (TX.gP wy).2;erw[1,a.dk,6,be _ _ d6.dk,7,iI wx,1,z1,1,z2,38,iI wy,1,D,D,4];erw[d6.said (cmd:=.move x y) #[5,f] ∅ (ka (w:="move") (↑_) _ _) λv s' p H7 G st d7=>?_];let ae:=G.ln;let#[rfl,rfl]:=G;let eg:cl.getD x (0,0)=cl[x]:=(by rw[ak,aa R];rfl);let d7:uh K t.bf t.eV (nc t) a H7 p B (cl.set x (y,(cl.getD x (0,0)).2)) B (cl.set x (y,cl[x].2)) _:=d7;rw[eg] at d7;erw[2,Qp rfl (k p _ _ _ H7 d7 (by let:Zl (.move x y)=0:=rfl;lia))]);intro c H2 ⟨rfl,F2,d2⟩;(try dsimp only[iU,SI]);erw[xY (λc U=>c=[ac (.ref a.dk),ac (.int cc),ac (.int (ge a.ns:Nat)),ac (.ref a.lc),ac (.ref a.ls),ac (.int kd),ac (.int mo),de,de,de,de,de,de]/\∃p,uh K t.bf t.eV (nc t) a U p B cl B cl s) ?_ (λN' N=>?_)];rotate_left;(·erw[18,lZ (λ_=>?_) (λ_=>fP (N _ _ #[2,F2,d2]))];erw[1,bL _,λC m=>?_];let u3:=aH.new (o:=.lst []) m;let u:=ay (H:=H2) (a:=C) (o:=.lst []);generalize upd H2 C (.lst [])=O at u3 u;let A:=d2.mono u3;let#[r,c1,Y]:=A.cc;let I:=be _ _ c1;let eq:ge r=ge cl:=(by rw[Y.len,af]);let ag:fE K O r ((AA cl).map λx=>x.map fw):=(by rw[<- YR];erw[Y.mono λb x z=>be.cU z]);erw[.list ((AA cl).map UY),.list [],#[a.lc,1,bJ.of I,Nb ag],#[C,[],2,bJ.of u,2],Nc _,2,bM (b5 (aJ (dX _ _) (by show eJ _+1<=64;let:=Jp (AA cl);lia)) _) W.units,14];rw[KR];by_cases J:cl=[];subst J;erw[fP (N _ _ #[2,F2,A])];rw[aj J];erw[fZ ?_];let M:0<ge cl:=jT.mpr J;let NB:((ge (r.map fx):Nat):Int)=(ge cl:Int):=(by rw[af,eq]);let#[x,ex,R]:=kY mo M;let hP:bJ K O a.lc (r.map fx):=bJ.of I;let at':∀{y:Nat} (f:y<ge cl),xW (r.map fx) (y:Int)=ac (.ref (r[y]'∅))/\dH K O (r[y]'∅) [.int cl[y].1,.int cl[y].2]:=λ{y} f=>#[cH (by rw[ao,aa];rfl),be.cU (Y.at' y _ _ (aa _) (by rw[ao,aa f];rfl))];let eg:∀{y:Nat} (f:y<ge cl),(cl.getD y (0,0))=cl[y]:=λ{y} f=>(by rw[ak,aa f];rfl);erw[38,a.lc,1,.inl hP,62,(by rw[NB];lia),4];(try dsimp only);rw[NB,ex];exists 1,a.lc,1,.inl hP,((ge (r.map fx):Nat):Int),25,by rw[af];lia,λaM Z=>?_;rw[NB];erw[fK (n:=((ge cl:Int)).toNat) (λi ys _=>ys=((av i).filter (AE cl x)).map λy=>fA (HB y)) Z wB mU rfl ?_ ?_];(·rintro i ys X hi s5 f rfl y H6 ⟨rfl,rfl⟩;rw[cT];let al:i<ge cl:=∅;let#[a1,q1]:=at' al;let#[a2,q2]:=at' R;erw[38,dI (s5.seq hP) a1 (gf (s5.cU q1) rfl #[38,dI (s5.seq hP) a2 (gf (s5.cU q2) rfl #[84])])];let ed:decide (fw ((cl[i].2:Nat):Int)=fw ((cl[x].2:Nat):Int))=AE cl x i:=(by delta AE;rw[eg al,eg R,decide_eq_decide];exists λz=>by let:=V.int.inj z;lia,λz=>by rw[z]);(try dsimp only);rw[ed];erw[lZ (λhc=>?_) (λhc=>?_)];erw[38,iI (gm (n:=i) ∅),4];erw[dS Z hi s5 f ?_ ?_];rw[af];erw[bP (aJ (bx _ _) ?_)];rw[aX];lia;rw[sj,eG hc,aN];rfl;erw[gU hi s5 f ?_];rw[sj,eH hc,cu]);rintro ys X s5 f rfl;rw[cQ] at f;let ab:∀y∈(av (ge cl)).filter (AE cl x),y<ge s.aE/\s.groups[y]?=s.groups[x]?:=λy z=>(by let#[z1,z2]:=aZ.mp z;let f:=bO.mp z1;exists 54;let:=g4 z2;rw[eg f,eg R] at this;rw[aG,ao,ao,aa f,aa R];erw[gZ ac this]);let aL:ge ((av (ge cl)).filter (AE cl x))<=5:=(by let:=bx (AE cl x) (av (ge cl));rw[aX] at this;lia);generalize (av (ge cl)).filter (AE cl x)=L at f ab aL;erw[g5,λl2 aC=>?_];let u6:=aH.new (o:=.lst [fA "all",fA "all"]) aC;let ar:=ay (H:=X) (a:=l2) (o:=.lst [fA "all",fA "all"]);let ah:=u6 _ _ f;let s6:=s5.trans u6;generalize upd X l2 (.lst [fA "all",fA "all"])=H6 at u6 ar ah s6;erw[aM,l2,62,ah,ar,(by simp only[af,bG,qe];erw[gp (bP ∅)]),λl3 as=>?_];let u7:=aH.new (o:=.lst ((L.map λy=>fA (HB y))++[fA "all",fA "all"])) as;let ad:=ay (H:=H6) (a:=l3) (o:=.lst ((L.map λy=>fA (HB y))++[fA "all",fA "all"]));let s7:=s6.trans u7;generalize upd H6 l3 (.lst ((L.map λy=>fA (HB y))++[fA "all",fA "all"]))=H7 at u7 ad s7;let am:((ge ((L.map λy=>fA (HB y))++[fA "all",fA "all"]):Nat):Int)=((ge L+2:Nat):Int):=(by rw[az,af];rfl);let#[j,ej,hj]:=kY (mo/5) (show 0<ge L+2 by lia);erw[3801,l3,1,.inl (bJ.of ad),62,(by rw[am];lia),4];(try dsimp only);rw[am,ej];let ai:∃(to:Option Nat) (z:Str),((L.map λy=>fA (HB y))++[fA "all",fA "all"])[j]?=ac (fA z)/\z.length<=60/\(∀y,to=ac y->y<ge s.aE/\s.groups[y]?=s.groups[x]?)/\Txt.join TX.oz ["post",TX.num (x:Int),z]=ug.text (.post x to):=(by by_cases q:j<ge L;let hm:=ab _ (aB q);exists ac L[j],HB L[j],4,(TX.gP (gm ∅)).2,λy e=>by ext e;exact hm,2;rw[aW (by rw[af];erw[q]),ao,aa q];rfl;·erw[de,"all",?_,!_,(λy e=>by ext e),2];rw[bE (by rw[af];lia),af];let:j-(ge L)=0\/j-(ge L)=1:=∅;obtain e|e:=this <;> rw[e] <;> rfl);let#[to,z,hz,an,aO,ax]:=ai;let d7:=A.mono s7;erw[dI (bJ.of ad) (cH hz) ?_];let wx:TX.Wr (x:Int):=gm ∅;let#[z1,z2,D]:=nT (z:=Str.empty++"post ") (!_) wx;let D:=D z an;erw[1,a.dk,6,be _ _ d7.dk,7,iI wx,1,z1,1,z2,1,z,.str (aJ an (!_)),1,D,D,4];erw[d7.said (cmd:=.post x to) #[5,aO] ∅ ((ka (w:="post") (↑_) _ _).trans ax) λv s' p H8 G st d8=>?_];let ae:=G.ln;let#[os,_,_,_,rfl]:=G;exists 824;rw[L9 ∅];erw[k p _ _ _ H8 d8 (by let:Zl (.post x to)=1:=rfl;lia)]);intro c H3 ⟨rfl,F3,A⟩;(try dsimp only[iU,SI]);erw[xY (λc U=>c=[ac (.ref a.dk),ac (.int cc),ac (.int (ge a.ns:Nat)),ac (.ref a.lc),ac (.ref a.ls),ac (.int kd),ac (.int mo),de,de,de,de,de,de]/\∃p,uh K t.bf t.eV (nc t) a U p B cl B cl s) ?_ (λN' N=>?_)];rotate_left;(·erw[18,lZ (λ_=>?_) (λ_=>fP (N _ _ #[2,F3,A]))];erw[1,a.dk,6,be _ _ A.dk,24];erw[A.said (cmd:=.flying) trivial ∅ rfl λv s' p O G st d4=>?_];let#[rfl,rfl]:=G;erw[8,lZ (λhp=>?_) (λ_=>N _ _ #[2,p,d4])];let hc:0<ge s'.cps:=Nat.pos_of_ne_zero λz=>(by rw[z] at hp;erw[ff hp (↑_)]);erw[1,a.dk,6,be _ _ d4.dk,24];erw[d4.said (cmd:=.pass 0) hc ∅ (↑_) λv s2 F5 X G st d5=>?_];let ae:=G.ln;erw[vD,λC m=>#[C,1,.inl (bJ.of ay),224]];let hv:NF (fA v) [fA "come",fA "twice",fA "lost"]=df:=(by let#[_,_,_,_,_,_,_,_,_,_,_,rfl]:=G;delta CA;split;(·split <;> decide +kernel);decide +kernel);rw[eH aU,hv];erw[k F5 _ _ _ _ (d5.mono (aH.new m)) (by let:Zl (.pass 0)=0:=rfl;lia)]);intro c O ⟨rfl,F4,d4⟩;let#[x,ex,R]:=kY mo (show 0<ge a.ns by lia);let#[y,ey,f]:=kY (mo/5) (show 0<3 by decide);erw[3862,(by show (0:Int)<((ge a.ns:Nat):Int);lia),4];show iU 8 (fw (mo%(ge a.ns:Int))) _ _ _;rw[ex];erw[1062,(by show (0:Int)<3;decide),4];show iU 12 (fw (mo/5%3)) _ _ _;rw[show mo/5%3=(y:Int) from ey];let wx:TX.Wr (x:Int):=gm ∅;let wy:TX.Wr (y:Int):=gm ∅;let#[z1,z2,D]:=nT (z:=Str.empty++"call ") (!_) wx;let D:=D _ (TX.gP wy).2;erw[1,a.dk,6,be _ _ d4.dk,7,iI wx,1,z1,1,z2,38,iI wy,1,D,D,4];erw[d4.said (cmd:=.call x y) #[R,f] ∅ (ka (w:="call") (↑_) _ _) λv s' p X G st d5=>?_];let ae:=G.ln;erw[g5,λC m=>#[C,1,.inl (bJ.of ay),224]];let hv:NF (fA v) [fA "new",fA "same"]=df:=(by let#[_,_,_,_,rfl]:=G;split <;> decide +kernel);rw[eH aU,hv];erw[k p _ _ _ _ (d5.mono (aH.new m)) (by let:Zl (.call x y)=0:=rfl;lia)]
theorem aav:qO X "str.split" (λx vs H Q=>∃z y,x=.str z/\vs=[.str y]/\(y.length==0)=dr/\z.length<=16000000/\∀l,H l=de->Q (.ref l) (upd H l (.lst ((Txt.split z y).map fA)))):=by
 intro f s n H x vs v E Q I B A h;let#[z,y,rfl,rfl,j,D,q]:=h;let#[t,rfl]:=B;let#[u,rfl,p]:=A.one;let#[i,rfl]:=p;let C:eD=16777216:=!_;let m:=split_len z y;let c:∀(a:!dy)(k:Nat),cO ((Txt.split z y).map fA) a->EP X f n Q (.ref s.heap.objs.size) {s with heap:=s.heap.push {cls:=.type "list",data:=.seq a.toArray},toks:=k}:=λa k r=>
  #[.ref s.heap.objs.size,_,I.laid (t':=k) (λb o e=>dL _ e) (aA _) (show jL X.prog X.w _ _ _ (.lst ((Txt.split z y).map fA)) from #[by rw[af];lia,a,(0),r,en _ rfl]),2,q _ (I.hok.fresh (aA _))]
 cases d:(decide (z.length<y.length) || decide (Builtin.Str.strKind z<Builtin.Str.strKind y));cases g:(Builtin.Str.occurrences z y 0 z.length (z.length+1)).isEmpty;let e:Txt.split z y=Builtin.Str.partsBetween z (Builtin.Str.occurrences z y 0 z.length (z.length+1)) y.length:=(eH (ne_true_of_eq_false d)).trans (eH (ne_true_of_eq_false g));erw[call_meets gv (typeIs_str _ _ _) PySem.F.entry_str_split (PySem.F.args_str_split_2 _ _) (meets_str_split_sep z y t i d j g ∅ (by rw[<- e];lia)) ?_];erw[c _ _ (by rw[<- e];erw[Ic _ _])];let e:Txt.split z y=[z]:=(eH (ne_true_of_eq_false d)).trans (eG g);erw[call_meets gv (typeIs_str _ _ _) PySem.F.entry_str_split (PySem.F.args_str_split_2 _ _) (meets_str_split_not_found z y t i d j g) ?_];erw[c [Value.str z t] s.toks (by rw[e];erw[.cons #[t,2] .nil])];let e:Txt.split z y=[z]:=eG d;erw[call_meets gv (typeIs_str _ _ _) PySem.F.entry_str_split (PySem.F.args_str_split_2 _ _) (meets_str_split_cannot_occur z y t i d) ?_];erw[c [Value.str z t] s.toks (by rw[e];erw[.cons #[t,2] .nil])]
theorem JY{ws:!Str}(a:ws≠[])(b:∀w∈ws,32∉TX.cs w):Txt.split (Txt.join TX.oz ws) TX.oz=ws:=by rw[TX.join_eq];erw[TX.Ib a b]
theorem SF{a b:Nat}(d:a<=1000000)(f:b<=1000000)(e:HB a=HB b):a=b:=by let c:=TX.num_reads (gm d);rw[show TX.num (a:Int)=TX.num (b:Int) from e,TX.num_reads (gm f)] at c;let:=aI c;lia
theorem afR:32∉TX.cs (HB n):=TX.t9 (wo n) (.inl (!_))
theorem xI{b:Nat}(a:b<=1000000):∀{l:!Nat},(∀x∈l,x<=1000000)->(l.map HB).count (HB b)=l.count b
 |[],_=>rfl
 |x::l,h=>by
  rw[bz,List.count_cons,List.count_cons,xI a λy c=>h y (aO _ c)];congr 1;by_cases e:x=b
  ·subst e;simp
  ·let:HB x≠HB b:=λz=>e (SF (h x aM) a z)
   simp[e,this]
theorem aaw{l:!Nat}(h:∀x∈l,x<=1000000)(hl:ge l<=210000):(Gn (bA l)).length<=16000000/\∀b,b<=1000000->(Txt.split (Gn (bA l)) " ").count (HB b)=l.count b:=by cases l with|nil=>erw[!_,λb a=>?_];show (Txt.split ("-" : Str) TX.oz).count (HB b)=0;let e:Txt.split ("-" : Str) TX.oz=[("-" : Str)]:=JY (ws:=[("-" : Str)]) (!_) (↑_);rw[e];erw[List.count_eq_zero.mpr λz=>?_];let z:=aP.mp z;let:=TX.x9 (wo b) 45 (by rw[show TX.num (b:Int) = "-" from z];decide +kernel);lia|cons n l=>let e:Gn (bA (n::l))=TX.fJ (HB n) (l.map λk:Nat=>(k:Int)):=(by show Txt.join TX.oz ((bA (n::l)).map ia)=Txt.join TX.oz (HB n::(l.map λk:Nat=>(k:Int)).map TX.num);rw[bZ,bZ];rfl);let c:∀x∈l.map (λk:Nat=>(k:Int)),TX.Wr x:=λx d=>(by let#[y,f,rfl]:=aG.mp d;erw[gm (h y (aO _ f))]);rw[e];erw[4,λb a=>?_];let:(TX.fJ (HB n) (l.map λk:Nat=>(k:Int))).length<=_:=TX.Tp (TX.gP (gm (h n aM))).2 c;rw[af] at this;let:(ge l+1)*61<=210000*61:=Nat.mul_le_mul_right _ hl;lia;rw[show Txt.split (TX.fJ (HB n) (l.map λk:Nat=>(k:Int))) " " = _ from TX.AY afR c,<- xI a h];congr 1;show HB n::(l.map λk:Nat=>(k:Int)).map TX.num=_;rw[bZ];rfl
inductive YV(K:ah)(CT CD:du)(c:NC)(vs:!V)(H:Hp)(Q:VK)(E:XK):Prop
 |mk(F:du->Prop)(a:AD)(bs:!(!Bool))(cl:!(Nat×Nat))(s:NS)(x b:Nat):vs=[.ref a.dk,.int x,.str (HB b)]->uh K CT CD c a H F bs cl bs cl s->x<ge cl->ge s.ls<=120->b<=120->(∀F' H',uh K CT CD c a H' F' bs cl bs cl s->aH (Off H F) (Off H' F')->Q (.int ((s.had.getD x []).count b:Nat)) H')->YV K CT CD c vs H Q E
theorem adB(T:Txt K mg w t):oG P w mg base T.RO 11 (YV K t.bf t.eV (nc t)):=by erw[T.RO.F.iV TZ λH Q E J h=>?_];·let#[F,a,X,U,s,x,b,rfl,d,C,M,hb,k]:=h;erw[_,(au (sS 3 TZ (jM cW gv pH aav (cM (pv 0) T.j4 T.eE (dU T) J (dj (oV (cZ bH (cZ (jx (pv 1)) uv))))) (dj bH))) (oR (jM bK vX PySem.F.type_list_count ZP (pv 3) (dj (pv 2))))),4];left;let#[m,B,A]:=d.aE;let c5:=d.c5;let f:x<ge s.aE:=(by rw[m,af];erw[C]);let n:TX.Wr (x:Int):=gm ∅;let#[q,_,_]:=nT (z:=Str.empty++"had ") (!_) n;erw[1,a.dk,6,be _ _ d.dk,7,iI n,1,q,q,4];erw[d.said (cmd:=.had x) f M (kf (w:="had") (↑_) _) λv e O p I st G=>?_];let#[rfl,rfl]:=I;let#[D,r,W,_,L]:=id d.s6.sk;let c:x<ge e.had:=(by rw[r.bd.hl];erw[f]);let u:e.had.getD x []=e.had[x]:=(by rw[ak,aa c];rfl);let S:=r.bd.hb _ (aB c);let#[N,R]:=aaw (l:=e.had.getD x []) (λi y=>by rw[u] at y;let:=L.hb _ (aB c) i y;lia) (by rw[u];lia);erw[2622,N,λl hl=>?_];let j:=aH.new (o:=.lst ((Txt.split (Gn (bA (e.had.getD x []))) " ").map fA)) hl;let g:=ay (H:=p) (a:=l) (o:=.lst ((Txt.split (Gn (bA (e.had.getD x []))) " ").map fA));generalize upd p l (.lst ((Txt.split (Gn (bA (e.had.getD x []))) " ").map fA))=H2 at j g;erw[1,.inl #[23,bJ.of g],1,l,62,bJ.of g,4];rw[R b ∅];erw[k O H2 (G.mono j) ((iL st).trans (iM j))]
noncomputable def qb(r:RM.Row):!Int:=[r.hd,r.co,r.ho]++(if r.by_<0 then [] else [r.by_])
noncomputable def O3(r:RM.Row):Str:=if r.by_<0 then "-" else TX.num r.by_
theorem adC:Gn (cz r)=Txt.join TX.oz [TX.num r.hd,TX.num r.co,TX.num r.ho,O3 r]:=by show Txt.join TX.oz [TX.num r.hd,TX.num r.co,TX.num r.ho,ia (jf r.by_)]=_;delta jf O3;split <;> rfl
theorem KM(h:TX.Wr n):TX.num n≠("-" : Str):=λz=>by
 let:=TX.x9 h.1 45 (by rw[z];decide +kernel)
 lia
inductive YW(K:ah)(CT CD:du)(c:NC)(vs:!V)(H:Hp)(Q:VK)(E:XK):Prop
 |mk(F:du->Prop)(a:AD)(bs:!(!Bool))(cl:!(Nat×Nat))(s:NS)(x g:Nat):vs=[.ref a.dk,.int x,.int g]->uh K CT CD c a H F bs cl bs cl s->x<ge a.ns->g<3->ge s.ls<=120->(∀F' H' l,uh K CT CD c a H' F' bs cl bs cl s->aH (Off H F) (Off H' F')->Off H' F' l=ac (.lst ((qb (s.R g x)).map fw))->(∀b o,Off H F b=ac o->b≠l)->Q (.ref l) H')->YW K CT CD c vs H Q E
theorem adD(T:Txt K mg w t):oG P w mg base T.RN 11 (YW K t.bf t.eV (nc t)):=by erw[T.RN.F.iV GR λH Q E hr h=>?_];·let#[F,a,bs,cl,s,x,g,rfl,d,f,hg,hL,k]:=h;erw[_,(au (sS 3 GR (jM cW gv pH GK (cM (pv 0) T.j4 T.eE (dU T) hr (dj (oV (cZ bH (cZ (jx (pv 1)) (cZ bH (cZ (jx (pv 2)) uv))))))) (dj bH))) (oR (ck CN (dP (kO GR ["_law_word"] [de]) rfl (cY (jw vd (pv 3) oU (jP aF))) (~~~(gS 0 TV)) (~~~fj) (~~~(cJ Ie (by rfl) T.G2 boot_int (dj (pv 0))))) (dP (kO GR ["_law_word"] [de]) rfl (cY (jw vd (pv 3) (jP aF) oU)) (~~~(gS 0 TY)) (~~~(kB (qT oq (pv 0) bH))) (~~~(cJ Ie (by rfl) T.G2 boot_int (dj (pv 0)))))))),4];left;let n5:=d.n5;let wx:TX.Wr (x:Int):=gm ∅;let wg:TX.Wr (g:Int):=gm ∅;let#[z1,z2,z3]:=nT (z:=Str.empty++"row ") (!_) wx;let z3:=z3 _ (TX.gP wg).2;erw[1,a.dk,6,be _ _ d.dk,7,iI wx,1,z1,1,z2,38,iI wg,1,z3,z3,4];erw[d.said (cmd:=.row x g) #[f,hg] hL (ka (w:="row") (↑_) _ _) λv c A H1 dn st d1=>?_];let#[rfl,rfl]:=dn;let#[D,sd,hD,rb,iv]:=id d.s6.sk;let j:=xn d.o sd.ok rb f hg;let w1:TX.Wr (c.R g x).hd:=(by cases j _ aM with|int h=>erw[h]);let w2:TX.Wr (c.R g x).co:=(by cases j (.int (c.R g x).co) (by simp[cz]) with|int h=>erw[h]);let w3:TX.Wr (c.R g x).ho:=(by cases j (.int (c.R g x).ho) (by simp[cz]) with|int h=>erw[h]);let N:¬(c.R g x).by_<0->TX.Wr (c.R g x).by_:=λn=>(by let:=j (jf (c.R g x).by_) (by simp[cz]);rw[bg ∅] at this;cases this with|int h=>erw[h]);let kk:∀A Z l,uh K t.bf t.eV (nc t) a Z A bs cl bs cl c->aH (Off H F) (Off Z A)->Off Z A l=ac (.lst ((qb (c.R g x)).map fw))->(∀b o,Off H F b=ac o->b≠l)->Q (.ref l) Z:=k;rw[adC];delta qb at kk;let wb:(O3 (c.R g x)).length<=60/\32∉TX.cs (O3 (c.R g x)):=(by delta O3;split;erw[!_,↑_];rename_i n;erw[(TX.gP (N n)).2,TX.t9 (N n).1 (.inl (!_))]);(let X:O3 (c.R g x)=if (c.R g x).by_<0 then ("-" : Str) else TX.num (c.R g x).by_:=rfl);generalize O3 (c.R g x)=bw at wb X;generalize (c.R g x).hd=r1 at *;generalize (c.R g x).co=r2 at *;generalize (c.R g x).ho=r3 at *;generalize (c.R g x).by_=r4 at *;let es:Txt.split (Txt.join TX.oz [TX.num r1,TX.num r2,TX.num r3,bw]) TX.oz=[TX.num r1,TX.num r2,TX.num r3,bw]:=JY (-_) λy G=>(by let:y=TX.num r1\/y=TX.num r2\/y=TX.num r3\/y=bw:=G⁻¹;obtain rfl|rfl|rfl|rfl:=this;erw[TX.t9 w1.1 (.inl (!_))];erw[TX.t9 w2.1 (.inl (!_))];erw[TX.t9 w3.1 (.inl (!_))];erw[wb.2]);let el:(Txt.join TX.oz [TX.num r1,TX.num r2,TX.num r3,bw]).length<=100000:=(by rw[TX.join_eq,<- TX.yQ,TX.x8];simp only[bz,List.map_nil,TX.inter,az,TX.yQ];let:=(TX.gP w1).2;let:=(TX.gP w2).2;let:=(TX.gP w3).2;let:TX.oz.length=1:=rfl;lia);erw[2622,el,λl hl=>?_];rw[show Txt.split (Txt.join TX.oz [TX.num r1,TX.num r2,TX.num r3,bw]) _=_ from es];let u2:=aH.new (o:=.lst ([TX.num r1,TX.num r2,TX.num r3,bw].map fA)) hl;let M:=ay (H:=H1) (a:=l) (o:=.lst ([TX.num r1,TX.num r2,TX.num r3,bw].map fA));generalize upd H1 l (.lst ([TX.num r1,TX.num r2,TX.num r3,bw].map fA))=H2 at u2 M;erw[38,l,1,bJ.of M,λl3 aa=>?_];rw[show Ac ([TX.num r1,TX.num r2,TX.num r3,bw].map fA) de (ac 3)=[fA (TX.num r1),fA (TX.num r2),fA (TX.num r3)] from rfl];let u3:=aH.new (o:=.lst [fA (TX.num r1),fA (TX.num r2),fA (TX.num r3)]) aa;let W:bJ K _ l3 [fA (TX.num r1),fA (TX.num r2),fA (TX.num r3)]:=bJ.of (ay (H:=H2) (a:=l3) (o:=.lst [fA (TX.num r1),fA (TX.num r2),fA (TX.num r3)]));generalize upd H2 l3 (.lst [fA (TX.num r1),fA (TX.num r2),fA (TX.num r3)])=H3 at u3 W;erw[l3,2,#[_,W],λO J=>?_];let L:∀i,i<3->TX.Wr ([r1,r2,r3].getD i 0)/\[fA (TX.num r1),fA (TX.num r2),fA (TX.num r3)][i]?=ac (fA (TX.num ([r1,r2,r3].getD i 0))):=λi u=>(by let:i=0\/i=1\/i=2:=∅;obtain rfl|rfl|rfl:=this;erw[w1,2];erw[w2,2];erw[w3,2]);erw[nV (n:=3) (λi=>.str (TX.num ([r1,r2,r3].getD i 0))) (λi=>fw ([r1,r2,r3].getD i 0)) J (jC W) (fQ W) (λi C x H5 u U f=>?_) (!_) (λi C R S u U h1=>?_) (λC U G=>?_)];let#[rfl,f]:=f;let f:=f _ (U.seq W);rw[(L i u).2] at f;erw[2,(aI f).symm];let#[w,_]:=L i u;erw[16,TX.num_reads w,aJ (TX.gP w).2 (!_),h1 C (aH.refl _)];let G:C O=ac (.lst [fw r1,fw r2,fw r3]):=G;let ad:=(u3.trans U) _ _ M;erw[38,l,1,bJ.of ad,λY ae=>?_];rw[show Ac ([TX.num r1,TX.num r2,TX.num r3,bw].map fA) (ac 3) de=[fA bw] from rfl];let u5:=aH.new (o:=.lst [fA bw]) ae;let I:bJ K _ Y [fA bw]:=bJ.of (ay (H:=C) (a:=Y) (o:=.lst [fA bw]));let Yl:=u5 _ _ G;generalize upd C Y (.lst [fA bw])=H5 at u5 I Yl;erw[Y,2,#[_,I],λU9 EW=>?_];erw[CZ (n:=1) (λ_=>.str bw) (λ_=>if r4<0 then de else ac (fw r4)) EW (jC I) (fQ I) (λi B x H7 u s6 f=>?_) (!_) (λi B R S u s6 h1 M=>?_) (λB s6 r=>?_)];let#[rfl,f]:=f;let f:=f _ (s6.seq I);let:i=0:=∅;subst this;erw[2,(aI f).symm];exists 184;by_cases n:r4<0;rw[eG n] at X;rw[X];erw[lK (by rw[fy rfl];rfl) (M B (aH.refl _) (eG n))];rw[eH n] at X;rw[X,gh λz=>KM (N n) (V.str.inj z)];erw[fZ #[16,TX.num_reads (N n),aJ (TX.gP (N n)).2 (!_),h1 _ B (aH.refl _) (eH n)]];let r:B U9=ac (.lst ((if r4<0 then [] else [r4]).map fw)):=(by rw[r];show ac (gc ([0].filterMap λ_=>if r4<0 then de else ac (fw r4)))=_;by_cases n:r4<0;simp[n];simp[n]);let ab:=s6 _ _ Yl;let lb:ge ((if r4<0 then [] else [r4]):!Int)<=1:=(by split <;> simp);erw[O,U9,62,ab,r,(by rw[af];erw[gp (bP (by show 3+_<=1000;lia))]),λl9 p=>?_];let m:aH H1 B:=u2.trans (u3.trans (U.trans (u5.trans s6)));let u9:=aH.new (o:=.lst ([fw r1,fw r2,fw r3]++(if r4<0 then [] else [r4]).map fw)) p;let d9:=d1.mono (m.trans u9);let nF:¬A l9:=λq=>(by let#[o',e]:=(d1.mono m).c6.there q;rw[p] at e;ext e);erw[kk A _ l9 d9 ((iL st).trans (iM (m.trans u9))) (mw nF (by rw[ay,aN];rfl)) λb o e z=>?_];let:=(fG (iL st _ _ e)).2;rw[z] at this;rw[m _ _ this] at p;ext p
theorem xz{r:RM.Row}(h:0<=r.by_):(qb r).map fw=cz r:=by delta qb;rw[eH ∅,cz,bg h];rfl
theorem afS{a:Hp}{l z:du}{qs:!du}{L:!RM.Row}{r:RM.Row}(hl:a l=ac (.lst (qs.map fx)))(f:Sh K a qs (L.map qb))(v:∀q∈qs,q≠l)(k:a z=de)(A:0<=r.by_) :(upd (upd a z (.lst (cz r))) l (.lst (qs.map fx++[.ref z]))) l=ac (.lst ((qs++[z]).map fx))/\Sh K (upd (upd a z (.lst (cz r))) l (.lst (qs.map fx++[.ref z]))) (qs++[z]) ((L++[r]).map qb)/\(∀q∈qs++[z],q≠l)/\∀b o,a b=ac o->b≠l->(upd (upd a z (.lst (cz r))) l (.lst (qs.map fx++[.ref z]))) b=ac o:=by let u:=aH.new (o:=.lst (cz r)) k;let s:z≠l:=λe=>(by rw[e,hl] at k;ext k);let j:∀b o,a b=ac o->b≠l->(upd (upd a z (.lst (cz r))) l (.lst (qs.map fx++[.ref z]))) b=ac o:=λb o e n=>cj b o (u _ _ e) n;exists by rw[ay,aN];rfl,#[by rw[az,aN,az,f.1];rfl,λi q t d g=>?_],λq m=>(aR.mp m).elim (v q) λe=>by rw[aP.mp e];exact s,j;by_cases c:i<ge qs;rw[aW c] at d;rw[aN,aW (by rw[<- f.1];erw[c])] at g;let p:=v q (aD d);obtain (h|⟨x,h⟩)|h:=f.2 i q t d g;erw[.inl (.inl (j _ _ h p))];erw[.inl (.inr #[x,j _ _ h p])];erw[.inr h];let w:=(ai.mp d).1;rw[az] at w;let y:i=ge qs:=(by simp at w;lia);subst y;rw[bE (aA _),fB] at d;rw[f.1,aN,bE (aA _),fB] at g;ext d;ext g;rw[xz A];erw[bJ.of (by rw[aY s,ay])]
def xv:xW ((qb r).map fw) (0:Nat)=ac (.int r.hd)/\xW ((qb r).map fw) (1:Nat)=ac (.int r.co)/\xW ((qb r).map fw) (2:Nat)=ac (.int r.ho):=#[cH rfl,cH rfl,cH rfl]
structure EY(K:ah)(N:RM.Net)(S:Nat->RM.Row)(x:Nat)(H0 H:Hp)(lo:du)(ks:!Nat)(kk j:Nat):Prop where
 sm:aH H0 H
 no:H0 lo=de
 it:∃(qf:!du)(L:!RM.Row),H lo=ac (.lst (qf.map fx))/\Sh K H qf (L.map qb)/\(∀q∈qf,q≠lo)/\ge L<=2*ge ks+j/\(∀r∈L,0<=r.by_/\∃k g,RM.CC N k x g/\r=RM.over N k (S g))/\(∀k g,k∈ks->RM.CC N k x g->RM.over N k (S g)∈L)/\(1<=j->N.a kk=x->RM.over N kk (S (N.b kk))∈L)/\(2<=j->N.b kk=x->RM.over N kk (S (N.a kk))∈L)
theorem EY.mono{lo:du}(d:EY K N S x H0 H lo ks kk j)(s:aH H H'):EY K N S x H0 H' lo ks kk j:=by let#[e,L,a,b,c]:=d.it;erw[d.sm.trans s,d.no,e,L,s _ _ a,#[b.1,λi q t f g=>s.seq (b.2 i q t f g)],c]
theorem EY.next{lo:du}(d:EY K N S x H0 H lo ks kk 2):EY K N S x H0 H lo (ks++[kk]) k' 0:=by let#[m,L,a,b,c,e,f,g,h,i]:=d.it;exists d.sm,d.no,m,L,a,b,c,by rw[az];show _<=2*(ge ks+1)+0;lia,f,λk y n k8=>?_,λz=>ff z (!_),λz=>ff z (!_);obtain z|z:=aR.mp n;erw[g k y z k8];rw[aP.mp z] at k8 ⊢;obtain⟨j,l⟩|⟨j,l⟩:=k8.2;rw[<- l];erw[h (!_) j];rw[<- l];erw[i (!_) j]
theorem EY.skip{lo:du}(d:EY K N S x H0 H lo ks kk j)(l:j=0->N.a kk≠x)(o:j=1->N.b kk≠x):EY K N S x H0 H lo ks kk (j+1):=by let#[m,L,a,b,c,e,f,g,h,i]:=d.it;erw[d.sm,d.no,m,L,a,b,c,5,f,g,λ_ z=>?_,λq z=>?_];by_cases n:j=0;erw[ff z (l n)];erw[h ∅ z];by_cases k:j=1;erw[ff z (o k)];erw[i ∅ z]
theorem EY.put{lo:du}(d:EY K N S x H0 H lo ks kk j)(k8:RM.CC N kk x g)(A:j=0->N.b kk=g)(I:j=1->N.b kk=x/\N.a kk=g)(B:H u=de){p:!du}(D:H lo=ac (.lst (p.map fx))):EY K N S x H0 (upd (upd H u (.lst (cz (RM.over N kk (S g))))) lo (.lst (p.map fx++[.ref u]))) lo ks kk (j+1):=by let#[m,L,a,b,c,e,f,J,h,i]:=d.it;let C:m=p:=(by rw[D] at a;erw[(List.map_inj_right (λx y z=>V.ref.inj z)).mp (HO.lst.inj (aI a)).symm]);subst C;let n:0<=(RM.over N kk (S g)).by_:=(by show (0:Int)<=(kk:Int);lia);let#[R,t,Q,v]:=afS (r:=RM.over N kk (S g)) a b c B n;let l:∀{r:RM.Row},r∈L->r∈L++[RM.over N kk (S g)]:=dJ _;let o:RM.over N kk (S g)∈L++[RM.over N kk (S g)]:=bW _ (aP.mpr rfl);exists λP M s=>v P M (d.sm _ _ s) (aS s d.no),d.no,m++[u],L++[RM.over N kk (S g)],R,t,Q,by rw[az];show ge L+1<=_;lia,λr F=>?_,λk y E O=>l (J k y E O),λ_ z=>?_,λq z=>?_;obtain z|z:=aR.mp F;erw[f r z];rw[aP.mp z];erw[n,kk,g,k8,2];by_cases G:j=0;rw[A G];erw[o];erw[l (h ∅ z)];by_cases w:j=1;rw[(I w).2];erw[o];erw[l (i ∅ z)]
inductive Qq(K:ah)(vs:!V)(H:Hp)(Q:VK)(E:XK):Prop
 |mk(lr b lv:du)(rq us:!du)(ns:!Int)(rs:!R5)(live:!Nat)(nd:ns.Nodup)(ok:∀r∈rs,r.Ok (ge ns))(hl:∀k∈live,k<ge rs)(S:Nat->RM.Row)(x:Nat):vs=[.ref lr,.ref b,.ref lv,.int x]->bJ K H lr (rq.map fx)->Sh K H rq ((av (ge ns)).map λi=>qb (S i))->bJ K H b (us.map fx)->fE K H us (rs.map R5.vs)->bJ K H lv (bA live)->ge live<=8->RM.Rest (aL ns rs live nd ok hl) S->RM.Sane (aL ns rs live nd ok hl) S->x<ge ns->ns.getD x 0≠(S x).hd->(∀H',aH H H'->Q (.bl df) H')->Qq K vs H Q E
theorem W0(T:Txt K mg w t):oG P w mg base T.IQ 1 (Qq K):=by
 erw[T.IQ.F.iV xg λH Q E hr h=>?_]
 ·let#[lr,b,lv,rq,us,ns,rs,live,A,s,v,S,x,rfl,hR,ad,hB,CI,hV,l8,Ss,av,hx,as,k]:=h;erw[_,(au (sS 4 xg (eB gx)) (au (fS (cY (pv 2)) (gT 5 xg) (b6 (fS (cY (eB (oW (i6 (oW (xT (xL (pv 1) (pv 5)) aF) (xT (xL (pv 1) (pv 5)) aF))) (i6 (oW (xT (xL (pv 1) (pv 5)) aF) (xT (xL (pv 1) (pv 5)) aF)))))) (Vt (n:=2) rfl (Aa (gT 6 xg) (Aa (gT 7 xg) Qz))) (b6 (cV (qT i0 (pv 6) (pv 3)) (oE (jM bK bT bS fY (pv 4) (dj (eB (mj (xL (xL (pv 0) (pv 7)) aF) (ck kj (xL (xL (pv 0) (pv 7)) aF) (xT (xL (pv 1) (pv 5)) aF)) (ck kj (xL (xL (pv 0) (pv 7)) aF) aF) (pv 5)))))) bR))))) (oR (Qy (D4 (SL K rfl hr.units) (xL (pv 0) (pv 3)) (pv 4) (by with_unfolding_all rfl)) (Vs (qE yM (xL (pv 0) (pv 3)) (cB (Wh rfl (Pp hr)) T.acy boot_min (dj (pv 4))))))))),4];left;let aQ:ge us=ge rs:=(by rw[CI.len,af]);let aR:ge rq=ge ns:=(by rw[ad.1,af,aX]);let aj:∀{y:Nat}(hy:y<ge ns),xW (rq.map fx) (y:Int)=ac (.ref (rq[y]'∅))/\bJ K H (rq[y]'∅) ((qb (S y)).map fw):=λ{y}hy=>#[cH (by rw[ao,aa];rfl),ad.2 y _ _ (aa _) (by rw[ao,dw hy];rfl)];erw[bY λNx c8=>?_];erw[bL _,λlo an=>c8 _ _ ?_];let u0:=aH.new (o:=.lst []) an;let d0:EY K (aL ns rs live A s v) S x H (upd H lo (.lst [])) lo (live.take 0) 0 0:=#[u0,an,[],[],ay,#[2,λi q x e=>by ext e],λq z=>(by ext z),bL _,λr z=>(by ext z),λkk g z=>(by ext z),λz=>ff z (!_),λz=>ff z (!_)];generalize upd H lo (.lst [])=H1 at d0;erw[bY λNx c8=>?_];erw[1,lv,2,#[_,d0.sm.seq hV],rJ (K:=K) (a:=lv) (xs:=bA live) (λj N H2=>∃(v5 v6 v7:Option V),N=[ac (.ref lr),ac (.ref b),ac (.ref lv),ac (.int (x:Nat)),ac (.ref lo),v5,v6,v7]/\EY K (aL ns rs live A s v) S x H H2 lo (live.take j) (live.getD j 0) 0) #[36,by let:=d0;erw[this.sm,this.no,by let#[D,L,a,b,c,e,f,g,_,_]:=this.it;erw[D,L,a,b,c,e,f,g,λz=>ff z (!_),λz=>ff z (!_)]]] (λj N H2 _ z=>?_) ?_ ?_];let#[_,_,_,_,d]:=z;erw[d.sm.seq hV];intro j y N H2 Nf Cz hj ⟨v5,v6,v7,rfl,d⟩;let I:j<ge live:=(by let:=(ai.mp hj).1;rw[af] at this;erw[this]);rw[ao,aa I] at hj;ext hj;let et:live.take (j+1)=live.take j++[live[j]]:=(by rw[fV,aa I];rfl);let hc:live[j]∈live:=aB I;let eg:live.getD j 0=live[j]:=(by rw[ak,aa I];rfl);rw[et] at Cz;rw[eg] at d;generalize live.getD (j+1) 0=k' at Cz;show iU 5 (fw ((live[j]:Nat):Int)) _ _ _;let aN:ge (live.take j)<=8:=(by rw[bU];lia);generalize live.take j=ks at d Cz aN;generalize live[j]=kk at hc Cz d;let Eb:=v kk hc;let M:=s _ (aB Eb);let U:rs[kk]?=ac rs[kk]:=aa Eb;let ap:=CI.at' kk (us[kk]'∅) (rs[kk]).vs (aa _) (by rw[ao,U];rfl);let Su:xW (us.map fx) (kk:Int)=ac (.ref (us[kk]'∅)):=cH (by rw[ao,aa];rfl);let ea:(aL ns rs live A s v).a kk=rs[kk].a.toNat:=(by show ((rs[kk]?).map λr=>r.a.toNat).getD 0=_;rw[U];rfl);let eb:(aL ns rs live A s v).b kk=rs[kk].b.toNat:=(by show ((rs[kk]?).map λr=>r.b.toNat).getD 0=_;rw[U];rfl);let aO:(aL ns rs live A s v).c kk=rs[kk].c:=(by show ((rs[kk]?).map λr=>r.c).getD 0=_;rw[U];rfl);let a0:=M.a0;let a1:=M.a1;let b0:=M.b0;let b1:=M.b1;let R:=d.sm.seq hB;let O:=d.sm.cU ap;erw[38,dI R Su (gf O rfl #[38,dI R Su (gf O rfl #[g5,λX aA=>?_])])];let u1:=aH.new (o:=.tup [fw rs[kk].a,fw rs[kk].b]) aA;let J:=ay (H:=H2) (a:=X) (o:=.tup [fw rs[kk].a,fw rs[kk].b]);generalize upd H2 X (.tup [fw rs[kk].a,fw rs[kk].b])=H3 at u1 J;erw[38,dI (u1.seq R) Su (gf (u1.cU O) rfl #[38,dI (u1.seq R) Su (gf (u1.cU O) rfl #[g5,λW aM=>?_])])];let u2:=aH.new (o:=.tup [fw rs[kk].b,fw rs[kk].a]) aM;let h2:=ay (H:=H3) (a:=W) (o:=.tup [fw rs[kk].b,fw rs[kk].a]);let J:=u2 _ _ J;generalize upd H3 W (.tup [fw rs[kk].b,fw rs[kk].a])=H4 at u2 h2 J;erw[g5,λt3 am=>?_];let u3:=aH.new (o:=.lst [fx X,fx W]) am;let h3:bJ K _ t3 [fx X,fx W]:=bJ.of (ay (H:=H4) (a:=t3) (o:=.lst [fx X,fx W]));let J:=u3 _ _ J;let h2:=u3 _ _ h2;let d3:=d.mono (u1.trans (u2.trans u3));let n3:t3≠lo:=λe=>(by let#[D,_,z,_]:=(d.mono (u1.trans u2)).it;rw[<- e,am] at z;ext z);generalize upd H4 t3 (.lst [fx X,fx W])=H5 at u3 h3 J h2 d3;erw[t3,2,#[_,h3],rJ (K:=K) (a:=t3) (xs:=[fx X,fx W]) (λi N H6=>∃(v6 v7:Option V),N=[ac (.ref lr),ac (.ref b),ac (.ref lv),ac (.int (x:Nat)),ac (.ref lo),ac (.int (kk:Nat)),v6,v7]/\(∀b o,H5 b=ac o->b≠lo->H6 b=ac o)/\EY K (aL ns rs live A s v) S x H H6 lo ks kk i) #[6,λb o e _=>e,d3] (λi N H6 _ z=>?_) ?_ ?_];let#[_,_,_,Y,_]:=z;obtain (h|⟨y,h⟩)|h:=h3;erw[.inl (.inl (Y _ _ h n3))];erw[.inl (.inr #[y,Y _ _ h n3])];erw[.inr h];intro i y N H6 aP al hi ⟨v6,v7,rfl,Y,G⟩;let aw:=Y _ _ J (λe=>by let#[D,_,z,_]:=d3.it;rw[<- e,J] at z;ext z);let ax:=Y _ _ h2 (λe=>by let#[D,_,z,_]:=d3.it;rw[<- e,h2] at z;ext z);let ae:∃(tt:du)(y1 B:Nat),y=.ref tt/\dH K H6 tt [.int (y1:Nat),.int (B:Nat)]/\y1<ge ns/\B<ge ns/\(y1=x->RM.CC (aL ns rs live A s v) kk x B/\(i=0->(aL ns rs live A s v).b kk=B)/\(i=1->(aL ns rs live A s v).b kk=x/\(aL ns rs live A s v).a kk=B))/\(y1≠x->(i=0->(aL ns rs live A s v).a kk≠x)/\(i=1->(aL ns rs live A s v).b kk≠x)):=by
   let na:((rs[kk].a.toNat:Nat):Int)=rs[kk].a:=Int.toNat_of_nonneg a0;let nb:((rs[kk].b.toNat:Nat):Int)=rs[kk].b:=Int.toNat_of_nonneg b0
   match i,hi with
   |0,hi=>
    ext hi;exists X,rs[kk].a.toNat,rs[kk].b.toNat,2,by rw[na,nb];exact dH.of aw,55,λe=>#[#[hc,.inl #[by rw[ea];exact e,eb]],λ_=>eb,λz=>by ext z],λe=>#[λ_=>by rw[ea];exact e,λz=>by ext z]
   |1,hi=>
    ext hi;exists W,rs[kk].b.toNat,rs[kk].a.toNat,2,by rw[na,nb];exact dH.of ax,55,λe=>#[#[hc,.inr #[by rw[eb];exact e,ea]],(λz=>by ext z),λ_=>#[by rw[eb];exact e,ea]],λe=>#[(λz=>by ext z),λ_=>by rw[eb];erw[e]]
  let#[tt,y1,B,rfl,hT,l1,l2,p1,p2]:=ae;erw[6,hT,26624];erw[388,lZ (λe=>?_) (λe=>?_)];let e:y1=x:=(by let:=V.int.inj (g4 e);lia);let#[k8,q0,q1]:=p1 e;let#[C,l]:=aj l2;let l:=G.sm.seq l;let Z:=G.sm.seq hR;let#[c0,c1,c2]:=xv (r:=S B);let#[D,L,z1,_,_,z4,_]:=id G.it;let aG:=G.sm.seq hB;let az:=G.sm.cU ap;let er:cz (RM.over (aL ns rs live A s v) kk (S B))=[.int (S B).hd,.int ((S B).co+rs[kk].c),.int ((S B).ho+1),.int (kk:Nat)]:=(by show [fw (S B).hd,.int ((S B).co+(aL ns rs live A s v).c kk),.int ((S B).ho+1),jf (kk:Int)]=_;rw[aO,bg ∅]);let lq:ge D<=17:=(by let#[aC,L',aq,ar,_,y4,_]:=id G.it;rw[z1] at aq;let:D=aC:=(List.map_inj_right (λx y z=>V.ref.inj z)).mp (HO.lst.inj (aI aq));subst this;let:=(ai.mp hi).1;let:i<2:=this;let:=ar.1;rw[af] at this;lia);erw[1,.inl #[23,bJ.of z1],38,dI Z C (GG l c0 #[38,dI Z C (GG l c1 #[38,dI aG Su (gf az rfl #[681,dI Z C (GG l c2 #[68,kw,λu hu=>?_])])])])];let uu:=aH.new (o:=.lst (cz (RM.over (aL ns rs live A s v) kk (S B)))) hu;exists lo,62,aH.new hu _ _ z1,by rw[af];exact bP ∅,al _ _ #[6,λbb oo qq nn=>?_,4];erw[cj bb oo (aH.new hu _ _ (Y bb oo qq nn)) nn];let:=G.put k8 q0 q1 hu z1;rw[er] at this;erw[this];let e:y1≠x:=λz=>e (fy (by rw[z]));let#[q0,q1]:=p2 e;erw[al _ _ #[6,Y,G.skip q0 q1]];intro N H6 ⟨v6,v7,rfl,Y,G⟩;erw[Cz _ _ #[36,EY.next (kk:=kk) G]];intro N H2 ⟨v5,v6,v7,rfl,d⟩;erw[c8 _ _ ?_];rw[show ge (bA live)=ge live from af _,gH] at d;let#[D,L,f1,f2,f3,f4,f5,f6,_,_]:=d.it;let ri:=Ss.right av hx;let ah:(aL ns rs live A s v).nm x≠(S x).hd:=as;let#[k1,g1,a1,e1]:=ri.one ah;let ab:S x∈L:=(by rw[e1];erw[f6 k1 g1 a1.1 a1]);let aE:∀r∈L,RM.le (S x) r:=λr hr=>(by let#[_,kk,g,k8,rfl]:=f5 r hr;erw[ri.all ah kk g k8]);let#[C,l]:=aj hx;let ag:=d.sm.seq hR;let l:=d.sm.seq l;erw[38,dI ag C #[1,lo,_,D,L.map qb,qb (S x),22,l,bJ.of f1,f2,4]];erw[1,E5 (fy (cF ab)) ?_];let lL:ge D=ge L:=(by rw[f2.1,af]);erw[38,dI ag C #[1,lo,D,L,2,bJ.of f1,lL,xU ab,λi p r e1 e2=>?_,λr hr=>(f5 r hr).1,λm p r e1 e2 aK=>?_]];rw[<- xz (f5 r (aD e2)).1];erw[f2.2 i p _ e1 (by rw[ao,e2];rfl)];let er:r=S x:=RM.le_antisymm (aK _ ab) (aE r (aD e2));let hp:=f2.2 m p _ e1 (by rw[ao,e2];rfl);rw[er] at hp;erw[.list ((qb (S x)).map .int),.list ((qb (S x)).map .int),Rep.ints l,Rep.ints hp,iJ _,iJ _,bM (b5 (aJ (dX _ _) (by show eJ _+1<=64;rw[pY];decide)) _) hr.units,4];rw[show PyData.eqv (.list ((qb (S x)).map .int)) (.list ((qb (S x)).map .int))=PyData.eqvAll ((qb (S x)).map .int) ((qb (S x)).map .int) from rfl,GO,fy rfl];erw[k H2 d.sm]
def MS(h:Hp)(qs:!du)(ts:!(!Int)):Prop:=ge qs=ge ts/\∀(i:Nat)q t,qs[i]?=ac q->ts[i]?=ac t->h q=ac (.lst (t.map fw))
def MS.mono(a:MS h qs ts)(s:aH h h'):MS h' qs ts:=#[a.1,λi q t b c=>s _ _ (a.2 i q t b c)]
def MS.ls(a:MS h qs ts):Sh K h qs ts:=#[a.1,λi q t b c=>bJ.of (a.2 i q t b c)]
theorem Vj(ok:A0 ns rs s){g:Nat}(a:g<3):RM.Sane (gW ns rs o s.ws g) (s.R g):=λh b=>by
 let:=ok.fit g a h b
 erw[this.ho.1,this.ho.2]
inductive Vk(K:ah)(CT CD:du)(c:NC)(vs:!V)(H:Hp)(Q:VK)(E:XK):Prop
 |mk(F:du->Prop)(a:AD)(bs:!(!Bool))(cl:!(Nat×Nat))(s:NS)(lv:du)(g:Nat):vs=[.ref a.dk,.ref a.q,.ref lv,.int g]->uh K CT CD c a H F bs cl bs cl s->ge s.ls<=120->g<3->Off H F lv=ac (.lst (bA (lN a.rs s.ws g)))->(∀F' H' s' o,uh K CT CD c a H' F' bs cl bs cl s'->aH (Off H F) (Off H' F')->ge s'.ls=ge s.ls->s'.ws=s.ws->RM.Rest (gW a.ns a.rs o s'.ws g) (s'.R g)->(∀g',g'≠g->s'.R g'=s.R g')->Q (.bl df) H')->Vk K CT CD c vs H Q E
theorem aax(T:Txt K mg w t):oG P w mg base T.Mq 12 (Vk K t.bf t.eV (nc t)):=by erw[T.Mq.F.iV iX λH Q E hr h=>?_];·let#[F,a,bs,cl,s,lv,g,rfl,d,hL,hg,mL,k]:=h;erw[_,(au (sS 4 iX (lS T.gE (xT (pv 1) aF))) (au (fS (eW rfl T.gF (dj (ck K1 aF (pv 4)))) (gT 5 iX) (oE (cM (pv 0) T.j4 T.eE (dU T) hr (dj (oV (cZ bH (cZ (jx (pv 3)) uv))))))) (au (cV (PW.pt (Pa (qT oq (cM (pv 0) T.j4 T.eE (dU T) hr (dj (oV (cZ bH (cZ (jx (pv 3)) uv))))) bH) (HJ (qT oq (cM (pv 0) T.j4 T.eE (dU T) hr (dj (oV (cZ bH (cZ (jx (pv 3)) uv))))) bH)))) oB bR) (au (kC (i:=7) iX.nd rfl (Or.inl rfl) (kO iX ["_law_house","_law_desk","_law_group"] [de,ac 0,ac 3]) rfl (eW rfl T.gF (dj (pv 4))) (~~~(gS 0 Rr)) (~~~fj) (~~~(cG (adD T) hr T.RN (Lv (pv 1) (pv 0) (pv 2))))) (au (sS 8 iX (cG (Nv T) hr T.Ex (oW (pv 4) (dP (kO iX ["_law_rope_here","_law_told"] [de,ac 1]) rfl (cY (pv 2)) (~~~(gS 0 Rt)) (~~~fj) (~~~(jw (Xp K rfl) (yL K (yT K (pv 1) aF) (pv 0)) oU (jP aF))))))) (au (sS 9 iX (eB gx)) (au (fS (eW rfl T.gF (dj (pv 4))) (gT 6 iX) (au (sS 10 iX (cB (Pw rfl) T.acy boot_min (dj (dP (kO iX ["_law_at","_law_house","_law_marks_here","_law_told"] [de,ac 6,ac 8,ac 1]) rfl (eW rfl T.gF (dj (pv 4))) (~~~(gS 0 Ru)) (~~~(kB (qT i0 (yL K (pv 2) (pv 0)) (yL K (pv 2) (pv 1))))) (~~~(yL K (yT K (pv 3) aF) (pv 0))))))) (au (cV (qT oq (xL (xL (pv 7) (pv 6)) aF) (pv 10)) oB bR) (b6 (cV (qT i0 (pv 10) (xL (xT (pv 1) aF) (pv 6))) (b6 (cV (qT K8 (xL (pv 7) (pv 6)) (eB (Lv (pv 10) aF aF))) oB bR)) (b6 (cV (PW.pt (Pa (qT oq (lS T.gE (xL (pv 7) (pv 6))) aF) (HJ (ki (mT (cG (W0 T) hr T.IQ (mj (pv 7) (xT (pv 1) aF) (pv 2) (pv 6)))))))) oB (oE (jM bK bT bS fY (pv 9) (dj (xL (xL (pv 7) (pv 6)) aF))))))))))) (au (sS 11 iX (jM cW lg k9 GL bH (dj (dP (kO iX ["_law_rope_here"] [de]) rfl (cY (cB CY T.MB boot_sorted (dj (pv 9)))) (~~~(gS 0 Rv)) (~~~fj) (~~~(cJ ko (by rfl) T.MA boot_str (dj (pv 0)))))))) (oR (Qy (qE i0 (cB Pu T.gE PySem.boot_len (dj (cJ (Pr rfl) (by rfl) T.agt boot_set (dj (pv 9))))) (lS T.gE (pv 9))) (Vs (qE i0 (cM (pv 0) T.j4 T.eE (dU T) hr (dj (oV (cZ bH (cZ (jx (pv 3)) uv))))) (xL (eB (oW (pv 11) bH)) (cJ vR (by rfl) T.G2 boot_int (dj (qE yM (pv 9) (eB gx))))))))))))))))),4];left;let o:=d.o;let n1:=o.n1;let n5:=d.n5;let wg:TX.Wr (g:Int):=gm ∅;erw[bY λNx Y=>?_];erw[1,gf (be.cU d.tl) rfl #[a.a0,1,.inl (bJ.of (be _ _ d.nm)),4]];show iU 4 (fw ((ge (a.ns.map fw):Nat):Int)) _ _ _;rw[af];erw[Y _ _ ?_];erw[bY λNx Y=>?_];erw[162,.inl #[!_,!_],2*(ge a.ns:Int),255,wH (n:=(2*(ge a.ns:Int)).toNat) (λi σ H2=>∃(s2:NS) (F2:du->Prop) (ks:!Nat) (v5:Option V),uh K t.bf t.eV (nc t) a H2 F2 bs cl bs cl s2/\aH (Off H F) (Off H2 F2)/\ge s2.ls=ge s.ls/\s2.ws=s.ws/\(∀g',g'≠g->s2.R g'=s.R g')/\RM.Run (gW a.ns a.rs d.o s.ws g) (s.R g) ks (s2.R g)/\RM.qo (ge a.ns) i ks/\(∀c∈ks,c<ge a.ns)/\σ=[ac (.ref a.dk),ac (.ref a.q),ac (.ref lv),ac (.int (g:Nat)),ac (.int (ge a.ns:Nat)),v5,de,de,de,de,de,de]) #[s,F,[],_,d,aH.refl _,22,λ_ _=>rfl,.nil _,trivial,λc hc=>(by ext hc),2] ?_ ?_];intro i σ H2 Nf Cz I ⟨s2,F2,ks,v5,d2,ar,t8,ad,a3,aV,aM,aY,rfl⟩;let#[Z,_,_]:=nT (z:=Str.empty++"round ") (!_) wg;erw[1,a.dk,6,be _ _ d2.dk,7,iI wg,1,Z,Z,4];erw[d2.said (cmd:=.round g) hg ∅ (kf (w:="round") (↑_) _) λv s3 F3 H3 dn st d3=>?_];let#[kk,r,rfl]:=dn;let#[q1,q2,q3]:=r.run;let el:=r.ln.1;rw[ad] at q2;erw[Cz _ _ #[s3,F3,ks++av (ge a.ns),_,d3,ar.trans (iL st),el.trans t8,q1.trans ad,λg' h=>(q3 g' h).trans (a3 g' h),aV.append q2,qo.snoc (λh hh=>bO.mpr hh) aM,λc hc=>?_,2]];obtain z|z:=aR.mp hc;erw[aY c z];erw[bO.mp z];intro σ H2 ⟨s2,F2,ks,v5,d2,ar,t8,ad,a3,aV,aM,aY,rfl⟩;erw[Y _ _ ?_];let B:RM.Rest (gW a.ns a.rs o s2.ws g) (s2.R g):=(by let#[D,sd,_]:=d.s6.sk;rw[ad];erw[abD (m:=(2*(ge a.ns:Int)).toNat) ∅ aM aY aV (sd.ok.fit g hg)]);let ap:ge s2.ls<=120:=∅;let k2:∀L f,uh K t.bf t.eV (nc t) a f L bs cl bs cl s2->aH (Off H2 F2) (Off f L)->Q (.bl df) f:=λL f d' e=>k L f s2 d'.o d' (ar.trans e) t8 ad B a3;let W1:=ar _ _ mL;rw[<- ad] at W1;let sn:RM.Sane (gW a.ns a.rs o s2.ws g) (s2.R g):=(by let#[D,sd,_]:=d2.s6.sk;erw[Vj sd.ok hg]);let#[Z,_,_]:=nT (z:=Str.empty++"rest ") (!_) wg;erw[bY λNx Y=>?_];erw[1,a.dk,6,be _ _ d2.dk,7,iI wg,1,Z,Z,4];erw[d2.said (cmd:=.rest g) hg ap (kf (w:="rest") (↑_) _) λv s3 F3 H3 dn b7 d3=>?_];let#[rfl,y,G,rfl]:=dn;rw[G.mpr B,eG rfl];erw[8,lK (↑_) ?_];let#[Z,_,_]:=nT (z:=Str.empty++"round ") (!_) wg;erw[1,a.dk,6,be _ _ d3.dk,7,iI wg,1,Z,Z,4];erw[d3.said (cmd:=.round g) hg ap (kf (w:="round") (↑_) _) λv s4 F4 H4 dn HQ d4=>?_];let#[kk,r,rfl]:=dn;let#[rfl,rfl]:=r.calm (aA _) B;erw[8,lK (↑_) (Y _ _ ?_)];let bi:=(iL b7).trans (iL HQ);replace k2:∀L f,uh K t.bf t.eV (nc t) a f L bs cl bs cl s4->aH (Off H4 F4) (Off f L)->Q (.bl df) f:=λL f d' e=>k2 L f d' (bi.trans e);replace W1:=bi _ _ W1;erw[bY λNx Y=>?_];erw[1,(ge a.ns:Int),255,λN ab=>?_];let ch:¬F4 N:=λz=>(by let#[o',e]:=d4.c6.there z;rw[ab] at e;ext e);erw[λi m H5=>m=ge a.ns-i/\i<=ge a.ns/\∃(F5:du->Prop) (A:!du),eT K (nc t) H5 F5 a.p a.tp (ge a.ns) s4/\aH (Off H4 F4) (Off H5 F5)/\H5 N=ac (.lst (A.map fx))/\¬F5 N/\(∀q∈A,q≠N)/\MS (Off H5 F5) A ((av i).map λj=>qb (s4.R g j)),#[1,bL _,F4,[],d4.c6.mono (aH.new ab),iM (aH.new ab),ay,ch,λq z=>(by ext z),2,λi q t z=>by ext z],4];intro i m H5 ⟨rfl,I,F5,A,N5,e5,a2,aU,nq,hq⟩;obtain a4|hge:=Nat.lt_or_ge i (ge a.ns);erw[.inr #[by show i<_;lia,4]];intro x H6 ⟨rfl,rfl⟩;rw[cT];erw[138,F5,a,bs,cl,s4,i,g,2,d4.next N5 d4.s6 e5,a4,hg,ap,λF7 H7 l d7 e7 WQ nl=>?_];let aq:=e7 _ _ (mw aU a2);let eu:=Ed (H:=H7) (F:=F7) (o:=.lst (A.map fx++[.ref l])) (fG aq).1;let a8:l≠N:=λe=>nl _ _ (mw aU a2) e.symm;let aQ:ge A=i:=(by rw[hq.1,af,aX]);exists _,(fG aq).2,by rw[af,aQ];exact bP ∅,ge a.ns-(i+1),52,a4,F7,A++[l],d7.c6.past aq jm,λb v e=>?_,by rw[ay,aN];rfl,(fG aq).1,λq cc=>(aR.mp cc).elim (nq q) λe=>by rw[aP.mp e];exact a8,by rw[az,aQ,af,aX];rfl,λj q t e1 e2=>?_;rw[eu];erw[cj b v ((e5.trans e7) b v e) (aS (fG e).2 ab)];rw[eu];by_cases c:j<i;rw[aW ∅] at e1;rw[ao,dw ∅] at e2;erw[cj _ _ (e7 _ _ (hq.2 j q t e1 (by rw[ao,dw c];erw[e2]))) (nq q (aD e1))];let u:=(ai.mp e1).1;rw[az] at u;let ej:j=i:=(by simp at u;lia);subst ej;rw[bE ∅,aQ,fB] at e1;rw[ao,dw ∅] at e2;ext e1;ext e2;erw[cj _ _ WQ a8];let ei:i=ge a.ns:=∅;subst ei;erw[.inl #[by show _<=_;lia,Y _ _ ?_]];let d5:=d4.next N5 d4.s6 e5;replace k2:∀L f,uh K t.bf t.eV (nc t) a f L bs cl bs cl s4->aH (Off H5 F5) (Off f L)->Q (.bl df) f:=λL f d' e=>k2 L f d' (e5.trans e);replace W1:=e5 _ _ W1;let hR:Off H5 F5 N=ac (.lst (A.map fx)):=mw aU a2;let a1:∀j,j<ge a.ns->A[j]?=ac (A.getD j 0)/\Off H5 F5 (A.getD j 0)=ac (.lst ((qb (s4.R g j)).map fw)):=λj u=>(by let bI:j<ge A:=(by rw[hq.1,af,aX];erw[u]);let e1:A[j]?=ac (A.getD j 0):=(by rw[ak,aa bI];rfl);erw[e1,hq.2 j _ _ e1 (by rw[ao,dw u];rfl)]);let a6:ge (lN a.rs s4.ws g)<=8:=aJ (by delta lN pL;erw[aJ (bx _ _) (by rw[aX];erw[aA _])]) d5.s6.r8;let ru:=d5.ru;let ct:ge a.us=ge a.rs:=(by rw[ru.len,af]);let NP:∃(live:!Nat) (Eb:∀kk∈live,kk<ge a.rs) (S:Nat->RM.Row),live=lN a.rs s4.ws g/\S=s4.R g/\RM.Rest (aL a.ns a.rs live o.nd o.ok Eb) S/\RM.Sane (aL a.ns a.rs live o.nd o.ok Eb) S/\∀os,fm (gW a.ns a.rs d5.o s4.ws g) (s4.R g) os->fm (aL a.ns a.rs live o.nd o.ok Eb) S os:=#[_,mZ,12,B,sn,λos h=>h];let#[live,Eb,S,bQ,eS,B,sn,bG]:=NP;rw[<- bQ] at W1 a6;rw[<- eS] at a1 hq;erw[bY λNx Y=>?_];let ag:bJ K H5 lv (bA live):=bJ.of (be _ _ W1);let bt:bJ K H5 a.b0 (a.us.map fx):=bJ.of (be _ _ d5.rp);let bn:=be.cU d5.tl;erw[38,lv,2,#[_,ag],λU9 EW=>?_];erw[fK (n:=ge (bA live)) (λi ys H6=>∃A:!du,ys=A.map fx/\fE K H6 A ((live.take i).map (AB a.rs))) EW (jC ag) (fQ ag) #[[],22,λi q x z=>(by ext z)] ?_ ?_];intro j ys H6 u s6 G ⟨ps,rfl,am⟩ x H7 ⟨rfl,J⟩;let ba:=J _ (s6.seq ag);let cg:=u;rw[af] at u;rw[ao,aa u] at ba;ext ba;let hc:live[j]∈live:=aB u;let et:live.take (j+1)=live.take j++[live[j]]:=(by rw[fV,aa u];rfl);let hk:=Eb _ hc;let bW:AB a.rs live[j]=[fw (a.rs[live[j]]).a,fw (a.rs[live[j]]).b]:=(by delta AB;rw[rK hk]);let b4:ge ps=j:=(by rw[am.len,af,bU];lia);let cm:=be.cU (ru.at' live[j] (a.us[live[j]]'∅) (a.rs[live[j]]).vs (aa _) (by rw[ao,aa hk];rfl));let Su:xW (a.us.map fx) ((live[j]:Nat):Int)=ac (.ref (a.us[live[j]]'∅)):=cH (by rw[ao,aa];rfl);let nw:¬(HT.n6 (ge (a.rs[live[j]]).vs) 0 de=0/\HT.n6 (ge (a.rs[live[j]]).vs) (ge (a.rs[live[j]]).vs) (ac 2)=ge (a.rs[live[j]]).vs):=λz=>ff z.2 (by show HT.n6 5 5 (ac 2)≠5;decide);erw[1,gf (s6.cU bn) rfl #[1,dI (s6.seq bt) Su #[16,s6.cU cm,nw,λZ ca=>?_]]];rw[show Ac (a.rs[live[j]]).vs de (ac 2)=AB a.rs live[j] by rw[bW];rfl];let u1:=aH.new (o:=.tup (AB a.rs live[j])) ca;erw[dS EW cg (s6.trans u1) (u1 _ _ G) (by rw[af,b4];erw[bP ∅]) #[ps++[Z],by rw[aN];rfl,4]];let kt:∀b x,dH K _ b x->dH K (upd (upd H7 Z (.tup (AB a.rs live[j]))) U9 (.lst (ps.map fx++[.ref Z]))) b x:=λb x=>dH.past (u1 _ _ G) jm cj;let:=fE.snoc (am.mono λb x=>u1.cU) (dH.of ay);rw[et,aN];erw[this.mono kt];intro ys H6 s6 G ⟨ps,rfl,am⟩;rw[af,cX (aA _)] at am;erw[ge a.ns,U9,ps,a.rs,live,2,bJ.of G,am,5,o.ok,Eb,λlm M H7 s7 cr b8 hM=>Y _ _ ?_];let C:=s6.trans s7;let bd:∀{x y:Nat},x<ge a.ns->y<ge a.ns->(M.getD x 0=M.getD y 0↔RM.mV (aL a.ns a.rs live o.nd o.ok Eb) x y):=λJ G=>Vc hM J G;erw[bY λNx Y=>?_];erw[bL _,λlb aO=>Y _ _ ?_];let u8:=aH.new (o:=.lst []) aO;let a5:=ay (H:=H7) (a:=lb) (o:=.lst []);generalize upd H7 lb (.lst [])=H8 at u8 a5;erw[bY λNx Y=>?_];let bo:bJ K H7 a.a0 (a.ns.map fw):=bJ.of (C _ _ (be _ _ d5.nm));let aT:=C.cU bn;let bj:bJ K H7 lm (M.map fw):=bJ.of b8;let bN:bJ K H7 N (A.map fx):=bJ.of (C _ _ (be _ _ hR));let eM:ge M=ge a.ns:=hM.len;let bm:∀{x:Nat},x<ge a.ns->xW (M.map fw) (x:Int)=ac (.int (M.getD x 0)):=λ{x} J=>cH (by rw[ao,aa ∅,ak,aa ∅];rfl);let oy:∀{x:Nat},x<ge a.ns->xW (a.ns.map fw) (x:Int)=ac (.int (a.ns.getD x 0)):=λ{x} J=>cH (by rw[ao,aa J,ak,aa J];rfl);let b2:∀{x:Nat},x<ge a.ns->xW (A.map fx) (x:Int)=ac (.ref (A.getD x 0))/\bJ K H7 (A.getD x 0) ((qb (S x)).map fw):=λ{x} J=>#[cH (by rw[ao,(a1 x J).1];rfl),bJ.of (C _ _ (be _ _ (a1 x J).2))];erw[1,(ge a.ns:Int),255,wH (n:=((ge a.ns:Int)).toNat) (λi σ H9=>∃(v6 aZ:Option V),aH H7 H9/\H9 lb=ac (.lst (bA (EX a.ns S i)))/\σ=[ac (.ref a.dk),ac (.ref a.q),ac (.ref lv),ac (.int (g:Nat)),ac (.int (ge a.ns:Nat)),v5,v6,ac (.ref N),ac (.ref lm),ac (.ref lb),aZ,de]) #[33,u8,a5,2] ?_ ?_];(·intro i σ H9 Nf Cz I ⟨v6,aZ,s9,ae,rfl⟩;let I:i<ge a.ns:=∅;rw[cT];let ri:=B.right sn I;let cs:ge (EX a.ns S i)<=5:=(by let:ge (EX a.ns S i)<=ge (av i):=uX _ _;rw[aX] at this;lia);erw[bY λNy Qs=>?_];erw[1,(ge a.ns:Int),255,λcp O0=>?_];erw[CZ (n:=((ge a.ns:Int)).toNat) (λj=>.int (j:Nat)) (λj=>if M.getD j 0=M.getD i 0 then ac (fw (a.ns.getD j 0)) else de) O0 wB mU (λj NH x Kv u AQ J=>?_) ∅ (λj NH R S u AQ h1 h2=>?_) (λNH AQ G=>?_)];let#[rfl,rfl]:=J;erw[2,by rw[cT]];let u:j<ge a.ns:=∅;let W:=s9.trans AQ;erw[38,dI (W.seq bj) (bm u) #[38,dI (W.seq bj) (bm I) #[84]]];by_cases e:M.getD j 0=M.getD i 0;erw[E5 (fy (gZ fw e)) #[1,gf (W.cU aT) rfl #[1,dI (W.seq bo) (oy u) (h1 _ _ (aH.refl _) (eG e))]]];erw[lK (gh λz=>e (V.int.inj z)) (h2 _ (aH.refl _) (eH e))];rw[cQ] at G;let W:=s9.trans AQ;let bu:=AQ _ _ ae;let eX:(av (ge a.ns)).filterMap (λj=>if M.getD j 0=M.getD i 0 then ac (fw (a.ns.getD j 0)) else de)=((av (ge a.ns)).filterMap λj=>if M.getD j 0=M.getD i 0 then ac (a.ns.getD j 0) else de).map fw:=(by rw[List.map_filterMap];congr 1;funext j;split <;> rfl);rw[eX] at G;let mX:∀y,y∈(av (ge a.ns)).filterMap (λj=>if M.getD j 0=M.getD i 0 then ac (a.ns.getD j 0) else de)↔∃j,j<ge a.ns/\M.getD j 0=M.getD i 0/\y=a.ns.getD j 0:=λy=>(by rw[lD];constructor;intro ⟨j,u,e⟩;split at e;rename_i z;erw[j,bO.mp u,z,(aI e).symm];ext e;intro ⟨j,u,e,rfl⟩;exists j,bO.mpr u,by rw[eG e]);generalize (av (ge a.ns)).filterMap (λj=>if M.getD j 0=M.getD i 0 then ac (a.ns.getD j 0) else de)=X at G mX;erw[cp,X,2,bJ.of G,xU ((mX _).mpr #[i,I,22]),λm hm cd=>?_];let em:m=(S i).hd:=(by let#[j,u,e,rfl]:=(mX _).mp hm;let#[y,ly,ey]:=ri.got;let h1:=ri.least j ((bd I u).mp e.symm);let bz:=ly.lt I;let h2:=cd _ ((mX _).mpr #[y,bz,((bd I bz).mpr ly).symm,2]);let ey:(S i).hd=a.ns.getD y 0:=ey;let h1:(S i).hd<=a.ns.getD j 0:=h1;lia);subst em;erw[Qs _ _ ?_];let#[r1,r2]:=b2 I;let r2:=W.seq r2;let an:=W.seq bN;let#[c0,c1,c2]:=xv (r:=S i);erw[bY λNy Qs=>?_];erw[38,dI an r1 (GG r2 c0 #[18,lK (by rw[fy rfl];rfl) (Qs _ _ ?_)])];erw[38,gf (W.cU aT) rfl #[1,dI (W.seq bo) (oy I) #[8,lZ (λe=>?_) (λe=>?_)]]];let e:(S i).hd=a.ns.getD i 0:=V.int.inj (g4 e);let eo:S i=RM.own (aL a.ns a.rs live o.nd o.ok Eb) i:=ri.apC e.symm;let er:qb (S i)=[(S i).hd,0,0]:=(by rw[eo];rfl);let eb:EX a.ns S (i+1)=EX a.ns S i:=(by rw[Ju];delta O4;rw[eG e];erw[cu _]);erw[38,dI an r1 #[1,vD,λl3 aC=>?_]];let u3:=aH.new (o:=.lst [fw (S i).hd,fw 0,fw 0]) aC;erw[.list ((qb (S i)).map .int),.list ([(S i).hd,0,0].map .int),Rep.ints (u3.seq r2),Rep.ints (bJ.of ay),iJ _,iJ _,bM (b5 (aJ (dX _ _) (by show eJ _+1<=64;rw[pY];decide)) _) hr.units,1,lK ?_ (Cz _ _ #[33,W.trans u3,by rw[eb];exact u3 _ _ bu,2])];rw[show PyData.eqv (.list ((qb (S i)).map .int)) (.list ([(S i).hd,0,0].map .int))=PyData.eqvAll ((qb (S i)).map .int) ([(S i).hd,0,0].map .int) from rfl,GO,er,fy rfl];rfl;let e:a.ns.getD i 0≠(S i).hd:=λz=>e (fy (gZ fw z.symm));let#[kk,gg,k8,eo]:=ri.one e;let bq:(S i).by_=(kk:Int):=(by rw[eo];rfl);let er:qb (S i)=[(S i).hd,(S i).co,(S i).ho,(kk:Int)]:=(by delta qb;rw[bq,eH ∅];rfl);let eb:EX a.ns S (i+1)=EX a.ns S i++[kk]:=(by rw[Ju];delta O4;rw[eH (cC e),bq];rfl);rw[er] at r2;erw[38,dI an r1 #[6,.inl r2,8,lK (by rfl) ?_]];erw[38,gf (W.cU aT) rfl #[38,N,a.b0,lv,A,a.us,a.ns,a.rs,live,o.nd,o.ok,Eb,S,i,2,an,4,(C.trans W).seq bt,(ru.mono λb x z=>(C.trans W).cU (be.cU z)),(C.trans W).seq ag,a6,B,sn,I,e,λKv Fq=>?_]];let:=hq.ls (K:=K);erw[this.1,λj q v e1 e2=>(C.trans W).seq (be.seq (this.2 j q v e1 e2))];erw[1,fP ?_];let al:=Fq _ _ bu;erw[1,.inl #[23,bJ.of al],38,dI (Fq.seq an) r1 (GG (Fq.seq r2) (cH (j:=3) rfl) #[lb,62,al,by rw[af];exact bP ∅,Cz _ _ #[33,(W.trans Fq).out aO,by rw[ay,eb,gy],2]])]);intro σ H9 ⟨v6,aZ,s9,ae,rfl⟩;rw[cQ] at ae;erw[Y _ _ ?_];obtain⟨bl,aj⟩:∃bl,bl=EX a.ns S (ge a.ns):=#[1];let b3:∀os,fm (gW a.ns a.rs o s4.ws g) (s4.R g) os->bl.Perm os:=λos O=>(by rw[aj];erw[adt B sn (bG os O)]);let b1:bl.Nodup:=(by rw[aj];erw[KU B sn (aA _)]);let cn:∀kk∈bl,kk<=1000000:=λkk h=>(by rw[aj] at h;let#[_,_,_,hg]:=(Nu B sn (aA _)).mp h;let:=Eb _ hg.k8.1;let:=d5.s6.r8;lia);let cf:ge bl<=5:=(by let:ge (EX a.ns S (ge a.ns))<=ge (av (ge a.ns)):=uX _ _;rw[aX,<- aj] at this;lia);rw[<- aj,gz] at ae;let a9:=C.trans s9;let nF:¬F5 lb:=λq=>(by let#[o',e]:=(d5.mono C).c6.there q;rw[aO] at e;ext e);let d9:=d5.mono a9;replace k2:∀L f,uh K t.bf t.eV (nc t) a f L bs cl bs cl s4->aH (Off H9 F5) (Off f L)->Q (.bl df) f:=λL f d' e=>k2 L f d' ((iM a9).trans e);erw[bY λNx Y=>?_];exists 8,lb,bl.map λk:Nat=>(k:Int),2,bJ.of ae,by rw[af];lia,λl1 U ci pm pw=>#[l1,2,#[_,bJ.of ay],λcb bv=>?_];let bg:=aH.new (o:=.lst (U.map fw)) ci;let aw:bJ K _ l1 (U.map fw):=bJ.of (ay (H:=H9) (a:=l1) (o:=.lst (U.map fw)));generalize upd H9 l1 (.lst (U.map fw))=NH at bg aw bv;let a7:∀m∈U,TX.Wr m:=λm hm=>(by let#[k,hk,rfl]:=aG.mp (pm.mem_iff.mp hm);erw[gm (cn k hk)]);let cv:ge U<=5:=(by rw[pm.length_eq,af];erw[cf]);let el:ge (U.map fw)=ge U:=af _;erw[nV (n:=ge (U.map fw)) (λi=>.int (U.getD i 0)) (λi=>fA (TX.num (U.getD i 0))) bv (jC aw) (fQ aw) (λi Kv x bB I Fq J=>?_) ∅ (λi Kv R S I Fq h1=>?_) (λKv Fq G=>?_)];let#[rfl,J]:=J;let J:=J _ (Fq.seq aw);rw[el] at I;rw[ao,aa I] at J;erw[2,by rw[ak,aa I];erw[(aI J).symm]];rw[el] at I;let hw:TX.Wr (U.getD i 0):=(by rw[ak,aa I];erw[a7 _ (aB I)]);erw[38,iI hw,h1 Kv (aH.refl _)];rw[el,Nt] at G;erw[_,cb,U.map TX.num,22,bJ.of G,Qk (λy G=>?_) (by rw[af];lia) (!_),Y _ _ ?_];let#[m,hm,rfl]:=aG.mp G;erw[(TX.gP (a7 m hm)).2];let bw:=bg.trans Fq;let al:=bw _ _ ae;erw[1,lb,bl.map λk:Nat=>(k:Int),2,bJ.of al,bM (show _<=6 by rw[af];lia) (!_),λp hp=>?_];let aE:=aH.new (o:=.set (λk'=>(firstMet (λi=>(bl.map λk:Nat=>(k:Int)).getD i 0) (ge (bl.map λk:Nat=>(k:Int)))).any (·==k')) (ge (firstMet (λi=>(bl.map λk:Nat=>(k:Int)).getD i 0) (ge (bl.map λk:Nat=>(k:Int)))))) hp;let aK:=aE _ _ al;let bC:(bl.map λk:Nat=>(k:Int)).Nodup:=(by delta List.Nodup;rw[mQ];erw[b1.imp λh e=>h ∅]);erw[p,6,ay,1,lb,1,.inl (bJ.of aK),8,E5 (fy ?_) ?_];rw[CV _ bC,af,af,af];generalize upd Kv p _=bB at aE aK;let bh:=bw.trans aE;let bk:=d9.mono bh;let#[Z,_,_]:=nT (z:=Str.empty++"open ") (!_) wg;erw[1,a.dk,6,be _ _ bk.dk,7,iI wg,1,Z,Z,4];erw[bk.said (cmd:=.NP g) hg ap (kf (w:="open") (↑_) _) λv s5 cq bp dn st bF=>?_];let#[rfl,os,O,rfl]:=dn;let ah:=b3 os O;let ce:=(fG (iL st _ _ (mw nF aK))).2;let b9:U=os.map λk:Nat=>(k:Int):=(by erw[List.Perm.eq_of_pairwise (le:=λx y=>x<=y) (λa b _ _ h1 h2=>∅) pw ?_ (pm.trans (ah.map _))];rw[mQ];erw[O.1.imp λh=>∅]);erw[1,g5,λl2 bX=>?_];let ax:=aH.new (o:=.lst [fA (Txt.join " " (U.map TX.num)),fA "-"]) bX;let bc:=ay (H:=bp) (a:=l2) (o:=.lst [fA (Txt.join " " (U.map TX.num)),fA "-"]);let bb:=ax _ _ ce;generalize upd bp l2 (.lst [fA (Txt.join " " (U.map TX.num)),fA "-"])=H14 at ax bc bb;erw[1,bL _,λl3 aC=>?_];let as:=aH.new (o:=.lst []) aC;erw[.list ((bl.map λk:Nat=>(k:Int)).map .int),.list [],Rep.ints (bJ.of (as _ _ bb)),#[l3,[],2,bJ.of ay,2],iJ _,2,bM (b5 (aJ (dX _ _) (by show eJ _+1<=64;rw[pY];decide)) _) hr.units,.inr #[14]];rw[KR];let bV:=k2 cq _ (bF.mono (ax.trans as)) ((iM bh).trans ((iL st).trans (iM (ax.trans as))));let say:∃y,xW [fA (Txt.join " " (U.map TX.num)),fA "-"] (if ((bl.map λk:Nat=>(k:Int)).map PyData.int).isEmpty=df then 1 else 0)=ac y/\fA (Gn (bA os))=y:=(by cases eb:bl with|nil=>rw[eb] at ah;let:=ah.symm.eq_nil;subst this;exact#[12]|cons b0 br=>(exists 14;rw[b9];cases eo:os with|nil=>rw[eb,eo] at ah;let:=ah.length_eq;ext this|cons o0 or=>erw[gZ fA ?_];show Txt.join TX.oz ((bA (o0::or)).map ia)=Txt.join TX.oz (((o0::or).map λk:Nat=>(k:Int)).map TX.num);rw[bZ,bZ];rfl));let#[y,G,ey]:=say;erw[dI (bJ.of (as _ _ bc)) G #[by rw[<- ey];rfl,Qp ey bV]]
noncomputable def i5:Option Nat->V
 |none=>.str "all"
 |some b=>.int (b:Nat)
noncomputable def sv:Option Nat->Str
 |none=>"all"
 |some b=>HB b
theorem SB{to:Option Nat}(h:∀b,to=ac b->b<=1000000):mr (i5 to) (sv to):=by cases to with|none=>erw[.str (!_)]|some b=>erw[.int (iI (gm (h b rfl)))]
theorem afW{to:Option Nat}(h:∀b,to=ac b->b<=1000000):(sv to).length<=60:=by cases to with|none=>decide|some b=>erw[(TX.gP (gm (h b rfl))).2]
noncomputable def Zi(cl:!(Nat×Nat))(M:!Int)(x y:Nat):Bool:=decide (M.getD (cl.getD y (0,0)).1 0=M.getD (cl.getD x (0,0)).1 0)
noncomputable def AF(x:Nat)(to:Option Nat)(y:Nat):Bool:=match to with|none=>(decide (y=x)).not|some b=>decide (b=y)
noncomputable abbrev jk(cl:!(Nat×Nat))(x:Nat):!Nat:=(av (ge cl)).filter (AE cl x)
noncomputable abbrev uV(cl:!(Nat×Nat))(M:!Int)(x:Nat):!Nat:=(jk cl x).filter (Zi cl M x)
noncomputable abbrev Jv(cl:!(Nat×Nat))(M:!Int)(x:Nat)(to:Option Nat):!Nat:=(uV cl M x).filter (AF x to)
theorem YQ.told{ns:!Int}{rs:!R5}{o:cS ns rs}{os:Nat->!Nat}{b x y:Nat}{to:Option Nat}{s:NS}{bs:!(!Bool)}{cl:!(Nat×Nat)}{M:!Int}(z:YQ o os b x to s)(h:KS o bs cl s)(e:s.cps=[])(f:s.aE=cl.map (·.1))(i:s.groups=cl.map (·.2))(a:∀c∈cl,c.1<ge ns/\c.2<3)(B:x<ge cl)(j:y<ge cl)(v:Gr.Ae (gA rs (lN rs s.ws (cl.getD x (0,0)).2)) (ge ns) M)(D:RM.Rest (gW ns rs o s.ws (cl.getD x (0,0)).2) (s.R (cl.getD x (0,0)).2))(sn:RM.Sane (gW ns rs o s.ws (cl.getD x (0,0)).2) (s.R (cl.getD x (0,0)).2)):(s.had.getD y []).count b=if y∈Jv cl M x to then 1 else 0:=by let t:∀{k:Nat}(l:k<ge cl),s.aE.getD k 0=(cl.getD k (0,0)).1/\s.groups[k]?=ac (cl.getD k (0,0)).2/\cl.getD k (0,0)∈cl:=λ{k}l=>(by rw[f,i,ak,ao,ao,ak,aa l];erw[22,aB l]);let#[A,r,p]:=t B;let#[C,F,u]:=t j;let g:s.groups.getD x 0=(cl.getD x (0,0)).2:=(by rw[ak,r];rfl);let w:=(a _ p).1;let E:=(a _ u).1;let G:=(a _ p).2;rw[z.fin h e (by rw[f,af];erw[j]),g,A,C];let key:(Wn s.groups x to y/\Rw rs (os (cl.getD x (0,0)).2) (ge rs) (cl.getD x (0,0)).1 (cl.getD y (0,0)).1)↔y∈Jv cl M x to:=(by rw[aZ,aZ,aZ,bO,<- adu D sn (z.op _ G) v w E];delta Wn AE Zi;rw[r,F,g6,g6];constructor;(intro ⟨⟨m,d⟩,n⟩;erw[#[#[j,aI m],n],4];cases to with|none=>erw[iQ _▸gh d]|some b=>erw[fy (Eq.symm d)]);intro ⟨⟨⟨_,m⟩,n⟩,d⟩;erw[#[gZ ac m,4],n];cases to with|none=>erw[of_decide_eq_false (by rw[<- iQ];erw[d])]|some b=>erw[(g4 d).symm]);by_cases q:y∈Jv cl M x to;rw[eG q,eG (key.mpr q)];rw[eH q,eH λz=>q (key.mp z)]
inductive YX(K:ah)(CT CD:du)(c:NC)(vs:!V)(H:Hp)(Q:VK)(E:XK):Prop
 |mk(F:du->Prop)(a:AD)(bs:!(!Bool))(cl:!(Nat×Nat))(s:NS)(x:Nat)(lk:du)(mq:!du)(Ms:!(!Int)):vs=[.ref a.dk,.ref a.lc,.ref lk,.int x]->uh K CT CD c a H F bs cl bs cl s->ge s.ls<=110->s.cps=[]->x<ge cl->Off H F lk=ac (.lst (mq.map fx))->MS (Off H F) mq Ms->ge Ms=3->(∀(g:Nat)M,Ms[g]?=ac M->Gr.Ae (gA a.rs (lN a.rs s.ws g)) (ge a.ns) M)->(∀(g:Nat)o,g<3->RM.Rest (gW a.ns a.rs o s.ws g) (s.R g))->(∀F' H' s',uh K CT CD c a H' F' bs cl bs cl s'->aH (Off H F) (Off H' F')->ge s'.ls<=ge s.ls+6->s'.ws=s.ws->s'.R=s.R->s'.cps=[]->Q (.bl df) H')->YX K CT CD c vs H Q E
theorem Sv(T:Txt K mg w t):oG P w mg base T.DC 12 (YX K t.bf t.eV (nc t)):=by erw[T.DC.F.iV fT λH Q E hr h=>?_];·let#[F,a,O,cl,s,x,lk,mq,Ms,rfl,d,hL,u,hx,bj,a0,a5,bQ,Ss,k]:=h;erw[_,(au (sS 4 fT (xT (xL (pv 1) (pv 3)) aF)) (au (kC (i:=6) fT.nd rfl (Or.inl rfl) (kO fT ["_law_at","_law_callers","_law_group"] [de,ac 1,ac 4]) rfl (eW rfl T.gF (dj (lS T.gE (pv 1)))) (~~~(gS 0 J6)) (~~~(kB (qT i0 (yT K (yL K (pv 1) (pv 0)) aF) (pv 2)))) (~~~(pv 0))) (au (sS 7 fT (xL (xL (pv 2) (pv 4)) (xT (xL (pv 1) (pv 3)) aF))) (au (kC (i:=8) fT.nd rfl (Or.inl rfl) (kO fT ["_law_at","_law_callers","_law_group","_law_mark","_law_marks_here"] [de,ac 1,ac 4,ac 7,ac 2]) rfl (cY (pv 6)) (~~~(gS 0 J7)) (~~~(kB (qT i0 (yL K (yL K (pv 4) (pv 2)) (yT K (yL K (pv 1) (pv 0)) aF)) (pv 3)))) (~~~(pv 0))) (au (fS (cY (ck CN (eB (dj bH)) (pv 6))) (gT 9 fT) (au (sS 10 fT (cM (pv 0) T.j4 T.eE (dU T) hr (dj (oV (cZ bH (cZ (jx (pv 3)) (cZ bH (cZ (XM (pv 9)) uv)))))))) (au (fC (cM (pv 0) T.j4 T.eE (dU T) hr (dj bH))) (au (kC (i:=11) fT.nd rfl (Or.inl rfl) (kO fT ["_law_at","_law_sender","_law_to"] [de,ac 3,ac 9]) rfl (cY (pv 8)) (~~~(gS 0 J8)) (~~~(kB (PW.pt (Pa (PW.pt (wu (qT i0 (pv 2) bH) (qk (qT oq (pv 0) (pv 1))))) (HJ (qT i0 (pv 2) (pv 0))))))) (~~~(pv 0))) (b6 (fS (eW rfl T.gF (dj (lS T.gE (pv 1)))) (gT 5 fT) (b6 (cV (qT oq (cG (adB T) hr T.RO (Lv (pv 0) (pv 5) (pv 10))) (cJ vR (by rfl) T.G2 boot_int (dj (D4 pV (pv 5) (pv 11) (by with_unfolding_all rfl))))) oB bR)))))))) (oR (qE i0 (cM (pv 0) T.j4 T.eE (dU T) hr (dj bH)) bH))))))),4];left;let o:=d.o;let n5:=d.n5;let c5:=d.c5;let#[bd,aD,ae]:=d.aE;let b1:ge s.aE=ge cl:=(by rw[bd,af]);let#[L,c1,c2]:=d.cc;let eq:ge L=ge cl:=(by rw[c2.len,af]);let hP:bJ K H a.lc (L.map fx):=bJ.of (be _ _ c1);let at':∀{y:Nat} (f:y<ge cl),xW (L.map fx) (y:Int)=ac (.ref (L[y]'∅))/\dH K H (L[y]'∅) [.int ((cl.getD y (0,0)).1:Nat),.int ((cl.getD y (0,0)).2:Nat)]:=λ{y} f=>#[cH (by rw[ao,aa];rfl),be.cU (c2.at' y _ _ (aa _) (by rw[ao,aa f,ak,aa f];rfl))];let ad:∀{y:Nat},y<ge cl->cl.getD y (0,0)∈cl:=λ{y} f=>(by rw[ak,aa f];erw[aB f]);let NB:((ge (L.map fx):Nat):Int)=(ge cl:Int):=(by rw[af,eq]);let#[ax,qx]:=at' hx;erw[bY λNx G=>?_];erw[38,dI hP ax (gf qx rfl (G _ _ ?_))];let ap:=(ae _ (ad hx)).2;let hf:=(ae _ (ad hx)).1;erw[bY λNx G=>?_];exists 1,a.lc,1,.inl hP,((ge (L.map fx):Nat):Int),25,by rw[af];lia,λD ab=>?_;rw[NB];erw[fK (n:=((ge cl:Int)).toNat) (λi C _=>C=bA ((av i).filter (AE cl x))) ab wB mU rfl ?_ ?_];rintro i C H5 hi c f rfl y H6 ⟨rfl,rfl⟩;rw[cT];let bq:i<ge cl:=∅;let#[a1,q1]:=at' bq;erw[38,dI (c.seq hP) a1 (gf (c.cU q1) rfl #[184])];let ed:decide (fw (((cl.getD i (0,0)).2:Nat):Int)=fw (((cl.getD x (0,0)).2:Nat):Int))=AE cl x i:=(by delta AE;rw[decide_eq_decide];exists λz=>by let:=V.int.inj z;lia,λz=>by rw[z]);rw[ed];erw[lZ (λu=>?_) (λu=>?_)];erw[1,dS ab hi c f ?_ ?_];rw[af];erw[bP (aJ (bx _ _) ?_)];rw[aX];lia;rw[sj,eG u,gy];erw[gU hi c f ?_];rw[sj,eH u,cu];rintro C H1 W ah rfl;rw[cQ] at ah;let Vl:∀y∈jk cl x,y<ge cl:=λy f=>bO.mp (aZ.mp f).1;let bX:∀y∈jk cl x,s.groups[y]?=s.groups[x]?:=λy f=>(by let h1:=g4 (aZ.mp f).2;let f:=Vl y f;rw[ak,ak,aa f,aa hx] at h1;rw[aD,ao,ao,aa f,aa hx];erw[gZ ac h1]);let bL:ge (jk cl x)<=5:=(by let:ge (jk cl x)<=_:=bx (AE cl x) (av (ge cl));rw[aX] at this;lia);erw[G _ _ ?_];obtain⟨M,eM⟩:∃M,Ms[(cl.getD x (0,0)).2]?=ac M:=#[_,aa ∅];let hM:=bQ _ M eM;let b7:ge mq=3:=(by rw[a0.1];erw[a5]);obtain⟨q,as⟩:∃q,mq[(cl.getD x (0,0)).2]?=ac q:=#[_,aa ∅];let bg:=a0.2 _ q M as eM;let aR:xW (mq.map fx) (((cl.getD x (0,0)).2:Nat):Int)=ac (.ref q):=cH (by rw[ao,as];rfl);let lM:ge M=ge a.ns:=hM.len;let aO:∀{y:Nat},y<ge cl->xW (M.map fw) (((cl.getD y (0,0)).1:Nat):Int)=ac (.int (M.getD (cl.getD y (0,0)).1 0)):=λ{y} f=>(by let:=(ae _ (ad f)).1;erw[cH (by rw[ao,aa ∅,ak (l:=M),aa ∅];rfl)]);let an:bJ K H1 lk (mq.map fx):=bJ.of (W _ _ (be _ _ bj));let aw:bJ K H1 q (M.map fw):=bJ.of (W _ _ (be _ _ bg));erw[bY λNx G=>?_];erw[38,dI an aR #[38,dI (W.seq hP) ax (gf (W.cU qx) rfl (dI aw (aO hx) (G _ _ ?_)))]];erw[bY λNx G=>?_];let I:bJ K H1 D (bA (jk cl x)):=bJ.of ah;erw[1,D,2,#[_,I],λU9 EW=>?_];erw[fK (n:=ge (bA (jk cl x))) (λi C _=>C=bA (((jk cl x).take i).filter (Zi cl M x))) EW (jC I) (fQ I) rfl ?_ ?_];rintro j C H5 r c f rfl y H6 ⟨rfl,al⟩;let A:=al _ (c.seq I);let p:=r;rw[af] at r;rw[ao,aa r] at A;ext A;let aC:=Vl _ (aB r);let#[a1,q1]:=at' aC;let et:(jk cl x).take (j+1)=(jk cl x).take j++[(jk cl x)[j]]:=(by rw[fV,aa r];rfl);let t5:=W.trans c;erw[38,dI (c.seq an) aR #[38,dI (t5.seq hP) a1 (gf (t5.cU q1) rfl (dI (c.seq aw) (aO aC) #[184]))]];let ed:decide (fw (M.getD (cl.getD (jk cl x)[j] (0,0)).1 0)=fw (M.getD (cl.getD x (0,0)).1 0))=Zi cl M x (jk cl x)[j]:=(by delta Zi;rw[decide_eq_decide];exists λz=>V.int.inj z,λz=>by rw[z]);rw[ed];let sm:ge (bA (((jk cl x).take j).filter (Zi cl M x)))<eD:=(by rw[af];erw[bP (aJ (bx _ _) ?_)];rw[bU];lia);erw[lZ (λu=>?_) (λu=>?_)];erw[1,dS EW p c f sm ?_];rw[et,dZ,kZ,eG u,wk];erw[(gy _ _).symm];erw[gU p c f ?_];rw[et,dZ,kZ,eH u,wk,cu];rintro C H2 s2 aS rfl;rw[af,cX (aA _)] at aS;let bo:=EW;erw[G _ _ ?_];let bc:=s2 _ _ ah;let b0:∀y∈uV cl M x,y<ge cl:=λy f=>Vl y (aZ.mp f).1;let b4:ge (uV cl M x)<=5:=aJ (bx _ _) bL;erw[bY λNx G=>?_];erw[IU,λl1 bS=>?_];let u3:=aH.new (o:=.lst [fA "all"]) bS;let aQ:=ay (H:=H2) (a:=l1) (o:=.lst [fA "all"]);let ar:=u3 _ _ bc;let aI:=u3 _ _ aS;generalize upd H2 l1 (.lst [fA "all"])=H3 at u3 aQ ar aI;erw[1,l1,D,62,aQ,ar,(by rw[af];erw[gp (bP (by show 1+ge (jk cl x)<=1000;lia))]),λlt am=>?_];rw[show [fA "all"]++bA (jk cl x)=(de::(jk cl x).map ac).map i5 by rw[bz,bZ];rfl];let u4:=aH.new (o:=.lst ((de::(jk cl x).map ac).map i5)) am;let h4:=ay (H:=H3) (a:=lt) (o:=.lst ((de::(jk cl x).map ac).map i5));let a3:=u4 _ _ aI;generalize upd H3 lt (.lst ((de::(jk cl x).map ac).map i5))=H4 at u4 h4 a3;let s4:=((W.trans s2).trans u3).trans u4;let bK:∀{b:du},H b=de->¬F b:=λ{b} B q=>(by let#[o',e]:=d.c6.there q;rw[B] at e;ext e);let bm:¬F lt:=bK (((W.trans s2).trans u3).free am);let bT:¬F U9:=λq=>(by let#[o',e]:=(d.mono W).c6.there q;erw[ff e (by rw[bo];simp)]);obtain⟨os,op⟩:∃os:Nat->!Nat,∀g,g<3->fm (gW a.ns a.rs o s.ws g) (s.R g) (os g):=#[λg=>Classical.choose (Vb (live:=lN a.rs s.ws g) (nd:=o.nd) (ok:=o.ok) (hl:=mZ) (s.R g)),λg _=>(qh (Vb (live:=lN a.rs s.ws g) (nd:=o.nd) (ok:=o.ok) (hl:=mZ) (s.R g))).1];let a4:Off H4 F lt=ac (.lst ((de::(jk cl x).map ac).map i5)):=mw bm h4;let bt:Off H4 F U9=ac (.lst (bA (uV cl M x))):=mw bT a3;let d4:=d.mono s4;let k4:∀F' H' s',uh K t.bf t.eV (nc t) a H' F' O cl O cl s'->aH (Off H4 F) (Off H' F')->ge s'.ls<=ge s.ls+6->s'.ws=s.ws->s'.R=s.R->s'.cps=[]->Q (.bl df) H':=λF' H' s' d' e=>k F' H' s' d' ((iM s4).trans e);let br:Off H4 F a.lc=ac (.lst (L.map fx)):=iM s4 _ _ c1;erw[lt,2,#[_,bJ.of (be _ _ a4)],rJ (K:=K) (a:=lt) (xs:=(de::(jk cl x).map ac).map i5) (λi σ H5=>∃(c:NS) (F5:du->Prop) (v5 v9 aj ag:Option V),uh K t.bf t.eV (nc t) a H5 F5 O cl O cl c/\aH (Off H4 F) (Off H5 F5)/\ge c.ls<=ge s.ls+i/\c.ws=s.ws/\c.R=s.R/\c.cps=[]/\σ=[ac (.ref a.dk),ac (.ref a.lc),ac (.ref lk),ac (.int (x:Nat)),ac (.int ((cl.getD x (0,0)).2:Nat)),v5,ac (.ref D),ac (.int (M.getD (cl.getD x (0,0)).1 0)),ac (.ref U9),v9,aj,ag]) #[s,F,3333,d4,aH.refl _,aA _,22,u,2] (λi σ H5 _ z=>?_) ?_ ?_];let#[_,_,_,_,_,_,_,e,_]:=z;erw[bJ.of (be _ _ (e _ _ a4))];(·intro i y σ H5 Nf Cz hi ⟨c,F5,v5,v9,aj,ag,d5,e5,l5,w5,r5,J,rfl⟩;let aV:i<ge (de::(jk cl x).map ac):=(by let:=(ai.mp hi).1;rwa [af] at this);let b2:i<6:=(by let:ge (de::(jk cl x).map ac)=ge (jk cl x)+1:=(by rw[bG,af]);lia);rw[ao,aa aV] at hi;ext hi;let U:∀b,(de::(jk cl x).map ac)[i]=ac b->b∈jk cl x:=λb e=>(by let:=aB aV;rw[e] at this;obtain z|z:=aT.mp this;ext z;let#[b',bI,e']:=aG.mp z;ext e';erw[bI]);generalize (de::(jk cl x).map ac)[i]=m at U;let aW:∀b,m=ac b->b<=1000000:=λb e=>(by let:=Vl b (U b e);lia);let#[bE,bW,_]:=d5.aE;let bC:ge c.aE=ge cl:=(by rw[bE,af]);let X:∀y,m=ac y->y<ge c.aE/\c.groups[y]?=c.groups[x]?:=λy e=>#[by rw[bC];exact Vl y (U y e),by rw[bW,<- aD];erw[bX y (U y e)]];let bv:∀g,g<3->fm (gW a.ns a.rs o c.ws g) (c.R g) (os g):=λg hg=>(by rw[w5,r5];erw[op g hg]);let b5:ge c.ls<=118:=∅;let wx:TX.Wr (x:Int):=gm ∅;let#[z1,z2,z3]:=nT (z:=Str.empty++"post ") (!_) wx;let z3:=z3 _ (afW aW);erw[bY λNy Qs=>?_];erw[1,a.dk,6,be _ _ d5.dk,7,iI wx,1,z1,1,z2,13,SB aW,1,z3,z3,4];erw[d5.said (cmd:=.post x m) #[5,X] ∅ ((ka (w:="post") (↑_) _ _).trans (by ext m <;> rfl)) λv s6 F6 H6 dn bk d6=>Qs _ _ ?_];let aN:=dn.ln;let#[bB,O',_,aP,rfl]:=dn;let Z6:YQ o os (ge c.ls) x m s6:=(by rw[aP];erw[YQ.post d5.s6 bv J ∅ X O']);erw[bY λNy Qs=>?_];erw[1,a.dk,6,be _ _ d6.dk,24];let b3:ge s6.ls<=119:=(by rw[aN];show ge c.ls+1<=119;lia);erw[d6.said (cmd:=.run) trivial ∅ rfl λv Y F7 H7 dn VP d7=>Qs _ _ ?_];let bV:=dn.ln;let#[kk,rn,aL,_]:=dn;let#[Z7,bb,a8]:=Z6.rn rn d6.s6;let aM:s6.ws=c.ws/\s6.R=c.R:=(by rw[aP];let#[e1,e2,_,_]:=Gk (rs:=a.rs) (h:=c.aE.getD x 0) (cK:=de) (os:=bB) (s:=jN c x m) (i:=ge c.ls) (l:={gu c x m with aK:=[.post (c.aE.getD x 0)]}) jR;erw[e1,e2]);let w7:Y.ws=s.ws:=bb.trans (aM.1.trans w5);let r7:Y.R=s.R:=a8.trans (aM.2.trans r5);let l7:ge Y.ls<=ge s.ls+(i+1):=(by rw[bV,aN];show ge c.ls+1+0<=_;lia);let e7:=e5.trans ((iL bk).trans (iL VP));let a9:ge c.ls<=120:=∅;(let d7:uh K t.bf t.eV (nc t) a H7 F7 O cl O cl Y:=d7;let#[bM,bp,bh]:=d7.aE;let told:∀y,y<ge cl->(Y.had.getD y []).count (ge c.ls)=if y∈Jv cl M x m then 1 else 0:=λy f=>by let#[D7,bi,_]:=d7.s6.sk;erw[Z7.told d7.s6 aL bM bp bh hx f (by rw[w7];erw[hM]) ?_ (Vj bi.ok ap)];rw[w7,r7];erw[Ss _ o ap]);let bu:=e7 _ _ bt;let N:bJ K H7 U9 (bA (uV cl M x)):=bJ.of (be _ _ bu);erw[bY λNy Qs=>?_];erw[1,U9,2,#[_,N],λS O0=>?_];erw[fK (n:=ge (bA (uV cl M x))) (λi C _=>C=bA (((uV cl M x).take i).filter (AF x m))) O0 (jC N) (fQ N) rfl ?_ ?_];(rintro j C H8 r Z f rfl y H9 ⟨rfl,al⟩;let A:=al _ (Z.seq N);let p:=r;rw[af] at r;rw[ao,aa r] at A;ext A;let et:(uV cl M x).take (j+1)=(uV cl M x).take j++[(uV cl M x)[j]]:=(by rw[fV,aa r];rfl);let sm:ge (bA (((uV cl M x).take j).filter (AF x m)))<eD:=(by rw[af];erw[bP (aJ (bx _ _) ?_)];rw[bU];lia);let az:AF x m (uV cl M x)[j]=df->((uV cl M x).take (j+1)).filter (AF x m)=((uV cl M x).take j).filter (AF x m)++[(uV cl M x)[j]]:=λu=>(by rw[et,dZ,kZ,eG u,wk]);let aq:¬AF x m (uV cl M x)[j]=df->((uV cl M x).take (j+1)).filter (AF x m)=((uV cl M x).take j).filter (AF x m):=λu=>(by rw[et,dZ,kZ,eH u,wk,cu]);cases m with|none=>erw[18,E5 (fy rfl) ?_];exists 3884;erw[lZ (λB=>?_) (λB=>?_)];let hw:AF x de (uV cl M x)[j]=df:=(by show ((decide ((uV cl M x)[j]=x)).not)=df;rw[iQ,decide_eq_false_iff_not] at B ⊢;erw[λz=>B (by rw[z])]);erw[fZ #[1,dS O0 p Z f sm (by rw[az hw];erw[(gy _ _).symm])]];let hw:¬AF x de (uV cl M x)[j]=df:=(by show ¬((decide ((uV cl M x)[j]=x)).not)=df;rw[iQ,decide_eq_false_iff_not] at B ⊢;erw[λz=>B λq=>z (by let:=V.int.inj q;lia)]);erw[388,lK (gh λz=>by ext z) (gU p Z f (by rw[aq hw]))]|some b=>erw[18,lK (gh λz=>by ext z) ?_];erw[388,lZ (λB=>?_) (λB=>?_)];let hw:AF x (ac b) (uV cl M x)[j]=df:=fy (by let:=V.int.inj (g4 B);lia);erw[1,dS O0 p Z f sm (by rw[az hw];erw[(gy _ _).symm])];let hw:¬AF x (ac b) (uV cl M x)[j]=df:=λz=>B (fy (by let:b=(uV cl M x)[j]:=g4 z;rw[this];rfl));erw[gU p Z f (by rw[aq hw])]);rintro C H8 Z a2 rfl;rw[af,cX (aA _)] at a2;erw[Qs _ _ ?_];let a6:¬F7 S:=λq=>(by let#[o',e]:=d7.c6.there q;rw[O0] at e;ext e);let bw:Off H8 F7 S=ac (.lst (bA (Jv cl M x m))):=mw a6 a2;let d8:=d7.mono Z;let e8:=e7.trans (iM (F:=F7) Z);let bn:=be _ _ (e8 _ _ br);exists 1,a.lc,1,.inl (bJ.of bn),((ge (L.map fx):Nat):Int),25,by rw[af];lia,4;rw[NB];erw[wH (n:=((ge cl:Int)).toNat) (λj σ H9=>∃(F9:du->Prop) (v5:Option V),uh K t.bf t.eV (nc t) a H9 F9 O cl O cl Y/\aH (Off H8 F7) (Off H9 F9)/\σ=[ac (.ref a.dk),ac (.ref a.lc),ac (.ref lk),ac (.int (x:Nat)),ac (.int ((cl.getD x (0,0)).2:Nat)),v5,ac (.ref D),ac (.int (M.getD (cl.getD x (0,0)).1 0)),ac (.ref U9),ac (i5 m),ac (.str (HB (ge c.ls))),ac (.ref S)]) #[F7,_,d8,aH.refl _,2] ?_ ?_];intro j σ H9 Nj bF r ⟨F9,v5,d9,e9,rfl⟩;rw[cT];let r:j<ge cl:=∅;erw[138,F9,a,O,cl,Y,j,ge c.ls,2,d9,r,5,a9,λa7 NH bN aY=>?_];let ba:=(fG ((e9.trans aY) _ _ bw)).2;erw[38,S,1,.inl (bJ.of ba),2,nG _,.inr #[18,lK ?_ (bF _ _ #[a7,_,bN,e9.trans aY,2])]];rw[eH aU,wG,told j r];by_cases q:j∈Jv cl M x m;rw[eG q,fy q];rfl;rw[eH q,gh q];rfl;intro σ H9 ⟨F9,v5,d9,e9,rfl⟩;erw[Cz _ _ #[Y,F9,3333,d9,e8.trans e9,l7,w7,r7,aL,2]]);intro σ H5 ⟨c,F5,v5,v9,aj,ag,d5,e5,l5,w5,r5,J,rfl⟩;erw[G _ _ ?_];let l6:ge ((de::(jk cl x).map ac).map i5)<=6:=(by rw[af,bG,af];show ge (jk cl x)+1<=6;lia);erw[1,a.dk,6,be _ _ d5.dk,24];erw[d5.said (cmd:=.flying) trivial ∅ rfl λv s6 F6 H6 dn st d6=>?_];let#[rfl,rfl]:=dn;rw[J];erw[2,Qp (↑_) (k4 F6 H6 s6 d6 (e5.trans (iL st)) ∅ w5 r5 J)]
theorem afX(rs:!R5):(rs.map λr=>bN r.d.toNat df).map gL=rs.map λr=>av r.d.toNat:=by rw[bZ];erw[dm λr _=>V1 _]
theorem adK{rs:!R5}(ok:∀r∈rs,r.Ok n):S7 rs (rs.map λr=>bN r.d.toNat df):=by erw[af _,λi r b a c=>?_];rw[ao,a] at c;ext c;rw[List.length_replicate];let:=(ok r (aD a)).d1;lia
theorem KF{cl:!(Nat×Nat)}(o:cS ns rs)(m:ge cl<=20)(b:∀c∈cl,c.1<ge ns/\c.2<3):SD ns rs (rs.map λr=>bN r.d.toNat df) cl 0 (S0 ns rs cl):=by erw[#[af _,λw a=>?_,λg _ i e=>#[4,ur _,#[ur _,by show (0:Int)<(ge ns:Int);lia],.inl rfl]],#[44,λg j=>?_,λh f=>?_,4,λw a=>?_,bL _,λl z=>(by ext z),bL _,λc z=>(by ext z),λg=>#[bL _,lY]],(afX rs).symm,adK o.ok,22];let#[r,k,rfl]:=aG.mp a;rw[aX];let:=(o.ok r k).d4;lia;show 0<=ns.getD i 0;rw[ak,aa e];erw[o.pos _ (aB e)];show ge (cl.map _)=ge (cl.map _);rw[af,af];show ge (cl.map _)<=20;rw[af];erw[m];let#[c,z,rfl]:=aG.mp j;erw[(b c z).2];let#[c,z,rfl]:=aG.mp f;erw[(b c z).1];show ge (cl.map _)=ge (cl.map _);rw[af,af];let#[c,z,rfl]:=aG.mp a;erw[bL _]
theorem Sr{cl:!(Nat×Nat)}(o:cS ns rs)(j:TB ns rs)(m:ge cl<=12)(i:∀c∈cl,c.1<ge ns/\c.2<3):z5 ns (rs.map R5.ns) (AA cl):=by
 let p:(10:Int)^50<10^60:=!_;let l:(10:Int)^41<10^60:=!_;let q:(20:Int)<10^60:=!_;let V9:=o.V9;let Sw:=o.Sw;erw[λn g=>#[o.pos n g,by let:=j.n n g;lia],λr f n g=>?_,λr f n g=>?_,o.n1,5,λr f=>?_,λr f=>?_,by rw[af];lia,by rw[af];lia];·let#[x,h,rfl]:=aG.mp f;let k:=o.ok x h;let A:=j.c x h;let:n=x.a\/n=x.b\/n=x.c\/n=x.d\/n=x.e:=(by simpa [R5.ns] using g);let w:=k.a0;let s:=k.a1;let z:=k.b0;let y:=k.b1;let v:=k.c1;let u:=k.d1;let t:=k.d4;let B:=k.e1;let C:=k.e7;refine#[44] <;> (obtain rfl|rfl|rfl|rfl|rfl:=this <;> lia)
 ·let#[x,h,rfl]:=aG.mp f;let k:=i x h;let:n=(x.1:Int)\/n=(x.2:Int):=g⁻¹;refine#[44] <;> (obtain rfl|rfl:=this <;> lia)
 let#[x,_,rfl]:=aG.mp f;rfl;let#[x,_,rfl]:=aG.mp f;rfl
theorem KB{cl:!(Nat×Nat)}(o:cS ns rs)(f:TB ns rs)(k:ge cl<=20)(b:∀c∈cl,c.1<ge ns/\c.2<3):SK ns rs (rs.map λr=>bN r.d.toNat df) cl 0 (S0 ns rs cl):=by erw[(0),KF o k b,aA _,λg _ h a=>#[4,ur _],λw j i e=>?_,λi l z=>by ext z];show ns.getD h 0<_;rw[ak,aa a];erw[f.n _ (aB a)];let#[c,_,rfl]:=aG.mp j;ext e
theorem adL{e:Int}{g:Nat}(f:1<=e)(h:e<=7)(d:g<3):decide (fw (Builtin.bitAnd (e/2^g) 1)=fw 1)=x6 e g:=by obtain⟨k,rfl⟩:∃k:Nat,e=(k:Int):=#[e.toNat,5];let c:∀a:Fin 8,∀b:Fin 3,decide (fw (Builtin.bitAnd (((a:Nat):Int)/2^(b:Nat)) 1)=fw 1)=x6 ((a:Nat):Int) b:=!_;erw[c #[k,5] #[g,d]]
theorem adM(b:!Bool):NF (.bl df) (b.map fI)=b.any id:=by delta NF;induction b with|nil=>rfl|cons e c a=>rw[bz,rB,rB,a];ext e <;> rfl
theorem adN(b:!Bool):(b.map fI).all Cq=df:=by rw[jl];intro x a;let#[e,_,rfl]:=aG.mp a;rfl
theorem KS.start{cl:!(Nat×Nat)}(o:cS ns rs)(b:TB ns rs)(e:ge rs<=8)(f:ge cl<=20)(a:∀c∈cl,c.1<ge ns/\c.2<3):KS o (rs.map λr=>bN r.d.toNat df) cl (S0 ns rs cl) :=#[e,KB o b f a,#[λl z=>(by ext z),λg _ os _=>#[λt z=>(by ext z),λc z=>(by ext z)]]]
theorem Rn.same{ns:!Int}{rs:!R5}{o:cS ns rs}{k:Nat}{s s':NS}(r:Rn o s k s'):s'.ws=s.ws/\s'.R=s.R:=by induction r with|zero=>exact#[22]|succ _ p b=>let#[cp,l,os,ts,_,e,_,_,_,_,rfl,_]:=p;let#[c,d,_,_]:=Ql (rs:=rs) (a:=0) (cp:=cp) (os:=os) (ts:=ts) e;erw[c.trans b.1,d.trans b.2]
theorem Kx(cs:!Int):∃a:!Int,Ac (cs.map fw) (ac 16) (ac 56)=a.map fw/\ge a<=40:=by erw[(cs.drop (HT.n6 (ge cs) 0 (ac 16))).take (HT.n6 (ge cs) (ge cs) (ac 56)-HT.n6 (ge cs) 0 (ac 16)),44];delta Ac;rw[af,List.map_take,List.map_drop];rw[show (16:Int)=((16:Nat):Int) from rfl,show (56:Int)=((56:Nat):Int) from rfl,HT.QF,HT.QF,bU,um];lia
inductive qr(K:ah)(vs:!V)(H:Hp)(Q:VK)(E:XK):Prop
 |mk(a:du)(ns:!Int):vs=[.ref a]->bJ K H a (ns.map fw)->ge ns<=63->(∀H',Q (.bl df) H')->qr K vs H Q E
theorem Sc(T:Txt K mg w t):oG P w mg base T.XS 13 (qr K):=by erw[T.XS.F.iV qB λH Q E hr h=>?_];·let#[sc,cs,rfl,hS,c4,k]:=h;erw[_,(au (sS 1 qB (cG (aaq T) hr T.Ml (dj (pv 0)))) (au (sS 2 qB (lS T.gE (xT (pv 1) aF))) (au (sS 3 qB (cJ kq (by rfl) T.BN boot_list (dj (xT (pv 1) aF)))) (au (sS 4 qB (dP (kO qB ["_law_rope_here"] [de]) rfl (cY (xT (pv 1) aF)) (~~~(gS 0 ZT)) (~~~fj) (~~~(ck ahH (eB (dj KY)) (yT K (pv 0) aF))))) (au (sS 5 qB (cI T.zM (Nr T) hr T.aip (dj (cG (aas T) hr T.Mm (dj (pv 1)))))) (au (fS (cY (jw vd (pv 0) (jP aF) (jP aF))) (gT 6 qB) (b6 (cV (ki (mT (cG (aau T) hr T.Mp (Ev (pv 5) (pv 6) (pv 2) (pv 3) (pv 4))))) oB bR))) (au (sS 7 qB (eB gx)) (au (fS (eW rfl T.gF (dj aF)) (gT 8 qB) (au (kC (i:=9) qB.nd rfl (Or.inl rfl) (kO qB ["_law_at","_law_group","_law_strung","_law_told"] [de,ac 8,ac 4,ac 1]) rfl (eW rfl T.gF (dj (lS T.gE (pv 4)))) (~~~(gS 0 ZU)) (~~~(kB (PW.pt (wu (oS (Ft K rfl) KY (yL K (pv 2) (pv 0)) (by with_unfolding_all rfl)) (qk (qT i0 (ck Ch (ck TD (yT K (yL K (yT K (pv 3) aF) (pv 0)) aF) (pv 1)) aF) aF)))))) (~~~(pv 0))) (au (cV (ki (mT (cG (aax T) hr T.Mq (mj (pv 5) (pv 1) (pv 9) (pv 8))))) oB bR) (oE (jM bK bT bS fY (pv 7) (dj (cG (Nv T) hr T.Ex (oW (pv 2) (dP (kO qB ["_law_rope_here","_law_told"] [de,ac 1]) rfl (cY (pv 9)) (~~~(gS 0 ZV)) (~~~fj) (~~~(jw (Xp K rfl) (yL K (yT K (pv 1) aF) (pv 0)) oU (jP aF)))))))))))) (au (fC (cM (pv 5) T.j4 T.eE (dU T) hr (dj bH))) (au (fS (eW rfl T.gF (dj (lS T.gE (pv 3)))) (gT 10 qB) (b6 (cV (ki (mT (cG (Sv T) hr T.DC (mj (pv 5) (pv 3) (pv 7) (pv 10))))) oB bR))) (oR (qE i0 (cM (pv 5) T.j4 T.eE (dU T) hr (dj bH)) bH)))))))))))),4];left;erw[bY λNx u=>?_];erw[1,sc,cs,2,hS,λq a0 b0 c0 ns rs cl us qs H1 s1 hq hA hB aE hC CI o tb n5 r8 c5 aC=>u _ _ ?_];let G:=Sr o tb ∅ aC;let ci:=s1.seq hS;let n1:=o.n1;erw[bY λNx u=>?_];erw[1,gf (dH.of hq) rfl #[a0,1,.inl (bJ.of hA),4]];show iU 2 (fw ((ge (ns.map fw):Nat):Int)) _ _ _;rw[af];erw[u _ _ ?_];erw[bY λNx u=>?_];erw[1,gf (dH.of hq) rfl #[c0,1,.inl (bJ.of hC),λlc a4=>u _ _ ?_]];let u2:=aH.new (o:=.lst (qs.map fx)) a4;let an:=ay (H:=H1) (a:=lc) (o:=.lst (qs.map fx));generalize upd H1 lc (.lst (qs.map fx))=H2 at u2 an;let bc:=u2 _ _ hB;let bb:fE K H2 us (rs.map R5.vs):=aE.mono λb x=>u2.cU;let cS:ge us=ge rs:=(by rw[bb.len,af]);let cD:∀r∈rs,1<=r.d/\r.d<=4:=λr ad=>#[(o.ok r ad).d1,(o.ok r ad).d4];erw[bY λNx u=>?_];erw[1,gf (dH.of (u2 _ _ hq)) rfl #[b0,2,#[_,bJ.of bc],λls am=>?_]];let aX:=bJ.of (K:=K) bc;erw[fK (n:=ge (us.map fx)) (λi A H9=>∃AV:!du,A=AV.map fx/\ge AV=i/\AV.Nodup/\∀(j:Nat) l r,AV[j]?=ac l->rs[j]?=ac r->H9 l=ac (.lst ((bN r.d.toNat df).map fI))/\l≠ls/\H2 l=de) am (jC aX) (fQ aX) #[[],22,lY,λj l r e=>by simp at e] ?_ ?_];intro i A H9 Y S C ⟨AV,rfl,el,aQ,ab⟩ x NH ⟨rfl,hx⟩;let hx:=hx _ (S.seq aX);let bo:i<ge us:=(by rw[af] at Y;erw[Y]);let Cv:rs[i]?=ac rs[i]:=aa ∅;let cW:=bb.at' i us[i] (rs[i]).vs (aa bo) (by rw[ao,Cv];rfl);rw[ao,aa bo] at hx;ext hx;let w4:=cD _ (aD Cv);erw[IU,λl1 h1=>?_];let c:=aH.new (o:=.lst [.bl df]) h1;erw[1,us[i],9,(S.trans c).cU cW,2,l1,rs[i].d,12,ay,55,(by show 1*rs[i].d.toNat<=eD;erw[gp (bP ∅)]),λl2 h2=>?_];rw[TW.ah3];let B:=c.trans (aH.new (o:=.lst ((bN rs[i].d.toNat df).map fI)) h2);let a8:=ay (H:=upd NH l1 (.lst [.bl df])) (a:=l2) (o:=.lst ((bN rs[i].d.toNat df).map fI));let bi:=B _ _ C;let bt:l2≠ls:=(aS (c _ _ C) h2).symm;let bz:NH l2=de:=c.free h2;let b9:H2 l2=de:=S.free bz;generalize upd (upd NH l1 (.lst [.bl df])) l2 (.lst ((bN rs[i].d.toNat df).map fI))=Kv at B a8 bi;erw[dS am Y (S.trans B) bi (by rw[af,el];erw[bP ∅]) #[AV++[l2],by rw[aN];rfl,by rw[az,el];rfl,4,λj l' r e1 U=>?_]];rw[iP];erw[aQ,-_,λx hx y cZ=>?_];let:y=l2:=cZ⁻¹;subst this;let#[j,J]:=c7 hx;let aw:=(ai.mp J).1;erw[aS (ab j x _ J (aa ∅)).1 bz];obtain e1|⟨rfl,rfl⟩:=AS e1;let#[z1,z2]:=ab j l' r e1 U;exists by rw[aY z2.1];exact B _ _ z1,z2;rw[el,Cv] at U;ext U;exists by rw[aY bt];exact a8,bt,b9;intro A H3 s3 C ⟨AV,rfl,el,aQ,ab⟩;erw[u _ _ ?_];rw[af] at el;let X3:IW H3 ls AV (rs.map λr=>bN r.d.toNat df):=(by exists C,by rw[af];lia,aQ,λi l b e1 U=>?_;rw[ao] at U;cases e3:rs[i]? with|none=>rw[e3] at U;ext U|some r=>rw[e3] at U;ext U;erw[(ab i l r e1 e3).1]);let Yc:=u2.trans s3;let bm:=s3 _ _ an;let aq:∀b,b∈AV\/b=a0\/b=b0\/b=ls->b≠lc:=λb z=>(by obtain z|rfl|rfl|rfl:=z;let#[j,J]:=c7 z;let aw:=(ai.mp J).1;erw[λe=>(by let:=(ab j b _ J (aa ∅)).2.2;rw[e,an] at this;ext this)];erw[aS hA a4];erw[aS hB a4];erw[λe=>(by rw[e,an] at am;ext am)]);erw[bY λNx u=>?_];erw[1,q,a0,b0,c0,ns,rs,cl,us,qs,2,dH.of (Yc _ _ hq),bJ.of (Yc _ _ hA),bJ.of (Yc _ _ hB),(aE.mono λb x=>Yc.cU),bJ.of (Yc _ _ hC),(CI.mono λb x=>Yc.cU),G,λH4 s4=>?_];erw[λdk dx nd cK ne=>?_];let t5:aH H4 (upd (upd H4 dx (.own dk)) dk (.ins t.eV dx [])):=(aH.new cK).trans (aH.new (by rw[aY (cC ne)];erw[nd]));erw[dk,dx,ns,rs,cl,2,ay,G,o,5,aC,λF p tp ln lr H5 N T1 ce kp cO cf=>#[2,u _ _ ?_]];let S5:aH H4 (Off H5 F):=λb v e=>kp b v (t5 b v e) (aS e nd);let S1:aH H1 (Off H5 F):=(Yc.trans s4).trans S5;let a3:=(s4.trans S5) _ _ bm;let aV:=s4 _ _ bm;let cP:ln≠lc:=λe=>(by let:=t5.free cO;rw[e,aV] at this;ext this);let ch:lr≠lc:=λe=>(by let:=t5.free cf;rw[e,aV] at this;ext this);let cA:dk≠lc:=λe=>(by rw[e,aV] at nd;ext nd);let bI:tp≠lc:=λe=>(by let#[#[dt,ht],_]:=T1;rw[e,a3] at ht;ext ht);let X5:=X3.mono (s4.trans S5);let#[A,cB,c9]:=Kx cs;erw[bY λNx u=>?_];erw[138,sc,1,be.seq (S1.seq ci),λlq al=>?_];rw[cB];let u6:=aH.new (o:=.lst (A.map fw)) al;let bC:=ay (H:=H5) (a:=lq) (o:=.lst (A.map fw));generalize upd H5 lq (.lst (A.map fw))=H6 at u6 bC;let o6:=iM (F:=F) u6;let S6:=S1.trans o6;let bM:¬F lq:=λz=>(by let#[o',e]:=N.there z;rw[al] at e;ext e);let cu:lq≠lc:=λe=>(by rw[e,(fG a3).2] at al;ext al);let d6:uh K t.bf t.eV (nc t) #[tp,ln,lr,dk,dx,p,q,a0,b0,c0,ls,lc,AV,us,ns,rs,lq,A] H6 F (rs.map λr=>bN r.d.toNat df) cl (rs.map λr=>bN r.d.toNat df) cl (S0 ns rs cl):=(by erw[N.mono u6,o,tb,KS.start o tb r8 ∅ aC,n5,c5,T1.mono o6,o6 _ _ ce,dH.of (S6 _ _ hq),S6 _ _ hA,S6 _ _ hB,aE.mono λb x=>S6.cU,#[qs,o6 _ _ a3,CI.mono λb x=>S6.cU],X5.mono o6,mw bM bC,λb z=>?_];obtain z|rfl|rfl|rfl|rfl|rfl|rfl|rfl|rfl:=z;erw[aq b (.inl z)];erw[cA];erw[aq _ (.inr (.inl rfl))];erw[aq _ (.inr (.inr (.inl rfl)))];erw[aq _ (.inr (.inr (.inr rfl)))];erw[cu];erw[bI];erw[cP];erw[ch]);let l6:ge (S0 ns rs cl).ls=0:=rfl;generalize S0 ns rs cl=s0 at d6 l6;generalize (rs.map λr=>bN r.d.toNat df)=bs0 at d6;generalize hb:AD.mk tp ln lr dk dx p q a0 b0 c0 ls lc AV us ns rs lq A=a at d6;obtain rfl:a.dk=dk:=(by rw[<- hb]);obtain rfl:a.q=q:=(by rw[<- hb]);obtain rfl:a.ls=ls:=(by rw[<- hb]);obtain rfl:a.lc=lc:=(by rw[<- hb]);obtain rfl:a.lq=lq:=(by rw[<- hb]);obtain rfl:a.ns=ns:=(by rw[<- hb]);obtain rfl:a.rs=rs:=(by rw[<- hb]);obtain rfl:a.cs=A:=(by rw[<- hb]);erw[a.lq,2,#[_,bJ.of (be _ _ d6.sq)],rJ (K:=K) (a:=a.lq) (xs:=a.cs.map fw) (λi Z H7=>∃(F7:du->Prop) (f:!(!Bool)) (cl:!(Nat×Nat)) (I:NS) (v6:Option V),uh K t.bf t.eV (nc t) a H7 F7 f cl f cl I/\ge I.ls<=i/\Z=[ac (.ref sc),ac (.ref a.q),ac (.int (ge a.ns:Nat)),ac (.ref a.lc),ac (.ref a.ls),ac (.ref a.dk),v6,de,de,de,de]) #[F,bs0,cl,s0,_,d6,52] (λi Z H7 _ z=>?_) ?_ ?_];let#[_,_,_,_,_,d,_]:=z;erw[bJ.of (be _ _ d.sq)];intro i y Z H7 Nf Cz Y ⟨F7,f,cl,I,v6,d7,l7,rfl⟩;let ak:=(ai.mp Y).1;rw[af] at ak;rw[ao,aa ak] at Y;ext Y;erw[13838,F7,a,f,cl,I,a.cs[i],2,d7,5,λF8 c3 cF s8 H8 d8 l8=>#[1,fP (Cz _ _ #[F8,c3,cF,s8,_,d8,52])]];intro Z H7 ⟨F7,f,cl,I,v6,d7,l7,rfl⟩;erw[u _ _ ?_];rw[af] at l7;let l7:ge I.ls<=40:=∅;let o:=d7.o;let n5:=d7.n5;let n1:=o.n1;let r8:=d7.s6.r8;let b1:I.ws=f.map gL:=(by let#[D,h,_]:=d7.s6.sk;erw[h.ws]);let cz:=d7.bl;let bj:∀r∈a.rs,1<=r.e/\r.e<=7:=λr ad=>#[(o.ok r ad).e1,(o.ok r ad).e7];let cy:=d7.ru;let cS:ge a.us=ge a.rs:=(by rw[cy.len,af]);erw[bY λNx u=>?_];erw[bL _,λlk aZ=>u _ _ ?_];let bF:¬F7 lk:=λz=>(by let#[o',e]:=d7.c6.there z;rw[aZ] at e;ext e);let u8:=aH.new (o:=.lst []) aZ;let bB:=ay (H:=H7) (a:=lk) (o:=.lst []);generalize upd H7 lk (.lst [])=H8 at u8 bB;erw[bY λNx u=>?_];erw[(3),rfl,!_,!_,wH (n:=(3:Int).toNat) (λi Z H9=>∃(F9:du->Prop) (S:NS) (mq:!du) (Ms:!(!Int)) (v8 v9:Option V),uh K t.bf t.eV (nc t) a H9 F9 f cl f cl S/\aH (Off H7 F7) (Off H9 F9)/\ge S.ls<=40/\S.ws=I.ws/\Off H9 F9 lk=ac (.lst (mq.map fx))/\MS (Off H9 F9) mq Ms/\(∀q∈mq,q≠lk)/\ge Ms=i/\(∀(g:Nat) M,Ms[g]?=ac M->Gr.Ae (gA a.rs (lN a.rs I.ws g)) (ge a.ns) M)/\(∀(g:Nat) o,g<i->RM.Rest (gW a.ns a.rs o I.ws g) (S.R g))/\Z=[ac (.ref sc),ac (.ref a.q),ac (.int (ge a.ns:Nat)),ac (.ref a.lc),ac (.ref a.ls),ac (.ref a.dk),v6,ac (.ref lk),v8,v9,de]) #[F7,I,[],[],33,d7.mono u8,iM u8,l7,2,mw bF bB,#[2,λi q t e=>by ext e],λq z=>(by ext z),2,λg M e=>(by ext e),λg o z=>ff z (qc _),2] ?_ ?_];intro i Z H9 Nf Cz Y ⟨F9,S,mq,Ms,v8,v9,d9,e9,l9,w9,a2,ap,nq,O,ar,Ss,rfl⟩;rw[cT];let bp:i<3:=Y;let b2:ge mq=i:=(by rw[ap.1];erw[O]);let bd:=be _ _ d9.sts.at_;let cR:((ge (a.AV.map fx):Nat):Int)=(ge a.rs:Int):=(by rw[af,d9.sts.len,cz]);let cN:bJ K H9 a.b0 (a.us.map fx):=bJ.of (be _ _ d9.rp);let ct:=be.cU d9.tl;erw[bY λNy Qs=>?_];erw[1,a.ls,1,.inl (bJ.of bd),((ge (a.AV.map fx):Nat):Int),255,λag ae=>?_];rw[cR];erw[fK (n:=((ge a.rs:Int)).toNat) (λj A _=>A=bA (pL a.rs (f.map gL) i j)) ae wB mU rfl ?_ ?_];(rintro j A NH J c C rfl x Kv ⟨rfl,rfl⟩;let aO:j<ge a.rs:=∅;let Cv:a.rs[j]?=ac a.rs[j]:=aa aO;let bh:f[j]?=ac f[j]:=aa ∅;let da:=d9.sts.len;let ak:a.AV[j]?=ac a.AV[j]:=aa ∅;let Yg:ge (bA (pL a.rs (f.map gL) i j))<eD:=(by rw[af];erw[bP (by let:=Fx a.rs (f.map gL) i j;lia)]);let eL:hQ a.rs (f.map gL) i j=(((gL f[j]).isEmpty.not)&&x6 (a.rs[j]).e i):=(by delta hQ;rw[Cv,ao,bh];rfl);let hq:xW (a.us.map fx) (j:Int)=ac (fx (a.us[j]'∅)):=cH (by rw[ao,aa];rfl);let cm:=be.cU (d9.ru.at' j (a.us[j]'∅) (a.rs[j]).vs (aa _) (by rw[ao,Cv];rfl));rw[cT];erw[38,dI (bJ.of (c _ _ bd)) (cH (by rw[ao,ak];rfl)) #[6,.inl (bJ.of (c _ _ (be _ _ (d9.sts.it j _ _ ak bh)))),2,adN _,14]];rw[eH aU,adM,Zy];cases es:gL f[j] with|nil=>erw[fP (gU J c C ?_)];rw[p5,eL,es];simp|cons y0 r0=>(erw[fZ ?_];erw[1,gf (c.cU ct) rfl #[1,dI (c.seq cN) hq (gf (c.cU cm) rfl #[162,(by show (0:Int)<=(i:Nat);lia),6284])]];rw[cQ,adL (bj _ (aB aO)).1 (bj _ (aB aO)).2 bp];cases eb:x6 a.rs[j].e i with|true=>erw[fZ #[1,dS ae J c C Yg ?_]];rw[p5,eL,es,eb];erw[(gy _ _).symm]|false=>erw[fP (gU J c C ?_)];rw[p5,eL,es,eb];simp));rintro A NH c C rfl;rw[cQ,show pL a.rs (f.map gL) i (ge a.rs)=lN a.rs S.ws i by rw[w9,b1]] at C;let cn:¬F9 ag:=λz=>(by let#[o',e]:=d9.c6.there z;rw[ae] at e;ext e);let mL:Off NH F9 ag=ac (.lst (bA (lN a.rs S.ws i))):=mw cn C;erw[Qs _ _ ?_];erw[bY λNy Qs=>?_];erw[3838,F9,a,f,cl,S,ag,i,2,d9.mono c,5,bp,mL,λs Kv B db m L aI X b3 cL=>#[1,fP (Qs _ _ ?_)]];let a6:=(iM (F:=F9) c).trans L;let aL:=L _ _ mL;let bg:=a6 _ _ a2;let YY:=ap.mono a6;let ba:B.ws=I.ws:=X.trans w9;rw[w9] at aL;let Eb:∀kk∈lN a.rs I.ws i,kk<ge a.rs:=mZ;let cw:=e9.trans a6;obtain⟨live,ax⟩:∃live,live=lN a.rs I.ws i:=#[1];rw[<- ax] at aL Eb;let as:bJ K Kv ag (bA live):=bJ.of (be _ _ aL);let cp:bJ K Kv a.b0 (a.us.map fx):=bJ.of (be _ _ m.rp);let cd:=be.cU m.tl;let l8:ge live<=8:=(by let:ge (pL a.rs I.ws i (ge a.rs))<=_:=Fx a.rs I.ws i (ge a.rs);rw[ax];erw[aJ this r8]);let br:=be _ _ bg;erw[1,.inl #[23,bJ.of br],38,ag,2,#[_,as],λU9 EW=>?_];erw[fK (n:=ge (bA live)) (λi A H6=>∃qs:!du,A=qs.map fx/\fE K H6 qs ((live.take i).map (AB a.rs))) EW (jC as) (fQ as) #[[],22,λi q x z=>(by ext z)] ?_ ?_];intro j A H6 J s6 C ⟨ps,rfl,ah⟩ x H7 ⟨rfl,hx⟩;let bu:=hx _ (s6.seq as);let bX:=J;rw[af] at J;rw[ao,aa J] at bu;ext bu;let hc:live[j]∈live:=aB J;let et:live.take (j+1)=live.take j++[live[j]]:=(by rw[fV,aa J];rfl);let hk:=Eb _ hc;let b4:AB a.rs live[j]=[fw (a.rs[live[j]]).a,fw (a.rs[live[j]]).b]:=(by delta AB;rw[rK hk]);let bO:ge ps=j:=(by rw[ah.len,af,bU];lia);let cv:=be.cU (m.ru.at' live[j] (a.us[live[j]]'∅) (a.rs[live[j]]).vs (aa _) (by rw[ao,aa hk];rfl));let Su:xW (a.us.map fx) ((live[j]:Nat):Int)=ac (.ref (a.us[live[j]]'∅)):=cH (by rw[ao,aa];rfl);let nw:¬(HT.n6 (ge (a.rs[live[j]]).vs) 0 de=0/\HT.n6 (ge (a.rs[live[j]]).vs) (ge (a.rs[live[j]]).vs) (ac 2)=ge (a.rs[live[j]]).vs):=λz=>ff z.2 (by show HT.n6 5 5 (ac 2)≠5;decide);erw[1,gf (s6.cU cd) rfl #[1,dI (s6.seq cp) Su #[16,s6.cU cv,nw,λz1 bV=>?_]]];rw[show Ac (a.rs[live[j]]).vs de (ac 2)=AB a.rs live[j] by rw[b4];rfl];let u1:=aH.new (o:=.tup (AB a.rs live[j])) bV;erw[dS EW bX (s6.trans u1) (u1 _ _ C) (by rw[af,bO];erw[bP ∅]) #[ps++[z1],by rw[aN];rfl,4]];let kt:∀b x,dH K _ b x->dH K (upd (upd H7 z1 (.tup (AB a.rs live[j]))) U9 (.lst (ps.map fx++[.ref z1]))) b x:=λb x=>dH.past (u1 _ _ C) jm cj;let:=fE.snoc (ah.mono λb x=>u1.cU) (dH.of ay);rw[et,aN];erw[this.mono kt];intro A a7 W C ⟨ps,rfl,ah⟩;rw[af,cX (aA _)] at ah;erw[ge a.ns,U9,ps,a.rs,live,2,bJ.of C,ah,5,o.ok,Eb,λlm M a9 Yc aM cb hM=>?_];let bn:=W.trans Yc;let bG:=m.mono bn;let aG:=iM (F:=s) bn;let aT:=aG _ _ bg;let bx:lm≠lk:=λe=>(by rw[e,W _ _ br] at aM;ext aM);let b5:¬s lm:=λz=>(by let#[o',e]:=(m.mono W).c6.there z;rw[aM] at e;ext e);let eu:=Ed (H:=a9) (F:=s) (o:=.lst (mq.map fx++[.ref lm])) (fG aT).1;let bv:aH (Off H7 F7) (Off (upd a9 lk (.lst (mq.map fx++[.ref lm]))) s):=λb v e=>(by rw[eu];erw[cj b v ((cw.trans aG) b v e) (aS (fG e).2 aZ)]);exists lk,62,(fG aT).2,by rw[af,b2];exact bP ∅,Cz _ _ #[s,B,mq++[lm],Ms++[M],33,d7.next (bG.c6.past aT jm) m.s6 bv,bv,5,ba,by rw[eu,ay,aN];rfl,#[by rw[az,az,YY.1];rfl,λj q v e1 U=>?_],λq bW=>(aR.mp bW).elim (nq q) λe=>by rw[aP.mp e];exact bx,by rw[az,O];rfl,λg M' e=>?_,λg o' hg=>?_,2];rw[eu];obtain e1|⟨ej,rfl⟩:=AS e1;let aw:=(ai.mp e1).1;rw[aW (by rw[<- YY.1];erw[aw])] at U;erw[cj _ _ (aG _ _ (YY.2 j q v e1 U)) (nq q (aD e1))];rw[ej,YY.1,bE (aA _),fB] at U;ext U;erw[cj _ _ (mw b5 cb) bx];obtain e|⟨ej,rfl⟩:=AS e;erw[ar g M' e];rw[ej,O,<- ax];erw[hM];by_cases z:g=i;subst z;rw[<- ba];erw[b3];rw[cL g z];erw[Ss g o' ∅];intro Z H9 ⟨F9,S,mq,Ms,v8,v9,d9,e9,l9,w9,a2,ap,nq,O,ar,Ss,rfl⟩;erw[u _ _ ?_];erw[bY λNx u=>?_];erw[1,a.dk,6,be _ _ d9.dk,24];erw[d9.said (cmd:=.run) trivial ∅ rfl λv c av NH dn st aj=>u _ _ ?_];let b7:=dn.ln;let#[kk,rn,cg,_]:=dn;let#[bk,co]:=rn.same;let b8:=iL st _ _ a2;let cx:=ap.mono (iL st);let aj:uh K t.bf t.eV (nc t) a NH av f cl f cl c:=aj;let ca:ge c.ls<=40:=(by rw[b7];show ge S.ls+0<=40;lia);rw[<- w9,<- bk] at ar;let Ss:∀(g:Nat) o,g<3->RM.Rest (gW a.ns a.rs o c.ws g) (c.R g):=λg o hg=>(by rw[bk,w9,co];erw[Ss g o hg]);let O:ge Ms=3:=O;let#[cq,c1,c2]:=aj.cc;let eq:ge cq=ge cl:=(by rw[c2.len,af]);let c5:=aj.c5;let NB:((ge (cq.map fx):Nat):Int)=(ge cl:Int):=(by rw[af,eq]);erw[bY λNx u=>?_];exists 1,a.lc,1,.inl (bJ.of (be _ _ c1)),((ge (cq.map fx):Nat):Int),25,by rw[af];lia,4;rw[NB];erw[wH (n:=((ge cl:Int)).toNat) (λi Z Kv=>∃(s:du->Prop) (B:NS) (a1:Option V),uh K t.bf t.eV (nc t) a Kv s f cl f cl B/\aH (Off NH av) (Off Kv s)/\ge B.ls<=40+6*i/\B.ws=c.ws/\B.R=c.R/\B.cps=[]/\Z=[ac (.ref sc),ac (.ref a.q),ac (.int (ge a.ns:Nat)),ac (.ref a.lc),ac (.ref a.ls),ac (.ref a.dk),v6,ac (.ref lk),v8,v9,a1]) #[av,c,_,aj,aH.refl _,ca,22,cg,2] ?_ ?_];intro i Z Kv Nf Cz Y ⟨s,B,a1,m,L,aI,X,aK,a5,rfl⟩;rw[cT];let Y:i<ge cl:=∅;erw[3838,s,a,f,cl,B,i,lk,mq,Ms,2,m,5,a5,Y,L _ _ b8,cx.mono L,O,(by rw[X];erw[ar]),(by rw[X,aK];erw[Ss]),λbw a7 W bq bZ dc bQ cE cr=>#[1,fP (Cz _ _ #[bw,W,_,bq,L.trans bZ,5,bQ.trans X,cE.trans aK,cr,2])]];intro Z Kv ⟨s,B,a1,m,L,aI,X,aK,a5,rfl⟩;erw[u _ _ ?_];rw[cQ] at aI;erw[1,a.dk,6,be _ _ m.dk,24];erw[m.said (cmd:=.flying) trivial ∅ rfl λv W bw a7 dn st bq=>?_];let#[rfl,rfl]:=dn;rw[a5];erw[2,Qp (↑_) (k _)]
end
theorem walk{l:PySem.W.OpenLaw}{q:ft}{b:!Str}{XP:(Str->Option dy)->Heap->Prop}{o:World->Heap->Prop}{d:DefRec}{K:Params->ah}(u:l.most=ac 63)(m:d.params.defaults=[])(j:d.name = "law")
 (B:∀(w:World)(h:Heap),o w h->(K w.params).In h)
 (F:∀(w:World)(i:Str->Option dy)(h:Heap),(K w.params).In h->h.Ns eI i->∃t,Txt (K w.params) i w t):
 PySem.W.WalkO q b XP o l.row.toRowW d [] (λf vs=>PySem.call f vs):=
 L2.aei (n:=63) (k:=13) (x:="_law_script") (CX:=λ_=>QN) (sp:=λw=>qr (K w.params)) u (!_) m #[rfl,!_,!_] B
  (λw i D h r G c=>by
   let#[t,T]:=F w i h r G;rw[j] at c;let e:=c.symm.trans T.XS.g;ext e;erw[t.agr,λs v=>?_,λp _ _=>Sc T];let#[_,_,_,_,_,_,_,_,_,e,_]:=T.XS.F.ex;rw[e];erw[.of_eq rfl])
  (λ_ _ a C A _ y=>#[a,C,2,y,A,λ_=>rfl]) λ_ _ _ _ _ z=>z
end fc
set_option hygiene false in
local macro_rules|`(#check $s:str)=>do
 let (_,_,a):=s.getString.foldl (λ(k,n,a) c=>let m:=n*90+c.toNat-35-2*(c.toNat/92);if k=9 then (0,0,a.push (Lean.mkIdent (.mkSimple ("tw"++toString m)))) else (k+1,m,a)) (0,0,Array.empty);`(structure PySem.W.Fast:Prop where($a*:True))
#check"34qGF4{D]4Oz/54)-W/W:<@j_H#>a^'/4tiKp$=3&1b,}NT]cqJg;Y)zfx2B07q&^<i&G7;XiGUJHQN3#<E?hZ;/v}#Iq&x1tbI^/FJD:<g)>5#EJ-O1GCGa53pCf;X@LW:f}*Iq,{UBO&1tD^k0zC:]D9?PGw=a4aTc_snPy-5{.?amBAZ5GA8)9U=&NBA/D*V/DkNE3zSCWKW84sGR&7mXOJG`(d244h7?oTB1OlF/k{3j.Rpr)9Gw?<%89=Zu$~)B,${*<G2#7~M)~7;zp<0@&d=k})Ztu0Ampv.akINmP}+:m3xI/e&&v@:3J*52,ZVDcN~'@?7t`48v2*uJMN`Z]nI0oF%Zg0j*U)1'5$3&y&G4,p,p~pC,ISq9C/wFzdKoFfO8>&41Hl/`;J#3:&,Q^}D-e#l2edjoFwOT7N(t*VC2iv8WxVI2(vZVZC2(uR:'O%%a@:FGQr.R`}?-|l)KpYW}>}#4'4.F?qJcVtIM1Pm_j{1`?|aZiGcg*P-AvA5$MV)M*G(~maP2<049*5x]NHEeOHbmxa?dH+<H;wc?%qaEM1)TMGk:>E:,--IC3NqaO61MK]>&4+&]0SQG4lk9*DO/S>n$`S-QcZpr;_ELIq}$}MBtup*ByQZJX{r9/k(yk=L0uVH96~&d%I^k#1bDHz:h8e)6N%%mweoh.~|iGshmEF.HF5G>iel?4O2=d)~=t&0{-5.8Y7_B0<cM*DBYuzM|4J<)E,EVILi_c).rd{N^NzR'x8)kMo5]EXukuO)4{p<})B>a?Y-Yk%U/6lBp^:m<w/,~?4f{b'o*Nu)I41)p4b'i<Le0BIfK{E7TpDA|ekuz4c1&;44KWU)]zi%<3X;i&BTj.)?cT3&N8W6S:;(Z@^r5?ze$oV6(kHg#?D,$/qqQHp0`J<2GUW&2P?}8>3Jw8xbbS`EqpwEpwZkFD81a}+:.ZWPmrs/3D'G(QnMF}z-:UL#yGQY/W(Qx5%M|&*n/j01Z#(T:-<'y;^{pa@H4|p5N2c8%pP:UKMYiO;@L^#C+1f(s&kvk-PtQ=ec#qu)LU.Dn*Jm`<M`fNi%?;07wRPR$Aa0l.ZZdfxvxK@L^D)fHd~:#16~Q2D}?al%bP1x->R(9;RfqOS@=vc7cVFt,cv)E.AE*sYr.X&=32it5F*h-D?t^cc6u0n0+MEqi5h,GM`Ni]TQX3;?oJ<b&}3}-QeH]A;*'ngMKm#X$`~v4*p*,j9WuDS#hv&;D%.?7=klh86Y*mGF@v4OMuR#l$nHE^V%I^o$BMpfY}+z)DQ1L4vZ*Lf4{{`{_W;h*P}O;FX}b+^*>usg:xYs>>S,8k0m%7''M75;QE6'?&+OQp_$k)z$j%KZwU-k$-Ss1)3(PR(G@wi1G(59/E;hsj-8sVDPb3(1gv]D26>9&oq?/`]8%F.?UkTZ=G+4xW%V?Zu=CsOAAf4Z|B%fa~Z'E'@Oa9SARJT(u;.i5`MZf,o/:<=<c=AKBJCy]nfk=3Y-2q,gei?`FE=VJ(/KG?;;`FFWkjU5:8v?h'&Av-/-toOy,30?3QJrmAugu?KC}%PF0bfey:fP/ZgW<?WFxa&Jq~?Z469&NJmLR~?#rgYAqQJ.m+Frh3*O.3t*m0{G1zkR#=q;LSxDDIFN'BNIim_GE3dQlh,]yX~5as?~Gt|2I,AH=1hzXD'D6@rc(4@dsEQYMDOAI3o:|}qvo@K')Ir0v%/u2ax'`.]+5m)P*=EX1r9j|eOFH,hC4r?^J.%KEY'@SfIQ6C5nUr6K#3#rGG6MWi|Nn7RM,T20V#9t?*KYy*Q'=2&i3(oUDLm*S]z8:l-Qjw8&ZLH^38^+s2urUn(=+C>&OdO?s/9QeZ)'#M@.2)#S$Y%%p(?{p@|E1??D,#pPdUQ96D'I'*WSZH)/s;~0~tw;)&`BhXnw8W(5g3od$XyKMAILrktEOq'*K$n%p'az0E<*HW{IyfpMt0':Dx4*.,qA?)%b@jx<Z(+:%0vBdD/EcpYYh9}@6/>O)~_{*FF3#Q{3T{y7oT.E9BPn(LXc+(]8em4J.Q+-QGj=~.Td8X5WoWx6y9UlYIL%9FYg?AXokz<5GHi<P)aR}M<2BhHZ<3C0Q{/EBxE4Q/kFM_F3JZ.8<CA2XP-YpGC]NmUbP2`'hbeUGgk$H$+B:Jp-'R$G{x~:]jlfo0f@U2R];oROe*,_W^|I%<(?wEOCg}:NCl@)Irmbf>9`JFt{B`M:&yU&@?`bi?aK'4?>y64H2>a/Sm:chJ6)*}R:zy)I=b]]A%uLt<</@ZsjSOo7Z8:e]4FCXNu<GmG'.f=:dDp?mc.Ra)>q8^jf]O_@Qul^H?o'R<:wYb0x]HjD:ARN@F,Bi@1f`hf++a~>hY2^7XELT0'eOl~38,:05CD&QL6e63n:Gn<26r|+4l'P'tU;aMJIKszX]mJ,U@n~y%&]98X_HM(d_M%:`v*JA>>AcM)gP~J;H`(?aB0`uvSXoG6yDFp.}k3/Y>o/4yz7<.C<C8mU=5J?=a5w/47AW/8t=`dq<l5=a%K{'%LmjGk4mH^R8wh:]]]GRBO19#j|3{P/].=D}gjXpE*td7)x<5#M,2|$#&g10U~VN27nBm)&q)(BN/yt~ASp#$T#w7$WMnWNfQkjYKU^o@en,'$R<n,(Z_JyV9f,Q7&ZX8?0#~6L?Fk7/@HxU&Zh/-hwAs(L]kdvN3G3PArI{z^i8~g*&9`@X]ln12'^Y~Cjx(>Kvl+Q5+AM@@Nja{D=7ZhOO/RPCScaUL29YUFuw-]=SK0J>Ml>X51&Lj4GZS]B|q.5$W0WfNuhM%KF&2S)z$wp$V$4,$u~x_}@}K*3RXDC?9XHp)AvksvoF^U;xc%/:zEx2LMg3r7lki<3h/jy:BbNi7rh2^*I}?IRL#:c(Gf0Z&Npm;V&073G?>j0iOL?91zU)mri_N_)f=WniL?ze$4&e7Qo|p./+Z>}HEleu*0d2~t5-L)#}c_c:wy*.0CH$V-K`QqPN>{2@j/^'-CTclZbubQGtDg0T(ekBQa4BD8IG`RD532C;y*6AJE<CD~O'Y@@-R3@zho_]/b^<>MXpP&*C/p2j+YVr-|bb^-FJmeC]^oZ&hBEo8<;=i>aghL>b^4n#:i:xN>(~#3B87*#fr{W<'SH)/]E<@$_IcXLuHROZ^UkO4LjV;iMVff6b:xr2r(#0N'<(p6PF6i7$ghd,hz$W'+dw>~^)3wMI|y/j{iqu0BC{4WeinVONiiMB>WH:=]dw;vtfQL5F;@(e:oyh$nrK&;k'6H'5zP_,j4Un?+#mxrVkyX7ZDN8{*#Q1?jPbPQoz*]CvbE?=p`F6Or?WheC%~t'I.r<;xO/e-Y1<?k2h%;-Rs~AKU_=yH9LY%,f;?KA%4QVs+TRo5mAh/6G&l]1fwM],9L-82^vH7d+-*}I:wTv?yFBq<2q`#4),xJ'+%mGJyj{|MrWaAd_=qw/xZoftuCTaA,eTuht%.i=x6S.6#.6QIOO(Rd^tfKG6o:x+Y.i(G8A?paXQ{_H/3bBrU6./1k$;$r&%%sI'>ZE#I65;*w)_S7IL{oN$aWa3HS%|KPkCfC'>3mRVBX]jl:/GNiypsTP=@y:;l}Ta}+*D5](+qjd'475]b{U>4mK&JM0.^V-aFsDy3QvKoQjm,xh%~sNiUSRCgoRF2(+k+36+H{Fr'.'>D<ps(KZy8eMFp}*)@`A`bzsOYuit;jF~LF2PJ70=0o{Yhg}KLrSDeRism$DJ$4;kB1D7GX`S:*C+i-KvN+/eNmh(0SYf,'Y(yM6uD02Z:yR5@`U_$I_v/O('T,c7M{LX&boZm/,Py=MvZKxKM%Gn4SotmeBw>+.S|,yg#e)TMUTJQGF*3;O4vznx3.T'5L)7T~OT'u5&0*#Qvanq9n>84.x@NZ*w*6OebIlc;^ZQ:RH;=t;rpK5F/DP0@;F*zr#o&a<r_1bq$?&+91CsOp_J9:1yW##/NaIR3l_?-Vihr=?Rax0]D~Ho;*D'8z,Gir4%&txSLo;s=^(ckyli^i41r$WNF<<$%W(pO;%nQ-;cw1ryw,6+LMymx^@v52Nj6v4~;6A.$<t.8V#OCzR<ukz0%MI.-ir{}KO-%S$kEDr`eZq(%uu{qj$6slLK7F52WiqkQ%y,;|01}4$i%N9h7^xfOYw7nlveP/7^<M:oQT1}:M<;:6/?RtKA~Z<=rJ.y6^3Xp.co=wM;f7n:=,2uCcp<}LYOIQDo7M6?ip=d$aI|dHUX54K2zhr1s=}03rfaQ&.n6*4on+$]t},-A@=?X|~~+xEe}@Tc5aknCnwoHh].'<=+*Q*MRfu,*{o-~rVg]%GoA`Q8cw{'/jjz-)/8Fy6t{c#=vu~%+1nFtYm$bw8wd9N;r<D.+gkvO:8_q&AW;QGjH,FV9bC=C@jun~5<:~T+Sf*W80.reI`7CH<'%tQEK5en2&Y)`2KgBv=(FZ~,@A=2DGI/8K~~Dp82+Xhr.1>+:}#s$2*ZsB8CGsp](6O13]Pk@adiAG)Gj-WQ`;6k;<H5c|oU{%R0]Wbog(N9O*a1oo7md=;o3RekJX'Y7VRF`<O;x?+h'RTL@TY'<t3RKYFdBI?6/]-<83p'Juce<|St`h5X3]hm~I).8VxoD;>WGf8gR3lhGS=f=+]Ek,QDt8KIpFX(.ep|+jFsF;v?gb0k&L|'sC,c1<9-b?4`-w*hY'uFE6*}:2<ZRr/{B2$:wl$piY>O3eUo&R>D7YM1&bRa]$0.5Y4wlc`3`S.9/aaQ@,i4,gpztkKiCVH1@*'oO_>06%8a#CB8VOC^gH}'CaRf'TU2ZMG$ob0Hydl(nVCT8T~AB+mecoA>FqB(bpa@Fc2~*r90(g;Ow5K?8fi)Lk3236#/Gz0J;1zW96nh+2@FnabRML19lTN|n6ca>;QYdql&|`'VK,y'9EsHQQ,px#QAPF.<M<i~?2gd,',Iqkp8qc##Er0%`1PpP:?yoBNZ}F-k54$g@mZ#$d-wVt76~_>8&NMcmnlv-<BMu:.*-g910r2Q'p3;7sb_sRCbuc@.r|h2DB2zAvMbZ~zX&R$wCk$u=99@@]<MNfft?@L$m~5Fx,{bFep00,*w2LCC5>;)Fx{sJY;9S8*=G{2R1eGx,;$v?`%>PG*+Dn*ZXXE)3wRaCRw=F*D|rJ<u:5`kI8672i4_l9sN2->{7vv58pPS$l76+dV_@d?xECm}i{Ps=Q)'r2`bEWIv_Fv<&,12LNJ&<P5$6T&DsJh#OX-M)3.IZ?I'RU-rR{6zLk(F4)rIx=FW5sC8I)u{#Q@X>B..L0aQ$q)4QwimO#@hB;'GGnO-A;;ow~k'|AexCxQ;e&3D_qFR=B|H(}rV@y|'u24C-'R;?Kl1*']KDl83:-+_q<%_YxFhM~.#)-,pEFZs=|9j/%0P_2Ki3<N|hA#3>y(31>-Yb.Zb7u_(-,_%|#Hg^V`6@v=$76LV?]IK4E:Nx:-b4y~0Fv3A^9nC1M:6@eHjWRm_4VAs%/?N:YMN:cD8#fry>}(c+XvrK&L:@0nC2.<*FTdW}N~0e@Mf%?fcuhVn+*f:B<:>PNJ=^|@Oa7rQH$MO5fYw'fI>WXU|1OIED%z?k?e*.76s}i?fMXkN>$#`ez.S<<NY-+$jV@oI/Y1=goZ:R<?NbG&l;xNb)4Fb/K/z0sPoT]RTTWo;*$WZyD{bb3*VS6nj36(QAoXbX/2`&v;v;a9&(.7bRFZ*40)NeoO3|B7B07,I*.{BCsv]hQ&Kuo<qpjC]2paiEWbFjF,b)u~b1|s]O(rZ`1LgNC)GW2W/QTL8Kt@y+#3;F6B>v4]Bs{I#:UiYLLd4pf?,2'Y]^W7)Q)2`h.KN.OM+M]Ch);J*@Y9l:,HjS7;JY/S:?_^N+B3B%Vi=B`7p'8kiP=`tOG~ML}*dCDM1ucaz@RC@>b6l~C13blPQTegL}}.H6'nv_8r&K<9#MUAL:aNr%mcdp)C^RM-)T2;u`umO*f=SA=s@/2E4l>Q+9%gI+/D3G}lcPo/H5x_7Ca%+MB?*H_ywhODJFF&{k.3dFPz&-hTrwJ+`UrBUZ.Yn68rCPjS.iORTsz6t,NPT/Z&;}.)TQ3GWY|(@WrJK9,<pK<TJr%GM`3dH1H|v4&SrOzw;e3A.qvB|Vx{,RR}-oNbU+YHiVG`ZH6=>>LK+*P/<2pM<I#80]a^D:WrOXk5jrq+0SXYLMr2~$J>h;c5rUL&z0L:o:p1GB]N8xQuD&C<tr}`t-D-{.;c_cC,0Q:L&^oOGu6?L6*AQw6Nj*X5@E4-B.*D]Buek@xDy=fQqXo-H#@kS;$=lBa,=VK=Ou|*}GArU'Fq?:i_km>1UcTfoVI_p$E&2P^tNzN>yRyr`^azQQG}?QF@sc~5tLu<D32-)C,>S6]M4uO8qRE^/io%D.4o`'sssGK'$JQGaTebz:Wu&,D2t})6$vru>DObG<]c@/T2(V`:-1?#D)%;)GpcKQ`UQ@+%HYVyBOl/MM,z?J'y|:Z=+w:1?hd3jAa4ACOOs^8OMmFxePOrJ?xl#rn-@N6>H+fd#le6gOrNam*/mHiEb6iuL/4i&OU-59uq84d:$N4%JCU%u4uC#Ox(irD//nSQ'UK#u#1&>N;p/Y|,RjUNQihhm*4?B,P)/j,EgX/L5FJ_n=]}~kZ5(wXLh1d'CM:{I?gi_.w1Sh<<+$.td#](kLW.6-MF(VpGcm@0:cj.),ON]q`sN<v*`n0cH:3FT@QIZo/SmhZIe@0Xw`rm863NS}1uGV$GxGtfiSAds:'sYC86i~p>k*,MU'-:d?wuR)|}cq~+ruudj(-1R4*Jo8Pqrau2fGrByOih;Is9S8%H(?f66Fq;P.>/h*T:>x`w>dS&Y/o7{3$W/$/Ank4C*NF8{%<7b8Tkh8B<~&wV4$G?3Q%;KU^`<&S@Z/lmPbs3jzA~m:4DjHfB;pdKH,}3GguM]OBG595s`20rM:/:F-pmJHO594#%37MefV36~@L7zh3GM*hUz`//pNj+M}ao-C&pT8y`/xpZL:h)*2s}L<4nX,V=.aEgl$r,wh1EN;^<EK<MK|cV5+E7SSZ4mxa7t>7ER9@<xypL-w0'gvQu`PyIqnNw.km7yr{Yv0g:l1W5Y.cY%a5Mqr4-@Wq8V%3Ir|_(va,$m()#5;%}?Lr76HF6GJ59AmI^|C}v|"
end
open PySem PySem.W PyProof.Rows
set_option maxRecDepth 100000 in
set_option maxHeartbeats 0 in
theorem PySem.Challenge.cw_knotless_k46_whole_from_text_to_answers_holds : PySem.Challenge.rw_knotless_k46_whole_from_text_to_answers.Holds := by
 w_on;o_law;k_head;(case hw=>w_witness2)
 k_fill
 refine fc.walk (l:=PySem.Challenge.rw_knotless_k46_whole_from_text_to_answers) rfl rfl rfl (fun w h Y=>PySem.W.kIn_of Y) ?F
 case F =>
  intro w mg h KX G
  apply fc.aiw KX G
  all_goals first|k_is|exact L2.Hx (by k_is) (by k_is) (by k_is) (by k_is) (by k_is)|exact L2.Xg KX G (by k_is) (by k_is) (by k_is) (by k_is)|exact L2.t7 (by k_is) (by k_is) (by k_is) (by k_is) (by k_is) (by k_is)|exact⟨by k_exc,by k_is,by k_is,by k_is,by k_is,by k_is,by k_is,by k_is,by k_is⟩|(refine' L2.aid ?l1 ?l2 ?l3 ?l4;(case l1=>k_is);(case l2=>decide);(case l3=>exact (.cons rfl rfl (.cons rfl rfl (.cons rfl rfl (.cons rfl rfl (.cons rfl rfl (.cons rfl rfl (.cons rfl rfl (.cons rfl rfl (.cons rfl rfl (.cons rfl rfl (.cons rfl rfl (.cons rfl rfl (.cons rfl rfl (.cons rfl rfl .nil)))))))))))))));(case l4=>decide +kernel))|exact L2.twE (by k_is)
