import PyProof.Rows.All
import Wide.All
import OpenK.AllK
import Wide.FinOn
import Lean
import PyProof.EqAt
import PyProof.EqKinds
import PyProof.TupleCall
import PySem.Challenge.RW_knotless_k30_story_of_a_letter_to_all
open List renaming getElem?_eq_getElem → aa, length_map → af, getElem?_eq_some_iff → aj, getElem?_map → aq, range → aB, getD_eq_getElem?_getD → aD, length_append → aH, map_append → aO, getElem_mem → aW, size_toArray → aZ, length_filter_le → br, mem_of_getElem? → bz, mem_map → bA, length_range → bC, mem_cons_of_mem → bP, mem_singleton → bX, length_take → b5, getElem?_append_right → cu, mem_append → cy, append_nil → cz, length_cons → cE, mem_cons → cF, map_cons → cG, getElem?_append_left → cH, mem_cons_self → cN, mem_filter → eV, mem_append_right → eW, map_congr_left → eX, length_set → eY, filterMap_cons → eZ, mem_range → fQ, lookup_cons → gn, map_map → gx, getElem?_range → iE, getElem?_eq_none → i0, length_drop → jg, append_assoc → jE, getElem?_drop → kE, filter_append → kG, take_succ_eq_append_getElem → k7, getElem?_of_mem → lG, nodup_cons → lJ, filter_cons_of_neg → mO, take_of_length_le → nD, range_succ → oV, foldl_cons → oW, nodup_nil → r8, take_length → sE, filter_cons → sF, lookup → sH, find?_cons → vI, filter_cons_of_pos → vJ, drop_of_length_le → xZ, getElem?_inj → yS, foldl_append → yT, any_eq_true → Br
open PySem.W renaming Frag → ah, fnOf → ak, findIn → au, keepIn → ay, codeIn → aA, nsIn → aM, mg_of → aQ, isFn → aT, hasDictIn → cV, mg_none_of → cX, kia_one → eU, plainGet → fk, plainOver → gw, emptyDict → iC, makesIn → iZ, instObj → lI, specialIn → qk, mroIn → vH
open Nat renaming le_refl → aK, le_trans → aX, zero_le → bJ, lt_of_lt_of_le → bL, ne_of_lt → bZ, lt_of_le_of_lt → cQ, add_le_add_left → dO, le_succ → iD, min_le_left → jK, sub_self → kD, add_le_add_right → lF, le_of_lt → oU, lt_irrefl → ql, le_succ_of_le → qm, le_add_right → Bq
open Bool renaming false_ne_true → aN, and_eq_true → fm, eq_iff_iff → oX
open Option.some renaming inj → aS
open PySem.F renaming plainAttrs_list → aY, type_list_append → bf, slot_list_append → bg
open Or renaming inl → be
open Option renaming some_ne_none → bq
open PySem renaming boot_len → bI, mem_of_lookup → sG
open Ne renaming symm → bW
open Int renaming emod_nonneg → cM, emod_lt_of_pos → cR, toNat_natCast → iF, zero_add → i6
open Sum renaming inl → iY
open Array renaming length_toList → jL, getElem?_eq_some_iff → qp
open ForInStep renaming yield → lK
open False renaming elim → lM
open True renaming intro → qj
open PyProof.Rows renaming slot_tuple_getitem → yR
set_option Elab.async false
set_option linter.all false
set_option maxRecDepth 100000
namespace L2
open PySem PySem.Spec PyProof.Rows
noncomputable abbrev Key:=Sum Int Str
noncomputable def VY:Key→Value→Bool
 | .inl k,v=>Value.isInt k v
 | .inr x,v=>Value.isStrOf x v
noncomputable def aqx(w:World):Key→Int
 | .inl k=>hashInt k
 | .inr x=>hashStr w x
theorem ji:∀ {k:Key} {v:Value},VY k v=true→(∃ i t,k=iY i∧v=Value.int i t)∨(∃ x t,k=Sum.inr x∧v=Value.str x t)
 | .inl i,v,h=>by
  obtain⟨t,e⟩:=Value.isInt_shape (k:=i) (v:=v) h
  exact .inl ⟨i,t,rfl,e⟩
 | .inr x,v,h=>by
  obtain⟨t,e⟩:=Value.isStrOf_shape (x:=x) (v:=v) h
  exact .inr ⟨x,t,rfl,e⟩
theorem adV(i:Int)(t:Tok):VY (.inl i) (.int i t)=true:=by simp[VY,Value.isInt]
theorem adW(x:Str)(t:Tok):VY (.inr x) (.str x t)=true:=by simp[VY,Value.isStrOf]
theorem akq(a b:Int):decide ((iY a:Key)=iY b)=(a == b):=by
 by_cases e:a=b
 ·subst e; simp
 ·have h:¬ (iY a:Key)=iY b:=fun q=>e (Sum.inl.inj q)
  rw[decide_eq_false h]
  exact (beq_eq_false_iff_ne.mpr e).symm
theorem akr(a b:Str):decide ((Sum.inr a:Key)=Sum.inr b)=decide (a=b):=by
 by_cases e:a=b
 ·subst e; simp
 ·have h:¬ (Sum.inr a:Key)=Sum.inr b:=fun q=>e (Sum.inr.inj q)
  rw[decide_eq_false h,decide_eq_false e]
theorem aks(a:Int)(b:Str):decide ((iY a:Key)=Sum.inr b)=false:=decide_eq_false (fun q=>nomatch q)
theorem akt(a:Str)(b:Int):decide ((Sum.inr a:Key)=iY b)=false:=decide_eq_false (fun q=>nomatch q)
noncomputable def jH(prog:Program)(w:World):PySem.KeyKind prog w Key where
 is:=VY
 hash:=aqx w
 inj:=fun v a b ha hb=>by
  rcases ji ha with ⟨i,t,rfl,rfl⟩ | ⟨x,t,rfl,rfl⟩
  ·rcases ji hb with ⟨j,u,rfl,e⟩ | ⟨y,u,rfl,e⟩
   ·injection e with e1 _; rw[e1]
   ·exact nomatch e
  ·rcases ji hb with ⟨j,u,rfl,e⟩ | ⟨y,u,rfl,e⟩
   ·exact nomatch e
   ·injection e with e1 _; rw[e1]
 byValue:=fun k v h=>by
  rcases ji h with ⟨i,t,rfl,rfl⟩ | ⟨x,t,rfl,rfl⟩ <;> rfl
 pyHash:=fun hv h=>by
  rcases ji hv with ⟨i,t,rfl,rfl⟩ | ⟨x,t,rfl,rfl⟩
  ·exact wpAny_pyHash_int h
  ·exact wpAny_pyHash_str h
 eqBool:=fun hu hv h=>by
  rcases ji hu with ⟨i,t,rfl,rfl⟩ | ⟨x,t,rfl,rfl⟩
  ·rcases ji hv with ⟨j,u,rfl,rfl⟩ | ⟨y,u,rfl,rfl⟩
   ·rw[akq] at h; exact wpAny_eqBool_int h
   ·rw[aks] at h; exact SeqAt.EqAt.int_str i t y u _ _ _ _ h
  ·rcases ji hv with ⟨j,u,rfl,rfl⟩ | ⟨y,u,rfl,rfl⟩
   ·rw[akt] at h; exact SeqAt.EqAt.str_int x t j u _ _ _ _ h
   ·rw[akr] at h; exact wpAny_eqBool_str h
 «strs»:=fun k x t v h=>by
  rcases ji h with ⟨i,u,rfl,e⟩ | ⟨y,u,rfl,e⟩
  ·exact nomatch e
  ·injection e with e1 _
   subst e1
   cases v <;> rfl
theorem Y6(prog:Program)(w:World)(i:Int)(t:Tok):(jH prog w).is (.inl i) (.int i t)=true:=adV i t
theorem Y7(prog:Program)(w:World)(x:Str)(t:Tok):(jH prog w).is (.inr x) (.str x t)=true:=adW x t
end L2
namespace L2
open PySem PySem.Spec PyProof.Rows
inductive V where
 | iu | bl (b:Bool) | int (i:Int) | str (x:Str) | byt (b:Array UInt8) | flt (b:UInt64) | ref (a:Addr) | ty (n:String)
 deriving DecidableEq
noncomputable def RelV:V→Value→Prop
 | .iu,u=>u=Value.none
 | .bl b,u=>u=Value.bool b
 | .int i,u=>∃ t,u=Value.int i t
 | .str x,u=>∃ t,u=Value.str x t
 | .byt b,u=>∃ t,u=Value.bytes b t
 | .flt b,u=>∃ t,u=Value.float b t
 | .ref a,u=>u=Value.ref a
 | .ty n,u=>u=Value.type n
noncomputable abbrev cP:List V→List Value→Prop:=Paired RelV
theorem cP.length{xs:List V}{us:List Value}(r:cP xs us):xs.length=us.length:=Paired.length r
theorem cP.get:∀ {xs:List V} {us:List Value} {i:Nat} {x:V},cP xs us→xs[i]?=some x→∃ u,us[i]?=some u∧RelV x u
 | _,_,_,_,.nil,e=>by simp at e
 | _,_,0,_,.cons r _,e=>by simp at e; subst e; exact⟨_,rfl,r⟩
 | _,_,i + 1,x,.cons _ t,e=>by
  obtain⟨u,h1,h2⟩:=cP.get (i:=i) (x:=x) t (by simpa using e)
  exact⟨u,by simpa using h1,h2⟩
theorem cP.set{x:V}{u:Value}(r:RelV x u):∀ {xs:List V} {us:List Value} (i:Nat),cP xs us→cP (xs.set i x) (us.set i u)
 | _,_,_,.nil=>.nil
 | _,_,0,.cons _ t=>.cons r t
 | _,_,i + 1,.cons q t=>.cons q (cP.set r i t)
theorem cP.append:∀ {xs ys:List V} {us ws:List Value},cP xs us→cP ys ws→cP (xs++ys) (us++ws)
 | _,_,_,_,.nil,s=>s
 | _,_,_,_,.cons r t,s=>.cons r (cP.append t s)
theorem cP.take:∀ {xs:List V} {us:List Value} (n:Nat),cP xs us→cP (xs.take n) (us.take n)
 | _,_,0,_=>.nil
 | _,_,_ + 1,.nil=>.nil
 | _,_,n + 1,.cons r t=>.cons r (cP.take n t)
theorem cP.drop:∀ {xs:List V} {us:List Value} (n:Nat),cP xs us→cP (xs.drop n) (us.drop n)
 | _,_,0,r=>r
 | _,_,_ + 1,.nil=>.nil
 | _,_,n + 1,.cons _ t=>cP.drop n t
noncomputable def HB:Option V→Option Value→Prop
 | some v,some u=>RelV v u
 | none,none=>True
 | _,_=>False
noncomputable def KV{κ:Type}:List (κ × V)→List (κ × Value)→Prop:=Paired fun (p:κ × V) (q:κ × Value)=>p.1=q.1∧RelV p.2 q.2
noncomputable def kV:Key→V
 | .inl i=>.int i
 | .inr x=>.str x
inductive HO where
 | lst (xs:List V)
 | tup (xs:List V)
 | dK (kvs:List (Key × V)) | dT (kvs:List (List Key × V))
 | set (S:Int→Bool) (n:Nat)
 | ins (C dx:Addr) (fs:List (Str × V))
 | own (x:Addr)
 | xd (fs:List (Str × V))
 | met (f x:Addr)
 | rng (lo hi:Int)
 | Y8 (o:Obj) (u:HO)
 | tbl (ps:Array Value)
 | ext (φ:Heap→Prop)
noncomputable abbrev Hp:=Addr→Option HO
noncomputable def upd(H:Hp)(a:Addr)(o:HO):Hp:=fun b=>if b=a then some o else H b
theorem aF{H:Hp}{a:Addr}{o:HO}:upd H a o a=some o:=by unfold upd; rw[if_pos rfl]
theorem aP{H:Hp}{a b:Addr}{o:HO}(h:b≠a):upd H a o b=H b:=by unfold upd; rw[if_neg h]
theorem WE{H:Hp}{a:Addr}{o u:HO}:upd (upd H a o) a u=upd H a u:=by
 funext b; unfold upd; split <;> rfl
theorem C8{H:Hp}{a b:Addr}{o u:HO}(h:H a=some o)(h':H b=some u)(d:o≠u):a≠b:=by
 intro e; subst e; rw[h] at h'; exact d (aS h')
theorem aR{H:Hp}{a b:Addr}{o:HO}(h:H a=some o)(h':H b=none):a≠b:=by
 intro e; subst e; rw[h] at h'; cases h'
section
variable(P:Program)(w:World)
noncomputable def je(H:Hp)(h:Heap)(a:Addr):HO→Prop
 | .lst xs=>xs.length≤sizeLine∧∃ (its:List Value) (n:Nat),cP xs its∧h.get? a=some { cls:=.type "list",data:=.seq its.toArray n }
 | .tup xs=>xs.length≤sizeLine∧∃ its:List Value,cP xs its∧IsTup h a its.toArray
 | .dK kvs=>kvs.length≤sizeLine∧(a == sysModules)=false∧∃ vs,KV kvs vs∧h.DictOf (jH P w) a vs
 | .dT kvs=>kvs.length≤sizeLine∧(a == sysModules)=false∧∃ xs:List (List Key × Addr × Value),
  Paired (fun (p:List Key × V) (q:List Key × Addr × Value)=>p.1=q.1∧H q.2.1=some (.tup (p.1.map kV))∧RelV p.2 q.2.2) kvs xs ∧
  ∃ o es ep,h.get? a=some o∧o.ExactDict∧o.data = .dict es ep∧es.toList=xs.map (entryOfKey (tupleKind (jH P w)))∧(xs.map (·.1)).Nodup
 | .set S n=>h.SetOf (intKind P w) a S n
 | .ins C dx fs=>H dx=some (.own a)∧fs.length≤1000∧dx≠a∧h.get? a=some (lI C dx) ∧
  ∃ mA,h.Ns1 dx mA∧(∀ f,HB (fs.lookup f) (mA f))∧PySem.Within mA (fs.map (·.1))
 | .own _=>∃ o,h.get? a=some o
 | .xd fs=>∃ mA,h.Ns1 a mA∧∀ f,HB (fs.lookup f) (mA f)
 | .rng lo hi=>∃ t u v,h.get? a=some { cls:=.type "range",data:=.fields #[.int lo t,.int hi u,.int 1 v] }
 | .Y8 o u=>h.get? a=some o∧je H h a u
 | .tbl ps=>h.get? a=some { cls:=.none,data:=.fields ps }
 | .met f x=>h.get? a=some (PySem.W.methodObj (.ref f) (.ref x))
 | .ext φ=>φ h∧(∃ o,h.get? a=some o)∧∀ h1 h2:Heap,φ h1→(∀ o,h1.get? a=some o→h2.get? a=some o)→φ h2
noncomputable def D4(H:Hp)(h:Heap):Prop:=∀ a o,H a=some o→je P w H h a o
end
section
variable{P:Program}{w:World}{H H':Hp}{h h':Heap}{a:Addr}{o:HO}
theorem je.lt(x:je P w H h a o):a < h.objs.size:=by
 cases o with
 | lst xs=>obtain⟨_,_,_,_,e⟩:=x; exact Heap.lt_size e
 | tup xs=>obtain⟨_,_,_,p⟩:=x; exact p.lt
 | dK kvs=>obtain⟨_,_,_,_,o,_,_,e,_⟩:=x; exact Heap.lt_size e
 | dT kvs=>obtain⟨_,_,_,_,o,_,_,e,_⟩:=x; exact Heap.lt_size e
 | set S n=>obtain⟨o,_,_,_,e,_⟩:=x; exact Heap.lt_size e
 | ins C dx fs=>obtain⟨_,_,_,e,_⟩:=x; exact Heap.lt_size e
 | own y=>obtain⟨_,e⟩:=x; exact Heap.lt_size e
 | xd fs=>obtain⟨_,⟨_,_,_,e,_⟩,_⟩:=x; exact Heap.lt_size e
 | rng lo hi=>obtain⟨_,_,_,e⟩:=x; exact Heap.lt_size e
 | Y8 ob u=>obtain⟨e,_⟩:=x; exact Heap.lt_size e
 | tbl ps=>exact Heap.lt_size (show h.get? a=some _ from x)
 | met f y=>exact Heap.lt_size (show h.get? a=some _ from x)
 | ext φ=>obtain⟨_,⟨_,e⟩,_⟩:=x; exact Heap.lt_size e
theorem Paired.akv{α β:Type}{F G:α→β→Prop}:∀ {l₁:List α} {l₂:List β},Paired F l₁ l₂→(∀ a b,F a b→G a b)→Paired G l₁ l₂
 | _,_,.nil,_=>.nil
 | _,_,.cons r t,f=>.cons (f _ _ r) (Paired.akv t f)
theorem je.stay(x:je P w H h a o)(k:∀ b u,(b=a∨H b=some (.own a))→h.get? b=some u→h'.get? b=some u)
 (ho:∀ b,H b=some (.own a)→H' b=some (.own a)) (ht:∀ b xs,H b=some (.tup xs)→H' b=some (.tup xs)):je P w H' h' a o:=by
 induction o with
 | lst xs=>obtain⟨z,its,n,r,e⟩:=x; exact⟨z,its,n,r,k _ _ (.inl rfl) e⟩
 | tup xs=>obtain⟨z,its,r,ob,e,c⟩:=x; exact⟨z,its,r,ob,k _ _ (.inl rfl) e,c⟩
 | dK kvs=>obtain⟨z,y,vs,r,ob,es,ep,e,c⟩:=x; exact⟨z,y,vs,r,ob,es,ep,k _ _ (.inl rfl) e,c⟩
 | dT kvs =>
  obtain⟨z,y,xs,r,ob,es,ep,e,c⟩:=x
  exact⟨z,y,xs,Paired.akv r fun p q z=>⟨z.1,ht _ _ z.2.1,z.2.2⟩,ob,es,ep,k _ _ (.inl rfl) e,c⟩
 | set S n=>obtain⟨ob,es,ep,t,e,c⟩:=x; exact⟨ob,es,ep,t,k _ _ (.inl rfl) e,c⟩
 | ins C dx fs =>
  obtain⟨d,z,ne,e,mA,⟨od,es,ep,e2,c⟩,r⟩:=x
  exact⟨ho _ d,z,ne,k _ _ (.inl rfl) e,mA,⟨od,es,ep,k _ _ (.inr d) e2,c⟩,r⟩
 | own y=>obtain⟨ob,e⟩:=x; exact⟨ob,k _ _ (.inl rfl) e⟩
 | xd fs=>obtain⟨mA,⟨od,es,ep,e,c⟩,r⟩:=x; exact⟨mA,⟨od,es,ep,k _ _ (.inl rfl) e,c⟩,r⟩
 | rng lo hi=>obtain⟨t,u,v,e⟩:=x; exact⟨t,u,v,k _ _ (.inl rfl) e⟩
 | Y8 ob u ih=>obtain⟨e,q⟩:=x; exact⟨k _ _ (.inl rfl) e,ih q⟩
 | tbl ps =>
  have e:h.get? a=some { cls:=.none,data:=.fields ps }:=x
  show h'.get? a=some { cls:=.none,data:=.fields ps }
  exact k a _ (.inl rfl) e
 | met f y =>
  have e:h.get? a=some (PySem.W.methodObj (.ref f) (.ref y)):=x
  show h'.get? a=some (PySem.W.methodObj (.ref f) (.ref y))
  exact k a _ (.inl rfl) e
 | ext φ=>obtain⟨p,⟨o,e⟩,st⟩:=x; exact⟨st _ _ p fun o q=>k _ _ (.inl rfl) q,⟨o,k _ _ (.inl rfl) e⟩,st⟩
theorem D4.lt(x:D4 P w H h)(e:H a=some o):a < h.objs.size:=(x a o e).lt
theorem D4.fresh(x:D4 P w H h)(e:h.objs.size≤a):H a=none:=by
 cases q:H a with
 | none=>rfl
 | some u=>exact absurd (bL (x.lt q) e) (ql _)
theorem D4.kept(x:D4 P w H h)(k:∀ b u,h.get? b=some u→h'.get? b=some u):D4 P w H h':=fun a o e =>
 (x a o e).stay (fun b u _ q=>k b u q) (fun _ q=>q) fun _ _ q=>q
theorem D4.laid(x:D4 P w H h)(k:∀ b u,h.get? b=some u→h'.get? b=some u)(hp:h.objs.size≤a)(new:je P w (upd H a o) h' a o):D4 P w (upd H a o) h':=fun b u e=>by
 have hn:=x.fresh hp
 by_cases hb:b=a
 ·subst hb; rw[aF] at e; cases e; exact new
 ·rw[aP hb] at e
  exact (x b u e).stay (fun c v _ q=>k c v q) (fun c q=>by rw[aP (aR q hn)]; exact q) fun c xs q=>by rw[aP (aR q hn)]; exact q
end
noncomputable def Rd(H:Hp)(a:Addr)(u:HO):Prop:=H a=some u∨∃ o,H a=some (.Y8 o u)
theorem Rd.ok{P:Program}{w:World}{H:Hp}{h:Heap}{a:Addr}{u:HO}(r:Rd H a u)(x:D4 P w H h):je P w H h a u:=by
 rcases r with r | ⟨o,r⟩
 ·exact x a u r
 ·obtain⟨_,q⟩:=x a _ r
  exact q
noncomputable def Mut:Option HO→Prop
 | some (.lst _)=>True
 | some (.dK _)=>True
 | some (.dT _)=>True
 | some (.set _ _)=>True
 | some (.ins _ _ _)=>True
 | some (.ext _)=>True
 | _=>False
section
variable{P:Program}{w:World}{H:Hp}{h h':Heap}{x e:Addr}{o':HO}
theorem D4.write(ok:D4 P w H h)(mu:Mut (H x))(he:e=x∨H e=some (.own x))(k:∀ b u,b≠e→h.get? b=some u→h'.get? b=some u)(heo:∃ u,h'.get? e=some u)
 (new:je P w (upd H x o') h' x o'):D4 P w (upd H x o') h':=fun b u q=>by
 have anl:∀ c y,H c=some (.own y)→c≠x:=fun c y r z=>by subst z; rw[r] at mu; exact mu
 have aqy:∀ c xs,H c=some (.tup xs)→c≠x:=fun c xs r z=>by subst z; rw[r] at mu; exact mu
 by_cases hb:b=x
 ·subst hb; rw[aF] at q; cases q; exact new
 ·rw[aP hb] at q
  by_cases hbe:b=e
  ·have q':H b=some (.own x):=by
    rcases he with z | z
    ·exact absurd (hbe.trans z) hb
    ·rw[hbe]; exact z
   rw[q] at q'; cases q'
   obtain⟨v,hv⟩:=heo
   exact⟨v,by rw[hbe]; exact hv⟩
  ·refine (ok b u q).stay (fun c v hc r=>k c v ?_ r) (fun c r=>by rw[aP (anl c b r)]; exact r) fun c xs r=>by rw[aP (aqy c xs r)]; exact r
   rcases hc with rfl | hc
   ·exact hbe
   ·rintro rfl
    rcases he with z | z
    ·exact anl c b hc z
    ·rw[hc] at z; cases z; exact hb rfl
end
structure Un(fs ex:List Addr)(H H':Hp)(h h':Heap):Prop where
 keep:∀ b o,h.get? b=some o→H b=none→b ∉ fs→b ∉ ex→h'.get? b=some o
 slot:∀ b o,h.get? b=some o→H b=none→b∈fs→b ∉ ex→∃ sl,h'.get? b=some { o with slots:=sl }
 free:∀ b o,h.get? b=some o→H b=none→b ∉ ex→H' b=none
 there:∀ b o,h.get? b=some o→b ∉ ex→∃ o',h'.get? b=some o'
 tups:∀ b xs,H b=some (.tup xs)→H' b=some (.tup xs)
 KI:∀ b o u,H b=some (.Y8 o u)→H' b=some (.Y8 o u)
 Mt:∀ b ps,H b=some (.tbl ps)→∃ more,H' b=some (.tbl (ps++more))
section
variable{fs fs' ex ex':List Addr}{H H1 H2:Hp}{h h1 h2 h':Heap}{a x e:Addr}{o:HO}
theorem Un.any(u:Un fs ex H H1 h h1){b:Addr}{ob:Obj}(q:h.get? b=some ob)(n:H b=none)(hx:b ∉ ex):∃ sl,h1.get? b=some { ob with slots:=sl }:=by
 by_cases hb:b∈fs
 ·exact u.slot b ob q n hb hx
 ·exact⟨ob.slots,u.keep b ob q n hb hx⟩
theorem Un.trans(a:Un fs ex H H1 h h1)(b:Un fs ex H1 H2 h1 h2):Un fs ex H H2 h h2 where
 keep:=fun c ob q n hc hx=>b.keep c ob (a.keep c ob q n hc hx) (a.free c ob q n hx) hc hx
 slot:=fun c ob q n hc hx=>by
  obtain⟨sl,e1⟩:=a.slot c ob q n hc hx
  obtain⟨sl',e2⟩:=b.slot c _ e1 (a.free c ob q n hx) hc hx
  exact⟨sl',e2⟩
 free:=fun c ob q n hx=>by
  obtain⟨o',e1⟩:=a.there c ob q hx
  exact b.free c o' e1 (a.free c ob q n hx) hx
 there:=fun c ob q hx=>by
  obtain⟨o',e1⟩:=a.there c ob q hx
  exact b.there c o' e1 hx
 tups:=fun c xs q=>b.tups c xs (a.tups c xs q)
 KI:=fun c ob xs q=>b.KI c ob xs (a.KI c ob xs q)
 Mt:=fun c ps q=>by
  obtain⟨m1,e1⟩:=a.Mt c ps q
  obtain⟨m2,e2⟩:=b.Mt c _ e1
  exact⟨m1++m2,by rw[e2,Array.append_assoc]⟩
theorem Un.kept(k:∀ b u,h.get? b=some u→h'.get? b=some u):Un fs ex H H h h' :=
 ⟨fun b ob q _ _ _=>k b ob q,fun b ob q _ _ _=>⟨ob.slots,k b ob q⟩,fun _ _ _ n _=>n,fun b ob q _=>⟨ob,k b ob q⟩,fun _ _ q=>q,fun _ _ _ q=>q,fun _ ps q=>⟨#[],by rw[q]; simp⟩⟩
theorem Un.refl:Un fs ex H H h h:=Un.kept fun _ _ q=>q
theorem Un.laid(k:∀ b u,h.get? b=some u→h'.get? b=some u)(hp:h.objs.size≤a)(hn:H a=none):Un fs ex H (upd H a o) h h' where
 keep:=fun b u q _ _ _=>k b u q
 slot:=fun b u q _ _ _=>⟨u.slots,k b u q⟩
 free:=fun b u q n _=>by rw[aP (bZ (bL (Heap.lt_size q) hp))]; exact n
 there:=fun b u q _=>⟨u,k b u q⟩
 tups:=fun b xs q=>by rw[aP (aR q hn)]; exact q
 KI:=fun b u xs q=>by rw[aP (aR q hn)]; exact q
 Mt:=fun b ps q=>⟨#[],by rw[aP (aR q hn),q]; simp⟩
theorem Un.write(mu:Mut (H x))(he:e=x∨H e=some (.own x))(k:∀ b u,b≠e→h.get? b=some u→h'.get? b=some u)(heo:∃ u,h'.get? e=some u):Un fs ex H (upd H x o) h h':=by
 have hx:∀ b,H b=none→b≠x:=fun b n z=>by subst z; rw[n] at mu; exact mu
 have hb:∀ b,H b=none→b≠e:=fun b n z=>by
  subst z
  rcases he with r | r
  ·exact hx b n r
  ·rw[n] at r; cases r
 have hm:∀ b u,H b=some u→¬ Mut (some u)→b≠x:=fun b u q nm z=>by subst z; rw[q] at mu; exact nm mu
 refine⟨fun b u q n _ _=>k b u (hb b n) q,fun b u q n _ _=>⟨u.slots,k b u (hb b n) q⟩,fun b u q n _=>by rw[aP (hx b n)]; exact n,fun b u q _=>?_,
  fun b xs q=>by rw[aP (hm b _ q fun z=>z)]; exact q,fun b u xs q=>by rw[aP (hm b _ q fun z=>z)]; exact q,fun b ps q=>⟨#[],by rw[aP (hm b _ q fun z=>z),q]; simp⟩⟩
 by_cases hbe:b=e
 ·subst hbe; exact heo
 ·exact⟨u,k b u hbe q⟩
end
noncomputable def trk(h:Heap)(H:Hp):List Addr:=(aB h.objs.size).filter fun a=>(H a).isSome
noncomputable def WG(h:Heap)(H:Hp):Heap:=PySem.W.hideAll h (trk h H)
theorem adX(h:Heap)(H:Hp):(WG h H).objs.size=h.objs.size:=PySem.W.hideAll_size _ _
theorem afd{h:Heap}{H:Hp}{b:Addr}{o:Obj}(e:h.get? b=some o)(n:H b=none):(WG h H).get? b=some o :=
 PySem.W.hideAll_get _ e fun hm=>by
  have q:(H b).isSome=true:=(eV.mp hm).2
  rw[n] at q; simp at q
theorem ahU{h:Heap}{H:Hp}{b:Addr}{o:Obj}(e:(WG h H).get? b=some o):h.get? b=some o∧H b=none:=by
 have e':h.get? b=some o:=PySem.W.of_hideAll (trk h H) e
 refine⟨e',?_⟩
 cases q:H b with
 | none=>rfl
 | some x =>
  have hm:b∈trk h H:=eV.mpr ⟨fQ.mpr (Heap.lt_size e'),by simp[q]⟩
  have z:(WG h H).get? b=none:=PySem.W.hideAll_none (trk h H) hm
  rw[z] at e; cases e
noncomputable def ahV(g h:Heap)(L:Addr):List (Addr × Obj):=(aB h.objs.size).filterMap fun a=>if a=L∨(g.get? a).isSome=true then none else (h.get? a).map fun o=>(a,o)
noncomputable def rest(g h:Heap)(L d:Addr):List (Addr × Obj):=(ahV g h L).filter fun p=>decide (p.1≠d)
end L2
namespace L2
open PySem PySem.Spec PyProof.Rows
structure Mod(K:ah)(mg:Str→Option Value)(base:Heap):Prop where
 kin:K.In base
 glob:base.Ns mainGlobals mg
 blt:∃ mb,base.Ns builtinsNs mb∧∀ x:Str,x≠"__name__" → mb x=bootBuiltins x
 nolimit:base.NoLimit
structure Cx where
 prog:Program
 w:World
 K:ah
 mg:Str→Option Value
 base:Heap
 A:Around
 N:List Str
 s₀:Shared
 H₀:Hp
 env:Env
 outer:List Env
 stack:List Env
 ex:List Addr
 fn:Str→Bool
 calm:Bool
 pn:List (Addr × Obj)
 xe:Value→Shared→Prop
noncomputable def frs(l:List Env):List Addr:=l.filterMap (·.frame)
noncomputable abbrev Cx.fs(X:Cx):List Addr:=frs X.outer
noncomputable def Vis(sc:Scope)(x:Str):Prop:=sc.names.lookup x=some .local∨sc.names.lookup x=some .cell∨sc.names.lookup x=some .free
noncomputable def Loc(sc:Scope)(x:Str):Prop:=sc.names.lookup x=some .local∨sc.names.lookup x=some .cell
noncomputable def Look(env:Env)(h:Heap)(m:Str→Option Value)(x:Str)(u:Value):Prop :=
 (env.kindOf x=some .local∧m x=some u)∨((env.kindOf x=some .cell∨env.kindOf x=some .free)∧∃ c,env.cells.lookup x=some c∧h.IsCell c (some u))
structure Cx.Ok(X:Cx):Prop where
 mod:Mod X.K X.mg X.base
 kind:X.env.scope.kind = .function
 glob:X.env.globals=mainGlobals
 blt:X.env.builtins=builtinsNs
 above:X.s₀.heap.objs.size≤X.env.locals
 inj:∀ x y c,X.env.cells.lookup x=some c→X.env.cells.lookup y=some c→x=y
 has:∀ x,(X.env.kindOf x=some .cell∨X.env.kindOf x=some .free)→∃ c,X.env.cells.lookup x=some c
 cab:∀ x c,X.fn x=true→X.env.cells.lookup x=some c→X.s₀.heap.objs.size≤c
 hd:X.calm=true→X.A.handled=none
 frames:X.A.frames=some X.stack
 stk:X.stack=X.outer∨(X.stack=X.env :: X.outer∧X.env.frame=some X.env.locals)
 exf:∀ b∈X.ex,b≠X.env.locals∧∀ x c,X.env.cells.lookup x=some c→c≠b
 bs:∀ b o,X.base.get? b=some o→X.s₀.heap.get? b=some o∧X.H₀ b=none
 bsz:X.base.objs.size≤X.s₀.heap.objs.size
 adY:∀ b o,X.base.get? b=some o→b ∉ X.ex
 afe:∀ b∈X.ex,b ∉ X.fs
 KJ:X.s₀.heap.FunFrames X.base X.outer
 frf:∀ b∈X.fs,X.H₀ b=none
structure Inv(X:Cx)(pins:List (Addr × Obj))(σ:List (Option V))(H:Hp)(s:Shared):Prop where
 ok:X.Ok
 os:s.os=X.s₀.os
 bare:AllBare s.gens
 base:Un X.fs X.ex X.H₀ H X.s₀.heap s.heap
 loc:∃ m,s.heap.Ns X.env.locals m∧∀ (i:Nat) (x:Str) (v:V),X.N[i]?=some x→σ[i]?=some (some v)→Vis X.env.scope x→∃ u,RelV v u∧Look X.env s.heap m x u
 cell:∀ x c,X.env.cells.lookup x=some c→∃ v,s.heap.IsCell c v
 free:H X.env.locals=none
 Ar:∀ x c,X.env.cells.lookup x=some c→H c=none
 pin:∀ p∈X.pn++pins,s.heap.get? p.1=some p.2∧H p.1=none∧p.1≠X.env.locals∧p.1 ∉ X.fs∧∀ v,p.2.data≠.cell v
 hok:D4 X.prog X.w H s.heap
 len:σ.length=X.N.length
section
variable{X:Cx}{pins:List (Addr × Obj)}{σ:List (Option V)}{H H':Hp}{s:Shared}{h':Heap}
theorem Cx.Ok.aqA(ok:X.Ok){b:Addr}{o:Obj}(e:X.base.get? b=some o):b ∉ X.fs:=fun hb=>by
 have:=(ok.KJ.mem hb).1
 rw[e] at this; cases this
theorem Inv.bs(I:Inv X pins σ H s):∀ b o,X.base.get? b=some o→s.heap.get? b=some o∧H b=none:=fun b o e =>
 ⟨I.base.keep b o (I.ok.bs b o e).1 (I.ok.bs b o e).2 (I.ok.aqA e) (I.ok.adY b o e),I.base.free b o (I.ok.bs b o e).1 (I.ok.bs b o e).2 (I.ok.adY b o e)⟩
theorem Inv.bk(I:Inv X pins σ H s):∀ b o,X.base.get? b=some o→s.heap.get? b=some o:=fun b o e=>(I.bs b o e).1
theorem Inv.mod(I:Inv X pins σ H s):Mod X.K X.mg X.base:=I.ok.mod
theorem Inv.IX(I:Inv X pins σ H s):X.K.In s.heap:=I.ok.mod.kin.keeps I.bk
theorem Inv.lt(I:Inv X pins σ H s):X.env.locals < s.heap.objs.size:=let ⟨_,hn,_⟩:=I.loc; hn.lt
theorem Inv.sz(I:Inv X pins σ H s):X.s₀.heap.objs.size≤s.heap.objs.size:=aX I.ok.above (oU I.lt)
theorem Inv.aqB(I:Inv X pins σ H s){a:Addr}(h:s.heap.objs.size≤a):a ∉ X.fs:=fun hb=>by
 obtain⟨_,o,ho,_⟩:=I.ok.KJ.mem hb
 exact absurd (bL (Heap.lt_size ho) (aX I.sz h)) (ql _)
theorem Inv.cne(I:Inv X pins σ H s):∀ x c,X.env.cells.lookup x=some c→c≠X.env.locals:=fun x c e z=>by
 obtain⟨v,o,ho,hd⟩:=I.cell x c e
 obtain⟨m,⟨o',es,ep,ho',hd',_⟩,_⟩:=I.loc
 rw[z,ho'] at ho; cases ho; rw[hd'] at hd; cases hd
theorem Inv.KJ(I:Inv X pins σ H s):s.heap.FunFrames X.base X.outer:=by
 have all:∀ (l:List Env),(∀ b∈frs l,b∈X.fs)→X.s₀.heap.FunFrames X.base l→s.heap.FunFrames X.base l:=by
  intro l
  induction l with
  | nil=>intro _ _; trivial
  | cons env r ih =>
   intro hs hl
   obtain⟨hk,⟨L,o,hf,hn,ho,hd⟩,hr⟩:=hl
   have hL:L∈X.fs:=hs L (by unfold frs; rw[eZ,hf]; exact cN)
   obtain⟨sl,e⟩:=I.base.slot L o ho (I.ok.frf L hL) hL fun z=>I.ok.afe L z hL
   exact⟨hk,⟨L,_,hf,hn,e,hd⟩,ih (fun b hb=>hs b (by unfold frs; rw[eZ,hf]; exact bP _ hb)) hr⟩
 exact all X.outer (fun _ hb=>hb) I.ok.KJ
theorem Inv.stack(I:Inv X pins σ H s):s.heap.FunFrames X.base X.stack:=by
 rcases I.ok.stk with e | ⟨e,hf⟩
 ·rw[e]; exact I.KJ
 ·rw[e]
  obtain⟨m,hn,_⟩:=I.loc
  refine .cons (by rw[I.ok.kind]; decide) hf hn ?_ I.KJ
  exact Heap.get?_none_of_le (aX I.ok.bsz I.ok.above)
theorem Inv.Mu(I:Inv X pins σ H s):∀ b∈frs X.stack,b∈X.env.locals :: X.fs:=fun b hb=>by
 rcases I.ok.stk with e | ⟨e,hf⟩
 ·rw[e] at hb; exact bP _ hb
 ·rw[e] at hb
  unfold frs at hb
  rw[eZ,hf] at hb
  exact hb
theorem Inv.WH(I:Inv X pins σ H s):∀ b∈frs X.stack,H b=none:=fun b hb=>by
 rcases cF.mp (I.Mu b hb) with e | hb
 ·rw[e]; exact I.free
 ·obtain⟨_,o,ho,_⟩:=I.ok.KJ.mem hb
  exact I.base.free b o ho (I.ok.frf b hb) fun z=>I.ok.afe b z hb
theorem Inv.step{g':Array GenState}{t':Nat}{d':Drawn}{ch:List Addr}(I:Inv X pins σ H s)
 (hch:∀ b∈ch,(b∈X.ex∨X.s₀.heap.objs.size≤b)∧b≠X.env.locals∧(∀ x c,X.env.cells.lookup x=some c→c≠b)∧∀ p∈X.pn++pins,p.1≠b)
 (keep:∀ b o,b≠X.env.locals→b ∉ X.fs→b ∉ ch→s.heap.get? b=some o→H b=none→h'.get? b=some o)
 (slot:∀ b o,b≠X.env.locals→b∈X.fs→b ∉ ch→s.heap.get? b=some o→H b=none→∃ sl,h'.get? b=some { o with slots:=sl }) (free:∀ b o,b ∉ ch→s.heap.get? b=some o→H b=none→H' b=none)
 (there:∀ b o,b ∉ ch→s.heap.get? b=some o→∃ o',h'.get? b=some o')
 (tups:∀ b xs,H b=some (.tup xs)→H' b=some (.tup xs)) (KI:∀ b o u,H b=some (.Y8 o u)→H' b=some (.Y8 o u)) (Mt:∀ b ps,H b=some (.tbl ps)→∃ more,H' b=some (.tbl (ps++more)))
 (ns:∀ m,s.heap.Ns X.env.locals m→h'.Ns X.env.locals m) (hok:D4 X.prog X.w H' h') (hg:AllBare g') :
 Inv X pins σ H' { s with heap:=h',gens:=g',drawn:=d',toks:=t' }:=by
 have neL:∀ b o,X.s₀.heap.get? b=some o→b≠X.env.locals:=fun b o e=>bZ (bL (Heap.lt_size e) I.ok.above)
 have neC:∀ b o,X.s₀.heap.get? b=some o→b ∉ X.ex→b ∉ ch:=fun b o e hx hb=>by
  rcases (hch b hb).1 with z | z
  ·exact hx z
  ·exact absurd (bL (Heap.lt_size e) z) (ql _)
 have cellK:∀ x c,X.env.cells.lookup x=some c→∀ v,s.heap.IsCell c v→h'.IsCell c v:=fun x c e v ⟨o,ho,hd⟩=>by
  have nch:c ∉ ch:=fun z=>(hch c z).2.2.1 x c e rfl
  by_cases hc:c∈X.fs
  ·obtain⟨sl,q⟩:=slot c o (I.cne x c e) hc nch ho (I.Ar x c e)
   exact⟨_,q,hd⟩
  ·exact⟨o,keep c o (I.cne x c e) hc nch ho (I.Ar x c e),hd⟩
 refine⟨I.ok,I.os,hg,⟨fun b o e n hb hx=>?_,fun b o e n hb hx=>?_,fun b o e n hx=>?_,fun b o e hx=>?_,fun b xs e=>tups b xs (I.base.tups b xs e),fun b o xs e=>KI b o xs (I.base.KI b o xs e),fun b ps e=>?_⟩,?_,fun x c e=>?_,?_,fun x c e=>?_,fun p hp=>?_,hok,I.len⟩
 ·exact keep b o (neL b o e) hb (neC b o e hx) (I.base.keep b o e n hb hx) (I.base.free b o e n hx)
 ·obtain⟨sl,e1⟩:=I.base.slot b o e n hb hx
  obtain⟨sl',e2⟩:=slot b _ (neL b o e) hb (neC b o e hx) e1 (I.base.free b o e n hx)
  exact⟨sl',e2⟩
 ·obtain⟨o',e1⟩:=I.base.there b o e hx
  exact free b o' (neC b o e hx) e1 (I.base.free b o e n hx)
 ·obtain⟨o',e1⟩:=I.base.there b o e hx
  exact there b o' (neC b o e hx) e1
 ·obtain⟨m1,e1⟩:=I.base.Mt b ps e
  obtain⟨m2,e2⟩:=Mt b _ e1
  exact⟨m1++m2,by rw[e2,Array.append_assoc]⟩
 ·obtain⟨m,hn,hl⟩:=I.loc
  refine⟨m,ns m hn,fun i x v e1 e2 e3=>?_⟩
  obtain⟨u,r,l⟩:=hl i x v e1 e2 e3
  refine⟨u,r,?_⟩
  rcases l with l | ⟨k,c,e,z⟩
  ·exact .inl l
  ·exact .inr ⟨k,c,e,cellK x c e _ z⟩
 ·obtain⟨v,z⟩:=I.cell x c e
  exact⟨v,cellK x c e v z⟩
 ·obtain⟨m,⟨o,_,_,ho,_⟩,_⟩:=I.loc
  exact free _ o (fun z=>(hch _ z).2.1 rfl) ho I.free
 ·obtain⟨v,o,ho,hd⟩:=I.cell x c e
  exact free c o (fun z=>(hch c z).2.2.1 x c e rfl) ho (I.Ar x c e)
 ·obtain⟨e,n,ne,nf,d⟩:=I.pin p hp
  have nch:p.1 ∉ ch:=fun z=>(hch p.1 z).2.2.2 p hp rfl
  exact⟨keep p.1 p.2 ne nf nch e n,free p.1 p.2 nch e n,ne,nf,d⟩
theorem Inv.un{t':Nat}(I:Inv X pins σ H s)(u:Un X.fs [] H H' s.heap h')(hok:D4 X.prog X.w H' h'):Inv X pins σ H' { s with heap:=h',toks:=t' }:=by
 obtain⟨m,⟨o,es,ep,ho,r⟩,_⟩:=id I.loc
 obtain⟨sl,hL⟩:=u.any ho I.free (by simp)
 exact I.step (g':=s.gens) (d':=s.drawn) (ch:=[]) (fun _ z=>nomatch z) (fun b o _ hb _ e n=>u.keep b o e n hb (by simp)) (fun b o _ hb _ e n=>u.slot b o e n hb (by simp)) (fun b o _ e n=>u.free b o e n (by simp)) (fun b o _ e=>u.there b o e (by simp)) u.tups u.KI u.Mt (fun m' hm=>by
  obtain⟨o',es',ep',ho',r'⟩:=hm
  rw[ho] at ho'; cases ho'
  exact⟨_,es',ep',hL,r'⟩) hok I.bare
theorem Inv.call{g':Array GenState}{t':Nat}{d':Drawn}{ch:List Addr}(I:Inv X pins σ H s)(u:Un (frs X.stack) ch H H' s.heap h')(hok:D4 X.prog X.w H' h')(hg:AllBare g')
 (hch:∀ b∈ch,(b∈X.ex∨X.s₀.heap.objs.size≤b)∧b≠X.env.locals∧(∀ x c,X.env.cells.lookup x=some c→c≠b)∧∀ p∈X.pn++pins,p.1≠b) :
 Inv X pins σ H' { s with heap:=h',gens:=g',drawn:=d',toks:=t' }:=by
 obtain⟨m,⟨o,es,ep,ho,r⟩,_⟩:=id I.loc
 obtain⟨sl,hL⟩:=u.any ho I.free fun z=>(hch _ z).2.1 rfl
 exact I.step (ch:=ch) hch (fun b o hL hb hc e n=>u.keep b o e n (fun z=>(cF.mp (I.Mu b z)).elim hL hb) hc) (fun b o _ _ hc e n=>u.any e n hc) (fun b o hc e n=>u.free b o e n hc) (fun b o hc e=>u.there b o e hc) u.tups u.KI u.Mt (fun m' hm=>by
  obtain⟨o',es',ep',ho',r'⟩:=hm
  rw[ho] at ho'; cases ho'
  exact⟨_,es',ep',hL,r'⟩) hok hg
theorem Inv.turned{t':Nat}{it:Addr}(I:Inv X pins σ H s)(k:∀ b o,b≠it→s.heap.get? b=some o→h'.get? b=some o)(hn:H it=none)(hL:it≠X.env.locals)
 (h1:it∈X.ex∨X.s₀.heap.objs.size≤it) (h2:∀ x c,X.env.cells.lookup x=some c→c≠it) (h3:∀ p∈X.pn++pins,p.1≠it):Inv X pins σ H { s with heap:=h',toks:=t' }:=by
 have nit:∀ b u,H b=some u→b≠it:=fun b u e z=>by rw[z,hn] at e; cases e
 refine I.step (g':=s.gens) (d':=s.drawn) (ch:=[it]) (fun b hb=>?_) (fun b o _ _ hc e _=>k b o (fun z=>hc (by simp[z])) e) (fun b o _ _ hc e _=>⟨o.slots,k b o (fun z=>hc (by simp[z])) e⟩) (fun _ _ _ _ n=>n)
  (fun b o hc e=>⟨o,k b o (fun z=>hc (by simp[z])) e⟩) (fun _ _ e=>e) (fun _ _ _ e=>e) (fun b ps e=>⟨#[],by rw[e]; simp⟩) (fun m hm=>?_) (fun b u e=>?_) I.bare
 ·have e:b=it:=by simpa using hb
  subst e
  exact⟨h1,hL,h2,h3⟩
 ·obtain⟨o,es,ep,ho,r⟩:=hm
  exact⟨o,es,ep,k _ o (bW hL) ho,r⟩
 ·refine (I.hok b u e).stay (fun c v hc q=>k c v ?_ q) (fun _ q=>q) fun _ _ q=>q
  rcases hc with z | z
  ·rw[z]; exact nit b u e
  ·exact nit c _ z
theorem Inv.tok(I:Inv X pins σ H s)(t:Nat):Inv X pins σ H { s with toks:=t }:=I.un (h':=s.heap) (t':=t) Un.refl I.hok
theorem Inv.kept{t':Nat}(I:Inv X pins σ H s)(k:∀ b u,s.heap.get? b=some u→h'.get? b=some u):Inv X pins σ H { s with heap:=h',toks:=t' }:=I.un (Un.kept k) (I.hok.kept k)
theorem Inv.laid{a:Addr}{o:HO}{t':Nat}(I:Inv X pins σ H s)(k:∀ b u,s.heap.get? b=some u→h'.get? b=some u)(hp:s.heap.objs.size≤a)(new:je X.prog X.w (upd H a o) h' a o) :
 Inv X pins σ (upd H a o) { s with heap:=h',toks:=t' }:=I.un (Un.laid k hp (I.hok.fresh hp)) (I.hok.laid k hp new)
theorem Inv.write{x e:Addr}{o:HO}{t':Nat}(I:Inv X pins σ H s)(mu:Mut (H x))(he:e=x∨H e=some (.own x))(k:∀ b u,b≠e→s.heap.get? b=some u→h'.get? b=some u)(heo:∃ u,h'.get? e=some u)
 (new:je X.prog X.w (upd H x o) h' x o):Inv X pins σ (upd H x o) { s with heap:=h',toks:=t' }:=I.un (Un.write mu he k heo) (I.hok.write mu he k heo new)
theorem Inv.ac4{VZ:List (Addr × Obj)}(I:Inv X pins σ H s)(h:∀ p∈VZ,s.heap.get? p.1=some p.2∧H p.1=none∧p.1≠X.env.locals∧p.1 ∉ X.fs∧∀ v,p.2.data≠.cell v):Inv X VZ σ H s :=
 ⟨I.ok,I.os,I.bare,I.base,I.loc,I.cell,I.free,I.Ar,fun p hp=>(cy.mp hp).elim (fun z=>I.pin p (List.mem_append_left _ z)) (h p),I.hok,I.len⟩
theorem Y9{N:List Str}(hN:N.Nodup){i j:Nat}{x:Str}(a:N[i]?=some x)(b:N[j]?=some x):i=j:=by
 obtain⟨h1,e1⟩:=aj.mp a
 obtain⟨h2,e2⟩:=aj.mp b
 exact (List.getElem_inj hN).mp (e1.trans e2.symm)
theorem V0{M:Model}{A:Around}{E:Value→Shared→Prop}{i:Nat}{x:Str}{v:V}{u:Value}{Q:Unit→Shared→Prop}(I:Inv X pins σ H s)(hN:X.N.Nodup)(hi:X.N[i]?=some x)(hx:Loc X.env.scope x)(r:RelV v u)
 (h:∀ s',Inv X pins (σ.set i (some v)) H s'→(∃ a,Heap.SameBut a s.heap s'.heap∧(a=X.env.locals∨X.env.cells.lookup x=some a))→Q () s') (hf:X.fn x=true∨X.env.scope.names.lookup x=some .local:=by first | exact .inl rfl | exact .inr rfl | assumption):wpAny M A (storeName X.env x u) Q E s:=by
 obtain⟨m,hn,hl⟩:=id I.loc
 have hcls:(X.env.scope.kind == .class || (X.env.scope.kind == .module && X.env.locals != X.env.globals))=false:=by rw[I.ok.kind]; rfl
 have anp:i < σ.length:=by rw[I.len]; exact (aj.mp hi).1
 have cne:=I.cne
 have tracked:∀ {a:Addr} {h':Heap},(∃ o,s.heap.get? a=some o∧H a=none)→Heap.SameBut a s.heap h'→D4 X.prog X.w H h':=fun {a h'} ha hs b ob e=>by
  obtain⟨_,_,hfree⟩:=ha
  refine (I.hok b ob e).stay (fun c w' hc q=>(hs.2 c ?_).trans q) (fun _ q=>q) fun _ _ q=>q
  rintro rfl
  rcases hc with rfl | hc
  ·rw[hfree] at e; cases e
  ·rw[hfree] at hc; cases hc
 rcases hx with hk | hk
 ·refine wpAny_storeName_local hk hn (fun h' hn' hs=>?_) hcls
  obtain⟨oL,_,_,hoL,_⟩:=id hn
  refine h _ ⟨I.ok,I.os,I.bare,⟨fun b o e n hb hx=>?_,fun b o e n hb hx=>?_,I.base.free,fun b o e hx=>?_,I.base.tups,I.base.KI,I.base.Mt⟩,⟨_,hn',fun j y v' e1 e2 e3=>?_⟩,fun y c e=>?_,I.free,I.Ar,fun p hp=>?_,tracked ⟨oL,hoL,I.free⟩ hs,by simpa using I.len⟩ ⟨_,hs,.inl rfl⟩
  ·exact (hs.2 b (bZ (bL (Heap.lt_size e) I.ok.above))).trans (I.base.keep b o e n hb hx)
  ·obtain⟨sl,e1⟩:=I.base.slot b o e n hb hx
   exact⟨sl,(hs.2 b (bZ (bL (Heap.lt_size e) I.ok.above))).trans e1⟩
  ·obtain⟨o',e1⟩:=I.base.there b o e hx
   exact⟨o',(hs.2 b (bZ (bL (Heap.lt_size e) I.ok.above))).trans e1⟩
  ·by_cases hj:j=i
   ·subst hj
    rw[hi] at e1; cases e1
    rw[List.getElem?_set_self anp] at e2
    cases e2
    exact⟨u,r,.inl ⟨hk,by simp⟩⟩
   ·rw[List.getElem?_set_ne (bW hj)] at e2
    obtain⟨u',r',q⟩:=hl j y v' e1 e2 e3
    refine⟨u',r',?_⟩
    rcases q with ⟨k,e⟩ | ⟨k,c,e,z⟩
    ·refine .inl ⟨k,?_⟩
     have:y≠x:=fun e=>hj (Y9 hN e1 (e ▸ hi))
     simp[this,e]
    ·exact .inr ⟨k,c,e,z.sameBut hs (cne y c e)⟩
  ·obtain⟨w',z⟩:=I.cell y c e
   exact⟨w',z.sameBut hs (cne y c e)⟩
  ·obtain⟨e,n,ne,nf,d⟩:=I.pin p hp
   exact⟨(hs.2 p.1 ne).trans e,n,ne,nf,d⟩
 ·have hfn:X.fn x=true:=by
   rcases hf with z | z
   ·exact z
   ·rw[z] at hk; cases hk
  obtain⟨c,hc⟩:=I.ok.has x (.inl hk)
  obtain⟨w',z⟩:=I.cell x c hc
  refine wpAny_storeName_cell I.ok.kind hk hc z (fun h' hc' hs=>?_)
  obtain⟨oc,hoc,aqD⟩:=id z
  refine h { s with heap:=h' } ⟨I.ok,I.os,I.bare,⟨fun b o e n hb hx=>?_,fun b o e n hb hx=>?_,I.base.free,fun b o e hx=>?_,I.base.tups,I.base.KI,I.base.Mt⟩,⟨m,hn.sameBut hs (bW (cne x c hc)),fun j y v' e1 e2 e3=>?_⟩,fun y c' e=>?_,I.free,I.Ar,fun p hp=>?_,tracked ⟨oc,hoc,I.Ar x c hc⟩ hs,by simpa using I.len⟩ ⟨c,hs,.inr hc⟩
  ·exact (hs.2 b (bZ (bL (Heap.lt_size e) (I.ok.cab x c hfn hc)))).trans (I.base.keep b o e n hb hx)
  ·obtain⟨sl,e1⟩:=I.base.slot b o e n hb hx
   exact⟨sl,(hs.2 b (bZ (bL (Heap.lt_size e) (I.ok.cab x c hfn hc)))).trans e1⟩
  ·obtain⟨o',e1⟩:=I.base.there b o e hx
   exact⟨o',(hs.2 b (bZ (bL (Heap.lt_size e) (I.ok.cab x c hfn hc)))).trans e1⟩
  ·by_cases hj:j=i
   ·subst hj
    rw[hi] at e1; cases e1
    rw[List.getElem?_set_self anp] at e2
    cases e2
    exact⟨u,r,.inr ⟨.inl hk,c,hc,hc'⟩⟩
   ·rw[List.getElem?_set_ne (bW hj)] at e2
    obtain⟨u',r',q⟩:=hl j y v' e1 e2 e3
    refine⟨u',r',?_⟩
    rcases q with q | ⟨k,c',e,z'⟩
    ·exact .inl q
    ·refine .inr ⟨k,c',e,z'.sameBut hs ?_⟩
     rintro rfl
     exact hj (Y9 hN e1 (I.ok.inj _ _ _ e hc ▸ hi))
  ·by_cases hcc:c'=c
   ·subst hcc; exact⟨_,hc'⟩
   ·obtain⟨w2,z2⟩:=I.cell y c' e
    exact⟨w2,z2.sameBut hs hcc⟩
  ·obtain⟨e,n,ne,nf,d⟩:=I.pin p hp
   refine⟨(hs.2 p.1 ?_).trans e,n,ne,nf,d⟩
   intro q
   rw[q,hoc] at e
   have q':oc=p.2:=aS e
   exact d w' (by rw[← q']; exact aqD)
theorem D5{M:Model}{A:Around}{E:Value→Shared→Prop}{i:Nat}{x:Str}{v:V}{u:Value}{Q:Unit→Shared→Prop}(I:Inv X pins σ H s)(hN:X.N.Nodup)(hi:X.N[i]?=some x)(hx:Loc X.env.scope x)(r:RelV v u)
 (h:∀ s',Inv X pins (σ.set i (some v)) H s'→Q () s') (hf:X.fn x=true∨X.env.scope.names.lookup x=some .local:=by first | exact .inl rfl | exact .inr rfl | assumption):wpAny M A (storeName X.env x u) Q E s :=
 V0 I hN hi hx r (fun s' I' _=>h s' I') hf
theorem Inv.ajJ{s':Shared}{ch:List Addr}(I:Inv X pins σ H s)(ho:s'.os=s.os)(u:Un (frs X.stack) ch H H' s.heap s'.heap)(hok:D4 X.prog X.w H' s'.heap)(hg:AllBare s'.gens)
 (hch:∀ b∈ch,(b∈X.ex∨X.s₀.heap.objs.size≤b)∧b≠X.env.locals∧(∀ x c,X.env.cells.lookup x=some c→c≠b)∧∀ p∈X.pn++pins,p.1≠b):Inv X pins σ H' s':=by
 obtain⟨h',g',d',t',o'⟩:=s'
 have e:o'=s.os:=ho
 subst e
 exact I.call (g':=g') (t':=t') (d':=d') u hok hg hch
end
noncomputable abbrev XK:=Value→Option Addr→Hp→Prop
noncomputable abbrev St:=List (Option V)
noncomputable abbrev VK:=V→Hp→Prop
noncomputable abbrev TE:=St→Hp→VK→Prop
noncomputable abbrev TT:=St→Hp→(Bool→Hp→Prop)→Prop
noncomputable abbrev TA:=St→Hp→(List V→Hp→Prop)→Prop
structure Ends where
 nx:St→Hp→Prop
 rt:VK
 bk:St→Hp→Prop:=fun _ _=>False
 ct:St→Hp→Prop:=fun _ _=>False
noncomputable abbrev TS:=Ends→St→Hp→Prop
noncomputable def EP(X:Cx)(pins:List (Addr × Obj))(σ:St)(Q:VK)(u:Value)(s':Shared):Prop:=∃ v H',Inv X pins σ H' s'∧RelV v u∧Q v H'
noncomputable def TP(X:Cx)(pins:List (Addr × Obj))(σ:St)(Q:Bool→Hp→Prop)(b:Bool)(s':Shared):Prop:=∃ H',Inv X pins σ H' s'∧Q b H'
noncomputable def AP(X:Cx)(pins:List (Addr × Obj))(σ:St)(Q:List V→Hp→Prop)(us:List Value)(s':Shared):Prop:=∃ vs H',Inv X pins σ H' s'∧cP vs us∧Q vs H'
noncomputable def SP(X:Cx)(pins:List (Addr × Obj))(D:Ends)(f:Flow)(s':Shared):Prop :=
 match f with
 | .next=>∃ σ' H',Inv X pins σ' H' s'∧D.nx σ' H'
 | .brk=>∃ σ' H',Inv X pins σ' H' s'∧D.bk σ' H'
 | .cont=>∃ σ' H',Inv X pins σ' H' s'∧D.ct σ' H'
 | .ret u=>∃ v σ' H',Inv X pins σ' H' s'∧RelV v u∧D.rt v H'
noncomputable def PE(X:Cx)(e:Expr)(t:TE):Prop :=
 ∀ (pins:List (Addr × Obj)) (s:Shared) (σ:St) (H:Hp) (Q:VK),Inv X pins σ H s→t σ H Q→wpAny (model X.prog X.w) X.A (eval e X.env) (EP X pins σ Q) X.xe s
noncomputable def PT(X:Cx)(e:Expr)(t:TT):Prop :=
 ∀ (pins:List (Addr × Obj)) (s:Shared) (σ:St) (H:Hp) (Q:Bool→Hp→Prop),Inv X pins σ H s→t σ H Q→wpAny (model X.prog X.w) X.A (isTrue e X.env (eval e X.env)) (TP X pins σ Q) X.xe s
noncomputable def PW(X:Cx)(e:Expr)(t:TT):Prop :=
 ∀ (whole:Sem Value) (pins:List (Addr × Obj)) (s:Shared) (σ:St) (H:Hp) (Q:Bool→Hp→Prop),Inv X pins σ H s→t σ H Q→wpAny (model X.prog X.w) X.A (isTrue e X.env whole) (TP X pins σ Q) X.xe s
theorem PW.pt{X:Cx}{e:Expr}{t:TT}(h:PW X e t):PT X e t:=h _
noncomputable def PA(X:Cx)(es:List Expr)(t:TA):Prop :=
 ∀ (pos:Pos) (pins:List (Addr × Obj)) (s:Shared) (σ:St) (H:Hp) (Q:List V→Hp→Prop),Inv X pins σ H s→t σ H Q→wpAny (model X.prog X.w) X.A (spliced (backTo pos (starEach es X.env))) (AP X pins σ Q) X.xe s
noncomputable def PS(X:Cx)(st:Stmt)(t:TS):Prop :=
 ∀ (pins:List (Addr × Obj)) (s:Shared) (σ:St) (H:Hp) (D:Ends),Inv X pins σ H s→t D σ H→wpAny (model X.prog X.w) X.A (exec st X.env) (SP X pins D) X.xe s
noncomputable def oS(X:Cx)(st:List Stmt)(t:TS):Prop :=
 ∀ (pins:List (Addr × Obj)) (s:Shared) (σ:St) (H:Hp) (D:Ends),Inv X pins σ H s→t D σ H→wpAny (model X.prog X.w) X.A (execs st X.env) (SP X pins D) X.xe s
theorem jf{α:Type}{t:Sem α}{Q Q':α→Shared→Prop}{M:Model}{A:Around}{E:Value→Shared→Prop}{s:Shared}(h:wpAny M A t Q E s)(hQ:∀ a s,Q a s→Q' a s):wpAny M A t Q' E s:=wpAny_mono h hQ fun _ _ x=>x
end L2
namespace L2
open PySem PySem.Spec PyProof.Rows
section
variable{X:Cx}
noncomputable def WJ(i:Nat):TE:=fun σ H Q=>∃ v,σ[i]?=some (some v)∧Q v H
noncomputable def tC(v:V):TE:=fun _ H Q=>Q v H
theorem akz{i:Nat}{x:Str}{pos:Pos}(hN:X.N[i]?=some x)(hv:Vis X.env.scope x)(hd:(x == ("__debug__" : Str))=false:=by decide)(hcd:(x == ("__classdict__" : Str))=false:=by decide):PE X (.Name x pos) (WJ i):=by
 intro pins s σ H Q I h
 obtain⟨v,e,h⟩:=h
 obtain⟨m,hn,hl⟩:=I.loc
 obtain⟨u,r,l⟩:=hl i x v hN e hv
 have fin:EP X pins σ Q u s:=⟨v,H,I,r,h⟩
 rcases l with ⟨hk,hm⟩ | ⟨hk,c,hc,hcell⟩
 ·exact wpAny_Name (wpAny_loadName_local I.ok.kind hk hn hm fin) hd
 ·rcases hk with hk | hk
  ·exact wpAny_Name (wpAny_loadName_cell I.ok.kind hk hc hcell fin) hd
  ·exact wpAny_Name (wpAny_loadName_free I.ok.kind hk hc hcell fin hcd) hd
theorem aJ{i j pos}:PE X (.Constant (.int i) j pos) (tC (.int i)):=fun _ _ _ H _ I h=>wpAny_Constant_int ⟨.int i,H,I.tok _,⟨_,rfl⟩,h⟩
theorem uw{b j pos}:PE X (.Constant (.bool b) j pos) (tC (.bl b)):=fun _ _ _ H _ I h=>Constant_bool ⟨.bl b,H,I,rfl,h⟩
theorem nG{j pos}:PE X (.Constant .none j pos) (tC .iu):=fun _ _ _ H _ I h=>Constant_none ⟨.iu,H,I,rfl,h⟩
theorem g9{x j pos}:PE X (.Constant (.str x) j pos) (tC (.str x)):=fun _ _ _ H _ I h=>Calls.Constant_str ⟨.str x,H,I.tok _,⟨_,rfl⟩,h⟩
noncomputable def Gl(X:Cx)(x:Str):Prop:=X.env.kindOf x=some .globalImplicit
theorem KL{E:Value→Shared→Prop}{pins:List (Addr × Obj)}{s:Shared}{σ:St}{H:Hp}{x:Str}{u:Value}{pos:Pos}{Q:Value→Shared→Prop}(I:Inv X pins σ H s)(hg:Gl X x)(hm:X.mg x=some u)(h:Q u s)
 (hd:(x == ("__debug__" : Str))=false:=by decide):wpAny (model X.prog X.w) X.A (eval (.Name x pos) X.env) Q E s :=
 Calls.Name_function_global I.ok.kind hg (Calls.loadGlobal_global (by rw[I.ok.glob]; exact I.mod.glob.keeps I.bk) hm h) hd
theorem Ri{E:Value→Shared→Prop}{pins:List (Addr × Obj)}{s:Shared}{σ:St}{H:Hp}{x:Str}{u:Value}{pos:Pos}{Q:Value→Shared→Prop}(I:Inv X pins σ H s)(hg:Gl X x)(hm:X.mg x=none)(hv:bootBuiltins x=some u)(h:Q u s)
 (hn:x≠"__name__" := by decide) (hd:(x == ("__debug__" : Str))=false:=by decide):wpAny (model X.prog X.w) X.A (eval (.Name x pos) X.env) Q E s:=by
 obtain⟨mb,h1,h2⟩:=I.mod.blt
 exact Calls.Name_function_global I.ok.kind hg (Calls.loadGlobal_builtin (by rw[I.ok.glob]; exact I.mod.glob.keeps I.bk) hm (by rw[I.ok.blt]; exact h1.keeps I.bk) ((h2 x hn).trans hv) h) hd
theorem oY{x:Str}{v:V}{u:Value}{pos:Pos}(hg:Gl X x)(hm:X.mg x=some u)(r:RelV v u)(hd:(x == ("__debug__" : Str))=false:=by decide):PE X (.Name x pos) (tC v) :=
 fun _ _ _ H _ I h=>KL I hg hm ⟨v,H,I,r,h⟩ hd
theorem KN{x:Str}{v:V}{u:Value}{pos:Pos}(hg:Gl X x)(hm:X.mg x=none)(hv:bootBuiltins x=some u)(r:RelV v u)(hn:x≠"__name__" := by decide)(hd:(x == ("__debug__" : Str))=false:=by decide):PE X (.Name x pos) (tC v) :=
 fun _ _ _ H _ I h=>Ri I hg hm hv ⟨v,H,I,r,h⟩ hn hd
variable{a b:Expr}{ta tb:TE}{pos:Pos}
noncomputable def PC(X:Cx)(op:CmpOp)(a b:Expr)(t:TE):Prop :=
 ∀ (pins:List (Addr × Obj)) (s:Shared) (σ:St) (H:Hp) (Q:VK),Inv X pins σ H s→t σ H Q →
  wpAny (model X.prog X.w) X.A (eval a X.env) (fun v s₁=>wpAny (model X.prog X.w) X.A (eval b X.env) (fun u s₂=>wpAny (model X.prog X.w) X.A (compareOp op v u) (EP X pins σ Q) X.xe s₂) X.xe s₁) X.xe s
noncomputable def tB(t:TE):TT:=fun σ H Q=>t σ H fun x H1=>∃ c,x = .bl c∧Q c H1
theorem akA{op:CmpOp}{t:TE}(h:PC X op a b t)(h1:behindInMarks op b=false:=by first | exact anq _ (by decide) (by decide) | rfl):PT X (.Compare a [op] [b] pos) (tB t):=by
 intro pins s σ H Q I hw
 refine wpAny_isTrue_Compare1 (jf (h pins s σ H _ I hw) fun v s1 h1=>jf h1 fun u s2 h2=>jf h2 fun c s3 ⟨x,H1,I1,r1,q1⟩=>?_) h1
 obtain⟨d,rfl,q⟩:=q1
 cases r1
 exact wpAny_truthy_bool ⟨H1,I1,q⟩
theorem vK{e:Expr}{t:TE}(h:PE X e t)(he:∀ whole,isTrue e X.env whole=(do let v ← whole; standAt e.pos; holding [v] (truthy v)):=by intro _; rfl):PT X e (tB t):=by
 intro pins s σ H Q I hw
 refine isTrue_plain (jf (h pins s σ H _ I hw) fun v s1 ⟨x,H1,I1,r1,q1⟩=>?_) (he _)
 obtain⟨d,rfl,q⟩:=q1
 cases r1
 exact wpAny_truthy_bool ⟨H1,I1,q⟩
variable{tA tB':TT}{rest:List Expr}
noncomputable def aqE(t u:TT):TT:=fun σ H Q=>t σ H fun c H1=>if c=true then u σ H1 Q else Q false H1
noncomputable def tOr(t u:TT):TT:=fun σ H Q=>t σ H fun c H1=>if c=true then Q true H1 else u σ H1 Q
noncomputable def aqF(t:TT):TT:=fun σ H Q=>t σ H fun c H1=>Q (!c) H1
theorem KO(ha:PT X a tA):PW X (.BoolOp .And [a] pos) tA:=by
 intro wh pins s σ H Q I h
 refine isTrue_and (jf (ha pins s σ H Q I h) fun c s1 e=>?_)
 cases c with
 | true=>exact isTrue_and_nil e
 | false=>exact e
theorem WK(ha:PT X a tA):PW X (.BoolOp .Or [a] pos) tA:=by
 intro wh pins s σ H Q I h
 refine isTrue_or (jf (ha pins s σ H Q I h) fun c s1 e=>?_)
 cases c with
 | false=>exact isTrue_or_nil e
 | true=>exact e
theorem Rj(ha:PT X a tA)(hb:PW X (.BoolOp .And (b :: rest) pos) tB'):PW X (.BoolOp .And (a :: b :: rest) pos) (aqE tA tB'):=by
 intro wh pins s σ H Q I h
 refine isTrue_and (jf (ha pins s σ H _ I h) fun c s1 ⟨H1,I1,q1⟩=>?_)
 cases c with
 | true=>exact hb wh pins s1 σ H1 Q I1 q1
 | false=>exact⟨H1,I1,q1⟩
theorem V1(ha:PT X a tA)(hb:PW X (.BoolOp .Or (b :: rest) pos) tB'):PW X (.BoolOp .Or (a :: b :: rest) pos) (tOr tA tB'):=by
 intro wh pins s σ H Q I h
 refine isTrue_or (jf (ha pins s σ H _ I h) fun c s1 ⟨H1,I1,q1⟩=>?_)
 cases c with
 | true=>exact⟨H1,I1,q1⟩
 | false=>exact hb wh pins s1 σ H1 Q I1 q1
theorem jM(ha:PT X a tA):PT X (.UnaryOp .Not a pos) (aqF tA):=by
 intro pins s σ H Q I h
 exact isTrue_not (ha pins s σ H (fun c H1=>Q (!c) H1) I h)
noncomputable def ajK(ta tb:TE):TE:=fun σ H Q=>ta σ H fun x H1=>∃ c,x = .bl c∧if c=true then tb σ H1 Q else Q (.bl false) H1
noncomputable def anr(ta:TE):TE:=fun σ H Q=>ta σ H fun x H1=>∃ c,x = .bl c∧Q (.bl (!c)) H1
theorem afg{op}{t:TE}(h:PE X a t):PE X (.BoolOp op [a] pos) t:=fun pins s σ H Q I hw=>BoolOp_one (h pins s σ H Q I hw)
theorem abh(ha:PE X a ta)(hb:PE X (.BoolOp .And (b :: rest) pos) tb):PE X (.BoolOp .And (a :: b :: rest) pos) (ajK ta tb):=by
 intro pins s σ H Q I h
 refine BoolOp_and (jf (ha pins s σ H _ I h) fun v s1 ⟨x,H1,I1,r1,q1⟩=>?_)
 obtain⟨c,rfl,q1⟩:=q1
 cases r1
 refine wpAny_truthy_bool ?_
 cases c with
 | true=>exact hb pins s1 σ H1 Q I1 q1
 | false=>exact⟨.bl false,H1,I1,rfl,q1⟩
theorem akB(ha:PE X a ta):PE X (.UnaryOp .Not a pos) (anr ta):=by
 intro pins s σ H Q I h
 refine UnaryOp_ (jf (ha pins s σ H _ I h) fun v s1 ⟨x,H1,I1,r1,q1⟩=>?_)
 obtain⟨c,rfl,q1⟩:=q1
 cases r1
 exact not_of (wpAny_truthy_bool ⟨.bl (!c),H1,I1,rfl,q1⟩)
noncomputable def tIf(t:TT)(ta tb:TE):TE:=fun σ H Q=>t σ H fun c H1=>if c=true then ta σ H1 Q else tb σ H1 Q
theorem D6{c:Expr}(hc:PT X c tA)(ha:PE X a ta)(hb:PE X b tb):PE X (.IfExp c a b pos) (tIf tA ta tb):=by
 intro pins s σ H Q I h
 refine wpAny_IfExp (jf (hc pins s σ H _ I h) fun d s1 ⟨H1,I1,q1⟩=>?_)
 cases d with
 | true=>exact ha pins s1 σ H1 Q I1 q1
 | false=>exact hb pins s1 σ H1 Q I1 q1
end
end L2
namespace L2
open PySem PySem.Spec PyProof.Rows
noncomputable def ck(K:ah)(H:Hp)(a:Addr)(xs:List V):Prop :=
 Rd H a (.lst xs) ∨
  ∃ (o:Obj) (its:Array Value) (n:Nat),K.lookup a=some o∧o.cls = .type "list" ∧ o.dict=none∧o.data = .seq its n∧its.size≤sizeLine∧cP xs its.toList
noncomputable def dP(K:ah)(H:Hp)(a:Addr)(xs:List V):Prop :=
 Rd H a (.tup xs) ∨
  ∃ (o:Obj) (its:Array Value) (n:Nat),K.lookup a=some o∧o.cls = .type "tuple" ∧ o.data = .seq its n∧its.size≤sizeLine∧cP xs its.toList
noncomputable def aqG:Value→Option V
 | .none=>some .iu
 | .bool b=>some (.bl b)
 | .int i _=>some (.int i)
 | .str x _=>some (.str x)
 | .bytes b _=>some (.byt b)
 | .float b _=>some (.flt b)
 | .ref a=>some (.ref a)
 | .type n=>some (.ty n)
 | _=>none
theorem RelV.abs{x:V}{u:Value}(r:RelV x u):aqG u=some x:=by
 cases x with
 | iu=>cases r; rfl
 | bl _=>cases r; rfl
 | int _=>obtain⟨t,rfl⟩:=r; rfl
 | str _=>obtain⟨t,rfl⟩:=r; rfl
 | byt _=>obtain⟨t,rfl⟩:=r; rfl
 | flt _=>obtain⟨t,rfl⟩:=r; rfl
 | ref _=>cases r; rfl
 | ty _=>cases r; rfl
theorem RelV.inj{x y:V}{u:Value}(r:RelV x u)(q:RelV y u):x=y:=aS (r.abs.symm.trans q.abs)
theorem cP.inj:∀ {xs ys:List V} {us:List Value},cP xs us→cP ys us→xs=ys
 | _,_,_,.nil,.nil=>rfl
 | _,_,_,.cons r t,.cons r' t'=>by rw[r.inj r',cP.inj t t']
section
variable{X:Cx}{pins:List (Addr × Obj)}{σ:St}{H:Hp}{s:Shared}{a:Addr}{xs ys:List V}
theorem ck.of{K:ah}(h:H a=some (.lst xs)):ck K H a xs:=.inl (.inl h)
theorem dP.of{K:ah}(h:H a=some (.tup xs)):dP K H a xs:=.inl (.inl h)
theorem Inv.list(I:Inv X pins σ H s)(h:ck X.K H a xs):∃ its:List Value,cP xs its∧PlainL s.heap a its.toArray∧xs.length≤sizeLine:=by
 rcases h with h | ⟨o,its,n,hk,hc,hd,hs,hz,r⟩
 ·obtain⟨z,its,n,r,e⟩:=h.ok I.hok
  exact⟨its,r,⟨_,n,e,rfl,rfl,rfl⟩,z⟩
 ·refine⟨its.toList,r,⟨o,n,I.IX a o hk,hc,hd,by simpa using hs⟩,?_⟩
  have e:=r.length
  simp only[jL] at e
  omega
theorem Inv.tuple(I:Inv X pins σ H s)(h:dP X.K H a xs):∃ its:List Value,cP xs its∧IsTup s.heap a its.toArray∧xs.length≤sizeLine:=by
 rcases h with h | ⟨o,its,n,hk,hc,hs,hz,r⟩
 ·obtain⟨z,its,r,p⟩:=h.ok I.hok
  exact⟨its,r,p,z⟩
 ·refine⟨its.toList,r,⟨o,I.IX a o hk,hc,n,by simpa using hs⟩,?_⟩
  have e:=r.length
  simp only[jL] at e
  omega
theorem Inv.Za(I:Inv X pins σ H s)(h:ck X.K H a xs)(h':ck X.K H a ys):xs=ys:=by
 obtain⟨its,r,⟨o,n,e,_,_,d⟩,_⟩:=I.list h
 obtain⟨its',r',⟨o',n',e',_,_,d'⟩,_⟩:=I.list h'
 rw[e] at e'; cases e'
 rw[d] at d'
 injection d' with d1 _
 have:its=its':=by simpa using congrArg Array.toList d1
 subst this
 exact r.inj r'
theorem Inv.adZ(I:Inv X pins σ H s)(h:dP X.K H a xs)(h':dP X.K H a ys):xs=ys:=by
 obtain⟨its,r,⟨o,e,_,n,d⟩,_⟩:=I.tuple h
 obtain⟨its',r',⟨o',e',_,n',d'⟩,_⟩:=I.tuple h'
 rw[e] at e'; cases e'
 rw[d] at d'
 injection d' with d1 _
 have:its=its':=by simpa using congrArg Array.toList d1
 subst this
 exact r.inj r'
end
noncomputable abbrev Cx.UR(X:Cx)(E:Value→Shared→Prop):Cx:={ X with xe:=E }
noncomputable abbrev Cx.nox(X:Cx):Cx:=X.UR fun _ _=>False
theorem Cx.Ok.UR{X:Cx}(ok:X.Ok)(E:Value→Shared→Prop):(X.UR E).Ok :=
 ⟨ok.mod,ok.kind,ok.glob,ok.blt,ok.above,ok.inj,ok.has,ok.cab,ok.hd,ok.frames,ok.stk,ok.exf,ok.bs,ok.bsz,ok.adY,ok.afe,ok.KJ,ok.frf⟩
theorem Cx.Ok.D7{X:Cx}{E:Value→Shared→Prop}(ok:(X.UR E).Ok):X.Ok :=
 ⟨ok.mod,ok.kind,ok.glob,ok.blt,ok.above,ok.inj,ok.has,ok.cab,ok.hd,ok.frames,ok.stk,ok.exf,ok.bs,ok.bsz,ok.adY,ok.afe,ok.KJ,ok.frf⟩
section
variable{X:Cx}{pins:List (Addr × Obj)}{σ:St}{H:Hp}{s:Shared}{E:Value→Shared→Prop}
theorem Inv.UR(I:Inv X pins σ H s)(E:Value→Shared→Prop):Inv (X.UR E) pins σ H s:=⟨I.ok.UR E,I.os,I.bare,I.base,I.loc,I.cell,I.free,I.Ar,I.pin,I.hok,I.len⟩
theorem Inv.D7(I:Inv (X.UR E) pins σ H s):Inv X pins σ H s:=⟨I.ok.D7,I.os,I.bare,I.base,I.loc,I.cell,I.free,I.Ar,I.pin,I.hok,I.len⟩
theorem SP.D7{D:Ends}{f:Flow}{s':Shared}(h:SP (X.UR E) pins D f s'):SP X pins D f s':=by
 cases f with
 | next=>obtain⟨σ',H',I,q⟩:=h; exact⟨σ',H',I.D7,q⟩
 | brk=>obtain⟨σ',H',I,q⟩:=h; exact⟨σ',H',I.D7,q⟩
 | cont=>obtain⟨σ',H',I,q⟩:=h; exact⟨σ',H',I.D7,q⟩
 | ret u=>obtain⟨v,σ',H',I,r,q⟩:=h; exact⟨v,σ',H',I.D7,r,q⟩
theorem oS.nox{st:List Stmt}{t:TS}(h:oS X.nox st t):oS X st t:=fun pins s σ H D I hw =>
 wpAny_mono (h pins s σ H D (I.UR _) hw) (fun _ _ q=>q.D7) fun _ _ z=>lM z
end
section
variable{X:Cx}{st:Stmt}{rest:List Stmt}{t u:TS}{e:Expr}{te:TE}{pos:Pos}
noncomputable def ans:TS:=fun D σ H=>D.nx σ H
noncomputable def ad0(t u:TS):TS:=fun D σ H=>t { D with nx:=u D } σ H
theorem bD:oS X [] ans:=fun _ _ σ H _ I h=>wpAny_execs_nil ⟨σ,H,I,h⟩
theorem av(h1:PS X st t)(h2:oS X rest u):oS X (st :: rest) (ad0 t u):=by
 intro pins s σ H D I h
 refine wpAny_execs_cons (jf (h1 pins s σ H { D with nx:=u D } I h) fun f s1 q=>?_)
 cases f with
 | next =>
  obtain⟨σ',H',I',q⟩:=q
  exact h2 pins s1 σ' H' D I' q
 | ret v=>exact q
 | brk=>exact q
 | cont=>exact q
theorem aI(h1:PS X st t):oS X [st] t:=by
 intro pins s σ H D I h
 refine wpAny_execs_cons (jf (h1 pins s σ H D I h) fun f s1 q=>?_)
 cases f with
 | next=>exact wpAny_execs_nil q
 | ret v=>exact q
 | brk=>exact q
 | cont=>exact q
theorem Inv.quiet{pins:List (Addr × Obj)}{σ:St}{H:Hp}{s:Shared}(I:Inv X pins σ H s):interactive X.env=false:=by simp[interactive,I.ok.kind]
noncomputable def ant(te:TE):TS:=fun D σ H=>te σ H fun _ H1=>D.nx σ H1
theorem cJ(he:PE X e te)(hs:swapsWith e none pos.line X.env=pure false:=by rfl):PS X (.Expr e pos) (ant te):=by
 intro pins s σ H D I h
 exact wpAny_Expr_any (jf (he pins s σ H _ I h) fun v s1 ⟨x,H1,I1,r1,q1⟩=>⟨σ,H1,I1,q1⟩) I.quiet hs
noncomputable def anu(te:TE):TS:=fun D σ H=>te σ H D.rt
theorem bH(he:PE X e te):PS X (.Return (some e) pos) (anu te):=by
 intro pins s σ H D I h
 exact wpAny_Return_some (jf (he pins s σ H _ I h) fun v s1 ⟨x,H1,I1,r1,q1⟩=>⟨x,σ,H1,I1,r1,q1⟩)
noncomputable def afh(c:TT)(t u:TS):TS:=fun D σ H=>c σ H fun b H1=>if b=true then t D σ H1 else u D σ H1
theorem cU{c:Expr}{a b:List Stmt}{tc:TT}(hc:PT X c tc)(ha:oS X a t)(hb:oS X b u):PS X (.If c a b pos) (afh tc t u):=by
 intro pins s σ H D I h
 refine wpAny_If (jf (hc pins s σ H _ I h) fun d s1 ⟨H1,I1,q1⟩=>?_)
 cases d with
 | true=>exact ha pins s1 σ H1 D I1 q1
 | false=>exact hb pins s1 σ H1 D I1 q1
noncomputable def akC:TS:=fun _ _ _=>False
theorem eT{sts:List Stmt}:oS X sts akC:=fun _ _ _ _ _ _ h=>h.elim
end
noncomputable abbrev TG:=V→St→Hp→(St→Hp→Prop)→Prop
noncomputable abbrev TGs:=List V→St→Hp→(St→Hp→Prop)→Prop
noncomputable def PG(X:Cx)(target:Expr)(t:TG):Prop :=
 ∀ (pins:List (Addr × Obj)) (s:Shared) (σ:St) (H:Hp) (v:V) (u:Value) (Q:St→Hp→Prop),Inv X pins σ H s→RelV v u→t v σ H Q →
  wpAny (model X.prog X.w) X.A (assign target X.env u) (fun _ s'=>∃ σ' H',Inv X pins σ' H' s'∧Q σ' H') X.xe s
noncomputable def uS(X:Cx)(ts:List Expr)(t:TGs):Prop :=
 ∀ (pins:List (Addr × Obj)) (s:Shared) (σ:St) (H:Hp) (vs:List V) (us:List Value) (Q:St→Hp→Prop),Inv X pins σ H s→cP vs us→t vs σ H Q →
  wpAny (model X.prog X.w) X.A (assignInOrder ((assignEach ts X.env).map (·.2)) us) (fun _ s'=>∃ σ' H',Inv X pins σ' H' s'∧Q σ' H') X.xe s
noncomputable abbrev akD:=V→V→V→Hp→(Hp→Prop)→Prop
noncomputable def anv(X:Cx)(t:akD):Prop :=
 ∀ (pins:List (Addr × Obj)) (s:Shared) (σ:St) (H:Hp) (o i v:V) (ov iv u:Value) (Q:Hp→Prop),Inv X pins σ H s→RelV o ov→RelV i iv→RelV v u→t o i v H Q →
  wpAny (model X.prog X.w) X.A (setItem ov iv u) (fun _ s'=>∃ H',Inv X pins σ H' s'∧Q H') X.xe s
noncomputable abbrev TIp:=V→V→Hp→VK→Prop
noncomputable def PIp(X:Cx)(op:Operator)(t:TIp):Prop :=
 ∀ (pins:List (Addr × Obj)) (s:Shared) (σ:St) (H:Hp) (x y:V) (v u:Value) (Q:VK),Inv X pins σ H s→RelV x v→RelV y u→t x y H Q →
  wpAny (model X.prog X.w) X.A (inplaceOp op v u) (EP X pins σ Q) X.xe s
section
variable{X:Cx}{pos:Pos}
noncomputable def k8(i:Nat):TG:=fun v σ H Q=>Q (σ.set i (some v)) H
theorem bO{i:Nat}{x:Str}(hN:X.N.Nodup)(hi:X.N[i]?=some x)(hx:Loc X.env.scope x)(hf:X.fn x=true∨X.env.scope.names.lookup x=some .local:=by first | exact .inl rfl | exact .inr rfl | assumption):PG X (.Name x pos) (k8 i):=by
 intro pins s σ H v u Q I r h
 exact wpAny_assign_Name (D5 I hN hi hx r (fun s' I'=>⟨_,H,I',h⟩) hf)
noncomputable def aqH:TGs:=fun vs σ H Q=>vs = []∧Q σ H
noncomputable def anw(t:TG)(u:TGs):TGs:=fun vs σ H Q=>∃ v r,vs=v :: r∧t v σ H fun σ' H'=>u r σ' H' Q
theorem KP:uS X [] aqH:=by
 intro pins s σ H vs us Q I r h
 obtain⟨e,h⟩:=h
 subst e
 cases r
 exact assignInOrder_nil ⟨σ,H,I,h⟩
theorem kH{e:Expr}{es:List Expr}{t:TG}{u:TGs}(h1:PG X e t)(h2:uS X es u)
 (hs:(assignEach (e :: es) X.env).map (·.2)=assign e X.env :: (assignEach es X.env).map (·.2):=by rfl):uS X (e :: es) (anw t u):=by
 intro pins s σ H vs us Q I r h
 obtain⟨v,vr,e1,h⟩:=h
 subst e1
 cases r with
 | cons r rr =>
  rw[hs]
  refine assignInOrder_cons (jf (h1 pins s σ H _ _ _ I r h) fun _ s1 ⟨σ1,H1,I1,q1⟩=>?_)
  exact h2 pins s1 σ1 H1 _ _ Q I1 rr q1
noncomputable def akE(K:ah)(n:Nat)(t:TGs):TG:=fun v σ H Q=>∃ a xs,v = .ref a∧dP K H a xs∧xs.length=n∧t xs σ H Q
theorem Rk{es:List Expr}{k:Nat}{t:TGs}{n:Nat}(hc:X.calm=true)(h:uS X es t)
 (hn:(assignEach es X.env).length=n:=by rfl) (hst:(assignEach es X.env).findIdx? (·.1)=none:=by rfl):PG X (.Tuple es k pos) (akE X.K n t):=by
 intro pins s σ H v u Q I r hw
 obtain⟨a,xs,e1,hq,hl,hw⟩:=hw
 subst e1
 cases r
 obtain⟨its,rv,ht,hz⟩:=I.tuple hq
 refine assign_Tuple_tuple (I.ok.hd hc) ht (by simp[hn,← hl,rv.length]) hst fun h' hx=>?_
 have I1:Inv X pins σ H { s with heap:=h' }:=I.kept (t':=s.toks) fun b o e=>hx b o (bZ (Heap.lt_size e)) e
 exact h pins _ σ H xs _ Q I1 (by simpa using rv) hw
noncomputable def aqI(to ti:TE)(t:akD):TG:=fun v σ H Q=>to σ H fun o H1=>ti σ H1 fun i H2=>t o i v H2 fun H3=>Q σ H3
theorem akF{o i:Expr}{to ti:TE}{t:akD}(ho:PE X o to)(hi:PE X i ti)(hs:anv X t)
 (ha:∀ v,assign (.Subscript o i pos) X.env v=(do
  let ov ← holding [v] (eval o X.env)
  let iv ← holding [v,ov] (eval i X.env)
  standAt pos
  holding [v,ov,iv] (setItem ov iv v)
  release [v,ov,iv] []):=by intro _; rfl):PG X (.Subscript o i pos) (aqI to ti t):=by
 intro pins s σ H v u Q I r h
 rw[ha]
 refine wpAny_bind (wpAny_holding (jf (ho pins s σ H _ I h) fun ov s1 ⟨x,H1,I1,r1,q1⟩=>?_))
 refine wpAny_bind (wpAny_holding (jf (hi pins s1 σ H1 _ I1 q1) fun iv s2 ⟨y,H2,I2,r2,q2⟩=>?_))
 refine wpAny_bind (wpAny_standAt (wpAny_bind (wpAny_holding (jf (hs pins s2 σ H2 x y v ov iv u _ I2 r1 r2 r q2) fun _ s3 ⟨H3,I3,q3⟩=>?_))))
 exact wpAny_release ⟨σ,H3,I3,q3⟩
noncomputable def ahW(te:TE)(g:TG):TS:=fun D σ H=>te σ H fun x H1=>g x σ H1 D.nx
theorem abi{tg e:Expr}{te:TE}{g:TG}(he:PE X e te)(hg:PG X tg g)(hs:swapsWithSole [tg] e pos.line X.env=pure false:=by rfl)(hw:swappedStores [tg] e X.env=pure none:=by rfl)
 (h1:(assignEach [tg] X.env).map (·.2) = [assign tg X.env]:=by rfl):PS X (.Assign [tg] e pos) (ahW te g):=by
 intro pins s σ H D I h
 refine wpAny_Assign_stores (jf (he pins s σ H _ I h) fun v s1 ⟨x,H1,I1,r1,q1⟩=>?_) hs hw
 rw[h1]
 exact jf (hg pins s1 σ H1 x v _ I1 r1 q1) fun _ s2 q=>q
theorem bE{i:Nat}{x:Str}{e:Expr}{te:TE}{pos':Pos}(hN:X.N.Nodup)(hi:X.N[i]?=some x)(hx:Loc X.env.scope x)(he:PE X e te)(hs:swapsWith e (some (.Name x pos')) pos.line X.env=pure false:=by rfl)(hf:X.fn x=true∨X.env.scope.names.lookup x=some .local:=by first | exact .inl rfl | exact .inr rfl | assumption) :
 PS X (.Assign [.Name x pos'] e pos) (ahW te (k8 i)):=by
 intro pins s σ H D I h
 refine wpAny_Assign_Name (jf (he pins s σ H _ I h) fun v s1 ⟨y,H1,I1,r1,q1⟩=>?_) hs
 exact D5 I1 hN hi hx r1 (fun s2 I2=>⟨_,H1,I2,q1⟩) hf
noncomputable def aqJ(i j:Nat)(ta:TA):TS:=fun D σ H=>ta σ H fun vs H1=>∃ v w,vs = [v,w]∧D.nx ((σ.set i (some v)).set j (some w)) H1
theorem akG{i j:Nat}{x y:Str}{a b:Expr}{ta:TA}{px py pt:Pos}{kt k2 pt2}(hc:X.calm=true)(hN:X.N.Nodup)(hi:X.N[i]?=some x)(hj:X.N[j]?=some y)(hij:i≠j)
 (hx:X.env.scope.names.lookup x=some .local) (hy:X.env.scope.names.lookup y=some .local) (ha:PA X [a,b] ta)
 (hw:swappedStores [.Tuple [.Name x px,.Name y py] kt pt] (.Tuple [a,b] k2 pt2) X.env=pure (some [x,y]))
 (hs:swapsWithSole [.Tuple [.Name x px,.Name y py] kt pt] (.Tuple [a,b] k2 pt2) pos.line X.env=pure false:=by rfl) :
 PS X (.Assign [.Tuple [.Name x px,.Name y py] kt pt] (.Tuple [a,b] k2 pt2) pos) (aqJ i j ta):=by
 intro pins s σ H D I h
 rw[exec_Assign_arm]
 refine wpAny_bind (wpAny_standAt ?_)
 rw[hs]
 refine wpAny_bind (wpAny_pure ?_)
 rw[if_neg (by decide)]
 refine wpAny_bind (Tuple_ (jf (ha _ pins s σ H _ I h) fun us s1 ⟨vs,H1,I1,r1,q1⟩=>?_))
 obtain⟨v,w,e1,q1⟩:=q1
 subst e1
 obtain⟨u1,u2,rfl,rv,rw'⟩ : ∃ u1 u2,us = [u1,u2]∧RelV v u1∧RelV w u2:=by
  cases r1 with
  | cons p q =>
   cases q with
   | cons p' q' =>
    cases q'
    exact⟨_,_,rfl,p,p'⟩
 refine wpAny_newObj_type ?_ (by show 2≤sizeLine; decide)
 have I2:Inv X pins σ H1 { s1 with heap:=s1.heap.push { cls:=.type "tuple",data:=.seq [u1,u2].toArray } }:=I1.kept (t':=s1.toks) fun b o e=>Heap.get?_push_of_some _ e
 rw[hw]
 refine wpAny_bind (wpAny_pure ?_)
 show wpAny (model X.prog X.w) X.A (do rule "assign.swapped-stores"; let items ← unpackItems (.ref s1.heap.objs.size) 2 none; assignInOrder [fun v=>bindName X.env y v,fun v=>bindName X.env x v] items.reverse; pure Flow.next) _ _ _
 refine wpAny_bind (wpAny_rule (wpAny_bind (unpackItems_tuple (items:=#[u1,u2]) (I.ok.hd hc) (IsTup.new s1.heap _) fun h' hx'=>?_)))
 have I3:=I2.kept (h':=h') (t':=s1.toks) fun b o e=>hx' b o (bZ (Heap.lt_size e)) e
 show wpAny _ _ (assignInOrder [fun v=>bindName X.env y v,fun v=>bindName X.env x v] [u2,u1] >>= fun _=>pure Flow.next) _ _ _
 refine wpAny_bind (assignInOrder_cons (wpAny_bindName (D5 I3 hN hj (.inl hy) rw' (fun s2 I4=>?_) (.inr hy))))
 refine assignInOrder_cons (wpAny_bindName (D5 I4 hN hi (.inl hx) rv (fun s3 I5=>assignInOrder_nil (wpAny_pure ?_)) (.inr hx)))
 rw[List.set_comm _ _ (bW hij)] at I5
 exact⟨_,H1,I5,q1⟩
noncomputable def aqL(i:Nat)(te:TE)(ti:TIp):TS:=fun D σ H=>∃ x,σ[i]?=some (some x)∧te σ H fun y H1=>ti x y H1 fun z H2=>D.nx (σ.set i (some z)) H2
theorem akH{i:Nat}{x:Str}{e:Expr}{te:TE}{op:Operator}{ti:TIp}{pos':Pos}(hN:X.N.Nodup)(hi:X.N[i]?=some x)(hx:Loc X.env.scope x)(he:PE X e te)(ho:PIp X op ti)(hf:X.fn x=true∨X.env.scope.names.lookup x=some .local:=by first | exact .inl rfl | exact .inr rfl | assumption) :
 PS X (.AugAssign (.Name x pos') op e pos) (aqL i te ti):=by
 intro pins s σ H D I h
 obtain⟨v,e1,h⟩:=h
 obtain⟨m,hn,hl⟩:=I.loc
 have vis:Vis X.env.scope x:=by rcases hx with k | k; exact .inl k; exact .inr (.inl k)
 obtain⟨u,r,l⟩:=hl i x v hi e1 vis
 refine wpAny_AugAssign_Name ?_
 have go:wpAny (model X.prog X.w) X.A (eval e X.env) (fun w s₂=>wpAny (model X.prog X.w) X.A (inplaceOp op u w) (fun r s₃=>wpAny (model X.prog X.w) X.A (storeName X.env x r) (fun _=>SP X pins D .next) X.xe s₃) X.xe s₂) X.xe s:=by
  refine jf (he pins s σ H _ I h) fun w s1 ⟨y,H1,I1,r1,q1⟩=>?_
  refine jf (ho pins s1 σ H1 v y u w _ I1 r r1 q1) fun z s2 ⟨zv,H2,I2,r2,q2⟩=>?_
  exact D5 I2 hN hi hx r2 (fun s3 I3=>⟨_,H2,I3,q2⟩) hf
 rcases l with ⟨hk,hm⟩ | ⟨hk,c,hc,hcell⟩
 ·exact wpAny_loadName_local I.ok.kind hk hn hm go
 ·rcases hk with hk | hk
  ·exact wpAny_loadName_cell I.ok.kind hk hc hcell go
  ·rcases hx with k | k
   ·have:X.env.scope.names.lookup x=some .free:=hk
    rw[k] at this; cases this
   ·have:X.env.scope.names.lookup x=some .free:=hk
    rw[k] at this; cases this
noncomputable def ipI(f:Int→Int→Int):TIp:=fun x y H Q=>∃ i j,x = .int i∧y = .int j∧Q (.int (f i j)) H
theorem akI:PIp X .Add (ipI fun i j=>i + j):=by
 intro pins s σ H x y v u Q I r1 r2 h
 obtain⟨i,j,e1,e2,q⟩:=h
 subst e1; subst e2
 obtain⟨t,rfl⟩:=r1
 obtain⟨t',rfl⟩:=r2
 exact iadd_int ⟨.int _,H,I.tok _,⟨_,rfl⟩,q⟩
end
section
variable{X:Cx}{pos:Pos}
noncomputable def abj(c:TT)(tb:TS):TS:=fun D σ H=>∃ W:Nat→St→Hp→Prop,(∃ m,W m σ H)∧∀ m σ H,W m σ H →
 c σ H fun b H1=>if b=true then ∃ N:St→Hp→Prop,(∀ σ' H',N σ' H'→∃ m',m' < m∧W m' σ' H')∧tb { D with nx:=N,ct:=N,bk:=D.nx } σ H1 else D.nx σ H1
theorem Zb{c:Expr}{body:List Stmt}{tc:TT}{tb:TS}(hp:PassesOwn (model X.prog X.w) X.A X.env X.xe)(hc:PT X c tc)(hb:oS X body tb):PS X (.While c body [] pos) (abj tc tb):=by
 intro pins s σ H D I h
 obtain⟨W,⟨m0,w0⟩,turn⟩:=h
 refine wpAny_While (codeAny_whileLoop (fun n s'=>∃ σ' H',Inv X pins σ' H' s'∧W n σ' H') ?_ m0 ⟨σ,H,I,w0⟩)
 rintro n s1 ⟨σ1,H1,I1,w1⟩
 refine wpAny_passesOwn hp (jf (hc pins s1 σ1 H1 _ I1 (turn n σ1 H1 w1)) fun b s2 ⟨H2,I2,q2⟩=>?_)
 cases b with
 | true =>
  obtain⟨N,hN,q2⟩:=q2
  rw[if_pos rfl]
  refine wpAny_passesOwn hp (jf (hb pins s2 σ1 H2 _ I2 q2) fun f s3 q3=>?_)
  cases f with
  | next =>
   obtain⟨σ3,H3,I3,n3⟩:=q3
   obtain⟨m',hm,w3⟩:=hN σ3 H3 n3
   exact⟨m',hm,σ3,H3,I3,w3⟩
  | cont =>
   obtain⟨σ3,H3,I3,n3⟩:=q3
   obtain⟨m',hm,w3⟩:=hN σ3 H3 n3
   exact⟨m',hm,σ3,H3,I3,w3⟩
  | brk=>exact q3
  | ret v=>exact q3
 | false =>
  rw[if_neg aN]
  exact wpAny_execs_nil ⟨σ1,H2,I2,q2⟩
end
structure It where
 go:Nat→Hp→Prop
 WM:Nat→Hp→V→Hp→Prop
 stop:Nat→Hp→Prop
noncomputable def KQ(X:Cx)(pins:List (Addr × Obj))(H:Hp)(b:Addr):Prop :=
 H b=none∧b≠X.env.locals∧b ∉ X.fs∧(b∈X.ex∨X.s₀.heap.objs.size≤b)∧(∀ x c,X.env.cells.lookup x=some c→c≠b)∧∀ p∈X.pn++pins,p.1≠b
theorem Inv.ahX{X:Cx}{pins:List (Addr × Obj)}{σ:St}{H H':Hp}{s:Shared}{b:Addr}(I:Inv X pins σ H s)(hb:s.heap.objs.size≤b)(hn:H' b=none):KQ X pins H' b:=by
 refine⟨hn,Nat.ne_of_gt (bL I.lt hb),I.aqB hb,.inr (aX I.sz hb),fun x c e z=>?_,fun p hp z=>?_⟩
 ·obtain⟨v,q⟩:=I.cell x c e
  exact absurd (bL q.lt (by rw[z]; exact hb)) (ql _)
 ·exact absurd (bL (Heap.lt_size (I.pin p hp).1) (by rw[z]; exact hb)) (ql _)
structure Turn(P:Program)(w:World)(K:ah)(tg:Expr)(J:It)(fp:List Addr)(it:Addr)(tn:Nat→Heap→Prop):Prop where
 mem:it∈fp
 obj:∀ i h,tn i h→∀ b∈fp,∃ o,h.get? b=some o∧∀ v,o.data≠.cell v
 keep:∀ i h h',tn i h→(∀ b∈fp,∀ o,h.get? b=some o→h'.get? b=some o)→tn i h'
 item:∀ (X:Cx),X.prog=P→X.w=w→X.K=K→X.calm=true→∀ (i:Nat) (pins:List (Addr × Obj)) (s:Shared) (σ:St) (H:Hp) (E:Value→Shared→Prop),Inv X pins σ H s→(∀ b∈fp,KQ X pins H b)→tn i s.heap→J.go i H →
  wpAny (model P w) X.A (pyNext (.ref it)) (fun r s1=>∃ u,r=some u ∧
   wpAny (model P w) X.A (letOwnedTupleGo tg (.ref it) u) (fun _ s2=>∃ x H',Inv X pins σ H' s2∧RelV x u∧J.WM i H x H'∧tn (i + 1) s2.heap∧∀ b∈fp,H' b=none) E s1) E s
 done:∀ (X:Cx),X.prog=P→X.w=w→X.K=K→X.calm=true→∀ (i:Nat) (pins:List (Addr × Obj)) (s:Shared) (σ:St) (H:Hp) (E:Value→Shared→Prop),Inv X pins σ H s→(∀ b∈fp,KQ X pins H b)→tn i s.heap→J.stop i H →
  wpAny (model P w) X.A (pyNext (.ref it)) (fun r s1=>r=none∧Inv X pins σ H s1) E s
 self:∀ (A:Around) (i:Nat) (s:Shared) (Q:Value→Shared→Prop) (E:Value→Shared→Prop),tn i s.heap→Q (.ref it) s→wpAny (model P w) A (pyIter (.ref it)) Q E s
noncomputable abbrev TI:=St→Hp→(It→Hp→Prop)→Prop
noncomputable def PIE(X:Cx)(pins:List (Addr × Obj))(σ:St)(tg:Expr)(R:It→Hp→Prop)(itv:Value)(s2:Shared):Prop :=
 ∃ (it:Addr) (fp:List Addr) (tn:Nat→Heap→Prop) (J:It) (H':Hp),itv = .ref it∧Inv X pins σ H' s2∧Turn X.prog X.w X.K tg J fp it tn∧tn 0 s2.heap∧(∀ b∈fp,KQ X pins H' b)∧R J H'
noncomputable def PI(X:Cx)(tg iter:Expr)(wi:TI):Prop :=
 ∀ (pins:List (Addr × Obj)) (s:Shared) (σ:St) (H:Hp) (R:It→Hp→Prop),Inv X pins σ H s→wi σ H R →
  wpAny (model X.prog X.w) X.A (eval iter X.env) (fun v s1=>wpAny (model X.prog X.w) X.A (pyIter v) (PIE X pins σ tg R) X.xe s1) X.xe s
theorem afi{M:Model}{A:Around}{E:Value→Shared→Prop}{s:Shared}{tg:Expr}{it:Addr}{u:Value}{o:Obj}{n:String}{vs:Array Value}{Q:Unit→Shared→Prop}(ho:s.heap.get? it=some o)(hc:o.cls = .type n)(hd:o.data = .fields vs)
 (hn:["enumerate","zip","dict_itemiterator","dict_reverseitemiterator","odict_iterator","itertools.zip_longest","itertools.pairwise"].contains n=false) (hQ:Q () s):wpAny M A (letOwnedTupleGo tg (.ref it) u) Q E s:=by
 unfold letOwnedTupleGo
 cases tg <;> first
  | exact wpAny_pure hQ
  | (cases u <;> first
   | exact wpAny_pure hQ
   | (refine wpAny_bind (wpAny_load ho ?_)
      rw[hc,hd]
      show wpAny M A (if (["enumerate","zip","dict_itemiterator","dict_reverseitemiterator","odict_iterator","itertools.zip_longest","itertools.pairwise"].contains n && vs[0]? == some (rawInt _))=true then _ else _) Q E s
      rw[if_neg (by intro h; rw[hn,Bool.false_and] at h; cases h)]
      exact wpAny_pure hQ))
noncomputable def WN(K:ah)(a:Addr):It :=
 ⟨fun i H=>∃ xs x,ck K H a xs∧xs[i]?=some x,fun i H x H'=>H'=H∧∀ xs,ck K H a xs→xs[i]?=some x,fun i H=>∃ xs,ck K H a xs∧xs.length≤i⟩
noncomputable def Itt(K:ah)(a:Addr):It :=
 ⟨fun i H=>∃ xs x,dP K H a xs∧xs[i]?=some x,fun i H x H'=>H'=H∧∀ xs,dP K H a xs→xs[i]?=some x,fun i H=>∃ xs,dP K H a xs∧xs.length≤i⟩
noncomputable def Itr(lo:Int)(n:Nat):It:=⟨fun i _=>i < n,fun i H x H'=>H'=H∧x = .int (lo + i),fun i _=>n≤i⟩
theorem ad1{P:Program}{w:World}{K:ah}{tg:Expr}(a it:Addr):Turn P w K tg (WN K a) [it] it (fun i h=>h.IsListIter it a i) where
 mem:=by simp
 obj:=fun i h st b hb=>by
  have e:b=it:=by simpa using hb
  subst e
  obtain⟨o,e,c,d⟩:=st
  exact⟨o,e,fun v z=>by rw[d] at z; cases z⟩
 keep:=fun i h h' st k=>st.at fun o e=>k it (by simp) o e
 item:=by
  intro X hP hw hK hc i pins s σ H E I hf st hg
  subst hP hw hK
  obtain⟨xs,x,hq,hx⟩:=hg
  obtain⟨its,rv,p,hz⟩:=I.list hq
  obtain⟨u,hu,ru⟩:=rv.get hx
  obtain⟨f0,f1,f2,f3,f4,f5⟩:=hf it (by simp)
  refine wpAny_pyNext_list_item st p.isList (x:=u) (by simpa using hu) fun h' st' sb=>?_
  have I1:Inv X pins σ H { s with heap:=h' }:=I.turned (t':=s.toks) (fun b o hb e=>(sb.2 b hb).trans e) f0 f1 f3 f4 f5
  obtain⟨o,e,c,d⟩:=id st'
  exact⟨u,rfl,afi (s:={ s with heap:=h' }) e c d (by decide) ⟨x,H,I1,ru,⟨rfl,fun ys hy=>by rw[I.Za hy hq]; exact hx⟩,st',fun b hb=>(hf b hb).1⟩⟩
 done:=by
  intro X hP hw hK hc i pins s σ H E I hf st hg
  subst hP hw hK
  obtain⟨xs,hq,hx⟩:=hg
  obtain⟨its,rv,p,hz⟩:=I.list hq
  obtain⟨f0,f1,f2,f3,f4,f5⟩:=hf it (by simp)
  have hl:=rv.length
  exact wpAny_pyNext_list_end (I.ok.hd hc) st p.isList (by simp; omega) fun h' eb=>⟨rfl,I.turned (t':=s.toks) (fun b o hb e=>eb b o hb e) f0 f1 f3 f4 f5⟩
 self:=fun _ _ _ _ _ st h=>wpAny_pyIter_listiter st h
theorem abk{P:Program}{w:World}{K:ah}{tg:Expr}(a it:Addr):Turn P w K tg (Itt K a) [it] it (fun i h=>h.IsTupleIter it a i) where
 mem:=by simp
 obj:=fun i h st b hb=>by
  have e:b=it:=by simpa using hb
  subst e
  obtain⟨o,e,c,d⟩:=st
  exact⟨o,e,fun v z=>by rw[d] at z; cases z⟩
 keep:=fun i h h' st k=>st.at fun o e=>k it (by simp) o e
 item:=by
  intro X hP hw hK hc i pins s σ H E I hf st hg
  subst hP hw hK
  obtain⟨xs,x,hq,hx⟩:=hg
  obtain⟨its,rv,p,hz⟩:=I.tuple hq
  obtain⟨u,hu,ru⟩:=rv.get hx
  obtain⟨f0,f1,f2,f3,f4,f5⟩:=hf it (by simp)
  refine wpAny_pyNext_tuple_item st (show s.heap.IsTuple a its.toArray from p) (x:=u) (by simpa using hu) fun h' st' sb=>?_
  have I1:Inv X pins σ H { s with heap:=h' }:=I.turned (t':=s.toks) (fun b o hb e=>(sb.2 b hb).trans e) f0 f1 f3 f4 f5
  obtain⟨o,e,c,d⟩:=id st'
  exact⟨u,rfl,afi (s:={ s with heap:=h' }) e c d (by decide) ⟨x,H,I1,ru,⟨rfl,fun ys hy=>by rw[I.adZ hy hq]; exact hx⟩,st',fun b hb=>(hf b hb).1⟩⟩
 done:=by
  intro X hP hw hK hc i pins s σ H E I hf st hg
  subst hP hw hK
  obtain⟨xs,hq,hx⟩:=hg
  obtain⟨its,rv,p,hz⟩:=I.tuple hq
  obtain⟨f0,f1,f2,f3,f4,f5⟩:=hf it (by simp)
  have hl:=rv.length
  exact wpAny_pyNext_tuple_end (I.ok.hd hc) st (show s.heap.IsTuple a its.toArray from p) (by simp; omega) fun h' eb=>⟨rfl,I.turned (t':=s.toks) (fun b o hb e=>eb b o hb e) f0 f1 f3 f4 f5⟩
 self:=fun _ _ _ _ _ st h=>wpAny_pyIter_tupleiter st h
theorem abl{P:Program}{w:World}{K:ah}{tg:Expr}(it:Addr)(lo:Int)(n:Nat):Turn P w K tg (Itr lo n) [it] it (fun i h=>IsRangeIter h it (lo + (i:Nat) * 1) ((n:Int) - (i:Nat)) 1) where
 mem:=by simp
 obj:=fun i h st b hb=>by
  have e:b=it:=by simpa using hb
  subst e
  exact⟨_,st,fun v z=>by
   have z':Data.fields _=Data.cell v:=z
   cases z'⟩
 keep:=fun i h h' st k=>k it (by simp) _ st
 item:=by
  intro X hP hw hK hc i pins s σ H E I hf st hg
  subst hP hw hK
  obtain⟨f0,f1,f2,f3,f4,f5⟩:=hf it (by simp)
  have W:=Walks.range (prog:=X.prog) (w:=X.w) (I.ok.hd hc) it lo 1 n
  refine W.item i s _ _ hg st fun v h' tk hv st' kk=>?_
  obtain⟨t,rfl⟩:=hv
  have I1:Inv X pins σ H { s with heap:=h',toks:=tk }:=I.turned (fun b o hb e=>kk b o (by simpa using hb) e) f0 f1 f3 f4 f5
  refine⟨_,rfl,afi (s:={ s with heap:=h',toks:=tk }) (n:="range_iterator") st' rfl rfl (by decide) ⟨.int (lo + i),H,I1,⟨t,?_⟩,⟨rfl,rfl⟩,st',fun b hb=>(hf b hb).1⟩⟩
  rw[Int.mul_one]
 done:=by
  intro X hP hw hK hc i pins s σ H E I hf st hg
  subst hP hw hK
  obtain⟨f0,f1,f2,f3,f4,f5⟩:=hf it (by simp)
  exact wpAny_pyNext_range_end (I.ok.hd hc) st (by have:n≤i:=hg; omega) fun h' eb=>⟨rfl,I.turned (t':=s.toks) (fun b o hb e=>eb b o hb e) f0 f1 f3 f4 f5⟩
 self:=fun _ _ _ _ _ st h=>wpAny_pyIter_rangeiter st h
end L2
namespace L2
open PySem PySem.Spec PyProof.Rows
section
variable{X:Cx}{tg:Expr}
noncomputable def anx(K:ah)(tl:TE):TI:=fun σ H R=>tl σ H fun x H1=>∃ a,x = .ref a∧(∃ xs,ck K H1 a xs)∧R (WN K a) H1
noncomputable def aqM(K:ah)(tl:TE):TI:=fun σ H R=>tl σ H fun x H1=>∃ a,x = .ref a∧(∃ xs,dP K H1 a xs)∧R (Itt K a) H1
theorem gD{l:Expr}{tl:TE}(hl:PE X l tl):PI X tg l (anx X.K tl):=by
 intro pins s σ H R I h
 refine jf (hl pins s σ H _ I h) fun v s1 ⟨x,H1,I1,r1,q1⟩=>?_
 obtain⟨a,e,⟨xs,hq⟩,q⟩:=q1
 subst e
 cases r1
 obtain⟨its,rv,p,hz⟩:=I1.list hq
 refine wpAny_pyIter_list p.isList ?_
 refine⟨s1.heap.objs.size,[s1.heap.objs.size],_,_,H1,rfl,I1.kept (t':=s1.toks) fun b o e=>Heap.get?_push_of_some _ e,ad1 a _,⟨_,Heap.get?_push_size _ rfl,rfl,rfl⟩,fun b hb=>?_,q⟩
 have e:b=s1.heap.objs.size:=by simpa using hb
 subst e
 exact I1.ahX (aK _) (I1.hok.fresh (aK _))
theorem abm{l:Expr}{tl:TE}(hl:PE X l tl):PI X tg l (aqM X.K tl):=by
 intro pins s σ H R I h
 refine jf (hl pins s σ H _ I h) fun v s1 ⟨x,H1,I1,r1,q1⟩=>?_
 obtain⟨a,e,⟨xs,hq⟩,q⟩:=q1
 subst e
 cases r1
 obtain⟨its,rv,p,hz⟩:=I1.tuple hq
 refine wpAny_pyIter_tuple (show s1.heap.IsTuple a its.toArray from p) ?_
 refine⟨s1.heap.objs.size,[s1.heap.objs.size],_,_,H1,rfl,I1.kept (t':=s1.toks) fun b o e=>Heap.get?_push_of_some _ e,abk a _,⟨_,Heap.get?_push_size _ rfl,rfl,rfl⟩,fun b hb=>?_,q⟩
 have e:b=s1.heap.objs.size:=by simpa using hb
 subst e
 exact I1.ahX (aK _) (I1.hok.fresh (aK _))
theorem afk{pins:List (Addr × Obj)}{σ:St}{H:Hp}{s:Shared}{R:It→Hp→Prop}{E:Value→Shared→Prop}{lo hi:Int}{t u v:Tok}{tk:Nat}(I:Inv X pins σ H s)(h1 : -(2 ^ 62)≤lo)(h2:lo < 2 ^ 62)(h3 : -(2 ^ 62)≤hi)(h4:hi < 2 ^ 62)
 (q:R (Itr lo (hi - lo).toNat) H):wpAny (model X.prog X.w) X.A (pyIter (.ref s.heap.objs.size)) (PIE X pins σ tg R) E { s with heap:=s.heap.push { cls:=.type "range",data:=.fields #[.int lo t,.int hi u,.int 1 v] },toks:=tk }:=by
 refine wpAny_pyIter_range (IsRange.new ..) (small_one h1 h2 h3 h4) ?_
 have I1:Inv X pins σ H { s with heap:=s.heap.push { cls:=.type "range",data:=.fields #[.int lo t,.int hi u,.int 1 v] },toks:=tk }:=I.kept fun b o e=>Heap.get?_push_of_some _ e
 refine⟨(s.heap.push { cls:=.type "range",data:=.fields #[.int lo t,.int hi u,.int 1 v] }).objs.size,[(s.heap.push { cls:=.type "range",data:=.fields #[.int lo t,.int hi u,.int 1 v] }).objs.size],_,_,H,rfl,
  I1.kept (t':=tk) fun b o e=>Heap.get?_push_of_some _ e,abl _ lo (hi - lo).toNat,?_,fun b hb=>?_,q⟩
 ·have e1:lo + ((0:Nat):Int) * 1=lo:=by simp
  have e2:(((hi - lo).toNat:Nat):Int) - ((0:Nat):Int)=Builtin.Range.rangeSize lo hi 1:=by rw[rangeSize_one]; split <;> omega
  show IsRangeIter _ _ (lo + ((0:Nat):Int) * 1) ((((hi - lo).toNat:Nat):Int) - ((0:Nat):Int)) 1
  rw[e1,e2]
  exact Heap.get?_push_size _ rfl
 ·have e:b=(s.heap.push { cls:=.type "range",data:=.fields #[.int lo t,.int hi u,.int 1 v] }).objs.size:=by simpa using hb
  subst e
  exact I1.ahX (aK _) (I1.hok.fresh (aK _))
noncomputable def anz(ta:TA):TI:=fun σ H R=>ta σ H fun vs H1=>∃ j:Int,vs = [.int j]∧-(2 ^ 62)≤j∧j < 2 ^ 62∧R (Itr 0 j.toNat) H1
theorem iX{a:Expr}{ta:TA}{p pos:Pos}(hg:Gl X "range")(hm:X.mg "range" = none)(ha:PA X [a] ta)(hs:starEach [a] X.env = [(false,eval a X.env)]:=by rfl):PI X tg (.Call (.Name "range" p) [a] [] pos) (anz ta):=by
 intro pins s σ H R I h
 refine Call_ (Ri I hg hm boot_range (PyProof.Rows.callWith_type1 (jf (ha pos pins s σ H _ I h) fun us s1 ⟨vs,H1,I1,r1,q1⟩=>?_) hs rfl))
 obtain⟨j,e,q1,q2,q⟩:=q1
 subst e
 cases r1 with
 | cons r rr =>
  cases rr
  obtain⟨t,rfl⟩:=r
  exact call_range_1 (afk I1 (by omega) (by omega) q1 q2 (by simpa using q))
noncomputable def aqN(wi:TI)(g:TG)(tb:TS):TS:=fun D σ H=>wi σ H fun J H1=>∃ W:Nat→Nat→St→Hp→Prop,(∃ m,W 0 m σ H1)∧∀ i m σ H,W i m σ H →
 (J.stop i H∧D.nx σ H)∨(J.go i H∧∃ N:St→Hp→Prop,(∀ σ' H',N σ' H'→∃ m',m' < m∧W (i + 1) m' σ' H')∧∀ x H',J.WM i H x H'→g x σ H' fun σ2 H2=>tb { D with nx:=N,ct:=N,bk:=D.nx } σ2 H2)
noncomputable def Rl(fp:List Addr)(h:Heap):List (Addr × Obj):=fp.filterMap fun b=>(h.get? b).map fun o=>(b,o)
theorem IY{fp:List Addr}{h:Heap}{b:Addr}{o:Obj}(hb:b∈fp)(e:h.get? b=some o):(b,o)∈Rl fp h:=List.mem_filterMap.mpr ⟨b,hb,by rw[e]; rfl⟩
theorem ad2{fp:List Addr}{h:Heap}{p:Addr × Obj}(hp:p∈Rl fp h):p.1∈fp∧h.get? p.1=some p.2:=by
 obtain⟨b,hb,e⟩:=List.mem_filterMap.mp hp
 cases q:h.get? b with
 | none=>rw[q] at e; cases e
 | some o =>
  rw[q] at e
  have e':(b,o)=p:=aS e
  subst e'
  exact⟨hb,q⟩
theorem Inv.pinned{pins:List (Addr × Obj)}{σ:St}{H:Hp}{s:Shared}{fp:List Addr}(I:Inv X pins σ H s)(hf:∀ b∈fp,KQ X pins H b)(ho:∀ b∈fp,∃ o,s.heap.get? b=some o∧∀ v,o.data≠.cell v):Inv X (pins++Rl fp s.heap) σ H s :=
 I.ac4 fun p hp=>(cy.mp hp).elim (fun z=>I.pin p (eW _ z)) fun z=>by
  obtain⟨hb,e⟩:=ad2 z
  obtain⟨f0,f1,f2,_⟩:=hf p.1 hb
  obtain⟨o,e',d⟩:=ho p.1 hb
  rw[e] at e'; cases e'
  exact⟨e,f0,f1,f2,d⟩
theorem Inv.KR{pins pl:List (Addr × Obj)}{σ:St}{H:Hp}{s:Shared}(I:Inv X (pins++pl) σ H s):Inv X pins σ H s:=I.ac4 fun p hp=>I.pin p (eW _ (List.mem_append_left _ hp))
theorem jW{iter:Expr}{body:List Stmt}{wi:TI}{g:TG}{tb:TS}{pos:Pos}(hp:PassesOwn (model X.prog X.w) X.A X.env X.xe)(hc:X.calm=true)(hi:PI X tg iter wi)(hg:PG X tg g)(hb:oS X body tb)
 (hs:∀ x,foldedSetIterable iter X.env x=pure x:=by intro _; rfl):PS X (.For tg iter body [] pos) (aqN wi g tb):=by
 intro pins s σ H D I h
 refine wpAny_For (jf (hi pins s σ H _ I h) fun v s1 h1=>jf h1 fun itv s2 h2=>?_) hs
 obtain⟨it,fp,tn,J,H2,e,I2,T,st2,f2,W,⟨m0,w0⟩,turn⟩:=h2
 subst e
 have stat:∀ {H':Hp},(∀ b∈fp,H' b=none)→∀ b∈fp,KQ X pins H' b:=fun hn b hb=>⟨hn b hb,(f2 b hb).2⟩
 refine codeAny_forLoop_any (fun n s'=>∃ i σ' H',Inv X pins σ' H' s'∧tn i s'.heap∧(∀ b∈fp,H' b=none)∧W i n σ' H') ?_ m0 ⟨0,σ,H2,I2,st2,fun b hb=>(f2 b hb).1,w0⟩
 rintro n s3 ⟨i,σ3,H3,I3,st3,fr3,w3⟩
 rcases turn i n σ3 H3 w3 with ⟨stop,qn⟩ | ⟨go,N,hN,step⟩
 ·refine wpAny_passesOwn hp (jf (T.done X rfl rfl rfl hc i pins s3 σ3 H3 X.xe I3 (stat fr3) st3 stop) fun r s4 ⟨hr,I4⟩=>?_)
  subst hr
  exact wpAny_execs_nil ⟨σ3,H3,I4,qn⟩
 ·refine wpAny_passesOwn hp (jf (T.item X rfl rfl rfl hc i pins s3 σ3 H3 X.xe I3 (stat fr3) st3 go) fun r s4 ⟨u,hr,h4⟩=>?_)
  subst hr
  refine wpAny_passesOwn hp (jf h4 fun _ s5 ⟨x,H5,I5,r5,y5,st5,fr5⟩=>?_)
  have I5':=I5.pinned (stat fr5) (T.obj _ _ st5)
  refine wpAny_passesOwn hp (jf (hg _ s5 σ3 H5 x u _ I5' r5 (step x H5 y5)) fun _ s6 ⟨σ6,H6,I6,q6⟩=>?_)
  refine wpAny_passesOwn hp (jf (hb _ s6 σ6 H6 _ I6 q6) fun f s7 q7=>?_)
  have again:∀ {σ7:St} {H7:Hp},Inv X (pins++Rl fp s5.heap) σ7 H7 s7→N σ7 H7→∃ m,m < n∧∃ i σ' H',Inv X pins σ' H' s7∧tn i s7.heap∧(∀ b∈fp,H' b=none)∧W i m σ' H':=fun {σ7 H7} I7 n7=>by
   obtain⟨m',hm,w7⟩:=hN σ7 H7 n7
   refine⟨m',hm,i + 1,σ7,H7,I7.KR,T.keep _ _ _ st5 fun b hb o e=>(I7.pin (b,o) (eW _ (eW _ (IY hb e)))).1,fun b hb=>?_,w7⟩
   obtain⟨o,e,d⟩:=T.obj _ _ st5 b hb
   exact (I7.pin (b,o) (eW _ (eW _ (IY hb e)))).2.1
  cases f with
  | next=>obtain⟨σ7,H7,I7,n7⟩:=q7; exact again I7 n7
  | cont=>obtain⟨σ7,H7,I7,n7⟩:=q7; exact again I7 n7
  | brk=>obtain⟨σ7,H7,I7,q7⟩:=q7; exact⟨σ7,H7,I7.KR,q7⟩
  | ret v=>obtain⟨x7,σ7,H7,I7,r7,q7⟩:=q7; exact⟨x7,σ7,H7,I7.KR,r7,q7⟩
end
theorem r9{K:ah}{a:Addr}{xs:List V}{g:TG}{tb:TS}{D:Ends}{σ:St}{H:Hp}(Pv:Nat→St→Hp→Prop)(h0:Pv 0 σ H)(hl:∀ i σ H,i≤xs.length→Pv i σ H→ck K H a xs)
 (hs:∀ i x σ H,xs[i]?=some x→Pv i σ H→g x σ H fun σ2 H2=>tb { D with nx:=Pv (i + 1),ct:=Pv (i + 1),bk:=D.nx } σ2 H2) (hd:∀ σ H,Pv xs.length σ H→D.nx σ H) :
 ∃ W:Nat→Nat→St→Hp→Prop,(∃ m,W 0 m σ H)∧∀ i m σ H,W i m σ H →
  ((WN K a).stop i H∧D.nx σ H)∨((WN K a).go i H∧∃ N:St→Hp→Prop,(∀ σ' H',N σ' H'→∃ m',m' < m∧W (i + 1) m' σ' H')∧∀ x H',(WN K a).WM i H x H'→g x σ H' fun σ2 H2=>tb { D with nx:=N,ct:=N,bk:=D.nx } σ2 H2):=by
 refine⟨fun i m σ H=>m=xs.length - i∧i≤xs.length∧Pv i σ H,⟨xs.length,by simp,bJ _,h0⟩,?_⟩
 rintro i m σ H ⟨rfl,hi,p⟩
 have q:=hl i σ H hi p
 by_cases hlt:i < xs.length
 ·refine .inr ⟨⟨xs,xs[i],q,by simp[hlt]⟩,Pv (i + 1),fun σ' H' p'=>⟨xs.length - (i + 1),by omega,rfl,hlt,p'⟩,fun x H' y=>?_⟩
  obtain⟨e,y⟩:=y
  subst e
  exact hs i x σ _ (y xs q) p
 ·have e:i=xs.length:=by omega
  subst e
  exact .inl ⟨⟨xs,q,aK _⟩,hd σ H p⟩
theorem vz{lo:Int}{n:Nat}{g:TG}{tb:TS}{D:Ends}{σ:St}{H:Hp}(Pv:Nat→St→Hp→Prop)(h0:Pv 0 σ H)
 (hs:∀ i σ H,i < n→Pv i σ H→g (.int (lo + i)) σ H fun σ2 H2=>tb { D with nx:=Pv (i + 1),ct:=Pv (i + 1),bk:=D.nx } σ2 H2) (hd:∀ σ H,Pv n σ H→D.nx σ H) :
 ∃ W:Nat→Nat→St→Hp→Prop,(∃ m,W 0 m σ H)∧∀ i m σ H,W i m σ H →
  ((Itr lo n).stop i H∧D.nx σ H)∨((Itr lo n).go i H∧∃ N:St→Hp→Prop,(∀ σ' H',N σ' H'→∃ m',m' < m∧W (i + 1) m' σ' H')∧∀ x H',(Itr lo n).WM i H x H'→g x σ H' fun σ2 H2=>tb { D with nx:=N,ct:=N,bk:=D.nx } σ2 H2):=by
 refine⟨fun i m σ H=>m=n - i∧i≤n∧Pv i σ H,⟨n,by simp,bJ _,h0⟩,?_⟩
 rintro i m σ H ⟨rfl,hi,p⟩
 by_cases hlt:i < n
 ·refine .inr ⟨hlt,Pv (i + 1),fun σ' H' p'=>⟨n - (i + 1),by omega,rfl,hlt,p'⟩,fun x H' y=>?_⟩
  obtain⟨e,y⟩:=y
  subst e y
  exact hs i σ _ hlt p
 ·have e:i=n:=by omega
  subst e
  exact .inl ⟨aK _,hd σ H p⟩
theorem afm{c:TT}{tb:TS}{D:Ends}{σ:St}{H:Hp}(Pv:St→Hp→Prop)(μ:St→Hp→Nat)(h0:Pv σ H)
 (hs:∀ σ H,Pv σ H→c σ H fun b H1=>if b=true then tb { D with nx:=fun σ' H'=>Pv σ' H'∧μ σ' H' < μ σ H,ct:=fun σ' H'=>Pv σ' H'∧μ σ' H' < μ σ H,bk:=D.nx } σ H1 else D.nx σ H1)
 (mono:∀ σ H Q Q',(∀ b H1,Q b H1→Q' b H1)→c σ H Q→c σ H Q'):abj c tb D σ H:=by
 refine⟨fun m σ H=>m=μ σ H∧Pv σ H,⟨_,rfl,h0⟩,?_⟩
 rintro m σ H ⟨rfl,p⟩
 refine mono σ H _ _ (fun b H1 q=>?_) (hs σ H p)
 cases b with
 | true=>exact⟨_,fun σ' H' ⟨p',l⟩=>⟨_,l,rfl,p'⟩,q⟩
 | false=>exact q
end L2
namespace L2
open PySem PySem.Spec PyProof.Rows
noncomputable abbrev R2:=V→V→Hp→VK→Prop
noncomputable def D8(X:Cx)(f:Value→Value→Sem Value)(r:R2):Prop :=
 ∀ (pins:List (Addr × Obj)) (s:Shared) (σ:St) (H:Hp) (x y:V) (v u:Value) (Q:VK),Inv X pins σ H s→RelV x v→RelV y u→r x y H Q →
  wpAny (model X.prog X.w) X.A (f v u) (EP X pins σ Q) X.xe s
noncomputable def UnR(X:Cx)(f:Value→Sem Value)(r:V→Hp→VK→Prop):Prop :=
 ∀ (pins:List (Addr × Obj)) (s:Shared) (σ:St) (H:Hp) (x:V) (v:Value) (Q:VK),Inv X pins σ H s→RelV x v→r x H Q →
  wpAny (model X.prog X.w) X.A (f v) (EP X pins σ Q) X.xe s
noncomputable def vL(X:Cx)(f:Value)(r:List V→Hp→VK→Prop):Prop :=
 ∀ (pins:List (Addr × Obj)) (s:Shared) (σ:St) (H:Hp) (xs:List V) (us:List Value) (Q:VK),Inv X pins σ H s→cP xs us→r xs H Q →
  wpAny (model X.prog X.w) X.A (call f us) (EP X pins σ Q) X.xe s
noncomputable def aqP(X:Cx)(r:V→Hp→(Bool→Hp→Prop)→Prop):Prop :=
 ∀ (pins:List (Addr × Obj)) (s:Shared) (σ:St) (H:Hp) (x:V) (v:Value) (Q:Bool→Hp→Prop),Inv X pins σ H s→RelV x v→r x H Q →
  wpAny (model X.prog X.w) X.A (truthy v) (TP X pins σ Q) X.xe s
noncomputable def tOp(r:R2)(ta tb:TE):TE:=fun σ H Q=>ta σ H fun x H1=>tb σ H1 fun y H2=>r x y H2 Q
noncomputable def tUn(r:V→Hp→VK→Prop)(ta:TE):TE:=fun σ H Q=>ta σ H fun x H1=>r x H1 Q
noncomputable def rI(C:Int→Int→Prop)(g:Int→Int→V):R2:=fun x y H Q=>∃ i j,x = .int i∧y = .int j∧C i j∧Q (g i j) H
noncomputable def rI0(g:Int→Int→V):R2:=fun x y H Q=>∃ i j,x = .int i∧y = .int j∧Q (g i j) H
noncomputable def rU(g:Int→V):V→Hp→VK→Prop:=fun x H Q=>∃ i,x = .int i∧Q (g i) H
section
variable{X:Cx}{a b c:Expr}{ta tb tc:TE}{pos:Pos}
theorem akJ(ha:PE X a ta)(hb:PE X b tb){pins:List (Addr × Obj)}{s:Shared}{σ:St}{H:Hp}{R:V→V→Hp→Prop}(I:Inv X pins σ H s)
 (h:ta σ H fun x H1=>tb σ H1 fun y H2=>R x y H2) {Q:Value→Shared→Prop} {f:Value→Value→Sem Value}
 (hf:∀ v u s2 x y H2,Inv X pins σ H2 s2→RelV x v→RelV y u→R x y H2→wpAny (model X.prog X.w) X.A (f v u) Q X.xe s2) :
 wpAny (model X.prog X.w) X.A (eval a X.env) (fun v s₁=>wpAny (model X.prog X.w) X.A (eval b X.env) (fun u s₂=>wpAny (model X.prog X.w) X.A (f v u) Q X.xe s₂) X.xe s₁) X.xe s:=by
 refine jf (ha pins s σ H _ I h) fun v s1 ⟨x,H1,I1,r1,q1⟩=>?_
 refine jf (hb pins s1 σ H1 _ I1 q1) fun u s2 ⟨y,H2,I2,r2,q2⟩=>?_
 exact hf v u s2 x y H2 I2 r1 r2 q2
theorem bB{op:Operator}{r:R2}(ho:D8 X (binaryOp op) r)(ha:PE X a ta)(hb:PE X b tb):PE X (.BinOp a op b pos) (tOp r ta tb):=by
 intro pins s σ H Q I h
 exact wpAny_BinOp (akJ ha hb I h fun v u s2 x y H2 I2 rx ry q=>ho pins s2 σ H2 x y v u Q I2 rx ry q)
theorem anC{op:UnaryOp}{r:V→Hp→VK→Prop}(ho:UnR X (unaryOp op) r)(ha:PE X a ta):PE X (.UnaryOp op a pos) (tUn r ta):=by
 intro pins s σ H Q I h
 exact UnaryOp_ (jf (ha pins s σ H _ I h) fun v s1 ⟨x,H1,I1,r1,q1⟩=>ho pins s1 σ H1 x v Q I1 r1 q1)
theorem opI{f:Value→Value→Sem Value}{C:Int→Int→Prop}{g:Int→Int→Int}
 (rule:∀ (i j:Int) (t u:Tok) (s:Shared) (Q:Value→Shared→Prop) (E:Value→Shared→Prop),C i j→Q (.int (g i j) s.toks) { s with toks:=s.toks + 1 }→wpAny (model X.prog X.w) X.A (f (.int i t) (.int j u)) Q E s) :
 D8 X f (rI C fun i j=>.int (g i j)):=by
 intro pins s σ H x y v u Q I rx ry h
 obtain⟨i,j,rfl,rfl,hc,q⟩:=h
 obtain⟨t,rfl⟩:=rx
 obtain⟨t',rfl⟩:=ry
 exact rule i j t t' s _ _ hc ⟨.int (g i j),H,I.tok _,⟨_,rfl⟩,q⟩
theorem ahY{f:Value→Value→Sem Value}{g:Int→Int→Int}
 (rule:∀ (i j:Int) (t u:Tok) (s:Shared) (Q:Value→Shared→Prop) (E:Value→Shared→Prop),Q (.int (g i j) s.toks) { s with toks:=s.toks + 1 }→wpAny (model X.prog X.w) X.A (f (.int i t) (.int j u)) Q E s) :
 D8 X f (rI0 fun i j=>.int (g i j)):=by
 intro pins s σ H x y v u Q I rx ry h
 obtain⟨i,j,rfl,rfl,q⟩:=h
 obtain⟨t,rfl⟩:=rx
 obtain⟨t',rfl⟩:=ry
 exact rule i j t t' s _ _ ⟨.int (g i j),H,I.tok _,⟨_,rfl⟩,q⟩
theorem ahZ{f:Value→Value→Sem Value}{g:Int→Int→Bool}
 (rule:∀ (i j:Int) (t u:Tok) (s:Shared) (Q:Value→Shared→Prop) (E:Value→Shared→Prop),Q (.bool (g i j)) s→wpAny (model X.prog X.w) X.A (f (.int i t) (.int j u)) Q E s) :
 D8 X f (rI0 fun i j=>.bl (g i j)):=by
 intro pins s σ H x y v u Q I rx ry h
 obtain⟨i,j,rfl,rfl,q⟩:=h
 obtain⟨t,rfl⟩:=rx
 obtain⟨t',rfl⟩:=ry
 exact rule i j t t' s _ _ ⟨.bl (g i j),H,I,rfl,q⟩
noncomputable def aqQ(i j:Int):Prop:=0 < j∧j < 1073741824
noncomputable def anE(i j:Int):Prop:=0≤j∧j≤1000000∧i.natAbs < 2 ^ 64
noncomputable def akK(i j:Int):Prop:=(-(2 ^ 64) < i∧i < 2 ^ 64)∨(-(2 ^ 64) < j∧j < 2 ^ 64)
theorem akK.ok{i j:Int}(h:akK i j):IntMulOk i j:=by
 rcases h with ⟨h1,h2⟩ | ⟨h1,h2⟩
 ·exact .of_left (intBits_le_64 h1 h2)
 ·exact .of_right (intBits_le_64 h1 h2)
theorem gz:D8 X (binaryOp .Add) (rI0 fun i j=>.int (i + j)):=ahY fun _ _ _ _ _ _ _ q=>add_int q
theorem IZ:D8 X (binaryOp .Sub) (rI0 fun i j=>.int (i - j)):=ahY fun _ _ _ _ _ _ _ q=>sub_int q
theorem afo:D8 X (binaryOp .Mult) (rI akK fun i j=>.int (i * j)):=opI fun _ _ _ _ _ _ _ hc q=>mul_int q hc.ok
theorem iw:D8 X (binaryOp .FloorDiv) (rI aqQ fun i j=>.int (i / j)):=opI fun i j _ _ _ _ _ hc q=>by
 have h1:(0:Int) < j:=hc.1
 have h2:j < 1073741824:=hc.2
 exact floordiv_int (by omega) (by rw[Int.fdiv_eq_ediv_of_nonneg i (by omega)]; exact q) (.inl (PyProof.noPylong_small (by omega)))
theorem fc:D8 X (binaryOp .Mod) (rI (fun _ j=>0 < j) fun i j=>.int (i % j)):=opI fun i j _ _ _ _ _ hc q=>by
 have h1:(0:Int) < j:=hc
 exact mod_int' (by omega) (by rw[Int.fmod_eq_emod_of_nonneg i (by omega)]; exact q)
theorem afp:D8 X (binaryOp .Pow) (rI anE fun i j=>.int (i ^ j.toNat)):=opI fun _ _ _ _ _ _ _ hc q=>pow_int_small hc.1 hc.2.1 hc.2.2 q
theorem akL:D8 X (binaryOp .LShift) (rI anE fun i j=>.int (i * 2 ^ j.toNat)):=opI fun _ _ _ _ _ _ _ hc q=>lshift_int_small hc.1 hc.2.1 hc.2.2 q
theorem akM:D8 X (binaryOp .BitAnd) (rI0 fun i j=>.int (Builtin.bitAnd i j)):=ahY fun _ _ _ _ _ _ _ q=>and_int q
theorem anF:D8 X (binaryOp .BitOr) (rI0 fun i j=>.int (Builtin.bitOr i j)):=ahY fun _ _ _ _ _ _ _ q=>or_int q
theorem unI{f:Value→Sem Value}{g:Int→Int}
 (rule:∀ (i:Int) (t:Tok) (s:Shared) (Q:Value→Shared→Prop) (E:Value→Shared→Prop),Q (.int (g i) s.toks) { s with toks:=s.toks + 1 }→wpAny (model X.prog X.w) X.A (f (.int i t)) Q E s) :
 UnR X f (rU fun i=>.int (g i)):=by
 intro pins s σ H x v Q I rx h
 obtain⟨i,rfl,q⟩:=h
 obtain⟨t,rfl⟩:=rx
 exact rule i t s _ _ ⟨.int (g i),H,I.tok _,⟨_,rfl⟩,q⟩
theorem akN:UnR X (unaryOp .USub) (rU fun i=>.int (-i)):=unI fun _ _ _ _ _ q=>neg_int q
end
noncomputable def ah0:V→V→Bool
 | .iu,.iu=>true | .iu,.int _=>true | .int _,.iu=>true | .iu,.bl _=>true | .bl _,.iu=>true | .iu,.str _=>true | .str _,.iu=>true
 | .int _,.int _=>true | .bl _,.bl _=>true | .str _,.str _=>true | .byt _,.byt _=>true
 | .int _,.str _=>true | .str _,.int _=>true | .bl _,.str _=>true | .str _,.bl _=>true
 | _,_=>false
noncomputable def rEq:R2:=fun x y H Q=>ah0 x y=true∧Q (.bl (decide (x=y))) H
noncomputable def rNe:R2:=fun x y H Q=>ah0 x y=true∧Q (.bl (!decide (x=y))) H
theorem ac5{i j:Int}:decide (V.int i=V.int j)=(i == j):=by
 rw[oX]
 simp
theorem afq{i j:Bool}:decide (V.bl i=V.bl j)=(i == j):=by
 rw[oX]
 simp
theorem ac6{i j:Str}:decide (V.str i=V.str j)=(i == j):=by
 rw[oX]
 simp
theorem ac7{i j:Array UInt8}:decide (V.byt i=V.byt j)=(i.toList == j.toList):=by
 rw[oX]
 cases i
 cases j
 simp
section
variable{X:Cx}{a b c:Expr}{ta tb tc:TE}{pos:Pos}
theorem ff{pins:List (Addr × Obj)}{σ:St}{H:Hp}{s:Shared}{Q:VK}{k k':Bool}(I:Inv X pins σ H s)(q:Q (.bl k) H)(e:k=k'):EP X pins σ Q (.bool k') s:=by
 subst e
 exact⟨.bl k,H,I,rfl,q⟩
theorem vM:D8 X (compareOp .Eq) rEq:=by
 intro pins s σ H x y v u Q I rx ry h
 obtain⟨hs,q⟩:=h
 cases x with
 | iu =>
  cases rx
  cases y with
  | iu=>cases ry; exact PySem.EqNone.eq_none_none (ff I q (by simp))
  | bl j=>cases ry; exact PySem.EqNone.eq_none_bool (ff I q (by simp))
  | int j=>obtain⟨t',rfl⟩:=ry; exact PySem.EqNone.eq_none_int (ff I q (by simp))
  | str j=>obtain⟨t',rfl⟩:=ry; exact PySem.EqNone.eq_none_str (ff I q (by simp))
  | _=>exact absurd (show false=true from hs) aN
 | bl i =>
  cases rx
  cases y with
  | iu=>cases ry; exact PySem.EqNone.eq_bool_none (ff I q (by simp))
  | bl j=>cases ry; exact eq_bool (ff I q afq)
  | str j=>obtain⟨t',rfl⟩:=ry; exact PySem.EqMixed.eq_bool_str (ff I q (by simp))
  | _=>exact absurd (show false=true from hs) aN
 | int i =>
  obtain⟨t,rfl⟩:=rx
  cases y with
  | iu=>cases ry; exact PySem.EqNone.eq_int_none (ff I q (by simp))
  | int j=>obtain⟨t',rfl⟩:=ry; exact eq_int (ff I q ac5)
  | str j=>obtain⟨t',rfl⟩:=ry; exact PySem.EqMixed.eq_int_str (ff I q (by simp))
  | _=>exact absurd (show false=true from hs) aN
 | str i =>
  obtain⟨t,rfl⟩:=rx
  cases y with
  | iu=>cases ry; exact PySem.EqNone.eq_str_none (ff I q (by simp))
  | bl j=>cases ry; exact PySem.EqMixed.eq_str_bool (ff I q (by simp))
  | int j=>obtain⟨t',rfl⟩:=ry; exact PySem.EqMixed.eq_str_int (ff I q (by simp))
  | str j=>obtain⟨t',rfl⟩:=ry; exact eq_str (ff I q ac6)
  | _=>exact absurd (show false=true from hs) aN
 | byt i =>
  obtain⟨t,rfl⟩:=rx
  cases y with
  | byt j=>obtain⟨t',rfl⟩:=ry; exact PySem.W.eq_bytes (ff I q ac7)
  | _=>exact absurd (show false=true from hs) aN
 | _=>cases y <;> exact absurd (show false=true from hs) aN
theorem x6:D8 X (compareOp .NotEq) rNe:=by
 intro pins s σ H x y v u Q I rx ry h
 obtain⟨hs,q⟩:=h
 cases x with
 | iu =>
  cases rx
  cases y with
  | iu=>cases ry; exact PySem.EqNone.ne_none_none (ff I q (by simp))
  | bl j=>cases ry; exact PySem.EqNone.ne_none_bool (ff I q (by simp))
  | int j=>obtain⟨t',rfl⟩:=ry; exact PySem.EqNone.ne_none_int (ff I q (by simp))
  | str j=>obtain⟨t',rfl⟩:=ry; exact PySem.EqNone.ne_none_str (ff I q (by simp))
  | _=>exact absurd (show false=true from hs) aN
 | bl i =>
  cases rx
  cases y with
  | iu=>cases ry; exact PySem.EqNone.ne_bool_none (ff I q (by simp))
  | bl j=>cases ry; exact ne_bool (ff I q (congrArg not afq))
  | str j=>obtain⟨t',rfl⟩:=ry; exact PySem.EqMixed.ne_bool_str (ff I q (by simp))
  | _=>exact absurd (show false=true from hs) aN
 | int i =>
  obtain⟨t,rfl⟩:=rx
  cases y with
  | iu=>cases ry; exact PySem.EqNone.ne_int_none (ff I q (by simp))
  | int j=>obtain⟨t',rfl⟩:=ry; exact ne_int (ff I q (congrArg not ac5))
  | str j=>obtain⟨t',rfl⟩:=ry; exact PySem.EqMixed.ne_int_str (ff I q (by simp))
  | _=>exact absurd (show false=true from hs) aN
 | str i =>
  obtain⟨t,rfl⟩:=rx
  cases y with
  | iu=>cases ry; exact PySem.EqNone.ne_str_none (ff I q (by simp))
  | bl j=>cases ry; exact PySem.EqMixed.ne_str_bool (ff I q (by simp))
  | int j=>obtain⟨t',rfl⟩:=ry; exact PySem.EqMixed.ne_str_int (ff I q (by simp))
  | str j=>obtain⟨t',rfl⟩:=ry; exact ne_str (ff I q (congrArg not ac6))
  | _=>exact absurd (show false=true from hs) aN
 | byt i =>
  obtain⟨t,rfl⟩:=rx
  cases y with
  | byt j=>obtain⟨t',rfl⟩:=ry; exact PySem.W.ne_bytes (ff I q (congrArg not ac7))
  | _=>exact absurd (show false=true from hs) aN
 | _=>cases y <;> exact absurd (show false=true from hs) aN
theorem se:D8 X (compareOp .Lt) (rI0 fun i j=>.bl (decide (i < j))):=ahZ fun _ _ _ _ _ _ _ q=>lt_int q
theorem ux:D8 X (compareOp .LtE) (rI0 fun i j=>.bl (decide (i≤j))):=ahZ fun _ _ _ _ _ _ _ q=>le_int q
theorem ac8:D8 X (compareOp .Gt) (rI0 fun i j=>.bl (decide (j < i))):=ahZ fun _ _ _ _ _ _ _ q=>gt_int q
theorem anG:D8 X (compareOp .GtE) (rI0 fun i j=>.bl (decide (j≤i))):=ahZ fun _ _ _ _ _ _ _ q=>ge_int q
theorem afr:D8 X (compareOp .Is) (fun x y H Q=>y = .iu∧Q (.bl (decide (x = .iu))) H):=by
 intro pins s σ H x y v u Q I rx ry h
 obtain⟨rfl,q⟩:=h
 cases ry
 refine is_none_gen (ff I q ?_)
 cases x <;> first
  | (cases rx; rfl)
  | (obtain⟨t,rfl⟩:=rx; rfl)
theorem Q4:D8 X (compareOp .IsNot) (fun x y H Q=>y = .iu∧Q (.bl (!decide (x = .iu))) H):=by
 intro pins s σ H x y v u Q I rx ry h
 obtain⟨rfl,q⟩:=h
 cases ry
 refine isnot_none_gen (ff I q ?_)
 cases x <;> first
  | (cases rx; rfl)
  | (obtain⟨t,rfl⟩:=rx; rfl)
theorem bT(b:Expr){op:CmpOp}(h:op≠.In:=by decide)(h2:op≠.NotIn:=by decide):behindInMarks op b=false:=by
 have e1:(op == CmpOp.In)=false:=by cases op <;> first | rfl | exact absurd rfl h
 have e2:(op == CmpOp.NotIn)=false:=by cases op <;> first | rfl | exact absurd rfl h2
 cases b <;> simp[behindInMarks,e1,e2]
theorem x8{op:CmpOp}{r:R2}(ho:D8 X (compareOp op) r)(ha:PE X a ta)(hb:PE X b tb)(hm:behindInMarks op b=false):PE X (.Compare a [op] [b] pos) (tOp r ta tb):=by
 intro pins s σ H Q I h
 exact wpAny_Compare1 (akJ ha hb I h fun v u s2 x y H2 I2 rx ry q=>ho pins s2 σ H2 x y v u Q I2 rx ry q) hm
noncomputable def ajM(t:TE):TT:=fun σ H Q=>t σ H fun x H'=>∃ k,x = .bl k∧Q k H'
theorem bw{op:CmpOp}{r:R2}(ho:D8 X (compareOp op) r)(ha:PE X a ta)(hb:PE X b tb)(hm:behindInMarks op b=false):PT X (.Compare a [op] [b] pos) (ajM (tOp r ta tb)):=by
 intro pins s σ H Q I h
 refine wpAny_isTrue_Compare1 (jf (ha pins s σ H _ I h) fun v s1 ⟨x,H1,I1,r1,q1⟩=>jf (hb pins s1 σ H1 _ I1 q1) fun u s2 ⟨y,H2,I2,r2,q2⟩ =>
  jf (ho pins s2 σ H2 x y v u _ I2 r1 r2 q2) fun c s3 ⟨z,H3,I3,r3,k,e,q3⟩=>?_) hm
 subst e
 cases r3
 exact wpAny_truthy_bool ⟨H3,I3,q3⟩
noncomputable def abn(r r':R2)(ta tb tc:TE):TE:=fun σ H Q=>ta σ H fun x H1=>tb σ H1 fun y H2=>r x y H2 fun z H3=>∃ k,z = .bl k ∧
 (if k=true then tc σ H3 fun w' H4=>r' y w' H4 Q else Q (.bl false) H3)
theorem Zc{op op':CmpOp}{r r':R2}(ho:D8 X (compareOp op) r)(ho':D8 X (compareOp op') r')(ha:PE X a ta)(hb:PE X b tb)(hc:PE X c tc)
 (hm:lastMarks [op,op'] [b,c]=false:=by with_unfolding_all rfl):PE X (.Compare a [op,op'] [b,c] pos) (abn r r' ta tb tc):=by
 intro pins s σ H Q I h
 refine Compare_chain (jf (ha pins s σ H _ I h) fun v s1 ⟨x,H1,I1,r1,q1⟩=>chain_link (jf (hb pins s1 σ H1 _ I1 q1) fun u s2 ⟨y,H2,I2,r2,q2⟩ =>
  jf (ho pins s2 σ H2 x y v u _ I2 r1 r2 q2) fun d s3 ⟨z,H3,I3,r3,k,e,q3⟩=>?_)) hm
 subst e
 cases r3
 refine wpAny_truthy_bool ?_
 cases k with
 | false=>exact ite_ff ⟨.bl false,H3,I3,rfl,q3⟩
 | true=>exact ite_tt (chain_last (jf (hc pins s3 σ H3 _ I3 q3) fun w' s4 ⟨z',H4,I4,r4,q4⟩=>ho' pins s4 σ H4 y z' u w' Q I4 r2 r4 q4))
theorem lN{op op':CmpOp}{r r':R2}(ho:D8 X (compareOp op) r)(ho':D8 X (compareOp op') r')(ha:PE X a ta)(hb:PE X b tb)(hc:PE X c tc)
 (hm:lastMarks [op,op'] [b,c]=false:=by with_unfolding_all rfl):PT X (.Compare a [op,op'] [b,c] pos) (ajM (abn r r' ta tb tc)):=by
 intro pins s σ H Q I h
 refine isTrue_chain (jf (ha pins s σ H _ I h) fun v s1 ⟨x,H1,I1,r1,q1⟩=>test_link (jf (hb pins s1 σ H1 _ I1 q1) fun u s2 ⟨y,H2,I2,r2,q2⟩ =>
  jf (ho pins s2 σ H2 x y v u _ I2 r1 r2 q2) fun d s3 ⟨z,H3,I3,r3,k,e,q3⟩=>?_)) hm
 subst e
 cases r3
 refine wpAny_truthy_bool ?_
 cases k with
 | false =>
  obtain⟨k',e',q'⟩:=q3
  cases e'
  exact ite_ff ⟨H3,I3,q'⟩
 | true =>
  refine ite_tt (test_last (jf (hc pins s3 σ H3 _ I3 q3) fun w' s4 ⟨z',H4,I4,r4,q4⟩=>jf (ho' pins s4 σ H4 y z' u w' _ I4 r2 r4 q4) fun d' s5 ⟨z2,H5,I5,r5,k2,e2,q5⟩=>?_))
  subst e2
  cases r5
  exact wpAny_truthy_bool ⟨H5,I5,q5⟩
noncomputable def akO(K:ah)(x:V)(H:Hp)(k:Bool):Prop :=
 match x with
 | .iu=>k=false
 | .bl b=>k=b
 | .int i=>k=(i != 0)
 | .str y=>y.length≤sizeLine∧k=((y.length:Int) != 0)
 | .byt y=>y.size≤sizeLine∧k=((y.size:Int) != 0)
 | .ref p=>(∃ xs,ck K H p xs∧k = !xs.isEmpty)∨(∃ xs,dP K H p xs∧k = !xs.isEmpty)∨∃ kvs,H p=some (.dK kvs)∧k = !kvs.isEmpty
 | _=>False
theorem abo{κ:Type}{kvs:List (κ × V)}{vs:List (κ × Value)}(r:KV kvs vs):(!vs.isEmpty) = !kvs.isEmpty:=by
 cases r <;> rfl
theorem Rm{xs:List V}{its:List Value}(r:cP xs its):(!its.toArray.isEmpty) = !xs.isEmpty:=by
 cases r <;> simp
theorem Rn:(sizeLine:Nat) < 2 ^ 63:=by rw[sizeLine_eq]; decide
theorem akP:aqP X (fun x H Q=>∃ k,akO X.K x H k∧Q k H):=by
 intro pins s σ H x v Q I rx h
 obtain⟨k,e,q⟩:=h
 have hl:=Rn
 have hs:sizeLine=16777216:=sizeLine_eq
 cases x with
 | iu =>
  cases rx
  have e':k=false:=e
  subst e'
  exact truthy_none ⟨H,I,q⟩
 | bl b =>
  cases rx
  have e':k=b:=e
  subst e'
  exact wpAny_truthy_bool ⟨H,I,q⟩
 | int i =>
  obtain⟨t,rfl⟩:=rx
  have e':k=(i != 0):=e
  subst e'
  exact PySem.P.truthy_int ⟨H,I,q⟩
 | str y =>
  obtain⟨t,rfl⟩:=rx
  obtain⟨hy,e'⟩ : y.length≤sizeLine∧k=((y.length:Int) != 0):=e
  subst e'
  exact PySem.P.truthy_str (by omega) ⟨H,I.tok _,q⟩
 | byt y =>
  obtain⟨t,rfl⟩:=rx
  obtain⟨hy,e'⟩ : y.size≤sizeLine∧k=((y.size:Int) != 0):=e
  subst e'
  exact PySem.W.truthy_bytes (by omega) ⟨H,I.tok _,q⟩
 | ref p =>
  cases rx
  have e':(∃ xs,ck X.K H p xs∧k = !xs.isEmpty)∨(∃ xs,dP X.K H p xs∧k = !xs.isEmpty)∨∃ kvs,H p=some (.dK kvs)∧k = !kvs.isEmpty:=e
  rcases e' with ⟨xs,hx,e'⟩ | ⟨xs,hx,e'⟩ | ⟨kvs,hx,e'⟩
  ·subst e'
   obtain⟨its,r,pl,hz⟩:=I.list hx
   have hlen:=r.length
   exact wpAny_truthy_list pl.isList (by simp only[aZ]; omega) ⟨H,I.tok _,by rw[Rm r]; exact q⟩
  ·subst e'
   obtain⟨its,r,pl,hz⟩:=I.tuple hx
   have hlen:=r.length
   exact truthy_tuple pl (by simp only[aZ]; omega) ⟨H,I.tok _,by rw[Rm r]; exact q⟩
  ·subst e'
   obtain⟨hz,hS,vs,r,m⟩ : kvs.length≤sizeLine∧(p == sysModules)=false∧∃ vs,KV kvs vs∧s.heap.DictOf (jH X.prog X.w) p vs:=I.hok p _ hx
   have hlen:kvs.length=vs.length:=Paired.length r
   exact wpAny_truthy_dict hS m (by omega) ⟨H,I.tok _,by rw[abo r]; exact q⟩
 | _=>exact (show False from e).elim
theorem afs(ha:PE X a ta)(he:∀ whole,isTrue a X.env whole=(do let v ← whole; standAt a.pos; holding [v] (truthy v))) :
 PT X a (fun σ H Q=>ta σ H fun x H'=>∃ k,akO X.K x H' k∧Q k H'):=by
 intro pins s σ H Q I h
 exact isTrue_plain (jf (ha pins s σ H _ I h) fun v s1 ⟨x,H1,I1,r1,q1⟩=>akP pins s1 σ H1 x v Q I1 r1 q1) (he _)
theorem vals1{x:V}{us:List Value}(r:cP [x] us):∃ u,us = [u]∧RelV x u:=by
 cases r with
 | cons r1 r2=>cases r2; exact⟨_,rfl,r1⟩
theorem V2:vL X (.type "int") (fun xs H Q=>(∃ i,xs = [.int i]∧Q (.int i) H)∨∃ k,xs = [.bl k]∧Q (.int (if k then 1 else 0)) H):=by
 intro pins s σ H xs us Q I r h
 rcases h with ⟨i,rfl,q⟩ | ⟨k,rfl,q⟩
 ·obtain⟨u,rfl,t,rfl⟩:=vals1 r
  exact call_int_int ⟨.int i,H,I,⟨_,rfl⟩,q⟩
 ·obtain⟨u,rfl,r1⟩:=vals1 r
  cases r1
  exact call_int_bool ⟨.int (if k then 1 else 0),H,I.tok _,⟨_,rfl⟩,q⟩
end
end L2
namespace L2
open PySem PySem.Spec PyProof.Rows
structure abp(h:Heap)(x dx C:Addr)(mA:Str→Option Value):Prop where
 obj:h.get? x=some (lI C dx)
 ns:h.Ns1 dx mA
 ne:dx≠x
theorem V3{h:Heap}{dx:Addr}{mA:Str→Option Value}(n:h.Ns1 dx mA):∃ od,h.get? dx=some od∧∀ name,PySem.W.lookIn name od=some (mA name):=by
 obtain⟨o,es,ep,ho,hd,hk,_,hm⟩:=n
 refine⟨o,ho,fun name=>?_⟩
 have e:=hm name
 unfold nsFind findBy at e
 rw[← Array.find?_toList] at e
 unfold PySem.W.lookIn
 rw[hd]
 dsimp only
 split
 ·rename_i y q
  rw[q] at e
  exact congrArg some e
 ·rename_i q
  rw[q] at e
  have a:es.toList.any (·.refKey)=false:=by
   rw[List.any_eq_false]
   intro y hy
   obtain⟨z,t,hkey⟩:=hk y (Array.mem_toList_iff.mp hy)
   simp[DictEntry.refKey,hkey]
  have a':¬ es.toList.any (·.refKey)=true:=by rw[a]; exact aN
  rw[if_neg a']
  exact congrArg some e
theorem abp.look{h:Heap}{x dx C:Addr}{mA:Str→Option Value}(I:abp h x dx C mA):∃ od,PySem.W.InstAt h x (lI C dx) C (some od)∧∀ name,PySem.W.lookIn name od=some (mA name) :=
 let ⟨od,ho,hl⟩:=V3 I.ns
 ⟨od,⟨I.obj,rfl,rfl,ho⟩,hl⟩
section
variable{prog:Program}{w:World}{A:Around}{E:Value→Shared→Prop}{s:Shared}{K:ah}{x dx C f:Addr}{mA:Str→Option Value}{name:Str}{v:Value}
theorem get_map{expr:Bool}{Q:Value→Shared→Prop}(X:K.In s.heap)(I:abp s.heap x dx C mA)(hg:fk K C name=true)(hh:cV K C=true)
 (ha:au K (.ref C) name=some none) (hv:mA name=some v) (hv':PySem.W.handedIn v=true) (h:Q v { s with toks:=s.toks + 1 }) :
 wpAny (model prog w) A (getAttr (.ref x) name expr) Q E s:=by
 obtain⟨od,J,hl⟩:=I.look
 exact PySem.W.get_value X J (PySem.W.plainGet_of hg).1 (PySem.W.findObj_own hh ha rfl (by rw[hl,hv])) hv' h
theorem aft{pl:Sem Bool}{Q:Value × List Value→Shared→Prop}(X:K.In s.heap)(I:abp s.heap x dx C mA)(hg:fk K C name=true)
 (hf:au K (.ref C) name=some (some (.ref f))) (ht:aT K (.ref f)=true) (hv:mA name=none) (h:Q (.ref f,[.ref x]) s) :
 wpAny (model prog w) A (getMethod (.ref x) name pl) Q E s:=by
 obtain⟨od,J,hl⟩:=I.look
 exact PySem.W.method_fn X J (PySem.W.plainGet_of hg).1 (PySem.W.plainGet_of hg).2 hf (beq_iff_eq.mp ht) (by show (PySem.W.lookIn name od).map (·.isSome)=some false; rw[hl,hv]; rfl) h
theorem ah1{ns:List Str}{Q:Unit→Shared→Prop}(X:K.In s.heap)(I:abp s.heap x dx C mA)
 (hs:au K (.ref C) "__setattr__" = some (some (.builtin "object.__setattr__"))) (hp:gw K C=true) (ht:PySem.W.takerIn K C name=some none) (hh:cV K C=true)
 (hw:PySem.Within mA ns) (hsz:ns.length≤sizeLine)
 (h:∀ h',abp h' x dx C (fun y=>if y=name then some v else mA y)→Heap.SameBut dx s.heap h'→Q () { s with heap:=h',toks:=s.toks + 2 }) :
 wpAny (model prog w) A (setAttr (.ref x) name v) Q E s:=by
 obtain⟨od,J,hl⟩:=I.look
 refine PySem.W.set_plain X J hs (PySem.W.osa_open (s:={ s with toks:=s.toks + 1 }) (r:=none) X J hp ht fun b=>?_)
 obtain⟨cd,hc,hd'⟩:=PySem.W.any_some hh
 have hx:s.heap.get? x=some ⟨.ref C,some dx,.plain,#[]⟩:=I.obj
 refine wpAny_bind (wpAny_pure (wpAny_bind (wpAny_bind (wpAny_loadPart hx (wpAny_bind (PySem.W.Looks.here (s:={ s with toks:=s.toks + 1 }) (PySem.W.looks_clsIn X hc) ?_))))))
 rw[hd']
 refine wpAny_pure (a:=some dx) (wpAny_bind (wpAny_pure (wpAny_bind ?_)))
 refine wpAny_nsSet1 (s:={ s with toks:=s.toks + 1 }) I.ns fun h' hn2 hs2=>?_
 obtain⟨oD,esD,epD,hoD,hdD,hcD⟩:=hn2.count (PySem.Within.cons name v hw)
 refine wpAny_bind (wpAny_lookBehind hoD (by rw[hdD]; exact pastItsLine_dict (aX hcD (by rw[cE]; omega))) ?_)
 exact wpAny_pure (h _ ⟨(hs2.2 _ (bW I.ne)).trans I.obj,hn2,I.ne⟩ hs2)
theorem afu{R:Result→Shared→Prop}{vs:List Value}{kw:List (Str × Value)}(X:K.In s.heap)(hm:iZ K C=true)
 (hi:au K (.ref C) "__init__" = some (some (.ref f))) (hf:PySem.W.typeIn K (.ref f)=some (.type "function"))
 (h:codeAny (model prog w) (A.under (.builtin "type.__call__" ⟨.ref C :: vs,kw⟩)) (.call (.ref f) ⟨.ref (s.heap.objs.size + 1) :: vs,kw⟩) (PySem.W.InitBack (s.heap.objs.size + 1) R)
  { s with heap:=(s.heap.push iC).push (lI C s.heap.objs.size) }) :
 codeAny (model prog w) A (.call (.ref C) ⟨vs,kw⟩) R s:=by
 obtain⟨hh,g,d,t,os⟩:=s
 exact PySem.W.make_core (PySem.W.makes_of X hm) (PySem.W.looks_findIn X hi) (fun self=>PySem.W.bind_fn X self hf) (.inl rfl) h
end
noncomputable def DX(f:Str)(v:V):List (Str × V)→List (Str × V)
 | []=>[(f,v)]
 | (g,x) :: r=>if g=f then (g,v) :: r else (g,x) :: DX f v r
theorem OL(f g:Str)(v:V):∀ fs:List (Str × V),(DX f v fs).lookup g=if g=f then some v else fs.lookup g
 | []=>by
  show sH g [(f,v)]=_
  by_cases h:g=f
  ·have hb:(g == f)=true:=beq_iff_eq.mpr h
   simp only[sH,hb,if_pos h]
  ·have hb:(g == f)=false:=beq_eq_false_iff_ne.mpr h
   simp only[sH,hb,if_neg h]
 | (k,x) :: r=>by
  have ih:=OL f g v r
  rw[show DX f v ((k,x) :: r)=(if k=f then (k,v) :: r else (k,x) :: DX f v r) from rfl]
  by_cases hk:k=f
  ·rw[if_pos hk]
   by_cases h:g=k
   ·have hb:(g == k)=true:=beq_iff_eq.mpr h
    simp only[sH,hb,if_pos (h.trans hk)]
   ·have hb:(g == k)=false:=beq_eq_false_iff_ne.mpr h
    simp only[sH,hb,if_neg (fun e:g=f=>h (e.trans hk.symm))]
  ·rw[if_neg hk]
   by_cases h:g=k
   ·have hb:(g == k)=true:=beq_iff_eq.mpr h
    simp only[sH,hb,if_neg (fun e:g=f=>hk (h.symm.trans e))]
   ·have hb:(g == k)=false:=beq_eq_false_iff_ne.mpr h
    simp only[sH,hb]
    exact ih
theorem Mv(f:Str)(v:V):∀ fs:List (Str × V),f∈(DX f v fs).map (·.1)∧∀ g,g∈fs.map (·.1)→g∈(DX f v fs).map (·.1)
 | []=>⟨by simp[DX],fun g h=>by simp at h⟩
 | (k,x) :: r=>by
  obtain⟨i1,i2⟩:=Mv f v r
  rw[show DX f v ((k,x) :: r)=(if k=f then (k,v) :: r else (k,x) :: DX f v r) from rfl]
  by_cases hk:k=f
  ·rw[if_pos hk]
   subst hk
   exact⟨by simp,fun g h=>by simpa using h⟩
  ·rw[if_neg hk]
   refine⟨?_,fun g h=>?_⟩
   ·rw[cG]
    exact bP _ i1
   ·rw[cG] at h ⊢
    rcases cF.mp h with e | e
    ·exact cF.mpr (.inl e)
    ·exact bP _ (i2 g e)
theorem OM(f:Str)(v:V):∀ fs:List (Str × V),(DX f v fs).length≤fs.length + 1
 | []=>by simp[DX]
 | (k,x) :: r=>by
  have ih:=OM f v r
  rw[show DX f v ((k,x) :: r)=(if k=f then (k,v) :: r else (k,x) :: DX f v r) from rfl]
  by_cases hk:k=f
  ·rw[if_pos hk,cE,cE]; omega
  ·rw[if_neg hk,cE,cE]; omega
theorem HB.some_of{v:V}{o:Option Value}(r:HB (some v) o):∃ u,o=some u∧RelV v u:=by
 cases o with
 | none=>exact (show False from r).elim
 | some u=>exact⟨u,rfl,r⟩
theorem HB.none_of{o:Option Value}(r:HB none o):o=none:=by
 cases o with
 | none=>rfl
 | some u=>exact (show False from r).elim
theorem ad3{v:V}{u:Value}(r:RelV v u):PySem.W.handedIn u=true:=by
 cases v with
 | iu=>cases (show u=Value.none from r); rfl
 | bl b=>cases (show u=Value.bool b from r); rfl
 | int i=>obtain⟨t,e⟩:=(show ∃ t,u=Value.int i t from r); cases e; rfl
 | str x=>obtain⟨t,e⟩:=(show ∃ t,u=Value.str x t from r); cases e; rfl
 | byt b=>obtain⟨t,e⟩:=(show ∃ t,u=Value.bytes b t from r); cases e; rfl
 | flt b=>obtain⟨t,e⟩:=(show ∃ t,u=Value.float b t from r); cases e; rfl
 | ref a=>cases (show u=Value.ref a from r); rfl
 | ty n=>cases (show u=Value.type n from r); rfl
section
variable{P:Program}{w:World}{H H':Hp}{h h':Heap}{a C dx:Addr}{fs fs':List (Str × V)}
theorem Q5(hok:D4 P w H h)(e:H a=some (.ins C dx fs)):∃ mA,abp h a dx C mA∧(∀ f,HB (fs.lookup f) (mA f))∧PySem.Within mA (fs.map (·.1))∧fs.length≤1000∧H dx=some (.own a):=by
 obtain⟨d,z,ne,ob,mA,n,r,q⟩:=(show je P w H h a (.ins C dx fs) from hok a _ e)
 exact⟨mA,⟨ob,n,ne⟩,r,q,z,d⟩
end
structure V4(K:ah)(C:Addr):Prop where
 pg:fk K C Str.empty=true
 hd:cV K C=true
 po:gw K C=true
 sa:au K (.ref C) "__setattr__" = some (some (.builtin "object.__setattr__"))
theorem V4.get{K:ah}{C:Addr}(c:V4 K C)(f:Str):fk K C f=true:=c.pg
noncomputable def dX(K:ah)(C:Addr)(f:Str):Prop:=au K (.ref C) f=some none
theorem dX.anH{K:ah}{C:Addr}{f:Str}(n:dX K C f):PySem.W.takerIn K C f=some none:=by
 unfold PySem.W.takerIn
 rw[show au K (.ref C) f=some none from n]
 rfl
structure jN(K:ah)(C:Addr)(m:Str)(f:Addr):Prop where
 at_:au K (.ref C) m=some (some (.ref f))
 fn:aT K (.ref f)=true
 kp:ay K (.ref f)=true
section
variable{X:Cx}{pins:List (Addr × Obj)}{σ:St}{H:Hp}{s:Shared}{a C dx:Addr}{fs:List (Str × V)}{f:Str}{v:V}{A:Around}{E:Value→Shared→Prop}
theorem abq{b:Bool}{Q:Value→Shared→Prop}(I:Inv X pins σ H s)(e:H a=some (.ins C dx fs))(c:V4 X.K C)(n:dX X.K C f)(l:fs.lookup f=some v)
 (h:∀ u s',Inv X pins σ H s'→RelV v u→Q u s'):wpAny (model X.prog X.w) A (getAttr (.ref a) f b) Q E s:=by
 obtain⟨mA,O,r,_,_,_⟩:=Q5 I.hok e
 obtain⟨u,hu,ru⟩:=HB.some_of (v:=v) (o:=mA f) (by rw[← l]; exact r f)
 exact get_map I.IX O (c.get f) c.hd n hu (ad3 ru) (h u _ (I.tok _) ru)
theorem Ro{m:Str}{g:Addr}{pl:Sem Bool}{Q:Value × List Value→Shared→Prop}(I:Inv X pins σ H s)(e:H a=some (.ins C dx fs))(c:V4 X.K C)(k:jN X.K C m g)(l:fs.lookup m=none)
 (h:Q (.ref g,[.ref a]) s):wpAny (model X.prog X.w) A (getMethod (.ref a) m pl) Q E s:=by
 obtain⟨mA,O,r,_,_,_⟩:=Q5 I.hok e
 have hn:mA m=none:=HB.none_of (by rw[← l]; exact r m)
 exact aft I.IX O (c.get m) k.at_ k.fn hn h
theorem abr{y:V}{u:Value}{Q:Unit→Shared→Prop}(I:Inv X pins σ H s)(e:H a=some (.ins C dx fs))(c:V4 X.K C)(n:dX X.K C f)(hl:fs.length < 1000)(ry:RelV y u)
 (h:∀ s',Inv X pins σ (upd H a (.ins C dx (DX f y fs))) s'→Q () s'):wpAny (model X.prog X.w) A (setAttr (.ref a) f u) Q E s:=by
 obtain⟨mA,O,r,wi,_,ho⟩:=Q5 I.hok e
 have hz:(fs.map (·.1)).length≤sizeLine:=by rw[af,sizeLine_eq]; omega
 refine ah1 I.IX O c.sa c.po n.anH c.hd wi hz fun h' O' sb=>h _ ?_
 have hd:∃ o,h'.get? dx=some o:=let ⟨o,_,_,e',_⟩:=O'.ns; ⟨o,e'⟩
 refine I.write (x:=a) (e:=dx) (by rw[e]; exact qj) (.inr ho) (fun b q hb z=>(sb.2 b hb).trans z) hd ?_
 refine⟨by rw[aP O.ne]; exact ho,?_,O.ne,O'.obj,_,O'.ns,fun g=>?_,fun g hg=>?_⟩
 ·have:=OM f y fs; omega
 ·show HB ((DX f y fs).lookup g) (if g=f then some u else mA g)
  rw[OL]
  by_cases q:g=f
  ·rw[if_pos q,if_pos q]; exact ry
  ·rw[if_neg q,if_neg q]; exact r g
 ·by_cases q:g=f
  ·rw[q]; exact (Mv f y fs).1
  ·refine (Mv f y fs).2 g (wi g fun z=>hg ?_)
   show (if g=f then some u else mA g)=none
   rw[if_neg q]; exact z
theorem Inv.made(I:Inv X pins σ H s):Inv X pins σ (upd (upd H s.heap.objs.size (.own (s.heap.objs.size + 1))) (s.heap.objs.size + 1) (.ins C s.heap.objs.size []))
 { s with heap:=(s.heap.push iC).push (lI C s.heap.objs.size) }:=by
 have e1:(s.heap.push iC).get? s.heap.objs.size=some iC:=Heap.get?_push_size s.heap rfl
 have e2:((s.heap.push iC).push (lI C s.heap.objs.size)).get? (s.heap.objs.size + 1)=some (lI C s.heap.objs.size):=by
  have:=Heap.get?_push_size (s.heap.push iC) (o:=lI C s.heap.objs.size) rfl
  rwa [Heap.size_push] at this
 have e3:(s.heap.push iC).Ns s.heap.objs.size (fun _=>none):=⟨iC,#[],_,e1,rfl,(fun e he=>absurd he (by simp)),fun _=>rfl⟩
 have I1:=I.laid (a:=s.heap.objs.size) (o:=.own (s.heap.objs.size + 1)) (h':=s.heap.push iC) (t':=s.toks) (fun b u q=>Heap.get?_push_of_some _ q) (aK _) ⟨_,e1⟩
 refine I1.laid (a:=s.heap.objs.size + 1) (o:=.ins C s.heap.objs.size []) (t':=s.toks) (fun b u q=>Heap.get?_push_of_some _ q) (Nat.le_of_eq (Heap.size_push _ _)) ?_
 have ne:s.heap.objs.size≠s.heap.objs.size + 1:=bZ (Nat.lt_succ_self _)
 refine⟨by rw[aP ne,aF],bJ _,ne,e2,fun _=>none,(Heap.Ns1.of_empty e3).at fun o q=>Heap.get?_push_of_some _ q,fun _=>qj,fun y hy=>absurd rfl hy⟩
theorem ah2{prog:Program}{w:World}{env:Env}{e:Expr}{f:Str}{pos:Pos}{s:Shared}{Q:Value→Shared→Prop}(hb:attributeBase e f env (eval e env)=eval e env)
 (h:wpAny (model prog w) A (eval e env) (fun o s₁=>wpAny (model prog w) A (getAttr o f true) Q E s₁) E s):wpAny (model prog w) A (eval (.Attribute e f pos) env) Q E s :=
 Attribute_any_ h (by rw[arm_eval_Attribute,hb])
end
noncomputable def Rp(K:ah)(ta:TE)(f:Str):TE:=fun σ H Q=>ta σ H fun x H1=>∃ a C dx fs v,x = .ref a∧H1 a=some (.ins C dx fs)∧V4 K C∧dX K C f∧fs.lookup f=some v∧Q v H1
noncomputable def aqR(K:ah)(ta tv:TE)(f:Str):TS:=fun D σ H=>tv σ H fun y H1=>ta σ H1 fun x H2=>∃ a C dx fs,x = .ref a∧H2 a=some (.ins C dx fs)∧V4 K C∧dX K C f∧fs.length < 1000 ∧
 D.nx σ (upd H2 a (.ins C dx (DX f y fs)))
section
variable{X:Cx}{o e value:Expr}{f:Str}{pos pos' tpos:Pos}{ta tv:TE}
theorem bu(he:PE X e ta)(hb:attributeBase e f X.env (eval e X.env)=eval e X.env):PE X (.Attribute e f pos) (Rp X.K ta f):=by
 intro pins s σ H Q I h
 refine ah2 hb (jf (he pins s σ H _ I h) fun u s1 ⟨x,H1,I1,rx,a,C,dx,fs,v,ex,ea,c,n,l,q⟩=>?_)
 subst ex
 obtain rfl:u=Value.ref a:=rx
 exact abq I1 ea c n l fun u' s2 I2 ru=>⟨v,H1,I2,ru,q⟩
theorem iB(ha:PE X o ta)(hv:PE X value tv)(hs:swapsWith value (some (.Attribute o f pos')) pos.line X.env=pure false):PS X (.Assign [.Attribute o f pos'] value pos) (aqR X.K ta tv f):=by
 intro pins s σ H D I h
 refine plainObj_wpAny_Assign_Attribute (jf (hv pins s σ H _ I h) fun u s1 ⟨y,H1,I1,ry,q⟩=>jf (ha pins s1 σ H1 _ I1 q) fun ov s2 ⟨x,H2,I2,rx,a,C,dx,fs,ex,ea,c,n,l,q2⟩=>?_) hs
 subst ex
 obtain rfl:ov=Value.ref a:=rx
 exact abr I2 ea c n l ry fun s3 I3=>⟨σ,_,I3,q2⟩
end
section
variable{X:Cx}{pins:List (Addr × Obj)}{σ:St}{H:Hp}{s:Shared}{A:Around}{E:Value→Shared→Prop}{Q:Value→Shared→Prop}{c:Value}{b:Bool}
inductive Mw(K:ah)(H:Hp):V→Value→Prop where
 | iu:Mw K H .iu (.type "NoneType")
 | bl (x:Bool):Mw K H (.bl x) (.type "bool")
 | int (i:Int):Mw K H (.int i) (.type "int")
 | str (x:Str):Mw K H (.str x) (.type "str")
 | flt (x:UInt64):Mw K H (.flt x) (.type "float")
 | lst {a:Addr} {xs:List V} (e:H a=some (.lst xs)):Mw K H (.ref a) (.type "list")
 | Y8 {a:Addr} {o:Obj} {xs:List V} (e:H a=some (.Y8 o (.lst xs))):Mw K H (.ref a) (.type "list")
 | tup {a:Addr} {xs:List V} (e:H a=some (.tup xs)):Mw K H (.ref a) (.type "tuple")
 | dK {a:Addr} {kvs:List (Key × V)} (e:H a=some (.dK kvs)):Mw K H (.ref a) (.type "dict")
 | dT {a:Addr} {kvs:List (List Key × V)} (e:H a=some (.dT kvs)):Mw K H (.ref a) (.type "dict")
 | ins {a C dx:Addr} {fs:List (Str × V)} (e:H a=some (.ins C dx fs)) (cl:V4 K C) (ha:au K (.ref C) "__class__" = some (some (.builtin "object.__class__")))
  (hn:qk K (.builtin "object.__class__") "__get__" = some (some (.builtin "getset_descriptor.__get__"))) (htk:PySem.W.takesIn K (.builtin "object.__class__")=some true)
  (hm:vH K C (.type "object")=some true):Mw K H (.ref a) (.ref C)
theorem ad4{x:V}{u t:Value}(I:Inv X pins σ H s)(rx:RelV x u)(ty:Mw X.K H x t)(e:PySem.W.kitOne X.K t c=some b)(h:∀ tk,Q (.bool b) { s with toks:=tk }) :
 wpAny (model X.prog X.w) A (call (.builtin "isinstance") [u,c]) Q E s:=by
 cases ty with
 | iu=>cases (show u=Value.none from rx); exact eU PySem.W.kitx_none I.IX qj e (fun z=>nomatch z) h
 | bl y=>cases (show u=Value.bool y from rx); exact eU PySem.W.kitx_bool I.IX qj e (fun z=>nomatch z) h
 | int i=>obtain⟨t,q⟩:=(show ∃ t,u=Value.int i t from rx); cases q; exact eU PySem.W.kitx_int I.IX qj e (fun z=>nomatch z) h
 | str y=>obtain⟨t,q⟩:=(show ∃ t,u=Value.str y t from rx); cases q; exact eU PySem.W.kitx_str I.IX qj e (fun z=>nomatch z) h
 | flt y=>obtain⟨t,q⟩:=(show ∃ t,u=Value.float y t from rx); cases q; exact eU PySem.W.kitx_float I.IX qj e (fun z=>nomatch z) h
 | @lst a xs ea =>
  cases (show u=Value.ref a from rx)
  obtain⟨_,_,n,_,h1⟩:=(show je X.prog X.w H s.heap a (.lst xs) from I.hok a _ ea)
  exact eU PySem.W.kitx_list I.IX ⟨_,h1,rfl⟩ e (fun z=>nomatch z) h
 | @Y8 a ob xs ea =>
  cases (show u=Value.ref a from rx)
  obtain⟨_,_,_,n,_,h1⟩:=(show je X.prog X.w H s.heap a (.Y8 ob (.lst xs)) from I.hok a _ ea)
  exact eU PySem.W.kitx_list I.IX ⟨_,h1,rfl⟩ e (fun z=>nomatch z) h
 | @tup a xs ea =>
  cases (show u=Value.ref a from rx)
  obtain⟨_,_,_,p⟩:=(show je X.prog X.w H s.heap a (.tup xs) from I.hok a _ ea)
  obtain⟨o,h1,h2,_⟩:=p
  exact eU PySem.W.kitx_tuple I.IX ⟨o,h1,h2⟩ e (fun z=>nomatch z) h
 | @dK a kvs ea =>
  cases (show u=Value.ref a from rx)
  obtain⟨_,_,vs,_,p⟩:=(show je X.prog X.w H s.heap a (.dK kvs) from I.hok a _ ea)
  obtain⟨o,es,ep,h1,h2,_⟩:=p
  exact eU PySem.W.kitx_dict I.IX ⟨o,h1,h2.1⟩ e (fun z=>nomatch z) h
 | @dT a kvs ea =>
  cases (show u=Value.ref a from rx)
  obtain⟨_,_,xs,_,o,es,ep,h1,h2,_⟩:=(show je X.prog X.w H s.heap a (.dT kvs) from I.hok a _ ea)
  exact eU PySem.W.kitx_dict I.IX ⟨o,h1,h2.1⟩ e (fun z=>nomatch z) h
 | @ins a C dx fs ea cl ha hn htk hm =>
  cases (show u=Value.ref a from rx)
  obtain⟨mA,O,_⟩:=Q5 I.hok ea
  obtain⟨od,J,_⟩:=O.look
  exact eU (PySem.W.kitx_own (cl.get _) cl.hd ha hn htk hm) I.IX J e (fun z=>nomatch z) h
end
end L2
namespace L2
open PySem PySem.Spec PyProof.Rows
structure oZ(k:Nat)(A:Around):Prop where
 hd:A.handled=none
 dp:A.depth + 3 * k + 5 < recursionLimit
 un:A.units + 16 * k + 200 < cLine
theorem oZ.mono{j k:Nat}{A:Around}(r:oZ k A)(h:j≤k):oZ j A:=⟨r.hd,by have:=r.dp; omega,by have:=r.un; omega⟩
theorem oZ.deeper{k:Nat}{A:Around}(r:oZ (k + 1) A)(env:Env):oZ k (A.deeper env) :=
 ⟨r.hd,by have:=r.dp; show A.depth + 1 + 3 * k + 5 < _; omega,by have:=r.un; show A.units + 3 + 16 * k + 200 < _; omega⟩
theorem abt{A:Around}{C:Addr}{us:List Value}{kw:List (Str × Value)}:(A.under (.builtin "type.__call__" ⟨.ref C :: us,kw⟩)).depth=A.depth + 1:=by
 first | rfl | simp[Around.under,Code.weight,Code.isCreation,Code.isGuard,Code.isCaller,Code.frames,Code.isFrame,guardIds]
theorem abu{A:Around}{C:Addr}{us:List Value}{kw:List (Str × Value)}:(A.under (.builtin "type.__call__" ⟨.ref C :: us,kw⟩)).units=A.units + 1:=by
 first | rfl | simp[Around.under,Code.cUnits,Code.frames,Code.isFrame]
theorem oZ.make{k:Nat}{A:Around}(r:oZ (k + 1) A)(C:Addr)(us:List Value)(kw:List (Str × Value)):oZ k (A.under (.builtin "type.__call__" ⟨.ref C :: us,kw⟩)) :=
 ⟨r.hd,by have:=r.dp; rw[abt]; omega,by have:=r.un; rw[abu]; omega⟩
theorem oZ.depth{k:Nat}{A:Around}(r:oZ k A):A.depth < recursionLimit:=by have:=r.dp; omega
theorem oZ.units{k:Nat}{A:Around}(r:oZ k A):A.units + 64 < cLine:=by have:=r.un; omega
noncomputable def Zd:TA:=fun _ H Q=>Q [] H
noncomputable def ac9(ta:TE)(tr:TA):TA:=fun σ H Q=>ta σ H fun x H1=>tr σ H1 fun xs H2=>Q (x :: xs) H2
section
variable{X:Cx}{e:Expr}{es:List Expr}{te:TE}{t:TA}{pos:Pos}
theorem az:PA X [] Zd:=fun _ _ _ _ H Q I h=>Calls.spliced_nil ⟨[],H,I,.nil,h⟩
theorem ah3(ha:PE X e te)(hr:PA X es t)(hs:starEach (e :: es) X.env=(false,eval e X.env) :: starEach es X.env:=by rfl):PA X (e :: es) (ac9 te t):=by
 intro pos pins s σ H Q I h
 rw[hs]
 show wpAny _ _ (spliced ((false,eval e X.env) :: backTo pos (starEach es X.env))) _ _ s
 refine Calls.spliced_cons (jf (ha pins s σ H _ I h) fun u s1 ⟨x,H1,I1,r1,q1⟩=>?_)
 exact jf (hr pos pins s1 σ H1 _ I1 q1) fun us s2 ⟨xs,H2,I2,r2,q2⟩=>⟨x :: xs,H2,I2,.cons r1 r2,q2⟩
noncomputable def aqS(t:TA):TE:=fun σ H Q=>t σ H fun xs H1=>xs.length≤sizeLine∧∀ p,H1 p=none→Q (.ref p) (upd H1 p (.tup xs))
noncomputable def aqT(t:TA):TE:=fun σ H Q=>t σ H fun xs H1=>xs.length≤sizeLine∧∀ p,H1 p=none→Q (.ref p) (upd H1 p (.lst xs))
theorem ia{x1}(h:PA X es t):PE X (.Tuple es x1 pos) (aqS t):=by
 intro pins s σ H Q I hq
 refine wpAny_Tuple_spliced (jf (h pos pins s σ H _ I hq) fun us s1 ⟨xs,H1,I1,r,z,q⟩=>⟨by rw[← r.length]; exact z,?_⟩)
 have hf:H1 s1.heap.objs.size=none:=I1.hok.fresh (aK _)
 refine⟨.ref s1.heap.objs.size,upd H1 s1.heap.objs.size (.tup xs),I1.laid (t':=s1.toks) (fun b u e=>Heap.get?_push_of_some _ e) (aK _) ?_,rfl,q _ hf⟩
 exact⟨z,us,r,⟨_,Heap.get?_push_size _ rfl,rfl,_,rfl⟩⟩
theorem lO(h:PA X es t):PE X (.List es pos) (aqT t):=by
 intro pins s σ H Q I hq
 refine wpAny_List_spliced (jf (h pos pins s σ H _ I hq) fun us s1 ⟨xs,H1,I1,r,z,q⟩=>⟨by rw[← r.length]; exact z,?_⟩)
 have hf:H1 s1.heap.objs.size=none:=I1.hok.fresh (aK _)
 refine⟨.ref s1.heap.objs.size,upd H1 s1.heap.objs.size (.lst xs),I1.laid (t':=s1.toks) (fun b u e=>Heap.get?_push_of_some _ e) (aK _) ?_,rfl,q _ hf⟩
 exact⟨z,us,0,r,Heap.get?_push_size _ rfl⟩
end
noncomputable abbrev Sp:=List V→Hp→VK→XK→Prop
noncomputable abbrev CXT:=List Env→Hp→Shared→XK→Value→Shared→Prop
structure abv(P:Program)(w:World)(K:ah)(mg:Str→Option Value)(base:Heap)(A:Around)(outer:List Env)(s:Shared)(H:Hp):Prop where
 frames:A.frames=some outer
 mod:Mod K mg base
 bs:∀ b o,base.get? b=some o→s.heap.get? b=some o∧H b=none
 bsz:base.objs.size≤s.heap.objs.size
 KJ:s.heap.FunFrames base outer
 frf:∀ b∈frs outer,H b=none
 hok:D4 P w H s.heap
 bare:AllBare s.gens
noncomputable def CE(outer:List Env)(P:Program)(w:World)(H:Hp)(s:Shared)(Q:VK)(u:Value)(s':Shared):Prop :=
 ∃ v H',s'.os=s.os∧AllBare s'.gens∧Un (frs outer) [] H H' s.heap s'.heap∧D4 P w H' s'.heap∧RelV v u∧Q v H'
noncomputable def CR(CX:CXT)(outer:List Env)(P:Program)(w:World)(H:Hp)(s:Shared)(Q:VK)(E:XK)(r:Result)(s':Shared):Prop :=
 match r with
 | .ok (.ret u)=>CE outer P w H s Q u s'
 | .ok _=>False
 | .error e=>CX outer H s E e s'
structure cW(P:Program)(w:World)(K:ah)(mg:Str→Option Value)(base:Heap)(CX:CXT)(k:Nat)(f:Addr)(fd:FuncData)(ps:List Str)(sp:Sp):Prop where
 len:∀ vs H Q E,sp vs H Q E→vs.length=ps.length
 run:∀ (A:Around) (outer:List Env) (s:Shared) (H:Hp) (args:Args) (us:List Value) (vs:List V) (Q:VK) (E:XK),oZ k A→abv P w K mg base A outer s H→BindsTo s fd args (ps.zip us)→cP vs us→sp vs H Q E →
  codeAny (model P w) A (.call (.ref f) args) (CR CX outer P w H s Q E) s
theorem abv.make{P:Program}{w:World}{K:ah}{mg:Str→Option Value}{base:Heap}{A:Around}{outer:List Env}{s:Shared}{H:Hp}(e:abv P w K mg base A outer s H)(C:Addr)(us:List Value)(kw:List (Str × Value)) :
 abv P w K mg base (A.under (.builtin "type.__call__" ⟨.ref C :: us,kw⟩)) outer s H:=⟨by first | exact e.frames | (simpa [Around.under,Code.envs,Code.isFrame,pushEnvs] using e.frames),e.mod,e.bs,e.bsz,e.KJ,e.frf,e.hok,e.bare⟩
section
variable{X:Cx}{pins:List (Addr × Obj)}{σ:St}{H:Hp}{s s':Shared}
theorem Inv.anI(I:Inv X pins σ H s):abv X.prog X.w X.K X.mg X.base X.A X.stack s H :=
 ⟨I.ok.frames,I.ok.mod,I.bs,aX I.ok.bsz I.sz,I.stack,I.WH,I.hok,I.bare⟩
theorem Inv.after{Q:VK}{u:Value}(I:Inv X pins σ H s)(h:CE X.stack X.prog X.w H s Q u s'):EP X pins σ Q u s':=by
 obtain⟨v,H',os,bare,un,hok,r,q⟩:=h
 obtain⟨hh,g,d,t,os'⟩:=s'
 obtain rfl:os'=s.os:=os
 exact⟨v,H',I.call (h':=hh) (g':=g) (d':=d) (t':=t) (ch:=[]) un hok bare (fun b z=>absurd z (by simp)),r,q⟩
end
noncomputable def anJ(sp:Sp)(Mq:List V)(E:XK)(t:TA):TE:=fun σ H Q=>t σ H fun vs H1=>sp (vs++Mq) H1 Q E
noncomputable def Rq(C:Addr)(m:Str)(sp:Sp)(Mq:List V)(E:XK)(ta:TE)(t:TA):TE:=fun σ H Q=>ta σ H fun x H1=>∃ a dx fs,x = .ref a∧H1 a=some (.ins C dx fs)∧fs.lookup m=none ∧
 t σ H1 fun vs H2=>sp (x :: (vs++Mq)) H2 Q E
noncomputable def ajN(C:Addr)(sp:Sp)(Mq:List V)(E:XK)(t:TA):TE:=fun σ H Q=>t σ H fun vs H1=>∀ x dx,H1 x=none→H1 dx=none→dx≠x →
 sp (.ref x :: (vs++Mq)) (upd (upd H1 dx (.own x)) x (.ins C dx [])) (fun v H2=>v = .iu∧Q (.ref x) H2) E
noncomputable def Binds(K:ah)(fd:FuncData)(ps:List Str)(ds:List Value):Prop :=
 ∀ (s:Shared) (us:List Value),K.In s.heap→(us++ds).length=ps.length→BindsTo s fd ⟨us,[]⟩ (ps.zip (us++ds))
theorem Binds.all{K:ah}{fd:FuncData}{ps:List Str}(h:∀ us:List Value,us.length=ps.length→bindArgs fd ⟨us,[]⟩=pure (ps.zip us)):Binds K fd ps []:=fun s us _ hl=>by
 rw[cz] at hl ⊢
 exact .of_eq (h us hl)
noncomputable def vN(CX:CXT)(X:Cx)(E:XK):Prop:=∀ (pins:List (Addr × Obj)) (σ:St) (H:Hp) (s:Shared) (e:Value) (s':Shared),Inv X pins σ H s→CX X.stack H s E e s'→X.xe e s'
section
variable{X:Cx}{CX:CXT}{k:Nat}{f C:Addr}{fd:FuncData}{ps:List Str}{sp:Sp}{Mq:List V}{ds:List Value}{E:XK}{x m:Str}{p pos apos:Pos}{e o:Expr}{es:List Expr}{ta:TE}{t:TA}
theorem WO{pins:List (Addr × Obj)}{σ:St}{H:Hp}{s:Shared}{Q:VK}{us:List Value}{vs:List V}(F:cW X.prog X.w X.K X.mg X.base CX k f fd ps sp)(hr:oZ k X.A)(hb:Binds X.K fd ps ds)(hd:cP Mq ds)(hx:vN CX X E)
 (I:Inv X pins σ H s) (r:cP vs us) (h:sp (vs++Mq) H Q E):wpAny (model X.prog X.w) X.A (call (.ref f) us) (EP X pins σ Q) X.xe s:=by
 have r2:cP (vs++Mq) (us++ds):=r.append hd
 have hl:(us++ds).length=ps.length:=by rw[← r2.length]; exact F.len _ _ _ _ h
 refine wpAny_call (codeAny_mono (F.run X.A X.stack s H ⟨us,[]⟩ (us++ds) (vs++Mq) Q E hr I.anI (hb s us I.IX hl) r2 h) fun r s' hq=>?_)
 cases r with
 | error e=>exact hx pins σ H s e s' I hq
 | ok fl =>
  cases fl with
  | ret u=>exact I.after hq
  | next=>exact lM hq
  | brk=>exact lM hq
  | cont=>exact lM hq
theorem cK(F:cW X.prog X.w X.K X.mg X.base CX k f fd ps sp)(hr:oZ k X.A)(hg:Gl X x)(hm:X.mg x=some (.ref f))(hk:ay X.K (.ref f)=true)(hb:Binds X.K fd ps ds)(hd:cP Mq ds)(hx:vN CX X E)
 (ha:PA X (e :: es) t) (hdb:(x == ("__debug__" : Str))=false:=by decide) (he:starEach (e :: es) X.env=(false,eval e X.env) :: starEach es X.env:=by rfl) (hpl:(backTo pos (starEach es X.env)).any (·.1)=false:=by rfl) :
 PE X (.Call (.Name x p) (e :: es) [] pos) (anJ sp Mq E t):=by
 intro pins s σ H Q I h
 refine wpAny_Call_Name_kw (KL I hg hm ?_ hdb)
 refine PySem.W.callWith_K (h₀:=X.base) I.ok.mod.kin hk (jf (ha pos pins s σ H _ I h) fun us s1 ⟨vs,H1,I1,r,q⟩=>⟨I1.IX,?_⟩) he hpl
 exact WO F hr hb hd hx I1 r q
theorem bQ{pl:Sem Bool}(he:PE X o ta)(c:V4 X.K C)(hm:jN X.K C m f)(F:cW X.prog X.w X.K X.mg X.base CX k f fd ps sp)(hr:oZ k X.A)(hb:Binds X.K fd ps ds)(hd:cP Mq ds)(hx:vN CX X E)(ha:PA X (e :: es) t)
 (hst:starEach (e :: es) X.env=(false,eval e X.env) :: starEach es X.env:=by rfl) (hpl:(backTo pos (starEach es X.env)).any (·.1)=false:=by rfl)
 (ht:eval (.Call (.Attribute o m apos) (e :: es) [] pos) X.env=(do
  let ov ← eval o X.env
  standAt apos.atName
  let (f,first) ← holding [ov] (getMethod ov m pl)
  callWith pos f first (backTo pos (starEach (e :: es) X.env)) (backToKw pos (keywordEach [] X.env))):=by rfl) :
 PE X (.Call (.Attribute o m apos) (e :: es) [] pos) (Rq C m sp Mq E ta t):=by
 intro pins s σ H Q I h
 refine PySem.W.methodCall_KW (pl:=pl) (jf (he pins s σ H _ I h) fun u s1 ⟨x,H1,I1,rx,a,dx,fs,ex,ea,l,q⟩=>?_) ht
 subst ex
 obtain rfl:u=Value.ref a:=rx
 refine Ro I1 ea c hm l ?_
 refine PySem.W.callWith_K (first:=[.ref a]) (h₀:=X.base) I.ok.mod.kin hm.kp (jf (ha pos pins s1 σ H1 _ I1 q) fun us s2 ⟨vs,H2,I2,r,q2⟩=>⟨I2.IX,?_⟩) hst hpl
 exact WO (us:=.ref a :: us) (vs:=.ref a :: vs) F hr hb hd hx I2 (.cons rfl r) q2
theorem mX{pl:Sem Bool}(he:PE X o ta)(c:V4 X.K C)(hm:jN X.K C m f)(F:cW X.prog X.w X.K X.mg X.base CX k f fd ps sp)(hr:oZ k X.A)(hb:Binds X.K fd ps ds)(hd:cP Mq ds)(hx:vN CX X E)
 (ht:eval (.Call (.Attribute o m apos) [] [] pos) X.env=(do
  let ov ← eval o X.env
  standAt apos.atName
  let (f,first) ← holding [ov] (getMethod ov m pl)
  callWith pos f first (backTo pos (starEach [] X.env)) (backToKw pos (keywordEach [] X.env))):=by rfl) :
 PE X (.Call (.Attribute o m apos) [] [] pos) (Rq C m sp Mq E ta Zd):=by
 intro pins s σ H Q I h
 refine PySem.W.methodCall_KW (pl:=pl) (jf (he pins s σ H _ I h) fun u s1 ⟨x,H1,I1,rx,a,dx,fs,ex,ea,l,q⟩=>?_) ht
 subst ex
 obtain rfl:u=Value.ref a:=rx
 refine Ro I1 ea c hm l ?_
 exact PySem.W.callWith_K0 (first:=[.ref a]) I1.IX hm.kp (WO (us:=[.ref a]) (vs:=[.ref a]) F hr hb hd hx I1 (.cons rfl .nil) q)
structure Mk(K:ah)(C f:Addr):Prop where
 makes:iZ K C=true
 init:au K (.ref C) "__init__" = some (some (.ref f))
 fn:aT K (.ref f)=true
 kp:ay K (.ref C)=true
theorem Ze{pins:List (Addr × Obj)}{σ:St}{H:Hp}{s:Shared}{Q:VK}{us:List Value}{vs:List V}(M:Mk X.K C f)(F:cW X.prog X.w X.K X.mg X.base CX k f fd ps sp)(hr:oZ (k + 1) X.A)(hb:Binds X.K fd ps ds)(hd:cP Mq ds)
 (hx:vN CX X E) (I:Inv X pins σ H s) (r:cP vs us)
 (h:∀ x dx,H x=none→H dx=none→dx≠x→sp (.ref x :: (vs++Mq)) (upd (upd H dx (.own x)) x (.ins C dx [])) (fun v H2=>v = .iu∧Q (.ref x) H2) E) :
 wpAny (model X.prog X.w) X.A (call (.ref C) us) (EP X pins σ Q) X.xe s:=by
 have hq:=h (s.heap.objs.size + 1) s.heap.objs.size (I.hok.fresh (iD _)) (I.hok.fresh (aK _)) (bZ (Nat.lt_succ_self _))
 have I2:=Inv.made (C:=C) I
 have r2:cP (V.ref (s.heap.objs.size + 1) :: (vs++Mq)) (Value.ref (s.heap.objs.size + 1) :: (us++ds)):=.cons rfl (r.append hd)
 have hl:(Value.ref (s.heap.objs.size + 1) :: us++ds).length=ps.length:=by
  have e:=r2.length
  rw[F.len _ _ _ _ hq] at e
  exact e.symm
 refine wpAny_call (afu (f:=f) I.IX M.makes M.init (beq_iff_eq.mp M.fn) (codeAny_mono (F.run _ X.stack _ _ ⟨Value.ref (s.heap.objs.size + 1) :: us,[]⟩ (Value.ref (s.heap.objs.size + 1) :: (us++ds)) _ _ E (hr.make C us [])
  (I2.anI.make C us []) (hb _ (Value.ref (s.heap.objs.size + 1) :: us) I2.IX hl) r2 hq) fun r s' hq'=>?_))
 cases r with
 | error e=>exact hx pins σ _ _ e s' I2 hq'
 | ok fl =>
  cases fl with
  | ret u =>
   obtain⟨v,H',I3,rv,ev,q3⟩:=I2.after hq'
   subst ev
   exact⟨rv,⟨V.ref (s.heap.objs.size + 1),H',I3,rfl,q3⟩⟩
  | next=>exact lM hq'
  | brk=>exact lM hq'
  | cont=>exact lM hq'
theorem Hi(M:Mk X.K C f)(F:cW X.prog X.w X.K X.mg X.base CX k f fd ps sp)(hr:oZ (k + 1) X.A)(hg:Gl X x)(hm:X.mg x=some (.ref C))(hb:Binds X.K fd ps ds)(hd:cP Mq ds)(hx:vN CX X E)
 (ha:PA X (e :: es) t) (hdb:(x == ("__debug__" : Str))=false:=by decide) (he:starEach (e :: es) X.env=(false,eval e X.env) :: starEach es X.env:=by rfl) (hpl:(backTo pos (starEach es X.env)).any (·.1)=false:=by rfl) :
 PE X (.Call (.Name x p) (e :: es) [] pos) (ajN C sp Mq E t):=by
 intro pins s σ H Q I h
 refine wpAny_Call_Name_kw (KL I hg hm ?_ hdb)
 refine PySem.W.callWith_K (h₀:=X.base) I.ok.mod.kin M.kp (jf (ha pos pins s σ H _ I h) fun us s1 ⟨vs,H1,I1,r,q⟩=>⟨I1.IX,?_⟩) he hpl
 exact Ze M F hr hb hd hx I1 r q
theorem afv(M:Mk X.K C f)(F:cW X.prog X.w X.K X.mg X.base CX k f fd ps sp)(hr:oZ (k + 1) X.A)(hg:Gl X x)(hm:X.mg x=some (.ref C))(hb:Binds X.K fd ps ds)(hd:cP Mq ds)(hx:vN CX X E)
 (hdb:(x == ("__debug__" : Str))=false:=by decide):PE X (.Call (.Name x p) [] [] pos) (ajN C sp Mq E Zd):=by
 intro pins s σ H Q I h
 refine wpAny_Call_Name_kw (KL I hg hm ?_ hdb)
 exact PySem.W.callWith_K0 I.IX M.kp (Ze (us:=[]) M F hr hb hd hx I .nil h)
end
structure aV(N P:List Str)(sc:Scope):Prop where
 kind:sc.kind = .function
 co:sc.isCoroutine=false
 gen:sc.isGenerator=false
 nd:N.Nodup
 pre:N.take P.length=P
 par:∀ x∈P,sc.names.lookup x=some .local∨sc.names.lookup x=some .cell
 akQ:∀ y∈sc.names,y.2≠.free
theorem V5{kindOf:Str→Option NameKind}{x:Str}:∀ {binds:List (Str × Value)} {m:Str→Option Value},(∀ v,(x,v) ∉ binds)→bindL kindOf binds m x=m x
 | [],_,_=>rfl
 | (n,v) :: r,m,h=>by
  unfold bindL
  rw[V5 fun w hw=>h w (bP _ hw)]
  split
  ·have:x≠n:=by rintro rfl; exact h v cN
   simp[this]
  ·rfl
theorem V6{kindOf:Str→Option NameKind}{x:Str}:∀ {binds:List (Str × Value)} {m:Str→Option Value},(∀ v,(x,v) ∉ binds)→bindC kindOf binds m x=m x
 | [],_,_=>rfl
 | (n,v) :: r,m,h=>by
  unfold bindC
  rw[V6 fun w hw=>h w (bP _ hw)]
  split
  ·rfl
  ·have:x≠n:=by rintro rfl; exact h v cN
   simp[this]
theorem V7{kindOf:Str→Option NameKind}{x:Str}{v:Value}:∀ {P:List Str} {vs:List Value} {i:Nat} {m:Str→Option Value},P.Nodup→P[i]?=some x→vs[i]?=some v→kindOf x=some .local →
 bindL kindOf (P.zip vs) m x=some v
 | [],_,_,_,_,h,_,_=>by simp at h
 | _ :: _,[],_,_,_,_,h,_=>by simp at h
 | p :: P,w :: vs,0,m,nd,h1,h2,hk=>by
  simp at h1 h2; subst h1; subst h2
  show bindL kindOf ((p,w) :: P.zip vs) m p=_
  unfold bindL
  rw[V5 fun v hv=>(lJ.mp nd).1 (List.of_mem_zip hv).1,if_pos hk]
  simp
 | p :: P,w :: vs,i + 1,m,nd,h1,h2,hk=>by
  show bindL kindOf ((p,w) :: P.zip vs) m x=_
  unfold bindL
  exact V7 (i:=i) (lJ.mp nd).2 (by simpa using h1) (by simpa using h2) hk
theorem V8{kindOf:Str→Option NameKind}{x:Str}{v:Value}:∀ {P:List Str} {vs:List Value} {i:Nat} {m:Str→Option Value},P.Nodup→P[i]?=some x→vs[i]?=some v→kindOf x≠some .local →
 bindC kindOf (P.zip vs) m x=some v
 | [],_,_,_,_,h,_,_=>by simp at h
 | _ :: _,[],_,_,_,_,h,_=>by simp at h
 | p :: P,w :: vs,0,m,nd,h1,h2,hk=>by
  simp at h1 h2; subst h1; subst h2
  show bindC kindOf ((p,w) :: P.zip vs) m p=_
  unfold bindC
  rw[V6 fun v hv=>(lJ.mp nd).1 (List.of_mem_zip hv).1,if_neg hk]
  simp
 | p :: P,w :: vs,i + 1,m,nd,h1,h2,hk=>by
  show bindC kindOf ((p,w) :: P.zip vs) m x=_
  unfold bindC
  exact V8 (i:=i) (lJ.mp nd).2 (by simpa using h1) (by simpa using h2) hk
noncomputable def start(N:List Str)(vs:List V):St:=vs.map some++List.replicate (N.length - vs.length) none
noncomputable def uT(CX:CXT)(P:Program)(w:World)(K:ah)(mg:Str→Option Value)(base:Heap)(N:List Str)(qual:Str)(scope:Scope)(f:Addr)(cd:Value)(A:Around)(outer:List Env)(s:Shared)(H:Hp)(E:XK):Cx where
 prog:=P
 w:=w
 K:=K
 mg:=mg
 base:=base
 A:=A.deeper (envOfC qual scope s.heap.objs.size f cd)
 N:=N
 s₀:=s
 H₀:=H
 env:=envOfC qual scope s.heap.objs.size f cd
 outer:=outer
 stack:=envOfC qual scope s.heap.objs.size f cd :: outer
 ex:=[]
 calm:=true
 fn:=fun _=>true
 pn:=[]
 xe:=fun e s'=>wpAny (model P w) (A.deeper (envOfC qual scope s.heap.objs.size f cd)) (leaving (envOfC qual scope s.heap.objs.size f cd) e) (fun _ s''=>CX outer H s E e s'') (fun e' s''=>CX outer H s E e' s'') s'
theorem Zf{sc:Scope}{n:Nat}{x:Str}(h:sc.names.lookup x=some .cell):∃ c,(cellsFrom n sc.names []).lookup x=some c:=by
 have q:=PySem.W.cellsFrom_some sc.names n [] (.inl h)
 exact Option.isSome_iff_exists.mp q
theorem ad6{CX:CXT}{P:Program}{w:World}{K:ah}{mg:Str→Option Value}{base:Heap}{N ps:List Str}{qual:Str}{scope:Scope}{f:Addr}{cd:Value}{A:Around}{outer:List Env}{s s1:Shared}{H:Hp}{E:XK}{us:List Value}{vs:List V}
 (S:aV N ps scope) (hd:A.handled=none) (e0:abv P w K mg base A outer s H) (hl:vs.length=ps.length) (r:cP vs us)
 (x:InCallC s s.heap.objs.size (bindL (envOfC qual scope s.heap.objs.size f cd).kindOf (ps.zip us) fun _=>none) (cellsFrom (s.heap.objs.size + 1) scope.names []) (bindC (envOfC qual scope s.heap.objs.size f cd).kindOf (ps.zip us) fun _=>none) s1) :
 Inv (uT CX P w K mg base N qual scope f cd A outer s H E) [] (start N vs) H s1:=by
 have hpl:ps.length≤N.length:=by have:=congrArg List.length S.pre; rw[b5] at this; omega
 obtain⟨h1,tk,rfl,hk⟩:=x.done
 have noA:∀ b:Addr,b ∉ (uT CX P w K mg base N qual scope f cd A outer s H E).ex:=fun b z=>absurd (show b∈([]:List Addr) from z) (by simp)
 refine⟨⟨e0.mod,S.kind,rfl,rfl,aK _,fun y z c h1 h2=>?_,fun y hy=>?_,fun y c _ h=>?_,fun _=>hd,Around.frames_deeper e0.frames,.inr ⟨rfl,rfl⟩,fun b z=>absurd z (noA b),e0.bs,e0.bsz,fun b _ _=>noA b,fun b z=>absurd z (noA b),e0.KJ,e0.frf⟩,
  rfl,e0.bare,Un.kept hk,⟨_,x.toInCall.ns,fun i y v h1 h2 h3=>?_⟩,fun y c h=>⟨_,x.cell y c h⟩,e0.hok.fresh (aK _),fun y c h=>?_,fun p hp=>absurd (show p∈([]:List (Addr × Obj)) from hp) (by simp),e0.hok.kept hk,?_⟩
 ·exact name_of_addr x.apart (sG h1) (sG h2)
 ·have hy:scope.names.lookup y=some .cell∨scope.names.lookup y=some .free:=hy
  rcases hy with hy | hy
  ·exact Zf hy
  ·exact absurd rfl (S.akQ _ (sG hy))
 ·exact oU (x.above y c (sG h))
 ·have hi:i < vs.length:=by
   unfold start at h2
   by_cases hi:i < vs.length
   ·exact hi
   ·rw[cu (by simpa using hi)] at h2
    rw[List.getElem?_replicate] at h2
    split at h2 <;> cases h2
  have ha:vs[i]?=some v:=by
   unfold start at h2
   rw[cH (by simpa using hi),aq] at h2
   cases e:vs[i]? with
   | none=>rw[e] at h2; cases h2
   | some a=>rw[e] at h2; cases h2; rfl
  obtain⟨u,hu,rv⟩:=r.get ha
  have hp:ps[i]?=some y:=by
   rw[← S.pre,List.getElem?_take_of_lt (by omega)]; exact h1
  have ndP:ps.Nodup:=by rw[← S.pre]; exact S.nd.sublist (List.take_sublist _ _)
  refine⟨u,rv,?_⟩
  rcases S.par y (bz hp) with k | k
  ·exact .inl ⟨k,V7 ndP hp hu k⟩
  ·obtain⟨c,e⟩:=Zf (n:=s.heap.objs.size + 1) k
   refine .inr ⟨.inl k,c,e,?_⟩
   have q:=x.cell y c e
   rw[V8 ndP hp hu (by show scope.names.lookup y≠_; rw[k]; decide)] at q
   exact q
 ·exact e0.hok.fresh (oU (x.above y c (sG h)))
 ·unfold start
  show _=N.length
  rw[aH,af,List.length_replicate]
  omega
theorem afw{CX:CXT}{P:Program}{w:World}{K:ah}{mg:Str→Option Value}{base:Heap}{k:Nat}{f:Addr}{name qual:Str}{params:Arguments}{body:List Stmt}{scope:Scope}{dV kV doc pm cdv ct oc:Value}{an od:Option Addr}
 {osl:Array (Option Value)} {N ps:List Str} {sp:Sp} (lk:K.lookup f=some ⟨oc,od,.func (ak name qual params body scope dV kV doc pm an cdv ct),osl⟩) (hcd:aA K cdv qual=true) (S:aV N ps scope)
 (len:∀ vs H Q E,sp vs H Q E→vs.length=ps.length)
 (hbody:∀ (A:Around) (outer:List Env) (s:Shared) (H:Hp) (vs:List V) (Q:VK) (E:XK),oZ k (A.deeper (envOfC qual scope s.heap.objs.size f cdv))→sp vs H Q E →
  ∃ t,oS (uT CX P w K mg base N qual scope f cdv A outer s H E) body t∧t { nx:=fun _ H'=>Q .iu H',rt:=Q } (start N vs) H) :
 cW P w K mg base CX (k + 1) f (ak name qual params body scope dV kV doc pm an cdv ct) ps sp:=by
 refine⟨len,fun A outer s H args us vs Q E hr e0 hb r hsp=>?_⟩
 have hl:=len _ _ _ _ hsp
 have KX:K.In s.heap:=e0.mod.kin.keeps fun b o e=>(e0.bs b o e).1
 have lim:s.heap.NoLimit:=e0.mod.nolimit.keeps fun b o e=>(e0.bs b o e).1
 have hkind:∀ y∈ps.zip us,scope.names.lookup y.1=some .local∨(scope.names.lookup y.1=some .cell∧((cellsFrom (s.heap.objs.size + 1) scope.names []).lookup y.1).isSome=true):=fun ⟨n,v⟩ hy=>by
  rcases S.par n (List.of_mem_zip hy).1 with q | q
  ·exact .inl q
  ·exact .inr ⟨q,PySem.W.cellsFrom_some _ _ _ (.inl q)⟩
 refine codeAny_call_function hr.depth (KX _ _ lk) rfl S.co S.gen rfl (PySem.W.codeRec_of KX hcd) (hb _ _ _ _ ?_)
 refine wpAny_newFunctionEnv_cells S.kind hkind fun env he s1 x=>?_
 subst he
 refine⟨lim.keeps x.toInCall.keep,codeAny_func ?_⟩
 obtain⟨t,ht,hq⟩:=hbody A outer s H vs Q E (hr.deeper _) hsp
 have I:Inv (uT CX P w K mg base N qual scope f cdv A outer s H E) [] (start N vs) H s1:=ad6 S hr.hd e0 hl r x
 refine wpAny_mono (ht [] s1 (start N vs) H _ I hq) (fun fl s' hs=>?_) fun e s' hs=>hs
 have fin:∀ {σ':St} {H':Hp} {v:V} {u:Value},Inv (uT CX P w K mg base N qual scope f cdv A outer s H E) [] σ' H' s'→RelV v u→Q v H'→CE outer P w H s Q u s' :=
  fun {σ' H' v u} J rv q=>⟨v,H',J.os,J.bare,J.base,J.hok,rv,q⟩
 cases fl with
 | ret u =>
  obtain⟨v,σ',H',J,rv,q⟩:=hs
  exact fin J rv q
 | next =>
  obtain⟨σ',H',J,q⟩:=hs
  exact fin (v:=V.iu) (u:=Value.none) J rfl q
 | brk =>
  obtain⟨_,_,_,q⟩:=hs
  exact lM q
 | cont =>
  obtain⟨_,_,_,q⟩:=hs
  exact lM q
end L2
namespace L2
open PySem PySem.Spec PyProof.Rows
section
variable{X:Cx}{x:Str}{p pos:Pos}{e:Expr}{es:List Expr}{t:TA}{id T:String}{r:List V→Hp→VK→Prop}
noncomputable def tCB(r:List V→Hp→VK→Prop)(t:TA):TE:=fun σ H Q=>t σ H fun vs H1=>r vs H1 Q
theorem cC(hc:vL X (.builtin id) r)(hg:Gl X x)(hm:X.mg x=none)(hv:bootBuiltins x=some (.builtin id))(ha:PA X (e :: es) t)(hn:x≠"__name__" := by decide)(hdb:(x == ("__debug__" : Str))=false:=by decide)
 (he:starEach (e :: es) X.env=(false,eval e X.env) :: starEach es X.env:=by rfl) (hpl:(backTo pos (starEach es X.env)).any (·.1)=false:=by rfl):PE X (.Call (.Name x p) (e :: es) [] pos) (tCB r t):=by
 intro pins s σ H Q I h
 refine wpAny_Call_Name_kw (Ri I hg hm hv ?_ hn hdb)
 exact PyProof.Rows.callWith_builtin1 (jf (ha pos pins s σ H _ I h) fun us s1 ⟨vs,H1,I1,r1,q1⟩=>hc pins s1 σ H1 vs us Q I1 r1 q1) he hpl
theorem iy(hc:vL X (.type T) r)(hg:Gl X x)(hm:X.mg x=none)(hv:bootBuiltins x=some (.type T))(ha:PA X (e :: es) t)(hn:x≠"__name__" := by decide)(hdb:(x == ("__debug__" : Str))=false:=by decide)
 (he:starEach (e :: es) X.env=(false,eval e X.env) :: starEach es X.env:=by rfl) (hpl:(backTo pos (starEach es X.env)).any (·.1)=false:=by rfl):PE X (.Call (.Name x p) (e :: es) [] pos) (tCB r t):=by
 intro pins s σ H Q I h
 refine wpAny_Call_Name_kw (Ri I hg hm hv ?_ hn hdb)
 exact PyProof.Rows.callWith_type1 (jf (ha pos pins s σ H _ I h) fun us s1 ⟨vs,H1,I1,r1,q1⟩=>hc pins s1 σ H1 vs us Q I1 r1 q1) he hpl
end
end L2
namespace HT
open PySem PyProof.Rows
theorem Zg(A:Around)(s:Shared)(a:Int)(t:Tok)(c:Int)(u:Tok):∃ e,SeqAt.EqAt A s (.int a t) (.int c u) e∧(e=true↔a=c) :=
 ⟨(a == c),SeqAt.EqAt.int_int a t c u,by simp⟩
theorem afx(A:Around)(s:Shared)(a:Int)(t:Tok)(c:Int)(u:Tok)(prog:Program)(w:World)(E:Value→Shared→Prop)(Q:Value→Shared→Prop)(h:Q (.bool (decide (a < c))) s) :
 wpAny (model prog w) A (richCompare .Lt (.int a t) (.int c u)) Q E s :=
 (PyProof.Rows.lt_int h:wpAny (model prog w) A (compareOp .Lt (.int a t) (.int c u)) Q E s)
section
open PySem.SeqAt
open PySem.AutoSeq1 (wpAny_loadPart')
open PySem.MeetsSeq PySem.MeetsSeq2 PySem.MeetsSeq3
end
section
variable{prog:Program}{w:World}{A:Around}{E:Value→Shared→Prop}{s:Shared}
noncomputable def nH(n d:Nat):Option Int→Nat
 | none=>d
 | some v=>if v < 0 then (v + (n:Int)).toNat else min v.toNat n
theorem Q6(n d k:Nat):nH n d (some (k:Int))=min k n:=by
 show (if (k:Int) < 0 then ((k:Int) + (n:Int)).toNat else min (k:Int).toNat n)=min k n
 rw[if_neg (by omega),iF]
theorem akR(n d:Nat)(hd:d≤n)(o:Option Int):nH n d o≤n:=by
 cases o with
 | none=>exact hd
 | some v =>
  show (if v < 0 then (v + (n:Int)).toNat else min v.toNat n)≤n
  by_cases hv:v < 0
  ·rw[if_pos hv]; omega
  ·rw[if_neg hv]; exact Nat.min_le_right _ _
theorem ada(v:Int)(n d:Nat):(if v < 0 then max (v + (n:Int)) 0 else min v (n:Int))=((nH n d (some v):Nat):Int):=by
 show (if v < 0 then max (v + (n:Int)) 0 else min v (n:Int))=(((if v < 0 then (v + (n:Int)).toNat else min v.toNat n):Nat):Int)
 by_cases hv:v < 0
 ·simp only[if_pos hv]; omega
 ·simp only[if_neg hv]; omega
theorem abw(lo hi:Option Int)(n:Nat):Builtin.Slice.sliceAdjust lo hi 1 (n:Int)=(((nH n 0 lo:Nat):Int),((nH n n hi:Nat):Int)):=by
 have h1:¬ ((1:Int) < 0):=by omega
 unfold Builtin.Slice.sliceAdjust
 simp only[h1,if_false]
 refine Prod.ext ?_ ?_
 ·cases lo with
  | none=>rfl
  | some v=>exact ada v n 0
 ·cases hi with
  | none=>rfl
  | some v=>exact ada v n n
theorem abx(i j:Nat):Builtin.Slice.slicePlaces (i:Int) (j:Int) 1=j - i:=by
 unfold Builtin.Slice.slicePlaces
 have h1:(1:Int) > 0:=by omega
 simp only[h1,if_true,Int.ediv_one]
 split <;> omega
theorem Rr{v:Value}{o:Option Int}{Q:Option Int→Shared→Prop}(p:IsPart v o)(h:Q o s):wpAny (model prog w) A (Builtin.Slice.slicePartIndex v) Q E s:=by
 cases p with
 | none=>exact slicePart_none h
 | int i t=>exact slicePart_int h
theorem Mx{sl:Addr}{vl vu:Value}{lo hi:Option Int}{n:Nat}{Q:Int × Int × Nat→Shared→Prop}(hs:s.heap.IsSliceOf sl vl vu .none)(pl:IsPart vl lo)(pu:IsPart vu hi)
 (h:Q (((nH n 0 lo:Nat):Int),1,nH n n hi - nH n 0 lo) s):wpAny (model prog w) A (Builtin.Slice.sliceApplied (.ref sl) (pure (n:Int))) Q E s:=by
 obtain⟨os,hos,hcs,hds⟩:=id hs
 unfold Builtin.Slice.sliceApplied Builtin.Slice.sliceFields
 refine wpAny_bind (wpAny_bind (wpAny_field hos hds (x:=vl) rfl (wpAny_bind (wpAny_field hos hds (x:=vu) rfl (wpAny_bind (wpAny_field hos hds (x:=.none) rfl (wpAny_pure ?_)))))))
 refine wpAny_bind (slicePart_none ?_)
 show wpAny _ _ (if ((1:Int) == 0)=true then _ else _) _ _ s
 rw[if_neg (by decide)]
 refine wpAny_bind (Rr pl (wpAny_bind (Rr pu (wpAny_bind (wpAny_pure ?_)))))
 show wpAny _ _ (match Builtin.Slice.sliceAdjust lo hi 1 (n:Int) with | (lo,hi)=>pure (lo,(1:Int),Builtin.Slice.slicePlaces lo hi 1)) _ _ s
 rw[abw lo hi n]
 show wpAny _ _ (pure (((nH n 0 lo:Nat):Int),(1:Int),Builtin.Slice.slicePlaces ((nH n 0 lo:Nat):Int) ((nH n n hi:Nat):Int) 1)) _ _ s
 rw[abx]
 exact wpAny_pure h
theorem afy(xs:Array Value)(i k:Nat):((aB k).filterMap fun (m:Nat)=>xs[((i:Int) + (m:Int) * 1).toNat]?).toArray=((xs.toList.drop i).take k).toArray:=by
 have e:(fun (m:Nat)=>xs[((i:Int) + (m:Int) * 1).toNat]?)=fun m=>xs[i + m]?:=by
  funext m
  have:((i:Int) + (m:Int) * 1).toNat=i + m:=by omega
  rw[this]
 rw[e]
 have:=pick_run xs i k
 rw[List.filterMap_map] at this
 have e2:((fun x=>xs[x]?) ∘ fun x=>i + x)=fun m=>xs[i + m]?:=rfl
 rw[e2] at this
 rw[this]
theorem KS{t sl:Addr}{items:Array Value}{vl vu:Value}{lo hi:Option Int}{Q:Value→Shared→Prop}(ht:IsTup s.heap t items)(hs:s.heap.IsSliceOf sl vl vu .none)(pl:IsPart vl lo)(pu:IsPart vu hi)
 (hw:¬ (nH items.size 0 lo=0∧nH items.size items.size hi=items.size))
 (h:Q (.ref s.heap.objs.size) { s with heap:=s.heap.push { cls:=.type "tuple",data:=.seq ((items.toList.drop (nH items.size 0 lo)).take (nH items.size items.size hi - nH items.size 0 lo)).toArray } })
 (hsz:items.size≤sizeLine):wpAny (model prog w) A (getItem (.ref t) (.ref sl)) Q E s:=by
 have adb:sizeOk (.seq ((items.toList.drop (nH items.size 0 lo)).take (nH items.size items.size hi - nH items.size 0 lo)).toArray):=by
  show ((items.toList.drop (nH items.size 0 lo)).take (nH items.size items.size hi - nH items.size 0 lo)).toArray.size≤sizeLine
  rw[aZ,b5,jg,jL]
  omega
 have hj:nH items.size items.size hi≤items.size:=akR _ _ (aK _) hi
 obtain⟨os,hos,hcs,hds⟩:=id hs
 have hTs:s.TypeIs (.ref sl) "slice" := ⟨os,hos,hcs⟩
 unfold getItem
 try with_reducible refine wpAny_holding ?_
 first | refine wpAny_bind (wpAny_pure ?_) | skip
 refine wpAny_bind (wpAny_sequenceKey ht.typeIs (by decide) ?_)
 refine wpAny_bind (wpAny_callSpecial?_slot (name:=Str.ofString "__getitem__") ht.typeIs yR
  (wpAny_call_entry yR ht.typeIs entry_tuple_getitem ?_ (args_tuple_getitem _ _)))
 show wpAny _ _ (Builtin.Tuple.tupleItemsOf (.ref t) >>= _) _ _ s
 refine wpAny_bind (tupleItemsOf_ ht ?_)
 refine wpAny_bind (wpAny_typeOf hTs ?_)
 rw[if_pos (by decide)]
 refine wpAny_bind (Mx hs pl pu ?_)
 have hno:¬ ((((nH items.size 0 lo:Nat):Int) == 0 && (1:Int) == 1 && (nH items.size items.size hi - nH items.size 0 lo) == items.size)=true):=by
  intro q
  rw[fm,fm] at q
  have q1:((nH items.size 0 lo:Nat):Int)=0:=eq_of_beq q.1.1
  have q2:nH items.size items.size hi - nH items.size 0 lo=items.size:=eq_of_beq q.2
  exact hw ⟨by omega,by omega⟩
 show wpAny _ _ (if (((nH items.size 0 lo:Nat):Int) == 0 && (1:Int) == 1 && (nH items.size items.size hi - nH items.size 0 lo) == items.size)=true then _ else _) _ _ s
 rw[if_neg hno,afy]
 first
  | exact wpAny_bind (m:=Builtin.Tuple.tupleExact _) (wpAny_newObj_type (wpAny_pure ⟨_,rfl,wpAny_pure h⟩) adb)
  | exact wpAny_bind (m:=Builtin.Tuple.tupleExact _) (wpAny_newObj_type (wpAny_bind (wpAny_pure (wpAny_pure ⟨_,rfl,wpAny_pure h⟩))) adb)
  | exact wpAny_bind (wpAny_bind (m:=Builtin.Tuple.tupleExact _) (wpAny_newObj_type (wpAny_pure (wpAny_pure ⟨_,rfl,wpAny_pure h⟩)) adb))
  | exact wpAny_bind (wpAny_bind (m:=Builtin.Tuple.tupleExact _) (wpAny_newObj_type (wpAny_pure ⟨_,rfl,wpAny_pure h⟩) adb))
end
end HT
namespace L2
open PySem PySem.Spec PyProof.Rows
noncomputable abbrev TO:=St→Hp→(Option Int→Hp→Prop)→Prop
noncomputable def PO(X:Cx)(e:Option Expr)(t:TO):Prop :=
 ∀ (pins:List (Addr × Obj)) (s:Shared) (σ:St) (H:Hp) (Q:Option Int→Hp→Prop),Inv X pins σ H s→t σ H Q →
  wpAny (model X.prog X.w) X.A (evalPart e X.env) (fun u s'=>∃ o H',Inv X pins σ H' s'∧IsPart u o∧Q o H') X.xe s
noncomputable def ah4:TO:=fun _ H Q=>Q none H
noncomputable def anL(t:TE):TO:=fun σ H Q=>t σ H fun x H1=>∃ i,x = .int i∧Q (some i) H1
theorem intsAre_of{ns:List Int}:∀ {us:List Value},cP (ns.map V.int) us→IntsAre us ns:=by
 induction ns with
 | nil=>intro us r; rw[List.map_nil] at r; cases r; exact .nil
 | cons n ns ih =>
  intro us r
  rw[cG] at r
  cases r with
  | cons r1 r2 =>
   obtain⟨t,e⟩:=r1
   subst e
   exact .cons n t (ih r2)
section
variable{X:Cx}{e:Expr}{te:TE}{lo hi:Option Expr}{tl th:TO}{pos p2:Pos}
theorem KU:PO X none ah4:=by
 intro pins s σ H Q I h
 rw[evalPart_none]
 exact wpAny_pure ⟨none,H,I,.none,h⟩
theorem rE(h:PE X e te):PO X (some e) (anL te):=by
 intro pins s σ H Q I hw
 rw[evalPart_some]
 refine jf (h pins s σ H _ I hw) fun u s1 ⟨x,H1,I1,r1,q1⟩=>?_
 obtain⟨i,rfl,q⟩:=q1
 obtain⟨t,rfl⟩:=r1
 exact⟨some i,H1,I1,.int i t,q⟩
noncomputable def SlR(X:Cx)(r:V→Option Int→Option Int→Hp→VK→Prop):Prop :=
 ∀ (pins:List (Addr × Obj)) (s:Shared) (σ:St) (H:Hp) (x:V) (v vl vu:Value) (lo hi:Option Int) (sl:Addr) (Q:VK),Inv X pins σ H s→RelV x v→s.heap.IsSliceOf sl vl vu .none→IsPart vl lo→IsPart vu hi→r x lo hi H Q →
  ∃ T id,typeLookup (.type T) "__getitem__" = pure (some (.builtin id))∧s.TypeIs v T∧wpAny (model X.prog X.w) X.A (getItem v (.ref sl)) (EP X pins σ Q) X.xe s
noncomputable def tSl(r:V→Option Int→Option Int→Hp→VK→Prop)(te:TE)(tl th:TO):TE:=fun σ H Q=>te σ H fun x H1=>tl σ H1 fun l H2=>th σ H2 fun u H3=>r x l u H3 Q
theorem vO{r:V→Option Int→Option Int→Hp→VK→Prop}(hr:SlR X r)(he:PE X e te)(hl:PO X lo tl)(hu:PO X hi th):PE X (.Subscript e (.Slice lo hi none p2) pos) (tSl r te tl th):=by
 intro pins s σ H Q I h
 refine Subscript_ (jf (he pins s σ H _ I h) fun v s1 ⟨x,H1,I1,r1,q1⟩=>?_)
 refine wpAny_Slice (jf (hl pins s1 σ H1 _ I1 q1) fun vl s2 ⟨l,H2,I2,pl,q2⟩=>jf (hu pins s2 σ H2 _ I2 q2) fun vu s3 ⟨u,H3,I3,pu,q3⟩=>?_)
 rw[evalPart_none]
 refine wpAny_pure ?_
 have I4:Inv X pins σ H3 { s3 with heap:=s3.heap.push { cls:=.type "slice",data:=.fields #[vl,vu,.none] } }:=I3.kept (t':=s3.toks) fun b ob q=>Heap.get?_push_of_some _ q
 obtain⟨T,id,hT,ht,hg⟩:=hr pins { s3 with heap:=s3.heap.push { cls:=.type "slice",data:=.fields #[vl,vu,.none] } } σ H3 x v vl vu l u s3.heap.objs.size Q I4 r1 (Heap.IsSliceOf.new ..) pl pu q3
 show wpAny (model X.prog X.w) X.A (subscriptTail e (.Slice lo hi none p2) v (.ref s3.heap.objs.size)) (EP X pins σ Q) X.xe { s3 with heap:=s3.heap.push { cls:=.type "slice",data:=.fields #[vl,vu,.none] } }
 exact tail_any (ops:=[.ref s3.heap.objs.size,v]) ht hT hg (by with_unfolding_all rfl)
noncomputable def HC(xs:List V)(lo hi:Option Int):List V:=(xs.drop (HT.nH xs.length 0 lo)).take (HT.nH xs.length xs.length hi - HT.nH xs.length 0 lo)
theorem ON(xs:List V)(lo hi:Option Int):(HC xs lo hi).length≤xs.length:=by
 unfold HC
 rw[b5,jg]
 omega
noncomputable def aqV(K:ah):V→Option Int→Option Int→Hp→VK→Prop:=fun x lo hi H Q=>∃ a xs,x = .ref a∧dP K H a xs ∧
 ¬ (HT.nH xs.length 0 lo=0∧HT.nH xs.length xs.length hi=xs.length)∧∀ p,H p=none→Q (.ref p) (upd H p (.tup (HC xs lo hi)))
theorem WQ:SlR X (aqV X.K):=by
 intro pins s σ H x v vl vu lo hi sl Q I rx hs pl pu h
 obtain⟨a,xs,rfl,hx,hw,q⟩:=h
 cases rx
 obtain⟨its,r,ht,hz⟩:=I.tuple hx
 have hlen:its.toArray.size=xs.length:=by rw[aZ]; exact r.length.symm
 refine⟨"tuple",_,yR.lookup,ht.typeIs,?_⟩
 refine HT.KS ht hs pl pu (by rw[hlen]; exact hw) ?_ (by rw[hlen]; exact hz)
 rw[hlen]
 refine⟨.ref s.heap.objs.size,_,I.laid (t':=s.toks) (o:=.tup (HC xs lo hi)) (fun b ob q=>Heap.get?_push_of_some _ q) (aK _) ?_,rfl,q _ (I.hok.fresh (aK _))⟩
 exact⟨aX (ON xs lo hi) hz,_,(r.drop (HT.nH xs.length 0 lo)).take (HT.nH xs.length xs.length hi - HT.nH xs.length 0 lo),IsTup.new _ _⟩
end
end L2
namespace L2
open PySem PySem.Spec PyProof.Rows
noncomputable def ixN(n:Nat)(i:Int):Option Nat:=if 0≤i then (if i < n then some i.toNat else none) else if -(n:Int)≤i then some (i + n).toNat else none
noncomputable def Q7{α:Type}(xs:List α)(i:Int):Option α:=(ixN xs.length i).bind fun j=>xs[j]?
theorem WR{n:Nat}{i:Int}{j:Nat}(h:ixN n i=some j):seqIndex? i n=some j∧j < n∧-(n:Int)≤i∧i < n:=by
 unfold ixN at h
 by_cases h0:0≤i
 ·rw[if_pos h0] at h
  by_cases h1:i < n
  ·rw[if_pos h1] at h
   have e:i.toNat=j:=aS h
   exact⟨by rw[seqIndex_of h0 h1,e],by omega,by omega,h1⟩
  ·rw[if_neg h1] at h; cases h
 ·rw[if_neg h0] at h
  by_cases h1 : -(n:Int)≤i
  ·rw[if_pos h1] at h
   have e:(i + n).toNat=j:=aS h
   exact⟨by rw[seqIndex_neg (by omega) h1,e],by omega,h1,by omega⟩
  ·rw[if_neg h1] at h; cases h
theorem ade{α:Type}{xs:List α}{i:Int}{v:α}(h:Q7 xs i=some v):∃ j,seqIndex? i xs.length=some j∧xs[j]?=some v∧j < xs.length∧-(xs.length:Int)≤i∧i < xs.length:=by
 unfold Q7 at h
 cases e:ixN xs.length i with
 | none=>rw[e] at h; cases h
 | some j =>
  rw[e] at h
  obtain⟨h1,h2,h3,h4⟩:=WR e
  exact⟨j,h1,h,h2,h3,h4⟩
theorem gv{α:Type}{xs:List α}{j:Nat}{v:α}(h:xs[j]?=some v):Q7 xs (j:Int)=some v:=by
 have hj:j < xs.length:=(aj.mp h).1
 have e:ixN xs.length (j:Int)=some j:=by
  unfold ixN
  rw[if_pos (by omega),if_pos (by omega)]; simp
 unfold Q7; rw[e]; exact h
noncomputable def ah6(b:Expr):Prop:=∀ o i,subscripted b false o i=operate [o,i] (getItem o i)
noncomputable def IxR(X:Cx)(r:R2):Prop :=
 ∀ (value slice:Expr) (pins:List (Addr × Obj)) (s:Shared) (σ:St) (H:Hp) (x y:V) (v u:Value) (Q:VK),Inv X pins σ H s→RelV x v→RelV y u→r x y H Q →
  subscripted slice false v u=operate [v,u] (getItem v u)→wpAny (model X.prog X.w) X.A (subscriptTail value slice v u) (EP X pins σ Q) X.xe s
noncomputable def MtR(X:Cx)(id:String)(r:V→List V→Hp→VK→Prop):Prop :=
 ∀ (pins:List (Addr × Obj)) (s:Shared) (σ:St) (H:Hp) (x:V) (xs:List V) (v:Value) (us:List Value) (Q:VK),Inv X pins σ H s→RelV x v→cP xs us→r x xs H Q →
  wpAny (model X.prog X.w) X.A (call (.builtin id) (v :: us)) (EP X pins σ Q) X.xe s
section
variable{X:Cx}{a b:Expr}{ta tb:TE}{pos:Pos}
theorem bM{r:R2}(hr:IxR X r)(ha:PE X a ta)(hb:PE X b tb)(hs:ah6 b):PE X (.Subscript a b pos) (tOp r ta tb):=by
 intro pins s σ H Q I h
 exact Subscript_ (akJ ha hb I h fun v u s2 x y H2 I2 rx ry q=>hr a b pins s2 σ H2 x y v u Q I2 rx ry q (hs _ _))
noncomputable def akS(K:ah):R2:=fun x y H Q=>∃ p xs i v,x = .ref p∧y = .int i∧ck K H p xs∧Q7 xs i=some v∧Q v H
noncomputable def akT(K:ah):R2:=fun x y H Q=>∃ p xs i v,x = .ref p∧y = .int i∧dP K H p xs∧Q7 xs i=some v∧Q v H
theorem cD:IxR X (akS X.K):=by
 intro value slice pins s σ H x y v u Q I rx ry h hs
 obtain⟨p,xs,i,z,rfl,rfl,hq,he,q⟩:=h
 cases rx
 obtain⟨t,rfl⟩:=ry
 obtain⟨its,r,pl,hz⟩:=I.list hq
 obtain⟨j,h1,h2,h3,h4,h5⟩:=ade he
 obtain⟨w,ew,rw'⟩:=r.get h2
 have hl:=r.length
 have hn:=Rn
 have fin:EP X pins σ Q w s:=⟨z,H,I,rw',q⟩
 by_cases h0:0≤i
 ·have hj:i.toNat=j:=by
   rw[seqIndex_of h0 h5] at h1
   exact aS h1
  exact item_listR pl.isList h0 (by omega) (by rw[hj]; simpa using ew) fin hs
 ·have hj:(i + (its.toArray.size:Int)).toNat=j:=by
   rw[seqIndex_neg (by omega) h4] at h1
   rw[aZ,← hl]
   exact aS h1
  exact subscriptTail_builtinR (x:=w) pl.isList.typeIs slot_list_getitem.lookup
   (wpAny_getItem_list_neg (Q:=fun r s'=>r=w∧EP X pins σ Q r s') pl.isList (by omega) (by rw[aZ] <;> omega) (by omega) (by rw[hj]; simpa using ew) ⟨rfl,fin⟩) hs
theorem dQ:IxR X (akT X.K):=by
 intro value slice pins s σ H x y v u Q I rx ry h hs
 obtain⟨p,xs,i,z,rfl,rfl,hq,he,q⟩:=h
 cases rx
 obtain⟨t,rfl⟩:=ry
 obtain⟨its,r,pl,hz⟩:=I.tuple hq
 obtain⟨j,h1,h2,h3,h4,h5⟩:=ade he
 obtain⟨w,ew,rw'⟩:=r.get h2
 have hl:=r.length
 have hn:=Rn
 have fin:EP X pins σ Q w s:=⟨z,H,I,rw',q⟩
 exact subscriptTail_builtinR (x:=w) pl.typeIs slot_tuple_getitem.lookup
  (getItem_tuple (j:=j) (Q:=fun r s'=>r=w∧EP X pins σ Q r s') pl (by omega) (by omega) (by rw[aZ,← hl]; exact h1) (by simpa using ew) ⟨rfl,fin⟩) hs
theorem aby(its:List Value)(n j:Nat)(u:Value):Obj.mapSeq (·.setIfInBounds j u) { cls:=.type "list",data:=.seq its.toArray n } = { cls:=.type "list",data:=.seq (its.set j u).toArray n }:=by
 simp[Obj.mapSeq]
theorem Inv.lst{pins:List (Addr × Obj)}{σ:St}{H:Hp}{s:Shared}{p:Addr}{xs:List V}(I:Inv X pins σ H s)(h:H p=some (.lst xs)) :
 ∃ (its:List Value) (n:Nat),cP xs its∧s.heap.get? p=some { cls:=.type "list",data:=.seq its.toArray n }∧xs.length≤sizeLine:=by
 obtain⟨z,its,n,r,e⟩:=I.hok p _ h
 exact⟨its,n,r,e,z⟩
theorem Inv.akU{pins:List (Addr × Obj)}{σ:St}{H:Hp}{s:Shared}{p:Addr}{xs ys:List V}{its its':List Value}{n n':Nat}{f:Obj→Obj}(I:Inv X pins σ H s)(h:H p=some (.lst xs))
 (ho:s.heap.get? p=some { cls:=.type "list",data:=.seq its.toArray n }) (hf:f { cls:=.type "list",data:=.seq its.toArray n } = { cls:=.type "list",data:=.seq its'.toArray n' }) (r:cP ys its') (hz:ys.length≤sizeLine) (t:Nat) :
 Inv X pins σ (upd H p (.lst ys)) { s with heap:=s.heap.update p f,toks:=t }:=by
 have e:(s.heap.update p f).get? p=some { cls:=.type "list",data:=.seq its'.toArray n' }:=by
  rw[Heap.get?_update_self f ho (by rw[hf] <;> rfl),hf]
 refine I.write (x:=p) (e:=p) (by rw[h]; trivial) (.inl rfl) (fun b u hb q=>(Heap.get?_update_other _ _ (bW hb)).trans q) ⟨_,e⟩ ?_
 exact⟨hz,its',n',r,e⟩
noncomputable def anN:V→V→V→Hp→(Hp→Prop)→Prop:=fun o i v H Q=>∃ p xs k j,o = .ref p∧i = .int k∧H p=some (.lst xs)∧ixN xs.length k=some j∧Q (upd H p (.lst (xs.set j v)))
theorem set_list:anv X anN:=by
 intro pins s σ H o i v ov iv u Q I ro ri rv h
 obtain⟨p,xs,k,j,rfl,rfl,hp,hj,q⟩:=h
 cases ro
 obtain⟨t,rfl⟩:=ri
 obtain⟨its,n,r,ho,hz⟩:=I.lst hp
 obtain⟨h1,h2,h3,h4⟩:=WR hj
 have hl:=r.length
 have hn:=Rn
 have I':Inv X pins σ (upd H p (.lst (xs.set j v))) { s with heap:=s.heap.update p (Obj.mapSeq (·.setIfInBounds j u)) } :=
  I.akU hp ho (aby its n j u) (r.set rv j) (by rw[eY]; exact hz) s.toks
 by_cases h0:0≤k
 ·have hk:k.toNat=j:=by
   rw[seqIndex_of h0 h4] at h1
   exact aS h1
  exact PySem.W.ki_setAt ho h0 (by omega) (by rw[aZ,← hl]; exact h4) (by rw[hk]; exact⟨_,I',q⟩)
 ·have hk:(k + (its.toArray.size:Int)).toNat=j:=by
   rw[seqIndex_neg (by omega) h3] at h1
   rw[aZ,← hl]
   exact aS h1
  exact PySem.W.ki_setBack ho (by omega) (by rw[aZ,← hl]; exact h3) (by omega) (by rw[hk]; exact⟨_,I',q⟩)
theorem WS(lo hi:Option Int)(n:Nat):(sliceBounds lo hi none n).1=((HT.nH n 0 lo:Nat):Int)∧(sliceBounds lo hi none n).2.1=((HT.nH n n hi:Nat):Int)∧(sliceBounds lo hi none n).2.2=1:=by
 refine⟨?_,?_,rfl⟩
 ·cases lo with
  | none=>simp[sliceBounds,HT.nH]
  | some i =>
   simp only[sliceBounds,HT.nH,Option.getD_none,show (1:Int) > 0 by decide,if_true]
   by_cases h:i < 0
   ·simp only[h,if_true] <;> omega
   ·simp only[h,if_false] <;> omega
 ·cases hi with
  | none=>simp[sliceBounds,HT.nH]
  | some i =>
   simp only[sliceBounds,HT.nH,Option.getD_none,show (1:Int) > 0 by decide,if_true]
   by_cases h:i < 0
   ·simp only[h,if_true] <;> omega
   ·simp only[h,if_false] <;> omega
theorem US(its:List Value)(lo hi:Option Int):slicePick its.toArray lo hi none=((its.drop (HT.nH its.length 0 lo)).take (HT.nH its.length its.length hi - HT.nH its.length 0 lo)).toArray:=by
 obtain⟨h1,h2,h3⟩:=WS lo hi its.toArray.size
 unfold slicePick
 rw[h1,h2,h3]
 simp only[sliceRange_one,pick_run,aZ] <;> rfl
noncomputable def aqW(K:ah):V→Option Int→Option Int→Hp→VK→Prop:=fun x lo hi H Q=>∃ a xs,x = .ref a∧ck K H a xs∧∀ p,H p=none→Q (.ref p) (upd H p (.lst (HC xs lo hi)))
theorem WT:SlR X (aqW X.K):=by
 intro pins s σ H x v vl vu lo hi sl Q I rx hs pl pu h
 obtain⟨a,xs,rfl,hx,q⟩:=h
 cases rx
 obtain⟨its,r,ht,hz⟩:=I.list hx
 have hlen:=r.length
 refine⟨"list",_,slot_list_getitem.lookup,ht.isList.typeIs,?_⟩
 refine wpAny_getItem_list_slice ht.isList hs pl pu .none (by simp) ?_ (by rw[aZ] <;> omega)
 rw[US,← hlen]
 refine⟨.ref s.heap.objs.size,_,I.laid (t':=s.toks) (o:=.lst (HC xs lo hi)) (fun b ob q=>Heap.get?_push_of_some _ q) (aK _) ?_,rfl,q _ (I.hok.fresh (aK _))⟩
 exact⟨aX (ON xs lo hi) hz,_,0,(r.drop (HT.nH xs.length 0 lo)).take (HT.nH xs.length xs.length hi - HT.nH xs.length 0 lo),Heap.get?_push_size _ rfl⟩
noncomputable def D9:V→Bool
 | .iu=>true
 | .bl _=>true
 | .int _=>true
 | .str _=>true
 | _=>false
noncomputable def eqV:V→V→Bool
 | .iu,.iu=>true
 | .bl a,.bl b=>a == b
 | .bl a,.int b=>(if a then 1 else 0) == b
 | .int a,.bl b=>a == (if b then 1 else 0)
 | .int a,.int b=>a == b
 | .str a,.str b=>a == b
 | _,_=>false
theorem akV{A:Around}{s:Shared}{y x:V}{u v:Value}(ry:RelV y u)(rx:RelV x v)(fy:D9 y=true)(fx:D9 x=true):SeqAt.EqAt A s u v (eqV y x):=by
 cases y with
 | iu =>
  cases ry
  cases x with
  | iu=>cases rx; exact SeqAt.EqAt.same _
  | bl b=>cases rx; exact SeqAt.EqAt.none_bool b
  | int b=>obtain⟨t,rfl⟩:=rx; exact SeqAt.EqAt.none_int b t
  | str b=>obtain⟨t,rfl⟩:=rx; exact SeqAt.EqAt.none_str b t
  | _=>exact absurd (show false=true from fx) aN
 | bl a =>
  cases ry
  cases x with
  | iu=>cases rx; exact SeqAt.EqAt.bool_none a
  | bl b=>cases rx; exact SeqAt.EqAt.bool_bool a b
  | int b=>obtain⟨t,rfl⟩:=rx; exact SeqAt.EqAt.bool_int a b t
  | str b=>obtain⟨t,rfl⟩:=rx; exact SeqAt.EqAt.bool_str a b t
  | _=>exact absurd (show false=true from fx) aN
 | int a =>
  obtain⟨t',rfl⟩:=ry
  cases x with
  | iu=>cases rx; exact SeqAt.EqAt.int_none a t'
  | bl b=>cases rx; exact SeqAt.EqAt.int_bool a t' b
  | int b=>obtain⟨t,rfl⟩:=rx; exact SeqAt.EqAt.int_int a t' b t
  | str b=>obtain⟨t,rfl⟩:=rx; exact SeqAt.EqAt.int_str a t' b t
  | _=>exact absurd (show false=true from fx) aN
 | str a =>
  obtain⟨t',rfl⟩:=ry
  cases x with
  | iu=>cases rx; exact SeqAt.EqAt.str_none a t'
  | bl b=>cases rx; exact SeqAt.EqAt.str_bool a t' b
  | int b=>obtain⟨t,rfl⟩:=rx; exact SeqAt.EqAt.str_int a t' b t
  | str b=>obtain⟨t,rfl⟩:=rx; exact SeqAt.EqAt.str_str a t' b t
  | _=>exact absurd (show false=true from fx) aN
 | _=>exact absurd (show false=true from fy) aN
noncomputable def eqU(x:V)(u:Value):Bool:=match u with
 | .none=>eqV .iu x
 | .bool b=>eqV (.bl b) x
 | .int i _=>eqV (.int i) x
 | .str z _=>eqV (.str z) x
 | _=>false
theorem afz{x y:V}{u:Value}(r:RelV y u)(f:D9 y=true):eqU x u=eqV y x:=by
 cases y with
 | iu=>cases r; rfl
 | bl b=>cases r; rfl
 | int i=>obtain⟨t,rfl⟩:=r; rfl
 | str z=>obtain⟨t,rfl⟩:=r; rfl
 | _=>exact absurd (show false=true from f) aN
theorem KW{x:V}:∀ {xs:List V} {us:List Value},cP xs us→xs.all D9=true→us.any (eqU x)=xs.any fun y=>eqV y x
 | _,_,.nil,_=>rfl
 | y :: xs,u :: us,.cons r t,f=>by
  rw[List.all_cons,fm] at f
  rw[List.any_cons,List.any_cons,afz r f.1,KW t f.2]
theorem Ea{A:Around}{s:Shared}{x:V}{v:Value}(rx:RelV x v)(fx:D9 x=true):∀ {xs:List V} {us:List Value},cP xs us→xs.all D9=true→∀ u∈us,SeqAt.EqAt A s u v (eqU x u)
 | _,_,.nil,_=>fun u hu=>by cases hu
 | y :: xs,u :: us,.cons r t,f=>fun u' hu=>by
  rw[List.all_cons,fm] at f
  rcases cF.mp hu with rfl | hu
  ·rw[afz r f.1]; exact akV r rx f.1 fx
  ·exact Ea rx fx t f.2 u' hu
noncomputable def OO(x:V)(xs:List V):Bool:=xs.any fun y=>eqV y x
noncomputable def rIn(K:ah)(neg:Bool):R2:=fun x y H Q=>∃ p xs,y = .ref p∧(ck K H p xs∨dP K H p xs)∧D9 x=true∧xs.all D9=true∧Q (.bl (if neg then !OO x xs else OO x xs)) H
theorem vA:D8 X (compareOp .In) (rIn X.K false):=by
 intro pins s σ H x y v u Q I rx ry h
 obtain⟨p,xs,rfl,hq,fx,fs,q⟩:=h
 cases ry
 rcases hq with hq | hq
 ·obtain⟨its,r,pl,hz⟩:=I.list hq
  refine SeqAt.in_listAt (eqU x) pl.isList (fun w hw=>Ea rx fx r fs w (by simpa using hw)) ⟨.bl _,H,I,rfl,?_⟩
  rw[show its.toArray.any (eqU x)=its.any (eqU x) by simp,KW r fs]
  exact q
 ·obtain⟨its,r,pl,hz⟩:=I.tuple hq
  refine SeqAt.in_tupleAt (eqU x) pl (fun w hw=>Ea rx fx r fs w (by simpa using hw)) ⟨.bl _,H,I,rfl,?_⟩
  rw[show its.toArray.any (eqU x)=its.any (eqU x) by simp,KW r fs]
  exact q
theorem uU:D8 X (compareOp .NotIn) (rIn X.K true):=by
 intro pins s σ H x y v u Q I rx ry h
 obtain⟨p,xs,rfl,hq,fx,fs,q⟩:=h
 cases ry
 rcases hq with hq | hq
 ·obtain⟨its,r,pl,hz⟩:=I.list hq
  refine SeqAt.notIn_listAt (eqU x) pl.isList (fun w hw=>Ea rx fx r fs w (by simpa using hw)) ⟨.bl _,H,I,rfl,?_⟩
  rw[show its.toArray.any (eqU x)=its.any (eqU x) by simp,KW r fs]
  exact q
 ·obtain⟨its,r,pl,hz⟩:=I.tuple hq
  refine SeqAt.notIn_tupleAt (eqU x) pl (fun w hw=>Ea rx fx r fs w (by simpa using hw)) ⟨.bl _,H,I,rfl,?_⟩
  rw[show its.toArray.any (eqU x)=its.any (eqU x) by simp,KW r fs]
  exact q
theorem bK:vL X (.builtin "len") (fun xs H Q=>∃ p ys,xs = [.ref p]∧(ck X.K H p ys∨dP X.K H p ys)∧Q (.int ys.length) H):=by
 intro pins s σ H xs us Q I r h
 obtain⟨p,ys,rfl,hq,q⟩:=h
 obtain⟨u,rfl,rx⟩:=vals1 r
 cases rx
 have hn:=Rn
 rcases hq with hq | hq
 ·obtain⟨its,r',pl,hz⟩:=I.list hq
  have hlen:=r'.length
  exact Calls.call_len_list pl.isList (by simp only[aZ] <;> omega) ⟨.int ys.length,H,I.tok _,⟨s.toks + 1,by rw[aZ,hlen]⟩,q⟩
 ·obtain⟨its,r',pl,hz⟩:=I.tuple hq
  have hlen:=r'.length
  exact len_tuple pl (by simp only[aZ] <;> omega) ⟨.int ys.length,H,I.tok _,⟨s.toks + 1,by rw[aZ,hlen]⟩,q⟩
theorem iG:vL X (.type "list") (fun xs H Q=>∃ p ys,xs = [.ref p]∧(ck X.K H p ys∨dP X.K H p ys)∧∀ l,H l=none→Q (.ref l) (upd H l (.lst ys))):=by
 intro pins s σ H xs us Q I r h
 obtain⟨p,ys,rfl,hq,q⟩:=h
 obtain⟨u,rfl,rx⟩:=vals1 r
 cases rx
 have fin:∀ (its:List Value),cP ys its→ys.length≤sizeLine→∀ (h':Heap) (c':Nat),(∀ b o',s.heap.get? b=some o'→h'.get? b=some o') →
  h'.get? s.heap.objs.size=some { cls:=.type "list",dict:=none,data:=.seq its.toArray c',slots:=#[] }→EP X pins σ Q (.ref s.heap.objs.size) { s with heap:=h' }:=fun its r' hz h' c' kp e =>
  ⟨.ref s.heap.objs.size,_,I.laid (t':=s.toks) kp (aK _) (show je X.prog X.w _ h' _ (.lst ys) from ⟨hz,its,c',r',e⟩),rfl,q _ (I.hok.fresh (aK _))⟩
 rcases hq with hq | hq
 ·obtain⟨its,r',pl,hz⟩:=I.list hq
  have hlen:=r'.length
  obtain⟨o,ho,hc,n,hd⟩:=pl.isList
  exact call_list_seq p (.inl rfl) ho hc hd (fun h' c' kp e=>fin its r' hz h' c' kp e) (by simp only[aZ] <;> omega)
 ·obtain⟨its,r',pl,hz⟩:=I.tuple hq
  have hlen:=r'.length
  obtain⟨o,ho,hc,n,hd⟩:=pl
  exact call_list_seq p (.inr rfl) ho hc hd (fun h' c' kp e=>fin its r' hz h' c' kp e) (by simp only[aZ] <;> omega)
noncomputable def tyV(K:ah)(T:String)(x:V)(H:Hp):Prop:=match x with
 | .str _=>T = "str"
 | .int _=>T = "int"
 | .ref p=>(T = "list" ∧ ∃ xs,ck K H p xs)∨(T = "tuple" ∧ ∃ o,K.lookup p=some o∧o.cls = .type "tuple" ∧ o.dict=none) ∨
  (T = "dict" ∧ ((∃ kvs,H p=some (.dK kvs))∨∃ kvs,H p=some (.dT kvs)))∨(T = "set" ∧ ∃ S n,H p=some (.set S n))
 | _=>False
theorem afA{pins:List (Addr × Obj)}{σ:St}{H:Hp}{s:Shared}{T:String}{x:V}{v:Value}(I:Inv X pins σ H s)(r:RelV x v)(ty:tyV X.K T x H) :
 s.TypeIs v T∧∀ a,v = .ref a→∃ ob,s.heap.get? a=some ob∧ob.dict=none:=by
 cases x with
 | str z =>
  obtain⟨t,rfl⟩:=r
  cases (show T = "str" from ty)
  exact⟨typeIs_str s z t,fun _ e=>nomatch e⟩
 | int i =>
  obtain⟨t,rfl⟩:=r
  cases (show T = "int" from ty)
  exact⟨typeIs_int s i t,fun _ e=>nomatch e⟩
 | ref p =>
  cases r
  rcases ty with ⟨rfl,xs,hq⟩ | ⟨rfl,o,hk,hc,hd⟩ | ⟨rfl,hk⟩ | ⟨rfl,S,n,hk⟩
  ·obtain⟨its,_,pl,_⟩:=I.list hq
   refine⟨pl.isList.typeIs,fun a e=>?_⟩
   cases e
   obtain⟨o,n,e,c,hd,_⟩:=pl
   exact⟨o,e,hd⟩
  ·refine⟨⟨o,I.IX p o hk,hc⟩,fun a e=>?_⟩
   cases e
   exact⟨o,I.IX _ o hk,hd⟩
  ·have z:∃ o,s.heap.get? p=some o∧o.ExactDict:=by
    rcases hk with ⟨kvs,hk⟩ | ⟨kvs,hk⟩
    ·obtain⟨_,_,_,_,o,_,_,e,ex,_⟩:=I.hok p _ hk
     exact⟨o,e,ex⟩
    ·obtain⟨_,_,_,_,o,_,_,e,ex,_⟩:=I.hok p _ hk
     exact⟨o,e,ex⟩
   obtain⟨o,e,ex⟩:=z
   refine⟨⟨o,e,ex.1⟩,fun a e2=>?_⟩
   cases e2
   exact⟨o,e,ex.2.1⟩
  ·obtain⟨o,_,_,_,e,ex,_⟩:=I.hok p _ hk
   refine⟨⟨o,e,ex.1⟩,fun a e2=>?_⟩
   cases e2
   exact⟨o,e,ex.2.1⟩
 | _=>exact lM ty
noncomputable def aqZ(K:ah)(T:String)(r:V→List V→Hp→VK→Prop)(to:TE):TE:=fun σ H Q=>to σ H fun x H1=>tyV K T x H1∧r x [] H1 Q
noncomputable def tBM(K:ah)(T:String)(r:V→List V→Hp→VK→Prop)(to:TE)(t:TA):TE:=fun σ H Q=>to σ H fun x H1=>tyV K T x H1∧t σ H1 fun xs H2=>r x xs H2 Q
variable{o e:Expr}{es:List Expr}{to:TE}{t:TA}{name:Str}{apos cpos:Pos}{T id:String}{r:V→List V→Hp→VK→Prop}
theorem akW(pa:PlainAttrs T)(slot:Slot T name id)(hty:typeOf (.builtin id)=pure (.type "method_descriptor"))(hm:MtR X id r)(ho:PE X o to)
 (hbase:attributeBase o name X.env (eval o X.env)=eval o X.env:=by rfl) (hline:(apos.endLine == cpos.line)=true:=by rfl):PE X (.Call (.Attribute o name apos) [] [] cpos) (aqZ X.K T r to):=by
 intro pins s σ H Q I h
 refine wpAny_Call_method0_late hbase hline (jf (ho pins s σ H _ I h) fun v s1 ⟨x,H1,I1,r1,ty,q1⟩=>?_)
 obtain⟨h1,h2⟩:=afA I1 r1 ty
 exact⟨T,id,pa,slot,hty,h1,h2,Calls.callWith_builtin rfl (PySem.evalArgs_none (hm pins s1 σ H1 x [] v [] Q I1 r1 .nil q1))⟩
theorem o6(pa:PlainAttrs T)(slot:Slot T name id)(hty:typeOf (.builtin id)=pure (.type "method_descriptor"))(hm:MtR X id r)(ho:PE X o to)(ha:PA X (e :: es) t)
 (hbase:attributeBase o name X.env (eval o X.env)=eval o X.env:=by rfl)
 (hfew:((backTo cpos (starEach (e :: es) X.env)).all (fun x=>!x.1) && (backToKw cpos (keywordEach [] X.env)).all (fun x=>x.1.isSome)
  && decide ((e :: es).length + ([]:List Keyword).length + (if ([]:List Keyword).isEmpty then 0 else 1) < 30))=true:=by rfl)
 (hline:(apos.endLine == cpos.line)=true:=by rfl) (hs:starEach (e :: es) X.env=(false,eval e X.env) :: starEach es X.env:=by rfl) (hplain:(backTo cpos (starEach es X.env)).any (·.1)=false:=by rfl) :
 PE X (.Call (.Attribute o name apos) (e :: es) [] cpos) (tBM X.K T r to t):=by
 intro pins s σ H Q I h
 refine wpAny_Call_method_late hbase hfew hline rfl (jf (ho pins s σ H _ I h) fun v s1 ⟨x,H1,I1,r1,ty,q1⟩=>?_)
 obtain⟨h1,h2⟩:=afA I1 r1 ty
 refine⟨T,id,pa,slot,hty,h1,h2,?_⟩
 have hA:=ha cpos pins s1 σ H1 _ I1 q1
 rw[hs] at hA ⊢
 refine Calls.callWith_builtin (by show (false || (backTo cpos (starEach es X.env)).any (·.1))=false; rw[hplain] <;> rfl) (Calls.evalArgs_plain ?_)
 exact jf hA fun us s2 ⟨vs,H2,I2,r2,q2⟩=>hm pins s2 σ H2 x vs v us Q I2 r1 r2 q2
end
end L2
namespace L2
open PySem PySem.Spec PyProof.Rows
noncomputable def MtM(X:Cx)(id:String)(r:V→List V→Hp→VK→Prop):Prop :=
 ∀ (pins:List (Addr × Obj)) (s:Shared) (σ:St) (H:Hp) (x:V) (xs:List V) (v:Value) (us:List Value) (Q:VK),Inv X pins σ H s→RelV x v→cP xs us→r x xs H Q →
  wpAny (model X.prog X.w) X.A (call (.builtin id) (v :: us)) (EP X pins σ Q) X.xe s
theorem cP.one:∀ {x:V} {us:List Value},cP [x] us→∃ u,us = [u]∧RelV x u
 | _,_,.cons r .nil=>⟨_,rfl,r⟩
theorem cP.two:∀ {x y:V} {us:List Value},cP [x,y] us→∃ u v,us = [u,v]∧RelV x u∧RelV y v
 | _,_,_,.cons r (.cons q .nil)=>⟨_,_,rfl,r,q⟩
theorem cP.zero:∀ {us:List Value},cP [] us→us = []
 | _,.nil=>rfl
theorem cP.eraseIdx:∀ {xs:List V} {us:List Value} (i:Nat),cP xs us→cP (xs.eraseIdx i) (us.eraseIdx i)
 | _,_,_,.nil=>.nil
 | _,_,0,.cons _ t=>t
 | _,_,i + 1,.cons r t=>.cons r (cP.eraseIdx i t)
theorem V9{α:Type}:∀ (l:List α) (i:Nat),(l.eraseIdx i).length≤l.length
 | [],_=>aK _
 | _ :: _,0=>iD _
 | _ :: r,i + 1=>Nat.succ_le_succ (V9 r i)
section
variable{X:Cx}{pins:List (Addr × Obj)}{σ:St}{H:Hp}{s:Shared}{l b:Addr}{xs ys zs:List V}
theorem Inv.akX{its its':List Value}{n:Nat}{f:Array Value→Array Value}{t':Nat}(I:Inv X pins σ H s)(hH:H l=some (.lst xs))
 (e:s.heap.get? l=some { cls:=.type "list",data:=.seq its.toArray n }) (hf:f its.toArray=its'.toArray) (hv:cP ys its') (hz:ys.length≤sizeLine) :
 Inv X pins σ (upd H l (.lst ys)) { s with heap:=s.heap.update l (Obj.mapSeq f),toks:=t' }:=by
 have q:=PySem.IsL.update e f
 rw[hf] at q
 refine I.write (x:=l) (e:=l) (by rw[hH]; exact trivial) (.inl rfl) (fun b' u hb hu=>(Heap.get?_update_other s.heap (Obj.mapSeq f) (bW hb)).trans hu) ⟨_,q⟩ ?_
 exact⟨hz,its',_,hv,q⟩
theorem Inv.aq1{its:List Value}{t':Nat}(I:Inv X pins σ H s)(hv:cP ys its)(hz:ys.length≤sizeLine) :
 Inv X pins σ (upd H s.heap.objs.size (.lst ys)) { s with heap:=s.heap.push { cls:=.type "list",data:=.seq its.toArray },toks:=t' } :=
 I.laid (fun _ _ q=>Heap.get?_push_of_some _ q) (aK _) ⟨hz,its,0,hv,Heap.get?_push_size _ rfl⟩
theorem Inv.fresh(I:Inv X pins σ H s):H s.heap.objs.size=none:=I.hok.fresh (aK _)
theorem Inv.afB(I:Inv X pins σ H s)(hH:H l=some (.lst xs)):xs.length≤sizeLine∧∃ (its:List Value) (n:Nat),cP xs its∧xs.length=its.length∧s.heap.get? l=some { cls:=.type "list",data:=.seq its.toArray n }:=by
 obtain⟨z,its,n,r,e⟩:=I.hok l _ hH
 exact⟨z,its,n,r,r.length,e⟩
end
section
variable{X:Cx}
noncomputable def ah7:V→List V→Hp→VK→Prop:=fun x vs H Q=>∃ l xs y,x = .ref l∧vs = [y]∧H l=some (.lst xs)∧xs.length < sizeLine∧Q .iu (upd H l (.lst (xs++[y])))
theorem er:MtM X "list.append" ah7:=by
 intro pins s σ H x vs v us Q I rx rv h
 obtain⟨l,xs,y,rfl,rfl,hH,hz,q⟩:=h
 cases rx
 obtain⟨u,rfl,ru⟩:=rv.one
 obtain⟨z,its,n,r,hl,e⟩:=I.afB hH
 refine call_meets F.slot_list_append ⟨_,e,rfl⟩ F.entry_list_append (F.args_list_append_2 _ _) (PySem.list_append l its.toArray n u (by rw[aZ]; omega)) ⟨e,?_⟩
 refine⟨.iu,_,I.akX (its':=its++[u]) hH e (by simp) (r.append (.cons ru .nil)) ?_,rfl,q⟩
 rw[aH,List.length_singleton]
 omega
noncomputable def akY:V→List V→Hp→VK→Prop:=fun x vs H Q=>∃ l xs i k y,x = .ref l∧vs = [.int i]∧H l=some (.lst xs)∧-(2 ^ 63)≤i∧i < 2 ^ 63∧seqIndex? i xs.length=some k∧xs[k]?=some y∧Q y (upd H l (.lst (xs.eraseIdx k)))
theorem afC:MtM X "list.pop" akY:=by
 intro pins s σ H x vs v us Q I rx rv h
 obtain⟨l,xs,i,k,y,rfl,rfl,hH,h1,h2,hk,hy,q⟩:=h
 cases rx
 obtain⟨u,rfl,ru⟩:=rv.one
 obtain⟨t,rfl⟩:=ru
 obtain⟨z,its,n,r,hl,e⟩:=I.afB hH
 obtain⟨w,hw,rw'⟩:=r.get hy
 refine call_meets F.slot_list_pop ⟨_,e,rfl⟩ F.entry_list_pop (F.args_list_pop_2 _ _)
  (MeetsSeq.list_pop_at l its.toArray n i t k w (fitsIndex_both h1 h2) (by rw[aZ,← hl]; exact hk) (by rw[← Array.getElem?_toList]; exact hw) (by rw[aZ]; omega)) ⟨e,?_⟩
 refine⟨y,_,I.akX (its':=its.eraseIdx k) hH e ?_ (r.eraseIdx k) ?_,rw',q⟩
 ·show its.toArray.eraseIdxIfInBounds k=(its.eraseIdx k).toArray
  rw[List.eraseIdxIfInBounds_toArray]
 ·have:=V9 xs k
  omega
noncomputable def akZ:V→List V→Hp→VK→Prop:=fun x vs H Q=>∃ l xs,x = .ref l∧vs = []∧H l=some (.lst xs)∧Q .iu (upd H l (.lst []))
theorem afD:MtM X "list.clear" akZ:=by
 intro pins s σ H x vs v us Q I rx rv h
 obtain⟨l,xs,rfl,rfl,hH,q⟩:=h
 cases rx
 have hus:=rv.zero
 subst hus
 obtain⟨z,its,n,r,hl,e⟩:=I.afB hH
 refine call_meets F.slot_list_clear ⟨_,e,rfl⟩ F.entry_list_clear (F.args_list_clear_1 _) (AutoSeq1.list_clear_list_0 l its.toArray n (by rw[aZ]; omega)) ⟨e,?_⟩
 exact⟨.iu,_,I.akX (its':=[]) (ys:=[]) hH e rfl .nil (bJ _),rfl,q⟩
noncomputable def aq2:R2:=fun x y H Q=>∃ l b xs zs,x = .ref l∧y = .ref b∧H l=some (.lst xs)∧H b=some (.lst zs)∧xs.length + zs.length≤sizeLine∧∀ p,H p=none→Q (.ref p) (upd H p (.lst (xs++zs)))
theorem ak0:D8 X (binaryOp .Add) aq2:=by
 intro pins s σ H x y v u Q I rx ry h
 obtain⟨l,b,xs,zs,rfl,rfl,hH,hB,hz,q⟩:=h
 cases rx
 cases ry
 obtain⟨z,its,n,r,hl,e⟩:=I.afB hH
 obtain⟨z2,its2,n2,r2,hl2,e2⟩:=I.afB hB
 refine PySem.P.add_list e e2 ?_ (by rw[aZ,aZ]; omega)
 have ea:its.toArray++its2.toArray=(its++its2).toArray:=by simp
 rw[ea]
 exact⟨.ref _,_,I.aq1 (t':=s.toks) (r.append r2) (by rw[aH]; omega),rfl,q _ I.fresh⟩
end
end L2
namespace L2
open PySem PySem.Spec PyProof.Rows
section
variable{κ:Type}[DecidableEq κ]
noncomputable def KY(kvs:List (κ × V))(k:κ):Option V:=(kvs.find? fun kv=>decide (kv.1=k)).map (·.2)
noncomputable def putK(kvs:List (κ × V))(k:κ)(v:V):List (κ × V) :=
 if (kvs.any fun kv=>decide (kv.1=k))=true then kvs.map (fun kv=>if kv.1=k then (kv.1,v) else kv) else kvs++[(k,v)]
theorem Eb{p:κ × V}{r:List (κ × V)}{k:κ}(e:p.1=k):KY (p :: r) k=some p.2:=by simp[KY,vI,e]
theorem Ec{p:κ × V}{r:List (κ × V)}{k:κ}(e:¬ p.1=k):KY (p :: r) k=KY r k:=by simp[KY,vI,e]
theorem Zh(k:κ):∀ kvs:List (κ × V),(kvs.any fun kv=>decide (kv.1=k))=(KY kvs k).isSome
 | []=>rfl
 | p :: r=>by
  rw[List.any_cons]
  by_cases e:p.1=k
  ·simp only[Eb e,decide_eq_true e,Bool.true_or,Option.isSome_some]
  ·rw[Ec e,decide_eq_false e,Bool.false_or]; exact Zh k r
theorem OP(kvs:List (κ × V))(k:κ)(v:V):(putK kvs k v).length≤kvs.length + 1:=by
 unfold putK
 split
 ·rw[af]; omega
 ·rw[aH,cE,List.length_nil]; omega
theorem HB.My{o:Option V}{u:Option Value}(r:HB o u):o.isSome=u.isSome:=by
 cases o with
 | none=>cases u with
  | none=>rfl
  | some _=>exact (show False from r).elim
 | some _=>cases u with
  | none=>exact (show False from r).elim
  | some _=>rfl
theorem HB.getD{o:Option V}{u:Option Value}{d:V}{d':Value}(r:HB o u)(rd:RelV d d'):RelV (o.getD d) (u.getD d'):=by
 cases o with
 | none=>cases u with
  | none=>exact rd
  | some _=>exact (show False from r).elim
 | some _=>cases u with
  | none=>exact (show False from r).elim
  | some _=>exact r
theorem KV.val{kvs:List (κ × V)}{vs:List (κ × Value)}(r:KV kvs vs)(k:κ):HB (KY kvs k) (valueAt vs k):=by
 unfold KV at r
 induction r with
 | nil=>exact qj
 | @cons p q ps qs h t ih =>
  obtain⟨h1,h2⟩:=h
  by_cases e:p.1=k
  ·have e':q.1=k:=h1.symm.trans e
   have b:valueAt (q :: qs) k=some q.2:=by simp[valueAt,vI,e']
   rw[Eb e,b]; exact h2
  ·have e':¬ q.1=k:=fun z=>e (h1.trans z)
   have b:valueAt (q :: qs) k=valueAt qs k:=by simp[valueAt,vI,e']
   rw[Ec e,b]; exact ih
theorem KV.any{kvs:List (κ × V)}{vs:List (κ × Value)}(r:KV kvs vs)(k:κ):(kvs.any fun kv=>decide (kv.1=k))=vs.any fun kv=>decide (kv.1=k):=by
 unfold KV at r
 induction r with
 | nil=>rfl
 | cons h t ih=>rw[List.any_cons,List.any_cons,ih,h.1]
theorem KV.repl{kvs:List (κ × V)}{vs:List (κ × Value)}(r:KV kvs vs)(k:κ){y:V}{u:Value}(ry:RelV y u) :
 KV (kvs.map fun kv=>if kv.1=k then (kv.1,y) else kv) (vs.map fun kv=>if kv.1=k then (kv.1,u) else kv):=by
 unfold KV at r ⊢
 induction r with
 | nil=>exact .nil
 | @cons p q ps qs h t ih =>
  rw[cG,cG]
  refine .cons ?_ ih
  obtain⟨h1,h2⟩:=h
  by_cases e:p.1=k
  ·rw[if_pos e,if_pos (h1.symm.trans e)]; exact⟨h1,ry⟩
  ·rw[if_neg e,if_neg (fun z=>e (h1.trans z))]; exact⟨h1,h2⟩
theorem KV.put{kvs:List (κ × V)}{vs:List (κ × Value)}(r:KV kvs vs)(k:κ){y:V}{u:Value}(ry:RelV y u):KV (putK kvs k y) (stored vs k u):=by
 unfold putK stored
 rw[r.any k]
 by_cases e:(vs.any fun kv=>decide (kv.1=k))=true
 ·rw[if_pos e,if_pos e]; exact r.repl k ry
 ·rw[if_neg e,if_neg e]; exact Paired.snoc r ⟨rfl,ry⟩
theorem KV.length{kvs:List (κ × V)}{vs:List (κ × Value)}(r:KV kvs vs):kvs.length=vs.length:=Paired.length r
end
theorem adf{P:Program}{w:World}{k:Key}{u:Value}(r:RelV (kV k) u):(jH P w).is k u=true:=by
 cases k with
 | inl i=>obtain⟨t,e⟩:=(show ∃ t,u=Value.int i t from r); subst e; exact Y6 P w i t
 | inr x=>obtain⟨t,e⟩:=(show ∃ t,u=Value.str x t from r); subst e; exact Y7 P w x t
theorem Wa{P:Program}{w:World}:∀ {ks:List Key} {us:List Value},cP (ks.map kV) us→ItemsAre (jH P w) ks us
 | [],_,r=>by rw[List.map_nil] at r; cases r; exact .nil
 | k :: ks,_,r=>by
  rw[cG] at r
  cases r with
  | cons h t=>exact .cons (adf h) (Wa t)
noncomputable abbrev KT(H:Hp):List (List Key × V)→List (List Key × Addr × Value)→Prop:=Paired fun p q=>p.1=q.1∧H q.2.1=some (.tup (p.1.map kV))∧RelV p.2 q.2.2
theorem KT.val{H:Hp}{kvs:List (List Key × V)}{xs:List (List Key × Addr × Value)}(r:KT H kvs xs)(k:List Key):HB (KY kvs k) ((atKey xs k).map (·.2)):=by
 induction r with
 | nil=>exact qj
 | @cons p q ps qs h t ih =>
  obtain⟨h1,_,h2⟩:=h
  by_cases e:p.1=k
  ·have e':q.1=k:=h1.symm.trans e
   have b:atKey (q :: qs) k=some q.2:=by simp[atKey,vI,e']
   rw[Eb e,b]; exact h2
  ·have e':¬ q.1=k:=fun z=>e (h1.trans z)
   have b:atKey (q :: qs) k=atKey qs k:=by simp[atKey,vI,e']
   rw[Ec e,b]; exact ih
theorem KT.repl{H:Hp}{kvs:List (List Key × V)}{xs:List (List Key × Addr × Value)}(r:KT H kvs xs)(k:List Key){y:V}{u:Value}(ry:RelV y u) :
 KT H (kvs.map fun kv=>if kv.1=k then (kv.1,y) else kv) (xs.map (putAt k u)):=by
 induction r with
 | nil=>exact .nil
 | @cons p q ps qs h t ih =>
  rw[cG,cG]
  refine .cons ?_ ih
  obtain⟨h1,h2,h3⟩:=h
  unfold putAt
  by_cases e:p.1=k
  ·rw[if_pos e,if_pos (h1.symm.trans e)]; exact⟨h1,h2,ry⟩
  ·rw[if_neg e,if_neg (fun z=>e (h1.trans z))]; exact⟨h1,h2,h3⟩
theorem KT.put{H:Hp}{kvs:List (List Key × V)}{xs:List (List Key × Addr × Value)}(r:KT H kvs xs)(k:List Key){b:Addr}{y:V}{u:Value}(hb:H b=some (.tup (k.map kV)))(ry:RelV y u) :
 KT H (putK kvs k y) (storedH xs k b u):=by
 have e:(kvs.any fun kv=>decide (kv.1=k))=(atKey xs k).isSome:=by
  rw[Zh,(r.val k).My,Option.isSome_map]
 unfold putK storedH
 rw[e]
 by_cases q:(atKey xs k).isSome=true
 ·rw[if_pos q,if_pos q]; exact r.repl k ry
 ·rw[if_neg q,if_neg q]; exact Paired.snoc r ⟨rfl,hb,ry⟩
theorem KT.keeps{H H':Hp}{kvs:List (List Key × V)}{xs:List (List Key × Addr × Value)}(r:KT H kvs xs)(ht:∀ b ys,H b=some (.tup ys)→H' b=some (.tup ys)):KT H' kvs xs :=
 Paired.akv r fun _ _ z=>⟨z.1,ht _ _ z.2.1,z.2.2⟩
section
variable{P:Program}{w:World}{H:Hp}{h:Heap}{a:Addr}
theorem ajO{u:HO}(ok:D4 P w H h)(e:Rd H a u):je P w H h a u:=e.ok ok
theorem adg{kvs:List (Key × V)}(ok:D4 P w H h)(e:Rd H a (.dK kvs)):kvs.length≤sizeLine∧(a == sysModules)=false∧∃ vs,KV kvs vs∧h.DictOf (jH P w) a vs :=
 show je P w H h a (.dK kvs) from ajO ok e
theorem anO{kvs:List (Key × V)}(ok:D4 P w H h)(e:H a=some (.dK kvs)):kvs.length≤sizeLine∧(a == sysModules)=false∧∃ vs,KV kvs vs∧h.DictOf (jH P w) a vs:=adg ok (.inl e)
theorem WU{ks:List Key}(ok:D4 P w H h)(e:H a=some (.tup (ks.map kV))):(tupleKind (jH P w)).is h ks a:=by
 obtain⟨_,its,r,o,h1,h2,n,h3⟩:=(show je P w H h a (.tup (ks.map kV)) from ok a _ e)
 exact⟨o,its.toArray,n,h1,h2,h3,by simpa using Wa r⟩
theorem adh{kvs:List (List Key × V)}(ok:D4 P w H h)(e:Rd H a (.dT kvs)):kvs.length≤sizeLine∧(a == sysModules)=false ∧
 ∃ xs,KT H kvs xs∧h.DictOfH (tupleKind (jH P w)) a xs:=by
 obtain⟨z,y,xs,r,o,es,ep,h1,h2,h3,h4,h5⟩:=(show je P w H h a (.dT kvs) from ajO ok e)
 refine⟨z,y,xs,r,o,es,ep,h1,h2,h3,h4,fun x hx=>?_,h5⟩
 have all:∀ {l:List (List Key × V)} {m:List (List Key × Addr × Value)},KT H l m→∀ x∈m,(tupleKind (jH P w)).is h x.1 x.2.1:=by
  intro l m q
  induction q with
  | nil=>intro x hx; exact nomatch hx
  | @cons p q ps qs hq t ih =>
   intro x hx
   rcases cF.mp hx with e | hx
   ·subst e
    exact WU ok (by rw[← hq.1]; exact hq.2.1)
   ·exact ih x hx
 exact all r x hx
theorem anP{kvs:List (List Key × V)}(ok:D4 P w H h)(e:H a=some (.dT kvs)):kvs.length≤sizeLine∧(a == sysModules)=false ∧
 ∃ xs,KT H kvs xs∧h.DictOfH (tupleKind (jH P w)) a xs:=adh ok (.inl e)
end
noncomputable def UT(H:Hp)(a:Addr)(y:V)(r:Option V):Prop :=
 (∃ kvs k,Rd H a (.dK kvs)∧y=kV k∧r=KY kvs k)∨∃ kvs k b,Rd H a (.dT kvs)∧y = .ref b∧H b=some (.tup (k.map kV))∧r=KY kvs k
noncomputable def Zi(H:Hp)(a:Addr)(y v:V)(H':Hp):Prop :=
 (∃ kvs k,H a=some (.dK kvs)∧y=kV k∧kvs.length < sizeLine∧H'=upd H a (.dK (putK kvs k v))) ∨
 ∃ kvs k b,H a=some (.dT kvs)∧y = .ref b∧H b=some (.tup (k.map kV))∧kvs.length < sizeLine∧H'=upd H a (.dT (putK kvs k v))
theorem UT.k{H:Hp}{a:Addr}{kvs:List (Key × V)}{k:Key}(e:H a=some (.dK kvs)):UT H a (kV k) (KY kvs k):=.inl ⟨kvs,k,.inl e,rfl,rfl⟩
theorem UT.t{H:Hp}{a b:Addr}{kvs:List (List Key × V)}{k:List Key}(e:H a=some (.dT kvs))(eb:H b=some (.tup (k.map kV))):UT H a (.ref b) (KY kvs k):=.inr ⟨kvs,k,b,.inl e,rfl,eb,rfl⟩
theorem Zi.k{H:Hp}{a:Addr}{kvs:List (Key × V)}{k:Key}{v:V}(e:H a=some (.dK kvs))(hl:kvs.length < sizeLine):Zi H a (kV k) v (upd H a (.dK (putK kvs k v))):=.inl ⟨kvs,k,e,rfl,hl,rfl⟩
theorem Zi.t{H:Hp}{a b:Addr}{kvs:List (List Key × V)}{k:List Key}{v:V}(e:H a=some (.dT kvs))(eb:H b=some (.tup (k.map kV)))(hl:kvs.length < sizeLine) :
 Zi H a (.ref b) v (upd H a (.dT (putK kvs k v))):=.inr ⟨kvs,k,b,e,rfl,eb,hl,rfl⟩
section
variable{X:Cx}{pins:List (Addr × Obj)}{σ:St}{H:Hp}{s:Shared}{a:Addr}{y v:V}{u r:Value}{o:Option V}{A:Around}{E:Value→Shared→Prop}
theorem Inv.big(I:Inv X pins σ H s):sysModules < s.heap.objs.size:=by
 have h:mainGlobals < s.heap.objs.size:=(I.mod.glob.keeps I.bk).lt
 exact Nat.lt_trans (by decide) h
theorem aq3{Q:Value→Shared→Prop}(hu:A.units + 1 < cLine)(I:Inv X pins σ H s)(g:UT H a y o)(ry:RelV y u)(h:∀ s',Inv X pins σ H s'→Q (.bool o.isSome) s') :
 wpAny (model X.prog X.w) A (compareOp .In u (.ref a)) Q E s:=by
 rcases g with ⟨kvs,k,e,ey,l⟩ | ⟨kvs,k,b,e,ey,eb,l⟩
 ·subst ey
  obtain⟨z,hd,vs,rel,dd⟩:=adg I.hok e
  refine wpAny_in_of (adf ry) hd dd.mapOf ?_
  rw[← (rel.val k).My,← l]
  exact h _ (I.tok _)
 ·subst ey
  cases (show u=Value.ref b from ry)
  obtain⟨z,hd,xs,rel,dd⟩:=adh I.hok e
  refine wpAny_in_heap (tupleKind_room_in1 hu) (WU I.hok eb) hd dd ?_
  have q:=(rel.val k).My
  rw[Option.isSome_map] at q
  rw[← q,← l]
  exact h _ (I.tok _)
theorem adi{h':Heap}{t':Nat}{ob:HO}(I:Inv X pins σ H s)(mu:Mut (H a))(hs:Heap.SameBut a s.heap h')(he:∃ q,h'.get? a=some q)(new:je X.prog X.w (upd H a ob) h' a ob) :
 Inv X pins σ (upd H a ob) { s with heap:=h',toks:=t' } :=
 I.write (x:=a) (e:=a) mu (.inl rfl) (fun b q hb z=>(hs.2 b hb).trans z) he new
theorem ak1{P:Program}{w:World}{H':Hp}{h':Heap}{kvs:List (Key × V)}{vs:List (Key × Value)}(z:kvs.length≤sizeLine)(hd:(a == sysModules)=false)(rel:KV kvs vs)(dd:h'.DictOf (jH P w) a vs) :
 je P w H' h' a (.dK kvs):=⟨z,hd,vs,rel,dd⟩
theorem ad8{H':Hp}{Q:Unit→Shared→Prop}(hu:A.units + 1 < cLine)(I:Inv X pins σ H s)(g:Zi H a y v H')(ry:RelV y u)(rv:RelV v r)(h:∀ s',Inv X pins σ H' s'→Q () s') :
 wpAny (model X.prog X.w) A (setItem (.ref a) u r) Q E s:=by
 rcases g with ⟨kvs,k,e,ey,l,eH⟩ | ⟨kvs,k,b,e,ey,eb,l,eH⟩
 ·subst ey eH
  obtain⟨z,hd,vs,rel,dd⟩:=anO I.hok e
  have hz:vs.length≤sizeLine:=by rw[← rel.length]; exact z
  have hl:(putK kvs k v).length≤sizeLine:=by have:=OP kvs k v; omega
  refine wpAny_setItem_pairs (hsz:=hz) (adf ry) dd fun h' dd' hs=>h _ ?_
  have he:∃ q,h'.get? a=some q:=let ⟨q,_,_,hq,_⟩:=dd'; ⟨q,hq⟩
  exact adi I (by rw[e]; exact qj) hs he (ak1 hl hd (rel.put k rv) dd')
 ·subst ey eH
  cases (show u=Value.ref b from ry)
  obtain⟨z,hd,xs,rel,dd⟩:=anP I.hok e
  have hz:xs.length≤sizeLine:=by rw[← Paired.length rel]; exact z
  have hl:(putK kvs k v).length≤sizeLine:=by have:=OP kvs k v; omega
  refine wpAny_setItem_heap (hsz:=hz) (tupleKind_room_in1 hu) (WU I.hok eb) dd fun h' dd' hs=>h _ ?_
  obtain⟨q,es,ep,hq,h2,h3,h4,_,h5⟩:=dd'
  refine adi I (by rw[e]; exact qj) hs ⟨q,hq⟩ ⟨hl,hd,_,(rel.put k eb rv).keeps fun c ys ec=>?_,q,es,ep,hq,h2,h3,h4,h5⟩
  rw[aP (C8 ec e (fun z=>nomatch z))]
  exact ec
end
noncomputable def aq4(ty td:TE):TE:=fun σ H Q=>ty σ H fun y H1=>td σ H1 fun x H2=>∃ a o,x = .ref a∧UT H2 a y o∧Q (.bl o.isSome) H2
noncomputable def anQ(td ty tv:TE):TS:=fun D σ H=>tv σ H fun v H1=>td σ H1 fun x H2=>ty σ H2 fun y H3=>∃ a H4,x = .ref a∧Zi H3 a y v H4∧D.nx σ H4
section
variable{X:Cx}{o i e value:Expr}{pos pos' tpos:Pos}{td ty tv:TE}
theorem ak2(hu:X.A.units + 1 < cLine)(hi:PE X i ty)(ho:PE X o td):PC X .In i o (aq4 ty td):=by
 intro pins s σ H Q I h
 refine jf (hi pins s σ H _ I h) fun iv s1 ⟨y,H1,I1,ry,q1⟩=>jf (ho pins s1 σ H1 _ I1 q1) fun u s2 ⟨x,H2,I2,rx,a,ov,ex,g,q2⟩=>?_
 subst ex
 obtain rfl:u=Value.ref a:=rx
 exact aq3 hu I2 g ry fun s3 I3=>⟨.bl ov.isSome,H2,I3,rfl,q2⟩
theorem adk(hu:X.A.units + 1 < cLine)(ho:PE X o td)(hi:PE X i ty)(hv:PE X value tv)(hs:swapsWith value (some (.Subscript o i pos')) pos.line X.env=pure false) :
 PS X (.Assign [.Subscript o i pos'] value pos) (anQ td ty tv):=by
 intro pins s σ H D I h
 refine wpAny_Assign_Subscript (jf (hv pins s σ H _ I h) fun r s1 ⟨v,H1,I1,rv,q1⟩=>jf (ho pins s1 σ H1 _ I1 q1) fun u s2 ⟨x,H2,I2,rx,q2⟩=>jf (hi pins s2 σ H2 _ I2 q2) fun iv s3 ⟨y,H3,I3,ry,a,H4,ex,g,q3⟩=>?_) hs
 subst ex
 obtain rfl:u=Value.ref a:=rx
 exact ad8 hu I3 g ry rv fun s4 I4=>⟨σ,H4,I4,q3⟩
end
theorem afE{P:Program}{w:World}{H:Hp}(h:Heap)(hb:sysModules < h.objs.size):je P w H (h.push { cls:=.type "dict",data:=.dict #[] }) h.objs.size (.dK []) :=
 ⟨bJ _,beq_eq_false_iff_ne.mpr (bW (bZ hb)),[],.nil,Heap.DictOf.new h⟩
theorem afF{P:Program}{w:World}{H:Hp}(h:Heap)(hb:sysModules < h.objs.size):je P w H (h.push { cls:=.type "dict",data:=.dict #[] }) h.objs.size (.dT []) :=
 ⟨bJ _,beq_eq_false_iff_ne.mpr (bW (bZ hb)),[],.nil,_,#[],0,Heap.get?_push_size _ rfl,⟨rfl,rfl,rfl⟩,rfl,rfl,r8⟩
noncomputable def ak3:TE:=fun _ H Q=>∀ p,H p=none→Q (.ref p) (upd H p (.dK []))
noncomputable def ak4:TE:=fun _ H Q=>∀ p,H p=none→Q (.ref p) (upd H p (.dT []))
section
variable{X:Cx}{pos:Pos}
theorem afG:PE X (.Dict [] [] pos) ak3:=fun pins s σ H Q I h =>
 wpAny_Dict_empty ⟨.ref s.heap.objs.size,_,I.laid (a:=s.heap.objs.size) (o:=.dK []) (t':=s.toks) (fun _ _ q=>Heap.get?_push_of_some _ q) (aK _) (afE s.heap I.big),rfl,h _ (I.hok.fresh (aK _))⟩
theorem Zj:PE X (.Dict [] [] pos) ak4:=fun pins s σ H Q I h =>
 wpAny_Dict_empty ⟨.ref s.heap.objs.size,_,I.laid (a:=s.heap.objs.size) (o:=.dT []) (t':=s.toks) (fun _ _ q=>Heap.get?_push_of_some _ q) (aK _) (afF s.heap I.big),rfl,h _ (I.hok.fresh (aK _))⟩
end
structure M1(X:Cx)(o:Expr)(m:Str)(apos:Pos)(e:Expr)(cpos:Pos):Prop where
 base:attributeBase o m X.env (eval o X.env)=eval o X.env
 few:((backTo cpos (starEach [e] X.env)).all (fun x=>!x.1) && (backToKw cpos (keywordEach [] X.env)).all (fun x=>x.1.isSome)
  && decide (([e]:List Expr).length + ([]:List Keyword).length + (if ([]:List Keyword).isEmpty then 0 else 1) < 30))=true
 line:(apos.endLine == cpos.line)=true
 trees:backTo cpos (starEach [e] X.env) = [(false,eval e X.env)]
noncomputable def IsD(H:Hp)(a:Addr):Prop:=(∃ kvs,Rd H a (.dK kvs))∨∃ kvs,Rd H a (.dT kvs)
theorem ak5{X:Cx}{pins:List (Addr × Obj)}{σ:St}{H:Hp}{s:Shared}{a:Addr}(I:Inv X pins σ H s)(d:IsD H a) :
 s.TypeIs (.ref a) "dict" ∧ (∀ b,Value.ref a = .ref b→∃ ob,s.heap.get? b=some ob∧ob.dict=none)∧(a == sysModules)=false:=by
 rcases d with ⟨kvs,e⟩ | ⟨kvs,e⟩
 ·obtain⟨_,hd,vs,_,dd⟩:=adg I.hok e
  refine⟨dd.typeIs,fun b q=>?_,hd⟩
  cases q
  obtain⟨ob,_,_,h1,h2,_⟩:=dd
  exact⟨ob,h1,h2.2.1⟩
 ·obtain⟨_,hd,xs,_,dd⟩:=adh I.hok e
  refine⟨dd.typeIs,fun b q=>?_,hd⟩
  cases q
  obtain⟨ob,_,_,h1,h2,_⟩:=dd
  exact⟨ob,h1,h2.2.1⟩
section
variable{X:Cx}{pins:List (Addr × Obj)}{σ:St}{H:Hp}{s:Shared}{a:Addr}{y d:V}{u r:Value}{o:Option V}{A:Around}{E:Value→Shared→Prop}
theorem ak6{Q:Value→Shared→Prop}(hu:A.units + 1 < cLine)(I:Inv X pins σ H s)(g:UT H a y o)(ry:RelV y u)(h:∀ w' s',Inv X pins σ H s'→RelV (o.getD .iu) w'→Q w' s') :
 wpAny (model X.prog X.w) A (call (.builtin "dict.get") [.ref a,u]) Q E s:=by
 rcases g with ⟨kvs,k,e,ey,l⟩ | ⟨kvs,k,b,e,ey,eb,l⟩
 ·subst ey
  obtain⟨z,hd,vs,rel,dd⟩:=adg I.hok e
  refine call_meetsIn PySem.F.slot_dict_get dd.typeIs PySem.F.entry_dict_get (PySem.F.args_dict_get_2 _ _) (meets_dict_get (jH X.prog X.w) a (adf ry) hd) ⟨_,dd.mapOf,h _ _ (I.tok _) ?_⟩
  rw[l]
  exact (rel.val k).getD rfl
 ·subst ey
  cases (show u=Value.ref b from ry)
  obtain⟨z,hd,xs,rel,dd⟩:=adh I.hok e
  refine call_meetsIn PySem.F.slot_dict_get dd.typeIs PySem.F.entry_dict_get (PySem.F.args_dict_get_2 _ _) (meetsH_dict_get (tupleKind (jH X.prog X.w)) a b hd) ⟨tupleKind_room_in1 hu,k,xs,WU I.hok eb,dd,h _ _ (I.tok _) ?_⟩
  rw[l]
  exact (rel.val k).getD rfl
end
noncomputable def ak7(td ty:TE):TE:=fun σ H Q=>td σ H fun x H1=>∃ a,x = .ref a∧IsD H1 a∧ty σ H1 fun y H2=>∃ o,UT H2 a y o∧Q (o.getD .iu) H2
section
variable{X:Cx}{o e f:Expr}{apos cpos:Pos}{td ty tx:TE}
theorem afH(hu:X.A.units + 1 < cLine)(ho:PE X o td)(he:PE X e ty)(m:M1 X o "get" apos e cpos):PE X (.Call (.Attribute o "get" apos) [e] [] cpos) (ak7 td ty):=by
 intro pins s σ H Q I h
 refine wpAny_Call_method m.base m.few m.line PySem.F.plainAttrs_dict PySem.F.slot_dict_get PySem.F.type_dict_get (jf (ho pins s σ H _ I h) fun u s1 ⟨x,H1,I1,rx,a,ex,d,q1⟩=>?_)
 subst ex
 obtain rfl:u=Value.ref a:=rx
 obtain⟨t1,t2,_⟩:=ak5 I1 d
 refine⟨t1,t2,?_⟩
 rw[m.trees]
 refine Calls.callWith_builtin rfl (Calls.evalArgs_plain (Calls.spliced_cons (jf (he pins s1 σ H1 _ I1 q1) fun iv s2 ⟨y,H2,I2,ry,ov,g,q2⟩=>Calls.spliced_nil ?_)))
 exact ak6 hu I2 g ry fun w' s3 I3 rw'=>⟨_,H2,I3,rw',q2⟩
end
end L2
namespace Att
open PySem PySem.W PySem.Calls PyProof.Rows
theorem Qg{P:Params}{h:Heap}:∀ (ns:List Int) (vs:List Value),WellAll P h vs (ns.map WData.int)→IntsAre vs ns:=by
 intro ns
 induction ns with
 | nil =>
  intro vs w
  rw[List.map_nil] at w
  cases w
  exact .nil
 | cons n ns ih =>
  intro vs w
  rw[cG] at w
  cases w with
  | cons a b =>
   cases a
   exact .cons _ _ (ih _ b)
theorem ad9{l:OpenLaw}{n:Nat}(hn:l.most=some n){P:Params}{h:Heap}{args:List WData}{vals:List Value}
 (hpre:l.row.toRowW.claim.pre args=true) (hwl:WellAll P h vals args) :
 ∃ a vs ns,vals = [Value.ref a]∧args = [WData.list (ns.map WData.int)]∧h.get? a=some { cls:=.type "list",data:=.seq vs.toArray }∧IntsAre vs ns∧ns.length≤n:=by
 have hsh:WShape.hasAll [] args [.list .int]=true:=(pre_splitW hpre).1
 have hc:l.pre.holds [] { args:=args }=true:=(pre_splitW hpre).2
 obtain⟨d,r,rfl,h1,h2⟩:=hasAllW_cons hsh
 obtain rfl:=hasAllW_nil h2
 obtain⟨xs,rfl,h3⟩:=hasW_list h1
 obtain⟨ns,rfl⟩:=items_int h3
 have hlen:ns.length≤n:=by
  unfold OpenLaw.pre at hc
  have h4:(WTm.not (.lt (.lit (.int (n:Int))) (.len (.arg 0)))).holds [] { args:=[.list (ns.map .int)] }=true:=by
   have h4:=(holds_andW hc).1
   rw[hn] at h4
   exact h4
  have h5:=condW_of h4 (w_not (w_lt w_lit (w_len_list (w_arg rfl))))
  rw[af] at h5
  refine Nat.le_of_not_lt fun q=>?_
  have q':(n:Int) < ((ns.length:Nat):Int):=by omega
  first
   | (rw[decide_eq_true q'] at h5; exact absurd h5 (by decide))
   | (simp at h5; omega)
 cases hwl with
 | cons w1 w2 =>
  cases w2
  cases w1 with
  | list ho hall=>exact⟨_,_,ns,rfl,rfl,ho,Qg ns _ hall,hlen⟩
theorem aea(l:OpenLaw)(args:List WData):l.row.toRowW.claim.post args (.bool true) args=true :=
 postW_of (r:=l.row.toRowW) (X:=(true == true))
  (show WShape.has [] (.bool true) .bool=true by first | rfl | decide | simp[WShape.has,WShape.arms,WShape.armsAll])
  (show (WTm.eq .res (.lit (.bool true))).value [] { args:=args,res:=some (.bool true),after:=args }=some (.bool (true == true)) from w_eq_bool (w_res rfl) w_lit) rfl
theorem Zk{l:OpenLaw}{n:Nat}{q:Program}{loose:List Str}{XP:(Str→Option Value)→Heap→Prop}{YP:World→Heap→Prop}{d:DefRec}
 (hn:l.most=some n) (hdf:d.params.defaults = [])
 (call:∀ (w:World) (s₀ s₁:Shared) (mg mb:Str→Option Value) (fa:Addr) (o:Obj) (pm cd doc:Value) (a:Addr) (vs:List Value) (ns:List Int),
  Ground q loose [] XP w s₀ mg mb s₁.heap→YP w s₁.heap →
  s₁.heap.get? fa=some o→o.data = .func (docDef d.name d.params d.body d.scope pm cd doc)→s₁.heap.CodeRec cd d.name→mg d.name=some (.ref fa) →
  s₁.heap.get? a=some { cls:=.type "list",data:=.seq vs.toArray }→IntsAre vs ns→ns.length≤n→s₁.gens = #[] →
  codeAny (model l.prog w) callerA (.call (.ref fa) ⟨[.ref a],[]⟩) (fun r s'=>r = .ok (.ret (.bool true))∧OldK s₁.heap s'.heap∧s'.os=s₁.os∧AllBare s'.gens) s₁) :
 WalkO q loose XP YP l.row.toRowW d [] (fun f vs=>PySem.call f vs):=by
 intro w s₀ s₁ mg mb G Y fa o pm cd doc dV kV ho hd hcd hD hmg hg args vals as hpre hlay hrd hwl hlo
 obtain rfl:dV = .none:=Dflts.none hD hdf
 obtain rfl:kV = .none:=Dflts.noKw hD
 obtain⟨a,vs,ns,rfl,rfl,hobj,hints,hlen⟩:=ad9 hn hpre hwl
 refine enter_call (codeAny_mono (call w s₀ s₁ mg mb fa o pm cd doc a vs ns G Y ho (fd_plain hd) hcd hmg hobj hints hlen hg) fun r s' hq=>?_)
 obtain⟨rfl,h2,h3,h4⟩:=hq
 exact⟨.inl ⟨.bool true,.bool true,[],rfl,fun _=>rfl,.bool true,aea l _,fun _=>⟨List.Pairwise.nil,fun _ hm=>(nomatch hm)⟩⟩,h2,h3,h4⟩
end Att
namespace L2
open PySem PySem.Spec PyProof.Rows
theorem Wb:∀ {vs:List Value} {ns:List Int},IntsAre vs ns→cP (ns.map V.int) vs
 | _,_,.nil=>.nil
 | _,_,.cons n t h=>.cons ⟨t,rfl⟩ (Wb h)
noncomputable def ak8(H:Hp):Prop:=∀ b,H b=none∨∃ o xs,H b=some (.Y8 o (.lst xs))
theorem afI{P:Program}{w:World}{K:ah}{mg mb:Str→Option Value}{CX:CXT}{k:Nat}{fa a:Addr}{fd:FuncData}{x:Str}{sp:Sp}{s₁:Shared}{vs:List Value}{ns:List Int}
 (KX:K.In s₁.heap) (hns:s₁.heap.Ns mainGlobals mg) (hb:s₁.heap.Ns builtinsNs mb) (hbb:∀ x:Str,x≠"__name__" → mb x=bootBuiltins x) (hlim:s₁.heap.NoLimit) (hg:s₁.gens = #[])
 (ha:s₁.heap.get? a=some { cls:=.type "list",data:=.seq vs.toArray }) (hi:IntsAre vs ns) (hl:ns.length≤sizeLine) (hr:oZ k callerA)
 (F:∀ base:Heap,K.In base→base.Ns mainGlobals mg→cW P w K mg base CX k fa fd [x] sp) (hbind:∀ (s:Shared) (u:Value),BindsTo s fd ⟨[u],[]⟩ [(x,u)])
 (hsp:∀ H:Hp,ak8 H→ck K H a (ns.map V.int)→sp [.ref a] H (fun v _=>v = .bl true) fun _ _ _=>False)
 (hCX:∀ H e s',CX [] H s₁ (fun _ _ _=>False) e s'→False) :
 codeAny (model P w) callerA (.call (.ref fa) ⟨[.ref a],[]⟩) (fun r s'=>r = .ok (.ret (.bool true))∧OldK s₁.heap s'.heap∧s'.os=s₁.os∧AllBare s'.gens) s₁:=by
 have rv:=Wb hi
 have aq6:=hi.length
 have core:∀ H:Hp,ak8 H→ck K H a (ns.map V.int)→D4 P w H s₁.heap→(∀ b,H b≠none→b=a)→(H a≠none→K.lookup a=none) →
  codeAny (model P w) callerA (.call (.ref fa) ⟨[.ref a],[]⟩) (fun r s'=>r = .ok (.ret (.bool true))∧OldK s₁.heap s'.heap∧s'.os=s₁.os∧AllBare s'.gens) s₁:=by
  intro H hO hS hok hA hK
  have adl:∀ {b:Addr} {o:Obj},s₁.heap.get? b=some o→H b=none→(WG s₁.heap H).get? b=some o:=fun e n=>afd e n
  have noA:∀ {b:Addr} {o:Obj} {es:Array DictEntry} {ep:Nat},s₁.heap.get? b=some o→o.data = .dict es ep→H b=none:=fun {b o es ep} e d=>by
   cases q:H b with
   | none=>rfl
   | some u =>
    have e':b=a:=hA b (by rw[q]; simp)
    subst e'
    rw[ha] at e; cases e
    have d':Data.seq vs.toArray _=Data.dict es ep:=d
    cases d'
  have nsK:∀ {b:Addr} {m:Str→Option Value},s₁.heap.Ns b m→(WG s₁.heap H).Ns b m:=fun {b m} ⟨o,es,ep,e,d,r⟩=>⟨o,es,ep,adl e (noA e d),d,r⟩
  have hKb:K.In (WG s₁.heap H):=fun b o e=>adl (KX b o e) (by
   cases q:H b with
   | none=>rfl
   | some u =>
    have e':b=a:=hA b (by rw[q]; simp)
    subst e'
    rw[hK (by rw[q]; simp)] at e; cases e)
  have hM:Mod K mg (WG s₁.heap H):=⟨hKb,nsK hns,⟨mb,nsK hb,hbb⟩,let ⟨mc,h1,h2⟩:=hlim; ⟨mc,nsK h1,h2⟩⟩
  have e0:abv P w K mg (WG s₁.heap H) callerA [] s₁ H:=⟨rfl,hM,fun b o e=>ahU e,Nat.le_of_eq (adX _ _),trivial,fun b hb=>absurd (show b∈([]:List Addr) from hb) (by simp),hok,.of_eq hg⟩
  refine codeAny_mono ((F _ hKb (nsK hns)).run callerA [] s₁ H ⟨[.ref a],[]⟩ [.ref a] [.ref a] _ _ hr e0 (hbind s₁ (.ref a)) (.cons rfl .nil) (hsp H hO hS)) fun r s' h=>?_
  cases r with
  | error e=>exact (hCX H e s' h).elim
  | ok fl =>
   cases fl with
   | next=>exact lM h
   | brk=>exact lM h
   | cont=>exact lM h
   | ret u =>
    obtain⟨v,H',os,bare,un,aq7,r',q⟩:=h
    have q':v = .bl true:=q
    subst q'
    obtain rfl:u=Value.bool true:=r'
    refine⟨rfl,OldK.of_keep fun b o e=>?_,os,bare⟩
    cases q:H b with
    | none=>exact un.keep b o e q (by intro z; exact absurd (show b∈([]:List Addr) from z) (by simp)) (by simp)
    | some u =>
     rcases hO b with z | ⟨ob,xs,z⟩
     ·rw[q] at z; cases z
     ·have z2:=un.KI b ob _ z
      obtain⟨e1,_⟩:=hok b _ z
      obtain⟨e2,_⟩:=aq7 b _ z2
      rw[e] at e1; cases e1
      exact e2
 cases hk:K.lookup a with
 | some o =>
  have e:=KX a o hk
  rw[ha] at e
  cases e
  refine core (fun _=>none) (fun _=>.inl rfl) (.inr ⟨_,vs.toArray,_,hk,rfl,rfl,rfl,by rw[aZ,aq6]; exact hl,by simpa using rv⟩) (fun b u z=>by have z':(none:Option HO)=some u:=z; cases z') (fun b z=>absurd rfl z) fun z=>absurd rfl z
 | none =>
  refine core (fun b=>if b=a then some (.Y8 { cls:=.type "list",data:=.seq vs.toArray } (.lst (ns.map V.int))) else none) (fun b=>?_) (.inl (.inr ⟨{ cls:=.type "list",data:=.seq vs.toArray },if_pos rfl⟩)) (fun b u z=>?_) (fun b z=>?_) fun _=>hk
  ·by_cases hb:b=a
   ·exact .inr ⟨_,_,if_pos hb⟩
   ·exact .inl (if_neg hb)
  ·by_cases hb:b=a
   ·have z':=(if_pos hb).symm.trans z
    cases z'
    subst hb
    exact⟨ha,by rw[af]; exact hl,vs,_,rv,ha⟩
   ·have z':=(if_neg hb).symm.trans z
    cases z'
  ·by_cases hb:b=a
   ·exact hb
   ·exact absurd (if_neg hb) z
end L2
namespace L2
open PySem PySem.Spec PyProof.Rows
theorem ah8{l:PySem.W.OpenLaw}{n k:Nat}{q:Program}{loose:List Str}{XP:(Str→Option Value)→Heap→Prop}{YP:World→Heap→Prop}{d:DefRec}{K:Params→ah}{CX:World→CXT}{sp:World→Sp}{x:Str}
 (hn:l.most=some n) (hn2:n≤sizeLine) (hdf:d.params.defaults = []) (hr:oZ k callerA)
 (hY:∀ (w:World) (h:Heap),YP w h→(K w.params).In h)
 (F:∀ (w:World) (mg:Str→Option Value) (fa:Addr) (h:Heap),(K w.params).In h→h.Ns mainGlobals mg→mg d.name=some (.ref fa) →
  ∃ fd:FuncData,(∀ (s:Shared) (u:Value),BindsTo s fd ⟨[u],[]⟩ [(x,u)]) ∧
   ∀ base:Heap,(K w.params).In base→base.Ns mainGlobals mg→cW l.prog w (K w.params) mg base (CX w) k fa fd [x] (sp w))
 (hsp:∀ (w:World) (H:Hp) (a:Addr) (ns:List Int),ns.length≤n→ak8 H→ck (K w.params) H a (ns.map V.int)→sp w [.ref a] H (fun v _=>v = .bl true) fun _ _ _=>False)
 (hCX:∀ (w:World) (H:Hp) (s:Shared) (e:Value) (s':Shared),CX w [] H s (fun _ _ _=>False) e s'→False) :
 PySem.W.WalkO q loose XP YP l.row.toRowW d [] (fun f vs=>PySem.call f vs):=by
 refine Att.Zk hn hdf fun w s₀ s₁ mg mb fa o pm cd doc a vs ns G Y ho hd hcd hmg hobj hints hlen hg=>?_
 have KX:=hY w _ Y
 obtain⟨fd,hb,hF⟩:=F w mg fa _ KX G.T.g hmg
 exact afI KX G.T.g G.T.b G.T.builtins G.T.nolimit hg hobj hints (aX hlen hn2) hr hF hb (fun H hO hS=>hsp w H a ns hlen hO hS) fun H e s'=>hCX w H s₁ e s'
end L2
namespace L2
open PySem PySem.Spec PyProof.Rows
noncomputable def inClass(s:Stmt)(j:Nat):Stmt:=match s with
 | .ClassDef _ _ _ body _ _ _ _ _ _ _=>body.getD j (.Pass ⟨0,0,0,0⟩)
 | _=>.Pass ⟨0,0,0,0⟩
noncomputable def aE(s:Stmt):Arguments:=match s with
 | .FunctionDef _ a _ _ _ _ _ _ _ _=>a
 | _=>{ posonlyargs:=[],args:=[],vararg:=none,kwonlyargs:=[],kw_defaults:=[],kwarg:=none,defaults:=[] }
noncomputable def aC(s:Stmt):List Stmt:=match s with
 | .FunctionDef _ _ b _ _ _ _ _ _ _=>b
 | _=>[]
noncomputable def ai(s:Stmt):Scope:=match s with
 | .FunctionDef _ _ _ _ _ _ sc _ _ _=>sc
 | _=>{ kind:=.function,names:=[],isGenerator:=false,isCoroutine:=false }
noncomputable abbrev lH:CXT:=fun _ _ _ _ _ _=>False
noncomputable abbrev E0:XK:=fun _ _ _=>False
theorem bx{X:Cx}:vN lH X E0:=fun _ _ _ _ _ _ _ h=>h.elim
structure kX(K:ah)(x qual:Str)(st:Stmt)(f:Addr)(fd:FuncData):Prop where
 ex:∃ (oc:Value) (od:Option Addr) (kV doc pm:Value) (an:Option Addr) (cdv ct:Value) (osl:Array (Option Value)),
  fd=ak x qual (aE st) (aC st) (ai st) .none kV doc pm an cdv ct∧K.lookup f=some ⟨oc,od,.func fd,osl⟩∧aA K cdv qual=true
 kp:ay K (.ref f)=true
section
variable{P:Program}{w:World}{K:ah}{mg:Str→Option Value}{base:Heap}
theorem kX.ok{x qual:Str}{st:Stmt}{f:Addr}{fd:FuncData}{N ps:List Str}{k:Nat}{sp:Sp}(F:kX K x qual st f fd)(S:aV N ps (ai st))(len:∀ vs H Q E,sp vs H Q E→vs.length=ps.length)
 (hbody:∀ (cdv:Value) (A:Around) (outer:List Env) (s:Shared) (H:Hp) (vs:List V) (Q:VK) (E:XK),oZ k (A.deeper (envOfC qual (ai st) s.heap.objs.size f cdv))→sp vs H Q E →
  ∃ t,oS (uT lH P w K mg base N qual (ai st) f cdv A outer s H E).nox (aC st) t∧t { nx:=fun _ H'=>Q .iu H',rt:=Q } (start N vs) H):cW P w K mg base lH (k + 1) f fd ps sp:=by
 obtain⟨oc,od,kV,doc,pm,an,cdv,ct,osl,rfl,lk,hcd⟩:=F.ex
 refine afw lk hcd S len fun A outer s H vs Q E hr hsp=>?_
 obtain⟨t,h,q⟩:=hbody cdv A outer s H vs Q E hr hsp
 exact⟨t,h.nox,q⟩
theorem kX.binds{x qual:Str}{st:Stmt}{f:Addr}{fd:FuncData}{ps:List Str}(F:kX K x qual st f fd)
 (h:∀ (kV doc pm:Value) (an:Option Addr) (cdv ct:Value) (us:List Value),us.length=ps.length→bindArgs (ak x qual (aE st) (aC st) (ai st) .none kV doc pm an cdv ct) ⟨us,[]⟩=pure (ps.zip us)):Binds K fd ps []:=by
 obtain⟨oc,od,kV,doc,pm,an,cdv,ct,osl,rfl,lk,hcd⟩:=F.ex
 exact .all (h kV doc pm an cdv ct)
theorem bF{x qual:Str}{st:Stmt}{f:Addr}{oc:Value}{od an:Option Addr}{osl:Array (Option Value)}{kV doc pm cdv ct:Value}(l:K.lookup f=some ⟨oc,od,.func (ak x qual (aE st) (aC st) (ai st) .none kV doc pm an cdv ct),osl⟩)
 (c:aA K cdv qual=true) (k:ay K (.ref f)=true):kX K x qual st f (ak x qual (aE st) (aC st) (ai st) .none kV doc pm an cdv ct):=⟨⟨oc,od,kV,doc,pm,an,cdv,ct,osl,rfl,l,c⟩,k⟩
end
theorem Zl{A:Around}{k:Nat}(hr:oZ k A):A.units + 1 < cLine:=cQ (dO (by decide:1≤64) _) hr.units
theorem cS{n:Nat}(h:n≤1000):n < sizeLine:=cQ h (by decide)
section
variable{X:Cx}
theorem pv(i:Nat){x:Str}{pos:Pos}(hN:X.N[i]?=some x:=by rfl)(hv:Vis X.env.scope x:=by first | exact be rfl | exact Or.inr (be rfl) | exact Or.inr (Or.inr rfl))(hd:(x == ("__debug__" : Str))=false:=by decide)
 (hcd:(x == ("__classdict__" : Str))=false:=by decide):PE X (.Name x pos) (WJ i):=akz hN hv hd hcd
end
theorem gu{A B:Prop}(h:B):if false=true then A else B:=by
 rw[if_neg aN]
 exact h
theorem jF{A B:Prop}(h:A):if true=true then A else B:=by
 rw[if_pos rfl]
 exact h
theorem mY{c A B:Prop}[Decidable c](h1:c→A)(h2:¬ c→B):if c then A else B:=by
 by_cases h:c
 ·rw[if_pos h]
  exact h1 h
 ·rw[if_neg h]
  exact h2 h
noncomputable def aL(H H':Hp):Prop:=∀ b o,H b=some o→H' b=some o
theorem aL.refl(H:Hp):aL H H:=fun _ _ h=>h
theorem aL.trans{H H1 H2:Hp}(a:aL H H1)(b:aL H1 H2):aL H H2:=fun c o h=>b c o (a c o h)
theorem aL.free{H H':Hp}(e:aL H H'){l:Addr}(h:H' l=Option.none):H l=Option.none:=by
 cases q:H l with
 | none=>rfl
 | some o =>
  rw[e l o q] at h
  cases h
theorem aL.seq{K:ah}{H H':Hp}{a:Addr}{xs:List V}(e:aL H H')(h:ck K H a xs):ck K H' a xs:=by
 rcases h with (h | ⟨o,h⟩) | h
 ·exact .inl (.inl (e _ _ h))
 ·exact .inl (.inr ⟨o,e _ _ h⟩)
 ·exact .inr h
end L2
namespace L2
open PySem PySem.Spec PyProof.Rows
theorem aeb{env:Env}{x:Str}{c:Addr}(h:env.cells.lookup x=some c):cellOf env x=pure c:=by
 unfold cellOf
 rw[h]
noncomputable def o8(env:Env):List (Str × NameKind)→List (Str × Addr)→List (Str × Addr)
 | [],cs=>cs
 | (n,k) :: r,cs=>o8 env r (if k == .free then (n,(env.cells.lookup n).getD 0) :: cs else cs)
theorem WV{env:Env}:∀ (ns:List (Str × NameKind)) (cs:List (Str × Addr)),(∀ n,(n,NameKind.free)∈ns→∃ c,env.cells.lookup n=some c) →
 (forIn (m:=Sem) ns cs fun x r=>match x with
  | (name,kind)=>if (kind == NameKind.free)=true then do let c ← cellOf env name; pure (lK ((name,c) :: r)) else pure (lK r))=pure (o8 env ns cs)
 | [],cs,_=>rfl
 | (n,k) :: r,cs,h=>by
  rw[List.forIn_cons]
  by_cases hk:(k == NameKind.free)=true
  ·have ek:k = .free:=by simpa using hk
   obtain⟨c,e⟩:=h n (by rw[ek]; exact cN)
   simp only[hk,if_true,aeb e]
   have q:=WV r ((n,c) :: cs) fun m hm=>h m (bP _ hm)
   show (forIn (m:=Sem) r ((n,c) :: cs) _)=pure (o8 env r (if (k == .free)=true then (n,(env.cells.lookup n).getD 0) :: cs else cs))
   rw[if_pos hk,e]
   exact q
  ·simp only[hk]
   have q:=WV r cs fun m hm=>h m (bP _ hm)
   show (forIn (m:=Sem) r cs _)=pure (o8 env r (if (k == .free)=true then (n,(env.cells.lookup n).getD 0) :: cs else cs))
   rw[if_neg hk]
   exact q
theorem HU{scope:Scope}{env:Env}(h:∀ n,(n,NameKind.free)∈scope.names→∃ c,env.cells.lookup n=some c):closureFor scope env=pure (o8 env scope.names []):=by
 have e:=WV scope.names [] h
 unfold closureFor
 show (forIn (m:=Sem) scope.names [] (fun x r=>match x with
  | (name,kind)=>if (kind == NameKind.free)=true then do let c ← cellOf env name; pure (lK ((name,c) :: r)) else pure (lK r)) >>= fun s=>pure s)=_
 rw[e]
 rfl
theorem nJ{env:Env}{x:Str}{c:Addr}:∀ (ns:List (Str × NameKind)) (cs:List (Str × Addr)),(∀ n,(n,NameKind.free)∈ns→∃ c,env.cells.lookup n=some c)→(cs.lookup x=some c→env.cells.lookup x=some c) →
 (o8 env ns cs).lookup x=some c→env.cells.lookup x=some c
 | [],_,_,h0,h=>h0 h
 | (n,k) :: r,cs,hf,h0,h=>by
  unfold o8 at h
  refine nJ r _ (fun m hm=>hf m (bP _ hm)) (fun q=>?_) h
  by_cases hk:(k == NameKind.free)=true
  ·have ek:k = .free:=by simpa using hk
   subst ek
   obtain⟨d,e⟩:=hf n cN
   rw[if_pos hk,e,gn] at q
   by_cases hx:(x == n)=true
   ·have ex:x=n:=by simpa using hx
    rw[hx] at q
    subst ex
    rw[e]; exact q
   ·simp only[hx] at q
    exact h0 q
  ·rw[if_neg hk] at q
   exact h0 q
theorem I0{env:Env}{x:Str}:∀ (ns:List (Str × NameKind)) (cs:List (Str × Addr)),((cs.lookup x).isSome=true∨(x,NameKind.free)∈ns)→((o8 env ns cs).lookup x).isSome=true
 | [],_,h=>h.elim id fun z=>absurd z (by simp)
 | (n,k) :: r,cs,h=>by
  unfold o8
  refine I0 r _ ?_
  rcases h with h | h
  ·refine .inl ?_
   split
   ·rw[gn]
    split
    ·rfl
    ·exact h
   ·exact h
  ·rcases cF.mp h with e | h
   ·cases e
    refine .inl ?_
    rw[if_pos (show (NameKind.free == NameKind.free)=true from rfl),gn]
    simp
   ·exact .inr h
noncomputable def lP(cap:List (Option Nat))(σ:St):St:=cap.map fun o=>o.bind fun j=>(σ[j]?).join
noncomputable def nK(X:Cx)(scope:Scope)(N':List Str)(fp:List Addr)(pins:List (Addr × Obj))(s₃:Shared)(aq8:Hp):Cx where
 prog:=X.prog
 w:=X.w
 K:=X.K
 mg:=X.mg
 base:=X.base
 A:=X.A
 N:=N'
 s₀:=s₃
 H₀:=aq8
 env:=compEnvC scope (o8 X.env scope.names []) s₃.heap.objs.size X.env
 outer:=X.stack
 stack:=X.stack
 ex:=fp
 fn:=fun _=>false
 calm:=X.calm
 pn:=X.pn++pins
 xe:=fun _ _=>False
structure mP(X:Cx)(scope:Scope)(N':List Str)(cap:List (Option Nat)):Prop where
 kind:scope.kind = .function
 abA:∀ y∈scope.names,y.2≠.cell
 loc:∀ y∈scope.names,y.2 = .local→scope.names.lookup y.1=some .local
 fr:∀ y∈scope.names,y.2 = .free→X.env.kindOf y.1=some .cell
 frl:∀ y∈scope.names,y.2 = .free→scope.names.lookup y.1=some .free
 nd:N'.Nodup
 len:cap.length=N'.length
 cap:∀ (i j:Nat) (x:Str),cap[i]?=some (some j)→N'[i]?=some x→X.N[j]?=some x∧(x,NameKind.free)∈scope.names
section
variable{X:Cx}{scope:Scope}{N':List Str}{cap:List (Option Nat)}{fp:List Addr}{pins:List (Addr × Obj)}{s:Shared}{σ:St}{H:Hp}
theorem mP.clos(S:mP X scope N' cap)(ok:X.Ok):∀ n,(n,NameKind.free)∈scope.names→∃ c,X.env.cells.lookup n=some c:=fun n hn=>ok.has n (.inl (S.fr _ hn rfl))
theorem Bs{env:Env}{x:Str}:∀ {names:List (Str × NameKind)} {k:NameKind},
 (names.map fun (n,k)=>if (k == NameKind.free && env.scope.kind == .function && env.kindOf n == some .cell) then (n,NameKind.cell) else (n,k)).lookup x=some k→k = .cell∨k = .free→(∀ y∈names,y.2≠.cell)→(x,NameKind.free)∈names
 | [],_,h,_,_=>by simp at h
 | (n,q) :: r,k,h,hk,hc=>by
  have h':sH x ((if (q == NameKind.free && env.scope.kind == .function && env.kindOf n == some .cell)=true then (n,NameKind.cell) else (n,q)) :: (r.map fun (n,k)=>if (k == NameKind.free && env.scope.kind == .function && env.kindOf n == some .cell) then (n,NameKind.cell) else (n,k)))=some k:=h
  by_cases hx:(x == n)=true
  ·have ex:x=n:=by simpa using hx
   subst ex
   by_cases hq:(q == NameKind.free && env.scope.kind == .function && env.kindOf x == some .cell)=true
   ·have:q = .free:=by
     rw[fm,fm] at hq
     simpa using hq.1.1
    subst this
    exact cN
   ·rw[if_neg hq,gn,hx] at h'
    have e:q=k:=aS h'
    subst e
    rcases hk with hk | hk
    ·exact absurd hk (hc _ cN)
    ·rw[hk]; exact cN
  ·have hx':(x == n)=false:=by simpa using hx
   refine bP _ (Bs (env:=env) (k:=k) ?_ hk fun y hy=>hc y (bP _ hy))
   split at h'
   ·rw[gn,hx'] at h'; exact h'
   ·rw[gn,hx'] at h'; exact h'
theorem KZ{env:Env}{x:Str}(hf:env.scope.kind = .function)(hx:env.kindOf x=some .cell):∀ {names:List (Str × NameKind)},names.lookup x=some .free →
 (names.map fun (n,k)=>if (k == NameKind.free && env.scope.kind == .function && env.kindOf n == some .cell) then (n,NameKind.cell) else (n,k)).lookup x=some .cell
 | [],h=>by simp at h
 | (n,k) :: r,h=>by
  show sH x ((if (k == NameKind.free && env.scope.kind == .function && env.kindOf n == some .cell)=true then (n,NameKind.cell) else (n,k)) :: _)=_
  cases hxn:x == n with
  | true =>
   have e:x=n:=by simpa using hxn
   subst e
   simp only[gn,hxn] at h
   have ek:k = .free:=aS h
   subst ek
   rw[if_pos (by rw[hf,hx]; rfl),gn,hxn]
  | false =>
   simp only[gn,hxn] at h
   have ih:=KZ hf hx h
   split
   ·rw[gn,hxn]; exact ih
   ·rw[gn,hxn]; exact ih
theorem mP.ok(S:mP X scope N' cap)(I:Inv X pins σ H s)(hf:∀ b∈fp,KQ X pins H b)(hex:∀ b∈fp,∃ o,s.heap.get? b=some o):(nK X scope N' fp pins s H).Ok where
 mod:=I.ok.mod
 kind:=S.kind
 glob:=I.ok.glob
 blt:=I.ok.blt
 above:=aK _
 inj:=fun x y c h1 h2=>I.ok.inj x y c (nJ _ _ (S.clos I.ok) (fun z=>by simp at z) h1) (nJ _ _ (S.clos I.ok) (fun z=>by simp at z) h2)
 has:=fun x hx=>by
  have hm:(x,NameKind.free)∈scope.names:=by
   rcases hx with hx | hx
   ·exact Bs (env:=X.env) hx (.inl rfl) S.abA
   ·exact Bs (env:=X.env) hx (.inr rfl) S.abA
  exact Option.isSome_iff_exists.mp (I0 scope.names [] (.inr hm))
 cab:=fun x c h=>by cases h
 hd:=I.ok.hd
 frames:=I.ok.frames
 stk:=.inl rfl
 exf:=fun b hb=>by
  obtain⟨o,e⟩:=hex b hb
  refine⟨bZ (Heap.lt_size e),fun x c h=>(hf b hb).2.2.2.2.1 x c (nJ _ _ (S.clos I.ok) (fun z=>by simp at z) h)⟩
 bs:=I.bs
 bsz:=aX I.ok.bsz I.sz
 adY:=fun b o e hb=>by
  rcases (hf b hb).2.2.2.1 with z | z
  ·exact I.ok.adY b o e z
  ·exact absurd (bL (Heap.lt_size e) (aX I.ok.bsz z)) (ql _)
 afe:=fun b hb hs=>by
  rcases cF.mp (I.Mu b hs) with z | z
  ·exact (hf b hb).2.1 z
  ·exact (hf b hb).2.2.1 z
 KJ:=I.stack
 frf:=I.WH
theorem mP.look(S:mP X scope N' cap)(I:Inv X pins σ H s){h₁:Heap}{m:Str→Option Value}(cellK:∀ x c v,X.env.cells.lookup x=some c→s.heap.IsCell c v→h₁.IsCell c v)(i:Nat)(x:Str)(v:V)(h1:N'[i]?=some x)(h2:(lP cap σ)[i]?=some (some v)) :
 ∃ u,RelV v u∧Look (compEnvC scope (o8 X.env scope.names []) s.heap.objs.size X.env) h₁ m x u:=by
 have adm:∀ x c,(o8 X.env scope.names []).lookup x=some c→X.env.cells.lookup x=some c:=fun x c h=>nJ _ _ (S.clos I.ok) (fun z=>by simp at z) h
 have h2':((cap[i]?).map fun o=>o.bind fun j=>(σ[j]?).join)=some (some v):=by
  have:=h2
  unfold lP at this
  rw[aq] at this
  exact this
 cases ec:cap[i]? with
 | none=>rw[ec] at h2'; cases h2'
 | some o =>
  cases o with
  | none=>rw[ec] at h2'; cases h2'
  | some j =>
   rw[ec] at h2'
   obtain⟨hN,hfree⟩:=S.cap i j x ec h1
   have aec:(σ[j]?).join=some v:=aS h2'
   have hv:σ[j]?=some (some v):=by
    cases ej:σ[j]? with
    | none=>rw[ej] at aec; cases aec
    | some y =>
     cases y with
     | none=>rw[ej] at aec; cases aec
     | some z =>
      rw[ej] at aec
      have e:z=v:=aS aec
      rw[e]
   have hkind:=S.fr _ hfree rfl
   obtain⟨m0,hn0,hl0⟩:=I.loc
   obtain⟨u,r,l⟩:=hl0 j x v hN hv (.inr (.inl hkind))
   refine⟨u,r,?_⟩
   rcases l with ⟨hk,_⟩ | ⟨hk,c,hc,hcell⟩
   ·have z:X.env.kindOf x=some .cell:=hkind
    rw[hk] at z; cases z
   ·obtain⟨c',hc'⟩:=Option.isSome_iff_exists.mp (I0 (env:=X.env) (x:=x) scope.names [] (.inr hfree))
    have ecc:c'=c:=by
     have:=adm x c' hc'
     rw[hc] at this
     exact (aS this).symm
    subst ecc
    exact .inr ⟨.inl (KZ I.ok.kind hkind (S.frl _ hfree rfl)),c',hc',cellK x c' _ hc hcell⟩
theorem mP.start(S:mP X scope N' cap)(I:Inv X pins σ H s)(hf:∀ b∈fp,KQ X pins H b)(hex:∀ b∈fp,∃ o,s.heap.get? b=some o){h₁:Heap}{tk:Nat}{m:Str→Option Value}(hns:h₁.Ns s.heap.objs.size m)
 (kp:∀ b o,s.heap.get? b=some o→h₁.get? b=some o):Inv (nK X scope N' fp pins s H) [] (lP cap σ) H { s with heap:=h₁,toks:=tk }:=by
 have adm:∀ x c,(o8 X.env scope.names []).lookup x=some c→X.env.cells.lookup x=some c:=fun x c h=>nJ _ _ (S.clos I.ok) (fun z=>by simp at z) h
 have cellK:∀ {c:Addr} {v:Option Value},s.heap.IsCell c v→h₁.IsCell c v:=fun {c v} ⟨o,e,d⟩=>⟨o,kp c o e,d⟩
 refine⟨S.ok I hf hex,rfl,I.bare,Un.kept kp,⟨m,hns,fun i x v h1 h2 h3=>S.look I (fun _ _ _ _ z=>cellK z) i x v h1 h2⟩,fun x c h=>?_,I.hok.fresh (aK _),fun x c h=>I.Ar x c (adm x c h),fun p hp=>?_,I.hok.kept kp,?_⟩
 ·obtain⟨v,z⟩:=I.cell x c (adm x c h)
  exact⟨v,cellK z⟩
 ·have hp0:p∈(X.pn++pins)++[]:=hp
  have hp':p∈X.pn++pins:=by rw[cz] at hp0; exact hp0
  obtain⟨e,n,ne,nf,d⟩:=I.pin p hp'
  refine⟨kp _ _ e,n,bZ (Heap.lt_size e),fun z=>?_,d⟩
  rcases cF.mp (I.Mu p.1 z) with q | q
  ·exact ne q
  ·exact nf q
 ·unfold lP
  rw[af]
  exact S.len
theorem mP.again(S:mP X scope N' cap)(I:Inv X pins σ H s)(hf:∀ b∈fp,KQ X pins H b){σ8:St}{H8:Hp}{s8:Shared}(I8:Inv (nK X scope N' fp pins s H) [] σ8 H8 s8):Inv (nK X scope N' fp pins s H) [] (lP cap σ) H8 s8:=by
 obtain⟨m,hn,_⟩:=I8.loc
 refine⟨I8.ok,I8.os,I8.bare,I8.base,⟨m,hn,fun i x v h1 h2 h3=>S.look I (fun y c u hc hu=>?_) i x v h1 h2⟩,I8.cell,I8.free,I8.Ar,I8.pin,I8.hok,?_⟩
 ·obtain⟨o,e,d⟩:=hu
  obtain⟨sl,q⟩:=I8.base.any e (I.Ar y c hc) fun hb=>(hf c hb).2.2.2.2.1 y c hc rfl
  exact⟨_,q,d⟩
 ·unfold lP
  rw[af]
  exact S.len
theorem mP.back{H2 H':Hp}{s2 s3 s':Shared}{σ':St}{acc:Addr}{h'':Heap}(S:mP X scope N' cap)(I2:Inv X pins σ H2 s2)(hf:∀ b∈fp,KQ X pins H2 b){o:HO}
 (e3:s3.heap.objs.size=s2.heap.objs.size + 1) (k3:∀ b u,s2.heap.get? b=some u→s3.heap.get? b=some u) (ha:acc=s2.heap.objs.size) (o3:s3.os=s2.os)
 (I':Inv (nK X scope N' fp pins s3 (upd H2 acc o)) [] σ' H' s') (sb:Heap.SameBut s3.heap.objs.size s'.heap h''):Inv X pins σ H' { s' with heap:=h'' }:=by
 have u1:Un (frs X.stack) fp H2 (upd H2 acc o) s2.heap s3.heap:=Un.laid k3 (by rw[ha]; exact aK _) (I2.hok.fresh (by rw[ha]; exact aK _))
 have u2:Un (frs X.stack) fp H2 H' s2.heap s'.heap:=u1.trans I'.base
 have old:∀ b ob,s2.heap.get? b=some ob→b≠s3.heap.objs.size:=fun b ob e=>by
  have:=Heap.lt_size e
  rw[e3]
  exact bZ (Nat.lt_succ_of_lt this)
 have hC:H' s3.heap.objs.size=none:=I'.free
 have u3:Un (frs X.stack) fp H2 H' s2.heap h'' :=
  ⟨fun b ob e n hb hx=>(sb.2 b (old b ob e)).trans (u2.keep b ob e n hb hx),fun b ob e n hb hx=>by
   obtain⟨sl,q⟩:=u2.slot b ob e n hb hx
   exact⟨sl,(sb.2 b (old b ob e)).trans q⟩,u2.free,fun b ob e hx=>by
   obtain⟨o',q⟩:=u2.there b ob e hx
   exact⟨o',(sb.2 b (old b ob e)).trans q⟩,u2.tups,u2.KI,u2.Mt⟩
 have hok:D4 X.prog X.w H' h'':=fun b ob e=>(I'.hok b ob e).stay (fun c v hc q=>(sb.2 c (by
  rintro rfl
  rcases hc with z | z
  ·rw[← z,hC] at e; cases e
  ·rw[hC] at z; cases z)).trans q) (fun _ q=>q) fun _ _ q=>q
 refine I2.ajJ (s':={ s' with heap:=h'' }) (ch:=fp) (I'.os.trans o3) u3 hok I'.bare fun b hb=>?_
 obtain⟨_,f1,_,f3,f4,f5⟩:=hf b hb
 exact⟨f3,f1,f4,f5⟩
noncomputable def uV(X:Cx)(ifs:List Expr)(t:TT):Prop :=
 ∀ (pins:List (Addr × Obj)) (s:Shared) (σ:St) (H:Hp) (Q:Bool→Hp→Prop),Inv X pins σ H s→t σ H Q →
  wpAny (model X.prog X.w) X.A (forIn ifs true fun c r=>if r=true then do let ok ← isTrue c X.env (eval c X.env); pure (lK ok) else pure (lK r)) (TP X pins σ Q) X.xe s
noncomputable def anS:TT:=fun _ H Q=>Q true H
theorem pe:uV X [] anS:=fun _ _ _ H _ I h=>wpAny_tests_nil ⟨H,I,h⟩
theorem uW{c:Expr}{t:TT}(h:PT X c t):uV X [c] t:=fun pins s σ H Q I hq=>wpAny_tests_one (h pins s σ H Q I hq)
noncomputable def ajQ(wi:TI)(cap:List (Option Nat))(g:TG)(tc:TT)(te:TE):TE:=fun σ H Q=>wi σ H fun J H1=>∀ acc,H1 acc=none→∃ W:Nat→Nat→Hp→Prop,(∃ m,W 0 m (upd H1 acc (.lst [])))∧∀ i m H,W i m H →
 (J.stop i H∧Q (.ref acc) H)∨(J.go i H∧∀ x H',J.WM i H x H'→g x (lP cap σ) H' fun σ2 H2=>tc σ2 H2 fun b H3=>if b=true then te σ2 H3 fun y H4=>∃ xs,H4 acc=some (.lst xs)∧xs.length < sizeLine ∧
  ∃ m',m' < m∧W (i + 1) m' (upd H4 acc (.lst (xs++[y]))) else ∃ m',m' < m∧W (i + 1) m' H3)
theorem aed{elt target iter:PySem.Expr}{ifs:List PySem.Expr}{scope:Scope}{pos:Pos}{it acc:Value}{env:Env}{prog:Program}{w:World}{A:Around}{s:Shared}{R:Result→Shared→Prop}(I:Nat→Shared→Prop)
 (turn:∀ n s,I n s→wpAny (model prog w) A (pyNext it) (fun r s₁=>match r with
  | none=>R (.ok .next) s₁
  | some v=>wpAny (model prog w) A (letOwnedTupleGo target it v) (fun _ s₀=>wpAny (model prog w) A (assign target env v) (fun _ s₂ =>
   wpAny (model prog w) A (forIn ifs true fun c r=>if r=true then do let ok ← isTrue c env (eval c env); pure (lK ok) else pure (lK r)) (fun ok s₃=>if ok=true then wpAny (model prog w) A (eval elt env) (fun x s₄ =>
    wpAny (model prog w) A (call (.builtin "list.append") [acc,x]) (fun _ s₅=>∃ m,m < n∧I m s₅) (fun _ _=>False) s₄) (fun _ _=>False) s₃
    else ∃ m,m < n∧I m s₃) (fun _ _=>False) s₂)
   (fun _ _=>False) s₀) (fun _ _=>False) s₁) (fun _ _=>False) s)
 (n:Nat) (h:I n s):codeAny (model prog w) A (.compLoop (.ListComp elt [⟨target,iter,ifs,0⟩] scope pos) 0 it acc env) R s:=by
 refine codeAny_loop rfl I (fun n s hI=>?_) n h
 show wpAny _ A ((compTurn (.ListComp elt [⟨target,iter,ifs,0⟩] scope pos) 0 it acc env).onRaise (fun x=>do noteFrame x env; theTreesLotGoes x)) _ _ s
 refine wpAny_noted ?_
 rw[compTurn_list]
 refine wpAny_bind (wpAny_standAt (wpAny_bind (wpAny_mono (turn n s hI) (fun r s₁ h₁=>?_) fun _ _ z=>z.elim)))
 cases r with
 | none=>exact wpAny_pure h₁
 | some v =>
  refine wpAny_bind (wpAny_mono h₁ (fun _ s₀ h₀'=>?_) fun _ _ z=>z.elim)
  refine wpAny_bind (wpAny_mono h₀' (fun _ s₂ h₂=>?_) fun _ _ z=>z.elim)
  refine wpAny_bind (wpAny_mono h₂ (fun okb s₃ h₃=>?_) fun _ _ z=>z.elim)
  cases okb with
  | false=>exact wpAny_pure ⟨rfl,h₃⟩
  | true=>exact wpAny_bind (wpAny_bind (wpAny_mono h₃ (fun x s₄ h₄=>wpAny_bind (wpAny_mono h₄ (fun _ s₅ h₅=>wpAny_pure (wpAny_pure ⟨rfl,h₅⟩)) fun _ _ z=>z.elim)) fun _ _ z=>z.elim))
theorem Rt{elt tg iter:Expr}{ifs:List Expr}{pos:Pos}{g:TG}{tc:TT}{te:TE}{Q:VK}{s2:Shared}{H2:Hp}{it:Addr}{tn:Nat→Heap→Prop}{J:It}{E:Value→Shared→Prop}{RR:Value→Addr→Result→Shared→Prop}
 (S:mP X scope N' cap) (hc:X.calm=true) (hg:∀ fp pins s H,PG (nK X scope N' fp pins s H) tg g) (hts:∀ fp pins s H,uV (nK X scope N' fp pins s H) ifs tc) (he:∀ fp pins s H,PE (nK X scope N' fp pins s H) elt te)
 (I2:Inv X pins σ H2 s2) (T:Turn X.prog X.w X.K tg J fp it tn) (st2:tn 0 s2.heap) (f2:∀ b∈fp,KQ X pins H2 b)
 (h:∀ acc,H2 acc=none→∃ W:Nat→Nat→Hp→Prop,(∃ m,W 0 m (upd H2 acc (.lst [])))∧∀ i m H,W i m H →
  (J.stop i H∧Q (.ref acc) H)∨(J.go i H∧∀ x H',J.WM i H x H'→g x (lP cap σ) H' fun σ2 H2=>tc σ2 H2 fun b H3=>if b=true then te σ2 H3 fun y H4=>∃ xs,H4 acc=some (.lst xs)∧xs.length < sizeLine ∧
   ∃ m',m' < m∧W (i + 1) m' (upd H4 acc (.lst (xs++[y]))) else ∃ m',m' < m∧W (i + 1) m' H3))
 (hRR:∀ C s' H',(∃ m,s'.heap.Ns C m)→(∀ h'',Heap.SameBut C s'.heap h''→Inv X pins σ H' { s' with heap:=h'' })→Q (.ref s2.heap.objs.size) H'→H' C=none→s2.heap.objs.size < C →
  RR (.ref s2.heap.objs.size) C (.ok .next) s') :
 wpAny (model X.prog X.w) X.A (newList []) (fun acc s₃=>wpAny (model X.prog X.w) X.A (newFunctionEnv scope X.env.globals (o8 X.env scope.names []) [] X.env.qual none .none (some X.env)) (fun cenv s₄ =>
  codeAny (model X.prog X.w) X.A (.compStart (.ListComp elt [⟨tg,iter,ifs,0⟩] scope pos) 0 (.ref it) acc { cenv with scope:=relabel scope X.env }) (RR acc cenv.locals) s₄) E s₃) E s2:=by
 refine wpAny_newObj_type (wpAny_newFunctionEnv S.abA (by intro y hy; simp at hy) (fun h₁ abB abC=>?_) S.kind)
 dsimp only at abB abC ⊢
 have hfr:H2 s2.heap.objs.size=none:=I2.hok.fresh (aK _)
 generalize hH3:s2.heap.push { cls:=.type "list",dict:=none,data:=.seq ([]:List Value).toArray }=h3 at abB abC ⊢
 have e3:h3.objs.size=s2.heap.objs.size + 1:=by rw[← hH3,Heap.size_push]
 have k3:∀ b u,s2.heap.get? b=some u→h3.get? b=some u:=fun b u e=>by rw[← hH3]; exact Heap.get?_push_of_some _ e
 have I3:Inv X pins σ (upd H2 s2.heap.objs.size (.lst [])) { s2 with heap:=h3,toks:=s2.toks }:=by
  refine I2.laid (t':=s2.toks) k3 (aK _) ?_
  exact⟨bJ _,[],0,.nil,by rw[← hH3]; exact Heap.get?_push_size _ rfl⟩
 have f3:∀ b∈fp,KQ X pins (upd H2 s2.heap.objs.size (.lst [])) b:=fun b hb=>by
  obtain⟨o,e,_⟩:=T.obj _ _ st2 b hb
  exact⟨by rw[aP (bZ (Heap.lt_size e))]; exact (f2 b hb).1,(f2 b hb).2⟩
 have ex3:∀ b∈fp,∃ o,h3.get? b=some o:=fun b hb=>by
  obtain⟨o,e,_⟩:=T.obj _ _ st2 b hb
  exact⟨o,k3 b o e⟩
 have kp:∀ b o,h3.get? b=some o→h₁.get? b=some o:=fun b o e=>abC.extBut b o (bZ (Heap.lt_size e)) (Heap.get?_push_of_some _ e)
 have I4:=S.start (fp:=fp) (tk:=s2.toks + ([]:List (Str × Value)).length) I3 f3 ex3 abB kp
 have Wc:tn 0 h₁:=T.keep _ _ _ st2 fun b _ o e=>kp b o (k3 b o e)
 obtain⟨W,⟨m0,w0⟩,turn⟩:=h s2.heap.objs.size hfr
 let X':=nK X scope N' fp pins { s2 with heap:=h3,toks:=s2.toks } (upd H2 s2.heap.objs.size (.lst []))
 have stat:∀ {VZ:List (Addr × Obj)} {H':Hp},(∀ p∈VZ,p.1 ∉ fp)→(∀ b∈fp,H' b=none)→∀ b∈fp,KQ X' VZ H' b:=fun {VZ H'} hpn hn b hb=>by
  obtain⟨o,e⟩:=ex3 b hb
  refine⟨hn b hb,bZ (Heap.lt_size e),fun z=>?_,.inl hb,fun x c hx=>(f3 b hb).2.2.2.2.1 x c (nJ _ _ (S.clos I2.ok) (fun z=>by simp at z) hx),fun p hp=>?_⟩
  ·rcases cF.mp (I2.Mu b z) with q | q
   ·exact (f2 b hb).2.1 q
   ·exact (f2 b hb).2.2.1 q
  ·rcases cy.mp hp with q | q
   ·exact (f2 b hb).2.2.2.2.2 p q
   ·exact fun z=>hpn p q (z ▸ hb)
 have loop:codeAny (model X.prog X.w) X.A (.compLoop (.ListComp elt [⟨tg,iter,ifs,0⟩] scope pos) 0 (.ref it) (.ref s2.heap.objs.size) X'.env) (RR (.ref s2.heap.objs.size) h3.objs.size) { s2 with heap:=h₁,toks:=s2.toks + ([]:List (Str × Value)).length }:=by
  refine aed (fun n s'=>∃ i H',Inv X' [] (lP cap σ) H' s'∧tn i s'.heap∧(∀ b∈fp,H' b=none)∧W i n H') ?_ m0 ⟨0,_,I4,Wc,fun b hb=>(f3 b hb).1,w0⟩
  rintro n s5 ⟨i,H5,I5,st5,fr5,w5⟩
  rcases turn i n H5 w5 with ⟨stop,qn⟩ | ⟨go,step⟩
  ·refine wpAny_mono (T.done X' rfl rfl rfl hc i [] s5 (lP cap σ) H5 (fun _ _=>False) I5 (stat (fun _ z=>absurd z (by simp)) fr5) st5 stop) (fun r s6 ⟨hr,I6⟩=>?_) fun _ _ z=>z
   subst hr
   refine hRR _ s6 H5 ?_ (fun h'' sb=>S.back I2 f2 (s3:={ s2 with heap:=h3,toks:=s2.toks }) e3 k3 rfl rfl I6 sb) qn I6.free (by rw[e3]; exact Nat.lt_succ_self _)
   obtain⟨m,hn,_⟩:=I6.loc
   exact⟨m,hn⟩
  ·refine wpAny_mono (T.item X' rfl rfl rfl hc i [] s5 (lP cap σ) H5 (fun _ _=>False) I5 (stat (fun _ z=>absurd z (by simp)) fr5) st5 go) (fun r s6 ⟨u,hr,h6⟩=>?_) fun _ _ z=>z
   subst hr
   refine wpAny_mono h6 (fun _ s7 ⟨x,H7,I7,r7,y7,Zm,fr7⟩=>?_) fun _ _ z=>z
   have I7':=I7.pinned (stat (fun _ z=>absurd z (by simp)) fr7) (T.obj _ _ Zm)
   have again:∀ {σ8:St} {H8:Hp} {s8:Shared},Inv X' ([]++Rl fp s7.heap) σ8 H8 s8→(∃ m',m' < n∧W (i + 1) m' H8)→∃ m,m < n∧∃ i H',Inv X' [] (lP cap σ) H' s8∧tn i s8.heap∧(∀ b∈fp,H' b=none)∧W i m H':=fun {σ8 H8 s8} I8 n8=>by
    obtain⟨m',hm,w8⟩:=n8
    have pn:∀ b∈fp,∃ o,s7.heap.get? b=some o∧s8.heap.get? b=some o∧H8 b=none:=fun b hb=>by
     obtain⟨o,e,d⟩:=T.obj _ _ Zm b hb
     have q:=I8.pin (b,o) (eW _ (eW _ (IY hb e)))
     exact⟨o,e,q.1,q.2.1⟩
    refine⟨m',hm,i + 1,H8,S.again I3 f3 I8.KR,T.keep _ _ _ Zm fun b hb o e=>?_,fun b hb=>?_,w8⟩
    ·obtain⟨o',e',q,_⟩:=pn b hb
     rw[e] at e'; cases e'
     exact q
    ·obtain⟨_,_,_,q⟩:=pn b hb
     exact q
   refine wpAny_mono (hg fp pins _ _ _ s7 (lP cap σ) H7 x u _ I7' r7 (step x H7 y7)) (fun _ s8 ⟨σ8,H8,I8,q8⟩=>?_) fun _ _ z=>z
   refine wpAny_mono (hts fp pins _ _ _ s8 σ8 H8 _ I8 q8) (fun b s9 ⟨H9,I9,q9⟩=>?_) fun _ _ z=>z
   cases b with
   | false=>exact again I9 q9
   | true =>
    refine wpAny_mono (he fp pins _ _ _ s9 σ8 H9 _ I9 q9) (fun u s10 ⟨y,Q8,I10,r10,xs,hx,hl,q10⟩=>?_) fun _ _ z=>z
    refine wpAny_mono (er (X:=X') _ s10 σ8 Q8 (.ref s2.heap.objs.size) [y] (.ref s2.heap.objs.size) [u] (fun _ H'=>∃ m',m' < n∧W (i + 1) m' H') I10 rfl (.cons r10 .nil) ⟨_,xs,y,rfl,rfl,hx,hl,q10⟩) (fun _ s11 ⟨_,H11,I11,_,q11⟩=>again I11 q11) fun _ _ z=>z
 exact codeAny_compStart_list loop (T.self _ 0 _ _ _ Wc loop)
theorem jI{elt tg iter:Expr}{ifs:List Expr}{pos:Pos}{wi:TI}{g:TG}{tc:TT}{te:TE}(S:mP X scope N' cap)(hc:X.calm=true)(hi:PI X tg iter wi)(hg:∀ fp pins s H,PG (nK X scope N' fp pins s H) tg g)
 (hts:∀ fp pins s H,uV (nK X scope N' fp pins s H) ifs tc) (he:∀ fp pins s H,PE (nK X scope N' fp pins s H) elt te) (hs:∀ x,foldedSetIterable iter X.env x=pure x:=by intro _; rfl) :
 PE X (.ListComp elt [⟨tg,iter,ifs,0⟩] scope pos) (ajQ wi cap g tc te):=by
 intro pins s σ H Q I h
 rw[eval_ListComp]
 refine wpAny_comprehension_free (use:=none) rfl hs (HU (S.clos I.ok)) S.kind S.loc (jf (hi pins s σ H _ I h) fun v s1 h1=>jf h1 fun itv s2 h2=>?_)
 obtain⟨it,fp,tn,J,H2,e,I2,T,st2,f2,hW⟩:=h2
 subst e
 refine Rt (RR:=fun acc C=>compPost (model X.prog X.w) X.A X.xe none (EP X pins σ Q) acc C) S hc hg hts he I2 T st2 f2 hW ?_
 intro C s' H' ⟨m,hn⟩ hI hq _ _
 exact⟨m,hn,fun h'' sb=>⟨.ref s2.heap.objs.size,H',hI h'' sb,rfl,hq⟩⟩
theorem Bt{elt tg iter:Expr}{ifs:List Expr}{pos:Pos}{wi:TI}{g:TG}{tc:TT}{te:TE}{i:Nat}{x:Str}{pos' spos:Pos}(hN:X.N.Nodup)(hix:X.N[i]?=some x)(hx:Loc X.env.scope x)(S:mP X scope N' cap)(hc:X.calm=true)
 (hi:PI X tg iter wi) (hg:∀ fp pins s H,PG (nK X scope N' fp pins s H) tg g)
 (hts:∀ fp pins s H,uV (nK X scope N' fp pins s H) ifs tc) (he:∀ fp pins s H,PE (nK X scope N' fp pins s H) elt te) (hs:∀ x,foldedSetIterable iter X.env x=pure x:=by intro _; rfl)
 (hsw:swapsWith (.ListComp elt [⟨tg,iter,ifs,0⟩] scope pos) (some (.Name x pos')) spos.line X.env=pure true:=by rfl) (hf:X.fn x=true∨X.env.scope.names.lookup x=some .local:=by first | exact .inl rfl | exact .inr rfl | assumption) :
 PS X (.Assign [.Name x pos'] (.ListComp elt [⟨tg,iter,ifs,0⟩] scope pos) spos) (ahW (ajQ wi cap g tc te) (k8 i)):=by
 intro pins s σ H D I h
 rw[exec_Assign_Name_used _ _ _ _ hsw]
 refine wpAny_bind (wpAny_standAt (wpAny_bind ?_))
 show wpAny _ X.A (do let _ ← comprehension (.ListComp elt [⟨tg,iter,ifs,0⟩] scope pos) scope X.env _ (newList []) false (eval iter X.env) (some (assign (.Name x pos') X.env))) _ _ s
 refine wpAny_bind (wpAny_mono (wpAny_comprehension_free (use:=some (assign (.Name x pos') X.env)) (Q:=fun _ s'=>SP X pins D .next s') rfl hs (HU (S.clos I.ok)) S.kind S.loc
  (jf (hi pins s σ H _ I h) fun v s1 h1=>jf h1 fun itv s2 h2=>?_)) (fun _ s' hq=>wpAny_pure (wpAny_pure hq)) fun _ _ e=>e)
 obtain⟨it,fp,tn,J,H2,e,I2,T,st2,f2,hW⟩:=h2
 subst e
 refine Rt (RR:=fun acc C=>compPost (model X.prog X.w) X.A X.xe (some (assign (.Name x pos') X.env)) (fun _ s'=>SP X pins D .next s') acc C) (Q:=fun x H1=>k8 i x σ H1 D.nx) S hc hg hts he I2 T st2 f2 hW ?_
 intro C s' H' ⟨m,hn⟩ hI hq hC hlt
 have I':Inv X pins σ H' s':=hI s'.heap (.refl ..)
 show wpAny _ _ (assign (.Name x pos') X.env (.ref s2.heap.objs.size)) _ _ s'
 refine wpAny_assign_Name (V0 (v:=.ref s2.heap.objs.size) I' hN hix hx rfl (fun s6 I6 ⟨a,sb,ha⟩=>?_) hf)
 have lC:∀ b,b < s2.heap.objs.size→b≠C:=fun b hb=>bZ (Nat.lt_trans hb hlt)
 have haC:a≠C:=by
  rcases ha with z | z
  ·rw[z]; exact lC _ I2.lt
  ·obtain⟨_,q⟩:=I2.cell x a z
   exact lC _ q.lt
 refine⟨m,hn.sameBut sb (bW haC),fun h' sb'=>⟨_,H',I6.turned (t':=s6.toks) (fun b o hb e=>(sb'.2 b hb).trans e) hC (bW (lC _ I2.lt)) (.inr (aX I2.sz (oU hlt))) (fun y c hc'=>?_) (fun p hp=>?_),hq⟩⟩
 ·obtain⟨_,q⟩:=I2.cell y c hc'
  exact lC _ q.lt
 ·exact lC _ (Heap.lt_size (I2.pin p hp).1)
end
section
variable{X:Cx}
noncomputable def Ite(K:ah)(a:Addr):It :=
 ⟨fun i H=>∃ xs x,ck K H a xs∧xs[i]?=some x,fun i H x H'=>∃ p v,H p=none∧x = .ref p∧H'=upd H p (.tup [.int (i:Nat),v])∧∀ xs,ck K H a xs→xs[i]?=some v,fun i H=>∃ xs,ck K H a xs∧xs.length≤i⟩
theorem aee{P:Program}{w:World}{K:ah}{elts:List Expr}{x1}{pos:Pos}(a e it:Addr)(hne:e≠it) :
 Turn P w K (.Tuple elts x1 pos) (Ite K a) [e,it] e (fun i h=>∃ old,IsEnum h e it (i:Nat) old∧h.IsListIter it a i) where
 mem:=by simp
 obj:=fun i h ⟨old,st,li⟩ b hb=>by
  rcases cF.mp hb with z | hb
  ·subst z
   exact⟨_,st,fun v z=>by
    have z':Data.fields _=Data.cell v:=z
    cases z'⟩
  ·have z:b=it:=by simpa using hb
   subst z
   obtain⟨o,e,c,d⟩:=li
   exact⟨o,e,fun v z=>by rw[d] at z; cases z⟩
 keep:=fun i h h' ⟨old,st,li⟩ k=>⟨old,k e (by simp) _ st,li.at fun o q=>k it (by simp) o q⟩
 item:=by
  intro X hP hw hK hc i pins s σ H E I hf ⟨old,st,li⟩ hg
  subst hP hw hK
  obtain⟨xs,x,hq,hx⟩:=hg
  obtain⟨its,rv,p,hz⟩:=I.list hq
  obtain⟨u,hu,ru⟩:=rv.get hx
  refine wpAny_pyNext_enum_item st li p.isList (x:=u) (by simpa using hu) hne fun h' eo li' tu sz kp=>?_
  refine⟨_,rfl,wpAny_letOwnedTupleGo_enum eo fun h2 e2 sb2=>?_⟩
  have hfr:H s.heap.objs.size=none:=I.hok.fresh (aK _)
  have nE:∀ b o,H b=some o→b≠e:=fun b o q z=>by rw[z,(hf e (by simp)).1] at q; cases q
  have nI:∀ b o,H b=some o→b≠it:=fun b o q z=>by rw[z,(hf it (by simp)).1] at q; cases q
  have kp2:∀ b o,b≠e→b≠it→s.heap.get? b=some o→h2.get? b=some o:=fun b o h1 h3 q=>(sb2.2 b h1).trans (kp b o h1 h3 q)
  have hes:e < s.heap.objs.size:=Heap.lt_size st
  have tu2:h2.get? s.heap.objs.size=some { cls:=.type "tuple",data:=.seq #[.int (i:Nat) s.toks,u] }:=(sb2.2 _ (Nat.ne_of_gt hes)).trans tu
  have li2:h2.IsListIter it a (i + 1):=li'.at fun o q=>(sb2.2 it (bW hne)).trans q
  have aef:∀ b,b ∉ [e,it]→b≠e∧b≠it:=fun b hb=>⟨fun z=>hb (by simp[z]),fun z=>hb (by simp[z])⟩
  have fre:∀ b∈[e,it],upd H s.heap.objs.size (.tup [.int (i:Nat),x]) b=none:=fun b hb=>by
   obtain⟨o,q,_⟩ : ∃ o,s.heap.get? b=some o∧True:=by
    rcases cF.mp hb with z | hb
    ·subst z; exact⟨_,st,trivial⟩
    ·have z:b=it:=by simpa using hb
     subst z
     obtain⟨o,q,_⟩:=li
     exact⟨o,q,trivial⟩
   rw[aP (bZ (Heap.lt_size q))]
   exact (hf b hb).1
  have I1:Inv X pins σ (upd H s.heap.objs.size (.tup [.int (i:Nat),x])) { s with heap:=h2,toks:=s.toks + 1 }:=by
   refine I.step (g':=s.gens) (d':=s.drawn) (ch:=[e,it]) (fun b hb=>?_) (fun b o _ _ hc q _=>kp2 b o (aef b hc).1 (aef b hc).2 q) (fun b o _ _ hc q _=>⟨o.slots,kp2 b o (aef b hc).1 (aef b hc).2 q⟩)
    (fun b o _ q n=>by rw[aP (bZ (Heap.lt_size q))]; exact n) (fun b o hc q=>⟨o,kp2 b o (aef b hc).1 (aef b hc).2 q⟩) (fun b xs q=>by rw[aP (aR q hfr)]; exact q) (fun b o u q=>by rw[aP (aR q hfr)]; exact q)
    (fun b ps q=>⟨#[],by rw[aP (aR q hfr),q]; simp⟩) (fun m hm=>?_) (fun b o q=>?_) I.bare
   ·obtain⟨_,f1,_,f3,f4,f5⟩:=hf b hb
    exact⟨f3,f1,f4,f5⟩
   ·obtain⟨o,es,ep,ho,r⟩:=hm
    exact⟨o,es,ep,kp2 _ o (bW (hf e (by simp)).2.1) (bW (hf it (by simp)).2.1) ho,r⟩
   ·by_cases hb:b=s.heap.objs.size
    ·subst hb
     rw[aF] at q
     cases q
     exact⟨by show 2≤sizeLine; decide,[.int (i:Nat) s.toks,u],.cons ⟨_,rfl⟩ (.cons ru .nil),⟨_,tu2,rfl,_,rfl⟩⟩
    ·rw[aP hb] at q
     refine (I.hok b o q).stay (fun c v hc r=>kp2 c v ?_ ?_ r) (fun c r=>by rw[aP (aR r hfr)]; exact r) fun c xs r=>by rw[aP (aR r hfr)]; exact r
     ·rcases hc with z | z
      ·rw[z]; exact nE b o q
      ·exact nE c _ z
     ·rcases hc with z | z
      ·rw[z]; exact nI b o q
      ·exact nI c _ z
  refine⟨.ref s.heap.objs.size,_,I1,rfl,⟨_,x,hfr,rfl,rfl,fun ys hy=>by rw[I.Za hy hq]; exact hx⟩,⟨u,?_,li2⟩,fre⟩
  have e2':IsEnum h2 e it ((i:Int) + 1) u:=e2
  show IsEnum h2 e it (((i + 1:Nat):Int)) u
  rw[Int.natCast_add]
  exact e2'
 done:=by
  intro X hP hw hK hc i pins s σ H E I hf ⟨old,st,li⟩ hg
  subst hP hw hK
  obtain⟨xs,hq,hx⟩:=hg
  obtain⟨its,rv,p,hz⟩:=I.list hq
  obtain⟨f0,f1,f2,f3,f4,f5⟩:=hf it (by simp)
  have hl:=rv.length
  exact wpAny_pyNext_enum_end (I.ok.hd hc) st li p.isList (by simp; omega) fun h' eb=>⟨rfl,I.turned (t':=s.toks) (fun b o hb q=>eb b o hb q) f0 f1 f3 f4 f5⟩
 self:=fun _ _ _ _ _ ⟨_,st,_⟩ h=>wpAny_pyIter_enum st h
noncomputable def anV(K:ah)(ta:TA):TI:=fun σ H R=>ta σ H fun vs H1=>∃ a xs,vs = [.ref a]∧ck K H1 a xs∧R (Ite K a) H1
theorem ado{l:Expr}{ta:TA}{p pos:Pos}{elts:List Expr}{x1}{tpos:Pos}(hg:Gl X "enumerate")(hm:X.mg "enumerate" = none)(ha:PA X [l] ta)(hs:starEach [l] X.env = [(false,eval l X.env)]:=by rfl) :
 PI X (.Tuple elts x1 tpos) (.Call (.Name "enumerate" p) [l] [] pos) (anV X.K ta):=by
 intro pins s σ H R I h
 refine Call_ (Ri I hg hm boot_enumerate (PyProof.Rows.callWith_type1 (jf (ha pos pins s σ H _ I h) fun us s1 ⟨vs,H1,I1,r1,q1⟩=>?_) hs rfl))
 obtain⟨a,xs,e,hq,q⟩:=q1
 subst e
 cases r1 with
 | cons r rr =>
  cases rr
  cases r
  obtain⟨its,rv,pl,hz⟩:=I1.list hq
  refine call_enumerate_list pl.isList fun h' en li sz kp=>wpAny_pyIter_enum en ?_
  have I2:Inv X pins σ H1 { s1 with heap:=h',toks:=s1.toks }:=I1.kept kp
  have fr:∀ b,s1.heap.objs.size≤b→KQ X pins H1 b:=fun b hb=>I1.ahX hb (I1.hok.fresh hb)
  refine⟨s1.heap.objs.size + 1,[s1.heap.objs.size + 1,s1.heap.objs.size],_,_,H1,rfl,I2,aee a _ _ (Nat.succ_ne_self _),⟨.none,en,li⟩,fun b hb=>?_,q⟩
  rcases cF.mp hb with z | hb
  ·subst z; exact fr _ (by omega)
  ·have z:b=s1.heap.objs.size:=by simpa using hb
   subst z; exact fr _ (by omega)
end
end L2
namespace L2
open PySem PySem.Spec PyProof.Rows
theorem aL.dB{K:ah}{H H':Hp}{a:Addr}{xs:List V}(e:aL H H')(h:dP K H a xs):dP K H' a xs:=by
 rcases h with (h | ⟨o,h⟩) | h
 ·exact .inl (.inl (e _ _ h))
 ·exact .inl (.inr ⟨o,e _ _ h⟩)
 ·exact .inr h
theorem aL.new{H:Hp}{p:Addr}{o:HO}(h:H p=none):aL H (upd H p o):=fun b u e=>by rw[aP (aR e h)]; exact e
theorem aL.out{H0 H:Hp}{p:Addr}{o:HO}(s:aL H0 H)(h:H0 p=none):aL H0 (upd H p o):=fun b u e=>by rw[aP (aR e h)]; exact s b u e
mutual
noncomputable def Rep(K:ah)(H:Hp):PyData→V→Prop
 | .none,v=>v = .iu
 | .bool b,v=>v = .bl b
 | .int i,v=>v = .int i
 | .str x,v=>v = .str x
 | .list ds,v=>∃ a vs,v = .ref a∧ck K H a vs∧dj K H ds vs
 | .tuple ds,v=>∃ a vs,v = .ref a∧dP K H a vs∧dj K H ds vs
 | .dict _,_=>False
noncomputable def dj(K:ah)(H:Hp):List PyData→List V→Prop
 | [],vs=>vs = []
 | d :: ds,vs=>∃ v r,vs=v :: r∧Rep K H d v∧dj K H ds r
end
section
variable{K:ah}{H H':Hp}
mutual
theorem Rep.mono(s:aL H H'):∀ {d:PyData} {v:V},Rep K H d v→Rep K H' d v
 | .none,_,h=>h
 | .bool _,_,h=>h
 | .int _,_,h=>h
 | .str _,_,h=>h
 | .list ds,_,⟨a,vs,e,q,r⟩=>⟨a,vs,e,s.seq q,dj.mono s r⟩
 | .tuple ds,_,⟨a,vs,e,q,r⟩=>⟨a,vs,e,s.dB q,dj.mono s r⟩
 | .dict _,_,h=>h
theorem dj.mono(s:aL H H'):∀ {ds:List PyData} {vs:List V},dj K H ds vs→dj K H' ds vs
 | [],_,h=>h
 | _ :: _,_,⟨v,r,e,q,t⟩=>⟨v,r,e,q.mono s,dj.mono s t⟩
end
theorem dj.length:∀ {ds:List PyData} {vs:List V},dj K H ds vs→vs.length=ds.length
 | [],_,h=>by rw[h]; rfl
 | _ :: _,_,⟨v,r,e,_,t⟩=>by rw[e,cE,cE,dj.length t]
theorem dj.get:∀ {ds:List PyData} {vs:List V} {i:Nat} {d:PyData},dj K H ds vs→ds[i]?=some d→∃ v,vs[i]?=some v∧Rep K H d v
 | [],_,_,_,_,e=>by simp at e
 | x :: ds,_,0,d,⟨v,r,e,q,t⟩,h=>by
  subst e
  have z:x=d:=by simpa using h
  subst z
  exact⟨v,rfl,q⟩
 | _ :: ds,_,i + 1,d,⟨v,r,e,q,t⟩,h=>by
  subst e
  obtain⟨y,h1,h2⟩:=dj.get (i:=i) (d:=d) t (by simpa using h)
  exact⟨y,by simpa using h1,h2⟩
theorem sf:∀ ns:List Int,dj K H (ns.map PyData.int) (ns.map V.int)
 | []=>rfl
 | n :: ns=>⟨.int n,_,rfl,rfl,sf ns⟩
theorem Ed:∀ {ns:List Int} {vs:List V},dj K H (ns.map PyData.int) vs→vs=ns.map V.int
 | [],_,h=>h
 | n :: ns,_,⟨v,r,e,q,t⟩=>by
  have q':v = .int n:=q
  rw[e,q',Ed t]; rfl
theorem Rep.Wd{ns:List Int}{a:Addr}(h:dP K H a (ns.map V.int)):Rep K H (.tuple (ns.map .int)) (.ref a):=⟨a,_,rfl,h,sf ns⟩
theorem Rep.Ef{ns:List Int}{v:V}(h:Rep K H (.tuple (ns.map .int)) v):∃ a,v = .ref a∧dP K H a (ns.map V.int):=by
 obtain⟨a,vs,e,q,r⟩:=h
 rw[Ed r] at q
 exact⟨a,e,q⟩
end
section
variable{X:Cx}{pins:List (Addr × Obj)}{σ:St}{H:Hp}{s:Shared}
mutual
theorem Rep.reads(I:Inv X pins σ H s):∀ {d:PyData} {v:V} {u:Value},Rep X.K H d v→RelV v u→∃ as,Reads s.heap u d as
 | .none,_,_,h,r=>by cases h; cases r; exact⟨_,.none⟩
 | .bool b,_,_,h,r=>by cases h; cases r; exact⟨_,.bool b⟩
 | .int i,_,_,h,r=>by cases h; obtain⟨t,rfl⟩:=r; exact⟨_,.int i t⟩
 | .str x,_,_,h,r=>by cases h; obtain⟨t,rfl⟩:=r; exact⟨_,.str x t⟩
 | .list ds,_,_,⟨a,vs,e,q,t⟩,r=>by
  subst e
  cases r
  obtain⟨its,rv,⟨o,n,e1,e2,e3,e4⟩,_⟩:=I.list q
  obtain⟨as,ra⟩:=dj.reads I t rv
  exact⟨_,.list e1 e2 e4 (by simpa using ra)⟩
 | .tuple ds,_,_,⟨a,vs,e,q,t⟩,r=>by
  subst e
  cases r
  obtain⟨its,rv,⟨o,e1,e2,n,e4⟩,_⟩:=I.tuple q
  obtain⟨as,ra⟩:=dj.reads I t rv
  exact⟨_,.tuple e1 e2 e4 (by simpa using ra)⟩
 | .dict _,_,_,h,_=>h.elim
theorem dj.reads(I:Inv X pins σ H s):∀ {ds:List PyData} {vs:List V} {us:List Value},dj X.K H ds vs→cP vs us→∃ as,ReadsAll s.heap us ds as
 | [],_,_,h,r=>by cases h; cases r; exact⟨_,.nil⟩
 | _ :: _,_,_,⟨v,w',e,q,t⟩,r=>by
  subst e
  cases r with
  | cons r1 r2 =>
   obtain⟨as,h1⟩:=q.reads I r1
   obtain⟨bs,h2⟩:=dj.reads I t r2
   exact⟨_,.cons h1 h2⟩
end
end
section
variable{X:Cx}
noncomputable def arb(K:ah)(u:Nat):R2:=fun x y H Q=>∃ da db,Rep K H da x∧Rep K H db y∧da.canLay0=true∧db.canLay0=true∧u + min da.depth db.depth < cLine∧Q (.bl (PyData.eqv da db)) H
noncomputable def arc(K:ah)(u:Nat):R2:=fun x y H Q=>∃ da db,Rep K H da x∧Rep K H db y∧da.canLay0=true∧db.canLay0=true∧u + min da.depth db.depth < cLine∧Q (.bl (!PyData.eqv da db)) H
theorem Mz:D8 X (compareOp .Eq) (arb X.K X.A.units):=by
 intro pins s σ H x y v u Q I rx ry ⟨da,db,ha,hb,ca,cb,hu,q⟩
 obtain⟨as,ra⟩:=ha.reads I rx
 obtain⟨bs,rb⟩:=hb.reads I ry
 exact SeqAt.compareEq_reads ra rb ca cb hu ⟨.bl _,H,I,rfl,q⟩
theorem abD:D8 X (compareOp .NotEq) (arc X.K X.A.units):=by
 intro pins s σ H x y v u Q I rx ry ⟨da,db,ha,hb,ca,cb,hu,q⟩
 obtain⟨as,ra⟩:=ha.reads I rx
 obtain⟨bs,rb⟩:=hb.reads I ry
 exact SeqAt.compareNe_reads ra rb ca cb hu ⟨.bl _,H,I,rfl,q⟩
theorem Ru:vL X (.builtin "isinstance") (fun xs H Q=>∃ x n t b,xs = [x,.ty n]∧Mw X.K H x t∧PySem.W.kitOne X.K t (.type n)=some b∧Q (.bl b) H):=by
 intro pins s σ H xs us Q I r ⟨x,n,t,b,e,ty,k,q⟩
 subst e
 obtain⟨u,w',e,ru,rw'⟩:=cP.two r
 subst e
 cases rw'
 exact ad4 I ru ty k fun tk=>⟨.bl _,H,I.tok tk,rfl,q⟩
theorem aeg(hc:X.calm=true):vL X (.type "set") (fun xs H Q=>∃ (a:Addr) (ns:List Int),xs = [.ref a]∧ck X.K H a (ns.map V.int)∧ns.length + 1 < scanBound ∧
 ∀ p,H p=none→Q (.ref p) (upd H p (.set (fun k'=>(firstMet (fun i=>ns.getD i 0) ns.length).any (· == k')) (firstMet (fun i=>ns.getD i 0) ns.length).length))):=by
 intro pins s σ H xs us Q I r ⟨a,ns,e,hq,hb,q⟩
 subst e
 obtain⟨u,e,ru⟩:=cP.one r
 subst e
 cases ru
 obtain⟨its,rv,p,hz⟩:=I.list hq
 have hl:=rv.length
 rw[af] at hl
 have esz:its.toArray.size=ns.length:=by simp[hl]
 refine call_set_list (I.ok.hd hc) p.isList (ns:=ns) (by simpa using intsAre_of rv) (by rw[esz]; exact hb) fun h' tk so kp=>?_
 rw[esz] at so
 exact⟨.ref s.heap.objs.size,_,I.laid (o:=.set (fun k'=>(firstMet (fun i=>ns.getD i 0) ns.length).any (· == k')) (firstMet (fun i=>ns.getD i 0) ns.length).length) (fun b o e=>kp b o (Heap.lt_size e) e) (aK _) so,rfl,q _ (I.hok.fresh (aK _))⟩
theorem aeh:vL X (.builtin "len") (fun xs H Q=>∃ (a:Addr) (S:Int→Bool) (n:Nat),xs = [.ref a]∧H a=some (.set S n)∧Q (.int n) H):=by
 intro pins s σ H xs us Q I r ⟨a,S,n,e,hq,q⟩
 subst e
 obtain⟨u,e,ru⟩:=cP.one r
 subst e
 cases ru
 obtain⟨o,es,ep,t,e1,e2,e3,e4,e5,e6,e7,e8⟩:=(show s.heap.SetOf (intKind X.prog X.w) a S n from I.hok a _ hq)
 subst e8
 refine call_len_set e1 e2 e3 e7 ?_ ⟨.int _,H,I.tok _,⟨_,rfl⟩,q⟩
 have:es.size < 2 ^ 62:=bL e6 (by decide)
 omega
theorem aei(hc:X.calm=true):vL X (.builtin "min") (fun xs H Q=>∃ (a:Addr) (ns:List Int),xs = [.ref a]∧ck X.K H a (ns.map V.int)∧0 < ns.length∧∀ m,m∈ns→(∀ n∈ns,m≤n)→Q (.int m) H):=by
 intro pins s σ H xs us Q I r ⟨a,ns,e,hq,hne,q⟩
 subst e
 obtain⟨u,e,ru⟩:=cP.one r
 subst e
 cases ru
 obtain⟨its,rv,p,hz⟩:=I.list hq
 have hi:IntsAre its ns:=intsAre_of rv
 have hl:=p.isList
 obtain⟨xs,e⟩:=hi.allInts.items
 have hns:ns=xs.toList.map (·.1):=by
  rw[← hi.numsOf,← nums_intItems,← e]
 have hsz:0 < xs.size:=by
  have h3:=hne; rw[hns,af,jL] at h3; exact h3
 rw[e] at hl
 refine min_intList (I.ok.hd hc) hl hsz fun v h' tk hv hk=>?_
 obtain⟨t,rfl⟩:=intItems_at hv
 obtain⟨h1,h2⟩:=argBest_lt (numAt xs) (xs.size - 1)
 refine⟨.int _,H,I.kept hk,⟨t,rfl⟩,q _ ?_ fun a ha=>?_⟩
 ·rw[hns,numAt_eq]; exact getD_mem (by rw[af,jL]; omega)
 ·rw[hns] at ha
  obtain⟨j,hj,rfl⟩:=mem_getD ha
  rw[af,jL] at hj
  rw[← numAt_eq]; exact h2 j (by omega)
end
end L2
namespace L2
open PySem PySem.Spec PyProof.Rows
noncomputable def adp(scope Q9:Scope)(N0 N2:List Str)(cap:List (Option Nat)):Bool :=
 (scope.kind == .function) && (scope.names.all fun y=>y.2 != .cell) && (scope.names.all fun y=>y.2 != .local || scope.names.lookup y.1 == some .local) &&
 (scope.names.all fun y=>y.2 != .free || Q9.names.lookup y.1 == some .cell) && (scope.names.all fun y=>y.2 != .free || scope.names.lookup y.1 == some .free) && decide N2.Nodup && (cap.length == N2.length) &&
 ((aB cap.length).all fun i=>match cap[i]?,N2[i]? with
   | some (some j),some x=>N0[j]? == some x && scope.names.any (fun y=>y.1 == x && y.2 == .free)
   | _,_=>true)
theorem dS{X:Cx}{scope Q9:Scope}{N0 N2:List Str}{cap:List (Option Nat)}(hd:X.env.scope=Q9)(hN:X.N=N0)(h:adp scope Q9 N0 N2 cap=true):mP X scope N2 cap:=by
 unfold adp at h
 simp only[fm] at h
 obtain⟨⟨⟨⟨⟨⟨⟨h1,h2⟩,h3⟩,h4⟩,h5⟩,h6⟩,h7⟩,h8⟩:=h
 rw[List.all_eq_true] at h2 h3 h4 h5 h8
 refine⟨by simpa using h1,fun y hy e=>?_,fun y hy e=>?_,fun y hy e=>?_,fun y hy e=>?_,of_decide_eq_true h6,by simpa using h7,fun i j x e1 e2=>?_⟩
 ·have:=h2 y hy; rw[e] at this; exact absurd this (by decide)
 ·have:=h3 y hy; rw[e] at this; simpa using this
 ·have:=h4 y hy
  rw[e] at this
  show X.env.scope.names.lookup y.1=some .cell
  rw[hd]
  simpa using this
 ·have:=h5 y hy; rw[e] at this; simpa using this
 ·have hi:i < cap.length:=(aj.mp e1).1
  have q:=h8 i (fQ.mpr hi)
  rw[e1,e2] at q
  simp only[fm] at q
  refine⟨by rw[hN]; simpa using q.1,?_⟩
  obtain⟨y,hy,z⟩:=Br.mp q.2
  simp only[fm] at z
  have e3:y.1=x:=by simpa using z.1
  have e4:y.2 = .free:=by simpa using z.2
  rw[← e3,← e4]
  exact hy
noncomputable def CW(H1:Hp)(acc:Addr)(n:Nat)(P:Nat→List V→Hp→Prop):Nat→Nat→Hp→Prop :=
 fun i m H=>m=n - i∧i≤n∧aL H1 H∧∃ ys,H acc=some (.lst ys)∧P i ys H
theorem jj{J:It}{n:Nat}{cap:List (Option Nat)}{g:TG}{tc:TT}{te:TE}{σ:St}{Qr:Hp→Prop}{H1:Hp}{acc:Addr}(P:Nat→List V→Hp→Prop)(hacc:H1 acc=none)
 (go:∀ i H,i < n→aL H1 H→J.go i H) (stop:∀ H,aL H1 H→J.stop n H) (h0:P 0 [] (upd H1 acc (.lst [])))
 (step:∀ i ys H,i < n→aL H1 H→H acc=some (.lst ys)→P i ys H→∀ x H',J.WM i H x H'→g x (lP cap σ) H' fun σ2 H2=>tc σ2 H2 fun b H3=>if b=true then te σ2 H3 fun y H4=>∃ xs,H4 acc=some (.lst xs)∧xs.length < sizeLine ∧
  ∃ m',m' < n - i∧CW H1 acc n P (i + 1) m' (upd H4 acc (.lst (xs++[y]))) else ∃ m',m' < n - i∧CW H1 acc n P (i + 1) m' H3)
 (fin:∀ ys H,aL H1 H→H acc=some (.lst ys)→P n ys H→Qr H) :
 ∃ W:Nat→Nat→Hp→Prop,(∃ m,W 0 m (upd H1 acc (.lst [])))∧∀ i m H,W i m H →
  (J.stop i H∧Qr H)∨(J.go i H∧∀ x H',J.WM i H x H'→g x (lP cap σ) H' fun σ2 H2=>tc σ2 H2 fun b H3=>if b=true then te σ2 H3 fun y H4=>∃ xs,H4 acc=some (.lst xs)∧xs.length < sizeLine ∧
   ∃ m',m' < m∧W (i + 1) m' (upd H4 acc (.lst (xs++[y]))) else ∃ m',m' < m∧W (i + 1) m' H3):=by
 refine⟨CW H1 acc n P,⟨n,rfl,bJ _,aL.new hacc,[],aF,h0⟩,?_⟩
 rintro i m H ⟨rfl,hi,s,ys,hy,p⟩
 by_cases hlt:i < n
 ·exact .inr ⟨go i H hlt s,step i ys H hlt s hy p⟩
 ·have e:i=n:=by omega
  subst e
  exact .inl ⟨stop H s,fin ys H s hy p⟩
theorem ic{H1 H4:Hp}{acc:Addr}{n i:Nat}{P:Nat→List V→Hp→Prop}{ys:List V}{y:V}(hacc:H1 acc=none)(hi:i < n)(s:aL H1 H4)(hy:H4 acc=some (.lst ys))(hl:ys.length < sizeLine)(p:P (i + 1) (ys++[y]) (upd H4 acc (.lst (ys++[y])))) :
 ∃ xs,H4 acc=some (.lst xs)∧xs.length < sizeLine∧∃ m',m' < n - i∧CW H1 acc n P (i + 1) m' (upd H4 acc (.lst (xs++[y]))) :=
 ⟨ys,hy,hl,n - (i + 1),by omega,rfl,hi,s.out hacc,_,aF,p⟩
theorem l5{H1 H3:Hp}{acc:Addr}{n i:Nat}{P:Nat→List V→Hp→Prop}{ys:List V}(hi:i < n)(s:aL H1 H3)(hy:H3 acc=some (.lst ys))(p:P (i + 1) ys H3):∃ m',m' < n - i∧CW H1 acc n P (i + 1) m' H3 :=
 ⟨n - (i + 1),by omega,rfl,hi,s,_,hy,p⟩
theorem Eg{K:ah}{a:Addr}{xs:List V}{H1:Hp}(h:ck K H1 a xs):∀ i H,i < xs.length→aL H1 H→(WN K a).go i H:=fun i H hi s=>⟨xs,xs[i],s.seq h,by simp[hi]⟩
theorem sj{K:ah}{a:Addr}{xs:List V}{H1:Hp}(h:ck K H1 a xs):∀ H,aL H1 H→(WN K a).stop xs.length H:=fun H s=>⟨xs,s.seq h,aK _⟩
theorem ak9{K:ah}{a:Addr}{xs:List V}{H1:Hp}(h:ck K H1 a xs):∀ i H,i < xs.length→aL H1 H→(Ite K a).go i H:=fun i H hi s=>⟨xs,xs[i],s.seq h,by simp[hi]⟩
theorem afJ{K:ah}{a:Addr}{xs:List V}{H1:Hp}(h:ck K H1 a xs):∀ H,aL H1 H→(Ite K a).stop xs.length H:=fun H s=>⟨xs,s.seq h,aK _⟩
theorem MA{lo:Int}{n:Nat}{H1:Hp}:∀ i H,i < n→aL H1 H→(Itr lo n).go i H:=fun i H hi s=>hi
theorem As{lo:Int}{n:Nat}{H1:Hp}:∀ H,aL H1 H→(Itr lo n).stop n H:=fun H s=>aK n
noncomputable def hide(H:Hp)(l:Addr):Hp:=fun b=>if b=l then none else H b
theorem ala{α:Type}{xs:List α}{i:Int}{v:α}(h0:0≤i)(h:xs[i.toNat]?=some v):Q7 xs i=some v:=by
 obtain⟨k,rfl⟩:=Int.eq_ofNat_of_zero_le h0
 exact gv (by simpa using h)
theorem afK{ns:List Int}{i:Int}(h0:0≤i)(h:i < ns.length):Q7 (ns.map V.int) i=some (.int (ns.getD i.toNat 0)):=by
 have hk:i.toNat < ns.length:=by omega
 refine ala h0 ?_
 rw[aq,aD,aa hk]
 rfl
section
variable{X:Cx}
theorem Rv(K:ah)(h:X.K=K):IxR X (akS K):=by subst h; exact cD
theorem Bu(K:ah)(h:X.K=K):IxR X (akT K):=by subst h; exact dQ
theorem Rx(K:ah)(h:X.K=K):D8 X (compareOp .In) (rIn K false):=by subst h; exact vA
theorem Ra(K:ah)(h:X.K=K){e:Expr}{f:Str}{pos:Pos}{ta:TE}(he:PE X e ta)(hb:attributeBase e f X.env (eval e X.env)=eval e X.env):PE X (.Attribute e f pos) (Rp K ta f):=by subst h; exact bu he hb
theorem aia(K:ah)(h:X.K=K){es:List Expr}{k:Nat}{pos:Pos}{t:TGs}{n:Nat}(hc:X.calm=true)(h':uS X es t)(hn:(assignEach es X.env).length=n:=by rfl)
 (hst:(assignEach es X.env).findIdx? (·.1)=none:=by rfl):PG X (.Tuple es k pos) (akE K n t):=by subst h; exact Rk hc h' hn hst
theorem aej:vL X (.builtin "isinstance") (fun xs H Q=>∃ (a:Addr) (ys:List V) (n:String) (b:Bool),xs = [.ref a,.ty n]∧dP X.K H a ys∧PySem.W.kitOne X.K (.type "tuple") (.type n)=some b∧Q (.bl b) H):=by
 intro pins s σ H xs us Q I r ⟨a,ys,n,b,e,hq,k,q⟩
 subst e
 obtain⟨u,w',e,ru,rw'⟩:=cP.two r
 subst e
 cases rw'
 cases ru
 obtain⟨its,rv,⟨o,h1,h2,_⟩,_⟩:=I.tuple hq
 exact eU PySem.W.kitx_tuple I.IX ⟨o,h1,h2⟩ k (fun z=>nomatch z) fun tk=>⟨.bl _,H,I.tok tk,rfl,q⟩
theorem aek:vL X (.builtin "isinstance") (fun xs H Q=>∃ (a:Addr) (ys:List V) (n:String) (b:Bool),xs = [.ref a,.ty n]∧ck X.K H a ys∧PySem.W.kitOne X.K (.type "list") (.type n)=some b∧Q (.bl b) H):=by
 intro pins s σ H xs us Q I r ⟨a,ys,n,b,e,hq,k,q⟩
 subst e
 obtain⟨u,w',e,ru,rw'⟩:=cP.two r
 subst e
 cases rw'
 cases ru
 obtain⟨its,rv,⟨o,n',h1,h2,_⟩,_⟩:=I.list hq
 exact eU PySem.W.kitx_list I.IX ⟨o,h1,h2⟩ k (fun z=>nomatch z) fun tk=>⟨.bl _,H,I.tok tk,rfl,q⟩
noncomputable def afL:Expr→Bool
 | .Starred _ _=>false
 | _=>true
theorem Zn{e:Expr}{es:List Expr}{env:Env}(h:afL e=true):starEach (e :: es) env=(false,eval e env) :: starEach es env:=by
 cases e <;> first | rfl | (exact Bool.noConfusion h) | simp[starEach]
theorem aG{e:Expr}{es:List Expr}{te:TE}{t:TA}(ha:PE X e te)(hr:PA X es t)(hs:afL e=true:=by rfl):PA X (e :: es) (ac9 te t):=ah3 ha hr (Zn hs)
end
end L2
namespace L2
open PySem PySem.Spec PyProof.Rows
section
variable{X:Cx}
theorem aib{bs:List Bool}{us:List Value}(r:cP (bs.map V.bl) us){i:Nat}{v:Value}(h:us[i]?=some v):v = .bool (bs.getD i true):=by
 have hl:=r.length
 rw[af] at hl
 have hi:i < us.length:=(aj.mp h).1
 have e:(bs.map V.bl)[i]?=some (.bl (bs.getD i true)):=by
  rw[aq,aa (by omega),aD,aa (by omega)]; rfl
 obtain⟨u,hu,ru⟩:=r.get e
 rw[h] at hu
 cases hu
 exact ru
theorem range_all(bs:List Bool):((aB bs.length).all fun i=>bs.getD i true)=bs.all id:=by
 rw[oX,List.all_eq_true,List.all_eq_true]
 constructor
 ·intro h x hx
  obtain⟨i,hi,e⟩:=List.getElem_of_mem hx
  have:=h i (fQ.mpr hi)
  rw[aD,aa hi,e] at this
  exact this
 ·intro h i hi
  have hi:=fQ.mp hi
  have:=h bs[i] (aW hi)
  rw[aD,aa hi]
  exact this
theorem afM(hc:X.calm=true):vL X (.builtin "all") (fun xs H Q=>∃ (a:Addr) (bs:List Bool),xs = [.ref a]∧ck X.K H a (bs.map V.bl)∧Q (.bl (bs.all id)) H):=by
 intro pins s σ H xs us Q I r ⟨a,bs,e,hq,q⟩
 subst e
 obtain⟨u,e,ru⟩:=cP.one r
 subst e
 cases ru
 obtain⟨its,rv,p,hz⟩:=I.list hq
 have hl:=rv.length
 rw[af] at hl
 refine call_all_walk (wpAny_pyIter_list p.isList ?_)
 have hlt:a < s.heap.objs.size:=by obtain⟨o,n,e,_⟩:=p; exact Heap.lt_size e
 refine⟨s.heap.objs.size,_,_,_,_,_,fun i=>bs.getD i true,rfl,Walks.list (A:=X.A.in1) (show X.A.in1.handled=none from I.ok.hd hc) _ a (bZ hlt) its.toArray,⟨⟨_,Heap.get?_push_size _ rfl,rfl,rfl⟩,p.isList.at fun o e=>Heap.get?_push_of_some _ e⟩,?_,fun h' tk hk=>?_⟩
 ·intro i v s Q E hP hQ
  have e:=aib rv (show its[i]?=some v by simpa using hP)
  subst e
  exact wpAny_truthy_bool hQ
 ·have e:(aB its.toArray.size).all (fun i=>bs.getD i true)=bs.all id:=by
   rw[show its.toArray.size=bs.length by simp[hl]]
   exact range_all bs
  rw[e]
  exact⟨.bl _,H,I.kept (t':=tk) fun b o e=>hk b o (by
   intro z
   have:b=s.heap.objs.size:=by simpa using z
   exact absurd (Heap.lt_size e) (by rw[this]; exact ql _)) (Heap.get?_push_of_some _ e),rfl,q⟩
end
end L2
namespace Gr
noncomputable abbrev Ps:=List (Int × Int)
noncomputable def Eh(ps:Ps)(k:Nat)(x y:Int):Prop:=ps[k]?=some (x,y)∨ps[k]?=some (y,x)
theorem We{α:Type}[DecidableEq α]:∀ {xs B:List α},xs.Nodup→(∀ x∈xs,x∈B)→xs.length≤B.length
 | [],_,_,_=>bJ _
 | x :: xs,B,hn,hs=>by
  have hx:=hs x cN
  have h2:∀ y∈xs,y∈B.erase x:=fun y hy=>by
   have ne:y≠x:=fun e=>(lJ.mp hn).1 (e ▸ hy)
   exact (List.mem_erase_of_ne ne).mpr (hs y (bP _ hy))
  have h3:=We (lJ.mp hn).2 h2
  have h4:=List.length_erase_of_mem hx
  have h5:0 < B.length:=List.length_pos_of_mem hx
  rw[cE]; omega
theorem Bv{α:Type}{xs:List α}{x:α}(h:xs.Nodup)(hx:x ∉ xs):(xs++[x]).Nodup:=by
 rw[List.nodup_append]
 refine⟨h,by simp,fun a ha b hb=>?_⟩
 have:b=x:=by simpa using hb
 rw[this]
 exact fun e=>hx (e ▸ ha)
noncomputable def ends(ps:Ps):List Int:=ps.flatMap fun p=>[p.1,p.2]
end Gr
namespace L2
open PySem Gr
noncomputable def afN(K:ah)(ta:TE):TT:=fun σ H Q=>ta σ H fun x H'=>∃ k,akO K x H' k∧Q k H'
theorem ael{X:Cx}{a:Expr}{ta:TE}(ha:PE X a ta)(he:∀ whole,isTrue a X.env whole=(do let v ← whole; standAt a.pos; holding [v] (truthy v))):PT X a (afN X.K ta):=afs ha he
theorem aic{c:TT}{tb:TS}{D:Ends}{σ:St}{H:Hp}(Pv:Nat→St→Hp→Prop)(m0:Nat)(h0:Pv m0 σ H)
 (hs:∀ m σ H,Pv m σ H→c σ H fun b H1=>if b=true then tb { D with nx:=fun σ' H'=>∃ m',m' < m∧Pv m' σ' H',ct:=fun σ' H'=>∃ m',m' < m∧Pv m' σ' H',bk:=D.nx } σ H1 else D.nx σ H1)
 (mono:∀ σ H Q Q',(∀ b H1,Q b H1→Q' b H1)→c σ H Q→c σ H Q'):abj c tb D σ H:=by
 refine⟨Pv,⟨m0,h0⟩,fun m σ H p=>mono σ H _ _ (fun b H1 q=>?_) (hs m σ H p)⟩
 cases b with
 | true=>exact⟨_,fun σ' H' z=>z,q⟩
 | false=>exact q
theorem afO{K:ah}{a:Addr}{xs:List V}{g:TG}{tb:TS}{D:Ends}{σ:St}{H:Hp}(Pv:Nat→St→Hp→Prop)(h0:Pv 0 σ H)(hl:∀ i σ H,i≤xs.length→Pv i σ H→ck K H a xs)
 (hs:∀ i x σ H p,xs[i]?=some x→Pv i σ H→H p=none→g (.ref p) σ (upd H p (.tup [.int (i:Nat),x])) fun σ2 H2=>tb { D with nx:=Pv (i + 1),ct:=Pv (i + 1),bk:=D.nx } σ2 H2) (hd:∀ σ H,Pv xs.length σ H→D.nx σ H) :
 ∃ W:Nat→Nat→St→Hp→Prop,(∃ m,W 0 m σ H)∧∀ i m σ H,W i m σ H →
  ((Ite K a).stop i H∧D.nx σ H)∨((Ite K a).go i H∧∃ N:St→Hp→Prop,(∀ σ' H',N σ' H'→∃ m',m' < m∧W (i + 1) m' σ' H')∧∀ x H',(Ite K a).WM i H x H'→g x σ H' fun σ2 H2=>tb { D with nx:=N,ct:=N,bk:=D.nx } σ2 H2):=by
 refine⟨fun i m σ H=>m=xs.length - i∧i≤xs.length∧Pv i σ H,⟨xs.length,by simp,bJ _,h0⟩,?_⟩
 rintro i m σ H ⟨rfl,hi,p⟩
 have q:=hl i σ H hi p
 by_cases hlt:i < xs.length
 ·refine .inr ⟨⟨xs,xs[i],q,by simp[hlt]⟩,Pv (i + 1),fun σ' H' p'=>⟨xs.length - (i + 1),by omega,rfl,hlt,p'⟩,fun x H' y=>?_⟩
  obtain⟨b,v,hb,rfl,rfl,hv⟩:=y
  exact hs i v σ H b (hv xs q) p hb
 ·have e:i=xs.length:=by omega
  subst e
  exact .inl ⟨⟨xs,q,aK _⟩,hd σ H p⟩
end L2
namespace L2
open PySem PySem.Spec PyProof.Rows
section
variable{X:Cx}
theorem Zo:vL X (.type "range") (fun xs H Q=>∃ j:Int,xs = [.int j]∧∀ p,H p=none→Q (.ref p) (upd H p (.rng 0 j))):=by
 intro pins s σ H xs us Q I r ⟨j,e,q⟩
 subst e
 obtain⟨u,e,ru⟩:=cP.one r
 subst e
 obtain⟨t,rfl⟩:=ru
 refine call_range_1 ⟨.ref s.heap.objs.size,_,I.laid (a:=s.heap.objs.size) (o:=.rng 0 j) (fun b o e=>Heap.get?_push_of_some _ e) (aK _) ?_,rfl,q _ (I.hok.fresh (aK _))⟩
 exact⟨_,_,_,Heap.get?_push_size _ rfl⟩
theorem abE{acc:Array Value}{n:Nat}(hl:acc.size=n)(h:∀ (i:Nat) (v:Value),acc[i]?=some v→∃ t,v=Value.int (0 + (i:Int) * 1) t):cP ((aB n).map fun k=>V.int (k:Nat)) acc.toList:=by
 have key:∀ (us:List Value) (m:Nat),(∀ (i:Nat) (v:Value),us[i]?=some v→∃ t,v=Value.int ((m + i:Nat):Int) t)→cP ((List.range' m us.length).map fun k=>V.int (k:Nat)) us:=by
  intro us
  induction us with
  | nil=>intro m _; exact .nil
  | cons u us ih =>
   intro m hh
   rw[cE,List.range'_succ,cG]
   refine .cons (hh 0 u rfl) (ih (m + 1) fun i v e=>?_)
   obtain⟨t,q⟩:=hh (i + 1) v (by simpa using e)
   exact⟨t,by rw[q]; congr 1; omega⟩
 have:=key acc.toList 0 fun i v e=>by
  obtain⟨t,q⟩:=h i v (by simpa using e)
  exact⟨t,by rw[q]; congr 1; omega⟩
 rw[jL,hl,← List.range_eq_range'] at this
 exact this
theorem abF(hc:X.calm=true):vL X (.type "list") (fun xs H Q=>∃ (p:Addr) (j:Nat),xs = [.ref p]∧H p=some (.rng 0 j)∧j≤1000∧∀ l,H l=none→Q (.ref l) (upd H l (.lst ((aB j).map fun k=>.int (k:Nat))))):=by
 intro pins s σ H xs us Q I r ⟨p,j,e,hp,hj,q⟩
 subst e
 obtain⟨u,e,ru⟩:=cP.one r
 subst e
 cases ru
 obtain⟨t,u,v,hr⟩:=(show je X.prog X.w H s.heap p (.rng 0 j) from I.hok p _ hp)
 refine call_list_range (I.ok.hd hc) (n:=j) hr (small_one (by omega) (by omega) (by omega) (by omega)) (by rw[rangeSize_one]; split <;> omega) (by omega) fun h' tk acc' c' hk hS hi=>?_
 obtain⟨hsz,hit⟩:=hi
 have hv:=abE hsz hit
 refine⟨.ref s.heap.objs.size,_,I.laid (a:=s.heap.objs.size) (o:=.lst ((aB j).map fun k=>.int (k:Nat))) hk (aK _) ⟨?_,acc'.toList,c',hv,by simpa using hS⟩,rfl,q _ (I.hok.fresh (aK _))⟩
 rw[af,bC]
 exact oU (cS hj)
end
end L2
namespace Gr
end Gr
namespace Gr
end Gr
namespace L2
open PySem PySem.Spec PyProof.Rows
noncomputable def Fly(h:Heap)(e T:Addr)(cls fl:Value):Prop :=
 ∃ oe vs oT ts,h.get? e=some oe∧oe.cls=cls∧oe.dict=none∧oe.data = .fields vs∧vs[1]?=some (.ref T)∧T≠e∧h.get? T=some oT∧oT.data = .fields ts∧ts[3]?=some fl
structure Wf(F R:List Addr)(h h':Heap):Prop where
 keep:∀ b o,b ∉ F→b ∉ R→h.get? b=some o→h'.get? b=some o
 slot:∀ b o,b∈F→b ∉ R→h.get? b=some o→∃ sl,h'.get? b=some { o with slots:=sl }
theorem Wf.mono{F R R':List Addr}{h h':Heap}(t:Wf F R h h')(hs:∀ b∈R,b∈R'):Wf F R' h h' :=
 ⟨fun b o h1 h2 e=>t.keep b o h1 (fun z=>h2 (hs b z)) e,fun b o h1 h2 e=>t.slot b o h1 (fun z=>h2 (hs b z)) e⟩
theorem Wf.trans{F R:List Addr}{h h1 h2:Heap}(a:Wf F R h h1)(b:Wf F R h1 h2):Wf F R h h2 :=
 ⟨fun c o q1 q2 e=>b.keep c o q1 q2 (a.keep c o q1 q2 e),fun c o q1 q2 e=>by
  obtain⟨sl,e1⟩:=a.slot c o q1 q2 e
  obtain⟨sl2,e2⟩:=b.slot c _ q1 q2 e1
  exact⟨sl2,e2⟩⟩
theorem Wf.anW{F:List Addr}{h:Heap}{a:Addr}{g:Obj→Obj}:Wf F [a] h (h.update a g) :=
 ⟨fun b o _ h2 e=>(Heap.get?_update_other _ _ (fun z=>h2 (by simp[z]))).trans e,fun b o _ h2 e=>⟨o.slots,(Heap.get?_update_other _ _ (fun z=>h2 (by simp[z]))).trans e⟩⟩
theorem aem{f:Array Value→Array Value}{o:Obj}:(Obj.mapFields f o).dict=o.dict:=by
 obtain⟨c,d,da,sl⟩:=o
 cases da <;> rfl
section
variable{M:Model}{A:Around}{E:Value→Shared→Prop}{s:Shared}{base:Heap}{env:Env}{outer:List Env}{L e:Addr}
theorem Ry(hl:s.heap.FunFrames base (env :: outer)){oe:Obj}{vs:Array Value}(he:s.heap.get? e=some oe)(hd:oe.data = .fields vs):e ∉ frs (env :: outer):=fun hm=>by
 obtain⟨_,o,ho,hnf⟩:=hl.mem hm
 rw[he] at ho
 cases ho
 exact hnf vs hd
theorem Wg{oe:Obj}{vs:Array Value}{head:Value}{b1:Bool}{Q:Unit→Shared→Prop}(hfr:A.frames=some (env :: outer))(hl:s.heap.FunFrames base (env :: outer))(hf:env.frame=some L)
 (he:s.heap.get? e=some oe) (hdc:oe.dict=none) (hd:oe.data = .fields vs) (hsz:1 < vs.size)
 (h:∀ h',Fly h' e s.heap.objs.size oe.cls (rawInt L)→Wf (frs (env :: outer)) [e] s.heap h'→Q () { s with heap:=h' }) :
 wpAny M A (do let fv ← frameOf env; let pl ← entryPlaceOf L b1; let tb ← EntryCells.newEntry head fv .none (rawInt L) .none pl; setField (.ref e) 1 tb) Q E s:=by
 have hne:=Ry hl he hd
 refine wpAny_bind (wpAny_frameOf_fun hfr hl hf fun g1 so=>?_)
 obtain⟨so1,so2,so3⟩:=so
 refine wpAny_bind (wpAny_entryPlaceOf fun pl okp=>?_)
 unfold EntryCells.newEntry newFields
 refine wpAny_bind (wpAny_newObj_type ?_ (okp.sizeOk5 _ _ _ _ _))
 have q1:g1.get? e=some oe:=(so2 e hne).trans he
 have nTe:g1.objs.size≠e:=Nat.ne_of_gt (Heap.lt_size q1)
 refine wpAny_setField (Heap.get?_push_of_some _ q1) hd hsz (h _ ?_ ?_)
 ·have hd':=Obj.data_mapFields hd (·.setIfInBounds 1 (Value.ref g1.objs.size))
  have qT:=(Heap.get?_update_other _ (Obj.mapFields (·.setIfInBounds 1 (Value.ref g1.objs.size))) (bW nTe)).trans (Heap.get?_push_size g1 (o:={ cls:=.type "traceback",dict:=none,data:=.fields ([head,.ref L,.none,rawInt L,.none]++(if pl.isEmpty then List.replicate 6 Value.none else pl)).toArray }) rfl)
  rw[← so1]
  refine⟨_,_,_,_,Heap.get?_update_self _ (Heap.get?_push_of_some _ q1) (Obj.isFreed_of_fields hd'),Obj.cls_mapFields _ _,?_,hd',?_,nTe,qT,rfl,?_⟩
  ·rw[aem]
   exact hdc
  ·simp[hsz]
  ·rcases okp with rfl | ⟨_,_,_,_,_,_,_,rfl⟩ <;> simp
 ·refine⟨fun b o h1 h2 eb=>?_,fun b o h1 h2 eb=>?_⟩
  ·rw[Heap.get?_update_other _ _ (fun z=>h2 (by simp[z]))]
   exact Heap.get?_push_of_some _ ((so2 b h1).trans eb)
  ·obtain⟨sl,q⟩:=so3 b o eb
   refine⟨sl,?_⟩
   rw[Heap.get?_update_other _ _ (fun z=>h2 (by simp[z]))]
   exact Heap.get?_push_of_some _ q
theorem abG{oe:Obj}{vs:Array Value}{Q:Unit→Shared→Prop}(hfr:A.frames=some (env :: outer))(hl:s.heap.FunFrames base (env :: outer))(hf:env.frame=some L)
 (he:s.heap.get? e=some oe) (hdc:oe.dict=none) (hd:oe.data = .fields vs) (h1:vs[1]?=some .none)
 (h:∀ h',Fly h' e s.heap.objs.size oe.cls (rawInt L)→Wf (frs (env :: outer)) [e] s.heap h'→Q () { s with heap:=h' }):wpAny M A (noteFrame (.ref e) env) Q E s:=by
 unfold noteFrame
 simp only[hf]
 refine wpAny_bind (wpAny_field he hd h1 ?_)
 rw[if_neg (by decide)]
 exact Wg hfr hl hf he hdc hd (qp.mp h1).1 h
theorem aen{T:Addr}{cls:Value}{Q:Unit→Shared→Prop}(hfr:A.frames=some (env :: outer))(hl:s.heap.FunFrames base (env :: outer))(hf:env.frame=some L)(fl:Fly s.heap e T cls .none)
 (h:∀ h',Fly h' e s.heap.objs.size cls (rawInt L)→Wf (frs (env :: outer)) [e,T] s.heap h'→Q () { s with heap:=h' }):wpAny M A (noteFrame (.ref e) env) Q E s:=by
 obtain⟨oe,vs,oT,ts,he,hc,hdc,hd,h1,nT,hT,hdT,h3⟩:=fl
 subst hc
 unfold noteFrame
 simp only[hf]
 refine wpAny_bind (wpAny_field he hd h1 ?_)
 rw[if_pos (by simp)]
 refine wpAny_bind (wpAny_field hT hdT h3 ?_)
 rw[if_neg (by simp[rawInt])]
 refine wpAny_bind (wpAny_setField hT hdT (qp.mp h3).1 ?_)
 have nTf:=Ry (e:=T) hl hT hdT
 have hsz:(s.heap.update T (Obj.mapFields (·.setIfInBounds 3 Value.none))).objs.size=s.heap.objs.size:=Heap.size_after_update ..
 have other:∀ b,b≠T→(s.heap.update T (Obj.mapFields (·.setIfInBounds 3 Value.none))).get? b=s.heap.get? b:=fun b hb=>Heap.get?_update_other _ _ (bW hb)
 refine Wg (s:={ s with heap:=s.heap.update T (Obj.mapFields (·.setIfInBounds 3 Value.none)) }) (base:=base) hfr (hl.of_keeps fun b o hb hnf=>⟨o,(other b fun z=>?_).trans hb,rfl⟩) hf ((other e (bW nT)).trans he) hdc hd (qp.mp h1).1 fun h' f' t'=>?_
 ·rw[z,hT] at hb
  cases hb
  exact hnf ts hdT
 ·have f2:Fly h' e s.heap.objs.size oe.cls (rawInt L):=hsz ▸ f'
  exact h h' f2 ((Wf.anW.mono (by simp)).trans (t'.mono (by simp)))
theorem OQ{T:Addr}{cls fl:Value}{Q:Unit→Shared→Prop}(f:Fly s.heap e T cls fl)(h:∀ h',Fly h' e T cls .none→(∀ F,Wf F [T] s.heap h')→h'.objs.size=s.heap.objs.size→Q () { s with heap:=h' }) :
 wpAny M A (setFlight (.ref e) none) Q E s:=by
 obtain⟨oe,vs,oT,ts,he,hc,hdc,hd,h1,nT,hT,hdT,h3⟩:=f
 have hs3:3 < ts.size:=(qp.mp h3).1
 unfold setFlight
 refine wpAny_bind (wpAny_field he hd h1 ?_)
 rw[if_pos (by simp)]
 refine wpAny_setField hT hdT hs3 (h _ ?_ (fun F=>Wf.anW) (Heap.size_after_update ..))
 have anX:=Obj.data_mapFields hdT (·.setIfInBounds 3 ((none:Option Addr).elim Value.none fun f=>rawInt f))
 exact⟨oe,vs,_,_,(Heap.get?_update_other _ _ nT).trans he,hc,hdc,hd,h1,nT,Heap.get?_update_self _ hT (Obj.isFreed_of_fields anX),anX,by simp[hs3]⟩
end
end L2
namespace L2
open PySem PySem.Spec PyProof.Rows
theorem je.there{P:Program}{w:World}{H:Hp}{h:Heap}{a:Addr}:∀ {o:HO},je P w H h a o→∃ ob,h.get? a=some ob
 | .lst _,⟨_,_,_,_,e⟩=>⟨_,e⟩
 | .tup _,⟨_,_,_,o,e,_⟩=>⟨o,e⟩
 | .dK _,⟨_,_,_,_,o,_,_,e,_⟩=>⟨o,e⟩
 | .dT _,⟨_,_,_,_,o,_,_,e,_⟩=>⟨o,e⟩
 | .set _ _,⟨o,_,_,_,e,_⟩=>⟨o,e⟩
 | .ins _ _ _,⟨_,_,_,e,_⟩=>⟨_,e⟩
 | .own _,e=>e
 | .xd _,⟨_,n,_⟩=>let ⟨o,e,_⟩:=V3 n; ⟨o,e⟩
 | .met _ _,e=>⟨_,e⟩
 | .rng _ _,⟨_,_,_,e⟩=>⟨_,e⟩
 | .Y8 o _,⟨e,_⟩=>⟨o,e⟩
 | .tbl _,e=>⟨_,e⟩
 | .ext _,⟨_,e,_⟩=>e
theorem D4.trn{P:Program}{w:World}{H:Hp}{h h':Heap}{F R:List Addr}(ok:D4 P w H h)(t:Wf F R h h')(hF:∀ b∈F,H b=none)(hR:∀ b∈R,H b=none):D4 P w H h':=fun a o e =>
 (ok a o e).stay (fun b u hb q=>t.keep b u (fun z=>by
  have:=hF b z
  rcases hb with rfl | hb
  ·rw[e] at this; cases this
  ·rw[hb] at this; cases this) (fun z=>by
  have:=hR b z
  rcases hb with rfl | hb
  ·rw[e] at this; cases this
  ·rw[hb] at this; cases this) q) (fun _ q=>q) fun _ _ q=>q
noncomputable def Rec(X:Cx)(pins:List (Addr × Obj))(H:Hp)(b:Addr):Prop :=
 H b=none∧b≠X.env.locals∧b ∉ X.fs∧X.s₀.heap.get? b=none∧(∀ x c,X.env.cells.lookup x=some c→c≠b)∧∀ p∈X.pn++pins,p.1≠b
section
variable{X:Cx}{pins:List (Addr × Obj)}{σ:St}{H H':Hp}{s:Shared}{h':Heap}
theorem Inv.aie(I:Inv X pins σ H s)(hex:X.ex = []){b:Addr}(hn:H' b=none)(hb:s.heap.get? b=none):Rec X pins H' b:=by
 refine⟨hn,fun z=>?_,fun z=>?_,?_,fun x c e z=>?_,fun p hp z=>?_⟩
 ·obtain⟨m,⟨o,_,_,ho,_⟩,_⟩:=I.loc
  rw[← z,hb] at ho; cases ho
 ·obtain⟨_,o,ho,_⟩:=I.KJ.mem z
  rw[hb] at ho; cases ho
 ·cases q:X.s₀.heap.get? b with
  | none=>rfl
  | some o =>
   obtain⟨o',e⟩:=I.base.there b o q (by rw[hex]; simp)
   rw[hb] at e; cases e
 ·obtain⟨v,o,ho,_⟩:=I.cell x c e
  rw[z,hb] at ho; cases ho
 ·have:=(I.pin p hp).1
  rw[z,hb] at this; cases this
theorem Inv.Zp(I:Inv X pins σ H s)(hex:X.ex = []):Rec X pins H s.heap.objs.size:=by
 refine I.aie hex (I.hok.fresh (aK _)) ?_
 cases q:s.heap.get? s.heap.objs.size with
 | none=>rfl
 | some o=>exact absurd (Heap.lt_size q) (ql _)
theorem Inv.trn{R:List Addr}{t':Nat}(I:Inv X pins σ H s)(hR:∀ b∈R,Rec X pins H b)(t:Wf (frs X.stack) R s.heap h'):Inv X pins σ H { s with heap:=h',toks:=t' }:=by
 have hFn:∀ b∈frs X.stack,H b=none:=fun b hb=>I.WH b hb
 have any:∀ b o,b ∉ R→s.heap.get? b=some o→∃ sl,h'.get? b=some { o with slots:=sl }:=fun b o hr e=>by
  by_cases hb:b∈frs X.stack
  ·exact t.slot b o hb hr e
  ·exact⟨o.slots,t.keep b o hb hr e⟩
 have ajT:∀ b o,b≠X.env.locals→b ∉ X.fs→b ∉ R→s.heap.get? b=some o→h'.get? b=some o:=fun b o hL hb hr e =>
  t.keep b o (fun z=>(cF.mp (I.Mu b z)).elim hL hb) hr e
 have neL:∀ b o,X.s₀.heap.get? b=some o→b≠X.env.locals:=fun b o e=>bZ (bL (Heap.lt_size e) I.ok.above)
 have neR:∀ b o,X.s₀.heap.get? b=some o→b ∉ R:=fun b o e z=>by rw[(hR b z).2.2.2.1] at e; cases e
 have cellK:∀ x c,X.env.cells.lookup x=some c→∀ v,s.heap.IsCell c v→h'.IsCell c v:=fun x c e v ⟨o,ho,hd⟩=>by
  obtain⟨sl,q⟩:=any c o (fun z=>(hR c z).2.2.2.2.1 x c e rfl) ho
  exact⟨_,q,hd⟩
 refine⟨I.ok,I.os,I.bare,⟨fun b o e n hb hx=>?_,fun b o e n hb hx=>?_,I.base.free,fun b o e hx=>?_,I.base.tups,I.base.KI,I.base.Mt⟩,?_,fun x c e=>?_,I.free,I.Ar,fun p hp=>?_,I.hok.trn t hFn (fun b hb=>(hR b hb).1),I.len⟩
 ·exact ajT b o (neL b o e) hb (neR b o e) (I.base.keep b o e n hb hx)
 ·obtain⟨sl,e1⟩:=I.base.slot b o e n hb hx
  obtain⟨sl',e2⟩:=any b _ (neR b o e) e1
  exact⟨sl',e2⟩
 ·obtain⟨o',e1⟩:=I.base.there b o e hx
  obtain⟨sl,e2⟩:=any b _ (neR b o e) e1
  exact⟨_,e2⟩
 ·obtain⟨m,⟨o,es,ep,ho,r⟩,hl⟩:=I.loc
  obtain⟨sl,q⟩:=any _ o (fun z=>(hR _ z).2.1 rfl) ho
  refine⟨m,⟨_,es,ep,q,r⟩,fun i x v e1 e2 e3=>?_⟩
  obtain⟨u,ru,l⟩:=hl i x v e1 e2 e3
  refine⟨u,ru,?_⟩
  rcases l with l | ⟨k,c,e,z⟩
  ·exact .inl l
  ·exact .inr ⟨k,c,e,cellK x c e _ z⟩
 ·obtain⟨v,z⟩:=I.cell x c e
  exact⟨v,cellK x c e v z⟩
 ·obtain⟨e,n,ne,nf,d⟩:=I.pin p hp
  exact⟨ajT p.1 p.2 ne nf (fun z=>(hR p.1 z).2.2.2.2.2 p hp rfl) e,n,ne,nf,d⟩
end
noncomputable def XP(X:Cx)(pins:List (Addr × Obj))(σ:St)(E:XK)(e:Value)(s':Shared):Prop :=
 ∃ ea T cls H',e = .ref ea∧Inv X pins σ H' s'∧Fly s'.heap ea T cls .none∧Rec X pins H' ea∧Rec X pins H' T∧E cls none H'
noncomputable def Rb(P:Program)(w:World):CXT:=fun outer H s E e s' =>
 ∃ ea T cls H',e = .ref ea∧s'.os=s.os∧AllBare s'.gens∧Un (frs outer) [] H H' s.heap s'.heap∧D4 P w H' s'.heap∧Fly s'.heap ea T cls .none∧s.heap.get? ea=none∧s.heap.get? T=none∧H' ea=none∧H' T=none∧E cls none H'
theorem anZ{X:Cx}{pins:List (Addr × Obj)}{σ:St}{H:Hp}{s s':Shared}{E:XK}{e:Value}(I:Inv X pins σ H s)(hex:X.ex = [])(h:Rb X.prog X.w X.stack H s E e s'):XP X pins σ E e s':=by
 obtain⟨ea,T,cls,H',he,os,bare,un,hok,fl,n1,n2,h1,h2,q⟩:=h
 exact⟨ea,T,cls,H',he,I.ajJ (ch:=[]) os un hok bare (fun b z=>absurd z (by simp)),fl,I.aie hex h1 n1,I.aie hex h2 n2,q⟩
theorem afP{X:Cx}{pins:List (Addr × Obj)}{σ:St}{H:Hp}{s:Shared}{R:List Addr}{h':Heap}(I:Inv X pins σ H s)(hex:X.ex = [])(hR:∀ b∈R,Rec X pins H b)(t:Wf (frs X.stack) R s.heap h'):Un X.fs [] X.H₀ H X.s₀.heap h':=by
 have:=(I.trn (t':=s.toks) hR t).base
 rw[hex] at this
 exact this
section
variable{P:Program}{w:World}{K:ah}{mg:Str→Option Value}{base:Heap}{N:List Str}{qual:Str}{scope:Scope}{f:Addr}{cd:Value}{A:Around}{outer:List Env}{s0:Shared}{H0:Hp}{E:XK}
theorem an0{pins:List (Addr × Obj)}{σ:St}{e:Value}{s:Shared}(h:XP (uT (Rb P w) P w K mg base N qual scope f cd A outer s0 H0 E) pins σ E e s):(uT (Rb P w) P w K mg base N qual scope f cd A outer s0 H0 E).xe e s:=by
 obtain⟨ea,T,cls,H',rfl,I,fl,r1,r2,q⟩:=h
 show wpAny _ _ (leaving _ (.ref ea)) _ _ s
 unfold leaving
 refine wpAny_bind (aen (base:=base) I.ok.frames I.stack rfl fl fun h1 f1 t1=>?_)
 refine OQ f1 fun h2 f2 t2 sz=>?_
 have rn:=I.Zp rfl
 have hR:∀ b∈[ea,T,s.heap.objs.size],Rec (uT (Rb P w) P w K mg base N qual scope f cd A outer s0 H0 E) pins H' b:=by
  intro b hb
  simp only[cF,List.not_mem_nil,or_false] at hb
  rcases hb with z | z | z
  ·rw[z]; exact r1
  ·rw[z]; exact r2
  ·rw[z]; exact rn
 have t12:Wf (frs (uT (Rb P w) P w K mg base N qual scope f cd A outer s0 H0 E).stack) [ea,T,s.heap.objs.size] s.heap h2:=(t1.mono (by simp)).trans ((t2 _).mono (by simp))
 have J:=I.trn (t':=s.toks) hR t12
 exact⟨ea,_,cls,H',rfl,I.os,I.bare,afP I rfl hR t12,J.hok,f2,r1.2.2.2.1,rn.2.2.2.1,r1.1,rn.1,q⟩
theorem ajU:vN (Rb P w) (uT (Rb P w) P w K mg base N qual scope f cd A outer s0 H0 E) E:=fun pins σ H s e s' I h=>an0 (anZ I rfl h)
theorem kX.okX{x qual:Str}{st:Stmt}{f:Addr}{fd:FuncData}{N ps:List Str}{k:Nat}{sp:Sp}(F:kX K x qual st f fd)(S:aV N ps (ai st))(len:∀ vs H Q E,sp vs H Q E→vs.length=ps.length)
 (hbody:∀ (cdv:Value) (A:Around) (outer:List Env) (s:Shared) (H:Hp) (vs:List V) (Q:VK) (E:XK),oZ k (A.deeper (envOfC qual (ai st) s.heap.objs.size f cdv))→sp vs H Q E →
  ∃ t,oS (uT (Rb P w) P w K mg base N qual (ai st) f cdv A outer s H E) (aC st) t∧t { nx:=fun _ H'=>Q .iu H',rt:=Q } (start N vs) H):cW P w K mg base (Rb P w) (k + 1) f fd ps sp:=by
 obtain⟨oc,od,kV,doc,pm,an,cdv,ct,osl,rfl,lk,hcd⟩:=F.ex
 exact afw lk hcd S len fun A outer s H vs Q E hr hsp=>hbody cdv A outer s H vs Q E hr hsp
end
theorem afQ{P:Program}{w:World}{X:Cx}:vN (Rb P w) X E0:=fun _ _ _ _ _ _ _ h=>by
 obtain⟨_,_,_,_,_,_,_,_,_,_,_,_,_,_,q⟩:=h
 exact q.elim
end L2
namespace L2
open PySem PySem.Spec PyProof.Rows
abbrev afR:List Value:=[.type "ValueError",.type "Exception",.type "BaseException",.type "object"]
structure alc(K:ah)(C:Addr):Prop where
 ex:PySem.W.excIn K C afR "ValueError.__new__" = true
 ga:au K (.ref C) "__getattribute__" = some (some (.builtin "BaseException.__getattribute__"))
 gb:au K (.ref C) "__getattr__" = some none
 hd:cV K C=true
 ca:au K (.ref C) "__class__" = some (some (.builtin "object.__class__"))
 cg:qk K (.builtin "object.__class__") "__get__" = some (some (.builtin "getset_descriptor.__get__"))
 ct:PySem.W.takesIn K (.builtin "object.__class__")=some true
 mo:vH K C (.type "object")=some true
 mb:vH K C (.type "BaseException")=some true
theorem aif{K:ah}{h:Heap}{C:Addr}{bmB:List Value}{nw:String}(X:K.In h)(q:PySem.W.excIn K C bmB nw=true) :
 ∃ bm N nm qn bs hc sn su ab col dd k0 k1 k2 k3 k5 mN,h.get? C=some (excClassObj nm qn C N bs bm hc sn su ab col dd k0 k1 k2 k3 k5 nw)∧h.Ns N mN∧mN "__init__" = none∧OwnTail h bmB bm∧bm.contains (.type "BaseException")=bmB.contains (.type "BaseException"):=by
 unfold PySem.W.excIn at q
 split at q
 ·rename_i dd cd sl ho
  obtain⟨nm,bs,mro,ns,qn,hc,sn,su,ab,col,del⟩:=cd
  obtain⟨sl⟩:=sl
  split at q
  ·rename_i D bm k0 k1 k2 k3 n k5 hm hs
   simp only[fm,beq_iff_eq,Bool.not_eq_true'] at q
   obtain⟨⟨⟨⟨⟨e1,e2⟩,e3⟩,e4⟩,e5⟩,e6⟩:=q
   dsimp only at hm hs e3 e5 e6
   subst e1 e2 hm hs e3
   have T:=PySem.W.tail_of_in X e4
   exact⟨bm,ns,nm,qn,bs,hc,sn,su,ab,col,dd,k0,k1,k2,k3,k5,h.nsMap ns,X _ _ ho,.of_isNs (PySem.W.isNs_of_in X e5),PySem.W.nsMap_none_of_in X e5 e6,T,T.hasType rfl⟩
  ·cases q
 ·cases q
section
variable{P:Program}{w:World}{K:ah}{mg:Str→Option Value}{base:Heap}{N:List Str}{qual:Str}{scope:Scope}{f:Addr}{cd:Value}{A:Around}{outer:List Env}{s0:Shared}{H0:Hp}{E:XK}
theorem raised{pins:List (Addr × Obj)}{σ:St}{H:Hp}{s:Shared}{h':Heap}{e C:Addr}{vs:List Value}(I:Inv (uT (Rb P w) P w K mg base N qual scope f cd A outer s0 H0 E) pins σ H s)(hm:Heap.MadeExcOf s.heap h' e (.ref C) vs)
 (q:E (.ref C) none H):(uT (Rb P w) P w K mg base N qual scope f cd A outer s0 H0 E).xe (.ref e) { s with heap:=h' }:=by
 have hHe:H e=none:=by
  cases z:H e with
  | none=>rfl
  | some o =>
   obtain⟨ob,eo⟩:=(I.hok e o z).there
   rw[hm.new] at eo; cases eo
 have r1:=I.aie rfl hHe hm.new
 have I1:Inv (uT (Rb P w) P w K mg base N qual scope f cd A outer s0 H0 E) pins σ H { s with heap:=h' }:=I.kept (t':=s.toks) hm.keeps
 obtain⟨t,he,_,_⟩:=hm.there
 show wpAny _ _ (leaving _ (.ref e)) _ _ _
 unfold leaving
 refine wpAny_bind (abG (base:=base) I1.ok.frames I1.stack rfl he rfl rfl rfl fun h1 f1 t1=>?_)
 refine OQ f1 fun h2 f2 t2 sz=>?_
 have rn:=I1.Zp rfl
 have hR:∀ b∈[e,h'.objs.size],Rec (uT (Rb P w) P w K mg base N qual scope f cd A outer s0 H0 E) pins H b:=by
  intro b hb
  simp only[cF,List.not_mem_nil,or_false] at hb
  rcases hb with z | z
  ·rw[z]; exact r1
  ·rw[z]; exact rn
 have t12:Wf (frs (uT (Rb P w) P w K mg base N qual scope f cd A outer s0 H0 E).stack) [e,h'.objs.size] h' h2:=(t1.mono (by simp)).trans ((t2 _).mono (by simp))
 have J:=I1.trn (t':=s.toks) hR t12
 exact⟨e,_,.ref C,H,rfl,I.os,I.bare,afP I1 rfl hR t12,J.hok,f2,r1.2.2.2.1,rn.2.2.2.1,r1.1,rn.1,q⟩
theorem Zq{x:Str}{C:Addr}{a:Expr}{np cpos pos:Pos}{te:TE}(hg:Gl (uT (Rb P w) P w K mg base N qual scope f cd A outer s0 H0 E) x)(hm:mg x=some (.ref C))(hx:alc K C)(hh:A.handled=none)
 (ha:PE (uT (Rb P w) P w K mg base N qual scope f cd A outer s0 H0 E) a te) (hdb:(x == ("__debug__" : Str))=false:=by decide)
 (tr:backTo cpos (starEach [a] (uT (Rb P w) P w K mg base N qual scope f cd A outer s0 H0 E).env) = [(false,eval a (uT (Rb P w) P w K mg base N qual scope f cd A outer s0 H0 E).env)]:=by rfl) :
 PS (uT (Rb P w) P w K mg base N qual scope f cd A outer s0 H0 E) (.Raise (some (.Call (.Name x np) [a] [] cpos)) none pos) (fun _ σ H=>te σ H fun _ H1=>E (.ref C) none H1):=by
 intro pins s σ H D I h
 obtain⟨bm,Nn,nm,qn,bs,hc,sn,su,ab,col,dd,k0,k1,k2,k3,k5,mN,hC,hN,hni,T,hb⟩:=aif I.ok.mod.kin hx.ex
 refine wpAny_Raise_call_subT (C:=C) (nm:=nm) (q:=qn) (N:=Nn) (bs:=bs) (bm:=bm) (hdct:=hc) (sn:=sn) (sub:=su) (ab:=ab) (col:=col) (dd:=dd) (k0:=k0) (k1:=k1) (k2:=k2) (k3:=k3) (k5:=k5) PySem.F.excBase_ValueError (by rw[hb]; decide) hh (by rw[tr]; rfl) hni (KL I hg hm ⟨rfl,?_⟩ hdb)
 rw[tr]
 refine Calls.evalArgs_plain (Calls.spliced_cons (jf (ha pins s σ H _ I h) fun v s1 ⟨y,H1,I1,ry,q1⟩=>Calls.spliced_nil ?_))
 exact⟨rfl,by show 1≤sizeLine; decide,I1.bk _ _ hC,hN.keeps I1.bk,T.keeps I1.bk,fun h' e hmd=>raised I1 hmd q1⟩
end
end L2
namespace L2
open PySem PySem.Spec PyProof.Rows
end L2
namespace L2
open PySem PySem.Spec PyProof.Rows
end L2
namespace L2
open PySem PySem.Spec PyProof.Rows
end L2
namespace RM
structure Row where
 hd:Int
 co:Int
 ho:Int
 by_:Int
deriving DecidableEq
theorem Row.ext'{r s:Row}(h1:r.hd=s.hd)(h2:r.co=s.co)(h3:r.ho=s.ho)(h4:r.by_=s.by_):r=s:=by
 cases r; cases s; simp_all
noncomputable def lt(r s:Row):Prop:=r.hd < s.hd∨(r.hd=s.hd∧(r.co < s.co∨(r.co=s.co∧(r.ho < s.ho∨(r.ho=s.ho∧r.by_ < s.by_)))))
instance (r s:Row):Decidable (lt r s):=by unfold lt; infer_instance
noncomputable def le(r s:Row):Prop:=¬ lt s r
instance (r s:Row):Decidable (le r s):=by unfold le; infer_instance
theorem le_refl(r:Row):le r r:=by unfold le lt; omega
theorem ald{a b c:Int}{N1 N2 N3:Prop}(h:¬ N1→¬ N2→¬ N3)(h1:¬ (b < a∨(b=a∧N1)))(h2:¬ (c < b∨(c=b∧N2))):¬ (c < a∨(c=a∧N3)):=by
 have n1:a≤b:=Int.not_lt.mp fun y=>h1 (.inl y)
 have n2:b≤c:=Int.not_lt.mp fun y=>h2 (.inl y)
 intro z
 rcases z with z | ⟨z,n⟩
 ·exact Int.not_lt.mpr (Int.le_trans n1 n2) z
 ·subst z
  have e:=Int.le_antisymm n1 n2
  subst e
  exact h (fun y=>h1 (.inr ⟨rfl,y⟩)) (fun y=>h2 (.inr ⟨rfl,y⟩)) n
theorem le_trans{r s t:Row}(h1:le r s)(h2:le s t):le r t :=
 ald (ald (ald fun a b=>Int.not_lt.mpr (Int.le_trans (Int.not_lt.mp a) (Int.not_lt.mp b)))) h1 h2
theorem ajV{r s:Row}(h:lt r s):le r s:=by unfold le lt at *; omega
structure Net where
 n:Nat
 nm:Nat→Int
 a:Nat→Nat
 b:Nat→Nat
 c:Nat→Int
 live:List Nat
 inj:∀ i j,i < n→j < n→nm i=nm j→i=j
 ab:∀ k∈live,a k < n∧b k < n∧a k≠b k
 c1:∀ k∈live,1≤c k
section
variable(N:Net)
noncomputable def Rc(k h g:Nat):Prop:=k∈N.live∧((N.a k=h∧N.b k=g)∨(N.b k=h∧N.a k=g))
noncomputable def own(h:Nat):Row:=⟨N.nm h,0,0,-1⟩
noncomputable def over(k:Nat)(r:Row):Row:=⟨r.hd,r.co + N.c k,r.ho + 1,k⟩
end
variable{N:Net}
theorem Rc.symm{k h g:Nat}(e:Rc N k h g):Rc N k g h:=⟨e.1,e.2.elim (fun z=>.inr ⟨z.2,z.1⟩) fun z=>.inl ⟨z.2,z.1⟩⟩
theorem Rc.lt{k h g:Nat}(e:Rc N k h g):h < N.n∧g < N.n∧h≠g:=by
 obtain⟨hk,e⟩:=e
 obtain⟨h1,h2,h3⟩:=N.ab k hk
 rcases e with ⟨rfl,rfl⟩ | ⟨rfl,rfl⟩
 ·exact⟨h1,h2,h3⟩
 ·exact⟨h2,h1,bW h3⟩
theorem Rc.cost{k h g:Nat}(e:Rc N k h g):1≤N.c k:=N.c1 k e.1
structure afS(cut:Int)(R:Nat→Row)(h:Nat)(d:Row):Prop where
 one:d=own N h∨∃ k g,Rc N k h g∧(R g).ho + 1 < cut∧d=over N k (R g)
 own:le d (RM.own N h)
 all:∀ k g,Rc N k h g→(R g).ho + 1 < cut→le d (over N k (R g))
noncomputable def Sane(N:Net)(R:Nat→Row):Prop:=∀ h,h < N.n→0≤(R h).ho∧(R h).ho < N.n
noncomputable def upd(R:Nat→Row)(h:Nat)(d:Row):Nat→Row:=fun x=>if x=h then d else R x
structure qw(N:Net)(R:Nat→Row)(k h g:Nat):Prop where
 Eh:Rc N k h g
 cut:(R g).ho + 1 < N.n
 eq:R h=over N k (R g)
theorem Rc.far{k h g g':Nat}(a:Rc N k h g)(a':Rc N k h g'):g=g':=by
 obtain⟨hk,e⟩:=a
 obtain⟨_,e'⟩:=a'
 have:=(N.ab k hk).2.2
 omega
section
variable{R:Nat→Row}{k h g:Nat}
theorem qw.ho(t:qw N R k h g):(R h).ho=(R g).ho + 1:=by rw[t.eq]; rfl
theorem qw.by(t:qw N R k h g):(R h).by_=k:=by rw[t.eq]; rfl
theorem qw.uniq{k' g':Nat}(t:qw N R k h g)(u:qw N R k' h g'):k=k'∧g=g':=by
 have h1:=t.by
 have h2:=u.by
 have e:k=k':=by omega
 subst e
 exact⟨rfl,t.Eh.far u.Eh⟩
theorem qw.one{h' g':Nat}(t:qw N R k h g)(u:qw N R k h' g'):h=h'∧g=g':=by
 obtain⟨hk,e⟩:=t.Eh
 obtain⟨_,e'⟩:=u.Eh
 have h1:=t.ho
 have h2:=u.ho
 have e3:h=h'∨(h=g'∧g=h'):=by
  rcases e with ⟨rfl,rfl⟩ | ⟨rfl,rfl⟩ <;> rcases e' with ⟨rfl,rfl⟩ | ⟨rfl,rfl⟩ <;> simp
 rcases e3 with e3 | ⟨e3,e4⟩
 ·subst e3
  exact⟨rfl,t.Eh.far u.Eh⟩
 ·subst e3 e4
  omega
end
end RM
namespace RM
variable{N:Net}
end RM
namespace L2
open PySem PySem.Spec PyProof.Rows
inductive Zr:List Value→List Value→Bool→Prop
 | nil:Zr [] [] false
 | ne {a c:Int} {t u:Tok} {vs ws:List Value} (h:a≠c):Zr (.int a t :: vs) (.int c u :: ws) (decide (a < c))
 | eq {a:Int} {t u:Tok} {vs ws:List Value} {r:Bool} (h:Zr vs ws r):Zr (.int a t :: vs) (.int a u :: ws) r
section
open PySem.SeqAt
open PySem.AutoSeq1 (wpAny_loadPart')
open PySem.MeetsSeq PySem.MeetsSeq2 PySem.MeetsSeq3
theorem abH(l b:Addr)(items items2:Array Value)(n n2:Nat)(dd dd2:Option Addr)(sl sl2:Array (Option Value))(r:Bool)(hi:Zr items.toList items2.toList r)(hsz:items.size=items2.size) :
 Meets (Builtin.«tuple.__lt__» ⟨[.ref l,.ref b],[]⟩)
  (fun _ R s=>s.heap.get? l=some { cls:=.type "tuple",dict:=dd,data:=.seq items n,slots:=sl }∧s.heap.get? b=some { cls:=.type "tuple",dict:=dd2,data:=.seq items2 n2,slots:=sl2 } ∧
   R (.ok (.ret (.bool r))) s) :=
 .of_wp fun prog w A R s h=>by
  obtain⟨hp,g,d,tk,os⟩:=s; obtain⟨hl,hb,h⟩:=h
  have f2:=AutoSeq1.sub_tuple_tuple
  wp_walk using wpAny_loadPart' hl,wpAny_loadPart' hb,wpAny_forIn_list _ (fun rest b s'=>b.1=none∧s' = ⟨hp,g,d,tk,os⟩∧∃ (vs ws:List Value),rest=vs.zip ws∧Zr vs ws r) _
  case turn =>
   rintro⟨y,x⟩ rest b s' ⟨hb',rfl,vs,ws,hz,hx⟩
   cases hx with
   | nil=>rw[List.zip_nil_left] at hz; cases hz
   | @ne a c t u vs ws hne =>
    rw[List.zip_cons_cons] at hz
    injection hz with hyx hrest
    injection hyx with hy hx
    subst hy hx
    obtain⟨e,he,hiff⟩:=HT.Zg A.in1 ⟨hp,g,d,tk,os⟩ a t c u
    refine wpAny_bind (he prog w _ _ ?_)
    cases e with
    | true=>exact absurd (hiff.mp rfl) hne
    | false =>
     have hri:=HT.afx A.in1 ⟨hp,g,d,tk,os⟩ a t c u prog w
     wp_walk using hri
     exact⟨_,rfl,by simpa using h⟩
   | @eq a t u vs ws r' hx' =>
    rw[List.zip_cons_cons] at hz
    injection hz with hyx hrest
    injection hyx with hy hx
    subst hy hx
    obtain⟨e,he,hiff⟩:=HT.Zg A.in1 ⟨hp,g,d,tk,os⟩ a t a u
    refine wpAny_bind (he prog w _ _ ?_)
    cases e with
    | true =>
     wp_walk
     exact⟨rfl,rfl,_,_,hrest,hx'⟩
    | false=>exact absurd (hiff.mpr rfl) aN
  case fin =>
   rintro⟨b1,b2⟩ s' ⟨hb',rfl,vs,ws,hz,hx⟩
   simp only at hb'
   subst hb'
   cases hx with
   | nil =>
    have hv:decide (items.size < items2.size)=false:=decide_eq_false (by omega)
    rw[← hv] at h
    wp_walk
    exact⟨_,rfl,by simpa [Builtin.Tuple.tupleCompareSizes] using h⟩
   | ne=>rw[List.zip_cons_cons] at hz; cases hz
   | eq=>rw[List.zip_cons_cons] at hz; cases hz
  case h =>
   exact⟨rfl,rfl,items.toList,items2.toList,rfl,hi⟩
end
theorem aih{prog:Program}{w:World}{A:Around}{E:Value→Shared→Prop}{s:Shared}{l b:Addr}{items items2:Array Value}{r:Bool}{Q:Value→Shared→Prop}(hl:IsTup s.heap l items)(hb:IsTup s.heap b items2)(hi:Zr items.toList items2.toList r)(hsz:items.size=items2.size)
 (hu:A.units < cLine) (h:Q (.bool r) s):wpAny (model prog w) A (compareOp .Lt (.ref l) (.ref b)) Q E s:=by
 obtain⟨⟨cls,dd,data,sl⟩,ho,hc,n,hd⟩:=id hl
 obtain⟨⟨avx,dd2,data2,sl2⟩,ho2,hc2,n2,hd2⟩:=id hb
 simp only at hc hd hc2 hd2
 subst hc hd hc2 hd2
 exact richCompare_meets_room (op:=.Lt) ⟨_,ho,rfl⟩ ⟨_,ho2,rfl⟩ PySem.F.slot_tuple_lt PySem.F.entry_tuple_lt (PySem.F.args_tuple_lt_2 _ _) (abH l b items items2 n n2 dd dd2 sl sl2 r hi hsz)
  ⟨ho,ho2,show Value.bool r≠Value.notImplemented∧Q (.bool r) s from ⟨(fun x=>nomatch x),h⟩⟩ hu
inductive Rz:List V→List V→Bool→Prop
 | nil:Rz [] [] false
 | ne {a c:Int} {vs ws:List V} (h:a≠c):Rz (.int a :: vs) (.int c :: ws) (decide (a < c))
 | eq {a:Int} {vs ws:List V} {r:Bool} (h:Rz vs ws r):Rz (.int a :: vs) (.int a :: ws) r
theorem Rz.vals{vs ws:List V}{r:Bool}(h:Rz vs ws r):∀ {us us':List Value},cP vs us→cP ws us'→Zr us us' r:=by
 induction h with
 | nil=>intro us us' r1 r2; cases r1; cases r2; exact .nil
 | ne h =>
  intro us us' r1 r2
  cases r1 with
  | cons q1 _ =>
   cases r2 with
   | cons q2 _ =>
    obtain⟨t,rfl⟩:=q1
    obtain⟨u,rfl⟩:=q2
    exact .ne h
 | eq _ ih =>
  intro us us' r1 r2
  cases r1 with
  | cons q1 t1 =>
   cases r2 with
   | cons q2 t2 =>
    obtain⟨t,rfl⟩:=q1
    obtain⟨u,rfl⟩:=q2
    exact .eq (ih t1 t2)
section
variable{X:Cx}
noncomputable def arf(K:ah):R2:=fun x y H Q=>∃ a b xs ys r,x = .ref a∧y = .ref b∧dP K H a xs∧dP K H b ys∧xs.length=ys.length∧Rz xs ys r∧Q (.bl r) H
theorem ale(hu:X.A.units < cLine):D8 X (compareOp .Lt) (arf X.K):=by
 intro pins s σ H x y v u Q I rx ry h
 obtain⟨a,b,xs,ys,r,rfl,rfl,ha,hb,hl,hx,q⟩:=h
 cases rx
 cases ry
 obtain⟨its,r1,p1,_⟩:=I.tuple ha
 obtain⟨its2,r2,p2,_⟩:=I.tuple hb
 exact aih p1 p2 (hx.vals r1 r2) (by rw[aZ,aZ,← r1.length,← r2.length]; exact hl) hu ⟨.bl r,H,I,rfl,q⟩
end
end L2
namespace RM
open PySem L2
noncomputable def rF(b:Int):V:=if b < 0 then .iu else .int b
noncomputable abbrev fq(r:Row):List V:=[.int r.hd,.int r.co,.int r.ho,rF r.by_]
theorem bV{b:Int}(h:b < 0):rF b = .iu:=if_pos h
theorem bR{b:Int}(h:0≤b):rF b = .int b:=if_neg (by omega)
end RM
namespace L2
open PySem PySem.Spec PyProof.Rows
end L2
namespace L2
open PySem PySem.Spec PyProof.Rows RM
end L2
namespace L2
open PySem PySem.Spec PyProof.Rows
section
variable{X:Cx}
noncomputable def arh(K:ah):R2:=fun x y H Q=>∃ da db,Rep K H da x∧Rep K H db y∧da.canLay0=true∧db.canLay0=true∧da.depth≤64∧Q (.bl (PyData.eqv da db)) H
theorem aii(K:ah)(hK:X.K=K)(hu:X.A.units + 64 < cLine):D8 X (compareOp .Eq) (arh K):=by
 subst hK
 intro pins s σ H x y v u Q I rx ry ⟨da,db,ha,hb,ca,cb,hd,q⟩
 exact Mz pins s σ H x y v u Q I rx ry ⟨da,db,ha,hb,ca,cb,cQ (dO (aX (jK _ _) hd) _) hu,q⟩
end
end L2
namespace RM
open PySem L2
noncomputable def byD(b:Int):PyData:=if b < 0 then .none else .int b
noncomputable def MB(r:Row):PyData:=.tuple [.int r.hd,.int r.co,.int r.ho,byD r.by_]
theorem aij{K:ah}{H:Hp}(b:Int):Rep K H (byD b) (rF b):=by
 unfold byD rF
 by_cases h:b < 0
 ·rw[if_pos h,if_pos h]; rfl
 ·rw[if_neg h,if_neg h]; rfl
theorem Ei{K:ah}{H:Hp}{p:Addr}{r:Row}(h:dP K H p (fq r)):Rep K H (MB r) (.ref p) :=
 ⟨p,_,rfl,h,_,_,rfl,rfl,_,_,rfl,rfl,_,_,rfl,rfl,_,_,rfl,aij _,rfl⟩
theorem Ej(r:Row):(MB r).canLay0=true:=by
 show (true && (true && (true && ((byD r.by_).canLay0 && true))))=true
 unfold byD
 split <;> rfl
theorem Wh(r:Row):(MB r).depth=1:=by
 show max 0 (max 0 (max 0 (max (byD r.by_).depth 0))) + 1=1
 unfold byD
 split <;> rfl
theorem Zs{r s:Row}(hr : -1≤r.by_)(hs : -1≤s.by_):PyData.eqv (MB r) (MB s)=decide (r=s):=by
 have e:PyData.eqv (MB r) (MB s)=((r.hd == s.hd) && ((r.co == s.co) && ((r.ho == s.ho) && (PyData.eqv (byD r.by_) (byD s.by_) && true)))):=rfl
 rw[e]
 have eb:PyData.eqv (byD r.by_) (byD s.by_)=decide (r.by_=s.by_):=by
  unfold byD
  by_cases h1:r.by_ < 0 <;> by_cases h2:s.by_ < 0
  ·rw[if_pos h1,if_pos h2]
   exact (decide_eq_true (by omega)).symm
  ·rw[if_pos h1,if_neg h2]
   exact (decide_eq_false (by omega)).symm
  ·rw[if_neg h1,if_pos h2]
   exact (decide_eq_false (by omega)).symm
  ·rw[if_neg h1,if_neg h2]
   show (r.by_ == s.by_)=_
   by_cases h3:r.by_=s.by_
   ·rw[decide_eq_true h3,h3]; exact beq_self_eq_true _
   ·rw[decide_eq_false h3]; exact beq_eq_false_iff_ne.mpr h3
 rw[eb]
 by_cases h:r=s
 ·subst h
  simp
 ·rw[decide_eq_false h]
  have:¬ (r.hd=s.hd∧r.co=s.co∧r.ho=s.ho∧r.by_=s.by_):=fun z=>h (Row.ext' z.1 z.2.1 z.2.2.1 z.2.2.2)
  simp only[Bool.and_true]
  by_cases h1:r.hd=s.hd
  ·by_cases h2:r.co=s.co
   ·by_cases h3:r.ho=s.ho
    ·have h4:¬ r.by_=s.by_:=fun z=>this ⟨h1,h2,h3,z⟩
     simp[h4]
    ·simp[h3]
   ·simp[h2]
  ·simp[h1]
end RM
namespace L2
open PySem PySem.Spec PyProof.Rows
end L2
namespace L2
open PySem PySem.Spec PyProof.Rows
end L2
namespace RM
open PySem L2
theorem aik{r s:Row}(h:r.hd=s.hd→r.co=s.co→r.ho=s.ho→¬ lt r s):Rz [.int r.hd,.int r.co,.int r.ho] [.int s.hd,.int s.co,.int s.ho] (decide (lt r s)):=by
 obtain⟨r1,r2,r3,r4⟩:=r
 obtain⟨s1,s2,s3,s4⟩:=s
 dsimp only at h
 have fin:∀ {b b':Bool} {vs ws},Rz vs ws b→b=b'→Rz vs ws b':=fun h e=>e ▸ h
 by_cases h1:r1=s1
 ·subst h1
  by_cases h2:r2=s2
  ·subst h2
   by_cases h3:r3=s3
   ·subst h3
    exact fin (.eq (.eq (.eq .nil))) (decide_eq_false (h rfl rfl rfl)).symm
   ·exact fin (.eq (.eq (.ne h3))) (by unfold lt; simp[h3])
  ·exact fin (.eq (.ne h2)) (by unfold lt; simp[h2])
 ·exact fin (.ne h1) (by unfold lt; simp[h1])
end RM
namespace L2
open PySem PySem.Spec PyProof.Rows
end L2
namespace L2
open PySem PySem.Spec PyProof.Rows
end L2
namespace L2
open PySem PySem.Spec PyProof.Rows
end L2
set_option maxHeartbeats 4000000
namespace TW
open PySem L2 PyProof.Rows
open RM (fq rF bV bR)
seal L2.PE L2.PA L2.PT L2.PW L2.PS L2.oS L2.PG L2.uS L2.PI L2.uV
structure afT(n:Int)(a b c d e:Int):Prop where
 a0:0≤a
 a1:a < n
 b0:0≤b
 b1:b < n
 ab:a≠b
 c1:1≤c
 d1:1≤d
 d4:d≤4
 e1:1≤e
 e7:e≤7
noncomputable abbrev an3(a b c d e:Int):List V:=[.int a,.int b,.int c,.int d,.int e]
structure R5 where
 a:Int
 b:Int
 c:Int
 d:Int
 e:Int
noncomputable abbrev R5.vs(r:R5):List V:=an3 r.a r.b r.c r.d r.e
noncomputable abbrev R5.ns(r:R5):List Int:=[r.a,r.b,r.c,r.d,r.e]
noncomputable def R5.D(r:R5):PyData:=.tuple (r.ns.map .int)
noncomputable abbrev R5.Ok(n:Int)(r:R5):Prop:=afT n r.a r.b r.c r.d r.e
noncomputable def RA(K:ah)(H:Hp)(l:Addr)(rs:List R5):Prop:=Rep K H (.list (rs.map R5.D)) (.ref l)
section
variable{K:ah}{H H':Hp}{l:Addr}{rs:List R5}
theorem RA.mono(s:aL H H')(h:RA K H l rs):RA K H' l rs:=Rep.mono s h
theorem RA.at(h:RA K H l rs):∃ vs,ck K H l vs∧vs.length=rs.length∧∀ (i:Nat) r,rs[i]?=some r→∃ p,vs[i]?=some (.ref p)∧dP K H p r.vs:=by
 obtain⟨a,vs,e,q,r⟩:=h
 cases e
 refine⟨vs,q,by rw[r.length,af],fun i x hx=>?_⟩
 obtain⟨v,h1,h2⟩:=r.get (i:=i) (d:=x.D) (by rw[aq,hx]; rfl)
 obtain⟨p,e,h3⟩:=Rep.Ef (ns:=x.ns) h2
 subst e
 exact⟨p,h1,h3⟩
end
theorem RB:∀ (ns:List Int),ns.Nodup→(firstMet (fun i=>ns.getD i 0) ns.length).length=ns.length:=by
 intro ns hn
 have e:(aB ns.length).map (fun i=>ns.getD i 0)=ns:=by
  apply List.ext_getElem
  ·simp
  ·intro i h1 h2
   simp at h1
   simp[aD,h1]
 have key:∀ (xs acc:List Int),(acc++xs).Nodup→xs.foldl step_dedup acc=acc++xs:=by
  intro xs
  induction xs with
  | nil=>intro acc _; simp
  | cons x xs ih =>
   intro acc h
   have hx:x ∉ acc:=fun hm=>by
    rw[List.nodup_append] at h
    exact h.2.2 x hm x (by simp) rfl
   have e1:step_dedup acc x=acc++[x]:=by
    unfold step_dedup
    simp[hx]
   rw[oW,e1,ih _ (by simpa using h)]
   simp
 unfold firstMet
 rw[e,key ns [] (by simpa using hn)]
 simp
theorem eG{f:Str}{v:V}:∀ {fs:List (Str × V)} {names:List Str},fs.map (·.1)=names→names.contains f=false→DX f v fs=fs++[(f,v)]
 | [],_,_,_=>rfl
 | (g,u) :: r,_,e,h=>by
  subst e
  rw[cG,List.contains_cons,Bool.or_eq_false_iff] at h
  have hn:¬ g=f:=fun z=>by
   have:=h.1
   rw[z] at this
   simp at this
  show (if g=f then (g,v) :: r else (g,u) :: DX f v r)=_
  rw[if_neg hn,eG rfl h.2]
  rfl
theorem Hj{K:ah}{H H':Hp}{p C dx:Addr}{fs:List (Str × V)}{a:Addr}{xs:List V}(k:∀ b o,H b=some o→b≠p→H' b=some o)(hp:H p=some (.ins C dx fs))(h:ck K H a xs):ck K H' a xs:=by
 rcases h with (h | ⟨o,h⟩) | h
 ·exact .inl (.inl (k _ _ h (C8 h hp (by intro z; cases z))))
 ·exact .inl (.inr ⟨o,k _ _ h (C8 h hp (by intro z; cases z))⟩)
 ·exact .inr h
theorem ail{K:ah}{H H':Hp}{p C dx:Addr}{fs:List (Str × V)}{a:Addr}{xs:List V}(k:∀ b o,H b=some o→b≠p→H' b=some o)(hp:H p=some (.ins C dx fs))(h:dP K H a xs):dP K H' a xs:=by
 rcases h with (h | ⟨o,h⟩) | h
 ·exact .inl (.inl (k _ _ h (C8 h hp (by intro z; cases z))))
 ·exact .inl (.inr ⟨o,k _ _ h (C8 h hp (by intro z; cases z))⟩)
 ·exact .inr h
mutual
theorem aim{K:ah}{H H':Hp}{p C dx:Addr}{fs:List (Str × V)}(k:∀ b o,H b=some o→b≠p→H' b=some o)(hp:H p=some (.ins C dx fs)):∀ {d:PyData} {v:V},Rep K H d v→Rep K H' d v
 | .none,_,h=>h
 | .bool _,_,h=>h
 | .int _,_,h=>h
 | .str _,_,h=>h
 | .list ds,_,⟨a,vs,e,q,r⟩=>⟨a,vs,e,Hj k hp q,lQ k hp r⟩
 | .tuple ds,_,⟨a,vs,e,q,r⟩=>⟨a,vs,e,ail k hp q,lQ k hp r⟩
 | .dict _,_,h=>h
theorem lQ{K:ah}{H H':Hp}{p C dx:Addr}{fs:List (Str × V)}(k:∀ b o,H b=some o→b≠p→H' b=some o)(hp:H p=some (.ins C dx fs)):∀ {ds:List PyData} {vs:List V},dj K H ds vs→dj K H' ds vs
 | [],_,h=>h
 | _ :: _,_,⟨v,r,e,q,t⟩=>⟨v,r,e,aim k hp q,lQ k hp t⟩
end
noncomputable abbrev ari(ln lr:Addr)(n m:Nat):List (Str × V):=[("house_names",.ref ln),("rope_tuples",.ref lr),("size",.int n),("many",.int m)]
structure dR(K:ah)(C:Addr)(H:Hp)(p ln lr:Addr)(ns:List Int)(rs:List R5):Prop where
 ob:∃ dx,H p=some (.ins C dx (ari ln lr ns.length rs.length))
 nl:H ln=some (.lst (ns.map V.int))
 rl:∃ vs,H lr=some (.lst vs)∧dj K H (rs.map R5.D) vs
section
variable{K:ah}{C:Addr}{H H':Hp}{p ln lr:Addr}{ns:List Int}{rs:List R5}
theorem dR.mono(s:aL H H')(h:dR K C H p ln lr ns rs):dR K C H' p ln lr ns rs:=by
 obtain⟨⟨dx,h1⟩,h2,vs,h3,h4⟩:=h
 exact⟨⟨dx,s _ _ h1⟩,s _ _ h2,vs,s _ _ h3,h4.mono s⟩
end
theorem WW(a x:Int):eqV (.int a) (.int x)=decide (x=a):=by
 show (a == x)=decide (x=a)
 by_cases e:x=a
 ·rw[decide_eq_true e,e]; exact beq_self_eq_true a
 ·rw[decide_eq_false e]; exact beq_eq_false_iff_ne.mpr (bW e)
theorem vP(x:Int)(xs:List Int):OO (.int x) (xs.map V.int)=decide (x∈xs):=by
 unfold OO
 induction xs with
 | nil=>simp
 | cons y ys ih =>
  rw[cG,List.any_cons,ih,WW]
  by_cases h1:x=y
  ·subst h1; simp
  ·by_cases h2:x∈ys
   ·simp[h1,h2]
   ·simp[h1,h2]
theorem vB(xs:List Int):(xs.map V.int).all D9=true:=by
 rw[List.all_eq_true]
 intro v hv
 obtain⟨x,_,rfl⟩:=bA.mp hv
 rfl
noncomputable def above(xs:List Int)(x:Int):Nat:=(xs.filter fun y=>decide (x≤y)).length
theorem afU{xs:List Int}{x:Int}(h:x∈xs):above xs (x + 1) < above xs x:=by
 unfold above
 induction xs with
 | nil=>cases h
 | cons y ys ih =>
  have mono:(ys.filter fun y=>decide (x + 1≤y)).length≤(ys.filter fun y=>decide (x≤y)).length:=by
   clear ih h
   induction ys with
   | nil=>simp
   | cons z zs ih2 =>
    simp only[sF]
    by_cases h1:x + 1≤z
    ·rw[if_pos (by simpa using h1),if_pos (by simp; omega)]; simp; exact ih2
    ·rw[if_neg (by simpa using h1)]
     split
     ·simp; omega
     ·exact ih2
  simp only[sF]
  by_cases hy:x=y
  ·subst hy
   rw[if_neg (by simp; omega),if_pos (by simp)]
   simp; omega
  ·have h2:x∈ys:=by
    rcases cF.mp h with e | e
    ·exact absurd e hy
    ·exact e
   have:=ih h2
   by_cases h1:x + 1≤y
   ·rw[if_pos (by simpa using h1),if_pos (by simp; omega)]; simp; exact this
   ·rw[if_neg (by simpa using h1),if_neg (by simp; omega)]; exact this
theorem ain{n x y:Int}(hn:2≤n):0≤x % n∧x % n < n∧0≤(x % n + 1 + y % (n - 1)) % n∧(x % n + 1 + y % (n - 1)) % n < n∧x % n≠(x % n + 1 + y % (n - 1)) % n:=by
 have h1:=cM x (show n≠0 by omega)
 have h2:=cR x (show 0 < n by omega)
 have h3:=cM y (show n - 1≠0 by omega)
 have h4:=cR y (show 0 < n - 1 by omega)
 have h5:=cM (x % n + 1 + y % (n - 1)) (show n≠0 by omega)
 have h6:=cR (x % n + 1 + y % (n - 1)) (show 0 < n by omega)
 refine⟨h1,h2,h5,h6,?_⟩
 generalize x % n=a at *
 generalize y % (n - 1)=b at *
 by_cases hlt:a + 1 + b < n
 ·rw[Int.emod_eq_of_lt (by omega) hlt]; omega
 ·rw[← Int.sub_emod_right,Int.emod_eq_of_lt (by omega) (by omega)]; omega
theorem MC{c:TT}{t u r:TS}{D:Ends}{σ:L2.St}{H:Hp}(J:L2.St→Hp→Prop)(hn:∀ σ H,J σ H→r D σ H)(h:(∀ σ H,J σ H→r D σ H)→afh c t u { D with nx:=r D } σ H):ad0 (afh c t u) r D σ H:=h hn
theorem abI{K:ah}{a:Addr}{xs:List V}{H1:Hp}(h:dP K H1 a xs):∀ i H,i < xs.length→aL H1 H→(Itt K a).go i H:=fun i H hi s=>⟨xs,xs[i],s.dB h,by simp[hi]⟩
theorem RC{K:ah}{a:Addr}{xs:List V}{H1:Hp}(h:dP K H1 a xs):∀ H,aL H1 H→(Itt K a).stop xs.length H:=fun H s=>⟨xs,s.dB h,aK _⟩
structure MD(n m:Nat)(r:RM.Row):Prop where
 hd:0≤r.hd
 co:0≤r.co
 ho:0≤r.ho∧r.ho < n
 by_:r.by_ = -1∨(0≤r.by_∧r.by_ < m)
noncomputable abbrev bS(ks:List Nat):List V:=ks.map fun k=>V.int (k:Nat)
theorem nL(ks:List Nat)(k:Nat):bS (ks++[k])=bS ks++[V.int (k:Nat)]:=by
 unfold bS
 rw[aO]
 rfl
theorem aio{K:ah}{H:Hp}{q a:Addr}{xs ys:List V}{o:HO}(hq:H q=some (.lst xs))(h:dP K H a ys):dP K (upd H q o) a ys:=by
 rcases h with (h | ⟨ob,h⟩) | h
 ·exact .inl (.inl (by rw[aP (C8 h hq (by intro z; cases z))]; exact h))
 ·exact .inl (.inr ⟨ob,by rw[aP (C8 h hq (by intro z; cases z))]; exact h⟩)
 ·exact .inr h
noncomputable def bh(ns:List Int)(rs:List R5)(live:List Nat)(nd:ns.Nodup)(ok:∀ r∈rs,r.Ok ns.length)(hl:∀ k∈live,k < rs.length):RM.Net where
 n:=ns.length
 nm i:=ns.getD i 0
 a k:=((rs[k]?).map fun r=>r.a.toNat).getD 0
 b k:=((rs[k]?).map fun r=>r.b.toNat).getD 0
 c k:=((rs[k]?).map fun r=>r.c).getD 0
 live:=live
 inj i j hi hj e:=by
  have e1:ns.getD i 0=ns[i]:=by simp[aD,hi]
  have e2:ns.getD j 0=ns[j]:=by simp[aD,hj]
  have e:ns[i]=ns[j]:=by rw[← e1,← e2]; exact e
  exact (yS hi nd).mp (by rw[aa hi,aa hj,e])
 ab k hk:=by
  have h:=hl k hk
  have o:=ok _ (aW h)
  simp only[aa h,Option.map_some,Option.getD_some]
  have h1:=o.a0; have h2:=o.a1; have h3:=o.b0; have h4:=o.b1; have h5:=o.ab
  exact⟨by omega,by omega,by omega⟩
 c1 k hk:=by
  have h:=hl k hk
  have o:=ok _ (aW h)
  simp only[aa h,Option.map_some,Option.getD_some]
  exact o.c1
noncomputable def Bw(K:ah)(H:Hp)(l:Addr)(n:Nat)(R:Nat→RM.Row):Prop:=∃ ps:List Addr,ck K H l (ps.map V.ref)∧ps.length=n∧∀ (i:Nat) p,ps[i]?=some p→dP K H p (fq (R i))
theorem Bw.mono{K:ah}{H H':Hp}{l:Addr}{n:Nat}{R:Nat→RM.Row}(s:aL H H')(h:Bw K H l n R):Bw K H' l n R:=by
 obtain⟨ps,h1,h2,h3⟩:=h
 exact⟨ps,s.seq h1,h2,fun i p e=>s.dB (h3 i p e)⟩
theorem pq:∀ ns:List Int,PyData.canLayAll0 (ns.map .int)=true
 | []=>rfl
 | n :: ns=>by
  show (PyData.canLay0 (.int n) && PyData.canLayAll0 (ns.map .int))=true
  rw[pq ns]; rfl
theorem vC:∀ ns:List Int,PyData.depthAll (ns.map .int)=0
 | []=>rfl
 | n :: ns=>by
  show max (PyData.depth (.int n)) (PyData.depthAll (ns.map .int))=0
  rw[vC ns]; rfl
theorem Zt(xs:List V)(i:Nat):HC xs (some (i:Int)) none=xs.drop i:=by
 unfold HC
 rw[HT.Q6]
 show (xs.drop (min i xs.length)).take (xs.length - min i xs.length)=_
 by_cases h:i≤xs.length
 ·rw[Nat.min_eq_left h,nD (by rw[jg]; exact aK _)]
 ·rw[Nat.min_eq_right (by omega),xZ (aK _),xZ (by omega)]
  simp
section
variable{ns:List Int}{rs:List R5}{live:List Nat}{nd:ns.Nodup}{ok:∀ r∈rs,r.Ok ns.length}{hl:∀ k∈live,k < rs.length}
noncomputable def Bx(n m:Nat)(R:Nat→RM.Row):Prop:=∀ i,i < n→MD n m (R i)
theorem Bx.alf{m:Nat}{R:Nat→RM.Row}(h:Bx ns.length m R):RM.Sane (bh ns rs live nd ok hl) R:=fun i hi=>(h i hi).ho
theorem aip{R:Nat→RM.Row}{h:Nat}{d:RM.Row}(hR:Bx ns.length rs.length R)(hh:h < ns.length)(h0:∀ x∈ns,0≤x)(i:RM.afS (N:=bh ns rs live nd ok hl) ns.length R h d):MD ns.length rs.length d:=by
 rcases i.one with e | ⟨k,g,a,c,e⟩
 ·rw[e]
  have en:(bh ns rs live nd ok hl).nm h=ns[h]:=by show ns.getD h 0=_; simp[aD,hh]
  refine⟨?_,Int.le_refl _,⟨Int.le_refl _,?_⟩,.inl rfl⟩
  ·show 0≤(bh ns rs live nd ok hl).nm h
   rw[en]
   exact h0 _ (aW hh)
  ·show (0:Int) < ns.length
   omega
 ·have f:=hR g a.lt.2.1
  have c1:=a.cost
  have hk:k < rs.length:=hl k a.1
  rw[e]
  refine⟨f.hd,?_,⟨?_,c⟩,.inr ⟨?_,?_⟩⟩
  ·show 0≤(R g).co + (bh ns rs live nd ok hl).c k
   have:=f.co
   omega
  ·show 0≤(R g).ho + 1
   have:=f.ho.1
   omega
  ·show (0:Int)≤(k:Nat); omega
  ·show ((k:Nat):Int) < (rs.length:Nat); omega
end
theorem MD.by1{n m:Nat}{r:RM.Row}(h:MD n m r) : -1≤r.by_:=by have:=h.by_; omega
noncomputable def isAt(rs:List R5)(h:Int)(i:Nat):Bool:=match rs[i]? with | some r=>decide (h=r.a) || decide (h=r.b) | none=>false
noncomputable def atH(rs:List R5)(h:Int)(n:Nat):List Nat:=(aB n).filter (isAt rs h)
theorem Zu(rs:List R5)(h:Int)(n:Nat):atH rs h (n + 1)=atH rs h n++(if isAt rs h n then [n] else []):=by
 unfold atH
 rw[oV,kG]
 congr 1
 by_cases h':isAt rs h n=true
 ·rw[if_pos h']; simp[h']
 ·rw[if_neg h']; simp[h']
theorem aiq(rs:List R5)(h:Int)(n:Nat):(atH rs h n).length≤n:=by
 have:=br (isAt rs h) (aB n)
 rw[bC] at this
 exact this
theorem abJ(x a b:Int):OO (V.int x) [V.int a,V.int b]=(decide (x=a) || decide (x=b)):=by
 show (eqV (.int a) (.int x) || (eqV (.int b) (.int x) || false))=_
 rw[WW,WW,Bool.or_false]
theorem lR(ks:List Nat):bS ks=(ks.map fun k:Nat=>(k:Int)).map V.int:=by
 unfold bS
 rw[gx]
 rfl
theorem Ek(x:Nat)(xs:List Nat):OO (.int (x:Nat)) (bS xs)=decide (x∈xs):=by
 rw[lR,vP]
 by_cases h:x∈xs
 ·rw[decide_eq_true h]
  exact decide_eq_true (bA.mpr ⟨x,h,rfl⟩)
 ·rw[decide_eq_false h]
  refine decide_eq_false fun z=>h ?_
  obtain⟨y,hy,e⟩:=bA.mp z
  have:y=x:=by omega
  exact this ▸ hy
theorem vD(xs:List Nat):(bS xs).all D9=true:=by rw[lR]; exact vB _
theorem afV(rs:List R5)(h:Int)(n:Nat):(atH rs h n).Pairwise (· < ·):=List.Pairwise.filter _ List.pairwise_lt_range
theorem air{ks:List Nat}(h:ks.Pairwise (· < ·)){j:Nat}(hj:j < ks.length){k:Nat}(hk:k∈ks.take j):k < ks[j]:=by
 obtain⟨i,hi,e⟩:=List.getElem_of_mem hk
 rw[b5] at hi
 rw[List.getElem_take] at e
 rw[← e]
 exact List.pairwise_iff_getElem.mp h i j (by omega) hj (by omega)
theorem Hl{rs:List R5}{h:Int}{n k:Nat}:k∈atH rs h n↔k < n∧isAt rs h k=true:=by
 unfold atH
 rw[eV,fQ]
section
variable{ns:List Int}{rs:List R5}{live:List Nat}{nd:ns.Nodup}{ok:∀ r∈rs,r.Ok ns.length}{hl:∀ k∈live,k < rs.length}
noncomputable def ie(r:R5)(h:Nat):Nat:=(if (h:Int)=r.a then r.b else r.a).toNat
theorem x9{k h g:Nat}(hk:k∈live):RM.Rc (bh ns rs live nd ok hl) k h g↔isAt rs (h:Int) k=true∧g=ie (rs[k]'(hl k hk)) h:=by
 have hlt:=hl k hk
 have o:=ok _ (aW hlt)
 have e1:rs[k]?=some rs[k]:=aa hlt
 have ea:(bh ns rs live nd ok hl).a k=rs[k].a.toNat:=by show ((rs[k]?).map fun r=>r.a.toNat).getD 0=_; rw[e1]; rfl
 have eb:(bh ns rs live nd ok hl).b k=rs[k].b.toNat:=by show ((rs[k]?).map fun r=>r.b.toNat).getD 0=_; rw[e1]; rfl
 unfold RM.Rc isAt ie
 rw[ea,eb,e1]
 dsimp only
 generalize rs[k]=r at o
 have h1:=o.a0; have h2:=o.b0; have h3:=o.ab
 constructor
 ·rintro⟨_,⟨q1,q2⟩ | ⟨q1,q2⟩⟩
  ·have z:(h:Int)=r.a:=by omega
   rw[if_pos z]
   exact⟨by simp[z],q2.symm⟩
  ·have z:(h:Int)=r.b:=by omega
   rw[if_neg (by omega)]
   exact⟨by simp[z],q2.symm⟩
 ·rintro⟨q1,q2⟩
  refine⟨hk,?_⟩
  have q1:(h:Int)=r.a∨(h:Int)=r.b:=by simpa using q1
  by_cases z:(h:Int)=r.a
  ·rw[if_pos z] at q2
   exact .inl ⟨by omega,q2.symm⟩
  ·rw[if_neg z] at q2
   exact .inr ⟨by omega,q2.symm⟩
end
theorem Zv(ns:List Int)(a b:Nat):∃ cs:List Int,HC (ns.map V.int) (some (a:Int)) (some (b:Int))=cs.map V.int∧cs.length≤b - a:=by
 refine⟨(ns.drop (HT.nH ns.length 0 (some (a:Int)))).take (HT.nH ns.length ns.length (some (b:Int)) - HT.nH ns.length 0 (some (a:Int))),?_,?_⟩
 ·unfold HC
  rw[af,List.map_take,List.map_drop]
 ·rw[HT.Q6,HT.Q6,b5,jg]
  omega
theorem K0{α:Type}{xs:List α}{x y:α}{j:Nat}(h:(xs++[x])[j]?=some y):xs[j]?=some y∨(j=xs.length∧y=x):=by
 by_cases hj:j < xs.length
 ·rw[cH hj] at h
  exact .inl h
 ·have:=(aj.mp h).1
  rw[aH] at this
  have e:j=xs.length:=by have:j < xs.length + 1:=this; omega
  subst e
  rw[cu (aK _),kD] at h
  cases h
  exact .inr ⟨rfl,rfl⟩
theorem adq{n i:Nat}(h:i < n):ixN n (i:Int)=some i:=by
 unfold ixN
 rw[if_pos (by omega),if_pos (by omega)]
 simp
section
variable{ns:List Int}{rs:List R5}{live:List Nat}{nd:ns.Nodup}{ok:∀ r∈rs,r.Ok ns.length}{hl:∀ k∈live,k < rs.length}
theorem an4{k:Nat}(h:k < rs.length):(bh ns rs live nd ok hl).c k=rs[k].c:=by
 show ((rs[k]?).map fun r=>r.c).getD 0=_
 rw[aa h]; rfl
end
end TW
namespace TW
open PySem L2 PyProof.Rows
theorem fR{a b:TS}{D:Ends}{σ:L2.St}{H:Hp}(h:∀ N:L2.St→Hp→Prop,(∀ σ' H',b D σ' H'→N σ' H')→a { D with nx:=N } σ H):ad0 a b D σ H:=h _ fun _ _ x=>x
theorem WX{K:ah}{H:Hp}{Q:VK}{p:Addr}{xs:List V}{i:Int}{v:V}(h:ck K H p xs)(e:Q7 xs i=some v)(k:Q v H):akS K (.ref p) (.int i) H Q:=⟨p,xs,i,v,rfl,rfl,h,e,k⟩
theorem ais{K:ah}{σ:L2.St}{H:Hp}{Q:VK}{p:Addr}{xs:List V}{i:Int}{v:V}(h:dP K H p xs)(e:Q7 xs i=some v)(k:Q v H):tC (.int i) σ H fun y H2=>akT K (.ref p) y H2 Q:=⟨p,xs,i,v,rfl,rfl,h,e,k⟩
theorem Rf{c:TT}{t u r:TS}{D:Ends}{σ:L2.St}{H:Hp}(J:L2.St→Hp→Prop)(hn:∀ σ H,J σ H→r D σ H)(h:∀ N:L2.St→Hp→Prop,(∀ σ H,J σ H→N σ H)→afh c t u { D with nx:=N } σ H):ad0 (afh c t u) r D σ H:=h _ hn
theorem RD{lo:Int}{n:Nat}{g:TG}{tb:TS}{D:Ends}{σ:L2.St}{H:Hp}(Pv:Nat→L2.St→Hp→Prop)(h0:Pv 0 σ H)
 (hs:∀ i σ H (N:L2.St→Hp→Prop),(∀ σ' H',Pv (i + 1) σ' H'→N σ' H')→i < n→Pv i σ H→g (.int (lo + i)) σ H fun σ2 H2=>tb { D with nx:=N,ct:=N,bk:=D.nx } σ2 H2) (hd:∀ σ H,Pv n σ H→D.nx σ H) :
 ∃ W:Nat→Nat→L2.St→Hp→Prop,(∃ m,W 0 m σ H)∧∀ i m σ H,W i m σ H →
  ((Itr lo n).stop i H∧D.nx σ H)∨((Itr lo n).go i H∧∃ N:L2.St→Hp→Prop,(∀ σ' H',N σ' H'→∃ m',m' < m∧W (i + 1) m' σ' H')∧∀ x H',(Itr lo n).WM i H x H'→g x σ H' fun σ2 H2=>tb { D with nx:=N,ct:=N,bk:=D.nx } σ2 H2) :=
 vz Pv h0 (fun i σ H hi p=>hs i σ H _ (fun _ _ x=>x) hi p) hd
theorem Ho{K:ah}{a:Addr}{xs:List V}{g:TG}{tb:TS}{D:Ends}{σ:L2.St}{H:Hp}(Pv:Nat→L2.St→Hp→Prop)(h0:Pv 0 σ H)(hl:∀ i σ H,i≤xs.length→Pv i σ H→ck K H a xs)
 (hs:∀ i x σ H (N:L2.St→Hp→Prop),(∀ σ' H',Pv (i + 1) σ' H'→N σ' H')→xs[i]?=some x→Pv i σ H→g x σ H fun σ2 H2=>tb { D with nx:=N,ct:=N,bk:=D.nx } σ2 H2) (hd:∀ σ H,Pv xs.length σ H→D.nx σ H) :
 ∃ W:Nat→Nat→L2.St→Hp→Prop,(∃ m,W 0 m σ H)∧∀ i m σ H,W i m σ H →
  ((WN K a).stop i H∧D.nx σ H)∨((WN K a).go i H∧∃ N:L2.St→Hp→Prop,(∀ σ' H',N σ' H'→∃ m',m' < m∧W (i + 1) m' σ' H')∧∀ x H',(WN K a).WM i H x H'→g x σ H' fun σ2 H2=>tb { D with nx:=N,ct:=N,bk:=D.nx } σ2 H2) :=
 r9 Pv h0 hl (fun i x σ H hi p=>hs i x σ H _ (fun _ _ x=>x) hi p) hd
end TW
set_option maxHeartbeats 4000000
namespace TW
open PySem L2 PyProof.Rows
open RM (fq rF bV bR)
seal L2.PE L2.PA L2.PT L2.PW L2.PS L2.oS L2.PG L2.uS L2.PI L2.uV
section
open Classical
noncomputable def El(N:RM.Net)(R:Nat→RM.Row)(h:Nat):Option (Nat × Nat) :=
 if e:∃ p:Nat × Nat,RM.qw N R p.1 h p.2 then some (choose e) else none
end
theorem ya{N:RM.Net}{R:Nat→RM.Row}{h k g:Nat}:El N R h=some (k,g)↔RM.qw N R k h g:=by
 unfold El
 constructor
 ·intro e
  split at e
  ·rename_i q
   have:=Classical.choose_spec q
   rw[aS e] at this
   exact this
  ·cases e
 ·intro t
  have q:∃ p:Nat × Nat,RM.qw N R p.1 h p.2:=⟨(k,g),t⟩
  rw[dif_pos q]
  have u:=Classical.choose_spec q
  obtain⟨e1,e2⟩:=u.uniq t
  exact congrArg some (Prod.ext e1 e2)
theorem Zw{N:RM.Net}{R:Nat→RM.Row}{h:Nat}(q:∀ k g,¬ RM.qw N R k h g):El N R h=none:=by
 cases e:El N R h with
 | none=>rfl
 | some p=>exact absurd (ya.mp e) (q p.1 p.2)
noncomputable def yU(K:ah)(H:Hp)(v:V):Option (Nat × Nat)→Prop
 | none=>v = .iu
 | some p=>∃ t,v = .ref t∧dP K H t [.int (p.1:Nat),.int (p.2:Nat)]
theorem yU.mono{K:ah}{H H':Hp}{v:V}{o:Option (Nat × Nat)}(s:aL H H')(h:yU K H v o):yU K H' v o:=by
 cases o with
 | none=>exact h
 | some p =>
  obtain⟨t,e,q⟩:=h
  exact⟨t,e,s.dB q⟩
theorem yU.lst{K:ah}{H:Hp}{v:V}{o:Option (Nat × Nat)}{l:Addr}{xs:List V}{ob:HO}(hl:H l=some (.lst xs))(h:yU K H v o):yU K (upd H l ob) v o:=by
 cases o with
 | none=>exact h
 | some p =>
  obtain⟨t,e,q⟩:=h
  exact⟨t,e,aio hl q⟩
noncomputable def alg(K:ah)(H:Hp)(l:Addr)(n:Nat)(u:Nat→Option (Nat × Nat)):Prop:=∃ vs:List V,H l=some (.lst vs)∧vs.length=n∧∀ (i:Nat) v,vs[i]?=some v→yU K H v (u i)
section
variable{ns:List Int}{rs:List R5}{live:List Nat}{nd:ns.Nodup}{ok:∀ r∈rs,r.Ok ns.length}{hl:∀ k∈live,k < rs.length}
theorem afW{R:Nat→RM.Row}{k h:Nat}(hk:k∈live):(∃ g,RM.qw (bh ns rs live nd ok hl) R k h g)↔isAt rs (h:Int) k=true∧(R (ie (rs[k]'(hl k hk)) h)).ho + 1 < ns.length∧R h=RM.over (bh ns rs live nd ok hl) k (R (ie (rs[k]'(hl k hk)) h)):=by
 constructor
 ·rintro⟨g,t⟩
  obtain⟨q1,q2⟩:=(x9 hk).mp t.Eh
  subst q2
  exact⟨q1,t.cut,t.eq⟩
 ·rintro⟨q1,q2,q3⟩
  exact⟨_,(x9 hk).mpr ⟨q1,rfl⟩,q2,q3⟩
theorem alh{R:Nat→RM.Row}{k h g:Nat}(t:RM.qw (bh ns rs live nd ok hl) R k h g):g=ie (rs[k]'(hl k t.Eh.1)) h:=((x9 t.Eh.1).mp t.Eh).2
theorem abK{k h:Nat}(hk:k < rs.length)(ok:∀ r∈rs,r.Ok ns.length):ie rs[k] h < ns.length:=by
 have o:=ok _ (aW hk)
 have h1:=o.a0; have h2:=o.a1; have h3:=o.b0; have h4:=o.b1
 unfold ie
 split <;> omega
theorem ads{k h:Nat}(hk:k < rs.length)(ok:∀ r∈rs,r.Ok ns.length):(if (h:Int)=rs[k].a then rs[k].b else rs[k].a)=((ie rs[k] h:Nat):Int):=by
 have o:=ok _ (aW hk)
 have h1:=o.a0; have h2:=o.b0
 unfold ie
 split <;> omega
end
theorem ark{x y z i:Int}(lo hi:Int)(hx:lo≤x∧x≤hi)(hy:lo≤y∧y≤hi)(hz:lo≤z∧z≤hi)(h0:0≤i)(h3:i < 3):∃ w,(lo≤w∧w≤hi)∧Q7 [V.int x,V.int y,V.int z] i=some (.int w):=by
 have:i=0∨i=1∨i=2:=by omega
 rcases this with rfl | rfl | rfl
 ·exact⟨x,hx,rfl⟩
 ·exact⟨y,hy,rfl⟩
 ·exact⟨z,hz,rfl⟩
theorem ait(xs:List Nat):OO .iu (bS xs)=false:=by
 unfold OO
 rw[Bool.eq_false_iff]
 intro h
 obtain⟨x,hx,e⟩:=Br.mp h
 obtain⟨y,_,rfl⟩:=bA.mp hx
 cases e
end TW
namespace L2
open PySem PySem.Spec PyProof.Rows
theorem WY{us:List Value}{ns:List Int}(h:IntsAre us ns):cP (ns.map V.int) us:=by
 induction h with
 | nil=>exact .nil
 | cons n t _ ih=>exact .cons ⟨t,rfl⟩ ih
section
variable{X:Cx}
noncomputable def aiu(K:ah):List V→Hp→VK→Prop:=fun xs H Q=>∃ (a:Addr) (ns:List Int),xs = [.ref a]∧ck K H a (ns.map V.int)∧ns.length < 64∧∀ l (ns':List Int),H l=none→ns'.Perm ns→ns'.Pairwise (·≤·)→Q (.ref l) (upd H l (.lst (ns'.map V.int)))
theorem Zx:vL X (.builtin "sorted") (aiu X.K):=by
 intro pins s σ H xs us Q I r ⟨a,ns,e,hq,h64,q⟩
 subst e
 obtain⟨u,e,ru⟩:=cP.one r
 subst e
 cases ru
 obtain⟨its,rv,p,hz⟩:=I.list hq
 have hi:IntsAre its ns:=intsAre_of rv
 have hlen:=IntsAre.length hi
 refine sorted_ints (vs:=its) p.isList hi (by omega) fun out ns' a1 a2 a3=>?_
 obtain⟨e,he⟩:=sortedAll_at s.heap its out
 refine⟨.ref (s.heap.objs.size + 1),_,I.laid (a:=s.heap.objs.size + 1) (o:=.lst (ns'.map V.int)) (t':=s.toks) (fun b o e=>sortedAll_old e) (iD _) ⟨?_,out.toList,e,WY a1,?_⟩,rfl,q _ ns' (I.hok.fresh (iD _)) a2 a3⟩
 ·rw[af,a2.length_eq]
  exact oU (cS (by omega))
 ·rw[he]
end
end L2
set_option maxHeartbeats 4000000
namespace TW
open PySem L2 PyProof.Rows
open RM (fq rF bV bR)
seal L2.PE L2.PA L2.PT L2.PW L2.PS L2.oS L2.PG L2.uS L2.PI L2.uV
theorem Wi:∀ {xs ys:List Nat},xs.Pairwise (· < ·)→ys.Pairwise (· < ·)→(∀ k,k∈xs↔k∈ys)→xs=ys
 | [],[],_,_,_=>rfl
 | [],y :: ys,_,_,h=>absurd ((h y).mpr cN) (by simp)
 | x :: xs,[],_,_,h=>absurd ((h x).mp cN) (by simp)
 | x :: xs,y :: ys,hx,hy,h=>by
  have hx1:=List.pairwise_cons.mp hx
  have hy1:=List.pairwise_cons.mp hy
  have e:x=y:=by
   rcases cF.mp ((h x).mp cN) with z | z
   ·exact z
   ·rcases cF.mp ((h y).mpr cN) with w | w
    ·exact w.symm
    ·have:=hy1.1 x z
     have:=hx1.1 y w
     omega
  subst e
  rw[Wi hx1.2 hy1.2 fun k=>?_]
  constructor
  ·intro z
   rcases cF.mp ((h k).mp (bP _ z)) with w | w
   ·have:=hx1.1 k z; omega
   ·exact w
  ·intro z
   rcases cF.mp ((h k).mpr (bP _ z)) with w | w
   ·have:=hy1.1 k z; omega
   ·exact w
theorem qw.lt{N:RM.Net}{R:Nat→RM.Row}{k h g:Nat}(t:RM.qw N R k h g):h < N.n∧g < N.n:=⟨t.Eh.lt.1,t.Eh.lt.2.1⟩
noncomputable def kI(N:RM.Net)(R:Nat→RM.Row)(os:List Nat):Prop:=os.Pairwise (· < ·)∧∀ k,k∈os↔∃ h g,RM.qw N R k h g
theorem kI.uniq{N:RM.Net}{R:Nat→RM.Row}{xs ys:List Nat}(a:kI N R xs)(b:kI N R ys):xs=ys:=Wi a.1 b.1 fun k=>(a.2 k).trans (b.2 k).symm
theorem Zy{ks:List Nat}{ms:List Int}(p:ms.Perm (ks.map fun k:Nat=>(k:Int)))(pw:ms.Pairwise (·≤·))(nd:ks.Nodup):∃ os:List Nat,ms.map V.int=bS os∧os.Pairwise (· < ·)∧(∀ k,k∈os↔k∈ks)∧os.length=ks.length:=by
 have nn:∀ m∈ms,∃ k:Nat,m=(k:Int)∧k∈ks:=fun m hm=>by
  obtain⟨k,hk,e⟩:=bA.mp (p.mem_iff.mp hm)
  exact⟨k,e.symm,hk⟩
 have e1:(ms.map Int.toNat).map (fun k:Nat=>(k:Int))=ms:=by
  rw[gx]
  conv=>rhs; rw[← List.map_id ms]
  apply eX
  intro m hm
  obtain⟨k,e,_⟩:=nn m hm
  rw[e]
  rfl
 have ndm:ms.Nodup:=by
  refine p.nodup_iff.mpr ?_
  unfold List.Nodup
  rw[List.pairwise_map]
  exact nd.imp fun h e=>h (by omega)
 refine⟨ms.map Int.toNat,?_,?_,fun k=>?_,by rw[af,p.length_eq,af]⟩
 ·rw[lR,e1]
 ·rw[List.pairwise_map]
  have both:=List.pairwise_and_iff.mpr ⟨pw,ndm⟩
  refine List.Pairwise.imp_of_mem (fun {a b} ha hb h=>?_) both
  obtain⟨x,ex,_⟩:=nn a ha
  obtain⟨y,ey,_⟩:=nn b hb
  have h1:=h.1
  have h2:=h.2
  omega
 ·constructor
  ·intro hk
   obtain⟨m,hm,e⟩:=bA.mp hk
   obtain⟨y,ey,hy⟩:=nn m hm
   rw[ey] at e
   have:y=k:=by rw[← e]; rfl
   exact this ▸ hy
  ·intro hk
   have:((k:Nat):Int)∈ms:=p.mem_iff.mpr (bA.mpr ⟨k,hk,rfl⟩)
   exact bA.mpr ⟨_,this,rfl⟩
end TW
set_option maxHeartbeats 4000000
namespace TW
open PySem L2 PyProof.Rows Gr
open RM (fq rF bV bR)
section
variable{ns:List Int}{rs:List R5}{live:List Nat}{nd:ns.Nodup}{ok:∀ r∈rs,r.Ok ns.length}{hl:∀ k∈live,k < rs.length}
theorem Zz{R:Nat→RM.Row}{os:List Nat}(O:kI (bh ns rs live nd ok hl) R os):∀ k∈os,k < rs.length:=fun k hk=>by
 obtain⟨h,g,t⟩:=(O.2 k).mp hk
 exact hl k t.Eh.1
end
end TW
namespace L2
open PySem PySem.Calls PySem.Spec PyProof.Rows PyProof.V PySem.W
end L2
namespace L2
open PySem PySem.Calls PySem.Spec PyProof.Rows PyProof.V PySem.W
end L2
set_option maxHeartbeats 4000000
namespace Gr
end Gr
namespace TW
open PySem L2 PyProof.Rows Gr
end TW
namespace L2
open PySem PySem.Calls PySem.Spec PyProof.Rows PyProof.V PySem.W
end L2
namespace TW
open PySem L2 PyProof.Rows Gr
end TW
namespace TW
open PySem L2 PyProof.Rows
noncomputable def stand(b:List Bool):List Nat:=(aB b.length).filter fun k=>b.getD k false
structure adt(C:Addr)(H:Hp)(p tp lu:Addr)(ws:List (List Nat)):Prop where
 ob:∃ dx,H p=some (.ins C dx [("town",.ref tp),("upright",.ref lu)])
 up:∃ ls:List Addr,H lu=some (.lst (ls.map V.ref))∧ls.length=ws.length∧∀ (i:Nat) l w,ls[i]?=some l→ws[i]?=some w→H l=some (.lst (bS w))
section
variable{C:Addr}{H H':Hp}{p tp lu:Addr}{ws:List (List Nat)}
theorem dR.but{K:ah}{C C' dx:Addr}{fs:List (Str × V)}{tp ln lr:Addr}{ns:List Int}{rs:List R5}(h:dR K C H tp ln lr ns rs)(k:∀ b o,H b=some o→b≠p→H' b=some o)(hp:H p=some (.ins C' dx fs))(ne:tp≠p):dR K C H' tp ln lr ns rs:=by
 obtain⟨⟨d,h1⟩,h2,vs,h3,h4⟩:=h
 exact⟨⟨d,k _ _ h1 ne⟩,k _ _ h2 (C8 h2 hp (by intro z; cases z)),vs,k _ _ h3 (C8 h3 hp (by intro z; cases z)),lQ k hp h4⟩
end
end TW
namespace L2
open PySem PySem.Spec PyProof.Rows
section
variable{X:Cx}
theorem aeo(K:ah)(hK:X.K=K){a:Expr}{ta:TE}(ha:PE X a ta)(he:∀ whole,isTrue a X.env whole=(do let v ← whole; standAt a.pos; holding [v] (truthy v))):PT X a (afN K ta):=by
 subst hK
 exact ael ha he
end
end L2
namespace TW
open PySem L2 PyProof.Rows
noncomputable def adu(e:Int)(g:Nat):Bool:=decide (e / 2 ^ g % 2=1)
theorem afX{e z:Int}{g:Nat}(h1:1≤e)(h7:e≤7)(hz:([1,2,4]:List Int)[g]?=some z):(!decide (Builtin.bitAnd e z=0))=adu e g:=by
 have hg:g=0∨g=1∨g=2:=by
  have:=(aj.mp hz).1
  simp at this
  omega
 have he:e=1∨e=2∨e=3∨e=4∨e=5∨e=6∨e=7:=by omega
 rcases hg with rfl | rfl | rfl <;> cases hz <;> rcases he with rfl | rfl | rfl | rfl | rfl | rfl | rfl <;> decide +kernel
theorem arn{g:Nat}(h:g < 3):∃ z,([1,2,4]:List Int)[g]?=some z:=⟨_,aa (by simpa using h)⟩
noncomputable def isLive(rs:List R5)(ws:List (List Nat))(g i:Nat):Bool:=match rs[i]?,ws[i]? with | some r,some w=>(!w.isEmpty) && adu r.e g | _,_=>false
noncomputable def Em(rs:List R5)(ws:List (List Nat))(g n:Nat):List Nat:=(aB n).filter (isLive rs ws g)
theorem Eo(rs:List R5)(ws:List (List Nat))(g n:Nat):Em rs ws g (n + 1)=Em rs ws g n++(if isLive rs ws g n=true then [n] else []):=by
 unfold Em
 rw[oV,kG]
 congr 1
 by_cases h:isLive rs ws g n=true
 ·rw[if_pos h,sF,if_pos h]; rfl
 ·rw[if_neg h,sF,if_neg h]; rfl
theorem abL(rs:List R5)(ws:List (List Nat))(g n:Nat):(Em rs ws g n).length≤n:=by
 have:=br (isLive rs ws g) (aB n)
 rw[bC] at this
 exact this
end TW
namespace TW
open PySem L2 PyProof.Rows
end TW
namespace L2
open PySem PySem.Spec PyProof.Rows
structure ajW(K:ah)(C:Addr)(m:Str)(f:Addr):Prop where
 hg:qk K (.ref C) "__getattribute__" = some (some (.builtin "type.__getattribute__"))
 hr:PySem.W.readsIn K C (.type "type")=true
 md:PySem.W.findCls K (.ref C) (.type "type") m=some (.val (.ref f))
 kp:ay K (.ref f)=true
section
variable{X:Cx}
theorem ME{e:Expr}{t u:TE}(h1:PE X e t)(h2:PE X e u):PE X e (fun σ H Q=>t σ H Q∨u σ H Q):=fun pins s σ H Q I h=>h.elim (h1 pins s σ H Q I) (h2 pins s σ H Q I)
end
noncomputable def an5(C:Addr)(sp:Sp)(Mq:List V)(E:XK)(ta:TE)(t:TA):TE:=fun σ H Q=>ta σ H fun x H1=>x = .ref C∧t σ H1 fun vs H2=>sp (vs++Mq) H2 Q E
section
variable{X:Cx}{CX:CXT}{k:Nat}{f C:Addr}{fd:FuncData}{ps:List Str}{sp:Sp}{Mq:List V}{ds:List Value}{E:XK}{x m:Str}{p pos apos:Pos}{e o:Expr}{es:List Expr}{ta:TE}{t:TA}
theorem abM{pl:Sem Bool}(he:PE X o ta)(c:ajW X.K C m f)
 (F:cW X.prog X.w X.K X.mg X.base CX k f fd ps sp) (hr:oZ k X.A) (hb:Binds X.K fd ps ds) (hd:cP Mq ds) (hx:vN CX X E) (ha:PA X (e :: es) t)
 (hst:starEach (e :: es) X.env=(false,eval e X.env) :: starEach es X.env:=by rfl) (hpl:(backTo pos (starEach es X.env)).any (·.1)=false:=by rfl)
 (ht:eval (.Call (.Attribute o m apos) (e :: es) [] pos) X.env=(do
  let ov ← eval o X.env
  standAt apos.atName
  let (f,first) ← holding [ov] (getMethod ov m pl)
  callWith pos f first (backTo pos (starEach (e :: es) X.env)) (backToKw pos (keywordEach [] X.env))):=by rfl) :
 PE X (.Call (.Attribute o m apos) (e :: es) [] pos) (an5 C sp Mq E ta t):=by
 intro pins s σ H Q I h
 refine PySem.W.methodCall_KW (pl:=pl) (jf (he pins s σ H _ I h) fun u s1 ⟨x,H1,I1,rx,ex,q⟩=>?_) ht
 subst ex
 obtain rfl:u=Value.ref C:=rx
 refine PySem.W.method_cls I1.IX c.hg (PySem.W.cls_value I1.IX c.hr c.md rfl ?_)
 have I2:=I1.tok (s1.toks + 1)
 refine PySem.W.callWith_K (first:=[]) (h₀:=X.base) I.ok.mod.kin c.kp (jf (ha pos pins _ σ H1 _ I2 q) fun us s2 ⟨vs,H2,I3,r,q2⟩=>⟨I3.IX,?_⟩) hst hpl
 exact WO (us:=us) (vs:=vs) F hr hb hd hx I3 r q2
end
end L2
namespace TW
open PySem L2 PyProof.Rows
theorem Wj{b:Bool}{A B:Prop}(e:b=false)(h:B):if b=true then A else B:=by subst e; exact gu h
theorem an6{b:Bool}{A B:Prop}(e:b=true)(h:A):if b=true then A else B:=by subst e; exact jF h
inductive OR(cL c1 cA:Addr)(H:Hp)(a:Addr)(s to:Int):Int→Prop
 | bare (dx:Addr) (h:H a=some (.ins cL dx [("sender",.int s)])):OR cL c1 cA H a s to 0
 | one (dx:Addr) (h:H a=some (.ins c1 dx [("sender",.int s),("to",.int to)])):OR cL c1 cA H a s to 1
 | all (dx:Addr) (h:H a=some (.ins cA dx [("sender",.int s)])):OR cL c1 cA H a s to 2
section
variable{cL c1 cA:Addr}{H H':Hp}{a lh q:Addr}{s to k:Int}{xs:List V}
theorem OR.mono(h:OR cL c1 cA H a s to k)(e:aL H H'):OR cL c1 cA H' a s to k:=by
 cases h with
 | bare dx h=>exact .bare dx (e _ _ h)
 | one dx h=>exact .one dx (e _ _ h)
 | all dx h=>exact .all dx (e _ _ h)
end
end TW
namespace L2
open PySem PySem.W PyProof.Rows
section
variable{n:Nat}{r:Nat→Int}{cmp:Nat→Nat→(Bool→Shared→Prop)→Shared→Prop}{s:Shared}
variable(hc:∀ i j C,i < n→j < n→C (decide (r i < r j)) s→cmp i j C s)
include hc
end
end L2
namespace L2
open PySem PySem.W PySem.Spec PyProof.Rows
noncomputable abbrev T3:=Int × Int × Int
end L2
namespace L2
open PySem PySem.W PySem.Spec PyProof.Rows
end L2
namespace L2
open PySem PySem.W PySem.Spec PyProof.Rows
end L2
namespace L2
end L2
namespace TW
open PySem L2 PyProof.Rows
noncomputable def oE(t:T3):List Key × V:=([.inl t.1,.inl t.2.1],.int t.2.2)
noncomputable abbrev keyOf(h c:Int):List Key:=[.inl h,.inl c]
noncomputable def jX(ts:List T3):Prop:=(ts.map fun t=>(t.1,t.2.1)).Nodup
noncomputable def Ja(ts:List T3)(h c:Int):Option Int:=(ts.find? fun t=>decide (t.1=h∧t.2.1=c)).map fun t=>t.2.2
noncomputable def put3(ts:List T3)(h c r:Int):List T3:=(ts.filter fun t=>!decide (t.1=h∧t.2.1=c))++[(h,c,r)]
theorem afY{ts:List T3}(n:jX ts){h c r:Int}:jX (put3 ts h c r):=by
 unfold jX put3
 rw[aO,List.nodup_append]
 refine⟨?_,by simp,fun x hx y hy=>?_⟩
 ·exact List.Nodup.sublist ((List.filter_sublist).map _) n
 ·obtain⟨t,ht,rfl⟩:=bA.mp hx
  have h2:=(eV.mp ht).2
  have e:y=(h,c):=by simpa using hy
  rw[e]
  intro z
  have z1:t.1=h∧t.2.1=c:=⟨(Prod.mk.inj z).1,(Prod.mk.inj z).2⟩
  simp[z1] at h2
theorem qx(t:T3)(h c:Int):(oE t).1=keyOf h c↔t.1=h∧t.2.1=c:=by
 unfold oE keyOf
 constructor
 ·intro e
  have e1:=(List.cons.inj e).1
  have e2:=(List.cons.inj (List.cons.inj e).2).1
  exact⟨Sum.inl.inj e1,Sum.inl.inj e2⟩
 ·rintro⟨rfl,rfl⟩
  rfl
theorem RE:∀ (ts:List T3) (h c:Int),KY (ts.map oE) (keyOf h c)=(Ja ts h c).map V.int
 | [],h,c=>rfl
 | t :: ts,h,c=>by
  rw[cG]
  by_cases e:t.1=h∧t.2.1=c
  ·rw[Eb ((qx t h c).mpr e)]
   unfold Ja
   rw[List.find?_cons_of_pos (by simp[e])]
   rfl
  ·rw[Ec (fun z=>e ((qx t h c).mp z)),RE ts h c]
   unfold Ja
   rw[List.find?_cons_of_neg (by rw[decide_eq_false e]; exact aN)]
noncomputable def K1(h c r:Int)(t:T3):T3:=if t.1=h∧t.2.1=c then (h,c,r) else t
theorem afZ(h c r:Int)(t:T3):((K1 h c r t).1,(K1 h c r t).2.1)=(t.1,t.2.1):=by
 unfold K1
 split
 ·rename_i e
  show (h,c)=(t.1,t.2.1)
  rw[e.1,e.2]
 ·rfl
theorem Wk{h c r:Int}:∀ {ts:List T3},jX ts→(∃ t∈ts,t.1=h∧t.2.1=c)→(ts.map (K1 h c r)).Perm (put3 ts h c r)
 | [],_,⟨_,h,_⟩=>by cases h
 | t :: ts,n,hx=>by
  have n':jX ts:=(lJ.mp n).2
  have nt:=(lJ.mp n).1
  unfold put3
  by_cases e:t.1=h∧t.2.1=c
  ·have no:∀ u∈ts,¬ (u.1=h∧u.2.1=c):=fun u hu z=>nt (bA.mpr ⟨u,hu,Prod.ext (z.1.trans e.1.symm) (z.2.trans e.2.symm)⟩)
   have e1:ts.map (K1 h c r)=ts:=by
    refine (eX fun u hu=>?_).trans (List.map_id ts)
    unfold K1
    rw[if_neg (no u hu)]
    rfl
   have e2:ts.filter (fun u=>!decide (u.1=h∧u.2.1=c))=ts:=List.filter_eq_self.mpr fun u hu=>by rw[decide_eq_false (no u hu)]; rfl
   rw[cG,e1,sF,if_neg (by simp[e]),e2]
   have e3:K1 h c r t=(h,c,r):=by unfold K1; rw[if_pos e]
   rw[e3]
   exact (List.perm_append_comm (l₁:=[(h,c,r)]) (l₂:=ts))
  ·have e3:K1 h c r t=t:=by unfold K1; rw[if_neg e]
   rw[cG,e3,sF,if_pos (by rw[decide_eq_false e]; rfl)]
   refine List.Perm.cons t (Wk n' ?_)
   obtain⟨u,hu,z⟩:=hx
   rcases cF.mp hu with rfl | hu
   ·exact absurd z e
   ·exact⟨u,hu,z⟩
theorem Wl{xs ys:List T3}(hp:xs.Perm ys)(h c r:Int):(put3 xs h c r).Perm (put3 ys h c r):=(hp.filter _).append_right _
theorem abN{ts ks:List T3}{h c r:Int}(hp:ts.Perm ks)(n:jX ts):∃ ts',putK (ts.map oE) (keyOf h c) (V.int r)=ts'.map oE∧ts'.Perm (put3 ks h c r)∧jX ts':=by
 unfold putK
 by_cases a:((ts.map oE).any fun kv=>decide (kv.1=keyOf h c))=true
 ·rw[if_pos a]
  refine⟨ts.map (K1 h c r),?_,?_,?_⟩
  ·rw[gx,gx]
   refine eX fun t _=>?_
   show (if (oE t).1=keyOf h c then ((oE t).1,V.int r) else oE t)=oE (K1 h c r t)
   unfold K1
   by_cases e:t.1=h∧t.2.1=c
   ·rw[if_pos ((qx t h c).mpr e),if_pos e,(qx t h c).mpr e]
    rfl
   ·rw[if_neg (fun z=>e ((qx t h c).mp z)),if_neg e]
  ·refine (Wk n ?_).trans (Wl hp h c r)
   obtain⟨kv,h1,h2⟩:=Br.mp a
   obtain⟨t,ht,rfl⟩:=bA.mp h1
   exact⟨t,ht,(qx t h c).mp (of_decide_eq_true h2)⟩
  ·unfold jX
   rw[gx]
   have:((fun t:T3=>(t.1,t.2.1)) ∘ K1 h c r)=fun t:T3=>(t.1,t.2.1):=funext fun t=>afZ h c r t
   rw[this]
   exact n
 ·rw[if_neg a]
  have no:∀ t∈ts,¬ (t.1=h∧t.2.1=c):=fun t ht z=>a (Br.mpr ⟨oE t,bA.mpr ⟨t,ht,rfl⟩,decide_eq_true ((qx t h c).mpr z)⟩)
  have e:put3 ts h c r=ts++[(h,c,r)]:=by
   unfold put3
   rw[List.filter_eq_self.mpr fun u hu=>by rw[decide_eq_false (no u hu)]; rfl]
  refine⟨ts++[(h,c,r)],by rw[aO]; rfl,e ▸ Wl hp h c r,e ▸ afY n⟩
structure vQ(C:Addr)(H:Hp)(p d:Addr)(ts:List T3):Prop where
 ob:∃ dx,H p=some (.ins C dx [("kept",.ref d)])
 di:H d=some (.dT (ts.map oE))
theorem vQ.mono{C:Addr}{H H':Hp}{p d:Addr}{ts:List T3}(s:aL H H')(h:vQ C H p d ts):vQ C H' p d ts:=by
 obtain⟨⟨dx,h1⟩,h2⟩:=h
 exact⟨⟨dx,s _ _ h1⟩,s _ _ h2⟩
noncomputable def HV(u:HO):Prop:=∀ xs,u≠.tup xs∧∀ o,u≠.Y8 o (.tup xs)
theorem nM{ys:List V}:HV (.lst ys):=fun xs=>⟨fun e=>(by cases e),fun o e=>(by cases e)⟩
theorem an7{kvs:List (List Key × V)}:HV (.dT kvs):=fun xs=>⟨fun e=>(by cases e),fun o e=>(by cases e)⟩
theorem pA{C dx:Addr}{fs:List (Str × V)}:HV (.ins C dx fs):=fun xs=>⟨fun e=>(by cases e),fun o e=>(by cases e)⟩
theorem dP.past{K:ah}{H H':Hp}{z a:Addr}{u:HO}{xs:List V}(hz:H z=some u)(nt:HV u)(keep:∀ b v,H b=some v→b≠z→H' b=some v)(h:dP K H a xs):dP K H' a xs:=by
 rcases h with (h | ⟨o,h⟩) | h
 ·exact .inl (.inl (keep _ _ h fun e=>by subst e; rw[hz] at h; exact (nt xs).1 (aS h)))
 ·exact .inl (.inr ⟨o,keep _ _ h fun e=>by subst e; rw[hz] at h; exact (nt xs).2 o (aS h)⟩)
 ·exact .inr h
theorem cj{H:Hp}{z:Addr}{o:HO}:∀ b v,H b=some v→b≠z→(upd H z o) b=some v:=fun b v e nb=>by rw[aP nb]; exact e
theorem abO{H:Hp}{a b:Addr}{u v:HO}(ha:H a=some u)(hb:H b=some v)(n:u≠v):a≠b:=fun e=>by
 subst e
 rw[ha] at hb
 exact n (aS hb)
end TW
namespace L2
open PySem PySem.W PySem.Spec PyProof.Rows
end L2
namespace TW
open PySem L2 PyProof.Rows
theorem ZA{J:It}{n:Nat}{cap:List (Option Nat)}{g:TG}{tc:TT}{te:TE}{σ:L2.St}{Qr:Hp→Prop}{H1:Hp}{acc:Addr}(it:Nat→V)(f:Nat→Option V)(hacc:H1 acc=none)
 (go:∀ i H,i < n→aL H1 H→J.go i H) (stop:∀ H,aL H1 H→J.stop n H) (WM:∀ i H x H',i < n→aL H1 H→J.WM i H x H'→H'=H∧x=it i) (hn:n≤1000)
 (step:∀ (i:Nat) (H:Hp) (R:V→Hp→Prop) (S:Hp→Prop),i < n→aL H1 H→(∀ y H',aL H H'→f i=some y→R y H')→(∀ H',aL H H'→f i=none→S H') →
  g (it i) (lP cap σ) H fun σ2 H2=>tc σ2 H2 fun b H3=>if b=true then te σ2 H3 R else S H3)
 (fin:∀ H,aL H1 H→H acc=some (.lst ((aB n).filterMap f))→Qr H) :
 ∃ W:Nat→Nat→Hp→Prop,(∃ m,W 0 m (upd H1 acc (.lst [])))∧∀ i m H,W i m H →
  (J.stop i H∧Qr H)∨(J.go i H∧∀ x H',J.WM i H x H'→g x (lP cap σ) H' fun σ2 H2=>tc σ2 H2 fun b H3=>if b=true then te σ2 H3 fun y H4=>∃ xs,H4 acc=some (.lst xs)∧xs.length < sizeLine ∧
   ∃ m',m' < m∧W (i + 1) m' (upd H4 acc (.lst (xs++[y]))) else ∃ m',m' < m∧W (i + 1) m' H3):=by
 have hlen:∀ i,((aB i).filterMap f).length≤i:=fun i=>by
  have:=List.length_filterMap_le f (aB i)
  rwa [bC] at this
 refine jj (n:=n) (fun i ys _=>ys=(aB i).filterMap f) hacc go stop rfl ?_ ?_
 ·rintro i ys H hi s hy rfl x H' hx
  obtain⟨rfl,rfl⟩:=WM i H x H' hi s hx
  have e:(aB (i + 1)).filterMap f=(aB i).filterMap f++(f i).toList:=by
   rw[oV,List.filterMap_append]
   cases h:f i <;> simp[h]
  refine step i H' _ _ hi s (fun y H4 s4 hf=>?_) (fun H3 s3 hf=>?_)
  ·refine ic hacc hi (s.trans s4) (s4 _ _ hy) (cS (aX (hlen i) (aX (oU hi) hn))) ?_
   show _=(aB (i + 1)).filterMap f
   rw[e,hf]
   rfl
  ·refine l5 hi (s.trans s3) (s3 _ _ hy) ?_
   show _=(aB (i + 1)).filterMap f
   rw[e,hf]
   simp
 ·rintro ys H s hy rfl
  exact fin H s hy
theorem uX{α β:Type}:∀ (xs:List α) (F:α→Option β),(aB xs.length).filterMap (fun i=>xs[i]?.bind F)=xs.filterMap F
 | [],F=>rfl
 | x :: xs,F=>by
  have e:((fun i:Nat=>(x :: xs)[i]?.bind F) ∘ Nat.succ)=fun i=>xs[i]?.bind F:=funext fun i=>by simp
  rw[cE,List.range_succ_eq_map,eZ,List.filterMap_map,e,uX xs F,eZ]
  rfl
theorem aep{K:ah}{l acc:Addr}{xs:List Int}{cap:List (Option Nat)}{g:TG}{tc:TT}{te:TE}{σ:L2.St}{Qr:Hp→Prop}{H1:Hp}(F:Int→Option V)(hacc:H1 acc=none)(hl:ck K H1 l (xs.map V.int))(hn:xs.length≤1000)
 (step:∀ (x:Int) (H:Hp) (R:V→Hp→Prop) (S:Hp→Prop),x∈xs→aL H1 H→(∀ y H',aL H H'→F x=some y→R y H')→(∀ H',aL H H'→F x=none→S H') →
  g (.int x) (lP cap σ) H fun σ2 H2=>tc σ2 H2 fun b H3=>if b=true then te σ2 H3 R else S H3)
 (fin:∀ H,aL H1 H→H acc=some (.lst (xs.filterMap F))→Qr H) :
 ∃ W:Nat→Nat→Hp→Prop,(∃ m,W 0 m (upd H1 acc (.lst [])))∧∀ i m H,W i m H →
  ((WN K l).stop i H∧Qr H)∨((WN K l).go i H∧∀ x H',(WN K l).WM i H x H'→g x (lP cap σ) H' fun σ2 H2=>tc σ2 H2 fun b H3=>if b=true then te σ2 H3 fun y H4=>∃ xs,H4 acc=some (.lst xs)∧xs.length < sizeLine ∧
    ∃ m',m' < m∧W (i + 1) m' (upd H4 acc (.lst (xs++[y]))) else ∃ m',m' < m∧W (i + 1) m' H3):=by
 have hL:(xs.map V.int).length=xs.length:=af _
 refine ZA (n:=xs.length) (fun i=>(xs.map V.int).getD i .iu) (fun i=>xs[i]?.bind F) hacc (fun i H hi s=>Eg hl i H (by rw[hL]; exact hi) s) (fun H s=>by have:=sj hl H s; rwa [hL] at this) (fun i H x H' hi s hx=>?_) hn (fun i H R S hi s h1 h2=>?_) (fun H s hy=>fin H s (by rw[← uX]; exact hy))
 ·obtain⟨rfl,hx⟩:=hx
  have hx:=hx _ (s.seq hl)
  exact⟨rfl,by rw[aD,hx]; rfl⟩
 ·have e:(xs.map V.int).getD i .iu=V.int xs[i]:=by rw[aD,aq,aa hi]; rfl
  have e2:xs[i]?=some xs[i]:=aa hi
  rw[e]
  refine step _ H R S (aW hi) s (fun y H' s' hf=>h1 y H' s' ?_) (fun H' s' hf=>h2 H' s' ?_)
  ·show xs[i]?.bind F=_
   rw[e2]
   exact hf
  ·show xs[i]?.bind F=_
   rw[e2]
   exact hf
theorem aeq(xs:List Int)(f:Int→Bool):xs.filterMap (fun x=>if f x=true then some (V.int x) else none)=(xs.filter f).map V.int:=by
 induction xs with
 | nil=>rfl
 | cons x xs ih =>
  by_cases h:f x=true
  ·rw[vJ h,cG,← ih,eZ]; simp only[h,if_true]
  ·rw[mO h,← ih,eZ]; simp only[h]; rfl
theorem vR{K:ah}{l acc:Addr}{xs:List Int}{cap:List (Option Nat)}{g:TG}{tc:TT}{te:TE}{σ:L2.St}{Qr:Hp→Prop}{H1:Hp}(f:Int→Bool)(hacc:H1 acc=none)(hl:ck K H1 l (xs.map V.int))(hn:xs.length≤1000)
 (step:∀ (x:Int) (H:Hp) (R:V→Hp→Prop) (S:Hp→Prop),x∈xs→aL H1 H→(∀ H',aL H H'→f x=true→R (.int x) H')→(∀ H',aL H H'→f x=false→S H') →
  g (.int x) (lP cap σ) H fun σ2 H2=>tc σ2 H2 fun b H3=>if b=true then te σ2 H3 R else S H3)
 (fin:∀ H,aL H1 H→H acc=some (.lst ((xs.filter f).map V.int))→Qr H) :
 ∃ W:Nat→Nat→Hp→Prop,(∃ m,W 0 m (upd H1 acc (.lst [])))∧∀ i m H,W i m H →
  ((WN K l).stop i H∧Qr H)∨((WN K l).go i H∧∀ x H',(WN K l).WM i H x H'→g x (lP cap σ) H' fun σ2 H2=>tc σ2 H2 fun b H3=>if b=true then te σ2 H3 fun y H4=>∃ xs,H4 acc=some (.lst xs)∧xs.length < sizeLine ∧
    ∃ m',m' < m∧W (i + 1) m' (upd H4 acc (.lst (xs++[y]))) else ∃ m',m' < m∧W (i + 1) m' H3):=by
 refine aep (fun x=>if f x=true then some (V.int x) else none) hacc hl hn (fun x H R S hx s h1 h2=>step x H R S hx s (fun H' s' hf=>h1 _ H' s' (if_pos hf)) (fun H' s' hf=>h2 H' s' (if_neg (by rw[hf]; exact aN)))) (fun H s hy=>fin H s (by rw[← aeq]; exact hy))
noncomputable def ajX(u:HO):Prop:=∀ xs,u≠.lst xs∧∀ o,u≠.Y8 o (.lst xs)
theorem af0{C dx:Addr}{fs:List (Str × V)}:ajX (.ins C dx fs):=fun xs=>⟨fun e=>(by cases e),fun o e=>(by cases e)⟩
theorem ck.past{K:ah}{H H':Hp}{z a:Addr}{u:HO}{xs:List V}(hz:H z=some u)(nt:ajX u)(keep:∀ b v,H b=some v→b≠z→H' b=some v)(h:ck K H a xs):ck K H' a xs:=by
 rcases h with (h | ⟨o,h⟩) | h
 ·exact .inl (.inl (keep _ _ h fun e=>by subst e; rw[hz] at h; exact (nt xs).1 (aS h)))
 ·exact .inl (.inr ⟨o,keep _ _ h fun e=>by subst e; rw[hz] at h; exact (nt xs).2 o (aS h)⟩)
 ·exact .inr h
noncomputable def Ep(c:Option Int):V:=(c.map V.int).getD .iu
theorem Er(i:Int)(c:Option Int):ah0 (.int i) (Ep c)=true:=by cases c <;> rfl
theorem af1(c:Option Int):D9 (Ep c)=true:=by cases c <;> rfl
theorem RG(xs:List Int):OO .iu (xs.map V.int)=false:=by
 unfold OO
 rw[List.any_map,List.any_eq_false]
 intro x _
 show ¬ (eqV (.int x) .iu)=true
 simp[eqV]
noncomputable def qt(c:Option Int)(r:Int):Bool:=!decide (V.int r=Ep c)
noncomputable def onP(ts:List T3)(so:Option Int)(pB:Int)(eu:Option Int)(os hs:List Int):List Int :=
 match so with
 | none=>os.filter (qt eu)
 | some to=>if to∈hs then [] else match Ja ts pB to with
  | some r=>if r∈os then [r].filter (qt eu) else os.filter (qt eu)
  | none=>os.filter (qt eu)
noncomputable def Jb(s to k c:Int):Bool:=if k=1 then decide (V.int c=V.int to) else if k=2 then !decide (V.int c=V.int s) else false
noncomputable def yb(to k:Int):Option Int:=if k=1 then some to else none
theorem made{H:Hp}{x dx C:Addr}{fs:List (Str × V)}(hx:H x=none)(hdx:H dx=none)(hne:dx≠x):aL H (upd (upd (upd H dx (.own x)) x (.ins C dx [])) x (.ins C dx fs)):=by
 rw[WE]
 exact (aL.new hdx).trans (aL.new (by rw[aP (bW hne)]; exact hx))
theorem neT{b:Bool}(h:¬ b=true):b=false:=by
 cases b
 ·rfl
 ·exact absurd rfl h
end TW
namespace TX
open PySem PySem.StrLaws PySem.Builtin PySem.Builtin.Str
noncomputable abbrev cs(x:Str):List Nat:=x.cps.toList
end TX
namespace TX
open PySem PySem.StrLaws PySem.Builtin PySem.Builtin.Str PySem.NumText
end TX
namespace TX
open PySem PySem.StrLaws PySem.Builtin PySem.Builtin.Str
end TX
namespace L2
open PySem PySem.W PySem.Spec PyProof.Rows
end L2
namespace L2
open PySem PySem.W PySem.Spec PyProof.Rows
end L2
namespace L2
open PySem PySem.W PySem.Spec PyProof.Rows
theorem RH{α β:Type}{f g:α→Option β}:∀ {l:List α},(∀ x∈l,f x=g x)→l.filterMap f=l.filterMap g
 | [],_=>rfl
 | x :: l,h=>by
  rw[eZ,eZ,h x (cN ..),RH fun y hy=>h y (bP _ hy)]
theorem aer{α:Type}(xs:List α):((aB xs.length).map (fun k=>xs.length - 1 - k)).filterMap (fun i=>xs.toArray[i]?)=xs.reverse:=by
 have h1:(aB xs.length).map (fun k=>xs.length - 1 - k)=(aB xs.length).reverse:=by
  refine List.ext_getElem (by simp) fun i h1 h2=>?_
  simp at h1 h2
  simp[List.getElem_reverse]
 rw[h1,List.filterMap_reverse]
 congr 1
 refine List.ext_getElem? fun i=>?_
 have h2:(aB xs.length).filterMap (fun i=>xs.toArray[i]?)=xs:=by
  have:=TW.uX xs (fun x=>some x)
  rw[List.filterMap_some] at this
  refine Eq.trans (RH fun i hi=>?_) this
  rw[List.getElem?_toArray]
  cases xs[i]? <;> rfl
 rw[h2]
theorem RI(its:List Value):slicePick its.toArray none none (some (-1))=its.reverse.toArray:=by
 unfold slicePick
 congr 1
 have e:sliceBounds none none (some (-1)) its.toArray.size=((its.length:Int) - 1,-1,-1):=by
  simp[sliceBounds]
 rw[e,← aer its]
 congr 1
 unfold sliceRange
 by_cases h:its.length=0
 ·simp[h]
 ·have h1:((its.length:Int) - 1) > -1:=by omega
  have e2:((its.length:Int) - 1 - -1 - -1 - 1) / (- -1)=(its.length:Int):=by
   have:((its.length:Int) - 1 - -1 - -1 - 1)=(its.length:Int):=by omega
   rw[this]
   show (its.length:Int) / 1=_
   exact Int.ediv_one _
  simp only[show ¬ ((-1:Int) > 0) by decide,if_false,h1,if_true,e2,iF]
  refine eX fun k hk=>?_
  have:=fQ.mp hk
  omega
section
variable{X:Cx}
noncomputable def ali(K:ah)(te:TE)(ts:TO):TE:=fun σ H Q=>te σ H fun x H1=>ts σ H1 fun o H2=>∃ a xs,x = .ref a∧o=some (-1)∧ck K H2 a xs∧∀ p,H2 p=none→Q (.ref p) (upd H2 p (.lst xs.reverse))
theorem aes{xs:List V}{us:List Value}(h:cP xs us):cP xs.reverse us.reverse:=by
 induction h with
 | nil=>exact .nil
 | cons r t ih =>
  rw[List.reverse_cons,List.reverse_cons]
  exact ih.append (.cons r .nil)
theorem ZC{e st:Expr}{te:TE}{ts:TO}{p2 pos:Pos}(he:PE X e te)(hs:PO X (some st) ts):PE X (.Subscript e (.Slice none none (some st) p2) pos) (ali X.K te ts):=by
 intro pins s σ H Q I h
 refine Subscript_ (jf (he pins s σ H _ I h) fun v s1 ⟨x,H1,I1,r1,q1⟩=>?_)
 refine wpAny_Slice ?_
 rw[evalPart_none]
 refine wpAny_pure ?_
 refine wpAny_pure ?_
 refine jf (hs pins s1 σ H1 _ I1 q1) fun vs s2 ⟨o,H2,I2,po,a,xs,e1,e2,hq,q⟩=>?_
 subst e1 e2
 cases r1
 have I4:Inv X pins σ H2 { s2 with heap:=s2.heap.push { cls:=.type "slice",data:=.fields #[.none,.none,vs] } }:=I2.kept (t':=s2.toks) fun b ob q=>Heap.get?_push_of_some _ q
 obtain⟨its,r,ht,hz⟩:=I4.list hq
 have hlen:=r.length
 show wpAny (model X.prog X.w) X.A (subscriptTail e (.Slice none none (some st) p2) (.ref a) (.ref s2.heap.objs.size)) (EP X pins σ Q) X.xe { s2 with heap:=s2.heap.push { cls:=.type "slice",data:=.fields #[.none,.none,vs] } }
 refine tail_any (ops:=[.ref a,.ref s2.heap.objs.size]) ht.isList.typeIs slot_list_getitem.lookup ?_ (by with_unfolding_all rfl)
 refine wpAny_getItem_list_slice ht.isList (Heap.IsSliceOf.new ..) .none .none po (by simp) ?_ (by rw[aZ] <;> omega)
 rw[RI]
 refine⟨.ref _,_,I4.laid (t':=s2.toks) (o:=.lst xs.reverse) (fun b ob q=>Heap.get?_push_of_some _ q) (aK _) ?_,rfl,q _ (I4.hok.fresh (aK _))⟩
 exact⟨by rw[List.length_reverse]; exact hz,its.reverse,0,aes r,Heap.get?_push_size _ rfl⟩
end
end L2
namespace TW
open PySem L2 PyProof.Rows
theorem adv{K:ah}{l acc:Addr}{xs:List V}{cap:List (Option Nat)}{g:TG}{tc:TT}{te:TE}{σ:L2.St}{Qr:Hp→Prop}{H1:Hp}(f:Nat→Option V)(hacc:H1 acc=none)(hl:ck K H1 l xs)(hn:xs.length≤1000)
 (step:∀ (i:Nat) (x:V) (H:Hp) (R:V→Hp→Prop) (S:Hp→Prop),xs[i]?=some x→aL H1 H→(∀ y H',aL H H'→f i=some y→R y H')→(∀ H',aL H H'→f i=none→S H') →
  g x (lP cap σ) H fun σ2 H2=>tc σ2 H2 fun b H3=>if b=true then te σ2 H3 R else S H3)
 (fin:∀ H,aL H1 H→H acc=some (.lst ((aB xs.length).filterMap f))→Qr H) :
 ∃ W:Nat→Nat→Hp→Prop,(∃ m,W 0 m (upd H1 acc (.lst [])))∧∀ i m H,W i m H →
  ((WN K l).stop i H∧Qr H)∨((WN K l).go i H∧∀ x H',(WN K l).WM i H x H'→g x (lP cap σ) H' fun σ2 H2=>tc σ2 H2 fun b H3=>if b=true then te σ2 H3 fun y H4=>∃ xs,H4 acc=some (.lst xs)∧xs.length < sizeLine ∧
    ∃ m',m' < m∧W (i + 1) m' (upd H4 acc (.lst (xs++[y]))) else ∃ m',m' < m∧W (i + 1) m' H3):=by
 refine ZA (n:=xs.length) (fun i=>xs.getD i .iu) f hacc (Eg hl) (sj hl) (fun i H x H' hi s hx=>?_) hn (fun i H R S hi s h1 h2=>?_) fin
 ·obtain⟨rfl,hx⟩:=hx
  have hx:=hx _ (s.seq hl)
  exact⟨rfl,by rw[aD,hx]; rfl⟩
 ·have e:xs.getD i .iu=xs[i]:=by rw[aD,aa hi]; rfl
  rw[e]
  exact step i _ H R S (aa hi) s h1 h2
theorem RJ{α β:Type}(xs:List α)(h:α→β):(aB xs.length).filterMap (fun i=>xs[i]?.map h)=xs.map h:=by
 have e:∀ l:List α,l.filterMap (fun x=>some (h x))=l.map h:=fun l=>by
  induction l with
  | nil=>rfl
  | cons a l ih=>rw[eZ,ih]; rfl
 rw[← e,← uX xs (fun x=>some (h x))]
 refine RH fun i _=>?_
 cases xs[i]? <;> rfl
end TW
namespace TW
open PySem L2 PyProof.Rows
inductive Role where
 | fO | fS | jY | qu (i:Nat) | Es | rows (g:Nat) | pC | book (g:Nat) | gy (g:Nat)
 | bY | groups | l9 | handed (c:Nat) | c6 | cB (i:Nat) | letter (i:Nat) | done (i:Nat) | aU (i:Nat) | nN
 deriving DecidableEq
structure By(H:Hp)(loc:Role→Addr)(ob:Role→Option HO):Prop where
 get:∀ r o,ob r=some o→H (loc r)=some o
 inj:∀ r q,ob r≠none→ob q≠none→loc r=loc q→r=q
noncomputable def kY(ob:Role→Option HO)(r:Role)(o:HO):Role→Option HO:=fun q=>if q=r then some o else ob q
noncomputable def DY(loc:Role→Addr)(r:Role)(a:Addr):Role→Addr:=fun q=>if q=r then a else loc q
theorem fM{ob:Role→Option HO}{r:Role}{o:HO}:kY ob r o r=some o:=if_pos rfl
theorem eN{ob:Role→Option HO}{r q:Role}{o:HO}(h:q≠r):kY ob r o q=ob q:=if_neg h
theorem kP{loc:Role→Addr}{r:Role}{a:Addr}:DY loc r a r=a:=if_pos rfl
theorem k9{loc:Role→Addr}{r q:Role}{a:Addr}(h:q≠r):DY loc r a q=loc q:=if_neg h
noncomputable def Fp(loc:Role→Addr)(ob:Role→Option HO)(b:Addr):Prop:=∃ r,ob r≠none∧loc r=b
section
variable{H H':Hp}{loc:Role→Addr}{ob:Role→Option HO}
theorem By.mono(h:By H loc ob)(s:aL H H'):By H' loc ob:=⟨fun r o e=>s _ _ (h.get r o e),h.inj⟩
theorem By.keep(h:By H loc ob)(k:∀ b o,H b=some o→Fp loc ob b→H' b=some o):By H' loc ob :=
 ⟨fun r o e=>k _ _ (h.get r o e) ⟨r,by rw[e]; exact bq o,rfl⟩,h.inj⟩
theorem By.set(h:By H loc ob){r:Role}(hr:ob r≠none)(o:HO):By (upd H (loc r) o) loc (kY ob r o):=by
 have hs:∀ q,kY ob r o q≠none→ob q≠none:=fun q hq=>by
  by_cases e:q=r
  ·rw[e]; exact hr
  ·rw[eN e] at hq; exact hq
 refine⟨fun q u e=>?_,fun q q' h1 h2 e=>h.inj q q' (hs q h1) (hs q' h2) e⟩
 by_cases z:q=r
 ·subst z
  rw[fM] at e
  cases e
  exact aF
 ·rw[eN z] at e
  rw[aP (fun w=>z (h.inj q r (by rw[e]; exact bq u) hr w))]
  exact h.get q u e
theorem By.new(h:By H loc ob){p:Addr}(hp:H p=none)(r:Role)(o:HO):By (upd H p o) (DY loc r p) (kY ob r o):=by
 have ne:∀ q,q≠r→ob q≠none→loc q≠p:=fun q hq hob e=>by
  cases ho:ob q with
  | none=>exact hob ho
  | some u =>
   have:=h.get q u ho
   rw[e,hp] at this
   cases this
 refine⟨fun q u e=>?_,fun q q' h1 h2 e=>?_⟩
 ·by_cases z:q=r
  ·subst z
   rw[fM] at e
   cases e
   rw[kP]
   exact aF
  ·rw[eN z] at e
   rw[k9 z,aP (ne q z (by rw[e]; exact bq u))]
   exact h.get q u e
 ·by_cases z:q=r
  ·by_cases z':q'=r
   ·rw[z,z']
   ·rw[z,kP,k9 z'] at e
    rw[eN z'] at h2
    exact absurd e.symm (ne q' z' h2)
  ·by_cases z':q'=r
   ·rw[z',kP,k9 z] at e
    rw[eN z] at h1
    exact absurd e (ne q z h1)
   ·rw[k9 z,k9 z'] at e
    rw[eN z] at h1
    rw[eN z'] at h2
    exact h.inj q q' h1 h2 e
theorem By.ajY(h:By H loc ob){p:Addr}{r:Role}{o:HO}{b:Addr}(hb:Fp (DY loc r p) (kY ob r o) b):Fp loc ob b∨b=p:=by
 obtain⟨q,h1,h2⟩:=hb
 by_cases z:q=r
 ·rw[z,kP] at h2
  exact .inr h2.symm
 ·rw[eN z] at h1
  rw[k9 z] at h2
  exact .inl ⟨q,h1,h2⟩
theorem Wm{r:Role}(hr:ob r≠none){o:HO}{b:Addr}:Fp loc (kY ob r o) b↔Fp loc ob b:=by
 constructor
 ·rintro⟨q,h1,h2⟩
  refine⟨q,?_,h2⟩
  by_cases z:q=r
  ·rw[z]; exact hr
  ·rw[eN z] at h1; exact h1
 ·rintro⟨q,h1,h2⟩
  refine⟨q,?_,h2⟩
  by_cases z:q=r
  ·rw[z,fM]; exact bq o
  ·rw[eN z]; exact h1
end
inductive eS where
 | post (h:Nat) | K2 (h r:Nat) | hand (h c:Nat) | send (h r w:Nat) | twice (h r:Nat) | aiv (h r:Nat)
noncomputable def eS.vs:eS→List V
 | .post h=>[.str "post",.int h]
 | .K2 h r=>[.str "come",.int h,.int r]
 | .hand h c=>[.str "hand",.int h,.int c]
 | .send h r w=>[.str "send",.int h,.int r,.int w]
 | .twice h r=>[.str "twice",.int h,.int r]
 | .aiv h r=>[.str "lost",.int h,.int r]
structure LS where
 s:Nat
 to:Nat
 kd:Int
 grp:Nat
 old:Bool
 done:List Nat
 aU:List eS
structure Cp where
 l:Nat
 r:Nat
 w:Nat
 h:Nat
noncomputable def Cp.vs(c:Cp):List V:=[.int c.l,.int c.r,.int c.w,.int c.h]
structure NS where
 ws:List (List Nat)
 R:Nat→Nat→RM.Row
 ts:Nat→List T3
 bY:List Nat
 groups:List Nat
 had:List (List Nat)
 ls:List LS
 cps:List Cp
structure TQ where
 rq:Nat→List Addr
 dq:Nat→List Addr
 cq:List Addr
structure NC where
 fO:Addr
 str:Addr
 book:Addr
 post:Addr
 avz:Addr
 let1:Addr
 an8:Addr
noncomputable def uY(c:NC)(dx:Addr)(l:LS):HO:=if l.kd=1 then .ins c.let1 dx [("sender",.int l.s),("to",.int l.to)] else .ins c.an8 dx [("sender",.int l.s)]
noncomputable def desc(c:NC)(dx:Role→Addr)(tp:Addr)(loc:Role→Addr)(q:TQ)(s:NS):Role→Option HO
 | .fO=>some (.ins c.fO (dx .fO) [("town",.ref tp),("strands",.ref (loc .fS)),("rows_by_group",.ref (loc .Es)),("books",.ref (loc .pC)),("homes",.ref (loc .bY)),("groups",.ref (loc .groups)),("handed",.ref (loc .l9)),("letters",.ref (loc .c6)),("copies",.ref (loc .nN))])
 | .fS=>some (.ins c.str (dx .fS) [("town",.ref tp),("upright",.ref (loc .jY))])
 | .jY=>some (.lst ((aB s.ws.length).map fun i=>.ref (loc (.qu i))))
 | .qu i=>s.ws[i]?.map fun w=>.lst (bS w)
 | .Es=>some (.lst ((aB 3).map fun g=>.ref (loc (.rows g))))
 | .rows g=>if g < 3 then some (.lst ((q.rq g).map V.ref)) else none
 | .pC=>some (.lst ((aB 3).map fun g=>.ref (loc (.book g))))
 | .book g=>if g < 3 then some (.ins c.book (dx (.book g)) [("kept",.ref (loc (.gy g)))]) else none
 | .gy g=>if g < 3 then some (.dT ((s.ts g).map oE)) else none
 | .bY=>some (.lst (bS s.bY))
 | .groups=>some (.lst (bS s.groups))
 | .l9=>some (.lst ((aB s.had.length).map fun i=>.ref (loc (.handed i))))
 | .handed i=>s.had[i]?.map fun w=>.lst (bS w)
 | .c6=>some (.lst ((aB s.ls.length).map fun i=>.ref (loc (.cB i))))
 | .cB i=>s.ls[i]?.map fun l=>.ins c.post (dx (.cB i)) [("letter",.ref (loc (.letter i))),("group",.int l.grp),("old",.bl l.old),("done_at",.ref (loc (.done i))),("deeds",.ref (loc (.aU i)))]
 | .letter i=>s.ls[i]?.map fun l=>uY c (dx (.letter i)) l
 | .done i=>s.ls[i]?.map fun l=>.dK (l.done.map fun h:Nat=>(iY (h:Int),.bl true))
 | .aU i=>s.ls[i]?.map fun l=>.lst ((q.dq i).map V.ref)
 | .nN=>some (.lst (q.cq.map V.ref))
mutual
noncomputable def ZD:PyData→Bool
 | .none=>true
 | .bool _=>true
 | .int _=>true
 | .str _=>true
 | .list _=>false
 | .tuple ds=>MF ds
 | .dict _=>true
noncomputable def MF:List PyData→Bool
 | []=>true
 | d :: ds=>ZD d && MF ds
end
structure cZ(K:ah)(H:Hp)(qs:List Addr)(xs:List (List V)):Prop where
 len:qs.length=xs.length
 at':∀ (i:Nat) q x,qs[i]?=some q→xs[i]?=some x→dP K H q x
theorem cZ.mono{K:ah}{H H':Hp}{qs:List Addr}{xs:List (List V)}(h:cZ K H qs xs)(k:∀ b x,dP K H b x→dP K H' b x):cZ K H' qs xs:=⟨h.len,fun i q x a b=>k _ _ (h.at' i q x a b)⟩
noncomputable def i8(n:Nat)(R:Nat→RM.Row):List (List V):=(aB n).map fun i=>RM.fq (R i)
structure uZ(K:ah)(H:Hp)(n:Nat)(q:TQ)(s:NS):Prop where
 rows:∀ g,g < 3→cZ K H (q.rq g) (i8 n (s.R g))
 aU:∀ i l,s.ls[i]?=some l→cZ K H (q.dq i) (l.aU.map eS.vs)
 cps:cZ K H q.cq (s.cps.map Cp.vs)
theorem uZ.mono{K:ah}{H H':Hp}{n:Nat}{q:TQ}{s:NS}(h:uZ K H n q s)(k:∀ b x,dP K H b x→dP K H' b x):uZ K H' n q s :=
 ⟨fun g hg=>(h.rows g hg).mono k,fun i l e=>(h.aU i l e).mono k,h.cps.mono k⟩
noncomputable def fL(K:ah)(c:NC)(H:Hp)(F:Addr→Prop)(p tp:Addr)(n:Nat)(s:NS):Prop :=
 ∃ loc dx q,loc .fO=p∧By H loc (desc c dx tp loc q s)∧(∀ b,F b↔Fp loc (desc c dx tp loc q s) b)∧uZ K H n q s
structure Step(H:Hp)(F:Addr→Prop)(H':Hp)(F':Addr→Prop):Prop where
 kp:∀ b o,H b=some o→¬ F b→H' b=some o
 fr:∀ b,F' b→F b∨H b=none
theorem abP{c:NC}{dx:Role→Addr}{tp:Addr}{loc:Role→Addr}{q:TQ}{s:NS}{r:Role}{o:HO}(h:desc c dx tp loc q s r=some o):HV o:=by
 have key:∀ {α:Type} {f:α→HO} {x:Option α},(∀ a,HV (f a))→x.map f=some o→HV o:=fun {α f x} hf e=>by
  cases x with
  | none=>cases e
  | some a=>cases e; exact hf a
 have ins:∀ {C d:Addr} {fs:List (Str × V)},HV (.ins C d fs):=pA
 cases r <;> simp only[desc] at h
 all_goals first
  | (cases h; exact pA)
  | (cases h; exact nM)
  | exact key (fun _=>nM) h
  | exact key (fun _=>pA) h
  | (split at h
     ·cases h; first | exact nM | exact pA | exact an7
     ·cases h)
  | (refine key (fun l=>?_) h; unfold uY; split <;> exact pA)
  | (refine key (fun l=>?_) h; exact fun xs=>⟨fun e=>(by cases e),fun o e=>(by cases e)⟩)
section
variable{K:ah}{c:NC}{CT:Addr}{H H':Hp}{F F':Addr→Prop}{p tp ln lr:Addr}{n:Nat}{s s':NS}{ns:List Int}{rs:List R5}
theorem fL.mono(h:fL K c H F p tp n s)(e:aL H H'):fL K c H' F p tp n s:=by
 obtain⟨loc,dx,q,h1,h2,h3,h4⟩:=h
 exact⟨loc,dx,q,h1,h2.mono e,h3,h4.mono fun b x=>e.dB⟩
theorem fL.adw(h:fL K c H F p tp n s){b:Addr}{o:HO}(hb:F b)(e:H b=some o):HV o:=by
 obtain⟨loc,dx,q,h1,h2,h3,h4⟩:=h
 obtain⟨r,hr,rfl⟩:=(h3 b).mp hb
 cases ho:desc c dx tp loc q s r with
 | none=>exact absurd ho hr
 | some u =>
  have:=h2.get r u ho
  rw[e] at this
  cases this
  exact abP ho
theorem fL.there(h:fL K c H F p tp n s){b:Addr}(hb:F b):∃ o,H b=some o:=by
 obtain⟨loc,dx,q,h1,h2,h3,h4⟩:=h
 obtain⟨r,hr,rfl⟩:=(h3 b).mp hb
 cases ho:desc c dx tp loc q s r with
 | none=>exact absurd ho hr
 | some u=>exact⟨u,h2.get r u ho⟩
theorem fL.tup(h:fL K c H F p tp n s)(kp:∀ b o,H b=some o→¬ F b→H' b=some o){b:Addr}{x:List V}(e:dP K H b x):dP K H' b x:=by
 rcases e with (e | ⟨o,e⟩) | e
 ·exact .inl (.inl (kp _ _ e fun z=>(h.adw z e x).1 rfl))
 ·exact .inl (.inr ⟨o,kp _ _ e fun z=>(h.adw z e x).2 o rfl⟩)
 ·exact .inr e
theorem fL.keep(h:fL K c H F p tp n s)(kp:∀ b o,H b=some o→F b→H' b=some o)(kt:∀ b x,dP K H b x→dP K H' b x):fL K c H' F p tp n s:=by
 obtain⟨loc,dx,q,h1,h2,h3,h4⟩:=h
 exact⟨loc,dx,q,h1,h2.keep fun b o e z=>kp b o e ((h3 b).mpr z),h3,h4.mono kt⟩
end
mutual
theorem Rep.tups{K:ah}{H H':Hp}(kt:∀ b x,dP K H b x→dP K H' b x):∀ {d:PyData} {v:V},ZD d=true→Rep K H d v→Rep K H' d v
 | .none,_,_,h=>h
 | .bool _,_,_,h=>h
 | .int _,_,_,h=>h
 | .str _,_,_,h=>h
 | .list _,_,f,_=>by simp[ZD] at f
 | .tuple ds,_,f,⟨a,vs,e,q,r⟩=>⟨a,vs,e,kt _ _ q,dj.tups kt f r⟩
 | .dict _,_,_,h=>h
theorem dj.tups{K:ah}{H H':Hp}(kt:∀ b x,dP K H b x→dP K H' b x):∀ {ds:List PyData} {vs:List V},MF ds=true→dj K H ds vs→dj K H' ds vs
 | [],_,_,h=>h
 | d :: ds,_,f,⟨v,r,e,q,t⟩=>by
  have f:(ZD d && MF ds)=true:=f
  rw[fm] at f
  exact⟨v,r,e,Rep.tups kt f.1 q,dj.tups kt f.2 t⟩
end
theorem RK:∀ rs:List R5,MF (rs.map R5.D)=true
 | []=>rfl
 | r :: rs=>by
  show (ZD r.D && MF (rs.map R5.D))=true
  rw[RK rs]
  rfl
section
variable{K:ah}{c:NC}{CT:Addr}{H H':Hp}{F F':Addr→Prop}{p tp ln lr:Addr}{n:Nat}{s s':NS}{ns:List Int}{rs:List R5}
theorem dR.keep(h:dR K CT H tp ln lr ns rs)(k1:∀ b o,H b=some o→b=tp∨b=ln∨b=lr→H' b=some o)(kt:∀ b x,dP K H b x→dP K H' b x):dR K CT H' tp ln lr ns rs:=by
 obtain⟨⟨dx,h1⟩,h2,vs,h3,h4⟩:=h
 exact⟨⟨dx,k1 _ _ h1 (.inl rfl)⟩,k1 _ _ h2 (.inr (.inl rfl)),vs,k1 _ _ h3 (.inr (.inr rfl)),dj.tups kt (RK rs) h4⟩
structure NW(K:ah)(c:NC)(CT:Addr)(H:Hp)(F:Addr→Prop)(p tp ln lr:Addr)(ns:List Int)(rs:List R5)(s:NS):Prop where
 fO:fL K c H F p tp ns.length s
 Au:dR K CT H tp ln lr ns rs
 o1:¬ F tp
 o2:¬ F ln
 o3:¬ F lr
theorem NW.mono(h:NW K c CT H F p tp ln lr ns rs s)(e:aL H H'):NW K c CT H' F p tp ln lr ns rs s:=⟨h.fO.mono e,h.Au.mono e,h.o1,h.o2,h.o3⟩
theorem NW.done(h:NW K c CT H F p tp ln lr ns rs s)(st:Step H F H' F')(hn:fL K c H' F' p tp ns.length s'):NW K c CT H' F' p tp ln lr ns rs s':=by
 have kt:∀ b x,dP K H b x→dP K H' b x:=fun b x=>h.fO.tup st.kp
 obtain⟨⟨dx,h1⟩,h2,vs,h3,h4⟩:=id h.Au
 have nf:∀ b o,H b=some o→¬ F b→¬ F' b:=fun b o e nb z=>by
  rcases st.fr b z with w | w
  ·exact nb w
  ·rw[e] at w; cases w
 refine⟨hn,h.Au.keep (fun b o e q=>st.kp b o e ?_) kt,nf _ _ h1 h.o1,nf _ _ h2 h.o2,nf _ _ h3 h.o3⟩
 rcases q with rfl | rfl | rfl
 ·exact h.o1
 ·exact h.o2
 ·exact h.o3
theorem Step.refl'(e:aL H H'):Step H F H' F:=⟨fun b o q _=>e _ _ q,fun b z=>.inl z⟩
theorem Step.trans{H'':Hp}{F'':Addr→Prop}(a:Step H F H' F')(b:Step H' F' H'' F''):Step H F H'' F'':=by
 refine⟨fun x o e nf=>b.kp x o (a.kp x o e nf) fun z=>?_,fun x z=>?_⟩
 ·rcases a.fr x z with w | w
  ·exact nf w
  ·rw[e] at w; cases w
 ·rcases b.fr x z with w | w
  ·exact a.fr x w
  ·by_cases q:F x
   ·exact .inl q
   ·refine .inr ?_
    cases hx:H x with
    | none=>rfl
    | some o =>
     have:=a.kp x o hx q
     rw[this] at w
     cases w
end
theorem By.join{H:Hp}{l1 l2:Role→Addr}{o1 o2:Role→Option HO}(a:By H l1 o1)(b:By H l2 o2)(ap:∀ r q,o1 r≠none→o2 q≠none→l1 r≠l2 q) :
 By H (fun r=>if (o2 r).isSome=true then l2 r else l1 r) (fun r=>if (o2 r).isSome=true then o2 r else o1 r):=by
 have ne:∀ {r},(o2 r).isSome=true→o2 r≠none:=fun {r} h e=>by rw[e] at h; cases h
 refine⟨fun r o e=>?_,fun r q h1 h2 e=>?_⟩
 ·by_cases z:(o2 r).isSome=true
  ·rw[if_pos z] at e ⊢
   exact b.get r o e
  ·rw[if_neg z] at e ⊢
   exact a.get r o e
 ·by_cases z:(o2 r).isSome=true
  ·by_cases z':(o2 q).isSome=true
   ·simp only[z,z',if_true] at h1 h2 e
    exact b.inj r q h1 h2 e
   ·simp only[z,z',if_true,if_false] at h1 h2 e
    exact absurd e.symm (ap q r (by simpa using h2) (ne z))
  ·by_cases z':(o2 q).isSome=true
   ·simp only[z,z',if_true,if_false] at h1 h2 e
    exact absurd e (ap r q (by simpa using h1) (ne z'))
   ·simp only[z,z',if_false] at h1 h2 e
    exact a.inj r q (by simpa using h1) (by simpa using h2) e
structure Qh(H0 H:Hp)(p:Addr)(loc:Role→Addr)(ob:Role→Option HO):Prop where
 own:By H loc ob
 np:loc .fO=p
 hn:ob .fO≠none
 kp:∀ b o,H0 b=some o→b≠p→H b=some o
 fr:∀ b,Fp loc ob b→b=p∨H0 b=none
section
variable{H0 H H':Hp}{p:Addr}{loc:Role→Addr}{ob:Role→Option HO}
theorem Qh.free(h:Qh H0 H p loc ob){a:Addr}(ha:H a=none):H0 a=none:=by
 cases e:H0 a with
 | none=>rfl
 | some o =>
  by_cases z:a=p
  ·exfalso
   cases ho:ob .fO with
   | none=>exact h.hn ho
   | some u =>
    have:=h.own.get .fO u ho
    rw[h.np,← z,ha] at this
    cases this
  ·have:=h.kp a o e z
   rw[ha] at this
   cases this
theorem Qh.new(h:Qh H0 H p loc ob){a:Addr}(ha:H a=none){r:Role}(hr:r≠.fO)(o:HO):Qh H0 (upd H a o) p (DY loc r a) (kY ob r o):=by
 refine⟨h.own.new ha r o,by rw[k9 (bW hr)]; exact h.np,by rw[eN (bW hr)]; exact h.hn,fun b u e n=>?_,fun b hb=>?_⟩
 ·have:=h.kp b u e n
  rw[aP (aR this ha)]
  exact this
 ·rcases h.own.ajY hb with z | rfl
  ·exact h.fr b z
  ·exact .inr (h.free ha)
theorem Qh.put(h:Qh H0 H p loc ob)(o:HO):Qh H0 (upd H p o) p loc (kY ob .fO o):=by
 have e:=h.own.set (r:=.fO) h.hn o
 rw[h.np] at e
 refine⟨e,h.np,by rw[fM]; exact bq o,fun b u q n=>?_,fun b hb=>h.fr b ((Wm h.hn).mp hb)⟩
 rw[aP n]
 exact h.kp b u q n
theorem By.add{H H':Hp}{loc:Role→Addr}{ob:Role→Option HO}(h:By H loc ob)(s:aL H H'){a:Addr}(ha:H a=none){o:HO}(e:H' a=some o)(r:Role):By H' (DY loc r a) (kY ob r o):=by
 have h1:=h.new ha r o
 refine⟨fun q u eq=>?_,h1.inj⟩
 by_cases z:q=r
 ·subst z
  rw[fM] at eq
  cases eq
  rw[kP]
  exact e
 ·rw[eN z] at eq
  rw[k9 z]
  exact s _ _ (h.get q u eq)
theorem Qh.add(h:Qh H0 H p loc ob)(s:aL H H'){a:Addr}(ha:H a=none){o:HO}(e:H' a=some o){r:Role}(hr:r≠.fO):Qh H0 H' p (DY loc r a) (kY ob r o):=by
 have h1:=h.new ha hr o
 exact⟨h.own.add s ha e r,h1.np,h1.hn,fun b u q n=>s _ _ (h.kp b u q n),h1.fr⟩
theorem Qh.alj(h:Qh H0 H p loc ob){r:Role}(hr:ob r≠none)(nr:r≠.fO)(o:HO):Qh H0 (upd H (loc r) o) p loc (kY ob r o):=by
 refine⟨h.own.set hr o,h.np,by rw[eN (bW nr)]; exact h.hn,fun b u e n=>?_,fun b hb=>h.fr b ((Wm hr).mp hb)⟩
 have nl:b≠loc r:=fun z=>by
  rcases h.fr (loc r) ⟨r,hr,rfl⟩ with w | w
  ·exact n (z.trans w)
  ·rw[z,w] at e; cases e
 rw[aP nl]
 exact h.kp b u e n
theorem Qh.ext{loc':Role→Addr}{ob':Role→Option HO}(h:Qh H0 H p loc ob)(h1:∀ r,ob r=ob' r)(h2:∀ r,ob r≠none→loc r=loc' r):Qh H0 H p loc' ob':=by
 have e:ob=ob':=funext h1
 subst e
 refine⟨⟨fun r o e=>?_,fun r q a b e=>h.own.inj r q a b ?_⟩,?_,h.hn,h.kp,fun b hb=>?_⟩
 ·rw[← h2 r (by rw[e]; exact bq o)]
  exact h.own.get r o e
 ·rw[h2 r a,h2 q b]
  exact e
 ·rw[← h2 .fO h.hn]
  exact h.np
 ·obtain⟨r,a,e⟩:=hb
  exact h.fr b ⟨r,a,(h2 r a).trans e⟩
theorem Qh.join{l2:Role→Addr}{o2:Role→Option HO}(h:Qh H0 H p loc ob)(b:By H' l2 o2)(n2:o2 .fO=none)(fresh:∀ r,o2 r≠none→H (l2 r)=none)(s:aL H H') :
 Qh H0 H' p (fun r=>if (o2 r).isSome=true then l2 r else loc r) (fun r=>if (o2 r).isSome=true then o2 r else ob r):=by
 refine⟨(h.own.mono s).join b fun r q h1 h2 e=>?_,?_,?_,fun b o e n=>s _ _ (h.kp b o e n),fun x hx=>?_⟩
 ·cases ho:ob r with
  | none=>exact h1 ho
  | some u =>
   have:=h.own.get r u ho
   rw[e,fresh q h2] at this
   cases this
 ·show (if (o2 .fO).isSome=true then _ else _)=p
  rw[n2]
  exact h.np
 ·show (if (o2 .fO).isSome=true then _ else _)≠none
  rw[n2]
  exact h.hn
 ·obtain⟨r,h1,h2⟩:=hx
  by_cases z:(o2 r).isSome=true
  ·simp only[z,if_true] at h1 h2
   rw[← h2]
   exact .inr (h.free (fresh r h1))
  ·simp only[z,if_false] at h1 h2
   exact h.fr x ⟨r,by simpa using h1,by simpa using h2⟩
end
noncomputable def DZ(ns:List Int)(i:Nat):RM.Row:=⟨ns.getD i 0,0,0,-1⟩
noncomputable def S0(ns:List Int)(rs:List R5)(cl:List (Nat × Nat)):NS where
 ws:=rs.map fun r=>aB r.d.toNat
 R:=fun _=>DZ ns
 ts:=fun _=>[]
 bY:=cl.map (·.1)
 groups:=cl.map (·.2)
 had:=cl.map fun _=>[]
 ls:=[]
 cps:=[]
noncomputable def aet(C dx tp lu:Addr)(ls:List Addr)(ws:List (List Nat)):Role→Option HO
 | .fS=>some (.ins C dx [("town",.ref tp),("upright",.ref lu)])
 | .jY=>some (.lst (ls.map V.ref))
 | .qu i=>ws[i]?.map fun w=>.lst (bS w)
 | _=>none
noncomputable def aiw(sp lu:Addr)(ls:List Addr):Role→Addr
 | .fS=>sp
 | .jY=>lu
 | .qu i=>ls.getD i 0
 | _=>0
theorem alk{H:Hp}{C sp dx tp lu:Addr}{ls:List Addr}{ws:List (List Nat)}(h1:H sp=some (.ins C dx [("town",.ref tp),("upright",.ref lu)]))(h2:H lu=some (.lst (ls.map V.ref)))(hl:ls.length=ws.length)
 (h3:∀ (i:Nat) l w,ls[i]?=some l→ws[i]?=some w→H l=some (.lst (bS w))) (nd:ls.Nodup) (nu:lu ∉ ls):By H (aiw sp lu ls) (aet C dx tp lu ls ws):=by
 have at':∀ {i:Nat},aet C dx tp lu ls ws (.qu i)≠none→∃ (hi:i < ls.length),aiw sp lu ls (.qu i)=ls[i]:=fun {i} h=>by
  have hi:i < ls.length:=by
   rw[hl]
   by_cases z:i < ws.length
   ·exact z
   ·exact absurd (show (ws[i]?.map fun w=>HO.lst (bS w))=none by rw[i0 (by omega)]; rfl) h
  refine⟨hi,?_⟩
  show ls.getD i 0=ls[i]
  rw[aD,aa hi]
  rfl
 have wl:∀ {i:Nat} (hi:i < ls.length),∃ w,H ls[i]=some (.lst (bS w)):=fun {i} hi=>⟨ws[i]'(hl ▸ hi),h3 i _ _ (aa hi) (aa (hl ▸ hi))⟩
 have d1:sp≠lu:=abO h1 h2 (fun e=>by cases e)
 have d2:∀ {i:Nat} (hi:i < ls.length),sp≠ls[i]:=fun {i} hi=>by
  obtain⟨w,hw⟩:=wl hi
  exact abO h1 hw (fun e=>by cases e)
 have d3:∀ {i:Nat} (hi:i < ls.length),lu≠ls[i]:=fun {i} hi e=>nu (e ▸ aW hi)
 refine⟨fun r o e=>?_,fun r q e1 e2 e=>?_⟩
 ·cases r <;> first | (cases e; done) | skip
  case fS=>cases e; exact h1
  case jY=>cases e; exact h2
  case qu i =>
   obtain⟨hi,el⟩:=at' (i:=i) (by rw[e]; exact bq o)
   have hw:=aa (hl ▸ hi:i < ws.length)
   have e:(ws[i]?.map fun w=>HO.lst (bS w))=some o:=e
   rw[hw] at e
   cases e
   rw[el]
   exact h3 i _ _ (aa hi) hw
 ·cases r <;> first | exact absurd rfl e1 | skip
  all_goals cases q <;> first | exact absurd rfl e2 | rfl | skip
  case fS.jY=>exact absurd e d1
  case fS.qu i =>
   obtain⟨hi,el⟩:=at' e2
   exact absurd (e.trans el) (d2 hi)
  case jY.fS=>exact absurd e.symm d1
  case jY.qu i =>
   obtain⟨hi,el⟩:=at' e2
   exact absurd (e.trans el) (d3 hi)
  case qu.fS i =>
   obtain⟨hi,el⟩:=at' e1
   exact absurd (e.symm.trans el) (d2 hi)
  case qu.jY i =>
   obtain⟨hi,el⟩:=at' e1
   exact absurd (e.symm.trans el) (d3 hi)
  case qu.qu i j =>
   obtain⟨hi,el⟩:=at' e1
   obtain⟨hj,el'⟩:=at' e2
   rw[el,el'] at e
   have q:ls[i]?=ls[j]?:=by rw[aa hi,aa hj,e]
   have:=(yS hi nd).mp q
   rw[this]
end TW
namespace TW
open PySem L2 PyProof.Rows
structure ja(ns:List Int)(rs:List R5):Prop where
 nd:ns.Nodup
 ok:∀ r∈rs,r.Ok ns.length
 n1:1≤ns.length
 n10:ns.length≤10
 m20:rs.length≤20
 pos:∀ x∈ns,0≤x
structure Av(ns:List Int)(rs:List R5)(s:NS):Prop where
 wl:s.ws.length=rs.length
 w4:∀ w∈s.ws,w.length≤4
 fit:∀ g,g < 3→Bx ns.length rs.length (s.R g)
noncomputable abbrev ZE(rs:List R5)(ws:List (List Nat))(g:Nat):List Nat:=Em rs ws g rs.length
theorem Aw{rs:List R5}{ws:List (List Nat)}{g:Nat}:∀ k∈ZE rs ws g,k < rs.length:=fun k hk=>fQ.mp (eV.mp hk).1
noncomputable def Jc(ns:List Int)(rs:List R5)(o:ja ns rs)(ws:List (List Nat))(g:Nat):RM.Net:=bh ns rs (ZE rs ws g) o.nd o.ok Aw
section
variable{K:ah}{c:NC}{CT:Addr}{H H':Hp}{loc dx:Role→Addr}{q:TQ}{p tp ln lr:Addr}{n:Nat}{s:NS}{ns:List Int}{rs:List R5}
theorem By.strAt(O:By H loc (desc c dx tp loc q s)):adt c.str H (loc .fS) tp (loc .jY) s.ws:=by
 refine⟨⟨dx .fS,O.get .fS _ rfl⟩,(aB s.ws.length).map fun i=>loc (.qu i),?_,by rw[af,bC],fun i l w e1 e2=>?_⟩
 ·have:=O.get .jY _ rfl
  rw[this,gx]
  rfl
 ·have hi:=(aj.mp e2).1
  rw[aq,iE hi] at e1
  cases e1
  exact O.get (.qu i) _ (by show (s.ws[i]?.map _)=_; rw[e2]; rfl)
theorem By.abQ(O:By H loc (desc c dx tp loc q s)){g:Nat}(hg:g < 3):vQ c.book H (loc (.book g)) (loc (.gy g)) (s.ts g) :=
 ⟨⟨dx (.book g),O.get (.book g) _ (if_pos hg)⟩,O.get (.gy g) _ (if_pos hg)⟩
theorem sI{f:Nat→V}{m g:Nat}(h:g < m):Q7 ((aB m).map f) (g:Int)=some (f g):=gv (by rw[aq,iE h]; rfl)
theorem cZ.abR{l:Addr}{qs:List Addr}{R:Nat→RM.Row}(h:cZ K H qs (i8 n R))(hl:ck K H l (qs.map V.ref)):Bw K H l n R:=by
 have e:qs.length=n:=by rw[h.len]; simp[i8]
 refine⟨qs,hl,e,fun i p hp=>h.at' i p _ hp ?_⟩
 have hi:=(aj.mp hp).1
 unfold i8
 rw[aq,iE (by omega)]
 rfl
theorem Ax{xs:List Nat}{i:Nat}(h:i < xs.length):Q7 (bS xs) (i:Int)=some (.int (xs[i]:Nat)):=gv (by rw[aq,aa h]; rfl)
end
noncomputable def jk{α:Type}(f:Nat→α)(i:Nat)(v:α):Nat→α:=fun g=>if g=i then v else f g
theorem dF{α:Type}{f:Nat→α}{i:Nat}{v:α}:jk f i v i=v:=if_pos rfl
theorem gE{α:Type}{f:Nat→α}{i g:Nat}{v:α}(h:g≠i):jk f i v g=f g:=if_neg h
theorem By.ext{H:Hp}{loc loc':Role→Addr}{ob ob':Role→Option HO}(h:By H loc ob)(h1:∀ r,ob r=ob' r)(h2:∀ r,ob r≠none→loc r=loc' r):By H loc' ob'∧∀ b,Fp loc ob b↔Fp loc' ob' b:=by
 have e:ob=ob':=funext h1
 subst e
 refine⟨⟨fun r o e=>?_,fun r q a b e=>h.inj r q a b ?_⟩,fun b=>⟨fun ⟨r,a,e⟩=>⟨r,a,(h2 r a).symm.trans e⟩,fun ⟨r,a,e⟩=>⟨r,a,(h2 r a).trans e⟩⟩⟩
 ·rw[← h2 r (by rw[e]; exact bq o)]
  exact h.get r o e
 ·rw[h2 r a,h2 q b]
  exact e
section
variable{K:ah}{c:NC}{H H':Hp}{F:Addr→Prop}{loc dx:Role→Addr}{q:TQ}{p tp:Addr}{n g:Nat}{s:NS}
theorem abS(hp:loc .fO=p)(O:By H loc (desc c dx tp loc q s))(hF:∀ b,F b↔Fp loc (desc c dx tp loc q s) b)(hT:uZ K H n q s)(hg:g < 3){d' dx':Addr}(hd:H d'=none)
 (h1:H' (loc (.book g))=some (.ins c.book dx' [("kept",.ref d')])) (h2:H' d'=some (.dT [])) (kp:∀ b o,H b=some o→b≠loc (.book g)→H' b=some o) :
 ∃ F',fL K c H' F' p tp n { s with ts:=jk s.ts g [] }∧Step H F H' F':=by
 have nb:desc c dx tp loc q s (.book g)≠none:=by
  show (if g < 3 then some _ else none)≠none
  rw[if_pos hg]
  exact bq _
 have hbF:F (loc (.book g)):=(hF _).mpr ⟨.book g,nb,rfl⟩
 have kF:∀ b o,H b=some o→¬ F b→H' b=some o:=fun b o e z=>kp b o e fun w=>z (w ▸ hbF)
 have N0:fL K c H F p tp n s:=⟨loc,dx,q,hp,O,hF,hT⟩
 have O1:=O.set nb (.ins c.book dx' [("kept",.ref d')])
 have ndb:d'≠loc (.book g):=fun z=>by
  have:=N0.there hbF
  obtain⟨o,e⟩:=this
  rw[z,e] at hd
  cases hd
 have hd1:(upd H (loc (.book g)) (.ins c.book dx' [("kept",.ref d')])) d'=none:=by rw[aP ndb]; exact hd
 have O2:=O1.new hd1 (.gy g) (.dT [])
 have O3:By H' (DY loc (.gy g) d') (kY (kY (desc c dx tp loc q s) (.book g) (.ins c.book dx' [("kept",.ref d')])) (.gy g) (.dT [])):=by
  refine O2.keep fun b o e _=>?_
  by_cases z:b=d'
  ·rw[z,aF] at e
   cases e
   rw[z]
   exact h2
  ·rw[aP z] at e
   by_cases z2:b=loc (.book g)
   ·rw[z2,aF] at e
    cases e
    rw[z2]
    exact h1
   ·rw[aP z2] at e
    exact kp b o e z2
 obtain⟨O4,F4⟩:=O3.ext (ob':=desc c (fun r=>if r = .book g then dx' else dx r) tp (DY loc (.gy g) d') q { s with ts:=jk s.ts g [] }) (loc':=DY loc (.gy g) d') (fun r=>by
  cases r <;> first | rfl | skip
  ·rename_i k
   show kY (desc c dx tp loc q s) (.book g) _ (.book k)=(if k < 3 then some (HO.ins c.book (if Role.book k = .book g then dx' else dx (.book k)) [("kept",.ref (DY loc (.gy g) d' (.gy k)))]) else none)
   by_cases z:k=g
   ·subst z
    rw[fM,if_pos hg,if_pos rfl,kP]
   ·have z':Role.book k≠.book g:=fun e=>z (by cases e; rfl)
    have z'':Role.gy k≠.gy g:=fun e=>z (by cases e; rfl)
    rw[eN z',if_neg z',k9 z'']
    rfl
  ·rename_i k
   show kY (kY (desc c dx tp loc q s) (.book g) _) (.gy g) _ (.gy k)=(if k < 3 then some (HO.dT ((jk s.ts g [] k).map oE)) else none)
   by_cases z:k=g
   ·subst z
    rw[fM,if_pos hg,dF]
    rfl
   ·have z'':Role.gy k≠.gy g:=fun e=>z (by cases e; rfl)
    rw[eN z'',gE z]
    rfl) (fun r _=>rfl)
 refine⟨Fp _ _,⟨_,_,q,?_,O4,fun b=>Iff.rfl,⟨fun k hk=>(hT.rows k hk).mono fun b x=>N0.tup kF,fun i l e=>(hT.aU i l e).mono fun b x=>N0.tup kF,hT.cps.mono fun b x=>N0.tup kF⟩⟩,kF,fun b hb=>?_⟩
 ·rw[k9 (fun z=>by cases z)]
  exact hp
 ·rcases O1.ajY ((F4 b).mpr hb) with z | rfl
  ·exact .inl ((hF b).mpr ((Wm nb).mp z))
  ·exact .inr hd
theorem aix(hp:loc .fO=p)(O:By H loc (desc c dx tp loc q s))(hF:∀ b,F b↔Fp loc (desc c dx tp loc q s) b)(hT:uZ K H n q s)(hg:g < 3){x:Nat}(hx:x < n){a:Addr}{d:RM.Row}(ha:dP K H a (RM.fq d)) :
 ∃ F',fL K c (upd H (loc (.rows g)) (.lst (((q.rq g).map V.ref).set x (.ref a)))) F' p tp n { s with R:=jk s.R g (RM.upd (s.R g) x d) }∧Step H F (upd H (loc (.rows g)) (.lst (((q.rq g).map V.ref).set x (.ref a)))) F':=by
 have nb:desc c dx tp loc q s (.rows g)≠none:=by
  show (if g < 3 then some _ else none)≠none
  rw[if_pos hg]
  exact bq _
 have hbF:F (loc (.rows g)):=(hF _).mpr ⟨.rows g,nb,rfl⟩
 have kF:∀ b o,H b=some o→¬ F b→(upd H (loc (.rows g)) (.lst (((q.rq g).map V.ref).set x (.ref a)))) b=some o:=fun b o e z=>by
  have nw:b≠loc (.rows g):=fun w=>z (w ▸ hbF)
  rw[aP nw]
  exact e
 have N0:fL K c H F p tp n s:=⟨loc,dx,q,hp,O,hF,hT⟩
 have kt:∀ {b x},dP K H b x→_:=fun {b x} e=>N0.tup kF (b:=b) (x:=x) e
 have O1:=O.set nb (.lst (((q.rq g).map V.ref).set x (.ref a)))
 obtain⟨O4,F4⟩:=O1.ext (ob':=desc c dx tp loc { q with rq:=jk q.rq g ((q.rq g).set x a) } { s with R:=jk s.R g (RM.upd (s.R g) x d) }) (loc':=loc) (fun r=>by
  cases r <;> first | rfl | skip
  rename_i k
  show kY (desc c dx tp loc q s) (.rows g) _ (.rows k)=(if k < 3 then some (HO.lst ((jk q.rq g ((q.rq g).set x a) k).map V.ref)) else none)
  by_cases z:k=g
  ·subst z
   rw[fM,if_pos hg,dF,List.map_set]
  ·rw[eN (fun e=>z (by cases e; rfl)),gE z]
   rfl) (fun r _=>rfl)
 refine⟨Fp _ _,⟨loc,dx,_,hp,O4,fun b=>Iff.rfl,⟨fun k hk=>?_,fun i l e=>(hT.aU i l e).mono fun b x=>kt,hT.cps.mono fun b x=>kt⟩⟩,kF,fun b hb=>.inl ((hF b).mpr ((Wm nb).mp ((F4 b).mpr hb)))⟩
 show cZ K _ (jk q.rq g ((q.rq g).set x a) k) (i8 n (jk s.R g (RM.upd (s.R g) x d) k))
 by_cases z:k=g
 ·subst z
  rw[dF,dF]
  have h0:=hT.rows k hk
  have hl:(q.rq k).length=n:=by rw[h0.len]; simp[i8]
  refine⟨by rw[eY,hl]; simp[i8],fun i b v e1 e2=>?_⟩
  have hi:=(aj.mp e1).1
  rw[eY,hl] at hi
  unfold i8 at e2
  rw[aq,iE hi] at e2
  cases e2
  rw[List.getElem?_set] at e1
  by_cases w:x=i
  ·subst w
   rw[if_pos rfl,if_pos (by rw[hl]; exact hi)] at e1
   cases e1
   have:RM.upd (s.R k) x d x=d:=by unfold RM.upd; rw[if_pos rfl]
   show dP K _ a (RM.fq (RM.upd (s.R k) x d x))
   rw[this]
   exact kt ha
  ·rw[if_neg w] at e1
   have:RM.upd (s.R k) x d i=s.R k i:=by unfold RM.upd; rw[if_neg (bW w)]
   show dP K _ b (RM.fq (RM.upd (s.R k) x d i))
   rw[this]
   exact kt (h0.at' i b _ e1 (by unfold i8; rw[aq,iE hi]; rfl))
 ·rw[gE z,gE z]
  exact (hT.rows k hk).mono fun b x=>kt
end
end TW
namespace TW
open PySem L2 PyProof.Rows
end TW
namespace TW
open PySem L2 PyProof.Rows
open Classical in
noncomputable def Off(H:Hp)(F:Addr→Prop):Hp:=fun b=>if F b then none else H b
section
variable{K:ah}{c:NC}{CT:Addr}{H H':Hp}{F F' F1 F2 G:Addr→Prop}{p tp ln lr:Addr}{n:Nat}{s:NS}{ns:List Int}{rs:List R5}
theorem kJ{b:Addr}{o:HO}(h:Off H F b=some o):¬ F b∧H b=some o:=by
 unfold Off at h
 by_cases z:F b
 ·rw[if_pos z] at h; cases h
 ·rw[if_neg z] at h; exact⟨z,h⟩
theorem vS{b:Addr}{o:HO}(z:¬ F b)(h:H b=some o):Off H F b=some o:=by
 unfold Off
 rw[if_neg z]
 exact h
theorem cO:aL (Off H F) H:=fun b o e=>(kJ e).2
theorem jO(st:Step H F H' F'):aL (Off H F) (Off H' F'):=fun b o e=>by
 obtain⟨h1,h2⟩:=kJ e
 refine vS (fun z=>?_) (st.kp b o h2 h1)
 rcases st.fr b z with w | w
 ·exact h1 w
 ·rw[h2] at w; cases w
theorem fT(e:aL H H'):aL (Off H F) (Off H' F):=jO (Step.refl' e)
theorem Hq{z:Addr}{o:HO}(nz:¬ F z):Off (upd H z o) F=upd (Off H F) z o:=by
 funext b
 by_cases e:b=z
 ·subst e
  rw[aF]
  exact vS nz aF
 ·rw[aP e]
  unfold Off
  rw[aP e]
theorem fL.arp(h:fL K c H F p tp n s){b:Addr}{x:List V}(e:dP K H b x):dP K (Off H F) b x:=by
 rcases e with (e | ⟨o,e⟩) | e
 ·exact .inl (.inl (vS (fun z=>(h.adw z e x).1 rfl) e))
 ·exact .inl (.inr ⟨o,vS (fun z=>(h.adw z e x).2 o rfl) e⟩)
 ·exact .inr e
theorem dR.nw(hT:dR K CT (Off H G) tp ln lr ns rs)(N:fL K c H F p tp ns.length s)(sub:∀ b,F b→G b):NW K c CT H F p tp ln lr ns rs s:=by
 obtain⟨⟨dx,h1⟩,h2,vs,h3,h4⟩:=id hT
 exact⟨N,hT.mono cO,fun z=>(kJ h1).1 (sub _ z),fun z=>(kJ h2).1 (sub _ z),fun z=>(kJ h3).1 (sub _ z)⟩
end
noncomputable def WZ(K:ah)(H:Hp)(l:Addr)(rs:List R5):Prop:=∃ qs:List Addr,H l=some (.lst (qs.map V.ref))∧cZ K H qs (rs.map R5.vs)
theorem WZ.keep{K:ah}{H H':Hp}{l:Addr}{rs:List R5}(h:WZ K H l rs)(k:∀ o,H l=some o→H' l=some o)(kt:∀ b x,dP K H b x→dP K H' b x):WZ K H' l rs:=by
 obtain⟨qs,h1,h2⟩:=h
 exact⟨qs,k _ h1,h2.mono kt⟩
theorem WZ.aj0{K:ah}{H:Hp}{l:Addr}:∀ {rs:List R5} {qs:List Addr},cZ K H qs (rs.map R5.vs)→dj K H (rs.map R5.D) (qs.map V.ref)
 | [],[],_=>rfl
 | [],_ :: _,h=>by cases h.len
 | _ :: _,[],h=>by cases h.len
 | r :: rs,q :: qs,h=>⟨.ref q,qs.map V.ref,rfl,Rep.Wd (ns:=r.ns) (h.at' 0 q _ rfl rfl),WZ.aj0 (l:=l) ⟨Nat.succ.inj h.len,fun i p x a b=>h.at' (i + 1) p x a b⟩⟩
theorem af3{H H0 H':Hp}{F:Addr→Prop}{p:Addr}(t:aL H H0)(np:H p=none)(kp:∀ b o,H0 b=some o→b≠p→H' b=some o)(fr:∀ b,F b→b=p∨H0 b=none):aL H (Off H' F):=fun b o e=>vS (fun z=>by
 rcases fr b z with rfl | w
 ·rw[e] at np; cases np
 ·rw[t _ _ e] at w; cases w) (kp b o (t b o e) (aR e np))
end TW
namespace L2
open PySem PySem.Spec PyProof.Rows
structure abT(K:ah)(x qual:Str)(st:Stmt)(f:Addr)(fd:FuncData)(dv:Value):Prop where
 ex:∃ (oc:Value) (od:Option Addr) (T:Addr) (o:Obj) (n:Nat) (kV doc pm:Value) (an:Option Addr) (cdv ct:Value) (osl:Array (Option Value)),
  fd=ak x qual (aE st) (aC st) (ai st) (.ref T) kV doc pm an cdv ct∧K.lookup f=some ⟨oc,od,.func fd,osl⟩∧aA K cdv qual=true∧K.lookup T=some o∧o.data = .seq #[dv] n
 kp:ay K (.ref f)=true
section
variable{P:Program}{w:World}{K:ah}{mg:Str→Option Value}{base:Heap}
theorem abT.ok{x qual:Str}{st:Stmt}{f:Addr}{fd:FuncData}{dv:Value}{N ps:List Str}{k:Nat}{sp:Sp}(F:abT K x qual st f fd dv)(S:aV N ps (ai st))(len:∀ vs H Q E,sp vs H Q E→vs.length=ps.length)
 (hbody:∀ (cdv:Value) (A:Around) (outer:List Env) (s:Shared) (H:Hp) (vs:List V) (Q:VK) (E:XK),oZ k (A.deeper (envOfC qual (ai st) s.heap.objs.size f cdv))→sp vs H Q E →
  ∃ t,oS (uT lH P w K mg base N qual (ai st) f cdv A outer s H E).nox (aC st) t∧t { nx:=fun _ H'=>Q .iu H',rt:=Q } (start N vs) H):cW P w K mg base lH (k + 1) f fd ps sp:=by
 obtain⟨oc,od,T,o,n,kV,doc,pm,an,cdv,ct,osl,rfl,lk,hcd,_⟩:=F.ex
 refine afw lk hcd S len fun A outer s H vs Q E hr hsp=>?_
 obtain⟨t,h,q⟩:=hbody cdv A outer s H vs Q E hr hsp
 exact⟨t,h.nox,q⟩
theorem abT.binds{x qual:Str}{st:Stmt}{f:Addr}{fd:FuncData}{dv:Value}{ps:List Str}{ds:List Value}{m:Nat}(F:abT K x qual st f fd dv)(hm:m + ds.length=ps.length)
 (h:∀ (T:Addr) (kV doc pm:Value) (an:Option Addr) (cdv ct:Value) (us:List Value),us.length=m →
  ∃ k,bindArgs (ak x qual (aE st) (aC st) (ai st) (.ref T) kV doc pm an cdv ct) ⟨us,[]⟩=seqItems? (.ref T) >>= k∧k (some #[dv])=pure (ps.zip (us++ds))):Binds K fd ps ds:=by
 obtain⟨oc,od,T,o,n,kV,doc,pm,an,cdv,ct,osl,rfl,lk,hcd,lt,ho⟩:=F.ex
 intro s us hK hl
 obtain⟨k,h1,h2⟩:=h T kV doc pm an cdv ct us (by rw[aH] at hl; omega)
 exact PySem.W.binds_K hK rfl lt ho h1 h2
theorem adx{x qual:Str}{st:Stmt}{f T:Addr}{o:Obj}{n:Nat}{dv:Value}{oc:Value}{od an:Option Addr}{osl:Array (Option Value)}{kV doc pm cdv ct:Value}(l:K.lookup f=some ⟨oc,od,.func (ak x qual (aE st) (aC st) (ai st) (.ref T) kV doc pm an cdv ct),osl⟩)
 (c:aA K cdv qual=true) (k:ay K (.ref f)=true) (lt:K.lookup T=some o) (ho:o.data = .seq #[dv] n):abT K x qual st f (ak x qual (aE st) (aC st) (ai st) (.ref T) kV doc pm an cdv ct) dv:=⟨⟨oc,od,T,o,n,kV,doc,pm,an,cdv,ct,osl,rfl,l,c,lt,ho⟩,k⟩
end
end L2
namespace TW
open PySem L2 PyProof.Rows
structure pD(K:ah)(c:NC)(H:Hp)(F:Addr→Prop)(loc dx:Role→Addr)(q:TQ)(p tp:Addr)(n:Nat)(s:NS):Prop where
 hp:loc .fO=p
 own:By H loc (desc c dx tp loc q s)
 fp:∀ b,F b↔Fp loc (desc c dx tp loc q s) b
 tup:uZ K H n q s
section
variable{K:ah}{c:NC}{H H':Hp}{F:Addr→Prop}{loc dx:Role→Addr}{q:TQ}{p tp:Addr}{n:Nat}{s:NS}
theorem pD.fO(h:pD K c H F loc dx q p tp n s):fL K c H F p tp n s:=⟨loc,dx,q,h.hp,h.own,h.fp,h.tup⟩
theorem pD.mono(h:pD K c H F loc dx q p tp n s)(e:aL H H'):pD K c H' F loc dx q p tp n s:=⟨h.hp,h.own.mono e,h.fp,h.tup.mono fun b x=>e.dB⟩
theorem Hr(X:pD K c H F loc dx q p tp n s){r:Role}(hr:desc c dx tp loc q s r≠none){o:HO}{q':TQ}{s':NS}
 (he:∀ x,kY (desc c dx tp loc q s) r o x=desc c dx tp loc q' s' x) (hT':(∀ b x,dP K H b x→dP K (upd H (loc r) o) b x)→uZ K (upd H (loc r) o) n q' s') :
 pD K c (upd H (loc r) o) F loc dx q' p tp n s'∧Step H F (upd H (loc r) o) F:=by
 obtain⟨hp,O,hF,hT⟩:=X
 have hbF:F (loc r):=(hF _).mpr ⟨r,hr,rfl⟩
 have N0:fL K c H F p tp n s:=⟨loc,dx,q,hp,O,hF,hT⟩
 have kF:∀ b u,H b=some u→¬ F b→(upd H (loc r) o) b=some u:=fun b u e z=>cj b u e fun w=>z (w ▸ hbF)
 obtain⟨O4,F4⟩:=(O.set hr o).ext (ob':=desc c dx tp loc q' s') (loc':=loc) he (fun x _=>rfl)
 exact⟨⟨hp,O4,fun b=>(hF b).trans ((Wm hr).symm.trans (F4 b)),hT' fun b x=>N0.tup kF⟩,kF,fun b z=>.inl z⟩
theorem kZ{ls:List LS}{i k:Nat}{l':LS}(hi:i < ls.length):(ls.set i l')[k]?=if k=i then some l' else ls[k]?:=by
 rw[List.getElem?_set]
 by_cases z:i=k
 ·subst z
  rw[if_pos rfl,if_pos hi,if_pos rfl]
 ·rw[if_neg z,if_neg (bW z)]
noncomputable def pF(c:NC)(dx:Role→Addr)(loc:Role→Addr)(i:Nat)(l:LS):HO:=.ins c.post (dx (.cB i)) [("letter",.ref (loc (.letter i))),("group",.int l.grp),("old",.bl l.old),("done_at",.ref (loc (.done i))),("deeds",.ref (loc (.aU i)))]
theorem aiy(X:pD K c H F loc dx q p tp n s){i:Nat}{l:LS}(hl:s.ls[i]?=some l) :
 pD K c (upd H (loc (.cB i)) (pF c dx loc i { l with old:=true })) F loc dx q p tp n { s with ls:=s.ls.set i { l with old:=true } }∧Step H F (upd H (loc (.cB i)) (pF c dx loc i { l with old:=true })) F:=by
 have hi:=(aj.mp hl).1
 refine Hr X (r:=.cB i) (q':=q) (by show (s.ls[i]?.map _)≠none; rw[hl]; exact bq _) (fun x=>?_) (fun kt=>⟨fun g hg=>(X.tup.rows g hg).mono kt,fun k l' e=>?_,X.tup.cps.mono kt⟩)
 ·cases x <;> first | rfl | skip
  ·show some _=some (HO.lst ((aB (s.ls.set i _).length).map _))
   rw[eY]
  all_goals rename_i k
  ·show kY (desc c dx tp loc q s) (.cB i) _ (.cB k)=((s.ls.set i _)[k]?.map fun l=>pF c dx loc k l)
   rw[kZ hi]
   by_cases z:k=i
   ·subst z
    rw[fM,if_pos rfl]
    rfl
   ·rw[eN (fun e=>z (by cases e; rfl)),if_neg z]
    rfl
  ·show (s.ls[k]?.map fun l=>uY c (dx (.letter k)) l)=((s.ls.set i _)[k]?.map fun l=>uY c (dx (.letter k)) l)
   rw[kZ hi]
   by_cases z:k=i
   ·subst z
    rw[if_pos rfl,hl]
    rfl
   ·rw[if_neg z]
  ·show (s.ls[k]?.map fun l=>HO.dK (l.done.map fun h:Nat=>(iY (h:Int),.bl true)))=((s.ls.set i _)[k]?.map fun l=>HO.dK (l.done.map fun h:Nat=>(iY (h:Int),.bl true)))
   rw[kZ hi]
   by_cases z:k=i
   ·subst z
    rw[if_pos rfl,hl]
    rfl
   ·rw[if_neg z]
  ·show (s.ls[k]?.map fun _=>HO.lst ((q.dq k).map V.ref))=((s.ls.set i _)[k]?.map fun _=>HO.lst ((q.dq k).map V.ref))
   rw[kZ hi]
   by_cases z:k=i
   ·subst z
    rw[if_pos rfl,hl]
    rfl
   ·rw[if_neg z]
 ·have e:(s.ls.set i _)[k]?=some l':=e
  rw[kZ hi] at e
  by_cases z:k=i
  ·subst z
   rw[if_pos rfl] at e
   cases e
   exact (X.tup.aU k l hl).mono kt
  ·rw[if_neg z] at e
   exact (X.tup.aU k l' e).mono kt
theorem af4(X:pD K c H F loc dx q p tp n s){i:Nat}{l:LS}(hl:s.ls[i]?=some l)(ds:List Nat) :
 pD K c (upd H (loc (.done i)) (.dK (ds.map fun h:Nat=>(iY (h:Int),.bl true)))) F loc dx q p tp n { s with ls:=s.ls.set i { l with done:=ds } }∧Step H F (upd H (loc (.done i)) (.dK (ds.map fun h:Nat=>(iY (h:Int),.bl true)))) F:=by
 have hi:=(aj.mp hl).1
 refine Hr X (r:=.done i) (q':=q) (by show (s.ls[i]?.map _)≠none; rw[hl]; exact bq _) (fun x=>?_) (fun kt=>⟨fun g hg=>(X.tup.rows g hg).mono kt,fun k l' e=>?_,X.tup.cps.mono kt⟩)
 ·cases x <;> first | rfl | skip
  ·show some _=some (HO.lst ((aB (s.ls.set i _).length).map _))
   rw[eY]
  all_goals rename_i k
  ·show (s.ls[k]?.map fun l=>pF c dx loc k l)=((s.ls.set i _)[k]?.map fun l=>pF c dx loc k l)
   rw[kZ hi]
   by_cases z:k=i
   ·subst z
    rw[if_pos rfl,hl]
    rfl
   ·rw[if_neg z]
  ·show (s.ls[k]?.map fun l=>uY c (dx (.letter k)) l)=((s.ls.set i _)[k]?.map fun l=>uY c (dx (.letter k)) l)
   rw[kZ hi]
   by_cases z:k=i
   ·subst z
    rw[if_pos rfl,hl]
    rfl
   ·rw[if_neg z]
  ·show kY (desc c dx tp loc q s) (.done i) _ (.done k)=((s.ls.set i _)[k]?.map fun l=>HO.dK (l.done.map fun h:Nat=>(iY (h:Int),.bl true)))
   rw[kZ hi]
   by_cases z:k=i
   ·subst z
    rw[fM,if_pos rfl]
    rfl
   ·rw[eN (fun e=>z (by cases e; rfl)),if_neg z]
    rfl
  ·show (s.ls[k]?.map fun _=>HO.lst ((q.dq k).map V.ref))=((s.ls.set i _)[k]?.map fun _=>HO.lst ((q.dq k).map V.ref))
   rw[kZ hi]
   by_cases z:k=i
   ·subst z
    rw[if_pos rfl,hl]
    rfl
   ·rw[if_neg z]
 ·have e:(s.ls.set i _)[k]?=some l':=e
  rw[kZ hi] at e
  by_cases z:k=i
  ·subst z
   rw[if_pos rfl] at e
   cases e
   exact (X.tup.aU k l hl).mono kt
  ·rw[if_neg z] at e
   exact (X.tup.aU k l' e).mono kt
theorem K3(X:pD K c H F loc dx q p tp n s){i:Nat}{l:LS}(hl:s.ls[i]?=some l){a:Addr}{d:eS}(ha:dP K H a d.vs) :
 pD K c (upd H (loc (.aU i)) (.lst ((q.dq i).map V.ref++[.ref a]))) F loc dx { q with dq:=jk q.dq i (q.dq i++[a]) } p tp n { s with ls:=s.ls.set i { l with aU:=l.aU++[d] } }∧Step H F (upd H (loc (.aU i)) (.lst ((q.dq i).map V.ref++[.ref a]))) F:=by
 have hi:=(aj.mp hl).1
 refine Hr X (r:=.aU i) (q':={ q with dq:=jk q.dq i (q.dq i++[a]) }) (by show (s.ls[i]?.map _)≠none; rw[hl]; exact bq _) (fun x=>?_) (fun kt=>⟨fun g hg=>(X.tup.rows g hg).mono kt,fun k l' e=>?_,X.tup.cps.mono kt⟩)
 ·cases x <;> first | rfl | skip
  ·show some _=some (HO.lst ((aB (s.ls.set i _).length).map _))
   rw[eY]
  all_goals rename_i k
  ·show (s.ls[k]?.map fun l=>pF c dx loc k l)=((s.ls.set i _)[k]?.map fun l=>pF c dx loc k l)
   rw[kZ hi]
   by_cases z:k=i
   ·subst z
    rw[if_pos rfl,hl]
    rfl
   ·rw[if_neg z]
  ·show (s.ls[k]?.map fun l=>uY c (dx (.letter k)) l)=((s.ls.set i _)[k]?.map fun l=>uY c (dx (.letter k)) l)
   rw[kZ hi]
   by_cases z:k=i
   ·subst z
    rw[if_pos rfl,hl]
    rfl
   ·rw[if_neg z]
  ·show (s.ls[k]?.map fun l=>HO.dK (l.done.map fun h:Nat=>(iY (h:Int),.bl true)))=((s.ls.set i _)[k]?.map fun l=>HO.dK (l.done.map fun h:Nat=>(iY (h:Int),.bl true)))
   rw[kZ hi]
   by_cases z:k=i
   ·subst z
    rw[if_pos rfl,hl]
    rfl
   ·rw[if_neg z]
  ·show kY (desc c dx tp loc q s) (.aU i) _ (.aU k)=((s.ls.set i _)[k]?.map fun _=>HO.lst ((jk q.dq i (q.dq i++[a]) k).map V.ref))
   rw[kZ hi]
   by_cases z:k=i
   ·subst z
    rw[fM,if_pos rfl,dF,aO]
    rfl
   ·rw[eN (fun e=>z (by cases e; rfl)),if_neg z,gE z]
    rfl
 ·show cZ K _ (jk q.dq i (q.dq i++[a]) k) _
  have e:(s.ls.set i _)[k]?=some l':=e
  rw[kZ hi] at e
  by_cases z:k=i
  ·subst z
   rw[if_pos rfl] at e
   cases e
   rw[dF]
   show cZ K _ _ ((l.aU++[d]).map eS.vs)
   rw[aO]
   have h0:=(X.tup.aU k l hl).mono kt
   refine⟨by rw[aH,aH,h0.len]; rfl,fun j b x e1 e2=>?_⟩
   rcases K0 e1 with e1 | ⟨rfl,rfl⟩
   ·have hj:=(aj.mp e1).1
    rw[cH (by rw[← h0.len]; exact hj)] at e2
    exact h0.at' j b x e1 e2
   ·rw[h0.len,cu (aK _)] at e2
    rw[kD] at e2
    cases e2
    exact kt _ _ ha
  ·rw[if_neg z] at e
   rw[gE z]
   exact (X.tup.aU k l' e).mono kt
theorem ady(X:pD K c H F loc dx q p tp n s){qs:List Addr}{cps:List Cp}(hq:cZ K H qs (cps.map Cp.vs)) :
 pD K c (upd H (loc .nN) (.lst (qs.map V.ref))) F loc dx { q with cq:=qs } p tp n { s with cps:=cps }∧Step H F (upd H (loc .nN) (.lst (qs.map V.ref))) F :=
 Hr X (r:=.nN) (q':={ q with cq:=qs }) (bq _) (fun x=>by cases x <;> rfl) (fun kt=>⟨fun g hg=>(X.tup.rows g hg).mono kt,fun k l e=>(X.tup.aU k l e).mono kt,hq.mono kt⟩)
theorem af5(X:pD K c H F loc dx q p tp n s){i:Nat}(hi:i < s.had.length)(hd:List Nat) :
 pD K c (upd H (loc (.handed i)) (.lst (bS hd))) F loc dx q p tp n { s with had:=s.had.set i hd }∧Step H F (upd H (loc (.handed i)) (.lst (bS hd))) F:=by
 refine Hr X (r:=.handed i) (q':=q) (by show (s.had[i]?.map _)≠none; rw[aa hi]; exact bq _) (fun x=>?_) (fun kt=>⟨fun g hg=>(X.tup.rows g hg).mono kt,fun k l e=>(X.tup.aU k l e).mono kt,X.tup.cps.mono kt⟩)
 cases x <;> first | rfl | skip
 ·show some _=some (HO.lst ((aB (s.had.set i _).length).map _))
  rw[eY]
 ·rename_i k
  show kY (desc c dx tp loc q s) (.handed i) _ (.handed k)=((s.had.set i hd)[k]?.map fun w=>HO.lst (bS w))
  rw[List.getElem?_set]
  by_cases z:k=i
  ·subst z
   rw[fM,if_pos rfl,if_pos hi]
   rfl
  ·rw[eN (fun e=>z (by cases e; rfl)),if_neg (bW z)]
   rfl
end
end TW
namespace TW
open PySem L2 PyProof.Rows
theorem af6{α:Type}{xs:List α}{i:Nat}{x:α}(h:xs[i]?=some x):xs.set i x=xs:=by
 obtain⟨hi,rfl⟩:=aj.mp h
 exact List.set_getElem_self hi
noncomputable def D0(c:NC)(Mr W0 la da ea:Addr)(n:Nat)(l:LS):Role→Option HO
 | .cB i=>if i=n then some (.ins c.post Mr [("letter",.ref la),("group",.int l.grp),("old",.bl l.old),("done_at",.ref da),("deeds",.ref ea)]) else none
 | .letter i=>if i=n then some (uY c W0 l) else none
 | .done i=>if i=n then some (.dK (l.done.map fun h:Nat=>(iY (h:Int),.bl true))) else none
 | .aU i=>if i=n then some (.lst []) else none
 | _=>none
noncomputable def newL(pa la da ea:Addr):Role→Addr
 | .cB _=>pa
 | .letter _=>la
 | .done _=>da
 | .aU _=>ea
 | _=>0
section
variable{K:ah}{c:NC}{H H':Hp}{F:Addr→Prop}{loc dx:Role→Addr}{q:TQ}{p tp:Addr}{n:Nat}{s:NS}
theorem alm{Mr W0 pa la da ea:Addr}{l:LS}(h1:H pa=some (.ins c.post Mr [("letter",.ref la),("group",.int l.grp),("old",.bl l.old),("done_at",.ref da),("deeds",.ref ea)]))(h2:H la=some (uY c W0 l))(h3:H da=some (.dK (l.done.map fun h:Nat=>(iY (h:Int),.bl true))))(h4:H ea=some (.lst []))
 (d1:pa≠la) (d2:pa≠da) (d3:pa≠ea) (d4:la≠da) (d5:la≠ea) (d6:da≠ea):By H (newL pa la da ea) (D0 c Mr W0 la da ea n l):=by
 have one:∀ {i:Nat} {o:HO} {o':HO},(if i=n then some o else none)=some o'→o=o'∧i=n:=fun {i o o'} e=>by
  by_cases z:i=n
  ·rw[if_pos z] at e; cases e; exact⟨rfl,z⟩
  ·rw[if_neg z] at e; cases e
 have an9:∀ {i:Nat} {o:HO},(if i=n then some o else none)≠none→i=n:=fun {i o} e=>by
  by_cases z:i=n
  ·exact z
  ·rw[if_neg z] at e; exact absurd rfl e
 refine⟨fun r o e=>?_,fun r q' a b e=>?_⟩
 ·cases r <;> first | (cases e; done) | skip
  ·rw[← (one e).1]; exact h1
  ·rw[← (one e).1]; exact h2
  ·rw[← (one e).1]; exact h3
  ·rw[← (one e).1]; exact h4
 ·cases r <;> first | exact absurd rfl a | skip
  all_goals cases q' <;> first | exact absurd rfl b | skip
  all_goals first
   | (rw[an9 a,an9 b]; done)
   | exact absurd e d1
   | exact absurd e.symm d1
   | exact absurd e d2
   | exact absurd e.symm d2
   | exact absurd e d3
   | exact absurd e.symm d3
   | exact absurd e d4
   | exact absurd e.symm d4
   | exact absurd e d5
   | exact absurd e.symm d5
   | exact absurd e d6
   | exact absurd e.symm d6
end
section
variable{K:ah}{c:NC}{H H':Hp}{F:Addr→Prop}{loc dx:Role→Addr}{q:TQ}{p tp:Addr}{n:Nat}{s:NS}
theorem af7(hp:loc .fO=p)(O:By H loc (desc c dx tp loc q s))(hF:∀ b,F b↔Fp loc (desc c dx tp loc q s) b)(hT:uZ K H n q s){Mr W0 pa la da ea:Addr}{l:LS}(hd:l.aU = [])
 (h1:H pa=some (.ins c.post Mr [("letter",.ref la),("group",.int l.grp),("old",.bl l.old),("done_at",.ref da),("deeds",.ref ea)])) (h2:H la=some (uY c W0 l)) (h3:H da=some (.dK (l.done.map fun h:Nat=>(iY (h:Int),.bl true)))) (h4:H ea=some (.lst []))
 (d1:pa≠la) (d2:pa≠da) (d3:pa≠ea) (d4:la≠da) (d5:la≠ea) (d6:da≠ea) (n1:¬ F pa) (n2:¬ F la) (n3:¬ F da) (n4:¬ F ea) :
 ∃ F',fL K c (upd H (loc .c6) (.lst (((aB s.ls.length).map fun i=>.ref (loc (.cB i)))++[.ref pa]))) F' p tp n { s with ls:=s.ls++[l] } ∧
  (∀ b o,H b=some o→¬ F b→(upd H (loc .c6) (.lst (((aB s.ls.length).map fun i=>.ref (loc (.cB i)))++[.ref pa]))) b=some o)∧∀ b,F' b→F b∨b=pa∨b=la∨b=da∨b=ea:=by
 have arq:=alm (n:=s.ls.length) (c:=c) h1 h2 h3 h4 d1 d2 d3 d4 d5 d6
 have N0:fL K c H F p tp n s:=⟨loc,dx,q,hp,O,hF,hT⟩
 have nb:desc c dx tp loc q s .c6≠none:=bq _
 have hbF:F (loc .c6):=(hF _).mpr ⟨.c6,nb,rfl⟩
 have out:∀ r,D0 c Mr W0 la da ea s.ls.length l r≠none→¬ F (newL pa la da ea r):=fun r h=>by
  cases r <;> first | exact absurd rfl h | assumption
 have kF:∀ b o,H b=some o→¬ F b→(upd H (loc .c6) (.lst (((aB s.ls.length).map fun i=>.ref (loc (.cB i)))++[.ref pa]))) b=some o:=fun b u e z=>cj b u e fun w=>z (w ▸ hbF)
 have kt:∀ b x,dP K H b x→dP K _ b x:=fun b x=>N0.tup kF
 have J:=O.join arq fun r q' a b e=>out q' b (e ▸ (hF _).mpr ⟨r,a,rfl⟩)
 have S:=J.set (r:=.c6) nb (.lst (((aB s.ls.length).map fun i=>V.ref (loc (.cB i)))++[.ref pa]))
 have at':∀ {k:Nat},k≠s.ls.length→(s.ls++[l])[k]?=s.ls[k]?:=fun {k} z=>by
  by_cases w:k < s.ls.length
  ·exact cH w
  ·rw[i0 (by rw[aH]; show s.ls.length + 1≤k; omega),i0 (by omega)]
 have atn:(s.ls++[l])[s.ls.length]?=some l:=by rw[cu (aK _),kD]; rfl
 obtain⟨O4,F4⟩:=S.ext (ob':=desc c (fun r=>if r = .cB s.ls.length then Mr else if r = .letter s.ls.length then W0 else dx r) tp (fun r=>if (D0 c Mr W0 la da ea s.ls.length l r).isSome=true then newL pa la da ea r else loc r) { q with dq:=jk q.dq s.ls.length [] } { s with ls:=s.ls++[l] })
  (loc':=fun r=>if (D0 c Mr W0 la da ea s.ls.length l r).isSome=true then newL pa la da ea r else loc r) (fun r=>by
   cases r <;> first | rfl | skip
   ·
    show some _=some (HO.lst ((aB (s.ls++[l]).length).map _))
    rw[aH]
    show _=some (HO.lst ((aB (s.ls.length + 1)).map _))
    rw[oV,aO]
    congr 2
    congr 1
    ·refine eX fun i hi=>?_
     have z:i≠s.ls.length:=by have:=fQ.mp hi; omega
     simp[D0,z]
    ·simp[D0,newL]
   all_goals rename_i k
   all_goals by_cases z:k=s.ls.length
   all_goals first | subst z | skip
   all_goals rw[eN (fun e=>by cases e)]
   ·simp[D0,newL,desc,atn]
   ·have:=at' z
    simp[D0,newL,desc,z,this]
   ·simp[D0,newL,desc,atn]
   ·have:=at' z
    simp[D0,newL,desc,z,this]
   ·simp[D0,newL,desc,atn]
   ·have:=at' z
    simp[D0,newL,desc,z,this]
   ·simp[D0,newL,desc,atn,dF]
   ·have:=at' z
    simp[D0,newL,desc,z,this,gE z]) (fun r _=>rfl)
 refine⟨Fp _ _,⟨fun r=>if (D0 c Mr W0 la da ea s.ls.length l r).isSome=true then newL pa la da ea r else loc r,_,_,hp,O4,fun b=>Iff.rfl,⟨fun g hg=>(hT.rows g hg).mono kt,fun k l' e=>?_,hT.cps.mono kt⟩⟩,kF,fun b hb=>?_⟩
 ·have e:(s.ls++[l])[k]?=some l':=e
  show cZ K _ (jk q.dq s.ls.length [] k) _
  by_cases z:k=s.ls.length
  ·subst z
   rw[atn] at e
   cases e
   rw[dF,hd]
   exact⟨rfl,fun i b x e=>by cases e⟩
  ·rw[at' z] at e
   rw[gE z]
   exact (hT.aU k l' e).mono kt
 ·obtain⟨r,a,e⟩:=(Wm (ob:=fun r=>if (D0 c Mr W0 la da ea s.ls.length l r).isSome=true then D0 c Mr W0 la da ea s.ls.length l r else desc c dx tp loc q s r) (r:=.c6) nb).mp ((F4 b).mpr hb)
  by_cases z:(D0 c Mr W0 la da ea s.ls.length l r).isSome=true
  ·simp only[z,if_true] at e
   subst e
   right
   cases r <;> first | (cases z; done) | skip
   ·exact .inl rfl
   ·exact .inr (.inl rfl)
   ·exact .inr (.inr (.inl rfl))
   ·exact .inr (.inr (.inr rfl))
  ·simp only[z,if_false] at a e
   exact .inl ((hF b).mpr ⟨r,by simpa using a,by simpa using e⟩)
end
end TW
namespace TW
open PySem L2 PyProof.Rows
theorem adz(a b x y:Int):PyData.eqv (.tuple (([a,b]:List Int).map .int)) (.tuple (([x,y]:List Int).map .int))=decide (a=x∧b=y):=by
 show (PyData.eqv (.int a) (.int x) && (PyData.eqv (.int b) (.int y) && true))=_
 show ((a == x) && ((b == y) && true))=_
 rw[Bool.and_true,oX]
 simp
noncomputable def rG(s:NS)(i:Nat)(d:eS):NS:=match s.ls[i]? with | some l=>{ s with ls:=s.ls.set i { l with aU:=l.aU++[d] } } | none=>s
theorem gF{s:NS}{i:Nat}{d:eS}{l:LS}(h:s.ls[i]?=some l):rG s i d = { s with ls:=s.ls.set i { l with aU:=l.aU++[d] } }:=by
 unfold rG
 rw[h]
theorem Wn{α:Type}{f:α→Bool}{xs:List α}{i:Nat}(hi:i < xs.length):(xs.take (i + 1)).filter f=(xs.take i).filter f++if f xs[i]=true then [xs[i]] else []:=by
 rw[k7 hi,kG]
 congr 1
 cases e:f xs[i]
 ·rw[if_neg (by decide),mO (by rw[e]; decide)]; rfl
 ·rw[if_pos rfl,vJ e]; rfl
theorem cZ.snoc{K:ah}{H:Hp}{qs:List Addr}{xs:List (List V)}{a:Addr}{x:List V}(h:cZ K H qs xs)(ha:dP K H a x):cZ K H (qs++[a]) (xs++[x]):=by
 refine⟨by rw[aH,aH,h.len]; rfl,fun j b y e1 e2=>?_⟩
 rcases K0 e1 with e1 | ⟨rfl,rfl⟩
 ·have hj:=(aj.mp e1).1
  rw[cH (by rw[← h.len]; exact hj)] at e2
  exact h.at' j b y e1 e2
 ·rw[h.len,cu (aK _),kD] at e2
  cases e2
  exact ha
end TW
set_option maxHeartbeats 4000000
namespace jG
open PySem L2
noncomputable def top (i:Nat):Stmt:=PySem.Challenge.pw_knotless_k30_story_of_a_letter_to_all.main.body.getD i (.Pass ⟨0,0,0,0⟩)
noncomputable abbrev gG:Stmt:=(inClass (top 2) 0)
noncomputable abbrev iH:Stmt:=(inClass (top 2) 1)
noncomputable abbrev iI:Stmt:=(inClass (top 2) 2)
noncomputable abbrev gH:Stmt:=(inClass (top 2) 4)
noncomputable abbrev kQ:Stmt:=(top 4)
noncomputable abbrev jD:Stmt:=(top 5)
noncomputable abbrev fz:Stmt:=(inClass (top 17) 0)
noncomputable abbrev fU:Stmt:=(inClass (top 17) 1)
noncomputable abbrev fV:Stmt:=(inClass (top 17) 2)
noncomputable abbrev fB:Stmt:=(inClass (top 17) 3)
noncomputable abbrev fW:Stmt:=(inClass (top 18) 0)
noncomputable abbrev gI:Stmt:=(inClass (top 18) 1)
noncomputable abbrev gJ:Stmt:=(inClass (top 18) 2)
noncomputable abbrev fX:Stmt:=(inClass (top 18) 3)
noncomputable abbrev gK:Stmt:=(inClass (top 19) 0)
noncomputable abbrev mh:Stmt:=(top 21)
noncomputable abbrev u0:Stmt:=(top 22)
noncomputable abbrev K4:Stmt:=(top 23)
noncomputable abbrev HW:Stmt:=(top 25)
noncomputable abbrev rH:Stmt:=(top 26)
noncomputable abbrev kR:Stmt:=(top 28)
noncomputable abbrev vc:Stmt:=(top 29)
noncomputable abbrev gM:Stmt:=(inClass (top 36) 0)
noncomputable abbrev jl:Stmt:=(inClass (top 36) 1)
noncomputable abbrev jm:Stmt:=(inClass (top 36) 2)
noncomputable abbrev ee:Stmt:=(inClass (top 36) 3)
noncomputable abbrev fY:Stmt:=(inClass (top 36) 4)
noncomputable abbrev jn:Stmt:=(inClass (top 36) 5)
noncomputable abbrev gO:Stmt:=(top 37)
noncomputable abbrev gQ:Stmt:=(top 38)
noncomputable abbrev iJ:Stmt:=(top 39)
noncomputable abbrev jo:Stmt:=(top 40)
noncomputable abbrev dG:Stmt:=(inClass (top 42) 0)
noncomputable abbrev c7:Stmt:=(inClass (top 42) 3)
noncomputable abbrev c8:Stmt:=(inClass (top 42) 4)
noncomputable abbrev fh:Stmt:=(inClass (top 42) 5)
noncomputable abbrev jZ:Stmt:=(top 43)
noncomputable abbrev gR:Stmt:=(top 44)
noncomputable abbrev fC:Stmt:=(inClass (top 47) 0)
noncomputable abbrev dJ:Stmt:=(inClass (top 48) 0)
noncomputable abbrev j0:Stmt:=(inClass (top 48) 1)
noncomputable abbrev j3:Stmt:=(inClass (top 48) 2)
noncomputable abbrev jq:Stmt:=(inClass (top 48) 3)
noncomputable abbrev iK:Stmt:=(inClass (top 48) 6)
noncomputable abbrev j4:Stmt:=(inClass (top 48) 7)
noncomputable abbrev mj:Stmt:=(inClass (top 48) 11)
noncomputable abbrev j5:Stmt:=(inClass (top 48) 13)
noncomputable abbrev iL:Stmt:=(inClass (top 48) 14)
noncomputable abbrev gS:Stmt:=(inClass (top 48) 15)
noncomputable abbrev jr:Stmt:=(inClass (top 48) 16)
noncomputable abbrev gT:Stmt:=(inClass (top 48) 17)
noncomputable abbrev fD:Stmt:=(inClass (top 48) 18)
noncomputable abbrev dH:Stmt:=(inClass (top 48) 19)
noncomputable abbrev j6:Stmt:=(inClass (top 48) 20)
noncomputable abbrev fE:Stmt:=(inClass (top 48) 22)
noncomputable abbrev dM:Stmt:=(inClass (top 48) 24)
noncomputable abbrev c9:Stmt:=(inClass (top 48) 25)
noncomputable abbrev ez:Stmt:=(inClass (top 48) 26)
noncomputable abbrev gU:Stmt:=(top 49)
noncomputable abbrev fF:Stmt:=(top 50)
noncomputable abbrev jt:Stmt:=(top 52)
noncomputable abbrev mq:Stmt:=(top 53)
noncomputable abbrev mw:Stmt:=(top 54)
noncomputable abbrev mz:Stmt:=(top 55)
noncomputable abbrev ju:Stmt:=(top 56)
noncomputable abbrev j7:Stmt:=(top 57)
noncomputable abbrev fj:Stmt:=(top 58)
noncomputable abbrev vd:Stmt:=(top 59)
noncomputable abbrev jb:Stmt:=(top 60)
noncomputable abbrev Et:Stmt:=(top 61)
theorem RL:aV ["self"] ["self"] (ai gG):=⟨rfl,rfl,rfl,by decide +kernel,rfl,by decide +kernel,by decide +kernel⟩
theorem UU:aV ["self","house","caller","rope"] ["self","house","caller","rope"] (ai iH):=⟨rfl,rfl,rfl,by decide +kernel,rfl,by decide +kernel,by decide +kernel⟩
theorem UW:aV ["self","house","caller"] ["self","house","caller"] (ai iI):=⟨rfl,rfl,rfl,by decide +kernel,rfl,by decide +kernel,by decide +kernel⟩
theorem RN:aV ["self"] ["self"] (ai gH):=⟨rfl,rfl,rfl,by decide +kernel,rfl,by decide +kernel,by decide +kernel⟩
theorem RO:aV ["book","letter","house","came","open_here","here","handed"] ["book","letter","house","came","open_here","here"] (ai kQ):=⟨rfl,rfl,rfl,by decide +kernel,rfl,by decide +kernel,by decide +kernel⟩
theorem UX:(["caller","letter"]:List Str).Nodup:=by decide +kernel
theorem Eu:aV ["book","sought","house","came","open_here","here","noted","leading"] ["book","sought","house","came","open_here","here"] (ai jD):=⟨rfl,rfl,rfl,by decide +kernel,rfl,by decide +kernel,by decide +kernel⟩
theorem RP:(["rope","came"]:List Str).Nodup:=by decide +kernel
theorem MG:aV ["self","sender"] ["self","sender"] (ai fz):=⟨rfl,rfl,rfl,by decide +kernel,rfl,by decide +kernel,by decide +kernel⟩
theorem Qi:aV ["self","caller"] ["self","caller"] (ai fU):=⟨rfl,rfl,rfl,by decide +kernel,rfl,by decide +kernel,by decide +kernel⟩
theorem Qj:aV ["self"] ["self"] (ai fV):=⟨rfl,rfl,rfl,by decide +kernel,rfl,by decide +kernel,by decide +kernel⟩
theorem MH:aV ["self"] ["self"] (ai fB):=⟨rfl,rfl,rfl,by decide +kernel,rfl,by decide +kernel,by decide +kernel⟩
theorem Qk:aV ["self","sender","to"] ["self","sender","to"] (ai fW):=⟨rfl,rfl,rfl,by decide +kernel,rfl,by decide +kernel,by decide +kernel⟩
theorem RQ:aV ["self","caller"] ["self","caller"] (ai gI):=⟨rfl,rfl,rfl,by decide +kernel,rfl,by decide +kernel,by decide +kernel⟩
theorem RS:aV ["self"] ["self"] (ai gJ):=⟨rfl,rfl,rfl,by decide +kernel,rfl,by decide +kernel,by decide +kernel⟩
theorem Ql:aV ["self"] ["self"] (ai fX):=⟨rfl,rfl,rfl,by decide +kernel,rfl,by decide +kernel,by decide +kernel⟩
theorem RT:aV ["self","caller"] ["self","caller"] (ai gK):=⟨rfl,rfl,rfl,by decide +kernel,rfl,by decide +kernel,by decide +kernel⟩
theorem abU:aV ["town","house"] ["town","house"] (ai mh):=⟨rfl,rfl,rfl,by decide +kernel,rfl,by decide +kernel,by decide +kernel⟩
theorem ZF:aV ["town","row","rope","hops"] ["town","row","rope"] (ai u0):=⟨rfl,rfl,rfl,by decide +kernel,rfl,by decide +kernel,by decide +kernel⟩
theorem RU:aV ["town","live","rows","house","least","rope","made"] ["town","live","rows","house"] (ai K4):=⟨rfl,rfl,rfl,by decide +kernel,rfl,by decide +kernel,by decide +kernel⟩
theorem aln:aV ["town","live","rows"] ["town","live","rows"] (ai HW):=⟨rfl,rfl,rfl,by decide +kernel,rfl,by decide +kernel,by decide +kernel⟩
theorem aeu:(["house","live","rows","town"]:List Str).Nodup:=by decide +kernel
theorem af8:aV ["town","live","rows"] ["town","live","rows"] (ai rH):=⟨rfl,rfl,rfl,by decide +kernel,rfl,by decide +kernel,by decide +kernel⟩
theorem ZG:(["up"]:List Str).Nodup:=by decide +kernel
theorem RV:aV ["town","live","rows","house","joined"] ["town","live","rows","house"] (ai kR):=⟨rfl,rfl,rfl,by decide +kernel,rfl,by decide +kernel,by decide +kernel⟩
theorem UY:(["rope","joined"]:List Str).Nodup:=by decide +kernel
theorem RW:aV ["town","live","rows","house","rope","other"] ["town","live","rows","house"] (ai vc):=⟨rfl,rfl,rfl,by decide +kernel,rfl,by decide +kernel,by decide +kernel⟩
theorem RX:aV ["self","names","ropes"] ["self","names","ropes"] (ai gM):=⟨rfl,rfl,rfl,by decide +kernel,rfl,by decide +kernel,by decide +kernel⟩
theorem W1:aV ["self","house"] ["self","house"] (ai jl):=⟨rfl,rfl,rfl,by decide +kernel,rfl,by decide +kernel,by decide +kernel⟩
theorem W8:aV ["self","number"] ["self","number"] (ai jm):=⟨rfl,rfl,rfl,by decide +kernel,rfl,by decide +kernel,by decide +kernel⟩
theorem MI:aV ["self","house"] ["self","house"] (ai ee):=⟨rfl,rfl,rfl,by decide +kernel,rfl,by decide +kernel,by decide +kernel⟩
theorem uy:(["number","rope","house"]:List Str).Nodup:=by decide +kernel
theorem C9:aV ["self","rope","house","ends"] ["self","rope","house"] (ai fY):=⟨rfl,rfl,rfl,by decide +kernel,rfl,by decide +kernel,by decide +kernel⟩
theorem Xa:aV ["self","rope","group"] ["self","rope","group"] (ai jn):=⟨rfl,rfl,rfl,by decide +kernel,rfl,by decide +kernel,by decide +kernel⟩
theorem RY:aV ["names"] ["names"] (ai gO):=⟨rfl,rfl,rfl,by decide +kernel,rfl,by decide +kernel,by decide +kernel⟩
theorem Ew:aV ["size","ropes","rope"] ["size","ropes"] (ai gQ):=⟨rfl,rfl,rfl,by decide +kernel,rfl,by decide +kernel,by decide +kernel⟩
theorem UZ:aV ["size","rope"] ["size","rope"] (ai iJ):=⟨rfl,rfl,rfl,by decide +kernel,rfl,by decide +kernel,by decide +kernel⟩
theorem Xb:aV ["size","one","other"] ["size","one","other"] (ai jo):=⟨rfl,rfl,rfl,by decide +kernel,rfl,by decide +kernel,by decide +kernel⟩
theorem K5:aV ["self","town"] ["self","town"] (ai dG):=⟨rfl,rfl,rfl,by decide +kernel,rfl,by decide +kernel,by decide +kernel⟩
theorem Ey:(["rope","town"]:List Str).Nodup:=by decide +kernel
theorem HD:aV ["self","rope"] ["self","rope"] (ai c7):=⟨rfl,rfl,rfl,by decide +kernel,rfl,by decide +kernel,by decide +kernel⟩
theorem uz:aV ["self","rope","number","stand"] ["self","rope","number"] (ai c8):=⟨rfl,rfl,rfl,by decide +kernel,rfl,by decide +kernel,by decide +kernel⟩
theorem Qm:aV ["self","group"] ["self","group"] (ai fh):=⟨rfl,rfl,rfl,by decide +kernel,rfl,by decide +kernel,by decide +kernel⟩
theorem Jd:(["rope","group","self"]:List Str).Nodup:=by decide +kernel
theorem ZH:aV ["town","rope"] ["town","rope"] (ai jZ):=⟨rfl,rfl,rfl,by decide +kernel,rfl,by decide +kernel,by decide +kernel⟩
theorem RZ:aV ["group"] ["group"] (ai gR):=⟨rfl,rfl,rfl,by decide +kernel,rfl,by decide +kernel,by decide +kernel⟩
theorem MJ:aV ["self","letter","group"] ["self","letter","group"] (ai fC):=⟨rfl,rfl,rfl,by decide +kernel,rfl,by decide +kernel,by decide +kernel⟩
theorem U0:aV ["self","town","callers"] ["self","town","callers"] (ai dJ):=⟨rfl,rfl,rfl,by decide +kernel,rfl,by decide +kernel,by decide +kernel⟩
theorem MK:(["bit","town"]:List Str).Nodup:=by decide +kernel
theorem ML:(["bit"]:List Str).Nodup:=by decide +kernel
theorem MM:(["caller"]:List Str).Nodup:=by decide +kernel
theorem MN:(["caller"]:List Str).Nodup:=by decide +kernel
theorem MO:(["caller"]:List Str).Nodup:=by decide +kernel
theorem ZI:aV ["self","group"] ["self","group"] (ai j0):=⟨rfl,rfl,rfl,by decide +kernel,rfl,by decide +kernel,by decide +kernel⟩
theorem ZJ:aV ["self","group"] ["self","group"] (ai j3):=⟨rfl,rfl,rfl,by decide +kernel,rfl,by decide +kernel,by decide +kernel⟩
theorem Xc:aV ["self","group"] ["self","group"] (ai jq):=⟨rfl,rfl,rfl,by decide +kernel,rfl,by decide +kernel,by decide +kernel⟩
theorem U1:aV ["self","house","group"] ["self","house","group"] (ai iK):=⟨rfl,rfl,rfl,by decide +kernel,rfl,by decide +kernel,by decide +kernel⟩
theorem Ez:aV ["self","house","group","ahead","row"] ["self","house","group"] (ai j4):=⟨rfl,rfl,rfl,by decide +kernel,rfl,by decide +kernel,by decide +kernel⟩
theorem abV:aV ["self","caller"] ["self","caller"] (ai mj):=⟨rfl,rfl,rfl,by decide +kernel,rfl,by decide +kernel,by decide +kernel⟩
theorem yc:aV ["self","sender","to","letter","number","house"] ["self","sender","to"] (ai j5):=⟨rfl,rfl,rfl,by decide +kernel,rfl,by decide +kernel,by decide +kernel⟩
theorem U3:aV ["self"] ["self"] (ai iL):=⟨rfl,rfl,rfl,by decide +kernel,rfl,by decide +kernel,by decide +kernel⟩
theorem jc:aV ["self","at","landed","number","rope","house","posted","fate"] ["self","at"] (ai gS):=⟨rfl,rfl,rfl,by decide +kernel,rfl,by decide +kernel,by decide +kernel⟩
theorem Xd:aV ["self","letter"] ["self","letter"] (ai jr):=⟨rfl,rfl,rfl,by decide +kernel,rfl,by decide +kernel,by decide +kernel⟩
theorem R0:aV ["self","posted","rope","house"] ["self","posted","rope","house"] (ai gT):=⟨rfl,rfl,rfl,by decide +kernel,rfl,by decide +kernel,by decide +kernel⟩
theorem fN:aV ["self","number","house","came","posted","group","open_here","here","found","caller","rope"] ["self","number","house","came"] (ai fD):=⟨rfl,rfl,rfl,by decide +kernel,rfl,by decide +kernel,by decide +kernel⟩
theorem yd:aV ["self","house","group","there"] ["self","house","group"] (ai dH):=⟨rfl,rfl,rfl,by decide +kernel,rfl,by decide +kernel,by decide +kernel⟩
theorem EA:(["caller","self","there"]:List Str).Nodup:=by decide +kernel
theorem EB:aV ["self","number","house","rope","posted","wire"] ["self","number","house","rope"] (ai j6):=⟨rfl,rfl,rfl,by decide +kernel,rfl,by decide +kernel,by decide +kernel⟩
theorem Ay:aV ["self","group","posted"] ["self","group"] (ai fE):=⟨rfl,rfl,rfl,by decide +kernel,rfl,by decide +kernel,by decide +kernel⟩
theorem Je:aV ["self","house"] ["self","house"] (ai dM):=⟨rfl,rfl,rfl,by decide +kernel,rfl,by decide +kernel,by decide +kernel⟩
theorem HE:aV ["self","caller"] ["self","caller"] (ai c9):=⟨rfl,rfl,rfl,by decide +kernel,rfl,by decide +kernel,by decide +kernel⟩
theorem K6:aV ["self","sender","to"] ["self","sender","to"] (ai ez):=⟨rfl,rfl,rfl,by decide +kernel,rfl,by decide +kernel,by decide +kernel⟩
theorem U4:aV ["town"] ["town"] (ai gU):=⟨rfl,rfl,rfl,by decide +kernel,rfl,by decide +kernel,by decide +kernel⟩
theorem MP:(["house","town"]:List Str).Nodup:=by decide +kernel
theorem Az:aV ["town","callers","caller"] ["town","callers"] (ai fF):=⟨rfl,rfl,rfl,by decide +kernel,rfl,by decide +kernel,by decide +kernel⟩
theorem Xe:aV ["_law_script","_law_k"] ["_law_script","_law_k"] (ai jt):=⟨rfl,rfl,rfl,by decide +kernel,rfl,by decide +kernel,by decide +kernel⟩
theorem abW:aV ["_law_found"] ["_law_found"] (ai mq):=⟨rfl,rfl,rfl,by decide +kernel,rfl,by decide +kernel,by decide +kernel⟩
theorem nO:aV ["_law_script","_law_size","_law_names_here","_law_k","_law_cell","_law_name"] ["_law_script","_law_size"] (ai mw):=⟨rfl,rfl,rfl,by decide +kernel,rfl,by decide +kernel,by decide +kernel⟩
theorem eK:aV ["_law_script","_law_size","_law_group","_law_ropes_here","_law_many","_law_k","_law_cell","_law_one","_law_other","_law_rest","_law_cost","_law_lets"] ["_law_script","_law_size","_law_group"] (ai mz):=⟨rfl,rfl,rfl,by decide +kernel,rfl,by decide +kernel,by decide +kernel⟩
theorem mC:aV ["_law_script","_law_size","_law_group","_law_callers_here","_law_most","_law_k","_law_cell","_law_place"] ["_law_script","_law_size","_law_group"] (ai ju):=⟨rfl,rfl,rfl,by decide +kernel,rfl,by decide +kernel,by decide +kernel⟩
theorem EC:aV ["_law_net","_law_size","_law_group","_law_turn","_law_house"] ["_law_net","_law_size","_law_group"] (ai j7):=⟨rfl,rfl,rfl,by decide +kernel,rfl,by decide +kernel,by decide +kernel⟩
theorem Dc:aV ["_law_story","_law_row"] ["_law_story"] (ai fj):=⟨rfl,rfl,rfl,by decide +kernel,rfl,by decide +kernel,by decide +kernel⟩
theorem Jf:(["_law_one"]:List Str).Nodup:=by decide +kernel
theorem kK:aV ["_law_ropes_here","_law_opened","_law_callers_here","_law_sender","_law_first","_law_group","_law_story","_law_waiting","_law_at","_law_house","_law_came","_law_caller","_law_rope","_law_wire"] ["_law_ropes_here","_law_opened","_law_callers_here","_law_sender"] (ai vd):=⟨rfl,rfl,rfl,by decide +kernel,rfl,by decide +kernel,by decide +kernel⟩
theorem gp:aV ["_law_net","_law_ropes_here","_law_number","_law_ought","_law_sends","_law_k","_law_sent","_law_flies","_law_word","_law_house","_law_rope","_law_wire"] ["_law_net","_law_ropes_here","_law_number","_law_ought"] (ai jb):=⟨rfl,rfl,rfl,by decide +kernel,rfl,by decide +kernel,by decide +kernel⟩
theorem R1:(["_law_row"]:List Str).Nodup:=by decide +kernel
theorem R3:(["_law_row"]:List Str).Nodup:=by decide +kernel
theorem nP:aV ["_law_script","_law_size","_law_group","_law_ropes_here","_law_callers_here","_law_net","_law_cell","_law_had","_law_number","_law_sender","_law_ought","_law_told","_law_story","_law_row"] ["_law_script"] (ai Et):=⟨rfl,rfl,rfl,by decide +kernel,rfl,by decide +kernel,by decide +kernel⟩
theorem aev:(["_law_caller"]:List Str).Nodup:=by decide +kernel
theorem aew:(["_law_caller","_law_net"]:List Str).Nodup:=by decide +kernel
set_option genInjectivity false in
structure Ad where
 gV:Addr
 yV:FuncData
 iM:Addr
 BA:FuncData
 iN:Addr
 BB:FuncData
 gW:Addr
 yW:FuncData
 oF:Addr
 MQ:FuncData
 lS:Addr
 Jg:FuncData
 cT:Addr
 sJ:FuncData
 fZ:Addr
 vU:FuncData
 dY:Addr
 vV:FuncData
 dm:Addr
 sL:FuncData
 gf:Addr
 vW:FuncData
 gX:Addr
 yX:FuncData
 gY:Addr
 yY:FuncData
 gh:Addr
 vX:FuncData
 gZ:Addr
 yZ:FuncData
 oG:Addr
 MR:FuncData
 ye:Addr
 Xf:FuncData
 OT:Addr
 af9:FuncData
 OU:Addr
 aga:FuncData
 rJ:Addr
 Xg:FuncData
 oH:Addr
 MS:FuncData
 yf:Addr
 Xh:FuncData
 g5:Addr
 y9:FuncData
 jv:Addr
 ED:FuncData
 jw:Addr
 EE:FuncData
 fG:Addr
 sM:FuncData
 gi:Addr
 vY:FuncData
 jx:Addr
 EF:FuncData
 iS:Addr
 za:FuncData
 iT:Addr
 zb:FuncData
 jy:Addr
 BC:FuncData
 jS:Addr
 EG:FuncData
 eB:Addr
 qy:FuncData
 dc:Addr
 nQ:FuncData
 dg:Addr
 nR:FuncData
 gj:Addr
 vZ:FuncData
 lT:Addr
 Jh:FuncData
 iU:Addr
 zc:FuncData
 fH:Addr
 sN:FuncData
 iO:Addr
 BD:FuncData
 j8:Addr
 Ji:FuncData
 j9:Addr
 Jj:FuncData
 jz:Addr
 EH:FuncData
 iP:Addr
 BE:FuncData
 kc:Addr
 Jk:FuncData
 mD:Addr
 MT:FuncData
 kg:Addr
 BF:FuncData
 iQ:Addr
 BG:FuncData
 g6:Addr
 rK:FuncData
 kT:Tok
 jA:Addr
 EI:FuncData
 g7:Addr
 zd:FuncData
 fJ:Addr
 sO:FuncData
 eE:Addr
 qz:FuncData
 kh:Addr
 Jl:FuncData
 fK:Addr
 sP:FuncData
 dN:Addr
 pG:FuncData
 dh:Addr
 nS:FuncData
 eF:Addr
 qA:FuncData
 jB:Addr
 BH:FuncData
 gq:Addr
 sQ:FuncData
 jT:Addr
 EJ:FuncData
 oJ:Addr
 MU:FuncData
 oK:Addr
 MV:FuncData
 oM:Addr
 MW:FuncData
 jU:Addr
 EK:FuncData
 lU:Addr
 Jm:FuncData
 ig:Addr
 wc:FuncData
 yg:Addr
 Xi:FuncData
 lV:Addr
 Jo:FuncData
 OV:Addr
 adA:FuncData
 jP:Addr
 iz:Addr
 ki:Addr
 kL:Addr
 bG:Addr
 dU:Addr
 gA:Addr
 c5:Addr
 K7:Addr
 Hs:Addr
 rL:Tok
 ve:Tok
 vf:Tok
 vg:Tok
 pH:Tok
 gk:Addr
structure Txt(K:ah)(mg:Str→Option Value)(t:Ad):Prop where
 rM:kX K "__init__" "Book.__init__" gG t.gV t.yV
 U5:Binds K t.yV ["self"] []
 alo:Mk K t.gA t.gV
 vh:kX K "learn" "Book.learn" iH t.iM t.BA
 Xj:Binds K t.BA ["self","house","caller","rope"] []
 Xk:jN K t.gA "learn" t.iM
 vj:kX K "known" "Book.known" iI t.iN t.BB
 Xl:Binds K t.BB ["self","house","caller"] []
 Xm:jN K t.gA "known" t.iN
 rN:kX K "forget" "Book.forget" gH t.gW t.yW
 U6:Binds K t.yW ["self"] []
 U7:jN K t.gA "forget" t.gW
 AA:kX K "targets" "targets" kQ t.oF t.MQ
 aex:Binds K t.MQ ["book","letter","house","came","open_here","here"] []
 aey:mg "targets" = some (.ref t.oF)
 we:kX K "ropes_on" "ropes_on" jD t.lS t.Jg
 abX:Binds K t.Jg ["book","sought","house","came","open_here","here"] []
 abY:mg "ropes_on" = some (.ref t.lS)
 m7:kX K "__init__" "Letter.__init__" fz t.cT t.sJ
 Dd:Binds K t.sJ ["self","sender"] []
 aob:Mk K t.jP t.cT
 pI:kX K "meant" "Letter.meant" fU t.fZ t.vU
 R4:Binds K t.vU ["self","caller"] []
 R6:jN K t.jP "meant" t.fZ
 pJ:kX K "seeks" "Letter.seeks" fV t.dY t.vV
 EL:Binds K t.vV ["self"] []
 R7:jN K t.jP "seeks" t.dY
 m8:kX K "number" "Letter.number" fB t.dm t.sL
 De:Binds K t.sL ["self"] []
 Qn:jN K t.jP "number" t.dm
 pK:kX K "__init__" "ToOne.__init__" fW t.gf t.vW
 R8:Binds K t.vW ["self","sender","to"] []
 aiz:Mk K t.iz t.gf
 rO:kX K "meant" "ToOne.meant" gI t.gX t.yX
 U8:Binds K t.yX ["self","caller"] []
 U9:jN K t.iz "meant" t.gX
 rP:kX K "seeks" "ToOne.seeks" gJ t.gY t.yY
 Va:Binds K t.yY ["self"] []
 Vb:jN K t.iz "seeks" t.gY
 pL:kX K "number" "ToOne.number" fX t.gh t.vX
 R9:Binds K t.vX ["self"] []
 Sa:jN K t.iz "number" t.gh
 rQ:kX K "meant" "ToAll.meant" gK t.gZ t.yZ
 Vc:Binds K t.yZ ["self","caller"] []
 Vd:jN K t.ki "meant" t.gZ
 vE:kX K "own_row" "own_row" mh t.oG t.MR
 Wo:Binds K t.MR ["town","house"] []
 Wp:mg "own_row" = some (.ref t.oG)
 Ht:kX K "offer" "offer" u0 t.ye t.Xf
 adB:Binds K t.Xf ["town","row","rope"] []
 adC:mg "offer" = some (.ref t.ye)
 ZK:kX K "due" "due" K4 t.OT t.af9
 aoc:Binds K t.af9 ["town","live","rows","house"] []
 aod:mg "due" = some (.ref t.OT)
 ZL:kX K "ups" "ups" HW t.OU t.aga
 aoe:Binds K t.aga ["town","live","rows"] []
 aof:mg "ups" = some (.ref t.OU)
 Hu:kX K "opens" "opens" rH t.rJ t.Xg
 adD:Binds K t.Xg ["town","live","rows"] []
 apZ:mg "opens" = some (.ref t.rJ)
 AB:kX K "open_at" "open_at" kR t.oH t.MS
 aez:Binds K t.MS ["town","live","rows","house"] []
 aeA:mg "open_at" = some (.ref t.oH)
 K8:kX K "up_of" "up_of" vc t.yf t.Xh
 aiA:Binds K t.Xh ["town","live","rows","house"] []
 aiB:mg "up_of" = some (.ref t.yf)
 rR:kX K "__init__" "Town.__init__" gM t.g5 t.y9
 Ve:Binds K t.y9 ["self","names","ropes"] []
 alp:Mk K t.bG t.g5
 yh:kX K "name" "Town.name" jl t.jv t.ED
 ZM:Binds K t.ED ["self","house"] []
 ZN:jN K t.bG "name" t.jv
 yi:kX K "rope" "Town.rope" jm t.jw t.EE
 OW:Binds K t.EE ["self","number"] []
 OX:jN K t.bG "rope" t.jw
 m9:kX K "ropes_at" "Town.ropes_at" ee t.fG t.sM
 sR:Binds K t.sM ["self","house"] []
 sS:jN K t.bG "ropes_at" t.fG
 pM:kX K "far_end" "Town.far_end" fY t.gi t.vY
 wg:Binds K t.vY ["self","rope","house"] []
 wk:jN K t.bG "far_end" t.gi
 yj:kX K "lets" "Town.lets" jn t.jx t.EF
 ZO:Binds K t.EF ["self","rope","group"] []
 ZP:jN K t.bG "lets" t.jx
 mZ:kX K "check_names" "check_names" gO t.iS t.za
 Vf:Binds K t.za ["names"] []
 Vg:mg "check_names" = some (.ref t.iS)
 m5:kX K "check_ropes" "check_ropes" gQ t.iT t.zb
 Vh:Binds K t.zb ["size","ropes"] []
 Vi:mg "check_ropes" = some (.ref t.iT)
 pN:kX K "check_rope" "check_rope" iJ t.jy t.BC
 Xn:Binds K t.BC ["size","rope"] []
 Xo:mg "check_rope" = some (.ref t.jy)
 sq:kX K "joins_two" "joins_two" jo t.jS t.EG
 ZQ:Binds K t.EG ["size","one","other"] []
 ZR:mg "joins_two" = some (.ref t.jS)
 mE:kX K "__init__" "Strands.__init__" dG t.eB t.qy
 MX:Binds K t.qy ["self","town"] []
 aeB:Mk K t.dU t.eB
 kj:kX K "standing" "Strands.standing" c7 t.dc t.nQ
 Jp:Binds K t.nQ ["self","rope"] []
 Jq:jN K t.dU "standing" t.dc
 ko:kX K "wire_for" "Strands.wire_for" c8 t.dg t.nR
 Jr:Binds K t.nR ["self","rope","number"] []
 Js:jN K t.dU "wire_for" t.dg
 pO:kX K "live" "Strands.live" fh t.gj t.vZ
 Sb:Binds K t.vZ ["self","group"] []
 Sd:jN K t.dU "live" t.gj
 wm:kX K "wires_of" "wires_of" jZ t.lT t.Jh
 abZ:Binds K t.Jh ["town","rope"] []
 ab0:mg "wires_of" = some (.ref t.lT)
 kU:kX K "check_group" "check_group" gR t.iU t.zc
 HX:Binds K t.zc ["group"] []
 HY:mg "check_group" = some (.ref t.iU)
 ng:kX K "__init__" "Posted.__init__" fC t.fH t.sN
 Qo:Binds K t.sN ["self","letter","group"] []
 agb:Mk K t.kL t.fH
 vm:kX K "__init__" "Net.__init__" dJ t.iO t.BD
 Xp:Binds K t.BD ["self","town","callers"] []
 aog:Mk K t.c5 t.iO
 BI:kX K "rows" "Net.rows" j0 t.j8 t.Ji
 BJ:Binds K t.Ji ["self","group"] []
 BK:jN K t.c5 "rows" t.j8
 BL:kX K "live" "Net.live" j3 t.j9 t.Jj
 Jt:Binds K t.Jj ["self","group"] []
 Ju:jN K t.c5 "live" t.j9
 yk:kX K "opens" "Net.opens" jq t.jz t.EH
 OY:Binds K t.EH ["self","group"] []
 OZ:jN K t.c5 "opens" t.jz
 vn:kX K "row_at" "Net.row_at" iK t.iP t.BE
 Xq:Binds K t.BE ["self","house","group"] []
 Xr:jN K t.c5 "row_at" t.iP
 BN:kX K "call" "Net.call" j4 t.kc t.Jk
 Se:Binds K t.Jk ["self","house","group"] []
 Sf:jN K t.c5 "call" t.kc
 Hv:kX K "had" "Net.had" mj t.mD t.MT
 Wq:Binds K t.MT ["self","caller"] []
 Wr:jN K t.c5 "had" t.mD
 wo:abT K "post" "Net.post" j5 t.kg t.BF (.none)
 ab1:Binds K t.BF ["self","sender","to"] [.none]
 alq:Binds K t.BF ["self","sender","to"] []
 ab2:jN K t.c5 "post" t.kg
 vo:kX K "flying" "Net.flying" iL t.iQ t.BG
 K9:Binds K t.BG ["self"] []
 La:jN K t.c5 "flying" t.iQ
 m6:abT K "pass_on" "Net.pass_on" gS t.g6 t.rK (.int 0 t.kT)
 Vj:Binds K t.rK ["self","at"] [.int 0 t.kT]
 Vk:Binds K t.rK ["self","at"] []
 HZ:jN K t.c5 "pass_on" t.g6
 yl:kX K "story" "Net.story" jr t.jA t.EI
 O0:Binds K t.EI ["self","letter"] []
 O6:jN K t.c5 "story" t.jA
 rS:kX K "fate_of" "Net.fate_of" gT t.g7 t.zd
 Vl:Binds K t.zd ["self","posted","rope","house"] []
 Vm:jN K t.c5 "fate_of" t.g7
 nh:kX K "do_letter" "Net.do_letter" fD t.fJ t.sO
 Df:Binds K t.sO ["self","number","house","came"] []
 Dg:jN K t.c5 "do_letter" t.fJ
 mF:kX K "callers_at" "Net.callers_at" dH t.eE t.qz
 MY:Binds K t.qz ["self","house","group"] []
 MZ:jN K t.c5 "callers_at" t.eE
 BO:kX K "send" "Net.send" j6 t.kh t.Jl
 ab3:Binds K t.Jl ["self","number","house","rope"] []
 ab4:jN K t.c5 "send" t.kh
 ni:kX K "take_news" "Net.take_news" fE t.fK t.sP
 Qp:Binds K t.sP ["self","group"] []
 Qq:jN K t.c5 "take_news" t.fK
 ly:kX K "check_house" "Net.check_house" dM t.dN t.pG
 Lb:Binds K t.pG ["self","house"] []
 Lc:jN K t.c5 "check_house" t.dN
 kq:kX K "check_caller" "Net.check_caller" c9 t.dh t.nS
 nU:Binds K t.nS ["self","caller"] []
 nV:jN K t.c5 "check_caller" t.dh
 mG:kX K "check_pair" "Net.check_pair" ez t.eF t.qA
 M0:Binds K t.qA ["self","sender","to"] []
 M2:jN K t.c5 "check_pair" t.eF
 pP:kX K "first_rows" "first_rows" gU t.jB t.BH
 Xs:Binds K t.BH ["town"] []
 Xu:mg "first_rows" = some (.ref t.jB)
 kM:kX K "check_callers" "check_callers" fF t.gq t.sQ
 Qs:Binds K t.sQ ["town","callers"] []
 Qt:mg "check_callers" = some (.ref t.gq)
 eO:kX K "_law_cell_at" "_law_cell_at" jt t.jT t.EJ
 iV:Binds K t.EJ ["_law_script","_law_k"] []
 iW:mg "_law_cell_at" = some (.ref t.jT)
 vF:kX K "_law_whole" "_law_whole" mq t.oJ t.MU
 Ws:Binds K t.MU ["_law_found"] []
 Wt:mg "_law_whole" = some (.ref t.oJ)
 AD:kX K "_law_names" "_law_names" mw t.oK t.MV
 aeC:Binds K t.MV ["_law_script","_law_size"] []
 aeD:mg "_law_names" = some (.ref t.oK)
 AE:kX K "_law_ropes" "_law_ropes" mz t.oM t.MW
 aeE:Binds K t.MW ["_law_script","_law_size","_law_group"] []
 aeF:mg "_law_ropes" = some (.ref t.oM)
 sr:kX K "_law_callers" "_law_callers" ju t.jU t.EK
 ZS:Binds K t.EK ["_law_script","_law_size","_law_group"] []
 ZT:mg "_law_callers" = some (.ref t.jU)
 wu:kX K "_law_rounds" "_law_rounds" j7 t.lU t.Jm
 ab5:Binds K t.Jm ["_law_net","_law_size","_law_group"] []
 ab6:mg "_law_rounds" = some (.ref t.lU)
 lW:kX K "_law_story_kind" "_law_story_kind" fj t.ig t.wc
 Sg:Binds K t.wc ["_law_story"] []
 Sh:mg "_law_story_kind" = some (.ref t.ig)
 Ld:kX K "_law_due" "_law_due" vd t.yg t.Xi
 aiC:Binds K t.Xi ["_law_ropes_here","_law_opened","_law_callers_here","_law_sender"] []
 aiD:mg "_law_due" = some (.ref t.yg)
 wz:kX K "_law_arrive" "_law_arrive" jb t.lV t.Jo
 ab7:Binds K t.Jo ["_law_net","_law_ropes_here","_law_number","_law_ought"] []
 ab8:mg "_law_arrive" = some (.ref t.lV)
 ZU:kX K "law" "law" Et t.OV t.adA
 atl:Binds K t.adA ["_law_script"] []
 aoh:mg "law" = some (.ref t.OV)
 Si:V4 K t.jP
 agc:mg "Letter" = some (.ref t.jP)
 ae8:dX K t.jP "sender"
 aj1:dX K t.jP "to"
 rT:V4 K t.iz
 aiE:mg "ToOne" = some (.ref t.iz)
 wA:dX K t.iz "sender"
 BP:dX K t.iz "to"
 BQ:V4 K t.ki
 aiF:mg "ToAll" = some (.ref t.ki)
 pQ:dX K t.ki "sender"
 alr:dX K t.ki "to"
 dZ:V4 K t.kL
 agd:mg "Posted" = some (.ref t.kL)
 jh:dX K t.kL "letter"
 lX:dX K t.kL "group"
 BR:dX K t.kL "old"
 qB:dX K t.kL "done_at"
 jQ:dX K t.kL "deeds"
 gB:V4 K t.bG
 als:mg "Town" = some (.ref t.bG)
 wB:dX K t.bG "house_names"
 jd:dX K t.bG "rope_tuples"
 oN:dX K t.bG "size"
 ym:dX K t.bG "many"
 kW:V4 K t.dU
 aeG:mg "Strands" = some (.ref t.dU)
 pR:dX K t.dU "town"
 pS:dX K t.dU "upright"
 Jv:V4 K t.gA
 alu:mg "Book" = some (.ref t.gA)
 yo:dX K t.gA "kept"
 bU:V4 K t.c5
 aoi:mg "Net" = some (.ref t.c5)
 qC:dX K t.c5 "town"
 ze:dX K t.c5 "strands"
 mQ:dX K t.c5 "rows_by_group"
 yp:dX K t.c5 "books"
 sy:dX K t.c5 "homes"
 pT:dX K t.c5 "groups"
 BS:dX K t.c5 "handed"
 fP:dX K t.c5 "letters"
 pU:dX K t.c5 "copies"
 EM:mg "opens_opens" = some (.ref t.rJ)
 Vn:jN K t.ki "seeks" t.dY
 Sj:jN K t.ki "number" t.dm
 aiG:Mk K t.ki t.cT
 M3:ajW K t.jP "__init__" t.cT
 age:mg "NoWire" = some (.ref t.K7)
 agf:alc K t.K7
 aeH:mg "NoGroup" = some (.ref t.Hs)
 aeI:alc K t.Hs
 Vo:mg "MOST_HOUSES" = some (.int 10 t.rL)
 Xv:mg "MOST_ROPES" = some (.int 20 t.ve)
 Xw:mg "MOST_WIRES" = some (.int 4 t.vf)
 Xx:mg "ALL_GROUPS" = some (.int 7 t.vg)
 Sk:mg "MOST_CALLERS" = some (.int 20 t.pH)
 pV:mg "GROUP_BITS" = some (.ref t.gk)
 iR:∀ H,dP K H t.gk [.int 1,.int 2,.int 4]
 jV:mg "len" = none
 pW:mg "isinstance" = none
 agg:mg "int" = none
 alv:mg "bool" = none
 wC:mg "list" = none
 aiH:mg "tuple" = none
 lA:mg "range" = none
 O7:mg "enumerate" = none
 aoj:mg "min" = none
 aok:mg "set" = none
 aol:mg "str" = none
 aom:mg "all" = none
 agh:mg "sorted" = none
theorem el1{α:Type}{M:List α→Prop}(h:∀ x0,M [x0]):∀ us:List α,us.length=1→M us
 | [_],_=>h _
theorem HF{α:Type}{M:List α→Prop}(h:∀ x0 x1,M [x0,x1]):∀ us:List α,us.length=2→M us
 | [_,_],_=>h _ _
theorem Wu{α:Type}{M:List α→Prop}(h:∀ x0 x1 x2,M [x0,x1,x2]):∀ us:List α,us.length=3→M us
 | [_,_,_],_=>h _ _ _
theorem el4{α:Type}{M:List α→Prop}(h:∀ x0 x1 x2 x3,M [x0,x1,x2,x3]):∀ us:List α,us.length=4→M us
 | [_,_,_,_],_=>h _ _ _ _
theorem el6{α:Type}{M:List α→Prop}(h:∀ x0 x1 x2 x3 x4 x5,M [x0,x1,x2,x3,x4,x5]):∀ us:List α,us.length=6→M us
 | [_,_,_,_,_,_],_=>h _ _ _ _ _ _
theorem alw{K:ah}{h:Heap}{mg:Str→Option Value}(X:K.In h)(G:h.Ns mainGlobals mg){Sl EN EO ER wD ES:Value}{Sm ET:Option Addr}{Sn:Array (Option Value)}{gV:Addr}
 {Vp Ia Ib Ic zf Ie:Value} {Vq Ig:Option Addr} {Vr:Array (Option Value)} {iM:Addr}
 {Vs Ih Ii Ij zg Ik:Value} {Vt Il:Option Addr} {Vu:Array (Option Value)} {iN:Addr}
 {So EU EV EW wF EX:Value} {Sq EY:Option Addr} {Ss:Array (Option Value)} {gW:Addr}
 {ab9 Su Sv Sw Jw Sx:Value} {ace Sy:Option Addr} {acf:Array (Option Value)} {oF:Addr}
 {ZV O9 Pa Pb EZ Pc:Value} {ZW Pd:Option Addr} {ZX:Array (Option Value)} {lS:Addr}
 {M4 AF AG AH qD AI:Value} {M5 AJ:Option Addr} {M6:Array (Option Value)} {cT:Addr}
 {Qu Dh Di Dj sU Dk:Value} {Qv Dl:Option Addr} {Qw:Array (Option Value)} {fZ:Addr}
 {Qy Dm Dn Dp sV Dq:Value} {Qz Dt:Option Addr} {QA:Array (Option Value)} {dY:Addr}
 {M7 AK AL AM qE AN:Value} {M8 AO:Option Addr} {M9:Array (Option Value)} {dm:Addr}
 {QB Du Dv Dw sW Dy:Value} {QC Dz:Option Addr} {QD:Array (Option Value)} {gf:Addr}
 {Sz E1 E2 E3 wG E4:Value} {SA E5:Option Addr} {SD:Array (Option Value)} {gX:Addr}
 {SE E6 E7 E8 wH E9:Value} {SG Fb:Option Addr} {SH:Array (Option Value)} {gY:Addr}
 {QE DA DB DC sX DE:Value} {QF DF:Option Addr} {QG:Array (Option Value)} {gh:Addr}
 {SI Fc Fd Fe wI Ff:Value} {SJ Fg:Option Addr} {SK:Array (Option Value)} {gZ:Addr}
 {aci SM SN SO Jx SQ:Value} {acj SR:Option Addr} {ack:Array (Option Value)} {oG:Addr}
 {agi ZY ZZ Z0 SS Z1:Value} {agj Z2:Option Addr} {agk:Array (Option Value)} {ye:Addr}
 {alx agl agm agn acm ago:Value} {aly agp:Option Addr} {alz:Array (Option Value)} {OT:Addr}
 {alA agq agr ags acn agt:Value} {alB agu:Option Addr} {alC:Array (Option Value)} {OU:Addr}
 {agv Z3 Z4 Z5 SV Z6:Value} {agw Z7:Option Addr} {agx:Array (Option Value)} {rJ:Addr}
 {acp SW SX SY Jy S1:Value} {acq S2:Option Addr} {acr:Array (Option Value)} {oH:Addr}
 {agy Z8 Z9 aaa S4 aab:Value} {agz aac:Option Addr} {agA:Array (Option Value)} {yf:Addr}
 {S5 Fi Fj Fk wJ Fl:Value} {S6 Fo:Option Addr} {S8:Array (Option Value)} {g5:Addr}
 {Xy Le Lf Lg BU Lh:Value} {Xz Li:Option Addr} {XA:Array (Option Value)} {jv:Addr}
 {XC Lj Lk Ll BV Lm:Value} {XD Ln:Option Addr} {XE:Array (Option Value)} {jw:Addr}
 {Na AQ AR AS qF AU:Value} {Nb AV:Option Addr} {Nc:Array (Option Value)} {fG:Addr}
 {QH DG DH DJ sY DK:Value} {QI DL:Option Addr} {QJ:Array (Option Value)} {gi:Addr}
 {XF Lo Lp Lq BW Lr:Value} {XG Ls:Option Addr} {XH:Array (Option Value)} {jx:Addr}
 {S9 Fq Ft Fv wK Fw:Value} {Tc Fx:Option Addr} {Td:Array (Option Value)} {iS:Addr}
 {Te Fy Fz FA wL FD:Value} {Tf FE:Option Addr} {Tg:Array (Option Value)} {iT:Addr}
 {Vv Im Io Ip zh Iq:Value} {Vw Ir:Option Addr} {Vx:Array (Option Value)} {jy:Addr}
 {XI Lu Lv Lw BX Lx:Value} {XJ Ly:Option Addr} {XM:Array (Option Value)} {jS:Addr}
 {Lz yq yr yt pX yu:Value} {LA yv:Option Addr} {LC:Array (Option Value)} {eB:Addr}
 {HG uA uB uC mR uD:Value} {HH uE:Option Addr} {HJ:Array (Option Value)} {dc:Addr}
 {HK uF uG uH mS uI:Value} {HL uJ:Option Addr} {HM:Array (Option Value)} {dg:Addr}
 {QK DM DN DO sZ DP:Value} {QL DQ:Option Addr} {QM:Array (Option Value)} {gj:Addr}
 {aad Pe Pf Pg FF Ph:Value} {aae Pj:Option Addr} {aaf:Array (Option Value)} {lT:Addr}
 {Th FG FH FI wM FJ:Value} {Ti FL:Option Addr} {Tj:Array (Option Value)} {iU:Addr}
 {Nd AW AX AY qG AZ:Value} {Ng A0:Option Addr} {Nh:Array (Option Value)} {fH:Addr}
 {Vy Iu Iv Iw zj Iz:Value} {Vz IA:Option Addr} {VA:Array (Option Value)} {iO:Addr}
 {aag Pk Pn Po FN Pp:Value} {aah Pq:Option Addr} {aai:Array (Option Value)} {j8:Addr}
 {aaj Pr Pu Pw FO Px:Value} {aak Py:Option Addr} {aal:Array (Option Value)} {j9:Addr}
 {XN LD LF LG BY LI:Value} {XO LJ:Option Addr} {XQ:Array (Option Value)} {jz:Addr}
 {VB IB IC ID zk IE:Value} {VC IF:Option Addr} {VD:Array (Option Value)} {iP:Addr}
 {aam Pz PB PD FP PF:Value} {aan PJ:Option Addr} {aao:Array (Option Value)} {kc:Addr}
 {acs Tn To Tp Jz Tq:Value} {acu Tr:Option Addr} {acv:Array (Option Value)} {mD:Addr}
 {aap PK PL PM FQ PN:Value} {aaq PR:Option Addr} {aar:Array (Option Value)} {kg:Addr}
 {JA:Addr} {XR:Option Addr} {aas:Nat} {XS:Array (Option Value)}
 {VE IG II IJ zl IK:Value} {VF IL:Option Addr} {VG:Array (Option Value)} {iQ:Addr}
 {Tt FT FU FW wO FY:Value} {Tu FZ:Option Addr} {Tv:Array (Option Value)} {g6:Addr}
 {zm:Addr} {QN:Option Addr} {Tw:Nat} {QO:Array (Option Value)}
 {kT:Tok}
 {XT LK LL LM BZ LN:Value} {XU LO:Option Addr} {XW:Array (Option Value)} {jA:Addr}
 {Tz F0 Ga Gb wQ Gc:Value} {TF Gd:Option Addr} {TH:Array (Option Value)} {g7:Addr}
 {Ni A1 A2 A3 qH A4:Value} {Nj A5:Option Addr} {Nk:Array (Option Value)} {fJ:Addr}
 {LP yw yx yy pY yz:Value} {LQ yC:Option Addr} {LR:Array (Option Value)} {eE:Addr}
 {aat PU PV PX Ge PY:Value} {aau PZ:Option Addr} {aav:Array (Option Value)} {kh:Addr}
 {Nl A6 A7 A8 qI A9:Value} {Nm Ba:Option Addr} {Np:Array (Option Value)} {fK:Addr}
 {JB wR wU wV nW wW:Value} {JC wX:Option Addr} {JD:Array (Option Value)} {dN:Addr}
 {HN uK uL uM mT uN:Value} {HP uO:Option Addr} {HQ:Array (Option Value)} {dh:Addr}
 {LU yD yE yF pZ yG:Value} {LV yH:Option Addr} {LW:Array (Option Value)} {eF:Addr}
 {VH IM IP IQ zo IS:Value} {VI IT:Option Addr} {VJ:Array (Option Value)} {jB:Addr}
 {Nq Bb Bc Be qJ Bf:Value} {Nr Bg:Option Addr} {Nt:Array (Option Value)} {gq:Addr}
 {XX LX LY LZ Ca L0:Value} {XY L1:Option Addr} {XZ:Array (Option Value)} {jT:Addr}
 {acw TJ TL TM JE TN:Value} {acy TR:Option Addr} {acz:Array (Option Value)} {oJ:Addr}
 {acA TU TV TY JF TZ:Value} {acB T4:Option Addr} {acC:Array (Option Value)} {oK:Addr}
 {acD T5 T6 T7 JG T8:Value} {acE T9:Option Addr} {acF:Array (Option Value)} {oM:Addr}
 {X0 L3 L4 L5 Cb L6:Value} {Yb L7:Option Addr} {Yc:Array (Option Value)} {jU:Addr}
 {aaw P0 P1 P4 Gf P5:Value} {aax P6:Option Addr} {aay:Array (Option Value)} {lU:Addr}
 {QS DR DS DT tw DU:Value} {QT DV:Option Addr} {QU:Array (Option Value)} {ig:Addr}
 {agB aaz aaA aaB Ua aaC:Value} {agC aaD:Option Addr} {agD:Array (Option Value)} {yg:Addr}
 {aaE P7 P8 P9 Gg Qa:Value} {aaF Qc:Option Addr} {aaG:Array (Option Value)} {lV:Addr}
 {alD agE agF agG acG agH:Value} {alE agI:Option Addr} {alF:Array (Option Value)} {OV:Addr}
 {ir:Addr}
 {lB:Addr}
 {lD:Addr}
 {jC:Addr}
 {k6:Addr}
 {iA:Addr}
 {qK:Addr}
 {gC:Addr}
 {p5:Addr}
 {mH:Addr}
 {rL:Tok}
 {ve:Tok}
 {vf:Tok}
 {vg:Tok}
 {pH:Tok}
 {gk:Addr} {VL:Option Addr} {Yd:Nat} {VM VN VO:Tok} {VP:Array (Option Value)}
 (Nu:aM K mainGlobals "Letter" = some (some (.ref ir)))
 (Ub:aM K mainGlobals "ToOne" = some (some (.ref lB)))
 (Uc:aM K mainGlobals "ToAll" = some (some (.ref lD)))
 (Nv:aM K mainGlobals "Posted" = some (some (.ref jC)))
 (Ye:aM K mainGlobals "Town" = some (some (.ref k6)))
 (JH:aM K mainGlobals "Strands" = some (some (.ref iA)))
 (Yg:aM K mainGlobals "Book" = some (some (.ref qK)))
 (acH:aM K mainGlobals "Net" = some (some (.ref gC)))
 (zp:au K (.ref qK) "__init__" = some (some (.ref gV)))
 (zq:aT K (.ref gV)=true)
 (zu:K.lookup gV=some ⟨Sl,Sm,.func (ak "__init__" "Book.__init__" (aE gG) (aC gG) (ai gG) .none EN EO ER ET wD ES),Sn⟩)
 (zw:aA K wD "Book.__init__" = true)
 (zx:ay K (.ref gV)=true)
 (Cc:au K (.ref qK) "learn" = some (some (.ref iM)))
 (Cd:aT K (.ref iM)=true)
 (Ce:K.lookup iM=some ⟨Vp,Vq,.func (ak "learn" "Book.learn" (aE iH) (aC iH) (ai iH) .none Ia Ib Ic Ig zf Ie),Vr⟩)
 (Cf:aA K zf "Book.learn" = true)
 (vp:ay K (.ref iM)=true)
 (Cg:au K (.ref qK) "known" = some (some (.ref iN)))
 (Ci:aT K (.ref iN)=true)
 (Cj:K.lookup iN=some ⟨Vs,Vt,.func (ak "known" "Book.known" (aE iI) (aC iI) (ai iI) .none Ih Ii Ij Il zg Ik),Vu⟩)
 (Ck:aA K zg "Book.known" = true)
 (vq:ay K (.ref iN)=true)
 (zy:au K (.ref qK) "forget" = some (some (.ref gW)))
 (zz:aT K (.ref gW)=true)
 (zA:K.lookup gW=some ⟨So,Sq,.func (ak "forget" "Book.forget" (aE gH) (aC gH) (ai gH) .none EU EV EW EY wF EX),Ss⟩)
 (zB:aA K wF "Book.forget" = true)
 (rV:ay K (.ref gW)=true)
 (Ny:aM K mainGlobals "targets" = some (some (.ref oF)))
 (Nz:K.lookup oF=some ⟨ab9,ace,.func (ak "targets" "targets" (aE kQ) (aC kQ) (ai kQ) .none Su Sv Sw Sy Jw Sx),acf⟩)
 (NB:aA K Jw "targets" = true)
 (ND:ay K (.ref oF)=true)
 (JI:aM K mainGlobals "ropes_on" = some (some (.ref lS)))
 (JJ:K.lookup lS=some ⟨ZV,ZW,.func (ak "ropes_on" "ropes_on" (aE jD) (aC jD) (ai jD) .none O9 Pa Pb Pd EZ Pc),ZX⟩)
 (JK:aA K EZ "ropes_on" = true)
 (JL:ay K (.ref lS)=true)
 (tD:au K (.ref ir) "__init__" = some (some (.ref cT)))
 (nj:aT K (.ref cT)=true)
 (tE:K.lookup cT=some ⟨M4,M5,.func (ak "__init__" "Letter.__init__" (aE fz) (aC fz) (ai fz) .none AF AG AH AJ qD AI),M6⟩)
 (tF:aA K qD "Letter.__init__" = true)
 (nk:ay K (.ref cT)=true)
 (wY:au K (.ref ir) "meant" = some (some (.ref fZ)))
 (wZ:aT K (.ref fZ)=true)
 (w6:K.lookup fZ=some ⟨Qu,Qv,.func (ak "meant" "Letter.meant" (aE fU) (aC fU) (ai fU) .none Dh Di Dj Dl sU Dk),Qw⟩)
 (xg:aA K sU "Letter.meant" = true)
 (p6:ay K (.ref fZ)=true)
 (xh:au K (.ref ir) "seeks" = some (some (.ref dY)))
 (p7:aT K (.ref dY)=true)
 (xj:K.lookup dY=some ⟨Qy,Qz,.func (ak "seeks" "Letter.seeks" (aE fV) (aC fV) (ai fV) .none Dm Dn Dp Dt sV Dq),QA⟩)
 (xm:aA K sV "Letter.seeks" = true)
 (lY:ay K (.ref dY)=true)
 (tG:au K (.ref ir) "number" = some (some (.ref dm)))
 (nv:aT K (.ref dm)=true)
 (tH:K.lookup dm=some ⟨M7,M8,.func (ak "number" "Letter.number" (aE fB) (aC fB) (ai fB) .none AK AL AM AO qE AN),M9⟩)
 (tK:aA K qE "Letter.number" = true)
 (kN:ay K (.ref dm)=true)
 (xo:au K (.ref lB) "__init__" = some (some (.ref gf)))
 (xq:aT K (.ref gf)=true)
 (xr:K.lookup gf=some ⟨QB,QC,.func (ak "__init__" "ToOne.__init__" (aE fW) (aC fW) (ai fW) .none Du Dv Dw Dz sW Dy),QD⟩)
 (xu:aA K sW "ToOne.__init__" = true)
 (xw:ay K (.ref gf)=true)
 (zC:au K (.ref lB) "meant" = some (some (.ref gX)))
 (zD:aT K (.ref gX)=true)
 (zE:K.lookup gX=some ⟨Sz,SA,.func (ak "meant" "ToOne.meant" (aE gI) (aC gI) (ai gI) .none E1 E2 E3 E5 wG E4),SD⟩)
 (zF:aA K wG "ToOne.meant" = true)
 (rW:ay K (.ref gX)=true)
 (zG:au K (.ref lB) "seeks" = some (some (.ref gY)))
 (zH:aT K (.ref gY)=true)
 (zI:K.lookup gY=some ⟨SE,SG,.func (ak "seeks" "ToOne.seeks" (aE gJ) (aC gJ) (ai gJ) .none E6 E7 E8 Fb wH E9),SH⟩)
 (zJ:aA K wH "ToOne.seeks" = true)
 (rX:ay K (.ref gY)=true)
 (xx:au K (.ref lB) "number" = some (some (.ref gh)))
 (xA:aT K (.ref gh)=true)
 (xB:K.lookup gh=some ⟨QE,QF,.func (ak "number" "ToOne.number" (aE fX) (aC fX) (ai fX) .none DA DB DC DF sX DE),QG⟩)
 (xC:aA K sX "ToOne.number" = true)
 (p8:ay K (.ref gh)=true)
 (zK:au K (.ref lD) "meant" = some (some (.ref gZ)))
 (zL:aT K (.ref gZ)=true)
 (zM:K.lookup gZ=some ⟨SI,SJ,.func (ak "meant" "ToAll.meant" (aE gK) (aC gK) (ai gK) .none Fc Fd Fe Fg wI Ff),SK⟩)
 (zN:aA K wI "ToAll.meant" = true)
 (rY:ay K (.ref gZ)=true)
 (NF:aM K mainGlobals "own_row" = some (some (.ref oG)))
 (NH:K.lookup oG=some ⟨aci,acj,.func (ak "own_row" "own_row" (aE mh) (aC mh) (ai mh) .none SM SN SO SR Jx SQ),ack⟩)
 (NI:aA K Jx "own_row" = true)
 (NJ:ay K (.ref oG)=true)
 (Yh:aM K mainGlobals "offer" = some (some (.ref ye)))
 (Yi:K.lookup ye=some ⟨agi,agj,.func (ak "offer" "offer" (aE u0) (aC u0) (ai u0) .none ZY ZZ Z0 Z2 SS Z1),agk⟩)
 (Yj:aA K SS "offer" = true)
 (Yk:ay K (.ref ye)=true)
 (agJ:aM K mainGlobals "due" = some (some (.ref OT)))
 (agK:K.lookup OT=some ⟨alx,aly,.func (ak "due" "due" (aE K4) (aC K4) (ai K4) .none agl agm agn agp acm ago),alz⟩)
 (agL:aA K acm "due" = true)
 (agM:ay K (.ref OT)=true)
 (agN:aM K mainGlobals "ups" = some (some (.ref OU)))
 (agO:K.lookup OU=some ⟨alA,alB,.func (ak "ups" "ups" (aE HW) (aC HW) (ai HW) .none agq agr ags agu acn agt),alC⟩)
 (agP:aA K acn "ups" = true)
 (agQ:ay K (.ref OU)=true)
 (Yl:aM K mainGlobals "opens" = some (some (.ref rJ)))
 (Ym:K.lookup rJ=some ⟨agv,agw,.func (ak "opens" "opens" (aE rH) (aC rH) (ai rH) .none Z3 Z4 Z5 Z7 SV Z6),agx⟩)
 (Yn:aA K SV "opens" = true)
 (Yo:ay K (.ref rJ)=true)
 (NK:aM K mainGlobals "open_at" = some (some (.ref oH)))
 (NL:K.lookup oH=some ⟨acp,acq,.func (ak "open_at" "open_at" (aE kR) (aC kR) (ai kR) .none SW SX SY S2 Jy S1),acr⟩)
 (NN:aA K Jy "open_at" = true)
 (NO:ay K (.ref oH)=true)
 (Yp:aM K mainGlobals "up_of" = some (some (.ref yf)))
 (Yq:K.lookup yf=some ⟨agy,agz,.func (ak "up_of" "up_of" (aE vc) (aC vc) (ai vc) .none Z8 Z9 aaa aac S4 aab),agA⟩)
 (Yr:aA K S4 "up_of" = true)
 (Ys:ay K (.ref yf)=true)
 (zO:au K (.ref k6) "__init__" = some (some (.ref g5)))
 (zP:aT K (.ref g5)=true)
 (zQ:K.lookup g5=some ⟨S5,S6,.func (ak "__init__" "Town.__init__" (aE gM) (aC gM) (ai gM) .none Fi Fj Fk Fo wJ Fl),S8⟩)
 (zR:aA K wJ "Town.__init__" = true)
 (zS:ay K (.ref g5)=true)
 (Gh:au K (.ref k6) "name" = some (some (.ref jv)))
 (Gi:aT K (.ref jv)=true)
 (Gj:K.lookup jv=some ⟨Xy,Xz,.func (ak "name" "Town.name" (aE jl) (aC jl) (ai jl) .none Le Lf Lg Li BU Lh),XA⟩)
 (Gk:aA K BU "Town.name" = true)
 (yI:ay K (.ref jv)=true)
 (Gm:au K (.ref k6) "rope" = some (some (.ref jw)))
 (Gn:aT K (.ref jw)=true)
 (Gp:K.lookup jw=some ⟨XC,XD,.func (ak "rope" "Town.rope" (aE jm) (aC jm) (ai jm) .none Lj Lk Ll Ln BV Lm),XE⟩)
 (Gq:aA K BV "Town.rope" = true)
 (yJ:ay K (.ref jw)=true)
 (tL:au K (.ref k6) "ropes_at" = some (some (.ref fG)))
 (tM:aT K (.ref fG)=true)
 (tN:K.lookup fG=some ⟨Na,Nb,.func (ak "ropes_at" "Town.ropes_at" (aE ee) (aC ee) (ai ee) .none AQ AR AS AV qF AU),Nc⟩)
 (tO:aA K qF "Town.ropes_at" = true)
 (ny:ay K (.ref fG)=true)
 (xD:au K (.ref k6) "far_end" = some (some (.ref gi)))
 (xE:aT K (.ref gi)=true)
 (xF:K.lookup gi=some ⟨QH,QI,.func (ak "far_end" "Town.far_end" (aE fY) (aC fY) (ai fY) .none DG DH DJ DL sY DK),QJ⟩)
 (xG:aA K sY "Town.far_end" = true)
 (p9:ay K (.ref gi)=true)
 (Gs:au K (.ref k6) "lets" = some (some (.ref jx)))
 (Gu:aT K (.ref jx)=true)
 (Gv:K.lookup jx=some ⟨XF,XG,.func (ak "lets" "Town.lets" (aE jn) (aC jn) (ai jn) .none Lo Lp Lq Ls BW Lr),XH⟩)
 (Gw:aA K BW "Town.lets" = true)
 (yK:ay K (.ref jx)=true)
 (zT:aM K mainGlobals "check_names" = some (some (.ref iS)))
 (zU:K.lookup iS=some ⟨S9,Tc,.func (ak "check_names" "check_names" (aE gO) (aC gO) (ai gO) .none Fq Ft Fv Fx wK Fw),Td⟩)
 (zV:aA K wK "check_names" = true)
 (zW:ay K (.ref iS)=true)
 (zX:aM K mainGlobals "check_ropes" = some (some (.ref iT)))
 (zY:K.lookup iT=some ⟨Te,Tf,.func (ak "check_ropes" "check_ropes" (aE gQ) (aC gQ) (ai gQ) .none Fy Fz FA FE wL FD),Tg⟩)
 (zZ:aA K wL "check_ropes" = true)
 (z6:ay K (.ref iT)=true)
 (Cm:aM K mainGlobals "check_rope" = some (some (.ref jy)))
 (Cn:K.lookup jy=some ⟨Vv,Vw,.func (ak "check_rope" "check_rope" (aE iJ) (aC iJ) (ai iJ) .none Im Io Ip Ir zh Iq),Vx⟩)
 (Co:aA K zh "check_rope" = true)
 (Cq:ay K (.ref jy)=true)
 (Gx:aM K mainGlobals "joins_two" = some (some (.ref jS)))
 (Gy:K.lookup jS=some ⟨XI,XJ,.func (ak "joins_two" "joins_two" (aE jo) (aC jo) (ai jo) .none Lu Lv Lw Ly BX Lx),XM⟩)
 (Gz:aA K BX "joins_two" = true)
 (GA:ay K (.ref jS)=true)
 (qL:au K (.ref iA) "__init__" = some (some (.ref eB)))
 (qM:aT K (.ref eB)=true)
 (qN:K.lookup eB=some ⟨Lz,LA,.func (ak "__init__" "Strands.__init__" (aE dG) (aC dG) (ai dG) .none yq yr yt yv pX yu),LC⟩)
 (qO:aA K pX "Strands.__init__" = true)
 (qP:ay K (.ref eB)=true)
 (nX:au K (.ref iA) "standing" = some (some (.ref dc)))
 (nY:aT K (.ref dc)=true)
 (nZ:K.lookup dc=some ⟨HG,HH,.func (ak "standing" "Strands.standing" (aE c7) (aC c7) (ai c7) .none uA uB uC uE mR uD),HJ⟩)
 (n9:aA K mR "Strands.standing" = true)
 (kr:ay K (.ref dc)=true)
 (oh:au K (.ref iA) "wire_for" = some (some (.ref dg)))
 (oi:aT K (.ref dg)=true)
 (oj:K.lookup dg=some ⟨HK,HL,.func (ak "wire_for" "Strands.wire_for" (aE c8) (aC c8) (ai c8) .none uF uG uH uJ mS uI),HM⟩)
 (om:aA K mS "Strands.wire_for" = true)
 (ku:ay K (.ref dg)=true)
 (xH:au K (.ref iA) "live" = some (some (.ref gj)))
 (xJ:aT K (.ref gj)=true)
 (xK:K.lookup gj=some ⟨QK,QL,.func (ak "live" "Strands.live" (aE fh) (aC fh) (ai fh) .none DM DN DO DQ sZ DP),QM⟩)
 (xM:aA K sZ "Strands.live" = true)
 (qb:ay K (.ref gj)=true)
 (JM:aM K mainGlobals "wires_of" = some (some (.ref lT)))
 (JN:K.lookup lT=some ⟨aad,aae,.func (ak "wires_of" "wires_of" (aE jZ) (aC jZ) (ai jZ) .none Pe Pf Pg Pj FF Ph),aaf⟩)
 (JO:aA K FF "wires_of" = true)
 (JP:ay K (.ref lT)=true)
 (z7:aM K mainGlobals "check_group" = some (some (.ref iU)))
 (z8:K.lookup iU=some ⟨Th,Ti,.func (ak "check_group" "check_group" (aE gR) (aC gR) (ai gR) .none FG FH FI FL wM FJ),Tj⟩)
 (z9:aA K wM "check_group" = true)
 (Aa:ay K (.ref iU)=true)
 (tP:au K (.ref jC) "__init__" = some (some (.ref fH)))
 (tQ:aT K (.ref fH)=true)
 (tR:K.lookup fH=some ⟨Nd,Ng,.func (ak "__init__" "Posted.__init__" (aE fC) (aC fC) (ai fC) .none AW AX AY A0 qG AZ),Nh⟩)
 (tS:aA K qG "Posted.__init__" = true)
 (tT:ay K (.ref fH)=true)
 (Cr:au K (.ref gC) "__init__" = some (some (.ref iO)))
 (Cs:aT K (.ref iO)=true)
 (Ct:K.lookup iO=some ⟨Vy,Vz,.func (ak "__init__" "Net.__init__" (aE dJ) (aC dJ) (ai dJ) .none Iu Iv Iw IA zj Iz),VA⟩)
 (Cu:aA K zj "Net.__init__" = true)
 (Cv:ay K (.ref iO)=true)
 (JQ:au K (.ref gC) "rows" = some (some (.ref j8)))
 (JR:aT K (.ref j8)=true)
 (JS:K.lookup j8=some ⟨aag,aah,.func (ak "rows" "Net.rows" (aE j0) (aC j0) (ai j0) .none Pk Pn Po Pq FN Pp),aai⟩)
 (JT:aA K FN "Net.rows" = true)
 (Cw:ay K (.ref j8)=true)
 (JU:au K (.ref gC) "live" = some (some (.ref j9)))
 (JV:aT K (.ref j9)=true)
 (JW:K.lookup j9=some ⟨aaj,aak,.func (ak "live" "Net.live" (aE j3) (aC j3) (ai j3) .none Pr Pu Pw Py FO Px),aal⟩)
 (JX:aA K FO "Net.live" = true)
 (Cy:ay K (.ref j9)=true)
 (GB:au K (.ref gC) "opens" = some (some (.ref jz)))
 (GC:aT K (.ref jz)=true)
 (GD:K.lookup jz=some ⟨XN,XO,.func (ak "opens" "Net.opens" (aE jq) (aC jq) (ai jq) .none LD LF LG LJ BY LI),XQ⟩)
 (GF:aA K BY "Net.opens" = true)
 (yL:ay K (.ref jz)=true)
 (Cz:au K (.ref gC) "row_at" = some (some (.ref iP)))
 (CA:aT K (.ref iP)=true)
 (CB:K.lookup iP=some ⟨VB,VC,.func (ak "row_at" "Net.row_at" (aE iK) (aC iK) (ai iK) .none IB IC ID IF zk IE),VD⟩)
 (CC:aA K zk "Net.row_at" = true)
 (vt:ay K (.ref iP)=true)
 (JY:au K (.ref gC) "call" = some (some (.ref kc)))
 (JZ:aT K (.ref kc)=true)
 (J0:K.lookup kc=some ⟨aam,aan,.func (ak "call" "Net.call" (aE j4) (aC j4) (ai j4) .none Pz PB PD PJ FP PF),aao⟩)
 (J1:aA K FP "Net.call" = true)
 (CD:ay K (.ref kc)=true)
 (NP:au K (.ref gC) "had" = some (some (.ref mD)))
 (NQ:aT K (.ref mD)=true)
 (NR:K.lookup mD=some ⟨acs,acu,.func (ak "had" "Net.had" (aE mj) (aC mj) (ai mj) .none Tn To Tp Tr Jz Tq),acv⟩)
 (NT:aA K Jz "Net.had" = true)
 (Hw:ay K (.ref mD)=true)
 (J2:au K (.ref gC) "post" = some (some (.ref kg)))
 (J3:aT K (.ref kg)=true)
 (J4:K.lookup kg=some ⟨aap,aaq,.func (ak "post" "Net.post" (aE j5) (aC j5) (ai j5) (.ref JA) PK PL PM PR FQ PN),aar⟩)
 (J5:aA K FQ "Net.post" = true)
 (CF:ay K (.ref kg)=true)
 (GG:K.lookup JA=some ⟨.type "tuple",XR,.seq #[.none] aas,XS⟩)
 (CG:au K (.ref gC) "flying" = some (some (.ref iQ)))
 (CH:aT K (.ref iQ)=true)
 (CI:K.lookup iQ=some ⟨VE,VF,.func (ak "flying" "Net.flying" (aE iL) (aC iL) (ai iL) .none IG II IJ IL zl IK),VG⟩)
 (CJ:aA K zl "Net.flying" = true)
 (vv:ay K (.ref iQ)=true)
 (Ab:au K (.ref gC) "pass_on" = some (some (.ref g6)))
 (Ac:aT K (.ref g6)=true)
 (Ae:K.lookup g6=some ⟨Tt,Tu,.func (ak "pass_on" "Net.pass_on" (aE gS) (aC gS) (ai gS) (.ref zm) FT FU FW FZ wO FY),Tv⟩)
 (Af:aA K wO "Net.pass_on" = true)
 (rZ:ay K (.ref g6)=true)
 (xN:K.lookup zm=some ⟨.type "tuple",QN,.seq #[.int 0 kT] Tw,QO⟩)
 (GH:au K (.ref gC) "story" = some (some (.ref jA)))
 (GI:aT K (.ref jA)=true)
 (GJ:K.lookup jA=some ⟨XT,XU,.func (ak "story" "Net.story" (aE jr) (aC jr) (ai jr) .none LK LL LM LO BZ LN),XW⟩)
 (GK:aA K BZ "Net.story" = true)
 (yM:ay K (.ref jA)=true)
 (Ag:au K (.ref gC) "fate_of" = some (some (.ref g7)))
 (Ah:aT K (.ref g7)=true)
 (Ai:K.lookup g7=some ⟨Tz,TF,.func (ak "fate_of" "Net.fate_of" (aE gT) (aC gT) (ai gT) .none F0 Ga Gb Gd wQ Gc),TH⟩)
 (Aj:aA K wQ "Net.fate_of" = true)
 (r6:ay K (.ref g7)=true)
 (tU:au K (.ref gC) "do_letter" = some (some (.ref fJ)))
 (tV:aT K (.ref fJ)=true)
 (tW:K.lookup fJ=some ⟨Ni,Nj,.func (ak "do_letter" "Net.do_letter" (aE fD) (aC fD) (ai fD) .none A1 A2 A3 A5 qH A4),Nk⟩)
 (tX:aA K qH "Net.do_letter" = true)
 (nA:ay K (.ref fJ)=true)
 (qQ:au K (.ref gC) "callers_at" = some (some (.ref eE)))
 (qR:aT K (.ref eE)=true)
 (qU:K.lookup eE=some ⟨LP,LQ,.func (ak "callers_at" "Net.callers_at" (aE dH) (aC dH) (ai dH) .none yw yx yy yC pY yz),LR⟩)
 (qV:aA K pY "Net.callers_at" = true)
 (mJ:ay K (.ref eE)=true)
 (J6:au K (.ref gC) "send" = some (some (.ref kh)))
 (J7:aT K (.ref kh)=true)
 (J8:K.lookup kh=some ⟨aat,aau,.func (ak "send" "Net.send" (aE j6) (aC j6) (ai j6) .none PU PV PX PZ Ge PY),aav⟩)
 (J9:aA K Ge "Net.send" = true)
 (CK:ay K (.ref kh)=true)
 (tY:au K (.ref gC) "take_news" = some (some (.ref fK)))
 (tZ:aT K (.ref fK)=true)
 (t8:K.lookup fK=some ⟨Nl,Nm,.func (ak "take_news" "Net.take_news" (aE fE) (aC fE) (ai fE) .none A6 A7 A8 Ba qI A9),Np⟩)
 (ua:aA K qI "Net.take_news" = true)
 (nB:ay K (.ref fK)=true)
 (qc:au K (.ref gC) "check_house" = some (some (.ref dN)))
 (qe:aT K (.ref dN)=true)
 (qg:K.lookup dN=some ⟨JB,JC,.func (ak "check_house" "Net.check_house" (aE dM) (aC dM) (ai dM) .none wR wU wV wX nW wW),JD⟩)
 (qh:aA K nW "Net.check_house" = true)
 (lE:ay K (.ref dN)=true)
 (oq:au K (.ref gC) "check_caller" = some (some (.ref dh)))
 (ou:aT K (.ref dh)=true)
 (ow:K.lookup dh=some ⟨HN,HP,.func (ak "check_caller" "Net.check_caller" (aE c9) (aC c9) (ai c9) .none uK uL uM uO mT uN),HQ⟩)
 (oz:aA K mT "Net.check_caller" = true)
 (kB:ay K (.ref dh)=true)
 (qX:au K (.ref gC) "check_pair" = some (some (.ref eF)))
 (qY:aT K (.ref eF)=true)
 (qZ:K.lookup eF=some ⟨LU,LV,.func (ak "check_pair" "Net.check_pair" (aE ez) (aC ez) (ai ez) .none yD yE yF yH pZ yG),LW⟩)
 (rj:aA K pZ "Net.check_pair" = true)
 (mK:ay K (.ref eF)=true)
 (CL:aM K mainGlobals "first_rows" = some (some (.ref jB)))
 (CM:K.lookup jB=some ⟨VH,VI,.func (ak "first_rows" "first_rows" (aE gU) (aC gU) (ai gU) .none IM IP IQ IT zo IS),VJ⟩)
 (CN:aA K zo "first_rows" = true)
 (CO:ay K (.ref jB)=true)
 (uc:aM K mainGlobals "check_callers" = some (some (.ref gq)))
 (ud:K.lookup gq=some ⟨Nq,Nr,.func (ak "check_callers" "check_callers" (aE fF) (aC fF) (ai fF) .none Bb Bc Be Bg qJ Bf),Nt⟩)
 (ue:aA K qJ "check_callers" = true)
 (uf:ay K (.ref gq)=true)
 (GL:aM K mainGlobals "_law_cell_at" = some (some (.ref jT)))
 (GN:K.lookup jT=some ⟨XX,XY,.func (ak "_law_cell_at" "_law_cell_at" (aE jt) (aC jt) (ai jt) .none LX LY LZ L1 Ca L0),XZ⟩)
 (GO:aA K Ca "_law_cell_at" = true)
 (GP:ay K (.ref jT)=true)
 (NU:aM K mainGlobals "_law_whole" = some (some (.ref oJ)))
 (NV:K.lookup oJ=some ⟨acw,acy,.func (ak "_law_whole" "_law_whole" (aE mq) (aC mq) (ai mq) .none TJ TL TM TR JE TN),acz⟩)
 (NX:aA K JE "_law_whole" = true)
 (NY:ay K (.ref oJ)=true)
 (NZ:aM K mainGlobals "_law_names" = some (some (.ref oK)))
 (Oa:K.lookup oK=some ⟨acA,acB,.func (ak "_law_names" "_law_names" (aE mw) (aC mw) (ai mw) .none TU TV TY T4 JF TZ),acC⟩)
 (Ob:aA K JF "_law_names" = true)
 (Oc:ay K (.ref oK)=true)
 (Od:aM K mainGlobals "_law_ropes" = some (some (.ref oM)))
 (Oe:K.lookup oM=some ⟨acD,acE,.func (ak "_law_ropes" "_law_ropes" (aE mz) (aC mz) (ai mz) .none T5 T6 T7 T9 JG T8),acF⟩)
 (Of:aA K JG "_law_ropes" = true)
 (Og:ay K (.ref oM)=true)
 (GQ:aM K mainGlobals "_law_callers" = some (some (.ref jU)))
 (GR:K.lookup jU=some ⟨X0,Yb,.func (ak "_law_callers" "_law_callers" (aE ju) (aC ju) (ai ju) .none L3 L4 L5 L7 Cb L6),Yc⟩)
 (GS:aA K Cb "_law_callers" = true)
 (GU:ay K (.ref jU)=true)
 (Ka:aM K mainGlobals "_law_rounds" = some (some (.ref lU)))
 (Kc:K.lookup lU=some ⟨aaw,aax,.func (ak "_law_rounds" "_law_rounds" (aE j7) (aC j7) (ai j7) .none P0 P1 P4 P6 Gf P5),aay⟩)
 (Kd:aA K Gf "_law_rounds" = true)
 (Ke:ay K (.ref lU)=true)
 (xO:aM K mainGlobals "_law_story_kind" = some (some (.ref ig)))
 (xP:K.lookup ig=some ⟨QS,QT,.func (ak "_law_story_kind" "_law_story_kind" (aE fj) (aC fj) (ai fj) .none DR DS DT DV tw DU),QU⟩)
 (xQ:aA K tw "_law_story_kind" = true)
 (xR:ay K (.ref ig)=true)
 (Yt:aM K mainGlobals "_law_due" = some (some (.ref yg)))
 (Yu:K.lookup yg=some ⟨agB,agC,.func (ak "_law_due" "_law_due" (aE vd) (aC vd) (ai vd) .none aaz aaA aaB aaD Ua aaC),agD⟩)
 (Yv:aA K Ua "_law_due" = true)
 (Yw:ay K (.ref yg)=true)
 (Kf:aM K mainGlobals "_law_arrive" = some (some (.ref lV)))
 (Kg:K.lookup lV=some ⟨aaE,aaF,.func (ak "_law_arrive" "_law_arrive" (aE jb) (aC jb) (ai jb) .none P7 P8 P9 Qc Gg Qa),aaG⟩)
 (Kh:aA K Gg "_law_arrive" = true)
 (Kl:ay K (.ref lV)=true)
 (agR:aM K mainGlobals "law" = some (some (.ref OV)))
 (agS:K.lookup OV=some ⟨alD,alE,.func (ak "law" "law" (aE Et) (aC Et) (ai Et) .none agE agF agG agI acG agH),alF⟩)
 (agT:aA K acG "law" = true)
 (agU:ay K (.ref OV)=true)
 (Oh:fk K ir Str.empty=true)
 (Oi:cV K ir=true)
 (Oj:gw K ir=true)
 (Ol:au K (.ref ir) "__setattr__" = some (some (.builtin "object.__setattr__")))
 (Om:iZ K ir=true)
 (Oo:ay K (.ref ir)=true)
 (rm:au K (.ref ir) "sender" = some none)
 (CP:au K (.ref ir) "to" = some none)
 (Ud:fk K lB Str.empty=true)
 (Ue:cV K lB=true)
 (Ug:gw K lB=true)
 (Uh:au K (.ref lB) "__setattr__" = some (some (.builtin "object.__setattr__")))
 (Ui:iZ K lB=true)
 (Uj:ay K (.ref lB)=true)
 (ug:au K (.ref lB) "sender" = some none)
 (GV:au K (.ref lB) "to" = some none)
 (Uk:fk K lD Str.empty=true)
 (Ul:cV K lD=true)
 (Um:gw K lD=true)
 (Uo:au K (.ref lD) "__setattr__" = some (some (.builtin "object.__setattr__")))
 (Up:iZ K lD=true)
 (Uq:ay K (.ref lD)=true)
 (uh:au K (.ref lD) "sender" = some none)
 (GW:au K (.ref lD) "to" = some none)
 (Oq:fk K jC Str.empty=true)
 (Ot:cV K jC=true)
 (Ou:gw K jC=true)
 (Ov:au K (.ref jC) "__setattr__" = some (some (.builtin "object.__setattr__")))
 (Ow:iZ K jC=true)
 (Ox:ay K (.ref jC)=true)
 (rz:au K (.ref jC) "letter" = some none)
 (um:au K (.ref jC) "group" = some none)
 (Ak:au K (.ref jC) "old" = some none)
 (qi:au K (.ref jC) "done_at" = some none)
 (uo:au K (.ref jC) "deeds" = some none)
 (Yx:fk K k6 Str.empty=true)
 (Yy:cV K k6=true)
 (Yz:gw K k6=true)
 (YA:au K (.ref k6) "__setattr__" = some (some (.builtin "object.__setattr__")))
 (YB:iZ K k6=true)
 (YC:ay K (.ref k6)=true)
 (mU:au K (.ref k6) "house_names" = some none)
 (mV:au K (.ref k6) "rope_tuples" = some none)
 (CQ:au K (.ref k6) "size" = some none)
 (CS:au K (.ref k6) "many" = some none)
 (Km:fk K iA Str.empty=true)
 (Kn:cV K iA=true)
 (Ko:gw K iA=true)
 (Kp:au K (.ref iA) "__setattr__" = some (some (.builtin "object.__setattr__")))
 (Kq:iZ K iA=true)
 (Kr:ay K (.ref iA)=true)
 (uq:au K (.ref iA) "town" = some none)
 (oA:au K (.ref iA) "upright" = some none)
 (YD:fk K qK Str.empty=true)
 (YE:cV K qK=true)
 (YF:gw K qK=true)
 (YG:au K (.ref qK) "__setattr__" = some (some (.builtin "object.__setattr__")))
 (YH:iZ K qK=true)
 (YI:ay K (.ref qK)=true)
 (CU:au K (.ref qK) "kept" = some none)
 (acI:fk K gC Str.empty=true)
 (acJ:cV K gC=true)
 (acK:gw K gC=true)
 (acL:au K (.ref gC) "__setattr__" = some (some (.builtin "object.__setattr__")))
 (acM:iZ K gC=true)
 (acN:ay K (.ref gC)=true)
 (GX:au K (.ref gC) "town" = some none)
 (xS:au K (.ref gC) "strands" = some none)
 (lZ:au K (.ref gC) "rows_by_group" = some none)
 (CV:au K (.ref gC) "books" = some none)
 (CY:au K (.ref gC) "homes" = some none)
 (Al:au K (.ref gC) "groups" = some none)
 (Am:au K (.ref gC) "handed" = some none)
 (xT:au K (.ref gC) "letters" = some none)
 (An:au K (.ref gC) "copies" = some none)
 (xU:aM K mainGlobals "opens_opens" = some (some (.ref rJ)))
 (xV:au K (.ref lD) "seeks" = some (some (.ref dY)))
 (ur:au K (.ref lD) "number" = some (some (.ref dm)))
 (Ur:au K (.ref lD) "__init__" = some (some (.ref cT)))
 (rA:qk K (.ref ir) "__getattribute__" = some (some (.builtin "type.__getattribute__")))
 (rB:PySem.W.readsIn K ir (.type "type")=true)
 (rC:PySem.W.findCls K (.ref ir) (.type "type") "__init__" = some (.val (.ref cT)))
 (Oz:aM K mainGlobals "NoWire" = some (some (.ref p5)))
 (Ks:PySem.W.excIn K p5 afR "ValueError.__new__" = true)
 (Ku:au K (.ref p5) "__getattribute__" = some (some (.builtin "BaseException.__getattribute__")))
 (Kv:au K (.ref p5) "__getattr__" = some none)
 (Kw:cV K p5=true)
 (Ky:au K (.ref p5) "__class__" = some (some (.builtin "object.__class__")))
 (Kz:qk K (.builtin "object.__class__") "__get__" = some (some (.builtin "getset_descriptor.__get__")))
 (KA:PySem.W.takesIn K (.builtin "object.__class__")=some true)
 (KC:vH K p5 (.type "object")=some true)
 (KD:vH K p5 (.type "BaseException")=some true)
 (KE:aM K mainGlobals "NoGroup" = some (some (.ref mH)))
 (GY:PySem.W.excIn K mH afR "ValueError.__new__" = true)
 (GZ:au K (.ref mH) "__getattribute__" = some (some (.builtin "BaseException.__getattribute__")))
 (G0:au K (.ref mH) "__getattr__" = some none)
 (G1:cV K mH=true)
 (G2:au K (.ref mH) "__class__" = some (some (.builtin "object.__class__")))
 (G3:qk K (.builtin "object.__class__") "__get__" = some (some (.builtin "getset_descriptor.__get__")))
 (G4:PySem.W.takesIn K (.builtin "object.__class__")=some true)
 (G5:vH K mH (.type "object")=some true)
 (G6:vH K mH (.type "BaseException")=some true)
 (Ao:aM K mainGlobals "MOST_HOUSES" = some (some (.int 10 rL)))
 (CZ:aM K mainGlobals "MOST_ROPES" = some (some (.int 20 ve)))
 (C0:aM K mainGlobals "MOST_WIRES" = some (some (.int 4 vf)))
 (C1:aM K mainGlobals "ALL_GROUPS" = some (some (.int 7 vg)))
 (xW:aM K mainGlobals "MOST_CALLERS" = some (some (.int 20 pH)))
 (C2:aM K mainGlobals "GROUP_BITS" = some (some (.ref gk)))
 (C3:K.lookup gk=some ⟨.type "tuple",VL,.seq #[.int 1 VM,.int 2 VN,.int 4 VO] Yd,VP⟩)
 (agV:aM K mainGlobals "len" = some none)
 (C4:aM K mainGlobals "isinstance" = some none)
 (agW:aM K mainGlobals "int" = some none)
 (acO:aM K mainGlobals "bool" = some none)
 (acP:aM K mainGlobals "list" = some none)
 (YJ:aM K mainGlobals "tuple" = some none)
 (YK:aM K mainGlobals "range" = some none)
 (G7:aM K mainGlobals "enumerate" = some none)
 (agX:aM K mainGlobals "min" = some none)
 (agY:aM K mainGlobals "set" = some none)
 (agZ:aM K mainGlobals "str" = some none)
 (ag0:aM K mainGlobals "all" = some none)
 (Us:aM K mainGlobals "sorted" = some none):∃ t,Txt K mg t:=by
 have rM:=bF (st:=gG) zu zw zx
 have vh:=bF (st:=iH) Ce Cf vp
 have vj:=bF (st:=iI) Cj Ck vq
 have rN:=bF (st:=gH) zA zB rV
 have AA:=bF (st:=kQ) Nz NB ND
 have we:=bF (st:=jD) JJ JK JL
 have m7:=bF (st:=fz) tE tF nk
 have pI:=bF (st:=fU) w6 xg p6
 have pJ:=bF (st:=fV) xj xm lY
 have m8:=bF (st:=fB) tH tK kN
 have pK:=bF (st:=fW) xr xu xw
 have rO:=bF (st:=gI) zE zF rW
 have rP:=bF (st:=gJ) zI zJ rX
 have pL:=bF (st:=fX) xB xC p8
 have rQ:=bF (st:=gK) zM zN rY
 have vE:=bF (st:=mh) NH NI NJ
 have Ht:=bF (st:=u0) Yi Yj Yk
 have ZK:=bF (st:=K4) agK agL agM
 have ZL:=bF (st:=HW) agO agP agQ
 have Hu:=bF (st:=rH) Ym Yn Yo
 have AB:=bF (st:=kR) NL NN NO
 have K8:=bF (st:=vc) Yq Yr Ys
 have rR:=bF (st:=gM) zQ zR zS
 have yh:=bF (st:=jl) Gj Gk yI
 have yi:=bF (st:=jm) Gp Gq yJ
 have m9:=bF (st:=ee) tN tO ny
 have pM:=bF (st:=fY) xF xG p9
 have yj:=bF (st:=jn) Gv Gw yK
 have mZ:=bF (st:=gO) zU zV zW
 have m5:=bF (st:=gQ) zY zZ z6
 have pN:=bF (st:=iJ) Cn Co Cq
 have sq:=bF (st:=jo) Gy Gz GA
 have mE:=bF (st:=dG) qN qO qP
 have kj:=bF (st:=c7) nZ n9 kr
 have ko:=bF (st:=c8) oj om ku
 have pO:=bF (st:=fh) xK xM qb
 have wm:=bF (st:=jZ) JN JO JP
 have kU:=bF (st:=gR) z8 z9 Aa
 have ng:=bF (st:=fC) tR tS tT
 have vm:=bF (st:=dJ) Ct Cu Cv
 have BI:=bF (st:=j0) JS JT Cw
 have BL:=bF (st:=j3) JW JX Cy
 have yk:=bF (st:=jq) GD GF yL
 have vn:=bF (st:=iK) CB CC vt
 have BN:=bF (st:=j4) J0 J1 CD
 have Hv:=bF (st:=mj) NR NT Hw
 have wo:=adx (st:=j5) J4 J5 CF GG rfl
 have vo:=bF (st:=iL) CI CJ vv
 have m6:=adx (st:=gS) Ae Af rZ xN rfl
 have yl:=bF (st:=jr) GJ GK yM
 have rS:=bF (st:=gT) Ai Aj r6
 have nh:=bF (st:=fD) tW tX nA
 have mF:=bF (st:=dH) qU qV mJ
 have BO:=bF (st:=j6) J8 J9 CK
 have ni:=bF (st:=fE) t8 ua nB
 have ly:=bF (st:=dM) qg qh lE
 have kq:=bF (st:=c9) ow oz kB
 have mG:=bF (st:=ez) qZ rj mK
 have pP:=bF (st:=gU) CM CN CO
 have kM:=bF (st:=fF) ud ue uf
 have eO:=bF (st:=jt) GN GO GP
 have vF:=bF (st:=mq) NV NX NY
 have AD:=bF (st:=mw) Oa Ob Oc
 have AE:=bF (st:=mz) Oe Of Og
 have sr:=bF (st:=ju) GR GS GU
 have wu:=bF (st:=j7) Kc Kd Ke
 have lW:=bF (st:=fj) xP xQ xR
 have Ld:=bF (st:=vd) Yu Yv Yw
 have wz:=bF (st:=jb) Kg Kh Kl
 have ZU:=bF (st:=Et) agS agT agU
 exact⟨⟨gV,(ak "__init__" "Book.__init__" (aE gG) (aC gG) (ai gG) .none EN EO ER ET wD ES),iM,(ak "learn" "Book.learn" (aE iH) (aC iH) (ai iH) .none Ia Ib Ic Ig zf Ie),iN,(ak "known" "Book.known" (aE iI) (aC iI) (ai iI) .none Ih Ii Ij Il zg Ik),gW,(ak "forget" "Book.forget" (aE gH) (aC gH) (ai gH) .none EU EV EW EY wF EX),oF,(ak "targets" "targets" (aE kQ) (aC kQ) (ai kQ) .none Su Sv Sw Sy Jw Sx),lS,(ak "ropes_on" "ropes_on" (aE jD) (aC jD) (ai jD) .none O9 Pa Pb Pd EZ Pc),cT,(ak "__init__" "Letter.__init__" (aE fz) (aC fz) (ai fz) .none AF AG AH AJ qD AI),fZ,(ak "meant" "Letter.meant" (aE fU) (aC fU) (ai fU) .none Dh Di Dj Dl sU Dk),dY,(ak "seeks" "Letter.seeks" (aE fV) (aC fV) (ai fV) .none Dm Dn Dp Dt sV Dq),dm,(ak "number" "Letter.number" (aE fB) (aC fB) (ai fB) .none AK AL AM AO qE AN),gf,(ak "__init__" "ToOne.__init__" (aE fW) (aC fW) (ai fW) .none Du Dv Dw Dz sW Dy),gX,(ak "meant" "ToOne.meant" (aE gI) (aC gI) (ai gI) .none E1 E2 E3 E5 wG E4),gY,(ak "seeks" "ToOne.seeks" (aE gJ) (aC gJ) (ai gJ) .none E6 E7 E8 Fb wH E9),gh,(ak "number" "ToOne.number" (aE fX) (aC fX) (ai fX) .none DA DB DC DF sX DE),gZ,(ak "meant" "ToAll.meant" (aE gK) (aC gK) (ai gK) .none Fc Fd Fe Fg wI Ff),oG,(ak "own_row" "own_row" (aE mh) (aC mh) (ai mh) .none SM SN SO SR Jx SQ),ye,(ak "offer" "offer" (aE u0) (aC u0) (ai u0) .none ZY ZZ Z0 Z2 SS Z1),OT,(ak "due" "due" (aE K4) (aC K4) (ai K4) .none agl agm agn agp acm ago),OU,(ak "ups" "ups" (aE HW) (aC HW) (ai HW) .none agq agr ags agu acn agt),rJ,(ak "opens" "opens" (aE rH) (aC rH) (ai rH) .none Z3 Z4 Z5 Z7 SV Z6),oH,(ak "open_at" "open_at" (aE kR) (aC kR) (ai kR) .none SW SX SY S2 Jy S1),yf,(ak "up_of" "up_of" (aE vc) (aC vc) (ai vc) .none Z8 Z9 aaa aac S4 aab),g5,(ak "__init__" "Town.__init__" (aE gM) (aC gM) (ai gM) .none Fi Fj Fk Fo wJ Fl),jv,(ak "name" "Town.name" (aE jl) (aC jl) (ai jl) .none Le Lf Lg Li BU Lh),jw,(ak "rope" "Town.rope" (aE jm) (aC jm) (ai jm) .none Lj Lk Ll Ln BV Lm),fG,(ak "ropes_at" "Town.ropes_at" (aE ee) (aC ee) (ai ee) .none AQ AR AS AV qF AU),gi,(ak "far_end" "Town.far_end" (aE fY) (aC fY) (ai fY) .none DG DH DJ DL sY DK),jx,(ak "lets" "Town.lets" (aE jn) (aC jn) (ai jn) .none Lo Lp Lq Ls BW Lr),iS,(ak "check_names" "check_names" (aE gO) (aC gO) (ai gO) .none Fq Ft Fv Fx wK Fw),iT,(ak "check_ropes" "check_ropes" (aE gQ) (aC gQ) (ai gQ) .none Fy Fz FA FE wL FD),jy,(ak "check_rope" "check_rope" (aE iJ) (aC iJ) (ai iJ) .none Im Io Ip Ir zh Iq),jS,(ak "joins_two" "joins_two" (aE jo) (aC jo) (ai jo) .none Lu Lv Lw Ly BX Lx),eB,(ak "__init__" "Strands.__init__" (aE dG) (aC dG) (ai dG) .none yq yr yt yv pX yu),dc,(ak "standing" "Strands.standing" (aE c7) (aC c7) (ai c7) .none uA uB uC uE mR uD),dg,(ak "wire_for" "Strands.wire_for" (aE c8) (aC c8) (ai c8) .none uF uG uH uJ mS uI),gj,(ak "live" "Strands.live" (aE fh) (aC fh) (ai fh) .none DM DN DO DQ sZ DP),lT,(ak "wires_of" "wires_of" (aE jZ) (aC jZ) (ai jZ) .none Pe Pf Pg Pj FF Ph),iU,(ak "check_group" "check_group" (aE gR) (aC gR) (ai gR) .none FG FH FI FL wM FJ),fH,(ak "__init__" "Posted.__init__" (aE fC) (aC fC) (ai fC) .none AW AX AY A0 qG AZ),iO,(ak "__init__" "Net.__init__" (aE dJ) (aC dJ) (ai dJ) .none Iu Iv Iw IA zj Iz),j8,(ak "rows" "Net.rows" (aE j0) (aC j0) (ai j0) .none Pk Pn Po Pq FN Pp),j9,(ak "live" "Net.live" (aE j3) (aC j3) (ai j3) .none Pr Pu Pw Py FO Px),jz,(ak "opens" "Net.opens" (aE jq) (aC jq) (ai jq) .none LD LF LG LJ BY LI),iP,(ak "row_at" "Net.row_at" (aE iK) (aC iK) (ai iK) .none IB IC ID IF zk IE),kc,(ak "call" "Net.call" (aE j4) (aC j4) (ai j4) .none Pz PB PD PJ FP PF),mD,(ak "had" "Net.had" (aE mj) (aC mj) (ai mj) .none Tn To Tp Tr Jz Tq),kg,(ak "post" "Net.post" (aE j5) (aC j5) (ai j5) (.ref JA) PK PL PM PR FQ PN),iQ,(ak "flying" "Net.flying" (aE iL) (aC iL) (ai iL) .none IG II IJ IL zl IK),g6,(ak "pass_on" "Net.pass_on" (aE gS) (aC gS) (ai gS) (.ref zm) FT FU FW FZ wO FY),kT,jA,(ak "story" "Net.story" (aE jr) (aC jr) (ai jr) .none LK LL LM LO BZ LN),g7,(ak "fate_of" "Net.fate_of" (aE gT) (aC gT) (ai gT) .none F0 Ga Gb Gd wQ Gc),fJ,(ak "do_letter" "Net.do_letter" (aE fD) (aC fD) (ai fD) .none A1 A2 A3 A5 qH A4),eE,(ak "callers_at" "Net.callers_at" (aE dH) (aC dH) (ai dH) .none yw yx yy yC pY yz),kh,(ak "send" "Net.send" (aE j6) (aC j6) (ai j6) .none PU PV PX PZ Ge PY),fK,(ak "take_news" "Net.take_news" (aE fE) (aC fE) (ai fE) .none A6 A7 A8 Ba qI A9),dN,(ak "check_house" "Net.check_house" (aE dM) (aC dM) (ai dM) .none wR wU wV wX nW wW),dh,(ak "check_caller" "Net.check_caller" (aE c9) (aC c9) (ai c9) .none uK uL uM uO mT uN),eF,(ak "check_pair" "Net.check_pair" (aE ez) (aC ez) (ai ez) .none yD yE yF yH pZ yG),jB,(ak "first_rows" "first_rows" (aE gU) (aC gU) (ai gU) .none IM IP IQ IT zo IS),gq,(ak "check_callers" "check_callers" (aE fF) (aC fF) (ai fF) .none Bb Bc Be Bg qJ Bf),jT,(ak "_law_cell_at" "_law_cell_at" (aE jt) (aC jt) (ai jt) .none LX LY LZ L1 Ca L0),oJ,(ak "_law_whole" "_law_whole" (aE mq) (aC mq) (ai mq) .none TJ TL TM TR JE TN),oK,(ak "_law_names" "_law_names" (aE mw) (aC mw) (ai mw) .none TU TV TY T4 JF TZ),oM,(ak "_law_ropes" "_law_ropes" (aE mz) (aC mz) (ai mz) .none T5 T6 T7 T9 JG T8),jU,(ak "_law_callers" "_law_callers" (aE ju) (aC ju) (ai ju) .none L3 L4 L5 L7 Cb L6),lU,(ak "_law_rounds" "_law_rounds" (aE j7) (aC j7) (ai j7) .none P0 P1 P4 P6 Gf P5),ig,(ak "_law_story_kind" "_law_story_kind" (aE fj) (aC fj) (ai fj) .none DR DS DT DV tw DU),yg,(ak "_law_due" "_law_due" (aE vd) (aC vd) (ai vd) .none aaz aaA aaB aaD Ua aaC),lV,(ak "_law_arrive" "_law_arrive" (aE jb) (aC jb) (ai jb) .none P7 P8 P9 Qc Gg Qa),OV,(ak "law" "law" (aE Et) (aC Et) (ai Et) .none agE agF agG agI acG agH),ir,lB,lD,jC,k6,iA,qK,gC,p5,mH,rL,ve,vf,vg,pH,gk⟩,⟨rM,
  (rM.binds (ps:=["self"]) fun _ _ _ _ _ _=>el1 fun _=>rfl),
  ⟨YH,zp,zq,YI⟩,
  vh,
  (vh.binds (ps:=["self","house","caller","rope"]) fun _ _ _ _ _ _=>el4 fun _ _ _ _=>rfl),
  ⟨Cc,Cd,vp⟩,
  vj,
  (vj.binds (ps:=["self","house","caller"]) fun _ _ _ _ _ _=>Wu fun _ _ _=>rfl),
  ⟨Cg,Ci,vq⟩,
  rN,
  (rN.binds (ps:=["self"]) fun _ _ _ _ _ _=>el1 fun _=>rfl),
  ⟨zy,zz,rV⟩,
  AA,
  (AA.binds (ps:=["book","letter","house","came","open_here","here"]) fun _ _ _ _ _ _=>el6 fun _ _ _ _ _ _=>rfl),
  (aQ X G Ny),
  we,
  (we.binds (ps:=["book","sought","house","came","open_here","here"]) fun _ _ _ _ _ _=>el6 fun _ _ _ _ _ _=>rfl),
  (aQ X G JI),
  m7,
  (m7.binds (ps:=["self","sender"]) fun _ _ _ _ _ _=>HF fun _ _=>rfl),
  ⟨Om,tD,nj,Oo⟩,
  pI,
  (pI.binds (ps:=["self","caller"]) fun _ _ _ _ _ _=>HF fun _ _=>rfl),
  ⟨wY,wZ,p6⟩,
  pJ,
  (pJ.binds (ps:=["self"]) fun _ _ _ _ _ _=>el1 fun _=>rfl),
  ⟨xh,p7,lY⟩,
  m8,
  (m8.binds (ps:=["self"]) fun _ _ _ _ _ _=>el1 fun _=>rfl),
  ⟨tG,nv,kN⟩,
  pK,
  (pK.binds (ps:=["self","sender","to"]) fun _ _ _ _ _ _=>Wu fun _ _ _=>rfl),
  ⟨Ui,xo,xq,Uj⟩,
  rO,
  (rO.binds (ps:=["self","caller"]) fun _ _ _ _ _ _=>HF fun _ _=>rfl),
  ⟨zC,zD,rW⟩,
  rP,
  (rP.binds (ps:=["self"]) fun _ _ _ _ _ _=>el1 fun _=>rfl),
  ⟨zG,zH,rX⟩,
  pL,
  (pL.binds (ps:=["self"]) fun _ _ _ _ _ _=>el1 fun _=>rfl),
  ⟨xx,xA,p8⟩,
  rQ,
  (rQ.binds (ps:=["self","caller"]) fun _ _ _ _ _ _=>HF fun _ _=>rfl),
  ⟨zK,zL,rY⟩,
  vE,
  (vE.binds (ps:=["town","house"]) fun _ _ _ _ _ _=>HF fun _ _=>rfl),
  (aQ X G NF),
  Ht,
  (Ht.binds (ps:=["town","row","rope"]) fun _ _ _ _ _ _=>Wu fun _ _ _=>rfl),
  (aQ X G Yh),
  ZK,
  (ZK.binds (ps:=["town","live","rows","house"]) fun _ _ _ _ _ _=>el4 fun _ _ _ _=>rfl),
  (aQ X G agJ),
  ZL,
  (ZL.binds (ps:=["town","live","rows"]) fun _ _ _ _ _ _=>Wu fun _ _ _=>rfl),
  (aQ X G agN),
  Hu,
  (Hu.binds (ps:=["town","live","rows"]) fun _ _ _ _ _ _=>Wu fun _ _ _=>rfl),
  (aQ X G Yl),
  AB,
  (AB.binds (ps:=["town","live","rows","house"]) fun _ _ _ _ _ _=>el4 fun _ _ _ _=>rfl),
  (aQ X G NK),
  K8,
  (K8.binds (ps:=["town","live","rows","house"]) fun _ _ _ _ _ _=>el4 fun _ _ _ _=>rfl),
  (aQ X G Yp),
  rR,
  (rR.binds (ps:=["self","names","ropes"]) fun _ _ _ _ _ _=>Wu fun _ _ _=>rfl),
  ⟨YB,zO,zP,YC⟩,
  yh,
  (yh.binds (ps:=["self","house"]) fun _ _ _ _ _ _=>HF fun _ _=>rfl),
  ⟨Gh,Gi,yI⟩,
  yi,
  (yi.binds (ps:=["self","number"]) fun _ _ _ _ _ _=>HF fun _ _=>rfl),
  ⟨Gm,Gn,yJ⟩,
  m9,
  (m9.binds (ps:=["self","house"]) fun _ _ _ _ _ _=>HF fun _ _=>rfl),
  ⟨tL,tM,ny⟩,
  pM,
  (pM.binds (ps:=["self","rope","house"]) fun _ _ _ _ _ _=>Wu fun _ _ _=>rfl),
  ⟨xD,xE,p9⟩,
  yj,
  (yj.binds (ps:=["self","rope","group"]) fun _ _ _ _ _ _=>Wu fun _ _ _=>rfl),
  ⟨Gs,Gu,yK⟩,
  mZ,
  (mZ.binds (ps:=["names"]) fun _ _ _ _ _ _=>el1 fun _=>rfl),
  (aQ X G zT),
  m5,
  (m5.binds (ps:=["size","ropes"]) fun _ _ _ _ _ _=>HF fun _ _=>rfl),
  (aQ X G zX),
  pN,
  (pN.binds (ps:=["size","rope"]) fun _ _ _ _ _ _=>HF fun _ _=>rfl),
  (aQ X G Cm),
  sq,
  (sq.binds (ps:=["size","one","other"]) fun _ _ _ _ _ _=>Wu fun _ _ _=>rfl),
  (aQ X G Gx),
  mE,
  (mE.binds (ps:=["self","town"]) fun _ _ _ _ _ _=>HF fun _ _=>rfl),
  ⟨Kq,qL,qM,Kr⟩,
  kj,
  (kj.binds (ps:=["self","rope"]) fun _ _ _ _ _ _=>HF fun _ _=>rfl),
  ⟨nX,nY,kr⟩,
  ko,
  (ko.binds (ps:=["self","rope","number"]) fun _ _ _ _ _ _=>Wu fun _ _ _=>rfl),
  ⟨oh,oi,ku⟩,
  pO,
  (pO.binds (ps:=["self","group"]) fun _ _ _ _ _ _=>HF fun _ _=>rfl),
  ⟨xH,xJ,qb⟩,
  wm,
  (wm.binds (ps:=["town","rope"]) fun _ _ _ _ _ _=>HF fun _ _=>rfl),
  (aQ X G JM),
  kU,
  (kU.binds (ps:=["group"]) fun _ _ _ _ _ _=>el1 fun _=>rfl),
  (aQ X G z7),
  ng,
  (ng.binds (ps:=["self","letter","group"]) fun _ _ _ _ _ _=>Wu fun _ _ _=>rfl),
  ⟨Ow,tP,tQ,Ox⟩,
  vm,
  (vm.binds (ps:=["self","town","callers"]) fun _ _ _ _ _ _=>Wu fun _ _ _=>rfl),
  ⟨acM,Cr,Cs,acN⟩,
  BI,
  (BI.binds (ps:=["self","group"]) fun _ _ _ _ _ _=>HF fun _ _=>rfl),
  ⟨JQ,JR,Cw⟩,
  BL,
  (BL.binds (ps:=["self","group"]) fun _ _ _ _ _ _=>HF fun _ _=>rfl),
  ⟨JU,JV,Cy⟩,
  yk,
  (yk.binds (ps:=["self","group"]) fun _ _ _ _ _ _=>HF fun _ _=>rfl),
  ⟨GB,GC,yL⟩,
  vn,
  (vn.binds (ps:=["self","house","group"]) fun _ _ _ _ _ _=>Wu fun _ _ _=>rfl),
  ⟨Cz,CA,vt⟩,
  BN,
  (BN.binds (ps:=["self","house","group"]) fun _ _ _ _ _ _=>Wu fun _ _ _=>rfl),
  ⟨JY,JZ,CD⟩,
  Hv,
  (Hv.binds (ps:=["self","caller"]) fun _ _ _ _ _ _=>HF fun _ _=>rfl),
  ⟨NP,NQ,Hw⟩,
  wo,
  (wo.binds (ps:=["self","sender","to"]) (ds:=[.none]) (m:=2) rfl fun _ _ _ _ _ _ _=>HF fun _ _=>⟨_,rfl,rfl⟩),
  (wo.binds (ps:=["self","sender","to"]) (ds:=[]) (m:=3) rfl fun _ _ _ _ _ _ _=>Wu fun _ _ _=>⟨_,rfl,rfl⟩),
  ⟨J2,J3,CF⟩,
  vo,
  (vo.binds (ps:=["self"]) fun _ _ _ _ _ _=>el1 fun _=>rfl),
  ⟨CG,CH,vv⟩,
  m6,
  (m6.binds (ps:=["self","at"]) (ds:=[.int 0 kT]) (m:=1) rfl fun _ _ _ _ _ _ _=>el1 fun _=>⟨_,rfl,rfl⟩),
  (m6.binds (ps:=["self","at"]) (ds:=[]) (m:=2) rfl fun _ _ _ _ _ _ _=>HF fun _ _=>⟨_,rfl,rfl⟩),
  ⟨Ab,Ac,rZ⟩,
  yl,
  (yl.binds (ps:=["self","letter"]) fun _ _ _ _ _ _=>HF fun _ _=>rfl),
  ⟨GH,GI,yM⟩,
  rS,
  (rS.binds (ps:=["self","posted","rope","house"]) fun _ _ _ _ _ _=>el4 fun _ _ _ _=>rfl),
  ⟨Ag,Ah,r6⟩,
  nh,
  (nh.binds (ps:=["self","number","house","came"]) fun _ _ _ _ _ _=>el4 fun _ _ _ _=>rfl),
  ⟨tU,tV,nA⟩,
  mF,
  (mF.binds (ps:=["self","house","group"]) fun _ _ _ _ _ _=>Wu fun _ _ _=>rfl),
  ⟨qQ,qR,mJ⟩,
  BO,
  (BO.binds (ps:=["self","number","house","rope"]) fun _ _ _ _ _ _=>el4 fun _ _ _ _=>rfl),
  ⟨J6,J7,CK⟩,
  ni,
  (ni.binds (ps:=["self","group"]) fun _ _ _ _ _ _=>HF fun _ _=>rfl),
  ⟨tY,tZ,nB⟩,
  ly,
  (ly.binds (ps:=["self","house"]) fun _ _ _ _ _ _=>HF fun _ _=>rfl),
  ⟨qc,qe,lE⟩,
  kq,
  (kq.binds (ps:=["self","caller"]) fun _ _ _ _ _ _=>HF fun _ _=>rfl),
  ⟨oq,ou,kB⟩,
  mG,
  (mG.binds (ps:=["self","sender","to"]) fun _ _ _ _ _ _=>Wu fun _ _ _=>rfl),
  ⟨qX,qY,mK⟩,
  pP,
  (pP.binds (ps:=["town"]) fun _ _ _ _ _ _=>el1 fun _=>rfl),
  (aQ X G CL),
  kM,
  (kM.binds (ps:=["town","callers"]) fun _ _ _ _ _ _=>HF fun _ _=>rfl),
  (aQ X G uc),
  eO,
  (eO.binds (ps:=["_law_script","_law_k"]) fun _ _ _ _ _ _=>HF fun _ _=>rfl),
  (aQ X G GL),
  vF,
  (vF.binds (ps:=["_law_found"]) fun _ _ _ _ _ _=>el1 fun _=>rfl),
  (aQ X G NU),
  AD,
  (AD.binds (ps:=["_law_script","_law_size"]) fun _ _ _ _ _ _=>HF fun _ _=>rfl),
  (aQ X G NZ),
  AE,
  (AE.binds (ps:=["_law_script","_law_size","_law_group"]) fun _ _ _ _ _ _=>Wu fun _ _ _=>rfl),
  (aQ X G Od),
  sr,
  (sr.binds (ps:=["_law_script","_law_size","_law_group"]) fun _ _ _ _ _ _=>Wu fun _ _ _=>rfl),
  (aQ X G GQ),
  wu,
  (wu.binds (ps:=["_law_net","_law_size","_law_group"]) fun _ _ _ _ _ _=>Wu fun _ _ _=>rfl),
  (aQ X G Ka),
  lW,
  (lW.binds (ps:=["_law_story"]) fun _ _ _ _ _ _=>el1 fun _=>rfl),
  (aQ X G xO),
  Ld,
  (Ld.binds (ps:=["_law_ropes_here","_law_opened","_law_callers_here","_law_sender"]) fun _ _ _ _ _ _=>el4 fun _ _ _ _=>rfl),
  (aQ X G Yt),
  wz,
  (wz.binds (ps:=["_law_net","_law_ropes_here","_law_number","_law_ought"]) fun _ _ _ _ _ _=>el4 fun _ _ _ _=>rfl),
  (aQ X G Kf),
  ZU,
  (ZU.binds (ps:=["_law_script"]) fun _ _ _ _ _ _=>el1 fun _=>rfl),
  (aQ X G agR),
  ⟨Oh,Oi,Oj,Ol⟩,
  (aQ X G Nu),
  rm,
  CP,
  ⟨Ud,Ue,Ug,Uh⟩,
  (aQ X G Ub),
  ug,
  GV,
  ⟨Uk,Ul,Um,Uo⟩,
  (aQ X G Uc),
  uh,
  GW,
  ⟨Oq,Ot,Ou,Ov⟩,
  (aQ X G Nv),
  rz,
  um,
  Ak,
  qi,
  uo,
  ⟨Yx,Yy,Yz,YA⟩,
  (aQ X G Ye),
  mU,
  mV,
  CQ,
  CS,
  ⟨Km,Kn,Ko,Kp⟩,
  (aQ X G JH),
  uq,
  oA,
  ⟨YD,YE,YF,YG⟩,
  (aQ X G Yg),
  CU,
  ⟨acI,acJ,acK,acL⟩,
  (aQ X G acH),
  GX,
  xS,
  lZ,
  CV,
  CY,
  Al,
  Am,
  xT,
  An,
  (aQ X G xU),
  ⟨xV,p7,lY⟩,
  ⟨ur,nv,kN⟩,
  ⟨Up,Ur,nj,Uq⟩,
  ⟨rA,rB,rC,nk⟩,
  (aQ X G Oz),
  ⟨Ks,Ku,Kv,Kw,Ky,Kz,KA,KC,KD⟩,
  (aQ X G KE),
  ⟨GY,GZ,G0,G1,G2,G3,G4,G5,G6⟩,
  (aQ X G Ao),
  (aQ X G CZ),
  (aQ X G C0),
  (aQ X G C1),
  (aQ X G xW),
  (aQ X G C2),
  (fun H=>.inr ⟨_,_,_,C3,rfl,rfl,(by show 3≤sizeLine; decide),(.cons ⟨_,rfl⟩ (.cons ⟨_,rfl⟩ (.cons ⟨_,rfl⟩ .nil)))⟩),
  (cX X G agV),
  (cX X G C4),
  (cX X G agW),
  (cX X G acO),
  (cX X G acP),
  (cX X G YJ),
  (cX X G YK),
  (cX X G G7),
  (cX X G agX),
  (cX X G agY),
  (cX X G agZ),
  (cX X G ag0),
  (cX X G Us)⟩⟩
end jG
set_option maxHeartbeats 4000000
namespace jG
open PySem L2 TW PyProof.Rows
open RM (fq rF bV bR)
seal L2.PE L2.PA L2.PT L2.PW L2.PS L2.oS L2.PG L2.uS L2.PI L2.uV
theorem bN{CX:CXT}{P:Program}{w:World}{K:ah}{mg:Str→Option Value}{base:Heap}{N:List Str}{qual:Str}{scope:Scope}{f:Addr}{cd:Value}{A:Around}{outer:List Env}{s:Shared}{H:Hp}{E:XK}:(uT CX P w K mg base N qual scope f cd A outer s H E).K=K:=rfl
section
variable{P:Program}{w:World}{K:ah}{mg:Str→Option Value}{base:Heap}
noncomputable def aiJ:Sp:=fun vs H Q _=>∃ i:Int,vs = [.int i]∧Q (.bl true) H
theorem Ut{t:Ad}(T:Txt K mg t):cW P w K mg base lH 1 t.oJ t.MU ["_law_found"]  aiJ:=by
 refine T.vF.ok abW (fun vs H Q E h=>?_) (fun cdv A outer s H vs Q E hr h=>?_)
 ·obtain⟨i,rfl,_⟩:=h; rfl
 ·obtain⟨i,rfl,k⟩:=h
  refine⟨_,(aI (bH (abh (cC Ru (by rfl) T.pW boot_isinstance (aG (pv 0) (aG (KN rfl T.agg boot_int (v:=.ty "int") rfl) az))) (afg (akB (cC Ru (by rfl) T.pW boot_isinstance (aG (pv 0) (aG (KN rfl T.alv boot_bool (v:=.ty "bool") rfl) az)))))))),?_⟩
  try dsimp only[bN]
  refine⟨_,rfl,_,_,_,_,rfl,.int _,rfl,_,rfl,jF ?_⟩
  refine⟨_,rfl,_,_,_,_,rfl,.int _,rfl,_,rfl,?_⟩
  exact k
noncomputable def alG(K:ah):Sp:=fun vs H Q _=>∃ (a:Addr) (ns:List Int) (k:Int),vs = [.ref a,.int k]∧ck K H a (ns.map V.int)∧0≤k∧Q (.int (ns.getD k.toNat 0)) H
theorem g8{t:Ad}(T:Txt K mg t):cW P w K mg base lH 1 t.jT t.EJ ["_law_script","_law_k"]  (alG K):=by
 refine T.eO.ok Xe (fun vs H Q E h=>?_) (fun cdv A outer s H vs Q E hr h=>?_)
 ·obtain⟨a,ns,i,rfl,_⟩:=h; rfl
 ·obtain⟨a,ns,i,rfl,hS,h0,k⟩:=h
  refine⟨_,(av (cU (bw se (pv 1) (cC bK (by rfl) T.jV bI (aG (pv 0) az)) (bT _)) (aI (bH (bM cD (pv 0) (pv 1) (fun _ _=>rfl)))) bD)
   (aI (bH aJ))),?_⟩
  try dsimp only[bN]
  refine⟨_,rfl,_,rfl,a,_,rfl,.inl hS,_,_,rfl,rfl,_,rfl,?_⟩
  refine mY (fun c=>?_) (fun c=>?_)
  ·have hi:i < ns.length:=by simpa using c
   refine⟨_,rfl,_,rfl,a,_,_,_,rfl,rfl,hS,afK h0 hi,k⟩
  ·have hi:¬ i < ns.length:=by simpa using c
   have e:ns.getD i.toNat 0=0:=by
    rw[aD,i0 (by omega)]; rfl
   rw[e] at k
   exact k
end
section
variable{P:Program}{w:World}{K:ah}{mg:Str→Option Value}{base:Heap}
noncomputable def aiK:Sp:=fun vs H Q _=>∃ (n a b:Int),vs = [.int n,.int a,.int b]∧0≤a∧a < n∧0≤b∧b < n∧a≠b∧Q (.bl true) H
theorem YL{t:Ad}(T:Txt K mg t):cW P w K mg base lH 1 t.jS t.EG ["size","one","other"]  aiK:=by
 refine T.sq.ok Xb (fun vs H Q E h=>?_) (fun cdv A outer s H vs Q E hr h=>?_)
 ·obtain⟨_,_,_,rfl,_⟩:=h; rfl
 ·obtain⟨n,a,b,rfl,h1,h2,h3,h4,h5,k⟩:=h
  refine⟨_,(aI (bH (abh (Zc ux se aJ (pv 1) (pv 0)) (abh (Zc ux se aJ (pv 2) (pv 0)) (afg (x8 x6 (pv 1) (pv 2) (bT _))))))),?_⟩
  try dsimp only[bN]
  simp[anu,ajK,abn,rI0,tC,WJ,tOp,rNe,L2.start,ah0,h1,h2,h3,h4,h5,k]
  intros; omega
noncomputable def aaH(K:ah):Sp:=fun vs H Q _=>∃ (n:Int) (p:Addr) (a b c d e:Int),vs = [.int n,.ref p]∧dP K H p (an3 a b c d e)∧afT n a b c d e∧Q .iu H
theorem VQ{t:Ad}(T:Txt K mg t):cW P w K mg base lH 2 t.jy t.BC ["size","rope"]  (aaH K):=by
 refine T.pN.ok UZ (fun vs H Q E h=>?_) (fun cdv A outer s H vs Q E hr h=>?_)
 ·obtain⟨n,p,a,b,c,d,e,rfl,_⟩:=h; rfl
 ·obtain⟨n,p,a,b,c,d,e,rfl,hp,ok,k⟩:=h
  obtain⟨h1,h2,h3,h4,h5,h6,h7,h8,h9,h10⟩:=ok
  refine⟨_,(av (cU (bw x6 (cC bK (by rfl) T.jV bI (aG (pv 1) az)) aJ (bT _)) eT bD)
   (av (cU (jM (vK (cK (YL T) (hr.mono (by decide)) rfl T.ZR T.sq.kp T.ZQ .nil bx (aG (pv 0) (aG (bM dQ (pv 1) aJ (fun _ _=>rfl)) (aG (bM dQ (pv 1) aJ (fun _ _=>rfl)) az)))))) eT bD)
   (av (cU (bw se (bM dQ (pv 1) aJ (fun _ _=>rfl)) aJ (bT _)) eT bD)
   (av (cU (jM (lN ux ux aJ (bM dQ (pv 1) aJ (fun _ _=>rfl)) (oY rfl T.Xw (v:=.int 4) ⟨_,rfl⟩))) eT bD)
   (aI (cU (jM (lN ux ux aJ (bM dQ (pv 1) aJ (fun _ _=>rfl)) (oY rfl T.Xx (v:=.int 7) ⟨_,rfl⟩))) eT bD)))))),?_⟩
  try dsimp only[bN]
  refine⟨_,rfl,p,_,rfl,.inr hp,rfl,_,rfl,gu ?_⟩
  refine⟨_,rfl,_,rfl,p,_,_,_,rfl,rfl,hp,rfl,_,rfl,p,_,_,_,rfl,rfl,hp,rfl,?_⟩
  refine⟨_,_,_,rfl,h1,h2,h3,h4,h5,_,rfl,gu ?_⟩
  refine⟨_,rfl,p,_,_,_,rfl,rfl,hp,rfl,_,_,rfl,rfl,_,rfl,?_⟩
  rw[decide_eq_false (show ¬ c < 1 by omega)]
  refine gu ?_
  refine⟨_,rfl,p,_,_,_,rfl,rfl,hp,rfl,_,_,rfl,rfl,_,rfl,?_⟩
  rw[decide_eq_true h7]
  refine jF ?_
  refine⟨_,_,rfl,rfl,_,rfl,?_⟩
  rw[decide_eq_true h8]
  refine gu ?_
  refine⟨_,rfl,p,_,_,_,rfl,rfl,hp,rfl,_,_,rfl,rfl,_,rfl,?_⟩
  rw[decide_eq_true h9]
  refine jF ?_
  refine⟨_,_,rfl,rfl,_,rfl,?_⟩
  rw[decide_eq_true h10]
  refine gu ?_
  exact k
end
end jG
set_option maxHeartbeats 4000000
namespace jG
open PySem L2 TW PyProof.Rows
open RM (fq rF bV bR)
seal L2.PE L2.PA L2.PT L2.PW L2.PS L2.oS L2.PG L2.uS L2.PI L2.uV
section
variable{P:Program}{w:World}{K:ah}{mg:Str→Option Value}{base:Heap}
noncomputable def YM(K:ah):Sp:=fun vs H Q _=>∃ (n:Int) (l:Addr) (rs:List R5),vs = [.int n,.ref l]∧RA K H l rs∧rs.length≤20∧(∀ r∈rs,r.Ok n)∧Q .iu H
theorem Uu{t:Ad}(T:Txt K mg t):cW P w K mg base lH 3 t.iT t.zb ["size","ropes"]  (YM K):=by
 refine T.m5.ok Ew (fun vs H Q E h=>?_) (fun cdv A outer s H vs Q E hr h=>?_)
 ·obtain⟨n,l,rs,rfl,_⟩:=h; rfl
 ·obtain⟨n,l,rs,rfl,hR,hl,ok,k⟩:=h
  obtain⟨us,hL,el,hg⟩:=hR.at
  refine⟨_,(av (cU (bw ac8 (cC bK (by rfl) T.jV bI (aG (pv 1) az)) (oY rfl T.Xv (v:=.int 20) ⟨_,rfl⟩) (bT _)) eT bD)
   (aI (jW PassesOwn.never rfl (gD (pv 1)) (bO (i:=2) Ew.nd rfl (be rfl)) (aI (cJ (cK (VQ T) (hr.mono (by decide)) rfl T.Xo T.pN.kp T.Xn .nil bx (aG (pv 0) (aG (pv 2) az)))))))),?_⟩
  try dsimp only[bN]
  refine⟨_,rfl,l,_,rfl,.inl hL,_,_,rfl,rfl,_,rfl,?_⟩
  rw[decide_eq_false (show ¬ (20:Int) < us.length by omega)]
  refine gu ?_
  refine⟨_,rfl,l,rfl,⟨_,hL⟩,r9 (K:=K) (a:=l) (xs:=us) (fun i σ H2=>H2=H∧∃ v,σ = [some (.int n),some (.ref l),v]) ⟨rfl,_,rfl⟩ (fun i σ H2 _ ⟨e,_⟩=>by rw[e]; exact hL) ?_ ?_⟩
  ·rintro i y σ H2 hi ⟨rfl,v,rfl⟩
   have hil:i < us.length:=(aj.mp hi).1
   have hir:rs[i]?=some rs[i]:=by simp
   obtain⟨p,h1,h2⟩:=hg i _ hir
   rw[hi] at h1
   cases h1
   refine⟨_,rfl,_,rfl,n,p,_,_,_,_,_,rfl,h2,ok _ (bz hir),rfl,_,rfl⟩
  ·rintro σ H2 ⟨rfl,v,rfl⟩
   exact k
noncomputable def YN(K:ah):Sp:=fun vs H Q _=>∃ (l:Addr) (ns:List Int),vs = [.ref l]∧ck K H l (ns.map V.int)∧1≤ns.length∧ns.length≤10∧(∀ n∈ns,0≤n)∧ns.Nodup∧∀ H',aL H H'→Q .iu H'
theorem Uv{t:Ad}(T:Txt K mg t):cW P w K mg base lH 1 t.iS t.za ["names"]  (YN K):=by
 refine T.mZ.ok RY (fun vs H Q E h=>?_) (fun cdv A outer s H vs Q E hr h=>?_)
 ·obtain⟨l,ns,rfl,_⟩:=h; rfl
 ·obtain⟨l,ns,rfl,hL,h1,h2,h3,h4,k⟩:=h
  refine⟨_,(av (cU (jM (lN ux ux aJ (cC bK (by rfl) T.jV bI (aG (pv 0) az)) (oY rfl T.Vo (v:=.int 10) ⟨_,rfl⟩))) eT bD)
   (av (cU (bw se (cC (aei rfl) (by rfl) T.aoj boot_min (aG (pv 0) az)) aJ (bT _)) eT bD)
   (aI (cU (bw x6 (cC aeh (by rfl) T.jV bI (aG (iy (aeg rfl) (by rfl) T.aok boot_set (aG (pv 0) az)) az)) (cC bK (by rfl) T.jV bI (aG (pv 0) az)) (bT _)) eT bD)))),?_⟩
  try dsimp only[bN]
  refine⟨_,rfl,l,_,rfl,.inl hL,_,_,rfl,rfl,_,rfl,?_⟩
  rw[decide_eq_true (show (1:Int)≤(ns.map V.int).length by rw[af]; omega)]
  refine jF ?_
  refine⟨_,_,rfl,rfl,_,rfl,?_⟩
  rw[decide_eq_true (show ((ns.map V.int).length:Int)≤10 by rw[af]; omega)]
  refine gu ?_
  refine⟨_,rfl,l,ns,rfl,hL,by omega,fun m hm hle=>?_⟩
  refine⟨_,_,rfl,rfl,_,rfl,?_⟩
  rw[decide_eq_false (show ¬ m < 0 by have:=h3 m hm; omega)]
  refine gu ?_
  refine⟨_,rfl,l,ns,rfl,hL,bL (show ns.length + 1 < 100 by omega) (by decide),fun p hp=>?_⟩
  have s1:=aL.new (o:=.set (fun k'=>(firstMet (fun i=>ns.getD i 0) ns.length).any (· == k')) (firstMet (fun i=>ns.getD i 0) ns.length).length) hp
  refine⟨p,_,_,rfl,aF,_,rfl,l,_,rfl,.inl (s1.seq hL),rfl,_,rfl,?_⟩
  rw[RB ns h4,af]
  simp only[decide_true,Bool.not_true]
  refine gu ?_
  exact k _ (aL.new hp)
end
end jG
set_option maxHeartbeats 4000000
namespace jG
open PySem L2 TW PyProof.Rows
open RM (fq rF bV bR)
seal L2.PE L2.PA L2.PT L2.PW L2.PS L2.oS L2.PG L2.uS L2.PI L2.uV
section
variable{P:Program}{w:World}{K:ah}{mg:Str→Option Value}{base:Heap}
noncomputable def alH(K:ah)(C:Addr):Sp:=fun vs H Q _=>∃ (p dx l1 l2:Addr) (ns:List Int) (rs:List R5),vs = [.ref p,.ref l1,.ref l2]∧H p=some (.ins C dx [])∧ck K H l1 (ns.map V.int)∧RA K H l2 rs ∧
 1≤ns.length∧ns.length≤10∧(∀ n∈ns,0≤n)∧ns.Nodup∧rs.length≤20∧(∀ r∈rs,r.Ok ns.length) ∧
 ∀ ln lr H',H ln=none→H lr=none→dR K C H' p ln lr ns rs→(∀ b o,H b=some o→b≠p→H' b=some o)→Q .iu H'
theorem Uw{t:Ad}(T:Txt K mg t):cW P w K mg base lH 4 t.g5 t.y9 ["self","names","ropes"]  (alH K t.bG):=by
 refine T.rR.ok RX (fun vs H Q E h=>?_) (fun cdv A outer s H vs Q E hr h=>?_)
 ·obtain⟨p,dx,l1,l2,ns,rs,rfl,_⟩:=h; rfl
 ·obtain⟨p,dx,l1,l2,ns,rs,rfl,hp,hL,hR,h1,h2,h3,h4,h5,h6,k⟩:=h
  refine⟨_,(av (cJ (cK (Uv T) (hr.mono (by decide)) rfl T.Vg T.mZ.kp T.Vf .nil bx (aG (pv 1) az)))
   (av (cJ (cK (Uu T) (hr.mono (by decide)) rfl T.Vi T.m5.kp T.Vh .nil bx (aG (cC bK (by rfl) T.jV bI (aG (pv 1) az)) (aG (pv 2) az))))
   (av (iB (pv 0) (iy iG (by rfl) T.wC boot_list (aG (pv 1) az)) rfl)
   (av (iB (pv 0) (iy iG (by rfl) T.wC boot_list (aG (pv 2) az)) rfl)
   (av (iB (pv 0) (cC bK (by rfl) T.jV bI (aG (pv 1) az)) rfl)
   (aI (iB (pv 0) (cC bK (by rfl) T.jV bI (aG (pv 2) az)) rfl))))))),?_⟩
  try dsimp only[bN]
  refine⟨_,rfl,l1,ns,rfl,hL,h1,h2,h3,h4,fun H1 s1=>?_⟩
  refine⟨_,rfl,l1,_,rfl,.inl (s1.seq hL),?_⟩
  refine⟨_,rfl,(ns.length:Int),l2,rs,by simp,hR.mono s1,h5,h6,?_⟩
  have hp1:=s1 _ _ hp
  have hR1:=hR.mono s1
  have hL1:=s1.seq hL
  obtain⟨_,us,e,hq,hra⟩:=id hR1
  cases e
  refine⟨_,rfl,l1,_,rfl,.inl hL1,fun ln hn=>?_⟩
  have npn:p≠ln:=aR hp1 hn
  have s2:=aL.new (o:=.lst (ns.map V.int)) hn
  refine⟨_,rfl,p,_,dx,[],rfl,s2 _ _ hp1,T.gB,T.wB,by decide,?_⟩
  rw[eG (names:=[]) rfl rfl]
  generalize eH2:upd (upd H1 ln (.lst (ns.map V.int))) p (.ins t.bG dx ([]++[(Str.ofString "house_names",V.ref ln)]))=H2
  have k2:∀ b o,H1 b=some o→b≠p→H2 b=some o:=fun b o e nb=>by rw[← eH2,aP nb]; exact s2 _ _ e
  have hp2:H2 p=some (.ins t.bG dx [(Str.ofString "house_names",V.ref ln)]):=by rw[← eH2]; exact aF
  have hn2:H2 ln=some (.lst (ns.map V.int)):=by rw[← eH2,aP (bW npn),aF]
  have fr2:∀ {b:Addr},H1 b=none→b≠p→b≠ln→H2 b=none:=fun {b} e n1 n2=>by rw[← eH2,aP n1,aP n2]; exact e
  have hL2:ck K H2 l1 (ns.map V.int):=Hj (fun b o e nb=>k2 b o e nb) hp1 hL1
  have hq2:ck K H2 l2 us:=Hj (fun b o e nb=>k2 b o e nb) hp1 hq
  have art:dj K H2 (rs.map R5.D) us:=lQ (fun b o e nb=>k2 b o e nb) hp1 hra
  refine⟨_,rfl,l2,_,rfl,.inl hq2,fun lr hr2=>?_⟩
  have npr:p≠lr:=aR hp2 hr2
  have s3:=aL.new (o:=.lst us) hr2
  refine⟨_,rfl,p,_,dx,_,rfl,s3 _ _ hp2,T.gB,T.jd,(by show 1 < 1000; decide),?_⟩
  rw[eG (names:=["house_names"]) rfl (by decide +kernel)]
  generalize eH3:upd (upd H2 lr (.lst us)) p (.ins t.bG dx ([(Str.ofString "house_names",V.ref ln)]++[(Str.ofString "rope_tuples",V.ref lr)]))=H3
  have k3:∀ b o,H2 b=some o→b≠p→H3 b=some o:=fun b o e nb=>by rw[← eH3,aP nb]; exact s3 _ _ e
  have hp3:H3 p=some (.ins t.bG dx [(Str.ofString "house_names",V.ref ln),(Str.ofString "rope_tuples",V.ref lr)]):=by rw[← eH3]; exact aF
  have hr3:H3 lr=some (.lst us):=by rw[← eH3,aP (bW npr),aF]
  have hn3:=k3 _ _ hn2 (bW npn)
  have hL3:ck K H3 l1 (ns.map V.int):=Hj k3 hp2 hL2
  have hq3:ck K H3 l2 us:=Hj k3 hp2 hq2
  have arv:dj K H3 (rs.map R5.D) us:=lQ k3 hp2 art
  refine⟨_,rfl,l1,_,rfl,.inl hL3,_,rfl,p,_,dx,_,rfl,hp3,T.gB,T.oN,(by show 2 < 1000; decide),?_⟩
  rw[eG (names:=["house_names","rope_tuples"]) rfl (by decide +kernel)]
  generalize eH4:upd H3 p (.ins t.bG dx ([(Str.ofString "house_names",V.ref ln),(Str.ofString "rope_tuples",V.ref lr)]++[(Str.ofString "size",V.int ((ns.map V.int).length:Nat))]))=H4
  have k4:∀ b o,H3 b=some o→b≠p→H4 b=some o:=fun b o e nb=>by rw[← eH4,aP nb]; exact e
  have hp4:H4 p=some (.ins t.bG dx [(Str.ofString "house_names",V.ref ln),(Str.ofString "rope_tuples",V.ref lr),(Str.ofString "size",V.int ((ns.map V.int).length:Nat))]):=by rw[← eH4]; exact aF
  have hq4:ck K H4 l2 us:=Hj k4 hp3 hq3
  have arw:dj K H4 (rs.map R5.D) us:=lQ k4 hp3 arv
  refine⟨_,rfl,l2,_,rfl,.inl hq4,_,rfl,p,_,dx,_,rfl,hp4,T.gB,T.ym,(by show 3 < 1000; decide),?_⟩
  rw[eG (names:=["house_names","rope_tuples","size"]) rfl (by decide +kernel)]
  have k5:∀ b o,H4 b=some o→b≠p→∀ u,(upd H4 p u) b=some o:=fun b o e nb u=>by rw[aP nb]; exact e
  have eus:us.length=rs.length:=by rw[hra.length,af]
  refine k ln lr _ (s1.free hn) ?_ ⟨⟨dx,?_⟩,?_,us,?_,lQ (fun b o e nb=>k5 b o e nb _) hp4 arw⟩ ?_
  ·cases q:H lr with
   | none=>rfl
   | some o =>
    have:=k2 lr o (s1 _ _ q) (fun e=>npr e.symm)
    rw[hr2] at this; cases this
  ·rw[aF,eus,af]
   rfl
  ·exact k5 _ _ (k4 _ _ hn3 (bW npn)) (bW npn) _
  ·exact k5 _ _ (k4 _ _ hr3 (bW npr)) (bW npr) _
  ·exact fun b o e nb=>k5 _ _ (k4 _ _ (k3 _ _ (k2 _ _ (s1 _ _ e) nb) nb) nb) nb _
end
end jG
set_option maxHeartbeats 4000000
namespace jG
open PySem L2 TW PyProof.Rows
open RM (fq rF bV bR)
seal L2.PE L2.PA L2.PT L2.PW L2.PS L2.oS L2.PG L2.uS L2.PI L2.uV
section
variable{P:Program}{w:World}{K:ah}{mg:Str→Option Value}{base:Heap}
noncomputable def alJ(K:ah)(C:Addr):Sp:=fun vs H Q _=>∃ (p ln lr:Addr) (ns:List Int) (rs:List R5) (i:Nat) (n:Int),vs = [.ref p,.int i]∧dR K C H p ln lr ns rs∧ns[i]?=some n∧Q (.int n) H
theorem YO{t:Ad}(T:Txt K mg t):cW P w K mg base lH 1 t.jv t.ED ["self","house"]  (alJ K t.bG):=by
 refine T.yh.ok W1 (fun vs H Q E h=>?_) (fun cdv A outer s H vs Q E hr h=>?_)
 ·obtain⟨p,ln,lr,ns,rs,i,n,rfl,_⟩:=h; rfl
 ·obtain⟨p,ln,lr,ns,rs,i,n,rfl,hT,hi,k⟩:=h
  obtain⟨⟨dx,hp⟩,hn,us,hr',hra⟩:=id hT
  refine⟨_,(aI (bH (bM cD (bu (pv 0) rfl) (pv 1) (fun _ _=>rfl)))),?_⟩
  try dsimp only[bN]
  refine⟨_,rfl,p,_,dx,_,_,rfl,hp,T.gB,T.wB,rfl,_,rfl,ln,_,_,_,rfl,rfl,ck.of hn,gv (v:=V.int n) (by rw[aq,hi]; rfl),k⟩
end
section
variable{P:Program}{w:World}{K:ah}{mg:Str→Option Value}{base:Heap}
noncomputable def alK(K:ah)(C:Addr):Sp:=fun vs H Q _=>∃ (p ln lr:Addr) (ns:List Int) (rs:List R5) (i:Nat) (r:R5),vs = [.ref p,.int i]∧dR K C H p ln lr ns rs∧rs[i]?=some r∧∀ q,H q=some (.tup r.vs)∨dP K H q r.vs→Q (.ref q) H
theorem L8{t:Ad}(T:Txt K mg t):cW P w K mg base lH 1 t.jw t.EE ["self","number"]  (alK K t.bG):=by
 refine T.yi.ok W8 (fun vs H Q E h=>?_) (fun cdv A outer s H vs Q E hr h=>?_)
 ·obtain⟨p,ln,lr,ns,rs,i,n,rfl,_⟩:=h; rfl
 ·obtain⟨p,ln,lr,ns,rs,i,r,rfl,hT,hi,k⟩:=h
  obtain⟨⟨dx,hp⟩,hn,us,hr',hra⟩:=id hT
  obtain⟨v,hv,hD⟩:=hra.get (i:=i) (d:=r.D) (by rw[aq,hi]; rfl)
  obtain⟨q,e,hq⟩:=Rep.Ef (ns:=r.ns) hD
  subst e
  refine⟨_,(aI (bH (bM cD (bu (pv 0) rfl) (pv 1) (fun _ _=>rfl)))),?_⟩
  try dsimp only[bN]
  exact⟨_,rfl,p,_,dx,_,_,rfl,hp,T.gB,T.jd,rfl,_,rfl,lr,_,_,_,rfl,rfl,ck.of hr',gv hv,k q (.inr hq)⟩
end
end jG
set_option maxHeartbeats 4000000
namespace jG
open PySem L2 TW PyProof.Rows
open RM (fq rF bV bR)
seal L2.PE L2.PA L2.PT L2.PW L2.PS L2.oS L2.PG L2.uS L2.PI L2.uV
section
variable{P:Program}{w:World}{K:ah}{mg:Str→Option Value}{base:Heap}
noncomputable def aop(K:ah)(C:Addr):Sp:=fun vs H Q _=>∃ (p ln lr:Addr) (ns:List Int) (rs:List R5) (i:Nat) (r:R5) (h:Int),vs = [.ref p,.int i,.int h]∧dR K C H p ln lr ns rs∧rs[i]?=some r∧Q (.int (if h=r.a then r.b else r.a)) H
theorem uu{t:Ad}(T:Txt K mg t):cW P w K mg base lH 1 t.gi t.vY ["self","rope","house"]  (aop K t.bG):=by
 refine T.pM.ok C9 (fun vs H Q E h=>?_) (fun cdv A outer s H vs Q E hr h=>?_)
 ·obtain⟨p,ln,lr,ns,rs,i,n,h,rfl,_⟩:=h; rfl
 ·obtain⟨p,ln,lr,ns,rs,i,r,x,rfl,hT,hi,k⟩:=h
  obtain⟨⟨dx,hp⟩,hn,us,hr',hra⟩:=id hT
  obtain⟨v,hv,hD⟩:=hra.get (i:=i) (d:=r.D) (by rw[aq,hi]; rfl)
  obtain⟨q,e,hq⟩:=Rep.Ef (ns:=r.ns) hD
  subst e
  refine⟨_,(av (bE (i:=3) C9.nd rfl (be rfl) (bM cD (bu (pv 0) rfl) (pv 1) (fun _ _=>rfl)))
   (aI (bH (D6 (bw vM (pv 2) (bM dQ (pv 3) aJ (fun _ _=>rfl)) (bT _)) (bM dQ (pv 3) aJ (fun _ _=>rfl)) (bM dQ (pv 3) aJ (fun _ _=>rfl)))))),?_⟩
  try dsimp only[bN]
  refine⟨_,rfl,p,_,dx,_,_,rfl,hp,T.gB,T.jd,rfl,_,rfl,lr,_,_,_,rfl,rfl,ck.of hr',gv hv,?_⟩
  refine⟨_,rfl,_,rfl,q,_,_,_,rfl,rfl,hq,rfl,rfl,_,rfl,?_⟩
  refine mY (fun c=>?_) (fun c=>?_)
  ·have c':x=r.a:=by simpa using c
   rw[if_pos c'] at k
   exact⟨_,rfl,q,_,_,_,rfl,rfl,hq,rfl,k⟩
  ·have c':¬ x=r.a:=by simpa using c
   rw[if_neg c'] at k
   exact⟨_,rfl,q,_,_,_,rfl,rfl,hq,rfl,k⟩
noncomputable def arx(K:ah)(C:Addr):Sp:=fun vs H Q _=>∃ (p ln lr:Addr) (ns:List Int) (rs:List R5) (h:Int),vs = [.ref p,.int h]∧dR K C H p ln lr ns rs∧rs.length≤20 ∧
 ∀ l H',aL H H'→H l=none→H' l=some (.lst (bS (atH rs h rs.length)))→Q (.ref l) H'
theorem rD{t:Ad}(T:Txt K mg t):cW P w K mg base lH 1 t.fG t.sM ["self","house"]  (arx K t.bG):=by
 refine T.m9.ok MI (fun vs H Q E h=>?_) (fun cdv A outer s H vs Q E hr h=>?_)
 ·obtain⟨p,ln,lr,ns,rs,i,rfl,_⟩:=h; rfl
 ·obtain⟨p,ln,lr,ns,rs,x,rfl,hT,D3,k⟩:=h
  obtain⟨⟨dx,hp⟩,hn,us,hr',hra⟩:=id hT
  have eus:us.length=rs.length:=by rw[hra.length,af]
  refine⟨_,(aI (bH (jI (dS (Q9:=ai ee) (N0:=["self","house"]) (N2:=["number","rope","house"]) (cap:=[none,none,some 1]) rfl rfl (by decide +kernel)) rfl (ado rfl T.O7 (aG (bu (pv 0) rfl) az)) (fun _ _ _ _=>by exact (aia K rfl (n:=2) rfl (kH (bO (i:=0) uy rfl (be rfl)) (kH (bO (i:=1) uy rfl (be rfl)) KP)))) (fun _ _ _ _=>by exact (uW (bw (Rx K rfl) (pv 2) (ia (aG (bM (Bu K rfl) (pv 1) aJ (fun _ _=>rfl)) (aG (bM (Bu K rfl) (pv 1) aJ (fun _ _=>rfl)) az))) (by with_unfolding_all rfl)))) (fun _ _ _ _=>by exact (pv 0))))),?_⟩
  try dsimp only[bN]
  refine⟨_,rfl,p,_,dx,_,_,rfl,hp,T.gB,T.jd,rfl,lr,us,rfl,ck.of hr',fun acc hacc=>?_⟩
  refine jj (n:=us.length) (fun i ys _=>ys=bS (atH rs x i)) hacc (ak9 (ck.of hr')) (afJ (ck.of hr')) rfl ?_ ?_
  ·rintro i ys H2 hi s2 hy hP y H3 ⟨q,v,hq,rfl,rfl,hv⟩
   have hvi:=hv us (s2.seq (ck.of hr'))
   have hir:rs[i]?=some rs[i]:=by simp
   obtain⟨v',hv',hD⟩:=hra.get (i:=i) (d:=(rs[i]).D) (by rw[aq,hir]; rfl)
   rw[hvi] at hv'
   cases hv'
   obtain⟨b,e,hb⟩:=Rep.Ef (ns:=(rs[i]).ns) hD
   subst e
   have hb3:=(s2.out (o:=.tup [.int (i:Nat),.ref b]) (s2.free hq)).dB hb
   have nq:acc≠q:=aR hy hq
   refine⟨q,_,rfl,dP.of aF,rfl,_,_,rfl,_,_,rfl,rfl,?_⟩
   refine⟨_,rfl,_,rfl,b,_,_,_,rfl,rfl,hb3,rfl,_,rfl,b,_,_,_,rfl,rfl,hb3,rfl,(by show 2≤sizeLine; decide),fun c hc=>?_⟩
   refine⟨c,_,rfl,.inr (dP.of aF),rfl,rfl,_,rfl,?_⟩
   have eb:OO (V.int x) [V.int rs[i].a,V.int rs[i].b]=isAt rs x i:=by
    unfold isAt
    rw[hir]
    exact abJ _ _ _
   have s3:=s2.out (o:=.tup [.int (i:Nat),.ref b]) (s2.free hq)
   have s4:=s3.out (o:=.tup [V.int rs[i].a,V.int rs[i].b]) (s3.free hc)
   have hy4:(upd (upd H2 q (HO.tup [V.int (i:Nat),V.ref b])) c (HO.tup [V.int rs[i].a,V.int rs[i].b])) acc=some (.lst ys):=by
    have e1:(upd H2 q (HO.tup [V.int (i:Nat),V.ref b])) acc=some (.lst ys):=by rw[aP nq]; exact hy
    rw[aP (aR e1 hc)]; exact e1
   dsimp only
   rw[if_neg aN,eb]
   have hl:ys.length < sizeLine:=by rw[hP,af]; exact cQ (aX (aiq rs x i) (by omega)) (cS (aK _))
   refine mY (fun c'=>?_) (fun c'=>?_)
   ·exact⟨_,rfl,ic hacc hi s4 hy4 hl (by rw[hP,Zu,if_pos c',nL])⟩
   ·exact l5 hi s4 hy4 (by rw[hP,Zu,if_neg c',cz])
  ·intro ys H2 s2 hy hP
   rw[eus] at hP
   exact k acc H2 s2 hacc (by rw[hy,hP])
end
section
variable{P:Program}{w:World}{K:ah}{mg:Str→Option Value}{base:Heap}
noncomputable def ag1(K:ah)(C:Addr):Sp:=fun vs H Q _=>∃ (p ln lr:Addr) (ns:List Int) (rs:List R5) (i:Nat) (n:Int),vs = [.ref p,.int i]∧dR K C H p ln lr ns rs∧ns[i]?=some n ∧
 ∀ q H',aL H H'→dP K H' q (fq ⟨n,0,0,-1⟩)→Q (.ref q) H'
theorem Ux{t:Ad}(T:Txt K mg t):cW P w K mg base lH 2 t.oG t.MR ["town","house"]  (ag1 K t.bG):=by
 refine T.vE.ok abU (fun vs H Q E h=>?_) (fun cdv A outer s H vs Q E hr h=>?_)
 ·obtain⟨_,_,_,_,_,_,_,rfl,_⟩:=h; rfl
 ·obtain⟨p,ln,lr,ns,rs,i,n,rfl,hT,hi,k⟩:=h
  obtain⟨⟨dx,hp⟩,_,_,_⟩:=id hT
  refine⟨_,(aI (bH (ia (aG (bQ (pv 0) T.gB T.ZN (YO T) (hr.mono (by decide)) T.ZM .nil bx (aG (pv 1) az)) (aG aJ (aG aJ (aG nG az))))))),?_⟩
  try dsimp only[bN]
  refine⟨_,rfl,p,dx,_,rfl,hp,rfl,_,rfl,p,ln,lr,ns,rs,i,n,rfl,hT,hi,(by show 4≤sizeLine; decide),fun q hq=>?_⟩
  exact k q _ (aL.new hq) (dP.of aF)
end
section
variable{P:Program}{w:World}{K:ah}{mg:Str→Option Value}{base:Heap}
noncomputable def aiL(K:ah)(C:Addr):Sp:=fun vs H Q _=>∃ (p ln lr:Addr) (ns:List Int) (rs:List R5) (i:Nat) (x:R5) (a:Addr) (r:RM.Row),vs = [.ref p,.ref a,.int i]∧dR K C H p ln lr ns rs∧rs[i]?=some x∧dP K H a (fq r) ∧
 (¬ r.ho + 1 < ns.length→∀ H',aL H H'→Q .iu H')∧(r.ho + 1 < ns.length→∀ q H',aL H H'→dP K H' q (fq ⟨r.hd,r.co + x.c,r.ho + 1,i⟩)→Q (.ref q) H')
theorem aaI{t:Ad}(T:Txt K mg t):cW P w K mg base lH 2 t.ye t.Xf ["town","row","rope"]  (aiL K t.bG):=by
 refine T.Ht.ok ZF (fun vs H Q E h=>?_) (fun cdv A outer s H vs Q E hr h=>?_)
 ·obtain⟨_,_,_,_,_,_,_,_,_,rfl,_⟩:=h; rfl
 ·obtain⟨p,ln,lr,ns,rs,i,x,a,r,rfl,hT,hi,ha,k1,k2⟩:=h
  obtain⟨⟨dx,hp⟩,_,_,_⟩:=id hT
  refine⟨_,(av (bE (i:=3) ZF.nd rfl (be rfl) (bB gz (bM dQ (pv 1) aJ (fun _ _=>rfl)) aJ))
   (av (cU (bw anG (pv 3) (bu (pv 0) rfl) (bT _)) (aI (bH nG)) bD)
   (aI (bH (ia (aG (bM dQ (pv 1) aJ (fun _ _=>rfl)) (aG (bB gz (bM dQ (pv 1) aJ (fun _ _=>rfl)) (bM dQ (bQ (pv 0) T.gB T.OX (L8 T) (hr.mono (by decide)) T.OW .nil bx (aG (pv 2) az)) aJ (fun _ _=>rfl))) (aG (pv 3) (aG (pv 2) az))))))))),?_⟩
  try dsimp only[bN]
  refine⟨_,rfl,a,_,_,_,rfl,rfl,ha,rfl,_,_,rfl,rfl,?_⟩
  refine⟨_,rfl,_,rfl,p,_,dx,_,_,rfl,hp,T.gB,T.oN,rfl,_,_,rfl,rfl,_,rfl,?_⟩
  refine mY (fun e=>?_) (fun e=>?_)
  ·have e':(ns.length:Int)≤r.ho + 1:=of_decide_eq_true e
   exact k1 (by omega) _ (aL.refl _)
  ·have e':¬ (ns.length:Int)≤r.ho + 1:=of_decide_eq_false (eq_false_of_ne_true e)
   refine⟨_,rfl,a,_,_,_,rfl,rfl,ha,rfl,_,rfl,a,_,_,_,rfl,rfl,ha,rfl,_,rfl,p,dx,_,rfl,hp,rfl,_,rfl,p,ln,lr,ns,rs,i,x,rfl,hT,hi,fun q hq=>?_⟩
   have hq':dP K H q x.vs:=hq.elim (fun z=>dP.of z) id
   refine⟨q,_,_,_,rfl,rfl,hq',rfl,_,_,rfl,rfl,_,rfl,_,rfl,(by show 4≤sizeLine; decide),fun u hu=>?_⟩
   refine k2 (by omega) u _ (aL.new hu) (dP.of ?_)
   rw[aF]
   show some (HO.tup [.int r.hd,.int (r.co + x.c),.int (r.ho + 1),.int (i:Int)])=some (HO.tup [.int r.hd,.int (r.co + x.c),.int (r.ho + 1),rF (i:Int)])
   rw[bR (by omega)]
end
end jG
set_option maxHeartbeats 4000000
namespace jG
open PySem L2 TW PyProof.Rows
open RM (fq rF bV bR)
seal L2.PE L2.PA L2.PT L2.PW L2.PS L2.oS L2.PG L2.uS L2.PI L2.uV
section
variable{P:Program}{w:World}{K:ah}{mg:Str→Option Value}{base:Heap}
noncomputable def aoq(K:ah)(C:Addr):Sp:=fun vs H Q _=>∃ (p ln lr c b:Addr) (ns:List Int) (rs:List R5) (live:List Nat) (nd:ns.Nodup) (ok:∀ r∈rs,r.Ok ns.length) (hl:∀ k∈live,k < rs.length) (R:Nat→RM.Row) (h:Nat),vs = [.ref p,.ref c,.ref b,.int h]∧dR K C H p ln lr ns rs∧ck K H c (bS live)∧Bw K H b ns.length R∧h < ns.length∧rs.length≤20∧RM.Sane (bh ns rs live nd ok hl) R ∧
 ∀ q d H',aL H H'→dP K H' q (fq d)→RM.afS (N:=bh ns rs live nd ok hl) ns.length R h d→Q (.ref q) H'
theorem alL{t:Ad}(T:Txt K mg t):cW P w K mg base lH 3 t.OT t.af9 ["town","live","rows","house"]  (aoq K t.bG):=by
 refine T.ZK.ok RU (fun vs H Q E h=>?_) (fun cdv A outer s H vs Q E hr h=>?_)
 ·obtain⟨_,_,_,_,_,_,_,_,_,_,_,_,_,rfl,_⟩:=h; rfl
 ·obtain⟨p,ln,lr,c,b,ns,rs,live,nd,ok,xY,R,x,rfl,hT,hC,hR,hx,D3,alf,k⟩:=h
  obtain⟨⟨dx,hp⟩,_,_,_⟩:=id hT
  obtain⟨ps,hP,ePs,aiM⟩:=hR
  have enm:(bh ns rs live nd ok xY).nm x=ns[x]:=by show ns.getD x 0=_; simp[aD,hx]
  refine⟨_,(av (bE (i:=4) RU.nd rfl (be rfl) (cK (Ux T) (hr.mono (by decide)) rfl T.Wp T.vE.kp T.Wo .nil bx (aG (pv 0) (aG (pv 3) az))))
   (av (jW PassesOwn.never rfl (gD (bQ (pv 0) T.gB T.sS (rD T) (hr.mono (by decide)) T.sR .nil bx (aG (pv 3) az))) (bO (i:=5) RU.nd rfl (be rfl)) (aI (cU (bw vA (pv 5) (pv 1) (by with_unfolding_all rfl)) (av (bE (i:=6) RU.nd rfl (be rfl) (cK (aaI T) (hr.mono (by decide)) rfl T.adC T.Ht.kp T.adB .nil bx (aG (pv 0) (aG (bM cD (pv 2) (bQ (pv 0) T.gB T.wk (uu T) (hr.mono (by decide)) T.wg .nil bx (aG (pv 5) (aG (pv 3) az))) (fun _ _=>rfl)) (aG (pv 5) az)))))
   (aI (cU (PW.pt (Rj (bw Q4 (pv 6) nG (bT _)) (KO (bw (ale (Nat.lt_of_succ_lt (Zl hr))) (vO WQ (pv 6) KU (rE aJ)) (vO WQ (pv 4) KU (rE aJ)) (bT _))))) (aI (bE (i:=4) RU.nd rfl (be rfl) (pv 6))) bD))) bD)))
   (aI (bH (pv 4))))),?_⟩
  try dsimp only[bN]
  refine⟨_,rfl,_,rfl,p,ln,lr,ns,rs,x,ns[x],rfl,hT,aa hx,fun p0 H0 s0 hp0=>?_⟩
  have hown:dP K H0 p0 (fq (RM.own (bh ns rs live nd ok xY) x)):=by unfold RM.own; rw[enm]; exact hp0
  refine⟨_,rfl,p,dx,_,rfl,s0 _ _ hp,rfl,_,rfl,p,ln,lr,ns,rs,x,rfl,hT.mono s0,D3,fun l H1 s1 hl0 hl1=>?_⟩
  have s01:=s0.trans s1
  refine⟨l,rfl,⟨_,ck.of hl1⟩,?_⟩
  generalize eal:atH rs (x:Int) rs.length=al at hl1
  refine r9 (K:=K) (a:=l) (xs:=bS al) (fun j σ H2=>aL H1 H2∧∃ (q:Addr) (d:RM.Row) (v5 v6:Option V),σ = [some (.ref p),some (.ref c),some (.ref b),some (.int x),some (.ref q),v5,v6]∧dP K H2 q (fq d) ∧
   (d=RM.own (bh ns rs live nd ok xY) x∨∃ kk g,kk∈al.take j∧RM.Rc (bh ns rs live nd ok xY) kk x g∧(R g).ho + 1 < ns.length∧d=RM.over (bh ns rs live nd ok xY) kk (R g))∧RM.le d (RM.own (bh ns rs live nd ok xY) x) ∧
   ∀ kk g,kk∈al.take j→RM.Rc (bh ns rs live nd ok xY) kk x g→(R g).ho + 1 < ns.length→RM.le d (RM.over (bh ns rs live nd ok xY) kk (R g)))
   ⟨aL.refl _,p0,RM.own (bh ns rs live nd ok xY) x,_,_,rfl,s1.dB hown,.inl rfl,RM.le_refl _,fun kk g he=>by simp at he⟩ (fun j σ H2 _ z=>ck.of (z.1 _ _ hl1)) ?_ ?_
  ·rintro j y σ H2 hj ⟨s2,q,d,v5,v6,rfl,hq,d1,d2,d3⟩
   have hjl:j < al.length:=by
    have:=(aj.mp hj).1
    rw[af] at this
    exact this
   rw[aq,aa hjl] at hj
   cases hj
   have et:al.take (j + 1)=al.take j++[al[j]]:=by rw[List.take_add_one,aa hjl]; rfl
   have hka:al[j]∈al:=aW hjl
   have aj2:∀ k'∈al.take j,k' < al[j]:=fun k' hk'=>air (eal ▸ afV rs (x:Int) rs.length) hjl hk'
   have wid:(d=RM.own (bh ns rs live nd ok xY) x∨∃ kk g,kk∈al.take j++[al[j]]∧RM.Rc (bh ns rs live nd ok xY) kk x g∧(R g).ho + 1 < ns.length∧d=RM.over (bh ns rs live nd ok xY) kk (R g)):=d1.imp id fun ⟨a1,a2,a3,a4⟩=>⟨a1,a2,List.mem_append_left _ a3,a4⟩
   rw[et]
   show k8 5 (V.int ((al[j]:Nat):Int)) _ _ _
   generalize al[j]=kk at hka aj2 wid
   rw[← eal,Hl] at hka
   obtain⟨hkl,hat⟩:=hka
   have s02:=s01.trans s2
   refine⟨_,rfl,_,rfl,c,_,rfl,.inl (s02.seq hC),rfl,vD live,_,rfl,?_⟩
   dsimp only
   rw[if_neg aN,Ek]
   refine mY (fun hc=>?_) (fun hc=>?_)
   case refine_2 =>
    have hc:kk ∉ live:=fun z=>hc (decide_eq_true z)
    refine⟨s2,q,d,_,_,rfl,hq,wid,d2,fun k' g hk' Eh Uy=>?_⟩
    rcases cy.mp hk' with z | z
    ·exact d3 k' g z Eh Uy
    ·rw[bX.mp z] at Eh
     exact absurd Eh.1 hc
   have hc:kk∈live:=of_decide_eq_true hc
   have hrk:rs[kk]?=some rs[kk]:=aa hkl
   have Eh:RM.Rc (bh ns rs live nd ok xY) kk x (ie rs[kk] x):=(x9 hc).mpr ⟨hat,rfl⟩
   have hgn:ie rs[kk] x < ns.length:=Eh.lt.2.1
   have hgs:=alf _ hgn
   have ag2:(if (x:Int)=rs[kk].a then rs[kk].b else rs[kk].a)=((ie rs[kk] x:Nat):Int):=by
    have o:=ok _ (aW hkl)
    have h1:=o.a0; have h2:=o.b0
    unfold ie
    split <;> omega
   have ag3:(bh ns rs live nd ok xY).c kk=rs[kk].c:=by show ((rs[kk]?).map fun r=>r.c).getD 0=_; rw[hrk]; rfl
   have fu:∀ g,RM.Rc (bh ns rs live nd ok xY) kk x g→g=ie rs[kk] x:=fun g a=>((x9 hc).mp a).2
   generalize ie rs[kk] x=g at Eh hgn hgs ag2 fu
   have hpg:ps[g]?=some ps[g]:=aa (by omega)
   have alM:Q7 (ps.map V.ref) (if (x:Int)=rs[kk].a then rs[kk].b else rs[kk].a)=some (.ref ps[g]):=by rw[ag2]; exact gv (by rw[aq,hpg]; rfl)
   have hrg:=s02.dB (aiM g _ hpg)
   refine⟨_,rfl,_,rfl,_,rfl,p,dx,_,rfl,s02 _ _ hp,rfl,_,rfl,_,rfl,p,ln,lr,ns,rs,kk,rs[kk],x,rfl,hT.mono s02,hrk,b,_,_,_,rfl,rfl,s02.seq hP,alM,_,rfl,?_⟩
   refine⟨p,ln,lr,ns,rs,kk,rs[kk],ps[g],R g,rfl,hT.mono s02,hrk,hrg,fun Uy H3 s3=>?_,fun Uy u H3 s3 hu=>?_⟩
   ·refine⟨_,rfl,rfl,_,rfl,gu (gu ?_)⟩
    refine⟨s2.trans s3,q,d,_,_,rfl,s3.dB hq,wid,d2,fun k' g' hk' a' Uz=>?_⟩
    rcases cy.mp hk' with z | z
    ·exact d3 k' g' z a' Uz
    ·rw[bX.mp z] at a'
     rw[fu g' a'] at Uz
     exact absurd Uz Uy
   have eov:(⟨(R g).hd,(R g).co + rs[kk].c,(R g).ho + 1,kk⟩ : RM.Row)=RM.over (bh ns rs live nd ok xY) kk (R g):=by unfold RM.over; rw[ag3]
   rw[eov] at hu
   have hq3:=s3.dB hq
   have s23:=s2.trans s3
   refine⟨_,rfl,rfl,_,rfl,jF ?_⟩
   have lex:Rz [V.int (RM.over (bh ns rs live nd ok xY) kk (R g)).hd,V.int (RM.over (bh ns rs live nd ok xY) kk (R g)).co,V.int (RM.over (bh ns rs live nd ok xY) kk (R g)).ho] [V.int d.hd,V.int d.co,V.int d.ho] (decide (RM.lt (RM.over (bh ns rs live nd ok xY) kk (R g)) d)):=RM.aik (by
    rcases d1 with z | ⟨k',g',hk',_,_,z⟩
    ·rw[z]
     intro _ _ e3
     have:(R g).ho + 1=0:=e3
     omega
    ·have hlt':=aj2 k' hk'
     rw[z]
     intro e1 e2 e3 e4
     rcases e4 with e4 | ⟨_,e4 | ⟨_,e4 | ⟨_,e4⟩⟩⟩
     ·omega
     ·omega
     ·omega
     ·have:((kk:Nat):Int) < ((k':Nat):Int):=e4
      omega)
   have nw:∀ r:RM.Row,¬ (HT.nH (fq r).length 0 none=0∧HT.nH (fq r).length (fq r).length (some 3)=(fq r).length):=fun r z=>absurd z.2 (by show HT.nH 4 4 (some 3)≠4; decide)
   have ct:∀ r:RM.Row,HC (fq r) none (some 3) = [V.int r.hd,V.int r.co,V.int r.ho]:=fun r=>rfl
   refine⟨_,rfl,_,rfl,u,_,rfl,hu,nw _,fun z1 hz1=>?_⟩
   rw[ct]
   have t1:=aL.new (o:=.tup [V.int (RM.over (bh ns rs live nd ok xY) kk (R g)).hd,V.int (RM.over (bh ns rs live nd ok xY) kk (R g)).co,V.int (RM.over (bh ns rs live nd ok xY) kk (R g)).ho]) hz1
   refine⟨_,rfl,_,rfl,q,_,rfl,t1.dB hq3,nw _,fun z2 hz2=>?_⟩
   rw[ct]
   have t2:=aL.new (o:=.tup [V.int d.hd,V.int d.co,V.int d.ho]) hz2
   have s23:=s23.trans (t1.trans t2)
   have hu:=(t1.trans t2).dB hu
   have hq3:=(t1.trans t2).dB hq3
   refine⟨z1,z2,_,_,_,rfl,rfl,dP.of (t2 _ _ aF),dP.of aF,rfl,lex,_,rfl,?_⟩
   by_cases hlt:RM.lt (RM.over (bh ns rs live nd ok xY) kk (R g)) d
   ·rw[decide_eq_true hlt]
    refine jF ?_
    refine⟨_,rfl,s23,u,_,_,_,rfl,hu,.inr ⟨kk,g,eW _ (bX.mpr rfl),Eh,Uy,rfl⟩,RM.le_trans (RM.ajV hlt) d2,fun k' g' hk' a' Uz=>?_⟩
    rcases cy.mp hk' with z | z
    ·exact RM.le_trans (RM.ajV hlt) (d3 k' g' z a' Uz)
    ·rw[bX.mp z] at a' ⊢
     rw[fu g' a']
     exact RM.le_refl _
   ·rw[decide_eq_false hlt]
    refine gu ⟨s23,q,d,_,_,rfl,hq3,wid,d2,fun k' g' hk' a' Uz=>?_⟩
    rcases cy.mp hk' with z | z
    ·exact d3 k' g' z a' Uz
    ·rw[bX.mp z] at a' ⊢
     rw[fu g' a']
     exact hlt
  ·rintro σ H2 ⟨s2,q,d,v5,v6,rfl,hq,d1,d2,d3⟩
   rw[af,nD (aK _)] at d3
   refine⟨_,rfl,k q d H2 (s01.trans s2) hq ⟨d1.imp id fun ⟨a1,a2,_,a4⟩=>⟨a1,a2,a4⟩,d2,fun kk g Eh Uy=>d3 kk g ?_ Eh Uy⟩⟩
   rw[← eal,Hl]
   exact⟨xY kk Eh.1,((x9 Eh.1).mp Eh).1⟩
end
end jG
set_option maxHeartbeats 4000000
namespace jG
open PySem L2 TW PyProof.Rows
open RM (fq rF bV bR)
seal L2.PE L2.PA L2.PT L2.PW L2.PS L2.oS L2.PG L2.uS L2.PI L2.uV
section
variable{P:Program}{w:World}{K:ah}{mg:Str→Option Value}{base:Heap}
noncomputable def alO(K:ah)(C:Addr):Sp:=fun vs H Q _=>∃ (p ln lr c b:Addr) (ns:List Int) (rs:List R5) (live:List Nat) (nd:ns.Nodup) (ok:∀ r∈rs,r.Ok ns.length) (hl:∀ k∈live,k < rs.length) (R:Nat→RM.Row) (h:Nat),vs = [.ref p,.ref c,.ref b,.int h]∧dR K C H p ln lr ns rs∧ck K H c (bS live)∧Bw K H b ns.length R∧h < ns.length∧rs.length≤20∧Bx ns.length rs.length R ∧
 ∀ v H',aL H H'→yU K H' v (El (bh ns rs live nd ok hl) R h)→Q v H'
theorem ag4{t:Ad}(T:Txt K mg t):cW P w K mg base lH 3 t.yf t.Xh ["town","live","rows","house"]  (alO K t.bG):=by
 refine T.K8.ok RW (fun vs H Q E h=>?_) (fun cdv A outer s H vs Q E hr h=>?_)
 ·obtain⟨_,_,_,_,_,_,_,_,_,_,_,_,_,rfl,_⟩:=h; rfl
 ·obtain⟨p,ln,lr,c,b,ns,rs,live,nd,ok,xY,R,i,rfl,hT,hC,hRw,hin,D3,fit,k⟩:=h
  obtain⟨⟨dx,hp⟩,_,_,_⟩:=id hT
  obtain⟨ps,hP,ePs,aiM⟩:=id hRw
  have hpi:ps[i]?=some ps[i]:=aa (by omega)
  have alQ:Q7 (ps.map V.ref) (i:Int)=some (.ref ps[i]):=gv (by rw[aq,hpi]; rfl)
  have hri:=aiM i _ hpi
  have fi:=fit i hin
  refine⟨_,(av (bE (i:=4) RW.nd rfl (be rfl) (bM dQ (bM cD (pv 2) (pv 3) (fun _ _=>rfl)) aJ (fun _ _=>rfl)))
   (av (cU (PW.pt (V1 (bw uU (pv 4) (pv 1) (by with_unfolding_all rfl)) (WK (bw uU (pv 4) (bQ (pv 0) T.gB T.sS (rD T) (hr.mono (by decide)) T.sR .nil bx (aG (pv 3) az)) (by with_unfolding_all rfl))))) (aI (bH nG)) bD)
   (av (bE (i:=5) RW.nd rfl (be rfl) (bQ (pv 0) T.gB T.wk (uu T) (hr.mono (by decide)) T.wg .nil bx (aG (pv 4) (aG (pv 3) az))))
   (av (cU (bw abD (cK (aaI T) (hr.mono (by decide)) rfl T.adC T.Ht.kp T.adB .nil bx (aG (pv 0) (aG (bM cD (pv 2) (pv 5) (fun _ _=>rfl)) (aG (pv 4) az)))) (bM cD (pv 2) (pv 3) (fun _ _=>rfl)) (bT _)) (aI (bH nG)) bD)
   (aI (bH (ia (aG (pv 4) (aG (pv 5) az))))))))),?_⟩
  try dsimp only[bN]
  refine⟨_,rfl,_,rfl,WX hP alQ (ais hri rfl ?_)⟩
  have none_:∀ {H3:Hp},aL H H3→(∀ k g,¬ RM.qw (bh ns rs live nd ok xY) R k i g)→Q .iu H3:=fun s3 no=>k .iu _ s3 (by rw[Zw no]; rfl)
  show k8 4 (rF (R i).by_) _ _ _
  rcases fi.by_ with eby | ⟨b0,b1⟩
  ·rw[show rF (R i).by_=V.iu by rw[eby]; rfl]
   refine⟨_,rfl,_,rfl,c,_,rfl,.inl hC,rfl,vD live,_,rfl,?_⟩
   dsimp only
   rw[if_pos rfl,ait]
   refine jF (jF (none_ (aL.refl _) fun k' g t=>?_))
   have:=t.by
   omega
  obtain⟨kk,ekk⟩ : ∃ kk:Nat,(R i).by_=(kk:Int):=⟨(R i).by_.toNat,by omega⟩
  have hkl:kk < rs.length:=by omega
  rw[show rF (R i).by_=V.int (kk:Nat) by rw[ekk,bR (by omega)]]
  have byk:∀ k' g,RM.qw (bh ns rs live nd ok xY) R k' i g→k'=kk:=fun k' g t=>by have:=t.by; omega
  refine⟨_,rfl,_,rfl,c,_,rfl,.inl hC,rfl,vD live,_,rfl,?_⟩
  dsimp only
  rw[if_pos rfl,Ek]
  by_cases hc:kk∈live
  case neg =>
   rw[decide_eq_false hc]
   refine jF (jF (none_ (aL.refl _) fun k' g t=>?_))
   have:=byk k' g t
   subst this
   exact hc t.Eh.1
  rw[decide_eq_true hc]
  refine gu ?_
  refine⟨_,rfl,_,rfl,p,dx,_,rfl,hp,rfl,_,rfl,p,ln,lr,ns,rs,i,rfl,hT,D3,fun l H1 s1 hl0 hl1=>?_⟩
  refine⟨l,_,rfl,.inl (ck.of hl1),rfl,vD _,_,rfl,?_⟩
  dsimp only
  rw[if_pos rfl,Ek]
  by_cases hat:kk∈atH rs (i:Int) rs.length
  case neg =>
   rw[decide_eq_false hat]
   refine jF (none_ s1 fun k' g t=>?_)
   have:=byk k' g t
   subst this
   exact hat (Hl.mpr ⟨hkl,((x9 hc).mp t.Eh).1⟩)
  rw[decide_eq_true hat]
  refine gu ?_
  have hat:=(Hl.mp hat).2
  have hrk:rs[kk]?=some rs[kk]:=aa hkl
  have ag2:=ads (h:=i) hkl ok
  have hgn:ie rs[kk] i < ns.length:=abK hkl ok
  have aos:=afW (ns:=ns) (rs:=rs) (live:=live) (nd:=nd) (ok:=ok) (hl:=xY) (R:=R) (h:=i) hc
  have ag3:=an4 (ns:=ns) (live:=live) (nd:=nd) (ok:=ok) (hl:=xY) hkl
  have hg':∀ g,RM.qw (bh ns rs live nd ok xY) R kk i g→g=ie rs[kk] i:=fun g t=>alh t
  refine⟨_,rfl,p,dx,_,rfl,s1 _ _ hp,rfl,_,rfl,_,rfl,p,ln,lr,ns,rs,kk,rs[kk],i,rfl,hT.mono s1,hrk,?_⟩
  show k8 5 (V.int (if (i:Int)=rs[kk].a then rs[kk].b else rs[kk].a)) _ _ _
  rw[ag2]
  generalize ie rs[kk] i=g at ag2 hgn aos hg'
  have hpg:ps[g]?=some ps[g]:=aa (by omega)
  have alM:Q7 (ps.map V.ref) (g:Int)=some (.ref ps[g]):=gv (by rw[aq,hpg]; rfl)
  refine⟨_,rfl,_,rfl,_,rfl,WX (s1.seq hP) alM ⟨_,rfl,p,ln,lr,ns,rs,kk,rs[kk],ps[g],R g,rfl,hT.mono s1,hrk,s1.dB (aiM g _ hpg),fun Uy H2 s2=>?_,fun Uy u H2 s2 hu=>?_⟩⟩
  ·have s12:=s1.trans s2
   refine⟨_,rfl,_,rfl,WX (s12.seq hP) alQ ⟨.none,RM.MB (R i),rfl,RM.Ei (s12.dB hri),rfl,RM.Ej _,cQ (dO (aX (jK _ _) (by decide)) _) hr.units,_,rfl,?_⟩⟩
   refine jF (none_ s12 fun k' g' t=>?_)
   have e1:=byk k' g' t
   subst e1
   have e2:=hg' g' t
   subst e2
   exact Uy t.cut
  ·have s12:=s1.trans s2
   have eov:(⟨(R g).hd,(R g).co + rs[kk].c,(R g).ho + 1,kk⟩ : RM.Row)=RM.over (bh ns rs live nd ok xY) kk (R g):=by unfold RM.over; rw[ag3]
   rw[eov] at hu
   refine⟨_,rfl,_,rfl,WX (s12.seq hP) alQ ⟨RM.MB (RM.over (bh ns rs live nd ok xY) kk (R g)),RM.MB (R i),RM.Ei hu,RM.Ei (s12.dB hri),RM.Ej _,RM.Ej _,cQ (dO (aX (jK _ _) (by rw[RM.Wh]; decide)) _) hr.units,_,rfl,?_⟩⟩
   rw[RM.Zs (show (-1:Int)≤(kk:Nat) by omega) fi.by1]
   by_cases e:RM.over (bh ns rs live nd ok xY) kk (R g)=R i
   case neg =>
    rw[decide_eq_false e]
    refine jF (none_ s12 fun k' g' t=>?_)
    have e1:=byk k' g' t
    subst e1
    have e2:=hg' g' t
    subst e2
    exact e t.eq.symm
   rw[decide_eq_true e]
   refine gu ?_
   have hh:RM.qw (bh ns rs live nd ok xY) R kk i g:=by
    obtain⟨g2,t⟩:=aos.mpr ⟨hat,Uy,e.symm⟩
    have:=hg' g2 t
    subst this
    exact t
   refine⟨_,rfl,_,rfl,(by show 2≤sizeLine; decide),fun o2 ho2=>?_⟩
   exact k (.ref o2) _ (s12.trans (aL.new ho2)) (by rw[ya.mpr hh]; exact⟨o2,rfl,dP.of aF⟩)
noncomputable def aot(K:ah)(C:Addr):Sp:=fun vs H Q _=>∃ (p ln lr c b:Addr) (ns:List Int) (rs:List R5) (live:List Nat) (nd:ns.Nodup) (ok:∀ r∈rs,r.Ok ns.length) (hl:∀ k∈live,k < rs.length) (R:Nat→RM.Row),vs = [.ref p,.ref c,.ref b]∧dR K C H p ln lr ns rs∧ck K H c (bS live)∧Bw K H b ns.length R∧ns.length≤12∧rs.length≤20∧Bx ns.length rs.length R ∧
 ∀ l H',aL H H'→H l=none→alg K H' l ns.length (El (bh ns rs live nd ok hl) R)→Q (.ref l) H'
theorem alR{t:Ad}(T:Txt K mg t):cW P w K mg base lH 4 t.OU t.aga ["town","live","rows"]  (aot K t.bG):=by
 refine T.ZL.ok aln (fun vs H Q E h=>?_) (fun cdv A outer s H vs Q E hr h=>?_)
 ·obtain⟨_,_,_,_,_,_,_,_,_,_,_,_,rfl,_⟩:=h; rfl
 ·obtain⟨p,ln,lr,c,b,ns,rs,live,nd,ok,xY,R,rfl,hT,hC,hRw,aiN,D3,fit,k⟩:=h
  obtain⟨⟨dx,hp⟩,_,_,_⟩:=id hT
  refine⟨_,(aI (bH (jI (dS (Q9:=ai HW) (N0:=["town","live","rows"]) (N2:=["house","live","rows","town"]) (cap:=[none,some 1,some 2,some 0]) rfl rfl (by decide +kernel)) rfl (iX rfl T.lA (aG (bu (pv 0) rfl) az)) (fun _ _ _ _=>by exact (bO (i:=0) aeu rfl (be rfl))) (fun _ _ _ _=>by exact pe) (fun _ _ _ _=>by exact (cK (ag4 T) (hr.mono (by decide)) rfl T.aiB T.K8.kp T.aiA .nil bx (aG (pv 3) (aG (pv 1) (aG (pv 2) (aG (pv 0) az))))))))),?_⟩
  try dsimp only[bN]
  refine⟨_,rfl,p,_,dx,_,_,rfl,hp,T.gB,T.oN,rfl,(ns.length:Int),rfl,by omega,by omega,fun acc hacc=>?_⟩
  refine jj (n:=((ns.length:Int)).toNat) (fun i ys H2=>ys.length=i∧∀ (j:Nat) v,ys[j]?=some v→yU K H2 v (El (bh ns rs live nd ok xY) R j)) hacc MA As ⟨rfl,fun j v e=>by simp at e⟩ ?_ ?_
  ·rintro i ys H2 hi s2 hy ⟨e1,hit⟩ x H3 ⟨rfl,rfl⟩
   refine⟨_,rfl,_,rfl,_,rfl,_,rfl,p,ln,lr,c,b,ns,rs,live,nd,ok,xY,R,i,by rw[i6]; rfl,hT.mono s2,s2.seq hC,hRw.mono s2,by omega,D3,fit,fun v H4 s4 hv=>?_⟩
   refine ic hacc hi (s2.trans s4) (s4 _ _ hy) (by rw[e1]; exact cS (by omega)) ⟨by rw[aH,e1]; rfl,fun j w e=>?_⟩
   refine yU.lst (s4 _ _ hy) ?_
   rcases K0 e with z | ⟨z1,z2⟩
   ·exact (hit j w z).mono s4
   ·rw[z1,z2,e1]; exact hv
  rintro ys H2 s2 hy ⟨e1,hit⟩
  exact k acc H2 s2 hacc ⟨ys,hy,by omega,hit⟩
end
end jG
set_option maxHeartbeats 4000000
namespace jG
open PySem L2 TW PyProof.Rows
open RM (fq rF bV bR)
seal L2.PE L2.PA L2.PT L2.PW L2.PS L2.oS L2.PG L2.uS L2.PI L2.uV
section
variable{P:Program}{w:World}{K:ah}{mg:Str→Option Value}{base:Heap}
noncomputable def aiO(K:ah)(C:Addr):Sp:=fun vs H Q _=>∃ (p ln lr c b:Addr) (ns:List Int) (rs:List R5) (live:List Nat) (nd:ns.Nodup) (ok:∀ r∈rs,r.Ok ns.length) (hl:∀ k∈live,k < rs.length) (R:Nat→RM.Row),vs = [.ref p,.ref c,.ref b]∧dR K C H p ln lr ns rs∧ck K H c (bS live)∧Bw K H b ns.length R∧ns.length≤12∧rs.length≤20∧Bx ns.length rs.length R ∧
 ∀ l os H',aL H H'→H l=none→H' l=some (.lst (bS os))→kI (bh ns rs live nd ok hl) R os→os.length≤12→Q (.ref l) H'
theorem aaJ{t:Ad}(T:Txt K mg t):cW P w K mg base lH 5 t.rJ t.Xg ["town","live","rows"]  (aiO K t.bG):=by
 refine T.Hu.ok af8 (fun vs H Q E h=>?_) (fun cdv A outer s H vs Q E hr h=>?_)
 ·obtain⟨_,_,_,_,_,_,_,_,_,_,_,_,rfl,_⟩:=h; rfl
 ·obtain⟨p,ln,lr,c,b,ns,rs,live,nd,ok,xY,R,rfl,hT,hC,hRw,aiN,D3,fit,k⟩:=h
  refine⟨_,(aI (bH (cC Zx (by rfl) T.agh boot_sorted (aG (jI (dS (Q9:=ai rH) (N0:=["town","live","rows"]) (N2:=["up"]) (cap:=[none]) rfl rfl (by decide +kernel)) rfl (gD (cK (alR T) (hr.mono (by decide)) rfl T.aof T.ZL.kp T.aoe .nil bx (aG (pv 0) (aG (pv 1) (aG (pv 2) az))))) (fun _ _ _ _=>by exact (bO (i:=0) ZG rfl (be rfl))) (fun _ _ _ _=>by exact (uW (bw Q4 (pv 0) nG (bT _)))) (fun _ _ _ _=>by exact (bM (Bu K rfl) (pv 0) aJ (fun _ _=>rfl)))) az)))),?_⟩
  try dsimp only[bN]
  refine⟨_,rfl,_,rfl,_,rfl,p,ln,lr,c,b,ns,rs,live,nd,ok,xY,R,rfl,hT,hC,hRw,aiN,D3,fit,fun lu H2 s2 avK hO=>?_⟩
  obtain⟨vs,hvs,evs,ivs⟩:=hO
  refine⟨lu,rfl,⟨_,ck.of hvs⟩,fun acc hacc=>?_⟩
  refine jj (n:=vs.length) (fun i ys _=>∃ ks:List Nat,ys=bS ks∧ks.length≤i∧ks.Nodup∧∀ k,k∈ks↔∃ h g,h < i∧RM.qw (bh ns rs live nd ok xY) R k h g) hacc (Eg (ck.of hvs)) (sj (ck.of hvs)) ⟨[],rfl,bJ _,r8,fun k=>⟨fun z=>absurd z (by simp),fun ⟨_,_,z,_⟩=>absurd z (Nat.not_lt_zero _)⟩⟩ ?_ ?_
  ·rintro i ys H3 hi s3 hy ⟨ks,rfl,e1,e2,e3⟩ y H4 ⟨rfl,hv⟩
   have hvi:=hv _ (s3.seq (ck.of hvs))
   rw[aa hi] at hvi
   cases hvi
   have it:=(ivs i _ (aa hi)).mono s3
   generalize vs[i]=v at it
   cases hh:El (bh ns rs live nd ok xY) R i with
   | none =>
    rw[hh] at it
    have it:v = .iu:=it
    subst it
    refine⟨_,rfl,rfl,_,rfl,gu ?_⟩
    refine l5 hi s3 hy ⟨ks,rfl,by omega,e2,fun k=>(e3 k).trans ⟨fun ⟨h,g,z,t⟩=>⟨h,g,by omega,t⟩,fun ⟨h,g,z,t⟩=>⟨h,g,?_,t⟩⟩⟩
    by_cases e:h=i
    ·subst e
     rw[ya.mpr t] at hh
     cases hh
    ·omega
   | some q =>
    rw[hh] at it
    obtain⟨t1,rfl,ht⟩:=it
    have alS:=(ya (k:=q.1) (g:=q.2)).mp hh
    refine⟨_,rfl,rfl,_,rfl,jF ?_⟩
    refine⟨_,rfl,t1,_,0,_,rfl,rfl,ht,rfl,?_⟩
    refine ic hacc hi s3 hy (by rw[af]; exact cS (by omega)) ⟨ks++[q.1],by rw[nL],by rw[aH]; exact lF e1 1,Gr.Bv e2 fun z=>?_,fun k=>?_⟩
    ·obtain⟨h,g,z1,t⟩:=(e3 _).mp z
     have:=(t.one alS).1
     omega
    ·rw[cy,bX,e3]
     constructor
     ·rintro (⟨h,g,z,t⟩ | rfl)
      ·exact⟨h,g,by omega,t⟩
      ·exact⟨i,q.2,by omega,alS⟩
     ·rintro⟨h,g,z,t⟩
      by_cases e:h=i
      ·subst e
       exact .inr (t.uniq alS).1
      ·exact .inl ⟨h,g,by omega,t⟩
  rintro ys H3 s3 hy ⟨ks,rfl,e1,e2,e3⟩
  refine⟨acc,ks.map fun k:Nat=>(k:Int),rfl,ck.of (by rw[hy,lR]),by rw[af]; omega,fun l ms hl perm pw=>?_⟩
  obtain⟨os,eos,o1,o2,o3⟩:=Zy perm pw e2
  rw[eos]
  have s23:=s2.trans s3
  refine k l os _ (s23.trans (aL.new hl)) (s23.free hl) aF ⟨o1,fun k=>?_⟩ (by omega)
  rw[o2,e3]
  constructor
  ·rintro⟨h,g,_,t⟩; exact⟨h,g,t⟩
  ·rintro⟨h,g,t⟩
   have:h < ns.length:=(qw.lt t).1
   exact⟨h,g,by omega,t⟩
end
end jG
set_option maxHeartbeats 4000000
namespace jG
open PySem L2 TW PyProof.Rows
open RM (fq rF bV bR)
seal L2.PE L2.PA L2.PT L2.PW L2.PS L2.oS L2.PG L2.uS L2.PI L2.uV
section
variable{P:Program}{w:World}{K:ah}{mg:Str→Option Value}{base:Heap}
theorem OA{p:Nat→Bool}{xs:List Nat}{i:Nat}(hi:i < xs.length):(xs.take (i + 1)).filter p=(xs.take i).filter p++if p xs[i] then [xs[i]] else []:=by
 rw[k7 hi,kG]
 congr 1
 cases e:p xs[i]
 ·rw[if_neg (by decide),mO (by rw[e]; decide)]; rfl
 ·rw[if_pos rfl,vJ e]; rfl
noncomputable def ag5(K:ah)(C:Addr):Sp:=fun vs H Q _=>∃ (p ln lr c b:Addr) (ns:List Int) (rs:List R5) (live:List Nat) (nd:ns.Nodup) (ok:∀ r∈rs,r.Ok ns.length) (hl:∀ k∈live,k < rs.length) (R:Nat→RM.Row) (h:Int),vs = [.ref p,.ref c,.ref b,.int h]∧dR K C H p ln lr ns rs∧ck K H c (bS live)∧Bw K H b ns.length R∧ns.length≤12∧rs.length≤20∧Bx ns.length rs.length R ∧
 ∀ l os H',aL H H'→H l=none→H' l=some (.lst (bS (os.filter (isAt rs h))))→kI (bh ns rs live nd ok hl) R os→os.length≤12→Q (.ref l) H'
theorem acQ{t:Ad}(T:Txt K mg t):cW P w K mg base lH 6 t.oH t.MS ["town","live","rows","house"]  (ag5 K t.bG):=by
 refine T.AB.ok RV (fun vs H Q E h=>?_) (fun cdv A outer s H vs Q E hr h=>?_)
 ·obtain⟨_,_,_,_,_,_,_,_,_,_,_,_,_,rfl,_⟩:=h; rfl
 ·obtain⟨p,ln,lr,c,b,ns,rs,live,nd,ok,xY,R,x,rfl,hT,hC,hRw,aiN,D3,fit,k⟩:=h
  refine⟨_,(av (bE (i:=4) RV.nd rfl (Or.inr rfl) (bQ (pv 0) T.gB T.sS (rD T) (hr.mono (by decide)) T.sR .nil bx (aG (pv 3) az)))
   (aI (bH (jI (dS (Q9:=ai kR) (N0:=["town","live","rows","house","joined"]) (N2:=["rope","joined"]) (cap:=[none,some 4]) rfl rfl (by decide +kernel)) rfl (gD (cK (aaJ T) (hr.mono (by decide)) rfl T.EM T.Hu.kp T.adD .nil bx (aG (pv 0) (aG (pv 1) (aG (pv 2) az))))) (fun _ _ _ _=>by exact (bO (i:=0) UY rfl (be rfl))) (fun _ _ _ _=>by exact (uW (bw (Rx K rfl) (pv 0) (pv 1) (by with_unfolding_all rfl)))) (fun _ _ _ _=>by exact (pv 0)))))),?_⟩
  try dsimp only[bN]
  obtain⟨⟨dx,hp⟩,_⟩:=id hT
  refine⟨_,rfl,p,dx,_,rfl,hp,rfl,_,rfl,p,ln,lr,ns,rs,x,rfl,hT,D3,fun lj H1 s1 avN hlj=>?_⟩
  refine⟨_,rfl,_,rfl,_,rfl,p,ln,lr,c,b,ns,rs,live,nd,ok,xY,R,rfl,hT.mono s1,s1.seq hC,hRw.mono s1,aiN,D3,fit,fun lo os H2 s2 aiP hlo hOs h12=>?_⟩
  have arB:=s2 _ _ hlj
  have mem:∀ k∈os,decide (k∈atH rs x rs.length)=isAt rs x k:=fun k hk=>by
   obtain⟨h,g,t⟩:=(hOs.2 k).mp hk
   have hk':k < rs.length:=xY k t.Eh.1
   by_cases z:isAt rs x k=true
   ·rw[z]; exact decide_eq_true (Hl.mpr ⟨hk',z⟩)
   ·rw[Bool.not_eq_true] at z
    rw[z]
    refine decide_eq_false fun y=>?_
    rw[(Hl.mp y).2] at z
    cases z
  refine⟨lo,rfl,⟨_,ck.of hlo⟩,fun acc hacc=>?_⟩
  refine jj (n:=(bS os).length) (fun i ys _=>ys=bS ((os.take i).filter (isAt rs x))) hacc (Eg (ck.of hlo)) (sj (ck.of hlo)) rfl ?_ ?_
  ·rintro i ys H3 hi s3 hy rfl y H4 ⟨rfl,hv⟩
   have hv:=hv _ (s3.seq (ck.of hlo))
   have hi':i < os.length:=by rw[af] at hi; exact hi
   rw[aq,aa hi'] at hv
   cases hv
   refine⟨_,rfl,_,rfl,lj,_,rfl,.inl (ck.of (s3 _ _ arB)),rfl,vD _,_,rfl,?_⟩
   dsimp only
   rw[if_neg aN,Ek,mem _ (aW hi')]
   refine mY (fun hc=>?_) (fun hc=>?_)
   ·refine⟨_,rfl,?_⟩
    refine ic hacc hi s3 hy ?_ ?_
    ·rw[af]
     refine cS (aX (br _ _) ?_)
     rw[b5]; omega
    ·rw[OA hi',if_pos hc,nL]
   ·refine l5 hi s3 hy ?_
    rw[OA hi',if_neg hc,cz]
  ·rintro ys H3 s3 hy rfl
   rw[af,sE] at hy
   have s13:=(s1.trans s2).trans s3
   exact k acc os _ s13 ((s1.trans s2).free hacc) hy hOs h12
end
end jG
set_option maxHeartbeats 4000000
namespace jG
open PySem L2 TW PyProof.Rows
open RM (fq rF bV bR)
seal L2.PE L2.PA L2.PT L2.PW L2.PS L2.oS L2.PG L2.uS L2.PI L2.uV
section
variable{P:Program}{w:World}{K:ah}{mg:Str→Option Value}{base:Heap}
noncomputable def alT(K:ah)(C:Addr):Sp:=fun vs H Q _=>∃ (p ln lr:Addr) (ns:List Int) (rs:List R5) (i:Nat) (r:R5) (g:Nat) (z:Int),vs = [.ref p,.int i,.int g]∧dR K C H p ln lr ns rs∧rs[i]?=some r∧([1,2,4]:List Int)[g]?=some z∧Q (.bl (!decide (Builtin.bitAnd r.e z=0))) H
theorem YQ{t:Ad}(T:Txt K mg t):cW P w K mg base lH 1 t.jx t.EF ["self","rope","group"]  (alT K t.bG):=by
 refine T.yj.ok Xa (fun vs H Q E h=>?_) (fun cdv A outer s H vs Q E hr h=>?_)
 ·obtain⟨p,ln,lr,ns,rs,i,n,h,z,rfl,_⟩:=h; rfl
 ·obtain⟨p,ln,lr,ns,rs,i,r,g,z,rfl,hT,hi,hz,k⟩:=h
  obtain⟨⟨dx,hp⟩,hn,us,hr',hra⟩:=id hT
  obtain⟨v,hv,hD⟩:=hra.get (i:=i) (d:=r.D) (by rw[aq,hi]; rfl)
  obtain⟨q,e,hq⟩:=Rep.Ef (ns:=r.ns) hD
  subst e
  refine⟨_,(aI (bH (x8 x6 (bB akM (bM dQ (bM cD (bu (pv 0) rfl) (pv 1) (fun _ _=>rfl)) aJ (fun _ _=>rfl)) (bM dQ (oY rfl T.pV (v:=.ref t.gk) rfl) (pv 2) (fun _ _=>rfl))) aJ (bT _)))),?_⟩
  try dsimp only[bN]
  refine⟨_,rfl,p,_,dx,_,_,rfl,hp,T.gB,T.jd,rfl,_,rfl,lr,_,_,_,rfl,rfl,ck.of hr',gv hv,?_⟩
  refine⟨q,_,_,_,rfl,rfl,hq,rfl,?_⟩
  have hb:([.int 1,.int 2,.int 4]:List V)[g]?=some (.int z):=by
   have e:([.int 1,.int 2,.int 4]:List V)=([1,2,4]:List Int).map V.int:=rfl
   rw[e,aq,hz]; rfl
  refine⟨_,rfl,_,_,_,_,rfl,rfl,T.iR H,gv hb,_,_,rfl,rfl,rfl,?_⟩
  have e:decide (V.int (Builtin.bitAnd r.e z)=V.int 0)=decide (Builtin.bitAnd r.e z=0):=by simp
  rw[e]
  exact k
end
end jG
set_option maxHeartbeats 4000000
namespace jG
open PySem L2 TW PyProof.Rows
open RM (fq rF bV bR)
seal L2.PE L2.PA L2.PT L2.PW L2.PS L2.oS L2.PG L2.uS L2.PI L2.uV
section
variable{P:Program}{w:World}{K:ah}{mg:Str→Option Value}{base:Heap}
noncomputable def aeK(K:ah)(C:Addr):Sp:=fun vs H Q _=>∃ (p ln lr:Addr) (ns:List Int) (rs:List R5) (i:Nat) (r:R5),vs = [.ref p,.int i]∧dR K C H p ln lr ns rs∧rs[i]?=some r∧Q (.int r.d) H
theorem aaK{t:Ad}(T:Txt K mg t):cW P w K mg base lH 2 t.lT t.Jh ["town","rope"]  (aeK K t.bG):=by
 refine T.wm.ok ZH (fun vs H Q E h=>?_) (fun cdv A outer s H vs Q E hr h=>?_)
 ·obtain⟨p,ln,lr,ns,rs,i,r,rfl,_⟩:=h; rfl
 ·obtain⟨p,ln,lr,ns,rs,i,r,rfl,hT,hi,k⟩:=h
  obtain⟨⟨dx,hp⟩,_⟩:=id hT
  refine⟨_,(aI (bH (bM dQ (bQ (pv 0) T.gB T.OX (L8 T) (hr.mono (by decide)) T.OW .nil bx (aG (pv 1) az)) aJ (fun _ _=>rfl)))),?_⟩
  try dsimp only[bN]
  refine⟨_,rfl,p,dx,_,rfl,hp,rfl,_,rfl,p,ln,lr,ns,rs,i,r,rfl,hT,hi,fun q hq=>?_⟩
  have hq:dP K H q r.vs:=hq.elim dP.of id
  exact⟨q,_,_,_,rfl,rfl,hq,rfl,k⟩
end
end jG
set_option maxHeartbeats 4000000
namespace jG
open PySem L2 TW PyProof.Rows
open RM (fq rF bV bR)
seal L2.PE L2.PA L2.PT L2.PW L2.PS L2.oS L2.PG L2.uS L2.PI L2.uV
section
variable{P:Program}{w:World}{K:ah}{mg:Str→Option Value}{base:Heap}
noncomputable def acR(K:ah)(CT C NW:Addr):Sp:=fun vs H Q E=>∃ (p tp lu ln lr:Addr) (ns:List Int) (rs:List R5) (ws:List (List Nat)) (i:Int),vs = [.ref p,.int i]∧dR K CT H tp ln lr ns rs∧adt C H p tp lu ws∧ws.length=rs.length ∧
 (∀ (j:Nat) w l H',i=(j:Int)→ws[j]?=some w→aL H H'→H l=none→H' l=some (.lst (bS w))→Q (.ref l) H')∧(¬ (0≤i∧i < rs.length)→E (.ref NW) none H)
theorem HR{t:Ad}(T:Txt K mg t):cW P w K mg base (Rb P w) 1 t.dc t.nQ ["self","rope"]  (acR K t.bG t.dU t.K7):=by
 refine T.kj.okX HD (fun vs H Q E h=>?_) (fun cdv A outer s H vs Q E hr h=>?_)
 ·obtain⟨_,_,_,_,_,_,_,_,_,rfl,_⟩:=h; rfl
 ·obtain⟨p,tp,lu,ln,lr,ns,rs,ws,i,rfl,hT,hW,ew,k,kx⟩:=h
  obtain⟨⟨dx,hp⟩,ls,hlu,els,hls⟩:=id hW
  obtain⟨⟨dt,htp⟩,_⟩:=id hT
  refine⟨_,(av (cU (jM (lN ux se aJ (pv 1) (bu (bu (pv 0) rfl) rfl))) (aI (Zq rfl T.age T.agf hr.hd g9)) bD)
   (aI (bH (iy iG (by rfl) T.wC boot_list (aG (bM cD (bu (pv 0) rfl) (pv 1) (fun _ _=>rfl)) az))))),?_⟩
  try dsimp only[bN]
  refine⟨_,rfl,_,_,rfl,rfl,_,rfl,?_⟩
  by_cases h0:0≤i
  case neg =>
   rw[decide_eq_false h0]
   exact gu ⟨_,rfl,jF (kx fun z=>h0 z.1)⟩
  rw[decide_eq_true h0]
  refine jF ?_
  refine⟨_,rfl,p,_,dx,_,_,rfl,hp,T.kW,T.pR,rfl,tp,_,dt,_,_,rfl,htp,T.gB,T.ym,rfl,_,_,rfl,rfl,_,rfl,?_⟩
  by_cases h1:i < (rs.length:Int)
  case neg =>
   rw[decide_eq_false h1]
   exact jF (kx fun z=>h1 z.2)
  rw[decide_eq_true h1]
  refine gu ?_
  obtain⟨j,rfl⟩ : ∃ j:Nat,i=(j:Int):=⟨i.toNat,by omega⟩
  have hj:j < ws.length:=by omega
  have hwj:ws[j]?=some ws[j]:=aa hj
  have hlj:ls[j]?=some ls[j]:=aa (by omega)
  have hat:Q7 (ls.map V.ref) (j:Int)=some (.ref ls[j]):=gv (by rw[aq,hlj]; rfl)
  refine⟨_,rfl,p,_,dx,_,_,rfl,hp,T.kW,T.pS,rfl,_,rfl,lu,_,_,_,rfl,rfl,ck.of hlu,hat,ls[j],_,rfl,.inl (ck.of (hls j _ _ hlj hwj)),fun l hl=>?_⟩
  exact k j _ l _ rfl hwj (aL.new hl) hl aF
end
end jG
set_option maxHeartbeats 4000000
namespace jG
open PySem L2 TW PyProof.Rows
open RM (fq rF bV bR)
seal L2.PE L2.PA L2.PT L2.PW L2.PS L2.oS L2.PG L2.uS L2.PI L2.uV
section
variable{P:Program}{w:World}{K:ah}{mg:Str→Option Value}{base:Heap}
noncomputable def aiQ(NG:Addr):Sp:=fun vs H Q E=>∃ g:Int,vs = [.int g]∧(0≤g∧g < 3→Q .iu H)∧(¬ (0≤g∧g < 3)→E (.ref NG) none H)
theorem G8{t:Ad}(T:Txt K mg t):cW P w K mg base (Rb P w) 1 t.iU t.zc ["group"]  (aiQ t.Hs):=by
 refine T.kU.okX RZ (fun vs H Q E h=>?_) (fun cdv A outer s H vs Q E hr h=>?_)
 ·obtain⟨_,rfl,_⟩:=h; rfl
 ·obtain⟨g,rfl,k,kx⟩:=h
  refine⟨_,(aI (cU (jM (lN ux se aJ (pv 0) (cC bK (by rfl) T.jV bI (aG (oY rfl T.pV (v:=.ref t.gk) rfl) az)))) (aI (Zq rfl T.aeH T.aeI hr.hd g9)) bD)),?_⟩
  try dsimp only[bN]
  refine⟨_,rfl,_,_,rfl,rfl,_,rfl,?_⟩
  by_cases h0:0≤g
  case neg =>
   rw[decide_eq_false h0]
   exact gu ⟨_,rfl,jF (kx fun z=>h0 z.1)⟩
  rw[decide_eq_true h0]
  refine jF ?_
  refine⟨_,_,rfl,.inr (T.iR H),_,_,rfl,rfl,_,rfl,?_⟩
  by_cases h1:g < 3
  case neg =>
   have e:decide (g < ((([.int 1,.int 2,.int 4]:List V).length:Nat):Int))=false:=decide_eq_false h1
   rw[e]
   exact jF (kx fun z=>h1 z.2)
  have e:decide (g < ((([.int 1,.int 2,.int 4]:List V).length:Nat):Int))=true:=decide_eq_true h1
  rw[e]
  exact gu (k ⟨h0,h1⟩)
noncomputable def alU(K:ah)(CT C NG:Addr):Sp:=fun vs H Q E=>∃ (p tp lu ln lr:Addr) (ns:List Int) (rs:List R5) (ws:List (List Nat)) (g:Int),vs = [.ref p,.int g]∧dR K CT H tp ln lr ns rs∧adt C H p tp lu ws∧ws.length=rs.length∧rs.length≤20∧(∀ r∈rs,1≤r.e∧r.e≤7) ∧
 (∀ (gg:Nat) l H',g=(gg:Int)→gg < 3→aL H H'→H l=none→H' l=some (.lst (bS (Em rs ws gg rs.length)))→Q (.ref l) H')∧(¬ (0≤g∧g < 3)→E (.ref NG) none H)
theorem QV{t:Ad}(T:Txt K mg t):cW P w K mg base (Rb P w) 2 t.gj t.vZ ["self","group"]  (alU K t.bG t.dU t.Hs):=by
 refine T.pO.okX Qm (fun vs H Q E h=>?_) (fun cdv A outer s H vs Q E hr h=>?_)
 ·obtain⟨_,_,_,_,_,_,_,_,_,rfl,_⟩:=h; rfl
 ·obtain⟨p,tp,lu,ln,lr,ns,rs,ws,g,rfl,hT,hW,ew,D3,he,k,kx⟩:=h
  obtain⟨⟨dx,hp⟩,ls,hlu,els,hls⟩:=id hW
  obtain⟨⟨dt,htp⟩,_⟩:=id hT
  refine⟨_,(av (cJ (cK (G8 T) (hr.mono (by decide)) rfl T.HY T.kU.kp T.HX .nil ajU (aG (pv 1) az)))
   (aI (bH (jI (dS (Q9:=ai fh) (N0:=["self","group"]) (N2:=["rope","group","self"]) (cap:=[none,some 1,some 0]) rfl rfl (by decide +kernel)) rfl (iX rfl T.lA (aG (bu (bu (pv 0) rfl) rfl) az)) (fun _ _ _ _=>by exact (bO (i:=0) Jd rfl (be rfl))) (fun _ _ _ _=>by exact (uW (PW.pt (Rj (aeo K rfl (bM (Rv K rfl) (Ra K rfl (pv 2) rfl) (pv 0) (fun _ _=>rfl)) (fun _=>rfl)) (KO (vK (bQ (Ra K rfl (pv 2) rfl) T.gB T.ZP (YQ T) (hr.mono (by decide)) T.ZO .nil bx (aG (pv 0) (aG (pv 1) az))))))))) (fun _ _ _ _=>by exact (pv 0)))))),?_⟩
  try dsimp only[bN]
  refine⟨_,rfl,g,rfl,fun hg=>?_,kx⟩
  obtain⟨gg,rfl⟩ : ∃ gg:Nat,g=(gg:Int):=⟨g.toNat,by omega⟩
  have hg3:gg < 3:=by omega
  obtain⟨z,hz⟩:=arn hg3
  refine⟨_,rfl,p,_,dx,_,_,rfl,hp,T.kW,T.pR,rfl,tp,_,dt,_,_,rfl,htp,T.gB,T.ym,rfl,_,rfl,(by show -(2 ^ 62)≤((rs.length:Nat):Int); omega),(by show ((rs.length:Nat):Int) < 2 ^ 62; omega),fun acc hacc=>?_⟩
  refine jj (n:=(((rs.length:Nat):Int)).toNat) (fun i ys _=>ys=bS (Em rs ws gg i)) hacc MA As rfl ?_ ?_
  ·rintro i ys H2 hi s2 hy rfl x H3 ⟨rfl,rfl⟩
   have hi':i < rs.length:=by simpa using hi
   have hir:rs[i]?=some rs[i]:=aa hi'
   have hiw:ws[i]?=some ws[i]:=aa (by omega)
   have hil:ls[i]?=some ls[i]:=aa (by omega)
   have hl8:(bS (Em rs ws gg i)).length < sizeLine:=by rw[af]; exact cS (by have:=abL rs ws gg i; omega)
   have eL:isLive rs ws gg i=((!(ws[i]).isEmpty) && adu (rs[i]).e gg):=by unfold isLive; rw[hir,hiw]
   refine⟨_,rfl,p,_,dx,_,_,rfl,s2 _ _ hp,T.kW,T.pS,rfl,_,rfl,lu,_,_,V.ref ls[i],rfl,rfl,ck.of (s2 _ _ hlu),(by rw[i6]; exact gv (by rw[aq,hil]; rfl)),?_⟩
   refine⟨!(bS ws[i]).isEmpty,?_,?_⟩
   ·exact .inl ⟨_,ck.of (s2 _ _ (hls i _ _ hil hiw)),rfl⟩
   cases ewi:ws[i] with
   | nil =>
    refine gu (l5 hi s2 hy ?_)
    rw[Eo,eL,ewi]
    simp
   | cons y0 r0 =>
    refine jF ?_
    refine⟨_,rfl,p,_,dx,_,_,rfl,s2 _ _ hp,T.kW,T.pR,rfl,tp,dt,_,rfl,s2 _ _ htp,rfl,_,rfl,_,rfl,tp,ln,lr,ns,rs,i,rs[i],gg,z,(by show [V.ref tp,V.int (0 + (i:Int)),V.int (gg:Nat)]=_; rw[i6]),hT.mono s2,hir,hz,_,rfl,?_⟩
    have h17:=he _ (bz hir)
    rw[afX h17.1 h17.2 hz]
    cases eb:adu rs[i].e gg with
    | true =>
     refine jF ⟨_,rfl,ic hacc hi s2 hy hl8 ?_⟩
     rw[Eo,eL,ewi,eb,i6]
     exact (nL _ _).symm
    | false =>
     refine gu (l5 hi s2 hy ?_)
     rw[Eo,eL,ewi,eb]
     simp
  ·rintro ys H2 s2 hy rfl
   exact k gg acc H2 rfl hg3 s2 hacc (by rw[hy,iF])
end
end jG
set_option maxHeartbeats 4000000
namespace jG
open PySem L2 TW PyProof.Rows
open RM (fq rF bV bR)
seal L2.PE L2.PA L2.PT L2.PW L2.PS L2.oS L2.PG L2.uS L2.PI L2.uV
section
variable{P:Program}{w:World}{K:ah}{mg:Str→Option Value}{base:Heap}
noncomputable def aiR(K:ah):Sp:=fun vs H Q _=>∃ (p C dx:Addr) (s:Int),vs = [.ref p,.int s]∧H p=some (.ins C dx [])∧V4 K C∧dX K C "sender" ∧ Q .iu (upd H p (.ins C dx [("sender",.int s)]))
theorem Bh{t:Ad}(T:Txt K mg t):cW P w K mg base lH 1 t.cT t.sJ ["self","sender"]  (aiR K):=by
 refine T.m7.ok MG (fun vs H Q E h=>?_) (fun cdv A outer s H vs Q E hr h=>?_)
 ·obtain⟨_,_,_,_,rfl,_⟩:=h; rfl
 ·obtain⟨p,C,dx,s',rfl,hp,hc,hn,k⟩:=h
  refine⟨_,(aI (iB (pv 0) (pv 1) rfl)),?_⟩
  try dsimp only[bN]
  exact⟨_,rfl,_,rfl,p,C,dx,[],rfl,hp,hc,hn,by decide,k⟩
noncomputable def ag6:Sp:=fun vs H Q _=>∃ (p:Addr) (c:Int),vs = [.ref p,.int c]∧Q (.bl false) H
theorem QW{t:Ad}(T:Txt K mg t):cW P w K mg base lH 1 t.fZ t.vU ["self","caller"]  ag6:=by
 refine T.pI.ok Qi (fun vs H Q E h=>?_) (fun cdv A outer s H vs Q E hr h=>?_)
 ·obtain⟨_,_,rfl,_⟩:=h; rfl
 ·obtain⟨p,c,rfl,k⟩:=h
  exact⟨_,(aI (bH uw)),k⟩
noncomputable def ag7:Sp:=fun vs H Q _=>∃ (p:Addr),vs = [.ref p]∧Q .iu H
theorem DW{t:Ad}(T:Txt K mg t):cW P w K mg base lH 1 t.dY t.vV ["self"]  ag7:=by
 refine T.pJ.ok Qj (fun vs H Q E h=>?_) (fun cdv A outer s H vs Q E hr h=>?_)
 ·obtain⟨_,rfl,_⟩:=h; rfl
 ·obtain⟨p,rfl,k⟩:=h
  exact⟨_,(aI (bH nG)),k⟩
noncomputable def OB(K:ah):Sp:=fun vs H Q _=>∃ (p C dx:Addr) (s:Int),vs = [.ref p]∧H p=some (.ins C dx [("sender",.int s)])∧V4 K C∧dX K C "sender" ∧ Q (.int s) H
theorem Bj{t:Ad}(T:Txt K mg t):cW P w K mg base lH 1 t.dm t.sL ["self"]  (OB K):=by
 refine T.m8.ok MH (fun vs H Q E h=>?_) (fun cdv A outer s H vs Q E hr h=>?_)
 ·obtain⟨_,_,_,_,rfl,_⟩:=h; rfl
 ·obtain⟨p,C,dx,s',rfl,hp,hc,hn,k⟩:=h
  exact⟨_,(aI (bH (bu (pv 0) rfl))),_,rfl,p,C,dx,_,_,rfl,hp,hc,hn,rfl,k⟩
noncomputable def aeL(C:Addr):Sp:=fun vs H Q _=>∃ (p dx:Addr) (s to:Int),vs = [.ref p,.int s,.int to]∧H p=some (.ins C dx []) ∧
 ∀ H',H' p=some (.ins C dx [("sender",.int s),("to",.int to)])→(∀ b o,H b=some o→b≠p→H' b=some o)→Q .iu H'
theorem QX{t:Ad}(T:Txt K mg t):cW P w K mg base lH 2 t.gf t.vW ["self","sender","to"]  (aeL t.iz):=by
 refine T.pK.ok Qk (fun vs H Q E h=>?_) (fun cdv A outer s H vs Q E hr h=>?_)
 ·obtain⟨_,_,_,_,rfl,_⟩:=h; rfl
 ·obtain⟨p,dx,s',to,rfl,hp,k⟩:=h
  refine⟨_,(av (cJ (abM (oY rfl T.agc (v:=.ref t.jP) rfl) T.M3 (Bh T) (hr.mono (by decide)) T.Dd .nil bx (aG (pv 0) (aG (pv 1) az))))
   (aI (iB (pv 0) (pv 2) rfl))),?_⟩
  try dsimp only[bN]
  refine⟨rfl,_,rfl,_,rfl,p,t.iz,dx,s',rfl,hp,T.rT,T.wA,?_⟩
  refine⟨_,rfl,_,rfl,p,t.iz,dx,_,rfl,aF,T.rT,T.BP,(by show 1 < 1000; decide),?_⟩
  rw[eG (names:=["sender"]) rfl (by decide +kernel)]
  exact k _ aF fun b o e nb=>by rw[aP nb,aP nb]; exact e
noncomputable def ag8(C:Addr):Sp:=fun vs H Q _=>∃ (p dx:Addr) (s to c:Int),vs = [.ref p,.int c]∧H p=some (.ins C dx [("sender",.int s),("to",.int to)])∧Q (.bl (decide (V.int c=V.int to))) H
theorem UA{t:Ad}(T:Txt K mg t):cW P w K mg base lH 1 t.gX t.yX ["self","caller"]  (ag8 t.iz):=by
 refine T.rO.ok RQ (fun vs H Q E h=>?_) (fun cdv A outer s H vs Q E hr h=>?_)
 ·obtain⟨_,_,_,_,_,rfl,_⟩:=h; rfl
 ·obtain⟨p,dx,s',to,c,rfl,hp,k⟩:=h
  exact⟨_,(aI (bH (x8 vM (pv 1) (bu (pv 0) rfl) (bT _)))),_,rfl,_,rfl,p,_,dx,_,_,rfl,hp,T.rT,T.BP,rfl,rfl,k⟩
noncomputable def ag9(C:Addr):Sp:=fun vs H Q _=>∃ (p dx:Addr) (s to:Int),vs = [.ref p]∧H p=some (.ins C dx [("sender",.int s),("to",.int to)])∧Q (.int to) H
theorem UB{t:Ad}(T:Txt K mg t):cW P w K mg base lH 1 t.gY t.yY ["self"]  (ag9 t.iz):=by
 refine T.rP.ok RS (fun vs H Q E h=>?_) (fun cdv A outer s H vs Q E hr h=>?_)
 ·obtain⟨_,_,_,_,rfl,_⟩:=h; rfl
 ·obtain⟨p,dx,s',to,rfl,hp,k⟩:=h
  exact⟨_,(aI (bH (bu (pv 0) rfl))),_,rfl,p,_,dx,_,_,rfl,hp,T.rT,T.BP,rfl,k⟩
noncomputable def Wv(C:Addr):Sp:=fun vs H Q _=>∃ (p dx:Addr) (s to:Int),vs = [.ref p]∧H p=some (.ins C dx [("sender",.int s),("to",.int to)])∧Q (.int (s + to + 1)) H
theorem QY{t:Ad}(T:Txt K mg t):cW P w K mg base lH 1 t.gh t.vX ["self"]  (Wv t.iz):=by
 refine T.pL.ok Ql (fun vs H Q E h=>?_) (fun cdv A outer s H vs Q E hr h=>?_)
 ·obtain⟨_,_,_,_,rfl,_⟩:=h; rfl
 ·obtain⟨p,dx,s',to,rfl,hp,k⟩:=h
  exact⟨_,(aI (bH (bB gz (bB gz (bu (pv 0) rfl) (bu (pv 0) rfl)) aJ))),_,rfl,p,_,dx,_,_,rfl,hp,T.rT,T.wA,rfl,_,rfl,p,_,dx,_,_,rfl,hp,T.rT,T.BP,rfl,_,_,rfl,rfl,_,_,rfl,rfl,k⟩
noncomputable def aha(C:Addr):Sp:=fun vs H Q _=>∃ (p dx:Addr) (s c:Int),vs = [.ref p,.int c]∧H p=some (.ins C dx [("sender",.int s)])∧Q (.bl (!decide (V.int c=V.int s))) H
theorem UC{t:Ad}(T:Txt K mg t):cW P w K mg base lH 1 t.gZ t.yZ ["self","caller"]  (aha t.ki):=by
 refine T.rQ.ok RT (fun vs H Q E h=>?_) (fun cdv A outer s H vs Q E hr h=>?_)
 ·obtain⟨_,_,_,_,rfl,_⟩:=h; rfl
 ·obtain⟨p,dx,s',c,rfl,hp,k⟩:=h
  exact⟨_,(aI (bH (x8 x6 (pv 1) (bu (pv 0) rfl) (bT _)))),_,rfl,_,rfl,p,_,dx,_,_,rfl,hp,T.BQ,T.pQ,rfl,rfl,k⟩
end
end jG
set_option maxHeartbeats 4000000
namespace jG
open PySem L2 TW PyProof.Rows
open RM (fq rF bV bR)
seal L2.PE L2.PA L2.PT L2.PW L2.PS L2.oS L2.PG L2.uS L2.PI L2.uV
section
variable{P:Program}{w:World}{K:ah}{mg:Str→Option Value}{base:Heap}
noncomputable def aiS(C:Addr):Sp:=fun vs H Q _=>∃ (p dx:Addr),vs = [.ref p]∧H p=some (.ins C dx []) ∧
 ∀ d H',H d=none→vQ C H' p d []→(∀ b o,H b=some o→b≠p→H' b=some o)→Q .iu H'
theorem UD{t:Ad}(T:Txt K mg t):cW P w K mg base lH 1 t.gV t.yV ["self"]  (aiS t.gA):=by
 refine T.rM.ok RL (fun vs H Q E h=>?_) (fun cdv A outer s H vs Q E hr h=>?_)
 ·obtain⟨_,_,rfl,_⟩:=h; rfl
 ·obtain⟨p,dx,rfl,hp,k⟩:=h
  refine⟨_,(aI (iB (pv 0) Zj rfl)),?_⟩
  try dsimp only[bN]
  refine fun d hd=>⟨_,rfl,p,t.gA,dx,[],rfl,?_,T.Jv,T.yo,by decide,?_⟩
  ·rw[aP (aR hp hd)]; exact hp
  ·refine k d _ hd ⟨⟨dx,aF⟩,?_⟩ fun b o e nb=>?_
   ·rw[aP (aR hp hd).symm]; exact aF
   ·rw[aP nb,aP (aR e hd)]; exact e
noncomputable def aiT(C:Addr):Sp:=fun vs H Q _=>∃ (p d:Addr) (ts:List T3) (h c r:Int),vs = [.ref p,.int h,.int c,.int r]∧vQ C H p d ts∧ts.length < 1000 ∧
 ∀ H',H' d=some (.dT (putK (ts.map oE) (keyOf h c) (.int r)))→(∀ b o,H b=some o→b≠d→H' b=some o)→Q .iu H'
theorem VR{t:Ad}(T:Txt K mg t):cW P w K mg base lH 1 t.iM t.BA ["self","house","caller","rope"]  (aiT t.gA):=by
 refine T.vh.ok UU (fun vs H Q E h=>?_) (fun cdv A outer s H vs Q E hr h=>?_)
 ·obtain⟨_,_,_,_,_,_,rfl,_⟩:=h; rfl
 ·obtain⟨p,d,ts,hh,cc,r,rfl,⟨⟨dx,hp⟩,hd⟩,hl,k⟩:=h
  refine⟨_,(aI (adk (Zl hr) (bu (pv 0) rfl) (ia (aG (pv 1) (aG (pv 2) az))) (pv 3) rfl)),?_⟩
  try dsimp only[bN]
  refine⟨_,rfl,_,rfl,p,t.gA,dx,_,_,rfl,hp,T.Jv,T.yo,rfl,_,rfl,_,rfl,(by show 2≤sizeLine; decide),fun b hb=>?_⟩
  have nb:d≠b:=aR hd hb
  refine⟨d,_,rfl,Zi.t (k:=keyOf hh cc) (kvs:=ts.map oE) (by rw[aP nb]; exact hd) aF (by rw[af]; exact cS (oU hl)),?_⟩
  exact k _ aF fun x o e nx=>by rw[aP nx,aP (aR e hb)]; exact e
noncomputable def aiU(C:Addr):Sp:=fun vs H Q _=>∃ (p d:Addr) (ts:List T3) (h c:Int),vs = [.ref p,.int h,.int c]∧vQ C H p d ts ∧
 ∀ H',aL H H'→Q (((Ja ts h c).map V.int).getD .iu) H'
theorem VS{t:Ad}(T:Txt K mg t):cW P w K mg base lH 1 t.iN t.BB ["self","house","caller"]  (aiU t.gA):=by
 refine T.vj.ok UW (fun vs H Q E h=>?_) (fun cdv A outer s H vs Q E hr h=>?_)
 ·obtain⟨_,_,_,_,_,rfl,_⟩:=h; rfl
 ·obtain⟨p,d,ts,hh,cc,rfl,⟨⟨dx,hp⟩,hd⟩,k⟩:=h
  refine⟨_,(aI (bH (afH (Zl hr) (bu (pv 0) rfl) (ia (aG (pv 1) (aG (pv 2) az))) ⟨rfl,rfl,rfl,rfl⟩))),?_⟩
  try dsimp only[bN]
  refine⟨_,rfl,p,t.gA,dx,_,_,rfl,hp,T.Jv,T.yo,rfl,d,rfl,.inr ⟨_,.inl hd⟩,_,rfl,_,rfl,(by show 2≤sizeLine; decide),fun b hb=>?_⟩
  have s1:=aL.new (o:=.tup [.int hh,.int cc]) hb
  refine⟨_,UT.t (k:=keyOf hh cc) (s1 _ _ hd) aF,?_⟩
  rw[RE]
  exact k _ s1
noncomputable def ahb(C:Addr):Sp:=fun vs H Q _=>∃ (p d:Addr) (ts:List T3),vs = [.ref p]∧vQ C H p d ts ∧
 ∀ d' H',H d'=none→vQ C H' p d' []→(∀ b o,H b=some o→b≠p→H' b=some o)→Q .iu H'
theorem UE{t:Ad}(T:Txt K mg t):cW P w K mg base lH 1 t.gW t.yW ["self"]  (ahb t.gA):=by
 refine T.rN.ok RN (fun vs H Q E h=>?_) (fun cdv A outer s H vs Q E hr h=>?_)
 ·obtain⟨_,_,_,rfl,_⟩:=h; rfl
 ·obtain⟨p,d,ts,rfl,⟨⟨dx,hp⟩,hd⟩,k⟩:=h
  refine⟨_,(aI (iB (pv 0) Zj rfl)),?_⟩
  try dsimp only[bN]
  refine fun d' hd'=>⟨_,rfl,p,t.gA,dx,[("kept",.ref d)],rfl,?_,T.Jv,T.yo,(by show 1 < 1000; decide),?_⟩
  ·rw[aP (aR hp hd')]; exact hp
  ·refine k d' _ hd' ⟨⟨dx,aF⟩,?_⟩ fun b o e nb=>?_
   ·rw[aP (aR hp hd').symm]; exact aF
   ·rw[aP nb,aP (aR e hd')]; exact e
end
end jG
set_option maxHeartbeats 4000000
namespace jG
open PySem L2 TW PyProof.Rows
open RM (fq rF bV bR)
seal L2.PE L2.PA L2.PT L2.PW L2.PS L2.oS L2.PG L2.uS L2.PI L2.uV
section
variable{P:Program}{w:World}{K:ah}{mg:Str→Option Value}{base:Heap}
noncomputable def arD(K:ah)(C:Addr):Sp:=fun vs H Q _=>∃ (bk d lo lh:Addr) (ts:List T3) (so eu:Option Int) (pB:Int) (os hs:List Int),vs = [.ref bk,Ep so,.int pB,Ep eu,.ref lo,.ref lh]∧vQ C H bk d ts∧ck K H lo (os.map V.int)∧ck K H lh (hs.map V.int)∧os.length≤1000 ∧
 ∀ l H',aL H H'→H l=none→H' l=some (.lst ((onP ts so pB eu os hs).map V.int))→Q (.ref l) H'
theorem aaL{t:Ad}(T:Txt K mg t):cW P w K mg base lH 2 t.lS t.Jg ["book","sought","house","came","open_here","here"]  (arD K t.gA):=by
 refine T.we.ok Eu (fun vs H Q E h=>?_) (fun cdv A outer s H vs Q E hr h=>?_)
 ·obtain⟨_,_,_,_,_,_,_,_,_,_,rfl,_⟩:=h; rfl
 ·obtain⟨bk,d,lo,lh,ts,so,eu,pB,os,hs,rfl,hB,hO,hH,hn,k⟩:=h
  refine⟨_,(av (cU (bw vA (pv 1) (pv 5) (by with_unfolding_all rfl)) (aI (bH (lO az))) bD)
   (av (bE (i:=6) Eu.nd rfl (be rfl) (D6 (bw afr (pv 1) nG (bT _)) nG (bQ (pv 0) T.Jv T.Xm (VS T) (hr.mono (by decide)) T.Xl .nil bx (aG (pv 2) (aG (pv 1) az)))))
   (av (bE (i:=7) Eu.nd rfl (be rfl) (D6 (bw vA (pv 6) (pv 4) (by with_unfolding_all rfl)) (lO (aG (pv 6) az)) (pv 4)))
   (aI (bH (jI (dS (Q9:=ai jD) (N0:=["book","sought","house","came","open_here","here","noted","leading"]) (N2:=["rope","came"]) (cap:=[none,some 3]) rfl rfl (by decide +kernel)) rfl (gD (pv 7)) (fun _ _ _ _=>by exact (bO (i:=0) RP rfl (be rfl))) (fun _ _ _ _=>by exact (uW (bw x6 (pv 0) (pv 1) (bT _)))) (fun _ _ _ _=>by exact (pv 0)))))))),?_⟩
  try dsimp only[bN]
  obtain⟨dx,hob⟩:=hB.ob
  refine⟨_,rfl,_,rfl,lh,_,rfl,.inl hH,af1 so,vB hs,_,rfl,?_⟩
  cases so with
  | none =>
   refine Wj (by show OO .iu _=false; exact RG hs) ?_
   refine⟨_,rfl,rfl,_,rfl,an6 (decide_eq_true rfl) ?_⟩
   refine⟨_,rfl,_,rfl,lo,_,rfl,.inl hO,rfl,vB os,_,rfl,Wj (by show OO .iu _=false; exact RG os) ?_⟩
   refine⟨_,rfl,_,rfl,lo,rfl,⟨_,hO⟩,fun acc hacc=>?_⟩
   refine vR (qt eu) hacc hO hn (fun x H2 R S _ s2 h1 h2=>?_) (fun H2 s2 hy=>k acc H2 s2 hacc hy)
   refine⟨_,rfl,_,rfl,Er x eu,_,rfl,?_⟩
   exact mY (fun e=>⟨_,rfl,h1 _ (aL.refl _) e⟩) (fun e=>h2 _ (aL.refl _) (neT e))
  | some to =>
   refine mY (fun e=>?_) (fun e=>?_)
   ·refine⟨bJ _,fun l hl=>k l _ (aL.new hl) hl ?_⟩
    have e':to∈hs:=by
     have e:OO (.int to) (hs.map V.int)=true:=e
     rw[vP] at e
     exact of_decide_eq_true e
    show _=some (HO.lst (List.map V.int (if to∈hs then [] else _)))
    rw[if_pos e']
    exact aF
   ·have e':¬ to∈hs:=fun z=>e (by show OO (.int to) (hs.map V.int)=true; rw[vP]; exact decide_eq_true z)
    refine⟨_,rfl,rfl,_,rfl,Wj (decide_eq_false fun z=>by cases z) ?_⟩
    refine⟨_,rfl,bk,dx,_,rfl,hob,rfl,_,rfl,_,rfl,bk,d,ts,pB,to,rfl,hB,fun H1 s1=>?_⟩
    have k2:∀ l H',aL H H'→H l=none→H' l=some (.lst ((match Ja ts pB to with
     | some r=>if r∈os then [r].filter (qt eu) else os.filter (qt eu)
     | none=>os.filter (qt eu)).map V.int))→Q (.ref l) H':=fun l H' s hl hy=>k l H' s hl (by
     show _=some (HO.lst (List.map V.int (if to∈hs then [] else _)))
     rw[if_neg e']
     exact hy)
    clear k
    have hO1:=s1.seq hO
    cases hk:Ja ts pB to with
    | none =>
     rw[hk] at k2
     refine⟨_,rfl,_,rfl,lo,_,rfl,.inl hO1,rfl,vB os,_,rfl,Wj (by show OO .iu _=false; exact RG os) ?_⟩
     refine⟨_,rfl,_,rfl,lo,rfl,⟨_,hO1⟩,fun acc hacc=>?_⟩
     refine vR (qt eu) hacc hO1 hn (fun x H2 R S _ s2 h1 h2=>?_) (fun H2 s2 hy=>k2 acc H2 (s1.trans s2) (s1.free hacc) hy)
     refine⟨_,rfl,_,rfl,Er x eu,_,rfl,?_⟩
     exact mY (fun e=>⟨_,rfl,h1 _ (aL.refl _) e⟩) (fun e=>h2 _ (aL.refl _) (neT e))
    | some r =>
     rw[hk] at k2
     dsimp only[Option.map_some,Option.getD_some]
     refine⟨_,rfl,_,rfl,lo,_,rfl,.inl hO1,rfl,vB os,_,rfl,mY (fun e2=>?_) (fun e2=>?_)⟩
     ·have e2':r∈os:=by
       have e2:OO (.int r) (os.map V.int)=true:=e2
       rw[vP] at e2
       exact of_decide_eq_true e2
      have k2:∀ l H',aL H H'→H l=none→H' l=some (.lst (([r].filter (qt eu)).map V.int))→Q (.ref l) H':=fun l H' s hl hy=>k2 l H' s hl (by
       show _=some (HO.lst (List.map V.int (if r∈os then _ else _)))
       rw[if_pos e2']
       exact hy)
      refine⟨_,rfl,(by show 1≤sizeLine; decide),fun l1 hl1=>?_⟩
      have u2:=aL.new (o:=.lst [V.int r]) hl1
      have h2:ck K (upd H1 l1 (.lst [V.int r])) l1 ([r].map V.int):=ck.of aF
      generalize upd H1 l1 (.lst [V.int r])=H2 at u2 h2
      refine⟨_,rfl,l1,rfl,⟨_,h2⟩,fun acc hacc=>?_⟩
      refine vR (qt eu) hacc h2 (by show 1≤1000; decide) (fun x H3 R S _ s3 h1 h2=>?_) (fun H3 s3 hy=>k2 acc H3 (s1.trans (u2.trans s3)) (s1.free (u2.free hacc)) hy)
      refine⟨_,rfl,_,rfl,Er x eu,_,rfl,?_⟩
      exact mY (fun e=>⟨_,rfl,h1 _ (aL.refl _) e⟩) (fun e=>h2 _ (aL.refl _) (neT e))
     ·have e2':¬ r∈os:=fun z=>e2 (by show OO (.int r) (os.map V.int)=true; rw[vP]; exact decide_eq_true z)
      have k2:∀ l H',aL H H'→H l=none→H' l=some (.lst ((os.filter (qt eu)).map V.int))→Q (.ref l) H':=fun l H' s hl hy=>k2 l H' s hl (by
       show _=some (HO.lst (List.map V.int (if r∈os then _ else _)))
       rw[if_neg e2']
       exact hy)
      refine⟨_,rfl,_,rfl,lo,rfl,⟨_,hO1⟩,fun acc hacc=>?_⟩
      refine vR (qt eu) hacc hO1 hn (fun x H2 R S _ s2 h1 h2=>?_) (fun H2 s2 hy=>k2 acc H2 (s1.trans s2) (s1.free hacc) hy)
      refine⟨_,rfl,_,rfl,Er x eu,_,rfl,?_⟩
      exact mY (fun e=>⟨_,rfl,h1 _ (aL.refl _) e⟩) (fun e=>h2 _ (aL.refl _) (neT e))
noncomputable def aeM(K:ah)(C cL c1 cA:Addr):Sp:=fun vs H Q _=>∃ (bk d la lo lh:Addr) (ts:List T3) (s to kd pB:Int) (eu:Option Int) (os hs:List Int),vs = [.ref bk,.ref la,.int pB,Ep eu,.ref lo,.ref lh]∧vQ C H bk d ts∧OR cL c1 cA H la s to kd∧ck K H lo (os.map V.int)∧ck K H lh (hs.map V.int)∧os.length≤1000∧hs.length≤1000 ∧
 ∀ p l1 l2 H',aL H H'→H p=none→H l1=none→H l2=none→l1≠l2→H' p=some (.tup [.ref l1,.ref l2])→H' l1=some (.lst ((hs.filter (Jb s to kd)).map V.int))→H' l2=some (.lst ((onP ts (yb to kd) pB eu os hs).map V.int))→Q (.ref p) H'
theorem acS{t:Ad}(T:Txt K mg t):cW P w K mg base lH 3 t.oF t.MQ ["book","letter","house","came","open_here","here"]  (aeM K t.gA t.jP t.iz t.ki):=by
 refine T.AA.ok RO (fun vs H Q E h=>?_) (fun cdv A outer s H vs Q E hr h=>?_)
 ·obtain⟨_,_,_,_,_,_,_,_,_,_,_,_,_,rfl,_⟩:=h; rfl
 ·obtain⟨bk,d,la,lo,lh,ts,s',to,kd,pB,eu,os,hs,rfl,hB,hL,hO,hH,hn,hn2,k⟩:=h
  refine⟨_,(av (Bt (i:=6) RO.nd rfl (be rfl) (dS (Q9:=ai kQ) (N0:=["book","letter","house","came","open_here","here","handed"]) (N2:=["caller","letter"]) (cap:=[none,some 1]) rfl rfl (by decide +kernel)) rfl (gD (pv 5)) (fun _ _ _ _=>by exact (bO (i:=0) UX rfl (be rfl))) (fun _ _ _ _=>by exact (uW (vK (ME (bQ (pv 1) T.Si T.R6 (QW T) (hr.mono (by decide)) T.R4 .nil bx (aG (pv 0) az)) (ME (bQ (pv 1) T.rT T.U9 (UA T) (hr.mono (by decide)) T.U8 .nil bx (aG (pv 0) az)) (bQ (pv 1) T.BQ T.Vd (UC T) (hr.mono (by decide)) T.Vc .nil bx (aG (pv 0) az))))))) (fun _ _ _ _=>by exact (pv 0)))
   (aI (bH (ia (aG (pv 6) (aG (cK (aaL T) (hr.mono (by decide)) rfl T.abY T.we.kp T.abX .nil bx (aG (pv 0) (aG (ME (mX (pv 1) T.Si T.R7 (DW T) (hr.mono (by decide)) T.EL .nil bx) (ME (mX (pv 1) T.rT T.Vb (UB T) (hr.mono (by decide)) T.Va .nil bx) (mX (pv 1) T.BQ T.Vn (DW T) (hr.mono (by decide)) T.EL .nil bx))) (aG (pv 2) (aG (pv 3) (aG (pv 4) (aG (pv 5) az))))))) az)))))),?_⟩
  try dsimp only[bN]
  refine⟨_,rfl,lh,rfl,⟨_,hH⟩,fun acc hacc=>?_⟩
  refine vR (Jb s' to kd) hacc hH hn2 (fun x H2 R S _ s2 h1 h2=>?_) (fun H2 s2 hy=>?_)
  ·have hL2:=hL.mono s2
   cases hL2 with
   | bare dx ha =>
    exact .inl ⟨_,rfl,la,dx,_,rfl,ha,rfl,_,rfl,la,x,rfl,_,rfl,h2 _ (aL.refl _) rfl⟩
   | one dx ha =>
    refine .inr (.inl ⟨_,rfl,la,dx,_,rfl,ha,rfl,_,rfl,la,dx,s',to,x,rfl,ha,_,rfl,?_⟩)
    exact mY (fun e=>⟨_,rfl,h1 _ (aL.refl _) e⟩) (fun e=>h2 _ (aL.refl _) (neT e))
   | all dx ha =>
    refine .inr (.inr ⟨_,rfl,la,dx,_,rfl,ha,rfl,_,rfl,la,dx,s',x,rfl,ha,_,rfl,?_⟩)
    exact mY (fun e=>⟨_,rfl,h1 _ (aL.refl _) e⟩) (fun e=>h2 _ (aL.refl _) (neT e))
  ·have hL2:=hL.mono s2
   have rest:∀ l2 H3,aL H2 H3→H2 l2=none→H3 l2=some (.lst ((onP ts (yb to kd) pB eu os hs).map V.int))→2≤sizeLine∧∀ p,H3 p=none→Q (.ref p) (upd H3 p (.tup [.ref acc,.ref l2])):=fun l2 H3 s3 hl2 h3=>by
    refine⟨by decide,fun p hp=>?_⟩
    have u:=aL.new (o:=.tup [V.ref acc,.ref l2]) hp
    exact k p acc l2 _ ((s2.trans s3).trans u) (s2.free (s3.free hp)) hacc (s2.free hl2) (aR hy hl2) aF (u _ _ (s3 _ _ hy)) (u _ _ h3)
   refine⟨_,rfl,_,rfl,?_⟩
   cases hL2 with
   | bare dx ha =>
    exact .inl ⟨_,rfl,la,dx,_,rfl,ha,rfl,la,rfl,_,rfl,_,rfl,_,rfl,_,rfl,bk,d,lo,lh,ts,none,eu,pB,os,hs,rfl,hB.mono s2,s2.seq hO,s2.seq hH,hn,fun l2 H3 s3 hl2 h3=>rest l2 H3 s3 hl2 h3⟩
   | one dx ha =>
    exact .inr (.inl ⟨_,rfl,la,dx,_,rfl,ha,rfl,la,dx,s',to,rfl,ha,_,rfl,_,rfl,_,rfl,_,rfl,bk,d,lo,lh,ts,some to,eu,pB,os,hs,rfl,hB.mono s2,s2.seq hO,s2.seq hH,hn,fun l2 H3 s3 hl2 h3=>rest l2 H3 s3 hl2 h3⟩)
   | all dx ha =>
    exact .inr (.inr ⟨_,rfl,la,dx,_,rfl,ha,rfl,la,rfl,_,rfl,_,rfl,_,rfl,_,rfl,bk,d,lo,lh,ts,none,eu,pB,os,hs,rfl,hB.mono s2,s2.seq hO,s2.seq hH,hn,fun l2 H3 s3 hl2 h3=>rest l2 H3 s3 hl2 h3⟩)
end
end jG
set_option maxHeartbeats 4000000
namespace jG
open PySem L2 TW PyProof.Rows
open RM (fq rF bV bR)
seal L2.PE L2.PA L2.PT L2.PW L2.PS L2.oS L2.PG L2.uS L2.PI L2.uV
section
variable{P:Program}{w:World}{K:ah}{mg:Str→Option Value}{base:Heap}
noncomputable def aeN(K:ah):Sp:=fun vs H Q _=>∃ (a:Addr) (cs:List Int) (n:Nat),vs = [.ref a,.int n]∧ck K H a (cs.map V.int)∧1≤n∧n≤10 ∧
 ∀ l H' (xs:List Int),aL H H'→H l=none→H' l=some (.lst (xs.map V.int))→xs.length=n→xs.Nodup→(∀ x∈xs,0≤x)→Q (.ref l) H'
theorem acT{t:Ad}(T:Txt K mg t):cW P w K mg base lH 2 t.oK t.MV ["_law_script","_law_size"]  (aeN K):=by
 refine T.AD.ok nO (fun vs H Q E h=>?_) (fun cdv A outer s H vs Q E hr h=>?_)
 ·obtain⟨_,_,_,rfl,_⟩:=h; rfl
 ·obtain⟨a,cs,n,rfl,hS,hn1,hn,k⟩:=h
  refine⟨_,(av (bE (i:=2) nO.nd rfl (be rfl) (lO az))
   (av (jW PassesOwn.never rfl (iX rfl T.lA (aG (pv 1) az)) (bO (i:=3) nO.nd rfl (be rfl)) (av (bE (i:=4) nO.nd rfl (be rfl) (cK (g8 T) (hr.mono (by decide)) rfl T.iW T.eO.kp T.iV .nil bx (aG (pv 0) (aG (bB gz aJ (pv 3)) az))))
   (av (bE (i:=5) nO.nd rfl (be rfl) (bB fc (bB iw (pv 4) aJ) aJ))
   (av (cU (bw vM (bB fc (pv 4) aJ) aJ (bT _)) (aI (bE (i:=5) nO.nd rfl (be rfl) (bB fc (bB iw (pv 4) aJ) (bB IZ (bB afp aJ aJ) aJ)))) bD)
   (av (Zb PassesOwn.never (bw vA (pv 5) (pv 2) (by with_unfolding_all rfl)) (aI (bE (i:=5) nO.nd rfl (be rfl) (bB gz (pv 5) aJ))))
   (aI (cJ (o6 aY bg bf er (pv 2) (aG (pv 5) az)))))))))
   (av (cU (bw vM (bB fc (bB iw (cK (g8 T) (hr.mono (by decide)) rfl T.iW T.eO.kp T.iV .nil bx (aG (pv 0) (aG aJ az))) aJ) aJ) aJ (bT _)) (aI (bH (ZC (pv 2) (rE (anC akN aJ))))) bD)
   (aI (bH (pv 2)))))),?_⟩
  try dsimp only[bN]
  refine⟨bJ _,fun l hl=>?_⟩
  refine⟨_,rfl,(n:Int),rfl,by omega,by omega,?_⟩
  refine vz (n:=((n:Int)).toNat) (fun i σ H2=>aL H H2∧∃ (xs:List Int) (v3 v4 v5:Option V),σ = [some (.ref a),some (.int n),some (.ref l),v3,v4,v5]∧H2 l=some (.lst (xs.map V.int))∧xs.length=i∧xs.Nodup∧∀ x∈xs,0≤x)
   ⟨aL.new hl,[],none,none,none,rfl,aF,rfl,r8,fun x hx=>absurd hx (by simp)⟩ ?_ ?_
  ·rintro i σ H2 hi ⟨s2,xs,v3,v4,v5,rfl,hx,ei,nd,nn⟩
   rw[i6]
   refine⟨_,rfl,_,rfl,_,_,rfl,rfl,a,cs,_,rfl,s2.seq hS,by omega,?_⟩
   dsimp only[k8]
   generalize cs.getD _ 0=c
   refine⟨_,rfl,_,_,rfl,rfl,⟨by decide,by decide⟩,_,_,rfl,rfl,(by show (0:Int) < 40; decide),?_⟩
   dsimp only[k8]
   refine MC (fun σ H3=>H3=H2∧∃ z:Int,0≤z∧σ = [some (.ref a),some (.int n),some (.ref l),some (.int (i:Nat)),some (.int c),some (.int z)]) ?_ fun nx=>?_
   case refine_2 =>
    refine⟨_,rfl,_,_,rfl,rfl,(by show (0:Int) < 3; decide),rfl,_,rfl,mY (fun e=>?_) (fun e=>?_)⟩
    ·exact⟨_,rfl,_,_,rfl,rfl,⟨by decide,by decide⟩,_,_,rfl,rfl,⟨by decide,by decide,by decide⟩,_,_,rfl,rfl,_,_,rfl,rfl,(by show (0:Int) < 10 ^ (60:Int).toNat - 20; decide),nx _ _ ⟨rfl,_,cM _ (by decide),rfl⟩⟩
    ·exact nx _ _ ⟨rfl,_,cM _ (by decide),rfl⟩
   rintro σ H3 ⟨rfl,z,hz0,rfl⟩
   refine afm (fun σ H4=>H4=H3∧∃ x:Int,0≤x∧σ = [some (.ref a),some (.int n),some (.ref l),some (.int (i:Nat)),some (.int c),some (.int x)])
    (fun (σ:L2.St) (_:Hp)=>match σ[5]? with | some (some (V.int x))=>above xs x | _=>0) ⟨rfl,_,hz0,rfl⟩ ?_ ?_
   ·rintro σ H4 ⟨rfl,x,hx0,rfl⟩
    refine⟨_,rfl,_,rfl,l,_,rfl,.inl (ck.of hx),rfl,vB xs,_,rfl,?_⟩
    dsimp only
    rw[if_neg aN,vP]
    refine mY (fun c=>?_) (fun c=>?_)
    ·have hm:x∈xs:=of_decide_eq_true c
     exact⟨_,rfl,_,_,rfl,rfl,⟨rfl,x + 1,by omega,rfl⟩,afU hm⟩
    ·have hm:x ∉ xs:=fun z=>c (decide_eq_true z)
     refine⟨_,rfl,.inl ⟨rfl,_,ck.of hx⟩,_,rfl,l,_,_,rfl,rfl,hx,?_,?_⟩
     ·rw[af]; exact cS (by omega)
     ·refine⟨s2.out hl,xs++[x],_,_,_,rfl,?_,?_,Gr.Bv nd hm,?_⟩
      ·rw[aF,aO]; rfl
      ·simp[ei]
      ·intro y hy
       rcases cy.mp hy with z | z
       ·exact nn y z
       ·have:y=x:=by simpa using z
        rw[this]; exact hx0
   ·rintro σ H4 Q1 Q2 hq ⟨v,e1,u,e2,q,ys,e3,e4,e5,e6,b,e7,e8⟩
    exact⟨v,e1,u,e2,q,ys,e3,e4,e5,e6,b,e7,hq _ _ e8⟩
  ·rintro σ H2 ⟨s2,xs,v3,v4,v5,rfl,hx,ei,nd,nn⟩
   refine⟨_,rfl,a,cs,1,rfl,s2.seq hS,by decide,_,_,rfl,rfl,⟨by decide,by decide⟩,_,_,rfl,rfl,(by show (0:Int) < 2; decide),rfl,_,rfl,mY (fun e=>?_) (fun e=>?_)⟩
   ·refine⟨_,rfl,_,rfl,_,rfl,l,_,rfl,rfl,ck.of hx,fun l2 hl2=>?_⟩
    rw[← List.map_reverse]
    exact k l2 _ xs.reverse (s2.trans (aL.new hl2)) (s2.free hl2) aF (by rw[List.length_reverse]; omega) ((List.reverse_perm xs).nodup_iff.mpr nd) fun x hx=>nn x (List.mem_reverse.mp hx)
   ·exact⟨_,rfl,k l H2 xs s2 hl hx (by omega) nd nn⟩
end
end jG
set_option maxHeartbeats 4000000
namespace jG
open PySem L2 TW PyProof.Rows
open RM (fq rF bV bR)
seal L2.PE L2.PA L2.PT L2.PW L2.PS L2.oS L2.PG L2.uS L2.PI L2.uV
section
variable{P:Program}{w:World}{K:ah}{mg:Str→Option Value}{base:Heap}
theorem aiV{x:Int}{g:Nat}(h1:1≤x)(h7:x≤7)(hg:g < 3):1≤Builtin.bitOr x (1 * 2 ^ ((g:Int)).toNat)∧Builtin.bitOr x (1 * 2 ^ ((g:Int)).toNat)≤7:=by
 have hx:x=1∨x=2∨x=3∨x=4∨x=5∨x=6∨x=7:=by omega
 have hg':g=0∨g=1∨g=2:=by omega
 rcases hg' with rfl | rfl | rfl <;> rcases hx with rfl | rfl | rfl | rfl | rfl | rfl | rfl <;> decide +kernel
noncomputable def aj3(K:ah)(H:Hp)(l:Addr)(rs:List R5):Prop:=∃ qs:List Addr,H l=some (.lst (qs.map V.ref))∧cZ K H qs (rs.map R5.vs)
theorem cZ.snoc{K:ah}{H:Hp}{qs:List Addr}{xs:List (List V)}{q:Addr}{x:List V}(h:cZ K H qs xs)(hq:dP K H q x):cZ K H (qs++[q]) (xs++[x]):=by
 refine⟨by rw[aH,aH,h.len]; rfl,fun i a u ha hu=>?_⟩
 by_cases z:i < qs.length
 ·rw[cH z] at ha
  rw[cH (h.len ▸ z)] at hu
  exact h.at' i a u ha hu
 ·have e:i=qs.length:=by
   have:=(aj.mp ha).1
   rw[aH] at this
   have:i < qs.length + 1:=this
   omega
  subst e
  rw[List.getElem?_concat_length] at ha
  rw[h.len,List.getElem?_concat_length] at hu
  cases ha
  cases hu
  exact hq
noncomputable def aeO(K:ah):Sp:=fun vs H Q _=>∃ (a:Addr) (cs:List Int) (n g:Nat),vs = [.ref a,.int n,.int g]∧ck K H a (cs.map V.int)∧1≤n∧n≤10∧g < 3 ∧
 ∀ l H' (rs:List R5),aL H H'→H l=none→aj3 K H' l rs→rs.length≤14→(∀ r∈rs,r.Ok n)→Q (.ref l) H'
theorem acU{t:Ad}(T:Txt K mg t):cW P w K mg base lH 2 t.oM t.MW ["_law_script","_law_size","_law_group"]  (aeO K):=by
 refine T.AE.ok eK (fun vs H Q E h=>?_) (fun cdv A outer s H vs Q E hr h=>?_)
 ·obtain⟨_,_,_,_,rfl,_⟩:=h; rfl
 ·obtain⟨a,cs,n,g,rfl,hS,hn1,hn,hg,k⟩:=h
  refine⟨_,(av (bE (i:=3) eK.nd rfl (be rfl) (lO az))
   (av (bE (i:=4) eK.nd rfl (be rfl) aJ)
   (av (cU (bw ac8 (pv 1) aJ (bT _)) (aI (bE (i:=4) eK.nd rfl (be rfl) (bB gz (bB IZ (pv 1) aJ) (bB fc (bB iw (cK (g8 T) (hr.mono (by decide)) rfl T.iW T.eO.kp T.iV .nil bx (aG (pv 0) (aG aJ az))) aJ) aJ)))) bD)
   (av (jW PassesOwn.never rfl (iX rfl T.lA (aG (pv 4) az)) (bO (i:=5) eK.nd rfl (be rfl)) (av (bE (i:=6) eK.nd rfl (be rfl) (cK (g8 T) (hr.mono (by decide)) rfl T.iW T.eO.kp T.iV .nil bx (aG (pv 0) (aG (bB gz aJ (pv 5)) az))))
   (av (bE (i:=7) eK.nd rfl (be rfl) (bB fc (bB iw (pv 6) aJ) (pv 1)))
   (av (bE (i:=8) eK.nd rfl (be rfl) (bB fc (bB gz (bB gz (pv 7) aJ) (bB fc (bB iw (pv 6) aJ) (bB IZ (pv 1) aJ))) (pv 1)))
   (av (cU (bw se (pv 5) (bB IZ (pv 1) aJ) (bT _)) (av (bE (i:=7) eK.nd rfl (be rfl) (bB gz (pv 5) aJ))
   (aI (bE (i:=8) eK.nd rfl (be rfl) (bB fc (bB iw (pv 6) aJ) (bB gz (pv 5) aJ))))) bD)
   (av (bE (i:=9) eK.nd rfl (be rfl) (bB iw (pv 6) aJ))
   (av (bE (i:=10) eK.nd rfl (be rfl) (bB gz aJ (bB fc (pv 9) aJ)))
   (av (cU (bw vM (bB fc (bB iw (pv 9) aJ) aJ) aJ (bT _)) (aI (bE (i:=10) eK.nd rfl (be rfl) (bB gz aJ (bB fc (bB iw (pv 9) aJ) (bB IZ (bB afp aJ aJ) aJ))))) bD)
   (av (bE (i:=11) eK.nd rfl (be rfl) (bB gz aJ (bB fc (bB iw (pv 9) aJ) aJ)))
   (av (cU (bw ac8 (bB fc (bB iw (pv 9) aJ) aJ) aJ (bT _)) (aI (bE (i:=11) eK.nd rfl (be rfl) (bB anF (pv 11) (bB akL aJ (pv 2))))) bD)
   (av (cU (bw vM (bB fc (pv 6) aJ) aJ (bT _)) (aI (akG (i:=7) (j:=8) rfl eK.nd rfl rfl (by decide) rfl rfl (aG (pv 8) (aG (pv 7) az)) rfl)) bD)
   (aI (cJ (o6 aY bg bf er (pv 3) (aG (ia (aG (pv 7) (aG (pv 8) (aG (pv 10) (aG (bB gz aJ (bB fc (bB iw (pv 9) aJ) aJ)) (aG (pv 11) az)))))) az)))))))))))))))
   (aI (bH (pv 3))))))),?_⟩
  try dsimp only[bN]
  refine⟨bJ _,fun l hl=>?_⟩
  have s0:=aL.new (o:=.lst []) hl
  have hl0:=aF (H:=H) (a:=l) (o:=.lst [])
  generalize upd H l (.lst [])=H0 at s0 hl0
  dsimp only[k8]
  refine fR fun N hN=>?_
  refine hN [some (.ref a),some (.int n),some (.int g),some (.ref l),some (.int 0),none,none,none,none,none,none,none] H0 ?_
  refine MC (fun σ H1=>H1=H0∧∃ m:Nat,m≤14∧(0 < m→2≤n)∧σ = [some (.ref a),some (.int n),some (.int g),some (.ref l),some (.int (m:Nat)),none,none,none,none,none,none,none]) ?_ fun nx=>?_
  case refine_2 =>
   refine⟨_,rfl,_,_,rfl,rfl,_,rfl,mY (fun e=>?_) (fun e=>?_)⟩
   ·have h2:(1:Int) < n:=of_decide_eq_true e
    refine⟨_,rfl,_,_,rfl,rfl,_,rfl,a,cs,1,rfl,s0.seq hS,by decide,_,_,rfl,rfl,⟨by decide,by decide⟩,_,_,rfl,rfl,(by show (0:Int) < 6; decide),_,_,rfl,rfl,nx _ _ ?_⟩
    generalize cs.getD _ 0 / 3=y
    have q1:=cM y (show (6:Int)≠0 by decide)
    have q2:=cR y (show (0:Int) < 6 by decide)
    refine⟨rfl,((n:Int) - 1 + y % 6).toNat,by omega,fun _=>by omega,?_⟩
    rw[Int.toNat_of_nonneg (by omega)]
    rfl
   ·exact nx _ _ ⟨rfl,0,by omega,fun z=>absurd z (by decide),rfl⟩
  rintro σ H1 ⟨rfl,m,hm,h2,rfl⟩
  refine⟨_,rfl,(m:Int),rfl,by omega,by omega,?_⟩
  refine vz (n:=((m:Int)).toNat) (fun i σ H2=>aL H H2∧∃ (rs:List R5) (v5 v6 v7 v8 v9 v10 v11:Option V),σ = [some (.ref a),some (.int n),some (.int g),some (.ref l),some (.int (m:Nat)),v5,v6,v7,v8,v9,v10,v11]∧aj3 K H2 l rs∧rs.length=i∧∀ r∈rs,r.Ok n)
   ⟨s0,[],_,_,_,_,_,_,_,rfl,⟨[],hl0,⟨rfl,fun i q x e=>by cases e⟩⟩,rfl,fun r hr'=>absurd hr' (by simp)⟩ ?_ ?_
  ·rintro i σ H2 hi ⟨s2,rs,v5,v6,v7,v8,v9,v10,v11,rfl,⟨qs,hl2,Aq⟩,ei,ok⟩
   rw[i6]
   have hi':i < m:=by simpa using hi
   have h2:2≤n:=h2 (by omega)
   refine⟨_,rfl,_,rfl,_,_,rfl,rfl,a,cs,_,rfl,s2.seq hS,by omega,?_⟩
   dsimp only[k8]
   generalize cs.getD _ 0=c
   obtain⟨o1,o2,o3,o4,o5⟩:=ain (n:=n) (x:=c / 2) (y:=c / 13) (by omega)
   refine⟨_,rfl,_,_,rfl,rfl,⟨by decide,by decide⟩,_,rfl,_,_,rfl,rfl,(by show (0:Int) < n; omega),?_⟩
   refine⟨_,rfl,_,_,rfl,rfl,_,rfl,_,_,rfl,rfl,⟨by decide,by decide⟩,_,rfl,_,_,rfl,rfl,_,_,rfl,rfl,(by show 0 < (n:Int) - 1; omega),_,_,rfl,rfl,_,rfl,_,_,rfl,rfl,(by show (0:Int) < n; omega),?_⟩
   dsimp only[k8]
   refine MC (fun σ H3=>H3=H2∧∃ x y:Int,(0≤x∧x < n∧0≤y∧y < n∧x≠y)∧σ = [some (.ref a),some (.int n),some (.int g),some (.ref l),some (.int (m:Nat)),some (.int (i:Nat)),some (.int c),some (.int x),some (.int y),v9,v10,v11]) ?_ fun nx=>?_
   case refine_2 =>
    refine⟨_,rfl,_,rfl,_,_,rfl,rfl,_,_,rfl,rfl,_,rfl,mY (fun e=>?_) (fun e=>?_)⟩
    ·have e:(i:Int) < (n:Int) - 1:=of_decide_eq_true e
     refine⟨_,rfl,_,_,rfl,rfl,?_⟩
     refine⟨_,rfl,_,_,rfl,rfl,⟨by decide,by decide⟩,_,rfl,_,_,rfl,rfl,_,_,rfl,rfl,(by show (0:Int) < (i:Int) + 1; omega),nx _ _ ⟨rfl,(i:Int) + 1,c / 2 % ((i:Int) + 1),?_,rfl⟩⟩
     have q1:=cM (c / 2) (show (i:Int) + 1≠0 by omega)
     have q2:=cR (c / 2) (show (0:Int) < (i:Int) + 1 by omega)
     omega
    ·exact nx _ _ ⟨rfl,_,_,⟨o1,o2,o3,o4,o5⟩,rfl⟩
   clear o1 o2 o3 o4 o5
   rintro σ H3 ⟨rfl,x,y,⟨x0,xn,y0,yn,xy⟩,rfl⟩
   refine⟨_,rfl,_,_,rfl,rfl,⟨by decide,by decide⟩,?_⟩
   dsimp only[k8]
   generalize c / 97=rt
   refine⟨_,rfl,_,_,rfl,rfl,(by show (0:Int) < 3; decide),_,_,rfl,rfl,?_⟩
   dsimp only[k8]
   refine MC (fun σ H4=>H4=H3∧∃ z:Int,1≤z∧σ = [some (.ref a),some (.int n),some (.int g),some (.ref l),some (.int (m:Nat)),some (.int (i:Nat)),some (.int c),some (.int x),some (.int y),some (.int rt),some (.int z),v11]) ?_ fun nx=>?_
   case refine_2 =>
    refine⟨_,rfl,_,_,rfl,rfl,⟨by decide,by decide⟩,_,_,rfl,rfl,(by show (0:Int) < 3; decide),rfl,_,rfl,mY (fun e=>?_) (fun e=>?_)⟩
    ·refine⟨_,rfl,_,_,rfl,rfl,⟨by decide,by decide⟩,_,_,rfl,rfl,⟨by decide,by decide,by decide⟩,_,_,rfl,rfl,_,_,rfl,rfl,(by show (0:Int) < 10 ^ (60:Int).toNat - 1; decide),_,_,rfl,rfl,nx _ _ ⟨rfl,_,?_,rfl⟩⟩
     have:=cM (rt / 9) (show (10:Int) ^ (60:Int).toNat - 1≠0 by decide)
     omega
    ·refine nx _ _ ⟨rfl,_,?_,rfl⟩
     have:=cM rt (show (3:Int)≠0 by decide)
     omega
   rintro σ H4 ⟨rfl,z,hz,rfl⟩
   refine⟨_,rfl,_,_,rfl,rfl,⟨by decide,by decide⟩,_,_,rfl,rfl,(by show (0:Int) < 7; decide),_,_,rfl,rfl,?_⟩
   dsimp only[k8]
   refine MC (fun σ H5=>H5=H4∧∃ e:Int,1≤e∧e≤7∧σ = [some (.ref a),some (.int n),some (.int g),some (.ref l),some (.int (m:Nat)),some (.int (i:Nat)),some (.int c),some (.int x),some (.int y),some (.int rt),some (.int z),some (.int e)]) ?_ fun nx=>?_
   case refine_2 =>
    have q1:=cM (rt / 11) (show (7:Int)≠0 by decide)
    have q2:=cR (rt / 11) (show (0:Int) < 7 by decide)
    refine⟨_,rfl,_,_,rfl,rfl,⟨by decide,by decide⟩,_,_,rfl,rfl,(by show (0:Int) < 4; decide),_,_,rfl,rfl,_,rfl,mY (fun e=>?_) (fun e=>?_)⟩
    ·have b:=aiV (x:=1 + rt / 11 % 7) (by omega) (by omega) hg
     exact⟨_,rfl,_,rfl,_,_,rfl,rfl,⟨by omega,by omega,by decide⟩,_,_,rfl,rfl,nx _ _ ⟨rfl,_,b.1,b.2,rfl⟩⟩
    ·exact nx _ _ ⟨rfl,_,by omega,by omega,rfl⟩
   rintro σ H5 ⟨rfl,le,le1,le7,rfl⟩
   refine MC (fun σ H6=>aL H5 H6∧∃ x y:Int,(0≤x∧x < n∧0≤y∧y < n∧x≠y)∧σ = [some (.ref a),some (.int n),some (.int g),some (.ref l),some (.int (m:Nat)),some (.int (i:Nat)),some (.int c),some (.int x),some (.int y),some (.int rt),some (.int z),some (.int le)]) ?_ fun nx=>?_
   case refine_2 =>
    refine⟨_,rfl,_,_,rfl,rfl,(by show (0:Int) < 2; decide),rfl,_,rfl,mY (fun e=>?_) (fun e=>?_)⟩
    ·exact⟨_,rfl,_,rfl,_,_,rfl,nx _ _ ⟨aL.refl _,y,x,⟨y0,yn,x0,xn,bW xy⟩,rfl⟩⟩
    ·exact nx _ _ ⟨aL.refl _,x,y,⟨x0,xn,y0,yn,xy⟩,rfl⟩
   clear x0 xn y0 yn xy x y
   rintro σ H6 ⟨s6,x,y,⟨x0,xn,y0,yn,xy⟩,rfl⟩
   have hl6:=s6 _ _ hl2
   refine⟨_,rfl,.inl ⟨rfl,_,ck.of hl6⟩,_,rfl,_,rfl,_,rfl,_,rfl,_,_,rfl,rfl,⟨by decide,by decide⟩,_,_,rfl,rfl,(by show (0:Int) < 4; decide),_,_,rfl,rfl,_,rfl,(by show 5≤sizeLine; decide),fun q hq=>?_⟩
   have u7:=aL.new (o:=.tup [V.int x,.int y,.int z,.int (1 + rt / 5 % 4),.int le]) hq
   have h77:=aF (H:=H6) (a:=q) (o:=.tup [V.int x,.int y,.int z,.int (1 + rt / 5 % 4),.int le])
   generalize upd H6 q (.tup [V.int x,.int y,.int z,.int (1 + rt / 5 % 4),.int le])=H7 at u7 h77
   have s67:=s6.trans u7
   have hl7:=s67 _ _ hl2
   have arF:=Aq.mono fun b x=>s67.dB
   have q1:=cM (rt / 5) (show (4:Int)≠0 by decide)
   have q2:=cR (rt / 5) (show (0:Int) < 4 by decide)
   refine⟨l,_,_,rfl,rfl,hl7,(by rw[af,Aq.len,af]; exact cS (by omega)),?_⟩
   refine⟨(s2.trans s67).out hl,rs++[⟨x,y,z,1 + rt / 5 % 4,le⟩],_,_,_,_,_,_,_,rfl,⟨qs++[q],?_,?_⟩,by rw[aH,ei]; rfl,fun r hr'=>?_⟩
   ·rw[aF,aO]; rfl
   ·rw[aO]
    exact (cZ.snoc arF (dP.of h77)).mono fun b x=>dP.past hl7 nM cj
   ·rcases cy.mp hr' with w' | w'
    ·exact ok r w'
    ·rw[bX.mp w']
     exact⟨x0,xn,y0,yn,xy,hz,by show 1≤1 + rt / 5 % 4; omega,by show 1 + rt / 5 % 4≤4; omega,le1,le7⟩
  ·rintro σ H2 ⟨s2,rs,v5,v6,v7,v8,v9,v10,v11,rfl,hR,ei,ok⟩
   exact⟨_,rfl,k l H2 rs s2 hl hR (by rw[ei]; simpa using hm) ok⟩
theorem Ww{K:ah}{H:Hp}{l q:Addr}{qs:List Addr}{cl:List (Nat × Nat)}{pl gr:Nat}(hl:H l=some (.lst (qs.map V.ref)))(Aq:cZ K H qs (cl.map fun c=>[.int c.1,.int c.2]))(hq:H q=some (.tup [V.int pl,.int gr])) :
 (upd H l (.lst (qs.map V.ref++[.ref q]))) l=some (.lst ((qs++[q]).map V.ref))∧cZ K (upd H l (.lst (qs.map V.ref++[.ref q]))) (qs++[q]) ((cl++[(pl,gr)]).map fun c=>[.int c.1,.int c.2]):=by
 refine⟨by rw[aF,aO]; rfl,?_⟩
 rw[aO]
 exact (cZ.snoc Aq (dP.of hq)).mono fun b x=>dP.past hl nM cj
noncomputable def aaM(K:ah):Sp:=fun vs H Q _=>∃ (a:Addr) (cs:List Int) (n g:Nat),vs = [.ref a,.int n,.int g]∧ck K H a (cs.map V.int)∧1≤n∧n≤10∧g < 3 ∧
 ∀ l (qs:List Addr) H' (cl:List (Nat × Nat)),aL H H'→H l=none→H' l=some (.lst (qs.map V.ref))→cZ K H' qs (cl.map fun c=>[.int c.1,.int c.2])→1≤cl.length→cl.length≤20→(∀ c∈cl,c.1 < n∧c.2 < 3)→Q (.ref l) H'
theorem YR{t:Ad}(T:Txt K mg t):cW P w K mg base lH 2 t.jU t.EK ["_law_script","_law_size","_law_group"]  (aaM K):=by
 refine T.sr.ok mC (fun vs H Q E h=>?_) (fun cdv A outer s H vs Q E hr h=>?_)
 ·obtain⟨_,_,_,_,rfl,_⟩:=h; rfl
 ·obtain⟨a,cs,n,g,rfl,hS,hn1,hn,hg,k⟩:=h
  refine⟨_,(av (bE (i:=3) mC.nd rfl (be rfl) (lO az))
   (av (bE (i:=4) mC.nd rfl (be rfl) (bM cD (lO (aG aJ (aG aJ (aG aJ az)))) (bB fc (bB iw (cK (g8 T) (hr.mono (by decide)) rfl T.iW T.eO.kp T.iV .nil bx (aG (pv 0) (aG aJ az))) aJ) aJ) (fun _ _=>rfl)))
   (av (jW PassesOwn.never rfl (iX rfl T.lA (aG (bB gz aJ (bB fc (bB iw (cK (g8 T) (hr.mono (by decide)) rfl T.iW T.eO.kp T.iV .nil bx (aG (pv 0) (aG aJ az))) aJ) (pv 4))) az)) (bO (i:=5) mC.nd rfl (be rfl)) (av (bE (i:=6) mC.nd rfl (be rfl) (bB iw (cK (g8 T) (hr.mono (by decide)) rfl T.iW T.eO.kp T.iV .nil bx (aG (pv 0) (aG (bB gz aJ (bB fc (pv 5) aJ)) az))) (bB gz aJ (bB afo aJ (bB iw (pv 5) aJ)))))
   (av (bE (i:=7) mC.nd rfl (be rfl) (bB fc (pv 6) (pv 1)))
   (aI (cU (bw vM (bB fc (bB iw (pv 6) aJ) aJ) aJ (bT _)) (aI (cJ (o6 aY bg bf er (pv 3) (aG (ia (aG (pv 7) (aG (bB fc (bB gz (bB gz (pv 2) aJ) (bB fc (bB iw (pv 6) aJ) aJ)) aJ) az))) az)))) (aI (cJ (o6 aY bg bf er (pv 3) (aG (ia (aG (pv 7) (aG (pv 2) az))) az)))))))))
   (aI (bH (pv 3)))))),?_⟩
  try dsimp only[bN]
  refine⟨bJ _,fun l hl=>?_⟩
  have s0:=aL.new (o:=.lst []) hl
  have hl0:=aF (H:=H) (a:=l) (o:=.lst [])
  generalize upd H l (.lst [])=H0 at s0 hl0
  refine⟨(by show 3≤sizeLine; decide),fun l1 h1=>?_⟩
  have u1:=aL.new (o:=.lst [V.int 6,V.int 6,V.int 20]) h1
  have h11:=aF (H:=H0) (a:=l1) (o:=.lst [V.int 6,V.int 6,V.int 20])
  have hl1:=u1 _ _ hl0
  have s1:=s0.trans u1
  generalize upd H0 l1 (.lst [V.int 6,V.int 6,V.int 20])=H1 at u1 h11 hl1 s1
  refine⟨_,rfl,a,cs,1,rfl,s1.seq hS,by decide,_,_,rfl,rfl,⟨by decide,by decide⟩,_,_,rfl,rfl,(by show (0:Int) < 3; decide),?_⟩
  obtain⟨mo,hmo,emo⟩:=ark (x:=6) (y:=6) (z:=20) (i:=cs.getD (1:Int).toNat 0 / 7 % 3) 1 20 (by decide) (by decide) (by decide) (cM _ (by decide)) (cR _ (by decide))
  refine⟨l1,_,_,_,rfl,rfl,ck.of h11,emo,?_⟩
  dsimp only[k8]
  refine⟨_,rfl,a,cs,1,rfl,s1.seq hS,by decide,_,_,rfl,rfl,⟨by decide,by decide⟩,_,rfl,_,_,rfl,rfl,(by show 0 < mo; omega),_,_,rfl,rfl,?_⟩
  have q1:=cM (cs.getD (1:Int).toNat 0 / 36) (show mo≠0 by omega)
  have q2:=cR (cs.getD (1:Int).toNat 0 / 36) (show 0 < mo by omega)
  obtain⟨m,em⟩ : ∃ m:Nat,1 + cs.getD (1:Int).toNat 0 / 36 % mo=(m:Int):=⟨(1 + cs.getD (1:Int).toNat 0 / 36 % mo).toNat,by omega⟩
  have hm1:1≤m:=by omega
  have avT:m≤20:=by omega
  refine⟨(m:Int),(by rw[← em]),by omega,by omega,?_⟩
  refine vz (n:=m) (fun i σ H2=>aL H H2∧∃ (qs:List Addr) (cl:List (Nat × Nat)) (v5 v6 v7:Option V),σ = [some (.ref a),some (.int n),some (.int g),some (.ref l),some (.int mo),v5,v6,v7]∧H2 l=some (.lst (qs.map V.ref))∧cZ K H2 qs (cl.map fun c=>[.int c.1,.int c.2])∧cl.length=i∧∀ c∈cl,c.1 < n∧c.2 < 3)
   ⟨s1,[],[],_,_,_,rfl,hl1,⟨rfl,fun i q x e=>by cases e⟩,rfl,fun c hc=>absurd hc (by simp)⟩ ?_ ?_
  ·rintro i σ H2 hi ⟨s2,qs,cl,v5,v6,v7,rfl,hl2,Aq,ei,ok⟩
   rw[i6]
   have e6:=cM (i:Int) (show (6:Int)≠0 by decide)
   have d6:0≤(i:Int) / 6:=Int.ediv_nonneg (by omega) (by decide)
   have d6':(i:Int) / 6≤20:=by omega
   refine⟨_,rfl,_,rfl,_,_,rfl,rfl,(by show (0:Int) < 6; decide),_,_,rfl,rfl,a,cs,_,rfl,s2.seq hS,by omega,_,rfl,_,_,rfl,rfl,⟨by decide,by decide⟩,_,_,rfl,rfl,.inl ⟨by decide,by decide⟩,_,_,rfl,rfl,_,_,rfl,rfl,⟨by omega,by omega⟩,?_⟩
   dsimp only[k8]
   generalize cs.getD _ 0 / (1 + 7 * ((i:Int) / 6))=c
   refine⟨_,rfl,_,rfl,_,_,rfl,rfl,(by show (0:Int) < n; omega),?_⟩
   dsimp only[k8]
   have p1:=cM c (show (n:Int)≠0 by omega)
   have p2:=cR c (show (0:Int) < n by omega)
   obtain⟨pl,epl⟩ : ∃ pl:Nat,c % (n:Int)=(pl:Int):=⟨(c % (n:Int)).toNat,by omega⟩
   rw[epl]
   have hpl:pl < n:=by omega
   refine⟨_,rfl,_,_,rfl,rfl,⟨by decide,by decide⟩,_,_,rfl,rfl,(by show (0:Int) < 4; decide),rfl,_,rfl,mY (fun e=>?_) (fun e=>?_)⟩
   ·have g1:=cM ((g:Int) + 1 + c / 44 % 2) (show (3:Int)≠0 by decide)
    have g2:=cR ((g:Int) + 1 + c / 44 % 2) (show (0:Int) < 3 by decide)
    obtain⟨gr,egr⟩ : ∃ gr:Nat,((g:Int) + 1 + c / 44 % 2) % 3=(gr:Int):=⟨(((g:Int) + 1 + c / 44 % 2) % 3).toNat,by omega⟩
    refine⟨_,rfl,.inl ⟨rfl,_,ck.of hl2⟩,_,rfl,_,rfl,_,_,rfl,rfl,_,rfl,_,_,rfl,rfl,⟨by decide,by decide⟩,_,_,rfl,rfl,(by show (0:Int) < 2; decide),_,_,rfl,rfl,_,_,rfl,rfl,(by show (0:Int) < 3; decide),(by show 2≤sizeLine; decide),fun q hq=>?_⟩
    have u3:=aL.new (o:=.tup [V.int pl,.int (((g:Int) + 1 + c / 44 % 2) % 3)]) hq
    have h33:=aF (H:=H2) (a:=q) (o:=.tup [V.int pl,.int (((g:Int) + 1 + c / 44 % 2) % 3)])
    generalize upd H2 q (.tup [V.int pl,.int (((g:Int) + 1 + c / 44 % 2) % 3)])=H3 at u3 h33
    rw[egr] at h33
    have hl3:=u3 _ _ hl2
    obtain⟨p1,p2⟩:=Ww (cl:=cl) hl3 (Aq.mono fun b x=>u3.dB) h33
    refine⟨l,_,_,rfl,rfl,hl3,(by rw[af,Aq.len,af]; exact cS (by omega)),(s2.trans u3).out hl,_,_,_,_,_,rfl,p1,p2,by rw[aH,ei]; rfl,fun z hz=>?_⟩
    rcases cy.mp hz with w' | w'
    ·exact ok z w'
    ·rw[bX.mp w']
     exact⟨hpl,by show gr < 3; omega⟩
   ·refine⟨_,rfl,.inl ⟨rfl,_,ck.of hl2⟩,_,rfl,_,rfl,(by show 2≤sizeLine; decide),fun q hq=>?_⟩
    have u3:=aL.new (o:=.tup [V.int pl,.int g]) hq
    have h33:=aF (H:=H2) (a:=q) (o:=.tup [V.int pl,.int g])
    generalize upd H2 q (.tup [V.int pl,.int g])=H3 at u3 h33
    have hl3:=u3 _ _ hl2
    obtain⟨p1,p2⟩:=Ww (cl:=cl) hl3 (Aq.mono fun b x=>u3.dB) h33
    refine⟨l,_,_,rfl,rfl,hl3,(by rw[af,Aq.len,af]; exact cS (by omega)),(s2.trans u3).out hl,_,_,_,_,_,rfl,p1,p2,by rw[aH,ei]; rfl,fun z hz=>?_⟩
    rcases cy.mp hz with w' | w'
    ·exact ok z w'
    ·rw[bX.mp w']
     exact⟨hpl,hg⟩
  ·rintro σ H2 ⟨s2,qs,cl,v5,v6,v7,rfl,hl2,Aq,ei,ok⟩
   exact⟨_,rfl,k l qs H2 cl s2 hl hl2 Aq (by omega) (by omega) ok⟩
end
end jG
set_option maxHeartbeats 4000000
namespace jG
open PySem L2 TW PyProof.Rows
open RM (fq rF bV bR)
seal L2.PE L2.PA L2.PT L2.PW L2.PS L2.oS L2.PG L2.uS L2.PI L2.uV
section
variable{P:Program}{w:World}{K:ah}{mg:Str→Option Value}{base:Heap}
noncomputable def acV(K:ah)(CT C:Addr):Sp:=fun vs H Q _=>∃ (p dx tp ln lr:Addr) (ns:List Int) (rs:List R5),vs = [.ref p,.ref tp]∧H p=some (.ins C dx [])∧dR K CT H tp ln lr ns rs∧rs.length≤20∧(∀ r∈rs,1≤r.d∧r.d≤4) ∧
 ∀ lu (ls:List Addr) H',H lu=none→(∀ l∈ls,H l=none)→lu ∉ ls→ls.Nodup→ls.length=rs.length→H' p=some (.ins C dx [("town",.ref tp),("upright",.ref lu)])→H' lu=some (.lst (ls.map V.ref)) →
  (∀ (j:Nat) l r,ls[j]?=some l→rs[j]?=some r→H' l=some (.lst (bS (aB r.d.toNat))))→(∀ b o,H b=some o→b≠p→H' b=some o)→Q .iu H'
theorem Ma{t:Ad}(T:Txt K mg t):cW P w K mg base lH 3 t.eB t.qy ["self","town"]  (acV K t.bG t.dU):=by
 refine T.mE.ok K5 (fun vs H Q E h=>?_) (fun cdv A outer s H vs Q E hr h=>?_)
 ·obtain⟨_,_,_,_,_,_,_,rfl,_⟩:=h; rfl
 ·obtain⟨p,dx,tp,ln,lr,ns,rs,rfl,hp,hT,D3,hw,k⟩:=h
  refine⟨_,(av (iB (pv 0) (pv 1) rfl)
   (aI (iB (pv 0) (jI (dS (Q9:=ai dG) (N0:=["self","town"]) (N2:=["rope","town"]) (cap:=[none,some 1]) rfl rfl (by decide +kernel)) rfl (iX rfl T.lA (aG (bu (pv 1) rfl) az)) (fun _ _ _ _=>by exact (bO (i:=0) Ey rfl (be rfl))) (fun _ _ _ _=>by exact pe) (fun _ _ _ _=>by exact (iy (abF rfl) (by rfl) T.wC boot_list (aG (iy Zo (by rfl) T.lA boot_range (aG (cK (aaK T) (hr.mono (by decide)) rfl T.ab0 T.wm.kp T.abZ .nil bx (aG (pv 1) (aG (pv 0) az))) az)) az)))) rfl))),?_⟩
  try dsimp only[bN]
  obtain⟨⟨dt,htp⟩,_⟩:=id hT
  have ntp:tp≠p:=C8 htp hp fun z=>by have:=(HO.ins.inj z).2.2; cases this
  refine⟨_,rfl,_,rfl,p,_,dx,[],rfl,hp,T.kW,T.pR,by decide,?_⟩
  rw[eG (names:=[]) rfl rfl]
  generalize eH1:upd H p (.ins t.dU dx ([]++[(Str.ofString "town",V.ref tp)]))=H1
  have k1:∀ b o,H b=some o→b≠p→H1 b=some o:=fun b o e nb=>by rw[← eH1,aP nb]; exact e
  have hp1:H1 p=some (.ins t.dU dx [(Str.ofString "town",V.ref tp)]):=by rw[← eH1]; exact aF
  have hT1:=hT.but k1 hp ntp
  have f1:∀ {l:Addr},H1 l=none→H l=none:=fun {l} e=>by
   cases q:H l with
   | none=>rfl
   | some o =>
    by_cases z:l=p
    ·rw[z,hp1] at e; cases e
    ·have:=k1 _ _ q z
     rw[e] at this; cases this
  obtain⟨⟨dt,arG⟩,_⟩:=id hT1
  refine⟨_,rfl,tp,_,dt,_,_,rfl,arG,T.gB,T.ym,rfl,_,rfl,(by show -(2 ^ 62)≤((rs.length:Nat):Int); omega),(by show ((rs.length:Nat):Int) < 2 ^ 62; omega),fun acc hacc=>?_⟩
  refine jj (n:=(((rs.length:Nat):Int)).toNat) (fun i ys H2=>∃ ls:List Addr,ys=ls.map V.ref∧ls.length=i∧ls.Nodup∧(∀ l∈ls,H l=none∧H2 l≠none)∧∀ (j:Nat) l r,ls[j]?=some l→rs[j]?=some r→H2 l=some (.lst (bS (aB r.d.toNat)))∧l≠acc) hacc MA As ⟨[],rfl,rfl,r8,fun l hl=>(by cases hl),fun j l r e=>by simp at e⟩ ?_ ?_
  ·rintro i ys H2 hi s2 hy ⟨ls,rfl,el,nd,hfr,hls⟩ x H3 ⟨rfl,rfl⟩
   have hi:i < rs.length:=by simpa using hi
   have hir:rs[i]?=some rs[i]:=aa hi
   have wi:=hw _ (bz hir)
   obtain⟨d,ed⟩ : ∃ d:Nat,rs[i].d=(d:Int):=⟨rs[i].d.toNat,by omega⟩
   refine⟨_,rfl,_,rfl,tp,ln,lr,ns,rs,i,rs[i],(by show [V.ref tp,V.int (0 + (i:Int))]=_; rw[i6]),hT1.mono s2,hir,?_⟩
   refine⟨rs[i].d,rfl,fun q hq=>?_⟩
   have s3:=aL.new (o:=.rng 0 rs[i].d) hq
   refine⟨q,d,rfl,(by rw[aF,ed]),by omega,fun l hl=>?_⟩
   have hl0:H l=none:=f1 ((s2.trans s3).free hl)
   have nl:l ∉ ls:=fun z=>(hfr l z).2 (s3.free hl)
   have s4:=s3.trans (aL.new (o:=.lst ((aB d).map fun k=>V.int (k:Nat))) hl)
   have hy4:=s4 _ _ hy
   have hl4:(upd (upd H3 q (.rng 0 rs[i].d)) l (.lst ((aB d).map fun k=>V.int (k:Nat)))) l=some (.lst (bS (aB d))):=aF
   have nla:l≠acc:=(aR (s3 _ _ hy) hl).symm
   generalize upd (upd H3 q (.rng 0 rs[i].d)) l (.lst ((aB d).map fun k=>V.int (k:Nat)))=H4 at s4 hy4 hl4
   refine ic hacc (by simpa using hi) (s2.trans s4) hy4 (by rw[af,el]; exact cS (by omega)) ⟨ls++[l],by rw[aO]; rfl,by rw[aH,el]; rfl,Gr.Bv nd nl,fun l' hl'=>?_,fun j l' r e1 e2=>?_⟩
   ·rcases cy.mp hl' with z | z
    ·obtain⟨z1,z2⟩:=hfr l' z
     refine⟨z1,?_⟩
     by_cases q:l'=acc
     ·rw[q,aF]; exact bq _
     ·rw[aP q]
      cases e:H3 l' with
      | none=>exact absurd e z2
      | some o=>rw[s4 _ _ e]; exact bq _
    ·rw[bX.mp z]
     exact⟨hl0,by rw[aP nla,hl4]; exact bq _⟩
   ·rcases K0 e1 with e1 | ⟨rfl,rfl⟩
    ·obtain⟨z1,z2⟩:=hls j l' r e1 e2
     exact⟨by rw[aP z2]; exact s4 _ _ z1,z2⟩
    ·rw[el,hir] at e2
     cases e2
     rw[ed,iF]
     exact⟨by rw[aP nla]; exact hl4,nla⟩
  ·rintro ys H2 s2 hy ⟨ls,rfl,el,nd,hfr,hls⟩
   have el:ls.length=rs.length:=by simpa using el
   have npa:p≠acc:=aR hp1 hacc
   have hp2:=s2 _ _ hp1
   refine⟨_,rfl,p,_,dx,_,rfl,hp2,T.kW,T.pS,(by show 1 < 1000; decide),?_⟩
   rw[eG (names:=["town"]) rfl (by decide +kernel)]
   refine k acc ls _ (f1 hacc) (fun l hl=>(hfr l hl).1) (fun z=>?_) nd el aF (by rw[aP (bW npa)]; exact hy) (fun j l r e1 e2=>?_) fun b o e nb=>by rw[aP nb]; exact s2 _ _ (k1 _ _ e nb)
   ·obtain⟨j,hj⟩:=lG z
    have hjl:=(aj.mp hj).1
    exact (hls j acc _ hj (aa (el ▸ hjl))).2 rfl
   ·have z:=(hls j l r e1 e2).1
    rw[aP (C8 z hp2 (by intro z; cases z))]
    exact z
noncomputable def aaN(K:ah)(C:Addr):Sp:=fun vs H Q _=>∃ (tp ln lr:Addr) (ns:List Int) (rs:List R5),vs = [.ref tp]∧dR K C H tp ln lr ns rs∧ns.length≤12∧∀ l (qs:List Addr) H',aL H H'→H l=none→H' l=some (.lst (qs.map V.ref))→cZ K H' qs (i8 ns.length (DZ ns))→Q (.ref l) H'
theorem VT{t:Ad}(T:Txt K mg t):cW P w K mg base lH 3 t.jB t.BH ["town"]  (aaN K t.bG):=by
 refine T.pP.ok U4 (fun vs H Q E h=>?_) (fun cdv A outer s H vs Q E hr h=>?_)
 ·obtain⟨_,_,_,_,_,rfl,_⟩:=h; rfl
 ·obtain⟨tp,ln,lr,ns,rs,rfl,hT,h12,k⟩:=h
  refine⟨_,(aI (bH (jI (dS (Q9:=ai gU) (N0:=["town"]) (N2:=["house","town"]) (cap:=[none,some 0]) rfl rfl (by decide +kernel)) rfl (iX rfl T.lA (aG (bu (pv 0) rfl) az)) (fun _ _ _ _=>by exact (bO (i:=0) MP rfl (be rfl))) (fun _ _ _ _=>by exact pe) (fun _ _ _ _=>by exact (cK (Ux T) (hr.mono (by decide)) rfl T.Wp T.vE.kp T.Wo .nil bx (aG (pv 1) (aG (pv 0) az))))))),?_⟩
  try dsimp only[bN]
  obtain⟨⟨dt,htp⟩,_⟩:=id hT
  refine⟨_,rfl,tp,_,dt,_,_,rfl,htp,T.gB,T.oN,rfl,(ns.length:Int),rfl,by omega,by omega,fun acc hacc=>?_⟩
  refine jj (n:=((ns.length:Int)).toNat) (fun i ys H2=>∃ qs:List Addr,ys=qs.map V.ref∧cZ K H2 qs (i8 i (DZ ns))) hacc MA As ⟨[],rfl,⟨rfl,fun i q x e=>by cases e⟩⟩ ?_ ?_
  ·rintro i ys H2 hi s2 hy ⟨qs,rfl,Aq⟩ x H3 ⟨rfl,rfl⟩
   have hi:i < ns.length:=by simpa using hi
   rw[i6]
   refine⟨_,rfl,_,rfl,tp,ln,lr,ns,rs,i,ns[i],rfl,hT.mono s2,aa hi,fun q H4 s4 hq=>?_⟩
   have hy4:=s4 _ _ hy
   have hl:qs.length=i:=by rw[Aq.len]; simp[i8]
   refine ic hacc (by simpa using hi) (s2.trans s4) hy4 (by rw[af]; exact cS (by omega)) ⟨qs++[q],by rw[aO]; rfl,?_⟩
   have e:i8 (i + 1) (DZ ns)=i8 i (DZ ns)++[fq ⟨ns[i],0,0,-1⟩]:=by
    unfold i8
    rw[oV,aO,cG,List.map_nil]
    congr 3
    unfold DZ
    rw[aD,aa hi]
    rfl
   rw[e]
   exact (cZ.snoc (Aq.mono fun b x=>s4.dB) hq).mono fun b x=>dP.past hy4 nM cj
  ·rintro ys H2 s2 hy ⟨qs,rfl,Aq⟩
   rw[show ((ns.length:Int)).toNat=ns.length from rfl] at Aq
   exact k acc qs H2 s2 hacc hy Aq
noncomputable def UG(K:ah)(C:Addr):Sp:=fun vs H Q _=>∃ (tp ln lr lc:Addr) (ns:List Int) (rs:List R5) (qs:List Addr) (cl:List (Nat × Nat)),vs = [.ref tp,.ref lc]∧dR K C H tp ln lr ns rs∧ck K H lc (qs.map V.ref)∧cZ K H qs (cl.map fun c=>[.int c.1,.int c.2])∧cl.length≤20∧(∀ c∈cl,c.1 < ns.length∧c.2 < 3)∧Q .iu H
theorem OC{t:Ad}(T:Txt K mg t):cW P w K mg base lH 1 t.gq t.sQ ["town","callers"]  (UG K t.bG):=by
 refine T.kM.ok Az (fun vs H Q E h=>?_) (fun cdv A outer s H vs Q E hr h=>?_)
 ·obtain⟨_,_,_,_,_,_,_,_,rfl,_⟩:=h; rfl
 ·obtain⟨tp,ln,lr,lc,ns,rs,qs,cl,rfl,hT,hL,Aq,D3,hok,k⟩:=h
  refine⟨_,(av (cU (bw ac8 (cC bK (by rfl) T.jV bI (aG (pv 1) az)) (oY rfl T.Sk (v:=.int 20) ⟨_,rfl⟩) (bT _)) eT bD)
   (aI (jW PassesOwn.never rfl (gD (pv 1)) (bO (i:=2) Az.nd rfl (be rfl)) (av (cU (bw x6 (cC bK (by rfl) T.jV bI (aG (pv 2) az)) aJ (bT _)) eT bD)
   (av (cU (jM (lN ux se aJ (bM dQ (pv 2) aJ (fun _ _=>rfl)) (bu (pv 0) rfl))) eT bD)
   (aI (cU (jM (lN ux se aJ (bM dQ (pv 2) aJ (fun _ _=>rfl)) (cC bK (by rfl) T.jV bI (aG (oY rfl T.pV (v:=.ref t.gk) rfl) az)))) eT bD))))))),?_⟩
  try dsimp only[bN]
  obtain⟨⟨dt,htp⟩,_⟩:=id hT
  have eq:qs.length=cl.length:=by rw[Aq.len,af]
  refine⟨_,rfl,lc,_,rfl,.inl hL,_,_,rfl,rfl,_,rfl,Wj (decide_eq_false (by rw[af]; omega)) ?_⟩
  refine⟨_,rfl,lc,rfl,⟨_,hL⟩,r9 (K:=K) (a:=lc) (xs:=qs.map V.ref) (fun i σ H2=>H2=H∧∃ v2:Option V,σ = [some (.ref tp),some (.ref lc),v2]) ⟨rfl,_,rfl⟩ (fun i σ H2 _ z=>by rw[z.1]; exact hL) ?_ ?_⟩
  ·rintro i y σ H2 hi ⟨rfl,v2,rfl⟩
   have hil:=(aj.mp hi).1
   rw[af] at hil
   have hic:i < cl.length:=eq ▸ hil
   have ey:y = .ref qs[i]:=by
    rw[aq,aa hil] at hi
    exact (aS hi).symm
   subst ey
   have hq:dP K H2 qs[i] [.int cl[i].1,.int cl[i].2]:=Aq.at' i _ _ (aa hil) (by rw[aq,aa hic]; rfl)
   obtain⟨o1,o2⟩:=hok _ (aW hic)
   generalize qs[i]=q at hq
   generalize cl[i]=cc at hq o1 o2
   obtain⟨c1,c2⟩:=cc
   refine⟨_,rfl,q,_,rfl,.inr hq,rfl,_,rfl,Wj (by show (!decide (V.int 2=V.int 2))=false; rw[decide_eq_true rfl]; rfl) ?_⟩
   refine⟨_,rfl,q,_,_,_,rfl,rfl,hq,rfl,_,_,rfl,rfl,_,rfl,?_⟩
   rw[decide_eq_true (show (0:Int)≤(c1:Int) by omega)]
   refine jF ⟨_,rfl,tp,_,dt,_,_,rfl,htp,T.gB,T.oN,rfl,_,_,rfl,rfl,_,rfl,?_⟩
   rw[decide_eq_true (show (c1:Int) < (ns.length:Int) by have:c1 < ns.length:=o1; omega)]
   refine gu ?_
   refine⟨_,rfl,q,_,_,_,rfl,rfl,hq,rfl,_,_,rfl,rfl,_,rfl,?_⟩
   rw[decide_eq_true (show (0:Int)≤(c2:Int) by omega)]
   refine jF ⟨_,_,rfl,.inr (T.iR _),_,_,rfl,rfl,_,rfl,?_⟩
   have e3:decide ((c2:Int) < ((([.int 1,.int 2,.int 4]:List V).length:Nat):Int))=true:=decide_eq_true (by show (c2:Int) < 3; have:c2 < 3:=o2; omega)
   rw[e3]
   exact gu ⟨rfl,_,rfl⟩
  ·rintro σ H2 ⟨rfl,v2,rfl⟩
   exact k
end
end jG
set_option maxHeartbeats 4000000
namespace jG
open PySem L2 TW PyProof.Rows
open RM (fq rF bV bR)
seal L2.PE L2.PA L2.PT L2.PW L2.PS L2.oS L2.PG L2.uS L2.PI L2.uV
noncomputable abbrev nc(t:Ad):NC:=⟨t.c5,t.dU,t.gA,t.kL,t.jP,t.iz,t.ki⟩
section
variable{P:Program}{w:World}{K:ah}{mg:Str→Option Value}{base:Heap}
noncomputable def aeP(K:ah)(CT:Addr)(c:NC):Sp:=fun vs H Q _=>∃ (p dx tp ln lr lc:Addr) (ns:List Int) (rs:List R5) (qs:List Addr) (cl:List (Nat × Nat)),vs = [.ref p,.ref tp,.ref lc]∧H p=some (.ins c.fO dx [])∧dR K CT H tp ln lr ns rs∧ns.length≤12∧rs.length≤20∧(∀ r∈rs,1≤r.d∧r.d≤4) ∧
 ck K H lc (qs.map V.ref)∧cZ K H qs (cl.map fun c=>[.int c.1,.int c.2])∧cl.length≤20∧(∀ c∈cl,c.1 < ns.length∧c.2 < 3) ∧
 ∀ F H',fL K c H' F p tp ns.length (S0 ns rs cl)→(∀ b o,H b=some o→b≠p→H' b=some o)→(∀ b,F b→b=p∨H b=none)→Q .iu H'
noncomputable abbrev nf(fs:List (Str × V))(k:Str)(v:V):List (Str × V):=fs++[(k,v)]
structure Qd(K:ah)(CT:Addr)(H:Hp)(tp ln lr lc:Addr)(ns:List Int)(rs:List R5)(qs:List Addr)(cl:List (Nat × Nat)):Prop where
 Au:dR K CT H tp ln lr ns rs
 cal:ck K H lc (qs.map V.ref)
 tup:cZ K H qs (cl.map fun c=>[.int c.1,.int c.2])
theorem Qd.mono{CT tp ln lr lc:Addr}{H H':Hp}{ns:List Int}{rs:List R5}{qs:List Addr}{cl:List (Nat × Nat)}(h:Qd K CT H tp ln lr lc ns rs qs cl)(s:aL H H'):Qd K CT H' tp ln lr lc ns rs qs cl:=⟨h.Au.mono s,s.seq h.cal,h.tup.mono fun b x=>s.dB⟩
theorem Qd.put{CT tp ln lr lc p C dx:Addr}{H:Hp}{ns:List Int}{rs:List R5}{qs:List Addr}{cl:List (Nat × Nat)}{fs:List (Str × V)}{o:HO}(h:Qd K CT H tp ln lr lc ns rs qs cl)(hp:H p=some (.ins C dx fs))(n:tp≠p):Qd K CT (upd H p o) tp ln lr lc ns rs qs cl :=
 ⟨h.Au.but (fun b u e nb=>by rw[aP nb]; exact e) hp n,ck.past hp af0 cj h.cal,h.tup.mono fun b x=>dP.past hp pA cj⟩
theorem Bk(la:Nat→Addr)(i:Nat)(l:Addr):(aB (i + 1)).map (fun g=>V.ref (jk la i l g))=(aB i).map (fun g=>V.ref (la g))++[.ref l]:=by
 rw[oV,aO,cG,List.map_nil,dF]
 congr 1
 refine eX fun g hg=>?_
 rw[gE (bZ (fQ.mp hg))]
noncomputable def alW(loc:Role→Addr)(acc:Addr)(la:Nat→Addr):Role→Addr
 | .Es=>acc
 | .rows g=>la g
 | r=>loc r
noncomputable def obR(ob:Role→Option HO)(la:Nat→Addr)(rq:Nat→List Addr)(i:Nat):Role→Option HO
 | .Es=>some (.lst ((aB i).map fun g=>.ref (la g)))
 | .rows g=>if g < i then some (.lst ((rq g).map V.ref)) else none
 | r=>ob r
noncomputable def aiW(loc:Role→Addr)(acc:Addr)(lb ld:Nat→Addr):Role→Addr
 | .pC=>acc
 | .book g=>lb g
 | .gy g=>ld g
 | r=>loc r
noncomputable def obB(C:Addr)(ob:Role→Option HO)(dxb lb ld:Nat→Addr)(i:Nat):Role→Option HO
 | .pC=>some (.lst ((aB i).map fun g=>.ref (lb g)))
 | .book g=>if g < i then some (.ins C (dxb g) [("kept",.ref (ld g))]) else none
 | .gy g=>if g < i then some (.dT []) else none
 | r=>ob r
noncomputable def aou(loc:Role→Addr)(acc:Addr)(lh:Nat→Addr):Role→Addr
 | .l9=>acc
 | .handed g=>lh g
 | r=>loc r
noncomputable def obH(ob:Role→Option HO)(lh:Nat→Addr)(i:Nat):Role→Option HO
 | .l9=>some (.lst ((aB i).map fun g=>.ref (lh g)))
 | .handed g=>if g < i then some (.lst []) else none
 | r=>ob r
noncomputable def dxF(dx dxs:Addr)(dxb:Nat→Addr):Role→Addr
 | .fO=>dx
 | .fS=>dxs
 | .book g=>dxb g
 | _=>0
noncomputable def aov(p sp lu:Addr)(ls:List Addr)(acc:Addr)(la:Nat→Addr)(acb:Addr)(lb ld:Nat→Addr)(ach acg acd:Addr)(lh:Nat→Addr)(acl aco:Addr):Role→Addr
 | .fO=>p
 | .fS=>sp
 | .jY=>lu
 | .qu i=>ls.getD i 0
 | .Es=>acc
 | .rows g=>la g
 | .pC=>acb
 | .book g=>lb g
 | .gy g=>ld g
 | .bY=>ach
 | .groups=>acg
 | .l9=>acd
 | .handed i=>lh i
 | .c6=>acl
 | .nN=>aco
 | _=>0
theorem VU{t:Ad}(T:Txt K mg t):cW P w K mg base lH 5 t.iO t.BD ["self","town","callers"]  (aeP K t.bG (nc t)):=by
 refine T.vm.ok U0 (fun vs H Q E h=>?_) (fun cdv A outer s H vs Q E hr h=>?_)
 ·obtain⟨_,_,_,_,_,_,_,_,_,_,rfl,_⟩:=h; rfl
 ·obtain⟨p,dx,tp,ln,lr,lc,ns,rs,qs,cl,rfl,hp,hT,h12,D3,hw,hL,Aq,acY,hok,k⟩:=h
  refine⟨_,(av (cJ (cK (OC T) (hr.mono (by decide)) rfl T.Qt T.kM.kp T.Qs .nil bx (aG (pv 1) (aG (pv 2) az))))
   (av (iB (pv 0) (pv 1) rfl)
   (av (iB (pv 0) (Hi T.aeB (Ma T) (hr.mono (by decide)) rfl T.aeG T.MX .nil bx (aG (pv 1) az)) rfl)
   (av (iB (pv 0) (jI (dS (Q9:=ai dJ) (N0:=["self","town","callers"]) (N2:=["bit","town"]) (cap:=[none,some 1]) rfl rfl (by decide +kernel)) rfl (abm (oY rfl T.pV (v:=.ref t.gk) rfl)) (fun _ _ _ _=>by exact (bO (i:=0) MK rfl (be rfl))) (fun _ _ _ _=>by exact pe) (fun _ _ _ _=>by exact (cK (VT T) (hr.mono (by decide)) rfl T.Xu T.pP.kp T.Xs .nil bx (aG (pv 1) az)))) rfl)
   (av (iB (pv 0) (jI (dS (Q9:=ai dJ) (N0:=["self","town","callers"]) (N2:=["bit"]) (cap:=[none]) rfl rfl (by decide +kernel)) rfl (abm (oY rfl T.pV (v:=.ref t.gk) rfl)) (fun _ _ _ _=>by exact (bO (i:=0) ML rfl (be rfl))) (fun _ _ _ _=>by exact pe) (fun _ _ _ _=>by exact (afv T.alo (UD T) (hr.mono (by decide)) rfl T.alu T.U5 .nil bx))) rfl)
   (av (iB (pv 0) (jI (dS (Q9:=ai dJ) (N0:=["self","town","callers"]) (N2:=["caller"]) (cap:=[none]) rfl rfl (by decide +kernel)) rfl (gD (pv 2)) (fun _ _ _ _=>by exact (bO (i:=0) MM rfl (be rfl))) (fun _ _ _ _=>by exact pe) (fun _ _ _ _=>by exact (bM (Bu K rfl) (pv 0) aJ (fun _ _=>rfl)))) rfl)
   (av (iB (pv 0) (jI (dS (Q9:=ai dJ) (N0:=["self","town","callers"]) (N2:=["caller"]) (cap:=[none]) rfl rfl (by decide +kernel)) rfl (gD (pv 2)) (fun _ _ _ _=>by exact (bO (i:=0) MN rfl (be rfl))) (fun _ _ _ _=>by exact pe) (fun _ _ _ _=>by exact (bM (Bu K rfl) (pv 0) aJ (fun _ _=>rfl)))) rfl)
   (av (iB (pv 0) (jI (dS (Q9:=ai dJ) (N0:=["self","town","callers"]) (N2:=["caller"]) (cap:=[none]) rfl rfl (by decide +kernel)) rfl (gD (pv 2)) (fun _ _ _ _=>by exact (bO (i:=0) MO rfl (be rfl))) (fun _ _ _ _=>by exact pe) (fun _ _ _ _=>by exact (lO az))) rfl)
   (av (iB (pv 0) (lO az) rfl)
   (aI (iB (pv 0) (lO az) rfl))))))))))),?_⟩
  try dsimp only[bN]
  obtain⟨⟨dt,htp⟩,htn,vs,htr,_⟩:=id hT
  have ntp:tp≠p:=C8 htp hp fun z=>by have:=(HO.ins.inj z).2.2; cases this
  refine⟨_,rfl,_,rfl,tp,ln,lr,lc,ns,rs,qs,cl,rfl,hT,hL,Aq,acY,hok,?_⟩
  have B0:Qh H H p (fun _=>p) (fun r=>if r = .fO then some (.ins t.c5 dx []) else none):=by
   refine⟨⟨fun r o e=>?_,fun r q h1 h2 _=>?_⟩,rfl,by simp,fun b o e _=>e,fun b hb=>.inl ?_⟩
   ·by_cases z:r = .fO
    ·rw[if_pos z] at e; cases e; exact hp
    ·rw[if_neg z] at e; cases e
   ·have g:∀ {r:Role},(if r=Role.fO then some (HO.ins t.c5 dx []) else none)≠none→r = .fO:=fun {r} h=>by
     by_cases z:r = .fO
     ·exact z
     ·rw[if_neg z] at h; exact absurd rfl h
    rw[g h1,g h2]
   ·obtain⟨_,_,e⟩:=hb
    exact e.symm
  refine⟨_,rfl,_,rfl,p,_,dx,[],rfl,hp,T.bU,T.qC,by decide,?_⟩
  rw[eG (names:=[]) rfl rfl]
  have B1:=B0.put (.ins t.c5 dx ([]++[(Str.ofString "town",V.ref tp)]))
  have hT1:dR K t.bG (upd H p (.ins t.c5 dx ([]++[(Str.ofString "town",V.ref tp)]))) tp ln lr ns rs:=hT.but (fun b o e n=>by rw[aP n]; exact e) hp ntp
  have hp1:=aF (H:=H) (a:=p) (o:=.ins t.c5 dx ([]++[(Str.ofString "town",V.ref tp)]))
  have kq1:∀ b x,dP K H b x→dP K (upd H p (.ins t.c5 dx ([]++[(Str.ofString "town",V.ref tp)]))) b x:=fun b x=>dP.past hp pA cj
  have hL1:=ck.past hp af0 (cj (o:=.ins t.c5 dx ([]++[(Str.ofString "town",V.ref tp)]))) hL
  have alY:=Aq.mono kq1
  generalize upd H p (.ins t.c5 dx ([]++[(Str.ofString "town",V.ref tp)]))=H1 at B1 hT1 hp1 hL1 alY
  clear B0 kq1 Aq hL hT
  refine⟨_,rfl,fun sp dxs nsp ndx hne=>?_⟩
  have t2:aL H1 (upd (upd H1 dxs (.own sp)) sp (.ins t.dU dxs [])):=(aL.new ndx).trans (aL.new (by rw[aP (bW hne)]; exact nsp))
  refine⟨sp,dxs,tp,ln,lr,ns,rs,rfl,aF,hT1.mono t2,D3,hw,fun lu ls H2 hlu hls nlu nd el h2p h2u h2w kp=>⟨rfl,?_⟩⟩
  have s2:aL H1 H2:=fun b o e=>kp b o (t2 b o e) (aR e nsp)
  have aox:H1 lu=none:=t2.free hlu
  have aoy:∀ l∈ls,H1 l=none:=fun l hl=>t2.free (hls l hl)
  have OS:By H2 (aiw sp lu ls) (aet t.dU dxs tp lu ls (rs.map fun r=>aB r.d.toNat)):=by
   refine alk h2p h2u (by rw[af]; exact el) (fun i l w' e1 e2=>?_) nd nlu
   rw[aq] at e2
   cases e3:rs[i]? with
   | none=>rw[e3] at e2; cases e2
   | some r=>rw[e3] at e2; cases e2; exact h2w i l r e1 e3
  have B2:=B1.join OS rfl (fun r hr'=>by
   cases r <;> first | exact absurd rfl hr' | skip
   ·exact nsp
   ·exact aox
   ·rename_i i
    show H1 (ls.getD i 0)=none
    by_cases z:i < ls.length
    ·rw[aD,aa z]
     exact aoy _ (aW z)
    ·exact absurd (show ((rs.map fun r:R5=>aB r.d.toNat)[i]?.map fun w=>HO.lst (bS w))=none by rw[i0 (by rw[af]; omega)]; rfl) hr') s2
  have aoz:Qd K t.bG H2 tp ln lr lc ns rs qs cl:=⟨hT1.mono s2,s2.seq hL1,alY.mono fun b x=>s2.dB⟩
  have hp2:=s2 _ _ hp1
  refine⟨_,rfl,p,_,dx,_,rfl,hp2,T.bU,T.ze,(by show 1 < 1000; decide),?_⟩
  rw[eG (names:=["town"]) rfl (by decide +kernel)]
  have B3:=B2.put (.ins t.c5 dx (([]++[(Str.ofString "town",V.ref tp)])++[(Str.ofString "strands",V.ref sp)]))
  have al0:=aoz.put hp2 ntp (o:=.ins t.c5 dx (([]++[(Str.ofString "town",V.ref tp)])++[(Str.ofString "strands",V.ref sp)]))
  have hp3:=aF (H:=H2) (a:=p) (o:=.ins t.c5 dx (([]++[(Str.ofString "town",V.ref tp)])++[(Str.ofString "strands",V.ref sp)]))
  generalize upd H2 p (.ins t.c5 dx (([]++[(Str.ofString "town",V.ref tp)])++[(Str.ofString "strands",V.ref sp)]))=H3 at B3 al0 hp3
  clear aoz hp2 B1 hT1 hp1 hL1 alY OS kp t2 s2 h2p h2u h2w aox aoy hlu hls B2
  generalize arJ:(fun r=>if (aet t.dU dxs tp lu ls (rs.map fun r:R5=>aB r.d.toNat) r).isSome=true then aiw sp lu ls r else p)=UH at B3
  generalize eob:(kY (fun r=>if (aet t.dU dxs tp lu ls (rs.map fun r:R5=>aB r.d.toNat) r).isSome=true then aet t.dU dxs tp lu ls (rs.map fun r:R5=>aB r.d.toNat) r else kY (fun r=>if r = .fO then some (.ins t.c5 dx []) else none) .fO (.ins t.c5 dx ([]++[(Str.ofString "town",V.ref tp)])) r) .fO (.ins t.c5 dx (([]++[(Str.ofString "town",V.ref tp)])++[(Str.ofString "strands",V.ref sp)])))=ob3 at B3
  refine⟨_,rfl,⟨_,T.iR _⟩,fun acc hacc=>?_⟩
  refine jj (n:=3) (fun i ys Hx=>∃ (la:Nat→Addr) (rq:Nat→List Addr),ys=(aB i).map (fun g=>.ref (la g))∧Qh H Hx p (alW UH acc la) (obR ob3 la rq i)∧(∀ g,g < i→cZ K Hx (rq g) (i8 ns.length (DZ ns)))) hacc (abI (T.iR _)) (RC (T.iR _)) ?_ ?_ ?_
  ·refine⟨fun _=>0,fun _=>[],rfl,(B3.new hacc (r:=.Es) (by decide) (.lst [])).ext (fun r=>?_) (fun r hr'=>?_),fun g hg=>absurd hg (by omega)⟩
   ·cases r <;> first | rfl | skip
    rename_i g
    show ob3 (.rows g)=_
    rw[show ob3 (.rows g)=none by rw[← eob]; rfl]
    show none=(if g < 0 then some (HO.lst (([]:List Addr).map V.ref)) else none)
    rw[if_neg (Nat.not_lt_zero g)]
   ·cases r <;> first | rfl | skip
    rename_i g
    exact absurd (show ob3 (.rows g)=none by rw[← eob]; rfl) hr'
  ·rintro i ys Hx hi sx hy ⟨la,rq,rfl,B,hR⟩ x H4 ⟨rfl,hx⟩
   refine⟨_,rfl,tp,ln,lr,ns,rs,rfl,(al0.mono sx).Au,h12,fun l qs' H5 s5 hl h5 ht=>?_⟩
   have hy5:=s5 _ _ hy
   have B5:=((B.add s5 hl h5 (r:=.rows i) (fun z=>by cases z)).alj (r:=.Es) (bq _) (fun z=>by cases z) (.lst ((aB i).map (fun g=>V.ref (la g))++[.ref l])))
   have hl5:l≠acc:=(aR hy hl).symm
   refine ic hacc hi (sx.trans s5) hy5 (by rw[af,bC]; exact cS (by omega)) ⟨jk la i l,jk rq i qs',(Bk la i l).symm,B5.ext (fun r=>?_) (fun r hr'=>?_),fun g hg=>?_⟩
   ·cases r <;> first | rfl | skip
    ·show some (HO.lst _)=some (HO.lst _)
     rw[Bk]
    ·rename_i g
     show kY (obR ob3 la rq i) (.rows i) _ (.rows g)=if g < i + 1 then some (HO.lst ((jk rq i qs' g).map V.ref)) else none
     by_cases z:g=i
     ·subst z
      rw[fM,if_pos (by omega),dF]
     ·rw[eN (fun e=>z (by cases e; rfl)),gE z]
      show (if g < i then some (HO.lst ((rq g).map V.ref)) else none)=_
      by_cases z2:g < i
      ·rw[if_pos z2,if_pos (by omega)]
      ·rw[if_neg z2,if_neg (by omega)]
   ·cases r <;> first | rfl | skip
    rename_i g
    show DY (alW UH acc la) (.rows i) l (.rows g)=jk la i l g
    by_cases z:g=i
    ·subst z
     rw[kP,dF]
    ·rw[k9 (fun e=>z (by cases e; rfl)),gE z]
     rfl
   ·by_cases z:g=i
    ·subst z
     rw[dF]
     exact ht.mono fun b x=>dP.past hy5 nM cj
    ·rw[gE z]
     exact ((hR g (by omega)).mono fun b x=>s5.dB).mono fun b x=>dP.past hy5 nM cj
  rintro ys H4 s4 hy ⟨la,rq,rfl,B4,hR4⟩
  have aoB:=al0.mono s4
  have hp4:=s4 _ _ hp3
  refine⟨_,rfl,p,_,dx,_,rfl,hp4,T.bU,T.mQ,(by show 2 < 1000; decide),?_⟩
  rw[eG (names:=["town","strands"]) rfl (by decide +kernel)]
  generalize eo5:HO.ins t.c5 dx ((([]++[(Str.ofString "town",V.ref tp)])++[(Str.ofString "strands",V.ref sp)])++[(Str.ofString "rows_by_group",V.ref acc)])=o5
  have B5:=B4.put o5
  have al2:=aoB.put hp4 ntp (o:=o5)
  have hp5:=aF (H:=H4) (a:=p) (o:=o5)
  have hR5:∀ g,g < 3→cZ K (upd H4 p o5) (rq g) (i8 ns.length (DZ ns)):=fun g hg=>(hR4 g hg).mono fun b x=>dP.past hp4 pA cj
  generalize upd H4 p o5=H5 at B5 al2 hp5 hR5
  clear aoB hp4 hR4 B4 hy s4 hacc
  generalize aoD:alW UH acc la=ahd at B5
  generalize al3:kY (obR ob3 la rq 3) .fO o5=ob5 at B5
  have n5:∀ g,ob5 .pC=none∧ob5 (.book g)=none∧ob5 (.gy g)=none:=fun g=>by rw[← al3,← eob]; exact⟨rfl,rfl,rfl⟩
  refine⟨_,rfl,⟨_,T.iR _⟩,fun acb ai0=>?_⟩
  refine jj (n:=3) (fun i ys Hx=>∃ (lb ld dxb:Nat→Addr),ys=(aB i).map (fun g=>.ref (lb g))∧Qh H Hx p (aiW ahd acb lb ld) (obB t.gA ob5 dxb lb ld i)) ai0 (abI (T.iR _)) (RC (T.iR _)) ?_ ?_ ?_
  ·refine⟨fun _=>0,fun _=>0,fun _=>0,rfl,(B5.new ai0 (r:=.pC) (fun z=>by cases z) (.lst [])).ext (fun r=>?_) (fun r hr'=>?_)⟩
   ·cases r <;> first | rfl | skip
    ·rename_i g
     show ob5 (.book g)=(if g < 0 then some (HO.ins t.gA 0 [("kept",.ref 0)]) else none)
     rw[if_neg (Nat.not_lt_zero g)]
     exact (n5 g).2.1
    ·rename_i g
     show ob5 (.gy g)=(if g < 0 then some (HO.dT []) else none)
     rw[if_neg (Nat.not_lt_zero g)]
     exact (n5 g).2.2
   ·cases r <;> first | rfl | skip
    ·rename_i g
     exact absurd (n5 g).2.1 hr'
    ·rename_i g
     exact absurd (n5 g).2.2 hr'
  ·rintro i ys Hx hi sx hy ⟨lb,ld,dxb,rfl,B⟩ x H6 ⟨rfl,hx⟩
   refine fun bp Mr nbp arM hne=>?_
   have t6:aL H6 (upd (upd H6 Mr (.own bp)) bp (.ins t.gA Mr [])):=(aL.new arM).trans (aL.new (by rw[aP (bW hne)]; exact nbp))
   refine⟨bp,Mr,rfl,aF,fun d H7 hd hB kp=>⟨rfl,?_⟩⟩
   have s7:aL H6 H7:=fun b o e=>kp b o (t6 b o e) (aR e nbp)
   have hd6:H6 d=none:=t6.free hd
   obtain⟨⟨dx',h7b⟩,h7d⟩:=hB
   have nbd:bp≠d:=abO h7b h7d (fun e=>by cases e)
   have sm:aL H6 (hide H7 d):=fun b o e=>by
    have nb:b≠d:=aR e hd6
    show (if b=d then none else H7 b)=some o
    rw[if_neg nb]
    exact s7 _ _ e
   have sm2:aL (hide H7 d) H7:=fun b o e=>by
    have e:(if b=d then none else H7 b)=some o:=e
    by_cases z:b=d
    ·rw[if_pos z] at e; cases e
    ·rw[if_neg z] at e; exact e
   have hmb:(hide H7 d) bp=some (.ins t.gA dx' [("kept",.ref d)]):=by
    show (if bp=d then none else H7 bp)=_
    rw[if_neg nbd]
    exact h7b
   have hmd:(hide H7 d) d=none:=if_pos rfl
   have B1:=B.add sm nbp hmb (r:=.book i) (fun z=>by cases z)
   have B2:=B1.add sm2 hmd h7d (r:=.gy i) (fun z=>by cases z)
   have B3:=B2.alj (r:=.pC) (bq _) (fun z=>by cases z) (.lst ((aB i).map (fun g=>V.ref (lb g))++[.ref bp]))
   refine ic ai0 hi (sx.trans s7) (s7 _ _ hy) (by rw[af,bC]; exact cS (by omega)) ⟨jk lb i bp,jk ld i d,jk dxb i dx',(Bk lb i bp).symm,B3.ext (fun r=>?_) (fun r hr'=>?_)⟩
   ·cases r <;> first | rfl | skip
    ·show some (HO.lst _)=some (HO.lst _)
     rw[Bk]
    ·rename_i g
     show kY (obB t.gA ob5 dxb lb ld i) (.book i) _ (.book g)=if g < i + 1 then some (HO.ins t.gA (jk dxb i dx' g) [("kept",.ref (jk ld i d g))]) else none
     by_cases z:g=i
     ·subst z
      rw[fM,if_pos (by omega),dF,dF]
     ·rw[eN (fun e=>z (by cases e; rfl)),gE z,gE z]
      show (if g < i then some (HO.ins t.gA (dxb g) [("kept",.ref (ld g))]) else none)=_
      by_cases z2:g < i
      ·rw[if_pos z2,if_pos (by omega)]
      ·rw[if_neg z2,if_neg (by omega)]
    ·rename_i g
     show kY (kY (obB t.gA ob5 dxb lb ld i) (.book i) _) (.gy i) _ (.gy g)=if g < i + 1 then some (HO.dT []) else none
     by_cases z:g=i
     ·subst z
      rw[fM,if_pos (by omega)]
      rfl
     ·rw[eN (fun e=>z (by cases e; rfl))]
      show (if g < i then some (HO.dT []) else none)=_
      by_cases z2:g < i
      ·rw[if_pos z2,if_pos (by omega)]
      ·rw[if_neg z2,if_neg (by omega)]
   ·cases r <;> first | rfl | skip
    ·rename_i g
     show DY (aiW ahd acb lb ld) (.book i) bp (.book g)=jk lb i bp g
     by_cases z:g=i
     ·subst z
      rw[kP,dF]
     ·rw[k9 (fun e=>z (by cases e; rfl)),gE z]
      rfl
    ·rename_i g
     show DY (DY (aiW ahd acb lb ld) (.book i) bp) (.gy i) d (.gy g)=jk ld i d g
     by_cases z:g=i
     ·subst z
      rw[kP,dF]
     ·rw[k9 (fun e=>z (by cases e; rfl)),gE z]
      rfl
  rintro ys H6 s6 hy ⟨lb,ld,dxb,rfl,B6⟩
  have aoE:=al2.mono s6
  have hR6:∀ g,g < 3→cZ K H6 (rq g) (i8 ns.length (DZ ns)):=fun g hg=>(hR5 g hg).mono fun b x=>s6.dB
  have hp6:=s6 _ _ hp5
  subst eo5
  refine⟨_,rfl,p,_,dx,_,rfl,hp6,T.bU,T.yp,(by show 3 < 1000; decide),?_⟩
  rw[eG (names:=["town","strands","rows_by_group"]) rfl (by decide +kernel)]
  generalize eo7:HO.ins t.c5 dx (((([]++[(Str.ofString "town",V.ref tp)])++[(Str.ofString "strands",V.ref sp)])++[(Str.ofString "rows_by_group",V.ref acc)])++[(Str.ofString "books",V.ref acb)])=o7
  have B7:=B6.put o7
  have acZ:=aoE.put hp6 ntp (o:=o7)
  have hp7:=aF (H:=H6) (a:=p) (o:=o7)
  have hR7:∀ g,g < 3→cZ K (upd H6 p o7) (rq g) (i8 ns.length (DZ ns)):=fun g hg=>(hR6 g hg).mono fun b x=>dP.past hp6 pA cj
  generalize upd H6 p o7=H7 at B7 acZ hp7 hR7
  clear al2 aoE hp5 hp6 hR5 hR6 B5 B6 hy s6 ai0
  have ecl:(qs.map V.ref).length=cl.length:=by rw[af,acZ.tup.len,af]
  have aoG:∀ {i:Nat} {x:V} {Hx:Hp},(qs.map V.ref)[i]?=some x→Qd K t.bG Hx tp ln lr lc ns rs qs cl→∃ (hi:i < cl.length) (q:Addr),x = .ref q∧dP K Hx q [.int cl[i].1,.int cl[i].2]:=fun {i x Hx} hx ev=>by
   have hi:=(aj.mp hx).1
   rw[ecl] at hi
   have hq:i < qs.length:=by rw[← af (f:=V.ref),ecl]; exact hi
   refine⟨hi,qs[i],?_,ev.tup.at' i _ _ (aa hq) (by rw[aq,aa hi]; rfl)⟩
   rw[aq,aa hq] at hx
   exact (aS hx).symm
  refine⟨_,rfl,lc,rfl,⟨_,acZ.cal⟩,fun ach al4=>?_⟩
  refine adv (fun i=>cl[i]?.map fun c=>V.int (c.1:Nat)) al4 acZ.cal (by omega) (fun i x Hx R S hx sx h1 h2=>?_) (fun H8 s8 hy=>?_)
  ·obtain⟨hi,q,rfl,hq⟩:=aoG hx (acZ.mono sx)
   exact⟨_,rfl,q,_,_,_,rfl,rfl,hq,rfl,h1 _ _ (aL.refl _) (by rw[aa hi]; rfl)⟩
  rw[ecl,RJ] at hy
  have B8:=B7.add s8 al4 hy (r:=.bY) (fun z=>by cases z)
  have aoH:=acZ.mono s8
  have hp8:=s8 _ _ hp7
  subst eo7
  refine⟨_,rfl,p,_,dx,_,rfl,hp8,T.bU,T.sy,(by show 4 < 1000; decide),?_⟩
  rw[eG (names:=["town","strands","rows_by_group","books"]) rfl (by decide +kernel)]
  generalize eo9:HO.ins t.c5 dx ((((([]++[(Str.ofString "town",V.ref tp)])++[(Str.ofString "strands",V.ref sp)])++[(Str.ofString "rows_by_group",V.ref acc)])++[(Str.ofString "books",V.ref acb)])++[(Str.ofString "homes",V.ref ach)])=o9
  have B9:=B8.put o9
  have aeQ:=aoH.put hp8 ntp (o:=o9)
  have hp9:=aF (H:=H8) (a:=p) (o:=o9)
  have hR9:∀ g,g < 3→cZ K (upd H8 p o9) (rq g) (i8 ns.length (DZ ns)):=fun g hg=>((hR7 g hg).mono fun b x=>s8.dB).mono fun b x=>dP.past hp8 pA cj
  generalize upd H8 p o9=H9 at B9 aeQ hp9 hR9
  clear acZ aoH hp7 hp8 hR7 B7 B8 hy s8 al4
  refine⟨_,rfl,lc,rfl,⟨_,aeQ.cal⟩,fun acg al5=>?_⟩
  refine adv (fun i=>cl[i]?.map fun c=>V.int (c.2:Nat)) al5 aeQ.cal (by omega) (fun i x Hx R S hx sx h1 h2=>?_) (fun Q8 s10 hy=>?_)
  ·obtain⟨hi,q,rfl,hq⟩:=aoG hx (aeQ.mono sx)
   exact⟨_,rfl,q,_,_,_,rfl,rfl,hq,rfl,h1 _ _ (aL.refl _) (by rw[aa hi]; rfl)⟩
  rw[ecl,RJ] at hy
  have B10:=B9.add s10 al5 hy (r:=.groups) (fun z=>by cases z)
  have aj6:=aeQ.mono s10
  have ai1:=s10 _ _ hp9
  subst eo9
  refine⟨_,rfl,p,_,dx,_,rfl,ai1,T.bU,T.pT,(by show 5 < 1000; decide),?_⟩
  rw[eG (names:=["town","strands","rows_by_group","books","homes"]) rfl (by decide +kernel)]
  generalize arR:HO.ins t.c5 dx (((((([]++[(Str.ofString "town",V.ref tp)])++[(Str.ofString "strands",V.ref sp)])++[(Str.ofString "rows_by_group",V.ref acc)])++[(Str.ofString "books",V.ref acb)])++[(Str.ofString "homes",V.ref ach)])++[(Str.ofString "groups",V.ref acg)])=o11
  have B11:=B10.put o11
  have adG:=aj6.put ai1 ntp (o:=o11)
  have al6:=aF (H:=Q8) (a:=p) (o:=o11)
  have al7:∀ g,g < 3→cZ K (upd Q8 p o11) (rq g) (i8 ns.length (DZ ns)):=fun g hg=>((hR9 g hg).mono fun b x=>s10.dB).mono fun b x=>dP.past ai1 pA cj
  generalize upd Q8 p o11=H11 at B11 adG al6 al7
  clear aeQ aj6 hp9 ai1 hR9 B9 B10 hy s10 al5
  generalize al8:DY (DY (aiW ahd acb lb ld) .bY ach) .groups acg=aj7 at B11
  generalize aj8:kY (kY (kY (kY (kY (obB t.gA ob5 dxb lb ld 3) .fO _) .bY _) .fO _) .groups _) .fO o11=ahe at B11
  have n11:∀ g,ahe .l9=none∧ahe (.handed g)=none:=fun g=>by rw[← aj8,← al3,← eob]; exact⟨rfl,rfl⟩
  refine⟨_,rfl,lc,rfl,⟨_,adG.cal⟩,fun acd ai2=>?_⟩
  refine jj (n:=(qs.map V.ref).length) (fun i ys Hx=>∃ lh:Nat→Addr,ys=(aB i).map (fun g=>.ref (lh g))∧Qh H Hx p (aou aj7 acd lh) (obH ahe lh i)) ai2 (Eg adG.cal) (sj adG.cal) ?_ ?_ ?_
  ·refine⟨fun _=>0,rfl,(B11.new ai2 (r:=.l9) (fun z=>by cases z) (.lst [])).ext (fun r=>?_) (fun r hr'=>?_)⟩
   ·cases r <;> first | rfl | skip
    rename_i g
    show ahe (.handed g)=(if g < 0 then some (HO.lst []) else none)
    rw[if_neg (Nat.not_lt_zero g)]
    exact (n11 g).2
   ·cases r <;> first | rfl | skip
    rename_i g
    exact absurd (n11 g).2 hr'
  ·rintro i ys Hx hi sx hy ⟨lh,rfl,B⟩ x H12 ⟨rfl,hx⟩
   refine⟨bJ _,fun l hl=>?_⟩
   have u:=aL.new (o:=.lst []) hl
   have B3:=(B.new hl (r:=.handed i) (fun z=>by cases z) (.lst [])).alj (r:=.l9) (bq _) (fun z=>by cases z) (.lst ((aB i).map (fun g=>V.ref (lh g))++[.ref l]))
   refine ic ai2 hi (sx.trans u) (u _ _ hy) (by rw[af,bC]; exact cS (by omega)) ⟨jk lh i l,(Bk lh i l).symm,B3.ext (fun r=>?_) (fun r hr'=>?_)⟩
   ·cases r <;> first | rfl | skip
    ·show some (HO.lst _)=some (HO.lst _)
     rw[Bk]
    ·rename_i g
     show kY (obH ahe lh i) (.handed i) _ (.handed g)=if g < i + 1 then some (HO.lst []) else none
     by_cases z:g=i
     ·subst z
      rw[fM,if_pos (by omega)]
     ·rw[eN (fun e=>z (by cases e; rfl))]
      show (if g < i then some (HO.lst []) else none)=_
      by_cases z2:g < i
      ·rw[if_pos z2,if_pos (by omega)]
      ·rw[if_neg z2,if_neg (by omega)]
   ·cases r <;> first | rfl | skip
    rename_i g
    show DY (aou aj7 acd lh) (.handed i) l (.handed g)=jk lh i l g
    by_cases z:g=i
    ·subst z
     rw[kP,dF]
    ·rw[k9 (fun e=>z (by cases e; rfl)),gE z]
     rfl
  rintro ys H12 s12 hy ⟨lh,rfl,B12⟩
  rw[ecl] at B12
  have aoJ:∀ g,g < 3→cZ K H12 (rq g) (i8 ns.length (DZ ns)):=fun g hg=>(al7 g hg).mono fun b x=>s12.dB
  have al9:=s12 _ _ al6
  subst arR
  refine⟨_,rfl,p,_,dx,_,rfl,al9,T.bU,T.BS,(by show 6 < 1000; decide),?_⟩
  rw[eG (names:=["town","strands","rows_by_group","books","homes","groups"]) rfl (by decide +kernel)]
  generalize arT:HO.ins t.c5 dx ((((((([]++[(Str.ofString "town",V.ref tp)])++[(Str.ofString "strands",V.ref sp)])++[(Str.ofString "rows_by_group",V.ref acc)])++[(Str.ofString "books",V.ref acb)])++[(Str.ofString "homes",V.ref ach)])++[(Str.ofString "groups",V.ref acg)])++[(Str.ofString "handed",V.ref acd)])=o13
  have B13:=B12.put o13
  have ama:=aF (H:=H12) (a:=p) (o:=o13)
  have amb:∀ g,g < 3→cZ K (upd H12 p o13) (rq g) (i8 ns.length (DZ ns)):=fun g hg=>(aoJ g hg).mono fun b x=>dP.past al9 pA cj
  generalize upd H12 p o13=H13 at B13 ama amb
  clear al6 al9 al7 aoJ B11 B12 hy s12 ai2
  refine⟨bJ _,fun acl amc=>?_⟩
  have B14:=B13.new amc (r:=.c6) (fun z=>by cases z) (.lst [])
  have u14:=aL.new (o:=.lst []) amc
  have ai5:=u14 _ _ ama
  have amd:∀ g,g < 3→cZ K (upd H13 acl (.lst [])) (rq g) (i8 ns.length (DZ ns)):=fun g hg=>(amb g hg).mono fun b x=>u14.dB
  generalize upd H13 acl (.lst [])=H14 at B14 ai5 amd
  subst arT
  refine⟨_,rfl,p,_,dx,_,rfl,ai5,T.bU,T.fP,(by show 7 < 1000; decide),?_⟩
  rw[eG (names:=["town","strands","rows_by_group","books","homes","groups","handed"]) rfl (by decide +kernel)]
  generalize arW:HO.ins t.c5 dx (((((((([]++[(Str.ofString "town",V.ref tp)])++[(Str.ofString "strands",V.ref sp)])++[(Str.ofString "rows_by_group",V.ref acc)])++[(Str.ofString "books",V.ref acb)])++[(Str.ofString "homes",V.ref ach)])++[(Str.ofString "groups",V.ref acg)])++[(Str.ofString "handed",V.ref acd)])++[(Str.ofString "letters",V.ref acl)])=o15
  have B15:=B14.put o15
  have aoM:=aF (H:=H14) (a:=p) (o:=o15)
  have aoN:∀ g,g < 3→cZ K (upd H14 p o15) (rq g) (i8 ns.length (DZ ns)):=fun g hg=>(amd g hg).mono fun b x=>dP.past ai5 pA cj
  generalize upd H14 p o15=H15 at B15 aoM aoN
  clear ama ai5 amb amd B13 B14 amc u14
  refine⟨bJ _,fun aco aoO=>?_⟩
  have B16:=B15.new aoO (r:=.nN) (fun z=>by cases z) (.lst [])
  have u16:=aL.new (o:=.lst []) aoO
  have ame:=u16 _ _ aoM
  have aoP:∀ g,g < 3→cZ K (upd H15 aco (.lst [])) (rq g) (i8 ns.length (DZ ns)):=fun g hg=>(aoN g hg).mono fun b x=>u16.dB
  generalize upd H15 aco (.lst [])=H16 at B16 ame aoP
  subst arW
  refine⟨_,rfl,p,_,dx,_,rfl,ame,T.bU,T.pU,(by show 8 < 1000; decide),?_⟩
  rw[eG (names:=["town","strands","rows_by_group","books","homes","groups","handed","letters"]) rfl (by decide +kernel)]
  generalize arX:HO.ins t.c5 dx ((((((((([]++[(Str.ofString "town",V.ref tp)])++[(Str.ofString "strands",V.ref sp)])++[(Str.ofString "rows_by_group",V.ref acc)])++[(Str.ofString "books",V.ref acb)])++[(Str.ofString "homes",V.ref ach)])++[(Str.ofString "groups",V.ref acg)])++[(Str.ofString "handed",V.ref acd)])++[(Str.ofString "letters",V.ref acl)])++[(Str.ofString "copies",V.ref aco)])=o17
  have B17:=B16.put o17
  have aoQ:∀ g,g < 3→cZ K (upd H16 p o17) (rq g) (i8 ns.length (DZ ns)):=fun g hg=>(aoP g hg).mono fun b x=>dP.past ame pA cj
  generalize upd H16 p o17=H17 at B17 aoQ
  subst arX aj8 al8 al3 aoD eob arJ
  have hws:(rs.map fun r:R5=>aB r.d.toNat).length=ls.length:=by rw[af]; exact el.symm
  have arZ:ls.map V.ref=(aB (rs.map fun r:R5=>aB r.d.toNat).length).map fun i=>V.ref (ls.getD i 0):=by
   rw[hws]
   refine List.ext_getElem (by simp) fun i h1 h2=>?_
   simp at h1
   simp[h1]
  have B18:Qh H H17 p (aov p sp lu ls acc la acb lb ld ach acg acd lh acl aco) (desc (nc t) (dxF dx dxs dxb) tp (aov p sp lu ls acc la acb lb ld ach acg acd lh acl aco) ⟨rq,fun _=>[],[]⟩ (S0 ns rs cl)):=by
   refine B17.ext (fun r=>?_) (fun r hr'=>?_)
   ·cases r <;> first | rfl | skip
    case jY =>
     show some (HO.lst (ls.map V.ref))=some (HO.lst ((aB (rs.map fun r:R5=>aB r.d.toNat).length).map fun i=>V.ref (ls.getD i 0)))
     rw[← arZ]
    case qu j =>
     show (if ((rs.map fun r:R5=>aB r.d.toNat)[j]?.map fun w=>HO.lst (bS w)).isSome=true then ((rs.map fun r:R5=>aB r.d.toNat)[j]?.map fun w=>HO.lst (bS w)) else none)=((rs.map fun r:R5=>aB r.d.toNat)[j]?.map fun w=>HO.lst (bS w))
     cases (rs.map fun r:R5=>aB r.d.toNat)[j]? <;> rfl
    case bY =>
     show some (HO.lst _)=some (HO.lst ((cl.map (·.1)).map _))
     rw[gx]
     rfl
    case groups =>
     show some (HO.lst _)=some (HO.lst ((cl.map (·.2)).map _))
     rw[gx]
     rfl
    case l9 =>
     show some (HO.lst ((aB cl.length).map fun g=>V.ref (lh g)))=some (HO.lst ((aB (cl.map fun _=>([]:List Nat)).length).map fun g=>V.ref (lh g)))
     rw[af]
    case handed j =>
     show (if j < cl.length then some (HO.lst []) else none)=((cl.map fun _=>([]:List Nat))[j]?.map fun w=>HO.lst (bS w))
     rw[aq]
     by_cases z:j < cl.length
     ·rw[if_pos z,aa z]
      rfl
     ·rw[if_neg z,i0 (by omega)]
      rfl
   ·cases r <;> first | rfl | exact absurd rfl hr' | skip
    case qu j =>
     show (if ((rs.map fun r:R5=>aB r.d.toNat)[j]?.map fun w=>HO.lst (bS w)).isSome=true then ls.getD j 0 else p)=ls.getD j 0
     have hr':(if ((rs.map fun r:R5=>aB r.d.toNat)[j]?.map fun w=>HO.lst (bS w)).isSome=true then ((rs.map fun r:R5=>aB r.d.toNat)[j]?.map fun w=>HO.lst (bS w)) else none)≠none:=hr'
     cases e:(rs.map fun r:R5=>aB r.d.toNat)[j]? with
     | none=>rw[e] at hr'; exact absurd rfl hr'
     | some w'=>rfl
  refine k _ H17 ⟨_,dxF dx dxs dxb,⟨rq,fun _=>[],[]⟩,B18.np,B18.own,fun b=>Iff.rfl,⟨aoQ,fun i l e=>?_,⟨rfl,fun i q x e=>by cases e⟩⟩⟩ B18.kp B18.fr
  cases e
end
end jG
set_option maxHeartbeats 4000000
namespace jG
open PySem L2 TW PyProof.Rows
open RM (fq rF bV bR)
seal L2.PE L2.PA L2.PT L2.PW L2.PS L2.oS L2.PG L2.uS L2.PI L2.uV
section
variable{P:Program}{w:World}{K:ah}{mg:Str→Option Value}{base:Heap}
noncomputable def ai6(K:ah)(c:NC):Sp:=fun vs H Q _=>∃ (F:Addr→Prop) (p tp:Addr) (n g:Nat) (s:NS),vs = [.ref p,.int g]∧fL K c H F p tp n s∧g < 3∧∀ l (qs:List Addr) H',aL H H'→H l=none→H' l=some (.lst (qs.map V.ref))→cZ K H' qs (i8 n (s.R g))→Q (.ref l) H'
theorem yN{t:Ad}(T:Txt K mg t):cW P w K mg base lH 2 t.j8 t.Ji ["self","group"]  (ai6 K (nc t)):=by
 refine T.BI.ok ZI (fun vs H Q E h=>?_) (fun cdv A outer s H vs Q E hr h=>?_)
 ·obtain⟨_,_,_,_,_,_,rfl,_⟩:=h; rfl
 ·obtain⟨F,p,tp,n,g,st,rfl,⟨loc,dx,q,hp,O,hF,hT⟩,hg,k⟩:=h
  refine⟨_,(av (cJ (cK (G8 T) (hr.mono (by decide)) rfl T.HY T.kU.kp T.HX .nil afQ (aG (pv 1) az)))
   (aI (bH (iy iG (by rfl) T.wC boot_list (aG (bM cD (bu (pv 0) rfl) (pv 1) (fun _ _=>rfl)) az))))),?_⟩
  try dsimp only[bN]
  have cY:=O.get .fO _ rfl
  rw[hp] at cY
  refine⟨_,rfl,g,rfl,fun _=>?_,fun z=>absurd ⟨by omega,by omega⟩ z⟩
  refine⟨_,rfl,p,_,_,_,_,rfl,cY,T.bU,T.mQ,rfl,_,rfl,loc .Es,_,_,_,rfl,rfl,ck.of (O.get .Es _ rfl),sI hg,loc (.rows g),_,rfl,.inl (ck.of (O.get (.rows g) _ (if_pos hg))),fun l hl=>?_⟩
  have u:=aL.new (o:=.lst ((q.rq g).map V.ref)) hl
  exact k l (q.rq g) _ u hl aF ((hT.rows g hg).mono fun b x=>u.dB)
noncomputable def ai7(K:ah)(CT:Addr)(c:NC):Sp:=fun vs H Q _=>∃ (F:Addr→Prop) (p tp ln lr:Addr) (ns:List Int) (rs:List R5) (s:NS) (g:Nat),vs = [.ref p,.int g]∧NW K c CT H F p tp ln lr ns rs s∧ja ns rs∧Av ns rs s∧g < 3∧∀ l H',aL H H'→H l=none→H' l=some (.lst (bS (ZE rs s.ws g)))→Q (.ref l) H'
theorem G9{t:Ad}(T:Txt K mg t):cW P w K mg base lH 3 t.j9 t.Jj ["self","group"]  (ai7 K t.bG (nc t)):=by
 refine T.BL.ok ZJ (fun vs H Q E h=>?_) (fun cdv A outer s H vs Q E hr h=>?_)
 ·obtain⟨_,_,_,_,_,_,_,_,_,rfl,_⟩:=h; rfl
 ·obtain⟨F,p,tp,ln,lr,ns,rs,st,g,rfl,N,ok,Mb,hg,k⟩:=h
  refine⟨_,(aI (bH (bQ (bu (pv 0) rfl) T.kW T.Sd (QV T) (hr.mono (by decide)) T.Sb .nil afQ (aG (pv 1) az)))),?_⟩
  try dsimp only[bN]
  obtain⟨loc,dx,q,hp,O,hF,hT⟩:=N.fO
  have cY:=O.get .fO _ rfl
  rw[hp] at cY
  refine⟨_,rfl,p,_,_,_,_,rfl,cY,T.bU,T.ze,rfl,loc .fS,dx .fS,_,rfl,O.get .fS _ rfl,rfl,_,rfl,loc .fS,tp,loc .jY,ln,lr,ns,rs,st.ws,g,rfl,N.Au,O.strAt,Mb.wl,ok.m20,(fun r hr'=>⟨(ok.ok r hr').e1,(ok.ok r hr').e7⟩),fun gg l H' eg _ s' hl h'=>?_,fun z=>absurd ⟨by omega,by omega⟩ z⟩
  have:gg=g:=by omega
  subst this
  exact k l H' s' hl h'
noncomputable def ahf(K:ah)(CT:Addr)(c:NC):Sp:=fun vs H Q _=>∃ (F:Addr→Prop) (p tp ln lr:Addr) (ns:List Int) (rs:List R5) (s:NS) (o:ja ns rs) (g:Nat),vs = [.ref p,.int g]∧NW K c CT H F p tp ln lr ns rs s∧Av ns rs s∧g < 3∧∀ l os H',aL H H'→H l=none→H' l=some (.lst (bS os))→kI (Jc ns rs o s.ws g) (s.R g) os→os.length≤12→Q (.ref l) H'
theorem Mc{t:Ad}(T:Txt K mg t):cW P w K mg base lH 6 t.jz t.EH ["self","group"]  (ahf K t.bG (nc t)):=by
 refine T.yk.ok Xc (fun vs H Q E h=>?_) (fun cdv A outer s H vs Q E hr h=>?_)
 ·obtain⟨_,_,_,_,_,_,_,_,_,_,rfl,_⟩:=h; rfl
 ·obtain⟨F,p,tp,ln,lr,ns,rs,st,ok,g,rfl,N,Mb,hg,k⟩:=h
  refine⟨_,(aI (bH (cK (aaJ T) (hr.mono (by decide)) rfl T.EM T.Hu.kp T.adD .nil bx (aG (bu (pv 0) rfl) (aG (bQ (pv 0) T.bU T.Ju (G9 T) (hr.mono (by decide)) T.Jt .nil bx (aG (pv 1) az)) (aG (bQ (pv 0) T.bU T.BK (yN T) (hr.mono (by decide)) T.BJ .nil bx (aG (pv 1) az)) az)))))),?_⟩
  try dsimp only[bN]
  obtain⟨loc,dx,q,hp,O,hF,hT⟩:=id N.fO
  have cY:=O.get .fO _ rfl
  rw[hp] at cY
  refine⟨_,rfl,p,_,_,_,_,rfl,cY,T.bU,T.qC,rfl,?_⟩
  refine⟨_,rfl,p,_,_,rfl,cY,rfl,_,rfl,F,p,tp,ln,lr,ns,rs,st,g,rfl,N,ok,Mb,hg,fun l1 H1 s1 hl1 h1=>?_⟩
  have N1:=N.mono s1
  refine⟨_,rfl,p,_,_,rfl,s1 _ _ cY,rfl,_,rfl,F,p,tp,ns.length,g,st,rfl,N1.fO,hg,fun l2 qs H2 s2 hl2 h2 ht=>?_⟩
  refine⟨tp,ln,lr,l1,l2,ns,rs,_,ok.nd,ok.ok,Aw,st.R g,rfl,N1.Au.mono s2,ck.of (s2 _ _ h1),ht.abR (ck.of h2),by have:=ok.n10; omega,ok.m20,Mb.fit g hg,fun l os H3 s3 hl h3 hO h12=>?_⟩
  exact k l os H3 (s1.trans (s2.trans s3)) ((s1.trans s2).free hl) h3 hO h12
noncomputable def ahg(K:ah)(CT:Addr)(c:NC):Sp:=fun vs H Q _=>∃ (F:Addr→Prop) (p tp ln lr:Addr) (ns:List Int) (rs:List R5) (s:NS) (h:Nat),vs = [.ref p,.int h]∧NW K c CT H F p tp ln lr ns rs s∧h < ns.length∧Q .iu H
theorem KG{t:Ad}(T:Txt K mg t):cW P w K mg base lH 1 t.dN t.pG ["self","house"]  (ahg K t.bG (nc t)):=by
 refine T.ly.ok Je (fun vs H Q E h=>?_) (fun cdv A outer s H vs Q E hr h=>?_)
 ·obtain⟨_,_,_,_,_,_,_,_,_,rfl,_⟩:=h; rfl
 ·obtain⟨F,p,tp,ln,lr,ns,rs,st,x,rfl,N,hx,k⟩:=h
  refine⟨_,(aI (cU (jM (lN ux se aJ (pv 1) (bu (bu (pv 0) rfl) rfl))) eT bD)),?_⟩
  try dsimp only[bN]
  obtain⟨loc,dx,q,hp,O,hF,hT⟩:=id N.fO
  obtain⟨⟨dt,htp⟩,_⟩:=id N.Au
  have cY:=O.get .fO _ rfl
  rw[hp] at cY
  refine⟨_,rfl,_,_,rfl,rfl,_,rfl,?_⟩
  rw[decide_eq_true (show (0:Int)≤(x:Int) by omega)]
  refine jF ⟨_,rfl,p,_,_,_,_,rfl,cY,T.bU,T.qC,rfl,tp,_,dt,_,_,rfl,htp,T.gB,T.oN,rfl,_,_,rfl,rfl,_,rfl,?_⟩
  rw[decide_eq_true (show (x:Int) < (ns.length:Int) by omega)]
  exact gu k
noncomputable def aeR(K:ah)(c:NC):Sp:=fun vs H Q _=>∃ (F:Addr→Prop) (p tp:Addr) (n x:Nat) (s:NS),vs = [.ref p,.int x]∧fL K c H F p tp n s∧x < s.bY.length∧Q .iu H
theorem mW{t:Ad}(T:Txt K mg t):cW P w K mg base lH 1 t.dh t.nS ["self","caller"]  (aeR K (nc t)):=by
 refine T.kq.ok HE (fun vs H Q E h=>?_) (fun cdv A outer s H vs Q E hr h=>?_)
 ·obtain⟨_,_,_,_,_,_,rfl,_⟩:=h; rfl
 ·obtain⟨F,p,tp,n,x,st,rfl,⟨loc,dx,q,hp,O,hF,hT⟩,hx,k⟩:=h
  refine⟨_,(aI (cU (jM (lN ux se aJ (pv 1) (cC bK (by rfl) T.jV bI (aG (bu (pv 0) rfl) az)))) eT bD)),?_⟩
  try dsimp only[bN]
  have cY:=O.get .fO _ rfl
  rw[hp] at cY
  refine⟨_,rfl,_,_,rfl,rfl,_,rfl,?_⟩
  rw[decide_eq_true (show (0:Int)≤(x:Int) by omega)]
  refine jF ⟨_,rfl,p,_,_,_,_,rfl,cY,T.bU,T.sy,rfl,loc .bY,_,rfl,.inl (ck.of (O.get .bY _ rfl)),_,_,rfl,rfl,_,rfl,?_⟩
  rw[af,decide_eq_true (show (x:Int) < (st.bY.length:Int) by omega)]
  exact gu k
noncomputable def ahh(K:ah)(CT:Addr)(c:NC):Sp:=fun vs H Q _=>∃ (F:Addr→Prop) (p tp ln lr:Addr) (ns:List Int) (rs:List R5) (s:NS) (h g:Nat),vs = [.ref p,.int h,.int g]∧NW K c CT H F p tp ln lr ns rs s∧h < ns.length∧g < 3∧∀ q H',aL H H'→dP K H' q (fq (s.R g h))→Q (.ref q) H'
theorem VV{t:Ad}(T:Txt K mg t):cW P w K mg base lH 3 t.iP t.BE ["self","house","group"]  (ahh K t.bG (nc t)):=by
 refine T.vn.ok U1 (fun vs H Q E h=>?_) (fun cdv A outer s H vs Q E hr h=>?_)
 ·obtain⟨_,_,_,_,_,_,_,_,_,_,rfl,_⟩:=h; rfl
 ·obtain⟨F,p,tp,ln,lr,ns,rs,st,x,g,rfl,N,hx,hg,k⟩:=h
  refine⟨_,(av (cJ (bQ (pv 0) T.bU T.Lc (KG T) (hr.mono (by decide)) T.Lb .nil bx (aG (pv 1) az)))
   (aI (bH (bM cD (bQ (pv 0) T.bU T.BK (yN T) (hr.mono (by decide)) T.BJ .nil bx (aG (pv 2) az)) (pv 1) (fun _ _=>rfl))))),?_⟩
  try dsimp only[bN]
  obtain⟨loc,dx,q,hp,O,hF,hT⟩:=id N.fO
  have cY:=O.get .fO _ rfl
  rw[hp] at cY
  refine⟨_,rfl,p,_,_,rfl,cY,rfl,_,rfl,F,p,tp,ln,lr,ns,rs,st,x,rfl,N,hx,?_⟩
  refine⟨_,rfl,p,_,_,rfl,cY,rfl,_,rfl,F,p,tp,ns.length,g,st,rfl,N.fO,hg,fun l qs H2 s2 hl h2 ht=>?_⟩
  have el:qs.length=ns.length:=by rw[ht.len]; simp[i8]
  have hxq:x < qs.length:=by omega
  refine⟨_,rfl,l,_,_,_,rfl,rfl,ck.of h2,gv (v:=.ref qs[x]) (by rw[aq,aa hxq]; rfl),k _ H2 s2 (ht.at' x _ _ (aa hxq) ?_)⟩
  unfold i8
  rw[aq,iE hx]
  rfl
noncomputable def amf(K:ah)(c:NC):Sp:=fun vs H Q _=>∃ (F:Addr→Prop) (p tp:Addr) (n x:Nat) (s:NS) (hd:List Nat),vs = [.ref p,.int x]∧fL K c H F p tp n s∧x < s.bY.length∧s.had[x]?=some hd∧∀ l H',aL H H'→H l=none→H' l=some (.lst (bS hd))→Q (.ref l) H'
theorem UI{t:Ad}(T:Txt K mg t):cW P w K mg base lH 2 t.mD t.MT ["self","caller"]  (amf K (nc t)):=by
 refine T.Hv.ok abV (fun vs H Q E h=>?_) (fun cdv A outer s H vs Q E hr h=>?_)
 ·obtain⟨_,_,_,_,_,_,_,rfl,_⟩:=h; rfl
 ·obtain⟨F,p,tp,n,x,st,hd,rfl,N,hx,hhd,k⟩:=h
  refine⟨_,(av (cJ (bQ (pv 0) T.bU T.nV (mW T) (hr.mono (by decide)) T.nU .nil bx (aG (pv 1) az)))
   (aI (bH (iy iG (by rfl) T.wC boot_list (aG (bM cD (bu (pv 0) rfl) (pv 1) (fun _ _=>rfl)) az))))),?_⟩
  try dsimp only[bN]
  obtain⟨loc,dx,q,hp,O,hF,hT⟩:=id N
  have cY:=O.get .fO _ rfl
  rw[hp] at cY
  have hl:=(aj.mp hhd).1
  refine⟨_,rfl,p,_,_,rfl,cY,rfl,_,rfl,F,p,tp,n,x,st,rfl,N,hx,?_⟩
  refine⟨_,rfl,p,_,_,_,_,rfl,cY,T.bU,T.BS,rfl,_,rfl,loc .l9,_,_,_,rfl,rfl,ck.of (O.get .l9 _ rfl),sI hl,loc (.handed x),_,rfl,.inl (ck.of (O.get (.handed x) (.lst (bS hd)) (by show (st.had[x]?.map _)=_; rw[hhd]; rfl))),fun l hl=>?_⟩
  exact k l _ (aL.new hl) hl aF
noncomputable def aeS(K:ah)(c:NC):Sp:=fun vs H Q _=>∃ (F:Addr→Prop) (p tp:Addr) (n:Nat) (s:NS),vs = [.ref p]∧fL K c H F p tp n s∧∀ l (qs:List Addr) H',aL H H'→H l=none→H' l=some (.lst (qs.map V.ref))→cZ K H' qs (s.cps.map Cp.vs)→Q (.ref l) H'
theorem IU{t:Ad}(T:Txt K mg t):cW P w K mg base lH 1 t.iQ t.BG ["self"]  (aeS K (nc t)):=by
 refine T.vo.ok U3 (fun vs H Q E h=>?_) (fun cdv A outer s H vs Q E hr h=>?_)
 ·obtain⟨_,_,_,_,_,rfl,_⟩:=h; rfl
 ·obtain⟨F,p,tp,n,st,rfl,N,k⟩:=h
  refine⟨_,(aI (bH (iy iG (by rfl) T.wC boot_list (aG (bu (pv 0) rfl) az)))),?_⟩
  try dsimp only[bN]
  obtain⟨loc,dx,q,hp,O,hF,hT⟩:=id N
  have cY:=O.get .fO _ rfl
  rw[hp] at cY
  refine⟨_,rfl,p,_,_,_,_,rfl,cY,T.bU,T.pU,rfl,loc .nN,_,rfl,.inl (ck.of (O.get .nN _ rfl)),fun l hl=>?_⟩
  have u:=aL.new (o:=.lst (q.cq.map V.ref)) hl
  exact k l q.cq _ u hl aF (hT.cps.mono fun b x=>u.dB)
end
end jG
set_option maxHeartbeats 4000000
namespace jG
open PySem L2 TW PyProof.Rows
open RM (fq rF bV bR)
seal L2.PE L2.PA L2.PT L2.PW L2.PS L2.oS L2.PG L2.uS L2.PI L2.uV
section
variable{P:Program}{w:World}{K:ah}{mg:Str→Option Value}{base:Heap}
noncomputable def QZ(g:Nat)(l:LS):LS:=if l.grp=g then { l with old:=true } else l
noncomputable def ahi(s:NS)(g:Nat):NS:={ s with ts:=jk s.ts g [],ls:=s.ls.map (QZ g) }
noncomputable def ai8(K:ah)(c:NC):Sp:=fun vs H Q _=>∃ (F:Addr→Prop) (p tp:Addr) (n g:Nat) (s:NS),vs = [.ref p,.int g]∧fL K c H F p tp n s∧g < 3∧∀ F' H',fL K c H' F' p tp n (ahi s g)→Step H F H' F'→Q .iu H'
theorem OD{t:Ad}(T:Txt K mg t):cW P w K mg base lH 2 t.fK t.sP ["self","group"]  (ai8 K (nc t)):=by
 refine T.ni.ok Ay (fun vs H Q E h=>?_) (fun cdv A outer s H vs Q E hr h=>?_)
 ·obtain⟨_,_,_,_,_,_,rfl,_⟩:=h; rfl
 ·obtain⟨F,p,tp,n,g,st,rfl,⟨loc,dx,q,hp,O,hF,hT⟩,hg,k⟩:=h
  refine⟨_,(av (cJ (mX (bM cD (bu (pv 0) rfl) (pv 1) (fun _ _=>rfl)) T.Jv T.U7 (UE T) (hr.mono (by decide)) T.U6 .nil bx))
   (aI (jW PassesOwn.never rfl (gD (bu (pv 0) rfl)) (bO (i:=2) Ay.nd rfl (be rfl)) (aI (cU (bw vM (bu (pv 2) rfl) (pv 1) (bT _)) (aI (iB (pv 2) uw rfl)) bD))))),?_⟩
  try dsimp only[bN]
  have cY:=O.get .fO _ rfl
  rw[hp] at cY
  refine⟨_,rfl,p,_,_,_,_,rfl,cY,T.bU,T.yp,rfl,_,rfl,loc .pC,_,_,_,rfl,rfl,ck.of (O.get .pC _ rfl),sI hg,loc (.book g),dx (.book g),_,rfl,O.get (.book g) _ (if_pos hg),rfl,loc (.book g),loc (.gy g),st.ts g,rfl,O.abQ hg,fun d' H1 hd' hB kp=>?_⟩
  obtain⟨⟨dx',h1b⟩,h1d⟩:=hB
  obtain⟨F',N',st'⟩:=abS hp O hF hT hg hd' h1b h1d kp
  clear kp h1b h1d hd' cY hT hF O hp
  obtain⟨loc',dx2,q',hp',O',hF',hT'⟩:=N'
  have X:pD K (nc t) H1 F' loc' dx2 q' p tp n { st with ts:=jk st.ts g [] }:=⟨hp',O',hF',hT'⟩
  have aj9:=O'.get .fO _ rfl
  rw[hp'] at aj9
  have hll:=O'.get .c6 _ rfl
  clear hT' hF' O' hp'
  refine⟨_,rfl,p,_,_,_,_,rfl,aj9,T.bU,T.fP,rfl,loc' .c6,rfl,⟨_,ck.of hll⟩,r9 (K:=K) (a:=loc' .c6) (xs:=(aB st.ls.length).map fun i=>.ref (loc' (.cB i))) (fun i σ H2=>pD K (nc t) H2 F' loc' dx2 q' p tp n { st with ts:=jk st.ts g [],ls:=(st.ls.take i).map (QZ g)++st.ls.drop i }∧Step H1 F' H2 F'∧∃ v2:Option V,σ = [some (.ref p),some (.int g),v2]) ⟨by rw[List.take_zero,List.drop_zero]; exact X,Step.refl' (aL.refl _),_,rfl⟩ (fun i σ H2 _ z=>?_) ?_ ?_⟩
  ·have e:=z.1.own.get .c6 _ rfl
   have el:((st.ls.take i).map (QZ g)++st.ls.drop i).length=st.ls.length:=by
    rw[aH,af,← aH,List.take_append_drop]
   refine ck.of (e.trans ?_)
   show some (HO.lst ((aB ((st.ls.take i).map (QZ g)++st.ls.drop i).length).map _))=_
   rw[el]
  ·rintro i y σ H2 hi ⟨X2,st2,v2,rfl⟩
   have hil:i < st.ls.length:=by
    have:=(aj.mp hi).1
    rw[af,bC] at this
    exact this
   rw[aq,iE hil] at hi
   cases hi
   have hli:((st.ls.take i).map (QZ g)++st.ls.drop i)[i]?=some st.ls[i]:=by
    rw[cu (by rw[af,b5]; omega),af,b5,Nat.min_eq_left (by omega),kD,kE,Nat.add_zero]
    exact aa hil
   have Wx:=X2.own.get (.cB i) (pF (nc t) dx2 loc' i st.ls[i]) (by show (((st.ls.take i).map (QZ g)++st.ls.drop i)[i]?.map _)=_; rw[hli]; rfl)
   have next:(st.ls.take (i + 1)).map (QZ g)++st.ls.drop (i + 1)=((st.ls.take i).map (QZ g)++st.ls.drop i).set i (QZ g st.ls[i]):=by
    rw[List.take_add_one,aa hil,aO,jE,List.set_append_right _ _ (by rw[af,b5]; omega),af,b5,Nat.min_eq_left (by omega),kD,List.drop_eq_getElem_cons hil]
    rfl
   rw[next]
   refine⟨_,rfl,_,_,_,_,_,rfl,Wx,T.dZ,T.lX,rfl,_,rfl,rfl,_,rfl,mY (fun e=>?_) (fun e=>?_)⟩
   ·have e:(st.ls[i]).grp=g:=by
     have:=V.int.inj (of_decide_eq_true e)
     omega
    refine⟨_,rfl,_,_,_,_,rfl,Wx,T.dZ,T.BR,(by show 5 < 1000; decide),?_⟩
    obtain⟨X3,st3⟩:=aiy X2 hli
    refine⟨?_,st2.trans st3,_,rfl⟩
    unfold QZ
    rw[if_pos e]
    exact X3
   ·have e:¬ (st.ls[i]).grp=g:=fun z=>e (decide_eq_true (by rw[z]))
    refine⟨?_,st2,_,rfl⟩
    have:QZ g st.ls[i]=st.ls[i]:=if_neg e
    rw[this,af6 hli]
    exact X2
  ·rintro σ H2 ⟨X2,st2,v2,rfl⟩
   rw[af,bC,nD (aK _),List.drop_eq_nil_of_le (aK _),cz] at X2
   exact k F' H2 X2.fO (st'.trans st2)
end
end jG
set_option maxHeartbeats 4000000
namespace jG
open PySem L2 TW PyProof.Rows
open RM (fq rF bV bR)
seal L2.PE L2.PA L2.PT L2.PW L2.PS L2.oS L2.PG L2.uS L2.PI L2.uV
section
variable{P:Program}{w:World}{K:ah}{mg:Str→Option Value}{base:Heap}
noncomputable def aaO(s:NS)(g x:Nat)(d:RM.Row):NS:=if d=s.R g x then s else ahi { s with R:=jk s.R g (RM.upd (s.R g) x d) } g
noncomputable def ahj(K:ah)(CT:Addr)(c:NC):Sp:=fun vs H Q _=>∃ (F:Addr→Prop) (p tp ln lr:Addr) (ns:List Int) (rs:List R5) (s:NS) (o:ja ns rs) (x g:Nat),vs = [.ref p,.int x,.int g]∧NW K c CT H F p tp ln lr ns rs s∧Av ns rs s∧x < ns.length∧g < 3 ∧
 ∀ d F' H',RM.afS (N:=Jc ns rs o s.ws g) ns.length (s.R g) x d→MD ns.length rs.length d→fL K c H' F' p tp ns.length (aaO s g x d)→Step H F H' F'→Q (.bl (!decide (d=s.R g x))) H'
theorem Qe{t:Ad}(T:Txt K mg t):cW P w K mg base lH 4 t.kc t.Jk ["self","house","group"]  (ahj K t.bG (nc t)):=by
 refine T.BN.ok Ez (fun vs H Q E h=>?_) (fun cdv A outer s H vs Q E hr h=>?_)
 ·obtain⟨_,_,_,_,_,_,_,_,_,_,_,rfl,_⟩:=h; rfl
 ·obtain⟨F,p,tp,ln,lr,ns,rs,st,ok,x,g,rfl,N,Mb,hx,hg,k⟩:=h
  refine⟨_,(av (bE (i:=3) Ez.nd rfl (be rfl) (bQ (pv 0) T.bU T.Xr (VV T) (hr.mono (by decide)) T.Xq .nil bx (aG (pv 1) (aG (pv 2) az))))
   (av (bE (i:=4) Ez.nd rfl (be rfl) (cK (alL T) (hr.mono (by decide)) rfl T.aod T.ZK.kp T.aoc .nil bx (aG (bu (pv 0) rfl) (aG (bQ (pv 0) T.bU T.Ju (G9 T) (hr.mono (by decide)) T.Jt .nil bx (aG (pv 2) az)) (aG (bQ (pv 0) T.bU T.BK (yN T) (hr.mono (by decide)) T.BJ .nil bx (aG (pv 2) az)) (aG (pv 1) az))))))
   (av (cU (bw Mz (pv 4) (pv 3) (bT _)) (aI (bH uw)) bD)
   (av (abi (pv 4) (akF (bM cD (bu (pv 0) rfl) (pv 2) (fun _ _=>rfl)) (pv 1) set_list))
   (av (cJ (bQ (pv 0) T.bU T.Qq (OD T) (hr.mono (by decide)) T.Qp .nil bx (aG (pv 2) az)))
   (aI (bH uw))))))),?_⟩
  try dsimp only[bN]
  obtain⟨loc,dx,q,hp,O,hF,hT⟩:=id N.fO
  have cY:=O.get .fO _ rfl
  rw[hp] at cY
  refine⟨_,rfl,p,_,_,rfl,cY,rfl,_,rfl,_,rfl,F,p,tp,ln,lr,ns,rs,st,x,g,rfl,N,hx,hg,fun q1 H1 s1 hq1=>?_⟩
  have N1:=N.mono s1
  have oO:=s1 _ _ cY
  refine⟨_,rfl,p,_,_,_,_,rfl,oO,T.bU,T.qC,rfl,?_⟩
  refine⟨_,rfl,p,_,_,rfl,oO,rfl,_,rfl,F,p,tp,ln,lr,ns,rs,st,g,rfl,N1,ok,Mb,hg,fun l2 H2 s2 hl2 h2=>?_⟩
  have N2:=N1.mono s2
  refine⟨_,rfl,p,_,_,rfl,s2 _ _ oO,rfl,_,rfl,F,p,tp,ns.length,g,st,rfl,N2.fO,hg,fun l3 qs H3 s3 hl3 h3 ht=>?_⟩
  have N3:=N2.mono s3
  refine⟨_,rfl,tp,ln,lr,l2,l3,ns,rs,_,ok.nd,ok.ok,Aw,st.R g,x,rfl,N3.Au,ck.of (s3 _ _ h2),ht.abR (ck.of h3),hx,ok.m20,(Mb.fit g hg).alf,fun q4 d H4 s4 hq4 hdd=>?_⟩
  have fd:=aip (Mb.fit g hg) hx ok.pos hdd
  have N4:=N3.mono s4
  have s14:=s2.trans (s3.trans s4)
  have s04:=s1.trans s14
  refine⟨_,rfl,_,rfl,RM.MB d,RM.MB (st.R g x),RM.Ei hq4,RM.Ei (s14.dB hq1),RM.Ej _,RM.Ej _,cQ (dO (aX (jK _ _) (by rw[RM.Wh]; decide:(RM.MB d).depth≤64)) _) hr.units,?_⟩
  rw[RM.Zs fd.by1 (Mb.fit g hg x hx).by1]
  refine⟨_,rfl,mY (fun e=>?_) (fun e=>?_)⟩
  ·have e':d=st.R g x:=of_decide_eq_true e
   have:=k d F H4 hdd fd (by unfold aaO; rw[if_pos e']; exact N4.fO) (Step.refl' s04)
   rw[decide_eq_true e'] at this
   exact this
  ·have e':¬ d=st.R g x:=fun z=>e (decide_eq_true z)
   obtain⟨amh,dx4,q4',hp4,O4,hF4,hT4⟩:=id N4.fO
   have Qf:=O4.get .fO _ rfl
   rw[hp4] at Qf
   have hrl:(q4'.rq g).length=ns.length:=by rw[(hT4.rows g hg).len]; simp[i8]
   obtain⟨F5,N5,st5⟩:=aix hp4 O4 hF4 hT4 hg hx hq4
   refine⟨_,rfl,_,rfl,p,_,_,_,_,rfl,Qf,T.bU,T.mQ,rfl,_,rfl,amh .Es,_,_,_,rfl,rfl,ck.of (O4.get .Es _ rfl),sI hg,_,rfl,amh (.rows g),_,_,_,rfl,rfl,O4.get (.rows g) _ (if_pos hg),adq (by rw[af,hrl]; exact hx),?_⟩
   generalize upd H4 (amh (.rows g)) (.lst (((q4'.rq g).map V.ref).set x (.ref q4)))=H5 at N5 st5
   obtain⟨ahd,dx5,q5,hp5,O5,hF5,hT5⟩:=id N5
   have aka:=O5.get .fO _ rfl
   rw[hp5] at aka
   refine⟨_,rfl,p,_,_,rfl,aka,rfl,_,rfl,F5,p,tp,ns.length,g,_,rfl,N5,hg,fun F6 H6 N6 st6=>?_⟩
   have:=k d F6 H6 hdd fd (by unfold aaO; rw[if_neg e']; exact N6) ((Step.refl' s04).trans (st5.trans st6))
   rw[decide_eq_false e'] at this
   exact this
end
end jG
set_option maxHeartbeats 4000000
namespace jG
open PySem L2 TW PyProof.Rows
open RM (fq rF bV bR)
seal L2.PE L2.PA L2.PT L2.PW L2.PS L2.oS L2.PG L2.uS L2.PI L2.uV
section
theorem oB{n:Nat}(h:n≤1000000):n < sizeLine:=cQ h (by show 1000000 < 2 ^ 24; decide)
end
end jG
set_option maxHeartbeats 4000000
namespace jG
open PySem L2 TW PyProof.Rows
open RM (fq rF bV bR)
seal L2.PE L2.PA L2.PT L2.PW L2.PS L2.oS L2.PG L2.uS L2.PI L2.uV
section
variable{P:Program}{w:World}{K:ah}{mg:Str→Option Value}{base:Heap}
noncomputable def aja(K:ah)(c:NC):Sp:=fun vs H Q _=>∃ (F:Addr→Prop) (p tp:Addr) (n x:Nat) (to:Option Nat) (s:NS),vs = [.ref p,.int x,Ep (to.map fun y:Nat=>(y:Int))]∧fL K c H F p tp n s∧x < s.bY.length∧s.groups.length=s.bY.length∧(∀ y,to=some y→y < s.bY.length∧s.groups[y]?=s.groups[x]?)∧Q .iu H
theorem Me{t:Ad}(T:Txt K mg t):cW P w K mg base lH 2 t.eF t.qA ["self","sender","to"]  (aja K (nc t)):=by
 refine T.mG.ok K6 (fun vs H Q E h=>?_) (fun cdv A outer s H vs Q E hr h=>?_)
 ·obtain⟨_,_,_,_,_,_,_,rfl,_⟩:=h; rfl
 ·obtain⟨F,p,tp,n,x,to,st,rfl,N,hx,hgl,hto,k⟩:=h
  refine⟨_,(av (cJ (bQ (pv 0) T.bU T.nV (mW T) (hr.mono (by decide)) T.nU .nil bx (aG (pv 1) az)))
   (aI (cU (bw Q4 (pv 2) nG (bT _)) (av (cJ (bQ (pv 0) T.bU T.nV (mW T) (hr.mono (by decide)) T.nU .nil bx (aG (pv 2) az)))
   (aI (cU (bw x6 (bM cD (bu (pv 0) rfl) (pv 1) (fun _ _=>rfl)) (bM cD (bu (pv 0) rfl) (pv 2) (fun _ _=>rfl)) (bT _)) eT bD))) bD))),?_⟩
  try dsimp only[bN]
  obtain⟨loc,dx,q,hp,O,hF,hT⟩:=id N
  have cY:=O.get .fO _ rfl
  rw[hp] at cY
  refine⟨_,rfl,p,_,_,rfl,cY,rfl,_,rfl,F,p,tp,n,x,st,rfl,N,hx,?_⟩
  cases to with
  | none=>exact⟨_,rfl,rfl,_,rfl,gu k⟩
  | some y =>
   obtain⟨hy,eg⟩:=hto y rfl
   refine⟨_,rfl,rfl,_,rfl,jF ?_⟩
   refine⟨_,rfl,p,_,_,rfl,cY,rfl,_,rfl,F,p,tp,n,y,st,rfl,N,hy,?_⟩
   have hgr:=ck.of (K:=K) (O.get .groups _ rfl)
   have hxg:x < st.groups.length:=by omega
   have hyg:y < st.groups.length:=by omega
   have e:st.groups[y]=st.groups[x]:=by
    rw[aa hyg,aa hxg] at eg
    exact aS eg
   refine⟨_,rfl,p,_,_,_,_,rfl,cY,T.bU,T.pT,rfl,_,rfl,loc .groups,_,_,_,rfl,rfl,hgr,Ax hxg,_,rfl,p,_,_,_,_,rfl,cY,T.bU,T.pT,rfl,_,rfl,loc .groups,_,_,_,rfl,rfl,hgr,Ax hyg,rfl,_,rfl,?_⟩
   rw[e,decide_eq_true rfl]
   exact gu k
end
end jG
set_option maxHeartbeats 4000000
namespace jG
open PySem L2 TW PyProof.Rows
open RM (fq rF bV bR)
seal L2.PE L2.PA L2.PT L2.PW L2.PS L2.oS L2.PG L2.uS L2.PI L2.uV
section
variable{P:Program}{w:World}{K:ah}{mg:Str→Option Value}{base:Heap}
noncomputable def KH(s:NS)(h g x:Nat):Bool:=decide (s.bY[x]?=some h∧s.groups[x]?=some g)
noncomputable def Bl(s:NS)(h g:Nat):List Nat:=(aB s.bY.length).filter (KH s h g)
theorem C5{f:Nat→Bool}{i:Nat}:(aB (i + 1)).filter f=(aB i).filter f++if f i=true then [i] else []:=by
 rw[oV,kG]
 congr 1
 cases e:f i
 ·rw[if_neg (by decide),mO (by rw[e]; decide)]; rfl
 ·rw[if_pos rfl,vJ e]; rfl
noncomputable def ajb(K:ah)(c:NC):Sp:=fun vs H Q _=>∃ (F:Addr→Prop) (p tp:Addr) (n h g:Nat) (s:NS),vs = [.ref p,.int h,.int g]∧fL K c H F p tp n s∧s.groups.length=s.bY.length∧s.bY.length≤20 ∧
 ∀ l H',aL H H'→H l=none→H' l=some (.lst (bS (Bl s h g)))→Q (.ref l) H'
theorem Mf{t:Ad}(T:Txt K mg t):cW P w K mg base lH 1 t.eE t.qz ["self","house","group"]  (ajb K (nc t)):=by
 refine T.mF.ok yd (fun vs H Q E h=>?_) (fun cdv A outer s H vs Q E hr h=>?_)
 ·obtain⟨_,_,_,_,_,_,_,rfl,_⟩:=h; rfl
 ·obtain⟨F,p,tp,n,hh,g,st,rfl,N,hgl,D3,k⟩:=h
  refine⟨_,(av (bE (i:=3) yd.nd rfl (Or.inr rfl) (ia (aG (pv 1) (aG (pv 2) az))))
   (aI (bH (jI (dS (Q9:=ai dH) (N0:=["self","house","group","there"]) (N2:=["caller","self","there"]) (cap:=[none,some 0,some 3]) rfl rfl (by decide +kernel)) rfl (iX rfl T.lA (aG (cC bK (by rfl) T.jV bI (aG (bu (pv 0) rfl) az)) az)) (fun _ _ _ _=>by exact (bO (i:=0) EA rfl (be rfl))) (fun _ _ _ _=>by exact (uW (bw (aii K rfl hr.units) (ia (aG (bM (Rv K rfl) (Ra K rfl (pv 1) rfl) (pv 0) (fun _ _=>rfl)) (aG (bM (Rv K rfl) (Ra K rfl (pv 1) rfl) (pv 0) (fun _ _=>rfl)) az))) (pv 2) (bT _)))) (fun _ _ _ _=>by exact (pv 0)))))),?_⟩
  try dsimp only[bN]
  refine⟨_,rfl,_,rfl,(by show 2≤sizeLine; decide),fun z0 hz0=>?_⟩
  have u1:=aL.new (o:=.tup [V.int hh,V.int g]) hz0
  have hz:=aF (H:=H) (a:=z0) (o:=.tup [V.int hh,V.int g])
  generalize upd H z0 (.tup [V.int hh,V.int g])=H1 at u1 hz
  obtain⟨loc,dx,q,hp,O,hF,hT⟩:=N.mono u1
  have cY:=O.get .fO _ rfl
  rw[hp] at cY
  have hho:=ck.of (K:=K) (O.get .bY _ rfl)
  have hgr:=ck.of (K:=K) (O.get .groups _ rfl)
  clear hp O hF hT
  refine⟨_,rfl,p,_,_,_,_,rfl,cY,T.bU,T.sy,rfl,loc .bY,_,rfl,.inl hho,(((bS st.bY).length:Nat):Int),rfl,by omega,by rw[af]; omega,fun acc hacc=>?_⟩
  rw[af]
  refine jj (n:=((st.bY.length:Int)).toNat) (fun i ys _=>ys=bS ((aB i).filter (KH st hh g))) hacc MA As rfl ?_ ?_
  ·rintro i ys H3 hi s3 hy rfl y H4 ⟨rfl,rfl⟩
   rw[i6]
   have hix:i < st.bY.length:=by omega
   have hig:i < st.groups.length:=by omega
   have Mg:=s3 _ _ cY
   refine⟨_,rfl,p,_,_,_,_,rfl,Mg,T.bU,T.sy,rfl,_,rfl,loc .bY,_,_,_,rfl,rfl,s3.seq hho,Ax hix,_,rfl,p,_,_,_,_,rfl,Mg,T.bU,T.pT,rfl,_,rfl,loc .groups,_,_,_,rfl,rfl,s3.seq hgr,Ax hig,(by show 2≤sizeLine; decide),fun z1 hz1=>?_⟩
   have u2:=aL.new (o:=.tup [V.int (st.bY[i]:Nat),V.int (st.groups[i]:Nat)]) hz1
   have s4:=s3.trans u2
   have hy4:=u2 _ _ hy
   refine⟨_,rfl,.tuple (([(st.bY[i]:Int),(st.groups[i]:Int)]:List Int).map .int),.tuple (([(hh:Int),(g:Int)]:List Int).map .int),Rep.Wd (ns:=[(st.bY[i]:Int),(st.groups[i]:Int)]) (dP.of aF),Rep.Wd (ns:=[(hh:Int),(g:Int)]) (dP.of (s4 _ _ hz)),pq _,pq _,(by show PyData.depthAll _ + 1≤64; rw[vC]; decide),_,rfl,?_⟩
   dsimp only
   have ei:KH st hh g i=decide ((st.bY[i]:Int)=(hh:Int)∧(st.groups[i]:Int)=(g:Int)):=by
    unfold KH
    rw[aa hix,aa hig,decide_eq_decide]
    constructor
    ·rintro⟨e1,e2⟩
     exact⟨by rw[aS e1],by rw[aS e2]⟩
    ·rintro⟨e1,e2⟩
     exact⟨congrArg some (by omega),congrArg some (by omega)⟩
   rw[adz,← ei]
   refine mY (fun hc=>?_) (fun hc=>?_)
   ·refine⟨_,rfl,?_⟩
    refine ic hacc hi s4 hy4 ?_ ?_
    ·rw[af]
     refine cS (aX (br _ _) ?_)
     rw[bC]; omega
    ·rw[C5,if_pos hc,nL]
   ·refine l5 hi s4 hy4 ?_
    rw[C5,if_neg hc,cz]
  ·rintro ys H3 s3 hy rfl
   have s13:=u1.trans s3
   exact k acc H3 s13 (u1.free hacc) hy
end
end jG
set_option maxHeartbeats 4000000
namespace jG
open PySem L2 TW PyProof.Rows
open RM (fq rF bV bR)
seal L2.PE L2.PA L2.PT L2.PW L2.PS L2.oS L2.PG L2.uS L2.PI L2.uV
section
variable{P:Program}{w:World}{K:ah}{mg:Str→Option Value}{base:Heap}
noncomputable def aeT(K:ah)(CT C NW:Addr):Sp:=fun vs H Q E=>∃ (p tp lu ln lr:Addr) (ns:List Int) (rs:List R5) (ws:List (List Nat)) (i x:Int),vs = [.ref p,.int i,.int x]∧dR K CT H tp ln lr ns rs∧adt C H p tp lu ws∧ws.length=rs.length ∧
 (∀ (j:Nat) w H',i=(j:Int)→ws[j]?=some w→aL H H'→(w = []→Q .iu H')∧(∀ k:Nat,w[(x % (w.length:Int)).toNat]?=some k→w≠[]→Q (.int (k:Nat)) H'))∧(¬ (0≤i∧i < rs.length)→E (.ref NW) none H)
theorem HS{t:Ad}(T:Txt K mg t):cW P w K mg base (Rb P w) 2 t.dg t.nR ["self","rope","number"]  (aeT K t.bG t.dU t.K7):=by
 refine T.ko.okX uz (fun vs H Q E h=>?_) (fun cdv A outer s H vs Q E hr h=>?_)
 ·obtain⟨_,_,_,_,_,_,_,_,_,_,rfl,_⟩:=h; rfl
 ·obtain⟨p,tp,lu,ln,lr,ns,rs,ws,i,x,rfl,hT,hW,ew,k,kx⟩:=h
  obtain⟨⟨dx,hp⟩,_⟩:=id hW
  refine⟨_,(av (bE (i:=3) uz.nd rfl (be rfl) (bQ (pv 0) T.kW T.Jq (HR T) (hr.mono (by decide)) T.Jp .nil ajU (aG (pv 1) az)))
   (av (cU (bw Mz (pv 3) (lO az) (bT _)) (aI (bH nG)) bD)
   (aI (bH (bM cD (pv 3) (bB fc (pv 2) (cC bK (by rfl) T.jV bI (aG (pv 3) az))) (fun _ _=>rfl)))))),?_⟩
  try dsimp only[bN]
  refine⟨_,rfl,p,dx,_,rfl,hp,rfl,_,rfl,p,tp,lu,ln,lr,ns,rs,ws,i,rfl,hT,hW,ew,fun j w' l H1 ej hj s1 hl0 hl=>?_,kx⟩
  refine⟨_,rfl,bJ _,fun q hq=>?_⟩
  have s2:=aL.new (o:=.lst []) hq
  have hl2:=s2 _ _ hl
  refine⟨.list ((w'.map fun k:Nat=>(k:Int)).map .int),.list [],⟨l,_,rfl,ck.of hl2,(by rw[lR]; exact sf _)⟩,⟨q,_,rfl,ck.of aF,rfl⟩,pq _,rfl,cQ (dO (aX (Nat.min_le_right _ _) (by decide)) _) hr.units,_,rfl,?_⟩
  obtain⟨k1,k2⟩:=k j w' _ ej hj (s1.trans s2)
  cases w' with
  | nil=>exact jF (k1 rfl)
  | cons y ys =>
   refine gu ?_
   have hpos:(0:Int) < (((y :: ys).length:Nat):Int):=by rw[cE]; omega
   have hm0:=cM x (show (((y :: ys).length:Nat):Int)≠0 by omega)
   have hm1:=cR x hpos
   have hlt:(x % (((y :: ys).length:Nat):Int)).toNat < (y :: ys).length:=by omega
   refine⟨_,rfl,_,rfl,_,rfl,l,_,rfl,.inl (ck.of hl2),_,_,rfl,(by rw[af]),hpos,?_⟩
   obtain⟨z,hz⟩ : ∃ z,(y :: ys)[(x % (((y :: ys).length:Nat):Int)).toNat]?=some z:=⟨_,aa hlt⟩
   refine⟨l,_,_,V.int (z:Nat),rfl,rfl,ck.of hl2,?_,k2 z hz (by intro z; cases z)⟩
   rw[show x % (((y :: ys).length:Nat):Int)=(((x % (((y :: ys).length:Nat):Int)).toNat:Nat):Int) by omega]
   exact gv (by rw[aq,hz]; rfl)
end
end jG
set_option maxHeartbeats 4000000
namespace jG
open PySem L2 TW PyProof.Rows
open RM (fq rF bV bR)
seal L2.PE L2.PA L2.PT L2.PW L2.PS L2.oS L2.PG L2.uS L2.PI L2.uV
section
variable{P:Program}{w:World}{K:ah}{mg:Str→Option Value}{base:Heap}
noncomputable def IV(l:LS)(h:Nat):Bool:=(KY (l.done.map fun h:Nat=>((iY (h:Int):Key),V.bl true)) (iY (h:Int))).isSome
noncomputable def ajc(K:ah)(CT:Addr)(c:NC):Sp:=fun vs H Q _=>∃ (F:Addr→Prop) (loc dx:Role→Addr) (q:TQ) (p tp ln lr:Addr) (ns:List Int) (rs:List R5) (s:NS) (o:ja ns rs) (i r h:Nat) (l:LS),vs = [.ref p,.ref (loc (.cB i)),.int r,.int h]∧pD K c H F loc dx q p tp ns.length s∧NW K c CT H F p tp ln lr ns rs s∧Av ns rs s∧s.ls[i]?=some l∧l.grp < 3 ∧
 ∀ os H',aL H H'→kI (Jc ns rs o s.ws l.grp) (s.R l.grp) os→os.length≤12→Q (.str (if r∈os then (if IV l h=true then "twice" else "come") else "lost")) H'
theorem UJ{t:Ad}(T:Txt K mg t):cW P w K mg base lH 7 t.g7 t.zd ["self","posted","rope","house"]  (ajc K t.bG (nc t)):=by
 refine T.rS.ok R0 (fun vs H Q E h=>?_) (fun cdv A outer s H vs Q E hr h=>?_)
 ·obtain⟨_,_,_,_,_,_,_,_,_,_,_,_,_,_,_,_,rfl,_⟩:=h; rfl
 ·obtain⟨F,loc,dx,q,p,tp,ln,lr,ns,rs,st,o,i,r,hh,l,rfl,X,N,Mb,hli,hg,k⟩:=h
  refine⟨_,(av (cU (bw uU (pv 2) (bQ (pv 0) T.bU T.OZ (Mc T) (hr.mono (by decide)) T.OY .nil bx (aG (bu (pv 1) rfl) az)) (by with_unfolding_all rfl)) (aI (bH g9)) bD)
   (aI (bH (D6 (akA (ak2 (Zl hr) (pv 3) (bu (pv 1) rfl)) (by with_unfolding_all rfl)) g9 g9)))),?_⟩
  try dsimp only[bN]
  have cY:=X.own.get .fO _ rfl
  rw[X.hp] at cY
  have Wx:=X.own.get (.cB i) (pF (nc t) dx loc i l) (by show (st.ls[i]?.map _)=_; rw[hli]; rfl)
  have hdo:=X.own.get (.done i) (.dK (l.done.map fun h:Nat=>(iY (h:Int),.bl true))) (by show (st.ls[i]?.map _)=_; rw[hli]; rfl)
  refine⟨_,rfl,_,rfl,p,_,_,rfl,cY,rfl,_,rfl,loc (.cB i),_,_,_,_,rfl,Wx,T.dZ,T.lX,rfl,F,p,tp,ln,lr,ns,rs,st,o,l.grp,rfl,N,Mb,hg,fun lo os H1 s1 aiP hlo hOs h12=>⟨lo,_,rfl,.inl (ck.of hlo),rfl,vD _,_,rfl,?_⟩⟩
  dsimp only
  rw[if_pos rfl,Ek]
  have k:=k os H1 s1 hOs h12
  by_cases e:r∈os
  ·rw[if_pos e] at k
   rw[decide_eq_true e]
   refine gu ?_
   refine⟨_,rfl,_,rfl,loc (.cB i),_,_,_,_,rfl,s1 _ _ Wx,T.dZ,T.qB,rfl,loc (.done i),_,rfl,UT.k (k:=.inl (hh:Int)) (s1 _ _ hdo),_,rfl,?_⟩
   unfold IV at k
   refine mY (fun e2=>?_) (fun e2=>?_)
   ·rw[if_pos e2] at k
    exact k
   ·rw[if_neg e2] at k
    exact k
  ·rw[if_neg e] at k
   rw[decide_eq_false e]
   exact jF k
end
end jG
set_option maxHeartbeats 4000000
namespace jG
open PySem L2 TW PyProof.Rows
open RM (fq rF bV bR)
seal L2.PE L2.PA L2.PT L2.PW L2.PS L2.oS L2.PG L2.uS L2.PI L2.uV
section
variable{P:Program}{w:World}{K:ah}{mg:Str→Option Value}{base:Heap}
noncomputable def sA(l:LS):Nat:=if l.kd=1 then l.s + l.to + 1 else l.s
theorem ajd{t:Ad}(T:Txt K mg t){dx loc:Role→Addr}{σ:L2.St}{H:Hp}{Q:VK}{i:Nat}{l:LS}(h4:∀ Q:VK,Q (.ref (loc (.cB i))) H→WJ 4 σ H Q)(Wx:H (loc (.cB i))=some (pF (nc t) dx loc i l))(hle:H (loc (.letter i))=some (uY (nc t) (dx (.letter i)) l))(q:Q (.int (sA l:Nat)) H) :
 Rq t.jP (Str.ofString "number") (OB K) [] E0 (Rp K (WJ 4) (Str.ofString "letter")) Zd σ H Q∨Rq t.iz (Str.ofString "number") (Wv t.iz) [] E0 (Rp K (WJ 4) (Str.ofString "letter")) Zd σ H Q∨Rq t.ki (Str.ofString "number") (OB K) [] E0 (Rp K (WJ 4) (Str.ofString "letter")) Zd σ H Q:=by
 by_cases e:l.kd=1
 ·have YS:H (loc (.letter i))=some (.ins t.iz (dx (.letter i)) [("sender",.int l.s),("to",.int l.to)]):=by rw[hle]; unfold uY; rw[if_pos e]
  have ev:V.int ((l.s:Int) + (l.to:Int) + 1) = .int (sA l:Nat):=by unfold sA; rw[if_pos e]; rfl
  refine .inr (.inl ?_)
  unfold Rq Rp
  exact (h4 _ ⟨loc (.cB i),_,_,_,_,rfl,Wx,T.dZ,T.jh,rfl,loc (.letter i),dx (.letter i),_,rfl,YS,rfl,loc (.letter i),dx (.letter i),l.s,l.to,rfl,YS,(by rw[ev]; exact q)⟩)
 ·have YS:H (loc (.letter i))=some (.ins t.ki (dx (.letter i)) [("sender",.int l.s)]):=by rw[hle]; unfold uY; rw[if_neg e]
  have ev:V.int (l.s:Int) = .int (sA l:Nat):=by unfold sA; rw[if_neg e]
  refine .inr (.inr ?_)
  unfold Rq Rp
  exact (h4 _ ⟨loc (.cB i),_,_,_,_,rfl,Wx,T.dZ,T.jh,rfl,loc (.letter i),dx (.letter i),_,rfl,YS,rfl,loc (.letter i),t.ki,dx (.letter i),l.s,rfl,YS,T.BQ,T.pQ,(by rw[ev]; exact q)⟩)
noncomputable def aaP(s:NS)(i h r x f:Nat):NS:={ rG s i (.send h r x) with cps:=s.cps++[⟨i,r,x,f⟩] }
noncomputable def aje(K:ah)(CT:Addr)(c:NC):Sp:=fun vs H Q _=>∃ (F:Addr→Prop) (p tp ln lr:Addr) (ns:List Int) (rs:List R5) (s:NS) (i h r:Nat) (l:LS) (re:R5) (w:List Nat) (x:Nat),vs = [.ref p,.int i,.int h,.int r]∧NW K c CT H F p tp ln lr ns rs s∧ja ns rs∧Av ns rs s∧s.ls[i]?=some l∧l.aU.length < 1000000∧s.cps.length < 1000000∧rs[r]?=some re∧s.ws[r]?=some w∧w[(((sA l:Nat):Int) % (w.length:Int)).toNat]?=some x∧w≠[] ∧
 ∀ F' H',NW K c CT H' F' p tp ln lr ns rs (aaP s i h r x (ie re h))→Step H F H' F'→Q .iu H'
theorem aaQ{t:Ad}(T:Txt K mg t):cW P w K mg base lH 3 t.kh t.Jl ["self","number","house","rope"]  (aje K t.bG (nc t)):=by
 refine T.BO.ok EB (fun vs H Q E h=>?_) (fun cdv A outer s H vs Q E hr h=>?_)
 ·obtain⟨_,_,_,_,_,_,_,_,_,_,_,_,_,_,_,rfl,_⟩:=h; rfl
 ·obtain⟨F,p,tp,ln,lr,ns,rs,st,i,hh,r,l,re,w',x,rfl,N,tok,Mb,hli,hld,hcl,hre,hw,hwx,hwn,k⟩:=h
  refine⟨_,(av (bE (i:=4) EB.nd rfl (be rfl) (bM cD (bu (pv 0) rfl) (pv 1) (fun _ _=>rfl)))
   (av (bE (i:=5) EB.nd rfl (be rfl) (bQ (bu (pv 0) rfl) T.kW T.Js (HS T) (hr.mono (by decide)) T.Jr .nil afQ (aG (pv 3) (aG (ME (mX (bu (pv 4) rfl) T.Si T.Qn (Bj T) (hr.mono (by decide)) T.De .nil bx) (ME (mX (bu (pv 4) rfl) T.rT T.Sa (QY T) (hr.mono (by decide)) T.R9 .nil bx) (mX (bu (pv 4) rfl) T.BQ T.Sj (Bj T) (hr.mono (by decide)) T.De .nil bx))) az))))
   (av (cJ (o6 aY bg bf er (bu (pv 4) rfl) (aG (ia (aG g9 (aG (pv 2) (aG (pv 3) (aG (pv 5) az))))) az)))
   (aI (cJ (o6 aY bg bf er (bu (pv 0) rfl) (aG (ia (aG (pv 1) (aG (pv 3) (aG (pv 5) (aG (bQ (bu (pv 0) rfl) T.gB T.wk (uu T) (hr.mono (by decide)) T.wg .nil bx (aG (pv 3) (aG (pv 2) az))) az))))) az))))))),?_⟩
  try dsimp only[bN]
  obtain⟨loc,dx,q,hp,O,hF,hT⟩:=id N.fO
  have cY:=O.get .fO _ rfl
  rw[hp] at cY
  have hil:=(aj.mp hli).1
  have hrl:=(aj.mp hre).1
  have hll:=O.get .c6 _ rfl
  have Wx:=O.get (.cB i) (pF (nc t) dx loc i l) (by show (st.ls[i]?.map _)=_; rw[hli]; rfl)
  have hle:=O.get (.letter i) (uY (nc t) (dx (.letter i)) l) (by show (st.ls[i]?.map _)=_; rw[hli]; rfl)
  refine⟨_,rfl,p,_,_,_,_,rfl,cY,T.bU,T.fP,rfl,_,rfl,loc .c6,_,_,_,rfl,rfl,ck.of hll,sI hil,?_⟩
  refine⟨_,rfl,p,_,_,_,_,rfl,cY,T.bU,T.ze,rfl,loc .fS,dx .fS,_,rfl,O.get .fS _ rfl,rfl,_,rfl,?_⟩
  have hde:=O.get (.aU i) (.lst ((q.dq i).map V.ref)) (by show (st.ls[i]?.map _)=_; rw[hli]; rfl)
  refine ajd T (l:=l) (fun Q q=>⟨_,rfl,q⟩) Wx hle ?_
  refine⟨loc .fS,tp,loc .jY,ln,lr,ns,rs,st.ws,r,(sA l:Nat),rfl,N.Au,O.strAt,Mb.wl,fun j w2 H1 ej hj s1=>⟨fun z=>?_,fun kk hk _=>?_⟩,fun z=>absurd ⟨by omega,by omega⟩ z⟩
  ·have:j=r:=by omega
   subst this
   rw[hw] at hj
   cases hj
   exact absurd z hwn
  have:j=r:=by omega
  subst this
  rw[hw] at hj
  cases hj
  rw[hwx] at hk
  cases hk
  have X1:pD K (nc t) H1 F loc dx q p tp ns.length st:=pD.mono ⟨hp,O,hF,hT⟩ s1
  have hdq:=(X1.tup.aU i _ hli).len
  rw[af] at hdq
  refine⟨_,rfl,loc (.cB i),_,_,_,_,rfl,s1 _ _ Wx,T.dZ,T.jQ,rfl,.inl ⟨rfl,_,ck.of (s1 _ _ hde)⟩,_,rfl,_,rfl,_,rfl,(by show 4≤sizeLine; decide),fun z1 hz1=>?_⟩
  have u1:=aL.new (o:=.tup [V.str "send",V.int hh,V.int j,V.int x]) hz1
  refine⟨loc (.aU i),_,_,rfl,rfl,u1 _ _ (s1 _ _ hde),oB (by rw[af,hdq]; omega),?_⟩
  obtain⟨X2,st2⟩:=K3 (X1.mono u1) hli (d:=.send hh j x) (dP.of aF)
  have ami:=(Step.refl' (F:=F) (s1.trans u1)).trans st2
  have N2:=N.done ami X2.fO
  generalize upd (upd H1 z1 (.tup [V.str "send",V.int hh,V.int j,V.int x])) (loc (.aU i)) (.lst ((q.dq i).map V.ref++[.ref z1]))=H2 at X2 ami N2
  clear st2 u1 hz1 X1 hde hdq
  have Hf:=X2.own.get .fO _ rfl
  rw[X2.hp] at Hf
  have aoU:=X2.own.get .nN _ rfl
  obtain⟨⟨dt,ar3⟩,_⟩:=id N2.Au
  have hcq:q.cq.length=st.cps.length:=by
   have z:=X2.tup.cps.len
   rw[af] at z
   exact z
  obtain⟨_,rfl⟩:=aj.mp hre
  refine⟨_,rfl,p,_,_,_,_,rfl,Hf,T.bU,T.pU,rfl,.inl ⟨rfl,_,ck.of aoU⟩,_,rfl,_,rfl,_,rfl,_,rfl,p,_,_,_,_,rfl,Hf,T.bU,T.qC,rfl,tp,dt,_,rfl,ar3,rfl,_,rfl,_,rfl,tp,ln,lr,ns,rs,j,_,hh,rfl,N2.Au,hre,?_⟩
  rw[ads (h:=hh) hrl tok.ok]
  refine⟨(by show 4≤sizeLine; decide),fun z2 hz2=>?_⟩
  have u2:=aL.new (o:=.tup [V.int i,V.int j,V.int x,V.int (ie rs[j] hh:Nat)]) hz2
  refine⟨loc .nN,_,_,rfl,rfl,u2 _ _ aoU,oB (by rw[af,hcq]; omega),?_⟩
  have X3:=X2.mono u2
  obtain⟨X4,Wc⟩:=ady X3 (qs:=q.cq++[z2]) (cps:=st.cps++[⟨i,j,x,ie rs[j] hh⟩]) (by rw[aO]; exact X3.tup.cps.snoc (dP.of aF))
  rw[aO] at X4 Wc
  have st5:=(ami.trans (Step.refl' (F:=F) u2)).trans Wc
  refine k F _ ?_ st5
  unfold aaP
  rw[gF hli]
  exact N.done st5 X4.fO
end
end jG
set_option maxHeartbeats 4000000
namespace jG
open PySem L2 TW PyProof.Rows
open RM (fq rF bV bR)
seal L2.PE L2.PA L2.PT L2.PW L2.PS L2.oS L2.PG L2.uS L2.PI L2.uV
section
noncomputable def uP(ds:List Nat)(h:Nat):List Nat:=if h∈ds then ds else ds++[h]
theorem aeU{ds:List Nat}{h:Nat}:putK (ds.map fun h:Nat=>((iY (h:Int):Key),V.bl true)) (iY (h:Int)) (V.bl true)=(uP ds h).map fun h:Nat=>((iY (h:Int):Key),V.bl true):=by
 have e:((ds.map fun h:Nat=>((iY (h:Int):Key),V.bl true)).any fun kv=>decide (kv.1=(iY (h:Int):Key)))=decide (h∈ds):=by
  rw[oX,List.any_map,Br,decide_eq_true_iff]
  constructor
  ·rintro⟨x,hx,e⟩
   have e:=Sum.inl.inj (of_decide_eq_true e)
   have:x=h:=by omega
   exact this ▸ hx
  ·exact fun hx=>⟨h,hx,decide_eq_true rfl⟩
 unfold putK uP
 rw[e]
 by_cases z:h∈ds
 ·rw[if_pos (decide_eq_true z),if_pos z,gx]
  refine eX fun x _=>?_
  show (if _ then _ else _)=_
  split <;> rfl
 ·rw[if_neg (by rw[decide_eq_true_iff]; exact z),if_neg z,aO]
  rfl
structure Fr(s s':NS):Prop where
 ws:s'.ws=s.ws
 R:s'.R=s.R
 ts:s'.ts=s.ts
 bY:s'.bY=s.bY
 groups:s'.groups=s.groups
 lt:∀ (i:Nat) (l:LS),s.ls[i]?=some l→∃ l':LS,s'.ls[i]?=some l'∧l'.s=l.s∧l'.to=l.to∧l'.kd=l.kd∧l'.grp=l.grp∧l'.old=l.old
theorem Fr.refl(s:NS):Fr s s:=⟨rfl,rfl,rfl,rfl,rfl,fun _ l h=>⟨l,h,rfl,rfl,rfl,rfl,rfl⟩⟩
theorem Fr.trans{a b c:NS}(f:Fr a b)(g:Fr b c):Fr a c:=by
 refine⟨g.ws.trans f.ws,g.R.trans f.R,g.ts.trans f.ts,g.bY.trans f.bY,g.groups.trans f.groups,fun i l h=>?_⟩
 obtain⟨l',h1,e1,e2,e3,e4,e5⟩:=f.lt i l h
 obtain⟨l2,h2,f1,f2,f3,f4,f5⟩:=g.lt i l' h1
 exact⟨l2,h2,f1.trans e1,f2.trans e2,f3.trans e3,f4.trans e4,f5.trans e5⟩
theorem Fr.ok{ns:List Int}{rs:List R5}{s s':NS}(f:Fr s s')(h:Av ns rs s):Av ns rs s' :=
 ⟨by rw[f.ws]; exact h.wl,by rw[f.ws]; exact h.w4,by rw[f.R]; exact h.fit⟩
theorem akc{s:NS}{i:Nat}{l l2:LS}{had:List (List Nat)}{cps:List Cp}(hl:s.ls[i]?=some l)(e1:l2.s=l.s)(e2:l2.to=l.to)(e3:l2.kd=l.kd)(e4:l2.grp=l.grp)(e5:l2.old=l.old):Fr s { s with ls:=s.ls.set i l2,had:=had,cps:=cps }:=by
 refine⟨rfl,rfl,rfl,rfl,rfl,fun k l' h=>?_⟩
 show ∃ l',(s.ls.set i l2)[k]?=some l'∧_
 rw[kZ (aj.mp hl).1]
 by_cases z:k=i
 ·subst z
  rw[hl] at h
  cases h
  exact⟨l2,if_pos rfl,e1,e2,e3,e4,e5⟩
 ·exact⟨l',by rw[if_neg z]; exact h,rfl,rfl,rfl,rfl,rfl⟩
theorem adH{s:NS}{i:Nat}{d:eS}:Fr s (rG s i d):=by
 cases h:s.ls[i]? with
 | none=>unfold rG; rw[h]; exact Fr.refl s
 | some l=>rw[gF h]; exact akc h rfl rfl rfl rfl rfl
structure Bd(n m D:Nat)(s:NS):Prop where
 gl:s.groups.length=s.bY.length
 D3:s.bY.length≤20
 g3:∀ g∈s.groups,g < 3
 hm:∀ h∈s.bY,h < n
 hl:s.had.length=s.bY.length
 hb:∀ w∈s.had,w.length≤D
 ll:s.ls.length≤D
 lb:∀ l∈s.ls,l.aU.length + s.cps.length≤D∧l.done.length≤D∧l.grp < 3∧(l.kd=1∨l.kd=2)
 cb:s.cps.length≤D
 cl:∀ c∈s.cps,c.l < s.ls.length∧c.r < m∧c.h < n
 tb:∀ g,50 * (s.ts g).length≤D∧jX (s.ts g)
theorem Bd.mono{n m D D':Nat}{s:NS}(b:Bd n m D s)(h:D≤D'):Bd n m D' s :=
 ⟨b.gl,b.D3,b.g3,b.hm,b.hl,fun w z=>aX (b.hb w z) h,aX b.ll h,fun l z=>⟨aX (b.lb l z).1 h,aX (b.lb l z).2.1 h,(b.lb l z).2.2⟩,aX b.cb h,b.cl,fun g=>⟨aX (b.tb g).1 h,(b.tb g).2⟩⟩
theorem Bd.set{n m D:Nat}{s:NS}{i:Nat}{l l2:LS}(b:Bd n m D s)(k:Nat)(hl:s.ls[i]?=some l){cps:List Cp}{had:List (List Nat)}(e1:cps.length≤s.cps.length + 1)(k2:cps.length≤s.cps.length∨2≤k)(k1:1≤k)(e2:l2.aU.length + cps.length≤l.aU.length + s.cps.length + k)(e3:l2.done.length≤l.done.length + k)(e4:l2.grp=l.grp)(e5:l2.kd=l.kd)
 (hc:∀ c∈cps,c∈s.cps∨(c.l < s.ls.length∧c.r < m∧c.h < n)) (hh:had.length=s.had.length) (hw:∀ w∈had,w.length≤D + k):Bd n m (D + k) { s with ls:=s.ls.set i l2,had:=had,cps:=cps }:=by
 have hi:=b.lb l (bz hl)
 refine⟨b.gl,b.D3,b.g3,b.hm,hh.trans b.hl,hw,?_,fun l' z=>?_,?_,fun c z=>?_,fun g=>⟨aX (b.tb g).1 (Bq _ _),(b.tb g).2⟩⟩
 ·show (s.ls.set i l2).length≤_
  rw[eY]
  have:=b.ll
  omega
 ·rcases List.mem_or_eq_of_mem_set z with z | rfl
  ·have h:=b.lb l' z
   refine⟨?_,?_,h.2.2⟩
   ·show l'.aU.length + cps.length≤_
    have:=h.1
    omega
   ·have:=h.2.1
    omega
  ·refine⟨?_,?_,e4 ▸ hi.2.2.1,e5 ▸ hi.2.2.2⟩
   ·show l'.aU.length + cps.length≤_
    have:=hi.1
    omega
   ·have:=hi.2.1
    omega
 ·show cps.length≤_
  have:=b.cb
  omega
 ·show c.l < (s.ls.set i l2).length∧_
  rw[eY]
  rcases hc c z with y | y
  ·exact b.cl c y
  ·exact y
theorem Bd.av6{n m D:Nat}{s:NS}(b:Bd n m D s)(i:Nat)(d:eS):Bd n m (D + 1) (rG s i d):=by
 cases h:s.ls[i]? with
 | none=>unfold rG; rw[h]; exact b.mono (iD D)
 | some l =>
  rw[gF h]
  refine b.set 1 h (iD _) (.inl (aK _)) (aK _) ?_ (iD _) rfl rfl (fun c z=>.inl z) rfl (fun w z=>qm (b.hb w z))
  show (l.aU++[d]).length + _≤_
  rw[aH]
  show l.aU.length + 1 + _≤_
  omega
noncomputable def gm(s:NS)(i h:Nat)(l:LS):NS:={ s with ls:=s.ls.set i { l with done:=uP l.done h } }
theorem adI{s:NS}{i h:Nat}{l:LS}(hl:s.ls[i]?=some l):Fr s (gm s i h l):=akc hl rfl rfl rfl rfl rfl
theorem adJ{n m D:Nat}{s:NS}{i h:Nat}{l:LS}(b:Bd n m D s)(hl:s.ls[i]?=some l):Bd n m (D + 1) (gm s i h l):=by
 refine b.set 1 hl (iD _) (.inl (aK _)) (aK _) (iD _) ?_ rfl rfl (fun c z=>.inl z) rfl (fun w z=>qm (b.hb w z))
 show (uP l.done h).length≤_
 unfold uP
 split
 ·exact iD _
 ·rw[aH]; exact aK _
noncomputable def uv(s:NS)(i c:Nat):NS:={ s with had:=s.had.set c (s.had.getD c []++[i]) }
noncomputable def oQ(i h:Nat)(s:NS)(c:Nat):NS:=rG (uv s i c) i (.hand h c)
theorem YT{s:NS}{i h c:Nat}:Fr s (oQ i h s c):=Fr.trans (b:=uv s i c) ⟨rfl,rfl,rfl,rfl,rfl,fun _ l h=>⟨l,h,rfl,rfl,rfl,rfl,rfl⟩⟩ adH
theorem YU{n m D:Nat}{s:NS}{i h c:Nat}(b:Bd n m D s):Bd n m (D + 1) (oQ i h s c):=by
 have q:∀ w∈(uv s i c).had,w.length≤D + 1:=fun w z=>by
  rcases List.mem_or_eq_of_mem_set z with y | rfl
  ·exact qm (b.hb w y)
  ·rw[aH]
   refine lF ?_ 1
   rw[aD]
   cases e:s.had[c]? with
   | none=>exact bJ _
   | some w=>exact b.hb w (bz e)
 unfold oQ
 cases h':s.ls[i]? with
 | none =>
  unfold rG
  rw[show (uv s i c).ls[i]?=none from h']
  have b1:=b.mono (iD D)
  exact⟨b1.gl,b1.D3,b1.g3,b1.hm,by show (s.had.set _ _).length=_; rw[eY]; exact b1.hl,q,b1.ll,b1.lb,b1.cb,b1.cl,b1.tb⟩
 | some l =>
  rw[gF (show (uv s i c).ls[i]?=some l from h')]
  refine b.set 1 h' (iD _) (.inl (aK _)) (aK _) ?_ (iD _) rfl rfl (fun c z=>.inl z) (by show (s.had.set _ _).length=_; rw[eY]) q
  show (l.aU++[_]).length + s.cps.length≤_
  rw[aH]
  show l.aU.length + 1 + s.cps.length≤_
  omega
noncomputable def uQ(ws:List (List Nat))(r k:Nat):Nat:=match ws[r]? with | some w=>w.getD (k % w.length) 0 | none=>0
noncomputable def kO(rs:List R5)(r h:Nat):Nat:=match rs[r]? with | some re=>ie re h | none=>0
noncomputable def aeV(s:NS)(i:Nat):Nat:=match s.ls[i]? with | some l=>sA l | none=>0
noncomputable def yO(rs:List R5)(i h:Nat)(s:NS)(r:Nat):NS:=aaP s i h r (uQ s.ws r (aeV s i)) (kO rs r h)
theorem YV{rs:List R5}{s:NS}{i h r:Nat}:Fr s (yO rs i h s r):=Fr.trans (adH (i:=i) (d:=.send h r (uQ s.ws r (aeV s i)))) ⟨rfl,rfl,rfl,rfl,rfl,fun _ l h=>⟨l,h,rfl,rfl,rfl,rfl,rfl⟩⟩
theorem abK{ns:List Int}{rs:List R5}(o:ja ns rs){r h:Nat}(hr:r < rs.length):kO rs r h < ns.length:=by
 unfold kO
 rw[aa hr]
 have k:=o.ok _ (aW hr)
 have h1:=k.a0; have h2:=k.b0; have h3:=k.a1; have h4:=k.b1
 show ie _ _ < _
 unfold ie
 split <;> omega
theorem adK{ns:List Int}{rs:List R5}(o:ja ns rs){D:Nat}{s:NS}{i h r:Nat}(b:Bd ns.length rs.length D s)(hi:i < s.ls.length)(hr:r < rs.length):Bd ns.length rs.length (D + 2) (yO rs i h s r):=by
 have h':=aa hi
 unfold yO aaP
 rw[gF h']
 refine b.set 2 h' (by rw[aH]; exact aK _) (.inr (aK _)) (by decide) ?_ (Bq _ _) rfl rfl (fun c z=>?_) rfl (fun w z=>aX (b.hb w z) (Bq _ _))
 ·show (s.ls[i].aU++[_]).length + (s.cps++[_]).length≤_
  rw[aH,aH]
  show s.ls[i].aU.length + 1 + (s.cps.length + 1)≤_
  omega
 ·rcases cy.mp z with y | y
  ·exact .inl y
  ·rw[bX] at y
   subst y
   exact .inr ⟨hi,hr,abK o hr⟩
theorem Mh{f:NS→Nat→NS}(h:∀ s x,Fr s (f s x)):∀ (xs:List Nat) (s:NS),Fr s (xs.foldl f s)
 | [],s=>Fr.refl s
 | x :: xs,s=>(h s x).trans (Mh h xs (f s x))
theorem Hy{n m k:Nat}{f:NS→Nat→NS}(I:NS→Prop):∀ (xs:List Nat) (s:NS) (D:Nat),(∀ s x D,x∈xs→I s→Bd n m D s→I (f s x)∧Bd n m (D + k) (f s x))→I s→Bd n m D s→Bd n m (D + k * xs.length) (xs.foldl f s)
 | [],s,D,_,_,b=>b
 | x :: xs,s,D,h,i,b=>by
  obtain⟨i1,b1⟩:=h s x D cN i b
  have:=Hy I xs (f s x) (D + k) (fun s y D z=>h s y D (bP _ z)) i1 b1
  refine this.mono (Nat.le_of_eq ?_)
  rw[cE,Nat.mul_succ]
  omega
theorem Wy{f:NS→Nat→NS}{xs:List Nat}{s:NS}{j:Nat}(h:j < xs.length):(xs.take (j + 1)).foldl f s=f ((xs.take j).foldl f s) xs[j]:=by
 rw[k7 h,yT]
 rfl
noncomputable def oR(s:NS)(l:LS)(h:Nat):List Nat:=(Bl s h l.grp).filter fun c=>Jb l.s l.to l.kd c
noncomputable def YW(rs:List R5)(s:NS)(l:LS)(h:Nat)(eu:Option Nat)(os:List Nat):List Nat:=(onP (s.ts l.grp) (yb l.to l.kd) h (eu.map fun k:Nat=>(k:Int)) ((os.filter (isAt rs h)).map fun k:Nat=>(k:Int)) ((Bl s h l.grp).map fun k:Nat=>(k:Int))).map Int.toNat
noncomputable def doL(rs:List R5)(s:NS)(i h:Nat)(l:LS)(eu:Option Nat)(os:List Nat):NS:=(YW rs s l h eu os).foldl (yO rs i h) ((oR s l h).foldl (oQ i h) (gm s i h l))
theorem YX{ts:List T3}{so:Option Int}{pB:Int}{eu:Option Int}{os hs:List Int}:(∀ x∈onP ts so pB eu os hs,x∈os)∧(onP ts so pB eu os hs).length≤os.length:=by
 have f:(∀ x∈os.filter (qt eu),x∈os)∧(os.filter (qt eu)).length≤os.length:=⟨fun x z=>(eV.mp z).1,br _ _⟩
 unfold onP
 split
 ·exact f
 ·split
  ·exact⟨fun x z=>absurd z (by simp),bJ _⟩
  ·split
   ·split
    ·rename_i r _ hr
     refine⟨fun x z=>?_,?_⟩
     ·have:=(eV.mp z).1
      rw[bX] at this
      exact this ▸ hr
     ·refine aX (br _ _) ?_
      show 1≤os.length
      cases os with
      | nil=>cases hr
      | cons=>simp
    ·exact f
   ·exact f
theorem ajf{rs:List R5}{s:NS}{l:LS}{h:Nat}{eu:Option Nat}{os:List Nat}:(onP (s.ts l.grp) (yb l.to l.kd) h (eu.map fun k:Nat=>(k:Int)) ((os.filter (isAt rs h)).map fun k:Nat=>(k:Int)) ((Bl s h l.grp).map fun k:Nat=>(k:Int))).map V.int=bS (YW rs s l h eu os):=by
 unfold YW
 rw[bS,gx]
 refine eX fun x hx=>?_
 obtain⟨k,_,rfl⟩:=bA.mp (YX.1 x hx)
 rfl
theorem adL{rs:List R5}{s:NS}{l:LS}{h:Nat}{eu:Option Nat}{os:List Nat}:(∀ r∈YW rs s l h eu os,r∈os)∧(YW rs s l h eu os).length≤os.length:=by
 unfold YW
 refine⟨fun r hr=>?_,?_⟩
 ·obtain⟨x,hx,rfl⟩:=bA.mp hr
  obtain⟨k,hk,rfl⟩:=bA.mp (YX.1 x hx)
  exact (eV.mp hk).1
 ·rw[af]
  refine aX YX.2 ?_
  rw[af]
  exact br _ _
theorem aaR{s:NS}{l:LS}{h:Nat}:(∀ c∈oR s l h,c < s.bY.length)∧(oR s l h).length≤s.bY.length:=by
 unfold oR Bl
 refine⟨fun c z=>fQ.mp (eV.mp (eV.mp z).1).1,?_⟩
 refine aX (br _ _) (aX (br _ _) ?_)
 rw[bC]
 exact aK _
theorem Bm{ns:List Int}{rs:List R5}{o:ja ns rs}{s:NS}{g:Nat}{os:List Nat}(O:kI (Jc ns rs o s.ws g) (s.R g) os){r:Nat}(hr:r∈os):r < rs.length∧∃ w,s.ws[r]?=some w∧w≠[]:=by
 obtain⟨a,b,t⟩:=(O.2 r).mp hr
 have m:r∈ZE rs s.ws g:=t.Eh.1
 refine⟨Aw r m,?_⟩
 have e:=(eV.mp m).2
 unfold isLive at e
 split at e
 ·rename_i re w h1 h2
  refine⟨w,h2,fun z=>?_⟩
  subst z
  cases e
 ·cases e
end
end jG
set_option maxHeartbeats 4000000
namespace jG
open PySem L2 TW PyProof.Rows
open RM (fq rF bV bR)
seal L2.PE L2.PA L2.PT L2.PW L2.PS L2.oS L2.PG L2.uS L2.PI L2.uV
section
variable{P:Program}{w:World}{K:ah}{mg:Str→Option Value}{base:Heap}
theorem amk{c:NC}{H:Hp}{a dx:Addr}{l:LS}{cL:Addr}(h:H a=some (uY c dx l))(k:l.kd=1∨l.kd=2):OR cL c.let1 c.an8 H a l.s l.to l.kd:=by
 rcases k with e | e
 ·rw[e]
  refine .one dx ?_
  rw[h]; unfold uY; rw[if_pos e]
 ·rw[e]
  refine .all dx ?_
  rw[h]; unfold uY; rw[if_neg (by rw[e]; decide)]
noncomputable def aoV(K:ah)(CT:Addr)(c:NC):Sp:=fun vs H Q _=>∃ (F:Addr→Prop) (p tp ln lr:Addr) (ns:List Int) (rs:List R5) (s:NS) (o:ja ns rs) (i h:Nat) (eu:Option Nat) (l:LS) (D:Nat),vs = [.ref p,.int i,.int h,Ep (eu.map fun k:Nat=>(k:Int))]∧NW K c CT H F p tp ln lr ns rs s∧Av ns rs s∧Bd ns.length rs.length D s∧D≤900000∧s.ls[i]?=some l ∧
 ∀ os F' H',kI (Jc ns rs o s.ws l.grp) (s.R l.grp) os→os.length≤12→NW K c CT H' F' p tp ln lr ns rs (doL rs s i h l eu os)→Step H F H' F'→Q .iu H'
theorem Bo{t:Ad}(T:Txt K mg t):cW P w K mg base lH 7 t.fJ t.sO ["self","number","house","came"]  (aoV K t.bG (nc t)):=by
 refine T.nh.ok fN (fun vs H Q E h=>?_) (fun cdv A outer s H vs Q E hr h=>?_)
 ·obtain⟨_,_,_,_,_,_,_,_,_,_,_,_,_,_,rfl,_⟩:=h; rfl
 ·obtain⟨F,p,tp,ln,lr,ns,rs,st,o,i,hh,eu,l,D,rfl,N,Mb,bd,hD,hli,k⟩:=h
  refine⟨_,(av (bE (i:=4) fN.nd rfl (be rfl) (bM cD (bu (pv 0) rfl) (pv 1) (fun _ _=>rfl)))
   (av (bE (i:=5) fN.nd rfl (be rfl) (bu (pv 4) rfl))
   (av (adk (Zl hr) (bu (pv 4) rfl) (pv 2) uw rfl)
   (av (bE (i:=6) fN.nd rfl (be rfl) (cK (acQ T) (hr.mono (by decide)) rfl T.aeA T.AB.kp T.aez .nil bx (aG (bu (pv 0) rfl) (aG (bQ (pv 0) T.bU T.Ju (G9 T) (hr.mono (by decide)) T.Jt .nil bx (aG (pv 5) az)) (aG (bQ (pv 0) T.bU T.BK (yN T) (hr.mono (by decide)) T.BJ .nil bx (aG (pv 5) az)) (aG (pv 2) az))))))
   (av (bE (i:=7) fN.nd rfl (be rfl) (bQ (pv 0) T.bU T.MZ (Mf T) (hr.mono (by decide)) T.MY .nil bx (aG (pv 2) (aG (pv 5) az))))
   (av (bE (i:=8) fN.nd rfl (be rfl) (cK (acS T) (hr.mono (by decide)) rfl T.aey T.AA.kp T.aex .nil bx (aG (bM cD (bu (pv 0) rfl) (pv 5) (fun _ _=>rfl)) (aG (bu (pv 4) rfl) (aG (pv 2) (aG (pv 3) (aG (pv 6) (aG (pv 7) az))))))))
   (av (jW PassesOwn.never rfl (gD (bM dQ (pv 8) aJ (fun _ _=>rfl))) (bO (i:=9) fN.nd rfl (be rfl)) (av (cJ (o6 aY bg bf er (bM cD (bu (pv 0) rfl) (pv 9) (fun _ _=>rfl)) (aG (pv 1) az)))
   (aI (cJ (o6 aY bg bf er (bu (pv 4) rfl) (aG (ia (aG g9 (aG (pv 2) (aG (pv 9) az)))) az))))))
   (aI (jW PassesOwn.never rfl (gD (bM dQ (pv 8) aJ (fun _ _=>rfl))) (bO (i:=10) fN.nd rfl (be rfl)) (aI (cJ (bQ (pv 0) T.bU T.ab4 (aaQ T) (hr.mono (by decide)) T.ab3 .nil bx (aG (pv 1) (aG (pv 2) (aG (pv 10) az))))))))))))))),?_⟩
  try dsimp only[bN]
  obtain⟨loc,dx,q,hp,O,hF,hT⟩:=id N.fO
  have X:pD K (nc t) H F loc dx q p tp ns.length st:=⟨hp,O,hF,hT⟩
  have cY:=O.get .fO _ rfl
  rw[hp] at cY
  have hil:=(aj.mp hli).1
  obtain⟨lb1,lb2,hg,lkd⟩:=bd.lb l (bz hli)
  have hll:=O.get .c6 _ rfl
  have Wx:=O.get (.cB i) (pF (nc t) dx loc i l) (by show (st.ls[i]?.map _)=_; rw[hli]; rfl)
  have hdo:=O.get (.done i) (.dK (l.done.map fun h:Nat=>(iY (h:Int),.bl true))) (by show (st.ls[i]?.map _)=_; rw[hli]; rfl)
  refine⟨_,rfl,p,_,_,_,_,rfl,cY,T.bU,T.fP,rfl,_,rfl,loc .c6,_,_,_,rfl,rfl,ck.of hll,sI hil,?_⟩
  refine⟨_,rfl,loc (.cB i),_,_,_,_,rfl,Wx,T.dZ,T.lX,rfl,?_⟩
  refine⟨_,rfl,loc (.cB i),_,_,_,_,rfl,Wx,T.dZ,T.qB,rfl,_,rfl,loc (.done i),_,rfl,Zi.k (k:=.inl (hh:Int)) hdo (oB (by rw[af]; omega)),?_⟩
  rw[aeU]
  obtain⟨X1,st1⟩:=af4 X hli (uP l.done hh)
  have N1:=N.done st1 X1.fO
  generalize upd H (loc (.done i)) (.dK ((uP l.done hh).map fun h:Nat=>((iY (h:Int):Key),V.bl true)))=H1 at X1 st1 N1
  have fr1:=adI (h:=hh) hli
  have bd1:=adJ (h:=hh) bd hli
  have es1:gm st i hh l = { st with ls:=st.ls.set i { l with done:=uP l.done hh } }:=rfl
  rw[← es1] at X1 N1
  have OE:(gm st i hh l).ls[i]?=some { l with done:=uP l.done hh }:=by
   show (st.ls.set i _)[i]?=_
   rw[kZ hil,if_pos rfl]
  have ets:(gm st i hh l).ts=st.ts:=rfl
  have ehe:Bl (gm st i hh l) hh l.grp=Bl st hh l.grp:=rfl
  have k1:∀ os F' H',kI (Jc ns rs o (gm st i hh l).ws l.grp) ((gm st i hh l).R l.grp) os→os.length≤12→NW K (nc t) t.bG H' F' p tp ln lr ns rs ((YW rs st l hh eu os).foldl (yO rs i hh) ((oR st l hh).foldl (oQ i hh) (gm st i hh l)))→Step H1 F H' F'→Q .iu H':=fun os F' H' a b c d=>k os F' H' a b c (st1.trans d)
  have aeW:=fr1.ok Mb
  have ehd:oR st l hh=(Bl (gm st i hh l) hh l.grp).filter fun c:Nat=>Jb l.s l.to l.kd c:=rfl
  have ego:∀ os,YW rs st l hh eu os=(onP ((gm st i hh l).ts l.grp) (yb l.to l.kd) hh (eu.map fun k:Nat=>(k:Int)) ((os.filter (isAt rs hh)).map fun k:Nat=>(k:Int)) ((Bl (gm st i hh l) hh l.grp).map fun k:Nat=>(k:Int))).map Int.toNat:=fun os=>rfl
  have hgi:∀ os,(onP ((gm st i hh l).ts l.grp) (yb l.to l.kd) hh (eu.map fun k:Nat=>(k:Int)) ((os.filter (isAt rs hh)).map fun k:Nat=>(k:Int)) ((Bl (gm st i hh l) hh l.grp).map fun k:Nat=>(k:Int))).map V.int=bS (YW rs st l hh eu os):=fun os=>ajf
  have hgs:∀ os,(∀ r∈YW rs st l hh eu os,r∈os)∧(YW rs st l hh eu os).length≤os.length:=fun os=>adL
  have hhl:(∀ c∈oR st l hh,c < (gm st i hh l).bY.length)∧(oR st l hh).length≤(gm st i hh l).bY.length:=aaR
  have hhi:((Bl (gm st i hh l) hh l.grp).map fun k:Nat=>(k:Int)).filter (Jb l.s l.to l.kd)=(oR st l hh).map fun k:Nat=>(k:Int):=by
   rw[ehd,List.filter_map]
   rfl
  generalize YW rs st l hh eu=gs at k1 hgi hgs
  generalize oR st l hh=hs at k1 hhl hhi
  clear ego ehd ehe ets es1 k hll Wx hdo cY X st1 fr1 Mb N O hF hT hli bd
  generalize gm st i hh l=s1 at X1 N1 bd1 k1 OE aeW hgi hhl hhi
  clear hil hp
  have awa:=(aj.mp OE).1
  have oO:=X1.own.get .fO _ rfl
  rw[X1.hp] at oO
  refine⟨_,rfl,p,_,_,_,_,rfl,oO,T.bU,T.qC,rfl,?_⟩
  refine⟨_,rfl,p,_,_,rfl,oO,rfl,_,rfl,F,p,tp,ln,lr,ns,rs,s1,l.grp,rfl,N1,o,aeW,hg,fun a1 H2 t2 ha1 h1=>?_⟩
  refine⟨_,rfl,p,_,_,rfl,t2 _ _ oO,rfl,_,rfl,F,p,tp,ns.length,l.grp,s1,rfl,(N1.mono t2).fO,hg,fun a2 qs H3 t3 ha2 h2 ht=>?_⟩
  refine⟨_,rfl,tp,ln,lr,a1,a2,ns,rs,_,o.nd,o.ok,Aw,s1.R l.grp,hh,rfl,(N1.mono (t2.trans t3)).Au,ck.of (t3 _ _ h1),ht.abR (ck.of h2),by have:=o.n10; omega,o.m20,aeW.fit l.grp hg,fun lo os H4 t4 aiP hlo hO h12=>?_⟩
  have t14:=t2.trans (t3.trans t4)
  refine⟨_,rfl,p,_,_,rfl,t14 _ _ oO,rfl,_,rfl,_,rfl,F,p,tp,ns.length,hh,l.grp,s1,rfl,(N1.mono t14).fO,bd1.gl,bd1.D3,fun lh H5 t5 ar7 hlh=>?_⟩
  have t15:=t14.trans t5
  have X5:=X1.mono t15
  have aml:=t5 _ _ hlo
  have aoW:=X5.own.get (.cB i) (pF (nc t) dx loc i { l with done:=uP l.done hh }) (by show (s1.ls[i]?.map _)=_; rw[OE]; rfl)
  have aoX:=X5.own.get (.letter i) (uY (nc t) (dx (.letter i)) { l with done:=uP l.done hh }) (by show (s1.ls[i]?.map _)=_; rw[OE]; rfl)
  rw[lR] at aml hlh
  refine⟨_,rfl,p,_,_,_,_,rfl,t15 _ _ oO,T.bU,T.yp,rfl,_,rfl,loc .pC,_,_,_,rfl,rfl,ck.of (X5.own.get .pC _ rfl),sI hg,_,rfl,loc (.cB i),_,_,_,_,rfl,aoW,T.dZ,T.jh,rfl,_,rfl,_,rfl,_,rfl,_,rfl,loc (.book l.grp),loc (.gy l.grp),loc (.letter i),lo,lh,s1.ts l.grp,l.s,l.to,l.kd,hh,eu.map fun k:Nat=>(k:Int),_,_,rfl,X5.own.abQ hg,amk aoX lkd,ck.of aml,ck.of hlh,?_,?_,fun tq b1 b2 H6 t6 ar9 asa asb awb htq hb1 hb2=>?_⟩
  ·rw[af]
   have:=br (isAt rs hh) os
   omega
  ·rw[af]
   unfold Bl
   have:=br (KH s1 hh l.grp) (aB s1.bY.length)
   rw[bC] at this
   have:=bd1.D3
   omega
  rw[hhi,← lR] at hb1
  rw[hgi os] at hb2
  have hgs:=hgs os
  have k1:=k1 os
  generalize gs os=gs at hb2 hgs k1
  have t16:=t15.trans t6
  have X6:=X1.mono t16
  have nF:∀ {b},H5 b=none→¬ F b:=fun {b} e z=>by
   obtain⟨u,e'⟩:=X5.fO.there z
   rw[e] at e'
   cases e'
  have nq:=nF ar9
  have n1:=nF asa
  have n2:=nF asb
  clear aml hlh aoW aoX X5 hlo ht h1 h2 aiP ar7 ha1 ha2
  have aoY:Step H1 F H6 F:=Step.refl' t16
  refine⟨_,rfl,tq,_,0,_,rfl,rfl,dP.of htq,rfl,b1,rfl,⟨_,ck.of hb1⟩,r9 (K:=K) (a:=b1) (xs:=bS hs) (fun j σ H7=>∃ (q7:TQ) (v9:Option V),pD K (nc t) H7 F loc dx q7 p tp ns.length ((hs.take j).foldl (oQ i hh) s1)∧Step H6 F H7 F∧σ = [some (.ref p),some (.int i),some (.int hh),some (Ep (eu.map fun k:Nat=>(k:Int))),some (.ref (loc (.cB i))),some (.int l.grp),some (.ref lo),some (.ref lh),some (.ref tq),v9,none]) ⟨q,none,X6,Step.refl' (aL.refl _),rfl⟩ (fun j σ H7 _ z=>?_) ?_ ?_⟩
  ·obtain⟨q7,v9,X7,Zm,rfl⟩:=z
   exact ck.of (Zm.kp _ _ hb1 n1)
  ·rintro j y σ H7 hj ⟨q7,v9,X7,Zm,rfl⟩
   have hjl:j < hs.length:=by
    have:=(aj.mp hj).1
    rw[af] at this
    exact this
   rw[aq,aa hjl] at hj
   cases hj
   rw[Wy hjl]
   have b7:Bd ns.length rs.length (D + 1 + 1 * (hs.take j).length) ((hs.take j).foldl (oQ i hh) s1):=Hy (fun _=>True) _ _ _ (fun s x D _ _ b=>⟨trivial,YU b⟩) trivial bd1
   have f7:Fr s1 ((hs.take j).foldl (oQ i hh) s1):=Mh (fun _ _=>YT) _ _
   have hjt:(hs.take j).length≤20:=by
    rw[b5]
    have:=hhl.2
    have:=bd1.D3
    omega
   obtain⟨l7,hl7,_⟩:=f7.lt i _ OE
   have hcl:hs[j] < ((hs.take j).foldl (oQ i hh) s1).had.length:=by
    rw[b7.hl,f7.bY]
    exact hhl.1 _ (aW hjl)
   generalize (hs.take j).foldl (oQ i hh) s1=s7 at X7 b7 hl7 hcl
   generalize hs[j]=c at hcl
   have aaS:=X7.own.get .fO _ rfl
   rw[X7.hp] at aaS
   have hhc:=X7.own.get (.handed c) (.lst (bS s7.had[c])) (by show (s7.had[c]?.map _)=_; rw[aa hcl]; rfl)
   have hwl:=b7.hb _ (aW hcl)
   have hdl:=(b7.lb l7 (bz hl7)).1
   refine⟨_,rfl,p,_,_,_,_,rfl,aaS,T.bU,T.BS,rfl,_,rfl,loc .l9,_,_,_,rfl,rfl,ck.of (X7.own.get .l9 _ rfl),sI hcl,.inl ⟨rfl,_,ck.of hhc⟩,_,rfl,loc (.handed c),_,_,rfl,rfl,hhc,oB (by rw[af]; omega),?_⟩
   obtain⟨X8,st8⟩:=af5 X7 hcl (s7.had[c]++[i])
   rw[nL] at X8 st8
   generalize upd H7 (loc (.handed c)) (.lst (bS s7.had[c]++[V.int i]))=H8 at X8 st8
   have es:{ s7 with had:=s7.had.set c (s7.had[c]++[i]) }=uv s7 i c:=by
    unfold uv
    rw[aD,aa hcl]
    rfl
   rw[es] at X8
   have hl8:(uv s7 i c).ls[i]?=some l7:=hl7
   have asc:=X8.own.get (.cB i) (pF (nc t) dx loc i l7) (by show ((uv s7 i c).ls[i]?.map _)=_; rw[hl8]; rfl)
   have aoZ:=X8.own.get (.aU i) (.lst ((q7.dq i).map V.ref)) (by show ((uv s7 i c).ls[i]?.map _)=_; rw[hl8]; rfl)
   have hdq:=(X8.tup.aU i _ hl8).len
   rw[af] at hdq
   refine⟨_,rfl,loc (.cB i),_,_,_,_,rfl,asc,T.dZ,T.jQ,rfl,.inl ⟨rfl,_,ck.of aoZ⟩,_,rfl,_,rfl,(by show 3≤sizeLine; decide),fun z1 hz1=>?_⟩
   have u1:=aL.new (o:=.tup [V.str "hand",V.int hh,V.int c]) hz1
   refine⟨loc (.aU i),_,_,rfl,rfl,u1 _ _ aoZ,oB (by rw[af,hdq]; omega),?_⟩
   obtain⟨X9,st9⟩:=K3 (X8.mono u1) hl8 (d:=.hand hh c) (dP.of aF)
   rw[← gF hl8] at X9
   exact⟨_,_,X9,(Zm.trans st8).trans ((Step.refl' (F:=F) u1).trans st9),rfl⟩
  ·rintro σ H7 ⟨q7,v9,X7,Zm,rfl⟩
   rw[af,sE] at X7
   have b7:Bd ns.length rs.length (D + 1 + 1 * hs.length) (hs.foldl (oQ i hh) s1):=Hy (fun _=>True) _ _ _ (fun s x D _ _ b=>⟨trivial,YU b⟩) trivial bd1
   have f7:Fr s1 (hs.foldl (oQ i hh) s1):=Mh (fun _ _=>YT) _ _
   have hjt:hs.length≤20:=by
    have:=hhl.2
    have:=bd1.D3
    omega
   have N7:=N1.done (aoY.trans Zm) X7.fO
   obtain⟨l7,hl7,_⟩:=f7.lt i _ OE
   have ao0:=f7.ok aeW
   have hO7:kI (Jc ns rs o (hs.foldl (oQ i hh) s1).ws l.grp) ((hs.foldl (oQ i hh) s1).R l.grp) os:=by rw[f7.ws,f7.R]; exact hO
   generalize hs.foldl (oQ i hh) s1=s7 at X7 b7 hl7 N7 k1 ao0 hO7
   refine⟨_,rfl,tq,_,1,_,rfl,rfl,dP.of (Zm.kp _ _ htq nq),rfl,b2,rfl,⟨_,ck.of (Zm.kp _ _ hb2 n2)⟩,r9 (K:=K) (a:=b2) (xs:=bS gs) (fun j σ H8=>∃ (F8:Addr→Prop) (v10:Option V),NW K (nc t) t.bG H8 F8 p tp ln lr ns rs ((gs.take j).foldl (yO rs i hh) s7)∧Step H6 F H8 F8∧σ = [some (.ref p),some (.int i),some (.int hh),some (Ep (eu.map fun k:Nat=>(k:Int))),some (.ref (loc (.cB i))),some (.int l.grp),some (.ref lo),some (.ref lh),some (.ref tq),v9,v10]) ⟨F,none,N7,Zm,rfl⟩ (fun j σ H8 _ z=>?_) ?_ ?_⟩
   ·obtain⟨F8,v10,N8,st8,rfl⟩:=z
    exact ck.of (st8.kp _ _ hb2 n2)
   ·rintro j y σ H8 hj ⟨F8,v10,N8,st8,rfl⟩
    have hjl:j < gs.length:=by
     have:=(aj.mp hj).1
     rw[af] at this
     exact this
    rw[aq,aa hjl] at hj
    cases hj
    rw[Wy hjl]
    have hgl:∀ r∈gs,r < rs.length:=fun r hr=>(Bm hO7 (hgs.1 r hr)).1
    have f8:Fr s7 ((gs.take j).foldl (yO rs i hh) s7):=Mh (fun _ _=>YV) _ _
    have b8:Bd ns.length rs.length (D + 1 + 1 * hs.length + 2 * (gs.take j).length) ((gs.take j).foldl (yO rs i hh) s7):=Hy (fun s=>i < s.ls.length) _ _ _ (fun s x D hx hi b=>⟨by
     obtain⟨l',e,_⟩:=(YV (rs:=rs) (h:=hh) (i:=i) (r:=x) (s:=s)).lt i _ (aa hi)
     exact (aj.mp e).1,adK o b hi (hgl x (List.mem_of_mem_take hx))⟩) (aj.mp hl7).1 b7
    have awd:(gs.take j).length≤12:=by
     rw[b5]
     have:=hgs.2
     omega
    obtain⟨hrl,w',hw,hwn⟩:=Bm hO7 (hgs.1 _ (aW hjl))
    rw[← f8.ws] at hw
    obtain⟨l8,hl8,_⟩:=f8.lt i _ hl7
    have ao1:=f8.ok ao0
    generalize (gs.take j).foldl (yO rs i hh) s7=s8 at N8 b8 hl8 hw ao1
    generalize gs[j]=r at hrl hw
    obtain⟨awe,dx8,q8,hp8,O8,hF8,hT8⟩:=id N8.fO
    have aaT:=O8.get .fO _ rfl
    rw[hp8] at aaT
    have hdl:=(b8.lb l8 (bz hl8)).1
    have hcl:=b8.cb
    have hwl:sA l8 % w'.length < w'.length:=Nat.mod_lt _ (List.length_pos_iff.mpr hwn)
    have hwx:w'[(((sA l8:Nat):Int) % (w'.length:Int)).toNat]?=some w'[sA l8 % w'.length]:=by
     rw[show (((sA l8:Nat):Int) % (w'.length:Int))=((sA l8 % w'.length:Nat):Int) from rfl,iF]
     exact aa hwl
    have hre:=aa hrl
    refine⟨_,rfl,p,_,_,rfl,aaT,rfl,_,rfl,_,rfl,_,rfl,F8,p,tp,ln,lr,ns,rs,s8,i,hh,r,l8,rs[r],w',_,rfl,N8,o,ao1,hl8,by omega,by omega,hre,hw,hwx,hwn,fun F9 H9 N9 st9=>?_⟩
    refine⟨F9,_,?_,st8.trans st9,rfl⟩
    have e1:uQ s8.ws r (aeV s8 i)=w'[sA l8 % w'.length]:=by
     unfold uQ aeV
     rw[hw,hl8]
     show w'.getD (sA l8 % w'.length) 0=_
     rw[aD,aa hwl]
     rfl
    have e2:kO rs r hh=ie rs[r] hh:=by
     unfold kO
     rw[hre]
    unfold yO
    rw[e1,e2]
    exact N9
   ·rintro σ H8 ⟨F8,v10,N8,st8,rfl⟩
    rw[af,sE] at N8
    exact k1 F8 H8 hO h12 N8 (aoY.trans st8)
end
end jG
set_option maxHeartbeats 4000000
namespace jG
open PySem L2 TW PyProof.Rows
open RM (fq rF bV bR)
seal L2.PE L2.PA L2.PT L2.PW L2.PS L2.oS L2.PG L2.uS L2.PI L2.uV
section
variable{P:Program}{w:World}{K:ah}{mg:Str→Option Value}{base:Heap}
theorem amm{a b:TS}{D:Ends}{σ:L2.St}{H:Hp}(J:L2.St→Hp→Prop)(hn:∀ σ H,J σ H→b D σ H)(h:∀ N:L2.St→Hp→Prop,(∀ σ H,J σ H→N σ H)→a { D with nx:=N } σ H):ad0 a b D σ H:=h _ hn
noncomputable def aji(C:Addr):Sp:=fun vs H Q _=>∃ (p dx la:Addr) (g:Int),vs = [.ref p,.ref la,.int g]∧H p=some (.ins C dx []) ∧
 ∀ da ea H',H da=none→H ea=none→da≠ea→H' p=some (.ins C dx [("letter",.ref la),("group",.int g),("old",.bl false),("done_at",.ref da),("deeds",.ref ea)])→H' da=some (.dK [])→H' ea=some (.lst [])→(∀ b o,H b=some o→b≠p→H' b=some o)→Q .iu H'
theorem OF{t:Ad}(T:Txt K mg t):cW P w K mg base lH 1 t.fH t.sN ["self","letter","group"]  (aji t.kL):=by
 refine T.ng.ok MJ (fun vs H Q E h=>?_) (fun cdv A outer s H vs Q E hr h=>?_)
 ·obtain⟨_,_,_,_,rfl,_⟩:=h; rfl
 ·obtain⟨p,dx,la,g,rfl,hp,k⟩:=h
  refine⟨_,(av (iB (pv 0) (pv 1) rfl)
   (av (iB (pv 0) (pv 2) rfl)
   (av (iB (pv 0) uw rfl)
   (av (iB (pv 0) afG rfl)
   (aI (iB (pv 0) (lO az) rfl)))))),?_⟩
  try dsimp only[bN]
  refine⟨_,rfl,_,rfl,p,_,dx,_,rfl,hp,T.dZ,T.jh,(by decide),?_⟩
  rw[eG (names:=[]) rfl rfl]
  refine⟨_,rfl,_,rfl,p,_,dx,_,rfl,aF,T.dZ,T.lX,(by show 1 < 1000; decide),?_⟩
  rw[eG (names:=["letter"]) rfl (by decide +kernel),WE]
  refine⟨_,rfl,p,_,dx,_,rfl,aF,T.dZ,T.BR,(by show 2 < 1000; decide),?_⟩
  rw[eG (names:=["letter","group"]) rfl (by decide +kernel),WE]
  intro da hda
  have amn:H da=none:=by
   by_cases z:da=p
   ·subst z; rw[aF] at hda; cases hda
   ·rw[aP z] at hda; exact hda
  have nd:p≠da:=aR hp amn
  refine⟨_,rfl,p,_,dx,_,rfl,(by rw[aP nd]; exact aF),T.dZ,T.qB,(by show 3 < 1000; decide),?_⟩
  rw[eG (names:=["letter","group","old"]) rfl (by decide +kernel)]
  refine⟨bJ _,fun ea hea=>?_⟩
  have ne:ea≠p:=fun z=>by subst z; rw[aF] at hea; cases hea
  rw[aP ne] at hea
  have nde:da≠ea:=fun z=>by subst z; rw[aF] at hea; cases hea
  rw[aP (bW nde),aP ne] at hea
  refine⟨_,rfl,p,_,dx,_,rfl,(by rw[aP (bW ne)]; exact aF),T.dZ,T.jQ,(by show 4 < 1000; decide),?_⟩
  rw[eG (names:=["letter","group","old","done_at"]) rfl (by decide +kernel)]
  refine k da ea _ amn hea nde aF ?_ ?_ fun b o e nb=>?_
  ·rw[aP (bW nd),aP nde,aP (bW nd)]; exact aF
  ·rw[aP ne]; exact aF
  ·rw[aP nb,aP (aR e hea),aP nb,aP (aR e amn),aP nb]; exact e
noncomputable def qv(s:NS)(x:Nat)(to:Option Nat):LS:={ s:=x,to:=to.getD 0,kd:=if to.isSome=true then 1 else 2,grp:=s.groups.getD x 0,old:=false,done:=[],aU:=[] }
noncomputable def Wz(s:NS)(l:LS):NS:={ s with ls:=s.ls++[l] }
noncomputable def IW(s:NS)(x:Nat)(to:Option Nat):NS:={ s with ls:=s.ls++[{ qv s x to with aU:=[.post (s.bY.getD x 0)] }] }
noncomputable def WA(rs:List R5)(s:NS)(x:Nat)(to:Option Nat)(os:List Nat):NS:=doL rs (IW s x to) s.ls.length (s.bY.getD x 0) { qv s x to with aU:=[.post (s.bY.getD x 0)] } none os
theorem aeY{s:NS}{x:Nat}{to:Option Nat}:rG (Wz s (qv s x to)) s.ls.length (.post (s.bY.getD x 0))=IW s x to:=by
 rw[gF (l:=qv s x to) (by show (s.ls++[_])[s.ls.length]?=_; rw[cu (aK _),kD]; rfl)]
 show { s with ls:=(s.ls++[_]).set s.ls.length _ } = { s with ls:=_ }
 congr 1
 rw[List.set_append_right _ _ (aK _),kD]
 rfl
theorem YY{s:NS}{l:LS}:(s.ls++[l])[s.ls.length]?=some l:=by rw[cu (aK _),kD]; rfl
theorem adM{n m D:Nat}{s:NS}{x:Nat}{to:Option Nat}(b:Bd n m D s)(hx:x < s.bY.length):Bd n m (D + 1) (IW s x to):=by
 have b1:=b.mono (iD D)
 refine⟨b1.gl,b1.D3,b1.g3,b1.hm,b1.hl,b1.hb,?_,fun l z=>?_,b1.cb,fun c z=>?_,b1.tb⟩
 ·show (s.ls++[_]).length≤_
  rw[aH]
  exact lF b.ll 1
 ·rcases cy.mp z with y | y
  ·exact b1.lb l y
  ·rw[bX] at y
   subst y
   refine⟨?_,bJ _,?_,?_⟩
   ·show 1 + s.cps.length≤D + 1
    have:=b.cb
    omega
   ·show s.groups.getD x 0 < 3
    have hg:x < s.groups.length:=by rw[b.gl]; exact hx
    rw[aD,aa hg]
    exact b.g3 _ (aW hg)
   ·show (if _ then (1:Int) else 2)=1∨(if _ then (1:Int) else 2)=2
    split
    ·exact .inl rfl
    ·exact .inr rfl
 ·obtain⟨h1,h2⟩:=b.cl c z
  refine⟨?_,h2⟩
  show c.l < (s.ls++[_]).length
  rw[aH]
  exact bL h1 (Bq _ _)
noncomputable def ajj(K:ah)(CT:Addr)(c:NC):Sp:=fun vs H Q _=>∃ (F:Addr→Prop) (p tp ln lr:Addr) (ns:List Int) (rs:List R5) (s:NS) (o:ja ns rs) (x:Nat) (to:Option Nat) (D:Nat),vs = [.ref p,.int x,Ep (to.map fun y:Nat=>(y:Int))]∧NW K c CT H F p tp ln lr ns rs s∧Av ns rs s∧Bd ns.length rs.length D s∧D≤800000∧x < s.bY.length∧(∀ y,to=some y→y < s.bY.length∧s.groups[y]?=s.groups[x]?) ∧
 ∀ os F' H',kI (Jc ns rs o s.ws (s.groups.getD x 0)) (s.R (s.groups.getD x 0)) os→os.length≤12→NW K c CT H' F' p tp ln lr ns rs (WA rs s x to os)→Step H F H' F'→Q (.int s.ls.length) H'
theorem aaU{t:Ad}(T:Txt K mg t):cW P w K mg base lH 8 t.kg t.BF ["self","sender","to"]  (ajj K t.bG (nc t)):=by
 refine T.wo.ok yc (fun vs H Q E h=>?_) (fun cdv A outer s H vs Q E hr h=>?_)
 ·obtain⟨_,_,_,_,_,_,_,_,_,_,_,_,rfl,_⟩:=h; rfl
 ·obtain⟨F,p,tp,ln,lr,ns,rs,st,o,x,to,D,rfl,N,Mb,bd,hD,hx,hto,k⟩:=h
  refine⟨_,(av (cJ (bQ (pv 0) T.bU T.M2 (Me T) (hr.mono (by decide)) T.M0 .nil bx (aG (pv 1) (aG (pv 2) az))))
   (av (bE (i:=3) yc.nd rfl (be rfl) (D6 (bw afr (pv 2) nG (bT _)) (Hi T.aiG (Bh T) (hr.mono (by decide)) rfl T.aiF T.Dd .nil bx (aG (pv 1) az)) (Hi T.aiz (QX T) (hr.mono (by decide)) rfl T.aiE T.R8 .nil bx (aG (pv 1) (aG (pv 2) az)))))
   (av (bE (i:=4) yc.nd rfl (be rfl) (cC bK (by rfl) T.jV bI (aG (bu (pv 0) rfl) az)))
   (av (cJ (o6 aY bg bf er (bu (pv 0) rfl) (aG (Hi T.agb (OF T) (hr.mono (by decide)) rfl T.agd T.Qo .nil bx (aG (pv 3) (aG (bM cD (bu (pv 0) rfl) (pv 1) (fun _ _=>rfl)) az))) az)))
   (av (bE (i:=5) yc.nd rfl (be rfl) (bM cD (bu (pv 0) rfl) (pv 1) (fun _ _=>rfl)))
   (av (cJ (o6 aY bg bf er (bu (bM cD (bu (pv 0) rfl) (pv 4) (fun _ _=>rfl)) rfl) (aG (ia (aG g9 (aG (pv 5) az))) az)))
   (av (cJ (bQ (pv 0) T.bU T.Dg (Bo T) (hr.mono (by decide)) T.Df .nil bx (aG (pv 4) (aG (pv 5) (aG nG az)))))
   (aI (bH (pv 4)))))))))),?_⟩
  try dsimp only[bN]
  obtain⟨loc,dx,q,hp,O,hF,hT⟩:=id N.fO
  have cY:=O.get .fO _ rfl
  rw[hp] at cY
  have hxg:x < st.groups.length:=by rw[bd.gl]; exact hx
  refine⟨_,rfl,p,_,_,rfl,cY,rfl,_,rfl,_,rfl,F,p,tp,ns.length,x,to,st,rfl,N.fO,hx,bd.gl,hto,?_⟩
  dsimp only
  refine amm (fun σ H1=>∃ la W0,aL H H1∧H la=none∧H1 la=some (uY (nc t) W0 (qv st x to))∧σ = [some (.ref p),some (.int x),some (Ep (to.map fun y:Nat=>(y:Int))),some (.ref la),none,none]) ?_ (fun N hN=>?_)
  rotate_left
  ·cases to with
   | none =>
    refine⟨_,rfl,rfl,_,rfl,jF ?_⟩
    refine⟨_,rfl,fun z dz hz hdz hne=>⟨z,_,dz,x,rfl,aF,T.BQ,T.pQ,rfl,?_⟩⟩
    exact hN _ _ ⟨z,dz,made hz hdz hne,hz,aF,rfl⟩
   | some y =>
    refine⟨_,rfl,rfl,_,rfl,gu ?_⟩
    refine⟨_,rfl,_,rfl,fun z dz hz hdz hne=>⟨z,dz,x,y,rfl,aF,fun H3 hy3 kp=>⟨rfl,?_⟩⟩⟩
    exact hN _ _ ⟨z,dz,fun b u e=>kp b u (((aL.new hdz).trans (aL.new (by rw[aP (bW hne)]; exact hz))) b u e) (aR e hz),hz,hy3,rfl⟩
  rintro σ H1 ⟨la,W0,s1,amo,hla,rfl⟩
  have oO:=s1 _ _ cY
  have N1:=N.mono s1
  obtain⟨O1,T1⟩:=And.intro (O.mono s1) (hT.mono fun b x=>s1.dB (a:=b) (xs:=x))
  have ajk:=O1.get .c6 _ rfl
  refine⟨_,rfl,p,_,_,_,_,rfl,oO,T.bU,T.fP,rfl,loc .c6,_,rfl,.inl (ck.of ajk),?_⟩
  rw[af,bC]
  refine⟨_,rfl,p,_,_,_,_,rfl,oO,T.bU,T.fP,rfl,.inl ⟨rfl,_,ck.of ajk⟩,_,rfl,_,rfl,p,_,_,_,_,rfl,oO,T.bU,T.pT,rfl,_,rfl,loc .groups,_,_,_,rfl,rfl,ck.of (O1.get .groups _ rfl),Ax hxg,fun pa Mr hpa ajl ajm=>⟨pa,Mr,la,_,rfl,aF,fun da ea H2 hda hea nde h2p h2d h2e kp2=>⟨rfl,?_⟩⟩⟩
  have s12:aL H1 H2:=fun b u e=>kp2 b u (((aL.new ajl).trans (aL.new (by rw[aP (bW ajm)]; exact hpa))) b u e) (aR e hpa)
  have da0:H1 da=none:=by
   cases e:H1 da with
   | none=>rfl
   | some u =>
    have:=((aL.new (o:=.own pa) ajl).trans (aL.new (o:=.ins t.kL Mr []) (by rw[aP (bW ajm)]; exact hpa))) _ _ e
    rw[hda] at this
    cases this
  have ea0:H1 ea=none:=by
   cases e:H1 ea with
   | none=>rfl
   | some u =>
    have:=((aL.new (o:=.own pa) ajl).trans (aL.new (o:=.ins t.kL Mr []) (by rw[aP (bW ajm)]; exact hpa))) _ _ e
    rw[hea] at this
    cases this
  have nF:∀ {b},H1 b=none→¬ F b:=fun {b} e z=>by
   obtain⟨u,e'⟩:=N1.fO.there z
   rw[e] at e'
   cases e'
  have nFl:¬ F la:=fun z=>by
   obtain⟨u,e'⟩:=N.fO.there z
   rw[amo] at e'
   cases e'
  have npd:pa≠da:=fun z=>by rw[← z,aF] at hda; cases hda
  have npe:pa≠ea:=fun z=>by rw[← z,aF] at hea; cases hea
  have nla:∀ {b},H1 b=none→la≠b:=fun {b} e=>aR hla e
  have eg:st.groups.getD x 0=st.groups[x]:=by rw[aD,aa hxg]; rfl
  have ao2:=s12 _ _ ajk
  refine⟨loc .c6,_,_,rfl,rfl,ao2,oB (by rw[af,bC]; have:=bd.ll; omega),?_⟩
  obtain⟨F3,N3,kp3,fr3⟩:=af7 (l:=qv st x to) (Mr:=Mr) (W0:=W0) (pa:=pa) (la:=la) (da:=da) (ea:=ea) hp (O1.mono s12) hF (T1.mono fun b x=>s12.dB (a:=b) (xs:=x)) rfl (by show _=some (HO.ins _ _ [_,(_,V.int ((st.groups.getD x 0:Nat):Int)),_,_,_]); rw[eg]; exact h2p) (s12 _ _ hla) h2d h2e (bW (nla hpa)) npd npe (nla da0) (nla ea0) nde (nF hpa) nFl (nF da0) (nF ea0)
  have st3:Step H F _ F3:=⟨fun b u e z=>kp3 b u (s12 _ _ (s1 _ _ e)) z,fun b z=>by
   rcases fr3 b z with y | rfl | rfl | rfl | rfl
   ·exact .inl y
   ·exact .inr (s1.free hpa)
   ·exact .inr amo
   ·exact .inr (s1.free da0)
   ·exact .inr (s1.free ea0)⟩
  have W3:=N.done st3 N3
  generalize upd H2 (loc .c6) (.lst (((aB st.ls.length).map fun i=>V.ref (loc (.cB i)))++[.ref pa]))=H3 at st3 W3 N3
  clear kp3 fr3 ao2 nla npe npd nFl nF ea0 da0 s12 kp2 h2e h2d h2p nde hea hda ajm ajl hpa ajk T1 O1 N1 oO hla amo s1 cY hT hF O hp
  obtain⟨UH,dx3,q3,hp3,O3,hF3,hT3⟩:=id W3.fO
  have X3:pD K (nc t) H3 F3 UH dx3 q3 p tp ns.length (Wz st (qv st x to)):=⟨hp3,O3,hF3,hT3⟩
  have Mg:=O3.get .fO _ rfl
  rw[hp3] at Mg
  have hl3:(Wz st (qv st x to)).ls[st.ls.length]?=some (qv st x to):=YY
  have ajn:st.ls.length < (Wz st (qv st x to)).ls.length:=(aj.mp hl3).1
  have eh:st.bY.getD x 0=st.bY[x]:=by rw[aD,aa hx]; rfl
  refine⟨_,rfl,p,_,_,_,_,rfl,Mg,T.bU,T.sy,rfl,_,rfl,UH .bY,_,_,_,rfl,rfl,ck.of (O3.get .bY _ rfl),Ax hx,?_⟩
  have ahk:=O3.get (.cB st.ls.length) (pF (nc t) dx3 UH st.ls.length (qv st x to)) (by show ((Wz st (qv st x to)).ls[st.ls.length]?.map _)=_; rw[hl3]; rfl)
  have ao3:=O3.get (.aU st.ls.length) (.lst ((q3.dq st.ls.length).map V.ref)) (by show ((Wz st (qv st x to)).ls[st.ls.length]?.map _)=_; rw[hl3]; rfl)
  have hdq:=(X3.tup.aU _ _ hl3).len
  rw[af] at hdq
  refine⟨_,rfl,p,_,_,_,_,rfl,Mg,T.bU,T.fP,rfl,_,rfl,UH .c6,_,_,_,rfl,rfl,ck.of (O3.get .c6 _ rfl),sI ajn,UH (.cB st.ls.length),_,_,_,_,rfl,ahk,T.dZ,T.jQ,rfl,.inl ⟨rfl,_,ck.of ao3⟩,_,rfl,(by show 2≤sizeLine; decide),fun z1 hz1=>?_⟩
  have u1:=aL.new (o:=.tup [V.str "post",V.int (st.bY[x]:Nat)]) hz1
  refine⟨UH (.aU st.ls.length),_,_,rfl,rfl,u1 _ _ ao3,oB (by rw[af,hdq]; exact bJ _),?_⟩
  obtain⟨X4,Wc⟩:=K3 (X3.mono u1) hl3 (d:=.post st.bY[x]) (dP.of aF)
  rw[← gF hl3,← eh,aeY] at X4
  rw[← eh] at Wc u1
  rw[← eh]
  have amq:=st3.trans ((Step.refl' (F:=F3) u1).trans Wc)
  have W4:=N.done amq X4.fO
  generalize upd (upd H3 z1 (.tup [V.str "post",V.int (st.bY.getD x 0:Nat)])) (UH (.aU st.ls.length)) (.lst ((q3.dq st.ls.length).map V.ref++[.ref z1]))=H4 at X4 amq W4
  have Qf:=X4.own.get .fO _ rfl
  rw[X4.hp] at Qf
  have amr:Av ns rs (IW st x to):=⟨Mb.wl,Mb.w4,Mb.fit⟩
  refine⟨_,rfl,p,_,_,rfl,Qf,rfl,_,rfl,_,rfl,F3,p,tp,ln,lr,ns,rs,IW st x to,o,st.ls.length,st.bY.getD x 0,none,{ qv st x to with aU:=[.post (st.bY.getD x 0)] },D + 1,rfl,W4,amr,adM bd hx,by omega,YY,fun os F5 H5 hO h12 W5 st5=>?_⟩
  exact⟨_,rfl,k os F5 H5 hO h12 W5 (amq.trans st5)⟩
end
end jG
set_option maxHeartbeats 4000000
namespace jG
open PySem L2 TW PyProof.Rows
open RM (fq rF bV bR)
seal L2.PE L2.PA L2.PT L2.PW L2.PS L2.oS L2.PG L2.uS L2.PI L2.uV
section
variable{P:Program}{w:World}{K:ah}{mg:Str→Option Value}{base:Heap}
theorem akg{ns:List Int}{rs:List R5}(o:ja ns rs){D:Nat}{s:NS}{i h:Nat}{l:LS}{eu:Option Nat}{os:List Nat}(b:Bd ns.length rs.length D s)(hl:s.ls[i]?=some l)(O:kI (Jc ns rs o s.ws l.grp) (s.R l.grp) os)(h12:os.length≤12):Bd ns.length rs.length (D + 45) (doL rs s i h l eu os):=by
 have b1:=adJ (h:=h) b hl
 have f1:=adI (h:=h) hl
 have b2:Bd ns.length rs.length (D + 1 + 1 * (oR s l h).length) ((oR s l h).foldl (oQ i h) (gm s i h l)):=Hy (fun _=>True) _ _ _ (fun s x D _ _ b=>⟨trivial,YU b⟩) trivial b1
 have f2:Fr (gm s i h l) ((oR s l h).foldl (oQ i h) (gm s i h l)):=Mh (fun _ _=>YT) _ _
 obtain⟨l2,hl2,_⟩:=(f1.trans f2).lt i l hl
 have h1:=(aaR (s:=s) (l:=l) (h:=h)).2
 have h2:=b.D3
 have hs:=adL (rs:=rs) (s:=s) (l:=l) (h:=h) (eu:=eu) (os:=os)
 have h3:=hs.2
 have b3:=Hy (k:=2) (f:=yO rs i h) (fun s=>i < s.ls.length) (YW rs s l h eu os) _ _ (fun s x D hx hi b=>⟨by
  obtain⟨l',e,_⟩:=(YV (rs:=rs) (h:=h) (i:=i) (r:=x) (s:=s)).lt i _ (aa hi)
  exact (aj.mp e).1,adK o b hi (Bm O (hs.1 x hx)).1⟩) (aj.mp hl2).1 b2
 exact b3.mono (by omega)
noncomputable def Hg(l:LS)(cp:Cp)(os:List Nat):Str:=if cp.r∈os then (if IV l cp.h=true then "twice" else "come") else "lost"
noncomputable def xX(l:LS)(cp:Cp)(os:List Nat):eS:=if cp.r∈os then (if IV l cp.h=true then .twice cp.h cp.r else .K2 cp.h cp.r) else .aiv cp.h cp.r
theorem ajo{l:LS}{cp:Cp}{os:List Nat}:(xX l cp os).vs = [.str (Hg l cp os),.int cp.h,.int cp.r]:=by
 unfold xX Hg
 split
 ·split <;> rfl
 ·rfl
noncomputable def comes(l:LS)(cp:Cp)(os:List Nat):Bool:=decide (cp.r∈os) && !IV l cp.h
theorem WB{l:LS}{cp:Cp}{os:List Nat}:decide (V.str (Hg l cp os)=V.str "come")=comes l cp os:=by
 unfold Hg comes
 by_cases e:cp.r∈os
 ·rw[if_pos e,decide_eq_true e]
  cases IV l cp.h
  ·rw[if_neg (by decide)]; decide +kernel
  ·rw[if_pos rfl]; decide +kernel
 ·rw[if_neg e,decide_eq_false e,Bool.false_and]; decide +kernel
noncomputable def aaV(s:NS)(a:Nat):NS:={ s with cps:=s.cps.eraseIdx a }
noncomputable def Mi(s:NS)(g:Nat)(ts:List T3):NS:={ s with ts:=jk s.ts g ts }
noncomputable def mL(s:NS)(a:Nat)(cp:Cp)(l:LS)(os:List Nat):NS:={ s with cps:=s.cps.eraseIdx a,ls:=s.ls.set cp.l { l with aU:=l.aU++[xX l cp os] } }
noncomputable def kC(s:NS)(a:Nat)(cp:Cp)(l:LS)(os:List Nat)(ts:List T3):NS:=if l.old=true then mL s a cp l os else Mi (mL s a cp l os) l.grp ts
noncomputable def UK(rs:List R5)(s:NS)(a:Nat)(cp:Cp)(l:LS)(os:List Nat)(ts:List T3):NS :=
 if comes l cp os=true then doL rs (kC s a cp l os ts) cp.l cp.h { l with aU:=l.aU++[xX l cp os] } (some cp.r) os else mL s a cp l os
theorem OG{n m D:Nat}{s:NS}{a:Nat}{cp:Cp}{l:LS}{os:List Nat}(b:Bd n m D s)(hl:s.ls[cp.l]?=some l)(ha:a < s.cps.length):Bd n m (D + 1) (mL s a cp l os):=by
 have el:(s.cps.eraseIdx a).length + 1=s.cps.length:=by
  rw[List.length_eraseIdx,if_pos ha]
  omega
 refine b.set 1 hl (by omega) (.inl (by omega)) (aK _) ?_ (iD _) rfl rfl (fun c z=>.inl (List.mem_of_mem_eraseIdx z)) rfl (fun w z=>qm (b.hb w z))
 show (l.aU++[_]).length + _≤_
 rw[aH]
 show l.aU.length + 1 + _≤_
 omega
theorem ahl{ts ts':List T3}{h c r:Int}(p:ts'.Perm (put3 ts h c r)):ts'.length≤ts.length + 1:=by
 rw[p.length_eq]
 unfold put3
 rw[aH]
 exact lF (br _ _) 1
theorem ajp{n m D:Nat}{s:NS}{g:Nat}{ts:List T3}{h c r:Int}(b:Bd n m D s)(p:ts.Perm (put3 (s.ts g) h c r))(oe:jX ts):Bd n m (D + 50) (Mi s g ts):=by
 have b1:=b.mono (Bq D 50)
 refine⟨b1.gl,b1.D3,b1.g3,b1.hm,b1.hl,b1.hb,b1.ll,b1.lb,b1.cb,b1.cl,fun g'=>?_⟩
 show 50 * (jk s.ts g ts g').length≤_∧jX (jk s.ts g ts g')
 by_cases z:g'=g
 ·subst z
  rw[dF]
  refine⟨?_,oe⟩
  have:=ahl p
  have:=(b.tb g').1
  omega
 ·rw[gE z]
  exact b1.tb g'
theorem OH{s:NS}{a:Nat}{cp:Cp}{l:LS}{os:List Nat}(hl:s.ls[cp.l]?=some l):(mL s a cp l os).ls[cp.l]?=some { l with aU:=l.aU++[xX l cp os] }:=by
 show (s.ls.set cp.l _)[cp.l]?=_
 rw[kZ (aj.mp hl).1,if_pos rfl]
theorem aaW{s:NS}{a:Nat}{cp:Cp}{l:LS}{os:List Nat}{ts:List T3}(hl:s.ls[cp.l]?=some l):(kC s a cp l os ts).ls[cp.l]?=some { l with aU:=l.aU++[xX l cp os] }:=by
 unfold kC
 split
 ·exact OH hl
 ·exact OH (a:=a) hl
theorem aaX{s:NS}{a:Nat}{cp:Cp}{l:LS}{os:List Nat}{ts:List T3}:(kC s a cp l os ts).ws=s.ws∧(kC s a cp l os ts).R=s.R∧(kC s a cp l os ts).bY=s.bY∧(kC s a cp l os ts).groups=s.groups:=by
 unfold kC
 split <;> exact⟨rfl,rfl,rfl,rfl⟩
theorem aaY{n m D:Nat}{s:NS}{a:Nat}{cp:Cp}{l:LS}{os:List Nat}{ts:List T3}{h c r:Int}(b:Bd n m D s)(hl:s.ls[cp.l]?=some l)(ha:a < s.cps.length)(p:ts.Perm (put3 (s.ts l.grp) h c r))(oe:jX ts):Bd n m (D + 51) (kC s a cp l os ts):=by
 unfold kC
 split
 ·exact (OG b hl ha).mono (by omega)
 ·exact (ajp (h:=h) (c:=c) (r:=r) (OG b hl ha) p oe).mono (by omega)
theorem ajq{ns:List Int}{rs:List R5}(o:ja ns rs){D:Nat}{s:NS}{a:Nat}{cp:Cp}{l:LS}{os:List Nat}{ts:List T3}{h c r:Int}(b:Bd ns.length rs.length D s)(hl:s.ls[cp.l]?=some l)(ha:a < s.cps.length)(O:kI (Jc ns rs o s.ws l.grp) (s.R l.grp) os)(h12:os.length≤12)(p:ts.Perm (put3 (s.ts l.grp) h c r))(oe:jX ts):Bd ns.length rs.length (D + 100) (UK rs s a cp l os ts):=by
 unfold UK
 split
 ·have e:=aaX (s:=s) (a:=a) (cp:=cp) (l:=l) (os:=os) (ts:=ts)
  exact (akg o (aaY (h:=h) (c:=c) (r:=r) b hl ha p oe) (aaW hl) (by rw[e.1,e.2.1]; exact O) h12).mono (by omega)
 ·exact (OG b hl ha).mono (by omega)
theorem _root_.TW.cZ.erase{H:Hp}{qs:List Addr}{xs:List (List V)}(h:cZ K H qs xs)(a:Nat):cZ K H (qs.eraseIdx a) (xs.eraseIdx a):=by
 refine⟨by rw[List.length_eraseIdx,List.length_eraseIdx,h.len],fun i q x e1 e2=>?_⟩
 rw[List.getElem?_eraseIdx] at e1 e2
 by_cases z:i < a
 ·rw[if_pos z] at e1 e2
  exact h.at' i q x e1 e2
 ·rw[if_neg z] at e1 e2
  exact h.at' (i + 1) q x e1 e2
theorem OI{α β:Type}(f:α→β):∀ (xs:List α) (a:Nat),(xs.map f).eraseIdx a=(xs.eraseIdx a).map f
 | [],_=>rfl
 | _ :: _,0=>rfl
 | x :: xs,a + 1=>congrArg (f x :: ·) (OI f xs a)
theorem ahm{c:NC}{H H':Hp}{F:Addr→Prop}{loc dx:Role→Addr}{q:TQ}{p tp:Addr}{n g:Nat}{s:NS}(X:pD K c H F loc dx q p tp n s)(hg:g < 3)(ts:List T3)(h1:H' (loc (.gy g))=some (.dT (ts.map oE)))(kp:∀ b o,H b=some o→b≠loc (.gy g)→H' b=some o) :
 pD K c H' F loc dx q p tp n (Mi s g ts)∧Step H F H' F:=by
 obtain⟨X1,st1⟩:=Hr X (r:=.gy g) (o:=.dT (ts.map oE)) (q':=q) (s':=Mi s g ts) (by show (if g < 3 then some _ else none)≠none; rw[if_pos hg]; exact bq _) (fun x=>by
  cases x <;> first | rfl | skip
  rename_i k
  show kY (desc c dx tp loc q s) (.gy g) _ (.gy k)=(if k < 3 then some (HO.dT ((jk s.ts g ts k).map oE)) else none)
  by_cases z:k=g
  ·subst z
   rw[fM,if_pos hg,dF]
  ·rw[eN (fun e=>z (by cases e; rfl)),gE z]
   rfl) (fun kt=>⟨fun g hg=>(X.tup.rows g hg).mono kt,fun k l e=>(X.tup.aU k l e).mono kt,X.tup.cps.mono kt⟩)
 have sm:aL (upd H (loc (.gy g)) (.dT (ts.map oE))) H':=fun b u e=>by
  by_cases z:b=loc (.gy g)
  ·rw[z,aF] at e
   cases e
   rw[z]
   exact h1
  ·rw[aP z] at e
   exact kp b u e z
 exact⟨X1.mono sm,st1.trans (Step.refl' sm)⟩
theorem ajr{t:Ad}(T:Txt K mg t){dx loc:Role→Addr}{σ:L2.St}{H:Hp}{Q:VK}{i:Nat}{l:LS}(h6:∀ Q:VK,Q (.ref (loc (.cB i))) H→WJ 6 σ H Q)(Wx:H (loc (.cB i))=some (pF (nc t) dx loc i l))(hle:H (loc (.letter i))=some (uY (nc t) (dx (.letter i)) l))(q:Q (.int l.s) H) :
 Rp K (Rp K (WJ 6) (Str.ofString "letter")) (Str.ofString "sender") σ H Q:=by
 by_cases e:l.kd=1
 ·have YS:H (loc (.letter i))=some (.ins t.iz (dx (.letter i)) [("sender",.int l.s),("to",.int l.to)]):=by rw[hle]; unfold uY; rw[if_pos e]
  unfold Rp
  exact (h6 _ ⟨loc (.cB i),_,_,_,_,rfl,Wx,T.dZ,T.jh,rfl,loc (.letter i),_,dx (.letter i),_,_,rfl,YS,T.rT,T.wA,rfl,q⟩)
 ·have YS:H (loc (.letter i))=some (.ins t.ki (dx (.letter i)) [("sender",.int l.s)]):=by rw[hle]; unfold uY; rw[if_neg e]
  unfold Rp
  exact (h6 _ ⟨loc (.cB i),_,_,_,_,rfl,Wx,T.dZ,T.jh,rfl,loc (.letter i),_,dx (.letter i),_,_,rfl,YS,T.BQ,T.pQ,rfl,q⟩)
noncomputable def adN(K:ah)(CT:Addr)(c:NC):Sp:=fun vs H Q _=>∃ (F:Addr→Prop) (p tp ln lr:Addr) (ns:List Int) (rs:List R5) (s:NS) (o:ja ns rs) (a D:Nat) (cp:Cp) (l:LS),vs = [.ref p,.int a]∧NW K c CT H F p tp ln lr ns rs s∧Av ns rs s∧Bd ns.length rs.length D s∧D≤40000∧s.cps[a]?=some cp∧s.ls[cp.l]?=some l ∧
 ∀ os ts F' H',kI (Jc ns rs o s.ws l.grp) (s.R l.grp) os→os.length≤12→ts.Perm (put3 (s.ts l.grp) cp.h l.s cp.r)→jX ts→NW K c CT H' F' p tp ln lr ns rs (UK rs s a cp l os ts)→Step H F H' F'→Q (.str (Hg l cp os)) H'
theorem Hh{t:Ad}(T:Txt K mg t):cW P w K mg base lH 8 t.g6 t.rK ["self","at"]  (adN K t.bG (nc t)):=by
 refine T.m6.ok jc (fun vs H Q E h=>?_) (fun cdv A outer s H vs Q E hr h=>?_)
 ·obtain⟨_,_,_,_,_,_,_,_,_,_,_,_,_,rfl,_⟩:=h; rfl
 ·obtain⟨F,p,tp,ln,lr,ns,rs,st,o,a,D,cp,l,rfl,N,Mb,bd,hD,hcp,hli,k⟩:=h
  refine⟨_,(av (cU (jM (lN ux se aJ (pv 1) (cC bK (by rfl) T.jV bI (aG (bu (pv 0) rfl) az)))) eT bD)
   (av (bE (i:=2) jc.nd rfl (be rfl) (o6 aY PySem.F.slot_list_pop PySem.F.type_list_pop afC (bu (pv 0) rfl) (aG (pv 1) az)))
   (av (bE (i:=3) jc.nd rfl (be rfl) (bM dQ (pv 2) aJ (fun _ _=>rfl)))
   (av (bE (i:=4) jc.nd rfl (be rfl) (bM dQ (pv 2) aJ (fun _ _=>rfl)))
   (av (bE (i:=5) jc.nd rfl (be rfl) (bM dQ (pv 2) aJ (fun _ _=>rfl)))
   (av (bE (i:=6) jc.nd rfl (be rfl) (bM cD (bu (pv 0) rfl) (pv 3) (fun _ _=>rfl)))
   (av (bE (i:=7) jc.nd rfl (be rfl) (bQ (pv 0) T.bU T.Vm (UJ T) (hr.mono (by decide)) T.Vl .nil bx (aG (pv 6) (aG (pv 4) (aG (pv 5) az)))))
   (av (cJ (o6 aY bg bf er (bu (pv 6) rfl) (aG (ia (aG (pv 7) (aG (pv 5) (aG (pv 4) az)))) az)))
   (av (cU (bw vM (pv 7) g9 (bT _)) (av (cU (jM (vK (bu (pv 6) rfl))) (aI (cJ (bQ (bM cD (bu (pv 0) rfl) (bu (pv 6) rfl) (fun _ _=>rfl)) T.Jv T.Xk (VR T) (hr.mono (by decide)) T.Xj .nil bx (aG (pv 5) (aG (bu (bu (pv 6) rfl) rfl) (aG (pv 4) az)))))) bD)
   (aI (cJ (bQ (pv 0) T.bU T.Dg (Bo T) (hr.mono (by decide)) T.Df .nil bx (aG (pv 3) (aG (pv 5) (aG (pv 4) az))))))) bD)
   (aI (bH (pv 7)))))))))))),?_⟩
  try dsimp only[bN]
  obtain⟨loc,dx,q,hp,O,hF,hT⟩:=id N.fO
  have X:pD K (nc t) H F loc dx q p tp ns.length st:=⟨hp,O,hF,hT⟩
  have cY:=O.get .fO _ rfl
  rw[hp] at cY
  have hal:=(aj.mp hcp).1
  have hil:=(aj.mp hli).1
  have hcb:=bd.cb
  obtain⟨lb1,lb2,hg,lkd⟩:=bd.lb l (bz hli)
  obtain⟨ts,ets,pts,ams⟩:=abN (h:=(cp.h:Int)) (c:=(l.s:Int)) (r:=(cp.r:Int)) (List.Perm.refl (st.ts l.grp)) (bd.tb l.grp).2
  have hco:=O.get .nN _ rfl
  have hcq:q.cq.length=st.cps.length:=by
   have z:=hT.cps.len
   rw[af] at z
   exact z
  have haq:a < q.cq.length:=by omega
  refine⟨_,rfl,_,_,rfl,rfl,_,rfl,?_⟩
  rw[decide_eq_true (show (0:Int)≤(a:Int) by omega)]
  refine jF ⟨_,rfl,p,_,_,_,_,rfl,cY,T.bU,T.pU,rfl,loc .nN,_,rfl,.inl (ck.of hco),_,_,rfl,rfl,_,rfl,?_⟩
  rw[af,hcq,decide_eq_true (show (a:Int) < (st.cps.length:Int) by omega)]
  refine gu ?_
  refine⟨_,rfl,p,_,_,_,_,rfl,cY,T.bU,T.pU,rfl,.inl ⟨rfl,_,ck.of hco⟩,_,rfl,loc .nN,_,a,a,_,rfl,rfl,hco,(by omega),(by omega),(WR (by rw[af,hcq]; exact adq hal)).1,(by rw[aq,aa haq]; rfl),?_⟩
  have htu:dP K H q.cq[a] cp.vs:=hT.cps.at' a _ _ (aa haq) (by rw[aq,hcp]; rfl)
  obtain⟨X1,st1⟩:=ady X (qs:=q.cq.eraseIdx a) (cps:=st.cps.eraseIdx a) (by rw[← OI]; exact hT.cps.erase a)
  rw[OI]
  have aeZ:dP K _ q.cq[a] cp.vs:=N.fO.tup st1.kp htu
  generalize upd H (loc .nN) (.lst ((q.cq.eraseIdx a).map V.ref))=H1 at X1 st1 aeZ
  generalize q.cq[a]=qa at aeZ
  have es:{ st with cps:=st.cps.eraseIdx a }=aaV st a:=rfl
  rw[es] at X1
  have OE:(aaV st a).ls[cp.l]?=some l:=hli
  have N1:=N.done st1 X1.fO
  clear htu haq hcq hco cY X hT hF O hp es
  have oO:=X1.own.get .fO _ rfl
  rw[X1.hp] at oO
  have ao5:=X1.own.get (.cB cp.l) (pF (nc t) dx loc cp.l l) (by show ((aaV st a).ls[cp.l]?.map _)=_; rw[OE]; rfl)
  refine⟨_,rfl,qa,_,0,_,rfl,rfl,aeZ,rfl,?_⟩
  refine⟨_,rfl,qa,_,1,_,rfl,rfl,aeZ,rfl,?_⟩
  refine⟨_,rfl,qa,_,3,_,rfl,rfl,aeZ,rfl,?_⟩
  refine⟨_,rfl,p,_,_,_,_,rfl,oO,T.bU,T.fP,rfl,_,rfl,loc .c6,_,_,_,rfl,rfl,ck.of (X1.own.get .c6 _ rfl),sI hil,?_⟩
  have aeW:Av ns rs (aaV st a):=⟨Mb.wl,Mb.w4,Mb.fit⟩
  refine⟨_,rfl,p,_,_,rfl,oO,rfl,_,rfl,_,rfl,_,rfl,F,loc,dx,_,p,tp,ln,lr,ns,rs,aaV st a,o,cp.l,cp.r,cp.h,l,rfl,X1,N1,aeW,OE,hg,fun os H2 s2 hO h12=>?_⟩
  have ef:(if cp.r∈os then (if IV l cp.h=true then "twice" else "come") else "lost" : Str)=Hg l cp os:=rfl
  rw[ef]
  have k:=k os ts
  have X2:=X1.mono s2
  have ao6:=s2 _ _ ao5
  have amt:=X2.own.get (.aU cp.l) (.lst ((q.dq cp.l).map V.ref)) (by show ((aaV st a).ls[cp.l]?.map _)=_; rw[OE]; rfl)
  have hdq:=(X2.tup.aU cp.l _ OE).len
  rw[af] at hdq
  have hdq:(q.dq cp.l).length=l.aU.length:=hdq
  refine⟨_,rfl,loc (.cB cp.l),_,_,_,_,rfl,ao6,T.dZ,T.jQ,rfl,.inl ⟨rfl,_,ck.of amt⟩,_,rfl,_,rfl,_,rfl,(by show 3≤sizeLine; decide),fun z1 hz1=>?_⟩
  have u1:=aL.new (o:=.tup [V.str (Hg l cp os),V.int cp.h,V.int cp.r]) hz1
  refine⟨loc (.aU cp.l),_,_,rfl,rfl,u1 _ _ amt,oB (by rw[af,hdq]; omega),?_⟩
  obtain⟨X3,st3⟩:=K3 (X2.mono u1) OE (d:=xX l cp os) (by rw[ajo]; exact dP.of aF)
  have ahn:=(st1.trans (Step.refl' (F:=F) (s2.trans u1))).trans st3
  generalize upd (upd H2 z1 (.tup [V.str (Hg l cp os),V.int cp.h,V.int cp.r])) (loc (.aU cp.l)) (.lst ((q.dq cp.l).map V.ref++[.ref z1]))=H3 at X3 ahn
  have es:{ aaV st a with ls:=(aaV st a).ls.set cp.l { l with aU:=l.aU++[xX l cp os] } }=mL st a cp l os:=rfl
  rw[es] at X3
  clear es st3 u1 hz1 hdq amt ao6 X2 s2 ao5 oO X1 st1 aeZ N1 OE
  have Mg:=X3.own.get .fO _ rfl
  rw[X3.hp] at Mg
  have ajn:=OH (a:=a) (os:=os) hli
  have ahk:=X3.own.get (.cB cp.l) (pF (nc t) dx loc cp.l { l with aU:=l.aU++[xX l cp os] }) (by show ((mL st a cp l os).ls[cp.l]?.map _)=_; rw[ajn]; rfl)
  have ash:=X3.own.get (.letter cp.l) (uY (nc t) (dx (.letter cp.l)) { l with aU:=l.aU++[xX l cp os] }) (by show ((mL st a cp l os).ls[cp.l]?.map _)=_; rw[ajn]; rfl)
  have N3:=N.done ahn X3.fO
  refine⟨_,rfl,rfl,_,rfl,?_⟩
  rw[WB]
  by_cases e:comes l cp os=true
  ·have k:∀ F' H',NW K (nc t) t.bG H' F' p tp ln lr ns rs (doL rs (kC st a cp l os ts) cp.l cp.h { l with aU:=l.aU++[xX l cp os] } (some cp.r) os)→Step H F H' F'→Q (.str (Hg l cp os)) H':=fun F' H' W z=>k F' H' hO h12 pts ams (by unfold UK; rw[if_pos e]; exact W) z
   rw[e]
   refine jF ?_
   refine Rf (fun σ H4=>pD K (nc t) H4 F loc dx { q with cq:=q.cq.eraseIdx a,dq:=jk q.dq cp.l (q.dq cp.l++[z1]) } p tp ns.length (kC st a cp l os ts)∧Step H F H4 F∧σ = [some (.ref p),some (.int a),some (.ref qa),some (.int cp.l),some (.int cp.r),some (.int cp.h),some (.ref (loc (.cB cp.l))),some (.str (Hg l cp os))]) ?_ (fun N' hN=>?_)
   ·rintro σ H4 ⟨X4,Wc,rfl⟩
    have Qf:=X4.own.get .fO _ rfl
    rw[X4.hp] at Qf
    have ew:=aaX (s:=st) (a:=a) (cp:=cp) (l:=l) (os:=os) (ts:=ts)
    have amr:Av ns rs (kC st a cp l os ts):=⟨by rw[ew.1]; exact Mb.wl,by rw[ew.1]; exact Mb.w4,by rw[ew.2.1]; exact Mb.fit⟩
    refine⟨_,rfl,p,_,_,rfl,Qf,rfl,_,rfl,_,rfl,_,rfl,F,p,tp,ln,lr,ns,rs,kC st a cp l os ts,o,cp.l,cp.h,some cp.r,{ l with aU:=l.aU++[xX l cp os] },D + 51,rfl,N.done Wc X4.fO,amr,aaY bd hli hal pts ams,by omega,aaW hli,fun os' F5 H5 hO' _ W5 st5=>?_⟩
    have hO':kI (Jc ns rs o (kC st a cp l os ts).ws l.grp) ((kC st a cp l os ts).R l.grp) os':=hO'
    rw[ew.1,ew.2.1] at hO'
    rw[hO'.uniq hO] at W5
    exact⟨_,rfl,k F5 H5 W5 (Wc.trans st5)⟩
   ·refine⟨_,rfl,loc (.cB cp.l),_,_,_,_,rfl,ahk,T.dZ,T.BR,rfl,_,rfl,?_⟩
    cases eo:l.old with
    | true =>
     refine gu ?_
     refine hN _ _ ⟨?_,ahn,rfl⟩
     unfold kC
     rw[if_pos eo]
     exact X3
    | false =>
     refine jF ?_
     refine⟨_,rfl,p,_,_,_,_,rfl,Mg,T.bU,T.yp,rfl,_,rfl,loc (.cB cp.l),_,_,_,_,rfl,ahk,T.dZ,T.lX,rfl,loc .pC,_,_,_,rfl,rfl,ck.of (X3.own.get .pC _ rfl),sI hg,loc (.book l.grp),dx (.book l.grp),_,rfl,X3.own.get (.book l.grp) _ (if_pos hg),rfl,_,rfl,?_⟩
     refine ajr T (fun Q q=>⟨_,rfl,q⟩) ahk ash ?_
     refine⟨_,rfl,loc (.book l.grp),loc (.gy l.grp),st.ts l.grp,cp.h,l.s,cp.r,rfl,X3.own.abQ hg,?_,fun H4 h4 kp4=>?_⟩
     ·have:=(bd.tb l.grp).1
      omega
     ·rw[ets] at h4
      obtain⟨X4,Wc⟩:=ahm X3 hg ts h4 kp4
      refine hN _ _ ⟨?_,ahn.trans Wc,rfl⟩
      unfold kC
      rw[if_neg (by rw[eo]; decide)]
      exact X4
  ·have e':comes l cp os=false:=by simpa using e
   rw[e']
   refine gu ?_
   refine⟨_,rfl,k F H3 hO h12 pts ams ?_ ahn⟩
   unfold UK
   rw[e',if_neg (by decide)]
   exact N3
end
end jG
set_option maxHeartbeats 4000000
namespace jG
open PySem L2 TW PyProof.Rows
open RM (fq rF bV bR)
seal L2.PE L2.PA L2.PT L2.PW L2.PS L2.oS L2.PG L2.uS L2.PI L2.uV
section
inductive Rw(rs:List R5)(os:List Nat)(r0:Nat)(x:Nat):Nat→Prop
 | refl:Rw rs os r0 x x
 | step {y r:Nat} (t:Rw rs os r0 x y) (hr:r∈os) (ne:r≠r0) (ha:isAt rs (y:Int) r=true):Rw rs os r0 x (kO rs r y)
inductive Ds(N:RM.Net)(R:Nat→RM.Row)(c:Nat):Nat→Prop
 | self:Ds N R c c
 | on {r x y:Nat} (t:RM.qw N R r x y) (d:Ds N R c y):Ds N R c x
theorem Ds.rank{N:RM.Net}{R:Nat→RM.Row}{c x:Nat}(d:Ds N R c x):(R c).ho≤(R x).ho:=by
 induction d with
 | self=>exact Int.le_refl _
 | on t _ ih=>have:=t.ho; omega
variable{ns:List Int}{rs:List R5}{os:List Nat}{live:List Nat}{nd:ns.Nodup}{ok:∀ r∈rs,r.Ok ns.length}{hl:∀ k∈live,k < rs.length}{R:Nat→RM.Row}
theorem UL{r x:Nat}(hk:r∈live)(ha:isAt rs (x:Int) r=true):RM.Rc (bh ns rs live nd ok hl) r x (kO rs r x):=by
 refine (x9 hk).mpr ⟨ha,?_⟩
 unfold kO
 rw[aa (hl r hk)]
theorem YZ{N:RM.Net}{r a b x y:Nat}(h1:RM.Rc N r a b)(h2:RM.Rc N r x y):(a=x∧b=y)∨(a=y∧b=x):=by
 rcases h1.2 with ⟨e1,e2⟩ | ⟨e1,e2⟩ <;> rcases h2.2 with ⟨e3,e4⟩ | ⟨e3,e4⟩ <;> omega
theorem aaZ{r x:Nat}(hr:r < rs.length)(ok:∀ r∈rs,r.Ok ns.length)(ha:isAt rs (x:Int) r=true):isAt rs ((kO rs r x:Nat):Int) r=true∧kO rs r (kO rs r x)=x∧kO rs r x≠x∧kO rs r x < ns.length:=by
 have o:=ok _ (aW hr)
 have h1:=o.a0; have h2:=o.b0; have h3:=o.ab; have h4:=o.a1; have h5:=o.b1
 have ef:∀ y,kO rs r y=ie rs[r] y:=fun y=>by unfold kO; rw[aa hr]
 have ei:∀ y:Int,isAt rs y r=(decide (y=rs[r].a) || decide (y=rs[r].b)):=fun y=>by unfold isAt; rw[aa hr]
 rw[ef,ef,ei]
 rw[ei] at ha
 have ha:(decide ((x:Int)=rs[r].a) || decide ((x:Int)=rs[r].b))=true:=ha
 rw[Bool.or_eq_true,decide_eq_true_iff,decide_eq_true_iff] at ha
 show (decide _ || decide _)=true∧ie rs[r] (ie rs[r] x)=x∧ie rs[r] x≠x∧ie rs[r] x < _
 rw[Bool.or_eq_true,decide_eq_true_iff,decide_eq_true_iff]
 unfold ie
 rcases ha with e | e
 ·rw[if_pos e]
  have e2:((rs[r].b.toNat:Nat):Int)=rs[r].b:=by omega
  rw[e2,if_neg (bW h3)]
  omega
 ·have e1:¬ (x:Int)=rs[r].a:=by omega
  rw[if_neg e1]
  have e2:((rs[r].a.toNat:Nat):Int)=rs[r].a:=by omega
  rw[e2,if_pos rfl]
  omega
theorem adO(O:kI (bh ns rs live nd ok hl) R os){r0 c p:Nat}(h0:RM.qw (bh ns rs live nd ok hl) R r0 c p){r y z:Nat}(hr:r∈os)(ne:r≠r0)(ha:RM.Rc (bh ns rs live nd ok hl) r y z)(d:Ds (bh ns rs live nd ok hl) R c y):Ds (bh ns rs live nd ok hl) R c z:=by
 obtain⟨a,b,t⟩:=(O.2 r).mp hr
 rcases YZ t.Eh ha with ⟨rfl,rfl⟩ | ⟨rfl,rfl⟩
 ·cases d with
  | self=>exact absurd (t.uniq h0).1 ne
  | on t' d' =>
   obtain⟨_,rfl⟩:=t.uniq t'
   exact d'
 ·exact .on t d
theorem adP(O:kI (bh ns rs live nd ok hl) R os){r x:Nat}(hr:r∈os)(ha:isAt rs (x:Int) r=true):¬ Rw rs os r x (kO rs r x):=by
 intro t
 obtain⟨c,p,h0⟩:=(O.2 r).mp hr
 have lv:∀ k∈os,k∈live:=fun k hk=>by
  obtain⟨a,b,t⟩:=(O.2 k).mp hk
  exact t.Eh.1
 have go:∀ {y z:Nat},Rw rs os r y z→Ds (bh ns rs live nd ok hl) R c y→Ds (bh ns rs live nd ok hl) R c z:=fun {y z} t=>by
  induction t with
  | refl=>exact id
  | step t hr ne ha ih=>exact fun d=>adO O h0 hr ne (UL (lv _ hr) ha) (ih d)
 have back:∀ {y z:Nat},Rw rs os r y z→Ds (bh ns rs live nd ok hl) R c z→Ds (bh ns rs live nd ok hl) R c y:=fun {y z} t=>by
  induction t with
  | refl=>exact id
  | step t hr ne ha ih=>exact fun d=>ih (adO O h0 hr ne (UL (lv _ hr) ha).symm d)
 have e:=h0.ho
 rcases YZ h0.Eh (UL (lv r hr) ha) with ⟨rfl,e2⟩ | ⟨e1,rfl⟩
 ·have:=(go t .self).rank
  rw[← e2] at this
  omega
 ·have:=(back t (e1 ▸ .self)).rank
  omega
theorem Rw.trans{r0 x y z:Nat}(a:Rw rs os r0 x y)(b:Rw rs os r0 y z):Rw rs os r0 x z:=by
 induction b with
 | refl=>exact a
 | step t hr ne ha ih=>exact .step ih hr ne ha
theorem Rw.symm{r0 x y:Nat}(ok:∀ r∈rs,r.Ok ns.length)(lt:∀ k∈os,k < rs.length)(a:Rw rs os r0 x y):Rw rs os r0 y x:=by
 induction a with
 | refl=>exact .refl
 | @step y r t hr ne ha ih =>
  obtain⟨h1,h2,_⟩:=aaZ (lt r hr) ok ha
  have:Rw rs os r0 (kO rs r y) y:=by
   have:=Rw.step (rs:=rs) (os:=os) (r0:=r0) (x:=kO rs r y) .refl hr ne h1
   rw[h2] at this
   exact this
  exact this.trans ih
structure En where
 h:Nat
 fr:Option (Nat × Nat)
noncomputable def En.by?(e:En):Option Nat:=e.fr.map (·.1)
noncomputable def goes(rs:List R5)(os:List Nat)(e:En):List Nat:=os.filter fun r=>isAt rs (e.h:Int) r && !decide (some r=e.by?)
noncomputable def Bp(rs:List R5)(os:List Nat)(e:En):List En:=(goes rs os e).map fun r=>⟨kO rs r e.h,some (r,e.h)⟩
noncomputable def WL(rs:List R5)(os:List Nat)(f:Nat):Nat→List En
 | 0=>[⟨f,none⟩]
 | k + 1=>match (WL rs os f k)[k]? with
  | some e=>WL rs os f k++Bp rs os e
  | none=>WL rs os f k
theorem nC{f k:Nat}{e:En}(h:(WL rs os f k)[k]?=some e):WL rs os f (k + 1)=WL rs os f k++Bp rs os e:=by
 show (match (WL rs os f k)[k]? with | some e=>_ | none=>_)=_
 rw[h]
structure WI(rs:List R5)(os:List Nat)(n f k:Nat)(L:List En):Prop where
 ne:L≠[]
 nd:(L.map (·.h)).Nodup
 fr:∀ e∈L,∀ r p,e.fr=some (r,p)→r∈os∧isAt rs (p:Int) r=true∧kO rs r p=e.h∧∃ (j:Nat) (e':En),j < k∧L[j]?=some e'∧e'.h=p
 cn:∀ r0,(∀ e∈L,∀ p,e.fr≠some (r0,p))→∀ e∈L,Rw rs os r0 f e.h
 lt:∀ e∈L,e.h < n
theorem sC{e:En}{r:Nat}:r∈goes rs os e↔r∈os∧isAt rs (e.h:Int) r=true∧some r≠e.by?:=by
 unfold goes
 rw[eV,fm,Bool.not_eq_true',decide_eq_false_iff_not]
theorem WI.zero{n f:Nat}(hf:f < n):WI rs os n f 0 [⟨f,none⟩] :=
 ⟨by simp,by simp,fun e he r p h=>(by rw[bX.mp he] at h; cases h),fun r0 _ e he=>(by rw[bX.mp he]; exact .refl),fun e he=>(by rw[bX.mp he]; exact hf)⟩
theorem WI.succ{f k:Nat}{L:List En}{e:En}(O:kI (bh ns rs live nd ok hl) R os)(w:WI rs os ns.length f k L)(he:L[k]?=some e):WI rs os ns.length f (k + 1) (L++Bp rs os e):=by
 have lt:∀ k∈os,k < rs.length:=Zz O
 have hem:=bz he
 have inj:∀ {i j:Nat} {a b:En},L[i]?=some a→L[j]?=some b→a.h=b.h→i=j:=fun {i j a b} h1 h2 e=>by
  have hi:=(aj.mp h1).1
  have q:(L.map (·.h))[i]?=(L.map (·.h))[j]?:=by
   rw[aq,aq,h1,h2]
   exact congrArg some e
  exact (yS (by rw[af]; exact hi) w.nd).mp q
 have new:∀ r∈goes rs os e,∀ a∈L,a.h≠kO rs r e.h:=fun r hr a ha z=>by
  obtain⟨h1,h2,h3⟩:=sC.mp hr
  have fresh:∀ b∈L,∀ p,b.fr≠some (r,p):=fun b hb p z2=>by
   obtain⟨q1,q2,q3,j,e',hj,hj2,hj3⟩:=w.fr b hb r p z2
   have lv:r∈live:=by
    obtain⟨_,_,t⟩:=(O.2 r).mp h1
    exact t.Eh.1
   rcases YZ (UL (ns:=ns) (nd:=nd) (ok:=ok) (hl:=hl) lv q2) (UL lv h2) with ⟨e1,e2⟩ | ⟨e1,e2⟩
   ·have:=inj hj2 he (by rw[hj3,e1])
    omega
   ·have eb:b.h=e.h:=by rw[← q3,e2]
    obtain⟨i,hi⟩:=lG hb
    have ei:=inj hi he eb
    rw[ei,he] at hi
    cases hi
    refine h3 ?_
    unfold En.by?
    rw[z2]
    rfl
  have c1:=w.cn r fresh e hem
  have c2:=w.cn r fresh a ha
  rw[z] at c2
  exact adP O h1 h2 ((c1.symm ok lt).trans c2)
 have uniq:∀ r∈goes rs os e,∀ r'∈goes rs os e,kO rs r e.h=kO rs r' e.h→r=r':=fun r hr r' hr' z=>by
  obtain⟨h1,h2,h3⟩:=sC.mp hr
  obtain⟨g1,g2,g3⟩:=sC.mp hr'
  by_cases q:r'=r
  ·exact q.symm
  ·have:=Rw.step (rs:=rs) (os:=os) (r0:=r) (x:=e.h) .refl g1 q g2
   rw[← z] at this
   exact absurd this (adP O h1 h2)
 have nds:(goes rs os e).Nodup:=List.Nodup.sublist List.filter_sublist (O.1.imp fun h=>bZ h)
 refine⟨fun z=>w.ne (List.append_eq_nil_iff.mp z).1,?_,fun a ha r p h=>?_,fun r0 h0 a ha=>?_,fun a ha=>?_⟩
 ·rw[aO,List.nodup_append]
  refine⟨w.nd,?_,fun x hx y hy=>?_⟩
  ·unfold Bp
   rw[gx]
   refine (List.pairwise_map.mpr ?_)
   refine List.Pairwise.imp_of_mem ?_ nds
   intro r r' hr hr' ne z
   exact ne (uniq r hr r' hr' z)
  ·obtain⟨a,ha,rfl⟩:=bA.mp hx
   obtain⟨b,hb,rfl⟩:=bA.mp hy
   obtain⟨r,hr,rfl⟩:=bA.mp hb
   exact new r hr a ha
 ·rcases cy.mp ha with ha | ha
  ·obtain⟨q1,q2,q3,j,e',hj,hj2,hj3⟩:=w.fr a ha r p h
   exact⟨q1,q2,q3,j,e',by omega,by rw[cH (aj.mp hj2).1]; exact hj2,hj3⟩
  ·obtain⟨r',hr',rfl⟩:=bA.mp ha
   cases h
   obtain⟨h1,h2,_⟩:=sC.mp hr'
   exact⟨h1,h2,rfl,k,e,by omega,by rw[cH (aj.mp he).1]; exact he,rfl⟩
 ·have h0':∀ b∈L,∀ p,b.fr≠some (r0,p):=fun b hb=>h0 b (List.mem_append_left _ hb)
  rcases cy.mp ha with ha' | ha'
  ·exact w.cn r0 h0' a ha'
  ·obtain⟨r,hr,rfl⟩:=bA.mp ha'
   obtain⟨h1,h2,_⟩:=sC.mp hr
   refine .step (w.cn r0 h0' e hem) h1 (fun z=>h0 _ ha e.h ?_) h2
   show some (r,e.h)=some (r0,e.h)
   rw[z]
 ·rcases cy.mp ha with ha | ha
  ·exact w.lt a ha
  ·obtain⟨r,hr,rfl⟩:=bA.mp ha
   obtain⟨h1,h2,_⟩:=sC.mp hr
   exact (aaZ (lt r h1) ok h2).2.2.2
theorem WI.len{n f k:Nat}{L:List En}(w:WI rs os n f k L):L.length≤n:=by
 have:=Gr.We (B:=aB n) w.nd (fun x hx=>by
  obtain⟨e,he,rfl⟩:=bA.mp hx
  exact fQ.mpr (w.lt e he))
 rw[af,bC] at this
 exact this
theorem UM{f:Nat}(O:kI (bh ns rs live nd ok hl) R os)(hf:f < ns.length):∀ k,k≤(WL rs os f k).length→WI rs os ns.length f k (WL rs os f k)∧∀ j,j≤k→(WL rs os f j) <+: (WL rs os f k)∧j≤(WL rs os f j).length
 | 0,_=>by
  refine⟨WI.zero hf,fun j hj=>?_⟩
  have e:j=0:=by omega
  subst e
  exact⟨List.prefix_refl _,bJ _⟩
 | k + 1,hk=>by
  cases e:(WL rs os f k)[k]? with
  | none =>
   have e1:WL rs os f (k + 1)=WL rs os f k:=by
    show (match (WL rs os f k)[k]? with | some e=>_ | none=>_)=_
    rw[e]
   have:=List.getElem?_eq_none_iff.mp e
   rw[e1] at hk
   omega
  | some en =>
   have hk':=(aj.mp e).1
   obtain⟨w,p⟩:=UM O hf k (by omega)
   rw[nC e] at hk ⊢
   refine⟨w.succ O e,fun j hj=>?_⟩
   by_cases z:j=k + 1
   ·subst z
    rw[nC e]
    exact⟨List.prefix_refl _,hk⟩
   ·obtain⟨p1,p2⟩:=p j (by omega)
    exact⟨p1.trans (List.prefix_append _ _),p2⟩
end
end jG
set_option maxHeartbeats 4000000
namespace jG
open PySem L2 TW PyProof.Rows
open RM (fq rF bV bR)
seal L2.PE L2.PA L2.PT L2.PW L2.PS L2.oS L2.PG L2.uS L2.PI L2.uV
section
noncomputable def yP(cl:List (Nat × Nat))(x h:Nat):List Nat:=(aB cl.length).filter fun c=>decide (cl[c]?=some (h,(cl.getD x (0,0)).2)) && !decide (c=x)
noncomputable def UN(e:En):eS:=match e.fr with | none=>.post e.h | some (r,_)=>.K2 e.h r
noncomputable def wN(rs:List R5)(x r:Nat):Nat:=match rs[r]? with | some re=>x % re.d.toNat | none=>0
noncomputable def Q0(rs:List R5)(x h r:Nat):eS:=.send h r (wN rs x r)
noncomputable def uR(rs:List R5)(os:List Nat)(cl:List (Nat × Nat))(x:Nat)(e:En):List eS:=UN e :: ((yP cl x e.h).map (eS.hand e.h)++(goes rs os e).map (Q0 rs x e.h))
noncomputable def dw(rs:List R5)(os:List Nat)(cl:List (Nat × Nat))(x f k:Nat):List eS:=((WL rs os f k).take k).flatMap (uR rs os cl x)
noncomputable def VW(rs:List R5)(x i:Nat)(e:En):Cp:=match e.fr with | some (r,_)=>⟨i,r,wN rs x r,e.h⟩ | none=>⟨i,0,0,e.h⟩
noncomputable def ae0(i:Nat)(had:List (List Nat))(cs:List Nat):List (List Nat):=cs.foldl (fun had c=>had.set c (had.getD c []++[i])) had
variable{ns:List Int}{rs:List R5}{os:List Nat}{cl:List (Nat × Nat)}{x f i h k:Nat}{s:NS}{A:List LS}{l:LS}
theorem Y0:(A++[l])[A.length]?=some l:=by rw[cu (aK _),kD]; rfl
theorem Rg{l2:LS}:(A++[l]).set A.length l2=A++[l2]:=by
 rw[List.set_append_right _ _ (aK _),kD]
 rfl
theorem aa0:∀ (cs:List Nat) (s:NS) (l:LS),s.ls=A++[l]→cs.foldl (oQ A.length h) s = { s with had:=ae0 A.length s.had cs,ls:=A++[{ l with aU:=l.aU++cs.map (eS.hand h) }] }
 | [],s,l,e=>by
  show s = { s with had:=s.had,ls:=A++[{ l with aU:=l.aU++[] }] }
  rw[cz,← e]
 | c :: cs,s,l,e=>by
  have e1:(uv s A.length c).ls[A.length]?=some l:=by show s.ls[A.length]?=_; rw[e]; exact Y0
  have e2:oQ A.length h s c = { s with had:=s.had.set c (s.had.getD c []++[A.length]),ls:=A++[{ l with aU:=l.aU++[.hand h c] }] }:=by
   unfold oQ
   have e3:(uv s A.length c).ls=A++[l]:=e
   rw[gF e1,e3,Rg]
   rfl
  rw[oW,aa0 cs _ { l with aU:=l.aU++[.hand h c] } (by rw[e2]),e2]
  simp only[jE,cG]
  rfl
theorem aa1:∀ (gs:List Nat) (s:NS) (l:LS),s.ls=A++[l]→gs.foldl (yO rs A.length h) s = { s with cps:=s.cps++gs.map fun r=>⟨A.length,r,uQ s.ws r (sA l),kO rs r h⟩,ls:=A++[{ l with aU:=l.aU++gs.map fun r=>.send h r (uQ s.ws r (sA l)) }] }
 | [],s,l,e=>by
  show s = { s with cps:=s.cps++[],ls:=A++[{ l with aU:=l.aU++[] }] }
  rw[cz,cz,← e]
 | r :: gs,s,l,e=>by
  have e1:s.ls[A.length]?=some l:=by rw[e]; exact Y0
  have en:aeV s A.length=sA l:=by unfold aeV; rw[e1]
  have e2:yO rs A.length h s r = { s with cps:=s.cps++[⟨A.length,r,uQ s.ws r (sA l),kO rs r h⟩],ls:=A++[{ l with aU:=l.aU++[.send h r (uQ s.ws r (sA l))] }] }:=by
   unfold yO aaP
   rw[gF e1,en,e,Rg]
  rw[oW,aa1 gs _ { l with aU:=l.aU++[.send h r (uQ s.ws r (sA l))] } (by rw[e2]),e2]
  simp only[jE,cG]
  rfl
theorem akh{eu:Option Nat}(e:s.ls=A++[l]):doL rs s A.length h l eu os = { s with had:=ae0 A.length s.had (oR s l h),cps:=s.cps++(YW rs s l h eu os).map fun r=>⟨A.length,r,uQ s.ws r (sA l),kO rs r h⟩,ls:=A++[{ l with done:=uP l.done h,aU:=l.aU++((oR s l h).map (eS.hand h)++(YW rs s l h eu os).map fun r=>.send h r (uQ s.ws r (sA l))) }] }:=by
 unfold doL
 have e1:(gm s A.length h l).ls=A++[{ l with done:=uP l.done h }]:=by
  show s.ls.set A.length _=_
  rw[e,Rg]
 rw[aa0 _ _ _ e1]
 rw[aa1 _ _ { l with done:=uP l.done h,aU:=l.aU++(oR s l h).map (eS.hand h) } rfl]
 simp only[jE]
 rfl
theorem aho{ds:List Nat}{h:Nat}{l:LS}(e:l.done=ds):IV l h=decide (h∈ds):=by
 unfold IV
 rw[e]
 clear e
 induction ds with
 | nil=>rfl
 | cons d ds ih =>
  rw[cG]
  by_cases z:d=h
  ·subst z
   rw[Eb rfl]
   simp
  ·rw[Ec (fun e=>z (by have:=Sum.inl.inj e; omega)),ih]
   have:¬ h=d:=fun e=>z e.symm
   simp[this]
theorem adQ(hh:s.bY=cl.map (·.1))(hg:s.groups=cl.map (·.2))(hx:x < cl.length)(e1:l.grp=(cl.getD x (0,0)).2)(e2:l.s=x)(e3:l.kd=2):oR s l h=yP cl x h:=by
 unfold oR Bl yP
 rw[List.filter_filter,hh,af]
 refine List.filter_congr fun c hc=>?_
 have hc:=fQ.mp hc
 have i1:KH s h l.grp c=decide (cl[c]?=some (h,(cl.getD x (0,0)).2)):=by
  unfold KH
  rw[hh,hg,aq,aq,aa hc,e1,decide_eq_decide]
  constructor
  ·rintro⟨z1,z2⟩
   rw[← aS z1,← aS z2]
  ·intro z
   rw[aS z]
   exact⟨rfl,rfl⟩
 have i2:Jb (l.s:Int) (l.to:Int) l.kd (c:Int) = !decide (c=x):=by
  unfold Jb
  rw[e3,if_neg (by decide),if_pos rfl,e2]
  congr 1
  rw[decide_eq_decide]
  exact⟨fun z=>by have:=V.int.inj z; omega,fun z=>by rw[z]⟩
 rw[i1,i2,Bool.and_comm]
theorem aki{e:En}(e3:l.kd=2):YW rs s l e.h e.by? os=goes rs os e:=by
 unfold YW goes
 have e4:yb (l.to:Int) l.kd=none:=by unfold yb; rw[e3,if_neg (by decide)]
 rw[e4]
 show ((((os.filter (isAt rs e.h)).map fun k:Nat=>(k:Int)).filter (qt _)).map Int.toNat)=_
 rw[List.filter_map,gx,List.filter_filter]
 have:(Int.toNat ∘ fun k:Nat=>(k:Int))=id:=by funext k; exact iF k
 rw[this,List.map_id]
 refine List.filter_congr fun r _=>?_
 rw[Bool.and_comm]
 congr 1
 show qt (e.by?.map fun k:Nat=>(k:Int)) (r:Int)=_
 unfold qt
 congr 1
 rw[decide_eq_decide]
 cases e.by? with
 | none=>exact⟨fun z=>(by cases z),fun z=>(by cases z)⟩
 | some q=>exact⟨fun z=>(by have z:V.int (r:Int)=V.int (q:Int):=z; have:=V.int.inj z; rw[show r=q by omega]),fun z=>(by rw[aS z]; rfl)⟩
theorem adR(o:ja ns rs)(hw:s.ws=rs.map fun r=>aB r.d.toNat){r:Nat}(hr:r < rs.length):uQ s.ws r x=wN rs x r:=by
 unfold uQ wN
 rw[hw,aq,aa hr]
 show (aB rs[r].d.toNat).getD (x % (aB rs[r].d.toNat).length) 0=x % rs[r].d.toNat
 rw[bC]
 have d1:=(o.ok _ (aW hr)).d1
 have:x % rs[r].d.toNat < rs[r].d.toNat:=Nat.mod_lt _ (by omega)
 rw[aD,iE this]
 rfl
structure S3(rs:List R5)(os:List Nat)(cl:List (Nat × Nat))(s0:NS)(x f k:Nat)(l:LS)(s:NS):Prop where
 ws:s.ws=s0.ws
 R:s.R=s0.R
 hm:s.bY=s0.bY
 gr:s.groups=s0.groups
 ls:s.ls=s0.ls++[l]
 hd:s.had=((WL rs os f k).take k).foldl (fun had e=>ae0 s0.ls.length had (yP cl x e.h)) s0.had
 cp:s.cps=((WL rs os f k).drop k).map (VW rs x s0.ls.length)
 ds:l.aU=dw rs os cl x f k
 dn:l.done=((WL rs os f k).take k).map (·.h)
 lx:l.s=x
 kd:l.kd=2
 old:l.old=false
 lg:l.grp=(cl.getD x (0,0)).2
theorem vG{L M:List En}{k:Nat}{e:En}(h:L[k]?=some e):(L++M).take (k + 1)=L.take k++[e]∧(L++M).drop (k + 1)=L.drop (k + 1)++M:=by
 have hk:=(aj.mp h).1
 constructor
 ·rw[List.take_append_of_le_length (by omega),List.take_add_one,h]
  rfl
 ·rw[List.drop_append_of_le_length (by omega)]
theorem aa2{e:En}(o:ja ns rs)(lt:∀ r∈os,r < rs.length)(hw:s.ws=rs.map fun r=>aB r.d.toNat):((goes rs os e).map fun r=>(⟨i,r,uQ s.ws r x,kO rs r e.h⟩ : Cp))=(Bp rs os e).map (VW rs x i):=by
 unfold Bp
 rw[gx]
 refine eX fun r hr=>?_
 show _=(⟨i,r,wN rs x r,kO rs r e.h⟩ : Cp)
 rw[adR o hw (lt r (sC.mp hr).1)]
theorem aa3{e:En}(o:ja ns rs)(lt:∀ r∈os,r < rs.length)(hw:s.ws=rs.map fun r=>aB r.d.toNat):((goes rs os e).map fun r=>eS.send e.h r (uQ s.ws r x))=(goes rs os e).map (Q0 rs x e.h) :=
 eX fun r hr=>by
  show eS.send e.h r (uQ s.ws r x) = .send e.h r (wN rs x r)
  rw[adR o hw (lt r (sC.mp hr).1)]
theorem S3.post{s0:NS}(o:ja ns rs)(lt:∀ r∈os,r < rs.length)(hw:s0.ws=rs.map fun r=>aB r.d.toNat)(hh:s0.bY=cl.map (·.1))(hg:s0.groups=cl.map (·.2))(hx:x < cl.length)(hc:s0.cps = []):∃ l,S3 rs os cl s0 x (cl.getD x (0,0)).1 1 l (WA rs s0 x none os):=by
 have eh:s0.bY.getD x 0=(cl.getD x (0,0)).1:=by
  rw[hh,aD,aq,aD,aa hx]
  rfl
 have eg:s0.groups.getD x 0=(cl.getD x (0,0)).2:=by
  rw[hg,aD,aq,aD,aa hx]
  rfl
 unfold WA
 rw[eh]
 generalize hf:(cl.getD x (0,0)).1=f
 have e0:(WL rs os f 0)[0]?=some ⟨f,none⟩:=rfl
 rw[akh (A:=s0.ls) (s:=IW s0 x none) (l:={ qv s0 x none with aU:=[.post f] }) (by rw[← hf,← eh]; rfl)]
 have h1:oR (IW s0 x none) { qv s0 x none with aU:=[.post f] } f=yP cl x f:=adQ hh hg hx eg rfl rfl
 have h2:YW rs (IW s0 x none) { qv s0 x none with aU:=[.post f] } f none os=goes rs os ⟨f,none⟩:=aki (e:=⟨f,none⟩) rfl
 have h3:sA { qv s0 x none with aU:=[.post f] }=x:=rfl
 rw[h1,h2,h3]
 have c1:=aa2 (i:=s0.ls.length) (x:=x) (s:=IW s0 x none) (e:=⟨f,none⟩) o lt hw
 have c2:=aa3 (x:=x) (s:=IW s0 x none) (e:=⟨f,none⟩) o lt hw
 rw[c1,c2]
 refine⟨_,rfl,rfl,rfl,rfl,rfl,?_,?_,?_,rfl,rfl,rfl,rfl,eg⟩
 ·show _=((WL rs os f 0++Bp rs os ⟨f,none⟩).take 1).foldl _ _
  rw[(vG e0).1]
  rfl
 ·show s0.cps++_=((WL rs os f 0++Bp rs os ⟨f,none⟩).drop 1).map _
  rw[(vG e0).2,hc]
  rfl
 ·show _=((WL rs os f 0++Bp rs os ⟨f,none⟩).take 1).flatMap _
  rw[(vG e0).1]
  show _=uR rs os cl x ⟨f,none⟩++[]
  rw[cz]
  rfl
theorem S3.pass{s0:NS}{e:En}{cp:Cp}{ts:List T3}{n:Nat}(o:ja ns rs)(lt:∀ r∈os,r < rs.length)(hw:s0.ws=rs.map fun r=>aB r.d.toNat)(hh:s0.bY=cl.map (·.1))(hg:s0.groups=cl.map (·.2))(hx:x < cl.length)(st:S3 rs os cl s0 x f k l s)(wi:WI rs os n f k (WL rs os f k))(he:(WL rs os f k)[k]?=some e)(k1:1≤k)(hcp:s.cps[0]?=some cp):comes l cp os=true∧cp.l=s0.ls.length∧cp=VW rs x s0.ls.length e∧∃ l',S3 rs os cl s0 x f (k + 1) l' (UK rs s 0 cp l os ts):=by
 have hk:=(aj.mp he).1
 have hem:=bz he
 have ecp:cp=VW rs x s0.ls.length e:=by
  rw[st.cp,aq,kE,Nat.add_zero,he] at hcp
  exact (aS hcp).symm
 have hfr:∃ r p,e.fr=some (r,p):=by
  cases z:e.fr with
  | some q=>exact⟨q.1,q.2,rfl⟩
  | none =>
   exfalso
   have:∀ m,m≤k→∀ (j:Nat) (a:En),(WL rs os f m)[j]?=some a→a.fr=none→j=0:=fun m=>by
    induction m with
    | zero=>intro _ j a h1 _; have:=(aj.mp h1).1; have e:(WL rs os f 0).length=1:=rfl; omega
    | succ m ih =>
     intro hm j a h1 h2
     cases q:(WL rs os f m)[m]? with
     | none =>
      have e1:WL rs os f (m + 1)=WL rs os f m:=by
       show (match (WL rs os f m)[m]? with | some e=>_ | none=>_)=_
       rw[q]
      rw[e1] at h1
      exact ih (by omega) j a h1 h2
     | some en =>
      rw[nC q] at h1
      by_cases w:j < (WL rs os f m).length
      ·rw[cH w] at h1
       exact ih (by omega) j a h1 h2
      ·rw[cu (by omega)] at h1
       obtain⟨r,_,e3⟩:=bA.mp (bz h1)
       rw[← e3] at h2
       cases h2
   have:=this k (aK _) k e he z
   omega
 obtain⟨r,p,efr⟩:=hfr
 have ac1:cp = ⟨s0.ls.length,r,wN rs x r,e.h⟩:=by rw[ecp]; unfold VW; rw[efr]
 obtain⟨q1,q2,q3,_⟩:=wi.fr e hem r p efr
 have hnd:e.h ∉ ((WL rs os f k).take k).map (·.h):=fun z=>by
  obtain⟨a,ha,ea⟩:=bA.mp z
  obtain⟨j,hj⟩:=lG ha
  have hjk:j < k:=by
   have:=(aj.mp hj).1
   rw[b5] at this
   omega
  rw[List.getElem?_take_of_lt hjk] at hj
  have q:((WL rs os f k).map (·.h))[j]?=((WL rs os f k).map (·.h))[k]?:=by
   rw[aq,aq,hj,he]
   exact congrArg some ea
  have:=(yS (by rw[af]; omega) wi.nd).mp q
  omega
 have hdb:IV l cp.h=false:=by
  rw[aho st.dn,ac1]
  exact decide_eq_false hnd
 have ao7:comes l cp os=true:=by
  unfold comes
  rw[hdb,ac1]
  show (decide (r∈os) && true)=true
  rw[decide_eq_true q1]
  rfl
 refine⟨ao7,by rw[ac1],ecp,?_⟩
 have hfd:xX l cp os = .K2 e.h r:=by
  unfold xX
  rw[hdb,ac1,if_pos q1,if_neg (by decide)]
 have hcl:cp.l=s0.ls.length:=by rw[ac1]
 unfold UK kC
 rw[ao7,if_pos rfl,if_neg (show ¬ l.old=true by rw[st.old]; decide),hfd]
 have els:(Mi (mL s 0 cp l os) l.grp ts).ls=s0.ls++[{ l with aU:=l.aU++[.K2 e.h r] }]:=by
  show s.ls.set cp.l { l with aU:=l.aU++[xX l cp os] }=_
  rw[hfd,st.ls,hcl,Rg]
 rw[hcl,show cp.h=e.h by rw[ac1],show cp.r=r by rw[ac1]]
 rw[akh els]
 have h1:oR (Mi (mL s 0 cp l os) l.grp ts) { l with aU:=l.aU++[.K2 e.h r] } e.h=yP cl x e.h:=adQ (st.hm.trans hh) (st.gr.trans hg) hx st.lg st.lx st.kd
 have h2:YW rs (Mi (mL s 0 cp l os) l.grp ts) { l with aU:=l.aU++[.K2 e.h r] } e.h (some r) os=goes rs os e:=by
  have:=aki (rs:=rs) (os:=os) (s:=Mi (mL s 0 cp l os) l.grp ts) (l:={ l with aU:=l.aU++[.K2 e.h r] }) (e:=e) st.kd
  unfold En.by? at this
  rw[efr] at this
  exact this
 have h3:sA { l with aU:=l.aU++[.K2 e.h r] }=x:=by
  unfold sA
  show (if l.kd=1 then _ else l.s)=x
  rw[st.kd,if_neg (by decide)]
  exact st.lx
 rw[h1,h2,h3]
 have hw2:(Mi (mL s 0 cp l os) l.grp ts).ws=rs.map fun r=>aB r.d.toNat:=st.ws.trans hw
 rw[aa2 (i:=s0.ls.length) (x:=x) (e:=e) o lt hw2,aa3 (x:=x) (e:=e) o lt hw2]
 obtain⟨t1,t2⟩:=vG (M:=Bp rs os e) he
 refine⟨_,st.ws,st.R,st.hm,st.gr,rfl,?_,?_,?_,?_,st.lx,st.kd,st.old,st.lg⟩
 ·show ae0 s0.ls.length s.had (yP cl x e.h)=_
  rw[nC he,t1,yT,← st.hd]
  rfl
 ·show s.cps.eraseIdx 0++_=_
  rw[nC he,t2,aO]
  congr 1
  rw[st.cp,List.eraseIdx_zero,← List.map_tail,List.tail_drop]
 ·show l.aU++[.K2 e.h r]++_=_
  unfold dw
  rw[nC he,t1,List.flatMap_append,st.ds]
  unfold dw
  rw[jE]
  congr 1
  show _=uR rs os cl x e++[]
  rw[cz]
  unfold uR UN
  rw[efr]
  rfl
 ·show uP l.done e.h=_
  rw[nC he,t1,aO,st.dn]
  unfold uP
  rw[if_neg hnd]
  rfl
end
end jG
set_option maxHeartbeats 4000000
namespace jG
open PySem L2 TW PyProof.Rows
open RM (fq rF bV bR)
seal L2.PE L2.PA L2.PT L2.PW L2.PS L2.oS L2.PG L2.uS L2.PI L2.uV
section
variable{P:Program}{w:World}{K:ah}{mg:Str→Option Value}{base:Heap}
noncomputable def ahq(K:ah)(c:NC):Sp:=fun vs H Q _=>∃ (F:Addr→Prop) (p tp:Addr) (n i:Nat) (s:NS) (l:LS),vs = [.ref p,.int i]∧fL K c H F p tp n s∧s.ls[i]?=some l∧∀ a (qs:List Addr) H',aL H H'→H a=none→H' a=some (.lst (qs.map V.ref))→cZ K H' qs (l.aU.map eS.vs)→Q (.ref a) H'
theorem Mj{t:Ad}(T:Txt K mg t):cW P w K mg base lH 1 t.jA t.EI ["self","letter"]  (ahq K (nc t)):=by
 refine T.yl.ok Xd (fun vs H Q E h=>?_) (fun cdv A outer s H vs Q E hr h=>?_)
 ·obtain⟨_,_,_,_,_,_,_,rfl,_⟩:=h; rfl
 ·obtain⟨F,p,tp,n,i,st,l,rfl,N,hl,k⟩:=h
  refine⟨_,(av (cU (jM (lN ux se aJ (pv 1) (cC bK (by rfl) T.jV bI (aG (bu (pv 0) rfl) az)))) eT bD)
   (aI (bH (iy iG (by rfl) T.wC boot_list (aG (bu (bM cD (bu (pv 0) rfl) (pv 1) (fun _ _=>rfl)) rfl) az))))),?_⟩
  try dsimp only[bN]
  obtain⟨loc,dx,q,hp,O,hF,hT⟩:=id N
  have cY:=O.get .fO _ rfl
  rw[hp] at cY
  have hil:=(aj.mp hl).1
  have hll:=O.get .c6 _ rfl
  have Wx:=O.get (.cB i) (pF (nc t) dx loc i l) (by show (st.ls[i]?.map _)=_; rw[hl]; rfl)
  have hde:=O.get (.aU i) (.lst ((q.dq i).map V.ref)) (by show (st.ls[i]?.map _)=_; rw[hl]; rfl)
  refine⟨_,rfl,_,_,rfl,rfl,_,rfl,?_⟩
  rw[decide_eq_true (show (0:Int)≤(i:Int) by omega)]
  refine jF ⟨_,rfl,p,_,_,_,_,rfl,cY,T.bU,T.fP,rfl,loc .c6,_,rfl,.inl (ck.of hll),_,_,rfl,rfl,_,rfl,?_⟩
  rw[af,bC,decide_eq_true (show (i:Int) < (st.ls.length:Int) by omega)]
  refine gu ?_
  refine⟨_,rfl,p,_,_,_,_,rfl,cY,T.bU,T.fP,rfl,_,rfl,loc .c6,_,_,_,rfl,rfl,ck.of hll,sI hil,loc (.cB i),_,_,_,_,rfl,Wx,T.dZ,T.jQ,rfl,loc (.aU i),_,rfl,.inl (ck.of hde),fun a ha=>?_⟩
  have u:=aL.new (o:=.lst ((q.dq i).map V.ref)) ha
  exact k a (q.dq i) _ u ha aF ((hT.aU i l hl).mono fun b x=>u.dB)
noncomputable def dW:eS→Str
 | .post _=>"post"
 | .K2 _ _=>"come"
 | .hand _ _=>"hand"
 | .send _ _ _=>"send"
 | .twice _ _=>"twice"
 | .aiv _ _=>"lost"
noncomputable def dI:eS→List Int
 | .post h=>[h]
 | .K2 h r=>[h,r]
 | .hand h c=>[h,c]
 | .send h r w=>[h,r,w]
 | .twice h r=>[h,r]
 | .aiv h r=>[h,r]
theorem Ml(d:eS):d.vs = .str (dW d) :: (dI d).map V.int:=by cases d <;> rfl
theorem ajt(d:eS):1≤(dI d).length:=by cases d <;> simp[dI]
noncomputable def C6:List V:=[.str "post",.str "come",.str "hand",.str "send",.str "twice",.str "lost"]
theorem aju(d:eS):OO (.str (dW d)) C6=true:=by
 cases d
 ·exact (by decide +kernel:OO (.str "post") C6=true)
 ·exact (by decide +kernel:OO (.str "come") C6=true)
 ·exact (by decide +kernel:OO (.str "hand") C6=true)
 ·exact (by decide +kernel:OO (.str "send") C6=true)
 ·exact (by decide +kernel:OO (.str "twice") C6=true)
 ·exact (by decide +kernel:OO (.str "lost") C6=true)
theorem C7(d:eS):Q7 (V.str (dW d) :: (dI d).map V.int) 0=some (V.str (dW d)):=gv (j:=0) rfl
theorem ahr(d:eS):V.int ((((.str (dW d) :: (dI d).map V.int:List V).length:Nat):Int))=V.int (2 + (if (!decide (V.str (dW d)=V.str "post"))=true then 1 else 0) + (if decide (V.str (dW d)=V.str "send")=true then 1 else 0)):=by
 have e1:∀ h,(decide (V.str (dW (.post h))=V.str "post"))=true:=fun h=>by show decide (V.str "post" = V.str "post")=true; decide +kernel
 cases d
 ·show V.int 2=V.int (2 + (if (!decide (V.str "post" = V.str "post"))=true then 1 else 0) + (if decide (V.str "post" = V.str "send")=true then 1 else 0)); decide +kernel
 ·show V.int 3=V.int (2 + (if (!decide (V.str "come" = V.str "post"))=true then 1 else 0) + (if decide (V.str "come" = V.str "send")=true then 1 else 0)); decide +kernel
 ·show V.int 3=V.int (2 + (if (!decide (V.str "hand" = V.str "post"))=true then 1 else 0) + (if decide (V.str "hand" = V.str "send")=true then 1 else 0)); decide +kernel
 ·show V.int 4=V.int (2 + (if (!decide (V.str "send" = V.str "post"))=true then 1 else 0) + (if decide (V.str "send" = V.str "send")=true then 1 else 0)); decide +kernel
 ·show V.int 3=V.int (2 + (if (!decide (V.str "twice" = V.str "post"))=true then 1 else 0) + (if decide (V.str "twice" = V.str "send")=true then 1 else 0)); decide +kernel
 ·show V.int 3=V.int (2 + (if (!decide (V.str "lost" = V.str "post"))=true then 1 else 0) + (if decide (V.str "lost" = V.str "send")=true then 1 else 0)); decide +kernel
noncomputable def amu(K:ah):Sp:=fun vs H Q _=>∃ (a:Addr) (qs:List Addr) (ds:List eS),vs = [.ref a]∧ck K H a (qs.map V.ref)∧cZ K H qs (ds.map eS.vs)∧∀ H',aL H H'→Q (.bl true) H'
theorem Q3{t:Ad}(T:Txt K mg t):cW P w K mg base lH 2 t.ig t.wc ["_law_story"]  (amu K):=by
 refine T.lW.ok Dc (fun vs H Q E h=>?_) (fun cdv A outer s H vs Q E hr h=>?_)
 ·obtain⟨_,_,_,rfl,_⟩:=h; rfl
 ·obtain⟨a,qs,ds,rfl,hA,Aq,k⟩:=h
  refine⟨_,(av (cU (jM (vK (cC aek (by rfl) T.pW boot_isinstance (aG (pv 0) (aG (KN rfl T.wC boot_list (v:=.ty "list") rfl) az))))) (aI (bH uw)) bD)
   (av (jW PassesOwn.never rfl (gD (pv 0)) (bO (i:=1) Dc.nd rfl (be rfl)) (av (cU (PW.pt (V1 (jM (vK (cC aej (by rfl) T.pW boot_isinstance (aG (pv 1) (aG (KN rfl T.aiH boot_tuple (v:=.ty "tuple") rfl) az))))) (V1 (bw se (cC bK (by rfl) T.jV bI (aG (pv 1) az)) aJ (bT _)) (WK (jM (vK (cC Ru (by rfl) T.pW boot_isinstance (aG (bM dQ (pv 1) aJ (fun _ _=>rfl)) (aG (KN rfl T.aol boot_str (v:=.ty "str") rfl) az))))))))) (aI (bH uw)) bD)
   (av (cU (jM (vK (cC (afM rfl) (by rfl) T.aom boot_all (aG (jI (dS (Q9:=ai fj) (N0:=["_law_story","_law_row"]) (N2:=["_law_one"]) (cap:=[none]) rfl rfl (by decide +kernel)) rfl (abm (vO WQ (pv 1) (rE aJ) KU)) (fun _ _ _ _=>by exact (bO (i:=0) Jf rfl (be rfl))) (fun _ _ _ _=>by exact pe) (fun _ _ _ _=>by exact (cK (Ut T) (hr.mono (by decide)) rfl T.Wt T.vF.kp T.Ws .nil bx (aG (pv 0) az)))) az)))) (aI (bH uw)) bD)
   (av (cU (bw uU (bM dQ (pv 1) aJ (fun _ _=>rfl)) (ia (aG g9 (aG g9 (aG g9 (aG g9 (aG g9 (aG g9 az))))))) (by with_unfolding_all rfl)) (aI (bH uw)) bD)
   (aI (cU (bw x6 (cC bK (by rfl) T.jV bI (aG (pv 1) az)) (bB gz (bB gz aJ (iy V2 (by rfl) T.agg boot_int (aG (x8 x6 (bM dQ (pv 1) aJ (fun _ _=>rfl)) g9 (bT _)) az))) (iy V2 (by rfl) T.agg boot_int (aG (x8 vM (bM dQ (pv 1) aJ (fun _ _=>rfl)) g9 (bT _)) az))) (bT _)) (aI (bH uw)) bD))))))
   (aI (bH uw)))),?_⟩
  try dsimp only[bN]
  have eq:qs.length=ds.length:=by rw[Aq.len,af]
  refine⟨_,rfl,a,_,_,_,rfl,hA,rfl,_,rfl,gu ?_⟩
  refine⟨_,rfl,a,rfl,⟨_,hA⟩,r9 (K:=K) (a:=a) (xs:=qs.map V.ref) (fun i σ H2=>aL H H2∧∃ v1:Option V,σ = [some (.ref a),v1]) ⟨aL.refl _,_,rfl⟩ (fun i σ H2 _ z=>z.1.seq hA) ?_ ?_⟩
  ·rintro i y σ H2 hi ⟨s2,v1,rfl⟩
   have hil:i < qs.length:=by
    have:=(aj.mp hi).1
    rw[af] at this
    exact this
   rw[aq,aa hil] at hi
   cases hi
   have hq:=s2.dB (Aq.at' i qs[i] (ds[i]'(by omega)).vs (aa hil) (by rw[aq,aa (by omega)]; rfl))
   generalize qs[i]=q at hq
   generalize ds[i]'(by omega)=d at hq
   rw[Ml] at hq
   have h1:=ajt d
   refine⟨_,rfl,q,_,_,_,rfl,hq,rfl,_,rfl,gu ?_⟩
   refine⟨_,rfl,q,_,rfl,.inr hq,_,_,rfl,rfl,_,rfl,?_⟩
   rw[decide_eq_false (show ¬ (((V.str (dW d) :: (dI d).map V.int).length:Nat):Int) < 2 by rw[cE,af]; omega)]
   refine gu ⟨_,rfl,q,_,0,_,rfl,rfl,hq,C7 d,_,_,_,_,rfl,.str _,rfl,_,rfl,gu ?_⟩
   have nw:¬ (HT.nH (V.str (dW d) :: (dI d).map V.int).length 0 (some 1)=0∧HT.nH (V.str (dW d) :: (dI d).map V.int).length (V.str (dW d) :: (dI d).map V.int).length none=(V.str (dW d) :: (dI d).map V.int).length):=fun z=>by
    have z1:=z.1
    rw[show (1:Int)=((1:Nat):Int) from rfl,HT.Q6,cE] at z1
    omega
   refine⟨_,rfl,_,rfl,q,_,rfl,hq,nw,fun z hz=>?_⟩
   have ct:HC (V.str (dW d) :: (dI d).map V.int) (some 1) none=(dI d).map V.int:=Zt _ 1
   rw[ct]
   have u3:=aL.new (o:=.tup ((dI d).map V.int)) hz
   have hz3:dP K _ z ((dI d).map V.int):=dP.of (aF (H:=H2) (a:=z) (o:=.tup ((dI d).map V.int)))
   generalize upd H2 z (.tup ((dI d).map V.int))=H3 at u3 hz3
   refine⟨z,rfl,⟨_,hz3⟩,fun acc hacc=>?_⟩
   refine jj (n:=((dI d).map V.int).length) (fun i ys _=>∃ bs:List Bool,ys=bs.map V.bl∧bs.length=i∧bs.all id=true) hacc (abI hz3) (RC hz3) ⟨[],rfl,rfl,rfl⟩ ?_ ?_
   ·rintro j ys H4 hj s4 hy ⟨bs,rfl,hbl,hba⟩ x H5 ⟨rfl,hx⟩
    have hx:=hx _ (s4.dB hz3)
    have hj':j < (dI d).length:=by rw[af] at hj; exact hj
    rw[aq,aa hj'] at hx
    cases hx
    have h3:(dI d).length≤3:=by cases d <;> simp[dI]
    refine⟨_,rfl,_,rfl,?_⟩
    exact ic hacc hj s4 hy (by rw[af]; exact cS (by omega)) ⟨bs++[true],by simp,by simp[hbl],by simp[hba]⟩
   rintro ys H4 s4 hy ⟨bs,rfl,hbl,hba⟩
   refine⟨acc,bs,rfl,ck.of hy,_,rfl,?_⟩
   rw[hba]
   refine gu ?_
   have s24:=u3.trans s4
   have hq4:=s24.dB hq
   refine⟨_,rfl,q,_,0,_,rfl,rfl,hq4,C7 d,(by show 6≤sizeLine; decide),fun b hb=>?_⟩
   have u5:=aL.new (o:=.tup C6) hb
   refine⟨b,C6,rfl,.inr (dP.of aF),rfl,by decide,_,rfl,?_⟩
   dsimp only
   rw[if_pos rfl,aju]
   refine gu ?_
   have hq5:=u5.dB hq4
   refine⟨_,rfl,q,_,rfl,.inr hq5,_,rfl,q,_,0,_,rfl,rfl,hq5,C7 d,rfl,.inr ⟨_,rfl,_,_,rfl,rfl,_,rfl,q,_,0,_,rfl,rfl,hq5,C7 d,rfl,.inr ⟨_,rfl,_,_,rfl,rfl,rfl,_,rfl,?_⟩⟩⟩
   rw[decide_eq_true (ahr d)]
   exact gu ⟨(s2.trans s24).trans u5,_,rfl⟩
  ·rintro σ H2 ⟨s2,v1,rfl⟩
   exact k H2 s2
end
end jG
set_option maxHeartbeats 4000000
namespace jG
open PySem L2 TW PyProof.Rows
open RM (fq rF bV bR)
seal L2.PE L2.PA L2.PT L2.PW L2.PS L2.oS L2.PG L2.uS L2.PI L2.uV
section
variable{P:Program}{w:World}{K:ah}{mg:Str→Option Value}{base:Heap}
noncomputable def enV(e:En):List V:=[.int e.h,Ep (e.by?.map fun k:Nat=>(k:Int))]
structure DI(K:ah)(H0 H2:Hp)(ls lw:Addr)(ds:List eS)(W:List En):Prop where
 sm:aL H0 H2
 n1:H0 ls=none
 n2:H0 lw=none
 ne:ls≠lw
 st:∃ qS:List Addr,H2 ls=some (.lst (qS.map V.ref))∧cZ K H2 qS (ds.map eS.vs)
 wt:∃ qW:List Addr,H2 lw=some (.lst (qW.map V.ref))∧cZ K H2 qW (W.map enV)
section
variable{H0 H2 H3:Hp}{ls lw:Addr}{ds:List eS}{W:List En}
theorem DI.mono(d:DI K H0 H2 ls lw ds W)(s:aL H2 H3):DI K H0 H3 ls lw ds W:=by
 obtain⟨q1,a1,b1⟩:=d.st
 obtain⟨q2,a2,b2⟩:=d.wt
 exact⟨d.sm.trans s,d.n1,d.n2,d.ne,⟨q1,s _ _ a1,b1.mono fun b x=>s.dB⟩,⟨q2,s _ _ a2,b2.mono fun b x=>s.dB⟩⟩
theorem Y3{l z:Addr}{qs:List Addr}{xs:List (List V)}{t:List V}(hl:H2 l=some (.lst (qs.map V.ref)))(hq:cZ K H2 qs xs)(hz:H2 z=none) :
 (upd (upd H2 z (.tup t)) l (.lst (qs.map V.ref++[.ref z]))) l=some (.lst ((qs++[z]).map V.ref))∧cZ K (upd (upd H2 z (.tup t)) l (.lst (qs.map V.ref++[.ref z]))) (qs++[z]) (xs++[t])∧(∀ b x,dP K H2 b x→dP K (upd (upd H2 z (.tup t)) l (.lst (qs.map V.ref++[.ref z]))) b x)∧∀ b o,H2 b=some o→b≠l→(upd (upd H2 z (.tup t)) l (.lst (qs.map V.ref++[.ref z]))) b=some o:=by
 have u:=aL.new (o:=.tup t) hz
 have kt:∀ b x,dP K (upd H2 z (.tup t)) b x→dP K (upd (upd H2 z (.tup t)) l (.lst (qs.map V.ref++[.ref z]))) b x:=fun b x=>dP.past (u _ _ hl) nM cj
 refine⟨by rw[aF,aO]; rfl,?_,fun b x e=>kt b x (u.dB e),fun b o e n=>cj b o (u _ _ e) n⟩
 exact cZ.snoc (hq.mono fun b x e=>kt b x (u.dB e)) (kt _ _ (dP.of aF))
theorem DI.amw(d:DI K H0 H2 ls lw ds W){z:Addr}{qS:List Addr}{e:eS}(h1:H2 ls=some (.lst (qS.map V.ref)))(h2:cZ K H2 qS (ds.map eS.vs))(hz:H2 z=none):DI K H0 (upd (upd H2 z (.tup e.vs)) ls (.lst (qS.map V.ref++[.ref z]))) ls lw (ds++[e]) W:=by
 obtain⟨a1,a2,a3,a4⟩:=Y3 (t:=e.vs) h1 h2 hz
 obtain⟨q2,b1,b2⟩:=d.wt
 exact⟨fun b o q=>a4 b o (d.sm _ _ q) (aR q d.n1),d.n1,d.n2,d.ne,⟨_,a1,by rw[aO]; exact a2⟩,⟨q2,a4 _ _ b1 (bW d.ne),b2.mono a3⟩⟩
theorem DI.addW(d:DI K H0 H2 ls lw ds W){z:Addr}{qW:List Addr}{e:En}(h1:H2 lw=some (.lst (qW.map V.ref)))(h2:cZ K H2 qW (W.map enV))(hz:H2 z=none):DI K H0 (upd (upd H2 z (.tup (enV e))) lw (.lst (qW.map V.ref++[.ref z]))) ls lw ds (W++[e]):=by
 obtain⟨a1,a2,a3,a4⟩:=Y3 (t:=enV e) h1 h2 hz
 obtain⟨q2,b1,b2⟩:=d.st
 exact⟨fun b o q=>a4 b o (d.sm _ _ q) (aR q d.n2),d.n1,d.n2,d.ne,⟨q2,a4 _ _ b1 d.ne,b2.mono a3⟩,⟨_,a1,by rw[aO]; exact a2⟩⟩
end
theorem ahs{rs:List R5}{os:List Nat}{cl:List (Nat × Nat)}{x:Nat}(e:En):(uR rs os cl x e).length≤1 + cl.length + os.length:=by
 unfold uR
 rw[cE,aH,af,af]
 have h1:=br (fun c=>decide (cl[c]?=some (e.h,(cl.getD x (0,0)).2)) && !decide (c=x)) (aB cl.length)
 have h2:=br (fun r=>isAt rs (e.h:Int) r && !decide (some r=e.by?)) os
 rw[bC] at h1
 unfold yP goes
 omega
theorem aa4{rs:List R5}{os:List Nat}{cl:List (Nat × Nat)}{x:Nat}:∀ L:List En,(L.flatMap (uR rs os cl x)).length≤L.length * (1 + cl.length + os.length)
 | []=>by simp
 | e :: L=>by
  rw[List.flatMap_cons,aH,cE,Nat.succ_mul]
  have:=ahs (rs:=rs) (os:=os) (cl:=cl) (x:=x) e
  have:=aa4 (rs:=rs) (os:=os) (cl:=cl) (x:=x) L
  omega
theorem Hz{rs:List R5}{os:List Nat}{cl:List (Nat × Nat)}{x f k:Nat}(hk:k≤20)(h1:cl.length≤20)(h2:os.length≤12):(dw rs os cl x f k).length≤700:=by
 have:=aa4 (rs:=rs) (os:=os) (cl:=cl) (x:=x) ((WL rs os f k).take k)
 have h3:((WL rs os f k).take k).length≤20:=by rw[b5]; omega
 have:((WL rs os f k).take k).length * (1 + cl.length + os.length)≤20 * 33:=Nat.mul_le_mul h3 (by omega)
 unfold dw
 omega
theorem abJ(h a b:Int):OO (.int h) [.int a,.int b]=(decide (h=a) || decide (h=b)):=by
 have:=vP h [a,b]
 rw[show ([a,b]:List Int).map V.int = [.int a,.int b] from rfl] at this
 rw[this]
 by_cases h1:h=a <;> by_cases h2:h=b <;> simp[h1,h2]
theorem aa5{rs:List R5}{os:List Nat}{f:Nat}:∀ (m j:Nat) (a:En),(WL rs os f m)[j]?=some a→a.fr=none→j=0:=fun m=>by
 induction m with
 | zero=>intro j a h1 _; have:=(aj.mp h1).1; have e:(WL rs os f 0).length=1:=rfl; omega
 | succ m ih =>
  intro j a h1 h2
  cases q:(WL rs os f m)[m]? with
  | none =>
   have e1:WL rs os f (m + 1)=WL rs os f m:=by
    show (match (WL rs os f m)[m]? with | some e=>_ | none=>_)=_
    rw[q]
   rw[e1] at h1
   exact ih j a h1 h2
  | some en =>
   rw[nC q] at h1
   by_cases w:j < (WL rs os f m).length
   ·rw[cH w] at h1
    exact ih j a h1 h2
   ·rw[cu (by omega)] at h1
    obtain⟨r,_,e3⟩:=bA.mp (bz h1)
    rw[← e3] at h2
    cases h2
noncomputable def ajv(K:ah):Sp:=fun vs H Q _=>∃ (b lo cb:Addr) (ns:List Int) (rs:List R5) (os live:List Nat) (nd:ns.Nodup) (ok:∀ r∈rs,r.Ok ns.length) (hl:∀ k∈live,k < rs.length) (R:Nat→RM.Row) (qs:List Addr) (cl:List (Nat × Nat)) (x:Nat),vs = [.ref b,.ref lo,.ref cb,.int x]∧kI (bh ns rs live nd ok hl) R os∧WZ K H b rs∧ck K H lo (bS os)∧ck K H cb (qs.map V.ref)∧cZ K H qs (cl.map fun c=>[.int c.1,.int c.2])∧x < cl.length∧cl.length≤20∧os.length≤12∧(cl.getD x (0,0)).1 < ns.length∧ns.length≤10 ∧
 ∀ a (qS:List Addr) H' kf,aL H H'→H a=none→H' a=some (.lst (qS.map V.ref))→cZ K H' qS ((dw rs os cl x (cl.getD x (0,0)).1 kf).map eS.vs)→kf=(WL rs os (cl.getD x (0,0)).1 kf).length→Q (.ref a) H'
theorem aht{t:Ad}(T:Txt K mg t):cW P w K mg base lH 1 t.yg t.Xi ["_law_ropes_here","_law_opened","_law_callers_here","_law_sender"]  (ajv K):=by
 refine T.Ld.ok kK (fun vs H Q E h=>?_) (fun cdv A outer s H vs Q E hr h=>?_)
 ·obtain⟨_,_,_,_,_,_,_,_,_,_,_,_,_,_,rfl,_⟩:=h; rfl
 ·obtain⟨b,lo,cb,ns,rs,os,live,nd,ok,xY,R,qs,cl,x,rfl,hOp,hB,hO,hC,Aq,hx,D3,h12,hf,aa6,k⟩:=h
  refine⟨_,(av (abi (bM cD (pv 2) (pv 3) (fun _ _=>rfl)) (Rk (n:=2) rfl (kH (bO (i:=4) kK.nd rfl (be rfl)) (kH (bO (i:=5) kK.nd rfl (be rfl)) KP))))
   (av (bE (i:=6) kK.nd rfl (be rfl) (lO (aG (ia (aG g9 (aG (pv 4) az))) az)))
   (av (bE (i:=7) kK.nd rfl (be rfl) (lO (aG (ia (aG (pv 4) (aG nG az))) az)))
   (av (bE (i:=8) kK.nd rfl (be rfl) aJ)
   (av (Zb PassesOwn.never (PW.pt (Rj (bw se (pv 8) (cC bK (by rfl) T.jV bI (aG (pv 7) az)) (bT _)) (KO (bw se (pv 8) aJ (bT _))))) (av (abi (bM cD (pv 7) (pv 8) (fun _ _=>rfl)) (Rk (n:=2) rfl (kH (bO (i:=9) kK.nd rfl (be rfl)) (kH (bO (i:=10) kK.nd rfl (be rfl)) KP))))
   (av (akH (i:=8) kK.nd rfl (be rfl) aJ akI)
   (av (cU (bw Q4 (pv 10) nG (bT _)) (aI (cJ (o6 aY bg bf er (pv 6) (aG (ia (aG g9 (aG (pv 9) (aG (pv 10) az)))) az)))) bD)
   (av (jW PassesOwn.never rfl (iX rfl T.lA (aG (cC bK (by rfl) T.jV bI (aG (pv 2) az)) az)) (bO (i:=11) kK.nd rfl (be rfl)) (aI (cU (PW.pt (Rj (bw Mz (bM cD (pv 2) (pv 11) (fun _ _=>rfl)) (ia (aG (pv 9) (aG (pv 5) az))) (bT _)) (KO (bw x6 (pv 11) (pv 3) (bT _))))) (aI (cJ (o6 aY bg bf er (pv 6) (aG (ia (aG g9 (aG (pv 9) (aG (pv 11) az)))) az)))) bD)))
   (aI (jW PassesOwn.never rfl (gD (pv 1)) (bO (i:=12) kK.nd rfl (be rfl)) (aI (cU (PW.pt (Rj (bw x6 (pv 12) (pv 10) (bT _)) (KO (bw vA (pv 9) (vO WQ (bM cD (pv 0) (pv 12) (fun _ _=>rfl)) KU (rE aJ)) (by with_unfolding_all rfl))))) (av (bE (i:=13) kK.nd rfl (be rfl) (bB fc (pv 3) (bM dQ (bM cD (pv 0) (pv 12) (fun _ _=>rfl)) aJ (fun _ _=>rfl))))
   (av (cJ (o6 aY bg bf er (pv 6) (aG (ia (aG g9 (aG (pv 9) (aG (pv 12) (aG (pv 13) az))))) az)))
   (aI (cJ (o6 aY bg bf er (pv 7) (aG (ia (aG (bB IZ (bB gz (bM dQ (bM cD (pv 0) (pv 12) (fun _ _=>rfl)) aJ (fun _ _=>rfl)) (bM dQ (bM cD (pv 0) (pv 12) (fun _ _=>rfl)) aJ (fun _ _=>rfl))) (pv 9)) (aG (pv 12) az))) az)))))) bD)))))))))
   (aI (bH (pv 6)))))))),?_⟩
  try dsimp only[bN]
  have olt:=Zz hOp
  have eq:qs.length=cl.length:=by rw[Aq.len,af]
  obtain⟨us,hL,hus⟩:=id hB
  have eus:us.length=rs.length:=by rw[hus.len,af]
  have cat:∀ {y:Nat} (hy:y < cl.length),Q7 (qs.map V.ref) (y:Int)=some (.ref (qs[y]'(by omega)))∧dP K H (qs[y]'(by omega)) [.int cl[y].1,.int cl[y].2]:=fun {y} hy=>⟨gv (by rw[aq,aa]; rfl),Aq.at' y _ _ (aa _) (by rw[aq,aa hy]; rfl)⟩
  have ex:cl.getD x (0,0)=cl[x]:=by rw[aD,aa hx]; rfl
  obtain⟨a1,q1⟩:=cat hx
  refine fR fun Nx jR=>?_
  refine⟨_,rfl,_,rfl,cb,_,_,_,rfl,rfl,hC,a1,_,_,rfl,q1,rfl,_,_,rfl,_,_,rfl,rfl,jR _ _ ?_⟩
  clear jR Nx
  rw[← ex]
  generalize hg:(cl.getD x (0,0)).2=g
  generalize hff:(cl.getD x (0,0)).1=f at k hf
  refine fR fun Nx jR=>?_
  refine⟨_,rfl,(by show 2≤sizeLine; decide),fun z1 hz1=>⟨(by show 1≤sizeLine; decide),fun ls hls=>jR _ _ ?_⟩⟩
  clear jR Nx
  have u1:=(aL.new (o:=.tup [V.str "post",V.int f]) hz1)
  have u2:=aL.new (o:=.lst [V.ref z1]) hls
  have g1:=u2 _ _ (aF (H:=H) (a:=z1) (o:=.tup [V.str "post",V.int f]))
  have g2:=aF (H:=upd H z1 (.tup [V.str "post",V.int f])) (a:=ls) (o:=.lst [V.ref z1])
  have ao8:=u1.free hls
  have u12:=u1.trans u2
  generalize upd (upd H z1 (.tup [V.str "post",V.int f])) ls (.lst [V.ref z1])=H1 at u12 g1 g2
  clear u1 u2 hz1 hls
  refine fR fun Nx jR=>?_
  refine⟨_,rfl,(by show 2≤sizeLine; decide),fun z2 hz2=>⟨(by show 1≤sizeLine; decide),fun lw hlw=>jR _ _ ?_⟩⟩
  clear jR Nx
  have u3:=(aL.new (o:=.tup [V.int f,V.iu]) hz2)
  have u4:=aL.new (o:=.lst [V.ref z2]) hlw
  have g3:=u4 _ _ (aF (H:=H1) (a:=z2) (o:=.tup [V.int f,V.iu]))
  have g4:=aF (H:=upd H1 z2 (.tup [V.int f,V.iu])) (a:=lw) (o:=.lst [V.ref z2])
  have ao9:=u12.free (u3.free hlw)
  have nlw:ls≠lw:=aR (u3 _ _ g2) hlw
  have u34:=u3.trans u4
  have g1:=u34 _ _ g1
  have g2:=u34 _ _ g2
  generalize upd (upd H1 z2 (.tup [V.int f,V.iu])) lw (.lst [V.ref z2])=H2 at u34 g1 g2 g3 g4
  have d0:DI K H H2 ls lw [.post f] (WL rs os f 0):=by
   refine⟨u12.trans u34,ao8,ao9,nlw,⟨[z1],g2,⟨rfl,fun i q y e1 e2=>?_⟩⟩,⟨[z2],g4,⟨rfl,fun i q y e1 e2=>?_⟩⟩⟩
   ·cases i with
    | zero=>cases e1; cases e2; exact dP.of g1
    | succ i=>cases e1
   ·cases i with
    | zero=>cases e1; cases e2; exact dP.of g3
    | succ i=>cases e1
  clear u3 u4 hz2 hlw g1 g2 g3 g4 u34 u12 ao8 ao9 nlw
  let sto:Nat→List eS:=fun k=>if k=0 then [.post f] else dw rs os cl x f k
  refine aic (fun m σ H3=>∃ (kk:Nat) (v9 v10 v11 v12 v13:Option V),σ = [some (.ref b),some (.ref lo),some (.ref cb),some (.int (x:Nat)),some (.int (f:Nat)),some (.int (g:Nat)),some (.ref ls),some (.ref lw),some (.int (kk:Nat)),v9,v10,v11,v12,v13]∧DI K H H3 ls lw (sto kk) (WL rs os f kk)∧kk≤(WL rs os f kk).length∧m=20 - kk) 20 ⟨0,_,_,_,_,_,rfl,d0,bJ _,rfl⟩ ?_ ?_
  ·rintro m σ H3 ⟨kk,v9,v10,v11,v12,v13,rfl,d,hkl,rfl⟩
   obtain⟨wi,_⟩:=UM hOp hf kk hkl
   have hwl:=wi.len
   obtain⟨qW,hw1,hw2⟩:=d.wt
   have eqW:qW.length=(WL rs os f kk).length:=by rw[hw2.len,af]
   refine⟨_,rfl,_,rfl,lw,_,rfl,.inl (ck.of hw1),_,_,rfl,rfl,_,rfl,?_⟩
   rw[af,eqW]
   by_cases hk:kk < (WL rs os f kk).length
   case neg =>
    rw[decide_eq_false (show ¬ (kk:Int) < ((WL rs os f kk).length:Int) by omega)]
    refine gu (gu ?_)
    obtain⟨qS,hs1,hs2⟩:=d.st
    have hne:kk≠0:=fun z=>by
     have:0 < (WL rs os f kk).length:=List.length_pos_iff.mpr wi.ne
     omega
    have es:sto kk=dw rs os cl x f kk:=if_neg hne
    rw[es] at hs2
    exact⟨_,rfl,k ls qS H3 kk d.sm d.n1 hs1 hs2 (by omega)⟩
   rw[decide_eq_true (show (kk:Int) < ((WL rs os f kk).length:Int) by omega)]
   refine jF ⟨_,rfl,_,_,rfl,rfl,_,rfl,?_⟩
   rw[decide_eq_true (show (kk:Int) < 20 by omega)]
   refine jF ?_
   obtain⟨e,he⟩ : ∃ e,(WL rs os f kk)[kk]?=some e:=⟨_,aa hk⟩
   have hqe:=hw2.at' kk (qW[kk]'(by omega)) (enV e) (aa _) (by rw[aq,he]; rfl)
   have apb:Q7 (qW.map V.ref) (kk:Int)=some (.ref (qW[kk]'(by omega))):=gv (by rw[aq,aa]; rfl)
   refine fR fun Nx jR=>?_
   refine⟨_,rfl,_,rfl,lw,_,_,_,rfl,rfl,ck.of hw1,apb,_,_,rfl,hqe,rfl,_,_,rfl,_,_,rfl,rfl,jR _ _ ?_⟩
   clear jR Nx
   refine fR fun Nx jR=>?_
   refine⟨_,rfl,_,_,rfl,rfl,jR _ _ ?_⟩
   clear jR Nx
   have hsl:(dw rs os cl x f kk).length≤700:=Hz (by omega) D3 h12
   dsimp only
   refine Rf (fun σ H4=>σ = [some (.ref b),some (.ref lo),some (.ref cb),some (.int (x:Nat)),some (.int (f:Nat)),some (.int (g:Nat)),some (.ref ls),some (.ref lw),some (.int ((kk:Int) + 1)),some (.int (e.h:Nat)),some (Ep (e.by?.map fun k:Nat=>(k:Int))),v11,v12,v13]∧DI K H H4 ls lw (dw rs os cl x f kk++[UN e]) (WL rs os f kk)) ?_ (fun N' hN=>?_)
   rotate_left
   ·cases efr:e.fr with
    | none =>
     have eb:e.by?=none:=by unfold En.by?; rw[efr]; rfl
     rw[eb]
     refine⟨_,rfl,rfl,_,rfl,gu ?_⟩
     refine hN _ _ ⟨by rw[eb]; rfl,?_⟩
     have hk0:kk=0:=by
      by_cases z:kk=0
      ·exact z
      ·exfalso
       exact z (aa5 kk kk e he efr)
     subst hk0
     have e0:e = ⟨f,none⟩:=(aS he).symm
     rw[e0]
     exact d
    | some rp =>
     have eb:e.by?=some rp.1:=by unfold En.by?; rw[efr]; rfl
     have hk0:kk≠0:=fun z=>by
      subst z
      have e0:e = ⟨f,none⟩:=(aS he).symm
      rw[e0] at efr
      cases efr
     have es:sto kk=dw rs os cl x f kk:=if_neg hk0
     rw[es] at d
     obtain⟨qS,hs1,hs2⟩:=d.st
     have eqS:qS.length=(dw rs os cl x f kk).length:=by rw[hs2.len,af]
     rw[eb]
     refine⟨_,rfl,rfl,_,rfl,jF ?_⟩
     refine⟨_,rfl,.inl ⟨rfl,_,ck.of hs1⟩,_,rfl,_,rfl,(by show 3≤sizeLine; decide),fun z3 hz3=>?_⟩
     refine⟨ls,_,_,rfl,rfl,aL.new hz3 _ _ hs1,oB (by rw[af,eqS]; omega),?_⟩
     have d2:=d.amw (e:=.K2 e.h rp.1) hs1 hs2 hz3
     refine hN _ _ ⟨by rw[eb]; rfl,?_⟩
     have ec:UN e = .K2 e.h rp.1:=by unfold UN; rw[efr]
     rw[ec]
     exact d2
   rintro σ H4 ⟨rfl,d4⟩
   clear d hw1 hw2 hqe apb
   generalize hds:dw rs os cl x f kk++[UN e]=ds4 at d4
   have hl4:ds4.length≤701:=by rw[← hds,aH]; exact lF hsl 1
   refine fR fun Nx jR=>?_
   refine⟨_,rfl,cb,_,rfl,.inl (d4.sm.seq hC),(((qs.map V.ref).length:Nat):Int),rfl,by omega,by rw[af]; omega,?_⟩
   rw[af,eq]
   let hP:Nat→Bool:=fun c=>decide (cl[c]?=some (e.h,(cl.getD x (0,0)).2)) && !decide (c=x)
   refine RD (n:=((cl.length:Int)).toNat) (fun j σ H5=>∃ v11:Option V,σ = [some (.ref b),some (.ref lo),some (.ref cb),some (.int (x:Nat)),some (.int (f:Nat)),some (.int (g:Nat)),some (.ref ls),some (.ref lw),some (.int ((kk:Int) + 1)),some (.int (e.h:Nat)),some (Ep (e.by?.map fun k:Nat=>(k:Int))),v11,v12,v13]∧DI K H H5 ls lw (ds4++((aB j).filter hP).map (eS.hand e.h)) (WL rs os f kk)) ⟨_,rfl,by rw[List.range_zero]; show DI K H H4 ls lw (ds4++[]) _; rw[cz]; exact d4⟩ ?_ ?_
   ·rintro j σ H5 Nf Ms hj ⟨v11,rfl,d5⟩
    rw[i6]
    have hjc:j < cl.length:=by omega
    obtain⟨a2,q2⟩:=cat hjc
    refine⟨_,rfl,_,rfl,cb,_,_,_,rfl,rfl,d5.sm.seq hC,a2,_,rfl,_,rfl,(by show 2≤sizeLine; decide),fun z3 hz3=>?_⟩
    have u5:=aL.new (o:=.tup [V.int e.h,V.int g]) hz3
    have hz5:=aF (H:=H5) (a:=z3) (o:=.tup [V.int e.h,V.int g])
    have d6:=d5.mono u5
    generalize upd H5 z3 (.tup [V.int e.h,V.int g])=H6 at u5 hz5 d6
    refine⟨.tuple (([(cl[j].1:Int),(cl[j].2:Int)]:List Int).map .int),.tuple (([(e.h:Int),(g:Int)]:List Int).map .int),Rep.Wd (ns:=[(cl[j].1:Int),(cl[j].2:Int)]) (d6.sm.dB q2),Rep.Wd (ns:=[(e.h:Int),(g:Int)]) (dP.of hz5),pq _,pq _,cQ (dO (aX (jK _ _) (by show PyData.depthAll _ + 1≤64; rw[vC]; decide)) _) hr.units,_,rfl,?_⟩
    rw[adz]
    have e1:decide (cl[j]?=some (e.h,(cl.getD x (0,0)).2))=decide ((cl[j].1:Int)=(e.h:Int)∧(cl[j].2:Int)=(g:Int)):=by
     rw[aa hjc,hg,decide_eq_decide]
     constructor
     ·intro z
      have z:=aS z
      rw[z]
      exact⟨rfl,rfl⟩
     ·rintro⟨y1,y2⟩
      exact congrArg some (Prod.ext (by show cl[j].1=e.h; omega) (by show cl[j].2=g; omega))
    have eP:hP j=(decide ((cl[j].1:Int)=(e.h:Int)∧(cl[j].2:Int)=(g:Int)) && !decide (j=x)):=by
     show (decide _ && _)=_
     rw[e1]
    have skip:hP j=false→DI K H H6 ls lw (ds4++((aB (j + 1)).filter hP).map (eS.hand e.h)) (WL rs os f kk):=fun z=>by
     rw[C5,if_neg (by rw[z]; decide),cz]
     exact d6
    refine mY (fun c1=>?_) (fun c1=>Ms _ _ ⟨_,rfl,skip (by rw[eP,Bool.eq_false_iff.mpr c1]; rfl)⟩)
    refine⟨_,rfl,_,rfl,rfl,_,rfl,?_⟩
    by_cases c2:j=x
    ·subst c2
     rw[decide_eq_true rfl]
     exact gu (Ms _ _ ⟨_,rfl,skip (by rw[eP,decide_eq_true rfl,Bool.not_true,Bool.and_false])⟩)
    ·rw[decide_eq_false (fun z=>c2 (by have:=V.int.inj z; omega))]
     refine jF ?_
     have hPj:hP j=true:=by rw[eP,c1,decide_eq_false c2]; rfl
     obtain⟨qS,hs1,hs2⟩:=d6.st
     have eqS:qS.length≤701 + j:=by
      rw[hs2.len,af,aH,af]
      have:=br hP (aB j)
      rw[bC] at this
      omega
     refine⟨_,rfl,.inl ⟨rfl,_,ck.of hs1⟩,_,rfl,_,rfl,(by show 3≤sizeLine; decide),fun z4 hz4=>?_⟩
     refine⟨ls,_,_,rfl,rfl,aL.new hz4 _ _ hs1,oB (by rw[af]; omega),?_⟩
     have d7:=d6.amw (e:=.hand e.h j) hs1 hs2 hz4
     refine Ms _ _ ⟨_,rfl,?_⟩
     rw[C5,if_pos hPj,aO,← jE]
     exact d7
   rintro σ H5 ⟨amx,rfl,d5⟩
   refine jR _ _ ?_
   clear jR Nx
   have eh:((aB ((cl.length:Int)).toNat).filter hP)=yP cl x e.h:=by rw[iF]; rfl
   rw[eh] at d5
   generalize apd:ds4++(yP cl x e.h).map (eS.hand e.h)=ds5 at d5
   have hl5:ds5.length≤721:=by
    rw[← apd,aH,af]
    unfold yP
    have:=br hP (aB cl.length)
    rw[bC] at this
    show ds4.length + ((aB cl.length).filter hP).length≤721
    omega
   let gP:Nat→Bool:=fun r=>isAt rs (e.h:Int) r && !decide (some r=e.by?)
   refine⟨_,rfl,lo,rfl,⟨_,d5.sm.seq hO⟩,Ho (K:=K) (a:=lo) (xs:=bS os) (fun j σ H6=>∃ v12 v13:Option V,σ = [some (.ref b),some (.ref lo),some (.ref cb),some (.int (x:Nat)),some (.int (f:Nat)),some (.int (g:Nat)),some (.ref ls),some (.ref lw),some (.int ((kk:Int) + 1)),some (.int (e.h:Nat)),some (Ep (e.by?.map fun k:Nat=>(k:Int))),amx,v12,v13]∧DI K H H6 ls lw (ds5++((os.take j).filter gP).map (Q0 rs x e.h)) (WL rs os f kk++((os.take j).filter gP).map fun r=>⟨kO rs r e.h,some (r,e.h)⟩)) ⟨_,_,rfl,by rw[List.take_zero]; show DI K H H5 ls lw (ds5++[]) (WL rs os f kk++[]); rw[cz,cz]; exact d5⟩ (fun j σ H6 _ z=>by obtain⟨_,_,_,d6⟩:=z; exact d6.sm.seq hO) ?_ ?_⟩
   ·rintro j y σ H6 Nf Ms hj ⟨v12,v13,rfl,d6⟩
    have hjl:j < os.length:=by
     have:=(aj.mp hj).1
     rw[af] at this
     exact this
    rw[aq,aa hjl] at hj
    cases hj
    have hrl:=olt _ (aW hjl)
    have efs:=OA (p:=gP) hjl
    rw[efs] at Ms
    show k8 12 (V.int ((os[j]:Nat):Int)) _ _ _
    have hjf:((os.take j).filter gP).length≤12:=by
     refine aX (br _ _) ?_
     rw[b5]; omega
    generalize os[j]=r at hrl Ms
    have skip:gP r=false→∀ {H7:Hp},aL H6 H7→DI K H H7 ls lw (ds5++((os.take j).filter gP++if gP r=true then [r] else []).map (Q0 rs x e.h)) (WL rs os f kk++((os.take j).filter gP++if gP r=true then [r] else []).map fun r=>⟨kO rs r e.h,some (r,e.h)⟩):=fun z {H7} s7=>by
     rw[if_neg (by rw[z]; decide),cz]
     exact d6.mono s7
    refine⟨_,rfl,_,rfl,Er _ _,_,rfl,?_⟩
    have eby:decide (V.int ((r:Nat):Int)=Ep (e.by?.map fun k:Nat=>(k:Int)))=decide (some r=e.by?):=by
     rw[decide_eq_decide]
     cases e.by? with
     | none=>exact⟨fun z=>(by cases z),fun z=>(by cases z)⟩
     | some q=>exact⟨fun z=>(by have z:V.int ((r:Nat):Int)=V.int ((q:Nat):Int):=z; have:=V.int.inj z; rw[show r=q by omega]),fun z=>(by rw[aS z]; rfl)⟩
    rw[eby]
    by_cases c1:some r=e.by?
    ·rw[decide_eq_true c1]
     exact gu (Ms _ _ ⟨_,_,rfl,skip (by show (_ && !decide (some r=e.by?))=false; rw[decide_eq_true c1,Bool.not_true,Bool.and_false]) (aL.refl _)⟩)
    rw[decide_eq_false c1]
    refine jF ?_
    have hp:(us.map V.ref)[r]?=some (V.ref (us[r]'(by omega))):=by rw[aq,aa]; rfl
    have hpt:=hus.at' r (us[r]'(by omega)) (rs[r]).vs (aa _) (by rw[aq,aa hrl]; rfl)
    have Y4:Q7 (us.map V.ref) (r:Int)=some (.ref (us[r]'(by omega))):=gv hp
    generalize us[r]'(by omega)=pt at Y4 hpt
    have nw:¬ (HT.nH (rs[r]).vs.length 0 none=0∧HT.nH (rs[r]).vs.length (rs[r]).vs.length (some 2)=(rs[r]).vs.length):=fun z=>absurd z.2 (by show HT.nH 5 5 (some 2)≠5; decide)
    have ct:HC (rs[r]).vs none (some 2) = [V.int rs[r].a,V.int rs[r].b]:=rfl
    refine⟨_,rfl,_,rfl,_,rfl,b,_,_,_,rfl,rfl,ck.of (d6.sm _ _ hL),Y4,_,rfl,pt,_,rfl,d6.sm.dB hpt,nw,fun z3 hz3=>?_⟩
    rw[ct]
    have u7:=aL.new (o:=.tup [V.int rs[r].a,V.int rs[r].b]) hz3
    have hz7:=aF (H:=H6) (a:=z3) (o:=.tup [V.int rs[r].a,V.int rs[r].b])
    have d7:=d6.mono u7
    generalize upd H6 z3 (.tup [V.int rs[r].a,V.int rs[r].b])=H7 at u7 hz7 d7
    refine⟨z3,_,rfl,.inr (dP.of hz7),rfl,rfl,_,rfl,?_⟩
    dsimp only
    rw[if_neg aN,abJ]
    have eia:isAt rs (e.h:Int) r=(decide ((e.h:Int)=rs[r].a) || decide ((e.h:Int)=rs[r].b)):=by unfold isAt; rw[aa hrl]
    rw[← eia]
    by_cases c2:isAt rs (e.h:Int) r=true
    case neg =>
     rw[Bool.eq_false_iff.mpr c2]
     exact gu (Ms _ _ ⟨_,_,rfl,skip (by show (isAt rs (e.h:Int) r && _)=false; rw[Bool.eq_false_iff.mpr c2]; rfl) u7⟩)
    rw[c2]
    refine jF ?_
    have hgP:gP r=true:=by show (isAt rs (e.h:Int) r && !decide (some r=e.by?))=true; rw[c2,decide_eq_false c1]; rfl
    rw[if_pos hgP,aO,aO] at Ms
    have okr:=ok _ (aW hrl)
    have d1:=okr.d1
    have hL7:=ck.of (K:=K) (d7.sm _ _ hL)
    have asl:=d7.sm.dB hpt
    refine⟨_,rfl,_,rfl,_,rfl,b,_,_,_,rfl,rfl,hL7,Y4,pt,_,3,_,rfl,rfl,asl,rfl,_,_,rfl,rfl,(by show (0:Int) < rs[r].d; omega),?_⟩
    have ew:((x:Int) % rs[r].d)=((wN rs x r:Nat):Int):=by
     unfold wN
     rw[aa hrl]
     show (x:Int) % rs[r].d=((x % rs[r].d.toNat:Nat):Int)
     obtain⟨dd,hdd⟩ : ∃ dd:Nat,rs[r].d=(dd:Int):=⟨rs[r].d.toNat,by omega⟩
     rw[hdd]
     rfl
    show k8 13 (V.int ((x:Int) % rs[r].d)) _ _ _
    rw[ew]
    obtain⟨qS,hs1,hs2⟩:=d7.st
    have eqS:qS.length≤740:=by
     rw[hs2.len,af,aH,af]
     omega
    refine⟨_,rfl,.inl ⟨rfl,_,ck.of hs1⟩,_,rfl,_,rfl,_,rfl,(by show 4≤sizeLine; decide),fun z4 hz4=>?_⟩
    refine⟨ls,_,_,rfl,rfl,aL.new hz4 _ _ hs1,oB (by rw[af]; omega),?_⟩
    have d8:=d7.amw (e:=Q0 rs x e.h r) hs1 hs2 hz4
    have ev:(Q0 rs x e.h r).vs = [V.str "send",V.int e.h,V.int r,V.int (wN rs x r:Nat)]:=rfl
    rw[ev] at d8
    generalize upd (upd H7 z4 (.tup [V.str "send",V.int e.h,V.int r,V.int (wN rs x r:Nat)])) ls (.lst (qS.map V.ref++[.ref z4]))=H8 at d8
    have hL8:=ck.of (K:=K) (d8.sm _ _ hL)
    have apf:=d8.sm.dB hpt
    obtain⟨qW,hw1,hw2⟩:=d8.wt
    have eqW:qW.length≤30:=by
     rw[hw2.len,af,aH,af]
     omega
    refine⟨_,rfl,.inl ⟨rfl,_,ck.of hw1⟩,_,rfl,_,rfl,b,_,_,_,rfl,rfl,hL8,Y4,pt,_,0,_,rfl,rfl,apf,rfl,_,rfl,_,rfl,b,_,_,_,rfl,rfl,hL8,Y4,pt,_,1,_,rfl,rfl,apf,rfl,_,_,rfl,rfl,_,rfl,_,_,rfl,rfl,_,rfl,(by show 2≤sizeLine; decide),fun z5 hz5=>?_⟩
    have ef:rs[r].a + rs[r].b - (e.h:Int)=((kO rs r e.h:Nat):Int):=by
     have a0:=okr.a0; have b0:=okr.b0
     unfold kO
     rw[aa hrl]
     show _=((ie rs[r] e.h:Nat):Int)
     rw[eia,Bool.or_eq_true,decide_eq_true_iff,decide_eq_true_iff] at c2
     unfold ie
     by_cases z:(e.h:Int)=rs[r].a
     ·rw[if_pos z]; omega
     ·rw[if_neg z]; omega
    have ev2:enV ⟨kO rs r e.h,some (r,e.h)⟩ = [V.int (kO rs r e.h:Nat),V.int r]:=rfl
    refine⟨lw,_,_,rfl,rfl,aL.new hz5 _ _ hw1,oB (by rw[af]; omega),?_⟩
    have d9:=d8.addW (e:=⟨kO rs r e.h,some (r,e.h)⟩) hw1 hw2 hz5
    rw[ev2] at d9
    refine Ms _ _ ⟨_,_,rfl,?_⟩
    rw[← jE,← jE]
    dsimp only
    rw[ef]
    exact d9
   ·rintro σ H6 ⟨awm,asm,rfl,d6⟩
    rw[af,sE] at d6
    have eg:os.filter gP=goes rs os e:=rfl
    rw[eg] at d6
    have en:(WL rs os f kk++(goes rs os e).map fun r=>(⟨kO rs r e.h,some (r,e.h)⟩ : En))=WL rs os f (kk + 1):=(nC he).symm
    rw[en] at d6
    have es:ds5++(goes rs os e).map (Q0 rs x e.h)=dw rs os cl x f (kk + 1):=by
     rw[← apd,← hds]
     unfold dw
     rw[nC he,(vG he).1,List.flatMap_append]
     show _=_++(uR rs os cl x e++[])
     rw[cz]
     unfold uR
     simp
    rw[es] at d6
    have es2:dw rs os cl x f (kk + 1)=sto (kk + 1):=(if_neg (Nat.succ_ne_zero kk)).symm
    rw[es2] at d6
    refine⟨20 - (kk + 1),by omega,kk + 1,_,_,_,_,_,rfl,d6,?_,rfl⟩
    rw[nC he,aH]
    omega
  ·rintro σ H3 Q1 Q2 hq ⟨v1,e1,v2,e2,a4,ys4,f5,f6,f7,f8,f9,f10,b,g2,g3⟩
   refine⟨v1,e1,v2,e2,a4,ys4,f5,f6,f7,f8,f9,f10,b,g2,?_⟩
   cases b with
   | true =>
    rw[if_pos rfl] at g3 ⊢
    obtain⟨h1,h2,h3,h4,h5,h6,h7,h8,h9⟩:=g3
    exact⟨h1,h2,h3,h4,h5,h6,h7,h8,hq _ _ h9⟩
   | false =>
    rw[if_neg aN] at g3 ⊢
    exact hq _ _ g3
end
end jG
set_option maxHeartbeats 4000000
namespace jG
open PySem L2 TW PyProof.Rows
open RM (fq rF bV bR)
seal L2.PE L2.PA L2.PT L2.PW L2.PS L2.oS L2.PG L2.uS L2.PI L2.uV
section
variable{P:Program}{w:World}{K:ah}{mg:Str→Option Value}{base:Heap}
noncomputable def aa7(x:List Int):PyData:=.tuple (x.map .int)
theorem UO{H:Hp}:∀ {qs:List Addr} {xs:List (List Int)},cZ K H qs (xs.map fun x=>x.map V.int)→dj K H (xs.map aa7) (qs.map V.ref)
 | [],[],_=>rfl
 | [],_ :: _,h=>by cases h.len
 | _ :: _,[],h=>by cases h.len
 | q :: qs,x :: xs,h=>⟨.ref q,qs.map V.ref,rfl,Rep.Wd (ns:=x) (h.at' 0 q _ rfl rfl),UO ⟨Nat.succ.inj h.len,fun i p y a b=>h.at' (i + 1) p y a b⟩⟩
theorem Mm:∀ xs:List (List Int),PyData.canLayAll0 (xs.map aa7)=true
 | []=>rfl
 | x :: xs=>by
  show (PyData.canLayAll0 (x.map .int) && PyData.canLayAll0 (xs.map aa7))=true
  rw[Mm xs,pq]; rfl
theorem WC:∀ xs:List (List Int),PyData.depthAll (xs.map aa7)≤1
 | []=>by decide
 | x :: xs=>by
  show max (PyData.depthAll (x.map .int) + 1) (PyData.depthAll (xs.map aa7))≤1
  have:=WC xs
  have:=vC x
  omega
end
end jG
set_option maxHeartbeats 4000000
namespace jG
open PySem L2 TW PyProof.Rows
open RM (fq rF bV bR)
seal L2.PE L2.PA L2.PT L2.PW L2.PS L2.oS L2.PG L2.uS L2.PI L2.uV
section
variable{P:Program}{w:World}{K:ah}{mg:Str→Option Value}{base:Heap}
noncomputable def yQ(d:eS):Bool:=decide (V.str (dW d)=V.str "send")
noncomputable def ae1(rs:List R5)(x:Nat)(e:En):eS:=match e.fr with | some (r,p)=>Q0 rs x p r | none=>.post 0
section
variable{ns:List Int}{rs:List R5}{os:List Nat}{cl:List (Nat × Nat)}{x f k:Nat}
theorem ahv:∀ k,1≤(WL rs os f k).length
 | 0=>aK _
 | k + 1=>by
  show 1≤(match (WL rs os f k)[k]? with | some e=>WL rs os f k++Bp rs os e | none=>WL rs os f k).length
  have:=ahv k
  split
  ·rw[aH]; omega
  ·exact this
theorem ahw{m:Nat}(h:(WL rs os f m).length≤m):∀ j,WL rs os f (m + j)=WL rs os f m
 | 0=>rfl
 | j + 1=>by
  have ih:=ahw h j
  show (match (WL rs os f (m + j))[m + j]? with | some e=>WL rs os f (m + j)++Bp rs os e | none=>WL rs os f (m + j))=_
  rw[ih,i0 (by omega)]
theorem ahx{e:En}:(uR rs os cl x e).filter yQ=(goes rs os e).map (Q0 rs x e.h):=by
 unfold uR
 have h1:yQ (UN e)=false:=by
  unfold UN
  split
  ·exact (by decide +kernel:decide (V.str "post" = V.str "send")=false)
  ·exact (by decide +kernel:decide (V.str "come" = V.str "send")=false)
 rw[mO (by rw[h1]; decide),kG]
 have h2:((yP cl x e.h).map (eS.hand e.h)).filter yQ = []:=by
  rw[List.filter_eq_nil_iff]
  intro d hd
  obtain⟨c,_,rfl⟩:=bA.mp hd
  exact (by decide +kernel:¬ decide (V.str "hand" = V.str "send")=true)
 have h3:((goes rs os e).map (Q0 rs x e.h)).filter yQ=(goes rs os e).map (Q0 rs x e.h):=by
  rw[List.filter_eq_self]
  intro d hd
  obtain⟨r,_,rfl⟩:=bA.mp hd
  exact (by decide +kernel:decide (V.str "send" = V.str "send")=true)
 rw[h2,h3]
 rfl
theorem Y5:∀ k,k≤(WL rs os f k).length→(dw rs os cl x f k).filter yQ=((WL rs os f k).drop 1).map (ae1 rs x)
 | 0,_=>rfl
 | k + 1,hk=>by
  cases e:(WL rs os f k)[k]? with
  | none =>
   exfalso
   have e1:WL rs os f (k + 1)=WL rs os f k:=by
    show (match (WL rs os f k)[k]? with | some e=>_ | none=>_)=_
    rw[e]
   have:=List.getElem?_eq_none_iff.mp e
   rw[e1] at hk
   omega
  | some en =>
   have hk':=(aj.mp e).1
   have ih:=Y5 k (by omega)
   unfold dw at ih ⊢
   rw[nC e,(vG e).1,List.flatMap_append,kG,ih,List.drop_append_of_le_length (ahv k),aO]
   congr 1
   show ((uR rs os cl x en++[]).filter yQ)=_
   rw[cz,ahx]
   unfold Bp
   rw[gx]
   rfl
end
theorem set_str{v:V}{i:Nat}{r:TS}{D:Ends}{σ:L2.St}{H:Hp}(h:r D (σ.set i (some v)) H):ad0 (ahW (tC v) (k8 i)) r D σ H:=h
theorem amy{ns:List Int}{rs:List R5}{x i:Nat}{e:En}{r p:Nat}(hf:e.fr=some (r,p)):ae1 rs x e = .send p r (wN rs x r)∧VW rs x i e = ⟨i,r,wN rs x r,e.h⟩:=by
 unfold ae1 VW
 rw[hf]
 exact⟨rfl,rfl⟩
noncomputable def ahy(K:ah)(CT:Addr)(c:NC):Sp:=fun vs H Q _=>∃ (F:Addr→Prop) (p tp ln lr b ao:Addr) (ns:List Int) (rs:List R5) (o:ja ns rs) (g:Nat) (os:List Nat) (cl:List (Nat × Nat)) (x f kf D:Nat) (s0 s:NS) (l:LS) (qo:List Addr),vs = [.ref p,.ref b,.int (s0.ls.length:Nat),.ref ao]∧NW K c CT H F p tp ln lr ns rs s∧Av ns rs s∧Bd ns.length rs.length D s∧D≤30000∧g < 3∧kI (Jc ns rs o s0.ws g) (s0.R g) os∧os.length≤12∧(cl.getD x (0,0)).2=g∧s0.ws=(rs.map fun r=>aB r.d.toNat)∧s0.bY=cl.map (·.1)∧s0.groups=cl.map (·.2)∧x < cl.length∧f < ns.length ∧
 S3 rs os cl s0 x f 1 l s∧WZ K (Off H F) b rs∧Off H F ao=some (.lst (qo.map V.ref))∧cZ K (Off H F) qo ((dw rs os cl x f kf).map eS.vs)∧kf=(WL rs os f kf).length∧cl.length≤20 ∧
 ∀ s' l' F' H',NW K c CT H' F' p tp ln lr ns rs s'→Av ns rs s'→Bd ns.length rs.length (D + 100 * kf) s'→S3 rs os cl s0 x f kf l' s'→Step H F H' F'→Q (.bl true) H'
theorem aa8{t:Ad}(T:Txt K mg t):cW P w K mg base lH 9 t.lV t.Jo ["_law_net","_law_ropes_here","_law_number","_law_ought"]  (ahy K t.bG (nc t)):=by
 refine T.wz.ok gp (fun vs H Q E h=>?_) (fun cdv A outer s H vs Q E hr h=>?_)
 ·obtain⟨_,_,_,_,_,_,_,_,_,_,_,_,_,_,_,_,_,_,_,_,_,rfl,_⟩:=h; rfl
 ·obtain⟨F,p,tp,ln,lr,b,ao,ns,rs,o,g,os,cl,x,f,kf,D,s0,st,l,qo,rfl,N,Mb,bd,hD,hg,hO,h12,hcg,hw,hh,hgr,hx,hf,s3,hB,hao,hqo,hkf,D3,k⟩:=h
  refine⟨_,(av (Bt (i:=4) gp.nd rfl (be rfl) (dS (Q9:=ai jb) (N0:=["_law_net","_law_ropes_here","_law_number","_law_ought","_law_sends","_law_k","_law_sent","_law_flies","_law_word","_law_house","_law_rope","_law_wire"]) (N2:=["_law_row"]) (cap:=[none]) rfl rfl (by decide +kernel)) rfl (gD (pv 3)) (fun _ _ _ _=>by exact (bO (i:=0) R1 rfl (be rfl))) (fun _ _ _ _=>by exact (uW (bw vM (bM (Bu K rfl) (pv 0) aJ (fun _ _=>rfl)) g9 (bT _)))) (fun _ _ _ _=>by exact (pv 0)))
   (av (jW PassesOwn.never rfl (iX rfl T.lA (aG (cC bK (by rfl) T.jV bI (aG (pv 4) az)) az)) (bO (i:=5) gp.nd rfl (be rfl)) (av (Bt (i:=6) gp.nd rfl (be rfl) (dS (Q9:=ai jb) (N0:=["_law_net","_law_ropes_here","_law_number","_law_ought","_law_sends","_law_k","_law_sent","_law_flies","_law_word","_law_house","_law_rope","_law_wire"]) (N2:=["_law_row"]) (cap:=[none]) rfl rfl (by decide +kernel)) rfl (gD (bQ (pv 0) T.bU T.O6 (Mj T) (hr.mono (by decide)) T.O0 .nil bx (aG (pv 2) az))) (fun _ _ _ _=>by exact (bO (i:=0) R3 rfl (be rfl))) (fun _ _ _ _=>by exact (uW (bw vM (bM (Bu K rfl) (pv 0) aJ (fun _ _=>rfl)) g9 (bT _)))) (fun _ _ _ _=>by exact (pv 0)))
   (av (bE (i:=7) gp.nd rfl (be rfl) (lO az))
   (av (jW PassesOwn.never rfl (gD (vO WT (pv 6) (rE (pv 5)) KU)) (Rk (n:=4) rfl (kH (bO (i:=8) gp.nd rfl (be rfl)) (kH (bO (i:=9) gp.nd rfl (be rfl)) (kH (bO (i:=10) gp.nd rfl (be rfl)) (kH (bO (i:=11) gp.nd rfl (be rfl)) KP))))) (aI (cJ (o6 aY bg bf er (pv 7) (aG (ia (aG (pv 2) (aG (pv 10) (aG (pv 11) (aG (bB IZ (bB gz (bM dQ (bM cD (pv 1) (pv 10) (fun _ _=>rfl)) aJ (fun _ _=>rfl)) (bM dQ (bM cD (pv 1) (pv 10) (fun _ _=>rfl)) aJ (fun _ _=>rfl))) (pv 9)) az))))) az)))))
   (av (cU (bw abD (mX (pv 0) T.bU T.La (IU T) (hr.mono (by decide)) T.K9 .nil bx) (pv 7) (bT _)) (aI (bH uw)) bD)
   (av (bE (i:=8) gp.nd rfl (be rfl) g9)
   (av (cU (bw vM (bB fc (pv 5) aJ) aJ (bT _)) (aI (bE (i:=8) gp.nd rfl (be rfl) (mX (pv 0) T.bU T.HZ (Hh T) (hr.mono (by decide)) T.Vj (show cP [V.int 0] [_] from .cons ⟨_,rfl⟩ .nil) bx))) (aI (bE (i:=8) gp.nd rfl (be rfl) (bQ (pv 0) T.bU T.HZ (Hh T) (hr.mono (by decide)) T.Vk .nil bx (aG aJ az)))))
   (aI (cU (bw x6 (pv 8) g9 (bT _)) (aI (bH uw)) bD)))))))))
   (aI (bH (x8 Mz (mX (pv 0) T.bU T.La (IU T) (hr.mono (by decide)) T.K9 .nil bx) (lO az) (bT _)))))),?_⟩
  try dsimp only[bN]
  have olt:∀ r∈os,r < rs.length:=fun r hr=>(Bm (s:=s0) hO hr).1
  have kf1:1≤kf:=by rw[hkf]; exact ahv kf
  obtain⟨wif,pre⟩:=UM hO hf kf (by omega)
  have asn:kf≤10:=by rw[hkf]; exact aX wif.len o.n10
  have apg:=cO _ _ hao
  have aph:cZ K H qo ((dw rs os cl x f kf).map eS.vs):=hqo.mono fun b x z=>cO.dB z
  have eqo:qo.length=(dw rs os cl x f kf).length:=by rw[hqo.len,af]
  have hsl:(dw rs os cl x f kf).length≤700:=Hz (by omega) D3 h12
  have hq0:=ck.of (K:=K) apg
  refine fR fun Nx jR=>?_
  refine⟨_,rfl,ao,rfl,⟨_,hq0⟩,fun acc hacc=>?_⟩
  refine jj (n:=(qo.map V.ref).length) (fun i ys H8=>∃ qs:List Addr,ys=qs.map V.ref∧cZ K H8 qs ((((dw rs os cl x f kf).take i).filter yQ).map eS.vs)) hacc (Eg hq0) (sj hq0) ⟨[],rfl,rfl,fun i q x e=>by cases e⟩ ?_ ?_
  ·rintro i ys H8 hi s8 hy ⟨qs,rfl,Aq⟩ y H9 ⟨rfl,hx'⟩
   have hx':=hx' _ (s8.seq hq0)
   have hi':i < qo.length:=by rw[af] at hi; exact hi
   have his:i < (dw rs os cl x f kf).length:=by omega
   rw[aq,aa hi'] at hx'
   cases hx'
   have hd:=s8.dB (aph.at' i qo[i] ((dw rs os cl x f kf)[i]).vs (aa hi') (by rw[aq,aa his]; rfl))
   have efs:=Wn (f:=yQ) his
   have hql:qs.length≤700:=by
    rw[Aq.len,af]
    refine aX (br _ _) ?_
    rw[b5]; omega
   generalize (dw rs os cl x f kf)[i]=d at hd efs
   have hd2:=hd
   rw[Ml] at hd2
   refine⟨_,rfl,qo[i],_,0,_,rfl,rfl,hd2,C7 d,rfl,_,rfl,?_⟩
   refine mY (fun c=>?_) (fun c=>?_)
   ·have c:yQ d=true:=c
    refine⟨_,rfl,ic hacc hi s8 hy (by rw[af]; exact cS (by omega)) ⟨qs++[qo[i]],by rw[aO]; rfl,?_⟩⟩
    rw[efs,if_pos c,aO]
    exact (Aq.snoc hd).mono fun b x=>dP.past hy nM cj
   ·have c:¬ yQ d=true:=c
    refine l5 hi s8 hy ⟨qs,rfl,?_⟩
    rw[efs,if_neg c,cz]
    exact Aq
  rintro ys H1 s1 hy ⟨qs,rfl,Aq⟩
  refine jR _ _ ?_
  clear jR Nx
  rw[af,nD (by omega),Y5 kf (by omega)] at Aq
  have eql:qs.length=kf - 1:=by
   rw[Aq.len,af,af,jg]
   omega
  clear Aq aph apg
  have aso:(((qs.map V.ref).length:Nat):Int)=((kf - 1:Nat):Int):=by rw[af,eql]
  refine fR fun Nx jR=>?_
  refine⟨_,rfl,acc,_,rfl,.inl (ck.of hy),(((qs.map V.ref).length:Nat):Int),rfl,by omega,by omega,?_⟩
  rw[aso]
  have st1:Step H F H1 F:=Step.refl' s1
  refine RD (n:=(((kf - 1:Nat):Int)).toNat) (fun j σ H2=>∃ (s2:NS) (l2:LS) (F2:Addr→Prop) (v5 v6 v7 v8 v9 v10 v11:Option V),NW K (nc t) t.bG H2 F2 p tp ln lr ns rs s2∧Av ns rs s2∧Bd ns.length rs.length (D + 100 * j) s2∧S3 rs os cl s0 x f (j + 1) l2 s2∧Step H F H2 F2∧σ = [some (.ref p),some (.ref b),some (.int (s0.ls.length:Nat)),some (.ref ao),some (.ref acc),v5,v6,v7,v8,v9,v10,v11]) ⟨st,l,F,_,_,_,_,_,_,_,N.mono s1,Mb,bd,s3,st1,rfl⟩ ?_ ?_
  ·rintro j σ H2 Nf Ms hj ⟨s2,l2,F2,v5,v6,v7,v8,v9,v10,v11,N2,ae2,bd2,t3,st2,rfl⟩
   rw[i6]
   have hjk:j + 1 < kf:=by omega
   obtain⟨pj,hjl⟩:=pre (j + 1) (by omega)
   obtain⟨wj,_⟩:=UM hO hf (j + 1) hjl
   have hmore:j + 1 < (WL rs os f (j + 1)).length:=by
    by_cases z:j + 1 < (WL rs os f (j + 1)).length
    ·exact z
    ·exfalso
     have:=ahw (rs:=rs) (os:=os) (f:=f) (m:=j + 1) (by omega) (kf - (j + 1))
     rw[show j + 1 + (kf - (j + 1))=kf by omega] at this
     rw[this] at hkf
     omega
   obtain⟨e,he⟩ : ∃ e,(WL rs os f (j + 1))[j + 1]?=some e:=⟨_,aa hmore⟩
   obtain⟨loc,dxx,q,hp,O,hF,hT⟩:=id N2.fO
   have Hf:=O.get .fO _ rfl
   rw[hp] at Hf
   clear hp O hF hT
   have hl2:s2.ls[s0.ls.length]?=some l2:=by rw[t3.ls]; exact Y0
   refine fR fun Nx jR=>?_
   refine⟨_,rfl,p,_,_,rfl,Hf,rfl,_,rfl,F2,p,tp,ns.length,s0.ls.length,s2,l2,rfl,N2.fO,hl2,fun a1 q1 H3 u3 ha1 h1 hq1=>?_⟩
   rw[t3.ds] at hq1
   have hsj:(dw rs os cl x f (j + 1)).length≤700:=Hz (by omega) D3 h12
   have eq1:q1.length=(dw rs os cl x f (j + 1)).length:=by rw[hq1.len,af]
   have hs1:=ck.of (K:=K) h1
   refine⟨a1,rfl,⟨_,hs1⟩,fun amA akl=>?_⟩
   refine jj (n:=(q1.map V.ref).length) (fun i ys H8=>∃ qs:List Addr,ys=qs.map V.ref∧cZ K H8 qs ((((dw rs os cl x f (j + 1)).take i).filter yQ).map eS.vs)) akl (Eg hs1) (sj hs1) ⟨[],rfl,rfl,fun i q x e=>by cases e⟩ ?_ ?_
   ·rintro i ys H8 hi s8 hy ⟨qs,rfl,Aq⟩ y H9 ⟨rfl,hx'⟩
    have hx':=hx' _ (s8.seq hs1)
    have hi':i < q1.length:=by rw[af] at hi; exact hi
    have his:i < (dw rs os cl x f (j + 1)).length:=by omega
    rw[aq,aa hi'] at hx'
    cases hx'
    have hd:=s8.dB (hq1.at' i q1[i] ((dw rs os cl x f (j + 1))[i]).vs (aa hi') (by rw[aq,aa his]; rfl))
    have efs:=Wn (f:=yQ) his
    have hql:qs.length≤700:=by
     rw[Aq.len,af]
     refine aX (br _ _) ?_
     rw[b5]; omega
    generalize (dw rs os cl x f (j + 1))[i]=d at hd efs
    have hd2:=hd
    rw[Ml] at hd2
    refine⟨_,rfl,q1[i],_,0,_,rfl,rfl,hd2,C7 d,rfl,_,rfl,?_⟩
    refine mY (fun c=>?_) (fun c=>?_)
    ·have c:yQ d=true:=c
     refine⟨_,rfl,ic akl hi s8 hy (by rw[af]; exact cS (by omega)) ⟨qs++[q1[i]],by rw[aO]; rfl,?_⟩⟩
     rw[efs,if_pos c,aO]
     exact (Aq.snoc hd).mono fun b x=>dP.past hy nM cj
    ·have c:¬ yQ d=true:=c
     refine l5 hi s8 hy ⟨qs,rfl,?_⟩
     rw[efs,if_neg c,cz]
     exact Aq
   rintro ys H4 s4 hy4 ⟨q2,rfl,hq2⟩
   refine jR _ _ ?_
   clear jR Nx
   rw[af,nD (by omega),Y5 (j + 1) hjl] at hq2
   have eq2:q2.length=(WL rs os f (j + 1)).length - 1:=by
    rw[hq2.len,af,af,jg]
   have u24:=u3.trans s4
   refine fR fun Nx jR=>?_
   refine⟨bJ _,fun lf hlf=>jR _ _ ?_⟩
   clear jR Nx
   have u5:=aL.new (o:=.lst []) hlf
   have ajx:=aF (H:=H4) (a:=lf) (o:=.lst [])
   have hy5:=u5 _ _ hy4
   have hq5:=hq2.mono fun b x=>u5.dB (a:=b) (xs:=x)
   have u25:=u24.trans u5
   generalize upd H4 lf (.lst [])=H5 at u5 ajx hy5 hq5 u25
   have asp:H2 lf=none:=u24.free hlf
   refine fR fun Nx jR=>?_
   refine⟨_,rfl,_,rfl,_,rfl,amA,_,rfl,ck.of hy5,fun lc hlc=>?_⟩
   have ct:HC (q2.map V.ref) (some (j:Int)) none=(q2.drop j).map V.ref:=by rw[Zt,List.map_drop]
   rw[ct]
   have u6:=aL.new (o:=.lst ((q2.drop j).map V.ref)) hlc
   have amB:=aF (H:=H5) (a:=lc) (o:=.lst ((q2.drop j).map V.ref))
   have apj:=u6 _ _ ajx
   have nlc:lf≠lc:=aR ajx hlc
   have hq6:cZ K _ (q2.drop j) ((((WL rs os f (j + 1)).drop (j + 1)).map (ae1 rs x)).map eS.vs):=⟨by
    rw[jg,eq2,af,af,jg]; omega,fun i q y e1 e2=>by
    rw[kE] at e1
    rw[aq,aq,kE] at e2
    refine u6.dB (hq5.at' (j + i) q y e1 ?_)
    rw[aq,aq,kE,show 1 + (j + i)=j + 1 + i by omega]
    exact e2⟩
   have u26:=u25.trans u6
   generalize upd H5 lc (.lst ((q2.drop j).map V.ref))=H6 at u6 amB apj hq6 u26
   clear hq2 hq5 hy4 hy5 ajx hlc
   have apk:=asp
   obtain⟨us,hL0,apl⟩:=id hB
   have hLx:∀ {Hx:Hp},aL H2 Hx→Hx b=some (.lst (us.map V.ref)):=fun {Hx} sx=>sx _ _ (cO _ _ (jO st2 _ _ hL0))
   have asq:∀ {Hx:Hp},aL H2 Hx→cZ K Hx us (rs.map R5.vs):=fun {Hx} sx=>apl.mono fun b x z=>sx.dB (cO.dB ((jO st2).dB z))
   have eus:us.length=rs.length:=by rw[apl.len,af]
   generalize hDr:(WL rs os f (j + 1)).drop (j + 1)=Dr at hq6
   have hDm:∀ a∈Dr,∃ r p,a.fr=some (r,p)∧r∈os∧isAt rs (p:Int) r=true∧kO rs r p=a.h:=fun a ha=>by
    rw[← hDr] at ha
    have ham:=List.mem_of_mem_drop ha
    cases z:a.fr with
    | some rp =>
     obtain⟨z1,z2,z3,_⟩:=wj.fr a ham rp.1 rp.2 z
     exact⟨rp.1,rp.2,rfl,z1,z2,z3⟩
    | none =>
     exfalso
     obtain⟨i,hi⟩:=lG ha
     rw[kE] at hi
     have:=aa5 _ _ _ hi z
     omega
   have hDl:Dr.length≤10:=by
    rw[← hDr,jg]
    have:=wj.len
    have:=o.n10
    omega
   have eqd:(q2.drop j).length=Dr.length:=by rw[hq6.len,af,af]
   refine⟨lc,rfl,⟨_,ck.of amB⟩,Ho (K:=K) (a:=lc) (xs:=(q2.drop j).map V.ref) (fun i σ H7=>∃ (qf:List Addr) (v8 v9 v10 v11:Option V),aL H2 H7∧H7 lc=some (.lst ((q2.drop j).map V.ref))∧cZ K H7 (q2.drop j) ((Dr.map (ae1 rs x)).map eS.vs)∧H7 lf=some (.lst (qf.map V.ref))∧cZ K H7 qf (((Dr.take i).map (VW rs x s0.ls.length)).map Cp.vs)∧σ = [some (.ref p),some (.ref b),some (.int (s0.ls.length:Nat)),some (.ref ao),some (.ref acc),some (.int (j:Nat)),some (.ref amA),some (.ref lf),v8,v9,v10,v11]) ⟨[],_,_,_,_,u26,amB,hq6,apj,⟨rfl,fun i q x e=>by cases e⟩,rfl⟩ (fun i σ H7 _ z=>by obtain⟨_,_,_,_,_,_,z2,_⟩:=z; exact ck.of z2) ?_ ?_⟩
   ·rintro i y σ H7 Nf Ms hi ⟨qf,v8,v9,v10,v11,u7,ass,hq7,ahz,ahA,rfl⟩
    have hi':i < (q2.drop j).length:=by
     have:=(aj.mp hi).1
     rw[af] at this
     exact this
    rw[aq,aa hi'] at hi
    cases hi
    have hiD:i < Dr.length:=by omega
    have hd:=hq7.at' i (q2.drop j)[i] (ae1 rs x Dr[i]).vs (aa hi') (by rw[aq,aq,aa hiD]; rfl)
    obtain⟨r,pp,z1,z2,z3,z4⟩:=hDm Dr[i] (aW hiD)
    have etk:Dr.take (i + 1)=Dr.take i++[Dr[i]]:=by rw[List.take_add_one,aa hiD]; rfl
    rw[etk,aO,aO] at Ms
    generalize Dr[i]=a at hd z1 z4 Ms
    obtain⟨y1,y2⟩:=amy (ns:=ns) (rs:=rs) (x:=x) (i:=s0.ls.length) z1
    rw[y1] at hd
    show akE K 4 _ (V.ref (q2.drop j)[i]) _ _ _
    generalize (q2.drop j)[i]=qd at hd
    have hrl:=olt r z2
    have hp:(us.map V.ref)[r]?=some (V.ref (us[r]'(by omega))):=by rw[aq,aa]; rfl
    have hpt:=(asq u7).at' r (us[r]'(by omega)) (rs[r]).vs (aa _) (by rw[aq,aa hrl]; rfl)
    have Y4:Q7 (us.map V.ref) (r:Int)=some (.ref (us[r]'(by omega))):=gv hp
    generalize us[r]'(by omega)=pt at Y4 hpt
    have okr:=o.ok _ (aW hrl)
    refine⟨qd,_,rfl,hd,rfl,_,_,rfl,_,_,rfl,_,_,rfl,_,_,rfl,rfl,?_⟩
    have hL7:=ck.of (K:=K) (hLx u7)
    refine⟨_,rfl,.inl ⟨rfl,_,ck.of ahz⟩,_,rfl,_,rfl,_,rfl,_,rfl,_,rfl,b,_,_,_,rfl,rfl,hL7,Y4,pt,_,0,_,rfl,rfl,hpt,rfl,_,rfl,_,rfl,b,_,_,_,rfl,rfl,hL7,Y4,pt,_,1,_,rfl,rfl,hpt,rfl,_,_,rfl,rfl,_,rfl,_,_,rfl,rfl,(by show 4≤sizeLine; decide),fun z5 hz5=>?_⟩
    have ef:rs[r].a + rs[r].b - (pp:Int)=((a.h:Nat):Int):=by
     have a0:=okr.a0; have b0:=okr.b0
     rw[← z4]
     unfold kO
     rw[aa hrl]
     show _=((ie rs[r] pp:Nat):Int)
     unfold isAt at z3
     rw[aa hrl] at z3
     have z3:(decide ((pp:Int)=rs[r].a) || decide ((pp:Int)=rs[r].b))=true:=z3
     rw[Bool.or_eq_true,decide_eq_true_iff,decide_eq_true_iff] at z3
     unfold ie
     by_cases z:(pp:Int)=rs[r].a
     ·rw[if_pos z]; omega
     ·rw[if_neg z]; omega
    have awz:qf.length≤10:=by
     rw[ahA.len,af,af,b5]
     omega
    refine⟨lf,_,_,rfl,rfl,aL.new hz5 _ _ ahz,oB (by rw[af]; omega),?_⟩
    obtain⟨b1,b2,b3,b4⟩:=Y3 (t:=[V.int (s0.ls.length:Nat),V.int r,V.int (wN rs x r:Nat),V.int (rs[r].a + rs[r].b - (pp:Int))]) ahz ahA hz5
    refine Ms _ _ ⟨qf++[z5],_,_,_,_,fun bb oo qq=>b4 bb oo (u7 _ _ qq) (aR qq apk),b4 _ _ ass (bW nlc),hq7.mono b3,b1,?_,rfl⟩
    have e9:List.map Cp.vs (List.map (VW rs x s0.ls.length) [a]) = [[V.int (s0.ls.length:Nat),V.int r,V.int (wN rs x r:Nat),V.int (a.h:Nat)]]:=by
     rw[cG,List.map_nil,y2]
     rfl
    dsimp only
    rw[ef,e9]
    rw[ef] at b2
    exact b2
   rintro σ H7 ⟨qf,v8',v9',asw,amx,u7,_,_,ahz,ahA,rfl⟩
   refine jR _ _ ?_
   clear jR Nx
   rw[af,eqd,sE] at ahA
   have N7:=N2.mono u7
   refine fR fun Nx jR=>?_
   refine⟨_,rfl,p,_,_,rfl,u7 _ _ Hf,rfl,F2,p,tp,ns.length,s2,rfl,N7.fO,fun l8 q8 H8 u8 asx hl8 hq8=>?_⟩
   have asy:s2.cps=Dr.map (VW rs x s0.ls.length):=by rw[t3.cp,hDr]
   have eI:∀ cps:List Cp,cps.map Cp.vs=(cps.map fun c=>([c.l,c.r,c.w,c.h]:List Nat).map fun k:Nat=>(k:Int)).map fun x=>x.map V.int:=fun cps=>by rw[gx]; rfl
   have amC:=ahA.mono fun b x=>u8.dB (a:=b) (xs:=x)
   rw[← asy,eI] at amC
   rw[eI] at hq8
   generalize hcI:(s2.cps.map fun c=>([c.l,c.r,c.w,c.h]:List Nat).map fun k:Nat=>(k:Int))=cI at amC hq8
   refine⟨_,rfl,.list (cI.map aa7),.list (cI.map aa7),⟨l8,_,rfl,ck.of hl8,UO hq8⟩,⟨lf,_,rfl,ck.of (u8 _ _ ahz),UO amC⟩,Mm _,Mm _,cQ (dO (aX (jK _ _) (by show PyData.depthAll _ + 1≤64; have:=WC cI; omega)) _) hr.units,_,rfl,?_⟩
   rw[SeqAt.eqv_refl (.list (cI.map aa7)) (Mm _)]
   refine gu (jR _ _ ?_)
   clear jR Nx
   have u28:=u7.trans u8
   have N8:=N2.mono u28
   have aaT:=u28 _ _ Hf
   obtain⟨cp,hcp⟩ : ∃ cp,s2.cps[0]?=some cp:=by
    rw[t3.cp,aq,kE,Nat.add_zero,he]
    exact⟨_,rfl⟩
   have lt:∀ r∈os,r < rs.length:=olt
   have sp:∀ (Qx:VK) (Ex:XK),(∀ s4 l4 F4 H9,NW K (nc t) t.bG H9 F4 p tp ln lr ns rs s4→Av ns rs s4→Bd ns.length rs.length (D + 100 * (j + 1)) s4→S3 rs os cl s0 x f (j + 1 + 1) l4 s4→Step H F H9 F4→Qx (.str "come") H9)→adN K t.bG (nc t) [.ref p,.int 0] H8 Qx Ex:=fun Qx Ex kx=>by
    have hcm:=bz hcp
    obtain⟨c1,c2,c3,_⟩:=S3.pass (ts:=[]) o lt hw hh hgr hx t3 wj he (by omega) hcp
    have hlc:s2.ls[cp.l]?=some l2:=by rw[c2]; exact hl2
    have hc0:0 < s2.cps.length:=(aj.mp hcp).1
    refine⟨F2,p,tp,ln,lr,ns,rs,s2,o,0,D + 100 * j,cp,l2,rfl,N8,ae2,bd2,by omega,hcp,hlc,fun os' ts F9 H9 hO' ahC pts oe W9 st9=>?_⟩
    have eo:os'=os:=by
     have hO':kI (Jc ns rs o s2.ws l2.grp) (s2.R l2.grp) os':=hO'
     rw[t3.ws,t3.R,t3.lg,hcg] at hO'
     exact hO'.uniq hO
    subst eo
    obtain⟨_,_,_,l4,t4⟩:=S3.pass (ts:=ts) o lt hw hh hgr hx t3 wj he (by omega) hcp
    have ef:V.str (Hg l2 cp os')=V.str "come" := of_decide_eq_true (by rw[WB]; exact c1)
    rw[ef]
    have b9:=ajq o (a:=0) (cp:=cp) (l:=l2) (os:=os') (ts:=ts) bd2 hlc hc0 hO' ahC pts oe
    refine kx _ l4 F9 H9 W9 ⟨?_,?_,?_⟩ (b9.mono (by omega)) t4 ((st2.trans (Step.refl' u28)).trans st9)
    ·rw[t4.ws,← t3.ws]; exact ae2.wl
    ·rw[t4.ws,← t3.ws]; exact ae2.w4
    ·rw[t4.R,← t3.R]; exact ae2.fit
   refine set_str ?_
   dsimp only
   refine Rf (fun σ H9=>∃ s4 l4 F4,NW K (nc t) t.bG H9 F4 p tp ln lr ns rs s4∧Av ns rs s4∧Bd ns.length rs.length (D + 100 * (j + 1)) s4∧S3 rs os cl s0 x f (j + 1 + 1) l4 s4∧Step H F H9 F4∧σ = [some (.ref p),some (.ref b),some (.int (s0.ls.length:Nat)),some (.ref ao),some (.ref acc),some (.int (j:Nat)),some (.ref amA),some (.ref lf),some (.str "come"),v9',asw,amx]) ?_ (fun N' hN=>?_)
   ·rintro σ H9 ⟨s4,l4,F4,W4,ok4,bd4,t4,Wc,rfl⟩
    refine⟨_,rfl,rfl,_,rfl,?_⟩
    rw[decide_eq_true rfl]
    exact gu (Ms _ _ ⟨s4,l4,F4,_,_,_,_,_,_,_,W4,ok4,bd4,t4,Wc,rfl⟩)
   ·refine⟨_,rfl,_,_,rfl,rfl,(by show (0:Int) < 2; decide),rfl,_,rfl,mY (fun _=>?_) (fun _=>?_)⟩
    ·refine⟨_,rfl,p,_,_,rfl,aaT,rfl,?_⟩
     dsimp only[Zd,ac9,tC,List.cons_append,List.nil_append]
     exact sp _ _ (fun s4 l4 F4 H9 W9 ok9 bd9 t9 st9=>hN _ _ ⟨s4,l4,F4,W9,ok9,bd9,t9,st9,rfl⟩)
    ·refine⟨_,rfl,p,_,_,rfl,aaT,rfl,?_⟩
     dsimp only[Zd,ac9,tC,List.cons_append,List.nil_append]
     exact sp _ _ (fun s4 l4 F4 H9 W9 ok9 bd9 t9 st9=>hN _ _ ⟨s4,l4,F4,W9,ok9,bd9,t9,st9,rfl⟩)
  ·rintro σ H2 ⟨s2,l2,F2,v5,v6,v7,v8,v9,v10,v11,N2,ae2,bd2,t3,st2,rfl⟩
   refine jR _ _ ?_
   clear jR Nx
   rw[iF] at bd2 t3
   rw[show kf - 1 + 1=kf by omega] at t3
   obtain⟨loc,dxx,q,hp,O,hF,hT⟩:=id N2.fO
   have Hf:=O.get .fO _ rfl
   rw[hp] at Hf
   clear hp O hF hT
   refine⟨_,rfl,p,_,_,rfl,Hf,rfl,F2,p,tp,ns.length,s2,rfl,N2.fO,fun l8 q8 H8 u8 asx hl8 hq8=>⟨bJ _,fun a ha=>?_⟩⟩
   have ecp:s2.cps = []:=by rw[t3.cp,xZ (by omega)]; rfl
   rw[ecp] at hq8
   have e8:q8 = []:=List.length_eq_zero_iff.mp hq8.len
   subst e8
   have u9:=aL.new (o:=.lst []) ha
   refine⟨.list [],.list [],⟨l8,[],rfl,ck.of (u9 _ _ hl8),rfl⟩,⟨a,[],rfl,ck.of aF,rfl⟩,rfl,rfl,cQ (dO (aX (jK _ _) (by decide:(PyData.list []).depth≤64)) _) hr.units,?_⟩
   have u29:=u8.trans u9
   exact k s2 l2 F2 _ (N2.mono u29) ae2 (bd2.mono (by omega)) t3 (st2.trans (Step.refl' u29))
end
end jG
set_option maxHeartbeats 4000000
namespace jG
open PySem L2 TW PyProof.Rows
open RM (fq rF bV bR)
seal L2.PE L2.PA L2.PT L2.PW L2.PS L2.oS L2.PG L2.uS L2.PI L2.uV
section
variable{P:Program}{w:World}{K:ah}{mg:Str→Option Value}{base:Heap}
theorem ajy{n m D g:Nat}{s:NS}(b:Bd n m D s):Bd n m D (ahi s g):=by
 refine⟨b.gl,b.D3,b.g3,b.hm,b.hl,b.hb,by show (s.ls.map _).length≤D; rw[af]; exact b.ll,fun l z=>?_,b.cb,fun c z=>by show c.l < (s.ls.map _).length∧_; rw[af]; exact b.cl c z,fun g'=>?_⟩
 ·obtain⟨l0,h0,rfl⟩:=bA.mp z
  unfold QZ
  split
  ·exact b.lb l0 h0
  ·exact b.lb l0 h0
 ·show 50 * (jk s.ts g [] g').length≤D∧jX (jk s.ts g [] g')
  by_cases z:g'=g
  ·subst z
   rw[dF]
   exact⟨bJ _,r8⟩
  ·rw[gE z]
   exact b.tb g'
structure I3(ns:List Int)(rs:List R5)(cl:List (Nat × Nat))(D m:Nat)(hd:List (List Nat))(s:NS):Prop where
 ok:Av ns rs s
 bd:Bd ns.length rs.length D s
 ws:s.ws=rs.map fun r=>aB r.d.toNat
 hm:s.bY=cl.map (·.1)
 gr:s.groups=cl.map (·.2)
 cp:s.cps = []
 hd:s.had=hd
 ll:s.ls.length=m
section
variable{ns:List Int}{rs:List R5}{cl:List (Nat × Nat)}{D m:Nat}{hd:List (List Nat)}{s:NS}
theorem I3.call{g x:Nat}{d:RM.Row}(h:I3 ns rs cl D m hd s)(hdd:MD ns.length rs.length d):I3 ns rs cl D m hd (aaO s g x d):=by
 unfold aaO
 split
 ·exact h
 ·have b:=h.bd
  refine⟨⟨h.ok.wl,h.ok.w4,fun k hk=>?_⟩,ajy (s:={ s with R:=jk s.R g (RM.upd (s.R g) x d) }) ⟨b.gl,b.D3,b.g3,b.hm,b.hl,b.hb,b.ll,b.lb,b.cb,b.cl,b.tb⟩,h.ws,h.hm,h.gr,h.cp,h.hd,by show (s.ls.map _).length=m; rw[af]; exact h.ll⟩
  show Bx _ _ (jk s.R g (RM.upd (s.R g) x d) k)
  by_cases z:k=g
  ·subst z
   rw[dF]
   intro i hi
   unfold RM.upd
   split
   ·exact hdd
   ·exact h.ok.fit k hk i hi
  ·rw[gE z]
   exact h.ok.fit k hk
end
theorem Rh(y:Int){n:Nat}(h:0 < n):∃ x:Nat,y % (n:Int)=(x:Int)∧x < n:=by
 have h1:=cM y (show (n:Int)≠0 by omega)
 have h2:=cR y (show (0:Int) < (n:Int) by omega)
 exact⟨(y % (n:Int)).toNat,by omega,by omega⟩
noncomputable def ac2(K:ah)(CT:Addr)(c:NC):Sp:=fun vs H Q _=>∃ (F:Addr→Prop) (p tp ln lr:Addr) (ns:List Int) (rs:List R5) (cl:List (Nat × Nat)) (D m:Nat) (hd:List (List Nat)) (s:NS) (g:Nat),vs = [.ref p,.int (ns.length:Nat),.int g]∧ja ns rs∧NW K c CT H F p tp ln lr ns rs s∧I3 ns rs cl D m hd s∧g < 3 ∧
 ∀ s' F' H',NW K c CT H' F' p tp ln lr ns rs s'→I3 ns rs cl D m hd s'→Step H F H' F'→Q .iu H'
theorem aa9{t:Ad}(T:Txt K mg t):cW P w K mg base lH 5 t.lU t.Jm ["_law_net","_law_size","_law_group"]  (ac2 K t.bG (nc t)):=by
 refine T.wu.ok EC (fun vs H Q E h=>?_) (fun cdv A outer s H vs Q E hr h=>?_)
 ·obtain⟨_,_,_,_,_,_,_,_,_,_,_,_,_,rfl,_⟩:=h; rfl
 ·obtain⟨F,p,tp,ln,lr,ns,rs,cl,D,m,hd,st,g,rfl,o,N,sd,hg,k⟩:=h
  refine⟨_,(aI (jW PassesOwn.never rfl (iX rfl T.lA (aG (bB afo aJ (pv 1)) az)) (bO (i:=3) EC.nd rfl (be rfl)) (aI (jW PassesOwn.never rfl (iX rfl T.lA (aG (pv 1) az)) (bO (i:=4) EC.nd rfl (be rfl)) (aI (cJ (bQ (pv 0) T.bU T.Sf (Qe T) (hr.mono (by decide)) T.Se .nil bx (aG (bB fc (bB gz (pv 4) (pv 3)) (pv 1)) (aG (pv 2) az))))))))),?_⟩
  try dsimp only[bN]
  have n10:=o.n10
  have n1:=o.n1
  refine⟨_,rfl,_,_,rfl,rfl,.inl ⟨by decide,by decide⟩,2 * (ns.length:Int),rfl,by omega,by omega,vz (n:=(2 * (ns.length:Int)).toNat) (fun i σ H2=>∃ (s2:NS) (F2:Addr→Prop) (v3 v4:Option V),NW K (nc t) t.bG H2 F2 p tp ln lr ns rs s2∧I3 ns rs cl D m hd s2∧Step H F H2 F2∧σ = [some (.ref p),some (.int (ns.length:Nat)),some (.int g),v3,v4]) ⟨st,F,_,_,N,sd,Step.refl' (aL.refl _),rfl⟩ ?_ ?_⟩
  ·rintro i σ H2 hi ⟨s2,F2,v3,v4,N2,sd2,st2,rfl⟩
   refine⟨_,rfl,(ns.length:Int),rfl,by omega,by omega,vz (n:=(ns.length:Int).toNat) (fun j σ H3=>∃ (s3:NS) (F3:Addr→Prop) (v4:Option V),NW K (nc t) t.bG H3 F3 p tp ln lr ns rs s3∧I3 ns rs cl D m hd s3∧Step H F H3 F3∧σ = [some (.ref p),some (.int (ns.length:Nat)),some (.int g),some (.int (0 + (i:Int))),v4]) ⟨s2,F2,_,N2,sd2,st2,rfl⟩ ?_ ?_⟩
   ·rintro j σ H3 hj ⟨s3,F3,v4,N3,sd3,st3,rfl⟩
    obtain⟨loc,dx,q,hp,O,hF,hT⟩:=id N3.fO
    have cY:=O.get .fO _ rfl
    rw[hp] at cY
    obtain⟨x,ex,hx⟩:=Rh (0 + (j:Int) + (0 + (i:Int))) (show 0 < ns.length by omega)
    refine⟨_,rfl,p,_,_,rfl,cY,rfl,_,rfl,_,rfl,_,_,rfl,rfl,_,rfl,_,_,rfl,rfl,(by omega),?_⟩
    dsimp only
    rw[ex]
    refine⟨_,rfl,F3,p,tp,ln,lr,ns,rs,s3,o,x,g,rfl,N3,sd3.ok,hx,hg,fun d F4 H4 hd hf N4 Wc=>?_⟩
    exact⟨_,F4,_,N3.done Wc N4,sd3.call hf,st3.trans Wc,rfl⟩
   ·rintro σ H3 ⟨s3,F3,v4,N3,sd3,st3,rfl⟩
    exact⟨s3,F3,_,_,N3,sd3,st3,rfl⟩
  ·rintro σ H2 ⟨s2,F2,v3,v4,N2,sd2,st2,rfl⟩
   exact k s2 F2 H2 N2 sd2 st2
structure LH(h:Hp)(lh:Addr)(sD:List Addr)(hd:List (List Nat)):Prop where
 at_:h lh=some (.lst (sD.map V.ref))
 len:sD.length=hd.length
 nd:sD.Nodup
 nl:lh ∉ sD
 it:∀ (i:Nat) l w,sD[i]?=some l→hd[i]?=some w→h l=some (.lst (bS w))
theorem LH.mono{h h':Hp}{lh:Addr}{sD:List Addr}{hd:List (List Nat)}(d:LH h lh sD hd)(s:aL h h'):LH h' lh sD hd:=⟨s _ _ d.at_,d.len,d.nd,d.nl,fun i l w a b=>s _ _ (d.it i l w a b)⟩
theorem LH.put{h:Hp}{lh:Addr}{sD:List Addr}{hd:List (List Nat)}(d:LH h lh sD hd){c:Nat}{l:Addr}(w:List Nat)(hl:sD[c]?=some l):LH (upd h l (.lst (bS w))) lh sD (hd.set c w):=by
 have hc:=(aj.mp hl).1
 refine⟨cj _ _ d.at_ fun z=>d.nl (z ▸ bz hl),by rw[eY]; exact d.len,d.nd,d.nl,fun i l' w' e1 e2=>?_⟩
 rw[List.getElem?_set] at e2
 by_cases z:c=i
 ·subst z
  rw[if_pos rfl,if_pos (by rw[← d.len]; exact hc)] at e2
  cases e2
  rw[hl] at e1
  cases e1
  exact aF
 ·rw[if_neg z] at e2
  refine cj _ _ (d.it i l' w' e1 e2) fun y=>z ?_
  subst y
  exact ((yS hc d.nd).mp (hl.trans e1.symm))
noncomputable def jJ(i:Nat)(hd:List (List Nat)):eS→List (List Nat)
 | .hand _ c=>hd.set c (hd.getD c []++[i])
 | _=>hd
theorem ahD{rs:List R5}{os:List Nat}{cl:List (Nat × Nat)}{x i:Nat}{e:En}{hd:List (List Nat)}:(uR rs os cl x e).foldl (jJ i) hd=ae0 i hd (yP cl x e.h):=by
 unfold uR
 have h1:jJ i hd (UN e)=hd:=by unfold UN; split <;> rfl
 rw[oW,h1,yT]
 have h2:∀ (gs:List Nat) (hd:List (List Nat)),(gs.map (Q0 rs x e.h)).foldl (jJ i) hd=hd:=fun gs=>by
  induction gs with
  | nil=>intro hd; rfl
  | cons g gs ih=>intro hd; rw[cG,oW]; exact ih hd
 rw[h2,List.foldl_map]
 rfl
theorem adT{rs:List R5}{os:List Nat}{cl:List (Nat × Nat)}{x i:Nat}:∀ (L:List En) (hd:List (List Nat)),(L.flatMap (uR rs os cl x)).foldl (jJ i) hd=L.foldl (fun had e=>ae0 i had (yP cl x e.h)) hd
 | [],hd=>rfl
 | e :: L,hd=>by rw[List.flatMap_cons,yT,ahD,oW,adT L]
theorem Mn{i:Nat}:∀ (ds:List eS) (hd:List (List Nat)),(ds.foldl (jJ i) hd).length=hd.length
 | [],_=>rfl
 | d :: ds,hd=>by
  rw[oW,Mn ds]
  cases d <;> first | rfl | exact eY
noncomputable def dD(d:eS):PyData:=.tuple (.str (dW d) :: (dI d).map .int)
theorem OJ{H:Hp}:∀ {qs:List Addr} {ds:List eS},cZ K H qs (ds.map eS.vs)→dj K H (ds.map dD) (qs.map V.ref)
 | [],[],_=>rfl
 | [],_ :: _,h=>by cases h.len
 | _ :: _,[],h=>by cases h.len
 | q :: qs,d :: ds,h=>⟨.ref q,qs.map V.ref,rfl,⟨q,V.str (dW d) :: (dI d).map V.int,rfl,by rw[← Ml]; exact h.at' 0 q _ rfl rfl,⟨_,_,rfl,rfl,sf _⟩⟩,OJ ⟨Nat.succ.inj h.len,fun i p x a b=>h.at' (i + 1) p x a b⟩⟩
theorem ajz(d:eS):PyData.strOk (dW d)=true:=by
 cases d
 ·exact (by decide +kernel:PyData.strOk "post" = true)
 ·exact (by decide +kernel:PyData.strOk "come" = true)
 ·exact (by decide +kernel:PyData.strOk "hand" = true)
 ·exact (by decide +kernel:PyData.strOk "send" = true)
 ·exact (by decide +kernel:PyData.strOk "twice" = true)
 ·exact (by decide +kernel:PyData.strOk "lost" = true)
theorem HA:∀ ds:List eS,PyData.canLayAll0 (ds.map dD)=true
 | []=>rfl
 | d :: ds=>by
  show ((PyData.strOk (dW d) && PyData.canLayAll0 ((dI d).map .int)) && PyData.canLayAll0 (ds.map dD))=true
  rw[HA ds,pq,ajz]; rfl
theorem UP:∀ ds:List eS,PyData.depthAll (ds.map dD)≤1
 | []=>by decide
 | d :: ds=>by
  show max (max 0 (PyData.depthAll ((dI d).map .int)) + 1) (PyData.depthAll (ds.map dD))≤1
  have:=UP ds
  have:=vC (dI d)
  omega
noncomputable def hD(w:List Nat):PyData:=.list ((w.map fun k:Nat=>(k:Int)).map .int)
theorem UQ{H:Hp}:∀ {sD:List Addr} {hd:List (List Nat)},sD.length=hd.length→(∀ (i:Nat) l w,sD[i]?=some l→hd[i]?=some w→H l=some (.lst (bS w)))→dj K H (hd.map hD) (sD.map V.ref)
 | [],[],_,_=>rfl
 | [],_ :: _,h,_=>by cases h
 | _ :: _,[],h,_=>by cases h
 | l :: sD,w :: hd,h,it=>⟨.ref l,sD.map V.ref,rfl,⟨l,bS w,rfl,ck.of (it 0 l w rfl rfl),by rw[lR]; exact sf _⟩,UQ (Nat.succ.inj h) fun i l' w' a b=>it (i + 1) l' w' a b⟩
theorem Mp:∀ hd:List (List Nat),PyData.canLayAll0 (hd.map hD)=true
 | []=>rfl
 | w :: hd=>by
  show (PyData.canLayAll0 ((w.map fun k:Nat=>(k:Int)).map .int) && PyData.canLayAll0 (hd.map hD))=true
  rw[Mp hd,pq]; rfl
theorem WD:∀ hd:List (List Nat),PyData.depthAll (hd.map hD)≤1
 | []=>by decide
 | w :: hd=>by
  show max (PyData.depthAll ((w.map fun k:Nat=>(k:Int)).map .int) + 1) (PyData.depthAll (hd.map hD))≤1
  have:=WD hd
  have:=vC (w.map fun k:Nat=>(k:Int))
  omega
end
end jG
set_option maxHeartbeats 4000000
namespace jG
open PySem L2 TW PyProof.Rows
open RM (fq rF bV bR)
seal L2.PE L2.PA L2.PT L2.PW L2.PS L2.oS L2.PG L2.uS L2.PI L2.uV
section
variable{P:Program}{w:World}{K:ah}{mg:Str→Option Value}{base:Heap}
theorem apm{ns:List Int}{rs:List R5}{cl:List (Nat × Nat)}(o:ja ns rs)(D3:cl.length≤20)(hc:∀ c∈cl,c.1 < ns.length∧c.2 < 3):I3 ns rs cl 0 0 (cl.map fun _=>[]) (S0 ns rs cl):=by
 refine⟨⟨af _,fun w hw=>?_,fun g _ i hi=>⟨?_,Int.le_refl _,⟨Int.le_refl _,by show (0:Int) < (ns.length:Int); omega⟩,.inl rfl⟩⟩,⟨?_,?_,fun g hg=>?_,fun h hh=>?_,?_,fun w hw=>?_,bJ _,fun l z=>(by cases z),bJ _,fun c z=>(by cases z),fun g=>⟨bJ _,r8⟩⟩,rfl,rfl,rfl,rfl,rfl,rfl⟩
 ·obtain⟨r,hr,rfl⟩:=bA.mp hw
  rw[bC]
  have:=(o.ok r hr).d4
  omega
 ·show 0≤ns.getD i 0
  rw[aD,aa hi]
  exact o.pos _ (aW hi)
 ·show (cl.map _).length=(cl.map _).length
  rw[af,af]
 ·show (cl.map _).length≤20
  rw[af]
  exact D3
 ·obtain⟨c,z,rfl⟩:=bA.mp hg
  exact (hc c z).2
 ·obtain⟨c,z,rfl⟩:=bA.mp hh
  exact (hc c z).1
 ·show (cl.map _).length=(cl.map _).length
  rw[af,af]
 ·obtain⟨c,z,rfl⟩:=bA.mp hw
  exact bJ _
theorem ae3{a:Addr}{xs:List V}{g:TG}{tb:TS}{D:Ends}{σ:L2.St}{H:Hp}(Pv:Nat→L2.St→Hp→Prop)(h0:Pv 0 σ H)(hl:∀ i σ H,i≤xs.length→Pv i σ H→ck K H a xs)
 (hs:∀ i x σ H p (N:L2.St→Hp→Prop),(∀ σ' H',Pv (i + 1) σ' H'→N σ' H')→xs[i]?=some x→Pv i σ H→H p=none→g (.ref p) σ (upd H p (.tup [.int (i:Nat),x])) fun σ2 H2=>tb { D with nx:=N,ct:=N,bk:=D.nx } σ2 H2) (hd:∀ σ H,Pv xs.length σ H→D.nx σ H) :
 ∃ W:Nat→Nat→L2.St→Hp→Prop,(∃ m,W 0 m σ H)∧∀ i m σ H,W i m σ H →
  ((Ite K a).stop i H∧D.nx σ H)∨((Ite K a).go i H∧∃ N:L2.St→Hp→Prop,(∀ σ' H',N σ' H'→∃ m',m' < m∧W (i + 1) m' σ' H')∧∀ x H',(Ite K a).WM i H x H'→g x σ H' fun σ2 H2=>tb { D with nx:=N,ct:=N,bk:=D.nx } σ2 H2) :=
 afO Pv h0 hl (fun i x σ H p hi z hp=>hs i x σ H p _ (fun _ _ x=>x) hi z hp) hd
structure LB(K:ah)(CT:Addr)(h:Hp)(tp ln lr b0 cb lq:Addr)(sD qs:List Addr)(ns:List Int)(rs:List R5)(cl:List (Nat × Nat))(ys:List Int):Prop where
 Au:dR K CT h tp ln lr ns rs
 rps:WZ K h b0 rs
 cal:h cb=some (.lst (qs.map V.ref))
 cat:cZ K h qs (cl.map fun c=>[.int c.1,.int c.2])
 cls:h lq=some (.lst (ys.map V.int))
 nl:∀ l∈sD,l≠tp∧l≠ln∧l≠lr∧l≠b0∧l≠cb∧l≠lq
section
variable{CT:Addr}{h h':Hp}{tp ln lr b0 cb lq:Addr}{sD qs:List Addr}{ns:List Int}{rs:List R5}{cl:List (Nat × Nat)}{ys:List Int}
theorem LB.mono(d:LB K CT h tp ln lr b0 cb lq sD qs ns rs cl ys)(s:aL h h'):LB K CT h' tp ln lr b0 cb lq sD qs ns rs cl ys :=
 ⟨d.Au.mono s,d.rps.keep (fun o z=>s _ _ z) (fun b x=>s.dB),s _ _ d.cal,d.cat.mono fun b x=>s.dB,s _ _ d.cls,d.nl⟩
theorem LB.upd(d:LB K CT h tp ln lr b0 cb lq sD qs ns rs cl ys){l:Addr}{xs:List V}{o:HO}(hne:l≠tp∧l≠ln∧l≠lr∧l≠b0∧l≠cb∧l≠lq)(h0:h l=some (.lst xs)):LB K CT (L2.upd h l o) tp ln lr b0 cb lq sD qs ns rs cl ys:=by
 obtain⟨n1,n2,n3,n4,n5,n6⟩:=hne
 have kt:∀ c y,dP K h c y→dP K (L2.upd h l o) c y:=fun c y=>dP.past h0 nM cj
 refine⟨d.Au.keep (fun c u e q=>cj c u e ?_) kt,d.rps.keep (fun u e=>cj _ u e (bW n4)) kt,cj _ _ d.cal (bW n5),d.cat.mono kt,cj _ _ d.cls (bW n6),d.nl⟩
 rcases q with rfl | rfl | rfl
 ·exact bW n1
 ·exact bW n2
 ·exact bW n3
end
theorem ajA{h:Hp}{lh z:Addr}{sD:List Addr}{hd:List (List Nat)}{o:HO}(d:LH h lh sD hd)(n1:lh≠z)(n2:∀ l∈sD,l≠z):LH (upd h z o) lh sD hd:=⟨cj _ _ d.at_ n1,d.len,d.nd,d.nl,fun i l w a b=>cj _ _ (d.it i l w a b) (n2 l (bz a))⟩
theorem aba{c:NC}{H:Hp}{F:Addr→Prop}{p tp:Addr}{n:Nat}{s:NS}(N:fL K c H F p tp n s){z:Addr}{u o:HO}(hz:Off H F z=some u)(nt:HV u):fL K c (upd H z o) F p tp n s:=by
 obtain⟨nf,hz'⟩:=kJ hz
 exact N.keep (fun b v e fb=>cj b v e fun w=>nf (w ▸ fb)) (fun b x=>dP.past hz' nt cj)
theorem ajB{rs:List R5}{os:List Nat}{cl:List (Nat × Nat)}{x f k h c:Nat}(hd:eS.hand h c∈dw rs os cl x f k):c < cl.length:=by
 unfold dw at hd
 obtain⟨e,_,he⟩:=List.mem_flatMap.mp hd
 unfold uR at he
 rcases cF.mp he with z | z
 ·unfold UN at z
  split at z <;> cases z
 ·rcases cy.mp z with z | z
  ·obtain⟨c',hc',e'⟩:=bA.mp z
   cases e'
   exact fQ.mp (eV.mp hc').1
  ·obtain⟨r,_,e'⟩:=bA.mp z
   cases e'
theorem ahE{i B:Nat}:∀ (ds:List eS) (hd:List (List Nat)),(∀ w∈hd,w.length≤B)→∀ w∈ds.foldl (jJ i) hd,w.length≤B + ds.length
 | [],hd,h=>h
 | d :: ds,hd,h=>by
  have h1:∀ w∈jJ i hd d,w.length≤B + 1:=fun w hw=>by
   cases d <;> first | exact qm (h w hw) | skip
   rename_i hh c
   rcases List.mem_or_eq_of_mem_set hw with z | rfl
   ·exact qm (h w z)
   ·rw[aH,aD]
    refine lF ?_ 1
    cases e:hd[c]? with
    | none=>exact bJ _
    | some w=>exact h w (bz e)
  intro w hw
  have:=ahE (i:=i) (B:=B + 1) ds _ h1 w hw
  rw[cE]
  omega
noncomputable def akm(K:ah):Sp:=fun vs H Q _=>∃ (a:Addr) (ns:List Int),vs = [.ref a]∧ck K H a (ns.map V.int)∧ns.length≤63∧∀ H',Q (.bl true) H'
theorem amD{t:Ad}(T:Txt K mg t):cW P w K mg base lH 10 t.OV t.adA ["_law_script"]  (akm K):=by
 refine T.ZU.ok nP (fun vs H Q E h=>?_) (fun cdv A outer s H vs Q E hr h=>?_)
 ·obtain⟨a,ns,rfl,_⟩:=h; rfl
 ·obtain⟨a,cs,rfl,hS,hlen,k⟩:=h
  refine⟨_,(av (bE (i:=1) nP.nd rfl (be rfl) (bB gz aJ (bB fc (cK (g8 T) (hr.mono (by decide)) rfl T.iW T.eO.kp T.iV .nil bx (aG (pv 0) (aG aJ az))) aJ)))
   (av (bE (i:=2) nP.nd rfl (be rfl) (bB fc (cK (g8 T) (hr.mono (by decide)) rfl T.iW T.eO.kp T.iV .nil bx (aG (pv 0) (aG aJ az))) aJ))
   (av (bE (i:=3) nP.nd rfl (be rfl) (cK (acU T) (hr.mono (by decide)) rfl T.aeF T.AE.kp T.aeE .nil bx (aG (pv 0) (aG (pv 1) (aG (pv 2) az)))))
   (av (bE (i:=4) nP.nd rfl (be rfl) (cK (YR T) (hr.mono (by decide)) rfl T.ZT T.sr.kp T.ZS .nil bx (aG (pv 0) (aG (pv 1) (aG (pv 2) az)))))
   (av (bE (i:=5) nP.nd rfl (Or.inr rfl) (Hi T.aog (VU T) (hr.mono (by decide)) rfl T.aoi T.Xp .nil bx (aG (Hi T.alp (Uw T) (hr.mono (by decide)) rfl T.als T.Ve .nil bx (aG (cK (acT T) (hr.mono (by decide)) rfl T.aeD T.AD.kp T.aeC .nil bx (aG (pv 0) (aG (pv 1) az))) (aG (iy iG (by rfl) T.wC boot_list (aG (pv 3) az)) az))) (aG (iy iG (by rfl) T.wC boot_list (aG (pv 4) az)) az))))
   (av (jW PassesOwn.never rfl (gD (vO WT (pv 0) (rE aJ) (rE aJ))) (bO (i:=6) nP.nd rfl (be rfl)) (aI (cJ (bQ (pv 5) T.bU T.Sf (Qe T) (hr.mono (by decide)) T.Se .nil bx (aG (bB fc (pv 6) (pv 1)) (aG (pv 2) az))))))
   (av (cU (bw vM (bB fc (bB iw (cK (g8 T) (hr.mono (by decide)) rfl T.iW T.eO.kp T.iV .nil bx (aG (pv 0) (aG aJ az))) aJ) aJ) aJ (bT _)) (aI (cJ (cK (aa9 T) (hr.mono (by decide)) rfl T.ab6 T.wu.kp T.ab5 .nil bx (aG (pv 5) (aG (pv 1) (aG (pv 2) az)))))) bD)
   (av (Bt (i:=7) nP.nd rfl (be rfl) (dS (Q9:=ai Et) (N0:=["_law_script","_law_size","_law_group","_law_ropes_here","_law_callers_here","_law_net","_law_cell","_law_had","_law_number","_law_sender","_law_ought","_law_told","_law_story","_law_row"]) (N2:=["_law_caller"]) (cap:=[none]) rfl rfl (by decide +kernel)) rfl (gD (pv 4)) (fun _ _ _ _=>by exact (bO (i:=0) aev rfl (be rfl))) (fun _ _ _ _=>by exact pe) (fun _ _ _ _=>by exact (lO az)))
   (av (jW PassesOwn.never rfl (ado rfl T.O7 (aG (bB ak0 (lO (aG aJ az)) (vO WT (pv 0) (rE aJ) (rE aJ))) az)) (Rk (n:=2) rfl (kH (bO (i:=8) nP.nd rfl (be rfl)) (kH (bO (i:=6) nP.nd rfl (be rfl)) KP))) (av (bE (i:=9) nP.nd rfl (be rfl) (bB fc (pv 6) (cC bK (by rfl) T.jV bI (aG (pv 4) az))))
   (av (bE (i:=10) nP.nd rfl (be rfl) (cK (aht T) (hr.mono (by decide)) rfl T.aiD T.Ld.kp T.aiC .nil bx (aG (pv 3) (aG (bQ (pv 5) T.bU T.OZ (Mc T) (hr.mono (by decide)) T.OY .nil bx (aG (bM dQ (bM cD (pv 4) (pv 9) (fun _ _=>rfl)) aJ (fun _ _=>rfl)) az)) (aG (pv 4) (aG (pv 9) az))))))
   (av (bE (i:=11) nP.nd rfl (be rfl) (bQ (pv 5) T.bU T.ab2 (aaU T) (hr.mono (by decide)) T.ab1 (show cP [V.iu] [Value.none] from .cons rfl .nil) bx (aG (pv 9) az)))
   (av (cU (PW.pt (V1 (jM (vK (cK (Ut T) (hr.mono (by decide)) rfl T.Wt T.vF.kp T.Ws .nil bx (aG (pv 11) az)))) (V1 (bw x6 (pv 11) (pv 8) (bT _)) (WK (jM (vK (cK (aa8 T) (hr.mono (by decide)) rfl T.ab8 T.wz.kp T.ab7 .nil bx (aG (pv 5) (aG (pv 3) (aG (pv 8) (aG (pv 10) az))))))))))) (aI (bH uw)) bD)
   (av (bE (i:=12) nP.nd rfl (be rfl) (bQ (pv 5) T.bU T.O6 (Mj T) (hr.mono (by decide)) T.O0 .nil bx (aG (pv 8) az)))
   (av (cU (PW.pt (V1 (jM (vK (cK (Q3 T) (hr.mono (by decide)) rfl T.Sh T.lW.kp T.Sg .nil bx (aG (pv 12) az)))) (WK (bw abD (pv 12) (pv 10) (bT _))))) (aI (bH uw)) bD)
   (av (jW PassesOwn.never rfl (gD (pv 10)) (bO (i:=13) nP.nd rfl (be rfl)) (aI (cU (bw vM (bM dQ (pv 13) aJ (fun _ _=>rfl)) g9 (bT _)) (aI (cJ (o6 aY bg bf er (bM cD (pv 7) (bM dQ (pv 13) aJ (fun _ _=>rfl)) (fun _ _=>rfl)) (aG (pv 8) az)))) bD)))
   (av (cJ (akW aY PySem.F.slot_list_clear PySem.F.type_list_clear afD (pv 12)))
   (aI (cJ (o6 aY bg bf er (bQ (pv 5) T.bU T.Wr (UI T) (hr.mono (by decide)) T.Wq .nil bx (aG (pv 9) az)) (aG (pv 8) az)))))))))))))
   (aI (bH (x8 Mz (jI (dS (Q9:=ai Et) (N0:=["_law_script","_law_size","_law_group","_law_ropes_here","_law_callers_here","_law_net","_law_cell","_law_had","_law_number","_law_sender","_law_ought","_law_told","_law_story","_law_row"]) (N2:=["_law_caller","_law_net"]) (cap:=[none,some 5]) rfl rfl (by decide +kernel)) rfl (iX rfl T.lA (aG (cC bK (by rfl) T.jV bI (aG (pv 4) az)) az)) (fun _ _ _ _=>by exact (bO (i:=0) aew rfl (be rfl))) (fun _ _ _ _=>by exact pe) (fun _ _ _ _=>by exact (bQ (pv 1) T.bU T.Wr (UI T) (hr.mono (by decide)) T.Wq .nil bx (aG (pv 0) az)))) (pv 7) (bT _))))))))))))),?_⟩
  try dsimp only[bN]
  refine fR fun Nx jR=>?_
  refine⟨_,rfl,a,cs,0,rfl,hS,by decide,_,_,rfl,rfl,(by show (0:Int) < 10; decide),_,_,rfl,rfl,?_⟩
  obtain⟨n,hn,hn1,aa6⟩ : ∃ n:Nat,1 + cs.getD (0:Int).toNat 0 % 10=(n:Int)∧1≤n∧n≤10:=by
   have h1:=cM (cs.getD (0:Int).toNat 0) (show (10:Int)≠0 by decide)
   have h2:=cR (cs.getD (0:Int).toNat 0) (show (0:Int) < 10 by decide)
   exact⟨(1 + cs.getD (0:Int).toNat 0 % 10).toNat,by omega,by omega,by omega⟩
  show k8 1 (V.int (1 + cs.getD (0:Int).toNat 0 % 10)) _ _ _
  rw[hn]
  clear hn
  refine jR _ _ ?_
  clear jR Nx
  refine fR fun Nx jR=>?_
  refine⟨_,rfl,a,cs,1,rfl,hS,by decide,_,_,rfl,rfl,(by show (0:Int) < 3; decide),?_⟩
  obtain⟨g,hge,hg⟩ : ∃ g:Nat,cs.getD (1:Int).toNat 0 % 3=(g:Int)∧g < 3:=Rh _ (by decide)
  show k8 2 (V.int (cs.getD (1:Int).toNat 0 % 3)) _ _ _
  rw[hge]
  clear hge
  refine jR _ _ ?_
  clear jR Nx
  refine fR fun Nx jR=>?_
  refine⟨_,rfl,_,rfl,_,rfl,a,cs,n,g,rfl,hS,hn1,aa6,hg,fun b0 H1 rs s1 hb0 hR1 l14 ok=>jR _ _ ?_⟩
  clear jR Nx
  refine fR fun Nx jR=>?_
  refine⟨_,rfl,_,rfl,_,rfl,a,cs,n,g,rfl,s1.seq hS,hn1,aa6,hg,fun cb qs H2 cl s2 asD hcb hcq hc1 acY amE=>jR _ _ ?_⟩
  clear jR Nx
  have s12:=s1.trans s2
  refine fR fun Nx jR=>?_
  refine⟨_,rfl,_,rfl,a,cs,n,rfl,s12.seq hS,hn1,aa6,fun a0 H3 ns s3 ha0 hA3 eln nd nn=>?_⟩
  subst eln
  have s13:=s12.trans s3
  obtain⟨us,hB1,apo⟩:=hR1
  have hB3:=(s2.trans s3) _ _ hB1
  have apq:cZ K H3 us (rs.map R5.vs):=apo.mono fun b x=>(s2.trans s3).dB
  have ajC:=s3 _ _ hcb
  have amF:cZ K H3 qs (cl.map fun c=>[.int c.1,.int c.2]):=hcq.mono fun b x=>s3.dB
  have hS3:=s13.seq hS
  have tok:ja ns rs:=⟨nd,ok,hn1,aa6,by omega,nn⟩
  have hw4:∀ r∈rs,1≤r.d∧r.d≤4:=fun r hr'=>⟨(ok r hr').d1,(ok r hr').d4⟩
  have he7:∀ r∈rs,1≤r.e∧r.e≤7:=fun r hr'=>⟨(ok r hr').e1,(ok r hr').e7⟩
  clear s1 s2 s3 s12 s13 hB1 apo ha0 hb0 asD hS hcb hcq
  refine⟨_,rfl,b0,_,rfl,.inl (ck.of hB3),fun l2 h2=>?_⟩
  have t2:=aL.new (o:=.lst (us.map V.ref)) h2
  have hl2:=aF (H:=H3) (a:=l2) (o:=.lst (us.map V.ref))
  generalize upd H3 l2 (.lst (us.map V.ref))=H4 at t2 hl2
  refine fun tp dx np ndx nep=>?_
  have t7:aL H4 (upd (upd H4 dx (.own tp)) tp (.ins t.bG dx [])):=(aL.new ndx).trans (aL.new (by rw[aP (bW nep)]; exact np))
  refine⟨tp,dx,a0,l2,ns,rs,rfl,aF,ck.of (t7 _ _ (t2 _ _ hA3)),⟨l2,_,rfl,ck.of (t7 _ _ hl2),WZ.aj0 (l:=l2) (apq.mono fun b x=>(t2.trans t7).dB)⟩,hn1,aa6,nn,nd,by omega,ok,fun ln lr H5 hln hlr hT kp=>⟨rfl,?_⟩⟩
  have t5:aL H3 H5:=t2.trans fun b o e=>kp b o (t7 b o e) (aR e np)
  clear kp hlr hln t7 nep ndx np hl2 t2 h2
  refine⟨_,rfl,cb,_,rfl,.inl (ck.of (t5 _ _ ajC)),fun l3 h3=>?_⟩
  have t6:=aL.new (o:=.lst (qs.map V.ref)) h3
  have hl3:=aF (H:=H5) (a:=l3) (o:=.lst (qs.map V.ref))
  have hT6:=hT.mono t6
  have t36:=t5.trans t6
  generalize upd H5 l3 (.lst (qs.map V.ref))=H6 at t6 hl3 hT6 t36
  clear h3 t6 hT t5
  refine fun p Mr npp ndx nep=>?_
  have t7:aL H6 (upd (upd H6 Mr (.own p)) p (.ins t.c5 Mr [])):=(aL.new ndx).trans (aL.new (by rw[aP (bW nep)]; exact npp))
  refine⟨p,Mr,tp,ln,lr,l3,ns,rs,qs,cl,rfl,aF,hT6.mono t7,by omega,by omega,hw4,ck.of (t7 _ _ hl3),amF.mono fun b x=>(t36.trans t7).dB,acY,amE,fun F H7 N kp fr=>⟨rfl,jR _ _ ?_⟩⟩
  clear jR Nx
  have S7:aL H6 (Off H7 F):=af3 t7 npp kp fr
  have hT7:=hT6.mono S7
  have S37:=t36.trans S7
  have s37:=S37.trans cO
  clear kp fr t7 nep ndx npp hl3 t36 hT6 S7
  obtain⟨zs,ezs,_⟩ : ∃ zs:List Int,HC (cs.map V.int) (some 48) (some 54)=zs.map V.int∧zs.length≤6:=Zv cs 48 54
  have i7:=apm tok acY amE
  generalize S0 ns rs cl=st at N i7
  have nF7:∀ b,H7 b=none→¬ F b:=fun b e z=>by
   obtain⟨o,h⟩:=N.there z
   rw[e] at h
   cases h
  refine fR fun Nx jR=>?_
  refine⟨_,rfl,_,rfl,_,rfl,a,_,rfl,s37.seq hS3,fun lz hlz=>?_⟩
  rw[ezs]
  have u8:=aL.new (o:=.lst (zs.map V.int)) hlz
  have ajD:=aF (H:=H7) (a:=lz) (o:=.lst (zs.map V.int))
  generalize upd H7 lz (.lst (zs.map V.int))=H8 at u8 ajD
  have N8:=N.mono u8
  have S38:=S37.trans (fT (F:=F) u8)
  have hT8:=hT7.mono (fT (F:=F) u8)
  have hz8:Off H8 F lz=some (.lst (zs.map V.int)):=vS (nF7 lz hlz) ajD
  refine⟨lz,rfl,⟨_,ck.of ajD⟩,Ho (K:=K) (a:=lz) (xs:=zs.map V.int) (fun j σ H2=>∃ (s2:NS) (F2:Addr→Prop) (v6:Option V),fL K (nc t) H2 F2 p tp ns.length s2∧I3 ns rs cl 0 0 (cl.map fun _=>[]) s2∧aL (Off H8 F) (Off H2 F2)∧σ = [some (.ref a),some (.int (ns.length:Nat)),some (.int g),some (.ref b0),some (.ref cb),some (.ref p),v6,none,none,none,none,none,none,none]) ⟨st,F,_,N8,i7,aL.refl _,rfl⟩ (fun j σ H2 _ z=>?_) ?_ ?_⟩
  ·obtain⟨s2,F2,v6,_,_,h5,_⟩:=z
   exact ck.of (cO _ _ (h5 _ _ hz8))
  ·rintro j y σ H2 Nf Ms hj ⟨s2,F2,v6,N2,i2,o2,rfl⟩
   have hjl:j < zs.length:=by
    have:=(aj.mp hj).1
    rw[af] at this
    exact this
   rw[aq,aa hjl] at hj
   cases hj
   generalize zs[j]=cell
   obtain⟨loc,dxx,q,hp,O,hF,hT⟩:=id N2
   have cY:=O.get .fO _ rfl
   rw[hp] at cY
   obtain⟨x,ex,hx⟩:=Rh cell (show 0 < ns.length by omega)
   refine⟨_,rfl,p,_,_,rfl,cY,rfl,_,rfl,_,rfl,_,_,rfl,rfl,(by show (0:Int) < (ns.length:Int); omega),?_⟩
   dsimp only
   rw[ex]
   refine⟨_,rfl,F2,p,tp,ln,lr,ns,rs,s2,tok,x,g,rfl,(hT8.mono o2).nw N2 (fun b z=>z),i2.ok,hx,hg,fun d F4 H4 _ hf N4 Wc=>?_⟩
   exact Ms _ _ ⟨_,F4,_,N4,i2.call hf,o2.trans (jO Wc),rfl⟩
  rintro σ H9 ⟨s9,F9,v6,N9,i9,o9,rfl⟩
  refine jR _ _ ?_
  clear jR Nx
  have S39:=S38.trans o9
  have hT9:=hT8.mono o9
  clear hz8 ajD u8 hlz nF7 N8 S38 hT8 o9 S37 s37 hT7 N i7 st
  try dsimp only
  refine Rf (fun σ H2=>∃ (s2:NS) (F2:Addr→Prop),fL K (nc t) H2 F2 p tp ns.length s2∧I3 ns rs cl 0 0 (cl.map fun _=>[]) s2∧aL (Off H9 F9) (Off H2 F2)∧σ = [some (.ref a),some (.int (ns.length:Nat)),some (.int g),some (.ref b0),some (.ref cb),some (.ref p),v6,none,none,none,none,none,none,none]) ?_ (fun N' hN=>?_)
  rotate_left
  ·refine⟨_,rfl,a,cs,1,rfl,cO.seq (S39.seq hS3),by decide,_,_,rfl,rfl,⟨by decide,by decide⟩,_,_,rfl,rfl,(by show (0:Int) < 2; decide),rfl,_,rfl,mY (fun e=>?_) (fun e=>?_)⟩
   ·refine⟨_,rfl,_,rfl,_,rfl,F9,p,tp,ln,lr,ns,rs,cl,0,0,_,s9,g,rfl,tok,hT9.nw N9 (fun b z=>z),i9,hg,fun s2 F2 H2 W2 i2 st2=>?_⟩
    exact hN _ _ ⟨s2,F2,W2.fO,i2,jO st2,rfl⟩
   ·exact hN _ _ ⟨s9,F9,N9,i9,aL.refl _,rfl⟩
  rintro σ Q8 ⟨s10,F10,N10,i10,o10,rfl⟩
  have ahG:=S39.trans o10
  have amG:=hT9.mono o10
  clear S39 hT9 o10 N9 i9
  have aps:=ahG.trans cO
  have amH:=ck.of (K:=K) (aps _ _ ajC)
  have eqs:qs.length=cl.length:=by rw[amF.len,af]
  refine fR fun Nx jR=>?_
  refine⟨_,rfl,cb,rfl,⟨_,amH⟩,fun lh hlh=>?_⟩
  refine jj (n:=(qs.map V.ref).length) (fun i ys H8=>∃ sD:List Addr,ys=sD.map V.ref∧sD.length=i∧sD.Nodup∧∀ l∈sD,H8 l=some (.lst [])∧l≠lh∧Q8 l=none) hlh (Eg amH) (sj amH) ⟨[],rfl,rfl,r8,fun l e=>by simp at e⟩ ?_ ?_
  ·rintro i ys H8 hi s8 hy ⟨sD,rfl,el,hnd,abb⟩ x H9 ⟨rfl,hx⟩
   have hi':i < qs.length:=by rw[af] at hi; exact hi
   refine⟨bJ _,fun l2 h2=>?_⟩
   have u9:=aL.new (o:=.lst []) h2
   have nl2:l2≠lh:=(aR hy h2).symm
   refine ic hlh hi (s8.trans u9) (u9 _ _ hy) (by rw[af,el]; exact cS (by omega)) ⟨sD++[l2],by rw[aO]; rfl,by rw[aH,el]; rfl,Gr.Bv hnd fun z=>aR (abb l2 z).1 h2 rfl,fun l hl=>?_⟩
   rcases cy.mp hl with z | z
   ·obtain⟨z1,z2,z3⟩:=abb l z
    exact⟨by rw[aP z2]; exact u9 _ _ z1,z2,z3⟩
   ·rw[bX] at z
    subst z
    exact⟨by rw[aP nl2]; exact aF,nl2,s8.free h2⟩
  rintro ys' H11 s11 ako ⟨sD,rfl,el,hnd,abb⟩
  refine jR _ _ ?_
  clear jR Nx
  rw[af,eqs] at el
  have amI:∀ b,Q8 b=none→¬ F10 b:=fun b e z=>by
   obtain⟨o,h⟩:=N10.there z
   rw[e] at h
   cases h
  have N11:=N10.mono s11
  have amJ:=ahG.trans (fT (F:=F10) s11)
  have apt:=amG.mono (fT (F:=F10) s11)
  have abc:LH (Off H11 F10) lh sD (cl.map fun _=>[]):=by
   refine⟨vS (amI lh hlh) ako,by rw[af]; exact el,hnd,fun z=>(abb lh z).2.1 rfl,fun i l w e1 e2=>?_⟩
   rw[aq] at e2
   cases e3:cl[i]? with
   | none=>rw[e3] at e2; cases e2
   | some c =>
    rw[e3] at e2
    cases e2
    obtain⟨z1,_,z3⟩:=abb l (bz e1)
    exact vS (amI l z3) z1
  have old:∀ {b o},Off Q8 F10 b=some o→∀ l,Q8 l=none→l≠b:=fun {b o} e l hl z=>by
   have:=cO _ _ e
   rw[← z,hl] at this
   cases this
  obtain⟨⟨dt,htp⟩,hln,_,hlr,_⟩:=id amG
  have apu:∀ l∈sD,l≠tp∧l≠ln∧l≠lr∧l≠b0∧l≠cb:=fun l hl=>by
   have z:=(abb l hl).2.2
   exact⟨old htp l z,old hln l z,old hlr l z,old (ahG _ _ hB3) l z,old (ahG _ _ ajC) l z⟩
  have akp:∀ l∈sD,H11 l≠none:=fun l hl z=>by
   rw[(abb l hl).1] at z
   cases z
  have apv:=cO.seq (amJ.seq hS3)
  refine fR fun Nx jR=>?_
  refine⟨(by show 1≤sizeLine; decide),fun l1 hl1=>?_⟩
  have u1:=aL.new (o:=.lst [V.int 0]) hl1
  have amK:=aF (H:=H11) (a:=l1) (o:=.lst [V.int 0])
  generalize upd H11 l1 (.lst [V.int 0])=H12 at u1 amK
  obtain⟨ys,eys,lys⟩ : ∃ ys:List Int,HC (cs.map V.int) (some 30) (some 42)=ys.map V.int∧ys.length≤12:=Zv cs 30 42
  refine⟨_,rfl,_,rfl,_,rfl,a,_,rfl,u1.seq apv,fun l4 hl4=>?_⟩
  rw[eys]
  have u2:=aL.new (o:=.lst (ys.map V.int)) hl4
  have amL:=aF (H:=H12) (a:=l4) (o:=.lst (ys.map V.int))
  generalize upd H12 l4 (.lst (ys.map V.int))=H13 at u2 amL
  refine⟨l1,l4,_,_,rfl,rfl,u2 _ _ amK,amL,(by rw[af]; exact oU (cS (by show 1 + ys.length≤1000; omega))),fun lq hlq=>?_⟩
  have u3:=aL.new (o:=.lst ([V.int 0]++ys.map V.int)) hlq
  have amM:=aF (H:=H13) (a:=lq) (o:=.lst ([V.int 0]++ys.map V.int))
  generalize upd H13 lq (.lst ([V.int 0]++ys.map V.int))=H14 at u3 amM
  have u14:=u1.trans (u2.trans u3)
  have N14:=N11.mono u14
  have amN:H11 lq=none:=(u1.trans u2).free hlq
  have nFq:¬ F10 lq:=fun z=>by
   obtain⟨o,h⟩:=N11.there z
   rw[amN] at h
   cases h
  have apw:LB K t.bG (Off H14 F10) tp ln lr b0 cb lq sD qs ns rs cl (0 :: ys):=by
   have ajE:=amJ.trans (fT (F:=F10) u14)
   refine⟨apt.mono (fT (F:=F10) u14),⟨us,ajE _ _ hB3,apq.mono fun b x=>ajE.dB⟩,ajE _ _ ajC,amF.mono fun b x=>ajE.dB,vS nFq amM,fun l hl=>?_⟩
   obtain⟨z1,z2,z3,z4,z5⟩:=apu l hl
   exact⟨z1,z2,z3,z4,z5,fun z=>akp l hl (z ▸ amN)⟩
  have asN:=abc.mono (fT (F:=F10) u14)
  clear nFq amN u14 amM u3 hlq amL u2 hl4 amK u1 hl1 apv akp apu htp hln hlr old abc apt amJ N11 amI abb hnd ako s11 hlh aps amG ahG N10
  refine⟨lq,_,rfl,ck.of (cO _ _ apw.cls),ae3 (K:=K) (a:=lq) (xs:=(0 :: ys).map V.int) (fun j σ H2=>∃ (s2:NS) (F2:Addr→Prop) (hd:List (List Nat)) (v6 v8 v9 v10 v11 v12 v13:Option V),fL K (nc t) H2 F2 p tp ns.length s2∧I3 ns rs cl (1200 * j) j hd s2∧LH (Off H2 F2) lh sD hd∧LB K t.bG (Off H2 F2) tp ln lr b0 cb lq sD qs ns rs cl (0 :: ys)∧σ = [some (.ref a),some (.int (ns.length:Nat)),some (.int g),some (.ref b0),some (.ref cb),some (.ref p),v6,some (.ref lh),v8,v9,v10,v11,v12,v13]) ⟨s10,F10,_,_,_,_,_,_,_,_,N14,i10,asN,apw,rfl⟩ (fun j σ H2 _ z=>?_) ?_ ?_⟩
  ·obtain⟨s2,F2,hd,_,_,_,_,_,_,_,_,_,_,h5,_⟩:=z
   exact ck.of (cO _ _ h5.cls)
  ·rintro j y σ H2 p0 Nf Ms hj ⟨s2,F2,hd,v6,v8,v9,v10,v11,v12,v13,N2,i2,lh2,lb2,rfl⟩ hp0
   have hjl:j < (0 :: ys).length:=by
    have:=(aj.mp hj).1
    rw[af] at this
    exact this
   rw[aq,aa hjl] at hj
   cases hj
   have awK:j≤12:=by
    have:(0 :: ys).length=ys.length + 1:=rfl
    omega
   generalize (0 :: ys)[j]=cell
   have w0:=aL.new (o:=.tup [V.int (j:Nat),V.int cell]) hp0
   have hp1:=aF (H:=H2) (a:=p0) (o:=.tup [V.int (j:Nat),V.int cell])
   have N3:=N2.mono w0
   have lh3:=lh2.mono (fT (F:=F2) w0)
   have lb3:=lb2.mono (fT (F:=F2) w0)
   generalize upd H2 p0 (.tup [V.int (j:Nat),V.int cell])=H3 at w0 hp1 N3 lh3 lb3
   clear N2 lh2 lb2 hp0
   refine⟨p0,_,rfl,dP.of hp1,rfl,_,_,rfl,_,_,rfl,rfl,?_⟩
   have hcb:=cO _ _ lb3.cal
   have apx:cZ K H3 qs (cl.map fun c=>[.int c.1,.int c.2]):=lb3.cat.mono fun b x z=>cO.dB z
   obtain⟨x,ex,hx⟩:=Rh cell (show 0 < cl.length by omega)
   have ajF:(((qs.map V.ref).length:Nat):Int)=(cl.length:Int):=by rw[af,eqs]
   refine fR fun Nx jR=>?_
   refine⟨_,rfl,_,rfl,cb,_,rfl,.inl (ck.of hcb),_,_,rfl,rfl,(by rw[ajF]; omega),?_⟩
   dsimp only
   rw[ajF,ex]
   refine jR _ _ ?_
   clear jR Nx
   have asO:Q7 (qs.map V.ref) (x:Int)=some (.ref (qs[x]'(by omega))):=gv (by rw[aq,aa]; rfl)
   have hqx:=apx.at' x (qs[x]'(by omega)) [.int cl[x].1,.int cl[x].2] (aa _) (by rw[aq,aa hx]; rfl)
   have exl:cl.getD x (0,0)=cl[x]:=by rw[aD,aa hx]; rfl
   have hcx:=amE _ (aW hx)
   have egx:s2.groups.getD x 0=cl[x].2:=by
    rw[i2.gr,aD,aq,aa hx]
    rfl
   obtain⟨loc,dxx,q,hp,O,hF,hT⟩:=id N3
   have cY:=O.get .fO _ rfl
   rw[hp] at cY
   clear hp O hF hT
   have W3:NW K (nc t) t.bG H3 F2 p tp ln lr ns rs s2:=lb3.Au.nw N3 fun b z=>z
   refine fR fun Nx jR=>?_
   refine⟨_,rfl,_,rfl,p,_,_,rfl,cY,rfl,_,rfl,_,rfl,cb,_,_,_,rfl,rfl,ck.of hcb,asO,_,_,1,_,rfl,rfl,hqx,rfl,F2,p,tp,ln,lr,ns,rs,s2,tok,cl[x].2,rfl,W3,i2.ok,hcx.2,fun lo os H4 w4 aiP hlo hO h12=>?_⟩
   have lb4:=lb3.mono (fT (F:=F2) w4)
   refine⟨_,rfl,_,rfl,b0,lo,cb,ns,rs,os,ZE rs s2.ws cl[x].2,tok.nd,tok.ok,Aw,s2.R cl[x].2,qs,cl,x,rfl,hO,lb4.rps.keep (fun o z=>cO _ _ z) (fun b x=>cO.dB),ck.of hlo,ck.of (w4 _ _ hcb),apx.mono (fun b x=>w4.dB),hx,acY,h12,by rw[exl]; exact hcx.1,aa6,fun ao qo H5 kf w5 apz hao hqo hkf=>jR _ _ ?_⟩
   clear jR Nx
   have w35:=w4.trans w5
   have N5:=N3.mono w35
   have lh5:=lh3.mono (fT (F:=F2) w35)
   have lb5:=lb3.mono (fT (F:=F2) w35)
   have W5:=W3.mono w35
   have nao:¬ F2 ao:=fun z=>by
    obtain⟨o,h⟩:=(N3.mono w4).there z
    rw[apz] at h
    cases h
   have asP:Off H5 F2 ao=some (.lst (qo.map V.ref)):=vS nao hao
   have asQ:cZ K (Off H5 F2) qo ((dw rs os cl x (cl.getD x (0,0)).1 kf).map eS.vs):=hqo.mono fun b x=>N5.arp
   have asn:kf≤10:=by
    obtain⟨wi,_⟩:=UM (f:=(cl.getD x (0,0)).1) hO (by rw[exl]; exact hcx.1) kf (by omega)
    rw[hkf]
    exact aX wi.len aa6
   have apB:∀ l∈sD,l≠ao:=fun l hl z=>by
    obtain⟨i,hi⟩:=lG hl
    have hil:=(aj.mp hi).1
    rw[lh3.len] at hil
    have:=(lh3.mono (fT (F:=F2) w4)).it i l _ hi (aa hil)
    exact aR (cO _ _ this) apz z
   refine fR fun Nx jR=>?_
   refine⟨_,rfl,p,_,_,rfl,w35 _ _ cY,rfl,_,rfl,F2,p,tp,ln,lr,ns,rs,s2,tok,x,none,1200 * j,rfl,W5,i2.ok,i2.bd,by omega,by rw[i2.hm,af]; exact hx,fun y z=>(by cases z),fun os' F6 H6 hO' ahC W6 st6=>jR _ _ ?_⟩
   clear jR Nx
   rw[egx] at hO'
   have eo:os'=os:=hO'.uniq hO
   subst eo
   have olt:∀ r∈os',r < rs.length:=fun r hr=>(Bm (s:=s2) hO' hr).1
   obtain⟨l6,t6⟩:=S3.post (rs:=rs) (os:=os') (cl:=cl) (x:=x) tok olt i2.ws i2.hm i2.gr hx i2.cp
   have b6:=akg tok (h:=s2.bY.getD x 0) (eu:=none) (os:=os') (adM (to:=none) i2.bd (by rw[i2.hm,af]; exact hx)) YY (by show kI (Jc ns rs tok s2.ws (s2.groups.getD x 0)) (s2.R (s2.groups.getD x 0)) os'; rw[egx]; exact hO') ahC
   have b6:Bd ns.length rs.length (1200 * j + 46) (WA rs s2 x none os'):=b6.mono (by omega)
   have ok6:Av ns rs (WA rs s2 x none os'):=⟨by rw[t6.ws]; exact i2.ok.wl,by rw[t6.ws]; exact i2.ok.w4,by rw[t6.R]; exact i2.ok.fit⟩
   have lh6:=lh5.mono (jO st6)
   have lb6:=lb5.mono (jO st6)
   have apC:=jO st6 _ _ asP
   have apD:cZ K (Off H6 F6) qo ((dw rs os' cl x (cl.getD x (0,0)).1 kf).map eS.vs):=asQ.mono fun b x=>(jO st6).dB
   generalize WA rs s2 x none os'=s6 at W6 t6 b6 ok6
   obtain⟨loc,dxx,q,hp,O,hF,hT⟩:=id W6.fO
   have apE:=O.get .fO _ rfl
   rw[hp] at apE
   clear hp O hF hT
   rw[i2.ll]
   refine fR fun Nx jR=>?_
   refine⟨_,rfl,_,rfl,_,rfl,gu ⟨_,rfl,_,rfl,rfl,_,rfl,?_⟩⟩
   rw[decide_eq_true rfl]
   refine gu ?_
   refine⟨_,rfl,_,rfl,_,rfl,_,rfl,F6,p,tp,ln,lr,b0,ao,ns,rs,tok,cl[x].2,os',cl,x,(cl.getD x (0,0)).1,kf,1200 * j + 46,s2,s6,l6,qo,by rw[i2.ll]; rfl,W6,ok6,b6,by omega,hcx.2,hO',ahC,by rw[exl],i2.ws,i2.hm,i2.gr,hx,by rw[exl]; exact hcx.1,t6,lb6.rps,apC,apD,hkf,acY,fun s7 l7 F7 H7 W7 ok7 bd7 t7 Zm=>⟨_,rfl,gu (jR _ _ ?_)⟩⟩
   clear jR Nx
   have lh7:=lh6.mono (jO Zm)
   have lb7:=lb6.mono (jO Zm)
   have apF:=jO Zm _ _ apC
   have amO:cZ K (Off H7 F7) qo ((dw rs os' cl x (cl.getD x (0,0)).1 kf).map eS.vs):=apD.mono fun b x=>(jO Zm).dB
   obtain⟨loc,dxx,q,hp,O,hF,hT⟩:=id W7.fO
   have aaS:=O.get .fO _ rfl
   rw[hp] at aaS
   clear hp O hF hT
   have hl7:s7.ls[j]?=some l7:=by
    rw[t7.ls,← i2.ll]
    exact Y0
   refine fR fun Nx jR=>?_
   refine⟨_,rfl,p,_,_,rfl,aaS,rfl,_,rfl,F7,p,tp,ns.length,j,s7,l7,rfl,W7.fO,hl7,fun a8 q8 H8 w8 amP ha8 hq8=>jR _ _ ?_⟩
   clear jR Nx
   rw[t7.ds] at hq8
   generalize hds:dw rs os' cl x (cl.getD x (0,0)).1 kf=ds at hq8 amO
   have hdl:ds.length≤700:=by rw[← hds]; exact Hz (by omega) acY ahC
   refine fR fun Nx jR=>?_
   refine⟨_,rfl,a8,q8,ds,rfl,ck.of ha8,hq8,fun H9 w9=>⟨_,rfl,gu ?_⟩⟩
   have w79:=w8.trans w9
   have hq9:=hq8.mono fun b x=>w9.dB (a:=b) (xs:=x)
   have ajG:cZ K H9 qo (ds.map eS.vs):=amO.mono fun b x z=>w79.dB (cO.dB z)
   refine⟨_,rfl,_,rfl,.list (ds.map dD),.list (ds.map dD),⟨a8,_,rfl,ck.of (w9 _ _ ha8),OJ hq9⟩,⟨ao,_,rfl,ck.of (w79 _ _ (cO _ _ apF)),OJ ajG⟩,HA _,HA _,cQ (dO (aX (jK _ _) (by show PyData.depthAll _ + 1≤64; have:=UP ds; omega)) _) hr.units,_,rfl,?_⟩
   rw[SeqAt.eqv_refl (.list (ds.map dD)) (HA _)]
   refine gu (jR _ _ ?_)
   clear jR Nx
   have na8:¬ F7 a8:=fun z=>by
    obtain⟨o,h⟩:=W7.fO.there z
    rw[amP] at h
    cases h
   have N9:=W7.fO.mono w79
   have lh9:=lh7.mono (fT (F:=F7) w79)
   have lb9:=lb7.mono (fT (F:=F7) w79)
   have apG:=fT (F:=F7) w79 _ _ apF
   have ajG:cZ K (Off H9 F7) qo (ds.map eS.vs):=amO.mono fun b x=>(fT (F:=F7) w79).dB
   have ha9:Off H9 F7 a8=some (.lst (q8.map V.ref)):=vS na8 (w9 _ _ ha8)
   have la8:∀ l∈sD,l≠a8:=fun l hl z=>by
    obtain⟨i,hi⟩:=lG hl
    have hil:=(aj.mp hi).1
    rw[lh7.len] at hil
    exact aR (cO _ _ (lh7.it i l _ hi (aa hil))) amP z
   have eqo:qo.length=ds.length:=by rw[ajG.len,af]
   have hhb:∀ w∈hd,w.length≤1200 * j:=by rw[← i2.hd]; exact i2.bd.hb
   have hhl:hd.length=cl.length:=by rw[← i2.hd,i2.bd.hl,i2.hm,af]
   refine fR fun Nx jR=>?_
   refine⟨_,rfl,ao,rfl,⟨_,ck.of (cO _ _ apG)⟩,Ho (K:=K) (a:=ao) (xs:=qo.map V.ref) (fun i σ Q8=>∃ v13:Option V,fL K (nc t) Q8 F7 p tp ns.length s7∧LH (Off Q8 F7) lh sD ((ds.take i).foldl (jJ j) hd)∧LB K t.bG (Off Q8 F7) tp ln lr b0 cb lq sD qs ns rs cl (0 :: ys)∧Off Q8 F7 ao=some (.lst (qo.map V.ref))∧cZ K (Off Q8 F7) qo (ds.map eS.vs)∧Off Q8 F7 a8=some (.lst (q8.map V.ref))∧σ = [some (.ref a),some (.int (ns.length:Nat)),some (.int g),some (.ref b0),some (.ref cb),some (.ref p),some (.int cell),some (.ref lh),some (.int (j:Nat)),some (.int (x:Nat)),some (.ref ao),some (.int (j:Nat)),some (.ref a8),v13]) ⟨_,N9,lh9,lb9,apG,ajG,ha9,rfl⟩ (fun i σ Q8 _ z=>?_) ?_ ?_⟩
   ·obtain⟨_,_,_,_,h4,_⟩:=z
    exact ck.of (cO _ _ h4)
   ·rintro i y σ Q8 Nf Ms hi ⟨v13,N10,VX,ahH,ahI,adU,abd,rfl⟩
    have hiq:i < qo.length:=by
     have:=(aj.mp hi).1
     rw[af] at this
     exact this
    rw[aq,aa hiq] at hi
    cases hi
    have hid:i < ds.length:=by omega
    have hdt:=cO.dB (adU.at' i qo[i] (ds[i]).vs (aa hiq) (by rw[aq,aa hid]; rfl))
    have etk:(ds.take (i + 1)).foldl (jJ j) hd=jJ j ((ds.take i).foldl (jJ j) hd) ds[i]:=by
     rw[k7 hid,yT]
     rfl
    rw[etk] at Ms
    have hmem:=aW hid
    have hbw:∀ w∈(ds.take i).foldl (jJ j) hd,w.length≤1200 * j + 700:=fun w hw=>by
     have:=ahE (i:=j) (ds.take i) hd hhb w hw
     rw[b5] at this
     omega
    have hfl:=Mn (i:=j) (ds.take i) hd
    generalize (ds.take i).foldl (jJ j) hd=hd2 at VX hbw hfl Ms
    show k8 13 (V.ref qo[i]) _ _ _
    generalize ds[i]=d at hdt hmem Ms
    generalize qo[i]=qd at hdt
    have apH:=hdt
    rw[Ml] at apH
    refine⟨_,rfl,qd,_,0,_,rfl,rfl,apH,C7 d,rfl,_,rfl,?_⟩
    have skip:(∀ h c,d≠.hand h c)→jJ j hd2 d=hd2:=fun z=>by
     cases d <;> first | rfl | exact absurd rfl (z _ _)
    by_cases c0:∃ h c,d = .hand h c
    case neg =>
     have e0:decide (V.str (dW d)=V.str "hand")=false:=by
      cases d
      ·exact (by decide +kernel:decide (V.str "post" = V.str "hand")=false)
      ·exact (by decide +kernel:decide (V.str "come" = V.str "hand")=false)
      ·exact absurd ⟨_,_,rfl⟩ c0
      ·exact (by decide +kernel:decide (V.str "send" = V.str "hand")=false)
      ·exact (by decide +kernel:decide (V.str "twice" = V.str "hand")=false)
      ·exact (by decide +kernel:decide (V.str "lost" = V.str "hand")=false)
     rw[skip fun h c z=>c0 ⟨h,c,z⟩] at Ms
     rw[e0]
     exact gu (Ms _ _ ⟨_,N10,VX,ahH,ahI,adU,abd,rfl⟩)
    obtain⟨hh,c,rfl⟩:=c0
    have e1:decide (V.str (dW (.hand hh c))=V.str "hand")=true:=(by decide +kernel:decide (V.str "hand" = V.str "hand")=true)
    rw[e1]
    refine jF ?_
    have hc:c < sD.length:=by
     rw[VX.len,hfl,hhl]
     rw[← hds] at hmem
     exact ajB hmem
    have hc2:c < hd2.length:=by rw[← VX.len]; exact hc
    have hlc:=aa hc
    have hwc:=VX.it c sD[c] hd2[c] hlc (aa hc2)
    have asT:Q7 (sD.map V.ref) (c:Int)=some (.ref sD[c]):=gv (by rw[aq,hlc]; rfl)
    have hwl:=hbw _ (aW hc2)
    refine⟨_,rfl,_,rfl,qd,_,2,_,rfl,rfl,hdt,rfl,lh,_,_,_,rfl,rfl,ck.of (cO _ _ VX.at_),asT,.inl ⟨rfl,_,ck.of (cO _ _ hwc)⟩,_,rfl,sD[c],_,_,rfl,rfl,cO _ _ hwc,oB (by rw[af]; omega),?_⟩
    rw[← nL]
    have es:jJ j hd2 (.hand hh c)=hd2.set c (hd2[c]++[j]):=by
     show hd2.set c (hd2.getD c []++[j])=_
     rw[aD,aa hc2]
     rfl
    rw[es] at Ms
    have hlm:=aW hc
    have N11:=aba (o:=.lst (bS (hd2[c]++[j]))) N10 hwc nM
    have abc:=VX.put (hd2[c]++[j]) hlc
    have ahJ:=ahH.upd (o:=.lst (bS (hd2[c]++[j]))) (ahH.nl _ hlm) hwc
    have kt:∀ b y,dP K (Off Q8 F7) b y→dP K (upd (Off Q8 F7) sD[c] (.lst (bS (hd2[c]++[j])))) b y:=fun b y=>dP.past hwc nM cj
    refine Ms _ _ ⟨_,N11,?_,?_,?_,?_,?_,rfl⟩
    ·rw[Hq (kJ hwc).1]; exact abc
    ·rw[Hq (kJ hwc).1]; exact ahJ
    ·rw[Hq (kJ hwc).1]; exact cj _ _ ahI (bW (apB _ hlm))
    ·rw[Hq (kJ hwc).1]; exact adU.mono kt
    ·rw[Hq (kJ hwc).1]; exact cj _ _ abd (bW (la8 _ hlm))
   rintro σ Q8 ⟨asm,N10,VX,ahH,ahI,adU,abd,rfl⟩
   refine jR _ _ ?_
   clear jR Nx
   rw[af,eqo,sE] at VX
   refine fR fun Nx jR=>?_
   refine⟨_,rfl,.inl ⟨rfl,_,ck.of (cO _ _ abd)⟩,a8,_,rfl,rfl,cO _ _ abd,jR _ _ ?_⟩
   clear jR Nx
   have N11:=aba (o:=.lst []) N10 abd nM
   have awY:=lb7
   obtain⟨⟨dt,htp⟩,hln,_,hlr,_⟩:=id lb7.Au
   obtain⟨us7,hb7,_⟩:=id lb7.rps
   have na:∀ {b o},Off H7 F7 b=some o→a8≠b:=fun {b o} e z=>by
    have:=cO _ _ e
    rw[← z,amP] at this
    cases this
   have abc:=ajA (o:=.lst []) VX (bW (na lh7.at_)) la8
   have ahJ:=ahH.upd (o:=.lst []) ⟨na htp,na hln,na hlr,na hb7,na lb7.cal,na lb7.cls⟩ abd
   rw[← Hq (kJ abd).1] at abc ahJ
   generalize upd Q8 a8 (.lst [])=H11 at N11 abc ahJ
   obtain⟨loc,dxx,q,hp,O,hF,hT⟩:=id N11
   have ahK:=O.get .fO _ rfl
   rw[hp] at ahK
   clear hp O hF hT
   have hhx:x < s7.bY.length:=by rw[t7.hm,i2.hm,af]; exact hx
   have hhd:x < s7.had.length:=by rw[bd7.hl]; exact hhx
   refine⟨_,rfl,p,_,_,rfl,ahK,rfl,_,rfl,F7,p,tp,ns.length,x,s7,s7.had[x],rfl,N11,hhx,aa hhd,fun l12 H12 w12 apI apJ=>?_⟩
   have auU:=bd7.hb _ (aW hhd)
   refine⟨.inl ⟨rfl,_,ck.of apJ⟩,_,rfl,l12,_,_,rfl,rfl,apJ,oB (by rw[af]; omega),?_⟩
   have w13:=w12.out (o:=.lst (bS s7.had[x]++[V.int (j:Nat)])) apI
   refine Ms _ _ ⟨s7,F7,ds.foldl (jJ j) hd,_,_,_,_,_,_,_,N11.mono w13,⟨ok7,bd7.mono (by omega),t7.ws.trans i2.ws,t7.hm.trans i2.hm,t7.gr.trans i2.gr,?_,?_,?_⟩,abc.mono (fT (F:=F7) w13),ahJ.mono (fT (F:=F7) w13),rfl⟩
   ·rw[t7.cp,xZ (by omega)]
    rfl
   ·rw[t7.hd,i2.hd,i2.ll,← adT (rs:=rs) (os:=os'),← hds]
    rfl
   ·rw[t7.ls,aH,i2.ll]
    rfl
  ·rintro σ H2 ⟨s2,F2,hd,v6,v8,v9,v10,v11,v12,v13,N2,i2,lh2,lb2,rfl⟩
   refine jR _ _ ?_
   clear jR Nx
   have hcb:=cO _ _ lb2.cal
   have ajF:(((qs.map V.ref).length:Nat):Int)=(cl.length:Int):=by rw[af,eqs]
   have hhl:hd.length=cl.length:=by rw[← i2.hd,i2.bd.hl,i2.hm,af]
   obtain⟨loc,dxx,q,hp,O,hF,hT⟩:=id N2
   have cY:=O.get .fO _ rfl
   rw[hp] at cY
   clear hp O hF hT
   refine⟨_,rfl,cb,_,rfl,.inl (ck.of hcb),(((qs.map V.ref).length:Nat):Int),rfl,by omega,by omega,fun acc hacc=>?_⟩
   rw[ajF]
   refine jj (n:=((cl.length:Int)).toNat) (fun i ys H8=>∃ ls2:List Addr,ys=ls2.map V.ref∧ls2.length=i∧∀ (m:Nat) l w,ls2[m]?=some l→hd[m]?=some w→H8 l=some (.lst (bS w))∧l≠acc) hacc MA As ⟨[],rfl,rfl,fun m l w e=>by simp at e⟩ ?_ ?_
   ·rintro i ys' H8 hi s8 hy ⟨ls2,rfl,HF,amR⟩ x H9 ⟨rfl,rfl⟩
    rw[i6]
    have hic:i < cl.length:=by omega
    have hih:i < hd.length:=by omega
    refine⟨_,rfl,p,_,_,rfl,s8 _ _ cY,rfl,_,rfl,F2,p,tp,ns.length,i,s2,hd[i],rfl,N2.mono s8,by rw[i2.hm,af]; exact hic,by rw[i2.hd]; exact aa hih,fun l Q8 w10 hl0 hl=>?_⟩
    have nl:l≠acc:=(aR hy hl0).symm
    refine ic hacc hi (s8.trans w10) (w10 _ _ hy) (by rw[af,HF]; exact cS (by omega)) ⟨ls2++[l],by rw[aO]; rfl,by rw[aH,HF]; rfl,fun m l' w' e1 e2=>?_⟩
    rcases K0 e1 with e1 | ⟨rfl,rfl⟩
    ·obtain⟨z1,z2⟩:=amR m l' w' e1 e2
     exact⟨by rw[aP z2]; exact w10 _ _ z1,z2⟩
    ·rw[HF,aa hih] at e2
     cases e2
     exact⟨by rw[aP nl]; exact hl,nl⟩
   rintro ys' H8 s8 hy ⟨ls2,rfl,HF,amR⟩
   rw[iF] at HF
   have lh8:=(lh2.mono cO).mono s8
   refine⟨_,rfl,.list (hd.map hD),.list (hd.map hD),⟨acc,_,rfl,ck.of hy,UQ (by omega) fun m l w e1 e2=>(amR m l w e1 e2).1⟩,⟨lh,_,rfl,ck.of lh8.at_,UQ lh8.len lh8.it⟩,Mp _,Mp _,cQ (dO (aX (jK _ _) (by show PyData.depthAll _ + 1≤64; have:=WD hd; omega)) _) hr.units,?_⟩
   rw[SeqAt.eqv_refl (.list (hd.map hD)) (Mp _)]
   exact k _
end
theorem walk{l:PySem.W.OpenLaw}{q:Program}{loose:List Str}{XP:(Str→Option Value)→Heap→Prop}{YP:World→Heap→Prop}{d:DefRec}{K:Params→ah}(hn:l.most=some 63)(hdf:d.params.defaults = [])(hdn:d.name = "law")
 (hY:∀ (w:World) (h:Heap),YP w h→(K w.params).In h)
 (F:∀ (w:World) (mg:Str→Option Value) (h:Heap),(K w.params).In h→h.Ns mainGlobals mg→∃ t,Txt (K w.params) mg t) :
 PySem.W.WalkO q loose XP YP l.row.toRowW d [] (fun f vs=>PySem.call f vs) :=
 L2.ah8 (n:=63) (k:=10) (x:="_law_script") (CX:=fun _=>lH) (sp:=fun w=>akm (K w.params)) hn (by decide) hdf ⟨rfl,by decide,by decide⟩ hY
  (fun w mg fa h KX G hmg=>by
   obtain⟨t,T⟩:=F w mg h KX G
   rw[hdn] at hmg
   have e:=hmg.symm.trans T.aoh
   cases e
   refine⟨t.adA,fun s v=>?_,fun base _ _=>amD T⟩
   obtain⟨_,_,_,_,_,_,_,_,_,e,_⟩:=T.ZU.ex
   rw[e]
   exact .of_eq rfl)
  (fun _ _ a ns hl _ hS=>⟨a,ns,rfl,hS,hl,fun _=>rfl⟩) fun _ _ _ _ _ z=>z
end jG
namespace PySem.W.Fast
theorem tw13952861754026380068:True:=trivial
theorem tw17482755832208460565:True:=trivial
theorem tw7960977256307146963:True:=trivial
theorem tw9865308561357830569:True:=trivial
theorem tw4420610051005587198:True:=trivial
theorem tw9495801872054778351:True:=trivial
theorem tw16908386539840498545:True:=trivial
theorem tw18116455432786547301:True:=trivial
theorem tw10984635554938329646:True:=trivial
theorem tw2849627344155005911:True:=trivial
theorem tw1372174173507431096:True:=trivial
theorem tw211879040967138837:True:=trivial
theorem tw15332060944553352266:True:=trivial
theorem tw11275546100090651518:True:=trivial
theorem tw8260566805928358759:True:=trivial
theorem tw4109212036525682881:True:=trivial
theorem tw9837102610905266418:True:=trivial
theorem tw14223212988523281582:True:=trivial
theorem tw14536330079664752622:True:=trivial
theorem tw17489153258851070154:True:=trivial
theorem tw9503172467686295217:True:=trivial
theorem tw1216608144248224854:True:=trivial
theorem tw12185420405027736424:True:=trivial
theorem tw17354192722802150949:True:=trivial
theorem tw7191714777210913915:True:=trivial
theorem tw18007780626955048065:True:=trivial
theorem tw13121784067809677033:True:=trivial
theorem tw6989665224613287704:True:=trivial
theorem tw12309800549032922327:True:=trivial
theorem tw14158091242578491424:True:=trivial
theorem tw8198895543509271737:True:=trivial
theorem tw4584993123436739201:True:=trivial
theorem tw2626471575476999595:True:=trivial
theorem tw12253566484589225139:True:=trivial
theorem tw2678163706949752568:True:=trivial
theorem tw11809140154251421070:True:=trivial
theorem tw3484006009423770242:True:=trivial
theorem tw15742766457271694403:True:=trivial
theorem tw4870455008082440576:True:=trivial
theorem tw7332300247383039278:True:=trivial
theorem tw8604482853432873983:True:=trivial
theorem tw17576177142790967713:True:=trivial
theorem tw13343680957000473035:True:=trivial
theorem tw16849964339963703046:True:=trivial
theorem tw6007890350757546551:True:=trivial
theorem tw4848209586978331885:True:=trivial
theorem tw14407105180522473596:True:=trivial
theorem tw10118716605898773715:True:=trivial
theorem tw9303292707809417269:True:=trivial
theorem tw4914792454336255033:True:=trivial
theorem tw15870831973758863464:True:=trivial
theorem tw13769175749551254796:True:=trivial
theorem tw11267520612150172097:True:=trivial
theorem tw669959468486306972:True:=trivial
theorem tw11502869687962893426:True:=trivial
theorem tw1762806448426978946:True:=trivial
theorem tw6401081832688329724:True:=trivial
theorem tw2301763874644614281:True:=trivial
theorem tw741409141263207182:True:=trivial
theorem tw3250602738293547161:True:=trivial
theorem tw15285904527872003742:True:=trivial
theorem tw576499128596552170:True:=trivial
theorem tw3432824343299980773:True:=trivial
theorem tw10174129523505805443:True:=trivial
theorem tw15935902172915935518:True:=trivial
theorem tw9529909494726471816:True:=trivial
theorem tw3706981002959786779:True:=trivial
theorem tw755184079940507349:True:=trivial
theorem tw5385374816405224685:True:=trivial
theorem tw15261316936357009900:True:=trivial
theorem tw3620816837870829982:True:=trivial
theorem tw12498296357235075908:True:=trivial
theorem tw16741686415997879756:True:=trivial
theorem tw2079804265731938528:True:=trivial
theorem tw1855333512400158069:True:=trivial
theorem tw11888244498824613482:True:=trivial
theorem tw4660554511311722549:True:=trivial
theorem tw11975616105140697795:True:=trivial
theorem tw1401923574871400716:True:=trivial
theorem tw14149051637587231422:True:=trivial
theorem tw17686019348464336270:True:=trivial
theorem tw17924490964709194677:True:=trivial
theorem tw15826595120341202824:True:=trivial
theorem tw11751898669605681143:True:=trivial
theorem tw1060983445050159006:True:=trivial
theorem tw657508240763427618:True:=trivial
theorem tw682815692813777940:True:=trivial
theorem tw18024809579241092308:True:=trivial
theorem tw6011151458773501004:True:=trivial
theorem tw4861008979948431988:True:=trivial
theorem tw10371662557688529007:True:=trivial
theorem tw8216059415700737004:True:=trivial
theorem tw16137567603878406878:True:=trivial
theorem tw10962686628514223035:True:=trivial
theorem tw8803508608827600112:True:=trivial
theorem tw4345174476461988267:True:=trivial
theorem tw15318188686728757420:True:=trivial
theorem tw6376811786554632091:True:=trivial
theorem tw11735107435484067379:True:=trivial
theorem tw6891981418355586764:True:=trivial
theorem tw11212674370433550968:True:=trivial
theorem tw13049299426546395077:True:=trivial
theorem tw15182551121873261731:True:=trivial
theorem tw1913145528660121825:True:=trivial
theorem tw8889655989163265416:True:=trivial
theorem tw14508923637077422504:True:=trivial
theorem tw12588947453678960195:True:=trivial
theorem tw9897932592364408199:True:=trivial
theorem tw18218436444990923736:True:=trivial
theorem tw13492070512251238048:True:=trivial
theorem tw16627317908915581724:True:=trivial
theorem tw682714924914715464:True:=trivial
theorem tw12918294572019342687:True:=trivial
theorem tw1075892845860998686:True:=trivial
theorem tw14141076002022447147:True:=trivial
theorem tw17709757121175055636:True:=trivial
theorem tw292396459344675434:True:=trivial
theorem tw15931931899508493080:True:=trivial
theorem tw16947255507675437968:True:=trivial
theorem tw10601940879089140926:True:=trivial
theorem tw3249068755628228263:True:=trivial
theorem tw17491831267588973583:True:=trivial
theorem tw16086947345341361131:True:=trivial
theorem tw10262360722059382062:True:=trivial
theorem tw3842329023812837532:True:=trivial
theorem tw9805536376977455674:True:=trivial
theorem tw2343815071301934761:True:=trivial
theorem tw15628635604436625912:True:=trivial
theorem tw4745797570277855868:True:=trivial
theorem tw8978849800790356215:True:=trivial
theorem tw14733733248509554776:True:=trivial
theorem tw16717176173988891902:True:=trivial
theorem tw19953391359714905:True:=trivial
theorem tw12901486537561703893:True:=trivial
theorem tw17280875270433407873:True:=trivial
theorem tw18105340480895710203:True:=trivial
theorem tw225991059035499232:True:=trivial
theorem tw2838572319757416574:True:=trivial
theorem tw8504465844071514882:True:=trivial
theorem tw3989763867967298127:True:=trivial
theorem tw11799139862243246624:True:=trivial
theorem tw706883274552632969:True:=trivial
theorem tw6239049878991836100:True:=trivial
theorem tw5577718911152787440:True:=trivial
theorem tw371151172208206790:True:=trivial
theorem tw9976751693138484505:True:=trivial
theorem tw16652740612298090288:True:=trivial
theorem tw8016350675153963828:True:=trivial
theorem tw8589161312136785468:True:=trivial
theorem tw7059013625501346880:True:=trivial
theorem tw18302977866470070167:True:=trivial
theorem tw5148686561496486058:True:=trivial
theorem tw102298297835927612:True:=trivial
theorem tw3043045054100055358:True:=trivial
theorem tw16966075207982087251:True:=trivial
theorem tw3987073561054957312:True:=trivial
theorem tw12035279523344102838:True:=trivial
theorem tw2953626634400904831:True:=trivial
theorem tw258741879957844584:True:=trivial
theorem tw16563404160433344365:True:=trivial
theorem tw14965486856183078274:True:=trivial
theorem tw5789868768670017641:True:=trivial
theorem tw7075864329166835189:True:=trivial
theorem tw8686415127073773528:True:=trivial
theorem tw14996529161246469989:True:=trivial
theorem tw15505329166793311363:True:=trivial
theorem tw14578027767301376945:True:=trivial
theorem tw3519963494630552634:True:=trivial
theorem tw14991849521296980929:True:=trivial
theorem tw3705344696393481861:True:=trivial
theorem tw2794175083997195439:True:=trivial
theorem tw16396695775813286351:True:=trivial
theorem tw549820484460507450:True:=trivial
theorem tw15690296277271512112:True:=trivial
theorem tw5768966921704515181:True:=trivial
theorem tw5516151471370297662:True:=trivial
theorem tw12508934708198207943:True:=trivial
theorem tw17329603861541785472:True:=trivial
theorem tw15636411201069608984:True:=trivial
theorem tw9122323925176898436:True:=trivial
theorem tw14243777763896442344:True:=trivial
theorem tw16977169175432320544:True:=trivial
theorem tw16731333204180665531:True:=trivial
theorem tw11712005315749836977:True:=trivial
theorem tw17504908226499448913:True:=trivial
theorem tw4771556769769847543:True:=trivial
theorem tw5630635463182706203:True:=trivial
theorem tw6037267340115812774:True:=trivial
theorem tw14413271294465511919:True:=trivial
theorem tw12303866044545362256:True:=trivial
theorem tw2382686714948629599:True:=trivial
theorem tw12606242518248002218:True:=trivial
theorem tw1295018457174025297:True:=trivial
theorem tw12983574996000975886:True:=trivial
theorem tw17930974939098721921:True:=trivial
theorem tw13912825861707402001:True:=trivial
theorem tw2961697625818293625:True:=trivial
theorem tw17487755260950126840:True:=trivial
theorem tw9872117566783971574:True:=trivial
theorem tw2526829897285613669:True:=trivial
theorem tw7653636324289158974:True:=trivial
theorem tw2963133961850074220:True:=trivial
theorem tw7526682626956742020:True:=trivial
theorem tw8485038459084098686:True:=trivial
theorem tw1883269225571750163:True:=trivial
theorem tw11270025274406574372:True:=trivial
theorem tw9144804597366849014:True:=trivial
theorem tw10965001071884652705:True:=trivial
theorem tw7104993579509991213:True:=trivial
theorem tw1879444104261404602:True:=trivial
theorem tw12358364520191560441:True:=trivial
theorem tw471649208573355201:True:=trivial
theorem tw8402576610190185143:True:=trivial
theorem tw3079907875065333858:True:=trivial
theorem tw9605534487097786253:True:=trivial
theorem tw18086244940977480610:True:=trivial
theorem tw13544774016172408930:True:=trivial
theorem tw12054421098555591379:True:=trivial
theorem tw16827016982147179072:True:=trivial
theorem tw11783491896548851039:True:=trivial
theorem tw9854582463312043261:True:=trivial
theorem tw9276481591963059390:True:=trivial
theorem tw682488358579765803:True:=trivial
theorem tw2775717120837842506:True:=trivial
theorem tw4493136646016008141:True:=trivial
theorem tw8317051779330388575:True:=trivial
theorem tw195011072497326465:True:=trivial
theorem tw15519391638828491408:True:=trivial
theorem tw14993170120305295921:True:=trivial
theorem tw3710808048454064461:True:=trivial
theorem tw2325947588078586472:True:=trivial
theorem tw10923829863431002174:True:=trivial
theorem tw4217069891947924194:True:=trivial
theorem tw4037753231591782504:True:=trivial
theorem tw3340882152109550226:True:=trivial
theorem tw7362249973299024326:True:=trivial
theorem tw14124598573288596459:True:=trivial
theorem tw14410393764968024508:True:=trivial
theorem tw10200520085600542388:True:=trivial
theorem tw11258978568515186156:True:=trivial
theorem tw6769677939735245999:True:=trivial
theorem tw6045392364491274363:True:=trivial
theorem tw4004721463565819562:True:=trivial
theorem tw16118926107095320010:True:=trivial
theorem tw11321738021002075215:True:=trivial
theorem tw10147809399532304030:True:=trivial
theorem tw15065232836230568248:True:=trivial
theorem tw7037900548434596553:True:=trivial
theorem tw15172039274187817190:True:=trivial
theorem tw11407174259998113299:True:=trivial
theorem tw14079687733083821417:True:=trivial
theorem tw8548232579700646346:True:=trivial
theorem tw3350232948635399086:True:=trivial
theorem tw2949258594336059843:True:=trivial
theorem tw8387025775243271109:True:=trivial
theorem tw12727291469708338504:True:=trivial
theorem tw5334126189090984857:True:=trivial
theorem tw2631893373332123777:True:=trivial
theorem tw15172832750473900865:True:=trivial
theorem tw15116323529381143878:True:=trivial
theorem tw13373646361129101769:True:=trivial
theorem tw12320955220402829956:True:=trivial
theorem tw914996542882649759:True:=trivial
theorem tw592953953390272390:True:=trivial
theorem tw5250188384520333072:True:=trivial
theorem tw16913908845782867920:True:=trivial
theorem tw17077070536336804277:True:=trivial
theorem tw13025213071376521485:True:=trivial
theorem tw13909906532229883791:True:=trivial
theorem tw11003845654091159202:True:=trivial
theorem tw17999711586414920821:True:=trivial
theorem tw14161776271586386079:True:=trivial
theorem tw9901042314328732552:True:=trivial
theorem tw14098791939362316362:True:=trivial
theorem tw13908555414717257168:True:=trivial
theorem tw4910021526187717353:True:=trivial
theorem tw12158383198749304809:True:=trivial
theorem tw16202378212797953259:True:=trivial
theorem tw6296667888121069635:True:=trivial
theorem tw5659016774302052757:True:=trivial
theorem tw16843614288323071840:True:=trivial
theorem tw10755060754139962426:True:=trivial
theorem tw88706574734309334:True:=trivial
theorem tw9337304898464991573:True:=trivial
theorem tw16004818547650878379:True:=trivial
theorem tw4217269368861459312:True:=trivial
theorem tw3446223236244905251:True:=trivial
theorem tw14502203658748992734:True:=trivial
theorem tw12175987981317341959:True:=trivial
theorem tw14273805039149474557:True:=trivial
theorem tw9200088737816199478:True:=trivial
theorem tw4749569713189005120:True:=trivial
theorem tw14787733139085304932:True:=trivial
theorem tw16876866029495945981:True:=trivial
theorem tw13734793317326912086:True:=trivial
theorem tw6426937555602000488:True:=trivial
theorem tw1590305716256751816:True:=trivial
theorem tw7975633714729652807:True:=trivial
theorem tw3972593347388323381:True:=trivial
theorem tw4979102110751312496:True:=trivial
theorem tw14937013216157802712:True:=trivial
theorem tw10188057295862692910:True:=trivial
theorem tw1099899878375090935:True:=trivial
theorem tw10565434375169679725:True:=trivial
theorem tw6848056192353816010:True:=trivial
theorem tw17795011829324930210:True:=trivial
theorem tw3229651334250145686:True:=trivial
theorem tw3954686106547685281:True:=trivial
theorem tw2956071528965197780:True:=trivial
theorem tw5657022500019678237:True:=trivial
theorem tw15846157423497661330:True:=trivial
theorem tw15344195019932243924:True:=trivial
theorem tw4967890956005430231:True:=trivial
theorem tw17895834913335054312:True:=trivial
theorem tw14490863183146766707:True:=trivial
theorem tw13502937434477101906:True:=trivial
theorem tw3937150127329620821:True:=trivial
theorem tw9108262145038624530:True:=trivial
theorem tw11311362504254024127:True:=trivial
theorem tw16547939689589040684:True:=trivial
theorem tw6467763373448100531:True:=trivial
theorem tw14037938983111943989:True:=trivial
theorem tw1325291354058353790:True:=trivial
theorem tw11698127726215609019:True:=trivial
theorem tw2016441895768588490:True:=trivial
theorem tw18386573401957016950:True:=trivial
theorem tw11682588775354528013:True:=trivial
theorem tw17915481383365323659:True:=trivial
theorem tw9675634084754697790:True:=trivial
theorem tw9610344224387470878:True:=trivial
theorem tw10543818158944815248:True:=trivial
theorem tw17550005674344415799:True:=trivial
theorem tw2947068165084885235:True:=trivial
theorem tw5775450664347511883:True:=trivial
theorem tw8896096135313861985:True:=trivial
theorem tw486289089162561521:True:=trivial
theorem tw312899713984281290:True:=trivial
theorem tw18065533729109742036:True:=trivial
theorem tw855746092120404497:True:=trivial
theorem tw4910524726556588532:True:=trivial
theorem tw16074674209245738239:True:=trivial
theorem tw17497562886897003503:True:=trivial
theorem tw14870501972718637214:True:=trivial
theorem tw13711869482868875909:True:=trivial
theorem tw1250551454768379335:True:=trivial
theorem tw12182060820650471486:True:=trivial
theorem tw10446857642543318545:True:=trivial
theorem tw5552656820459584226:True:=trivial
theorem tw9305035473068124549:True:=trivial
theorem tw9193146204019737767:True:=trivial
theorem tw877519206730085672:True:=trivial
theorem tw7864292112431748465:True:=trivial
theorem tw6732276340333528692:True:=trivial
theorem tw60411568876373900:True:=trivial
theorem tw5507386767626171210:True:=trivial
theorem tw5153700008463772131:True:=trivial
theorem tw4890929856211226902:True:=trivial
theorem tw3734689587766612803:True:=trivial
theorem tw2940290392150810996:True:=trivial
theorem tw191884324249043897:True:=trivial
theorem tw17354948084534133300:True:=trivial
theorem tw16575684264980597778:True:=trivial
theorem tw15062622991102018691:True:=trivial
theorem tw14968834482335612817:True:=trivial
theorem tw14905262820139129017:True:=trivial
theorem tw14416944548643152737:True:=trivial
theorem tw13953751121481798324:True:=trivial
theorem tw13391734912418934317:True:=trivial
theorem tw11511158110964572001:True:=trivial
theorem tw11385992569407965777:True:=trivial
theorem tw10595751517304058008:True:=trivial
theorem tw15751881923348325975:True:=trivial
theorem tw15813736432706909373:True:=trivial
theorem tw15766904525481034422:True:=trivial
theorem tw8116955254492982409:True:=trivial
theorem tw7116842487009112668:True:=trivial
theorem tw170883597797345593:True:=trivial
theorem tw11548224367293434127:True:=trivial
theorem tw10324964331867642992:True:=trivial
theorem tw14587623167494681867:True:=trivial
theorem tw8074415707338130747:True:=trivial
theorem tw5665634071350454272:True:=trivial
theorem tw17961589117416920982:True:=trivial
theorem tw17680280076388584258:True:=trivial
theorem tw12519594771926102879:True:=trivial
theorem tw5986855383318643269:True:=trivial
theorem tw3634750965771085916:True:=trivial
theorem tw16657817915227869030:True:=trivial
theorem tw14064234449623739747:True:=trivial
theorem tw12487126762255376200:True:=trivial
theorem tw5211461226616948301:True:=trivial
theorem tw17753296886145802835:True:=trivial
theorem tw17646176113756980618:True:=trivial
theorem tw3042087219978990090:True:=trivial
theorem tw1116141673427877393:True:=trivial
theorem tw9476463589952228601:True:=trivial
theorem tw9068522848282189889:True:=trivial
theorem tw6268832648795989944:True:=trivial
theorem tw3310762543787897383:True:=trivial
theorem tw2729913101728243204:True:=trivial
theorem tw17742222237087660860:True:=trivial
theorem tw17705240876791763792:True:=trivial
theorem tw17066284478250867675:True:=trivial
theorem tw16663836430720976602:True:=trivial
theorem tw15469560794732049521:True:=trivial
theorem tw14096383680039734455:True:=trivial
theorem tw6186554377716378371:True:=trivial
theorem tw2281422807832209349:True:=trivial
theorem tw14425313211188633649:True:=trivial
theorem tw10303341738212665152:True:=trivial
theorem tw979432845983951914:True:=trivial
theorem tw9702353281017855675:True:=trivial
theorem tw9398768480898420059:True:=trivial
theorem tw902872284312535674:True:=trivial
theorem tw8820813726167622860:True:=trivial
theorem tw8449411151066354199:True:=trivial
theorem tw8142289395401675110:True:=trivial
theorem tw5799792417620089778:True:=trivial
theorem tw4670293146419995430:True:=trivial
theorem tw2555742725940532761:True:=trivial
theorem tw2170166133199331009:True:=trivial
theorem tw2067522305540297260:True:=trivial
theorem tw18139050153910706772:True:=trivial
theorem tw1744132353829164492:True:=trivial
theorem tw17014615704828382723:True:=trivial
theorem tw15399247811556793386:True:=trivial
theorem tw15174843176974254681:True:=trivial
theorem tw12533261857914121237:True:=trivial
theorem tw11748646955208003149:True:=trivial
theorem tw11412479123009976598:True:=trivial
theorem tw11027909792068175505:True:=trivial
theorem tw10455520061978926730:True:=trivial
theorem tw10015613402154798659:True:=trivial
theorem tw13619351194084343443:True:=trivial
theorem tw6339717989205755827:True:=trivial
theorem tw4269266137777461287:True:=trivial
theorem tw6210827761422592377:True:=trivial
theorem tw4358825335122235647:True:=trivial
theorem tw337163116641532255:True:=trivial
theorem tw2191702675285422697:True:=trivial
theorem tw1475833144631605933:True:=trivial
theorem tw1447654230446603726:True:=trivial
theorem tw8687508851696214843:True:=trivial
theorem tw11865848439848718749:True:=trivial
theorem tw14394666433466176121:True:=trivial
theorem tw11573258145277166780:True:=trivial
theorem tw417609129538572852:True:=trivial
theorem tw3389944470523023980:True:=trivial
theorem tw3304014590108723766:True:=trivial
theorem tw2935888152473206373:True:=trivial
theorem tw2266724066616013139:True:=trivial
theorem tw10545299637679769381:True:=trivial
theorem tw7687359044511845075:True:=trivial
theorem tw2840808116344128354:True:=trivial
theorem tw8135815288585462714:True:=trivial
theorem tw6720128000768607581:True:=trivial
theorem tw6613819969927874398:True:=trivial
theorem tw5462421491363518264:True:=trivial
theorem tw356941913450896006:True:=trivial
theorem tw3284256491131960109:True:=trivial
theorem tw15858063766572160825:True:=trivial
theorem tw13655490765988707343:True:=trivial
theorem tw12295631181408797958:True:=trivial
theorem tw12199110677454444997:True:=trivial
theorem tw11031697189001855844:True:=trivial
theorem tw17693258185804720165:True:=trivial
theorem tw16402345658921270364:True:=trivial
theorem tw15813181754837956185:True:=trivial
theorem tw2163466004080791367:True:=trivial
theorem tw6897537903624271782:True:=trivial
theorem tw12639505164766957758:True:=trivial
theorem tw10697656803110634274:True:=trivial
theorem tw1549911501274006159:True:=trivial
end PySem.W.Fast
open PySem PySem.W PyProof.Rows
set_option maxRecDepth 100000 in
set_option maxHeartbeats 0 in
theorem PySem.Challenge.cw_knotless_k30_story_of_a_letter_to_all_holds : PySem.Challenge.rw_knotless_k30_story_of_a_letter_to_all.Holds := by
 w_on; o_law; k_head; (case hw=>w_witness2)
 k_fill
 refine jG.walk (l:=PySem.Challenge.rw_knotless_k30_story_of_a_letter_to_all) rfl rfl rfl (fun w h Y=>PySem.W.kIn_of Y) ?F
 case F =>
  intro w mg h KX G
  refine' jG.alw KX G ?Nu ?Ub ?Uc ?Nv ?Ye ?JH ?Yg ?acH ?zp ?zq ?zu ?zw ?zx ?Cc ?Cd ?Ce ?Cf ?vp ?Cg ?Ci ?Cj ?Ck ?vq ?zy ?zz ?zA ?zB ?rV ?Ny ?Nz ?NB ?ND ?JI ?JJ ?JK ?JL ?tD ?nj ?tE ?tF ?nk ?wY ?wZ ?w6 ?xg ?p6 ?xh ?p7 ?xj ?xm ?lY ?tG ?nv ?tH ?tK ?kN ?xo ?xq ?xr ?xu ?xw ?zC ?zD ?zE ?zF ?rW ?zG ?zH ?zI ?zJ ?rX ?xx ?xA ?xB ?xC ?p8 ?zK ?zL ?zM ?zN ?rY ?NF ?NH ?NI ?NJ ?Yh ?Yi ?Yj ?Yk ?agJ ?agK ?agL ?agM ?agN ?agO ?agP ?agQ ?Yl ?Ym ?Yn ?Yo ?NK ?NL ?NN ?NO ?Yp ?Yq ?Yr ?Ys ?zO ?zP ?zQ ?zR ?zS ?Gh ?Gi ?Gj ?Gk ?yI ?Gm ?Gn ?Gp ?Gq ?yJ ?tL ?tM ?tN ?tO ?ny ?xD ?xE ?xF ?xG ?p9 ?Gs ?Gu ?Gv ?Gw ?yK ?zT ?zU ?zV ?zW ?zX ?zY ?zZ ?z6 ?Cm ?Cn ?Co ?Cq ?Gx ?Gy ?Gz ?GA ?qL ?qM ?qN ?qO ?qP ?nX ?nY ?nZ ?n9 ?kr ?oh ?oi ?oj ?om ?ku ?xH ?xJ ?xK ?xM ?qb ?JM ?JN ?JO ?JP ?z7 ?z8 ?z9 ?Aa ?tP ?tQ ?tR ?tS ?tT ?Cr ?Cs ?Ct ?Cu ?Cv ?JQ ?JR ?JS ?JT ?Cw ?JU ?JV ?JW ?JX ?Cy ?GB ?GC ?GD ?GF ?yL ?Cz ?CA ?CB ?CC ?vt ?JY ?JZ ?J0 ?J1 ?CD ?NP ?NQ ?NR ?NT ?Hw ?J2 ?J3 ?J4 ?J5 ?CF ?GG ?CG ?CH ?CI ?CJ ?vv ?Ab ?Ac ?Ae ?Af ?rZ ?xN ?GH ?GI ?GJ ?GK ?yM ?Ag ?Ah ?Ai ?Aj ?r6 ?tU ?tV ?tW ?tX ?nA ?qQ ?qR ?qU ?qV ?mJ ?J6 ?J7 ?J8 ?J9 ?CK ?tY ?tZ ?t8 ?ua ?nB ?qc ?qe ?qg ?qh ?lE ?oq ?ou ?ow ?oz ?kB ?qX ?qY ?qZ ?rj ?mK ?CL ?CM ?CN ?CO ?uc ?ud ?ue ?uf ?GL ?GN ?GO ?GP ?NU ?NV ?NX ?NY ?NZ ?Oa ?Ob ?Oc ?Od ?Oe ?Of ?Og ?GQ ?GR ?GS ?GU ?Ka ?Kc ?Kd ?Ke ?xO ?xP ?xQ ?xR ?Yt ?Yu ?Yv ?Yw ?Kf ?Kg ?Kh ?Kl ?agR ?agS ?agT ?agU ?Oh ?Oi ?Oj ?Ol ?Om ?Oo ?rm ?CP ?Ud ?Ue ?Ug ?Uh ?Ui ?Uj ?ug ?GV ?Uk ?Ul ?Um ?Uo ?Up ?Uq ?uh ?GW ?Oq ?Ot ?Ou ?Ov ?Ow ?Ox ?rz ?um ?Ak ?qi ?uo ?Yx ?Yy ?Yz ?YA ?YB ?YC ?mU ?mV ?CQ ?CS ?Km ?Kn ?Ko ?Kp ?Kq ?Kr ?uq ?oA ?YD ?YE ?YF ?YG ?YH ?YI ?CU ?acI ?acJ ?acK ?acL ?acM ?acN ?GX ?xS ?lZ ?CV ?CY ?Al ?Am ?xT ?An ?xU ?xV ?ur ?Ur ?rA ?rB ?rC ?Oz ?Ks ?Ku ?Kv ?Kw ?Ky ?Kz ?KA ?KC ?KD ?KE ?GY ?GZ ?G0 ?G1 ?G2 ?G3 ?G4 ?G5 ?G6 ?Ao ?CZ ?C0 ?C1 ?xW ?C2 ?C3 ?agV ?C4 ?agW ?acO ?acP ?YJ ?YK ?G7 ?agX ?agY ?agZ ?ag0 ?Us
  (case Nu=>k_is)
  (case Ub=>k_is)
  (case Uc=>k_is)
  (case Nv=>k_is)
  (case Ye=>k_is)
  (case JH=>k_is)
  (case Yg=>k_is)
  (case acH=>k_is)
  (case zp=>k_is)
  (case zq=>k_is)
  (case zu=>k_is)
  (case zw=>k_is)
  (case zx=>k_is)
  (case Cc=>k_is)
  (case Cd=>k_is)
  (case Ce=>k_is)
  (case Cf=>k_is)
  (case vp=>k_is)
  (case Cg=>k_is)
  (case Ci=>k_is)
  (case Cj=>k_is)
  (case Ck=>k_is)
  (case vq=>k_is)
  (case zy=>k_is)
  (case zz=>k_is)
  (case zA=>k_is)
  (case zB=>k_is)
  (case rV=>k_is)
  (case Ny=>k_is)
  (case Nz=>k_is)
  (case NB=>k_is)
  (case ND=>k_is)
  (case JI=>k_is)
  (case JJ=>k_is)
  (case JK=>k_is)
  (case JL=>k_is)
  (case tD=>k_is)
  (case nj=>k_is)
  (case tE=>k_is)
  (case tF=>k_is)
  (case nk=>k_is)
  (case wY=>k_is)
  (case wZ=>k_is)
  (case w6=>k_is)
  (case xg=>k_is)
  (case p6=>k_is)
  (case xh=>k_is)
  (case p7=>k_is)
  (case xj=>k_is)
  (case xm=>k_is)
  (case lY=>k_is)
  (case tG=>k_is)
  (case nv=>k_is)
  (case tH=>k_is)
  (case tK=>k_is)
  (case kN=>k_is)
  (case xo=>k_is)
  (case xq=>k_is)
  (case xr=>k_is)
  (case xu=>k_is)
  (case xw=>k_is)
  (case zC=>k_is)
  (case zD=>k_is)
  (case zE=>k_is)
  (case zF=>k_is)
  (case rW=>k_is)
  (case zG=>k_is)
  (case zH=>k_is)
  (case zI=>k_is)
  (case zJ=>k_is)
  (case rX=>k_is)
  (case xx=>k_is)
  (case xA=>k_is)
  (case xB=>k_is)
  (case xC=>k_is)
  (case p8=>k_is)
  (case zK=>k_is)
  (case zL=>k_is)
  (case zM=>k_is)
  (case zN=>k_is)
  (case rY=>k_is)
  (case NF=>k_is)
  (case NH=>k_is)
  (case NI=>k_is)
  (case NJ=>k_is)
  (case Yh=>k_is)
  (case Yi=>k_is)
  (case Yj=>k_is)
  (case Yk=>k_is)
  (case agJ=>k_is)
  (case agK=>k_is)
  (case agL=>k_is)
  (case agM=>k_is)
  (case agN=>k_is)
  (case agO=>k_is)
  (case agP=>k_is)
  (case agQ=>k_is)
  (case Yl=>k_is)
  (case Ym=>k_is)
  (case Yn=>k_is)
  (case Yo=>k_is)
  (case NK=>k_is)
  (case NL=>k_is)
  (case NN=>k_is)
  (case NO=>k_is)
  (case Yp=>k_is)
  (case Yq=>k_is)
  (case Yr=>k_is)
  (case Ys=>k_is)
  (case zO=>k_is)
  (case zP=>k_is)
  (case zQ=>k_is)
  (case zR=>k_is)
  (case zS=>k_is)
  (case Gh=>k_is)
  (case Gi=>k_is)
  (case Gj=>k_is)
  (case Gk=>k_is)
  (case yI=>k_is)
  (case Gm=>k_is)
  (case Gn=>k_is)
  (case Gp=>k_is)
  (case Gq=>k_is)
  (case yJ=>k_is)
  (case tL=>k_is)
  (case tM=>k_is)
  (case tN=>k_is)
  (case tO=>k_is)
  (case ny=>k_is)
  (case xD=>k_is)
  (case xE=>k_is)
  (case xF=>k_is)
  (case xG=>k_is)
  (case p9=>k_is)
  (case Gs=>k_is)
  (case Gu=>k_is)
  (case Gv=>k_is)
  (case Gw=>k_is)
  (case yK=>k_is)
  (case zT=>k_is)
  (case zU=>k_is)
  (case zV=>k_is)
  (case zW=>k_is)
  (case zX=>k_is)
  (case zY=>k_is)
  (case zZ=>k_is)
  (case z6=>k_is)
  (case Cm=>k_is)
  (case Cn=>k_is)
  (case Co=>k_is)
  (case Cq=>k_is)
  (case Gx=>k_is)
  (case Gy=>k_is)
  (case Gz=>k_is)
  (case GA=>k_is)
  (case qL=>k_is)
  (case qM=>k_is)
  (case qN=>k_is)
  (case qO=>k_is)
  (case qP=>k_is)
  (case nX=>k_is)
  (case nY=>k_is)
  (case nZ=>k_is)
  (case n9=>k_is)
  (case kr=>k_is)
  (case oh=>k_is)
  (case oi=>k_is)
  (case oj=>k_is)
  (case om=>k_is)
  (case ku=>k_is)
  (case xH=>k_is)
  (case xJ=>k_is)
  (case xK=>k_is)
  (case xM=>k_is)
  (case qb=>k_is)
  (case JM=>k_is)
  (case JN=>k_is)
  (case JO=>k_is)
  (case JP=>k_is)
  (case z7=>k_is)
  (case z8=>k_is)
  (case z9=>k_is)
  (case Aa=>k_is)
  (case tP=>k_is)
  (case tQ=>k_is)
  (case tR=>k_is)
  (case tS=>k_is)
  (case tT=>k_is)
  (case Cr=>k_is)
  (case Cs=>k_is)
  (case Ct=>k_is)
  (case Cu=>k_is)
  (case Cv=>k_is)
  (case JQ=>k_is)
  (case JR=>k_is)
  (case JS=>k_is)
  (case JT=>k_is)
  (case Cw=>k_is)
  (case JU=>k_is)
  (case JV=>k_is)
  (case JW=>k_is)
  (case JX=>k_is)
  (case Cy=>k_is)
  (case GB=>k_is)
  (case GC=>k_is)
  (case GD=>k_is)
  (case GF=>k_is)
  (case yL=>k_is)
  (case Cz=>k_is)
  (case CA=>k_is)
  (case CB=>k_is)
  (case CC=>k_is)
  (case vt=>k_is)
  (case JY=>k_is)
  (case JZ=>k_is)
  (case J0=>k_is)
  (case J1=>k_is)
  (case CD=>k_is)
  (case NP=>k_is)
  (case NQ=>k_is)
  (case NR=>k_is)
  (case NT=>k_is)
  (case Hw=>k_is)
  (case J2=>k_is)
  (case J3=>k_is)
  (case J4=>k_is)
  (case J5=>k_is)
  (case CF=>k_is)
  (case GG=>k_is)
  (case CG=>k_is)
  (case CH=>k_is)
  (case CI=>k_is)
  (case CJ=>k_is)
  (case vv=>k_is)
  (case Ab=>k_is)
  (case Ac=>k_is)
  (case Ae=>k_is)
  (case Af=>k_is)
  (case rZ=>k_is)
  (case xN=>k_is)
  (case GH=>k_is)
  (case GI=>k_is)
  (case GJ=>k_is)
  (case GK=>k_is)
  (case yM=>k_is)
  (case Ag=>k_is)
  (case Ah=>k_is)
  (case Ai=>k_is)
  (case Aj=>k_is)
  (case r6=>k_is)
  (case tU=>k_is)
  (case tV=>k_is)
  (case tW=>k_is)
  (case tX=>k_is)
  (case nA=>k_is)
  (case qQ=>k_is)
  (case qR=>k_is)
  (case qU=>k_is)
  (case qV=>k_is)
  (case mJ=>k_is)
  (case J6=>k_is)
  (case J7=>k_is)
  (case J8=>k_is)
  (case J9=>k_is)
  (case CK=>k_is)
  (case tY=>k_is)
  (case tZ=>k_is)
  (case t8=>k_is)
  (case ua=>k_is)
  (case nB=>k_is)
  (case qc=>k_is)
  (case qe=>k_is)
  (case qg=>k_is)
  (case qh=>k_is)
  (case lE=>k_is)
  (case oq=>k_is)
  (case ou=>k_is)
  (case ow=>k_is)
  (case oz=>k_is)
  (case kB=>k_is)
  (case qX=>k_is)
  (case qY=>k_is)
  (case qZ=>k_is)
  (case rj=>k_is)
  (case mK=>k_is)
  (case CL=>k_is)
  (case CM=>k_is)
  (case CN=>k_is)
  (case CO=>k_is)
  (case uc=>k_is)
  (case ud=>k_is)
  (case ue=>k_is)
  (case uf=>k_is)
  (case GL=>k_is)
  (case GN=>k_is)
  (case GO=>k_is)
  (case GP=>k_is)
  (case NU=>k_is)
  (case NV=>k_is)
  (case NX=>k_is)
  (case NY=>k_is)
  (case NZ=>k_is)
  (case Oa=>k_is)
  (case Ob=>k_is)
  (case Oc=>k_is)
  (case Od=>k_is)
  (case Oe=>k_is)
  (case Of=>k_is)
  (case Og=>k_is)
  (case GQ=>k_is)
  (case GR=>k_is)
  (case GS=>k_is)
  (case GU=>k_is)
  (case Ka=>k_is)
  (case Kc=>k_is)
  (case Kd=>k_is)
  (case Ke=>k_is)
  (case xO=>k_is)
  (case xP=>k_is)
  (case xQ=>k_is)
  (case xR=>k_is)
  (case Yt=>k_is)
  (case Yu=>k_is)
  (case Yv=>k_is)
  (case Yw=>k_is)
  (case Kf=>k_is)
  (case Kg=>k_is)
  (case Kh=>k_is)
  (case Kl=>k_is)
  (case agR=>k_is)
  (case agS=>k_is)
  (case agT=>k_is)
  (case agU=>k_is)
  (case Oh=>k_is)
  (case Oi=>k_is)
  (case Oj=>k_is)
  (case Ol=>k_is)
  (case Om=>k_is)
  (case Oo=>k_is)
  (case rm=>k_is)
  (case CP=>k_is)
  (case Ud=>k_is)
  (case Ue=>k_is)
  (case Ug=>k_is)
  (case Uh=>k_is)
  (case Ui=>k_is)
  (case Uj=>k_is)
  (case ug=>k_is)
  (case GV=>k_is)
  (case Uk=>k_is)
  (case Ul=>k_is)
  (case Um=>k_is)
  (case Uo=>k_is)
  (case Up=>k_is)
  (case Uq=>k_is)
  (case uh=>k_is)
  (case GW=>k_is)
  (case Oq=>k_is)
  (case Ot=>k_is)
  (case Ou=>k_is)
  (case Ov=>k_is)
  (case Ow=>k_is)
  (case Ox=>k_is)
  (case rz=>k_is)
  (case um=>k_is)
  (case Ak=>k_is)
  (case qi=>k_is)
  (case uo=>k_is)
  (case Yx=>k_is)
  (case Yy=>k_is)
  (case Yz=>k_is)
  (case YA=>k_is)
  (case YB=>k_is)
  (case YC=>k_is)
  (case mU=>k_is)
  (case mV=>k_is)
  (case CQ=>k_is)
  (case CS=>k_is)
  (case Km=>k_is)
  (case Kn=>k_is)
  (case Ko=>k_is)
  (case Kp=>k_is)
  (case Kq=>k_is)
  (case Kr=>k_is)
  (case uq=>k_is)
  (case oA=>k_is)
  (case YD=>k_is)
  (case YE=>k_is)
  (case YF=>k_is)
  (case YG=>k_is)
  (case YH=>k_is)
  (case YI=>k_is)
  (case CU=>k_is)
  (case acI=>k_is)
  (case acJ=>k_is)
  (case acK=>k_is)
  (case acL=>k_is)
  (case acM=>k_is)
  (case acN=>k_is)
  (case GX=>k_is)
  (case xS=>k_is)
  (case lZ=>k_is)
  (case CV=>k_is)
  (case CY=>k_is)
  (case Al=>k_is)
  (case Am=>k_is)
  (case xT=>k_is)
  (case An=>k_is)
  (case xU=>k_is)
  (case xV=>k_is)
  (case ur=>k_is)
  (case Ur=>k_is)
  (case rA=>k_is)
  (case rB=>k_is)
  (case rC=>k_is)
  (case Oz=>k_is)
  (case Ks=>k_exc)
  (case Ku=>k_is)
  (case Kv=>k_is)
  (case Kw=>k_is)
  (case Ky=>k_is)
  (case Kz=>k_is)
  (case KA=>k_is)
  (case KC=>k_is)
  (case KD=>k_is)
  (case KE=>k_is)
  (case GY=>k_exc)
  (case GZ=>k_is)
  (case G0=>k_is)
  (case G1=>k_is)
  (case G2=>k_is)
  (case G3=>k_is)
  (case G4=>k_is)
  (case G5=>k_is)
  (case G6=>k_is)
  (case Ao=>k_is)
  (case CZ=>k_is)
  (case C0=>k_is)
  (case C1=>k_is)
  (case xW=>k_is)
  (case C2=>k_is)
  (case C3=>k_is)
  (case agV=>k_is)
  (case C4=>k_is)
  (case agW=>k_is)
  (case acO=>k_is)
  (case acP=>k_is)
  (case YJ=>k_is)
  (case YK=>k_is)
  (case G7=>k_is)
  (case agX=>k_is)
  (case agY=>k_is)
  (case agZ=>k_is)
  (case ag0=>k_is)
  (case Us=>k_is)
#print axioms PySem.Challenge.cw_knotless_k30_story_of_a_letter_to_all_holds
