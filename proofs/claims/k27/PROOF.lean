import PyProof.Rows.All
import Wide.All
import OpenK.AllK
import Wide.FinOn
import Lean
import PyProof.EqAt
import PyProof.EqKinds
import PyProof.TupleCall
import PySem.Challenge.RW_knotless_k27_net_calls
set_option Elab.async false
set_option linter.all false
set_option maxRecDepth 100000
namespace L2
open PySem PySem.Spec PyProof.Rows
abbrev Key:=Sum Int Str
def keyIs:Key→Value→Bool
  | .inl k,v=>Value.isInt k v
  | .inr x,v=>Value.isStrOf x v
def keyH (w:World):Key→Int
  | .inl k=>hashInt k
  | .inr x=>hashStr w x
theorem keyIs_shape:∀ {k:Key} {v:Value},keyIs k v=true→(∃ i t,k=Sum.inl i∧v=Value.int i t)∨(∃ x t,k=Sum.inr x∧v=Value.str x t)
  | .inl i,v,h=>by
    obtain ⟨t,e⟩:=Value.isInt_shape (k:=i) (v:=v) h
    exact .inl ⟨i,t,rfl,e⟩
  | .inr x,v,h=>by
    obtain ⟨t,e⟩:=Value.isStrOf_shape (x:=x) (v:=v) h
    exact .inr ⟨x,t,rfl,e⟩
theorem key_ll (a b:Int):decide ((Sum.inl a:Key)=Sum.inl b)=(a == b):=by
  by_cases e:a=b
  · subst e; simp
  · have h:¬ (Sum.inl a:Key)=Sum.inl b:=fun q=>e (Sum.inl.inj q)
    rw [decide_eq_false h]
    exact (beq_eq_false_iff_ne.mpr e).symm
theorem key_rr (a b:Str):decide ((Sum.inr a:Key)=Sum.inr b)=decide (a=b):=by
  by_cases e:a=b
  · subst e; simp
  · have h:¬ (Sum.inr a:Key)=Sum.inr b:=fun q=>e (Sum.inr.inj q)
    rw [decide_eq_false h,decide_eq_false e]
theorem key_lr (a:Int) (b:Str):decide ((Sum.inl a:Key)=Sum.inr b)=false:=decide_eq_false (fun q=>nomatch q)
theorem key_rl (a:Str) (b:Int):decide ((Sum.inr a:Key)=Sum.inl b)=false:=decide_eq_false (fun q=>nomatch q)
def mixKind (prog:Program) (w:World):PySem.KeyKind prog w Key where
  is:=keyIs
  hash:=keyH w
  inj:=fun v a b ha hb=>by
    rcases keyIs_shape ha with ⟨i,t,rfl,rfl⟩ | ⟨x,t,rfl,rfl⟩
    · rcases keyIs_shape hb with ⟨j,u,rfl,e⟩ | ⟨y,u,rfl,e⟩
      · injection e with e1 _; rw [e1]
      · exact nomatch e
    · rcases keyIs_shape hb with ⟨j,u,rfl,e⟩ | ⟨y,u,rfl,e⟩
      · exact nomatch e
      · injection e with e1 _; rw [e1]
  byValue:=fun k v h=>by
    rcases keyIs_shape h with ⟨i,t,rfl,rfl⟩ | ⟨x,t,rfl,rfl⟩ <;> rfl
  pyHash:=fun hv h=>by
    rcases keyIs_shape hv with ⟨i,t,rfl,rfl⟩ | ⟨x,t,rfl,rfl⟩
    · exact wpAny_pyHash_int h
    · exact wpAny_pyHash_str h
  eqBool:=fun hu hv h=>by
    rcases keyIs_shape hu with ⟨i,t,rfl,rfl⟩ | ⟨x,t,rfl,rfl⟩
    · rcases keyIs_shape hv with ⟨j,u,rfl,rfl⟩ | ⟨y,u,rfl,rfl⟩
      · rw [key_ll] at h; exact wpAny_eqBool_int h
      · rw [key_lr] at h; exact SeqAt.EqAt.int_str i t y u _ _ _ _ h
    · rcases keyIs_shape hv with ⟨j,u,rfl,rfl⟩ | ⟨y,u,rfl,rfl⟩
      · rw [key_rl] at h; exact SeqAt.EqAt.str_int x t j u _ _ _ _ h
      · rw [key_rr] at h; exact wpAny_eqBool_str h
  «strs»:=fun k x t v h=>by
    rcases keyIs_shape h with ⟨i,u,rfl,e⟩ | ⟨y,u,rfl,e⟩
    · exact nomatch e
    · injection e with e1 _
      subst e1
      cases v <;> rfl
end L2
namespace L2
open PySem PySem.Spec PyProof.Rows
inductive V where
  | non | bl (b:Bool) | int (i:Int) | str (x:Str) | byt (b:Array UInt8) | flt (b:UInt64) | ref (a:Addr) | ty (n:String)
  deriving DecidableEq
def RelV:V→Value→Prop
  | .non,u=>u=Value.none
  | .bl b,u=>u=Value.bool b
  | .int i,u=>∃ t,u=Value.int i t
  | .str x,u=>∃ t,u=Value.str x t
  | .byt b,u=>∃ t,u=Value.bytes b t
  | .flt b,u=>∃ t,u=Value.float b t
  | .ref a,u=>u=Value.ref a
  | .ty n,u=>u=Value.type n
abbrev Vals:List V→List Value→Prop:=Paired RelV
theorem Vals.length {xs:List V} {us:List Value} (r:Vals xs us):xs.length=us.length:=Paired.length r
theorem Vals.get:∀ {xs:List V} {us:List Value} {i:Nat} {x:V},Vals xs us→xs[i]?=some x→∃ u,us[i]?=some u∧RelV x u
  | _,_,_,_,.nil,e=>by simp at e
  | _,_,0,_,.cons r _,e=>by simp at e; subst e; exact ⟨_,rfl,r⟩
  | _,_,i + 1,x,.cons _ t,e=>by
    obtain ⟨u,h1,h2⟩:=Vals.get (i:=i) (x:=x) t (by simpa using e)
    exact ⟨u,by simpa using h1,h2⟩
theorem Vals.set {x:V} {u:Value} (r:RelV x u):∀ {xs:List V} {us:List Value} (i:Nat),Vals xs us→Vals (xs.set i x) (us.set i u)
  | _,_,_,.nil=>.nil
  | _,_,0,.cons _ t=>.cons r t
  | _,_,i + 1,.cons q t=>.cons q (Vals.set r i t)
theorem Vals.append:∀ {xs ys:List V} {us ws:List Value},Vals xs us→Vals ys ws→Vals (xs++ys) (us++ws)
  | _,_,_,_,.nil,s=>s
  | _,_,_,_,.cons r t,s=>.cons r (Vals.append t s)
theorem Vals.take:∀ {xs:List V} {us:List Value} (n:Nat),Vals xs us→Vals (xs.take n) (us.take n)
  | _,_,0,_=>.nil
  | _,_,_ + 1,.nil=>.nil
  | _,_,n + 1,.cons r t=>.cons r (Vals.take n t)
theorem Vals.drop:∀ {xs:List V} {us:List Value} (n:Nat),Vals xs us→Vals (xs.drop n) (us.drop n)
  | _,_,0,r=>r
  | _,_,_ + 1,.nil=>.nil
  | _,_,n + 1,.cons _ t=>Vals.drop n t
def RelO:Option V→Option Value→Prop
  | some v,some u=>RelV v u
  | none,none=>True
  | _,_=>False
def KV {κ:Type}:List (κ × V)→List (κ × Value)→Prop:=Paired fun (p:κ × V) (q:κ × Value)=>p.1=q.1∧RelV p.2 q.2
def kV:Key→V
  | .inl i=>.int i
  | .inr x=>.str x
inductive HO where
  | lst (xs:List V)
  | tup (xs:List V)
  | dK (kvs:List (Key × V)) | dT (kvs:List (List Key × V))
  | set (S:Int→Bool) (n:Nat)
  | ins (C dx:Addr) (fs:List (Str × V))
  | own (x:Addr)
  | xd (fs:List (Str × V))
  | met (f x:Addr)
  | rng (lo hi:Int)
  | frz (o:Obj) (u:HO)
  | tbl (ps:Array Value)
  | ext (φ:Heap→Prop)
abbrev Hp:=Addr→Option HO
def upd (H:Hp) (a:Addr) (o:HO):Hp:=fun b=>if b=a then some o else H b
theorem upd_same {H:Hp} {a:Addr} {o:HO}:upd H a o a=some o:=by unfold upd; rw [if_pos rfl]
theorem upd_ne {H:Hp} {a b:Addr} {o:HO} (h:b≠a):upd H a o b=H b:=by unfold upd; rw [if_neg h]
theorem ne_of {H:Hp} {a b:Addr} {o u:HO} (h:H a=some o) (h':H b=some u) (d:o≠u):a≠b:=by
  intro e; subst e; rw [h] at h'; exact d (Option.some.inj h')
theorem ne_of_none {H:Hp} {a b:Addr} {o:HO} (h:H a=some o) (h':H b=none):a≠b:=by
  intro e; subst e; rw [h] at h'; cases h'
section
variable (P:Program) (w:World)
def ObjOk (H:Hp) (h:Heap) (a:Addr):HO→Prop
  | .lst xs=>xs.length≤sizeLine∧∃ (its:List Value) (n:Nat),Vals xs its∧h.get? a=some { cls:=.type "list",data:=.seq its.toArray n }
  | .tup xs=>xs.length≤sizeLine∧∃ its:List Value,Vals xs its∧IsTup h a its.toArray
  | .dK kvs=>kvs.length≤sizeLine∧(a == sysModules)=false∧∃ vs,KV kvs vs∧h.DictOf (mixKind P w) a vs
  | .dT kvs=>kvs.length≤sizeLine∧(a == sysModules)=false∧∃ xs:List (List Key × Addr × Value),
      Paired (fun (p:List Key × V) (q:List Key × Addr × Value)=>p.1=q.1∧H q.2.1=some (.tup (p.1.map kV))∧RelV p.2 q.2.2) kvs xs ∧
      ∃ o es ep,h.get? a=some o∧o.ExactDict∧o.data = .dict es ep∧es.toList=xs.map (entryOfKey (tupleKind (mixKind P w)))∧(xs.map (·.1)).Nodup
  | .set S n=>h.SetOf (intKind P w) a S n
  | .ins C dx fs=>H dx=some (.own a)∧fs.length≤1000∧dx≠a∧h.get? a=some (PySem.W.instObj C dx) ∧
      ∃ mA,h.Ns1 dx mA∧(∀ f,RelO (fs.lookup f) (mA f))∧PySem.Within mA (fs.map (·.1))
  | .own _=>∃ o,h.get? a=some o
  | .xd fs=>∃ mA,h.Ns1 a mA∧∀ f,RelO (fs.lookup f) (mA f)
  | .rng lo hi=>∃ t u v,h.get? a=some { cls:=.type "range",data:=.fields #[.int lo t,.int hi u,.int 1 v] }
  | .frz o u=>h.get? a=some o∧ObjOk H h a u
  | .tbl ps=>h.get? a=some { cls:=.none,data:=.fields ps }
  | .met f x=>h.get? a=some (PySem.W.methodObj (.ref f) (.ref x))
  | .ext φ=>φ h∧(∃ o,h.get? a=some o)∧∀ h1 h2:Heap,φ h1→(∀ o,h1.get? a=some o→h2.get? a=some o)→φ h2
def HOk (H:Hp) (h:Heap):Prop:=∀ a o,H a=some o→ObjOk P w H h a o
end
section
variable {P:Program} {w:World} {H H':Hp} {h h':Heap} {a:Addr} {o:HO}
theorem ObjOk.lt (x:ObjOk P w H h a o):a < h.objs.size:=by
  cases o with
  | lst xs=>obtain ⟨_,_,_,_,e⟩:=x; exact Heap.lt_size e
  | tup xs=>obtain ⟨_,_,_,p⟩:=x; exact p.lt
  | dK kvs=>obtain ⟨_,_,_,_,o,_,_,e,_⟩:=x; exact Heap.lt_size e
  | dT kvs=>obtain ⟨_,_,_,_,o,_,_,e,_⟩:=x; exact Heap.lt_size e
  | set S n=>obtain ⟨o,_,_,_,e,_⟩:=x; exact Heap.lt_size e
  | ins C dx fs=>obtain ⟨_,_,_,e,_⟩:=x; exact Heap.lt_size e
  | own y=>obtain ⟨_,e⟩:=x; exact Heap.lt_size e
  | xd fs=>obtain ⟨_,⟨_,_,_,e,_⟩,_⟩:=x; exact Heap.lt_size e
  | rng lo hi=>obtain ⟨_,_,_,e⟩:=x; exact Heap.lt_size e
  | frz ob u=>obtain ⟨e,_⟩:=x; exact Heap.lt_size e
  | tbl ps=>exact Heap.lt_size (show h.get? a=some _ from x)
  | met f y=>exact Heap.lt_size (show h.get? a=some _ from x)
  | ext φ=>obtain ⟨_,⟨_,e⟩,_⟩:=x; exact Heap.lt_size e
theorem Paired.mapP {α β:Type} {F G:α→β→Prop}:∀ {l₁:List α} {l₂:List β},Paired F l₁ l₂→(∀ a b,F a b→G a b)→Paired G l₁ l₂
  | _,_,.nil,_=>.nil
  | _,_,.cons r t,f=>.cons (f _ _ r) (Paired.mapP t f)
theorem ObjOk.stay (x:ObjOk P w H h a o) (k:∀ b u,(b=a∨H b=some (.own a))→h.get? b=some u→h'.get? b=some u)
    (ho:∀ b,H b=some (.own a)→H' b=some (.own a)) (ht:∀ b xs,H b=some (.tup xs)→H' b=some (.tup xs)):ObjOk P w H' h' a o:=by
  induction o with
  | lst xs=>obtain ⟨z,its,n,r,e⟩:=x; exact ⟨z,its,n,r,k _ _ (.inl rfl) e⟩
  | tup xs=>obtain ⟨z,its,r,ob,e,c⟩:=x; exact ⟨z,its,r,ob,k _ _ (.inl rfl) e,c⟩
  | dK kvs=>obtain ⟨z,y,vs,r,ob,es,ep,e,c⟩:=x; exact ⟨z,y,vs,r,ob,es,ep,k _ _ (.inl rfl) e,c⟩
  | dT kvs =>
    obtain ⟨z,y,xs,r,ob,es,ep,e,c⟩:=x
    exact ⟨z,y,xs,Paired.mapP r fun p q z=>⟨z.1,ht _ _ z.2.1,z.2.2⟩,ob,es,ep,k _ _ (.inl rfl) e,c⟩
  | set S n=>obtain ⟨ob,es,ep,t,e,c⟩:=x; exact ⟨ob,es,ep,t,k _ _ (.inl rfl) e,c⟩
  | ins C dx fs =>
    obtain ⟨d,z,ne,e,mA,⟨od,es,ep,e2,c⟩,r⟩:=x
    exact ⟨ho _ d,z,ne,k _ _ (.inl rfl) e,mA,⟨od,es,ep,k _ _ (.inr d) e2,c⟩,r⟩
  | own y=>obtain ⟨ob,e⟩:=x; exact ⟨ob,k _ _ (.inl rfl) e⟩
  | xd fs=>obtain ⟨mA,⟨od,es,ep,e,c⟩,r⟩:=x; exact ⟨mA,⟨od,es,ep,k _ _ (.inl rfl) e,c⟩,r⟩
  | rng lo hi=>obtain ⟨t,u,v,e⟩:=x; exact ⟨t,u,v,k _ _ (.inl rfl) e⟩
  | frz ob u ih=>obtain ⟨e,q⟩:=x; exact ⟨k _ _ (.inl rfl) e,ih q⟩
  | tbl ps =>
    have e:h.get? a=some { cls:=.none,data:=.fields ps }:=x
    show h'.get? a=some { cls:=.none,data:=.fields ps }
    exact k a _ (.inl rfl) e
  | met f y =>
    have e:h.get? a=some (PySem.W.methodObj (.ref f) (.ref y)):=x
    show h'.get? a=some (PySem.W.methodObj (.ref f) (.ref y))
    exact k a _ (.inl rfl) e
  | ext φ=>obtain ⟨p,⟨o,e⟩,st⟩:=x; exact ⟨st _ _ p fun o q=>k _ _ (.inl rfl) q,⟨o,k _ _ (.inl rfl) e⟩,st⟩
theorem HOk.lt (x:HOk P w H h) (e:H a=some o):a < h.objs.size:=(x a o e).lt
theorem HOk.fresh (x:HOk P w H h) (e:h.objs.size≤a):H a=none:=by
  cases q:H a with
  | none=>rfl
  | some u=>exact absurd (Nat.lt_of_lt_of_le (x.lt q) e) (Nat.lt_irrefl _)
theorem HOk.kept (x:HOk P w H h) (k:∀ b u,h.get? b=some u→h'.get? b=some u):HOk P w H h':=fun a o e =>
  (x a o e).stay (fun b u _ q=>k b u q) (fun _ q=>q) fun _ _ q=>q
theorem HOk.laid (x:HOk P w H h) (k:∀ b u,h.get? b=some u→h'.get? b=some u) (hp:h.objs.size≤a) (new:ObjOk P w (upd H a o) h' a o):HOk P w (upd H a o) h':=fun b u e=>by
  have hn:=x.fresh hp
  by_cases hb:b=a
  · subst hb; rw [upd_same] at e; cases e; exact new
  · rw [upd_ne hb] at e
    exact (x b u e).stay (fun c v _ q=>k c v q) (fun c q=>by rw [upd_ne (ne_of_none q hn)]; exact q) fun c xs q=>by rw [upd_ne (ne_of_none q hn)]; exact q
end
def Rd (H:Hp) (a:Addr) (u:HO):Prop:=H a=some u∨∃ o,H a=some (.frz o u)
theorem Rd.ok {P:Program} {w:World} {H:Hp} {h:Heap} {a:Addr} {u:HO} (r:Rd H a u) (x:HOk P w H h):ObjOk P w H h a u:=by
  rcases r with r | ⟨o,r⟩
  · exact x a u r
  · obtain ⟨_,q⟩:=x a _ r
    exact q
def Mut:Option HO→Prop
  | some (.lst _)=>True
  | some (.dK _)=>True
  | some (.dT _)=>True
  | some (.set _ _)=>True
  | some (.ins _ _ _)=>True
  | some (.ext _)=>True
  | _=>False
section
variable {P:Program} {w:World} {H:Hp} {h h':Heap} {x e:Addr} {o':HO}
theorem HOk.write (ok:HOk P w H h) (mu:Mut (H x)) (he:e=x∨H e=some (.own x)) (k:∀ b u,b≠e→h.get? b=some u→h'.get? b=some u) (heo:∃ u,h'.get? e=some u)
    (new:ObjOk P w (upd H x o') h' x o'):HOk P w (upd H x o') h':=fun b u q=>by
  have nown:∀ c y,H c=some (.own y)→c≠x:=fun c y r z=>by subst z; rw [r] at mu; exact mu
  have ntup:∀ c xs,H c=some (.tup xs)→c≠x:=fun c xs r z=>by subst z; rw [r] at mu; exact mu
  by_cases hb:b=x
  · subst hb; rw [upd_same] at q; cases q; exact new
  · rw [upd_ne hb] at q
    by_cases hbe:b=e
    · have q':H b=some (.own x):=by
        rcases he with z | z
        · exact absurd (hbe.trans z) hb
        · rw [hbe]; exact z
      rw [q] at q'; cases q'
      obtain ⟨v,hv⟩:=heo
      exact ⟨v,by rw [hbe]; exact hv⟩
    · refine (ok b u q).stay (fun c v hc r=>k c v ?_ r) (fun c r=>by rw [upd_ne (nown c b r)]; exact r) fun c xs r=>by rw [upd_ne (ntup c xs r)]; exact r
      rcases hc with rfl | hc
      · exact hbe
      · rintro rfl
        rcases he with z | z
        · exact nown c b hc z
        · rw [hc] at z; cases z; exact hb rfl
end
structure Un (fs ex:List Addr) (H H':Hp) (h h':Heap):Prop where
  keep:∀ b o,h.get? b=some o→H b=none→b ∉ fs→b ∉ ex→h'.get? b=some o
  slot:∀ b o,h.get? b=some o→H b=none→b∈fs→b ∉ ex→∃ sl,h'.get? b=some { o with slots:=sl }
  free:∀ b o,h.get? b=some o→H b=none→b ∉ ex→H' b=none
  there:∀ b o,h.get? b=some o→b ∉ ex→∃ o',h'.get? b=some o'
  tups:∀ b xs,H b=some (.tup xs)→H' b=some (.tup xs)
  frzs:∀ b o u,H b=some (.frz o u)→H' b=some (.frz o u)
  tbls:∀ b ps,H b=some (.tbl ps)→∃ more,H' b=some (.tbl (ps++more))
section
variable {fs fs' ex ex':List Addr} {H H1 H2:Hp} {h h1 h2 h':Heap} {a x e:Addr} {o:HO}
theorem Un.any (u:Un fs ex H H1 h h1) {b:Addr} {ob:Obj} (q:h.get? b=some ob) (n:H b=none) (hx:b ∉ ex):∃ sl,h1.get? b=some { ob with slots:=sl }:=by
  by_cases hb:b∈fs
  · exact u.slot b ob q n hb hx
  · exact ⟨ob.slots,u.keep b ob q n hb hx⟩
theorem Un.trans (a:Un fs ex H H1 h h1) (b:Un fs ex H1 H2 h1 h2):Un fs ex H H2 h h2 where
  keep:=fun c ob q n hc hx=>b.keep c ob (a.keep c ob q n hc hx) (a.free c ob q n hx) hc hx
  slot:=fun c ob q n hc hx=>by
    obtain ⟨sl,e1⟩:=a.slot c ob q n hc hx
    obtain ⟨sl',e2⟩:=b.slot c _ e1 (a.free c ob q n hx) hc hx
    exact ⟨sl',e2⟩
  free:=fun c ob q n hx=>by
    obtain ⟨o',e1⟩:=a.there c ob q hx
    exact b.free c o' e1 (a.free c ob q n hx) hx
  there:=fun c ob q hx=>by
    obtain ⟨o',e1⟩:=a.there c ob q hx
    exact b.there c o' e1 hx
  tups:=fun c xs q=>b.tups c xs (a.tups c xs q)
  frzs:=fun c ob xs q=>b.frzs c ob xs (a.frzs c ob xs q)
  tbls:=fun c ps q=>by
    obtain ⟨m1,e1⟩:=a.tbls c ps q
    obtain ⟨m2,e2⟩:=b.tbls c _ e1
    exact ⟨m1++m2,by rw [e2,Array.append_assoc]⟩
theorem Un.kept (k:∀ b u,h.get? b=some u→h'.get? b=some u):Un fs ex H H h h' :=
  ⟨fun b ob q _ _ _=>k b ob q,fun b ob q _ _ _=>⟨ob.slots,k b ob q⟩,fun _ _ _ n _=>n,fun b ob q _=>⟨ob,k b ob q⟩,fun _ _ q=>q,fun _ _ _ q=>q,fun _ ps q=>⟨#[],by rw [q]; simp⟩⟩
theorem Un.refl:Un fs ex H H h h:=Un.kept fun _ _ q=>q
theorem Un.laid (k:∀ b u,h.get? b=some u→h'.get? b=some u) (hp:h.objs.size≤a) (hn:H a=none):Un fs ex H (upd H a o) h h' where
  keep:=fun b u q _ _ _=>k b u q
  slot:=fun b u q _ _ _=>⟨u.slots,k b u q⟩
  free:=fun b u q n _=>by rw [upd_ne (Nat.ne_of_lt (Nat.lt_of_lt_of_le (Heap.lt_size q) hp))]; exact n
  there:=fun b u q _=>⟨u,k b u q⟩
  tups:=fun b xs q=>by rw [upd_ne (ne_of_none q hn)]; exact q
  frzs:=fun b u xs q=>by rw [upd_ne (ne_of_none q hn)]; exact q
  tbls:=fun b ps q=>⟨#[],by rw [upd_ne (ne_of_none q hn),q]; simp⟩
theorem Un.write (mu:Mut (H x)) (he:e=x∨H e=some (.own x)) (k:∀ b u,b≠e→h.get? b=some u→h'.get? b=some u) (heo:∃ u,h'.get? e=some u):Un fs ex H (upd H x o) h h':=by
  have hx:∀ b,H b=none→b≠x:=fun b n z=>by subst z; rw [n] at mu; exact mu
  have hb:∀ b,H b=none→b≠e:=fun b n z=>by
    subst z
    rcases he with r | r
    · exact hx b n r
    · rw [n] at r; cases r
  have hm:∀ b u,H b=some u→¬ Mut (some u)→b≠x:=fun b u q nm z=>by subst z; rw [q] at mu; exact nm mu
  refine ⟨fun b u q n _ _=>k b u (hb b n) q,fun b u q n _ _=>⟨u.slots,k b u (hb b n) q⟩,fun b u q n _=>by rw [upd_ne (hx b n)]; exact n,fun b u q _=>?_,
    fun b xs q=>by rw [upd_ne (hm b _ q fun z=>z)]; exact q,fun b u xs q=>by rw [upd_ne (hm b _ q fun z=>z)]; exact q,fun b ps q=>⟨#[],by rw [upd_ne (hm b _ q fun z=>z),q]; simp⟩⟩
  by_cases hbe:b=e
  · subst hbe; exact heo
  · exact ⟨u,k b u hbe q⟩
end
def trk (h:Heap) (H:Hp):List Addr:=(List.range h.objs.size).filter fun a=>(H a).isSome
def hidT (h:Heap) (H:Hp):Heap:=PySem.W.hideAll h (trk h H)
theorem hidT_size (h:Heap) (H:Hp):(hidT h H).objs.size=h.objs.size:=PySem.W.hideAll_size _ _
theorem hidT_get {h:Heap} {H:Hp} {b:Addr} {o:Obj} (e:h.get? b=some o) (n:H b=none):(hidT h H).get? b=some o :=
  PySem.W.hideAll_get _ e fun hm=>by
    have q:(H b).isSome=true:=(List.mem_filter.mp hm).2
    rw [n] at q; simp at q
theorem of_hidT {h:Heap} {H:Hp} {b:Addr} {o:Obj} (e:(hidT h H).get? b=some o):h.get? b=some o∧H b=none:=by
  have e':h.get? b=some o:=PySem.W.of_hideAll (trk h H) e
  refine ⟨e',?_⟩
  cases q:H b with
  | none=>rfl
  | some x =>
    have hm:b∈trk h H:=List.mem_filter.mpr ⟨List.mem_range.mpr (Heap.lt_size e'),by simp [q]⟩
    have z:(hidT h H).get? b=none:=PySem.W.hideAll_none (trk h H) hm
    rw [z] at e; cases e
def allNews (g h:Heap) (L:Addr):List (Addr × Obj):=(List.range h.objs.size).filterMap fun a=>if a=L∨(g.get? a).isSome=true then none else (h.get? a).map fun o=>(a,o)
theorem mem_allNews {g h:Heap} {L a:Addr} {o:Obj} (h1:a≠L) (h2:g.get? a=none) (h3:h.get? a=some o):(a,o)∈allNews g h L :=
  List.mem_filterMap.mpr ⟨a,List.mem_range.mpr (Heap.lt_size h3),by simp [h1,h2,h3]⟩
theorem of_mem_allNews {g h:Heap} {L:Addr} {p:Addr × Obj} (hp:p∈allNews g h L):p.1≠L∧g.get? p.1=none∧h.get? p.1=some p.2:=by
  obtain ⟨b,_,e⟩:=List.mem_filterMap.mp hp
  split at e
  · cases e
  · rename_i hn
    cases q:h.get? b with
    | none=>rw [q] at e; simp at e
    | some u =>
      rw [q] at e
      simp only [Option.map_some,Option.some.injEq] at e
      subst e
      refine ⟨fun z=>hn (.inl z),?_,q⟩
      show g.get? b=none
      cases r:g.get? b with
      | none=>rfl
      | some v=>exact (hn (.inr (by simp [r]))).elim
def rest (g h:Heap) (L d:Addr):List (Addr × Obj):=(allNews g h L).filter fun p=>decide (p.1≠d)
theorem news_all {g h:Heap} {L:Addr}:News g L h (allNews g h L):=fun p hp=>let ⟨a,b,c⟩:=of_mem_allNews hp; ⟨c,a,b⟩
end L2
namespace L2
open PySem PySem.Spec PyProof.Rows
structure Mod (K:PySem.W.Frag) (mg:Str→Option Value) (base:Heap):Prop where
  kin:K.In base
  glob:base.Ns mainGlobals mg
  blt:∃ mb,base.Ns builtinsNs mb∧∀ x:Str,x≠"__name__" → mb x=bootBuiltins x
  nolimit:base.NoLimit
structure Cx where
  prog:Program
  w:World
  K:PySem.W.Frag
  mg:Str→Option Value
  base:Heap
  A:Around
  N:List Str
  s₀:Shared
  H₀:Hp
  env:Env
  outer:List Env
  stack:List Env
  ex:List Addr
  fn:Str→Bool
  calm:Bool
  pn:List (Addr × Obj)
  xe:Value→Shared→Prop
def frs (l:List Env):List Addr:=l.filterMap (·.frame)
abbrev Cx.fs (X:Cx):List Addr:=frs X.outer
def Vis (sc:Scope) (x:Str):Prop:=sc.names.lookup x=some .local∨sc.names.lookup x=some .cell∨sc.names.lookup x=some .free
def Loc (sc:Scope) (x:Str):Prop:=sc.names.lookup x=some .local∨sc.names.lookup x=some .cell
def Look (env:Env) (h:Heap) (m:Str→Option Value) (x:Str) (u:Value):Prop :=
  (env.kindOf x=some .local∧m x=some u)∨((env.kindOf x=some .cell∨env.kindOf x=some .free)∧∃ c,env.cells.lookup x=some c∧h.IsCell c (some u))
structure Cx.Ok (X:Cx):Prop where
  mod:Mod X.K X.mg X.base
  kind:X.env.scope.kind = .function
  glob:X.env.globals=mainGlobals
  blt:X.env.builtins=builtinsNs
  above:X.s₀.heap.objs.size≤X.env.locals
  inj:∀ x y c,X.env.cells.lookup x=some c→X.env.cells.lookup y=some c→x=y
  has:∀ x,(X.env.kindOf x=some .cell∨X.env.kindOf x=some .free)→∃ c,X.env.cells.lookup x=some c
  cab:∀ x c,X.fn x=true→X.env.cells.lookup x=some c→X.s₀.heap.objs.size≤c
  hd:X.calm=true→X.A.handled=none
  frames:X.A.frames=some X.stack
  stk:X.stack=X.outer∨(X.stack=X.env :: X.outer∧X.env.frame=some X.env.locals)
  exf:∀ b∈X.ex,b≠X.env.locals∧∀ x c,X.env.cells.lookup x=some c→c≠b
  bs:∀ b o,X.base.get? b=some o→X.s₀.heap.get? b=some o∧X.H₀ b=none
  bsz:X.base.objs.size≤X.s₀.heap.objs.size
  noex:∀ b o,X.base.get? b=some o→b ∉ X.ex
  exfs:∀ b∈X.ex,b ∉ X.fs
  funs:X.s₀.heap.FunFrames X.base X.outer
  frf:∀ b∈X.fs,X.H₀ b=none
structure Inv (X:Cx) (pins:List (Addr × Obj)) (σ:List (Option V)) (H:Hp) (s:Shared):Prop where
  ok:X.Ok
  os:s.os=X.s₀.os
  bare:AllBare s.gens
  base:Un X.fs X.ex X.H₀ H X.s₀.heap s.heap
  loc:∃ m,s.heap.Ns X.env.locals m∧∀ (i:Nat) (x:Str) (v:V),X.N[i]?=some x→σ[i]?=some (some v)→Vis X.env.scope x→∃ u,RelV v u∧Look X.env s.heap m x u
  cell:∀ x c,X.env.cells.lookup x=some c→∃ v,s.heap.IsCell c v
  free:H X.env.locals=none
  freeC:∀ x c,X.env.cells.lookup x=some c→H c=none
  pin:∀ p∈X.pn++pins,s.heap.get? p.1=some p.2∧H p.1=none∧p.1≠X.env.locals∧p.1 ∉ X.fs∧∀ v,p.2.data≠.cell v
  hok:HOk X.prog X.w H s.heap
  len:σ.length=X.N.length
section
variable {X:Cx} {pins:List (Addr × Obj)} {σ:List (Option V)} {H H':Hp} {s:Shared} {h':Heap}
theorem Cx.Ok.nofr (ok:X.Ok) {b:Addr} {o:Obj} (e:X.base.get? b=some o):b ∉ X.fs:=fun hb=>by
  have:=(ok.funs.mem hb).1
  rw [e] at this; cases this
theorem Inv.bs (I:Inv X pins σ H s):∀ b o,X.base.get? b=some o→s.heap.get? b=some o∧H b=none:=fun b o e =>
  ⟨I.base.keep b o (I.ok.bs b o e).1 (I.ok.bs b o e).2 (I.ok.nofr e) (I.ok.noex b o e),I.base.free b o (I.ok.bs b o e).1 (I.ok.bs b o e).2 (I.ok.noex b o e)⟩
theorem Inv.bk (I:Inv X pins σ H s):∀ b o,X.base.get? b=some o→s.heap.get? b=some o:=fun b o e=>(I.bs b o e).1
theorem Inv.mod (I:Inv X pins σ H s):Mod X.K X.mg X.base:=I.ok.mod
theorem Inv.kIn (I:Inv X pins σ H s):X.K.In s.heap:=I.ok.mod.kin.keeps I.bk
theorem Inv.fr (I:Inv X pins σ H s):∃ m,Fr X.base X.env.locals s.heap m :=
  let ⟨m,hn,_⟩:=I.loc
  ⟨m,hn,I.bk,Nat.le_trans I.ok.bsz I.ok.above⟩
theorem Inv.lt (I:Inv X pins σ H s):X.env.locals < s.heap.objs.size:=let ⟨_,hn,_⟩:=I.loc; hn.lt
theorem Inv.sz (I:Inv X pins σ H s):X.s₀.heap.objs.size≤s.heap.objs.size:=Nat.le_trans I.ok.above (Nat.le_of_lt I.lt)
theorem Inv.nofs (I:Inv X pins σ H s) {a:Addr} (h:s.heap.objs.size≤a):a ∉ X.fs:=fun hb=>by
  obtain ⟨_,o,ho,_⟩:=I.ok.funs.mem hb
  exact absurd (Nat.lt_of_lt_of_le (Heap.lt_size ho) (Nat.le_trans I.sz h)) (Nat.lt_irrefl _)
theorem Inv.cne (I:Inv X pins σ H s):∀ x c,X.env.cells.lookup x=some c→c≠X.env.locals:=fun x c e z=>by
  obtain ⟨v,o,ho,hd⟩:=I.cell x c e
  obtain ⟨m,⟨o',es,ep,ho',hd',_⟩,_⟩:=I.loc
  rw [z,ho'] at ho; cases ho; rw [hd'] at hd; cases hd
theorem Inv.funs (I:Inv X pins σ H s):s.heap.FunFrames X.base X.outer:=by
  have all:∀ (l:List Env),(∀ b∈frs l,b∈X.fs)→X.s₀.heap.FunFrames X.base l→s.heap.FunFrames X.base l:=by
    intro l
    induction l with
    | nil=>intro _ _; trivial
    | cons env r ih =>
      intro hs hl
      obtain ⟨hk,⟨L,o,hf,hn,ho,hd⟩,hr⟩:=hl
      have hL:L∈X.fs:=hs L (by unfold frs; rw [List.filterMap_cons,hf]; exact List.mem_cons_self)
      obtain ⟨sl,e⟩:=I.base.slot L o ho (I.ok.frf L hL) hL fun z=>I.ok.exfs L z hL
      exact ⟨hk,⟨L,_,hf,hn,e,hd⟩,ih (fun b hb=>hs b (by unfold frs; rw [List.filterMap_cons,hf]; exact List.mem_cons_of_mem _ hb)) hr⟩
  exact all X.outer (fun _ hb=>hb) I.ok.funs
theorem Inv.stack (I:Inv X pins σ H s):s.heap.FunFrames X.base X.stack:=by
  rcases I.ok.stk with e | ⟨e,hf⟩
  · rw [e]; exact I.funs
  · rw [e]
    obtain ⟨m,hn,_⟩:=I.loc
    refine .cons (by rw [I.ok.kind]; decide) hf hn ?_ I.funs
    exact Heap.get?_none_of_le (Nat.le_trans I.ok.bsz I.ok.above)
theorem Inv.stkSub (I:Inv X pins σ H s):∀ b∈frs X.stack,b∈X.env.locals :: X.fs:=fun b hb=>by
  rcases I.ok.stk with e | ⟨e,hf⟩
  · rw [e] at hb; exact List.mem_cons_of_mem _ hb
  · rw [e] at hb
    unfold frs at hb
    rw [List.filterMap_cons,hf] at hb
    exact hb
theorem Inv.stkFree (I:Inv X pins σ H s):∀ b∈frs X.stack,H b=none:=fun b hb=>by
  rcases List.mem_cons.mp (I.stkSub b hb) with e | hb
  · rw [e]; exact I.free
  · obtain ⟨_,o,ho,_⟩:=I.ok.funs.mem hb
    exact I.base.free b o ho (I.ok.frf b hb) fun z=>I.ok.exfs b z hb
theorem Inv.step {g':Array GenState} {t':Nat} {d':Drawn} {ch:List Addr} (I:Inv X pins σ H s)
    (hch:∀ b∈ch,(b∈X.ex∨X.s₀.heap.objs.size≤b)∧b≠X.env.locals∧(∀ x c,X.env.cells.lookup x=some c→c≠b)∧∀ p∈X.pn++pins,p.1≠b)
    (keep:∀ b o,b≠X.env.locals→b ∉ X.fs→b ∉ ch→s.heap.get? b=some o→H b=none→h'.get? b=some o)
    (slot:∀ b o,b≠X.env.locals→b∈X.fs→b ∉ ch→s.heap.get? b=some o→H b=none→∃ sl,h'.get? b=some { o with slots:=sl }) (free:∀ b o,b ∉ ch→s.heap.get? b=some o→H b=none→H' b=none)
    (there:∀ b o,b ∉ ch→s.heap.get? b=some o→∃ o',h'.get? b=some o')
    (tups:∀ b xs,H b=some (.tup xs)→H' b=some (.tup xs)) (frzs:∀ b o u,H b=some (.frz o u)→H' b=some (.frz o u)) (tbls:∀ b ps,H b=some (.tbl ps)→∃ more,H' b=some (.tbl (ps++more)))
    (ns:∀ m,s.heap.Ns X.env.locals m→h'.Ns X.env.locals m) (hok:HOk X.prog X.w H' h') (hg:AllBare g') :
    Inv X pins σ H' { s with heap:=h',gens:=g',drawn:=d',toks:=t' }:=by
  have neL:∀ b o,X.s₀.heap.get? b=some o→b≠X.env.locals:=fun b o e=>Nat.ne_of_lt (Nat.lt_of_lt_of_le (Heap.lt_size e) I.ok.above)
  have neC:∀ b o,X.s₀.heap.get? b=some o→b ∉ X.ex→b ∉ ch:=fun b o e hx hb=>by
    rcases (hch b hb).1 with z | z
    · exact hx z
    · exact absurd (Nat.lt_of_lt_of_le (Heap.lt_size e) z) (Nat.lt_irrefl _)
  have cellK:∀ x c,X.env.cells.lookup x=some c→∀ v,s.heap.IsCell c v→h'.IsCell c v:=fun x c e v ⟨o,ho,hd⟩=>by
    have nch:c ∉ ch:=fun z=>(hch c z).2.2.1 x c e rfl
    by_cases hc:c∈X.fs
    · obtain ⟨sl,q⟩:=slot c o (I.cne x c e) hc nch ho (I.freeC x c e)
      exact ⟨_,q,hd⟩
    · exact ⟨o,keep c o (I.cne x c e) hc nch ho (I.freeC x c e),hd⟩
  refine ⟨I.ok,I.os,hg,⟨fun b o e n hb hx=>?_,fun b o e n hb hx=>?_,fun b o e n hx=>?_,fun b o e hx=>?_,fun b xs e=>tups b xs (I.base.tups b xs e),fun b o xs e=>frzs b o xs (I.base.frzs b o xs e),fun b ps e=>?_⟩,?_,fun x c e=>?_,?_,fun x c e=>?_,fun p hp=>?_,hok,I.len⟩
  · exact keep b o (neL b o e) hb (neC b o e hx) (I.base.keep b o e n hb hx) (I.base.free b o e n hx)
  · obtain ⟨sl,e1⟩:=I.base.slot b o e n hb hx
    obtain ⟨sl',e2⟩:=slot b _ (neL b o e) hb (neC b o e hx) e1 (I.base.free b o e n hx)
    exact ⟨sl',e2⟩
  · obtain ⟨o',e1⟩:=I.base.there b o e hx
    exact free b o' (neC b o e hx) e1 (I.base.free b o e n hx)
  · obtain ⟨o',e1⟩:=I.base.there b o e hx
    exact there b o' (neC b o e hx) e1
  · obtain ⟨m1,e1⟩:=I.base.tbls b ps e
    obtain ⟨m2,e2⟩:=tbls b _ e1
    exact ⟨m1++m2,by rw [e2,Array.append_assoc]⟩
  · obtain ⟨m,hn,hl⟩:=I.loc
    refine ⟨m,ns m hn,fun i x v e1 e2 e3=>?_⟩
    obtain ⟨u,r,l⟩:=hl i x v e1 e2 e3
    refine ⟨u,r,?_⟩
    rcases l with l | ⟨k,c,e,z⟩
    · exact .inl l
    · exact .inr ⟨k,c,e,cellK x c e _ z⟩
  · obtain ⟨v,z⟩:=I.cell x c e
    exact ⟨v,cellK x c e v z⟩
  · obtain ⟨m,⟨o,_,_,ho,_⟩,_⟩:=I.loc
    exact free _ o (fun z=>(hch _ z).2.1 rfl) ho I.free
  · obtain ⟨v,o,ho,hd⟩:=I.cell x c e
    exact free c o (fun z=>(hch c z).2.2.1 x c e rfl) ho (I.freeC x c e)
  · obtain ⟨e,n,ne,nf,d⟩:=I.pin p hp
    have nch:p.1 ∉ ch:=fun z=>(hch p.1 z).2.2.2 p hp rfl
    exact ⟨keep p.1 p.2 ne nf nch e n,free p.1 p.2 nch e n,ne,nf,d⟩
theorem Inv.un {t':Nat} (I:Inv X pins σ H s) (u:Un X.fs [] H H' s.heap h') (hok:HOk X.prog X.w H' h'):Inv X pins σ H' { s with heap:=h',toks:=t' }:=by
  obtain ⟨m,⟨o,es,ep,ho,r⟩,_⟩:=id I.loc
  obtain ⟨sl,hL⟩:=u.any ho I.free (by simp)
  exact I.step (g':=s.gens) (d':=s.drawn) (ch:=[]) (fun _ z=>nomatch z) (fun b o _ hb _ e n=>u.keep b o e n hb (by simp)) (fun b o _ hb _ e n=>u.slot b o e n hb (by simp)) (fun b o _ e n=>u.free b o e n (by simp)) (fun b o _ e=>u.there b o e (by simp)) u.tups u.frzs u.tbls (fun m' hm=>by
    obtain ⟨o',es',ep',ho',r'⟩:=hm
    rw [ho] at ho'; cases ho'
    exact ⟨_,es',ep',hL,r'⟩) hok I.bare
theorem Inv.call {g':Array GenState} {t':Nat} {d':Drawn} {ch:List Addr} (I:Inv X pins σ H s) (u:Un (frs X.stack) ch H H' s.heap h') (hok:HOk X.prog X.w H' h') (hg:AllBare g')
    (hch:∀ b∈ch,(b∈X.ex∨X.s₀.heap.objs.size≤b)∧b≠X.env.locals∧(∀ x c,X.env.cells.lookup x=some c→c≠b)∧∀ p∈X.pn++pins,p.1≠b) :
    Inv X pins σ H' { s with heap:=h',gens:=g',drawn:=d',toks:=t' }:=by
  obtain ⟨m,⟨o,es,ep,ho,r⟩,_⟩:=id I.loc
  obtain ⟨sl,hL⟩:=u.any ho I.free fun z=>(hch _ z).2.1 rfl
  exact I.step (ch:=ch) hch (fun b o hL hb hc e n=>u.keep b o e n (fun z=>(List.mem_cons.mp (I.stkSub b z)).elim hL hb) hc) (fun b o _ _ hc e n=>u.any e n hc) (fun b o hc e n=>u.free b o e n hc) (fun b o hc e=>u.there b o e hc) u.tups u.frzs u.tbls (fun m' hm=>by
    obtain ⟨o',es',ep',ho',r'⟩:=hm
    rw [ho] at ho'; cases ho'
    exact ⟨_,es',ep',hL,r'⟩) hok hg
theorem Inv.turned {t':Nat} {it:Addr} (I:Inv X pins σ H s) (k:∀ b o,b≠it→s.heap.get? b=some o→h'.get? b=some o) (hn:H it=none) (hL:it≠X.env.locals)
    (h1:it∈X.ex∨X.s₀.heap.objs.size≤it) (h2:∀ x c,X.env.cells.lookup x=some c→c≠it) (h3:∀ p∈X.pn++pins,p.1≠it):Inv X pins σ H { s with heap:=h',toks:=t' }:=by
  have nit:∀ b u,H b=some u→b≠it:=fun b u e z=>by rw [z,hn] at e; cases e
  refine I.step (g':=s.gens) (d':=s.drawn) (ch:=[it]) (fun b hb=>?_) (fun b o _ _ hc e _=>k b o (fun z=>hc (by simp [z])) e) (fun b o _ _ hc e _=>⟨o.slots,k b o (fun z=>hc (by simp [z])) e⟩) (fun _ _ _ _ n=>n)
    (fun b o hc e=>⟨o,k b o (fun z=>hc (by simp [z])) e⟩) (fun _ _ e=>e) (fun _ _ _ e=>e) (fun b ps e=>⟨#[],by rw [e]; simp⟩) (fun m hm=>?_) (fun b u e=>?_) I.bare
  · have e:b=it:=by simpa using hb
    subst e
    exact ⟨h1,hL,h2,h3⟩
  · obtain ⟨o,es,ep,ho,r⟩:=hm
    exact ⟨o,es,ep,k _ o (Ne.symm hL) ho,r⟩
  · refine (I.hok b u e).stay (fun c v hc q=>k c v ?_ q) (fun _ q=>q) fun _ _ q=>q
    rcases hc with z | z
    · rw [z]; exact nit b u e
    · exact nit c _ z
theorem Inv.tok (I:Inv X pins σ H s) (t:Nat):Inv X pins σ H { s with toks:=t }:=I.un (h':=s.heap) (t':=t) Un.refl I.hok
theorem Inv.kept {t':Nat} (I:Inv X pins σ H s) (k:∀ b u,s.heap.get? b=some u→h'.get? b=some u):Inv X pins σ H { s with heap:=h',toks:=t' }:=I.un (Un.kept k) (I.hok.kept k)
theorem Inv.laid {a:Addr} {o:HO} {t':Nat} (I:Inv X pins σ H s) (k:∀ b u,s.heap.get? b=some u→h'.get? b=some u) (hp:s.heap.objs.size≤a) (new:ObjOk X.prog X.w (upd H a o) h' a o) :
    Inv X pins σ (upd H a o) { s with heap:=h',toks:=t' }:=I.un (Un.laid k hp (I.hok.fresh hp)) (I.hok.laid k hp new)
theorem Inv.write {x e:Addr} {o:HO} {t':Nat} (I:Inv X pins σ H s) (mu:Mut (H x)) (he:e=x∨H e=some (.own x)) (k:∀ b u,b≠e→s.heap.get? b=some u→h'.get? b=some u) (heo:∃ u,h'.get? e=some u)
    (new:ObjOk X.prog X.w (upd H x o) h' x o):Inv X pins σ (upd H x o) { s with heap:=h',toks:=t' }:=I.un (Un.write mu he k heo) (I.hok.write mu he k heo new)
theorem Inv.pins_of {pins':List (Addr × Obj)} (I:Inv X pins σ H s) (h:∀ p∈pins',s.heap.get? p.1=some p.2∧H p.1=none∧p.1≠X.env.locals∧p.1 ∉ X.fs∧∀ v,p.2.data≠.cell v):Inv X pins' σ H s :=
  ⟨I.ok,I.os,I.bare,I.base,I.loc,I.cell,I.free,I.freeC,fun p hp=>(List.mem_append.mp hp).elim (fun z=>I.pin p (List.mem_append_left _ z)) (h p),I.hok,I.len⟩
theorem nodup_ix {N:List Str} (hN:N.Nodup) {i j:Nat} {x:Str} (a:N[i]?=some x) (b:N[j]?=some x):i=j:=by
  obtain ⟨h1,e1⟩:=List.getElem?_eq_some_iff.mp a
  obtain ⟨h2,e2⟩:=List.getElem?_eq_some_iff.mp b
  exact (List.getElem_inj hN).mp (e1.trans e2.symm)
theorem store_ok2 {M:Model} {A:Around} {E:Value→Shared→Prop} {i:Nat} {x:Str} {v:V} {u:Value} {Q:Unit→Shared→Prop} (I:Inv X pins σ H s) (hN:X.N.Nodup) (hi:X.N[i]?=some x) (hx:Loc X.env.scope x) (r:RelV v u)
    (h:∀ s',Inv X pins (σ.set i (some v)) H s'→(∃ a,Heap.SameBut a s.heap s'.heap∧(a=X.env.locals∨X.env.cells.lookup x=some a))→Q () s') (hf:X.fn x=true∨X.env.scope.names.lookup x=some .local:=by first | exact .inl rfl | exact .inr rfl | assumption):wpAny M A (storeName X.env x u) Q E s:=by
  obtain ⟨m,hn,hl⟩:=id I.loc
  have hcls:(X.env.scope.kind == .class || (X.env.scope.kind == .module && X.env.locals != X.env.globals))=false:=by rw [I.ok.kind]; rfl
  have hiσ:i < σ.length:=by rw [I.len]; exact (List.getElem?_eq_some_iff.mp hi).1
  have cne:=I.cne
  have tracked:∀ {a:Addr} {h':Heap},(∃ o,s.heap.get? a=some o∧H a=none)→Heap.SameBut a s.heap h'→HOk X.prog X.w H h':=fun {a h'} ha hs b ob e=>by
    obtain ⟨_,_,hfree⟩:=ha
    refine (I.hok b ob e).stay (fun c w' hc q=>(hs.2 c ?_).trans q) (fun _ q=>q) fun _ _ q=>q
    rintro rfl
    rcases hc with rfl | hc
    · rw [hfree] at e; cases e
    · rw [hfree] at hc; cases hc
  rcases hx with hk | hk
  · refine wpAny_storeName_local hk hn (fun h' hn' hs=>?_) hcls
    obtain ⟨oL,_,_,hoL,_⟩:=id hn
    refine h _ ⟨I.ok,I.os,I.bare,⟨fun b o e n hb hx=>?_,fun b o e n hb hx=>?_,I.base.free,fun b o e hx=>?_,I.base.tups,I.base.frzs,I.base.tbls⟩,⟨_,hn',fun j y v' e1 e2 e3=>?_⟩,fun y c e=>?_,I.free,I.freeC,fun p hp=>?_,tracked ⟨oL,hoL,I.free⟩ hs,by simpa using I.len⟩ ⟨_,hs,.inl rfl⟩
    · exact (hs.2 b (Nat.ne_of_lt (Nat.lt_of_lt_of_le (Heap.lt_size e) I.ok.above))).trans (I.base.keep b o e n hb hx)
    · obtain ⟨sl,e1⟩:=I.base.slot b o e n hb hx
      exact ⟨sl,(hs.2 b (Nat.ne_of_lt (Nat.lt_of_lt_of_le (Heap.lt_size e) I.ok.above))).trans e1⟩
    · obtain ⟨o',e1⟩:=I.base.there b o e hx
      exact ⟨o',(hs.2 b (Nat.ne_of_lt (Nat.lt_of_lt_of_le (Heap.lt_size e) I.ok.above))).trans e1⟩
    · by_cases hj:j=i
      · subst hj
        rw [hi] at e1; cases e1
        rw [List.getElem?_set_self hiσ] at e2
        cases e2
        exact ⟨u,r,.inl ⟨hk,by simp⟩⟩
      · rw [List.getElem?_set_ne (Ne.symm hj)] at e2
        obtain ⟨u',r',q⟩:=hl j y v' e1 e2 e3
        refine ⟨u',r',?_⟩
        rcases q with ⟨k,e⟩ | ⟨k,c,e,z⟩
        · refine .inl ⟨k,?_⟩
          have:y≠x:=fun e=>hj (nodup_ix hN e1 (e ▸ hi))
          simp [this,e]
        · exact .inr ⟨k,c,e,z.sameBut hs (cne y c e)⟩
    · obtain ⟨w',z⟩:=I.cell y c e
      exact ⟨w',z.sameBut hs (cne y c e)⟩
    · obtain ⟨e,n,ne,nf,d⟩:=I.pin p hp
      exact ⟨(hs.2 p.1 ne).trans e,n,ne,nf,d⟩
  · have hfn:X.fn x=true:=by
      rcases hf with z | z
      · exact z
      · rw [z] at hk; cases hk
    obtain ⟨c,hc⟩:=I.ok.has x (.inl hk)
    obtain ⟨w',z⟩:=I.cell x c hc
    refine wpAny_storeName_cell I.ok.kind hk hc z (fun h' hc' hs=>?_)
    obtain ⟨oc,hoc,hocd⟩:=id z
    refine h { s with heap:=h' } ⟨I.ok,I.os,I.bare,⟨fun b o e n hb hx=>?_,fun b o e n hb hx=>?_,I.base.free,fun b o e hx=>?_,I.base.tups,I.base.frzs,I.base.tbls⟩,⟨m,hn.sameBut hs (Ne.symm (cne x c hc)),fun j y v' e1 e2 e3=>?_⟩,fun y c' e=>?_,I.free,I.freeC,fun p hp=>?_,tracked ⟨oc,hoc,I.freeC x c hc⟩ hs,by simpa using I.len⟩ ⟨c,hs,.inr hc⟩
    · exact (hs.2 b (Nat.ne_of_lt (Nat.lt_of_lt_of_le (Heap.lt_size e) (I.ok.cab x c hfn hc)))).trans (I.base.keep b o e n hb hx)
    · obtain ⟨sl,e1⟩:=I.base.slot b o e n hb hx
      exact ⟨sl,(hs.2 b (Nat.ne_of_lt (Nat.lt_of_lt_of_le (Heap.lt_size e) (I.ok.cab x c hfn hc)))).trans e1⟩
    · obtain ⟨o',e1⟩:=I.base.there b o e hx
      exact ⟨o',(hs.2 b (Nat.ne_of_lt (Nat.lt_of_lt_of_le (Heap.lt_size e) (I.ok.cab x c hfn hc)))).trans e1⟩
    · by_cases hj:j=i
      · subst hj
        rw [hi] at e1; cases e1
        rw [List.getElem?_set_self hiσ] at e2
        cases e2
        exact ⟨u,r,.inr ⟨.inl hk,c,hc,hc'⟩⟩
      · rw [List.getElem?_set_ne (Ne.symm hj)] at e2
        obtain ⟨u',r',q⟩:=hl j y v' e1 e2 e3
        refine ⟨u',r',?_⟩
        rcases q with q | ⟨k,c',e,z'⟩
        · exact .inl q
        · refine .inr ⟨k,c',e,z'.sameBut hs ?_⟩
          rintro rfl
          exact hj (nodup_ix hN e1 (I.ok.inj _ _ _ e hc ▸ hi))
    · by_cases hcc:c'=c
      · subst hcc; exact ⟨_,hc'⟩
      · obtain ⟨w2,z2⟩:=I.cell y c' e
        exact ⟨w2,z2.sameBut hs hcc⟩
    · obtain ⟨e,n,ne,nf,d⟩:=I.pin p hp
      refine ⟨(hs.2 p.1 ?_).trans e,n,ne,nf,d⟩
      intro q
      rw [q,hoc] at e
      have q':oc=p.2:=Option.some.inj e
      exact d w' (by rw [← q']; exact hocd)
theorem store_ok {M:Model} {A:Around} {E:Value→Shared→Prop} {i:Nat} {x:Str} {v:V} {u:Value} {Q:Unit→Shared→Prop} (I:Inv X pins σ H s) (hN:X.N.Nodup) (hi:X.N[i]?=some x) (hx:Loc X.env.scope x) (r:RelV v u)
    (h:∀ s',Inv X pins (σ.set i (some v)) H s'→Q () s') (hf:X.fn x=true∨X.env.scope.names.lookup x=some .local:=by first | exact .inl rfl | exact .inr rfl | assumption):wpAny M A (storeName X.env x u) Q E s :=
  store_ok2 I hN hi hx r (fun s' I' _=>h s' I') hf
theorem Inv.call' {s':Shared} {ch:List Addr} (I:Inv X pins σ H s) (ho:s'.os=s.os) (u:Un (frs X.stack) ch H H' s.heap s'.heap) (hok:HOk X.prog X.w H' s'.heap) (hg:AllBare s'.gens)
    (hch:∀ b∈ch,(b∈X.ex∨X.s₀.heap.objs.size≤b)∧b≠X.env.locals∧(∀ x c,X.env.cells.lookup x=some c→c≠b)∧∀ p∈X.pn++pins,p.1≠b):Inv X pins σ H' s':=by
  obtain ⟨h',g',d',t',o'⟩:=s'
  have e:o'=s.os:=ho
  subst e
  exact I.call (g':=g') (t':=t') (d':=d') u hok hg hch
end
abbrev XK:=Value→Option Addr→Hp→Prop
abbrev St:=List (Option V)
abbrev VK:=V→Hp→Prop
abbrev TE:=St→Hp→VK→Prop
abbrev TT:=St→Hp→(Bool→Hp→Prop)→Prop
abbrev TA:=St→Hp→(List V→Hp→Prop)→Prop
structure Ends where
  nx:St→Hp→Prop
  rt:VK
  bk:St→Hp→Prop:=fun _ _=>False
  ct:St→Hp→Prop:=fun _ _=>False
abbrev TS:=Ends→St→Hp→Prop
def EP (X:Cx) (pins:List (Addr × Obj)) (σ:St) (Q:VK) (u:Value) (s':Shared):Prop:=∃ v H',Inv X pins σ H' s'∧RelV v u∧Q v H'
def TP (X:Cx) (pins:List (Addr × Obj)) (σ:St) (Q:Bool→Hp→Prop) (b:Bool) (s':Shared):Prop:=∃ H',Inv X pins σ H' s'∧Q b H'
def AP (X:Cx) (pins:List (Addr × Obj)) (σ:St) (Q:List V→Hp→Prop) (us:List Value) (s':Shared):Prop:=∃ vs H',Inv X pins σ H' s'∧Vals vs us∧Q vs H'
def SP (X:Cx) (pins:List (Addr × Obj)) (D:Ends) (f:Flow) (s':Shared):Prop :=
  match f with
  | .next=>∃ σ' H',Inv X pins σ' H' s'∧D.nx σ' H'
  | .brk=>∃ σ' H',Inv X pins σ' H' s'∧D.bk σ' H'
  | .cont=>∃ σ' H',Inv X pins σ' H' s'∧D.ct σ' H'
  | .ret u=>∃ v σ' H',Inv X pins σ' H' s'∧RelV v u∧D.rt v H'
def PE (X:Cx) (e:Expr) (t:TE):Prop :=
  ∀ (pins:List (Addr × Obj)) (s:Shared) (σ:St) (H:Hp) (Q:VK),Inv X pins σ H s→t σ H Q→wpAny (model X.prog X.w) X.A (eval e X.env) (EP X pins σ Q) X.xe s
def PT (X:Cx) (e:Expr) (t:TT):Prop :=
  ∀ (pins:List (Addr × Obj)) (s:Shared) (σ:St) (H:Hp) (Q:Bool→Hp→Prop),Inv X pins σ H s→t σ H Q→wpAny (model X.prog X.w) X.A (isTrue e X.env (eval e X.env)) (TP X pins σ Q) X.xe s
def PW (X:Cx) (e:Expr) (t:TT):Prop :=
  ∀ (whole:Sem Value) (pins:List (Addr × Obj)) (s:Shared) (σ:St) (H:Hp) (Q:Bool→Hp→Prop),Inv X pins σ H s→t σ H Q→wpAny (model X.prog X.w) X.A (isTrue e X.env whole) (TP X pins σ Q) X.xe s
theorem PW.pt {X:Cx} {e:Expr} {t:TT} (h:PW X e t):PT X e t:=h _
def PA (X:Cx) (es:List Expr) (t:TA):Prop :=
  ∀ (pos:Pos) (pins:List (Addr × Obj)) (s:Shared) (σ:St) (H:Hp) (Q:List V→Hp→Prop),Inv X pins σ H s→t σ H Q→wpAny (model X.prog X.w) X.A (spliced (backTo pos (starEach es X.env))) (AP X pins σ Q) X.xe s
def PS (X:Cx) (st:Stmt) (t:TS):Prop :=
  ∀ (pins:List (Addr × Obj)) (s:Shared) (σ:St) (H:Hp) (D:Ends),Inv X pins σ H s→t D σ H→wpAny (model X.prog X.w) X.A (exec st X.env) (SP X pins D) X.xe s
def PSs (X:Cx) (st:List Stmt) (t:TS):Prop :=
  ∀ (pins:List (Addr × Obj)) (s:Shared) (σ:St) (H:Hp) (D:Ends),Inv X pins σ H s→t D σ H→wpAny (model X.prog X.w) X.A (execs st X.env) (SP X pins D) X.xe s
theorem thn {α:Type} {t:Sem α} {Q Q':α→Shared→Prop} {M:Model} {A:Around} {E:Value→Shared→Prop} {s:Shared} (h:wpAny M A t Q E s) (hQ:∀ a s,Q a s→Q' a s):wpAny M A t Q' E s:=wpAny_mono h hQ fun _ _ x=>x
end L2
namespace L2
open PySem PySem.Spec PyProof.Rows
section
variable {X:Cx}
def tVar (i:Nat):TE:=fun σ H Q=>∃ v,σ[i]?=some (some v)∧Q v H
def tC (v:V):TE:=fun _ H Q=>Q v H
theorem pe_var {i:Nat} {x:Str} {pos:Pos} (hN:X.N[i]?=some x) (hv:Vis X.env.scope x) (hd:(x == ("__debug__" : Str))=false:=by decide) (hcd:(x == ("__classdict__" : Str))=false:=by decide):PE X (.Name x pos) (tVar i):=by
  intro pins s σ H Q I h
  obtain ⟨v,e,h⟩:=h
  obtain ⟨m,hn,hl⟩:=I.loc
  obtain ⟨u,r,l⟩:=hl i x v hN e hv
  have fin:EP X pins σ Q u s:=⟨v,H,I,r,h⟩
  rcases l with ⟨hk,hm⟩ | ⟨hk,c,hc,hcell⟩
  · exact wpAny_Name (wpAny_loadName_local I.ok.kind hk hn hm fin) hd
  · rcases hk with hk | hk
    · exact wpAny_Name (wpAny_loadName_cell I.ok.kind hk hc hcell fin) hd
    · exact wpAny_Name (wpAny_loadName_free I.ok.kind hk hc hcell fin hcd) hd
theorem pe_int {i j pos}:PE X (.Constant (.int i) j pos) (tC (.int i)):=fun _ _ _ H _ I h=>wpAny_Constant_int ⟨.int i,H,I.tok _,⟨_,rfl⟩,h⟩
theorem pe_bl {b j pos}:PE X (.Constant (.bool b) j pos) (tC (.bl b)):=fun _ _ _ H _ I h=>Constant_bool ⟨.bl b,H,I,rfl,h⟩
theorem pe_non {j pos}:PE X (.Constant .none j pos) (tC .non):=fun _ _ _ H _ I h=>Constant_none ⟨.non,H,I,rfl,h⟩
theorem pe_str {x j pos}:PE X (.Constant (.str x) j pos) (tC (.str x)):=fun _ _ _ H _ I h=>Calls.Constant_str ⟨.str x,H,I.tok _,⟨_,rfl⟩,h⟩
def Gl (X:Cx) (x:Str):Prop:=X.env.kindOf x=some .globalImplicit
theorem ld_glob {E:Value→Shared→Prop} {pins:List (Addr × Obj)} {s:Shared} {σ:St} {H:Hp} {x:Str} {u:Value} {pos:Pos} {Q:Value→Shared→Prop} (I:Inv X pins σ H s) (hg:Gl X x) (hm:X.mg x=some u) (h:Q u s)
    (hd:(x == ("__debug__" : Str))=false:=by decide):wpAny (model X.prog X.w) X.A (eval (.Name x pos) X.env) Q E s :=
  Calls.Name_function_global I.ok.kind hg (Calls.loadGlobal_global (by rw [I.ok.glob]; exact I.mod.glob.keeps I.bk) hm h) hd
theorem ld_blt {E:Value→Shared→Prop} {pins:List (Addr × Obj)} {s:Shared} {σ:St} {H:Hp} {x:Str} {u:Value} {pos:Pos} {Q:Value→Shared→Prop} (I:Inv X pins σ H s) (hg:Gl X x) (hm:X.mg x=none) (hv:bootBuiltins x=some u) (h:Q u s)
    (hn:x≠"__name__" := by decide) (hd:(x == ("__debug__" : Str))=false:=by decide):wpAny (model X.prog X.w) X.A (eval (.Name x pos) X.env) Q E s:=by
  obtain ⟨mb,h1,h2⟩:=I.mod.blt
  exact Calls.Name_function_global I.ok.kind hg (Calls.loadGlobal_builtin (by rw [I.ok.glob]; exact I.mod.glob.keeps I.bk) hm (by rw [I.ok.blt]; exact h1.keeps I.bk) ((h2 x hn).trans hv) h) hd
theorem pe_glob {x:Str} {v:V} {u:Value} {pos:Pos} (hg:Gl X x) (hm:X.mg x=some u) (r:RelV v u) (hd:(x == ("__debug__" : Str))=false:=by decide):PE X (.Name x pos) (tC v) :=
  fun _ _ _ H _ I h=>ld_glob I hg hm ⟨v,H,I,r,h⟩ hd
theorem pe_bltn {x:Str} {v:V} {u:Value} {pos:Pos} (hg:Gl X x) (hm:X.mg x=none) (hv:bootBuiltins x=some u) (r:RelV v u) (hn:x≠"__name__" := by decide) (hd:(x == ("__debug__" : Str))=false:=by decide):PE X (.Name x pos) (tC v) :=
  fun _ _ _ H _ I h=>ld_blt I hg hm hv ⟨v,H,I,r,h⟩ hn hd
variable {a b:Expr} {ta tb:TE} {pos:Pos}
def tB (t:TE):TT:=fun σ H Q=>t σ H fun x H1=>∃ c,x = .bl c∧Q c H1
theorem pt_val {e:Expr} {t:TE} (h:PE X e t) (he:∀ whole,isTrue e X.env whole=(do let v ← whole; standAt e.pos; holding [v] (truthy v)):=by intro _; rfl):PT X e (tB t):=by
  intro pins s σ H Q I hw
  refine isTrue_plain (thn (h pins s σ H _ I hw) fun v s1 ⟨x,H1,I1,r1,q1⟩=>?_) (he _)
  obtain ⟨d,rfl,q⟩:=q1
  cases r1
  exact wpAny_truthy_bool ⟨H1,I1,q⟩
variable {tA tB':TT} {rest:List Expr}
def tAnd (t u:TT):TT:=fun σ H Q=>t σ H fun c H1=>if c=true then u σ H1 Q else Q false H1
def tOr (t u:TT):TT:=fun σ H Q=>t σ H fun c H1=>if c=true then Q true H1 else u σ H1 Q
def tNot (t:TT):TT:=fun σ H Q=>t σ H fun c H1=>Q (!c) H1
theorem pw_and1 (ha:PT X a tA):PW X (.BoolOp .And [a] pos) tA:=by
  intro wh pins s σ H Q I h
  refine isTrue_and (thn (ha pins s σ H Q I h) fun c s1 e=>?_)
  cases c with
  | true=>exact isTrue_and_nil e
  | false=>exact e
theorem pw_or1 (ha:PT X a tA):PW X (.BoolOp .Or [a] pos) tA:=by
  intro wh pins s σ H Q I h
  refine isTrue_or (thn (ha pins s σ H Q I h) fun c s1 e=>?_)
  cases c with
  | false=>exact isTrue_or_nil e
  | true=>exact e
theorem pw_and (ha:PT X a tA) (hb:PW X (.BoolOp .And (b :: rest) pos) tB'):PW X (.BoolOp .And (a :: b :: rest) pos) (tAnd tA tB'):=by
  intro wh pins s σ H Q I h
  refine isTrue_and (thn (ha pins s σ H _ I h) fun c s1 ⟨H1,I1,q1⟩=>?_)
  cases c with
  | true=>exact hb wh pins s1 σ H1 Q I1 q1
  | false=>exact ⟨H1,I1,q1⟩
theorem pw_or (ha:PT X a tA) (hb:PW X (.BoolOp .Or (b :: rest) pos) tB'):PW X (.BoolOp .Or (a :: b :: rest) pos) (tOr tA tB'):=by
  intro wh pins s σ H Q I h
  refine isTrue_or (thn (ha pins s σ H _ I h) fun c s1 ⟨H1,I1,q1⟩=>?_)
  cases c with
  | true=>exact ⟨H1,I1,q1⟩
  | false=>exact hb wh pins s1 σ H1 Q I1 q1
theorem pt_not (ha:PT X a tA):PT X (.UnaryOp .Not a pos) (tNot tA):=by
  intro pins s σ H Q I h
  exact isTrue_not (ha pins s σ H (fun c H1=>Q (!c) H1) I h)
def tAndV (ta tb:TE):TE:=fun σ H Q=>ta σ H fun x H1=>∃ c,x = .bl c∧if c=true then tb σ H1 Q else Q (.bl false) H1
def tNotV (ta:TE):TE:=fun σ H Q=>ta σ H fun x H1=>∃ c,x = .bl c∧Q (.bl (!c)) H1
theorem pe_one {op} {t:TE} (h:PE X a t):PE X (.BoolOp op [a] pos) t:=fun pins s σ H Q I hw=>BoolOp_one (h pins s σ H Q I hw)
theorem pe_and (ha:PE X a ta) (hb:PE X (.BoolOp .And (b :: rest) pos) tb):PE X (.BoolOp .And (a :: b :: rest) pos) (tAndV ta tb):=by
  intro pins s σ H Q I h
  refine BoolOp_and (thn (ha pins s σ H _ I h) fun v s1 ⟨x,H1,I1,r1,q1⟩=>?_)
  obtain ⟨c,rfl,q1⟩:=q1
  cases r1
  refine wpAny_truthy_bool ?_
  cases c with
  | true=>exact hb pins s1 σ H1 Q I1 q1
  | false=>exact ⟨.bl false,H1,I1,rfl,q1⟩
theorem pe_not (ha:PE X a ta):PE X (.UnaryOp .Not a pos) (tNotV ta):=by
  intro pins s σ H Q I h
  refine UnaryOp_ (thn (ha pins s σ H _ I h) fun v s1 ⟨x,H1,I1,r1,q1⟩=>?_)
  obtain ⟨c,rfl,q1⟩:=q1
  cases r1
  exact not_of (wpAny_truthy_bool ⟨.bl (!c),H1,I1,rfl,q1⟩)
def tIf (t:TT) (ta tb:TE):TE:=fun σ H Q=>t σ H fun c H1=>if c=true then ta σ H1 Q else tb σ H1 Q
theorem pe_ifExp {c:Expr} (hc:PT X c tA) (ha:PE X a ta) (hb:PE X b tb):PE X (.IfExp c a b pos) (tIf tA ta tb):=by
  intro pins s σ H Q I h
  refine wpAny_IfExp (thn (hc pins s σ H _ I h) fun d s1 ⟨H1,I1,q1⟩=>?_)
  cases d with
  | true=>exact ha pins s1 σ H1 Q I1 q1
  | false=>exact hb pins s1 σ H1 Q I1 q1
end
end L2
namespace L2
open PySem PySem.Spec PyProof.Rows
def SqL (K:PySem.W.Frag) (H:Hp) (a:Addr) (xs:List V):Prop :=
  Rd H a (.lst xs) ∨
    ∃ (o:Obj) (its:Array Value) (n:Nat),K.lookup a=some o∧o.cls = .type "list" ∧ o.dict=none∧o.data = .seq its n∧its.size≤sizeLine∧Vals xs its.toList
def SqT (K:PySem.W.Frag) (H:Hp) (a:Addr) (xs:List V):Prop :=
  Rd H a (.tup xs) ∨
    ∃ (o:Obj) (its:Array Value) (n:Nat),K.lookup a=some o∧o.cls = .type "tuple" ∧ o.data = .seq its n∧its.size≤sizeLine∧Vals xs its.toList
def absV:Value→Option V
  | .none=>some .non
  | .bool b=>some (.bl b)
  | .int i _=>some (.int i)
  | .str x _=>some (.str x)
  | .bytes b _=>some (.byt b)
  | .float b _=>some (.flt b)
  | .ref a=>some (.ref a)
  | .type n=>some (.ty n)
  | _=>none
theorem RelV.abs {x:V} {u:Value} (r:RelV x u):absV u=some x:=by
  cases x with
  | non=>cases r; rfl
  | bl _=>cases r; rfl
  | int _=>obtain ⟨t,rfl⟩:=r; rfl
  | str _=>obtain ⟨t,rfl⟩:=r; rfl
  | byt _=>obtain ⟨t,rfl⟩:=r; rfl
  | flt _=>obtain ⟨t,rfl⟩:=r; rfl
  | ref _=>cases r; rfl
  | ty _=>cases r; rfl
theorem RelV.inj {x y:V} {u:Value} (r:RelV x u) (q:RelV y u):x=y:=Option.some.inj (r.abs.symm.trans q.abs)
theorem Vals.inj:∀ {xs ys:List V} {us:List Value},Vals xs us→Vals ys us→xs=ys
  | _,_,_,.nil,.nil=>rfl
  | _,_,_,.cons r t,.cons r' t'=>by rw [r.inj r',Vals.inj t t']
section
variable {X:Cx} {pins:List (Addr × Obj)} {σ:St} {H:Hp} {s:Shared} {a:Addr} {xs ys:List V}
theorem SqL.of {K:PySem.W.Frag} (h:H a=some (.lst xs)):SqL K H a xs:=.inl (.inl h)
theorem SqT.of {K:PySem.W.Frag} (h:H a=some (.tup xs)):SqT K H a xs:=.inl (.inl h)
theorem Inv.list (I:Inv X pins σ H s) (h:SqL X.K H a xs):∃ its:List Value,Vals xs its∧PlainL s.heap a its.toArray∧xs.length≤sizeLine:=by
  rcases h with h | ⟨o,its,n,hk,hc,hd,hs,hz,r⟩
  · obtain ⟨z,its,n,r,e⟩:=h.ok I.hok
    exact ⟨its,r,⟨_,n,e,rfl,rfl,rfl⟩,z⟩
  · refine ⟨its.toList,r,⟨o,n,I.kIn a o hk,hc,hd,by simpa using hs⟩,?_⟩
    have e:=r.length
    simp only [Array.length_toList] at e
    omega
theorem Inv.tuple (I:Inv X pins σ H s) (h:SqT X.K H a xs):∃ its:List Value,Vals xs its∧IsTup s.heap a its.toArray∧xs.length≤sizeLine:=by
  rcases h with h | ⟨o,its,n,hk,hc,hs,hz,r⟩
  · obtain ⟨z,its,r,p⟩:=h.ok I.hok
    exact ⟨its,r,p,z⟩
  · refine ⟨its.toList,r,⟨o,I.kIn a o hk,hc,n,by simpa using hs⟩,?_⟩
    have e:=r.length
    simp only [Array.length_toList] at e
    omega
theorem Inv.list_inj (I:Inv X pins σ H s) (h:SqL X.K H a xs) (h':SqL X.K H a ys):xs=ys:=by
  obtain ⟨its,r,⟨o,n,e,_,_,d⟩,_⟩:=I.list h
  obtain ⟨its',r',⟨o',n',e',_,_,d'⟩,_⟩:=I.list h'
  rw [e] at e'; cases e'
  rw [d] at d'
  injection d' with d1 _
  have:its=its':=by simpa using congrArg Array.toList d1
  subst this
  exact r.inj r'
theorem Inv.tuple_inj (I:Inv X pins σ H s) (h:SqT X.K H a xs) (h':SqT X.K H a ys):xs=ys:=by
  obtain ⟨its,r,⟨o,e,_,n,d⟩,_⟩:=I.tuple h
  obtain ⟨its',r',⟨o',e',_,n',d'⟩,_⟩:=I.tuple h'
  rw [e] at e'; cases e'
  rw [d] at d'
  injection d' with d1 _
  have:its=its':=by simpa using congrArg Array.toList d1
  subst this
  exact r.inj r'
end
abbrev Cx.wish (X:Cx) (E:Value→Shared→Prop):Cx:={ X with xe:=E }
abbrev Cx.nox (X:Cx):Cx:=X.wish fun _ _=>False
theorem Cx.Ok.wish {X:Cx} (ok:X.Ok) (E:Value→Shared→Prop):(X.wish E).Ok :=
  ⟨ok.mod,ok.kind,ok.glob,ok.blt,ok.above,ok.inj,ok.has,ok.cab,ok.hd,ok.frames,ok.stk,ok.exf,ok.bs,ok.bsz,ok.noex,ok.exfs,ok.funs,ok.frf⟩
theorem Cx.Ok.unwish {X:Cx} {E:Value→Shared→Prop} (ok:(X.wish E).Ok):X.Ok :=
  ⟨ok.mod,ok.kind,ok.glob,ok.blt,ok.above,ok.inj,ok.has,ok.cab,ok.hd,ok.frames,ok.stk,ok.exf,ok.bs,ok.bsz,ok.noex,ok.exfs,ok.funs,ok.frf⟩
section
variable {X:Cx} {pins:List (Addr × Obj)} {σ:St} {H:Hp} {s:Shared} {E:Value→Shared→Prop}
theorem Inv.wish (I:Inv X pins σ H s) (E:Value→Shared→Prop):Inv (X.wish E) pins σ H s:=⟨I.ok.wish E,I.os,I.bare,I.base,I.loc,I.cell,I.free,I.freeC,I.pin,I.hok,I.len⟩
theorem Inv.unwish (I:Inv (X.wish E) pins σ H s):Inv X pins σ H s:=⟨I.ok.unwish,I.os,I.bare,I.base,I.loc,I.cell,I.free,I.freeC,I.pin,I.hok,I.len⟩
theorem SP.unwish {D:Ends} {f:Flow} {s':Shared} (h:SP (X.wish E) pins D f s'):SP X pins D f s':=by
  cases f with
  | next=>obtain ⟨σ',H',I,q⟩:=h; exact ⟨σ',H',I.unwish,q⟩
  | brk=>obtain ⟨σ',H',I,q⟩:=h; exact ⟨σ',H',I.unwish,q⟩
  | cont=>obtain ⟨σ',H',I,q⟩:=h; exact ⟨σ',H',I.unwish,q⟩
  | ret u=>obtain ⟨v,σ',H',I,r,q⟩:=h; exact ⟨v,σ',H',I.unwish,r,q⟩
theorem PSs.nox {st:List Stmt} {t:TS} (h:PSs X.nox st t):PSs X st t:=fun pins s σ H D I hw =>
  wpAny_mono (h pins s σ H D (I.wish _) hw) (fun _ _ q=>q.unwish) fun _ _ z=>False.elim z
end
section
variable {X:Cx} {st:Stmt} {rest:List Stmt} {t u:TS} {e:Expr} {te:TE} {pos:Pos}
def tNext:TS:=fun D σ H=>D.nx σ H
def tSeq (t u:TS):TS:=fun D σ H=>t { D with nx:=u D } σ H
theorem pss_nil:PSs X [] tNext:=fun _ _ σ H _ I h=>wpAny_execs_nil ⟨σ,H,I,h⟩
theorem pss_cons (h1:PS X st t) (h2:PSs X rest u):PSs X (st :: rest) (tSeq t u):=by
  intro pins s σ H D I h
  refine wpAny_execs_cons (thn (h1 pins s σ H { D with nx:=u D } I h) fun f s1 q=>?_)
  cases f with
  | next =>
    obtain ⟨σ',H',I',q⟩:=q
    exact h2 pins s1 σ' H' D I' q
  | ret v=>exact q
  | brk=>exact q
  | cont=>exact q
theorem pss_one (h1:PS X st t):PSs X [st] t:=by
  intro pins s σ H D I h
  refine wpAny_execs_cons (thn (h1 pins s σ H D I h) fun f s1 q=>?_)
  cases f with
  | next=>exact wpAny_execs_nil q
  | ret v=>exact q
  | brk=>exact q
  | cont=>exact q
theorem Inv.quiet {pins:List (Addr × Obj)} {σ:St} {H:Hp} {s:Shared} (I:Inv X pins σ H s):interactive X.env=false:=by simp [interactive,I.ok.kind]
def tDrop (te:TE):TS:=fun D σ H=>te σ H fun _ H1=>D.nx σ H1
theorem ps_expr (he:PE X e te) (hs:swapsWith e none pos.line X.env=pure false:=by rfl):PS X (.Expr e pos) (tDrop te):=by
  intro pins s σ H D I h
  exact wpAny_Expr_any (thn (he pins s σ H _ I h) fun v s1 ⟨x,H1,I1,r1,q1⟩=>⟨σ,H1,I1,q1⟩) I.quiet hs
def tRet (te:TE):TS:=fun D σ H=>te σ H D.rt
theorem ps_ret (he:PE X e te):PS X (.Return (some e) pos) (tRet te):=by
  intro pins s σ H D I h
  exact wpAny_Return_some (thn (he pins s σ H _ I h) fun v s1 ⟨x,H1,I1,r1,q1⟩=>⟨x,σ,H1,I1,r1,q1⟩)
def tIfS (c:TT) (t u:TS):TS:=fun D σ H=>c σ H fun b H1=>if b=true then t D σ H1 else u D σ H1
theorem ps_if {c:Expr} {a b:List Stmt} {tc:TT} (hc:PT X c tc) (ha:PSs X a t) (hb:PSs X b u):PS X (.If c a b pos) (tIfS tc t u):=by
  intro pins s σ H D I h
  refine wpAny_If (thn (hc pins s σ H _ I h) fun d s1 ⟨H1,I1,q1⟩=>?_)
  cases d with
  | true=>exact ha pins s1 σ H1 D I1 q1
  | false=>exact hb pins s1 σ H1 D I1 q1
def tNever:TS:=fun _ _ _=>False
theorem pss_never {sts:List Stmt}:PSs X sts tNever:=fun _ _ _ _ _ _ h=>h.elim
end
abbrev TG:=V→St→Hp→(St→Hp→Prop)→Prop
abbrev TGs:=List V→St→Hp→(St→Hp→Prop)→Prop
def PG (X:Cx) (target:Expr) (t:TG):Prop :=
  ∀ (pins:List (Addr × Obj)) (s:Shared) (σ:St) (H:Hp) (v:V) (u:Value) (Q:St→Hp→Prop),Inv X pins σ H s→RelV v u→t v σ H Q →
    wpAny (model X.prog X.w) X.A (assign target X.env u) (fun _ s'=>∃ σ' H',Inv X pins σ' H' s'∧Q σ' H') X.xe s
def PGs (X:Cx) (ts:List Expr) (t:TGs):Prop :=
  ∀ (pins:List (Addr × Obj)) (s:Shared) (σ:St) (H:Hp) (vs:List V) (us:List Value) (Q:St→Hp→Prop),Inv X pins σ H s→Vals vs us→t vs σ H Q →
    wpAny (model X.prog X.w) X.A (assignInOrder ((assignEach ts X.env).map (·.2)) us) (fun _ s'=>∃ σ' H',Inv X pins σ' H' s'∧Q σ' H') X.xe s
abbrev TSet:=V→V→V→Hp→(Hp→Prop)→Prop
def PSet (X:Cx) (t:TSet):Prop :=
  ∀ (pins:List (Addr × Obj)) (s:Shared) (σ:St) (H:Hp) (o i v:V) (ov iv u:Value) (Q:Hp→Prop),Inv X pins σ H s→RelV o ov→RelV i iv→RelV v u→t o i v H Q →
    wpAny (model X.prog X.w) X.A (setItem ov iv u) (fun _ s'=>∃ H',Inv X pins σ H' s'∧Q H') X.xe s
section
variable {X:Cx} {pos:Pos}
def gName (i:Nat):TG:=fun v σ H Q=>Q (σ.set i (some v)) H
theorem pg_name {i:Nat} {x:Str} (hN:X.N.Nodup) (hi:X.N[i]?=some x) (hx:Loc X.env.scope x) (hf:X.fn x=true∨X.env.scope.names.lookup x=some .local:=by first | exact .inl rfl | exact .inr rfl | assumption):PG X (.Name x pos) (gName i):=by
  intro pins s σ H v u Q I r h
  exact wpAny_assign_Name (store_ok I hN hi hx r (fun s' I'=>⟨_,H,I',h⟩) hf)
def gNil:TGs:=fun vs σ H Q=>vs = []∧Q σ H
def gCons (t:TG) (u:TGs):TGs:=fun vs σ H Q=>∃ v r,vs=v :: r∧t v σ H fun σ' H'=>u r σ' H' Q
theorem pgs_nil:PGs X [] gNil:=by
  intro pins s σ H vs us Q I r h
  obtain ⟨e,h⟩:=h
  subst e
  cases r
  exact assignInOrder_nil ⟨σ,H,I,h⟩
theorem pgs_cons {e:Expr} {es:List Expr} {t:TG} {u:TGs} (h1:PG X e t) (h2:PGs X es u)
    (hs:(assignEach (e :: es) X.env).map (·.2)=assign e X.env :: (assignEach es X.env).map (·.2):=by rfl):PGs X (e :: es) (gCons t u):=by
  intro pins s σ H vs us Q I r h
  obtain ⟨v,vr,e1,h⟩:=h
  subst e1
  cases r with
  | cons r rr =>
    rw [hs]
    refine assignInOrder_cons (thn (h1 pins s σ H _ _ _ I r h) fun _ s1 ⟨σ1,H1,I1,q1⟩=>?_)
    exact h2 pins s1 σ1 H1 _ _ Q I1 rr q1
def gTup (K:PySem.W.Frag) (n:Nat) (t:TGs):TG:=fun v σ H Q=>∃ a xs,v = .ref a∧SqT K H a xs∧xs.length=n∧t xs σ H Q
theorem pg_tup {es:List Expr} {k:Nat} {t:TGs} {n:Nat} (hc:X.calm=true) (h:PGs X es t)
    (hn:(assignEach es X.env).length=n:=by rfl) (hst:(assignEach es X.env).findIdx? (·.1)=none:=by rfl):PG X (.Tuple es k pos) (gTup X.K n t):=by
  intro pins s σ H v u Q I r hw
  obtain ⟨a,xs,e1,hq,hl,hw⟩:=hw
  subst e1
  cases r
  obtain ⟨its,rv,ht,hz⟩:=I.tuple hq
  refine assign_Tuple_tuple (I.ok.hd hc) ht (by simp [hn,← hl,rv.length]) hst fun h' hx=>?_
  have I1:Inv X pins σ H { s with heap:=h' }:=I.kept (t':=s.toks) fun b o e=>hx b o (Nat.ne_of_lt (Heap.lt_size e)) e
  exact h pins _ σ H xs _ Q I1 (by simpa using rv) hw
def gSub (to ti:TE) (t:TSet):TG:=fun v σ H Q=>to σ H fun o H1=>ti σ H1 fun i H2=>t o i v H2 fun H3=>Q σ H3
theorem pg_sub {o i:Expr} {to ti:TE} {t:TSet} (ho:PE X o to) (hi:PE X i ti) (hs:PSet X t)
    (ha:∀ v,assign (.Subscript o i pos) X.env v=(do
      let ov ← holding [v] (eval o X.env)
      let iv ← holding [v,ov] (eval i X.env)
      standAt pos
      holding [v,ov,iv] (setItem ov iv v)
      release [v,ov,iv] []):=by intro _; rfl):PG X (.Subscript o i pos) (gSub to ti t):=by
  intro pins s σ H v u Q I r h
  rw [ha]
  refine wpAny_bind (wpAny_holding (thn (ho pins s σ H _ I h) fun ov s1 ⟨x,H1,I1,r1,q1⟩=>?_))
  refine wpAny_bind (wpAny_holding (thn (hi pins s1 σ H1 _ I1 q1) fun iv s2 ⟨y,H2,I2,r2,q2⟩=>?_))
  refine wpAny_bind (wpAny_standAt (wpAny_bind (wpAny_holding (thn (hs pins s2 σ H2 x y v ov iv u _ I2 r1 r2 r q2) fun _ s3 ⟨H3,I3,q3⟩=>?_))))
  exact wpAny_release ⟨σ,H3,I3,q3⟩
def tAsg (te:TE) (g:TG):TS:=fun D σ H=>te σ H fun x H1=>g x σ H1 D.nx
theorem ps_asg {tg e:Expr} {te:TE} {g:TG} (he:PE X e te) (hg:PG X tg g) (hs:swapsWithSole [tg] e pos.line X.env=pure false:=by rfl) (hw:swappedStores [tg] e X.env=pure none:=by rfl)
    (h1:(assignEach [tg] X.env).map (·.2) = [assign tg X.env]:=by rfl):PS X (.Assign [tg] e pos) (tAsg te g):=by
  intro pins s σ H D I h
  refine wpAny_Assign_stores (thn (he pins s σ H _ I h) fun v s1 ⟨x,H1,I1,r1,q1⟩=>?_) hs hw
  rw [h1]
  exact thn (hg pins s1 σ H1 x v _ I1 r1 q1) fun _ s2 q=>q
theorem ps_set {i:Nat} {x:Str} {e:Expr} {te:TE} {pos':Pos} (hN:X.N.Nodup) (hi:X.N[i]?=some x) (hx:Loc X.env.scope x) (he:PE X e te) (hs:swapsWith e (some (.Name x pos')) pos.line X.env=pure false:=by rfl) (hf:X.fn x=true∨X.env.scope.names.lookup x=some .local:=by first | exact .inl rfl | exact .inr rfl | assumption) :
    PS X (.Assign [.Name x pos'] e pos) (tAsg te (gName i)):=by
  intro pins s σ H D I h
  refine wpAny_Assign_Name (thn (he pins s σ H _ I h) fun v s1 ⟨y,H1,I1,r1,q1⟩=>?_) hs
  exact store_ok I1 hN hi hx r1 (fun s2 I2=>⟨_,H1,I2,q1⟩) hf
def tPar (i j:Nat) (ta:TA):TS:=fun D σ H=>ta σ H fun vs H1=>∃ v w,vs = [v,w]∧D.nx ((σ.set i (some v)).set j (some w)) H1
theorem ps_par {i j:Nat} {x y:Str} {a b:Expr} {ta:TA} {px py pt:Pos} {kt k2 pt2} (hc:X.calm=true) (hN:X.N.Nodup) (hi:X.N[i]?=some x) (hj:X.N[j]?=some y) (hij:i≠j)
    (hx:X.env.scope.names.lookup x=some .local) (hy:X.env.scope.names.lookup y=some .local) (ha:PA X [a,b] ta)
    (hw:swappedStores [.Tuple [.Name x px,.Name y py] kt pt] (.Tuple [a,b] k2 pt2) X.env=pure (some [x,y]))
    (hs:swapsWithSole [.Tuple [.Name x px,.Name y py] kt pt] (.Tuple [a,b] k2 pt2) pos.line X.env=pure false:=by rfl) :
    PS X (.Assign [.Tuple [.Name x px,.Name y py] kt pt] (.Tuple [a,b] k2 pt2) pos) (tPar i j ta):=by
  intro pins s σ H D I h
  rw [exec_Assign_arm]
  refine wpAny_bind (wpAny_standAt ?_)
  rw [hs]
  refine wpAny_bind (wpAny_pure ?_)
  rw [if_neg (by decide)]
  refine wpAny_bind (Tuple_ (thn (ha _ pins s σ H _ I h) fun us s1 ⟨vs,H1,I1,r1,q1⟩=>?_))
  obtain ⟨v,w,e1,q1⟩:=q1
  subst e1
  obtain ⟨u1,u2,rfl,rv,rw'⟩ : ∃ u1 u2,us = [u1,u2]∧RelV v u1∧RelV w u2:=by
    cases r1 with
    | cons p q =>
      cases q with
      | cons p' q' =>
        cases q'
        exact ⟨_,_,rfl,p,p'⟩
  refine wpAny_newObj_type ?_ (by show 2≤sizeLine; decide)
  have I2:Inv X pins σ H1 { s1 with heap:=s1.heap.push { cls:=.type "tuple",data:=.seq [u1,u2].toArray } }:=I1.kept (t':=s1.toks) fun b o e=>Heap.get?_push_of_some _ e
  rw [hw]
  refine wpAny_bind (wpAny_pure ?_)
  show wpAny (model X.prog X.w) X.A (do rule "assign.swapped-stores"; let items ← unpackItems (.ref s1.heap.objs.size) 2 none; assignInOrder [fun v=>bindName X.env y v,fun v=>bindName X.env x v] items.reverse; pure Flow.next) _ _ _
  refine wpAny_bind (wpAny_rule (wpAny_bind (unpackItems_tuple (items:=#[u1,u2]) (I.ok.hd hc) (IsTup.new s1.heap _) fun h' hx'=>?_)))
  have I3:=I2.kept (h':=h') (t':=s1.toks) fun b o e=>hx' b o (Nat.ne_of_lt (Heap.lt_size e)) e
  show wpAny _ _ (assignInOrder [fun v=>bindName X.env y v,fun v=>bindName X.env x v] [u2,u1] >>= fun _=>pure Flow.next) _ _ _
  refine wpAny_bind (assignInOrder_cons (wpAny_bindName (store_ok I3 hN hj (.inl hy) rw' (fun s2 I4=>?_) (.inr hy))))
  refine assignInOrder_cons (wpAny_bindName (store_ok I4 hN hi (.inl hx) rv (fun s3 I5=>assignInOrder_nil (wpAny_pure ?_)) (.inr hx)))
  rw [List.set_comm _ _ (Ne.symm hij)] at I5
  exact ⟨_,H1,I5,q1⟩
end
section
variable {X:Cx} {pos:Pos}
def tWhile (c:TT) (tb:TS):TS:=fun D σ H=>∃ W:Nat→St→Hp→Prop,(∃ m,W m σ H)∧∀ m σ H,W m σ H →
  c σ H fun b H1=>if b=true then ∃ N:St→Hp→Prop,(∀ σ' H',N σ' H'→∃ m',m' < m∧W m' σ' H')∧tb { D with nx:=N,ct:=N,bk:=D.nx } σ H1 else D.nx σ H1
theorem ps_while {c:Expr} {body:List Stmt} {tc:TT} {tb:TS} (hp:PassesOwn (model X.prog X.w) X.A X.env X.xe) (hc:PT X c tc) (hb:PSs X body tb):PS X (.While c body [] pos) (tWhile tc tb):=by
  intro pins s σ H D I h
  obtain ⟨W,⟨m0,w0⟩,turn⟩:=h
  refine wpAny_While (codeAny_whileLoop (fun n s'=>∃ σ' H',Inv X pins σ' H' s'∧W n σ' H') ?_ m0 ⟨σ,H,I,w0⟩)
  rintro n s1 ⟨σ1,H1,I1,w1⟩
  refine wpAny_passesOwn hp (thn (hc pins s1 σ1 H1 _ I1 (turn n σ1 H1 w1)) fun b s2 ⟨H2,I2,q2⟩=>?_)
  cases b with
  | true =>
    obtain ⟨N,hN,q2⟩:=q2
    rw [if_pos rfl]
    refine wpAny_passesOwn hp (thn (hb pins s2 σ1 H2 _ I2 q2) fun f s3 q3=>?_)
    cases f with
    | next =>
      obtain ⟨σ3,H3,I3,n3⟩:=q3
      obtain ⟨m',hm,w3⟩:=hN σ3 H3 n3
      exact ⟨m',hm,σ3,H3,I3,w3⟩
    | cont =>
      obtain ⟨σ3,H3,I3,n3⟩:=q3
      obtain ⟨m',hm,w3⟩:=hN σ3 H3 n3
      exact ⟨m',hm,σ3,H3,I3,w3⟩
    | brk=>exact q3
    | ret v=>exact q3
  | false =>
    rw [if_neg Bool.false_ne_true]
    exact wpAny_execs_nil ⟨σ1,H2,I2,q2⟩
end
structure It where
  go:Nat→Hp→Prop
  yld:Nat→Hp→V→Hp→Prop
  stop:Nat→Hp→Prop
def FpOk (X:Cx) (pins:List (Addr × Obj)) (H:Hp) (b:Addr):Prop :=
  H b=none∧b≠X.env.locals∧b ∉ X.fs∧(b∈X.ex∨X.s₀.heap.objs.size≤b)∧(∀ x c,X.env.cells.lookup x=some c→c≠b)∧∀ p∈X.pn++pins,p.1≠b
theorem Inv.fpOk {X:Cx} {pins:List (Addr × Obj)} {σ:St} {H H':Hp} {s:Shared} {b:Addr} (I:Inv X pins σ H s) (hb:s.heap.objs.size≤b) (hn:H' b=none):FpOk X pins H' b:=by
  refine ⟨hn,Nat.ne_of_gt (Nat.lt_of_lt_of_le I.lt hb),I.nofs hb,.inr (Nat.le_trans I.sz hb),fun x c e z=>?_,fun p hp z=>?_⟩
  · obtain ⟨v,q⟩:=I.cell x c e
    exact absurd (Nat.lt_of_lt_of_le q.lt (by rw [z]; exact hb)) (Nat.lt_irrefl _)
  · exact absurd (Nat.lt_of_lt_of_le (Heap.lt_size (I.pin p hp).1) (by rw [z]; exact hb)) (Nat.lt_irrefl _)
structure Turn (P:Program) (w:World) (K:PySem.W.Frag) (tg:Expr) (J:It) (fp:List Addr) (it:Addr) (tn:Nat→Heap→Prop):Prop where
  mem:it∈fp
  obj:∀ i h,tn i h→∀ b∈fp,∃ o,h.get? b=some o∧∀ v,o.data≠.cell v
  keep:∀ i h h',tn i h→(∀ b∈fp,∀ o,h.get? b=some o→h'.get? b=some o)→tn i h'
  item:∀ (X:Cx),X.prog=P→X.w=w→X.K=K→X.calm=true→∀ (i:Nat) (pins:List (Addr × Obj)) (s:Shared) (σ:St) (H:Hp) (E:Value→Shared→Prop),Inv X pins σ H s→(∀ b∈fp,FpOk X pins H b)→tn i s.heap→J.go i H →
    wpAny (model P w) X.A (pyNext (.ref it)) (fun r s1=>∃ u,r=some u ∧
      wpAny (model P w) X.A (letOwnedTupleGo tg (.ref it) u) (fun _ s2=>∃ x H',Inv X pins σ H' s2∧RelV x u∧J.yld i H x H'∧tn (i + 1) s2.heap∧∀ b∈fp,H' b=none) E s1) E s
  done:∀ (X:Cx),X.prog=P→X.w=w→X.K=K→X.calm=true→∀ (i:Nat) (pins:List (Addr × Obj)) (s:Shared) (σ:St) (H:Hp) (E:Value→Shared→Prop),Inv X pins σ H s→(∀ b∈fp,FpOk X pins H b)→tn i s.heap→J.stop i H →
    wpAny (model P w) X.A (pyNext (.ref it)) (fun r s1=>r=none∧Inv X pins σ H s1) E s
  self:∀ (A:Around) (i:Nat) (s:Shared) (Q:Value→Shared→Prop) (E:Value→Shared→Prop),tn i s.heap→Q (.ref it) s→wpAny (model P w) A (pyIter (.ref it)) Q E s
abbrev TI:=St→Hp→(It→Hp→Prop)→Prop
def PIE (X:Cx) (pins:List (Addr × Obj)) (σ:St) (tg:Expr) (R:It→Hp→Prop) (itv:Value) (s2:Shared):Prop :=
  ∃ (it:Addr) (fp:List Addr) (tn:Nat→Heap→Prop) (J:It) (H':Hp),itv = .ref it∧Inv X pins σ H' s2∧Turn X.prog X.w X.K tg J fp it tn∧tn 0 s2.heap∧(∀ b∈fp,FpOk X pins H' b)∧R J H'
def PI (X:Cx) (tg iter:Expr) (wi:TI):Prop :=
  ∀ (pins:List (Addr × Obj)) (s:Shared) (σ:St) (H:Hp) (R:It→Hp→Prop),Inv X pins σ H s→wi σ H R →
    wpAny (model X.prog X.w) X.A (eval iter X.env) (fun v s1=>wpAny (model X.prog X.w) X.A (pyIter v) (PIE X pins σ tg R) X.xe s1) X.xe s
theorem go_of {M:Model} {A:Around} {E:Value→Shared→Prop} {s:Shared} {tg:Expr} {it:Addr} {u:Value} {o:Obj} {n:String} {vs:Array Value} {Q:Unit→Shared→Prop} (ho:s.heap.get? it=some o) (hc:o.cls = .type n) (hd:o.data = .fields vs)
    (hn:["enumerate","zip","dict_itemiterator","dict_reverseitemiterator","odict_iterator","itertools.zip_longest","itertools.pairwise"].contains n=false) (hQ:Q () s):wpAny M A (letOwnedTupleGo tg (.ref it) u) Q E s:=by
  unfold letOwnedTupleGo
  cases tg <;> first
    | exact wpAny_pure hQ
    | (cases u <;> first
        | exact wpAny_pure hQ
        | (refine wpAny_bind (wpAny_load ho ?_)
           rw [hc,hd]
           show wpAny M A (if (["enumerate","zip","dict_itemiterator","dict_reverseitemiterator","odict_iterator","itertools.zip_longest","itertools.pairwise"].contains n && vs[0]? == some (rawInt _))=true then _ else _) Q E s
           rw [if_neg (by intro h; rw [hn,Bool.false_and] at h; cases h)]
           exact wpAny_pure hQ))
def Itl (K:PySem.W.Frag) (a:Addr):It :=
  ⟨fun i H=>∃ xs x,SqL K H a xs∧xs[i]?=some x,fun i H x H'=>H'=H∧∀ xs,SqL K H a xs→xs[i]?=some x,fun i H=>∃ xs,SqL K H a xs∧xs.length≤i⟩
def Itt (K:PySem.W.Frag) (a:Addr):It :=
  ⟨fun i H=>∃ xs x,SqT K H a xs∧xs[i]?=some x,fun i H x H'=>H'=H∧∀ xs,SqT K H a xs→xs[i]?=some x,fun i H=>∃ xs,SqT K H a xs∧xs.length≤i⟩
def Itr (lo:Int) (n:Nat):It:=⟨fun i _=>i < n,fun i H x H'=>H'=H∧x = .int (lo + i),fun i _=>n≤i⟩
theorem turn_list {P:Program} {w:World} {K:PySem.W.Frag} {tg:Expr} (a it:Addr):Turn P w K tg (Itl K a) [it] it (fun i h=>h.IsListIter it a i) where
  mem:=by simp
  obj:=fun i h st b hb=>by
    have e:b=it:=by simpa using hb
    subst e
    obtain ⟨o,e,c,d⟩:=st
    exact ⟨o,e,fun v z=>by rw [d] at z; cases z⟩
  keep:=fun i h h' st k=>st.at fun o e=>k it (by simp) o e
  item:=by
    intro X hP hw hK hc i pins s σ H E I hf st hg
    subst hP hw hK
    obtain ⟨xs,x,hq,hx⟩:=hg
    obtain ⟨its,rv,p,hz⟩:=I.list hq
    obtain ⟨u,hu,ru⟩:=rv.get hx
    obtain ⟨f0,f1,f2,f3,f4,f5⟩:=hf it (by simp)
    refine wpAny_pyNext_list_item st p.isList (x:=u) (by simpa using hu) fun h' st' sb=>?_
    have I1:Inv X pins σ H { s with heap:=h' }:=I.turned (t':=s.toks) (fun b o hb e=>(sb.2 b hb).trans e) f0 f1 f3 f4 f5
    obtain ⟨o,e,c,d⟩:=id st'
    exact ⟨u,rfl,go_of (s:={ s with heap:=h' }) e c d (by decide) ⟨x,H,I1,ru,⟨rfl,fun ys hy=>by rw [I.list_inj hy hq]; exact hx⟩,st',fun b hb=>(hf b hb).1⟩⟩
  done:=by
    intro X hP hw hK hc i pins s σ H E I hf st hg
    subst hP hw hK
    obtain ⟨xs,hq,hx⟩:=hg
    obtain ⟨its,rv,p,hz⟩:=I.list hq
    obtain ⟨f0,f1,f2,f3,f4,f5⟩:=hf it (by simp)
    have hl:=rv.length
    exact wpAny_pyNext_list_end (I.ok.hd hc) st p.isList (by simp; omega) fun h' eb=>⟨rfl,I.turned (t':=s.toks) (fun b o hb e=>eb b o hb e) f0 f1 f3 f4 f5⟩
  self:=fun _ _ _ _ _ st h=>wpAny_pyIter_listiter st h
theorem turn_tuple {P:Program} {w:World} {K:PySem.W.Frag} {tg:Expr} (a it:Addr):Turn P w K tg (Itt K a) [it] it (fun i h=>h.IsTupleIter it a i) where
  mem:=by simp
  obj:=fun i h st b hb=>by
    have e:b=it:=by simpa using hb
    subst e
    obtain ⟨o,e,c,d⟩:=st
    exact ⟨o,e,fun v z=>by rw [d] at z; cases z⟩
  keep:=fun i h h' st k=>st.at fun o e=>k it (by simp) o e
  item:=by
    intro X hP hw hK hc i pins s σ H E I hf st hg
    subst hP hw hK
    obtain ⟨xs,x,hq,hx⟩:=hg
    obtain ⟨its,rv,p,hz⟩:=I.tuple hq
    obtain ⟨u,hu,ru⟩:=rv.get hx
    obtain ⟨f0,f1,f2,f3,f4,f5⟩:=hf it (by simp)
    refine wpAny_pyNext_tuple_item st (show s.heap.IsTuple a its.toArray from p) (x:=u) (by simpa using hu) fun h' st' sb=>?_
    have I1:Inv X pins σ H { s with heap:=h' }:=I.turned (t':=s.toks) (fun b o hb e=>(sb.2 b hb).trans e) f0 f1 f3 f4 f5
    obtain ⟨o,e,c,d⟩:=id st'
    exact ⟨u,rfl,go_of (s:={ s with heap:=h' }) e c d (by decide) ⟨x,H,I1,ru,⟨rfl,fun ys hy=>by rw [I.tuple_inj hy hq]; exact hx⟩,st',fun b hb=>(hf b hb).1⟩⟩
  done:=by
    intro X hP hw hK hc i pins s σ H E I hf st hg
    subst hP hw hK
    obtain ⟨xs,hq,hx⟩:=hg
    obtain ⟨its,rv,p,hz⟩:=I.tuple hq
    obtain ⟨f0,f1,f2,f3,f4,f5⟩:=hf it (by simp)
    have hl:=rv.length
    exact wpAny_pyNext_tuple_end (I.ok.hd hc) st (show s.heap.IsTuple a its.toArray from p) (by simp; omega) fun h' eb=>⟨rfl,I.turned (t':=s.toks) (fun b o hb e=>eb b o hb e) f0 f1 f3 f4 f5⟩
  self:=fun _ _ _ _ _ st h=>wpAny_pyIter_tupleiter st h
theorem turn_range {P:Program} {w:World} {K:PySem.W.Frag} {tg:Expr} (it:Addr) (lo:Int) (n:Nat):Turn P w K tg (Itr lo n) [it] it (fun i h=>IsRangeIter h it (lo + (i:Nat) * 1) ((n:Int) - (i:Nat)) 1) where
  mem:=by simp
  obj:=fun i h st b hb=>by
    have e:b=it:=by simpa using hb
    subst e
    exact ⟨_,st,fun v z=>by
      have z':Data.fields _=Data.cell v:=z
      cases z'⟩
  keep:=fun i h h' st k=>k it (by simp) _ st
  item:=by
    intro X hP hw hK hc i pins s σ H E I hf st hg
    subst hP hw hK
    obtain ⟨f0,f1,f2,f3,f4,f5⟩:=hf it (by simp)
    have W:=Walks.range (prog:=X.prog) (w:=X.w) (I.ok.hd hc) it lo 1 n
    refine W.item i s _ _ hg st fun v h' tk hv st' kk=>?_
    obtain ⟨t,rfl⟩:=hv
    have I1:Inv X pins σ H { s with heap:=h',toks:=tk }:=I.turned (fun b o hb e=>kk b o (by simpa using hb) e) f0 f1 f3 f4 f5
    refine ⟨_,rfl,go_of (s:={ s with heap:=h',toks:=tk }) (n:="range_iterator") st' rfl rfl (by decide) ⟨.int (lo + i),H,I1,⟨t,?_⟩,⟨rfl,rfl⟩,st',fun b hb=>(hf b hb).1⟩⟩
    rw [Int.mul_one]
  done:=by
    intro X hP hw hK hc i pins s σ H E I hf st hg
    subst hP hw hK
    obtain ⟨f0,f1,f2,f3,f4,f5⟩:=hf it (by simp)
    exact wpAny_pyNext_range_end (I.ok.hd hc) st (by have:n≤i:=hg; omega) fun h' eb=>⟨rfl,I.turned (t':=s.toks) (fun b o hb e=>eb b o hb e) f0 f1 f3 f4 f5⟩
  self:=fun _ _ _ _ _ st h=>wpAny_pyIter_rangeiter st h
end L2
namespace L2
open PySem PySem.Spec PyProof.Rows
section
variable {X:Cx} {tg:Expr}
def iList (K:PySem.W.Frag) (tl:TE):TI:=fun σ H R=>tl σ H fun x H1=>∃ a,x = .ref a∧(∃ xs,SqL K H1 a xs)∧R (Itl K a) H1
def iTup (K:PySem.W.Frag) (tl:TE):TI:=fun σ H R=>tl σ H fun x H1=>∃ a,x = .ref a∧(∃ xs,SqT K H1 a xs)∧R (Itt K a) H1
theorem pi_list {l:Expr} {tl:TE} (hl:PE X l tl):PI X tg l (iList X.K tl):=by
  intro pins s σ H R I h
  refine thn (hl pins s σ H _ I h) fun v s1 ⟨x,H1,I1,r1,q1⟩=>?_
  obtain ⟨a,e,⟨xs,hq⟩,q⟩:=q1
  subst e
  cases r1
  obtain ⟨its,rv,p,hz⟩:=I1.list hq
  refine wpAny_pyIter_list p.isList ?_
  refine ⟨s1.heap.objs.size,[s1.heap.objs.size],_,_,H1,rfl,I1.kept (t':=s1.toks) fun b o e=>Heap.get?_push_of_some _ e,turn_list a _,⟨_,Heap.get?_push_size _ rfl,rfl,rfl⟩,fun b hb=>?_,q⟩
  have e:b=s1.heap.objs.size:=by simpa using hb
  subst e
  exact I1.fpOk (Nat.le_refl _) (I1.hok.fresh (Nat.le_refl _))
theorem pi_tup {l:Expr} {tl:TE} (hl:PE X l tl):PI X tg l (iTup X.K tl):=by
  intro pins s σ H R I h
  refine thn (hl pins s σ H _ I h) fun v s1 ⟨x,H1,I1,r1,q1⟩=>?_
  obtain ⟨a,e,⟨xs,hq⟩,q⟩:=q1
  subst e
  cases r1
  obtain ⟨its,rv,p,hz⟩:=I1.tuple hq
  refine wpAny_pyIter_tuple (show s1.heap.IsTuple a its.toArray from p) ?_
  refine ⟨s1.heap.objs.size,[s1.heap.objs.size],_,_,H1,rfl,I1.kept (t':=s1.toks) fun b o e=>Heap.get?_push_of_some _ e,turn_tuple a _,⟨_,Heap.get?_push_size _ rfl,rfl,rfl⟩,fun b hb=>?_,q⟩
  have e:b=s1.heap.objs.size:=by simpa using hb
  subst e
  exact I1.fpOk (Nat.le_refl _) (I1.hok.fresh (Nat.le_refl _))
theorem range_it {pins:List (Addr × Obj)} {σ:St} {H:Hp} {s:Shared} {R:It→Hp→Prop} {E:Value→Shared→Prop} {lo hi:Int} {t u v:Tok} {tk:Nat} (I:Inv X pins σ H s) (h1 : -(2 ^ 62)≤lo) (h2:lo < 2 ^ 62) (h3 : -(2 ^ 62)≤hi) (h4:hi < 2 ^ 62)
    (q:R (Itr lo (hi - lo).toNat) H):wpAny (model X.prog X.w) X.A (pyIter (.ref s.heap.objs.size)) (PIE X pins σ tg R) E { s with heap:=s.heap.push { cls:=.type "range",data:=.fields #[.int lo t,.int hi u,.int 1 v] },toks:=tk }:=by
  refine wpAny_pyIter_range (IsRange.new ..) (small_one h1 h2 h3 h4) ?_
  have I1:Inv X pins σ H { s with heap:=s.heap.push { cls:=.type "range",data:=.fields #[.int lo t,.int hi u,.int 1 v] },toks:=tk }:=I.kept fun b o e=>Heap.get?_push_of_some _ e
  refine ⟨(s.heap.push { cls:=.type "range",data:=.fields #[.int lo t,.int hi u,.int 1 v] }).objs.size,[(s.heap.push { cls:=.type "range",data:=.fields #[.int lo t,.int hi u,.int 1 v] }).objs.size],_,_,H,rfl,
    I1.kept (t':=tk) fun b o e=>Heap.get?_push_of_some _ e,turn_range _ lo (hi - lo).toNat,?_,fun b hb=>?_,q⟩
  · have e1:lo + ((0:Nat):Int) * 1=lo:=by simp
    have e2:(((hi - lo).toNat:Nat):Int) - ((0:Nat):Int)=Builtin.Range.rangeSize lo hi 1:=by rw [rangeSize_one]; split <;> omega
    show IsRangeIter _ _ (lo + ((0:Nat):Int) * 1) ((((hi - lo).toNat:Nat):Int) - ((0:Nat):Int)) 1
    rw [e1,e2]
    exact Heap.get?_push_size _ rfl
  · have e:b=(s.heap.push { cls:=.type "range",data:=.fields #[.int lo t,.int hi u,.int 1 v] }).objs.size:=by simpa using hb
    subst e
    exact I1.fpOk (Nat.le_refl _) (I1.hok.fresh (Nat.le_refl _))
def iRng1 (ta:TA):TI:=fun σ H R=>ta σ H fun vs H1=>∃ j:Int,vs = [.int j]∧-(2 ^ 62)≤j∧j < 2 ^ 62∧R (Itr 0 j.toNat) H1
theorem pi_range1 {a:Expr} {ta:TA} {p pos:Pos} (hg:Gl X "range") (hm:X.mg "range" = none) (ha:PA X [a] ta) (hs:starEach [a] X.env = [(false,eval a X.env)]:=by rfl):PI X tg (.Call (.Name "range" p) [a] [] pos) (iRng1 ta):=by
  intro pins s σ H R I h
  refine Call_ (ld_blt I hg hm boot_range (PyProof.Rows.callWith_type1 (thn (ha pos pins s σ H _ I h) fun us s1 ⟨vs,H1,I1,r1,q1⟩=>?_) hs rfl))
  obtain ⟨j,e,q1,q2,q⟩:=q1
  subst e
  cases r1 with
  | cons r rr =>
    cases rr
    obtain ⟨t,rfl⟩:=r
    exact call_range_1 (range_it I1 (by omega) (by omega) q1 q2 (by simpa using q))
def tFor (wi:TI) (g:TG) (tb:TS):TS:=fun D σ H=>wi σ H fun J H1=>∃ W:Nat→Nat→St→Hp→Prop,(∃ m,W 0 m σ H1)∧∀ i m σ H,W i m σ H →
  (J.stop i H∧D.nx σ H)∨(J.go i H∧∃ N:St→Hp→Prop,(∀ σ' H',N σ' H'→∃ m',m' < m∧W (i + 1) m' σ' H')∧∀ x H',J.yld i H x H'→g x σ H' fun σ2 H2=>tb { D with nx:=N,ct:=N,bk:=D.nx } σ2 H2)
def pinsAt (fp:List Addr) (h:Heap):List (Addr × Obj):=fp.filterMap fun b=>(h.get? b).map fun o=>(b,o)
theorem mem_pinsAt {fp:List Addr} {h:Heap} {b:Addr} {o:Obj} (hb:b∈fp) (e:h.get? b=some o):(b,o)∈pinsAt fp h:=List.mem_filterMap.mpr ⟨b,hb,by rw [e]; rfl⟩
theorem of_pinsAt {fp:List Addr} {h:Heap} {p:Addr × Obj} (hp:p∈pinsAt fp h):p.1∈fp∧h.get? p.1=some p.2:=by
  obtain ⟨b,hb,e⟩:=List.mem_filterMap.mp hp
  cases q:h.get? b with
  | none=>rw [q] at e; cases e
  | some o =>
    rw [q] at e
    have e':(b,o)=p:=Option.some.inj e
    subst e'
    exact ⟨hb,q⟩
theorem Inv.pinned {pins:List (Addr × Obj)} {σ:St} {H:Hp} {s:Shared} {fp:List Addr} (I:Inv X pins σ H s) (hf:∀ b∈fp,FpOk X pins H b) (ho:∀ b∈fp,∃ o,s.heap.get? b=some o∧∀ v,o.data≠.cell v):Inv X (pins++pinsAt fp s.heap) σ H s :=
  I.pins_of fun p hp=>(List.mem_append.mp hp).elim (fun z=>I.pin p (List.mem_append_right _ z)) fun z=>by
    obtain ⟨hb,e⟩:=of_pinsAt z
    obtain ⟨f0,f1,f2,_⟩:=hf p.1 hb
    obtain ⟨o,e',d⟩:=ho p.1 hb
    rw [e] at e'; cases e'
    exact ⟨e,f0,f1,f2,d⟩
theorem Inv.unpinned {pins pl:List (Addr × Obj)} {σ:St} {H:Hp} {s:Shared} (I:Inv X (pins++pl) σ H s):Inv X pins σ H s:=I.pins_of fun p hp=>I.pin p (List.mem_append_right _ (List.mem_append_left _ hp))
theorem ps_for {iter:Expr} {body:List Stmt} {wi:TI} {g:TG} {tb:TS} {pos:Pos} (hp:PassesOwn (model X.prog X.w) X.A X.env X.xe) (hc:X.calm=true) (hi:PI X tg iter wi) (hg:PG X tg g) (hb:PSs X body tb)
    (hs:∀ x,foldedSetIterable iter X.env x=pure x:=by intro _; rfl):PS X (.For tg iter body [] pos) (tFor wi g tb):=by
  intro pins s σ H D I h
  refine wpAny_For (thn (hi pins s σ H _ I h) fun v s1 h1=>thn h1 fun itv s2 h2=>?_) hs
  obtain ⟨it,fp,tn,J,H2,e,I2,T,st2,f2,W,⟨m0,w0⟩,turn⟩:=h2
  subst e
  have stat:∀ {H':Hp},(∀ b∈fp,H' b=none)→∀ b∈fp,FpOk X pins H' b:=fun hn b hb=>⟨hn b hb,(f2 b hb).2⟩
  refine codeAny_forLoop_any (fun n s'=>∃ i σ' H',Inv X pins σ' H' s'∧tn i s'.heap∧(∀ b∈fp,H' b=none)∧W i n σ' H') ?_ m0 ⟨0,σ,H2,I2,st2,fun b hb=>(f2 b hb).1,w0⟩
  rintro n s3 ⟨i,σ3,H3,I3,st3,fr3,w3⟩
  rcases turn i n σ3 H3 w3 with ⟨stop,qn⟩ | ⟨go,N,hN,step⟩
  · refine wpAny_passesOwn hp (thn (T.done X rfl rfl rfl hc i pins s3 σ3 H3 X.xe I3 (stat fr3) st3 stop) fun r s4 ⟨hr,I4⟩=>?_)
    subst hr
    exact wpAny_execs_nil ⟨σ3,H3,I4,qn⟩
  · refine wpAny_passesOwn hp (thn (T.item X rfl rfl rfl hc i pins s3 σ3 H3 X.xe I3 (stat fr3) st3 go) fun r s4 ⟨u,hr,h4⟩=>?_)
    subst hr
    refine wpAny_passesOwn hp (thn h4 fun _ s5 ⟨x,H5,I5,r5,y5,st5,fr5⟩=>?_)
    have I5':=I5.pinned (stat fr5) (T.obj _ _ st5)
    refine wpAny_passesOwn hp (thn (hg _ s5 σ3 H5 x u _ I5' r5 (step x H5 y5)) fun _ s6 ⟨σ6,H6,I6,q6⟩=>?_)
    refine wpAny_passesOwn hp (thn (hb _ s6 σ6 H6 _ I6 q6) fun f s7 q7=>?_)
    have again:∀ {σ7:St} {H7:Hp},Inv X (pins++pinsAt fp s5.heap) σ7 H7 s7→N σ7 H7→∃ m,m < n∧∃ i σ' H',Inv X pins σ' H' s7∧tn i s7.heap∧(∀ b∈fp,H' b=none)∧W i m σ' H':=fun {σ7 H7} I7 n7=>by
      obtain ⟨m',hm,w7⟩:=hN σ7 H7 n7
      refine ⟨m',hm,i + 1,σ7,H7,I7.unpinned,T.keep _ _ _ st5 fun b hb o e=>(I7.pin (b,o) (List.mem_append_right _ (List.mem_append_right _ (mem_pinsAt hb e)))).1,fun b hb=>?_,w7⟩
      obtain ⟨o,e,d⟩:=T.obj _ _ st5 b hb
      exact (I7.pin (b,o) (List.mem_append_right _ (List.mem_append_right _ (mem_pinsAt hb e)))).2.1
    cases f with
    | next=>obtain ⟨σ7,H7,I7,n7⟩:=q7; exact again I7 n7
    | cont=>obtain ⟨σ7,H7,I7,n7⟩:=q7; exact again I7 n7
    | brk=>obtain ⟨σ7,H7,I7,q7⟩:=q7; exact ⟨σ7,H7,I7.unpinned,q7⟩
    | ret v=>obtain ⟨x7,σ7,H7,I7,r7,q7⟩:=q7; exact ⟨x7,σ7,H7,I7.unpinned,r7,q7⟩
end
theorem for_list {K:PySem.W.Frag} {a:Addr} {xs:List V} {g:TG} {tb:TS} {D:Ends} {σ:St} {H:Hp} (Pv:Nat→St→Hp→Prop) (h0:Pv 0 σ H) (hl:∀ i σ H,i≤xs.length→Pv i σ H→SqL K H a xs)
    (hs:∀ i x σ H,xs[i]?=some x→Pv i σ H→g x σ H fun σ2 H2=>tb { D with nx:=Pv (i + 1),ct:=Pv (i + 1),bk:=D.nx } σ2 H2) (hd:∀ σ H,Pv xs.length σ H→D.nx σ H) :
    ∃ W:Nat→Nat→St→Hp→Prop,(∃ m,W 0 m σ H)∧∀ i m σ H,W i m σ H →
      ((Itl K a).stop i H∧D.nx σ H)∨((Itl K a).go i H∧∃ N:St→Hp→Prop,(∀ σ' H',N σ' H'→∃ m',m' < m∧W (i + 1) m' σ' H')∧∀ x H',(Itl K a).yld i H x H'→g x σ H' fun σ2 H2=>tb { D with nx:=N,ct:=N,bk:=D.nx } σ2 H2):=by
  refine ⟨fun i m σ H=>m=xs.length - i∧i≤xs.length∧Pv i σ H,⟨xs.length,by simp,Nat.zero_le _,h0⟩,?_⟩
  rintro i m σ H ⟨rfl,hi,p⟩
  have q:=hl i σ H hi p
  by_cases hlt:i < xs.length
  · refine .inr ⟨⟨xs,xs[i],q,by simp [hlt]⟩,Pv (i + 1),fun σ' H' p'=>⟨xs.length - (i + 1),by omega,rfl,hlt,p'⟩,fun x H' y=>?_⟩
    obtain ⟨e,y⟩:=y
    subst e
    exact hs i x σ _ (y xs q) p
  · have e:i=xs.length:=by omega
    subst e
    exact .inl ⟨⟨xs,q,Nat.le_refl _⟩,hd σ H p⟩
theorem for_range {lo:Int} {n:Nat} {g:TG} {tb:TS} {D:Ends} {σ:St} {H:Hp} (Pv:Nat→St→Hp→Prop) (h0:Pv 0 σ H)
    (hs:∀ i σ H,i < n→Pv i σ H→g (.int (lo + i)) σ H fun σ2 H2=>tb { D with nx:=Pv (i + 1),ct:=Pv (i + 1),bk:=D.nx } σ2 H2) (hd:∀ σ H,Pv n σ H→D.nx σ H) :
    ∃ W:Nat→Nat→St→Hp→Prop,(∃ m,W 0 m σ H)∧∀ i m σ H,W i m σ H →
      ((Itr lo n).stop i H∧D.nx σ H)∨((Itr lo n).go i H∧∃ N:St→Hp→Prop,(∀ σ' H',N σ' H'→∃ m',m' < m∧W (i + 1) m' σ' H')∧∀ x H',(Itr lo n).yld i H x H'→g x σ H' fun σ2 H2=>tb { D with nx:=N,ct:=N,bk:=D.nx } σ2 H2):=by
  refine ⟨fun i m σ H=>m=n - i∧i≤n∧Pv i σ H,⟨n,by simp,Nat.zero_le _,h0⟩,?_⟩
  rintro i m σ H ⟨rfl,hi,p⟩
  by_cases hlt:i < n
  · refine .inr ⟨hlt,Pv (i + 1),fun σ' H' p'=>⟨n - (i + 1),by omega,rfl,hlt,p'⟩,fun x H' y=>?_⟩
    obtain ⟨e,y⟩:=y
    subst e y
    exact hs i σ _ hlt p
  · have e:i=n:=by omega
    subst e
    exact .inl ⟨Nat.le_refl _,hd σ H p⟩
theorem while_by {c:TT} {tb:TS} {D:Ends} {σ:St} {H:Hp} (Pv:St→Hp→Prop) (μ:St→Hp→Nat) (h0:Pv σ H)
    (hs:∀ σ H,Pv σ H→c σ H fun b H1=>if b=true then tb { D with nx:=fun σ' H'=>Pv σ' H'∧μ σ' H' < μ σ H,ct:=fun σ' H'=>Pv σ' H'∧μ σ' H' < μ σ H,bk:=D.nx } σ H1 else D.nx σ H1)
    (mono:∀ σ H Q Q',(∀ b H1,Q b H1→Q' b H1)→c σ H Q→c σ H Q'):tWhile c tb D σ H:=by
  refine ⟨fun m σ H=>m=μ σ H∧Pv σ H,⟨_,rfl,h0⟩,?_⟩
  rintro m σ H ⟨rfl,p⟩
  refine mono σ H _ _ (fun b H1 q=>?_) (hs σ H p)
  cases b with
  | true=>exact ⟨_,fun σ' H' ⟨p',l⟩=>⟨_,l,rfl,p'⟩,q⟩
  | false=>exact q
end L2
namespace L2
open PySem PySem.Spec PyProof.Rows
abbrev R2:=V→V→Hp→VK→Prop
def OpR (X:Cx) (f:Value→Value→Sem Value) (r:R2):Prop :=
  ∀ (pins:List (Addr × Obj)) (s:Shared) (σ:St) (H:Hp) (x y:V) (v u:Value) (Q:VK),Inv X pins σ H s→RelV x v→RelV y u→r x y H Q →
    wpAny (model X.prog X.w) X.A (f v u) (EP X pins σ Q) X.xe s
def UnR (X:Cx) (f:Value→Sem Value) (r:V→Hp→VK→Prop):Prop :=
  ∀ (pins:List (Addr × Obj)) (s:Shared) (σ:St) (H:Hp) (x:V) (v:Value) (Q:VK),Inv X pins σ H s→RelV x v→r x H Q →
    wpAny (model X.prog X.w) X.A (f v) (EP X pins σ Q) X.xe s
def CallR (X:Cx) (f:Value) (r:List V→Hp→VK→Prop):Prop :=
  ∀ (pins:List (Addr × Obj)) (s:Shared) (σ:St) (H:Hp) (xs:List V) (us:List Value) (Q:VK),Inv X pins σ H s→Vals xs us→r xs H Q →
    wpAny (model X.prog X.w) X.A (call f us) (EP X pins σ Q) X.xe s
def TruR (X:Cx) (r:V→Hp→(Bool→Hp→Prop)→Prop):Prop :=
  ∀ (pins:List (Addr × Obj)) (s:Shared) (σ:St) (H:Hp) (x:V) (v:Value) (Q:Bool→Hp→Prop),Inv X pins σ H s→RelV x v→r x H Q →
    wpAny (model X.prog X.w) X.A (truthy v) (TP X pins σ Q) X.xe s
def tOp (r:R2) (ta tb:TE):TE:=fun σ H Q=>ta σ H fun x H1=>tb σ H1 fun y H2=>r x y H2 Q
def tUn (r:V→Hp→VK→Prop) (ta:TE):TE:=fun σ H Q=>ta σ H fun x H1=>r x H1 Q
def rI (C:Int→Int→Prop) (g:Int→Int→V):R2:=fun x y H Q=>∃ i j,x = .int i∧y = .int j∧C i j∧Q (g i j) H
def rI0 (g:Int→Int→V):R2:=fun x y H Q=>∃ i j,x = .int i∧y = .int j∧Q (g i j) H
def rU (g:Int→V):V→Hp→VK→Prop:=fun x H Q=>∃ i,x = .int i∧Q (g i) H
section
variable {X:Cx} {a b c:Expr} {ta tb tc:TE} {pos:Pos}
theorem binT (ha:PE X a ta) (hb:PE X b tb) {pins:List (Addr × Obj)} {s:Shared} {σ:St} {H:Hp} {R:V→V→Hp→Prop} (I:Inv X pins σ H s)
    (h:ta σ H fun x H1=>tb σ H1 fun y H2=>R x y H2) {Q:Value→Shared→Prop} {f:Value→Value→Sem Value}
    (hf:∀ v u s2 x y H2,Inv X pins σ H2 s2→RelV x v→RelV y u→R x y H2→wpAny (model X.prog X.w) X.A (f v u) Q X.xe s2) :
    wpAny (model X.prog X.w) X.A (eval a X.env) (fun v s₁=>wpAny (model X.prog X.w) X.A (eval b X.env) (fun u s₂=>wpAny (model X.prog X.w) X.A (f v u) Q X.xe s₂) X.xe s₁) X.xe s:=by
  refine thn (ha pins s σ H _ I h) fun v s1 ⟨x,H1,I1,r1,q1⟩=>?_
  refine thn (hb pins s1 σ H1 _ I1 q1) fun u s2 ⟨y,H2,I2,r2,q2⟩=>?_
  exact hf v u s2 x y H2 I2 r1 r2 q2
theorem pe_op {op:Operator} {r:R2} (ho:OpR X (binaryOp op) r) (ha:PE X a ta) (hb:PE X b tb):PE X (.BinOp a op b pos) (tOp r ta tb):=by
  intro pins s σ H Q I h
  exact wpAny_BinOp (binT ha hb I h fun v u s2 x y H2 I2 rx ry q=>ho pins s2 σ H2 x y v u Q I2 rx ry q)
theorem pe_un {op:UnaryOp} {r:V→Hp→VK→Prop} (ho:UnR X (unaryOp op) r) (ha:PE X a ta):PE X (.UnaryOp op a pos) (tUn r ta):=by
  intro pins s σ H Q I h
  exact UnaryOp_ (thn (ha pins s σ H _ I h) fun v s1 ⟨x,H1,I1,r1,q1⟩=>ho pins s1 σ H1 x v Q I1 r1 q1)
theorem opI {f:Value→Value→Sem Value} {C:Int→Int→Prop} {g:Int→Int→Int}
    (rule:∀ (i j:Int) (t u:Tok) (s:Shared) (Q:Value→Shared→Prop) (E:Value→Shared→Prop),C i j→Q (.int (g i j) s.toks) { s with toks:=s.toks + 1 }→wpAny (model X.prog X.w) X.A (f (.int i t) (.int j u)) Q E s) :
    OpR X f (rI C fun i j=>.int (g i j)):=by
  intro pins s σ H x y v u Q I rx ry h
  obtain ⟨i,j,rfl,rfl,hc,q⟩:=h
  obtain ⟨t,rfl⟩:=rx
  obtain ⟨t',rfl⟩:=ry
  exact rule i j t t' s _ _ hc ⟨.int (g i j),H,I.tok _,⟨_,rfl⟩,q⟩
theorem opI0 {f:Value→Value→Sem Value} {g:Int→Int→Int}
    (rule:∀ (i j:Int) (t u:Tok) (s:Shared) (Q:Value→Shared→Prop) (E:Value→Shared→Prop),Q (.int (g i j) s.toks) { s with toks:=s.toks + 1 }→wpAny (model X.prog X.w) X.A (f (.int i t) (.int j u)) Q E s) :
    OpR X f (rI0 fun i j=>.int (g i j)):=by
  intro pins s σ H x y v u Q I rx ry h
  obtain ⟨i,j,rfl,rfl,q⟩:=h
  obtain ⟨t,rfl⟩:=rx
  obtain ⟨t',rfl⟩:=ry
  exact rule i j t t' s _ _ ⟨.int (g i j),H,I.tok _,⟨_,rfl⟩,q⟩
theorem opB0 {f:Value→Value→Sem Value} {g:Int→Int→Bool}
    (rule:∀ (i j:Int) (t u:Tok) (s:Shared) (Q:Value→Shared→Prop) (E:Value→Shared→Prop),Q (.bool (g i j)) s→wpAny (model X.prog X.w) X.A (f (.int i t) (.int j u)) Q E s) :
    OpR X f (rI0 fun i j=>.bl (g i j)):=by
  intro pins s σ H x y v u Q I rx ry h
  obtain ⟨i,j,rfl,rfl,q⟩:=h
  obtain ⟨t,rfl⟩:=rx
  obtain ⟨t',rfl⟩:=ry
  exact rule i j t t' s _ _ ⟨.bl (g i j),H,I,rfl,q⟩
def CDiv (i j:Int):Prop:=0 < j∧j < 1073741824
def CPow (i j:Int):Prop:=0≤j∧j≤1000000∧i.natAbs < 2 ^ 64
def CMul (i j:Int):Prop:=(-(2 ^ 64) < i∧i < 2 ^ 64)∨(-(2 ^ 64) < j∧j < 2 ^ 64)
theorem CMul.ok {i j:Int} (h:CMul i j):IntMulOk i j:=by
  rcases h with ⟨h1,h2⟩ | ⟨h1,h2⟩
  · exact .of_left (intBits_le_64 h1 h2)
  · exact .of_right (intBits_le_64 h1 h2)
theorem two_pow_nn (k:Nat):(0:Int)≤2 ^ k:=by
  rw [two_pow_cast]
  exact Int.natCast_nonneg _
theorem op_add:OpR X (binaryOp .Add) (rI0 fun i j=>.int (i + j)):=opI0 fun _ _ _ _ _ _ _ q=>add_int q
theorem op_sub:OpR X (binaryOp .Sub) (rI0 fun i j=>.int (i - j)):=opI0 fun _ _ _ _ _ _ _ q=>sub_int q
theorem op_mul:OpR X (binaryOp .Mult) (rI CMul fun i j=>.int (i * j)):=opI fun _ _ _ _ _ _ _ hc q=>mul_int q hc.ok
theorem op_fdiv:OpR X (binaryOp .FloorDiv) (rI CDiv fun i j=>.int (i / j)):=opI fun i j _ _ _ _ _ hc q=>by
  have h1:(0:Int) < j:=hc.1
  have h2:j < 1073741824:=hc.2
  exact floordiv_int (by omega) (by rw [Int.fdiv_eq_ediv_of_nonneg i (by omega)]; exact q) (.inl (PyProof.noPylong_small (by omega)))
theorem op_mod:OpR X (binaryOp .Mod) (rI (fun _ j=>0 < j) fun i j=>.int (i % j)):=opI fun i j _ _ _ _ _ hc q=>by
  have h1:(0:Int) < j:=hc
  exact mod_int' (by omega) (by rw [Int.fmod_eq_emod_of_nonneg i (by omega)]; exact q)
theorem op_pow:OpR X (binaryOp .Pow) (rI CPow fun i j=>.int (i ^ j.toNat)):=opI fun _ _ _ _ _ _ _ hc q=>pow_int_small hc.1 hc.2.1 hc.2.2 q
theorem op_shl:OpR X (binaryOp .LShift) (rI CPow fun i j=>.int (i * 2 ^ j.toNat)):=opI fun _ _ _ _ _ _ _ hc q=>lshift_int_small hc.1 hc.2.1 hc.2.2 q
theorem op_shr:OpR X (binaryOp .RShift) (rI (fun _ j=>0≤j) fun i j=>.int (i / 2 ^ j.toNat)):=opI fun i j _ _ _ _ _ hc q =>
  rshift_int hc (by rw [Int.fdiv_eq_ediv_of_nonneg i (two_pow_nn _)]; exact q)
theorem op_and:OpR X (binaryOp .BitAnd) (rI0 fun i j=>.int (Builtin.bitAnd i j)):=opI0 fun _ _ _ _ _ _ _ q=>and_int q
theorem op_or:OpR X (binaryOp .BitOr) (rI0 fun i j=>.int (Builtin.bitOr i j)):=opI0 fun _ _ _ _ _ _ _ q=>or_int q
theorem unI {f:Value→Sem Value} {g:Int→Int}
    (rule:∀ (i:Int) (t:Tok) (s:Shared) (Q:Value→Shared→Prop) (E:Value→Shared→Prop),Q (.int (g i) s.toks) { s with toks:=s.toks + 1 }→wpAny (model X.prog X.w) X.A (f (.int i t)) Q E s) :
    UnR X f (rU fun i=>.int (g i)):=by
  intro pins s σ H x v Q I rx h
  obtain ⟨i,rfl,q⟩:=h
  obtain ⟨t,rfl⟩:=rx
  exact rule i t s _ _ ⟨.int (g i),H,I.tok _,⟨_,rfl⟩,q⟩
theorem un_neg:UnR X (unaryOp .USub) (rU fun i=>.int (-i)):=unI fun _ _ _ _ _ q=>neg_int q
end
def scal:V→V→Bool
  | .non,.non=>true | .non,.int _=>true | .int _,.non=>true | .non,.bl _=>true | .bl _,.non=>true | .non,.str _=>true | .str _,.non=>true
  | .int _,.int _=>true | .bl _,.bl _=>true | .str _,.str _=>true | .byt _,.byt _=>true
  | .int _,.str _=>true | .str _,.int _=>true | .bl _,.str _=>true | .str _,.bl _=>true
  | _,_=>false
def rEq:R2:=fun x y H Q=>scal x y=true∧Q (.bl (decide (x=y))) H
def rNe:R2:=fun x y H Q=>scal x y=true∧Q (.bl (!decide (x=y))) H
theorem dec_int {i j:Int}:decide (V.int i=V.int j)=(i == j):=by
  rw [Bool.eq_iff_iff]
  simp
theorem dec_bl {i j:Bool}:decide (V.bl i=V.bl j)=(i == j):=by
  rw [Bool.eq_iff_iff]
  simp
theorem dec_str {i j:Str}:decide (V.str i=V.str j)=(i == j):=by
  rw [Bool.eq_iff_iff]
  simp
theorem dec_byt {i j:Array UInt8}:decide (V.byt i=V.byt j)=(i.toList == j.toList):=by
  rw [Bool.eq_iff_iff]
  cases i
  cases j
  simp
section
variable {X:Cx} {a b c:Expr} {ta tb tc:TE} {pos:Pos}
theorem fin_bl {pins:List (Addr × Obj)} {σ:St} {H:Hp} {s:Shared} {Q:VK} {k k':Bool} (I:Inv X pins σ H s) (q:Q (.bl k) H) (e:k=k'):EP X pins σ Q (.bool k') s:=by
  subst e
  exact ⟨.bl k,H,I,rfl,q⟩
theorem op_eq:OpR X (compareOp .Eq) rEq:=by
  intro pins s σ H x y v u Q I rx ry h
  obtain ⟨hs,q⟩:=h
  cases x with
  | non =>
    cases rx
    cases y with
    | non=>cases ry; exact PySem.EqNone.eq_none_none (fin_bl I q (by simp))
    | bl j=>cases ry; exact PySem.EqNone.eq_none_bool (fin_bl I q (by simp))
    | int j=>obtain ⟨t',rfl⟩:=ry; exact PySem.EqNone.eq_none_int (fin_bl I q (by simp))
    | str j=>obtain ⟨t',rfl⟩:=ry; exact PySem.EqNone.eq_none_str (fin_bl I q (by simp))
    | _=>exact absurd (show false=true from hs) Bool.false_ne_true
  | bl i =>
    cases rx
    cases y with
    | non=>cases ry; exact PySem.EqNone.eq_bool_none (fin_bl I q (by simp))
    | bl j=>cases ry; exact eq_bool (fin_bl I q dec_bl)
    | str j=>obtain ⟨t',rfl⟩:=ry; exact PySem.EqMixed.eq_bool_str (fin_bl I q (by simp))
    | _=>exact absurd (show false=true from hs) Bool.false_ne_true
  | int i =>
    obtain ⟨t,rfl⟩:=rx
    cases y with
    | non=>cases ry; exact PySem.EqNone.eq_int_none (fin_bl I q (by simp))
    | int j=>obtain ⟨t',rfl⟩:=ry; exact eq_int (fin_bl I q dec_int)
    | str j=>obtain ⟨t',rfl⟩:=ry; exact PySem.EqMixed.eq_int_str (fin_bl I q (by simp))
    | _=>exact absurd (show false=true from hs) Bool.false_ne_true
  | str i =>
    obtain ⟨t,rfl⟩:=rx
    cases y with
    | non=>cases ry; exact PySem.EqNone.eq_str_none (fin_bl I q (by simp))
    | bl j=>cases ry; exact PySem.EqMixed.eq_str_bool (fin_bl I q (by simp))
    | int j=>obtain ⟨t',rfl⟩:=ry; exact PySem.EqMixed.eq_str_int (fin_bl I q (by simp))
    | str j=>obtain ⟨t',rfl⟩:=ry; exact eq_str (fin_bl I q dec_str)
    | _=>exact absurd (show false=true from hs) Bool.false_ne_true
  | byt i =>
    obtain ⟨t,rfl⟩:=rx
    cases y with
    | byt j=>obtain ⟨t',rfl⟩:=ry; exact PySem.W.eq_bytes (fin_bl I q dec_byt)
    | _=>exact absurd (show false=true from hs) Bool.false_ne_true
  | _=>cases y <;> exact absurd (show false=true from hs) Bool.false_ne_true
theorem op_ne:OpR X (compareOp .NotEq) rNe:=by
  intro pins s σ H x y v u Q I rx ry h
  obtain ⟨hs,q⟩:=h
  cases x with
  | non =>
    cases rx
    cases y with
    | non=>cases ry; exact PySem.EqNone.ne_none_none (fin_bl I q (by simp))
    | bl j=>cases ry; exact PySem.EqNone.ne_none_bool (fin_bl I q (by simp))
    | int j=>obtain ⟨t',rfl⟩:=ry; exact PySem.EqNone.ne_none_int (fin_bl I q (by simp))
    | str j=>obtain ⟨t',rfl⟩:=ry; exact PySem.EqNone.ne_none_str (fin_bl I q (by simp))
    | _=>exact absurd (show false=true from hs) Bool.false_ne_true
  | bl i =>
    cases rx
    cases y with
    | non=>cases ry; exact PySem.EqNone.ne_bool_none (fin_bl I q (by simp))
    | bl j=>cases ry; exact ne_bool (fin_bl I q (congrArg not dec_bl))
    | str j=>obtain ⟨t',rfl⟩:=ry; exact PySem.EqMixed.ne_bool_str (fin_bl I q (by simp))
    | _=>exact absurd (show false=true from hs) Bool.false_ne_true
  | int i =>
    obtain ⟨t,rfl⟩:=rx
    cases y with
    | non=>cases ry; exact PySem.EqNone.ne_int_none (fin_bl I q (by simp))
    | int j=>obtain ⟨t',rfl⟩:=ry; exact ne_int (fin_bl I q (congrArg not dec_int))
    | str j=>obtain ⟨t',rfl⟩:=ry; exact PySem.EqMixed.ne_int_str (fin_bl I q (by simp))
    | _=>exact absurd (show false=true from hs) Bool.false_ne_true
  | str i =>
    obtain ⟨t,rfl⟩:=rx
    cases y with
    | non=>cases ry; exact PySem.EqNone.ne_str_none (fin_bl I q (by simp))
    | bl j=>cases ry; exact PySem.EqMixed.ne_str_bool (fin_bl I q (by simp))
    | int j=>obtain ⟨t',rfl⟩:=ry; exact PySem.EqMixed.ne_str_int (fin_bl I q (by simp))
    | str j=>obtain ⟨t',rfl⟩:=ry; exact ne_str (fin_bl I q (congrArg not dec_str))
    | _=>exact absurd (show false=true from hs) Bool.false_ne_true
  | byt i =>
    obtain ⟨t,rfl⟩:=rx
    cases y with
    | byt j=>obtain ⟨t',rfl⟩:=ry; exact PySem.W.ne_bytes (fin_bl I q (congrArg not dec_byt))
    | _=>exact absurd (show false=true from hs) Bool.false_ne_true
  | _=>cases y <;> exact absurd (show false=true from hs) Bool.false_ne_true
theorem op_lt:OpR X (compareOp .Lt) (rI0 fun i j=>.bl (decide (i < j))):=opB0 fun _ _ _ _ _ _ _ q=>lt_int q
theorem op_le:OpR X (compareOp .LtE) (rI0 fun i j=>.bl (decide (i≤j))):=opB0 fun _ _ _ _ _ _ _ q=>le_int q
theorem op_gt:OpR X (compareOp .Gt) (rI0 fun i j=>.bl (decide (j < i))):=opB0 fun _ _ _ _ _ _ _ q=>gt_int q
theorem op_ge:OpR X (compareOp .GtE) (rI0 fun i j=>.bl (decide (j≤i))):=opB0 fun _ _ _ _ _ _ _ q=>ge_int q
theorem op_notN:OpR X (compareOp .IsNot) (fun x y H Q=>y = .non∧Q (.bl (!decide (x = .non))) H):=by
  intro pins s σ H x y v u Q I rx ry h
  obtain ⟨rfl,q⟩:=h
  cases ry
  refine isnot_none_gen (fin_bl I q ?_)
  cases x <;> first
    | (cases rx; rfl)
    | (obtain ⟨t,rfl⟩:=rx; rfl)
theorem nomark (b:Expr) {op:CmpOp} (h:op≠.In:=by decide) (h2:op≠.NotIn:=by decide):behindInMarks op b=false:=by
  have e1:(op == CmpOp.In)=false:=by cases op <;> first | rfl | exact absurd rfl h
  have e2:(op == CmpOp.NotIn)=false:=by cases op <;> first | rfl | exact absurd rfl h2
  cases b <;> simp [behindInMarks,e1,e2]
theorem pe_cmpR {op:CmpOp} {r:R2} (ho:OpR X (compareOp op) r) (ha:PE X a ta) (hb:PE X b tb) (hm:behindInMarks op b=false):PE X (.Compare a [op] [b] pos) (tOp r ta tb):=by
  intro pins s σ H Q I h
  exact wpAny_Compare1 (binT ha hb I h fun v u s2 x y H2 I2 rx ry q=>ho pins s2 σ H2 x y v u Q I2 rx ry q) hm
def tTest (t:TE):TT:=fun σ H Q=>t σ H fun x H'=>∃ k,x = .bl k∧Q k H'
theorem pt_cmpR {op:CmpOp} {r:R2} (ho:OpR X (compareOp op) r) (ha:PE X a ta) (hb:PE X b tb) (hm:behindInMarks op b=false):PT X (.Compare a [op] [b] pos) (tTest (tOp r ta tb)):=by
  intro pins s σ H Q I h
  refine wpAny_isTrue_Compare1 (thn (ha pins s σ H _ I h) fun v s1 ⟨x,H1,I1,r1,q1⟩=>thn (hb pins s1 σ H1 _ I1 q1) fun u s2 ⟨y,H2,I2,r2,q2⟩ =>
    thn (ho pins s2 σ H2 x y v u _ I2 r1 r2 q2) fun c s3 ⟨z,H3,I3,r3,k,e,q3⟩=>?_) hm
  subst e
  cases r3
  exact wpAny_truthy_bool ⟨H3,I3,q3⟩
def tChain (r r':R2) (ta tb tc:TE):TE:=fun σ H Q=>ta σ H fun x H1=>tb σ H1 fun y H2=>r x y H2 fun z H3=>∃ k,z = .bl k ∧
  (if k=true then tc σ H3 fun w' H4=>r' y w' H4 Q else Q (.bl false) H3)
theorem pe_chain {op op':CmpOp} {r r':R2} (ho:OpR X (compareOp op) r) (ho':OpR X (compareOp op') r') (ha:PE X a ta) (hb:PE X b tb) (hc:PE X c tc)
    (hm:lastMarks [op,op'] [b,c]=false:=by with_unfolding_all rfl):PE X (.Compare a [op,op'] [b,c] pos) (tChain r r' ta tb tc):=by
  intro pins s σ H Q I h
  refine Compare_chain (thn (ha pins s σ H _ I h) fun v s1 ⟨x,H1,I1,r1,q1⟩=>chain_link (thn (hb pins s1 σ H1 _ I1 q1) fun u s2 ⟨y,H2,I2,r2,q2⟩ =>
    thn (ho pins s2 σ H2 x y v u _ I2 r1 r2 q2) fun d s3 ⟨z,H3,I3,r3,k,e,q3⟩=>?_)) hm
  subst e
  cases r3
  refine wpAny_truthy_bool ?_
  cases k with
  | false=>exact ite_ff ⟨.bl false,H3,I3,rfl,q3⟩
  | true=>exact ite_tt (chain_last (thn (hc pins s3 σ H3 _ I3 q3) fun w' s4 ⟨z',H4,I4,r4,q4⟩=>ho' pins s4 σ H4 y z' u w' Q I4 r2 r4 q4))
theorem pt_chain {op op':CmpOp} {r r':R2} (ho:OpR X (compareOp op) r) (ho':OpR X (compareOp op') r') (ha:PE X a ta) (hb:PE X b tb) (hc:PE X c tc)
    (hm:lastMarks [op,op'] [b,c]=false:=by with_unfolding_all rfl):PT X (.Compare a [op,op'] [b,c] pos) (tTest (tChain r r' ta tb tc)):=by
  intro pins s σ H Q I h
  refine isTrue_chain (thn (ha pins s σ H _ I h) fun v s1 ⟨x,H1,I1,r1,q1⟩=>test_link (thn (hb pins s1 σ H1 _ I1 q1) fun u s2 ⟨y,H2,I2,r2,q2⟩ =>
    thn (ho pins s2 σ H2 x y v u _ I2 r1 r2 q2) fun d s3 ⟨z,H3,I3,r3,k,e,q3⟩=>?_)) hm
  subst e
  cases r3
  refine wpAny_truthy_bool ?_
  cases k with
  | false =>
    obtain ⟨k',e',q'⟩:=q3
    cases e'
    exact ite_ff ⟨H3,I3,q'⟩
  | true =>
    refine ite_tt (test_last (thn (hc pins s3 σ H3 _ I3 q3) fun w' s4 ⟨z',H4,I4,r4,q4⟩=>thn (ho' pins s4 σ H4 y z' u w' _ I4 r2 r4 q4) fun d' s5 ⟨z2,H5,I5,r5,k2,e2,q5⟩=>?_))
    subst e2
    cases r5
    exact wpAny_truthy_bool ⟨H5,I5,q5⟩
def TruV (K:PySem.W.Frag) (x:V) (H:Hp) (k:Bool):Prop :=
  match x with
  | .non=>k=false
  | .bl b=>k=b
  | .int i=>k=(i != 0)
  | .str y=>y.length≤sizeLine∧k=((y.length:Int) != 0)
  | .byt y=>y.size≤sizeLine∧k=((y.size:Int) != 0)
  | .ref p=>(∃ xs,SqL K H p xs∧k = !xs.isEmpty)∨(∃ xs,SqT K H p xs∧k = !xs.isEmpty)∨∃ kvs,H p=some (.dK kvs)∧k = !kvs.isEmpty
  | _=>False
theorem isEmpty_kv {κ:Type} {kvs:List (κ × V)} {vs:List (κ × Value)} (r:KV kvs vs):(!vs.isEmpty) = !kvs.isEmpty:=by
  cases r <;> rfl
theorem isEmpty_of {xs:List V} {its:List Value} (r:Vals xs its):(!its.toArray.isEmpty) = !xs.isEmpty:=by
  cases r <;> simp
theorem line63:(sizeLine:Nat) < 2 ^ 63:=by rw [sizeLine_eq]; decide
theorem tru_ok:TruR X (fun x H Q=>∃ k,TruV X.K x H k∧Q k H):=by
  intro pins s σ H x v Q I rx h
  obtain ⟨k,e,q⟩:=h
  have hl:=line63
  have hs:sizeLine=16777216:=sizeLine_eq
  cases x with
  | non =>
    cases rx
    have e':k=false:=e
    subst e'
    exact truthy_none ⟨H,I,q⟩
  | bl b =>
    cases rx
    have e':k=b:=e
    subst e'
    exact wpAny_truthy_bool ⟨H,I,q⟩
  | int i =>
    obtain ⟨t,rfl⟩:=rx
    have e':k=(i != 0):=e
    subst e'
    exact PySem.P.truthy_int ⟨H,I,q⟩
  | str y =>
    obtain ⟨t,rfl⟩:=rx
    obtain ⟨hy,e'⟩ : y.length≤sizeLine∧k=((y.length:Int) != 0):=e
    subst e'
    exact PySem.P.truthy_str (by omega) ⟨H,I.tok _,q⟩
  | byt y =>
    obtain ⟨t,rfl⟩:=rx
    obtain ⟨hy,e'⟩ : y.size≤sizeLine∧k=((y.size:Int) != 0):=e
    subst e'
    exact PySem.W.truthy_bytes (by omega) ⟨H,I.tok _,q⟩
  | ref p =>
    cases rx
    have e':(∃ xs,SqL X.K H p xs∧k = !xs.isEmpty)∨(∃ xs,SqT X.K H p xs∧k = !xs.isEmpty)∨∃ kvs,H p=some (.dK kvs)∧k = !kvs.isEmpty:=e
    rcases e' with ⟨xs,hx,e'⟩ | ⟨xs,hx,e'⟩ | ⟨kvs,hx,e'⟩
    · subst e'
      obtain ⟨its,r,pl,hz⟩:=I.list hx
      have hlen:=r.length
      exact wpAny_truthy_list pl.isList (by simp only [List.size_toArray]; omega) ⟨H,I.tok _,by rw [isEmpty_of r]; exact q⟩
    · subst e'
      obtain ⟨its,r,pl,hz⟩:=I.tuple hx
      have hlen:=r.length
      exact truthy_tuple pl (by simp only [List.size_toArray]; omega) ⟨H,I.tok _,by rw [isEmpty_of r]; exact q⟩
    · subst e'
      obtain ⟨hz,hS,vs,r,m⟩ : kvs.length≤sizeLine∧(p == sysModules)=false∧∃ vs,KV kvs vs∧s.heap.DictOf (mixKind X.prog X.w) p vs:=I.hok p _ hx
      have hlen:kvs.length=vs.length:=Paired.length r
      exact wpAny_truthy_dict hS m (by omega) ⟨H,I.tok _,by rw [isEmpty_kv r]; exact q⟩
  | _=>exact (show False from e).elim
theorem pt_truth (ha:PE X a ta) (he:∀ whole,isTrue a X.env whole=(do let v ← whole; standAt a.pos; holding [v] (truthy v))) :
    PT X a (fun σ H Q=>ta σ H fun x H'=>∃ k,TruV X.K x H' k∧Q k H'):=by
  intro pins s σ H Q I h
  exact isTrue_plain (thn (ha pins s σ H _ I h) fun v s1 ⟨x,H1,I1,r1,q1⟩=>tru_ok pins s1 σ H1 x v Q I1 r1 q1) (he _)
theorem vals1 {x:V} {us:List Value} (r:Vals [x] us):∃ u,us = [u]∧RelV x u:=by
  cases r with
  | cons r1 r2=>cases r2; exact ⟨_,rfl,r1⟩
end
end L2
namespace L2
open PySem PySem.Spec PyProof.Rows
structure ObjM (h:Heap) (x dx C:Addr) (mA:Str→Option Value):Prop where
  obj:h.get? x=some (PySem.W.instObj C dx)
  ns:h.Ns1 dx mA
  ne:dx≠x
theorem lookIn_ns {h:Heap} {dx:Addr} {mA:Str→Option Value} (n:h.Ns1 dx mA):∃ od,h.get? dx=some od∧∀ name,PySem.W.lookIn name od=some (mA name):=by
  obtain ⟨o,es,ep,ho,hd,hk,_,hm⟩:=n
  refine ⟨o,ho,fun name=>?_⟩
  have e:=hm name
  unfold nsFind findBy at e
  rw [← Array.find?_toList] at e
  unfold PySem.W.lookIn
  rw [hd]
  dsimp only
  split
  · rename_i y q
    rw [q] at e
    exact congrArg some e
  · rename_i q
    rw [q] at e
    have a:es.toList.any (·.refKey)=false:=by
      rw [List.any_eq_false]
      intro y hy
      obtain ⟨z,t,hkey⟩:=hk y (Array.mem_toList_iff.mp hy)
      simp [DictEntry.refKey,hkey]
    have a':¬ es.toList.any (·.refKey)=true:=by rw [a]; exact Bool.false_ne_true
    rw [if_neg a']
    exact congrArg some e
theorem ObjM.look {h:Heap} {x dx C:Addr} {mA:Str→Option Value} (I:ObjM h x dx C mA):∃ od,PySem.W.InstAt h x (PySem.W.instObj C dx) C (some od)∧∀ name,PySem.W.lookIn name od=some (mA name) :=
  let ⟨od,ho,hl⟩:=lookIn_ns I.ns
  ⟨od,⟨I.obj,rfl,rfl,ho⟩,hl⟩
section
variable {prog:Program} {w:World} {A:Around} {E:Value→Shared→Prop} {s:Shared} {K:PySem.W.Frag} {x dx C f:Addr} {mA:Str→Option Value} {name:Str} {v:Value}
theorem get_map {expr:Bool} {Q:Value→Shared→Prop} (X:K.In s.heap) (I:ObjM s.heap x dx C mA) (hg:PySem.W.plainGet K C name=true) (hh:PySem.W.hasDictIn K C=true)
    (ha:PySem.W.findIn K (.ref C) name=some none) (hv:mA name=some v) (hv':PySem.W.handedIn v=true) (h:Q v { s with toks:=s.toks + 1 }) :
    wpAny (model prog w) A (getAttr (.ref x) name expr) Q E s:=by
  obtain ⟨od,J,hl⟩:=I.look
  exact PySem.W.get_value X J (PySem.W.plainGet_of hg).1 (PySem.W.findObj_own hh ha rfl (by rw [hl,hv])) hv' h
theorem get_meth {pl:Sem Bool} {Q:Value × List Value→Shared→Prop} (X:K.In s.heap) (I:ObjM s.heap x dx C mA) (hg:PySem.W.plainGet K C name=true)
    (hf:PySem.W.findIn K (.ref C) name=some (some (.ref f))) (ht:PySem.W.isFn K (.ref f)=true) (hv:mA name=none) (h:Q (.ref f,[.ref x]) s) :
    wpAny (model prog w) A (getMethod (.ref x) name pl) Q E s:=by
  obtain ⟨od,J,hl⟩:=I.look
  exact PySem.W.method_fn X J (PySem.W.plainGet_of hg).1 (PySem.W.plainGet_of hg).2 hf (beq_iff_eq.mp ht) (by show (PySem.W.lookIn name od).map (·.isSome)=some false; rw [hl,hv]; rfl) h
theorem set_map {ns:List Str} {Q:Unit→Shared→Prop} (X:K.In s.heap) (I:ObjM s.heap x dx C mA)
    (hs:PySem.W.findIn K (.ref C) "__setattr__" = some (some (.builtin "object.__setattr__"))) (hp:PySem.W.plainOver K C=true) (ht:PySem.W.takerIn K C name=some none) (hh:PySem.W.hasDictIn K C=true)
    (hw:PySem.Within mA ns) (hsz:ns.length≤sizeLine)
    (h:∀ h',ObjM h' x dx C (fun y=>if y=name then some v else mA y)→Heap.SameBut dx s.heap h'→Q () { s with heap:=h',toks:=s.toks + 2 }) :
    wpAny (model prog w) A (setAttr (.ref x) name v) Q E s:=by
  obtain ⟨od,J,hl⟩:=I.look
  refine PySem.W.set_plain X J hs (PySem.W.osa_open (s:={ s with toks:=s.toks + 1 }) (r:=none) X J hp ht fun b=>?_)
  obtain ⟨cd,hc,hd'⟩:=PySem.W.any_some hh
  have hx:s.heap.get? x=some ⟨.ref C,some dx,.plain,#[]⟩:=I.obj
  refine wpAny_bind (wpAny_pure (wpAny_bind (wpAny_bind (wpAny_loadPart hx (wpAny_bind (PySem.W.Looks.here (s:={ s with toks:=s.toks + 1 }) (PySem.W.looks_clsIn X hc) ?_))))))
  rw [hd']
  refine wpAny_pure (a:=some dx) (wpAny_bind (wpAny_pure (wpAny_bind ?_)))
  refine wpAny_nsSet1 (s:={ s with toks:=s.toks + 1 }) I.ns fun h' hn2 hs2=>?_
  obtain ⟨oD,esD,epD,hoD,hdD,hcD⟩:=hn2.count (PySem.Within.cons name v hw)
  refine wpAny_bind (wpAny_lookBehind hoD (by rw [hdD]; exact pastItsLine_dict (Nat.le_trans hcD (by rw [List.length_cons]; omega))) ?_)
  exact wpAny_pure (h _ ⟨(hs2.2 _ (Ne.symm I.ne)).trans I.obj,hn2,I.ne⟩ hs2)
theorem make_map {R:Result→Shared→Prop} {vs:List Value} {kw:List (Str × Value)} (X:K.In s.heap) (hm:PySem.W.makesIn K C=true)
    (hi:PySem.W.findIn K (.ref C) "__init__" = some (some (.ref f))) (hf:PySem.W.typeIn K (.ref f)=some (.type "function"))
    (h:codeAny (model prog w) (A.under (.builtin "type.__call__" ⟨.ref C :: vs,kw⟩)) (.call (.ref f) ⟨.ref (s.heap.objs.size + 1) :: vs,kw⟩) (PySem.W.InitBack (s.heap.objs.size + 1) R)
      { s with heap:=(s.heap.push PySem.W.emptyDict).push (PySem.W.instObj C s.heap.objs.size) }) :
    codeAny (model prog w) A (.call (.ref C) ⟨vs,kw⟩) R s:=by
  obtain ⟨hh,g,d,t,os⟩:=s
  exact PySem.W.make_core (PySem.W.makes_of X hm) (PySem.W.looks_findIn X hi) (fun self=>PySem.W.bind_fn X self hf) (.inl rfl) h
end
def putF (f:Str) (v:V):List (Str × V)→List (Str × V)
  | []=>[(f,v)]
  | (g,x) :: r=>if g=f then (g,v) :: r else (g,x) :: putF f v r
theorem lookup_putF (f g:Str) (v:V):∀ fs:List (Str × V),(putF f v fs).lookup g=if g=f then some v else fs.lookup g
  | []=>by
    show List.lookup g [(f,v)]=_
    by_cases h:g=f
    · have hb:(g == f)=true:=beq_iff_eq.mpr h
      simp only [List.lookup,hb,if_pos h]
    · have hb:(g == f)=false:=beq_eq_false_iff_ne.mpr h
      simp only [List.lookup,hb,if_neg h]
  | (k,x) :: r=>by
    have ih:=lookup_putF f g v r
    rw [show putF f v ((k,x) :: r)=(if k=f then (k,v) :: r else (k,x) :: putF f v r) from rfl]
    by_cases hk:k=f
    · rw [if_pos hk]
      by_cases h:g=k
      · have hb:(g == k)=true:=beq_iff_eq.mpr h
        simp only [List.lookup,hb,if_pos (h.trans hk)]
      · have hb:(g == k)=false:=beq_eq_false_iff_ne.mpr h
        simp only [List.lookup,hb,if_neg (fun e:g=f=>h (e.trans hk.symm))]
    · rw [if_neg hk]
      by_cases h:g=k
      · have hb:(g == k)=true:=beq_iff_eq.mpr h
        simp only [List.lookup,hb,if_neg (fun e:g=f=>hk (h.symm.trans e))]
      · have hb:(g == k)=false:=beq_eq_false_iff_ne.mpr h
        simp only [List.lookup,hb]
        exact ih
theorem keys_putF (f:Str) (v:V):∀ fs:List (Str × V),f∈(putF f v fs).map (·.1)∧∀ g,g∈fs.map (·.1)→g∈(putF f v fs).map (·.1)
  | []=>⟨by simp [putF],fun g h=>by simp at h⟩
  | (k,x) :: r=>by
    obtain ⟨i1,i2⟩:=keys_putF f v r
    rw [show putF f v ((k,x) :: r)=(if k=f then (k,v) :: r else (k,x) :: putF f v r) from rfl]
    by_cases hk:k=f
    · rw [if_pos hk]
      subst hk
      exact ⟨by simp,fun g h=>by simpa using h⟩
    · rw [if_neg hk]
      refine ⟨?_,fun g h=>?_⟩
      · rw [List.map_cons]
        exact List.mem_cons_of_mem _ i1
      · rw [List.map_cons] at h ⊢
        rcases List.mem_cons.mp h with e | e
        · exact List.mem_cons.mpr (.inl e)
        · exact List.mem_cons_of_mem _ (i2 g e)
theorem length_putF (f:Str) (v:V):∀ fs:List (Str × V),(putF f v fs).length≤fs.length + 1
  | []=>by simp [putF]
  | (k,x) :: r=>by
    have ih:=length_putF f v r
    rw [show putF f v ((k,x) :: r)=(if k=f then (k,v) :: r else (k,x) :: putF f v r) from rfl]
    by_cases hk:k=f
    · rw [if_pos hk,List.length_cons,List.length_cons]; omega
    · rw [if_neg hk,List.length_cons,List.length_cons]; omega
theorem RelO.some_of {v:V} {o:Option Value} (r:RelO (some v) o):∃ u,o=some u∧RelV v u:=by
  cases o with
  | none=>exact (show False from r).elim
  | some u=>exact ⟨u,rfl,r⟩
theorem RelO.none_of {o:Option Value} (r:RelO none o):o=none:=by
  cases o with
  | none=>rfl
  | some u=>exact (show False from r).elim
theorem handed_of {v:V} {u:Value} (r:RelV v u):PySem.W.handedIn u=true:=by
  cases v with
  | non=>cases (show u=Value.none from r); rfl
  | bl b=>cases (show u=Value.bool b from r); rfl
  | int i=>obtain ⟨t,e⟩:=(show ∃ t,u=Value.int i t from r); cases e; rfl
  | str x=>obtain ⟨t,e⟩:=(show ∃ t,u=Value.str x t from r); cases e; rfl
  | byt b=>obtain ⟨t,e⟩:=(show ∃ t,u=Value.bytes b t from r); cases e; rfl
  | flt b=>obtain ⟨t,e⟩:=(show ∃ t,u=Value.float b t from r); cases e; rfl
  | ref a=>cases (show u=Value.ref a from r); rfl
  | ty n=>cases (show u=Value.type n from r); rfl
section
variable {P:Program} {w:World} {H H':Hp} {h h':Heap} {a C dx:Addr} {fs fs':List (Str × V)}
theorem ins_get (hok:HOk P w H h) (e:H a=some (.ins C dx fs)):∃ mA,ObjM h a dx C mA∧(∀ f,RelO (fs.lookup f) (mA f))∧PySem.Within mA (fs.map (·.1))∧fs.length≤1000∧H dx=some (.own a):=by
  obtain ⟨d,z,ne,ob,mA,n,r,q⟩:=(show ObjOk P w H h a (.ins C dx fs) from hok a _ e)
  exact ⟨mA,⟨ob,n,ne⟩,r,q,z,d⟩
end
structure Cls (K:PySem.W.Frag) (C:Addr):Prop where
  pg:PySem.W.plainGet K C Str.empty=true
  hd:PySem.W.hasDictIn K C=true
  po:PySem.W.plainOver K C=true
  sa:PySem.W.findIn K (.ref C) "__setattr__" = some (some (.builtin "object.__setattr__"))
theorem Cls.get {K:PySem.W.Frag} {C:Addr} (c:Cls K C) (f:Str):PySem.W.plainGet K C f=true:=c.pg
def NoAttr (K:PySem.W.Frag) (C:Addr) (f:Str):Prop:=PySem.W.findIn K (.ref C) f=some none
theorem NoAttr.taker {K:PySem.W.Frag} {C:Addr} {f:Str} (n:NoAttr K C f):PySem.W.takerIn K C f=some none:=by
  unfold PySem.W.takerIn
  rw [show PySem.W.findIn K (.ref C) f=some none from n]
  rfl
structure Meth (K:PySem.W.Frag) (C:Addr) (m:Str) (f:Addr):Prop where
  at_:PySem.W.findIn K (.ref C) m=some (some (.ref f))
  fn:PySem.W.isFn K (.ref f)=true
  kp:PySem.W.keepIn K (.ref f)=true
section
variable {X:Cx} {pins:List (Addr × Obj)} {σ:St} {H:Hp} {s:Shared} {a C dx:Addr} {fs:List (Str × V)} {f:Str} {v:V} {A:Around} {E:Value→Shared→Prop}
theorem getattr_ok {b:Bool} {Q:Value→Shared→Prop} (I:Inv X pins σ H s) (e:H a=some (.ins C dx fs)) (c:Cls X.K C) (n:NoAttr X.K C f) (l:fs.lookup f=some v)
    (h:∀ u s',Inv X pins σ H s'→RelV v u→Q u s'):wpAny (model X.prog X.w) A (getAttr (.ref a) f b) Q E s:=by
  obtain ⟨mA,O,r,_,_,_⟩:=ins_get I.hok e
  obtain ⟨u,hu,ru⟩:=RelO.some_of (v:=v) (o:=mA f) (by rw [← l]; exact r f)
  exact get_map I.kIn O (c.get f) c.hd n hu (handed_of ru) (h u _ (I.tok _) ru)
theorem getmeth_ok {m:Str} {g:Addr} {pl:Sem Bool} {Q:Value × List Value→Shared→Prop} (I:Inv X pins σ H s) (e:H a=some (.ins C dx fs)) (c:Cls X.K C) (k:Meth X.K C m g) (l:fs.lookup m=none)
    (h:Q (.ref g,[.ref a]) s):wpAny (model X.prog X.w) A (getMethod (.ref a) m pl) Q E s:=by
  obtain ⟨mA,O,r,_,_,_⟩:=ins_get I.hok e
  have hn:mA m=none:=RelO.none_of (by rw [← l]; exact r m)
  exact get_meth I.kIn O (c.get m) k.at_ k.fn hn h
theorem setattr_ok {y:V} {u:Value} {Q:Unit→Shared→Prop} (I:Inv X pins σ H s) (e:H a=some (.ins C dx fs)) (c:Cls X.K C) (n:NoAttr X.K C f) (hl:fs.length < 1000) (ry:RelV y u)
    (h:∀ s',Inv X pins σ (upd H a (.ins C dx (putF f y fs))) s'→Q () s'):wpAny (model X.prog X.w) A (setAttr (.ref a) f u) Q E s:=by
  obtain ⟨mA,O,r,wi,_,ho⟩:=ins_get I.hok e
  have hz:(fs.map (·.1)).length≤sizeLine:=by rw [List.length_map,sizeLine_eq]; omega
  refine set_map I.kIn O c.sa c.po n.taker c.hd wi hz fun h' O' sb=>h _ ?_
  have hd:∃ o,h'.get? dx=some o:=let ⟨o,_,_,e',_⟩:=O'.ns; ⟨o,e'⟩
  refine I.write (x:=a) (e:=dx) (by rw [e]; exact True.intro) (.inr ho) (fun b q hb z=>(sb.2 b hb).trans z) hd ?_
  refine ⟨by rw [upd_ne O.ne]; exact ho,?_,O.ne,O'.obj,_,O'.ns,fun g=>?_,fun g hg=>?_⟩
  · have:=length_putF f y fs; omega
  · show RelO ((putF f y fs).lookup g) (if g=f then some u else mA g)
    rw [lookup_putF]
    by_cases q:g=f
    · rw [if_pos q,if_pos q]; exact ry
    · rw [if_neg q,if_neg q]; exact r g
  · by_cases q:g=f
    · rw [q]; exact (keys_putF f y fs).1
    · refine (keys_putF f y fs).2 g (wi g fun z=>hg ?_)
      show (if g=f then some u else mA g)=none
      rw [if_neg q]; exact z
theorem Inv.made (I:Inv X pins σ H s):Inv X pins σ (upd (upd H s.heap.objs.size (.own (s.heap.objs.size + 1))) (s.heap.objs.size + 1) (.ins C s.heap.objs.size []))
    { s with heap:=(s.heap.push PySem.W.emptyDict).push (PySem.W.instObj C s.heap.objs.size) }:=by
  have e1:(s.heap.push PySem.W.emptyDict).get? s.heap.objs.size=some PySem.W.emptyDict:=Heap.get?_push_size s.heap rfl
  have e2:((s.heap.push PySem.W.emptyDict).push (PySem.W.instObj C s.heap.objs.size)).get? (s.heap.objs.size + 1)=some (PySem.W.instObj C s.heap.objs.size):=by
    have:=Heap.get?_push_size (s.heap.push PySem.W.emptyDict) (o:=PySem.W.instObj C s.heap.objs.size) rfl
    rwa [Heap.size_push] at this
  have e3:(s.heap.push PySem.W.emptyDict).Ns s.heap.objs.size (fun _=>none):=⟨PySem.W.emptyDict,#[],_,e1,rfl,(fun e he=>absurd he (by simp)),fun _=>rfl⟩
  have I1:=I.laid (a:=s.heap.objs.size) (o:=.own (s.heap.objs.size + 1)) (h':=s.heap.push PySem.W.emptyDict) (t':=s.toks) (fun b u q=>Heap.get?_push_of_some _ q) (Nat.le_refl _) ⟨_,e1⟩
  refine I1.laid (a:=s.heap.objs.size + 1) (o:=.ins C s.heap.objs.size []) (t':=s.toks) (fun b u q=>Heap.get?_push_of_some _ q) (Nat.le_of_eq (Heap.size_push _ _)) ?_
  have ne:s.heap.objs.size≠s.heap.objs.size + 1:=Nat.ne_of_lt (Nat.lt_succ_self _)
  refine ⟨by rw [upd_ne ne,upd_same],Nat.zero_le _,ne,e2,fun _=>none,(Heap.Ns1.of_empty e3).at fun o q=>Heap.get?_push_of_some _ q,fun _=>True.intro,fun y hy=>absurd rfl hy⟩
theorem attr_of {prog:Program} {w:World} {env:Env} {e:Expr} {f:Str} {pos:Pos} {s:Shared} {Q:Value→Shared→Prop} (hb:attributeBase e f env (eval e env)=eval e env)
    (h:wpAny (model prog w) A (eval e env) (fun o s₁=>wpAny (model prog w) A (getAttr o f true) Q E s₁) E s):wpAny (model prog w) A (eval (.Attribute e f pos) env) Q E s :=
  Attribute_any_ h (by rw [arm_eval_Attribute,hb])
end
def tFld (K:PySem.W.Frag) (ta:TE) (f:Str):TE:=fun σ H Q=>ta σ H fun x H1=>∃ a C dx fs v,x = .ref a∧H1 a=some (.ins C dx fs)∧Cls K C∧NoAttr K C f∧fs.lookup f=some v∧Q v H1
def sFld (K:PySem.W.Frag) (ta tv:TE) (f:Str):TS:=fun D σ H=>tv σ H fun y H1=>ta σ H1 fun x H2=>∃ a C dx fs,x = .ref a∧H2 a=some (.ins C dx fs)∧Cls K C∧NoAttr K C f∧fs.length < 1000 ∧
  D.nx σ (upd H2 a (.ins C dx (putF f y fs)))
section
variable {X:Cx} {o e value:Expr} {f:Str} {pos pos' tpos:Pos} {ta tv:TE}
theorem pe_fld (he:PE X e ta) (hb:attributeBase e f X.env (eval e X.env)=eval e X.env):PE X (.Attribute e f pos) (tFld X.K ta f):=by
  intro pins s σ H Q I h
  refine attr_of hb (thn (he pins s σ H _ I h) fun u s1 ⟨x,H1,I1,rx,a,C,dx,fs,v,ex,ea,c,n,l,q⟩=>?_)
  subst ex
  obtain rfl:u=Value.ref a:=rx
  exact getattr_ok I1 ea c n l fun u' s2 I2 ru=>⟨v,H1,I2,ru,q⟩
theorem ps_fld (ha:PE X o ta) (hv:PE X value tv) (hs:swapsWith value (some (.Attribute o f pos')) pos.line X.env=pure false):PS X (.Assign [.Attribute o f pos'] value pos) (sFld X.K ta tv f):=by
  intro pins s σ H D I h
  refine plainObj_wpAny_Assign_Attribute (thn (hv pins s σ H _ I h) fun u s1 ⟨y,H1,I1,ry,q⟩=>thn (ha pins s1 σ H1 _ I1 q) fun ov s2 ⟨x,H2,I2,rx,a,C,dx,fs,ex,ea,c,n,l,q2⟩=>?_) hs
  subst ex
  obtain rfl:ov=Value.ref a:=rx
  exact setattr_ok I2 ea c n l ry fun s3 I3=>⟨σ,_,I3,q2⟩
end
section
variable {X:Cx} {pins:List (Addr × Obj)} {σ:St} {H:Hp} {s:Shared} {A:Around} {E:Value→Shared→Prop} {Q:Value→Shared→Prop} {c:Value} {b:Bool}
inductive TyOf (K:PySem.W.Frag) (H:Hp):V→Value→Prop where
  | non:TyOf K H .non (.type "NoneType")
  | bl (x:Bool):TyOf K H (.bl x) (.type "bool")
  | int (i:Int):TyOf K H (.int i) (.type "int")
  | str (x:Str):TyOf K H (.str x) (.type "str")
  | flt (x:UInt64):TyOf K H (.flt x) (.type "float")
  | lst {a:Addr} {xs:List V} (e:H a=some (.lst xs)):TyOf K H (.ref a) (.type "list")
  | frz {a:Addr} {o:Obj} {xs:List V} (e:H a=some (.frz o (.lst xs))):TyOf K H (.ref a) (.type "list")
  | tup {a:Addr} {xs:List V} (e:H a=some (.tup xs)):TyOf K H (.ref a) (.type "tuple")
  | dK {a:Addr} {kvs:List (Key × V)} (e:H a=some (.dK kvs)):TyOf K H (.ref a) (.type "dict")
  | dT {a:Addr} {kvs:List (List Key × V)} (e:H a=some (.dT kvs)):TyOf K H (.ref a) (.type "dict")
  | ins {a C dx:Addr} {fs:List (Str × V)} (e:H a=some (.ins C dx fs)) (cl:Cls K C) (ha:PySem.W.findIn K (.ref C) "__class__" = some (some (.builtin "object.__class__")))
      (hn:PySem.W.specialIn K (.builtin "object.__class__") "__get__" = some (some (.builtin "getset_descriptor.__get__"))) (htk:PySem.W.takesIn K (.builtin "object.__class__")=some true)
      (hm:PySem.W.mroIn K C (.type "object")=some true):TyOf K H (.ref a) (.ref C)
theorem isinst_ok {x:V} {u t:Value} (I:Inv X pins σ H s) (rx:RelV x u) (ty:TyOf X.K H x t) (e:PySem.W.kitOne X.K t c=some b) (h:∀ tk,Q (.bool b) { s with toks:=tk }) :
    wpAny (model X.prog X.w) A (call (.builtin "isinstance") [u,c]) Q E s:=by
  cases ty with
  | non=>cases (show u=Value.none from rx); exact PySem.W.kia_one PySem.W.kitx_none I.kIn True.intro e (fun z=>nomatch z) h
  | bl y=>cases (show u=Value.bool y from rx); exact PySem.W.kia_one PySem.W.kitx_bool I.kIn True.intro e (fun z=>nomatch z) h
  | int i=>obtain ⟨t,q⟩:=(show ∃ t,u=Value.int i t from rx); cases q; exact PySem.W.kia_one PySem.W.kitx_int I.kIn True.intro e (fun z=>nomatch z) h
  | str y=>obtain ⟨t,q⟩:=(show ∃ t,u=Value.str y t from rx); cases q; exact PySem.W.kia_one PySem.W.kitx_str I.kIn True.intro e (fun z=>nomatch z) h
  | flt y=>obtain ⟨t,q⟩:=(show ∃ t,u=Value.float y t from rx); cases q; exact PySem.W.kia_one PySem.W.kitx_float I.kIn True.intro e (fun z=>nomatch z) h
  | @lst a xs ea =>
    cases (show u=Value.ref a from rx)
    obtain ⟨_,_,n,_,h1⟩:=(show ObjOk X.prog X.w H s.heap a (.lst xs) from I.hok a _ ea)
    exact PySem.W.kia_one PySem.W.kitx_list I.kIn ⟨_,h1,rfl⟩ e (fun z=>nomatch z) h
  | @frz a ob xs ea =>
    cases (show u=Value.ref a from rx)
    obtain ⟨_,_,_,n,_,h1⟩:=(show ObjOk X.prog X.w H s.heap a (.frz ob (.lst xs)) from I.hok a _ ea)
    exact PySem.W.kia_one PySem.W.kitx_list I.kIn ⟨_,h1,rfl⟩ e (fun z=>nomatch z) h
  | @tup a xs ea =>
    cases (show u=Value.ref a from rx)
    obtain ⟨_,_,_,p⟩:=(show ObjOk X.prog X.w H s.heap a (.tup xs) from I.hok a _ ea)
    obtain ⟨o,h1,h2,_⟩:=p
    exact PySem.W.kia_one PySem.W.kitx_tuple I.kIn ⟨o,h1,h2⟩ e (fun z=>nomatch z) h
  | @dK a kvs ea =>
    cases (show u=Value.ref a from rx)
    obtain ⟨_,_,vs,_,p⟩:=(show ObjOk X.prog X.w H s.heap a (.dK kvs) from I.hok a _ ea)
    obtain ⟨o,es,ep,h1,h2,_⟩:=p
    exact PySem.W.kia_one PySem.W.kitx_dict I.kIn ⟨o,h1,h2.1⟩ e (fun z=>nomatch z) h
  | @dT a kvs ea =>
    cases (show u=Value.ref a from rx)
    obtain ⟨_,_,xs,_,o,es,ep,h1,h2,_⟩:=(show ObjOk X.prog X.w H s.heap a (.dT kvs) from I.hok a _ ea)
    exact PySem.W.kia_one PySem.W.kitx_dict I.kIn ⟨o,h1,h2.1⟩ e (fun z=>nomatch z) h
  | @ins a C dx fs ea cl ha hn htk hm =>
    cases (show u=Value.ref a from rx)
    obtain ⟨mA,O,_⟩:=ins_get I.hok ea
    obtain ⟨od,J,_⟩:=O.look
    exact PySem.W.kia_one (PySem.W.kitx_own (cl.get _) cl.hd ha hn htk hm) I.kIn J e (fun z=>nomatch z) h
end
end L2
namespace L2
open PySem PySem.Spec PyProof.Rows
structure Room (k:Nat) (A:Around):Prop where
  hd:A.handled=none
  dp:A.depth + 3 * k + 5 < recursionLimit
  un:A.units + 16 * k + 200 < cLine
theorem Room.mono {j k:Nat} {A:Around} (r:Room k A) (h:j≤k):Room j A:=⟨r.hd,by have:=r.dp; omega,by have:=r.un; omega⟩
theorem Room.deeper {k:Nat} {A:Around} (r:Room (k + 1) A) (env:Env):Room k (A.deeper env) :=
  ⟨r.hd,by have:=r.dp; show A.depth + 1 + 3 * k + 5 < _; omega,by have:=r.un; show A.units + 3 + 16 * k + 200 < _; omega⟩
theorem make_depth {A:Around} {C:Addr} {us:List Value} {kw:List (Str × Value)}:(A.under (.builtin "type.__call__" ⟨.ref C :: us,kw⟩)).depth=A.depth + 1:=by
  first | rfl | simp [Around.under,Code.weight,Code.isCreation,Code.isGuard,Code.isCaller,Code.frames,Code.isFrame,guardIds]
theorem make_units {A:Around} {C:Addr} {us:List Value} {kw:List (Str × Value)}:(A.under (.builtin "type.__call__" ⟨.ref C :: us,kw⟩)).units=A.units + 1:=by
  first | rfl | simp [Around.under,Code.cUnits,Code.frames,Code.isFrame]
theorem Room.make {k:Nat} {A:Around} (r:Room (k + 1) A) (C:Addr) (us:List Value) (kw:List (Str × Value)):Room k (A.under (.builtin "type.__call__" ⟨.ref C :: us,kw⟩)) :=
  ⟨r.hd,by have:=r.dp; rw [make_depth]; omega,by have:=r.un; rw [make_units]; omega⟩
theorem Room.depth {k:Nat} {A:Around} (r:Room k A):A.depth < recursionLimit:=by have:=r.dp; omega
theorem Room.units {k:Nat} {A:Around} (r:Room k A):A.units + 64 < cLine:=by have:=r.un; omega
def tNil:TA:=fun _ H Q=>Q [] H
def tCons (ta:TE) (tr:TA):TA:=fun σ H Q=>ta σ H fun x H1=>tr σ H1 fun xs H2=>Q (x :: xs) H2
section
variable {X:Cx} {e:Expr} {es:List Expr} {te:TE} {t:TA} {pos:Pos}
theorem pa_nil:PA X [] tNil:=fun _ _ _ _ H Q I h=>Calls.spliced_nil ⟨[],H,I,.nil,h⟩
theorem pa_cons (ha:PE X e te) (hr:PA X es t) (hs:starEach (e :: es) X.env=(false,eval e X.env) :: starEach es X.env:=by rfl):PA X (e :: es) (tCons te t):=by
  intro pos pins s σ H Q I h
  rw [hs]
  show wpAny _ _ (spliced ((false,eval e X.env) :: backTo pos (starEach es X.env))) _ _ s
  refine Calls.spliced_cons (thn (ha pins s σ H _ I h) fun u s1 ⟨x,H1,I1,r1,q1⟩=>?_)
  exact thn (hr pos pins s1 σ H1 _ I1 q1) fun us s2 ⟨xs,H2,I2,r2,q2⟩=>⟨x :: xs,H2,I2,.cons r1 r2,q2⟩
def tTup (t:TA):TE:=fun σ H Q=>t σ H fun xs H1=>xs.length≤sizeLine∧∀ p,H1 p=none→Q (.ref p) (upd H1 p (.tup xs))
def tLst (t:TA):TE:=fun σ H Q=>t σ H fun xs H1=>xs.length≤sizeLine∧∀ p,H1 p=none→Q (.ref p) (upd H1 p (.lst xs))
theorem pe_tup {x1} (h:PA X es t):PE X (.Tuple es x1 pos) (tTup t):=by
  intro pins s σ H Q I hq
  refine wpAny_Tuple_spliced (thn (h pos pins s σ H _ I hq) fun us s1 ⟨xs,H1,I1,r,z,q⟩=>⟨by rw [← r.length]; exact z,?_⟩)
  have hf:H1 s1.heap.objs.size=none:=I1.hok.fresh (Nat.le_refl _)
  refine ⟨.ref s1.heap.objs.size,upd H1 s1.heap.objs.size (.tup xs),I1.laid (t':=s1.toks) (fun b u e=>Heap.get?_push_of_some _ e) (Nat.le_refl _) ?_,rfl,q _ hf⟩
  exact ⟨z,us,r,⟨_,Heap.get?_push_size _ rfl,rfl,_,rfl⟩⟩
theorem pe_lst (h:PA X es t):PE X (.List es pos) (tLst t):=by
  intro pins s σ H Q I hq
  refine wpAny_List_spliced (thn (h pos pins s σ H _ I hq) fun us s1 ⟨xs,H1,I1,r,z,q⟩=>⟨by rw [← r.length]; exact z,?_⟩)
  have hf:H1 s1.heap.objs.size=none:=I1.hok.fresh (Nat.le_refl _)
  refine ⟨.ref s1.heap.objs.size,upd H1 s1.heap.objs.size (.lst xs),I1.laid (t':=s1.toks) (fun b u e=>Heap.get?_push_of_some _ e) (Nat.le_refl _) ?_,rfl,q _ hf⟩
  exact ⟨z,us,0,r,Heap.get?_push_size _ rfl⟩
end
abbrev Sp:=List V→Hp→VK→XK→Prop
abbrev CXT:=List Env→Hp→Shared→XK→Value→Shared→Prop
structure Env0 (P:Program) (w:World) (K:PySem.W.Frag) (mg:Str→Option Value) (base:Heap) (A:Around) (outer:List Env) (s:Shared) (H:Hp):Prop where
  frames:A.frames=some outer
  mod:Mod K mg base
  bs:∀ b o,base.get? b=some o→s.heap.get? b=some o∧H b=none
  bsz:base.objs.size≤s.heap.objs.size
  funs:s.heap.FunFrames base outer
  frf:∀ b∈frs outer,H b=none
  hok:HOk P w H s.heap
  bare:AllBare s.gens
def CE (outer:List Env) (P:Program) (w:World) (H:Hp) (s:Shared) (Q:VK) (u:Value) (s':Shared):Prop :=
  ∃ v H',s'.os=s.os∧AllBare s'.gens∧Un (frs outer) [] H H' s.heap s'.heap∧HOk P w H' s'.heap∧RelV v u∧Q v H'
def CR (CX:CXT) (outer:List Env) (P:Program) (w:World) (H:Hp) (s:Shared) (Q:VK) (E:XK) (r:Result) (s':Shared):Prop :=
  match r with
  | .ok (.ret u)=>CE outer P w H s Q u s'
  | .ok _=>False
  | .error e=>CX outer H s E e s'
structure FnOk (P:Program) (w:World) (K:PySem.W.Frag) (mg:Str→Option Value) (base:Heap) (CX:CXT) (k:Nat) (f:Addr) (fd:FuncData) (ps:List Str) (sp:Sp):Prop where
  len:∀ vs H Q E,sp vs H Q E→vs.length=ps.length
  run:∀ (A:Around) (outer:List Env) (s:Shared) (H:Hp) (args:Args) (us:List Value) (vs:List V) (Q:VK) (E:XK),Room k A→Env0 P w K mg base A outer s H→BindsTo s fd args (ps.zip us)→Vals vs us→sp vs H Q E →
    codeAny (model P w) A (.call (.ref f) args) (CR CX outer P w H s Q E) s
theorem Env0.make {P:Program} {w:World} {K:PySem.W.Frag} {mg:Str→Option Value} {base:Heap} {A:Around} {outer:List Env} {s:Shared} {H:Hp} (e:Env0 P w K mg base A outer s H) (C:Addr) (us:List Value) (kw:List (Str × Value)) :
    Env0 P w K mg base (A.under (.builtin "type.__call__" ⟨.ref C :: us,kw⟩)) outer s H:=⟨by first | exact e.frames | (simpa [Around.under,Code.envs,Code.isFrame,pushEnvs] using e.frames),e.mod,e.bs,e.bsz,e.funs,e.frf,e.hok,e.bare⟩
section
variable {X:Cx} {pins:List (Addr × Obj)} {σ:St} {H:Hp} {s s':Shared}
theorem Inv.env0 (I:Inv X pins σ H s):Env0 X.prog X.w X.K X.mg X.base X.A X.stack s H :=
  ⟨I.ok.frames,I.ok.mod,I.bs,Nat.le_trans I.ok.bsz I.sz,I.stack,I.stkFree,I.hok,I.bare⟩
theorem Inv.after {Q:VK} {u:Value} (I:Inv X pins σ H s) (h:CE X.stack X.prog X.w H s Q u s'):EP X pins σ Q u s':=by
  obtain ⟨v,H',os,bare,un,hok,r,q⟩:=h
  obtain ⟨hh,g,d,t,os'⟩:=s'
  obtain rfl:os'=s.os:=os
  exact ⟨v,H',I.call (h':=hh) (g':=g) (d':=d) (t':=t) (ch:=[]) un hok bare (fun b z=>absurd z (by simp)),r,q⟩
end
def tCall (sp:Sp) (dvs:List V) (E:XK) (t:TA):TE:=fun σ H Q=>t σ H fun vs H1=>sp (vs++dvs) H1 Q E
def tMeth (C:Addr) (m:Str) (sp:Sp) (dvs:List V) (E:XK) (ta:TE) (t:TA):TE:=fun σ H Q=>ta σ H fun x H1=>∃ a dx fs,x = .ref a∧H1 a=some (.ins C dx fs)∧fs.lookup m=none ∧
  t σ H1 fun vs H2=>sp (x :: (vs++dvs)) H2 Q E
def tMake (C:Addr) (sp:Sp) (dvs:List V) (E:XK) (t:TA):TE:=fun σ H Q=>t σ H fun vs H1=>∀ x dx,H1 x=none→H1 dx=none→dx≠x →
  sp (.ref x :: (vs++dvs)) (upd (upd H1 dx (.own x)) x (.ins C dx [])) (fun v H2=>v = .non∧Q (.ref x) H2) E
def Binds (K:PySem.W.Frag) (fd:FuncData) (ps:List Str) (ds:List Value):Prop :=
  ∀ (s:Shared) (us:List Value),K.In s.heap→(us++ds).length=ps.length→BindsTo s fd ⟨us,[]⟩ (ps.zip (us++ds))
theorem Binds.all {K:PySem.W.Frag} {fd:FuncData} {ps:List Str} (h:∀ us:List Value,us.length=ps.length→bindArgs fd ⟨us,[]⟩=pure (ps.zip us)):Binds K fd ps []:=fun s us _ hl=>by
  rw [List.append_nil] at hl ⊢
  exact .of_eq (h us hl)
def Passes (CX:CXT) (X:Cx) (E:XK):Prop:=∀ (pins:List (Addr × Obj)) (σ:St) (H:Hp) (s:Shared) (e:Value) (s':Shared),Inv X pins σ H s→CX X.stack H s E e s'→X.xe e s'
section
variable {X:Cx} {CX:CXT} {k:Nat} {f C:Addr} {fd:FuncData} {ps:List Str} {sp:Sp} {dvs:List V} {ds:List Value} {E:XK} {x m:Str} {p pos apos:Pos} {e o:Expr} {es:List Expr} {ta:TE} {t:TA}
theorem run_fn {pins:List (Addr × Obj)} {σ:St} {H:Hp} {s:Shared} {Q:VK} {us:List Value} {vs:List V} (F:FnOk X.prog X.w X.K X.mg X.base CX k f fd ps sp) (hr:Room k X.A) (hb:Binds X.K fd ps ds) (hd:Vals dvs ds) (hx:Passes CX X E)
    (I:Inv X pins σ H s) (r:Vals vs us) (h:sp (vs++dvs) H Q E):wpAny (model X.prog X.w) X.A (call (.ref f) us) (EP X pins σ Q) X.xe s:=by
  have r2:Vals (vs++dvs) (us++ds):=r.append hd
  have hl:(us++ds).length=ps.length:=by rw [← r2.length]; exact F.len _ _ _ _ h
  refine wpAny_call (codeAny_mono (F.run X.A X.stack s H ⟨us,[]⟩ (us++ds) (vs++dvs) Q E hr I.env0 (hb s us I.kIn hl) r2 h) fun r s' hq=>?_)
  cases r with
  | error e=>exact hx pins σ H s e s' I hq
  | ok fl =>
    cases fl with
    | ret u=>exact I.after hq
    | next=>exact False.elim hq
    | brk=>exact False.elim hq
    | cont=>exact False.elim hq
theorem pe_call (F:FnOk X.prog X.w X.K X.mg X.base CX k f fd ps sp) (hr:Room k X.A) (hg:Gl X x) (hm:X.mg x=some (.ref f)) (hk:PySem.W.keepIn X.K (.ref f)=true) (hb:Binds X.K fd ps ds) (hd:Vals dvs ds) (hx:Passes CX X E)
    (ha:PA X (e :: es) t) (hdb:(x == ("__debug__" : Str))=false:=by decide) (he:starEach (e :: es) X.env=(false,eval e X.env) :: starEach es X.env:=by rfl) (hpl:(backTo pos (starEach es X.env)).any (·.1)=false:=by rfl) :
    PE X (.Call (.Name x p) (e :: es) [] pos) (tCall sp dvs E t):=by
  intro pins s σ H Q I h
  refine wpAny_Call_Name_kw (ld_glob I hg hm ?_ hdb)
  refine PySem.W.callWith_K (h₀:=X.base) I.ok.mod.kin hk (thn (ha pos pins s σ H _ I h) fun us s1 ⟨vs,H1,I1,r,q⟩=>⟨I1.kIn,?_⟩) he hpl
  exact run_fn F hr hb hd hx I1 r q
theorem pe_meth {pl:Sem Bool} (he:PE X o ta) (c:Cls X.K C) (hm:Meth X.K C m f) (F:FnOk X.prog X.w X.K X.mg X.base CX k f fd ps sp) (hr:Room k X.A) (hb:Binds X.K fd ps ds) (hd:Vals dvs ds) (hx:Passes CX X E) (ha:PA X (e :: es) t)
    (hst:starEach (e :: es) X.env=(false,eval e X.env) :: starEach es X.env:=by rfl) (hpl:(backTo pos (starEach es X.env)).any (·.1)=false:=by rfl)
    (ht:eval (.Call (.Attribute o m apos) (e :: es) [] pos) X.env=(do
      let ov ← eval o X.env
      standAt apos.atName
      let (f,first) ← holding [ov] (getMethod ov m pl)
      callWith pos f first (backTo pos (starEach (e :: es) X.env)) (backToKw pos (keywordEach [] X.env))):=by rfl) :
    PE X (.Call (.Attribute o m apos) (e :: es) [] pos) (tMeth C m sp dvs E ta t):=by
  intro pins s σ H Q I h
  refine PySem.W.methodCall_KW (pl:=pl) (thn (he pins s σ H _ I h) fun u s1 ⟨x,H1,I1,rx,a,dx,fs,ex,ea,l,q⟩=>?_) ht
  subst ex
  obtain rfl:u=Value.ref a:=rx
  refine getmeth_ok I1 ea c hm l ?_
  refine PySem.W.callWith_K (first:=[.ref a]) (h₀:=X.base) I.ok.mod.kin hm.kp (thn (ha pos pins s1 σ H1 _ I1 q) fun us s2 ⟨vs,H2,I2,r,q2⟩=>⟨I2.kIn,?_⟩) hst hpl
  exact run_fn (us:=.ref a :: us) (vs:=.ref a :: vs) F hr hb hd hx I2 (.cons rfl r) q2
theorem pe_meth0 {pl:Sem Bool} (he:PE X o ta) (c:Cls X.K C) (hm:Meth X.K C m f) (F:FnOk X.prog X.w X.K X.mg X.base CX k f fd ps sp) (hr:Room k X.A) (hb:Binds X.K fd ps ds) (hd:Vals dvs ds) (hx:Passes CX X E)
    (ht:eval (.Call (.Attribute o m apos) [] [] pos) X.env=(do
      let ov ← eval o X.env
      standAt apos.atName
      let (f,first) ← holding [ov] (getMethod ov m pl)
      callWith pos f first (backTo pos (starEach [] X.env)) (backToKw pos (keywordEach [] X.env))):=by rfl) :
    PE X (.Call (.Attribute o m apos) [] [] pos) (tMeth C m sp dvs E ta tNil):=by
  intro pins s σ H Q I h
  refine PySem.W.methodCall_KW (pl:=pl) (thn (he pins s σ H _ I h) fun u s1 ⟨x,H1,I1,rx,a,dx,fs,ex,ea,l,q⟩=>?_) ht
  subst ex
  obtain rfl:u=Value.ref a:=rx
  refine getmeth_ok I1 ea c hm l ?_
  exact PySem.W.callWith_K0 (first:=[.ref a]) I1.kIn hm.kp (run_fn (us:=[.ref a]) (vs:=[.ref a]) F hr hb hd hx I1 (.cons rfl .nil) q)
structure Mk (K:PySem.W.Frag) (C f:Addr):Prop where
  makes:PySem.W.makesIn K C=true
  init:PySem.W.findIn K (.ref C) "__init__" = some (some (.ref f))
  fn:PySem.W.isFn K (.ref f)=true
  kp:PySem.W.keepIn K (.ref C)=true
theorem run_make {pins:List (Addr × Obj)} {σ:St} {H:Hp} {s:Shared} {Q:VK} {us:List Value} {vs:List V} (M:Mk X.K C f) (F:FnOk X.prog X.w X.K X.mg X.base CX k f fd ps sp) (hr:Room (k + 1) X.A) (hb:Binds X.K fd ps ds) (hd:Vals dvs ds)
    (hx:Passes CX X E) (I:Inv X pins σ H s) (r:Vals vs us)
    (h:∀ x dx,H x=none→H dx=none→dx≠x→sp (.ref x :: (vs++dvs)) (upd (upd H dx (.own x)) x (.ins C dx [])) (fun v H2=>v = .non∧Q (.ref x) H2) E) :
    wpAny (model X.prog X.w) X.A (call (.ref C) us) (EP X pins σ Q) X.xe s:=by
  have hq:=h (s.heap.objs.size + 1) s.heap.objs.size (I.hok.fresh (Nat.le_succ _)) (I.hok.fresh (Nat.le_refl _)) (Nat.ne_of_lt (Nat.lt_succ_self _))
  have I2:=Inv.made (C:=C) I
  have r2:Vals (V.ref (s.heap.objs.size + 1) :: (vs++dvs)) (Value.ref (s.heap.objs.size + 1) :: (us++ds)):=.cons rfl (r.append hd)
  have hl:(Value.ref (s.heap.objs.size + 1) :: us++ds).length=ps.length:=by
    have e:=r2.length
    rw [F.len _ _ _ _ hq] at e
    exact e.symm
  refine wpAny_call (make_map (f:=f) I.kIn M.makes M.init (beq_iff_eq.mp M.fn) (codeAny_mono (F.run _ X.stack _ _ ⟨Value.ref (s.heap.objs.size + 1) :: us,[]⟩ (Value.ref (s.heap.objs.size + 1) :: (us++ds)) _ _ E (hr.make C us [])
    (I2.env0.make C us []) (hb _ (Value.ref (s.heap.objs.size + 1) :: us) I2.kIn hl) r2 hq) fun r s' hq'=>?_))
  cases r with
  | error e=>exact hx pins σ _ _ e s' I2 hq'
  | ok fl =>
    cases fl with
    | ret u =>
      obtain ⟨v,H',I3,rv,ev,q3⟩:=I2.after hq'
      subst ev
      exact ⟨rv,⟨V.ref (s.heap.objs.size + 1),H',I3,rfl,q3⟩⟩
    | next=>exact False.elim hq'
    | brk=>exact False.elim hq'
    | cont=>exact False.elim hq'
theorem pe_make (M:Mk X.K C f) (F:FnOk X.prog X.w X.K X.mg X.base CX k f fd ps sp) (hr:Room (k + 1) X.A) (hg:Gl X x) (hm:X.mg x=some (.ref C)) (hb:Binds X.K fd ps ds) (hd:Vals dvs ds) (hx:Passes CX X E)
    (ha:PA X (e :: es) t) (hdb:(x == ("__debug__" : Str))=false:=by decide) (he:starEach (e :: es) X.env=(false,eval e X.env) :: starEach es X.env:=by rfl) (hpl:(backTo pos (starEach es X.env)).any (·.1)=false:=by rfl) :
    PE X (.Call (.Name x p) (e :: es) [] pos) (tMake C sp dvs E t):=by
  intro pins s σ H Q I h
  refine wpAny_Call_Name_kw (ld_glob I hg hm ?_ hdb)
  refine PySem.W.callWith_K (h₀:=X.base) I.ok.mod.kin M.kp (thn (ha pos pins s σ H _ I h) fun us s1 ⟨vs,H1,I1,r,q⟩=>⟨I1.kIn,?_⟩) he hpl
  exact run_make M F hr hb hd hx I1 r q
theorem pe_make0 (M:Mk X.K C f) (F:FnOk X.prog X.w X.K X.mg X.base CX k f fd ps sp) (hr:Room (k + 1) X.A) (hg:Gl X x) (hm:X.mg x=some (.ref C)) (hb:Binds X.K fd ps ds) (hd:Vals dvs ds) (hx:Passes CX X E)
    (hdb:(x == ("__debug__" : Str))=false:=by decide):PE X (.Call (.Name x p) [] [] pos) (tMake C sp dvs E tNil):=by
  intro pins s σ H Q I h
  refine wpAny_Call_Name_kw (ld_glob I hg hm ?_ hdb)
  exact PySem.W.callWith_K0 I.kIn M.kp (run_make (us:=[]) M F hr hb hd hx I .nil h)
end
structure FnScope (N P:List Str) (sc:Scope):Prop where
  kind:sc.kind = .function
  co:sc.isCoroutine=false
  gen:sc.isGenerator=false
  nd:N.Nodup
  pre:N.take P.length=P
  par:∀ x∈P,sc.names.lookup x=some .local∨sc.names.lookup x=some .cell
  nofree:∀ y∈sc.names,y.2≠.free
theorem bindL_out {kindOf:Str→Option NameKind} {x:Str}:∀ {binds:List (Str × Value)} {m:Str→Option Value},(∀ v,(x,v) ∉ binds)→bindL kindOf binds m x=m x
  | [],_,_=>rfl
  | (n,v) :: r,m,h=>by
    unfold bindL
    rw [bindL_out fun w hw=>h w (List.mem_cons_of_mem _ hw)]
    split
    · have:x≠n:=by rintro rfl; exact h v List.mem_cons_self
      simp [this]
    · rfl
theorem bindC_out {kindOf:Str→Option NameKind} {x:Str}:∀ {binds:List (Str × Value)} {m:Str→Option Value},(∀ v,(x,v) ∉ binds)→bindC kindOf binds m x=m x
  | [],_,_=>rfl
  | (n,v) :: r,m,h=>by
    unfold bindC
    rw [bindC_out fun w hw=>h w (List.mem_cons_of_mem _ hw)]
    split
    · rfl
    · have:x≠n:=by rintro rfl; exact h v List.mem_cons_self
      simp [this]
theorem bindL_get {kindOf:Str→Option NameKind} {x:Str} {v:Value}:∀ {P:List Str} {vs:List Value} {i:Nat} {m:Str→Option Value},P.Nodup→P[i]?=some x→vs[i]?=some v→kindOf x=some .local →
    bindL kindOf (P.zip vs) m x=some v
  | [],_,_,_,_,h,_,_=>by simp at h
  | _ :: _,[],_,_,_,_,h,_=>by simp at h
  | p :: P,w :: vs,0,m,nd,h1,h2,hk=>by
    simp at h1 h2; subst h1; subst h2
    show bindL kindOf ((p,w) :: P.zip vs) m p=_
    unfold bindL
    rw [bindL_out fun v hv=>(List.nodup_cons.mp nd).1 (List.of_mem_zip hv).1,if_pos hk]
    simp
  | p :: P,w :: vs,i + 1,m,nd,h1,h2,hk=>by
    show bindL kindOf ((p,w) :: P.zip vs) m x=_
    unfold bindL
    exact bindL_get (i:=i) (List.nodup_cons.mp nd).2 (by simpa using h1) (by simpa using h2) hk
theorem bindC_get {kindOf:Str→Option NameKind} {x:Str} {v:Value}:∀ {P:List Str} {vs:List Value} {i:Nat} {m:Str→Option Value},P.Nodup→P[i]?=some x→vs[i]?=some v→kindOf x≠some .local →
    bindC kindOf (P.zip vs) m x=some v
  | [],_,_,_,_,h,_,_=>by simp at h
  | _ :: _,[],_,_,_,_,h,_=>by simp at h
  | p :: P,w :: vs,0,m,nd,h1,h2,hk=>by
    simp at h1 h2; subst h1; subst h2
    show bindC kindOf ((p,w) :: P.zip vs) m p=_
    unfold bindC
    rw [bindC_out fun v hv=>(List.nodup_cons.mp nd).1 (List.of_mem_zip hv).1,if_neg hk]
    simp
  | p :: P,w :: vs,i + 1,m,nd,h1,h2,hk=>by
    show bindC kindOf ((p,w) :: P.zip vs) m x=_
    unfold bindC
    exact bindC_get (i:=i) (List.nodup_cons.mp nd).2 (by simpa using h1) (by simpa using h2) hk
def start (N:List Str) (vs:List V):St:=vs.map some++List.replicate (N.length - vs.length) none
def cxOf (CX:CXT) (P:Program) (w:World) (K:PySem.W.Frag) (mg:Str→Option Value) (base:Heap) (N:List Str) (qual:Str) (scope:Scope) (f:Addr) (cd:Value) (A:Around) (outer:List Env) (s:Shared) (H:Hp) (E:XK):Cx where
  prog:=P
  w:=w
  K:=K
  mg:=mg
  base:=base
  A:=A.deeper (envOfC qual scope s.heap.objs.size f cd)
  N:=N
  s₀:=s
  H₀:=H
  env:=envOfC qual scope s.heap.objs.size f cd
  outer:=outer
  stack:=envOfC qual scope s.heap.objs.size f cd :: outer
  ex:=[]
  calm:=true
  fn:=fun _=>true
  pn:=[]
  xe:=fun e s'=>wpAny (model P w) (A.deeper (envOfC qual scope s.heap.objs.size f cd)) (leaving (envOfC qual scope s.heap.objs.size f cd) e) (fun _ s''=>CX outer H s E e s'') (fun e' s''=>CX outer H s E e' s'') s'
theorem cell_has {sc:Scope} {n:Nat} {x:Str} (h:sc.names.lookup x=some .cell):∃ c,(cellsFrom n sc.names []).lookup x=some c:=by
  have q:=PySem.W.cellsFrom_some sc.names n [] (.inl h)
  exact Option.isSome_iff_exists.mp q
theorem inv_start {CX:CXT} {P:Program} {w:World} {K:PySem.W.Frag} {mg:Str→Option Value} {base:Heap} {N ps:List Str} {qual:Str} {scope:Scope} {f:Addr} {cd:Value} {A:Around} {outer:List Env} {s s1:Shared} {H:Hp} {E:XK} {us:List Value} {vs:List V}
    (S:FnScope N ps scope) (hd:A.handled=none) (e0:Env0 P w K mg base A outer s H) (hl:vs.length=ps.length) (r:Vals vs us)
    (x:InCallC s s.heap.objs.size (bindL (envOfC qual scope s.heap.objs.size f cd).kindOf (ps.zip us) fun _=>none) (cellsFrom (s.heap.objs.size + 1) scope.names []) (bindC (envOfC qual scope s.heap.objs.size f cd).kindOf (ps.zip us) fun _=>none) s1) :
    Inv (cxOf CX P w K mg base N qual scope f cd A outer s H E) [] (start N vs) H s1:=by
  have hpl:ps.length≤N.length:=by have:=congrArg List.length S.pre; rw [List.length_take] at this; omega
  obtain ⟨h1,tk,rfl,hk⟩:=x.done
  have noA:∀ b:Addr,b ∉ (cxOf CX P w K mg base N qual scope f cd A outer s H E).ex:=fun b z=>absurd (show b∈([]:List Addr) from z) (by simp)
  refine ⟨⟨e0.mod,S.kind,rfl,rfl,Nat.le_refl _,fun y z c h1 h2=>?_,fun y hy=>?_,fun y c _ h=>?_,fun _=>hd,Around.frames_deeper e0.frames,.inr ⟨rfl,rfl⟩,fun b z=>absurd z (noA b),e0.bs,e0.bsz,fun b _ _=>noA b,fun b z=>absurd z (noA b),e0.funs,e0.frf⟩,
    rfl,e0.bare,Un.kept hk,⟨_,x.toInCall.ns,fun i y v h1 h2 h3=>?_⟩,fun y c h=>⟨_,x.cell y c h⟩,e0.hok.fresh (Nat.le_refl _),fun y c h=>?_,fun p hp=>absurd (show p∈([]:List (Addr × Obj)) from hp) (by simp),e0.hok.kept hk,?_⟩
  · exact name_of_addr x.apart (PySem.mem_of_lookup h1) (PySem.mem_of_lookup h2)
  · have hy:scope.names.lookup y=some .cell∨scope.names.lookup y=some .free:=hy
    rcases hy with hy | hy
    · exact cell_has hy
    · exact absurd rfl (S.nofree _ (PySem.mem_of_lookup hy))
  · exact Nat.le_of_lt (x.above y c (PySem.mem_of_lookup h))
  · have hi:i < vs.length:=by
      unfold start at h2
      by_cases hi:i < vs.length
      · exact hi
      · rw [List.getElem?_append_right (by simpa using hi)] at h2
        rw [List.getElem?_replicate] at h2
        split at h2 <;> cases h2
    have ha:vs[i]?=some v:=by
      unfold start at h2
      rw [List.getElem?_append_left (by simpa using hi),List.getElem?_map] at h2
      cases e:vs[i]? with
      | none=>rw [e] at h2; cases h2
      | some a=>rw [e] at h2; cases h2; rfl
    obtain ⟨u,hu,rv⟩:=r.get ha
    have hp:ps[i]?=some y:=by
      rw [← S.pre,List.getElem?_take_of_lt (by omega)]; exact h1
    have ndP:ps.Nodup:=by rw [← S.pre]; exact S.nd.sublist (List.take_sublist _ _)
    refine ⟨u,rv,?_⟩
    rcases S.par y (List.mem_of_getElem? hp) with k | k
    · exact .inl ⟨k,bindL_get ndP hp hu k⟩
    · obtain ⟨c,e⟩:=cell_has (n:=s.heap.objs.size + 1) k
      refine .inr ⟨.inl k,c,e,?_⟩
      have q:=x.cell y c e
      rw [bindC_get ndP hp hu (by show scope.names.lookup y≠_; rw [k]; decide)] at q
      exact q
  · exact e0.hok.fresh (Nat.le_of_lt (x.above y c (PySem.mem_of_lookup h)))
  · unfold start
    show _=N.length
    rw [List.length_append,List.length_map,List.length_replicate]
    omega
theorem fn_of {CX:CXT} {P:Program} {w:World} {K:PySem.W.Frag} {mg:Str→Option Value} {base:Heap} {k:Nat} {f:Addr} {name qual:Str} {params:Arguments} {body:List Stmt} {scope:Scope} {dV kV doc pm cdv ct oc:Value} {an od:Option Addr}
    {osl:Array (Option Value)} {N ps:List Str} {sp:Sp} (lk:K.lookup f=some ⟨oc,od,.func (PySem.W.fnOf name qual params body scope dV kV doc pm an cdv ct),osl⟩) (hcd:PySem.W.codeIn K cdv qual=true) (S:FnScope N ps scope)
    (len:∀ vs H Q E,sp vs H Q E→vs.length=ps.length)
    (hbody:∀ (A:Around) (outer:List Env) (s:Shared) (H:Hp) (vs:List V) (Q:VK) (E:XK),Room k (A.deeper (envOfC qual scope s.heap.objs.size f cdv))→sp vs H Q E →
      ∃ t,PSs (cxOf CX P w K mg base N qual scope f cdv A outer s H E) body t∧t { nx:=fun _ H'=>Q .non H',rt:=Q } (start N vs) H) :
    FnOk P w K mg base CX (k + 1) f (PySem.W.fnOf name qual params body scope dV kV doc pm an cdv ct) ps sp:=by
  refine ⟨len,fun A outer s H args us vs Q E hr e0 hb r hsp=>?_⟩
  have hl:=len _ _ _ _ hsp
  have KX:K.In s.heap:=e0.mod.kin.keeps fun b o e=>(e0.bs b o e).1
  have lim:s.heap.NoLimit:=e0.mod.nolimit.keeps fun b o e=>(e0.bs b o e).1
  have hkind:∀ y∈ps.zip us,scope.names.lookup y.1=some .local∨(scope.names.lookup y.1=some .cell∧((cellsFrom (s.heap.objs.size + 1) scope.names []).lookup y.1).isSome=true):=fun ⟨n,v⟩ hy=>by
    rcases S.par n (List.of_mem_zip hy).1 with q | q
    · exact .inl q
    · exact .inr ⟨q,PySem.W.cellsFrom_some _ _ _ (.inl q)⟩
  refine codeAny_call_function hr.depth (KX _ _ lk) rfl S.co S.gen rfl (PySem.W.codeRec_of KX hcd) (hb _ _ _ _ ?_)
  refine wpAny_newFunctionEnv_cells S.kind hkind fun env he s1 x=>?_
  subst he
  refine ⟨lim.keeps x.toInCall.keep,codeAny_func ?_⟩
  obtain ⟨t,ht,hq⟩:=hbody A outer s H vs Q E (hr.deeper _) hsp
  have I:Inv (cxOf CX P w K mg base N qual scope f cdv A outer s H E) [] (start N vs) H s1:=inv_start S hr.hd e0 hl r x
  refine wpAny_mono (ht [] s1 (start N vs) H _ I hq) (fun fl s' hs=>?_) fun e s' hs=>hs
  have fin:∀ {σ':St} {H':Hp} {v:V} {u:Value},Inv (cxOf CX P w K mg base N qual scope f cdv A outer s H E) [] σ' H' s'→RelV v u→Q v H'→CE outer P w H s Q u s' :=
    fun {σ' H' v u} J rv q=>⟨v,H',J.os,J.bare,J.base,J.hok,rv,q⟩
  cases fl with
  | ret u =>
    obtain ⟨v,σ',H',J,rv,q⟩:=hs
    exact fin J rv q
  | next =>
    obtain ⟨σ',H',J,q⟩:=hs
    exact fin (v:=V.non) (u:=Value.none) J rfl q
  | brk =>
    obtain ⟨_,_,_,q⟩:=hs
    exact False.elim q
  | cont =>
    obtain ⟨_,_,_,q⟩:=hs
    exact False.elim q
end L2
namespace L2
open PySem PySem.Spec PyProof.Rows
section
variable {X:Cx} {x:Str} {p pos:Pos} {e:Expr} {es:List Expr} {t:TA} {id T:String} {r:List V→Hp→VK→Prop}
def tCB (r:List V→Hp→VK→Prop) (t:TA):TE:=fun σ H Q=>t σ H fun vs H1=>r vs H1 Q
theorem pe_callB (hc:CallR X (.builtin id) r) (hg:Gl X x) (hm:X.mg x=none) (hv:bootBuiltins x=some (.builtin id)) (ha:PA X (e :: es) t) (hn:x≠"__name__" := by decide) (hdb:(x == ("__debug__" : Str))=false:=by decide)
    (he:starEach (e :: es) X.env=(false,eval e X.env) :: starEach es X.env:=by rfl) (hpl:(backTo pos (starEach es X.env)).any (·.1)=false:=by rfl):PE X (.Call (.Name x p) (e :: es) [] pos) (tCB r t):=by
  intro pins s σ H Q I h
  refine wpAny_Call_Name_kw (ld_blt I hg hm hv ?_ hn hdb)
  exact PyProof.Rows.callWith_builtin1 (thn (ha pos pins s σ H _ I h) fun us s1 ⟨vs,H1,I1,r1,q1⟩=>hc pins s1 σ H1 vs us Q I1 r1 q1) he hpl
theorem pe_callTy (hc:CallR X (.type T) r) (hg:Gl X x) (hm:X.mg x=none) (hv:bootBuiltins x=some (.type T)) (ha:PA X (e :: es) t) (hn:x≠"__name__" := by decide) (hdb:(x == ("__debug__" : Str))=false:=by decide)
    (he:starEach (e :: es) X.env=(false,eval e X.env) :: starEach es X.env:=by rfl) (hpl:(backTo pos (starEach es X.env)).any (·.1)=false:=by rfl):PE X (.Call (.Name x p) (e :: es) [] pos) (tCB r t):=by
  intro pins s σ H Q I h
  refine wpAny_Call_Name_kw (ld_blt I hg hm hv ?_ hn hdb)
  exact PyProof.Rows.callWith_type1 (thn (ha pos pins s σ H _ I h) fun us s1 ⟨vs,H1,I1,r1,q1⟩=>hc pins s1 σ H1 vs us Q I1 r1 q1) he hpl
end
end L2
namespace HT
open PySem PyProof.Rows
theorem eqAt_int (A:Around) (s:Shared) (a:Int) (t:Tok) (c:Int) (u:Tok):∃ e,SeqAt.EqAt A s (.int a t) (.int c u) e∧(e=true↔a=c) :=
  ⟨(a == c),SeqAt.EqAt.int_int a t c u,by simp⟩
theorem rcLt_int (A:Around) (s:Shared) (a:Int) (t:Tok) (c:Int) (u:Tok) (prog:Program) (w:World) (E:Value→Shared→Prop) (Q:Value→Shared→Prop) (h:Q (.bool (decide (a < c))) s) :
    wpAny (model prog w) A (richCompare .Lt (.int a t) (.int c u)) Q E s :=
  (PyProof.Rows.lt_int h:wpAny (model prog w) A (compareOp .Lt (.int a t) (.int c u)) Q E s)
section
open PySem.SeqAt
open PySem.AutoSeq1 (wpAny_loadPart')
open PySem.MeetsSeq PySem.MeetsSeq2 PySem.MeetsSeq3
end
section
variable {prog:Program} {w:World} {A:Around} {E:Value→Shared→Prop} {s:Shared}
theorem cat_tup {t b:Addr} {vs ws:List Value} {Q:Value→Shared→Prop} (ht:IsTup s.heap t vs.toArray) (hb:IsTup s.heap b ws.toArray) (hv:vs≠[])
    (h1:ws = []→Q (.ref t) s) (h2:ws≠[]→Q (.ref s.heap.objs.size) { s with heap:=s.heap.push { cls:=.type "tuple",data:=.seq (vs++ws).toArray } })
    (hsz:vs.length + ws.length≤sizeLine):wpAny (model prog w) A (binaryOp .Add (.ref t) (.ref b)) Q E s:=by
  obtain ⟨⟨cls,dd,data,sl⟩,ho,hc,n,hd⟩:=id ht
  obtain ⟨⟨cls2,dd2,data2,sl2⟩,ho2,hc2,n2,hd2⟩:=id hb
  simp only at hc hd hc2 hd2
  subst hc hd hc2 hd2
  have e:vs.toArray++ws.toArray=(vs++ws).toArray:=by simp
  by_cases hw:ws = []
  · exact concat_meets ⟨_,ho,rfl⟩ ⟨_,ho2,rfl⟩ noFill_tuple_add seq_tuple_add PySem.F.slot_tuple_add PySem.F.entry_tuple_add (PySem.F.args_tuple_add_2 _ _)
      (tuple_addW1 t b vs.toArray ws.toArray n n2 dd dd2 sl sl2 (by simpa using hv) (by simp [hw])) ⟨ho,ho2,h1 hw⟩
  · refine concat_meets ⟨_,ho,rfl⟩ ⟨_,ho2,rfl⟩ noFill_tuple_add seq_tuple_add PySem.F.slot_tuple_add PySem.F.entry_tuple_add (PySem.F.args_tuple_add_2 _ _)
      (tuple_addW2 t b vs.toArray ws.toArray n n2 dd dd2 sl sl2 (by simpa using hv) (by simpa using hw) (by rw [List.size_toArray,List.size_toArray]; exact hsz)) ⟨ho,ho2,?_⟩
    rw [e]
    exact h2 hw
def sIx (n d:Nat):Option Int→Nat
  | none=>d
  | some v=>if v < 0 then (v + (n:Int)).toNat else min v.toNat n
theorem sIx_nat (n d k:Nat):sIx n d (some (k:Int))=min k n:=by
  show (if (k:Int) < 0 then ((k:Int) + (n:Int)).toNat else min (k:Int).toNat n)=min k n
  rw [if_neg (by omega),Int.toNat_natCast]
theorem sIx_le (n d:Nat) (hd:d≤n) (o:Option Int):sIx n d o≤n:=by
  cases o with
  | none=>exact hd
  | some v =>
    show (if v < 0 then (v + (n:Int)).toNat else min v.toNat n)≤n
    by_cases hv:v < 0
    · rw [if_pos hv]; omega
    · rw [if_neg hv]; exact Nat.min_le_right _ _
theorem clip_eq (v:Int) (n d:Nat):(if v < 0 then max (v + (n:Int)) 0 else min v (n:Int))=((sIx n d (some v):Nat):Int):=by
  show (if v < 0 then max (v + (n:Int)) 0 else min v (n:Int))=(((if v < 0 then (v + (n:Int)).toNat else min v.toNat n):Nat):Int)
  by_cases hv:v < 0
  · simp only [if_pos hv]; omega
  · simp only [if_neg hv]; omega
theorem adjust_gen (lo hi:Option Int) (n:Nat):Builtin.Slice.sliceAdjust lo hi 1 (n:Int)=(((sIx n 0 lo:Nat):Int),((sIx n n hi:Nat):Int)):=by
  have h1:¬ ((1:Int) < 0):=by omega
  unfold Builtin.Slice.sliceAdjust
  simp only [h1,if_false]
  refine Prod.ext ?_ ?_
  · cases lo with
    | none=>rfl
    | some v=>exact clip_eq v n 0
  · cases hi with
    | none=>rfl
    | some v=>exact clip_eq v n n
theorem places_gen (i j:Nat):Builtin.Slice.slicePlaces (i:Int) (j:Int) 1=j - i:=by
  unfold Builtin.Slice.slicePlaces
  have h1:(1:Int) > 0:=by omega
  simp only [h1,if_true,Int.ediv_one]
  split <;> omega
theorem slicePart_ {v:Value} {o:Option Int} {Q:Option Int→Shared→Prop} (p:IsPart v o) (h:Q o s):wpAny (model prog w) A (Builtin.Slice.slicePartIndex v) Q E s:=by
  cases p with
  | none=>exact slicePart_none h
  | int i t=>exact slicePart_int h
theorem sliceApplied_gen {sl:Addr} {vl vu:Value} {lo hi:Option Int} {n:Nat} {Q:Int × Int × Nat→Shared→Prop} (hs:s.heap.IsSliceOf sl vl vu .none) (pl:IsPart vl lo) (pu:IsPart vu hi)
    (h:Q (((sIx n 0 lo:Nat):Int),1,sIx n n hi - sIx n 0 lo) s):wpAny (model prog w) A (Builtin.Slice.sliceApplied (.ref sl) (pure (n:Int))) Q E s:=by
  obtain ⟨os,hos,hcs,hds⟩:=id hs
  unfold Builtin.Slice.sliceApplied Builtin.Slice.sliceFields
  refine wpAny_bind (wpAny_bind (wpAny_field hos hds (x:=vl) rfl (wpAny_bind (wpAny_field hos hds (x:=vu) rfl (wpAny_bind (wpAny_field hos hds (x:=.none) rfl (wpAny_pure ?_)))))))
  refine wpAny_bind (slicePart_none ?_)
  show wpAny _ _ (if ((1:Int) == 0)=true then _ else _) _ _ s
  rw [if_neg (by decide)]
  refine wpAny_bind (slicePart_ pl (wpAny_bind (slicePart_ pu (wpAny_bind (wpAny_pure ?_)))))
  show wpAny _ _ (match Builtin.Slice.sliceAdjust lo hi 1 (n:Int) with | (lo,hi)=>pure (lo,(1:Int),Builtin.Slice.slicePlaces lo hi 1)) _ _ s
  rw [adjust_gen lo hi n]
  show wpAny _ _ (pure (((sIx n 0 lo:Nat):Int),(1:Int),Builtin.Slice.slicePlaces ((sIx n 0 lo:Nat):Int) ((sIx n n hi:Nat):Int) 1)) _ _ s
  rw [places_gen]
  exact wpAny_pure h
theorem pick_gen (xs:Array Value) (i k:Nat):((List.range k).filterMap fun (m:Nat)=>xs[((i:Int) + (m:Int) * 1).toNat]?).toArray=((xs.toList.drop i).take k).toArray:=by
  have e:(fun (m:Nat)=>xs[((i:Int) + (m:Int) * 1).toNat]?)=fun m=>xs[i + m]?:=by
    funext m
    have:((i:Int) + (m:Int) * 1).toNat=i + m:=by omega
    rw [this]
  rw [e]
  have:=pick_run xs i k
  rw [List.filterMap_map] at this
  have e2:((fun x=>xs[x]?) ∘ fun x=>i + x)=fun m=>xs[i + m]?:=rfl
  rw [e2] at this
  rw [this]
theorem getItem_tuple_cut {t sl:Addr} {items:Array Value} {vl vu:Value} {lo hi:Option Int} {Q:Value→Shared→Prop} (ht:IsTup s.heap t items) (hs:s.heap.IsSliceOf sl vl vu .none) (pl:IsPart vl lo) (pu:IsPart vu hi)
    (hw:¬ (sIx items.size 0 lo=0∧sIx items.size items.size hi=items.size))
    (h:Q (.ref s.heap.objs.size) { s with heap:=s.heap.push { cls:=.type "tuple",data:=.seq ((items.toList.drop (sIx items.size 0 lo)).take (sIx items.size items.size hi - sIx items.size 0 lo)).toArray } })
    (hsz:items.size≤sizeLine):wpAny (model prog w) A (getItem (.ref t) (.ref sl)) Q E s:=by
  have htake:sizeOk (.seq ((items.toList.drop (sIx items.size 0 lo)).take (sIx items.size items.size hi - sIx items.size 0 lo)).toArray):=by
    show ((items.toList.drop (sIx items.size 0 lo)).take (sIx items.size items.size hi - sIx items.size 0 lo)).toArray.size≤sizeLine
    rw [List.size_toArray,List.length_take,List.length_drop,Array.length_toList]
    omega
  have hj:sIx items.size items.size hi≤items.size:=sIx_le _ _ (Nat.le_refl _) hi
  obtain ⟨os,hos,hcs,hds⟩:=id hs
  have hTs:s.TypeIs (.ref sl) "slice" := ⟨os,hos,hcs⟩
  unfold getItem
  try with_reducible refine wpAny_holding ?_
  first | refine wpAny_bind (wpAny_pure ?_) | skip
  refine wpAny_bind (wpAny_sequenceKey ht.typeIs (by decide) ?_)
  refine wpAny_bind (wpAny_callSpecial?_slot (name:=Str.ofString "__getitem__") ht.typeIs PyProof.Rows.slot_tuple_getitem
    (wpAny_call_entry PyProof.Rows.slot_tuple_getitem ht.typeIs entry_tuple_getitem ?_ (args_tuple_getitem _ _)))
  show wpAny _ _ (Builtin.Tuple.tupleItemsOf (.ref t) >>= _) _ _ s
  refine wpAny_bind (tupleItemsOf_ ht ?_)
  refine wpAny_bind (wpAny_typeOf hTs ?_)
  rw [if_pos (by decide)]
  refine wpAny_bind (sliceApplied_gen hs pl pu ?_)
  have hno:¬ ((((sIx items.size 0 lo:Nat):Int) == 0 && (1:Int) == 1 && (sIx items.size items.size hi - sIx items.size 0 lo) == items.size)=true):=by
    intro q
    rw [Bool.and_eq_true,Bool.and_eq_true] at q
    have q1:((sIx items.size 0 lo:Nat):Int)=0:=eq_of_beq q.1.1
    have q2:sIx items.size items.size hi - sIx items.size 0 lo=items.size:=eq_of_beq q.2
    exact hw ⟨by omega,by omega⟩
  show wpAny _ _ (if (((sIx items.size 0 lo:Nat):Int) == 0 && (1:Int) == 1 && (sIx items.size items.size hi - sIx items.size 0 lo) == items.size)=true then _ else _) _ _ s
  rw [if_neg hno,pick_gen]
  first
    | exact wpAny_bind (m:=Builtin.Tuple.tupleExact _) (wpAny_newObj_type (wpAny_pure ⟨_,rfl,wpAny_pure h⟩) htake)
    | exact wpAny_bind (m:=Builtin.Tuple.tupleExact _) (wpAny_newObj_type (wpAny_bind (wpAny_pure (wpAny_pure ⟨_,rfl,wpAny_pure h⟩))) htake)
    | exact wpAny_bind (wpAny_bind (m:=Builtin.Tuple.tupleExact _) (wpAny_newObj_type (wpAny_pure (wpAny_pure ⟨_,rfl,wpAny_pure h⟩)) htake))
    | exact wpAny_bind (wpAny_bind (m:=Builtin.Tuple.tupleExact _) (wpAny_newObj_type (wpAny_pure ⟨_,rfl,wpAny_pure h⟩) htake))
end
end HT
namespace L2
open PySem PySem.Spec PyProof.Rows
abbrev TO:=St→Hp→(Option Int→Hp→Prop)→Prop
def PO (X:Cx) (e:Option Expr) (t:TO):Prop :=
  ∀ (pins:List (Addr × Obj)) (s:Shared) (σ:St) (H:Hp) (Q:Option Int→Hp→Prop),Inv X pins σ H s→t σ H Q →
    wpAny (model X.prog X.w) X.A (evalPart e X.env) (fun u s'=>∃ o H',Inv X pins σ H' s'∧IsPart u o∧Q o H') X.xe s
def tNoPart:TO:=fun _ H Q=>Q none H
def tPart (t:TE):TO:=fun σ H Q=>t σ H fun x H1=>∃ i,x = .int i∧Q (some i) H1
theorem intsAre_of {ns:List Int}:∀ {us:List Value},Vals (ns.map V.int) us→IntsAre us ns:=by
  induction ns with
  | nil=>intro us r; rw [List.map_nil] at r; cases r; exact .nil
  | cons n ns ih =>
    intro us r
    rw [List.map_cons] at r
    cases r with
    | cons r1 r2 =>
      obtain ⟨t,e⟩:=r1
      subst e
      exact .cons n t (ih r2)
section
variable {X:Cx} {e:Expr} {te:TE} {lo hi:Option Expr} {tl th:TO} {pos p2:Pos}
theorem po_none:PO X none tNoPart:=by
  intro pins s σ H Q I h
  rw [evalPart_none]
  exact wpAny_pure ⟨none,H,I,.none,h⟩
theorem po_some (h:PE X e te):PO X (some e) (tPart te):=by
  intro pins s σ H Q I hw
  rw [evalPart_some]
  refine thn (h pins s σ H _ I hw) fun u s1 ⟨x,H1,I1,r1,q1⟩=>?_
  obtain ⟨i,rfl,q⟩:=q1
  obtain ⟨t,rfl⟩:=r1
  exact ⟨some i,H1,I1,.int i t,q⟩
def SlR (X:Cx) (r:V→Option Int→Option Int→Hp→VK→Prop):Prop :=
  ∀ (pins:List (Addr × Obj)) (s:Shared) (σ:St) (H:Hp) (x:V) (v vl vu:Value) (lo hi:Option Int) (sl:Addr) (Q:VK),Inv X pins σ H s→RelV x v→s.heap.IsSliceOf sl vl vu .none→IsPart vl lo→IsPart vu hi→r x lo hi H Q →
    ∃ T id,typeLookup (.type T) "__getitem__" = pure (some (.builtin id))∧s.TypeIs v T∧wpAny (model X.prog X.w) X.A (getItem v (.ref sl)) (EP X pins σ Q) X.xe s
def tSl (r:V→Option Int→Option Int→Hp→VK→Prop) (te:TE) (tl th:TO):TE:=fun σ H Q=>te σ H fun x H1=>tl σ H1 fun l H2=>th σ H2 fun u H3=>r x l u H3 Q
theorem pe_slice {r:V→Option Int→Option Int→Hp→VK→Prop} (hr:SlR X r) (he:PE X e te) (hl:PO X lo tl) (hu:PO X hi th):PE X (.Subscript e (.Slice lo hi none p2) pos) (tSl r te tl th):=by
  intro pins s σ H Q I h
  refine Subscript_ (thn (he pins s σ H _ I h) fun v s1 ⟨x,H1,I1,r1,q1⟩=>?_)
  refine wpAny_Slice (thn (hl pins s1 σ H1 _ I1 q1) fun vl s2 ⟨l,H2,I2,pl,q2⟩=>thn (hu pins s2 σ H2 _ I2 q2) fun vu s3 ⟨u,H3,I3,pu,q3⟩=>?_)
  rw [evalPart_none]
  refine wpAny_pure ?_
  have I4:Inv X pins σ H3 { s3 with heap:=s3.heap.push { cls:=.type "slice",data:=.fields #[vl,vu,.none] } }:=I3.kept (t':=s3.toks) fun b ob q=>Heap.get?_push_of_some _ q
  obtain ⟨T,id,hT,ht,hg⟩:=hr pins { s3 with heap:=s3.heap.push { cls:=.type "slice",data:=.fields #[vl,vu,.none] } } σ H3 x v vl vu l u s3.heap.objs.size Q I4 r1 (Heap.IsSliceOf.new ..) pl pu q3
  show wpAny (model X.prog X.w) X.A (subscriptTail e (.Slice lo hi none p2) v (.ref s3.heap.objs.size)) (EP X pins σ Q) X.xe { s3 with heap:=s3.heap.push { cls:=.type "slice",data:=.fields #[vl,vu,.none] } }
  exact tail_any (ops:=[.ref s3.heap.objs.size,v]) ht hT hg (by with_unfolding_all rfl)
def cutV (xs:List V) (lo hi:Option Int):List V:=(xs.drop (HT.sIx xs.length 0 lo)).take (HT.sIx xs.length xs.length hi - HT.sIx xs.length 0 lo)
theorem cutV_length (xs:List V) (lo hi:Option Int):(cutV xs lo hi).length≤xs.length:=by
  unfold cutV
  rw [List.length_take,List.length_drop]
  omega
def rSlT (K:PySem.W.Frag):V→Option Int→Option Int→Hp→VK→Prop:=fun x lo hi H Q=>∃ a xs,x = .ref a∧SqT K H a xs ∧
  ¬ (HT.sIx xs.length 0 lo=0∧HT.sIx xs.length xs.length hi=xs.length)∧∀ p,H p=none→Q (.ref p) (upd H p (.tup (cutV xs lo hi)))
theorem sl_tup:SlR X (rSlT X.K):=by
  intro pins s σ H x v vl vu lo hi sl Q I rx hs pl pu h
  obtain ⟨a,xs,rfl,hx,hw,q⟩:=h
  cases rx
  obtain ⟨its,r,ht,hz⟩:=I.tuple hx
  have hlen:its.toArray.size=xs.length:=by rw [List.size_toArray]; exact r.length.symm
  refine ⟨"tuple",_,PyProof.Rows.slot_tuple_getitem.lookup,ht.typeIs,?_⟩
  refine HT.getItem_tuple_cut ht hs pl pu (by rw [hlen]; exact hw) ?_ (by rw [hlen]; exact hz)
  rw [hlen]
  refine ⟨.ref s.heap.objs.size,_,I.laid (t':=s.toks) (o:=.tup (cutV xs lo hi)) (fun b ob q=>Heap.get?_push_of_some _ q) (Nat.le_refl _) ?_,rfl,q _ (I.hok.fresh (Nat.le_refl _))⟩
  exact ⟨Nat.le_trans (cutV_length xs lo hi) hz,_,(r.drop (HT.sIx xs.length 0 lo)).take (HT.sIx xs.length xs.length hi - HT.sIx xs.length 0 lo),IsTup.new _ _⟩
def rCatT (K:PySem.W.Frag):R2:=fun x y H Q=>∃ a b xs ys,x = .ref a∧y = .ref b∧SqT K H a xs∧SqT K H b ys∧xs≠[]∧xs.length + ys.length≤sizeLine ∧
  (ys = []→Q (.ref a) H)∧(ys≠[]→∀ p,H p=none→Q (.ref p) (upd H p (.tup (xs++ys))))
theorem Vals.nil_iff {xs:List V} {us:List Value} (r:Vals xs us):us = []↔xs = []:=by
  cases r with
  | nil=>simp
  | cons _ _=>simp
theorem op_catT:OpR X (binaryOp .Add) (rCatT X.K):=by
  intro pins s σ H x y v u Q I rx ry h
  obtain ⟨a,b,xs,ys,rfl,rfl,ha,hb,hx,hz,q1,q2⟩:=h
  cases rx
  cases ry
  obtain ⟨its,r1,p1,_⟩:=I.tuple ha
  obtain ⟨its2,r2,p2,_⟩:=I.tuple hb
  refine HT.cat_tup p1 p2 (fun z=>hx (r1.nil_iff.mp z)) (fun z=>⟨.ref a,H,I,rfl,q1 (r2.nil_iff.mp z)⟩) (fun z=>?_) (by rw [← r1.length,← r2.length]; exact hz)
  refine ⟨.ref s.heap.objs.size,_,I.laid (t':=s.toks) (o:=.tup (xs++ys)) (fun b ob q=>Heap.get?_push_of_some _ q) (Nat.le_refl _) ?_,rfl,q2 (fun w=>z (r2.nil_iff.mpr w)) _ (I.hok.fresh (Nat.le_refl _))⟩
  exact ⟨by rw [List.length_append]; exact hz,_,r1.append r2,IsTup.new _ _⟩
end
end L2
namespace L2
open PySem PySem.Spec PyProof.Rows
def ixN (n:Nat) (i:Int):Option Nat:=if 0≤i then (if i < n then some i.toNat else none) else if -(n:Int)≤i then some (i + n).toNat else none
def atI {α:Type} (xs:List α) (i:Int):Option α:=(ixN xs.length i).bind fun j=>xs[j]?
theorem ixN_seq {n:Nat} {i:Int} {j:Nat} (h:ixN n i=some j):seqIndex? i n=some j∧j < n∧-(n:Int)≤i∧i < n:=by
  unfold ixN at h
  by_cases h0:0≤i
  · rw [if_pos h0] at h
    by_cases h1:i < n
    · rw [if_pos h1] at h
      have e:i.toNat=j:=Option.some.inj h
      exact ⟨by rw [seqIndex_of h0 h1,e],by omega,by omega,h1⟩
    · rw [if_neg h1] at h; cases h
  · rw [if_neg h0] at h
    by_cases h1 : -(n:Int)≤i
    · rw [if_pos h1] at h
      have e:(i + n).toNat=j:=Option.some.inj h
      exact ⟨by rw [seqIndex_neg (by omega) h1,e],by omega,h1,by omega⟩
    · rw [if_neg h1] at h; cases h
theorem atI_get {α:Type} {xs:List α} {i:Int} {v:α} (h:atI xs i=some v):∃ j,seqIndex? i xs.length=some j∧xs[j]?=some v∧j < xs.length∧-(xs.length:Int)≤i∧i < xs.length:=by
  unfold atI at h
  cases e:ixN xs.length i with
  | none=>rw [e] at h; cases h
  | some j =>
    rw [e] at h
    obtain ⟨h1,h2,h3,h4⟩:=ixN_seq e
    exact ⟨j,h1,h,h2,h3,h4⟩
theorem atI_nat {α:Type} {xs:List α} {j:Nat} {v:α} (h:xs[j]?=some v):atI xs (j:Int)=some v:=by
  have hj:j < xs.length:=(List.getElem?_eq_some_iff.mp h).1
  have e:ixN xs.length (j:Int)=some j:=by
    unfold ixN
    rw [if_pos (by omega),if_pos (by omega)]; simp
  unfold atI; rw [e]; exact h
def PlainIx (b:Expr):Prop:=∀ o i,subscripted b false o i=operate [o,i] (getItem o i)
def IxR (X:Cx) (r:R2):Prop :=
  ∀ (value slice:Expr) (pins:List (Addr × Obj)) (s:Shared) (σ:St) (H:Hp) (x y:V) (v u:Value) (Q:VK),Inv X pins σ H s→RelV x v→RelV y u→r x y H Q →
    subscripted slice false v u=operate [v,u] (getItem v u)→wpAny (model X.prog X.w) X.A (subscriptTail value slice v u) (EP X pins σ Q) X.xe s
def MtR (X:Cx) (id:String) (r:V→List V→Hp→VK→Prop):Prop :=
  ∀ (pins:List (Addr × Obj)) (s:Shared) (σ:St) (H:Hp) (x:V) (xs:List V) (v:Value) (us:List Value) (Q:VK),Inv X pins σ H s→RelV x v→Vals xs us→r x xs H Q →
    wpAny (model X.prog X.w) X.A (call (.builtin id) (v :: us)) (EP X pins σ Q) X.xe s
section
variable {X:Cx} {a b:Expr} {ta tb:TE} {pos:Pos}
theorem pe_ix {r:R2} (hr:IxR X r) (ha:PE X a ta) (hb:PE X b tb) (hs:PlainIx b):PE X (.Subscript a b pos) (tOp r ta tb):=by
  intro pins s σ H Q I h
  exact Subscript_ (binT ha hb I h fun v u s2 x y H2 I2 rx ry q=>hr a b pins s2 σ H2 x y v u Q I2 rx ry q (hs _ _))
def rIxL (K:PySem.W.Frag):R2:=fun x y H Q=>∃ p xs i v,x = .ref p∧y = .int i∧SqL K H p xs∧atI xs i=some v∧Q v H
def rIxT (K:PySem.W.Frag):R2:=fun x y H Q=>∃ p xs i v,x = .ref p∧y = .int i∧SqT K H p xs∧atI xs i=some v∧Q v H
theorem ix_list:IxR X (rIxL X.K):=by
  intro value slice pins s σ H x y v u Q I rx ry h hs
  obtain ⟨p,xs,i,z,rfl,rfl,hq,he,q⟩:=h
  cases rx
  obtain ⟨t,rfl⟩:=ry
  obtain ⟨its,r,pl,hz⟩:=I.list hq
  obtain ⟨j,h1,h2,h3,h4,h5⟩:=atI_get he
  obtain ⟨w,ew,rw'⟩:=r.get h2
  have hl:=r.length
  have hn:=line63
  have fin:EP X pins σ Q w s:=⟨z,H,I,rw',q⟩
  by_cases h0:0≤i
  · have hj:i.toNat=j:=by
      rw [seqIndex_of h0 h5] at h1
      exact Option.some.inj h1
    exact item_listR pl.isList h0 (by omega) (by rw [hj]; simpa using ew) fin hs
  · have hj:(i + (its.toArray.size:Int)).toNat=j:=by
      rw [seqIndex_neg (by omega) h4] at h1
      rw [List.size_toArray,← hl]
      exact Option.some.inj h1
    exact subscriptTail_builtinR (x:=w) pl.isList.typeIs slot_list_getitem.lookup
      (wpAny_getItem_list_neg (Q:=fun r s'=>r=w∧EP X pins σ Q r s') pl.isList (by omega) (by rw [List.size_toArray] <;> omega) (by omega) (by rw [hj]; simpa using ew) ⟨rfl,fin⟩) hs
theorem ix_tup:IxR X (rIxT X.K):=by
  intro value slice pins s σ H x y v u Q I rx ry h hs
  obtain ⟨p,xs,i,z,rfl,rfl,hq,he,q⟩:=h
  cases rx
  obtain ⟨t,rfl⟩:=ry
  obtain ⟨its,r,pl,hz⟩:=I.tuple hq
  obtain ⟨j,h1,h2,h3,h4,h5⟩:=atI_get he
  obtain ⟨w,ew,rw'⟩:=r.get h2
  have hl:=r.length
  have hn:=line63
  have fin:EP X pins σ Q w s:=⟨z,H,I,rw',q⟩
  exact subscriptTail_builtinR (x:=w) pl.typeIs slot_tuple_getitem.lookup
    (getItem_tuple (j:=j) (Q:=fun r s'=>r=w∧EP X pins σ Q r s') pl (by omega) (by omega) (by rw [List.size_toArray,← hl]; exact h1) (by simpa using ew) ⟨rfl,fin⟩) hs
theorem mapSeq_set (its:List Value) (n j:Nat) (u:Value):Obj.mapSeq (·.setIfInBounds j u) { cls:=.type "list",data:=.seq its.toArray n } = { cls:=.type "list",data:=.seq (its.set j u).toArray n }:=by
  simp [Obj.mapSeq]
theorem Inv.lst {pins:List (Addr × Obj)} {σ:St} {H:Hp} {s:Shared} {p:Addr} {xs:List V} (I:Inv X pins σ H s) (h:H p=some (.lst xs)) :
    ∃ (its:List Value) (n:Nat),Vals xs its∧s.heap.get? p=some { cls:=.type "list",data:=.seq its.toArray n }∧xs.length≤sizeLine:=by
  obtain ⟨z,its,n,r,e⟩:=I.hok p _ h
  exact ⟨its,n,r,e,z⟩
theorem Inv.lstUpd {pins:List (Addr × Obj)} {σ:St} {H:Hp} {s:Shared} {p:Addr} {xs ys:List V} {its its':List Value} {n n':Nat} {f:Obj→Obj} (I:Inv X pins σ H s) (h:H p=some (.lst xs))
    (ho:s.heap.get? p=some { cls:=.type "list",data:=.seq its.toArray n }) (hf:f { cls:=.type "list",data:=.seq its.toArray n } = { cls:=.type "list",data:=.seq its'.toArray n' }) (r:Vals ys its') (hz:ys.length≤sizeLine) (t:Nat) :
    Inv X pins σ (upd H p (.lst ys)) { s with heap:=s.heap.update p f,toks:=t }:=by
  have e:(s.heap.update p f).get? p=some { cls:=.type "list",data:=.seq its'.toArray n' }:=by
    rw [Heap.get?_update_self f ho (by rw [hf] <;> rfl),hf]
  refine I.write (x:=p) (e:=p) (by rw [h]; trivial) (.inl rfl) (fun b u hb q=>(Heap.get?_update_other _ _ (Ne.symm hb)).trans q) ⟨_,e⟩ ?_
  exact ⟨hz,its',n',r,e⟩
def rSetL:V→V→V→Hp→(Hp→Prop)→Prop:=fun o i v H Q=>∃ p xs k j,o = .ref p∧i = .int k∧H p=some (.lst xs)∧ixN xs.length k=some j∧Q (upd H p (.lst (xs.set j v)))
theorem set_list:PSet X rSetL:=by
  intro pins s σ H o i v ov iv u Q I ro ri rv h
  obtain ⟨p,xs,k,j,rfl,rfl,hp,hj,q⟩:=h
  cases ro
  obtain ⟨t,rfl⟩:=ri
  obtain ⟨its,n,r,ho,hz⟩:=I.lst hp
  obtain ⟨h1,h2,h3,h4⟩:=ixN_seq hj
  have hl:=r.length
  have hn:=line63
  have I':Inv X pins σ (upd H p (.lst (xs.set j v))) { s with heap:=s.heap.update p (Obj.mapSeq (·.setIfInBounds j u)) } :=
    I.lstUpd hp ho (mapSeq_set its n j u) (r.set rv j) (by rw [List.length_set]; exact hz) s.toks
  by_cases h0:0≤k
  · have hk:k.toNat=j:=by
      rw [seqIndex_of h0 h4] at h1
      exact Option.some.inj h1
    exact PySem.W.ki_setAt ho h0 (by omega) (by rw [List.size_toArray,← hl]; exact h4) (by rw [hk]; exact ⟨_,I',q⟩)
  · have hk:(k + (its.toArray.size:Int)).toNat=j:=by
      rw [seqIndex_neg (by omega) h3] at h1
      rw [List.size_toArray,← hl]
      exact Option.some.inj h1
    exact PySem.W.ki_setBack ho (by omega) (by rw [List.size_toArray,← hl]; exact h3) (by omega) (by rw [hk]; exact ⟨_,I',q⟩)
theorem slice_bounds (lo hi:Option Int) (n:Nat):(sliceBounds lo hi none n).1=((HT.sIx n 0 lo:Nat):Int)∧(sliceBounds lo hi none n).2.1=((HT.sIx n n hi:Nat):Int)∧(sliceBounds lo hi none n).2.2=1:=by
  refine ⟨?_,?_,rfl⟩
  · cases lo with
    | none=>simp [sliceBounds,HT.sIx]
    | some i =>
      simp only [sliceBounds,HT.sIx,Option.getD_none,show (1:Int) > 0 by decide,if_true]
      by_cases h:i < 0
      · simp only [h,if_true] <;> omega
      · simp only [h,if_false] <;> omega
  · cases hi with
    | none=>simp [sliceBounds,HT.sIx]
    | some i =>
      simp only [sliceBounds,HT.sIx,Option.getD_none,show (1:Int) > 0 by decide,if_true]
      by_cases h:i < 0
      · simp only [h,if_true] <;> omega
      · simp only [h,if_false] <;> omega
theorem slicePick_cut (its:List Value) (lo hi:Option Int):slicePick its.toArray lo hi none=((its.drop (HT.sIx its.length 0 lo)).take (HT.sIx its.length its.length hi - HT.sIx its.length 0 lo)).toArray:=by
  obtain ⟨h1,h2,h3⟩:=slice_bounds lo hi its.toArray.size
  unfold slicePick
  rw [h1,h2,h3]
  simp only [sliceRange_one,pick_run,List.size_toArray] <;> rfl
def rSlL (K:PySem.W.Frag):V→Option Int→Option Int→Hp→VK→Prop:=fun x lo hi H Q=>∃ a xs,x = .ref a∧SqL K H a xs∧∀ p,H p=none→Q (.ref p) (upd H p (.lst (cutV xs lo hi)))
theorem sl_list:SlR X (rSlL X.K):=by
  intro pins s σ H x v vl vu lo hi sl Q I rx hs pl pu h
  obtain ⟨a,xs,rfl,hx,q⟩:=h
  cases rx
  obtain ⟨its,r,ht,hz⟩:=I.list hx
  have hlen:=r.length
  refine ⟨"list",_,slot_list_getitem.lookup,ht.isList.typeIs,?_⟩
  refine wpAny_getItem_list_slice ht.isList hs pl pu .none (by simp) ?_ (by rw [List.size_toArray] <;> omega)
  rw [slicePick_cut,← hlen]
  refine ⟨.ref s.heap.objs.size,_,I.laid (t':=s.toks) (o:=.lst (cutV xs lo hi)) (fun b ob q=>Heap.get?_push_of_some _ q) (Nat.le_refl _) ?_,rfl,q _ (I.hok.fresh (Nat.le_refl _))⟩
  exact ⟨Nat.le_trans (cutV_length xs lo hi) hz,_,0,(r.drop (HT.sIx xs.length 0 lo)).take (HT.sIx xs.length xs.length hi - HT.sIx xs.length 0 lo),Heap.get?_push_size _ rfl⟩
def flatV:V→Bool
  | .non=>true
  | .bl _=>true
  | .int _=>true
  | .str _=>true
  | _=>false
def eqV:V→V→Bool
  | .non,.non=>true
  | .bl a,.bl b=>a == b
  | .bl a,.int b=>(if a then 1 else 0) == b
  | .int a,.bl b=>a == (if b then 1 else 0)
  | .int a,.int b=>a == b
  | .str a,.str b=>a == b
  | _,_=>false
theorem eqAt_V {A:Around} {s:Shared} {y x:V} {u v:Value} (ry:RelV y u) (rx:RelV x v) (fy:flatV y=true) (fx:flatV x=true):SeqAt.EqAt A s u v (eqV y x):=by
  cases y with
  | non =>
    cases ry
    cases x with
    | non=>cases rx; exact SeqAt.EqAt.same _
    | bl b=>cases rx; exact SeqAt.EqAt.none_bool b
    | int b=>obtain ⟨t,rfl⟩:=rx; exact SeqAt.EqAt.none_int b t
    | str b=>obtain ⟨t,rfl⟩:=rx; exact SeqAt.EqAt.none_str b t
    | _=>exact absurd (show false=true from fx) Bool.false_ne_true
  | bl a =>
    cases ry
    cases x with
    | non=>cases rx; exact SeqAt.EqAt.bool_none a
    | bl b=>cases rx; exact SeqAt.EqAt.bool_bool a b
    | int b=>obtain ⟨t,rfl⟩:=rx; exact SeqAt.EqAt.bool_int a b t
    | str b=>obtain ⟨t,rfl⟩:=rx; exact SeqAt.EqAt.bool_str a b t
    | _=>exact absurd (show false=true from fx) Bool.false_ne_true
  | int a =>
    obtain ⟨t',rfl⟩:=ry
    cases x with
    | non=>cases rx; exact SeqAt.EqAt.int_none a t'
    | bl b=>cases rx; exact SeqAt.EqAt.int_bool a t' b
    | int b=>obtain ⟨t,rfl⟩:=rx; exact SeqAt.EqAt.int_int a t' b t
    | str b=>obtain ⟨t,rfl⟩:=rx; exact SeqAt.EqAt.int_str a t' b t
    | _=>exact absurd (show false=true from fx) Bool.false_ne_true
  | str a =>
    obtain ⟨t',rfl⟩:=ry
    cases x with
    | non=>cases rx; exact SeqAt.EqAt.str_none a t'
    | bl b=>cases rx; exact SeqAt.EqAt.str_bool a t' b
    | int b=>obtain ⟨t,rfl⟩:=rx; exact SeqAt.EqAt.str_int a t' b t
    | str b=>obtain ⟨t,rfl⟩:=rx; exact SeqAt.EqAt.str_str a t' b t
    | _=>exact absurd (show false=true from fx) Bool.false_ne_true
  | _=>exact absurd (show false=true from fy) Bool.false_ne_true
def eqU (x:V) (u:Value):Bool:=match u with
  | .none=>eqV .non x
  | .bool b=>eqV (.bl b) x
  | .int i _=>eqV (.int i) x
  | .str z _=>eqV (.str z) x
  | _=>false
theorem eqU_of {x y:V} {u:Value} (r:RelV y u) (f:flatV y=true):eqU x u=eqV y x:=by
  cases y with
  | non=>cases r; rfl
  | bl b=>cases r; rfl
  | int i=>obtain ⟨t,rfl⟩:=r; rfl
  | str z=>obtain ⟨t,rfl⟩:=r; rfl
  | _=>exact absurd (show false=true from f) Bool.false_ne_true
theorem any_eqU {x:V}:∀ {xs:List V} {us:List Value},Vals xs us→xs.all flatV=true→us.any (eqU x)=xs.any fun y=>eqV y x
  | _,_,.nil,_=>rfl
  | y :: xs,u :: us,.cons r t,f=>by
    rw [List.all_cons,Bool.and_eq_true] at f
    rw [List.any_cons,List.any_cons,eqU_of r f.1,any_eqU t f.2]
theorem mem_eqAt {A:Around} {s:Shared} {x:V} {v:Value} (rx:RelV x v) (fx:flatV x=true):∀ {xs:List V} {us:List Value},Vals xs us→xs.all flatV=true→∀ u∈us,SeqAt.EqAt A s u v (eqU x u)
  | _,_,.nil,_=>fun u hu=>by cases hu
  | y :: xs,u :: us,.cons r t,f=>fun u' hu=>by
    rw [List.all_cons,Bool.and_eq_true] at f
    rcases List.mem_cons.mp hu with rfl | hu
    · rw [eqU_of r f.1]; exact eqAt_V r rx f.1 fx
    · exact mem_eqAt rx fx t f.2 u' hu
def inV (x:V) (xs:List V):Bool:=xs.any fun y=>eqV y x
def rIn (K:PySem.W.Frag) (neg:Bool):R2:=fun x y H Q=>∃ p xs,y = .ref p∧(SqL K H p xs∨SqT K H p xs)∧flatV x=true∧xs.all flatV=true∧Q (.bl (if neg then !inV x xs else inV x xs)) H
theorem op_in_seq:OpR X (compareOp .In) (rIn X.K false):=by
  intro pins s σ H x y v u Q I rx ry h
  obtain ⟨p,xs,rfl,hq,fx,fs,q⟩:=h
  cases ry
  rcases hq with hq | hq
  · obtain ⟨its,r,pl,hz⟩:=I.list hq
    refine SeqAt.in_listAt (eqU x) pl.isList (fun w hw=>mem_eqAt rx fx r fs w (by simpa using hw)) ⟨.bl _,H,I,rfl,?_⟩
    rw [show its.toArray.any (eqU x)=its.any (eqU x) by simp,any_eqU r fs]
    exact q
  · obtain ⟨its,r,pl,hz⟩:=I.tuple hq
    refine SeqAt.in_tupleAt (eqU x) pl (fun w hw=>mem_eqAt rx fx r fs w (by simpa using hw)) ⟨.bl _,H,I,rfl,?_⟩
    rw [show its.toArray.any (eqU x)=its.any (eqU x) by simp,any_eqU r fs]
    exact q
theorem op_notIn_seq:OpR X (compareOp .NotIn) (rIn X.K true):=by
  intro pins s σ H x y v u Q I rx ry h
  obtain ⟨p,xs,rfl,hq,fx,fs,q⟩:=h
  cases ry
  rcases hq with hq | hq
  · obtain ⟨its,r,pl,hz⟩:=I.list hq
    refine SeqAt.notIn_listAt (eqU x) pl.isList (fun w hw=>mem_eqAt rx fx r fs w (by simpa using hw)) ⟨.bl _,H,I,rfl,?_⟩
    rw [show its.toArray.any (eqU x)=its.any (eqU x) by simp,any_eqU r fs]
    exact q
  · obtain ⟨its,r,pl,hz⟩:=I.tuple hq
    refine SeqAt.notIn_tupleAt (eqU x) pl (fun w hw=>mem_eqAt rx fx r fs w (by simpa using hw)) ⟨.bl _,H,I,rfl,?_⟩
    rw [show its.toArray.any (eqU x)=its.any (eqU x) by simp,any_eqU r fs]
    exact q
theorem call_len_seq:CallR X (.builtin "len") (fun xs H Q=>∃ p ys,xs = [.ref p]∧(SqL X.K H p ys∨SqT X.K H p ys)∧Q (.int ys.length) H):=by
  intro pins s σ H xs us Q I r h
  obtain ⟨p,ys,rfl,hq,q⟩:=h
  obtain ⟨u,rfl,rx⟩:=vals1 r
  cases rx
  have hn:=line63
  rcases hq with hq | hq
  · obtain ⟨its,r',pl,hz⟩:=I.list hq
    have hlen:=r'.length
    exact Calls.call_len_list pl.isList (by simp only [List.size_toArray] <;> omega) ⟨.int ys.length,H,I.tok _,⟨s.toks + 1,by rw [List.size_toArray,hlen]⟩,q⟩
  · obtain ⟨its,r',pl,hz⟩:=I.tuple hq
    have hlen:=r'.length
    exact len_tuple pl (by simp only [List.size_toArray] <;> omega) ⟨.int ys.length,H,I.tok _,⟨s.toks + 1,by rw [List.size_toArray,hlen]⟩,q⟩
theorem call_list_of:CallR X (.type "list") (fun xs H Q=>∃ p ys,xs = [.ref p]∧(SqL X.K H p ys∨SqT X.K H p ys)∧∀ l,H l=none→Q (.ref l) (upd H l (.lst ys))):=by
  intro pins s σ H xs us Q I r h
  obtain ⟨p,ys,rfl,hq,q⟩:=h
  obtain ⟨u,rfl,rx⟩:=vals1 r
  cases rx
  have fin:∀ (its:List Value),Vals ys its→ys.length≤sizeLine→∀ (h':Heap) (c':Nat),(∀ b o',s.heap.get? b=some o'→h'.get? b=some o') →
      h'.get? s.heap.objs.size=some { cls:=.type "list",dict:=none,data:=.seq its.toArray c',slots:=#[] }→EP X pins σ Q (.ref s.heap.objs.size) { s with heap:=h' }:=fun its r' hz h' c' kp e =>
    ⟨.ref s.heap.objs.size,_,I.laid (t':=s.toks) kp (Nat.le_refl _) (show ObjOk X.prog X.w _ h' _ (.lst ys) from ⟨hz,its,c',r',e⟩),rfl,q _ (I.hok.fresh (Nat.le_refl _))⟩
  rcases hq with hq | hq
  · obtain ⟨its,r',pl,hz⟩:=I.list hq
    have hlen:=r'.length
    obtain ⟨o,ho,hc,n,hd⟩:=pl.isList
    exact call_list_seq p (.inl rfl) ho hc hd (fun h' c' kp e=>fin its r' hz h' c' kp e) (by simp only [List.size_toArray] <;> omega)
  · obtain ⟨its,r',pl,hz⟩:=I.tuple hq
    have hlen:=r'.length
    obtain ⟨o,ho,hc,n,hd⟩:=pl
    exact call_list_seq p (.inr rfl) ho hc hd (fun h' c' kp e=>fin its r' hz h' c' kp e) (by simp only [List.size_toArray] <;> omega)
def tyV (K:PySem.W.Frag) (T:String) (x:V) (H:Hp):Prop:=match x with
  | .str _=>T = "str"
  | .int _=>T = "int"
  | .ref p=>(T = "list" ∧ ∃ xs,SqL K H p xs)∨(T = "tuple" ∧ ∃ o,K.lookup p=some o∧o.cls = .type "tuple" ∧ o.dict=none) ∨
      (T = "dict" ∧ ((∃ kvs,H p=some (.dK kvs))∨∃ kvs,H p=some (.dT kvs)))∨(T = "set" ∧ ∃ S n,H p=some (.set S n))
  | _=>False
theorem tyV_is {pins:List (Addr × Obj)} {σ:St} {H:Hp} {s:Shared} {T:String} {x:V} {v:Value} (I:Inv X pins σ H s) (r:RelV x v) (ty:tyV X.K T x H) :
    s.TypeIs v T∧∀ a,v = .ref a→∃ ob,s.heap.get? a=some ob∧ob.dict=none:=by
  cases x with
  | str z =>
    obtain ⟨t,rfl⟩:=r
    cases (show T = "str" from ty)
    exact ⟨typeIs_str s z t,fun _ e=>nomatch e⟩
  | int i =>
    obtain ⟨t,rfl⟩:=r
    cases (show T = "int" from ty)
    exact ⟨typeIs_int s i t,fun _ e=>nomatch e⟩
  | ref p =>
    cases r
    rcases ty with ⟨rfl,xs,hq⟩ | ⟨rfl,o,hk,hc,hd⟩ | ⟨rfl,hk⟩ | ⟨rfl,S,n,hk⟩
    · obtain ⟨its,_,pl,_⟩:=I.list hq
      refine ⟨pl.isList.typeIs,fun a e=>?_⟩
      cases e
      obtain ⟨o,n,e,c,hd,_⟩:=pl
      exact ⟨o,e,hd⟩
    · refine ⟨⟨o,I.kIn p o hk,hc⟩,fun a e=>?_⟩
      cases e
      exact ⟨o,I.kIn _ o hk,hd⟩
    · have z:∃ o,s.heap.get? p=some o∧o.ExactDict:=by
        rcases hk with ⟨kvs,hk⟩ | ⟨kvs,hk⟩
        · obtain ⟨_,_,_,_,o,_,_,e,ex,_⟩:=I.hok p _ hk
          exact ⟨o,e,ex⟩
        · obtain ⟨_,_,_,_,o,_,_,e,ex,_⟩:=I.hok p _ hk
          exact ⟨o,e,ex⟩
      obtain ⟨o,e,ex⟩:=z
      refine ⟨⟨o,e,ex.1⟩,fun a e2=>?_⟩
      cases e2
      exact ⟨o,e,ex.2.1⟩
    · obtain ⟨o,_,_,_,e,ex,_⟩:=I.hok p _ hk
      refine ⟨⟨o,e,ex.1⟩,fun a e2=>?_⟩
      cases e2
      exact ⟨o,e,ex.2.1⟩
  | _=>exact False.elim ty
def tBM0 (K:PySem.W.Frag) (T:String) (r:V→List V→Hp→VK→Prop) (to:TE):TE:=fun σ H Q=>to σ H fun x H1=>tyV K T x H1∧r x [] H1 Q
def tBM (K:PySem.W.Frag) (T:String) (r:V→List V→Hp→VK→Prop) (to:TE) (t:TA):TE:=fun σ H Q=>to σ H fun x H1=>tyV K T x H1∧t σ H1 fun xs H2=>r x xs H2 Q
variable {o e:Expr} {es:List Expr} {to:TE} {t:TA} {name:Str} {apos cpos:Pos} {T id:String} {r:V→List V→Hp→VK→Prop}
theorem pe_bm0 (pa:PlainAttrs T) (slot:Slot T name id) (hty:typeOf (.builtin id)=pure (.type "method_descriptor")) (hm:MtR X id r) (ho:PE X o to)
    (hbase:attributeBase o name X.env (eval o X.env)=eval o X.env:=by rfl) (hline:(apos.endLine == cpos.line)=true:=by rfl):PE X (.Call (.Attribute o name apos) [] [] cpos) (tBM0 X.K T r to):=by
  intro pins s σ H Q I h
  refine wpAny_Call_method0_late hbase hline (thn (ho pins s σ H _ I h) fun v s1 ⟨x,H1,I1,r1,ty,q1⟩=>?_)
  obtain ⟨h1,h2⟩:=tyV_is I1 r1 ty
  exact ⟨T,id,pa,slot,hty,h1,h2,Calls.callWith_builtin rfl (PySem.evalArgs_none (hm pins s1 σ H1 x [] v [] Q I1 r1 .nil q1))⟩
theorem pe_bm (pa:PlainAttrs T) (slot:Slot T name id) (hty:typeOf (.builtin id)=pure (.type "method_descriptor")) (hm:MtR X id r) (ho:PE X o to) (ha:PA X (e :: es) t)
    (hbase:attributeBase o name X.env (eval o X.env)=eval o X.env:=by rfl)
    (hfew:((backTo cpos (starEach (e :: es) X.env)).all (fun x=>!x.1) && (backToKw cpos (keywordEach [] X.env)).all (fun x=>x.1.isSome)
      && decide ((e :: es).length + ([]:List Keyword).length + (if ([]:List Keyword).isEmpty then 0 else 1) < 30))=true:=by rfl)
    (hline:(apos.endLine == cpos.line)=true:=by rfl) (hs:starEach (e :: es) X.env=(false,eval e X.env) :: starEach es X.env:=by rfl) (hplain:(backTo cpos (starEach es X.env)).any (·.1)=false:=by rfl) :
    PE X (.Call (.Attribute o name apos) (e :: es) [] cpos) (tBM X.K T r to t):=by
  intro pins s σ H Q I h
  refine wpAny_Call_method_late hbase hfew hline rfl (thn (ho pins s σ H _ I h) fun v s1 ⟨x,H1,I1,r1,ty,q1⟩=>?_)
  obtain ⟨h1,h2⟩:=tyV_is I1 r1 ty
  refine ⟨T,id,pa,slot,hty,h1,h2,?_⟩
  have hA:=ha cpos pins s1 σ H1 _ I1 q1
  rw [hs] at hA ⊢
  refine Calls.callWith_builtin (by show (false || (backTo cpos (starEach es X.env)).any (·.1))=false; rw [hplain] <;> rfl) (Calls.evalArgs_plain ?_)
  exact thn hA fun us s2 ⟨vs,H2,I2,r2,q2⟩=>hm pins s2 σ H2 x vs v us Q I2 r1 r2 q2
end
end L2
namespace L2
open PySem PySem.Spec PyProof.Rows
def MtM (X:Cx) (id:String) (r:V→List V→Hp→VK→Prop):Prop :=
  ∀ (pins:List (Addr × Obj)) (s:Shared) (σ:St) (H:Hp) (x:V) (xs:List V) (v:Value) (us:List Value) (Q:VK),Inv X pins σ H s→RelV x v→Vals xs us→r x xs H Q →
    wpAny (model X.prog X.w) X.A (call (.builtin id) (v :: us)) (EP X pins σ Q) X.xe s
theorem Vals.one:∀ {x:V} {us:List Value},Vals [x] us→∃ u,us = [u]∧RelV x u
  | _,_,.cons r .nil=>⟨_,rfl,r⟩
theorem Vals.two:∀ {x y:V} {us:List Value},Vals [x,y] us→∃ u v,us = [u,v]∧RelV x u∧RelV y v
  | _,_,_,.cons r (.cons q .nil)=>⟨_,_,rfl,r,q⟩
theorem Vals.zero:∀ {us:List Value},Vals [] us→us = []
  | _,.nil=>rfl
theorem Vals.rep {xs:List V} {us:List Value} (h:Vals xs us):∀ k:Nat,Vals (List.replicate k xs).flatten (List.replicate k us).flatten
  | 0=>.nil
  | k + 1=>by
    rw [List.replicate_succ,List.replicate_succ,List.flatten_cons,List.flatten_cons]
    exact Vals.append h (Vals.rep h k)
theorem foldl_rep (its:List Value):∀ (k:Nat) (acc:List Value),
    List.foldl (fun x1 x2=>x1++x2) acc.toArray (List.replicate k its.toArray)=(acc++(List.replicate k its).flatten).toArray
  | 0,acc=>by simp
  | k + 1,acc=>by
    have e:acc.toArray++its.toArray=(acc++its).toArray:=by simp
    have e2:(acc++its)++(List.replicate k its).flatten=acc++(List.replicate (k + 1) its).flatten:=by
      rw [List.replicate_succ,List.flatten_cons,List.append_assoc]
    rw [← e2,← foldl_rep its k (acc++its),← e,List.replicate_succ,List.foldl_cons]
section
variable {X:Cx} {pins:List (Addr × Obj)} {σ:St} {H:Hp} {s:Shared} {l b:Addr} {xs ys zs:List V}
theorem Inv.lset {its its':List Value} {n:Nat} {f:Array Value→Array Value} {t':Nat} (I:Inv X pins σ H s) (hH:H l=some (.lst xs))
    (e:s.heap.get? l=some { cls:=.type "list",data:=.seq its.toArray n }) (hf:f its.toArray=its'.toArray) (hv:Vals ys its') (hz:ys.length≤sizeLine) :
    Inv X pins σ (upd H l (.lst ys)) { s with heap:=s.heap.update l (Obj.mapSeq f),toks:=t' }:=by
  have q:=PySem.IsL.update e f
  rw [hf] at q
  refine I.write (x:=l) (e:=l) (by rw [hH]; exact trivial) (.inl rfl) (fun b' u hb hu=>(Heap.get?_update_other s.heap (Obj.mapSeq f) (Ne.symm hb)).trans hu) ⟨_,q⟩ ?_
  exact ⟨hz,its',_,hv,q⟩
theorem Inv.lnew {its:List Value} {t':Nat} (I:Inv X pins σ H s) (hv:Vals ys its) (hz:ys.length≤sizeLine) :
    Inv X pins σ (upd H s.heap.objs.size (.lst ys)) { s with heap:=s.heap.push { cls:=.type "list",data:=.seq its.toArray },toks:=t' } :=
  I.laid (fun _ _ q=>Heap.get?_push_of_some _ q) (Nat.le_refl _) ⟨hz,its,0,hv,Heap.get?_push_size _ rfl⟩
theorem Inv.fresh (I:Inv X pins σ H s):H s.heap.objs.size=none:=I.hok.fresh (Nat.le_refl _)
theorem Inv.lstM (I:Inv X pins σ H s) (hH:H l=some (.lst xs)):xs.length≤sizeLine∧∃ (its:List Value) (n:Nat),Vals xs its∧xs.length=its.length∧s.heap.get? l=some { cls:=.type "list",data:=.seq its.toArray n }:=by
  obtain ⟨z,its,n,r,e⟩:=I.hok l _ hH
  exact ⟨z,its,n,r,r.length,e⟩
theorem notLongL {n:Nat} (h:n≤sizeLine):Builtin.List.listTooLong n=false:=by
  unfold Builtin.List.listTooLong
  exact decide_eq_false (by omega)
end
section
variable {X:Cx}
def rAppend:V→List V→Hp→VK→Prop:=fun x vs H Q=>∃ l xs y,x = .ref l∧vs = [y]∧H l=some (.lst xs)∧xs.length < sizeLine∧Q .non (upd H l (.lst (xs++[y])))
theorem mt_append:MtM X "list.append" rAppend:=by
  intro pins s σ H x vs v us Q I rx rv h
  obtain ⟨l,xs,y,rfl,rfl,hH,hz,q⟩:=h
  cases rx
  obtain ⟨u,rfl,ru⟩:=rv.one
  obtain ⟨z,its,n,r,hl,e⟩:=I.lstM hH
  refine call_meets F.slot_list_append ⟨_,e,rfl⟩ F.entry_list_append (F.args_list_append_2 _ _) (PySem.list_append l its.toArray n u (by rw [List.size_toArray]; omega)) ⟨e,?_⟩
  refine ⟨.non,_,I.lset (its':=its++[u]) hH e (by simp) (r.append (.cons ru .nil)) ?_,rfl,q⟩
  rw [List.length_append,List.length_singleton]
  omega
def rClear:V→List V→Hp→VK→Prop:=fun x vs H Q=>∃ l xs,x = .ref l∧vs = []∧H l=some (.lst xs)∧Q .non (upd H l (.lst []))
theorem mt_clear:MtM X "list.clear" rClear:=by
  intro pins s σ H x vs v us Q I rx rv h
  obtain ⟨l,xs,rfl,rfl,hH,q⟩:=h
  cases rx
  have hus:=rv.zero
  subst hus
  obtain ⟨z,its,n,r,hl,e⟩:=I.lstM hH
  refine call_meets F.slot_list_clear ⟨_,e,rfl⟩ F.entry_list_clear (F.args_list_clear_1 _) (AutoSeq1.list_clear_list_0 l its.toArray n (by rw [List.size_toArray]; omega)) ⟨e,?_⟩
  exact ⟨.non,_,I.lset (its':=[]) (ys:=[]) hH e rfl .nil (Nat.zero_le _),rfl,q⟩
def rRep:R2:=fun x y H Q=>∃ l k xs,x = .ref l∧y = .int k∧H l=some (.lst xs)∧-(2 ^ 63)≤k∧k < 2 ^ 63∧xs.length * k.toNat≤sizeLine ∧
  ∀ p,H p=none→Q (.ref p) (upd H p (.lst (List.replicate k.toNat xs).flatten))
theorem len_rep {α:Type} (xs:List α) (k:Nat):(List.replicate k xs).flatten.length=k * xs.length:=by
  induction k with
  | zero=>simp
  | succ k ih=>rw [List.replicate_succ,List.flatten_cons,List.length_append,ih,Nat.succ_mul,Nat.add_comm]
theorem op_rep:OpR X (binaryOp .Mult) rRep:=by
  intro pins s σ H x y v u Q I rx ry h
  obtain ⟨l,k,xs,rfl,rfl,hH,h1,h2,hz,q⟩:=h
  cases rx
  obtain ⟨t,rfl⟩:=ry
  obtain ⟨z,its,n,r,hl,e⟩:=I.lstM hH
  have hlen:its.toArray.size * k.toNat≤sizeLine:=by rw [List.size_toArray,← hl]; exact hz
  have hcap:¬ its.toArray.size * k.toNat > (2 ^ 63 - 1) / 8:=by
    have:(sizeLine:Nat)≤(2 ^ 63 - 1) / 8:=by decide
    omega
  have hfit:¬ (!Builtin.List.listFitsIndex k)=true:=by
    rw [fitsIndex_both h1 h2]
    exact Bool.false_ne_true
  have hlong:¬ Builtin.List.listTooLong (its.toArray.size * k.toNat)=true:=by
    rw [notLongL hlen]
    exact Bool.false_ne_true
  have hnew:List.foldl (fun x1 x2=>x1++x2) #[] (List.replicate (if its.toArray.isEmpty=true then 0 else k.toNat) its.toArray)=(List.replicate k.toNat its).flatten.toArray:=by
    have f0:∀ m:Nat,List.foldl (fun x1 x2=>x1++x2) #[] (List.replicate m its.toArray)=(List.replicate m its).flatten.toArray:=fun m=>by
      have:=foldl_rep its m []
      rw [List.nil_append] at this
      exact this
    rw [f0]
    cases its with
    | nil=>simp
    | cons a r'=>rw [if_neg (by simp)]
  refine wpAny_binaryOp_repeat_ref (T:="list") (U:="int") (by decide) ⟨_,e,rfl⟩ (fun s'=>typeIs_int s' k t) noFill_list_mul F.fills_int_mul F.slot_int_rmul repeat_list F.slot_int_index.lookup
    (call_meets F.slot_int_rmul (typeIs_int s k t) F.entry_int_rmul (F.args_int_rmul_2 _ _) (int___rmul___int_list k t l its.toArray n)
      ⟨e,rfl,⟨_,e,rfl⟩,call_meets F.slot_list_mul ⟨_,e,rfl⟩ F.entry_list_mul (F.args_list_mul_2 _ _) (AutoListH.list___mul___list_int_3 l its.toArray n k t hfit hcap hlong) ⟨e,?_⟩⟩)
  rw [hnew]
  exact ⟨.ref _,_,I.lnew (t':=s.toks) (r.rep k.toNat) (by rw [len_rep,Nat.mul_comm]; exact hz),rfl,q _ I.fresh⟩
end
end L2
namespace L2
open PySem PySem.Spec PyProof.Rows
section
variable {X:Cx} {pins:List (Addr × Obj)} {σ:St} {H:Hp} {s:Shared} {a:Addr} {y v:V} {u r:Value} {o:Option V} {A:Around} {E:Value→Shared→Prop}
theorem Inv.big (I:Inv X pins σ H s):sysModules < s.heap.objs.size:=by
  have h:mainGlobals < s.heap.objs.size:=(I.mod.glob.keeps I.bk).lt
  exact Nat.lt_trans (by decide) h
end
theorem dt_empty {P:Program} {w:World} {H:Hp} (h:Heap) (hb:sysModules < h.objs.size):ObjOk P w H (h.push { cls:=.type "dict",data:=.dict #[] }) h.objs.size (.dT []) :=
  ⟨Nat.zero_le _,beq_eq_false_iff_ne.mpr (Ne.symm (Nat.ne_of_lt hb)),[],.nil,_,#[],0,Heap.get?_push_size _ rfl,⟨rfl,rfl,rfl⟩,rfl,rfl,List.nodup_nil⟩
def tDNewT:TE:=fun _ H Q=>∀ p,H p=none→Q (.ref p) (upd H p (.dT []))
section
variable {X:Cx} {pos:Pos}
theorem pe_dnewT:PE X (.Dict [] [] pos) tDNewT:=fun pins s σ H Q I h =>
  wpAny_Dict_empty ⟨.ref s.heap.objs.size,_,I.laid (a:=s.heap.objs.size) (o:=.dT []) (t':=s.toks) (fun _ _ q=>Heap.get?_push_of_some _ q) (Nat.le_refl _) (dt_empty s.heap I.big),rfl,h _ (I.hok.fresh (Nat.le_refl _))⟩
end
end L2
namespace Att
open PySem PySem.W PySem.Calls PyProof.Rows
theorem ints_of_wellAll {P:Params} {h:Heap}:∀ (ns:List Int) (vs:List Value),WellAll P h vs (ns.map WData.int)→IntsAre vs ns:=by
  intro ns
  induction ns with
  | nil =>
    intro vs w
    rw [List.map_nil] at w
    cases w
    exact .nil
  | cons n ns ih =>
    intro vs w
    rw [List.map_cons] at w
    cases w with
    | cons a b =>
      cases a
      exact .cons _ _ (ih _ b)
theorem script_of {l:OpenLaw} {n:Nat} (hn:l.most=some n) {P:Params} {h:Heap} {args:List WData} {vals:List Value}
    (hpre:l.row.toRowW.claim.pre args=true) (hwl:WellAll P h vals args) :
    ∃ a vs ns,vals = [Value.ref a]∧args = [WData.list (ns.map WData.int)]∧h.get? a=some { cls:=.type "list",data:=.seq vs.toArray }∧IntsAre vs ns∧ns.length≤n:=by
  have hsh:WShape.hasAll [] args [.list .int]=true:=(pre_splitW hpre).1
  have hc:l.pre.holds [] { args:=args }=true:=(pre_splitW hpre).2
  obtain ⟨d,r,rfl,h1,h2⟩:=hasAllW_cons hsh
  obtain rfl:=hasAllW_nil h2
  obtain ⟨xs,rfl,h3⟩:=hasW_list h1
  obtain ⟨ns,rfl⟩:=items_int h3
  have hlen:ns.length≤n:=by
    unfold OpenLaw.pre at hc
    have h4:(WTm.not (.lt (.lit (.int (n:Int))) (.len (.arg 0)))).holds [] { args:=[.list (ns.map .int)] }=true:=by
      have h4:=(holds_andW hc).1
      rw [hn] at h4
      exact h4
    have h5:=condW_of h4 (w_not (w_lt w_lit (w_len_list (w_arg rfl))))
    rw [List.length_map] at h5
    refine Nat.le_of_not_lt fun q=>?_
    have q':(n:Int) < ((ns.length:Nat):Int):=by omega
    first
      | (rw [decide_eq_true q'] at h5; exact absurd h5 (by decide))
      | (simp at h5; omega)
  cases hwl with
  | cons w1 w2 =>
    cases w2
    cases w1 with
    | list ho hall=>exact ⟨_,_,ns,rfl,rfl,ho,ints_of_wellAll ns _ hall,hlen⟩
theorem post_true (l:OpenLaw) (args:List WData):l.row.toRowW.claim.post args (.bool true) args=true :=
  postW_of (r:=l.row.toRowW) (X:=(true == true))
    (show WShape.has [] (.bool true) .bool=true by first | rfl | decide | simp [WShape.has,WShape.arms,WShape.armsAll])
    (show (WTm.eq .res (.lit (.bool true))).value [] { args:=args,res:=some (.bool true),after:=args }=some (.bool (true == true)) from w_eq_bool (w_res rfl) w_lit) rfl
theorem attach_call {l:OpenLaw} {n:Nat} {q:Program} {loose:List Str} {XP:(Str→Option Value)→Heap→Prop} {YP:World→Heap→Prop} {d:DefRec}
    (hn:l.most=some n) (hdf:d.params.defaults = [])
    (call:∀ (w:World) (s₀ s₁:Shared) (mg mb:Str→Option Value) (fa:Addr) (o:Obj) (pm cd doc:Value) (a:Addr) (vs:List Value) (ns:List Int),
      Ground q loose [] XP w s₀ mg mb s₁.heap→YP w s₁.heap →
      s₁.heap.get? fa=some o→o.data = .func (docDef d.name d.params d.body d.scope pm cd doc)→s₁.heap.CodeRec cd d.name→mg d.name=some (.ref fa) →
      s₁.heap.get? a=some { cls:=.type "list",data:=.seq vs.toArray }→IntsAre vs ns→ns.length≤n→s₁.gens = #[] →
      codeAny (model l.prog w) callerA (.call (.ref fa) ⟨[.ref a],[]⟩) (fun r s'=>r = .ok (.ret (.bool true))∧OldK s₁.heap s'.heap∧s'.os=s₁.os∧AllBare s'.gens) s₁) :
    WalkO q loose XP YP l.row.toRowW d [] (fun f vs=>PySem.call f vs):=by
  intro w s₀ s₁ mg mb G Y fa o pm cd doc dV kV ho hd hcd hD hmg hg args vals as hpre hlay hrd hwl hlo
  obtain rfl:dV = .none:=Dflts.none hD hdf
  obtain rfl:kV = .none:=Dflts.noKw hD
  obtain ⟨a,vs,ns,rfl,rfl,hobj,hints,hlen⟩:=script_of hn hpre hwl
  refine enter_call (codeAny_mono (call w s₀ s₁ mg mb fa o pm cd doc a vs ns G Y ho (fd_plain hd) hcd hmg hobj hints hlen hg) fun r s' hq=>?_)
  obtain ⟨rfl,h2,h3,h4⟩:=hq
  exact ⟨.inl ⟨.bool true,.bool true,[],rfl,fun _=>rfl,.bool true,post_true l _,fun _=>⟨List.Pairwise.nil,fun _ hm=>(nomatch hm)⟩⟩,h2,h3,h4⟩
end Att
namespace L2
open PySem PySem.Spec PyProof.Rows
theorem vals_ints:∀ {vs:List Value} {ns:List Int},IntsAre vs ns→Vals (ns.map V.int) vs
  | _,_,.nil=>.nil
  | _,_,.cons n t h=>.cons ⟨t,rfl⟩ (vals_ints h)
def Only (H:Hp):Prop:=∀ b,H b=none∨∃ o xs,H b=some (.frz o (.lst xs))
theorem law_call {P:Program} {w:World} {K:PySem.W.Frag} {mg mb:Str→Option Value} {CX:CXT} {k:Nat} {fa a:Addr} {fd:FuncData} {x:Str} {sp:Sp} {s₁:Shared} {vs:List Value} {ns:List Int}
    (KX:K.In s₁.heap) (hns:s₁.heap.Ns mainGlobals mg) (hb:s₁.heap.Ns builtinsNs mb) (hbb:∀ x:Str,x≠"__name__" → mb x=bootBuiltins x) (hlim:s₁.heap.NoLimit) (hg:s₁.gens = #[])
    (ha:s₁.heap.get? a=some { cls:=.type "list",data:=.seq vs.toArray }) (hi:IntsAre vs ns) (hl:ns.length≤sizeLine) (hr:Room k callerA)
    (F:∀ base:Heap,K.In base→base.Ns mainGlobals mg→FnOk P w K mg base CX k fa fd [x] sp) (hbind:∀ (s:Shared) (u:Value),BindsTo s fd ⟨[u],[]⟩ [(x,u)])
    (hsp:∀ H:Hp,Only H→SqL K H a (ns.map V.int)→sp [.ref a] H (fun v _=>v = .bl true) fun _ _ _=>False)
    (hCX:∀ H e s',CX [] H s₁ (fun _ _ _=>False) e s'→False) :
    codeAny (model P w) callerA (.call (.ref fa) ⟨[.ref a],[]⟩) (fun r s'=>r = .ok (.ret (.bool true))∧OldK s₁.heap s'.heap∧s'.os=s₁.os∧AllBare s'.gens) s₁:=by
  have rv:=vals_ints hi
  have lenV:=hi.length
  have core:∀ H:Hp,Only H→SqL K H a (ns.map V.int)→HOk P w H s₁.heap→(∀ b,H b≠none→b=a)→(H a≠none→K.lookup a=none) →
      codeAny (model P w) callerA (.call (.ref fa) ⟨[.ref a],[]⟩) (fun r s'=>r = .ok (.ret (.bool true))∧OldK s₁.heap s'.heap∧s'.os=s₁.os∧AllBare s'.gens) s₁:=by
    intro H hO hS hok hA hK
    have base_of:∀ {b:Addr} {o:Obj},s₁.heap.get? b=some o→H b=none→(hidT s₁.heap H).get? b=some o:=fun e n=>hidT_get e n
    have noA:∀ {b:Addr} {o:Obj} {es:Array DictEntry} {ep:Nat},s₁.heap.get? b=some o→o.data = .dict es ep→H b=none:=fun {b o es ep} e d=>by
      cases q:H b with
      | none=>rfl
      | some u =>
        have e':b=a:=hA b (by rw [q]; simp)
        subst e'
        rw [ha] at e; cases e
        have d':Data.seq vs.toArray _=Data.dict es ep:=d
        cases d'
    have nsK:∀ {b:Addr} {m:Str→Option Value},s₁.heap.Ns b m→(hidT s₁.heap H).Ns b m:=fun {b m} ⟨o,es,ep,e,d,r⟩=>⟨o,es,ep,base_of e (noA e d),d,r⟩
    have hKb:K.In (hidT s₁.heap H):=fun b o e=>base_of (KX b o e) (by
      cases q:H b with
      | none=>rfl
      | some u =>
        have e':b=a:=hA b (by rw [q]; simp)
        subst e'
        rw [hK (by rw [q]; simp)] at e; cases e)
    have hM:Mod K mg (hidT s₁.heap H):=⟨hKb,nsK hns,⟨mb,nsK hb,hbb⟩,let ⟨mc,h1,h2⟩:=hlim; ⟨mc,nsK h1,h2⟩⟩
    have e0:Env0 P w K mg (hidT s₁.heap H) callerA [] s₁ H:=⟨rfl,hM,fun b o e=>of_hidT e,Nat.le_of_eq (hidT_size _ _),trivial,fun b hb=>absurd (show b∈([]:List Addr) from hb) (by simp),hok,.of_eq hg⟩
    refine codeAny_mono ((F _ hKb (nsK hns)).run callerA [] s₁ H ⟨[.ref a],[]⟩ [.ref a] [.ref a] _ _ hr e0 (hbind s₁ (.ref a)) (.cons rfl .nil) (hsp H hO hS)) fun r s' h=>?_
    cases r with
    | error e=>exact (hCX H e s' h).elim
    | ok fl =>
      cases fl with
      | next=>exact False.elim h
      | brk=>exact False.elim h
      | cont=>exact False.elim h
      | ret u =>
        obtain ⟨v,H',os,bare,un,hok',r',q⟩:=h
        have q':v = .bl true:=q
        subst q'
        obtain rfl:u=Value.bool true:=r'
        refine ⟨rfl,OldK.of_keep fun b o e=>?_,os,bare⟩
        cases q:H b with
        | none=>exact un.keep b o e q (by intro z; exact absurd (show b∈([]:List Addr) from z) (by simp)) (by simp)
        | some u =>
          rcases hO b with z | ⟨ob,xs,z⟩
          · rw [q] at z; cases z
          · have z2:=un.frzs b ob _ z
            obtain ⟨e1,_⟩:=hok b _ z
            obtain ⟨e2,_⟩:=hok' b _ z2
            rw [e] at e1; cases e1
            exact e2
  cases hk:K.lookup a with
  | some o =>
    have e:=KX a o hk
    rw [ha] at e
    cases e
    refine core (fun _=>none) (fun _=>.inl rfl) (.inr ⟨_,vs.toArray,_,hk,rfl,rfl,rfl,by rw [List.size_toArray,lenV]; exact hl,by simpa using rv⟩) (fun b u z=>by have z':(none:Option HO)=some u:=z; cases z') (fun b z=>absurd rfl z) fun z=>absurd rfl z
  | none =>
    refine core (fun b=>if b=a then some (.frz { cls:=.type "list",data:=.seq vs.toArray } (.lst (ns.map V.int))) else none) (fun b=>?_) (.inl (.inr ⟨{ cls:=.type "list",data:=.seq vs.toArray },if_pos rfl⟩)) (fun b u z=>?_) (fun b z=>?_) fun _=>hk
    · by_cases hb:b=a
      · exact .inr ⟨_,_,if_pos hb⟩
      · exact .inl (if_neg hb)
    · by_cases hb:b=a
      · have z':=(if_pos hb).symm.trans z
        cases z'
        subst hb
        exact ⟨ha,by rw [List.length_map]; exact hl,vs,_,rv,ha⟩
      · have z':=(if_neg hb).symm.trans z
        cases z'
    · by_cases hb:b=a
      · exact hb
      · exact absurd (if_neg hb) z
end L2
namespace L2
open PySem PySem.Spec PyProof.Rows
theorem walk_of {l:PySem.W.OpenLaw} {n k:Nat} {q:Program} {loose:List Str} {XP:(Str→Option Value)→Heap→Prop} {YP:World→Heap→Prop} {d:DefRec} {K:Params→PySem.W.Frag} {CX:World→CXT} {sp:World→Sp} {x:Str}
    (hn:l.most=some n) (hn2:n≤sizeLine) (hdf:d.params.defaults = []) (hr:Room k callerA)
    (hY:∀ (w:World) (h:Heap),YP w h→(K w.params).In h)
    (F:∀ (w:World) (mg:Str→Option Value) (fa:Addr) (h:Heap),(K w.params).In h→h.Ns mainGlobals mg→mg d.name=some (.ref fa) →
      ∃ fd:FuncData,(∀ (s:Shared) (u:Value),BindsTo s fd ⟨[u],[]⟩ [(x,u)]) ∧
        ∀ base:Heap,(K w.params).In base→base.Ns mainGlobals mg→FnOk l.prog w (K w.params) mg base (CX w) k fa fd [x] (sp w))
    (hsp:∀ (w:World) (H:Hp) (a:Addr) (ns:List Int),ns.length≤n→Only H→SqL (K w.params) H a (ns.map V.int)→sp w [.ref a] H (fun v _=>v = .bl true) fun _ _ _=>False)
    (hCX:∀ (w:World) (H:Hp) (s:Shared) (e:Value) (s':Shared),CX w [] H s (fun _ _ _=>False) e s'→False) :
    PySem.W.WalkO q loose XP YP l.row.toRowW d [] (fun f vs=>PySem.call f vs):=by
  refine Att.attach_call hn hdf fun w s₀ s₁ mg mb fa o pm cd doc a vs ns G Y ho hd hcd hmg hobj hints hlen hg=>?_
  have KX:=hY w _ Y
  obtain ⟨fd,hb,hF⟩:=F w mg fa _ KX G.T.g hmg
  exact law_call KX G.T.g G.T.b G.T.builtins G.T.nolimit hg hobj hints (Nat.le_trans hlen hn2) hr hF hb (fun H hO hS=>hsp w H a ns hlen hO hS) fun H e s'=>hCX w H s₁ e s'
end L2
namespace L2
open PySem PySem.Spec PyProof.Rows
def inClass (s:Stmt) (j:Nat):Stmt:=match s with
  | .ClassDef _ _ _ body _ _ _ _ _ _ _=>body.getD j (.Pass ⟨0,0,0,0⟩)
  | _=>.Pass ⟨0,0,0,0⟩
def defArgs (s:Stmt):Arguments:=match s with
  | .FunctionDef _ a _ _ _ _ _ _ _ _=>a
  | _=>{ posonlyargs:=[],args:=[],vararg:=none,kwonlyargs:=[],kw_defaults:=[],kwarg:=none,defaults:=[] }
def defBody (s:Stmt):List Stmt:=match s with
  | .FunctionDef _ _ b _ _ _ _ _ _ _=>b
  | _=>[]
def defScope (s:Stmt):Scope:=match s with
  | .FunctionDef _ _ _ _ _ _ sc _ _ _=>sc
  | _=>{ kind:=.function,names:=[],isGenerator:=false,isCoroutine:=false }
abbrev CX0:CXT:=fun _ _ _ _ _ _=>False
abbrev E0:XK:=fun _ _ _=>False
theorem pass0 {X:Cx}:Passes CX0 X E0:=fun _ _ _ _ _ _ _ h=>h.elim
structure Fun (K:PySem.W.Frag) (x qual:Str) (st:Stmt) (f:Addr) (fd:FuncData):Prop where
  ex:∃ (oc:Value) (od:Option Addr) (kV doc pm:Value) (an:Option Addr) (cdv ct:Value) (osl:Array (Option Value)),
    fd=PySem.W.fnOf x qual (defArgs st) (defBody st) (defScope st) .none kV doc pm an cdv ct∧K.lookup f=some ⟨oc,od,.func fd,osl⟩∧PySem.W.codeIn K cdv qual=true
  kp:PySem.W.keepIn K (.ref f)=true
section
variable {P:Program} {w:World} {K:PySem.W.Frag} {mg:Str→Option Value} {base:Heap}
theorem Fun.ok {x qual:Str} {st:Stmt} {f:Addr} {fd:FuncData} {N ps:List Str} {k:Nat} {sp:Sp} (F:Fun K x qual st f fd) (S:FnScope N ps (defScope st)) (len:∀ vs H Q E,sp vs H Q E→vs.length=ps.length)
    (hbody:∀ (cdv:Value) (A:Around) (outer:List Env) (s:Shared) (H:Hp) (vs:List V) (Q:VK) (E:XK),Room k (A.deeper (envOfC qual (defScope st) s.heap.objs.size f cdv))→sp vs H Q E →
      ∃ t,PSs (cxOf CX0 P w K mg base N qual (defScope st) f cdv A outer s H E).nox (defBody st) t∧t { nx:=fun _ H'=>Q .non H',rt:=Q } (start N vs) H):FnOk P w K mg base CX0 (k + 1) f fd ps sp:=by
  obtain ⟨oc,od,kV,doc,pm,an,cdv,ct,osl,rfl,lk,hcd⟩:=F.ex
  refine fn_of lk hcd S len fun A outer s H vs Q E hr hsp=>?_
  obtain ⟨t,h,q⟩:=hbody cdv A outer s H vs Q E hr hsp
  exact ⟨t,h.nox,q⟩
theorem Fun.binds {x qual:Str} {st:Stmt} {f:Addr} {fd:FuncData} {ps:List Str} (F:Fun K x qual st f fd)
    (h:∀ (kV doc pm:Value) (an:Option Addr) (cdv ct:Value) (us:List Value),us.length=ps.length→bindArgs (PySem.W.fnOf x qual (defArgs st) (defBody st) (defScope st) .none kV doc pm an cdv ct) ⟨us,[]⟩=pure (ps.zip us)):Binds K fd ps []:=by
  obtain ⟨oc,od,kV,doc,pm,an,cdv,ct,osl,rfl,lk,hcd⟩:=F.ex
  exact .all (h kV doc pm an cdv ct)
theorem fun_mk {x qual:Str} {st:Stmt} {f:Addr} {oc:Value} {od an:Option Addr} {osl:Array (Option Value)} {kV doc pm cdv ct:Value} (l:K.lookup f=some ⟨oc,od,.func (PySem.W.fnOf x qual (defArgs st) (defBody st) (defScope st) .none kV doc pm an cdv ct),osl⟩)
    (c:PySem.W.codeIn K cdv qual=true) (k:PySem.W.keepIn K (.ref f)=true):Fun K x qual st f (PySem.W.fnOf x qual (defArgs st) (defBody st) (defScope st) .none kV doc pm an cdv ct):=⟨⟨oc,od,kV,doc,pm,an,cdv,ct,osl,rfl,l,c⟩,k⟩
end
theorem hu_of {A:Around} {k:Nat} (hr:Room k A):A.units + 1 < cLine:=Nat.lt_of_le_of_lt (Nat.add_le_add_left (by decide:1≤64) _) hr.units
theorem small1000 {n:Nat} (h:n≤1000):n < sizeLine:=Nat.lt_of_le_of_lt h (by decide)
section
variable {X:Cx}
theorem pv (i:Nat) {x:Str} {pos:Pos} (hN:X.N[i]?=some x:=by rfl) (hv:Vis X.env.scope x:=by first | exact Or.inl rfl | exact Or.inr (Or.inl rfl) | exact Or.inr (Or.inr rfl)) (hd:(x == ("__debug__" : Str))=false:=by decide)
    (hcd:(x == ("__classdict__" : Str))=false:=by decide):PE X (.Name x pos) (tVar i):=pe_var hN hv hd hcd
end
theorem iteF {A B:Prop} (h:B):if false=true then A else B:=by
  rw [if_neg Bool.false_ne_true]
  exact h
theorem iteT {A B:Prop} (h:A):if true=true then A else B:=by
  rw [if_pos rfl]
  exact h
theorem ite2 {c A B:Prop} [Decidable c] (h1:c→A) (h2:¬ c→B):if c then A else B:=by
  by_cases h:c
  · rw [if_pos h]
    exact h1 h
  · rw [if_neg h]
    exact h2 h
def Same (H H':Hp):Prop:=∀ b o,H b=some o→H' b=some o
theorem Same.refl (H:Hp):Same H H:=fun _ _ h=>h
theorem Same.trans {H H1 H2:Hp} (a:Same H H1) (b:Same H1 H2):Same H H2:=fun c o h=>b c o (a c o h)
theorem Same.free {H H':Hp} (e:Same H H') {l:Addr} (h:H' l=Option.none):H l=Option.none:=by
  cases q:H l with
  | none=>rfl
  | some o =>
    rw [e l o q] at h
    cases h
theorem Same.seq {K:PySem.W.Frag} {H H':Hp} {a:Addr} {xs:List V} (e:Same H H') (h:SqL K H a xs):SqL K H' a xs:=by
  rcases h with (h | ⟨o,h⟩) | h
  · exact .inl (.inl (e _ _ h))
  · exact .inl (.inr ⟨o,e _ _ h⟩)
  · exact .inr h
end L2
namespace L2
open PySem PySem.Spec PyProof.Rows
theorem cellOf_eq {env:Env} {x:Str} {c:Addr} (h:env.cells.lookup x=some c):cellOf env x=pure c:=by
  unfold cellOf
  rw [h]
def closOf (env:Env):List (Str × NameKind)→List (Str × Addr)→List (Str × Addr)
  | [],cs=>cs
  | (n,k) :: r,cs=>closOf env r (if k == .free then (n,(env.cells.lookup n).getD 0) :: cs else cs)
theorem clos_go {env:Env}:∀ (ns:List (Str × NameKind)) (cs:List (Str × Addr)),(∀ n,(n,NameKind.free)∈ns→∃ c,env.cells.lookup n=some c) →
    (forIn (m:=Sem) ns cs fun x r=>match x with
      | (name,kind)=>if (kind == NameKind.free)=true then do let c ← cellOf env name; pure (ForInStep.yield ((name,c) :: r)) else pure (ForInStep.yield r))=pure (closOf env ns cs)
  | [],cs,_=>rfl
  | (n,k) :: r,cs,h=>by
    rw [List.forIn_cons]
    by_cases hk:(k == NameKind.free)=true
    · have ek:k = .free:=by simpa using hk
      obtain ⟨c,e⟩:=h n (by rw [ek]; exact List.mem_cons_self)
      simp only [hk,if_true,cellOf_eq e]
      have q:=clos_go r ((n,c) :: cs) fun m hm=>h m (List.mem_cons_of_mem _ hm)
      show (forIn (m:=Sem) r ((n,c) :: cs) _)=pure (closOf env r (if (k == .free)=true then (n,(env.cells.lookup n).getD 0) :: cs else cs))
      rw [if_pos hk,e]
      exact q
    · simp only [hk]
      have q:=clos_go r cs fun m hm=>h m (List.mem_cons_of_mem _ hm)
      show (forIn (m:=Sem) r cs _)=pure (closOf env r (if (k == .free)=true then (n,(env.cells.lookup n).getD 0) :: cs else cs))
      rw [if_neg hk]
      exact q
theorem closureFor_ok {scope:Scope} {env:Env} (h:∀ n,(n,NameKind.free)∈scope.names→∃ c,env.cells.lookup n=some c):closureFor scope env=pure (closOf env scope.names []):=by
  have e:=clos_go scope.names [] h
  unfold closureFor
  show (forIn (m:=Sem) scope.names [] (fun x r=>match x with
      | (name,kind)=>if (kind == NameKind.free)=true then do let c ← cellOf env name; pure (ForInStep.yield ((name,c) :: r)) else pure (ForInStep.yield r)) >>= fun s=>pure s)=_
  rw [e]
  rfl
theorem closOf_sub {env:Env} {x:Str} {c:Addr}:∀ (ns:List (Str × NameKind)) (cs:List (Str × Addr)),(∀ n,(n,NameKind.free)∈ns→∃ c,env.cells.lookup n=some c)→(cs.lookup x=some c→env.cells.lookup x=some c) →
    (closOf env ns cs).lookup x=some c→env.cells.lookup x=some c
  | [],_,_,h0,h=>h0 h
  | (n,k) :: r,cs,hf,h0,h=>by
    unfold closOf at h
    refine closOf_sub r _ (fun m hm=>hf m (List.mem_cons_of_mem _ hm)) (fun q=>?_) h
    by_cases hk:(k == NameKind.free)=true
    · have ek:k = .free:=by simpa using hk
      subst ek
      obtain ⟨d,e⟩:=hf n List.mem_cons_self
      rw [if_pos hk,e,List.lookup_cons] at q
      by_cases hx:(x == n)=true
      · have ex:x=n:=by simpa using hx
        rw [hx] at q
        subst ex
        rw [e]; exact q
      · simp only [hx] at q
        exact h0 q
    · rw [if_neg hk] at q
      exact h0 q
theorem closOf_has {env:Env} {x:Str}:∀ (ns:List (Str × NameKind)) (cs:List (Str × Addr)),((cs.lookup x).isSome=true∨(x,NameKind.free)∈ns)→((closOf env ns cs).lookup x).isSome=true
  | [],_,h=>h.elim id fun z=>absurd z (by simp)
  | (n,k) :: r,cs,h=>by
    unfold closOf
    refine closOf_has r _ ?_
    rcases h with h | h
    · refine .inl ?_
      split
      · rw [List.lookup_cons]
        split
        · rfl
        · exact h
      · exact h
    · rcases List.mem_cons.mp h with e | h
      · cases e
        refine .inl ?_
        rw [if_pos (show (NameKind.free == NameKind.free)=true from rfl),List.lookup_cons]
        simp
      · exact .inr h
def capSt (cap:List (Option Nat)) (σ:St):St:=cap.map fun o=>o.bind fun j=>(σ[j]?).join
def cxComp (X:Cx) (scope:Scope) (N':List Str) (fp:List Addr) (pins:List (Addr × Obj)) (s₃:Shared) (H₃:Hp):Cx where
  prog:=X.prog
  w:=X.w
  K:=X.K
  mg:=X.mg
  base:=X.base
  A:=X.A
  N:=N'
  s₀:=s₃
  H₀:=H₃
  env:=compEnvC scope (closOf X.env scope.names []) s₃.heap.objs.size X.env
  outer:=X.stack
  stack:=X.stack
  ex:=fp
  fn:=fun _=>false
  calm:=X.calm
  pn:=X.pn++pins
  xe:=fun _ _=>False
structure CompOk (X:Cx) (scope:Scope) (N':List Str) (cap:List (Option Nat)):Prop where
  kind:scope.kind = .function
  nocell:∀ y∈scope.names,y.2≠.cell
  loc:∀ y∈scope.names,y.2 = .local→scope.names.lookup y.1=some .local
  fr:∀ y∈scope.names,y.2 = .free→X.env.kindOf y.1=some .cell
  frl:∀ y∈scope.names,y.2 = .free→scope.names.lookup y.1=some .free
  nd:N'.Nodup
  len:cap.length=N'.length
  cap:∀ (i j:Nat) (x:Str),cap[i]?=some (some j)→N'[i]?=some x→X.N[j]?=some x∧(x,NameKind.free)∈scope.names
section
variable {X:Cx} {scope:Scope} {N':List Str} {cap:List (Option Nat)} {fp:List Addr} {pins:List (Addr × Obj)} {s:Shared} {σ:St} {H:Hp}
theorem CompOk.clos (S:CompOk X scope N' cap) (ok:X.Ok):∀ n,(n,NameKind.free)∈scope.names→∃ c,X.env.cells.lookup n=some c:=fun n hn=>ok.has n (.inl (S.fr _ hn rfl))
theorem relabel_kind {env:Env} {x:Str}:∀ {names:List (Str × NameKind)} {k:NameKind},
    (names.map fun (n,k)=>if (k == NameKind.free && env.scope.kind == .function && env.kindOf n == some .cell) then (n,NameKind.cell) else (n,k)).lookup x=some k→k = .cell∨k = .free→(∀ y∈names,y.2≠.cell)→(x,NameKind.free)∈names
  | [],_,h,_,_=>by simp at h
  | (n,q) :: r,k,h,hk,hc=>by
    have h':List.lookup x ((if (q == NameKind.free && env.scope.kind == .function && env.kindOf n == some .cell)=true then (n,NameKind.cell) else (n,q)) :: (r.map fun (n,k)=>if (k == NameKind.free && env.scope.kind == .function && env.kindOf n == some .cell) then (n,NameKind.cell) else (n,k)))=some k:=h
    by_cases hx:(x == n)=true
    · have ex:x=n:=by simpa using hx
      subst ex
      by_cases hq:(q == NameKind.free && env.scope.kind == .function && env.kindOf x == some .cell)=true
      · have:q = .free:=by
          rw [Bool.and_eq_true,Bool.and_eq_true] at hq
          simpa using hq.1.1
        subst this
        exact List.mem_cons_self
      · rw [if_neg hq,List.lookup_cons,hx] at h'
        have e:q=k:=Option.some.inj h'
        subst e
        rcases hk with hk | hk
        · exact absurd hk (hc _ List.mem_cons_self)
        · rw [hk]; exact List.mem_cons_self
    · have hx':(x == n)=false:=by simpa using hx
      refine List.mem_cons_of_mem _ (relabel_kind (env:=env) (k:=k) ?_ hk fun y hy=>hc y (List.mem_cons_of_mem _ hy))
      split at h'
      · rw [List.lookup_cons,hx'] at h'; exact h'
      · rw [List.lookup_cons,hx'] at h'; exact h'
theorem relabel_free {env:Env} {x:Str} (hf:env.scope.kind = .function) (hx:env.kindOf x=some .cell):∀ {names:List (Str × NameKind)},names.lookup x=some .free →
    (names.map fun (n,k)=>if (k == NameKind.free && env.scope.kind == .function && env.kindOf n == some .cell) then (n,NameKind.cell) else (n,k)).lookup x=some .cell
  | [],h=>by simp at h
  | (n,k) :: r,h=>by
    show List.lookup x ((if (k == NameKind.free && env.scope.kind == .function && env.kindOf n == some .cell)=true then (n,NameKind.cell) else (n,k)) :: _)=_
    cases hxn:x == n with
    | true =>
      have e:x=n:=by simpa using hxn
      subst e
      simp only [List.lookup_cons,hxn] at h
      have ek:k = .free:=Option.some.inj h
      subst ek
      rw [if_pos (by rw [hf,hx]; rfl),List.lookup_cons,hxn]
    | false =>
      simp only [List.lookup_cons,hxn] at h
      have ih:=relabel_free hf hx h
      split
      · rw [List.lookup_cons,hxn]; exact ih
      · rw [List.lookup_cons,hxn]; exact ih
theorem CompOk.ok (S:CompOk X scope N' cap) (I:Inv X pins σ H s) (hf:∀ b∈fp,FpOk X pins H b) (hex:∀ b∈fp,∃ o,s.heap.get? b=some o):(cxComp X scope N' fp pins s H).Ok where
  mod:=I.ok.mod
  kind:=S.kind
  glob:=I.ok.glob
  blt:=I.ok.blt
  above:=Nat.le_refl _
  inj:=fun x y c h1 h2=>I.ok.inj x y c (closOf_sub _ _ (S.clos I.ok) (fun z=>by simp at z) h1) (closOf_sub _ _ (S.clos I.ok) (fun z=>by simp at z) h2)
  has:=fun x hx=>by
    have hm:(x,NameKind.free)∈scope.names:=by
      rcases hx with hx | hx
      · exact relabel_kind (env:=X.env) hx (.inl rfl) S.nocell
      · exact relabel_kind (env:=X.env) hx (.inr rfl) S.nocell
    exact Option.isSome_iff_exists.mp (closOf_has scope.names [] (.inr hm))
  cab:=fun x c h=>by cases h
  hd:=I.ok.hd
  frames:=I.ok.frames
  stk:=.inl rfl
  exf:=fun b hb=>by
    obtain ⟨o,e⟩:=hex b hb
    refine ⟨Nat.ne_of_lt (Heap.lt_size e),fun x c h=>(hf b hb).2.2.2.2.1 x c (closOf_sub _ _ (S.clos I.ok) (fun z=>by simp at z) h)⟩
  bs:=I.bs
  bsz:=Nat.le_trans I.ok.bsz I.sz
  noex:=fun b o e hb=>by
    rcases (hf b hb).2.2.2.1 with z | z
    · exact I.ok.noex b o e z
    · exact absurd (Nat.lt_of_lt_of_le (Heap.lt_size e) (Nat.le_trans I.ok.bsz z)) (Nat.lt_irrefl _)
  exfs:=fun b hb hs=>by
    rcases List.mem_cons.mp (I.stkSub b hs) with z | z
    · exact (hf b hb).2.1 z
    · exact (hf b hb).2.2.1 z
  funs:=I.stack
  frf:=I.stkFree
theorem CompOk.look (S:CompOk X scope N' cap) (I:Inv X pins σ H s) {h₁:Heap} {m:Str→Option Value} (cellK:∀ x c v,X.env.cells.lookup x=some c→s.heap.IsCell c v→h₁.IsCell c v) (i:Nat) (x:Str) (v:V) (h1:N'[i]?=some x) (h2:(capSt cap σ)[i]?=some (some v)) :
    ∃ u,RelV v u∧Look (compEnvC scope (closOf X.env scope.names []) s.heap.objs.size X.env) h₁ m x u:=by
  have clsub:∀ x c,(closOf X.env scope.names []).lookup x=some c→X.env.cells.lookup x=some c:=fun x c h=>closOf_sub _ _ (S.clos I.ok) (fun z=>by simp at z) h
  have h2':((cap[i]?).map fun o=>o.bind fun j=>(σ[j]?).join)=some (some v):=by
    have:=h2
    unfold capSt at this
    rw [List.getElem?_map] at this
    exact this
  cases ec:cap[i]? with
  | none=>rw [ec] at h2'; cases h2'
  | some o =>
    cases o with
    | none=>rw [ec] at h2'; cases h2'
    | some j =>
      rw [ec] at h2'
      obtain ⟨hN,hfree⟩:=S.cap i j x ec h1
      have h2'':(σ[j]?).join=some v:=Option.some.inj h2'
      have hv:σ[j]?=some (some v):=by
        cases ej:σ[j]? with
        | none=>rw [ej] at h2''; cases h2''
        | some y =>
          cases y with
          | none=>rw [ej] at h2''; cases h2''
          | some z =>
            rw [ej] at h2''
            have e:z=v:=Option.some.inj h2''
            rw [e]
      have hkind:=S.fr _ hfree rfl
      obtain ⟨m0,hn0,hl0⟩:=I.loc
      obtain ⟨u,r,l⟩:=hl0 j x v hN hv (.inr (.inl hkind))
      refine ⟨u,r,?_⟩
      rcases l with ⟨hk,_⟩ | ⟨hk,c,hc,hcell⟩
      · have z:X.env.kindOf x=some .cell:=hkind
        rw [hk] at z; cases z
      · obtain ⟨c',hc'⟩:=Option.isSome_iff_exists.mp (closOf_has (env:=X.env) (x:=x) scope.names [] (.inr hfree))
        have ecc:c'=c:=by
          have:=clsub x c' hc'
          rw [hc] at this
          exact (Option.some.inj this).symm
        subst ecc
        exact .inr ⟨.inl (relabel_free I.ok.kind hkind (S.frl _ hfree rfl)),c',hc',cellK x c' _ hc hcell⟩
theorem CompOk.start (S:CompOk X scope N' cap) (I:Inv X pins σ H s) (hf:∀ b∈fp,FpOk X pins H b) (hex:∀ b∈fp,∃ o,s.heap.get? b=some o) {h₁:Heap} {tk:Nat} {m:Str→Option Value} (hns:h₁.Ns s.heap.objs.size m)
    (kp:∀ b o,s.heap.get? b=some o→h₁.get? b=some o):Inv (cxComp X scope N' fp pins s H) [] (capSt cap σ) H { s with heap:=h₁,toks:=tk }:=by
  have clsub:∀ x c,(closOf X.env scope.names []).lookup x=some c→X.env.cells.lookup x=some c:=fun x c h=>closOf_sub _ _ (S.clos I.ok) (fun z=>by simp at z) h
  have cellK:∀ {c:Addr} {v:Option Value},s.heap.IsCell c v→h₁.IsCell c v:=fun {c v} ⟨o,e,d⟩=>⟨o,kp c o e,d⟩
  refine ⟨S.ok I hf hex,rfl,I.bare,Un.kept kp,⟨m,hns,fun i x v h1 h2 h3=>S.look I (fun _ _ _ _ z=>cellK z) i x v h1 h2⟩,fun x c h=>?_,I.hok.fresh (Nat.le_refl _),fun x c h=>I.freeC x c (clsub x c h),fun p hp=>?_,I.hok.kept kp,?_⟩
  · obtain ⟨v,z⟩:=I.cell x c (clsub x c h)
    exact ⟨v,cellK z⟩
  · have hp0:p∈(X.pn++pins)++[]:=hp
    have hp':p∈X.pn++pins:=by rw [List.append_nil] at hp0; exact hp0
    obtain ⟨e,n,ne,nf,d⟩:=I.pin p hp'
    refine ⟨kp _ _ e,n,Nat.ne_of_lt (Heap.lt_size e),fun z=>?_,d⟩
    rcases List.mem_cons.mp (I.stkSub p.1 z) with q | q
    · exact ne q
    · exact nf q
  · unfold capSt
    rw [List.length_map]
    exact S.len
theorem CompOk.again (S:CompOk X scope N' cap) (I:Inv X pins σ H s) (hf:∀ b∈fp,FpOk X pins H b) {σ8:St} {H8:Hp} {s8:Shared} (I8:Inv (cxComp X scope N' fp pins s H) [] σ8 H8 s8):Inv (cxComp X scope N' fp pins s H) [] (capSt cap σ) H8 s8:=by
  obtain ⟨m,hn,_⟩:=I8.loc
  refine ⟨I8.ok,I8.os,I8.bare,I8.base,⟨m,hn,fun i x v h1 h2 h3=>S.look I (fun y c u hc hu=>?_) i x v h1 h2⟩,I8.cell,I8.free,I8.freeC,I8.pin,I8.hok,?_⟩
  · obtain ⟨o,e,d⟩:=hu
    obtain ⟨sl,q⟩:=I8.base.any e (I.freeC y c hc) fun hb=>(hf c hb).2.2.2.2.1 y c hc rfl
    exact ⟨_,q,d⟩
  · unfold capSt
    rw [List.length_map]
    exact S.len
theorem CompOk.back {H2 H':Hp} {s2 s3 s':Shared} {σ':St} {acc:Addr} {h'':Heap} (S:CompOk X scope N' cap) (I2:Inv X pins σ H2 s2) (hf:∀ b∈fp,FpOk X pins H2 b) {o:HO}
    (e3:s3.heap.objs.size=s2.heap.objs.size + 1) (k3:∀ b u,s2.heap.get? b=some u→s3.heap.get? b=some u) (ha:acc=s2.heap.objs.size) (o3:s3.os=s2.os)
    (I':Inv (cxComp X scope N' fp pins s3 (upd H2 acc o)) [] σ' H' s') (sb:Heap.SameBut s3.heap.objs.size s'.heap h''):Inv X pins σ H' { s' with heap:=h'' }:=by
  have u1:Un (frs X.stack) fp H2 (upd H2 acc o) s2.heap s3.heap:=Un.laid k3 (by rw [ha]; exact Nat.le_refl _) (I2.hok.fresh (by rw [ha]; exact Nat.le_refl _))
  have u2:Un (frs X.stack) fp H2 H' s2.heap s'.heap:=u1.trans I'.base
  have old:∀ b ob,s2.heap.get? b=some ob→b≠s3.heap.objs.size:=fun b ob e=>by
    have:=Heap.lt_size e
    rw [e3]
    exact Nat.ne_of_lt (Nat.lt_succ_of_lt this)
  have hC:H' s3.heap.objs.size=none:=I'.free
  have u3:Un (frs X.stack) fp H2 H' s2.heap h'' :=
    ⟨fun b ob e n hb hx=>(sb.2 b (old b ob e)).trans (u2.keep b ob e n hb hx),fun b ob e n hb hx=>by
      obtain ⟨sl,q⟩:=u2.slot b ob e n hb hx
      exact ⟨sl,(sb.2 b (old b ob e)).trans q⟩,u2.free,fun b ob e hx=>by
      obtain ⟨o',q⟩:=u2.there b ob e hx
      exact ⟨o',(sb.2 b (old b ob e)).trans q⟩,u2.tups,u2.frzs,u2.tbls⟩
  have hok:HOk X.prog X.w H' h'':=fun b ob e=>(I'.hok b ob e).stay (fun c v hc q=>(sb.2 c (by
    rintro rfl
    rcases hc with z | z
    · rw [← z,hC] at e; cases e
    · rw [hC] at z; cases z)).trans q) (fun _ q=>q) fun _ _ q=>q
  refine I2.call' (s':={ s' with heap:=h'' }) (ch:=fp) (I'.os.trans o3) u3 hok I'.bare fun b hb=>?_
  obtain ⟨_,f1,_,f3,f4,f5⟩:=hf b hb
  exact ⟨f3,f1,f4,f5⟩
def PTs (X:Cx) (ifs:List Expr) (t:TT):Prop :=
  ∀ (pins:List (Addr × Obj)) (s:Shared) (σ:St) (H:Hp) (Q:Bool→Hp→Prop),Inv X pins σ H s→t σ H Q →
    wpAny (model X.prog X.w) X.A (forIn ifs true fun c r=>if r=true then do let ok ← isTrue c X.env (eval c X.env); pure (ForInStep.yield ok) else pure (ForInStep.yield r)) (TP X pins σ Q) X.xe s
def tTrue:TT:=fun _ H Q=>Q true H
theorem pts_nil:PTs X [] tTrue:=fun _ _ _ H _ I h=>wpAny_tests_nil ⟨H,I,h⟩
theorem pts_one {c:Expr} {t:TT} (h:PT X c t):PTs X [c] t:=fun pins s σ H Q I hq=>wpAny_tests_one (h pins s σ H Q I hq)
def tComp (wi:TI) (cap:List (Option Nat)) (g:TG) (tc:TT) (te:TE):TE:=fun σ H Q=>wi σ H fun J H1=>∀ acc,H1 acc=none→∃ W:Nat→Nat→Hp→Prop,(∃ m,W 0 m (upd H1 acc (.lst [])))∧∀ i m H,W i m H →
  (J.stop i H∧Q (.ref acc) H)∨(J.go i H∧∀ x H',J.yld i H x H'→g x (capSt cap σ) H' fun σ2 H2=>tc σ2 H2 fun b H3=>if b=true then te σ2 H3 fun y H4=>∃ xs,H4 acc=some (.lst xs)∧xs.length < sizeLine ∧
    ∃ m',m' < m∧W (i + 1) m' (upd H4 acc (.lst (xs++[y]))) else ∃ m',m' < m∧W (i + 1) m' H3)
theorem comp_loop {elt target iter:PySem.Expr} {ifs:List PySem.Expr} {scope:Scope} {pos:Pos} {it acc:Value} {env:Env} {prog:Program} {w:World} {A:Around} {s:Shared} {R:Result→Shared→Prop} (I:Nat→Shared→Prop)
    (turn:∀ n s,I n s→wpAny (model prog w) A (pyNext it) (fun r s₁=>match r with
      | none=>R (.ok .next) s₁
      | some v=>wpAny (model prog w) A (letOwnedTupleGo target it v) (fun _ s₀=>wpAny (model prog w) A (assign target env v) (fun _ s₂ =>
          wpAny (model prog w) A (forIn ifs true fun c r=>if r=true then do let ok ← isTrue c env (eval c env); pure (ForInStep.yield ok) else pure (ForInStep.yield r)) (fun ok s₃=>if ok=true then wpAny (model prog w) A (eval elt env) (fun x s₄ =>
            wpAny (model prog w) A (call (.builtin "list.append") [acc,x]) (fun _ s₅=>∃ m,m < n∧I m s₅) (fun _ _=>False) s₄) (fun _ _=>False) s₃
            else ∃ m,m < n∧I m s₃) (fun _ _=>False) s₂)
          (fun _ _=>False) s₀) (fun _ _=>False) s₁) (fun _ _=>False) s)
    (n:Nat) (h:I n s):codeAny (model prog w) A (.compLoop (.ListComp elt [⟨target,iter,ifs,0⟩] scope pos) 0 it acc env) R s:=by
  refine codeAny_loop rfl I (fun n s hI=>?_) n h
  show wpAny _ A ((compTurn (.ListComp elt [⟨target,iter,ifs,0⟩] scope pos) 0 it acc env).onRaise (fun x=>do noteFrame x env; theTreesLotGoes x)) _ _ s
  refine wpAny_noted ?_
  rw [compTurn_list]
  refine wpAny_bind (wpAny_standAt (wpAny_bind (wpAny_mono (turn n s hI) (fun r s₁ h₁=>?_) fun _ _ z=>z.elim)))
  cases r with
  | none=>exact wpAny_pure h₁
  | some v =>
    refine wpAny_bind (wpAny_mono h₁ (fun _ s₀ h₀'=>?_) fun _ _ z=>z.elim)
    refine wpAny_bind (wpAny_mono h₀' (fun _ s₂ h₂=>?_) fun _ _ z=>z.elim)
    refine wpAny_bind (wpAny_mono h₂ (fun okb s₃ h₃=>?_) fun _ _ z=>z.elim)
    cases okb with
    | false=>exact wpAny_pure ⟨rfl,h₃⟩
    | true=>exact wpAny_bind (wpAny_bind (wpAny_mono h₃ (fun x s₄ h₄=>wpAny_bind (wpAny_mono h₄ (fun _ s₅ h₅=>wpAny_pure (wpAny_pure ⟨rfl,h₅⟩)) fun _ _ z=>z.elim)) fun _ _ z=>z.elim))
theorem comp_block {elt tg iter:Expr} {ifs:List Expr} {pos:Pos} {g:TG} {tc:TT} {te:TE} {Q:VK} {s2:Shared} {H2:Hp} {it:Addr} {tn:Nat→Heap→Prop} {J:It} {E:Value→Shared→Prop} {RR:Value→Addr→Result→Shared→Prop}
    (S:CompOk X scope N' cap) (hc:X.calm=true) (hg:∀ fp pins s H,PG (cxComp X scope N' fp pins s H) tg g) (hts:∀ fp pins s H,PTs (cxComp X scope N' fp pins s H) ifs tc) (he:∀ fp pins s H,PE (cxComp X scope N' fp pins s H) elt te)
    (I2:Inv X pins σ H2 s2) (T:Turn X.prog X.w X.K tg J fp it tn) (st2:tn 0 s2.heap) (f2:∀ b∈fp,FpOk X pins H2 b)
    (h:∀ acc,H2 acc=none→∃ W:Nat→Nat→Hp→Prop,(∃ m,W 0 m (upd H2 acc (.lst [])))∧∀ i m H,W i m H →
      (J.stop i H∧Q (.ref acc) H)∨(J.go i H∧∀ x H',J.yld i H x H'→g x (capSt cap σ) H' fun σ2 H2=>tc σ2 H2 fun b H3=>if b=true then te σ2 H3 fun y H4=>∃ xs,H4 acc=some (.lst xs)∧xs.length < sizeLine ∧
        ∃ m',m' < m∧W (i + 1) m' (upd H4 acc (.lst (xs++[y]))) else ∃ m',m' < m∧W (i + 1) m' H3))
    (hRR:∀ C s' H',(∃ m,s'.heap.Ns C m)→(∀ h'',Heap.SameBut C s'.heap h''→Inv X pins σ H' { s' with heap:=h'' })→Q (.ref s2.heap.objs.size) H'→H' C=none→s2.heap.objs.size < C →
      RR (.ref s2.heap.objs.size) C (.ok .next) s') :
    wpAny (model X.prog X.w) X.A (newList []) (fun acc s₃=>wpAny (model X.prog X.w) X.A (newFunctionEnv scope X.env.globals (closOf X.env scope.names []) [] X.env.qual none .none (some X.env)) (fun cenv s₄ =>
      codeAny (model X.prog X.w) X.A (.compStart (.ListComp elt [⟨tg,iter,ifs,0⟩] scope pos) 0 (.ref it) acc { cenv with scope:=relabel scope X.env }) (RR acc cenv.locals) s₄) E s₃) E s2:=by
  refine wpAny_newObj_type (wpAny_newFunctionEnv S.nocell (by intro y hy; simp at hy) (fun h₁ hns₁ hsb₁=>?_) S.kind)
  dsimp only at hns₁ hsb₁ ⊢
  have hfr:H2 s2.heap.objs.size=none:=I2.hok.fresh (Nat.le_refl _)
  generalize hH3:s2.heap.push { cls:=.type "list",dict:=none,data:=.seq ([]:List Value).toArray }=h3 at hns₁ hsb₁ ⊢
  have e3:h3.objs.size=s2.heap.objs.size + 1:=by rw [← hH3,Heap.size_push]
  have k3:∀ b u,s2.heap.get? b=some u→h3.get? b=some u:=fun b u e=>by rw [← hH3]; exact Heap.get?_push_of_some _ e
  have I3:Inv X pins σ (upd H2 s2.heap.objs.size (.lst [])) { s2 with heap:=h3,toks:=s2.toks }:=by
    refine I2.laid (t':=s2.toks) k3 (Nat.le_refl _) ?_
    exact ⟨Nat.zero_le _,[],0,.nil,by rw [← hH3]; exact Heap.get?_push_size _ rfl⟩
  have f3:∀ b∈fp,FpOk X pins (upd H2 s2.heap.objs.size (.lst [])) b:=fun b hb=>by
    obtain ⟨o,e,_⟩:=T.obj _ _ st2 b hb
    exact ⟨by rw [upd_ne (Nat.ne_of_lt (Heap.lt_size e))]; exact (f2 b hb).1,(f2 b hb).2⟩
  have ex3:∀ b∈fp,∃ o,h3.get? b=some o:=fun b hb=>by
    obtain ⟨o,e,_⟩:=T.obj _ _ st2 b hb
    exact ⟨o,k3 b o e⟩
  have kp:∀ b o,h3.get? b=some o→h₁.get? b=some o:=fun b o e=>hsb₁.extBut b o (Nat.ne_of_lt (Heap.lt_size e)) (Heap.get?_push_of_some _ e)
  have I4:=S.start (fp:=fp) (tk:=s2.toks + ([]:List (Str × Value)).length) I3 f3 ex3 hns₁ kp
  have st4:tn 0 h₁:=T.keep _ _ _ st2 fun b _ o e=>kp b o (k3 b o e)
  obtain ⟨W,⟨m0,w0⟩,turn⟩:=h s2.heap.objs.size hfr
  let X':=cxComp X scope N' fp pins { s2 with heap:=h3,toks:=s2.toks } (upd H2 s2.heap.objs.size (.lst []))
  have stat:∀ {pins':List (Addr × Obj)} {H':Hp},(∀ p∈pins',p.1 ∉ fp)→(∀ b∈fp,H' b=none)→∀ b∈fp,FpOk X' pins' H' b:=fun {pins' H'} hpn hn b hb=>by
    obtain ⟨o,e⟩:=ex3 b hb
    refine ⟨hn b hb,Nat.ne_of_lt (Heap.lt_size e),fun z=>?_,.inl hb,fun x c hx=>(f3 b hb).2.2.2.2.1 x c (closOf_sub _ _ (S.clos I2.ok) (fun z=>by simp at z) hx),fun p hp=>?_⟩
    · rcases List.mem_cons.mp (I2.stkSub b z) with q | q
      · exact (f2 b hb).2.1 q
      · exact (f2 b hb).2.2.1 q
    · rcases List.mem_append.mp hp with q | q
      · exact (f2 b hb).2.2.2.2.2 p q
      · exact fun z=>hpn p q (z ▸ hb)
  have loop:codeAny (model X.prog X.w) X.A (.compLoop (.ListComp elt [⟨tg,iter,ifs,0⟩] scope pos) 0 (.ref it) (.ref s2.heap.objs.size) X'.env) (RR (.ref s2.heap.objs.size) h3.objs.size) { s2 with heap:=h₁,toks:=s2.toks + ([]:List (Str × Value)).length }:=by
    refine comp_loop (fun n s'=>∃ i H',Inv X' [] (capSt cap σ) H' s'∧tn i s'.heap∧(∀ b∈fp,H' b=none)∧W i n H') ?_ m0 ⟨0,_,I4,st4,fun b hb=>(f3 b hb).1,w0⟩
    rintro n s5 ⟨i,H5,I5,st5,fr5,w5⟩
    rcases turn i n H5 w5 with ⟨stop,qn⟩ | ⟨go,step⟩
    · refine wpAny_mono (T.done X' rfl rfl rfl hc i [] s5 (capSt cap σ) H5 (fun _ _=>False) I5 (stat (fun _ z=>absurd z (by simp)) fr5) st5 stop) (fun r s6 ⟨hr,I6⟩=>?_) fun _ _ z=>z
      subst hr
      refine hRR _ s6 H5 ?_ (fun h'' sb=>S.back I2 f2 (s3:={ s2 with heap:=h3,toks:=s2.toks }) e3 k3 rfl rfl I6 sb) qn I6.free (by rw [e3]; exact Nat.lt_succ_self _)
      obtain ⟨m,hn,_⟩:=I6.loc
      exact ⟨m,hn⟩
    · refine wpAny_mono (T.item X' rfl rfl rfl hc i [] s5 (capSt cap σ) H5 (fun _ _=>False) I5 (stat (fun _ z=>absurd z (by simp)) fr5) st5 go) (fun r s6 ⟨u,hr,h6⟩=>?_) fun _ _ z=>z
      subst hr
      refine wpAny_mono h6 (fun _ s7 ⟨x,H7,I7,r7,y7,st7,fr7⟩=>?_) fun _ _ z=>z
      have I7':=I7.pinned (stat (fun _ z=>absurd z (by simp)) fr7) (T.obj _ _ st7)
      have again:∀ {σ8:St} {H8:Hp} {s8:Shared},Inv X' ([]++pinsAt fp s7.heap) σ8 H8 s8→(∃ m',m' < n∧W (i + 1) m' H8)→∃ m,m < n∧∃ i H',Inv X' [] (capSt cap σ) H' s8∧tn i s8.heap∧(∀ b∈fp,H' b=none)∧W i m H':=fun {σ8 H8 s8} I8 n8=>by
        obtain ⟨m',hm,w8⟩:=n8
        have pn:∀ b∈fp,∃ o,s7.heap.get? b=some o∧s8.heap.get? b=some o∧H8 b=none:=fun b hb=>by
          obtain ⟨o,e,d⟩:=T.obj _ _ st7 b hb
          have q:=I8.pin (b,o) (List.mem_append_right _ (List.mem_append_right _ (mem_pinsAt hb e)))
          exact ⟨o,e,q.1,q.2.1⟩
        refine ⟨m',hm,i + 1,H8,S.again I3 f3 I8.unpinned,T.keep _ _ _ st7 fun b hb o e=>?_,fun b hb=>?_,w8⟩
        · obtain ⟨o',e',q,_⟩:=pn b hb
          rw [e] at e'; cases e'
          exact q
        · obtain ⟨_,_,_,q⟩:=pn b hb
          exact q
      refine wpAny_mono (hg fp pins _ _ _ s7 (capSt cap σ) H7 x u _ I7' r7 (step x H7 y7)) (fun _ s8 ⟨σ8,H8,I8,q8⟩=>?_) fun _ _ z=>z
      refine wpAny_mono (hts fp pins _ _ _ s8 σ8 H8 _ I8 q8) (fun b s9 ⟨H9,I9,q9⟩=>?_) fun _ _ z=>z
      cases b with
      | false=>exact again I9 q9
      | true =>
        refine wpAny_mono (he fp pins _ _ _ s9 σ8 H9 _ I9 q9) (fun u s10 ⟨y,H10,I10,r10,xs,hx,hl,q10⟩=>?_) fun _ _ z=>z
        refine wpAny_mono (mt_append (X:=X') _ s10 σ8 H10 (.ref s2.heap.objs.size) [y] (.ref s2.heap.objs.size) [u] (fun _ H'=>∃ m',m' < n∧W (i + 1) m' H') I10 rfl (.cons r10 .nil) ⟨_,xs,y,rfl,rfl,hx,hl,q10⟩) (fun _ s11 ⟨_,H11,I11,_,q11⟩=>again I11 q11) fun _ _ z=>z
  exact codeAny_compStart_list loop (T.self _ 0 _ _ _ st4 loop)
theorem pe_comp {elt tg iter:Expr} {ifs:List Expr} {pos:Pos} {wi:TI} {g:TG} {tc:TT} {te:TE} (S:CompOk X scope N' cap) (hc:X.calm=true) (hi:PI X tg iter wi) (hg:∀ fp pins s H,PG (cxComp X scope N' fp pins s H) tg g)
    (hts:∀ fp pins s H,PTs (cxComp X scope N' fp pins s H) ifs tc) (he:∀ fp pins s H,PE (cxComp X scope N' fp pins s H) elt te) (hs:∀ x,foldedSetIterable iter X.env x=pure x:=by intro _; rfl) :
    PE X (.ListComp elt [⟨tg,iter,ifs,0⟩] scope pos) (tComp wi cap g tc te):=by
  intro pins s σ H Q I h
  rw [eval_ListComp]
  refine wpAny_comprehension_free (use:=none) rfl hs (closureFor_ok (S.clos I.ok)) S.kind S.loc (thn (hi pins s σ H _ I h) fun v s1 h1=>thn h1 fun itv s2 h2=>?_)
  obtain ⟨it,fp,tn,J,H2,e,I2,T,st2,f2,hW⟩:=h2
  subst e
  refine comp_block (RR:=fun acc C=>compPost (model X.prog X.w) X.A X.xe none (EP X pins σ Q) acc C) S hc hg hts he I2 T st2 f2 hW ?_
  intro C s' H' ⟨m,hn⟩ hI hq _ _
  exact ⟨m,hn,fun h'' sb=>⟨.ref s2.heap.objs.size,H',hI h'' sb,rfl,hq⟩⟩
theorem ps_setcomp {elt tg iter:Expr} {ifs:List Expr} {pos:Pos} {wi:TI} {g:TG} {tc:TT} {te:TE} {i:Nat} {x:Str} {pos' spos:Pos} (hN:X.N.Nodup) (hix:X.N[i]?=some x) (hx:Loc X.env.scope x) (S:CompOk X scope N' cap) (hc:X.calm=true)
    (hi:PI X tg iter wi) (hg:∀ fp pins s H,PG (cxComp X scope N' fp pins s H) tg g)
    (hts:∀ fp pins s H,PTs (cxComp X scope N' fp pins s H) ifs tc) (he:∀ fp pins s H,PE (cxComp X scope N' fp pins s H) elt te) (hs:∀ x,foldedSetIterable iter X.env x=pure x:=by intro _; rfl)
    (hsw:swapsWith (.ListComp elt [⟨tg,iter,ifs,0⟩] scope pos) (some (.Name x pos')) spos.line X.env=pure true:=by rfl) (hf:X.fn x=true∨X.env.scope.names.lookup x=some .local:=by first | exact .inl rfl | exact .inr rfl | assumption) :
    PS X (.Assign [.Name x pos'] (.ListComp elt [⟨tg,iter,ifs,0⟩] scope pos) spos) (tAsg (tComp wi cap g tc te) (gName i)):=by
  intro pins s σ H D I h
  rw [exec_Assign_Name_used _ _ _ _ hsw]
  refine wpAny_bind (wpAny_standAt (wpAny_bind ?_))
  show wpAny _ X.A (do let _ ← comprehension (.ListComp elt [⟨tg,iter,ifs,0⟩] scope pos) scope X.env _ (newList []) false (eval iter X.env) (some (assign (.Name x pos') X.env))) _ _ s
  refine wpAny_bind (wpAny_mono (wpAny_comprehension_free (use:=some (assign (.Name x pos') X.env)) (Q:=fun _ s'=>SP X pins D .next s') rfl hs (closureFor_ok (S.clos I.ok)) S.kind S.loc
    (thn (hi pins s σ H _ I h) fun v s1 h1=>thn h1 fun itv s2 h2=>?_)) (fun _ s' hq=>wpAny_pure (wpAny_pure hq)) fun _ _ e=>e)
  obtain ⟨it,fp,tn,J,H2,e,I2,T,st2,f2,hW⟩:=h2
  subst e
  refine comp_block (RR:=fun acc C=>compPost (model X.prog X.w) X.A X.xe (some (assign (.Name x pos') X.env)) (fun _ s'=>SP X pins D .next s') acc C) (Q:=fun x H1=>gName i x σ H1 D.nx) S hc hg hts he I2 T st2 f2 hW ?_
  intro C s' H' ⟨m,hn⟩ hI hq hC hlt
  have I':Inv X pins σ H' s':=hI s'.heap (.refl ..)
  show wpAny _ _ (assign (.Name x pos') X.env (.ref s2.heap.objs.size)) _ _ s'
  refine wpAny_assign_Name (store_ok2 (v:=.ref s2.heap.objs.size) I' hN hix hx rfl (fun s6 I6 ⟨a,sb,ha⟩=>?_) hf)
  have lC:∀ b,b < s2.heap.objs.size→b≠C:=fun b hb=>Nat.ne_of_lt (Nat.lt_trans hb hlt)
  have haC:a≠C:=by
    rcases ha with z | z
    · rw [z]; exact lC _ I2.lt
    · obtain ⟨_,q⟩:=I2.cell x a z
      exact lC _ q.lt
  refine ⟨m,hn.sameBut sb (Ne.symm haC),fun h' sb'=>⟨_,H',I6.turned (t':=s6.toks) (fun b o hb e=>(sb'.2 b hb).trans e) hC (Ne.symm (lC _ I2.lt)) (.inr (Nat.le_trans I2.sz (Nat.le_of_lt hlt))) (fun y c hc'=>?_) (fun p hp=>?_),hq⟩⟩
  · obtain ⟨_,q⟩:=I2.cell y c hc'
    exact lC _ q.lt
  · exact lC _ (Heap.lt_size (I2.pin p hp).1)
end
section
variable {X:Cx}
def Ite (K:PySem.W.Frag) (a:Addr):It :=
  ⟨fun i H=>∃ xs x,SqL K H a xs∧xs[i]?=some x,fun i H x H'=>∃ p v,H p=none∧x = .ref p∧H'=upd H p (.tup [.int (i:Nat),v])∧∀ xs,SqL K H a xs→xs[i]?=some v,fun i H=>∃ xs,SqL K H a xs∧xs.length≤i⟩
theorem turn_enum {P:Program} {w:World} {K:PySem.W.Frag} {elts:List Expr} {x1} {pos:Pos} (a e it:Addr) (hne:e≠it) :
    Turn P w K (.Tuple elts x1 pos) (Ite K a) [e,it] e (fun i h=>∃ old,IsEnum h e it (i:Nat) old∧h.IsListIter it a i) where
  mem:=by simp
  obj:=fun i h ⟨old,st,li⟩ b hb=>by
    rcases List.mem_cons.mp hb with z | hb
    · subst z
      exact ⟨_,st,fun v z=>by
        have z':Data.fields _=Data.cell v:=z
        cases z'⟩
    · have z:b=it:=by simpa using hb
      subst z
      obtain ⟨o,e,c,d⟩:=li
      exact ⟨o,e,fun v z=>by rw [d] at z; cases z⟩
  keep:=fun i h h' ⟨old,st,li⟩ k=>⟨old,k e (by simp) _ st,li.at fun o q=>k it (by simp) o q⟩
  item:=by
    intro X hP hw hK hc i pins s σ H E I hf ⟨old,st,li⟩ hg
    subst hP hw hK
    obtain ⟨xs,x,hq,hx⟩:=hg
    obtain ⟨its,rv,p,hz⟩:=I.list hq
    obtain ⟨u,hu,ru⟩:=rv.get hx
    refine wpAny_pyNext_enum_item st li p.isList (x:=u) (by simpa using hu) hne fun h' eo li' tu sz kp=>?_
    refine ⟨_,rfl,wpAny_letOwnedTupleGo_enum eo fun h2 e2 sb2=>?_⟩
    have hfr:H s.heap.objs.size=none:=I.hok.fresh (Nat.le_refl _)
    have nE:∀ b o,H b=some o→b≠e:=fun b o q z=>by rw [z,(hf e (by simp)).1] at q; cases q
    have nI:∀ b o,H b=some o→b≠it:=fun b o q z=>by rw [z,(hf it (by simp)).1] at q; cases q
    have kp2:∀ b o,b≠e→b≠it→s.heap.get? b=some o→h2.get? b=some o:=fun b o h1 h3 q=>(sb2.2 b h1).trans (kp b o h1 h3 q)
    have hes:e < s.heap.objs.size:=Heap.lt_size st
    have tu2:h2.get? s.heap.objs.size=some { cls:=.type "tuple",data:=.seq #[.int (i:Nat) s.toks,u] }:=(sb2.2 _ (Nat.ne_of_gt hes)).trans tu
    have li2:h2.IsListIter it a (i + 1):=li'.at fun o q=>(sb2.2 it (Ne.symm hne)).trans q
    have mem2:∀ b,b ∉ [e,it]→b≠e∧b≠it:=fun b hb=>⟨fun z=>hb (by simp [z]),fun z=>hb (by simp [z])⟩
    have fre:∀ b∈[e,it],upd H s.heap.objs.size (.tup [.int (i:Nat),x]) b=none:=fun b hb=>by
      obtain ⟨o,q,_⟩ : ∃ o,s.heap.get? b=some o∧True:=by
        rcases List.mem_cons.mp hb with z | hb
        · subst z; exact ⟨_,st,trivial⟩
        · have z:b=it:=by simpa using hb
          subst z
          obtain ⟨o,q,_⟩:=li
          exact ⟨o,q,trivial⟩
      rw [upd_ne (Nat.ne_of_lt (Heap.lt_size q))]
      exact (hf b hb).1
    have I1:Inv X pins σ (upd H s.heap.objs.size (.tup [.int (i:Nat),x])) { s with heap:=h2,toks:=s.toks + 1 }:=by
      refine I.step (g':=s.gens) (d':=s.drawn) (ch:=[e,it]) (fun b hb=>?_) (fun b o _ _ hc q _=>kp2 b o (mem2 b hc).1 (mem2 b hc).2 q) (fun b o _ _ hc q _=>⟨o.slots,kp2 b o (mem2 b hc).1 (mem2 b hc).2 q⟩)
        (fun b o _ q n=>by rw [upd_ne (Nat.ne_of_lt (Heap.lt_size q))]; exact n) (fun b o hc q=>⟨o,kp2 b o (mem2 b hc).1 (mem2 b hc).2 q⟩) (fun b xs q=>by rw [upd_ne (ne_of_none q hfr)]; exact q) (fun b o u q=>by rw [upd_ne (ne_of_none q hfr)]; exact q)
        (fun b ps q=>⟨#[],by rw [upd_ne (ne_of_none q hfr),q]; simp⟩) (fun m hm=>?_) (fun b o q=>?_) I.bare
      · obtain ⟨_,f1,_,f3,f4,f5⟩:=hf b hb
        exact ⟨f3,f1,f4,f5⟩
      · obtain ⟨o,es,ep,ho,r⟩:=hm
        exact ⟨o,es,ep,kp2 _ o (Ne.symm (hf e (by simp)).2.1) (Ne.symm (hf it (by simp)).2.1) ho,r⟩
      · by_cases hb:b=s.heap.objs.size
        · subst hb
          rw [upd_same] at q
          cases q
          exact ⟨by show 2≤sizeLine; decide,[.int (i:Nat) s.toks,u],.cons ⟨_,rfl⟩ (.cons ru .nil),⟨_,tu2,rfl,_,rfl⟩⟩
        · rw [upd_ne hb] at q
          refine (I.hok b o q).stay (fun c v hc r=>kp2 c v ?_ ?_ r) (fun c r=>by rw [upd_ne (ne_of_none r hfr)]; exact r) fun c xs r=>by rw [upd_ne (ne_of_none r hfr)]; exact r
          · rcases hc with z | z
            · rw [z]; exact nE b o q
            · exact nE c _ z
          · rcases hc with z | z
            · rw [z]; exact nI b o q
            · exact nI c _ z
    refine ⟨.ref s.heap.objs.size,_,I1,rfl,⟨_,x,hfr,rfl,rfl,fun ys hy=>by rw [I.list_inj hy hq]; exact hx⟩,⟨u,?_,li2⟩,fre⟩
    have e2':IsEnum h2 e it ((i:Int) + 1) u:=e2
    show IsEnum h2 e it (((i + 1:Nat):Int)) u
    rw [Int.natCast_add]
    exact e2'
  done:=by
    intro X hP hw hK hc i pins s σ H E I hf ⟨old,st,li⟩ hg
    subst hP hw hK
    obtain ⟨xs,hq,hx⟩:=hg
    obtain ⟨its,rv,p,hz⟩:=I.list hq
    obtain ⟨f0,f1,f2,f3,f4,f5⟩:=hf it (by simp)
    have hl:=rv.length
    exact wpAny_pyNext_enum_end (I.ok.hd hc) st li p.isList (by simp; omega) fun h' eb=>⟨rfl,I.turned (t':=s.toks) (fun b o hb q=>eb b o hb q) f0 f1 f3 f4 f5⟩
  self:=fun _ _ _ _ _ ⟨_,st,_⟩ h=>wpAny_pyIter_enum st h
def iEnum (K:PySem.W.Frag) (ta:TA):TI:=fun σ H R=>ta σ H fun vs H1=>∃ a xs,vs = [.ref a]∧SqL K H1 a xs∧R (Ite K a) H1
theorem pi_enum {l:Expr} {ta:TA} {p pos:Pos} {elts:List Expr} {x1} {tpos:Pos} (hg:Gl X "enumerate") (hm:X.mg "enumerate" = none) (ha:PA X [l] ta) (hs:starEach [l] X.env = [(false,eval l X.env)]:=by rfl) :
    PI X (.Tuple elts x1 tpos) (.Call (.Name "enumerate" p) [l] [] pos) (iEnum X.K ta):=by
  intro pins s σ H R I h
  refine Call_ (ld_blt I hg hm boot_enumerate (PyProof.Rows.callWith_type1 (thn (ha pos pins s σ H _ I h) fun us s1 ⟨vs,H1,I1,r1,q1⟩=>?_) hs rfl))
  obtain ⟨a,xs,e,hq,q⟩:=q1
  subst e
  cases r1 with
  | cons r rr =>
    cases rr
    cases r
    obtain ⟨its,rv,pl,hz⟩:=I1.list hq
    refine call_enumerate_list pl.isList fun h' en li sz kp=>wpAny_pyIter_enum en ?_
    have I2:Inv X pins σ H1 { s1 with heap:=h',toks:=s1.toks }:=I1.kept kp
    have fr:∀ b,s1.heap.objs.size≤b→FpOk X pins H1 b:=fun b hb=>I1.fpOk hb (I1.hok.fresh hb)
    refine ⟨s1.heap.objs.size + 1,[s1.heap.objs.size + 1,s1.heap.objs.size],_,_,H1,rfl,I2,turn_enum a _ _ (Nat.succ_ne_self _),⟨.none,en,li⟩,fun b hb=>?_,q⟩
    rcases List.mem_cons.mp hb with z | hb
    · subst z; exact fr _ (by omega)
    · have z:b=s1.heap.objs.size:=by simpa using hb
      subst z; exact fr _ (by omega)
end
end L2
namespace L2
open PySem PySem.Spec PyProof.Rows
theorem Same.seqT {K:PySem.W.Frag} {H H':Hp} {a:Addr} {xs:List V} (e:Same H H') (h:SqT K H a xs):SqT K H' a xs:=by
  rcases h with (h | ⟨o,h⟩) | h
  · exact .inl (.inl (e _ _ h))
  · exact .inl (.inr ⟨o,e _ _ h⟩)
  · exact .inr h
theorem Same.new {H:Hp} {p:Addr} {o:HO} (h:H p=none):Same H (upd H p o):=fun b u e=>by rw [upd_ne (ne_of_none e h)]; exact e
theorem Same.out {H0 H:Hp} {p:Addr} {o:HO} (s:Same H0 H) (h:H0 p=none):Same H0 (upd H p o):=fun b u e=>by rw [upd_ne (ne_of_none e h)]; exact s b u e
mutual
def Rep (K:PySem.W.Frag) (H:Hp):PyData→V→Prop
  | .none,v=>v = .non
  | .bool b,v=>v = .bl b
  | .int i,v=>v = .int i
  | .str x,v=>v = .str x
  | .list ds,v=>∃ a vs,v = .ref a∧SqL K H a vs∧RepAll K H ds vs
  | .tuple ds,v=>∃ a vs,v = .ref a∧SqT K H a vs∧RepAll K H ds vs
  | .dict _,_=>False
def RepAll (K:PySem.W.Frag) (H:Hp):List PyData→List V→Prop
  | [],vs=>vs = []
  | d :: ds,vs=>∃ v r,vs=v :: r∧Rep K H d v∧RepAll K H ds r
end
section
variable {K:PySem.W.Frag} {H H':Hp}
mutual
theorem Rep.mono (s:Same H H'):∀ {d:PyData} {v:V},Rep K H d v→Rep K H' d v
  | .none,_,h=>h
  | .bool _,_,h=>h
  | .int _,_,h=>h
  | .str _,_,h=>h
  | .list ds,_,⟨a,vs,e,q,r⟩=>⟨a,vs,e,s.seq q,RepAll.mono s r⟩
  | .tuple ds,_,⟨a,vs,e,q,r⟩=>⟨a,vs,e,s.seqT q,RepAll.mono s r⟩
  | .dict _,_,h=>h
theorem RepAll.mono (s:Same H H'):∀ {ds:List PyData} {vs:List V},RepAll K H ds vs→RepAll K H' ds vs
  | [],_,h=>h
  | _ :: _,_,⟨v,r,e,q,t⟩=>⟨v,r,e,q.mono s,RepAll.mono s t⟩
end
theorem RepAll.length:∀ {ds:List PyData} {vs:List V},RepAll K H ds vs→vs.length=ds.length
  | [],_,h=>by rw [h]; rfl
  | _ :: _,_,⟨v,r,e,_,t⟩=>by rw [e,List.length_cons,List.length_cons,RepAll.length t]
theorem RepAll.get:∀ {ds:List PyData} {vs:List V} {i:Nat} {d:PyData},RepAll K H ds vs→ds[i]?=some d→∃ v,vs[i]?=some v∧Rep K H d v
  | [],_,_,_,_,e=>by simp at e
  | x :: ds,_,0,d,⟨v,r,e,q,t⟩,h=>by
    subst e
    have z:x=d:=by simpa using h
    subst z
    exact ⟨v,rfl,q⟩
  | _ :: ds,_,i + 1,d,⟨v,r,e,q,t⟩,h=>by
    subst e
    obtain ⟨y,h1,h2⟩:=RepAll.get (i:=i) (d:=d) t (by simpa using h)
    exact ⟨y,by simpa using h1,h2⟩
theorem repAll_ints:∀ ns:List Int,RepAll K H (ns.map PyData.int) (ns.map V.int)
  | []=>rfl
  | n :: ns=>⟨.int n,_,rfl,rfl,repAll_ints ns⟩
theorem repAll_ints_eq:∀ {ns:List Int} {vs:List V},RepAll K H (ns.map PyData.int) vs→vs=ns.map V.int
  | [],_,h=>h
  | n :: ns,_,⟨v,r,e,q,t⟩=>by
    have q':v = .int n:=q
    rw [e,q',repAll_ints_eq t]; rfl
theorem Rep.intsT {ns:List Int} {a:Addr} (h:SqT K H a (ns.map V.int)):Rep K H (.tuple (ns.map .int)) (.ref a):=⟨a,_,rfl,h,repAll_ints ns⟩
theorem Rep.of_intsT {ns:List Int} {v:V} (h:Rep K H (.tuple (ns.map .int)) v):∃ a,v = .ref a∧SqT K H a (ns.map V.int):=by
  obtain ⟨a,vs,e,q,r⟩:=h
  rw [repAll_ints_eq r] at q
  exact ⟨a,e,q⟩
end
section
variable {X:Cx} {pins:List (Addr × Obj)} {σ:St} {H:Hp} {s:Shared}
mutual
theorem Rep.reads (I:Inv X pins σ H s):∀ {d:PyData} {v:V} {u:Value},Rep X.K H d v→RelV v u→∃ as,Reads s.heap u d as
  | .none,_,_,h,r=>by cases h; cases r; exact ⟨_,.none⟩
  | .bool b,_,_,h,r=>by cases h; cases r; exact ⟨_,.bool b⟩
  | .int i,_,_,h,r=>by cases h; obtain ⟨t,rfl⟩:=r; exact ⟨_,.int i t⟩
  | .str x,_,_,h,r=>by cases h; obtain ⟨t,rfl⟩:=r; exact ⟨_,.str x t⟩
  | .list ds,_,_,⟨a,vs,e,q,t⟩,r=>by
    subst e
    cases r
    obtain ⟨its,rv,⟨o,n,e1,e2,e3,e4⟩,_⟩:=I.list q
    obtain ⟨as,ra⟩:=RepAll.reads I t rv
    exact ⟨_,.list e1 e2 e4 (by simpa using ra)⟩
  | .tuple ds,_,_,⟨a,vs,e,q,t⟩,r=>by
    subst e
    cases r
    obtain ⟨its,rv,⟨o,e1,e2,n,e4⟩,_⟩:=I.tuple q
    obtain ⟨as,ra⟩:=RepAll.reads I t rv
    exact ⟨_,.tuple e1 e2 e4 (by simpa using ra)⟩
  | .dict _,_,_,h,_=>h.elim
theorem RepAll.reads (I:Inv X pins σ H s):∀ {ds:List PyData} {vs:List V} {us:List Value},RepAll X.K H ds vs→Vals vs us→∃ as,ReadsAll s.heap us ds as
  | [],_,_,h,r=>by cases h; cases r; exact ⟨_,.nil⟩
  | _ :: _,_,_,⟨v,w',e,q,t⟩,r=>by
    subst e
    cases r with
    | cons r1 r2 =>
      obtain ⟨as,h1⟩:=q.reads I r1
      obtain ⟨bs,h2⟩:=RepAll.reads I t r2
      exact ⟨_,.cons h1 h2⟩
end
end
section
variable {X:Cx}
def rEqD (K:PySem.W.Frag) (u:Nat):R2:=fun x y H Q=>∃ da db,Rep K H da x∧Rep K H db y∧da.canLay0=true∧db.canLay0=true∧u + min da.depth db.depth < cLine∧Q (.bl (PyData.eqv da db)) H
def rNeD (K:PySem.W.Frag) (u:Nat):R2:=fun x y H Q=>∃ da db,Rep K H da x∧Rep K H db y∧da.canLay0=true∧db.canLay0=true∧u + min da.depth db.depth < cLine∧Q (.bl (!PyData.eqv da db)) H
theorem op_eqD:OpR X (compareOp .Eq) (rEqD X.K X.A.units):=by
  intro pins s σ H x y v u Q I rx ry ⟨da,db,ha,hb,ca,cb,hu,q⟩
  obtain ⟨as,ra⟩:=ha.reads I rx
  obtain ⟨bs,rb⟩:=hb.reads I ry
  exact SeqAt.compareEq_reads ra rb ca cb hu ⟨.bl _,H,I,rfl,q⟩
theorem op_neD:OpR X (compareOp .NotEq) (rNeD X.K X.A.units):=by
  intro pins s σ H x y v u Q I rx ry ⟨da,db,ha,hb,ca,cb,hu,q⟩
  obtain ⟨as,ra⟩:=ha.reads I rx
  obtain ⟨bs,rb⟩:=hb.reads I ry
  exact SeqAt.compareNe_reads ra rb ca cb hu ⟨.bl _,H,I,rfl,q⟩
theorem call_isi:CallR X (.builtin "isinstance") (fun xs H Q=>∃ x n t b,xs = [x,.ty n]∧TyOf X.K H x t∧PySem.W.kitOne X.K t (.type n)=some b∧Q (.bl b) H):=by
  intro pins s σ H xs us Q I r ⟨x,n,t,b,e,ty,k,q⟩
  subst e
  obtain ⟨u,w',e,ru,rw'⟩:=Vals.two r
  subst e
  cases rw'
  exact isinst_ok I ru ty k fun tk=>⟨.bl _,H,I.tok tk,rfl,q⟩
theorem call_setL (hc:X.calm=true):CallR X (.type "set") (fun xs H Q=>∃ (a:Addr) (ns:List Int),xs = [.ref a]∧SqL X.K H a (ns.map V.int)∧ns.length + 1 < scanBound ∧
    ∀ p,H p=none→Q (.ref p) (upd H p (.set (fun k'=>(firstMet (fun i=>ns.getD i 0) ns.length).any (· == k')) (firstMet (fun i=>ns.getD i 0) ns.length).length))):=by
  intro pins s σ H xs us Q I r ⟨a,ns,e,hq,hb,q⟩
  subst e
  obtain ⟨u,e,ru⟩:=Vals.one r
  subst e
  cases ru
  obtain ⟨its,rv,p,hz⟩:=I.list hq
  have hl:=rv.length
  rw [List.length_map] at hl
  have esz:its.toArray.size=ns.length:=by simp [hl]
  refine call_set_list (I.ok.hd hc) p.isList (ns:=ns) (by simpa using intsAre_of rv) (by rw [esz]; exact hb) fun h' tk so kp=>?_
  rw [esz] at so
  exact ⟨.ref s.heap.objs.size,_,I.laid (o:=.set (fun k'=>(firstMet (fun i=>ns.getD i 0) ns.length).any (· == k')) (firstMet (fun i=>ns.getD i 0) ns.length).length) (fun b o e=>kp b o (Heap.lt_size e) e) (Nat.le_refl _) so,rfl,q _ (I.hok.fresh (Nat.le_refl _))⟩
theorem call_lenS:CallR X (.builtin "len") (fun xs H Q=>∃ (a:Addr) (S:Int→Bool) (n:Nat),xs = [.ref a]∧H a=some (.set S n)∧Q (.int n) H):=by
  intro pins s σ H xs us Q I r ⟨a,S,n,e,hq,q⟩
  subst e
  obtain ⟨u,e,ru⟩:=Vals.one r
  subst e
  cases ru
  obtain ⟨o,es,ep,t,e1,e2,e3,e4,e5,e6,e7,e8⟩:=(show s.heap.SetOf (intKind X.prog X.w) a S n from I.hok a _ hq)
  subst e8
  refine call_len_set e1 e2 e3 e7 ?_ ⟨.int _,H,I.tok _,⟨_,rfl⟩,q⟩
  have:es.size < 2 ^ 62:=Nat.lt_of_lt_of_le e6 (by decide)
  omega
theorem call_minL (hc:X.calm=true):CallR X (.builtin "min") (fun xs H Q=>∃ (a:Addr) (ns:List Int),xs = [.ref a]∧SqL X.K H a (ns.map V.int)∧0 < ns.length∧∀ m,m∈ns→(∀ n∈ns,m≤n)→Q (.int m) H):=by
  intro pins s σ H xs us Q I r ⟨a,ns,e,hq,hne,q⟩
  subst e
  obtain ⟨u,e,ru⟩:=Vals.one r
  subst e
  cases ru
  obtain ⟨its,rv,p,hz⟩:=I.list hq
  have hi:IntsAre its ns:=intsAre_of rv
  have hl:=p.isList
  obtain ⟨xs,e⟩:=hi.allInts.items
  have hns:ns=xs.toList.map (·.1):=by
    rw [← hi.numsOf,← nums_intItems,← e]
  have hsz:0 < xs.size:=by
    have h3:=hne; rw [hns,List.length_map,Array.length_toList] at h3; exact h3
  rw [e] at hl
  refine min_intList (I.ok.hd hc) hl hsz fun v h' tk hv hk=>?_
  obtain ⟨t,rfl⟩:=intItems_at hv
  obtain ⟨h1,h2⟩:=argBest_lt (numAt xs) (xs.size - 1)
  refine ⟨.int _,H,I.kept hk,⟨t,rfl⟩,q _ ?_ fun a ha=>?_⟩
  · rw [hns,numAt_eq]; exact getD_mem (by rw [List.length_map,Array.length_toList]; omega)
  · rw [hns] at ha
    obtain ⟨j,hj,rfl⟩:=mem_getD ha
    rw [List.length_map,Array.length_toList] at hj
    rw [← numAt_eq]; exact h2 j (by omega)
end
end L2
namespace L2
open PySem PySem.Spec PyProof.Rows
def compChk (scope dsc:Scope) (N0 N2:List Str) (cap:List (Option Nat)):Bool :=
  (scope.kind == .function) && (scope.names.all fun y=>y.2 != .cell) && (scope.names.all fun y=>y.2 != .local || scope.names.lookup y.1 == some .local) &&
  (scope.names.all fun y=>y.2 != .free || dsc.names.lookup y.1 == some .cell) && (scope.names.all fun y=>y.2 != .free || scope.names.lookup y.1 == some .free) && decide N2.Nodup && (cap.length == N2.length) &&
  ((List.range cap.length).all fun i=>match cap[i]?,N2[i]? with
    | some (some j),some x=>N0[j]? == some x && scope.names.any (fun y=>y.1 == x && y.2 == .free)
    | _,_=>true)
theorem compOk_of {X:Cx} {scope dsc:Scope} {N0 N2:List Str} {cap:List (Option Nat)} (hd:X.env.scope=dsc) (hN:X.N=N0) (h:compChk scope dsc N0 N2 cap=true):CompOk X scope N2 cap:=by
  unfold compChk at h
  simp only [Bool.and_eq_true] at h
  obtain ⟨⟨⟨⟨⟨⟨⟨h1,h2⟩,h3⟩,h4⟩,h5⟩,h6⟩,h7⟩,h8⟩:=h
  rw [List.all_eq_true] at h2 h3 h4 h5 h8
  refine ⟨by simpa using h1,fun y hy e=>?_,fun y hy e=>?_,fun y hy e=>?_,fun y hy e=>?_,of_decide_eq_true h6,by simpa using h7,fun i j x e1 e2=>?_⟩
  · have:=h2 y hy; rw [e] at this; exact absurd this (by decide)
  · have:=h3 y hy; rw [e] at this; simpa using this
  · have:=h4 y hy
    rw [e] at this
    show X.env.scope.names.lookup y.1=some .cell
    rw [hd]
    simpa using this
  · have:=h5 y hy; rw [e] at this; simpa using this
  · have hi:i < cap.length:=(List.getElem?_eq_some_iff.mp e1).1
    have q:=h8 i (List.mem_range.mpr hi)
    rw [e1,e2] at q
    simp only [Bool.and_eq_true] at q
    refine ⟨by rw [hN]; simpa using q.1,?_⟩
    obtain ⟨y,hy,z⟩:=List.any_eq_true.mp q.2
    simp only [Bool.and_eq_true] at z
    have e3:y.1=x:=by simpa using z.1
    have e4:y.2 = .free:=by simpa using z.2
    rw [← e3,← e4]
    exact hy
def CW (H1:Hp) (acc:Addr) (n:Nat) (P:Nat→List V→Hp→Prop):Nat→Nat→Hp→Prop :=
  fun i m H=>m=n - i∧i≤n∧Same H1 H∧∃ ys,H acc=some (.lst ys)∧P i ys H
theorem comp_by {J:It} {n:Nat} {cap:List (Option Nat)} {g:TG} {tc:TT} {te:TE} {σ:St} {Qr:Hp→Prop} {H1:Hp} {acc:Addr} (P:Nat→List V→Hp→Prop) (hacc:H1 acc=none)
    (go:∀ i H,i < n→Same H1 H→J.go i H) (stop:∀ H,Same H1 H→J.stop n H) (h0:P 0 [] (upd H1 acc (.lst [])))
    (step:∀ i ys H,i < n→Same H1 H→H acc=some (.lst ys)→P i ys H→∀ x H',J.yld i H x H'→g x (capSt cap σ) H' fun σ2 H2=>tc σ2 H2 fun b H3=>if b=true then te σ2 H3 fun y H4=>∃ xs,H4 acc=some (.lst xs)∧xs.length < sizeLine ∧
      ∃ m',m' < n - i∧CW H1 acc n P (i + 1) m' (upd H4 acc (.lst (xs++[y]))) else ∃ m',m' < n - i∧CW H1 acc n P (i + 1) m' H3)
    (fin:∀ ys H,Same H1 H→H acc=some (.lst ys)→P n ys H→Qr H) :
    ∃ W:Nat→Nat→Hp→Prop,(∃ m,W 0 m (upd H1 acc (.lst [])))∧∀ i m H,W i m H →
      (J.stop i H∧Qr H)∨(J.go i H∧∀ x H',J.yld i H x H'→g x (capSt cap σ) H' fun σ2 H2=>tc σ2 H2 fun b H3=>if b=true then te σ2 H3 fun y H4=>∃ xs,H4 acc=some (.lst xs)∧xs.length < sizeLine ∧
        ∃ m',m' < m∧W (i + 1) m' (upd H4 acc (.lst (xs++[y]))) else ∃ m',m' < m∧W (i + 1) m' H3):=by
  refine ⟨CW H1 acc n P,⟨n,rfl,Nat.zero_le _,Same.new hacc,[],upd_same,h0⟩,?_⟩
  rintro i m H ⟨rfl,hi,s,ys,hy,p⟩
  by_cases hlt:i < n
  · exact .inr ⟨go i H hlt s,step i ys H hlt s hy p⟩
  · have e:i=n:=by omega
    subst e
    exact .inl ⟨stop H s,fin ys H s hy p⟩
theorem comp_add {H1 H4:Hp} {acc:Addr} {n i:Nat} {P:Nat→List V→Hp→Prop} {ys:List V} {y:V} (hacc:H1 acc=none) (hi:i < n) (s:Same H1 H4) (hy:H4 acc=some (.lst ys)) (hl:ys.length < sizeLine) (p:P (i + 1) (ys++[y]) (upd H4 acc (.lst (ys++[y])))) :
    ∃ xs,H4 acc=some (.lst xs)∧xs.length < sizeLine∧∃ m',m' < n - i∧CW H1 acc n P (i + 1) m' (upd H4 acc (.lst (xs++[y]))) :=
  ⟨ys,hy,hl,n - (i + 1),by omega,rfl,hi,s.out hacc,_,upd_same,p⟩
theorem comp_skip {H1 H3:Hp} {acc:Addr} {n i:Nat} {P:Nat→List V→Hp→Prop} {ys:List V} (hi:i < n) (s:Same H1 H3) (hy:H3 acc=some (.lst ys)) (p:P (i + 1) ys H3):∃ m',m' < n - i∧CW H1 acc n P (i + 1) m' H3 :=
  ⟨n - (i + 1),by omega,rfl,hi,s,_,hy,p⟩
theorem itl_go {K:PySem.W.Frag} {a:Addr} {xs:List V} {H1:Hp} (h:SqL K H1 a xs):∀ i H,i < xs.length→Same H1 H→(Itl K a).go i H:=fun i H hi s=>⟨xs,xs[i],s.seq h,by simp [hi]⟩
theorem itl_stop {K:PySem.W.Frag} {a:Addr} {xs:List V} {H1:Hp} (h:SqL K H1 a xs):∀ H,Same H1 H→(Itl K a).stop xs.length H:=fun H s=>⟨xs,s.seq h,Nat.le_refl _⟩
theorem ite_go {K:PySem.W.Frag} {a:Addr} {xs:List V} {H1:Hp} (h:SqL K H1 a xs):∀ i H,i < xs.length→Same H1 H→(Ite K a).go i H:=fun i H hi s=>⟨xs,xs[i],s.seq h,by simp [hi]⟩
theorem ite_stop {K:PySem.W.Frag} {a:Addr} {xs:List V} {H1:Hp} (h:SqL K H1 a xs):∀ H,Same H1 H→(Ite K a).stop xs.length H:=fun H s=>⟨xs,s.seq h,Nat.le_refl _⟩
theorem itr_go {lo:Int} {n:Nat} {H1:Hp}:∀ i H,i < n→Same H1 H→(Itr lo n).go i H:=fun i H hi s=>hi
theorem itr_stop {lo:Int} {n:Nat} {H1:Hp}:∀ H,Same H1 H→(Itr lo n).stop n H:=fun H s=>Nat.le_refl n
def hide (H:Hp) (l:Addr):Hp:=fun b=>if b=l then none else H b
theorem atI_ge {α:Type} {xs:List α} {i:Int} {v:α} (h0:0≤i) (h:xs[i.toNat]?=some v):atI xs i=some v:=by
  obtain ⟨k,rfl⟩:=Int.eq_ofNat_of_zero_le h0
  exact atI_nat (by simpa using h)
theorem atI_ints {ns:List Int} {i:Int} (h0:0≤i) (h:i < ns.length):atI (ns.map V.int) i=some (.int (ns.getD i.toNat 0)):=by
  have hk:i.toNat < ns.length:=by omega
  refine atI_ge h0 ?_
  rw [List.getElem?_map,List.getD_eq_getElem?_getD,List.getElem?_eq_getElem hk]
  rfl
section
variable {X:Cx}
theorem ix_listK (K:PySem.W.Frag) (h:X.K=K):IxR X (rIxL K):=by subst h; exact ix_list
theorem ix_tupK (K:PySem.W.Frag) (h:X.K=K):IxR X (rIxT K):=by subst h; exact ix_tup
theorem op_in_seqK (K:PySem.W.Frag) (h:X.K=K):OpR X (compareOp .In) (rIn K false):=by subst h; exact op_in_seq
theorem pe_fldK (K:PySem.W.Frag) (h:X.K=K) {e:Expr} {f:Str} {pos:Pos} {ta:TE} (he:PE X e ta) (hb:attributeBase e f X.env (eval e X.env)=eval e X.env):PE X (.Attribute e f pos) (tFld K ta f):=by subst h; exact pe_fld he hb
theorem pg_tupK (K:PySem.W.Frag) (h:X.K=K) {es:List Expr} {k:Nat} {pos:Pos} {t:TGs} {n:Nat} (hc:X.calm=true) (h':PGs X es t) (hn:(assignEach es X.env).length=n:=by rfl)
    (hst:(assignEach es X.env).findIdx? (·.1)=none:=by rfl):PG X (.Tuple es k pos) (gTup K n t):=by subst h; exact pg_tup hc h' hn hst
theorem call_isiT:CallR X (.builtin "isinstance") (fun xs H Q=>∃ (a:Addr) (ys:List V) (n:String) (b:Bool),xs = [.ref a,.ty n]∧SqT X.K H a ys∧PySem.W.kitOne X.K (.type "tuple") (.type n)=some b∧Q (.bl b) H):=by
  intro pins s σ H xs us Q I r ⟨a,ys,n,b,e,hq,k,q⟩
  subst e
  obtain ⟨u,w',e,ru,rw'⟩:=Vals.two r
  subst e
  cases rw'
  cases ru
  obtain ⟨its,rv,⟨o,h1,h2,_⟩,_⟩:=I.tuple hq
  exact PySem.W.kia_one PySem.W.kitx_tuple I.kIn ⟨o,h1,h2⟩ k (fun z=>nomatch z) fun tk=>⟨.bl _,H,I.tok tk,rfl,q⟩
theorem call_isiL:CallR X (.builtin "isinstance") (fun xs H Q=>∃ (a:Addr) (ys:List V) (n:String) (b:Bool),xs = [.ref a,.ty n]∧SqL X.K H a ys∧PySem.W.kitOne X.K (.type "list") (.type n)=some b∧Q (.bl b) H):=by
  intro pins s σ H xs us Q I r ⟨a,ys,n,b,e,hq,k,q⟩
  subst e
  obtain ⟨u,w',e,ru,rw'⟩:=Vals.two r
  subst e
  cases rw'
  cases ru
  obtain ⟨its,rv,⟨o,n',h1,h2,_⟩,_⟩:=I.list hq
  exact PySem.W.kia_one PySem.W.kitx_list I.kIn ⟨o,h1,h2⟩ k (fun z=>nomatch z) fun tk=>⟨.bl _,H,I.tok tk,rfl,q⟩
def nostar:Expr→Bool
  | .Starred _ _=>false
  | _=>true
theorem starEach_ns {e:Expr} {es:List Expr} {env:Env} (h:nostar e=true):starEach (e :: es) env=(false,eval e env) :: starEach es env:=by
  cases e <;> first | rfl | (exact Bool.noConfusion h) | simp [starEach]
theorem pa_c {e:Expr} {es:List Expr} {te:TE} {t:TA} (ha:PE X e te) (hr:PA X es t) (hs:nostar e=true:=by rfl):PA X (e :: es) (tCons te t):=pa_cons ha hr (starEach_ns hs)
end
end L2
namespace L2
open PySem PySem.Spec PyProof.Rows
section
variable {X:Cx}
theorem bls_get {bs:List Bool} {us:List Value} (r:Vals (bs.map V.bl) us) {i:Nat} {v:Value} (h:us[i]?=some v):v = .bool (bs.getD i true):=by
  have hl:=r.length
  rw [List.length_map] at hl
  have hi:i < us.length:=(List.getElem?_eq_some_iff.mp h).1
  have e:(bs.map V.bl)[i]?=some (.bl (bs.getD i true)):=by
    rw [List.getElem?_map,List.getElem?_eq_getElem (by omega),List.getD_eq_getElem?_getD,List.getElem?_eq_getElem (by omega)]; rfl
  obtain ⟨u,hu,ru⟩:=r.get e
  rw [h] at hu
  cases hu
  exact ru
theorem range_all (bs:List Bool):((List.range bs.length).all fun i=>bs.getD i true)=bs.all id:=by
  rw [Bool.eq_iff_iff,List.all_eq_true,List.all_eq_true]
  constructor
  · intro h x hx
    obtain ⟨i,hi,e⟩:=List.getElem_of_mem hx
    have:=h i (List.mem_range.mpr hi)
    rw [List.getD_eq_getElem?_getD,List.getElem?_eq_getElem hi,e] at this
    exact this
  · intro h i hi
    have hi:=List.mem_range.mp hi
    have:=h bs[i] (List.getElem_mem hi)
    rw [List.getD_eq_getElem?_getD,List.getElem?_eq_getElem hi]
    exact this
theorem call_all (hc:X.calm=true):CallR X (.builtin "all") (fun xs H Q=>∃ (a:Addr) (bs:List Bool),xs = [.ref a]∧SqL X.K H a (bs.map V.bl)∧Q (.bl (bs.all id)) H):=by
  intro pins s σ H xs us Q I r ⟨a,bs,e,hq,q⟩
  subst e
  obtain ⟨u,e,ru⟩:=Vals.one r
  subst e
  cases ru
  obtain ⟨its,rv,p,hz⟩:=I.list hq
  have hl:=rv.length
  rw [List.length_map] at hl
  refine call_all_walk (wpAny_pyIter_list p.isList ?_)
  have hlt:a < s.heap.objs.size:=by obtain ⟨o,n,e,_⟩:=p; exact Heap.lt_size e
  refine ⟨s.heap.objs.size,_,_,_,_,_,fun i=>bs.getD i true,rfl,Walks.list (A:=X.A.in1) (show X.A.in1.handled=none from I.ok.hd hc) _ a (Nat.ne_of_lt hlt) its.toArray,⟨⟨_,Heap.get?_push_size _ rfl,rfl,rfl⟩,p.isList.at fun o e=>Heap.get?_push_of_some _ e⟩,?_,fun h' tk hk=>?_⟩
  · intro i v s Q E hP hQ
    have e:=bls_get rv (show its[i]?=some v by simpa using hP)
    subst e
    exact wpAny_truthy_bool hQ
  · have e:(List.range its.toArray.size).all (fun i=>bs.getD i true)=bs.all id:=by
      rw [show its.toArray.size=bs.length by simp [hl]]
      exact range_all bs
    rw [e]
    exact ⟨.bl _,H,I.kept (t':=tk) fun b o e=>hk b o (by
      intro z
      have:b=s.heap.objs.size:=by simpa using z
      exact absurd (Heap.lt_size e) (by rw [this]; exact Nat.lt_irrefl _)) (Heap.get?_push_of_some _ e),rfl,q⟩
end
end L2
namespace Gr
theorem nodup_snoc {α:Type} {xs:List α} {x:α} (h:xs.Nodup) (hx:x ∉ xs):(xs++[x]).Nodup:=by
  rw [List.nodup_append]
  refine ⟨h,by simp,fun a ha b hb=>?_⟩
  have:b=x:=by simpa using hb
  rw [this]
  exact fun e=>hx (e ▸ ha)
end Gr
namespace L2
open PySem Gr
abbrev two (a b:Int):List V:=[.int a,.int b]
def tTruth (K:PySem.W.Frag) (ta:TE):TT:=fun σ H Q=>ta σ H fun x H'=>∃ k,TruV K x H' k∧Q k H'
theorem pt_truthN {X:Cx} {a:Expr} {ta:TE} (ha:PE X a ta) (he:∀ whole,isTrue a X.env whole=(do let v ← whole; standAt a.pos; holding [v] (truthy v))):PT X a (tTruth X.K ta):=pt_truth ha he
end L2
namespace L2
open PySem PySem.Spec PyProof.Rows
section
variable {X:Cx}
theorem call_rangeO:CallR X (.type "range") (fun xs H Q=>∃ j:Int,xs = [.int j]∧∀ p,H p=none→Q (.ref p) (upd H p (.rng 0 j))):=by
  intro pins s σ H xs us Q I r ⟨j,e,q⟩
  subst e
  obtain ⟨u,e,ru⟩:=Vals.one r
  subst e
  obtain ⟨t,rfl⟩:=ru
  refine call_range_1 ⟨.ref s.heap.objs.size,_,I.laid (a:=s.heap.objs.size) (o:=.rng 0 j) (fun b o e=>Heap.get?_push_of_some _ e) (Nat.le_refl _) ?_,rfl,q _ (I.hok.fresh (Nat.le_refl _))⟩
  exact ⟨_,_,_,Heap.get?_push_size _ rfl⟩
theorem vals_range {acc:Array Value} {n:Nat} (hl:acc.size=n) (h:∀ (i:Nat) (v:Value),acc[i]?=some v→∃ t,v=Value.int (0 + (i:Int) * 1) t):Vals ((List.range n).map fun k=>V.int (k:Nat)) acc.toList:=by
  have key:∀ (us:List Value) (m:Nat),(∀ (i:Nat) (v:Value),us[i]?=some v→∃ t,v=Value.int ((m + i:Nat):Int) t)→Vals ((List.range' m us.length).map fun k=>V.int (k:Nat)) us:=by
    intro us
    induction us with
    | nil=>intro m _; exact .nil
    | cons u us ih =>
      intro m hh
      rw [List.length_cons,List.range'_succ,List.map_cons]
      refine .cons (hh 0 u rfl) (ih (m + 1) fun i v e=>?_)
      obtain ⟨t,q⟩:=hh (i + 1) v (by simpa using e)
      exact ⟨t,by rw [q]; congr 1; omega⟩
  have:=key acc.toList 0 fun i v e=>by
    obtain ⟨t,q⟩:=h i v (by simpa using e)
    exact ⟨t,by rw [q]; congr 1; omega⟩
  rw [Array.length_toList,hl,← List.range_eq_range'] at this
  exact this
theorem call_listR (hc:X.calm=true):CallR X (.type "list") (fun xs H Q=>∃ (p:Addr) (j:Nat),xs = [.ref p]∧H p=some (.rng 0 j)∧j≤1000∧∀ l,H l=none→Q (.ref l) (upd H l (.lst ((List.range j).map fun k=>.int (k:Nat))))):=by
  intro pins s σ H xs us Q I r ⟨p,j,e,hp,hj,q⟩
  subst e
  obtain ⟨u,e,ru⟩:=Vals.one r
  subst e
  cases ru
  obtain ⟨t,u,v,hr⟩:=(show ObjOk X.prog X.w H s.heap p (.rng 0 j) from I.hok p _ hp)
  refine call_list_range (I.ok.hd hc) (n:=j) hr (small_one (by omega) (by omega) (by omega) (by omega)) (by rw [rangeSize_one]; split <;> omega) (by omega) fun h' tk acc' c' hk hS hi=>?_
  obtain ⟨hsz,hit⟩:=hi
  have hv:=vals_range hsz hit
  refine ⟨.ref s.heap.objs.size,_,I.laid (a:=s.heap.objs.size) (o:=.lst ((List.range j).map fun k=>.int (k:Nat))) hk (Nat.le_refl _) ⟨?_,acc'.toList,c',hv,by simpa using hS⟩,rfl,q _ (I.hok.fresh (Nat.le_refl _))⟩
  rw [List.length_map,List.length_range]
  exact Nat.le_of_lt (small1000 hj)
end
end L2
namespace Gr
end Gr
namespace Gr
end Gr
namespace L2
open PySem PySem.Spec PyProof.Rows
def Fly (h:Heap) (e T:Addr) (cls fl:Value):Prop :=
  ∃ oe vs oT ts,h.get? e=some oe∧oe.cls=cls∧oe.dict=none∧oe.data = .fields vs∧vs[1]?=some (.ref T)∧T≠e∧h.get? T=some oT∧oT.data = .fields ts∧ts[3]?=some fl
structure Trn (F R:List Addr) (h h':Heap):Prop where
  keep:∀ b o,b ∉ F→b ∉ R→h.get? b=some o→h'.get? b=some o
  slot:∀ b o,b∈F→b ∉ R→h.get? b=some o→∃ sl,h'.get? b=some { o with slots:=sl }
theorem Trn.mono {F R R':List Addr} {h h':Heap} (t:Trn F R h h') (hs:∀ b∈R,b∈R'):Trn F R' h h' :=
  ⟨fun b o h1 h2 e=>t.keep b o h1 (fun z=>h2 (hs b z)) e,fun b o h1 h2 e=>t.slot b o h1 (fun z=>h2 (hs b z)) e⟩
theorem Trn.trans {F R:List Addr} {h h1 h2:Heap} (a:Trn F R h h1) (b:Trn F R h1 h2):Trn F R h h2 :=
  ⟨fun c o q1 q2 e=>b.keep c o q1 q2 (a.keep c o q1 q2 e),fun c o q1 q2 e=>by
    obtain ⟨sl,e1⟩:=a.slot c o q1 q2 e
    obtain ⟨sl2,e2⟩:=b.slot c _ q1 q2 e1
    exact ⟨sl2,e2⟩⟩
theorem Trn.upd1 {F:List Addr} {h:Heap} {a:Addr} {g:Obj→Obj}:Trn F [a] h (h.update a g) :=
  ⟨fun b o _ h2 e=>(Heap.get?_update_other _ _ (fun z=>h2 (by simp [z]))).trans e,fun b o _ h2 e=>⟨o.slots,(Heap.get?_update_other _ _ (fun z=>h2 (by simp [z]))).trans e⟩⟩
theorem dict_mapF {f:Array Value→Array Value} {o:Obj}:(Obj.mapFields f o).dict=o.dict:=by
  obtain ⟨c,d,da,sl⟩:=o
  cases da <;> rfl
section
variable {M:Model} {A:Around} {E:Value→Shared→Prop} {s:Shared} {base:Heap} {env:Env} {outer:List Env} {L e:Addr}
theorem frames_not (hl:s.heap.FunFrames base (env :: outer)) {oe:Obj} {vs:Array Value} (he:s.heap.get? e=some oe) (hd:oe.data = .fields vs):e ∉ frs (env :: outer):=fun hm=>by
  obtain ⟨_,o,ho,hnf⟩:=hl.mem hm
  rw [he] at ho
  cases ho
  exact hnf vs hd
theorem entry_new {oe:Obj} {vs:Array Value} {head:Value} {b1:Bool} {Q:Unit→Shared→Prop} (hfr:A.frames=some (env :: outer)) (hl:s.heap.FunFrames base (env :: outer)) (hf:env.frame=some L)
    (he:s.heap.get? e=some oe) (hdc:oe.dict=none) (hd:oe.data = .fields vs) (hsz:1 < vs.size)
    (h:∀ h',Fly h' e s.heap.objs.size oe.cls (rawInt L)→Trn (frs (env :: outer)) [e] s.heap h'→Q () { s with heap:=h' }) :
    wpAny M A (do let fv ← frameOf env; let pl ← entryPlaceOf L b1; let tb ← EntryCells.newEntry head fv .none (rawInt L) .none pl; setField (.ref e) 1 tb) Q E s:=by
  have hne:=frames_not hl he hd
  refine wpAny_bind (wpAny_frameOf_fun hfr hl hf fun g1 so=>?_)
  obtain ⟨so1,so2,so3⟩:=so
  refine wpAny_bind (wpAny_entryPlaceOf fun pl okp=>?_)
  unfold EntryCells.newEntry newFields
  refine wpAny_bind (wpAny_newObj_type ?_ (okp.sizeOk5 _ _ _ _ _))
  have q1:g1.get? e=some oe:=(so2 e hne).trans he
  have nTe:g1.objs.size≠e:=Nat.ne_of_gt (Heap.lt_size q1)
  refine wpAny_setField (Heap.get?_push_of_some _ q1) hd hsz (h _ ?_ ?_)
  · have hd':=Obj.data_mapFields hd (·.setIfInBounds 1 (Value.ref g1.objs.size))
    have qT:=(Heap.get?_update_other _ (Obj.mapFields (·.setIfInBounds 1 (Value.ref g1.objs.size))) (Ne.symm nTe)).trans (Heap.get?_push_size g1 (o:={ cls:=.type "traceback",dict:=none,data:=.fields ([head,.ref L,.none,rawInt L,.none]++(if pl.isEmpty then List.replicate 6 Value.none else pl)).toArray }) rfl)
    rw [← so1]
    refine ⟨_,_,_,_,Heap.get?_update_self _ (Heap.get?_push_of_some _ q1) (Obj.isFreed_of_fields hd'),Obj.cls_mapFields _ _,?_,hd',?_,nTe,qT,rfl,?_⟩
    · rw [dict_mapF]
      exact hdc
    · simp [hsz]
    · rcases okp with rfl | ⟨_,_,_,_,_,_,_,rfl⟩ <;> simp
  · refine ⟨fun b o h1 h2 eb=>?_,fun b o h1 h2 eb=>?_⟩
    · rw [Heap.get?_update_other _ _ (fun z=>h2 (by simp [z]))]
      exact Heap.get?_push_of_some _ ((so2 b h1).trans eb)
    · obtain ⟨sl,q⟩:=so3 b o eb
      refine ⟨sl,?_⟩
      rw [Heap.get?_update_other _ _ (fun z=>h2 (by simp [z]))]
      exact Heap.get?_push_of_some _ q
theorem note_first {oe:Obj} {vs:Array Value} {Q:Unit→Shared→Prop} (hfr:A.frames=some (env :: outer)) (hl:s.heap.FunFrames base (env :: outer)) (hf:env.frame=some L)
    (he:s.heap.get? e=some oe) (hdc:oe.dict=none) (hd:oe.data = .fields vs) (h1:vs[1]?=some .none)
    (h:∀ h',Fly h' e s.heap.objs.size oe.cls (rawInt L)→Trn (frs (env :: outer)) [e] s.heap h'→Q () { s with heap:=h' }):wpAny M A (noteFrame (.ref e) env) Q E s:=by
  unfold noteFrame
  simp only [hf]
  refine wpAny_bind (wpAny_field he hd h1 ?_)
  rw [if_neg (by decide)]
  exact entry_new hfr hl hf he hdc hd (Array.getElem?_eq_some_iff.mp h1).1 h
theorem note_next {T:Addr} {cls:Value} {Q:Unit→Shared→Prop} (hfr:A.frames=some (env :: outer)) (hl:s.heap.FunFrames base (env :: outer)) (hf:env.frame=some L) (fl:Fly s.heap e T cls .none)
    (h:∀ h',Fly h' e s.heap.objs.size cls (rawInt L)→Trn (frs (env :: outer)) [e,T] s.heap h'→Q () { s with heap:=h' }):wpAny M A (noteFrame (.ref e) env) Q E s:=by
  obtain ⟨oe,vs,oT,ts,he,hc,hdc,hd,h1,nT,hT,hdT,h3⟩:=fl
  subst hc
  unfold noteFrame
  simp only [hf]
  refine wpAny_bind (wpAny_field he hd h1 ?_)
  rw [if_pos (by simp)]
  refine wpAny_bind (wpAny_field hT hdT h3 ?_)
  rw [if_neg (by simp [rawInt])]
  refine wpAny_bind (wpAny_setField hT hdT (Array.getElem?_eq_some_iff.mp h3).1 ?_)
  have nTf:=frames_not (e:=T) hl hT hdT
  have hsz:(s.heap.update T (Obj.mapFields (·.setIfInBounds 3 Value.none))).objs.size=s.heap.objs.size:=Heap.size_after_update ..
  have other:∀ b,b≠T→(s.heap.update T (Obj.mapFields (·.setIfInBounds 3 Value.none))).get? b=s.heap.get? b:=fun b hb=>Heap.get?_update_other _ _ (Ne.symm hb)
  refine entry_new (s:={ s with heap:=s.heap.update T (Obj.mapFields (·.setIfInBounds 3 Value.none)) }) (base:=base) hfr (hl.of_keeps fun b o hb hnf=>⟨o,(other b fun z=>?_).trans hb,rfl⟩) hf ((other e (Ne.symm nT)).trans he) hdc hd (Array.getElem?_eq_some_iff.mp h1).1 fun h' f' t'=>?_
  · rw [z,hT] at hb
    cases hb
    exact hnf ts hdT
  · have f2:Fly h' e s.heap.objs.size oe.cls (rawInt L):=hsz ▸ f'
    exact h h' f2 ((Trn.upd1.mono (by simp)).trans (t'.mono (by simp)))
theorem flight_none {T:Addr} {cls fl:Value} {Q:Unit→Shared→Prop} (f:Fly s.heap e T cls fl) (h:∀ h',Fly h' e T cls .none→(∀ F,Trn F [T] s.heap h')→h'.objs.size=s.heap.objs.size→Q () { s with heap:=h' }) :
    wpAny M A (setFlight (.ref e) none) Q E s:=by
  obtain ⟨oe,vs,oT,ts,he,hc,hdc,hd,h1,nT,hT,hdT,h3⟩:=f
  have hs3:3 < ts.size:=(Array.getElem?_eq_some_iff.mp h3).1
  unfold setFlight
  refine wpAny_bind (wpAny_field he hd h1 ?_)
  rw [if_pos (by simp)]
  refine wpAny_setField hT hdT hs3 (h _ ?_ (fun F=>Trn.upd1) (Heap.size_after_update ..))
  have hdT':=Obj.data_mapFields hdT (·.setIfInBounds 3 ((none:Option Addr).elim Value.none fun f=>rawInt f))
  exact ⟨oe,vs,_,_,(Heap.get?_update_other _ _ nT).trans he,hc,hdc,hd,h1,nT,Heap.get?_update_self _ hT (Obj.isFreed_of_fields hdT'),hdT',by simp [hs3]⟩
end
end L2
namespace L2
open PySem PySem.Spec PyProof.Rows
theorem ObjOk.there {P:Program} {w:World} {H:Hp} {h:Heap} {a:Addr}:∀ {o:HO},ObjOk P w H h a o→∃ ob,h.get? a=some ob
  | .lst _,⟨_,_,_,_,e⟩=>⟨_,e⟩
  | .tup _,⟨_,_,_,o,e,_⟩=>⟨o,e⟩
  | .dK _,⟨_,_,_,_,o,_,_,e,_⟩=>⟨o,e⟩
  | .dT _,⟨_,_,_,_,o,_,_,e,_⟩=>⟨o,e⟩
  | .set _ _,⟨o,_,_,_,e,_⟩=>⟨o,e⟩
  | .ins _ _ _,⟨_,_,_,e,_⟩=>⟨_,e⟩
  | .own _,e=>e
  | .xd _,⟨_,n,_⟩=>let ⟨o,e,_⟩:=lookIn_ns n; ⟨o,e⟩
  | .met _ _,e=>⟨_,e⟩
  | .rng _ _,⟨_,_,_,e⟩=>⟨_,e⟩
  | .frz o _,⟨e,_⟩=>⟨o,e⟩
  | .tbl _,e=>⟨_,e⟩
  | .ext _,⟨_,e,_⟩=>e
theorem HOk.trn {P:Program} {w:World} {H:Hp} {h h':Heap} {F R:List Addr} (ok:HOk P w H h) (t:Trn F R h h') (hF:∀ b∈F,H b=none) (hR:∀ b∈R,H b=none):HOk P w H h':=fun a o e =>
  (ok a o e).stay (fun b u hb q=>t.keep b u (fun z=>by
    have:=hF b z
    rcases hb with rfl | hb
    · rw [e] at this; cases this
    · rw [hb] at this; cases this) (fun z=>by
    have:=hR b z
    rcases hb with rfl | hb
    · rw [e] at this; cases this
    · rw [hb] at this; cases this) q) (fun _ q=>q) fun _ _ q=>q
def Rec (X:Cx) (pins:List (Addr × Obj)) (H:Hp) (b:Addr):Prop :=
  H b=none∧b≠X.env.locals∧b ∉ X.fs∧X.s₀.heap.get? b=none∧(∀ x c,X.env.cells.lookup x=some c→c≠b)∧∀ p∈X.pn++pins,p.1≠b
section
variable {X:Cx} {pins:List (Addr × Obj)} {σ:St} {H H':Hp} {s:Shared} {h':Heap}
theorem Inv.recd (I:Inv X pins σ H s) (hex:X.ex = []) {b:Addr} (hn:H' b=none) (hb:s.heap.get? b=none):Rec X pins H' b:=by
  refine ⟨hn,fun z=>?_,fun z=>?_,?_,fun x c e z=>?_,fun p hp z=>?_⟩
  · obtain ⟨m,⟨o,_,_,ho,_⟩,_⟩:=I.loc
    rw [← z,hb] at ho; cases ho
  · obtain ⟨_,o,ho,_⟩:=I.funs.mem z
    rw [hb] at ho; cases ho
  · cases q:X.s₀.heap.get? b with
    | none=>rfl
    | some o =>
      obtain ⟨o',e⟩:=I.base.there b o q (by rw [hex]; simp)
      rw [hb] at e; cases e
  · obtain ⟨v,o,ho,_⟩:=I.cell x c e
    rw [z,hb] at ho; cases ho
  · have:=(I.pin p hp).1
    rw [z,hb] at this; cases this
theorem Inv.recd_new (I:Inv X pins σ H s) (hex:X.ex = []):Rec X pins H s.heap.objs.size:=by
  refine I.recd hex (I.hok.fresh (Nat.le_refl _)) ?_
  cases q:s.heap.get? s.heap.objs.size with
  | none=>rfl
  | some o=>exact absurd (Heap.lt_size q) (Nat.lt_irrefl _)
theorem Inv.trn {R:List Addr} {t':Nat} (I:Inv X pins σ H s) (hR:∀ b∈R,Rec X pins H b) (t:Trn (frs X.stack) R s.heap h'):Inv X pins σ H { s with heap:=h',toks:=t' }:=by
  have hFn:∀ b∈frs X.stack,H b=none:=fun b hb=>I.stkFree b hb
  have any:∀ b o,b ∉ R→s.heap.get? b=some o→∃ sl,h'.get? b=some { o with slots:=sl }:=fun b o hr e=>by
    by_cases hb:b∈frs X.stack
    · exact t.slot b o hb hr e
    · exact ⟨o.slots,t.keep b o hb hr e⟩
  have keepF:∀ b o,b≠X.env.locals→b ∉ X.fs→b ∉ R→s.heap.get? b=some o→h'.get? b=some o:=fun b o hL hb hr e =>
    t.keep b o (fun z=>(List.mem_cons.mp (I.stkSub b z)).elim hL hb) hr e
  have neL:∀ b o,X.s₀.heap.get? b=some o→b≠X.env.locals:=fun b o e=>Nat.ne_of_lt (Nat.lt_of_lt_of_le (Heap.lt_size e) I.ok.above)
  have neR:∀ b o,X.s₀.heap.get? b=some o→b ∉ R:=fun b o e z=>by rw [(hR b z).2.2.2.1] at e; cases e
  have cellK:∀ x c,X.env.cells.lookup x=some c→∀ v,s.heap.IsCell c v→h'.IsCell c v:=fun x c e v ⟨o,ho,hd⟩=>by
    obtain ⟨sl,q⟩:=any c o (fun z=>(hR c z).2.2.2.2.1 x c e rfl) ho
    exact ⟨_,q,hd⟩
  refine ⟨I.ok,I.os,I.bare,⟨fun b o e n hb hx=>?_,fun b o e n hb hx=>?_,I.base.free,fun b o e hx=>?_,I.base.tups,I.base.frzs,I.base.tbls⟩,?_,fun x c e=>?_,I.free,I.freeC,fun p hp=>?_,I.hok.trn t hFn (fun b hb=>(hR b hb).1),I.len⟩
  · exact keepF b o (neL b o e) hb (neR b o e) (I.base.keep b o e n hb hx)
  · obtain ⟨sl,e1⟩:=I.base.slot b o e n hb hx
    obtain ⟨sl',e2⟩:=any b _ (neR b o e) e1
    exact ⟨sl',e2⟩
  · obtain ⟨o',e1⟩:=I.base.there b o e hx
    obtain ⟨sl,e2⟩:=any b _ (neR b o e) e1
    exact ⟨_,e2⟩
  · obtain ⟨m,⟨o,es,ep,ho,r⟩,hl⟩:=I.loc
    obtain ⟨sl,q⟩:=any _ o (fun z=>(hR _ z).2.1 rfl) ho
    refine ⟨m,⟨_,es,ep,q,r⟩,fun i x v e1 e2 e3=>?_⟩
    obtain ⟨u,ru,l⟩:=hl i x v e1 e2 e3
    refine ⟨u,ru,?_⟩
    rcases l with l | ⟨k,c,e,z⟩
    · exact .inl l
    · exact .inr ⟨k,c,e,cellK x c e _ z⟩
  · obtain ⟨v,z⟩:=I.cell x c e
    exact ⟨v,cellK x c e v z⟩
  · obtain ⟨e,n,ne,nf,d⟩:=I.pin p hp
    exact ⟨keepF p.1 p.2 ne nf (fun z=>(hR p.1 z).2.2.2.2.2 p hp rfl) e,n,ne,nf,d⟩
end
def XP (X:Cx) (pins:List (Addr × Obj)) (σ:St) (E:XK) (e:Value) (s':Shared):Prop :=
  ∃ ea T cls H',e = .ref ea∧Inv X pins σ H' s'∧Fly s'.heap ea T cls .none∧Rec X pins H' ea∧Rec X pins H' T∧E cls none H'
def CX1 (P:Program) (w:World):CXT:=fun outer H s E e s' =>
  ∃ ea T cls H',e = .ref ea∧s'.os=s.os∧AllBare s'.gens∧Un (frs outer) [] H H' s.heap s'.heap∧HOk P w H' s'.heap∧Fly s'.heap ea T cls .none∧s.heap.get? ea=none∧s.heap.get? T=none∧H' ea=none∧H' T=none∧E cls none H'
theorem xp_of {X:Cx} {pins:List (Addr × Obj)} {σ:St} {H:Hp} {s s':Shared} {E:XK} {e:Value} (I:Inv X pins σ H s) (hex:X.ex = []) (h:CX1 X.prog X.w X.stack H s E e s'):XP X pins σ E e s':=by
  obtain ⟨ea,T,cls,H',he,os,bare,un,hok,fl,n1,n2,h1,h2,q⟩:=h
  exact ⟨ea,T,cls,H',he,I.call' (ch:=[]) os un hok bare (fun b z=>absurd z (by simp)),fl,I.recd hex h1 n1,I.recd hex h2 n2,q⟩
theorem un_trn {X:Cx} {pins:List (Addr × Obj)} {σ:St} {H:Hp} {s:Shared} {R:List Addr} {h':Heap} (I:Inv X pins σ H s) (hex:X.ex = []) (hR:∀ b∈R,Rec X pins H b) (t:Trn (frs X.stack) R s.heap h'):Un X.fs [] X.H₀ H X.s₀.heap h':=by
  have:=(I.trn (t':=s.toks) hR t).base
  rw [hex] at this
  exact this
section
variable {P:Program} {w:World} {K:PySem.W.Frag} {mg:Str→Option Value} {base:Heap} {N:List Str} {qual:Str} {scope:Scope} {f:Addr} {cd:Value} {A:Around} {outer:List Env} {s0:Shared} {H0:Hp} {E:XK}
theorem xe_of {pins:List (Addr × Obj)} {σ:St} {e:Value} {s:Shared} (h:XP (cxOf (CX1 P w) P w K mg base N qual scope f cd A outer s0 H0 E) pins σ E e s):(cxOf (CX1 P w) P w K mg base N qual scope f cd A outer s0 H0 E).xe e s:=by
  obtain ⟨ea,T,cls,H',rfl,I,fl,r1,r2,q⟩:=h
  show wpAny _ _ (leaving _ (.ref ea)) _ _ s
  unfold leaving
  refine wpAny_bind (note_next (base:=base) I.ok.frames I.stack rfl fl fun h1 f1 t1=>?_)
  refine flight_none f1 fun h2 f2 t2 sz=>?_
  have rn:=I.recd_new rfl
  have hR:∀ b∈[ea,T,s.heap.objs.size],Rec (cxOf (CX1 P w) P w K mg base N qual scope f cd A outer s0 H0 E) pins H' b:=by
    intro b hb
    simp only [List.mem_cons,List.not_mem_nil,or_false] at hb
    rcases hb with z | z | z
    · rw [z]; exact r1
    · rw [z]; exact r2
    · rw [z]; exact rn
  have t12:Trn (frs (cxOf (CX1 P w) P w K mg base N qual scope f cd A outer s0 H0 E).stack) [ea,T,s.heap.objs.size] s.heap h2:=(t1.mono (by simp)).trans ((t2 _).mono (by simp))
  have J:=I.trn (t':=s.toks) hR t12
  exact ⟨ea,_,cls,H',rfl,I.os,I.bare,un_trn I rfl hR t12,J.hok,f2,r1.2.2.2.1,rn.2.2.2.1,r1.1,rn.1,q⟩
theorem pass1:Passes (CX1 P w) (cxOf (CX1 P w) P w K mg base N qual scope f cd A outer s0 H0 E) E:=fun pins σ H s e s' I h=>xe_of (xp_of I rfl h)
theorem Fun.okX {x qual:Str} {st:Stmt} {f:Addr} {fd:FuncData} {N ps:List Str} {k:Nat} {sp:Sp} (F:Fun K x qual st f fd) (S:FnScope N ps (defScope st)) (len:∀ vs H Q E,sp vs H Q E→vs.length=ps.length)
    (hbody:∀ (cdv:Value) (A:Around) (outer:List Env) (s:Shared) (H:Hp) (vs:List V) (Q:VK) (E:XK),Room k (A.deeper (envOfC qual (defScope st) s.heap.objs.size f cdv))→sp vs H Q E →
      ∃ t,PSs (cxOf (CX1 P w) P w K mg base N qual (defScope st) f cdv A outer s H E) (defBody st) t∧t { nx:=fun _ H'=>Q .non H',rt:=Q } (start N vs) H):FnOk P w K mg base (CX1 P w) (k + 1) f fd ps sp:=by
  obtain ⟨oc,od,kV,doc,pm,an,cdv,ct,osl,rfl,lk,hcd⟩:=F.ex
  exact fn_of lk hcd S len fun A outer s H vs Q E hr hsp=>hbody cdv A outer s H vs Q E hr hsp
end
theorem passF {P:Program} {w:World} {X:Cx}:Passes (CX1 P w) X E0:=fun _ _ _ _ _ _ _ h=>by
  obtain ⟨_,_,_,_,_,_,_,_,_,_,_,_,_,_,q⟩:=h
  exact q.elim
end L2
namespace L2
open PySem PySem.Spec PyProof.Rows
abbrev veMro:List Value:=[.type "ValueError",.type "Exception",.type "BaseException",.type "object"]
structure ExcC (K:PySem.W.Frag) (C:Addr):Prop where
  ex:PySem.W.excIn K C veMro "ValueError.__new__" = true
  ga:PySem.W.findIn K (.ref C) "__getattribute__" = some (some (.builtin "BaseException.__getattribute__"))
  gb:PySem.W.findIn K (.ref C) "__getattr__" = some none
  hd:PySem.W.hasDictIn K C=true
  ca:PySem.W.findIn K (.ref C) "__class__" = some (some (.builtin "object.__class__"))
  cg:PySem.W.specialIn K (.builtin "object.__class__") "__get__" = some (some (.builtin "getset_descriptor.__get__"))
  ct:PySem.W.takesIn K (.builtin "object.__class__")=some true
  mo:PySem.W.mroIn K C (.type "object")=some true
  mb:PySem.W.mroIn K C (.type "BaseException")=some true
theorem exc_obj {K:PySem.W.Frag} {h:Heap} {C:Addr} {bmB:List Value} {nw:String} (X:K.In h) (q:PySem.W.excIn K C bmB nw=true) :
    ∃ bm N nm qn bs hc sn su ab col dd k0 k1 k2 k3 k5 mN,h.get? C=some (excClassObj nm qn C N bs bm hc sn su ab col dd k0 k1 k2 k3 k5 nw)∧h.Ns N mN∧mN "__init__" = none∧OwnTail h bmB bm∧bm.contains (.type "BaseException")=bmB.contains (.type "BaseException"):=by
  unfold PySem.W.excIn at q
  split at q
  · rename_i dd cd sl ho
    obtain ⟨nm,bs,mro,ns,qn,hc,sn,su,ab,col,del⟩:=cd
    obtain ⟨sl⟩:=sl
    split at q
    · rename_i D bm k0 k1 k2 k3 n k5 hm hs
      simp only [Bool.and_eq_true,beq_iff_eq,Bool.not_eq_true'] at q
      obtain ⟨⟨⟨⟨⟨e1,e2⟩,e3⟩,e4⟩,e5⟩,e6⟩:=q
      dsimp only at hm hs e3 e5 e6
      subst e1 e2 hm hs e3
      have T:=PySem.W.tail_of_in X e4
      exact ⟨bm,ns,nm,qn,bs,hc,sn,su,ab,col,dd,k0,k1,k2,k3,k5,h.nsMap ns,X _ _ ho,.of_isNs (PySem.W.isNs_of_in X e5),PySem.W.nsMap_none_of_in X e5 e6,T,T.hasType rfl⟩
    · cases q
  · cases q
section
variable {P:Program} {w:World} {K:PySem.W.Frag} {mg:Str→Option Value} {base:Heap} {N:List Str} {qual:Str} {scope:Scope} {f:Addr} {cd:Value} {A:Around} {outer:List Env} {s0:Shared} {H0:Hp} {E:XK}
theorem raised {pins:List (Addr × Obj)} {σ:St} {H:Hp} {s:Shared} {h':Heap} {e C:Addr} {vs:List Value} (I:Inv (cxOf (CX1 P w) P w K mg base N qual scope f cd A outer s0 H0 E) pins σ H s) (hm:Heap.MadeExcOf s.heap h' e (.ref C) vs)
    (q:E (.ref C) none H):(cxOf (CX1 P w) P w K mg base N qual scope f cd A outer s0 H0 E).xe (.ref e) { s with heap:=h' }:=by
  have hHe:H e=none:=by
    cases z:H e with
    | none=>rfl
    | some o =>
      obtain ⟨ob,eo⟩:=(I.hok e o z).there
      rw [hm.new] at eo; cases eo
  have r1:=I.recd rfl hHe hm.new
  have I1:Inv (cxOf (CX1 P w) P w K mg base N qual scope f cd A outer s0 H0 E) pins σ H { s with heap:=h' }:=I.kept (t':=s.toks) hm.keeps
  obtain ⟨t,he,_,_⟩:=hm.there
  show wpAny _ _ (leaving _ (.ref e)) _ _ _
  unfold leaving
  refine wpAny_bind (note_first (base:=base) I1.ok.frames I1.stack rfl he rfl rfl rfl fun h1 f1 t1=>?_)
  refine flight_none f1 fun h2 f2 t2 sz=>?_
  have rn:=I1.recd_new rfl
  have hR:∀ b∈[e,h'.objs.size],Rec (cxOf (CX1 P w) P w K mg base N qual scope f cd A outer s0 H0 E) pins H b:=by
    intro b hb
    simp only [List.mem_cons,List.not_mem_nil,or_false] at hb
    rcases hb with z | z
    · rw [z]; exact r1
    · rw [z]; exact rn
  have t12:Trn (frs (cxOf (CX1 P w) P w K mg base N qual scope f cd A outer s0 H0 E).stack) [e,h'.objs.size] h' h2:=(t1.mono (by simp)).trans ((t2 _).mono (by simp))
  have J:=I1.trn (t':=s.toks) hR t12
  exact ⟨e,_,.ref C,H,rfl,I.os,I.bare,un_trn I1 rfl hR t12,J.hok,f2,r1.2.2.2.1,rn.2.2.2.1,r1.1,rn.1,q⟩
theorem ps_raise {x:Str} {C:Addr} {a:Expr} {np cpos pos:Pos} {te:TE} (hg:Gl (cxOf (CX1 P w) P w K mg base N qual scope f cd A outer s0 H0 E) x) (hm:mg x=some (.ref C)) (hx:ExcC K C) (hh:A.handled=none)
    (ha:PE (cxOf (CX1 P w) P w K mg base N qual scope f cd A outer s0 H0 E) a te) (hdb:(x == ("__debug__" : Str))=false:=by decide)
    (tr:backTo cpos (starEach [a] (cxOf (CX1 P w) P w K mg base N qual scope f cd A outer s0 H0 E).env) = [(false,eval a (cxOf (CX1 P w) P w K mg base N qual scope f cd A outer s0 H0 E).env)]:=by rfl) :
    PS (cxOf (CX1 P w) P w K mg base N qual scope f cd A outer s0 H0 E) (.Raise (some (.Call (.Name x np) [a] [] cpos)) none pos) (fun _ σ H=>te σ H fun _ H1=>E (.ref C) none H1):=by
  intro pins s σ H D I h
  obtain ⟨bm,Nn,nm,qn,bs,hc,sn,su,ab,col,dd,k0,k1,k2,k3,k5,mN,hC,hN,hni,T,hb⟩:=exc_obj I.ok.mod.kin hx.ex
  refine wpAny_Raise_call_subT (C:=C) (nm:=nm) (q:=qn) (N:=Nn) (bs:=bs) (bm:=bm) (hdct:=hc) (sn:=sn) (sub:=su) (ab:=ab) (col:=col) (dd:=dd) (k0:=k0) (k1:=k1) (k2:=k2) (k3:=k3) (k5:=k5) PySem.F.excBase_ValueError (by rw [hb]; decide) hh (by rw [tr]; rfl) hni (ld_glob I hg hm ⟨rfl,?_⟩ hdb)
  rw [tr]
  refine Calls.evalArgs_plain (Calls.spliced_cons (thn (ha pins s σ H _ I h) fun v s1 ⟨y,H1,I1,ry,q1⟩=>Calls.spliced_nil ?_))
  exact ⟨rfl,by show 1≤sizeLine; decide,I1.bk _ _ hC,hN.keeps I1.bk,T.keeps I1.bk,fun h' e hmd=>raised I1 hmd q1⟩
end
end L2
namespace L2
open PySem PySem.Spec PyProof.Rows
end L2
namespace L2
open PySem PySem.Spec PyProof.Rows
end L2
namespace L2
open PySem PySem.Spec PyProof.Rows
end L2
namespace RM
structure Row where
  hd:Int
  co:Int
  ho:Int
  by_:Int
deriving DecidableEq
theorem Row.ext' {r s:Row} (h1:r.hd=s.hd) (h2:r.co=s.co) (h3:r.ho=s.ho) (h4:r.by_=s.by_):r=s:=by
  cases r; cases s; simp_all
def lt (r s:Row):Prop:=r.hd < s.hd∨(r.hd=s.hd∧(r.co < s.co∨(r.co=s.co∧(r.ho < s.ho∨(r.ho=s.ho∧r.by_ < s.by_)))))
instance (r s:Row):Decidable (lt r s):=by unfold lt; infer_instance
def le (r s:Row):Prop:=¬ lt s r
instance (r s:Row):Decidable (le r s):=by unfold le; infer_instance
theorem le_refl (r:Row):le r r:=by unfold le lt; omega
theorem lexT {a b c:Int} {N1 N2 N3:Prop} (h:¬ N1→¬ N2→¬ N3) (h1:¬ (b < a∨(b=a∧N1))) (h2:¬ (c < b∨(c=b∧N2))):¬ (c < a∨(c=a∧N3)):=by
  have n1:a≤b:=Int.not_lt.mp fun y=>h1 (.inl y)
  have n2:b≤c:=Int.not_lt.mp fun y=>h2 (.inl y)
  intro z
  rcases z with z | ⟨z,n⟩
  · exact Int.not_lt.mpr (Int.le_trans n1 n2) z
  · subst z
    have e:=Int.le_antisymm n1 n2
    subst e
    exact h (fun y=>h1 (.inr ⟨rfl,y⟩)) (fun y=>h2 (.inr ⟨rfl,y⟩)) n
theorem le_trans {r s t:Row} (h1:le r s) (h2:le s t):le r t :=
  lexT (lexT (lexT fun a b=>Int.not_lt.mpr (Int.le_trans (Int.not_lt.mp a) (Int.not_lt.mp b)))) h1 h2
theorem le_antisymm {r s:Row} (h1:le r s) (h2:le s r):r=s:=by
  unfold le lt at *
  exact Row.ext' (by omega) (by omega) (by omega) (by omega)
theorem lt_le {r s:Row} (h:lt r s):le r s:=by unfold le lt at *; omega
theorem lt_irrefl (r:Row):¬ lt r r:=by unfold lt; omega
structure Net where
  n:Nat
  nm:Nat→Int
  a:Nat→Nat
  b:Nat→Nat
  c:Nat→Int
  live:List Nat
  inj:∀ i j,i < n→j < n→nm i=nm j→i=j
  ab:∀ k∈live,a k < n∧b k < n∧a k≠b k
  c1:∀ k∈live,1≤c k
section
variable (N:Net)
def Adj (k h g:Nat):Prop:=k∈N.live∧((N.a k=h∧N.b k=g)∨(N.b k=h∧N.a k=g))
def own (h:Nat):Row:=⟨N.nm h,0,0,-1⟩
def over (k:Nat) (r:Row):Row:=⟨r.hd,r.co + N.c k,r.ho + 1,k⟩
end
variable {N:Net}
theorem Adj.symm {k h g:Nat} (e:Adj N k h g):Adj N k g h:=⟨e.1,e.2.elim (fun z=>.inr ⟨z.2,z.1⟩) fun z=>.inl ⟨z.2,z.1⟩⟩
theorem Adj.lt {k h g:Nat} (e:Adj N k h g):h < N.n∧g < N.n∧h≠g:=by
  obtain ⟨hk,e⟩:=e
  obtain ⟨h1,h2,h3⟩:=N.ab k hk
  rcases e with ⟨rfl,rfl⟩ | ⟨rfl,rfl⟩
  · exact ⟨h1,h2,h3⟩
  · exact ⟨h2,h1,Ne.symm h3⟩
theorem Adj.cost {k h g:Nat} (e:Adj N k h g):1≤N.c k:=N.c1 k e.1
structure IsDue (cut:Int) (R:Nat→Row) (h:Nat) (d:Row):Prop where
  one:d=own N h∨∃ k g,Adj N k h g∧(R g).ho + 1 < cut∧d=over N k (R g)
  own:le d (RM.own N h)
  all:∀ k g,Adj N k h g→(R g).ho + 1 < cut→le d (over N k (R g))
theorem IsDue.uniq {cut:Int} {R:Nat→Row} {h:Nat} {d e:Row} (p:IsDue (N:=N) cut R h d) (q:IsDue (N:=N) cut R h e):d=e:=by
  apply le_antisymm
  · rcases q.one with z | ⟨k,g,a,c,z⟩
    · rw [z]; exact p.own
    · rw [z]; exact p.all k g a c
  · rcases p.one with z | ⟨k,g,a,c,z⟩
    · rw [z]; exact q.own
    · rw [z]; exact q.all k g a c
def Rest (N:Net) (S:Nat→Row):Prop:=∀ h,h < N.n→IsDue (N:=N) N.n S h (S h)
def Sane (N:Net) (R:Nat→Row):Prop:=∀ h,h < N.n→0≤(R h).ho∧(R h).ho < N.n
def upd (R:Nat→Row) (h:Nat) (d:Row):Nat→Row:=fun x=>if x=h then d else R x
structure Hang (N:Net) (R:Nat→Row) (k h g:Nat):Prop where
  adj:Adj N k h g
  cut:(R g).ho + 1 < N.n
  eq:R h=over N k (R g)
theorem Adj.far {k h g g':Nat} (a:Adj N k h g) (a':Adj N k h g'):g=g':=by
  obtain ⟨hk,e⟩:=a
  obtain ⟨_,e'⟩:=a'
  have:=(N.ab k hk).2.2
  omega
section
variable {R:Nat→Row} {k h g:Nat}
theorem Hang.ho (t:Hang N R k h g):(R h).ho=(R g).ho + 1:=by rw [t.eq]; rfl
theorem Hang.by (t:Hang N R k h g):(R h).by_=k:=by rw [t.eq]; rfl
theorem Hang.uniq {k' g':Nat} (t:Hang N R k h g) (u:Hang N R k' h g'):k=k'∧g=g':=by
  have h1:=t.by
  have h2:=u.by
  have e:k=k':=by omega
  subst e
  exact ⟨rfl,t.adj.far u.adj⟩
theorem Hang.one {h' g':Nat} (t:Hang N R k h g) (u:Hang N R k h' g'):h=h'∧g=g':=by
  obtain ⟨hk,e⟩:=t.adj
  obtain ⟨_,e'⟩:=u.adj
  have h1:=t.ho
  have h2:=u.ho
  have e3:h=h'∨(h=g'∧g=h'):=by
    rcases e with ⟨rfl,rfl⟩ | ⟨rfl,rfl⟩ <;> rcases e' with ⟨rfl,rfl⟩ | ⟨rfl,rfl⟩ <;> simp
  rcases e3 with e3 | ⟨e3,e4⟩
  · subst e3
    exact ⟨rfl,t.adj.far u.adj⟩
  · subst e3 e4
    omega
end
end RM
namespace RM
variable {N:Net}
end RM
namespace L2
open PySem PySem.Spec PyProof.Rows
inductive LexV:List Value→List Value→Bool→Prop
  | nil:LexV [] [] false
  | ne {a c:Int} {t u:Tok} {vs ws:List Value} (h:a≠c):LexV (.int a t :: vs) (.int c u :: ws) (decide (a < c))
  | eq {a:Int} {t u:Tok} {vs ws:List Value} {r:Bool} (h:LexV vs ws r):LexV (.int a t :: vs) (.int a u :: ws) r
section
open PySem.SeqAt
open PySem.AutoSeq1 (wpAny_loadPart')
open PySem.MeetsSeq PySem.MeetsSeq2 PySem.MeetsSeq3
theorem tuple_lt_V (l b:Addr) (items items2:Array Value) (n n2:Nat) (dd dd2:Option Addr) (sl sl2:Array (Option Value)) (r:Bool) (hi:LexV items.toList items2.toList r) (hsz:items.size=items2.size) :
    Meets (Builtin.«tuple.__lt__» ⟨[.ref l,.ref b],[]⟩)
      (fun _ R s=>s.heap.get? l=some { cls:=.type "tuple",dict:=dd,data:=.seq items n,slots:=sl }∧s.heap.get? b=some { cls:=.type "tuple",dict:=dd2,data:=.seq items2 n2,slots:=sl2 } ∧
        R (.ok (.ret (.bool r))) s) :=
  .of_wp fun prog w A R s h=>by
    obtain ⟨hp,g,d,tk,os⟩:=s; obtain ⟨hl,hb,h⟩:=h
    have f2:=AutoSeq1.sub_tuple_tuple
    wp_walk using wpAny_loadPart' hl,wpAny_loadPart' hb,wpAny_forIn_list _ (fun rest b s'=>b.1=none∧s' = ⟨hp,g,d,tk,os⟩∧∃ (vs ws:List Value),rest=vs.zip ws∧LexV vs ws r) _
    case turn =>
      rintro ⟨y,x⟩ rest b s' ⟨hb',rfl,vs,ws,hz,hx⟩
      cases hx with
      | nil=>rw [List.zip_nil_left] at hz; cases hz
      | @ne a c t u vs ws hne =>
        rw [List.zip_cons_cons] at hz
        injection hz with hyx hrest
        injection hyx with hy hx
        subst hy hx
        obtain ⟨e,he,hiff⟩:=HT.eqAt_int A.in1 ⟨hp,g,d,tk,os⟩ a t c u
        refine wpAny_bind (he prog w _ _ ?_)
        cases e with
        | true=>exact absurd (hiff.mp rfl) hne
        | false =>
          have hri:=HT.rcLt_int A.in1 ⟨hp,g,d,tk,os⟩ a t c u prog w
          wp_walk using hri
          exact ⟨_,rfl,by simpa using h⟩
      | @eq a t u vs ws r' hx' =>
        rw [List.zip_cons_cons] at hz
        injection hz with hyx hrest
        injection hyx with hy hx
        subst hy hx
        obtain ⟨e,he,hiff⟩:=HT.eqAt_int A.in1 ⟨hp,g,d,tk,os⟩ a t a u
        refine wpAny_bind (he prog w _ _ ?_)
        cases e with
        | true =>
          wp_walk
          exact ⟨rfl,rfl,_,_,hrest,hx'⟩
        | false=>exact absurd (hiff.mpr rfl) Bool.false_ne_true
    case fin =>
      rintro ⟨b1,b2⟩ s' ⟨hb',rfl,vs,ws,hz,hx⟩
      simp only at hb'
      subst hb'
      cases hx with
      | nil =>
        have hv:decide (items.size < items2.size)=false:=decide_eq_false (by omega)
        rw [← hv] at h
        wp_walk
        exact ⟨_,rfl,by simpa [Builtin.Tuple.tupleCompareSizes] using h⟩
      | ne=>rw [List.zip_cons_cons] at hz; cases hz
      | eq=>rw [List.zip_cons_cons] at hz; cases hz
    case h =>
      exact ⟨rfl,rfl,items.toList,items2.toList,rfl,hi⟩
end
theorem lt_tupV {prog:Program} {w:World} {A:Around} {E:Value→Shared→Prop} {s:Shared} {l b:Addr} {items items2:Array Value} {r:Bool} {Q:Value→Shared→Prop} (hl:IsTup s.heap l items) (hb:IsTup s.heap b items2) (hi:LexV items.toList items2.toList r) (hsz:items.size=items2.size)
    (hu:A.units < cLine) (h:Q (.bool r) s):wpAny (model prog w) A (compareOp .Lt (.ref l) (.ref b)) Q E s:=by
  obtain ⟨⟨cls,dd,data,sl⟩,ho,hc,n,hd⟩:=id hl
  obtain ⟨⟨cls2,dd2,data2,sl2⟩,ho2,hc2,n2,hd2⟩:=id hb
  simp only at hc hd hc2 hd2
  subst hc hd hc2 hd2
  exact richCompare_meets_room (op:=.Lt) ⟨_,ho,rfl⟩ ⟨_,ho2,rfl⟩ PySem.F.slot_tuple_lt PySem.F.entry_tuple_lt (PySem.F.args_tuple_lt_2 _ _) (tuple_lt_V l b items items2 n n2 dd dd2 sl sl2 r hi hsz)
    ⟨ho,ho2,show Value.bool r≠Value.notImplemented∧Q (.bool r) s from ⟨(fun x=>nomatch x),h⟩⟩ hu
inductive LexR:List V→List V→Bool→Prop
  | nil:LexR [] [] false
  | ne {a c:Int} {vs ws:List V} (h:a≠c):LexR (.int a :: vs) (.int c :: ws) (decide (a < c))
  | eq {a:Int} {vs ws:List V} {r:Bool} (h:LexR vs ws r):LexR (.int a :: vs) (.int a :: ws) r
theorem LexR.vals {vs ws:List V} {r:Bool} (h:LexR vs ws r):∀ {us us':List Value},Vals vs us→Vals ws us'→LexV us us' r:=by
  induction h with
  | nil=>intro us us' r1 r2; cases r1; cases r2; exact .nil
  | ne h =>
    intro us us' r1 r2
    cases r1 with
    | cons q1 _ =>
      cases r2 with
      | cons q2 _ =>
        obtain ⟨t,rfl⟩:=q1
        obtain ⟨u,rfl⟩:=q2
        exact .ne h
  | eq _ ih =>
    intro us us' r1 r2
    cases r1 with
    | cons q1 t1 =>
      cases r2 with
      | cons q2 t2 =>
        obtain ⟨t,rfl⟩:=q1
        obtain ⟨u,rfl⟩:=q2
        exact .eq (ih t1 t2)
section
variable {X:Cx}
def rLtR (K:PySem.W.Frag):R2:=fun x y H Q=>∃ a b xs ys r,x = .ref a∧y = .ref b∧SqT K H a xs∧SqT K H b ys∧xs.length=ys.length∧LexR xs ys r∧Q (.bl r) H
theorem op_ltR (hu:X.A.units < cLine):OpR X (compareOp .Lt) (rLtR X.K):=by
  intro pins s σ H x y v u Q I rx ry h
  obtain ⟨a,b,xs,ys,r,rfl,rfl,ha,hb,hl,hx,q⟩:=h
  cases rx
  cases ry
  obtain ⟨its,r1,p1,_⟩:=I.tuple ha
  obtain ⟨its2,r2,p2,_⟩:=I.tuple hb
  exact lt_tupV p1 p2 (hx.vals r1 r2) (by rw [List.size_toArray,List.size_toArray,← r1.length,← r2.length]; exact hl) hu ⟨.bl r,H,I,rfl,q⟩
end
end L2
namespace RM
open PySem L2
def byV (b:Int):V:=if b < 0 then .non else .int b
abbrev rowV (r:Row):List V:=[.int r.hd,.int r.co,.int r.ho,byV r.by_]
theorem byV_non {b:Int} (h:b < 0):byV b = .non:=if_pos h
theorem byV_int {b:Int} (h:0≤b):byV b = .int b:=if_neg (by omega)
theorem rowLex {r s:Row} (h:r.hd≠s.hd∨r.co≠s.co∨r.ho≠s.ho∨(0≤r.by_∧0≤s.by_)):LexR (rowV r) (rowV s) (decide (lt r s)):=by
  obtain ⟨r1,r2,r3,r4⟩:=r
  obtain ⟨s1,s2,s3,s4⟩:=s
  dsimp only at h
  have fin:∀ {b b':Bool} {vs ws},LexR vs ws b→b=b'→LexR vs ws b':=fun h e=>e ▸ h
  by_cases h1:r1=s1
  · subst h1
    by_cases h2:r2=s2
    · subst h2
      by_cases h3:r3=s3
      · subst h3
        obtain ⟨b1,b2⟩ : 0≤r4∧0≤s4:=by
          rcases h with h | h | h | h
          · exact absurd rfl h
          · exact absurd rfl h
          · exact absurd rfl h
          · exact h
        show LexR [.int r1,.int r2,.int r3,byV r4] [.int r1,.int r2,.int r3,byV s4] _
        rw [byV_int b1,byV_int b2]
        by_cases h4:r4=s4
        · subst h4
          exact fin (.eq (.eq (.eq (.eq .nil)))) (decide_eq_false (lt_irrefl _)).symm
        · exact fin (.eq (.eq (.eq (.ne h4)))) (by unfold lt; simp)
      · exact fin (.eq (.eq (.ne h3))) (by unfold lt; simp [h3])
    · exact fin (.eq (.ne h2)) (by unfold lt; simp [h2])
  · exact fin (.ne h1) (by unfold lt; simp [h1])
end RM
namespace L2
open PySem PySem.Spec PyProof.Rows
theorem best_le (bt:Nat→Nat→Bool):∀ k,argBest bt k≤k
  | 0=>Nat.le_refl _
  | k + 1=>by
    show (if bt (k + 1) (argBest bt k) then k + 1 else argBest bt k)≤k + 1
    split
    · exact Nat.le_refl _
    · exact Nat.le_succ_of_le (best_le bt k)
def Pinned (ps:List (Addr × Obj)) (h:Heap):Prop:=∀ p∈ps,h.get? p.1=some p.2
section
variable {prog:Program} {w:World} {A:Around} {R:Result→Shared→Prop} {I:Addr} {fp wr:List Addr} {n:Nat} {P:Nat→Value→Prop} {St:Nat→Heap→Prop} {ps:List (Addr × Obj)}
def CmpPin (prog:Program) (w:World) (A:Around) (ps:List (Addr × Obj)) (P:Nat→Value→Prop) (bt:Nat→Nat→Bool):Prop :=
  ∀ i j vi vj (s:Shared) (Q E:Value→Shared→Prop),j < i→Pinned ps s.heap→P i vi→P j vj→Q (.bool (bt i j)) s→wpAny (model prog w) A (richCompare .Lt vi vj) Q E s
theorem minP_loop (W:Walks prog w A.in1 I fp wr n P St) (bt:Nat→Nat→Bool) (cmp:CmpPin prog w A.in1 ps P bt) (S:Addr) (nS:S ∉ fp) (np:∀ p∈ps,p.1 ∉ wr∧p.1≠S):∀ (k j:Nat) (s:Shared) (b0:Value) (c:Nat),k=n - (j + 1)→j < n→St (j + 1) s.heap →
    P (argBest bt j) b0→Pinned ps s.heap→s.heap.get? S=some { cls:=.type "list",dict:=none,data:=.seq #[b0,b0] c,slots:=#[] } →
    (∀ v h' tk,P (argBest bt (n - 1)) v→(∀ b o,b≠S→b ∉ wr→s.heap.get? b=some o→h'.get? b=some o)→R (.ok (.ret v)) { s with heap:=h',toks:=tk })→codeAny (model prog w) A (.builtin "min.loop" ⟨[.ref I,.none,.ref S],[]⟩) R s:=by
  have nW:S ∉ wr:=fun z=>nS (W.sub _ z)
  have nm : "min.loop" = (toString "min" ++ toString ".loop" : String):=by decide
  intro k
  induction k with
  | zero =>
    intro j s b0 c e lt st hb pin hS out
    obtain rfl:n=j + 1:=by omega
    refine codeAny_builtin F.entry_min_loop (by
      rw [Around.under_plainId F.plain_min_loop _]
      refine (show wpAny (model prog w) A.in1 (seqItems? (.ref S) >>= _) _ _ s from wpAny_bind (wpAny_seqItems hS rfl ?_))
      refine (show wpAny (model prog w) A.in1 (tryCatch (pyNext (.ref I)) _ >>= _) _ _ s from wpAny_bind (wpAny_tryCatch (W.done s _ _ st fun h1 tk kp=>?_)))
      refine (show wpAny (model prog w) A.in1 (updateSeq S (fun _=>#[]) >>= _) _ _ _ from wpAny_bind (wpAny_updateSeq (kp S _ nW hS) rfl (wpAny_bind (wpAny_letGo (wpAny_pure ?_)))))
      exact out b0 _ tk hb fun b o q1 q2 q3=>(Heap.get?_update_other _ _ (Ne.symm q1)).trans (kp b o q2 q3))
  | succ k ih =>
    intro j s b0 c e lt st hb pin hS out
    have lt2:j + 1 < n:=by omega
    refine codeAny_builtin F.entry_min_loop (by
      rw [Around.under_plainId F.plain_min_loop _]
      refine (show wpAny (model prog w) A.in1 (seqItems? (.ref S) >>= _) _ _ s from wpAny_bind (wpAny_seqItems hS rfl ?_))
      refine (show wpAny (model prog w) A.in1 (tryCatch (pyNext (.ref I)) _ >>= _) _ _ s from wpAny_bind (wpAny_tryCatch (W.item (j + 1) s _ _ lt2 st fun v h1 tk hv st1 kp=>?_)))
      have pin1:Pinned ps h1:=fun p hp=>kp _ _ (np p hp).1 (pin p hp)
      have hS1:=kp S _ nW hS
      refine (show wpAny (model prog w) A.in1 (tryCatch (holding [v,v] (richCompare .Lt v b0 >>= _)) _ >>= _) _ _ _ from wpAny_bind (wpAny_tryCatch (wpAny_holding (wpAny_bind (cmp (j + 1) (argBest bt j) v b0 _ _ _ (Nat.lt_succ_of_le (best_le bt j)) pin1 hv hb ?_)))))
      refine wpAny_bind (wpAny_holding (wpAny_truthy_bool (wpAny_bind (wpAny_letGo (wpAny_pure ?_)))))
      by_cases hc:bt (j + 1) (argBest bt j)=true
      · rw [hc]
        simp only [if_true]
        refine wpAny_bind (wpAny_updateSeq hS1 rfl (wpAny_bind (wpAny_letGo ?_)))
        rw [← nm]
        refine wpAny_pure ⟨plainId_quiet F.plain_min_loop _,ih (j + 1) _ v _ (by omega) lt2 (W.frame _ _ _ st1 fun b q o z=>?_) (by simp only [argBest,hc,if_true]; exact hv) (fun p hp=>?_) (Heap.get?_update_self _ hS1 rfl) fun v2 h2 tk2 q0 q=>?_⟩
        · exact (Heap.get?_update_other _ _ (fun y:S=b=>nS (y ▸ q))).trans z
        · exact (Heap.get?_update_other _ _ (Ne.symm (np p hp).2)).trans (pin1 p hp)
        · exact out v2 h2 tk2 q0 fun b o q1 q2 q3=>q b o q1 q2 ((Heap.get?_update_other _ _ (Ne.symm q1)).trans (kp b o q2 q3))
      · rw [Bool.eq_false_iff.mpr hc]
        simp only [Bool.false_eq_true,if_false]
        refine wpAny_bind (wpAny_letGo ?_)
        rw [← nm]
        refine wpAny_pure ⟨plainId_quiet F.plain_min_loop _,ih (j + 1) _ b0 c (by omega) lt2 st1 (by simp only [argBest,hc,Bool.false_eq_true,if_false]; exact hb) pin1 hS1 fun v2 h2 tk2 q0 q=>?_⟩
        exact out v2 h2 tk2 q0 fun b o q1 q2 q3=>q b o q1 q2 (kp b o q2 q3))
theorem minP_first (W:Walks prog w A.in1 I fp wr n P St) (bt:Nat→Nat→Bool) (cmp:CmpPin prog w A.in1 ps P bt) (S:Addr) (nS:S ∉ fp) (np:∀ p∈ps,p.1 ∉ wr∧p.1≠S) (hn:0 < n) {s:Shared} {c:Nat} (st:St 0 s.heap) (pin:Pinned ps s.heap)
    (hS:s.heap.get? S=some { cls:=.type "list",dict:=none,data:=.seq #[] c,slots:=#[] }) (out:∀ v h' tk,P (argBest bt (n - 1)) v→(∀ b o,b≠S→b ∉ wr→s.heap.get? b=some o→h'.get? b=some o)→R (.ok (.ret v)) { s with heap:=h',toks:=tk }) :
    codeAny (model prog w) A (.builtin "min.loop" ⟨[.ref I,.none,.ref S],[]⟩) R s:=by
  have nW:S ∉ wr:=fun z=>nS (W.sub _ z)
  have nm : "min.loop" = (toString "min" ++ toString ".loop" : String):=by decide
  refine codeAny_builtin F.entry_min_loop (by
    rw [Around.under_plainId F.plain_min_loop _]
    refine (show wpAny (model prog w) A.in1 (seqItems? (.ref S) >>= _) _ _ s from wpAny_bind (wpAny_seqItems hS rfl ?_))
    refine (show wpAny (model prog w) A.in1 (tryCatch (pyNext (.ref I)) _ >>= _) _ _ s from wpAny_bind (wpAny_tryCatch (W.item 0 s _ _ hn st fun v h1 tk hv st1 kp=>?_)))
    have pin1:Pinned ps h1:=fun p hp=>kp _ _ (np p hp).1 (pin p hp)
    have hS1:=kp S _ nW hS
    refine (show wpAny (model prog w) A.in1 (updateSeq S (fun _=>#[v,v]) >>= _) _ _ _ from wpAny_bind (wpAny_updateSeq hS1 rfl ?_))
    rw [← nm]
    refine wpAny_pure ⟨plainId_quiet F.plain_min_loop _,minP_loop W bt cmp S nS np _ 0 _ v _ rfl hn (W.frame _ _ _ st1 fun b q o z=>?_) hv (fun p hp=>?_) (Heap.get?_update_self _ hS1 rfl) fun v2 h2 tk2 q0 q=>?_⟩
    · exact (Heap.get?_update_other _ _ (fun y:S=b=>nS (y ▸ q))).trans z
    · exact (Heap.get?_update_other _ _ (Ne.symm (np p hp).2)).trans (pin1 p hp)
    · exact out v2 h2 tk2 q0 fun b o q1 q2 q3=>q b o q1 q2 ((Heap.get?_update_other _ _ (Ne.symm q1)).trans (kp b o q2 q3)))
end
section
variable {prog:Program} {w:World} {A:Around} {E:Value→Shared→Prop} {s:Shared} {ps:List (Addr × Obj)}
theorem minP_two {x y:Value} {Q:Value→Shared→Prop} (h:wpAny (model prog w) A.in1 (pyIter (.ref s.heap.objs.size)) (fun it s2=>∃ I fp wr n P St bt,it = .ref I∧Walks prog w A.in1 I fp wr n P St∧St 0 s2.heap∧(∀ b∈fp,b < s2.heap.objs.size)∧0 < n∧CmpPin prog w A.in1 ps P bt ∧
      Pinned ps s2.heap∧(∀ p∈ps,p.1 ∉ wr)∧∀ v h' tk,P (argBest bt (n - 1)) v→(∀ b o,b ∉ wr→s2.heap.get? b=some o→h'.get? b=some o)→Q v { s2 with heap:=h',toks:=tk }) E { s with heap:=s.heap.push { cls:=.type "tuple",data:=.seq #[x,y] } }) :
    wpAny (model prog w) A (call (.builtin "min") [x,y]) Q E s:=by
  have nm : "min.loop" = (toString "min" ++ toString ".loop" : String):=by decide
  have ep:Builtin.Builtins.bindParams "min" ["key","default"] 0 ⟨[],[]⟩=pure [none,none]:=rfl
  refine call_function_tree F.kind_min F.plain_min F.entry_min (F.args_min2 _ _) (show wpAny _ A.in1 (Builtin.Builtins.bindParams "min" ["key","default"] 0 ⟨[],[]⟩ >>= _) _ _ s from wpAny_bind (wpAny_of_eq ep ?_))
  refine (show wpAny _ A.in1 (newTuple [x,y] >>= _) _ _ s from wpAny_bind (wpAny_newObj_type (wpAny_bind (wpAny_mono h (fun it s2 q=>?_) fun _ _ z=>z))))
  obtain ⟨I,fp,wr,n,P,St,bt,rfl,W,st,hfp,hn,cmp,pin,np,out⟩:=q
  have nS:s2.heap.objs.size ∉ fp:=fun z=>absurd (hfp _ z) (Nat.lt_irrefl _)
  refine wpAny_bind (wpAny_newObj_type ?_)
  rw [← nm]
  refine wpAny_pure ⟨plainId_quiet F.plain_min_loop _,minP_first W bt cmp s2.heap.objs.size nS (fun p hp=>⟨np p hp,Nat.ne_of_lt (Heap.lt_size (pin p hp))⟩) hn (W.frame _ _ _ st fun b _ o z=>Heap.get?_push_of_some _ z) (fun p hp=>Heap.get?_push_of_some _ (pin p hp)) (Heap.get?_push_size _ rfl) fun v h' tk hP kp=>?_⟩
  exact out v h' tk hP fun b o q1 q2=>kp b o (Nat.ne_of_lt (Heap.lt_size q2)) q1 (Heap.get?_push_of_some _ q2)
end
end L2
namespace L2
open PySem PySem.Spec PyProof.Rows RM
section
variable {X:Cx}
theorem pairP {a b:Addr} {i:Nat} {v:Value} (h:(#[Value.ref a,Value.ref b]:Array Value)[i]?=some v):(i=0∧v = .ref a)∨(i=1∧v = .ref b):=by
  match i,h with
  | 0,h=>exact .inl ⟨rfl,by simpa using h.symm⟩
  | 1,h=>exact .inr ⟨rfl,by simpa using h.symm⟩
  | i + 2,h=>simp at h
theorem call_minR2 (hc:X.calm=true) (hu:X.A.in1.units < cLine):CallR X (.builtin "min") (fun xs H Q=>∃ a b us vs r,xs = [.ref a,.ref b]∧SqT X.K H a us∧SqT X.K H b vs∧us.length=vs.length∧LexR vs us r∧Q (if r then .ref b else .ref a) H):=by
  intro pins s σ H xs us Q I r h
  obtain ⟨a,b,us,vs,t,rfl,ha,hb,hl,hx,q⟩:=h
  obtain ⟨u,w',rfl,ru,rw'⟩:=Vals.two r
  cases ru
  cases rw'
  obtain ⟨ia,ra,pa,_⟩:=I.tuple ha
  obtain ⟨ib,rb,pb,_⟩:=I.tuple hb
  obtain ⟨oa,ea,ca⟩:=id pa
  obtain ⟨ob,eb,cb⟩:=id pb
  have lex:=hx.vals rb ra
  have lsz:ib.toArray.size=ia.toArray.size:=by rw [List.size_toArray,List.size_toArray,← ra.length,← rb.length]; exact hl.symm
  have la:=Heap.lt_size ea
  have lb:=Heap.lt_size eb
  have hT:(s.heap.push { cls:=.type "tuple",data:=.seq #[.ref a,.ref b] }).IsTuple s.heap.objs.size #[.ref a,.ref b]:=⟨_,Heap.get?_push_size _ rfl,rfl,0,rfl⟩
  have sz1:(s.heap.push { cls:=.type "tuple",data:=.seq #[.ref a,.ref b] }).objs.size=s.heap.objs.size + 1:=Heap.size_push ..
  refine minP_two (ps:=[(a,oa),(b,ob)]) (wpAny_pyIter_tuple hT ?_)
  refine ⟨_,[_,s.heap.objs.size],[_],_,_,_,fun _ _=>t,rfl,Walks.tuple (A:=X.A.in1) (I.ok.hd hc) _ s.heap.objs.size (by rw [sz1]; exact Nat.ne_of_lt (Nat.lt_succ_self _)) #[.ref a,.ref b],⟨⟨_,Heap.get?_push_size _ rfl,rfl,rfl⟩,hT.push _⟩,fun c hm=>?_,(by show 0 < 2; decide),?_,?_,?_,fun v h' tk hP hk=>?_⟩
  · show c < ((s.heap.push _).push _).objs.size
    rw [Heap.size_push,sz1]
    simp only [List.mem_cons,List.not_mem_nil,or_false] at hm
    rcases hm with rfl | rfl
    · rw [sz1]; exact Nat.lt_succ_self _
    · exact Nat.lt_succ_of_lt (Nat.lt_succ_self _)
  · intro i j vi vj s1 Q1 E1 hij pin hi hj q1
    have hi':=pairP hi
    have hj':=pairP hj
    obtain ⟨rfl,rfl⟩ : i=1∧vi = .ref b:=by
      rcases hi' with ⟨z,_⟩ | z
      · omega
      · exact z
    obtain ⟨rfl,rfl⟩ : j=0∧vj = .ref a:=by
      rcases hj' with z | ⟨z,_⟩
      · exact z
      · omega
    have p1:IsTup s1.heap b ib.toArray:=⟨ob,pin (b,ob) (by simp),cb⟩
    have p2:IsTup s1.heap a ia.toArray:=⟨oa,pin (a,oa) (by simp),ca⟩
    exact (lt_tupV p1 p2 lex lsz hu q1:wpAny _ _ (compareOp .Lt (.ref b) (.ref a)) _ _ _)
  · intro p hp
    simp only [List.mem_cons,List.not_mem_nil,or_false] at hp
    rcases hp with rfl | rfl
    · exact Heap.get?_push_of_some _ (Heap.get?_push_of_some _ ea)
    · exact Heap.get?_push_of_some _ (Heap.get?_push_of_some _ eb)
  · intro p hp z
    simp only [List.mem_cons,List.not_mem_nil,or_false] at hp z
    rw [sz1] at z
    rcases hp with rfl | rfl
    · have e:a=s.heap.objs.size + 1:=z
      exact absurd la (by rw [e]; exact Nat.not_lt_of_lt (Nat.lt_succ_self _))
    · have e:b=s.heap.objs.size + 1:=z
      exact absurd lb (by rw [e]; exact Nat.not_lt_of_lt (Nat.lt_succ_self _))
  · have hold:∀ c o,s.heap.get? c=some o→h'.get? c=some o:=fun c o e=>by
      refine hk c o (fun z=>?_) (Heap.get?_push_of_some _ (Heap.get?_push_of_some _ e))
      have lc:=Heap.lt_size e
      simp only [List.mem_cons,List.not_mem_nil,or_false] at z
      rw [sz1] at z
      exact absurd lc (by rw [z]; exact Nat.not_lt_of_lt (Nat.lt_succ_self _))
    cases t with
    | true =>
      have hv:v = .ref b:=by
        rcases pairP hP with ⟨z,_⟩ | z
        · exact absurd z (show ¬ argBest (fun _ _=>true) 1=0 by decide)
        · exact z.2
      subst hv
      exact ⟨.ref b,H,I.kept hold,rfl,by simpa using q⟩
    | false =>
      have hv:v = .ref a:=by
        rcases pairP hP with z | ⟨z,_⟩
        · exact z.2
        · exact absurd z (show ¬ argBest (fun _ _=>false) 1=1 by decide)
      subst hv
      exact ⟨.ref a,H,I.kept hold,rfl,by simpa using q⟩
end
end L2
namespace L2
open PySem PySem.Spec PyProof.Rows
section
variable {X:Cx}
def rEqS (K:PySem.W.Frag):R2:=fun x y H Q=>∃ da db,Rep K H da x∧Rep K H db y∧da.canLay0=true∧db.canLay0=true∧da.depth≤64∧Q (.bl (PyData.eqv da db)) H
theorem op_eqDs (K:PySem.W.Frag) (hK:X.K=K) (hu:X.A.units + 64 < cLine):OpR X (compareOp .Eq) (rEqS K):=by
  subst hK
  intro pins s σ H x y v u Q I rx ry ⟨da,db,ha,hb,ca,cb,hd,q⟩
  exact op_eqD pins s σ H x y v u Q I rx ry ⟨da,db,ha,hb,ca,cb,Nat.lt_of_le_of_lt (Nat.add_le_add_left (Nat.le_trans (Nat.min_le_left _ _) hd) _) hu,q⟩
end
end L2
namespace RM
open PySem L2
def byD (b:Int):PyData:=if b < 0 then .none else .int b
def rowD (r:Row):PyData:=.tuple [.int r.hd,.int r.co,.int r.ho,byD r.by_]
theorem byD_rep {K:PySem.W.Frag} {H:Hp} (b:Int):Rep K H (byD b) (byV b):=by
  unfold byD byV
  by_cases h:b < 0
  · rw [if_pos h,if_pos h]; rfl
  · rw [if_neg h,if_neg h]; rfl
theorem rowD_rep {K:PySem.W.Frag} {H:Hp} {p:Addr} {r:Row} (h:SqT K H p (rowV r)):Rep K H (rowD r) (.ref p) :=
  ⟨p,_,rfl,h,_,_,rfl,rfl,_,_,rfl,rfl,_,_,rfl,rfl,_,_,rfl,byD_rep _,rfl⟩
theorem rowD_lay (r:Row):(rowD r).canLay0=true:=by
  show (true && (true && (true && ((byD r.by_).canLay0 && true))))=true
  unfold byD
  split <;> rfl
theorem rowD_deep (r:Row):(rowD r).depth=1:=by
  show max 0 (max 0 (max 0 (max (byD r.by_).depth 0))) + 1=1
  unfold byD
  split <;> rfl
theorem rowD_eqv {r s:Row} (hr : -1≤r.by_) (hs : -1≤s.by_):PyData.eqv (rowD r) (rowD s)=decide (r=s):=by
  have e:PyData.eqv (rowD r) (rowD s)=((r.hd == s.hd) && ((r.co == s.co) && ((r.ho == s.ho) && (PyData.eqv (byD r.by_) (byD s.by_) && true)))):=rfl
  rw [e]
  have eb:PyData.eqv (byD r.by_) (byD s.by_)=decide (r.by_=s.by_):=by
    unfold byD
    by_cases h1:r.by_ < 0 <;> by_cases h2:s.by_ < 0
    · rw [if_pos h1,if_pos h2]
      exact (decide_eq_true (by omega)).symm
    · rw [if_pos h1,if_neg h2]
      exact (decide_eq_false (by omega)).symm
    · rw [if_neg h1,if_pos h2]
      exact (decide_eq_false (by omega)).symm
    · rw [if_neg h1,if_neg h2]
      show (r.by_ == s.by_)=_
      by_cases h3:r.by_=s.by_
      · rw [decide_eq_true h3,h3]; exact beq_self_eq_true _
      · rw [decide_eq_false h3]; exact beq_eq_false_iff_ne.mpr h3
  rw [eb]
  by_cases h:r=s
  · subst h
    simp
  · rw [decide_eq_false h]
    have:¬ (r.hd=s.hd∧r.co=s.co∧r.ho=s.ho∧r.by_=s.by_):=fun z=>h (Row.ext' z.1 z.2.1 z.2.2.1 z.2.2.2)
    simp only [Bool.and_true]
    by_cases h1:r.hd=s.hd
    · by_cases h2:r.co=s.co
      · by_cases h3:r.ho=s.ho
        · have h4:¬ r.by_=s.by_:=fun z=>this ⟨h1,h2,h3,z⟩
          simp [h4]
        · simp [h3]
      · simp [h2]
    · simp [h1]
end RM
namespace L2
open PySem PySem.Spec PyProof.Rows
section
variable {X:Cx}
def Itz (K:PySem.W.Frag) (a b:Addr):It :=
  ⟨fun i H=>∃ xs ys x y,SqL K H a xs∧SqL K H b ys∧xs[i]?=some x∧ys[i]?=some y,
   fun i H v H'=>∃ p x y,H p=none∧v = .ref p∧H'=upd H p (.tup [x,y])∧(∀ xs,SqL K H a xs→xs[i]?=some x)∧∀ ys,SqL K H b ys→ys[i]?=some y,
   fun i H=>∃ xs ys,SqL K H a xs∧SqL K H b ys∧(xs.length≤i∨ys.length≤i)⟩
theorem turn_zip {P:Program} {w:World} {K:PySem.W.Frag} {elts:List Expr} {x1} {pos:Pos} (a b z TI TO i1 i2:Addr) (D:ZipApart z TI TO i1 i2 a b) :
    Turn P w K (.Tuple elts x1 pos) (Itz K a b) [z,TI,TO,i1,i2] z (fun i h=>IsZip h z TI TO .none∧IsPair h TI (.ref i1) (.ref i2)∧(∃ u v,IsPair h TO u v)∧h.IsListIter i1 a i∧h.IsListIter i2 b i) where
  mem:=by simp
  obj:=fun i h ⟨h1,h2,⟨u,v,h3⟩,h4,h5⟩ c hc=>by
    simp only [List.mem_cons,List.not_mem_nil,or_false] at hc
    rcases hc with rfl | rfl | rfl | rfl | rfl
    · exact ⟨_,h1,fun v q=>by
        have q':Data.fields _=Data.cell v:=q
        cases q'⟩
    · exact ⟨_,h2,fun v q=>by
        have q':Data.seq _ _=Data.cell v:=q
        cases q'⟩
    · exact ⟨_,h3,fun v q=>by
        have q':Data.seq _ _=Data.cell v:=q
        cases q'⟩
    · obtain ⟨o,e,c,d⟩:=h4
      exact ⟨o,e,fun v q=>by rw [d] at q; cases q⟩
    · obtain ⟨o,e,c,d⟩:=h5
      exact ⟨o,e,fun v q=>by rw [d] at q; cases q⟩
  keep:=fun i h h' ⟨h1,h2,⟨u,v,h3⟩,h4,h5⟩ k=>⟨k z (by simp) _ h1,k TI (by simp) _ h2,⟨u,v,k TO (by simp) _ h3⟩,h4.at fun o q=>k i1 (by simp) o q,h5.at fun o q=>k i2 (by simp) o q⟩
  item:=by
    intro X hP hw hK hc i pins s σ H E I hf ⟨h1,h2,⟨u0,v0,h3⟩,h4,h5⟩ hg
    subst hP hw hK
    obtain ⟨xs,ys,x,y,hqa,hqb,hx,hy⟩:=hg
    obtain ⟨its,rv,p1,_⟩:=I.list hqa
    obtain ⟨itt,rw',p2,_⟩:=I.list hqb
    obtain ⟨u,hu,ru⟩:=rv.get hx
    obtain ⟨v,hv,rv'⟩:=rw'.get hy
    refine wpAny_pyNext_zip_item D h1 h2 h3 h4 h5 p1.isList p2.isList (x:=u) (y:=v) (by simpa using hu) (by simpa using hv) fun h' eo to' li1 li2 tu sz kp=>?_
    refine ⟨_,rfl,wpAny_letOwnedTupleGo_zip eo fun hh e2 sb2=>?_⟩
    have hfr:H s.heap.objs.size=none:=I.hok.fresh (Nat.le_refl _)
    have old:∀ c∈[z,TI,TO,i1,i2],c < s.heap.objs.size:=fun c hc=>by
      simp only [List.mem_cons,List.not_mem_nil,or_false] at hc
      rcases hc with rfl | rfl | rfl | rfl | rfl
      · exact Heap.lt_size h1
      · exact Heap.lt_size h2
      · exact Heap.lt_size h3
      · obtain ⟨o,e,_⟩:=h4; exact Heap.lt_size e
      · obtain ⟨o,e,_⟩:=h5; exact Heap.lt_size e
    have nH:∀ c∈[z,TI,TO,i1,i2],∀ b o,H b=some o→b≠c:=fun c hc b o q e=>by rw [e,(hf c hc).1] at q; cases q
    have kp2:∀ b o,b ∉ [z,TO,i1,i2]→s.heap.get? b=some o→hh.get? b=some o:=fun b o hb q=>by
      simp only [List.mem_cons,List.not_mem_nil,or_false,not_or] at hb
      exact (sb2.2 b hb.1).trans (kp b o hb.1 hb.2.1 hb.2.2.1 hb.2.2.2 q)
    have sub:∀ c∈[z,TO,i1,i2],c∈[z,TI,TO,i1,i2]:=fun c hc=>by
      simp only [List.mem_cons,List.not_mem_nil,or_false] at hc ⊢
      rcases hc with q | q | q | q <;> simp [q]
    have kH:∀ b o u,H b=some o→s.heap.get? b=some u→hh.get? b=some u:=fun b o u q r=>kp2 b u (fun m=>nH b (sub b m) b o q rfl) r
    have tu2:hh.get? s.heap.objs.size=some { cls:=.type "tuple",data:=.seq #[u,v] }:=(sb2.2 _ (Nat.ne_of_gt (Heap.lt_size h1))).trans tu
    have fre:∀ c∈[z,TI,TO,i1,i2],upd H s.heap.objs.size (.tup [x,y]) c=none:=fun c hc=>by
      rw [upd_ne (Nat.ne_of_lt (old c hc))]
      exact (hf c hc).1
    have I1:Inv X pins σ (upd H s.heap.objs.size (.tup [x,y])) { s with heap:=hh,toks:=s.toks }:=by
      refine I.step (g':=s.gens) (d':=s.drawn) (ch:=[z,TO,i1,i2]) (fun b hb=>?_) (fun b o _ _ hc q _=>kp2 b o hc q) (fun b o _ _ hc q _=>⟨o.slots,kp2 b o hc q⟩)
        (fun b o _ q n=>by rw [upd_ne (Nat.ne_of_lt (Heap.lt_size q))]; exact n) (fun b o hc q=>⟨o,kp2 b o hc q⟩) (fun b xs q=>by rw [upd_ne (ne_of_none q hfr)]; exact q) (fun b o u q=>by rw [upd_ne (ne_of_none q hfr)]; exact q)
        (fun b ps q=>⟨#[],by rw [upd_ne (ne_of_none q hfr),q]; simp⟩) (fun m hm=>?_) (fun b o q=>?_) I.bare
      · obtain ⟨_,f1,_,f3,f4,f5⟩:=hf b (sub b hb)
        exact ⟨f3,f1,f4,f5⟩
      · obtain ⟨o,es,ep,ho,r⟩:=hm
        refine ⟨o,es,ep,kp2 _ o (fun q=>?_) ho,r⟩
        exact (hf _ (sub _ q)).2.1 rfl
      · by_cases hb:b=s.heap.objs.size
        · subst hb
          rw [upd_same] at q
          cases q
          exact ⟨by show 2≤sizeLine; decide,[u,v],.cons ru (.cons rv' .nil),⟨_,tu2,rfl,_,rfl⟩⟩
        · rw [upd_ne hb] at q
          refine (I.hok b o q).stay (fun c u' hc r=>?_) (fun c r=>by rw [upd_ne (ne_of_none r hfr)]; exact r) fun c xs r=>by rw [upd_ne (ne_of_none r hfr)]; exact r
          rcases hc with e | e
          · rw [e] at r ⊢; exact kH b o u' q r
          · exact kH c _ u' e r
    refine ⟨.ref s.heap.objs.size,_,I1,rfl,⟨_,x,y,hfr,rfl,rfl,fun zs q=>by rw [I.list_inj q hqa]; exact hx,fun zs q=>by rw [I.list_inj q hqb]; exact hy⟩,⟨e2,?_,⟨u,v,?_⟩,?_,?_⟩,fre⟩
    · exact kp2 TI _ (by
        simp only [List.mem_cons,List.not_mem_nil,or_false,not_or]
        exact ⟨D.TIz,D.TITO,D.TIi1,D.TIi2⟩) h2
    · exact (sb2.2 TO D.TOz).trans to'
    · exact li1.at fun o q=>(sb2.2 i1 D.i1z).trans q
    · exact li2.at fun o q=>(sb2.2 i2 D.i2z).trans q
  done:=by
    intro X hP hw hK hc i pins s σ H E I hf ⟨h1,h2,⟨u0,v0,h3⟩,h4,h5⟩ hg
    subst hP hw hK
    obtain ⟨xs,ys,hqa,hqb,hx⟩:=hg
    obtain ⟨its,rv,p1,_⟩:=I.list hqa
    obtain ⟨itt,rw',p2,_⟩:=I.list hqb
    have l1:=rv.length
    have l2:=rw'.length
    refine wpAny_pyNext_zip_end (I.ok.hd hc) D h1 h2 h3 h4 h5 p1.isList p2.isList ?_ fun h' kp=>⟨rfl,?_⟩
    · rcases hx with q | q
      · refine .inl ?_
        rw [List.getElem?_toArray,List.getElem?_eq_none (by omega)]
      · refine .inr ?_
        rw [List.getElem?_toArray,List.getElem?_eq_none (by omega)]
    · have sub:∀ c∈[z,TO,i1,i2],c∈[z,TI,TO,i1,i2]:=fun c hc=>by
        simp only [List.mem_cons,List.not_mem_nil,or_false] at hc ⊢
        rcases hc with q | q | q | q <;> simp [q]
      have kp2:∀ b o,b ∉ [z,TO,i1,i2]→s.heap.get? b=some o→h'.get? b=some o:=fun b o hb q=>by
        simp only [List.mem_cons,List.not_mem_nil,or_false,not_or] at hb
        exact kp b o hb.1 hb.2.1 hb.2.2.1 hb.2.2.2 q
      have kH:∀ b o u,H b=some o→s.heap.get? b=some u→h'.get? b=some u:=fun b o u q r=>kp2 b u (fun m=>by rw [(hf b (sub b m)).1] at q; cases q) r
      refine I.step (t':=s.toks) (g':=s.gens) (d':=s.drawn) (ch:=[z,TO,i1,i2]) (fun b hb=>?_) (fun b o _ _ hc q _=>kp2 b o hc q) (fun b o _ _ hc q _=>⟨o.slots,kp2 b o hc q⟩)
        (fun b o _ q n=>n) (fun b o hc q=>⟨o,kp2 b o hc q⟩) (fun b xs q=>q) (fun b o u q=>q) (fun b ps q=>⟨#[],by rw [q]; simp⟩) (fun m hm=>?_) (fun b o q=>?_) I.bare
      · obtain ⟨_,f1,_,f3,f4,f5⟩:=hf b (sub b hb)
        exact ⟨f3,f1,f4,f5⟩
      · obtain ⟨o,es,ep,ho,r⟩:=hm
        refine ⟨o,es,ep,kp2 _ o (fun q=>?_) ho,r⟩
        exact (hf _ (sub _ q)).2.1 rfl
      · refine (I.hok b o q).stay (fun c u' hc r=>?_) (fun c r=>r) fun c xs r=>r
        rcases hc with e | e
        · rw [e] at r ⊢; exact kH b o u' q r
        · exact kH c _ u' e r
  self:=fun _ _ _ _ _ ⟨h1,_⟩ h=>wpAny_pyIter_zip h1 h
def iZip (K:PySem.W.Frag) (ta:TA):TI:=fun σ H R=>ta σ H fun vs H1=>∃ a b xs ys,vs = [.ref a,.ref b]∧SqL K H1 a xs∧SqL K H1 b ys∧R (Itz K a b) H1
theorem pi_zip {l m:Expr} {ta:TA} {p pos:Pos} {elts:List Expr} {x1} {tpos:Pos} (hg:Gl X "zip") (hm:X.mg "zip" = none) (ha:PA X [l,m] ta) (hs:starEach [l,m] X.env=(false,eval l X.env) :: starEach [m] X.env:=by rfl) (hpl:(backTo pos (starEach [m] X.env)).any (·.1)=false:=by rfl) :
    PI X (.Tuple elts x1 tpos) (.Call (.Name "zip" p) [l,m] [] pos) (iZip X.K ta):=by
  intro pins s σ H R I h
  refine Call_ (ld_blt I hg hm boot_zip (PyProof.Rows.callWith_type1 (thn (ha pos pins s σ H _ I h) fun us s1 ⟨vs,H1,I1,r1,q1⟩=>?_) hs hpl))
  obtain ⟨a,b,xs,ys,e,hqa,hqb,q⟩:=q1
  subst e
  obtain ⟨u,w',rfl,ru,rw'⟩:=Vals.two r1
  cases ru
  cases rw'
  obtain ⟨its,rv,pl,hz⟩:=I1.list hqa
  obtain ⟨its2,rv2,pl2,hz2⟩:=I1.list hqb
  have la:a < s1.heap.objs.size:=by obtain ⟨_,e,_⟩:=pl.isList; exact Heap.lt_size e
  have lb:b < s1.heap.objs.size:=by obtain ⟨_,e,_⟩:=pl2.isList; exact Heap.lt_size e
  refine call_zip_2 pl.isList pl2.isList fun h' z1 z2 z3 z4 z5 sz kp=>wpAny_pyIter_zip z1 ?_
  have I2:Inv X pins σ H1 { s1 with heap:=h',toks:=s1.toks }:=I1.kept kp
  have fr:∀ c,s1.heap.objs.size≤c→FpOk X pins H1 c:=fun c hc=>I1.fpOk hc (I1.hok.fresh hc)
  refine ⟨s1.heap.objs.size + 4,[s1.heap.objs.size + 4,s1.heap.objs.size + 2,s1.heap.objs.size + 3,s1.heap.objs.size,s1.heap.objs.size + 1],_,_,H1,rfl,I2,turn_zip a b _ _ _ _ _ (zipApart_new la lb),⟨z1,z2,⟨_,_,z3⟩,z4,z5⟩,fun c hc=>fr c ?_,q⟩
  simp only [List.mem_cons,List.not_mem_nil,or_false] at hc
  rcases hc with rfl | rfl | rfl | rfl | rfl
  · exact Nat.le_add_right _ _
  · exact Nat.le_add_right _ _
  · exact Nat.le_add_right _ _
  · exact Nat.le_refl _
  · exact Nat.le_add_right _ _
end
end L2
namespace L2
open PySem PySem.Spec PyProof.Rows
end L2
namespace RM
open PySem L2
theorem rowLex3 {r s:Row} (h:r.hd=s.hd→r.co=s.co→r.ho=s.ho→¬ lt r s):LexR [.int r.hd,.int r.co,.int r.ho] [.int s.hd,.int s.co,.int s.ho] (decide (lt r s)):=by
  obtain ⟨r1,r2,r3,r4⟩:=r
  obtain ⟨s1,s2,s3,s4⟩:=s
  dsimp only at h
  have fin:∀ {b b':Bool} {vs ws},LexR vs ws b→b=b'→LexR vs ws b':=fun h e=>e ▸ h
  by_cases h1:r1=s1
  · subst h1
    by_cases h2:r2=s2
    · subst h2
      by_cases h3:r3=s3
      · subst h3
        exact fin (.eq (.eq (.eq .nil))) (decide_eq_false (h rfl rfl rfl)).symm
      · exact fin (.eq (.eq (.ne h3))) (by unfold lt; simp [h3])
    · exact fin (.eq (.ne h2)) (by unfold lt; simp [h2])
  · exact fin (.ne h1) (by unfold lt; simp [h1])
end RM
namespace L2
open PySem PySem.Spec PyProof.Rows
end L2
namespace L2
open PySem PySem.Spec PyProof.Rows
end L2
namespace L2
open PySem PySem.Spec PyProof.Rows
theorem for_zip {K:PySem.W.Frag} {a b:Addr} {xs ys:List V} {n:Nat} {g:TG} {tb:TS} {D:Ends} {σ:St} {H:Hp} (Pv:Nat→St→Hp→Prop) (la:xs.length=n) (lb:ys.length=n) (h0:Pv 0 σ H) (hl:∀ i σ H,i≤n→Pv i σ H→SqL K H a xs∧SqL K H b ys)
    (hs:∀ i x y σ H p,i < n→xs[i]?=some x→ys[i]?=some y→Pv i σ H→H p=none→g (.ref p) σ (upd H p (.tup [x,y])) fun σ2 H2=>tb { D with nx:=Pv (i + 1),ct:=Pv (i + 1),bk:=D.nx } σ2 H2) (hd:∀ σ H,Pv n σ H→D.nx σ H) :
    ∃ W:Nat→Nat→St→Hp→Prop,(∃ m,W 0 m σ H)∧∀ i m σ H,W i m σ H →
      ((Itz K a b).stop i H∧D.nx σ H)∨((Itz K a b).go i H∧∃ N:St→Hp→Prop,(∀ σ' H',N σ' H'→∃ m',m' < m∧W (i + 1) m' σ' H')∧∀ x H',(Itz K a b).yld i H x H'→g x σ H' fun σ2 H2=>tb { D with nx:=N,ct:=N,bk:=D.nx } σ2 H2):=by
  refine ⟨fun i m σ H=>m=n - i∧i≤n∧Pv i σ H,⟨n,by simp,Nat.zero_le _,h0⟩,?_⟩
  rintro i m σ H ⟨rfl,hi,p⟩
  obtain ⟨q1,q2⟩:=hl i σ H hi p
  by_cases hlt:i < n
  · refine .inr ⟨⟨xs,ys,xs[i]'(by omega),ys[i]'(by omega),q1,q2,List.getElem?_eq_getElem _,List.getElem?_eq_getElem _⟩,Pv (i + 1),fun σ' H' p'=>⟨n - (i + 1),by omega,rfl,hlt,p'⟩,fun x H' y=>?_⟩
    obtain ⟨c,x1,y1,hc,rfl,rfl,hx,hy⟩:=y
    exact hs i x1 y1 σ H c hlt (hx xs q1) (hy ys q2) p hc
  · have e:i=n:=by omega
    subst e
    exact .inl ⟨⟨xs,ys,q1,q2,.inl (by omega)⟩,hd σ H p⟩
end L2
set_option maxHeartbeats 4000000
namespace TW
open PySem L2 PyProof.Rows
open RM (rowV byV byV_non byV_int)
seal L2.PE L2.PA L2.PT L2.PW L2.PS L2.PSs L2.PG L2.PGs L2.PI L2.PTs
structure RopeOk (n:Int) (a b c d e:Int):Prop where
  a0:0≤a
  a1:a < n
  b0:0≤b
  b1:b < n
  ab:a≠b
  c1:1≤c
  d1:1≤d
  d4:d≤4
  e1:1≤e
  e7:e≤7
abbrev five (a b c d e:Int):List V:=[.int a,.int b,.int c,.int d,.int e]
structure R5 where
  a:Int
  b:Int
  c:Int
  d:Int
  e:Int
abbrev R5.vs (r:R5):List V:=five r.a r.b r.c r.d r.e
abbrev R5.ns (r:R5):List Int:=[r.a,r.b,r.c,r.d,r.e]
def R5.D (r:R5):PyData:=.tuple (r.ns.map .int)
abbrev R5.Ok (n:Int) (r:R5):Prop:=RopeOk n r.a r.b r.c r.d r.e
def Ropes (K:PySem.W.Frag) (H:Hp) (l:Addr) (rs:List R5):Prop:=Rep K H (.list (rs.map R5.D)) (.ref l)
section
variable {K:PySem.W.Frag} {H H':Hp} {l:Addr} {rs:List R5}
theorem Ropes.mono (s:Same H H') (h:Ropes K H l rs):Ropes K H' l rs:=Rep.mono s h
theorem Ropes.at (h:Ropes K H l rs):∃ vs,SqL K H l vs∧vs.length=rs.length∧∀ (i:Nat) r,rs[i]?=some r→∃ p,vs[i]?=some (.ref p)∧SqT K H p r.vs:=by
  obtain ⟨a,vs,e,q,r⟩:=h
  cases e
  refine ⟨vs,q,by rw [r.length,List.length_map],fun i x hx=>?_⟩
  obtain ⟨v,h1,h2⟩:=r.get (i:=i) (d:=x.D) (by rw [List.getElem?_map,hx]; rfl)
  obtain ⟨p,e,h3⟩:=Rep.of_intsT (ns:=x.ns) h2
  subst e
  exact ⟨p,h1,h3⟩
end
theorem firstMet_nodup:∀ (ns:List Int),ns.Nodup→(firstMet (fun i=>ns.getD i 0) ns.length).length=ns.length:=by
  intro ns hn
  have e:(List.range ns.length).map (fun i=>ns.getD i 0)=ns:=by
    apply List.ext_getElem
    · simp
    · intro i h1 h2
      simp at h1
      simp [List.getD_eq_getElem?_getD,h1]
  have key:∀ (xs acc:List Int),(acc++xs).Nodup→xs.foldl step_dedup acc=acc++xs:=by
    intro xs
    induction xs with
    | nil=>intro acc _; simp
    | cons x xs ih =>
      intro acc h
      have hx:x ∉ acc:=fun hm=>by
        rw [List.nodup_append] at h
        exact h.2.2 x hm x (by simp) rfl
      have e1:step_dedup acc x=acc++[x]:=by
        unfold step_dedup
        simp [hx]
      rw [List.foldl_cons,e1,ih _ (by simpa using h)]
      simp
  unfold firstMet
  rw [e,key ns [] (by simpa using hn)]
  simp
theorem putF_new {f:Str} {v:V}:∀ {fs:List (Str × V)} {names:List Str},fs.map (·.1)=names→names.contains f=false→putF f v fs=fs++[(f,v)]
  | [],_,_,_=>rfl
  | (g,u) :: r,_,e,h=>by
    subst e
    rw [List.map_cons,List.contains_cons,Bool.or_eq_false_iff] at h
    have hn:¬ g=f:=fun z=>by
      have:=h.1
      rw [z] at this
      simp at this
    show (if g=f then (g,v) :: r else (g,u) :: putF f v r)=_
    rw [if_neg hn,putF_new rfl h.2]
    rfl
theorem sqL_but {K:PySem.W.Frag} {H H':Hp} {p C dx:Addr} {fs:List (Str × V)} {a:Addr} {xs:List V} (k:∀ b o,H b=some o→b≠p→H' b=some o) (hp:H p=some (.ins C dx fs)) (h:SqL K H a xs):SqL K H' a xs:=by
  rcases h with (h | ⟨o,h⟩) | h
  · exact .inl (.inl (k _ _ h (ne_of h hp (by intro z; cases z))))
  · exact .inl (.inr ⟨o,k _ _ h (ne_of h hp (by intro z; cases z))⟩)
  · exact .inr h
theorem sqT_but {K:PySem.W.Frag} {H H':Hp} {p C dx:Addr} {fs:List (Str × V)} {a:Addr} {xs:List V} (k:∀ b o,H b=some o→b≠p→H' b=some o) (hp:H p=some (.ins C dx fs)) (h:SqT K H a xs):SqT K H' a xs:=by
  rcases h with (h | ⟨o,h⟩) | h
  · exact .inl (.inl (k _ _ h (ne_of h hp (by intro z; cases z))))
  · exact .inl (.inr ⟨o,k _ _ h (ne_of h hp (by intro z; cases z))⟩)
  · exact .inr h
mutual
theorem rep_but {K:PySem.W.Frag} {H H':Hp} {p C dx:Addr} {fs:List (Str × V)} (k:∀ b o,H b=some o→b≠p→H' b=some o) (hp:H p=some (.ins C dx fs)):∀ {d:PyData} {v:V},Rep K H d v→Rep K H' d v
  | .none,_,h=>h
  | .bool _,_,h=>h
  | .int _,_,h=>h
  | .str _,_,h=>h
  | .list ds,_,⟨a,vs,e,q,r⟩=>⟨a,vs,e,sqL_but k hp q,repAll_but k hp r⟩
  | .tuple ds,_,⟨a,vs,e,q,r⟩=>⟨a,vs,e,sqT_but k hp q,repAll_but k hp r⟩
  | .dict _,_,h=>h
theorem repAll_but {K:PySem.W.Frag} {H H':Hp} {p C dx:Addr} {fs:List (Str × V)} (k:∀ b o,H b=some o→b≠p→H' b=some o) (hp:H p=some (.ins C dx fs)):∀ {ds:List PyData} {vs:List V},RepAll K H ds vs→RepAll K H' ds vs
  | [],_,h=>h
  | _ :: _,_,⟨v,r,e,q,t⟩=>⟨v,r,e,rep_but k hp q,repAll_but k hp t⟩
end
abbrev flds (ln lr:Addr) (n m:Nat):List (Str × V):=[("house_names",.ref ln),("rope_tuples",.ref lr),("size",.int n),("many",.int m)]
structure TownAt (K:PySem.W.Frag) (C:Addr) (H:Hp) (p ln lr:Addr) (ns:List Int) (rs:List R5):Prop where
  ob:∃ dx,H p=some (.ins C dx (flds ln lr ns.length rs.length))
  nl:H ln=some (.lst (ns.map V.int))
  rl:∃ vs,H lr=some (.lst vs)∧RepAll K H (rs.map R5.D) vs
section
variable {K:PySem.W.Frag} {C:Addr} {H H':Hp} {p ln lr:Addr} {ns:List Int} {rs:List R5}
theorem TownAt.mono (s:Same H H') (h:TownAt K C H p ln lr ns rs):TownAt K C H' p ln lr ns rs:=by
  obtain ⟨⟨dx,h1⟩,h2,vs,h3,h4⟩:=h
  exact ⟨⟨dx,s _ _ h1⟩,s _ _ h2,vs,s _ _ h3,h4.mono s⟩
end
theorem eqV_int (a x:Int):eqV (.int a) (.int x)=decide (x=a):=by
  show (a == x)=decide (x=a)
  by_cases e:x=a
  · rw [decide_eq_true e,e]; exact beq_self_eq_true a
  · rw [decide_eq_false e]; exact beq_eq_false_iff_ne.mpr (Ne.symm e)
theorem inV_ints (x:Int) (xs:List Int):inV (.int x) (xs.map V.int)=decide (x∈xs):=by
  unfold inV
  induction xs with
  | nil=>simp
  | cons y ys ih =>
    rw [List.map_cons,List.any_cons,ih,eqV_int]
    by_cases h1:x=y
    · subst h1; simp
    · by_cases h2:x∈ys
      · simp [h1,h2]
      · simp [h1,h2]
theorem flat_ints (xs:List Int):(xs.map V.int).all flatV=true:=by
  rw [List.all_eq_true]
  intro v hv
  obtain ⟨x,_,rfl⟩:=List.mem_map.mp hv
  rfl
def above (xs:List Int) (x:Int):Nat:=(xs.filter fun y=>decide (x≤y)).length
theorem above_lt {xs:List Int} {x:Int} (h:x∈xs):above xs (x + 1) < above xs x:=by
  unfold above
  induction xs with
  | nil=>cases h
  | cons y ys ih =>
    have mono:(ys.filter fun y=>decide (x + 1≤y)).length≤(ys.filter fun y=>decide (x≤y)).length:=by
      clear ih h
      induction ys with
      | nil=>simp
      | cons z zs ih2 =>
        simp only [List.filter_cons]
        by_cases h1:x + 1≤z
        · rw [if_pos (by simpa using h1),if_pos (by simp; omega)]; simp; exact ih2
        · rw [if_neg (by simpa using h1)]
          split
          · simp; omega
          · exact ih2
    simp only [List.filter_cons]
    by_cases hy:x=y
    · subst hy
      rw [if_neg (by simp; omega),if_pos (by simp)]
      simp; omega
    · have h2:x∈ys:=by
        rcases List.mem_cons.mp h with e | e
        · exact absurd e hy
        · exact e
      have:=ih h2
      by_cases h1:x + 1≤y
      · rw [if_pos (by simpa using h1),if_pos (by simp; omega)]; simp; exact this
      · rw [if_neg (by simpa using h1),if_neg (by simp; omega)]; exact this
theorem ends_ok {n x y:Int} (hn:2≤n):0≤x % n∧x % n < n∧0≤(x % n + 1 + y % (n - 1)) % n∧(x % n + 1 + y % (n - 1)) % n < n∧x % n≠(x % n + 1 + y % (n - 1)) % n:=by
  have h1:=Int.emod_nonneg x (show n≠0 by omega)
  have h2:=Int.emod_lt_of_pos x (show 0 < n by omega)
  have h3:=Int.emod_nonneg y (show n - 1≠0 by omega)
  have h4:=Int.emod_lt_of_pos y (show 0 < n - 1 by omega)
  have h5:=Int.emod_nonneg (x % n + 1 + y % (n - 1)) (show n≠0 by omega)
  have h6:=Int.emod_lt_of_pos (x % n + 1 + y % (n - 1)) (show 0 < n by omega)
  refine ⟨h1,h2,h5,h6,?_⟩
  generalize x % n=a at *
  generalize y % (n - 1)=b at *
  by_cases hlt:a + 1 + b < n
  · rw [Int.emod_eq_of_lt (by omega) hlt]; omega
  · rw [← Int.sub_emod_right,Int.emod_eq_of_lt (by omega) (by omega)]; omega
theorem ifS_by {c:TT} {t u r:TS} {D:Ends} {σ:L2.St} {H:Hp} (J:L2.St→Hp→Prop) (hn:∀ σ H,J σ H→r D σ H) (h:(∀ σ H,J σ H→r D σ H)→tIfS c t u { D with nx:=r D } σ H):tSeq (tIfS c t u) r D σ H:=h hn
theorem itt_go {K:PySem.W.Frag} {a:Addr} {xs:List V} {H1:Hp} (h:SqT K H1 a xs):∀ i H,i < xs.length→Same H1 H→(Itt K a).go i H:=fun i H hi s=>⟨xs,xs[i],s.seqT h,by simp [hi]⟩
theorem itt_stop {K:PySem.W.Frag} {a:Addr} {xs:List V} {H1:Hp} (h:SqT K H1 a xs):∀ H,Same H1 H→(Itt K a).stop xs.length H:=fun H s=>⟨xs,s.seqT h,Nat.le_refl _⟩
structure RowFit (n m:Nat) (r:RM.Row):Prop where
  hd:0≤r.hd
  co:0≤r.co
  ho:0≤r.ho∧r.ho < n
  by_:r.by_ = -1∨(0≤r.by_∧r.by_ < m)
abbrev natsV (ks:List Nat):List V:=ks.map fun k=>V.int (k:Nat)
theorem natsV_snoc (ks:List Nat) (k:Nat):natsV (ks++[k])=natsV ks++[V.int (k:Nat)]:=by
  unfold natsV
  rw [List.map_append]
  rfl
theorem sqT_lst {K:PySem.W.Frag} {H:Hp} {q a:Addr} {xs ys:List V} {o:HO} (hq:H q=some (.lst xs)) (h:SqT K H a ys):SqT K (upd H q o) a ys:=by
  rcases h with (h | ⟨ob,h⟩) | h
  · exact .inl (.inl (by rw [upd_ne (ne_of h hq (by intro z; cases z))]; exact h))
  · exact .inl (.inr ⟨ob,by rw [upd_ne (ne_of h hq (by intro z; cases z))]; exact h⟩)
  · exact .inr h
def townNet (ns:List Int) (rs:List R5) (live:List Nat) (nd:ns.Nodup) (ok:∀ r∈rs,r.Ok ns.length) (hl:∀ k∈live,k < rs.length):RM.Net where
  n:=ns.length
  nm i:=ns.getD i 0
  a k:=((rs[k]?).map fun r=>r.a.toNat).getD 0
  b k:=((rs[k]?).map fun r=>r.b.toNat).getD 0
  c k:=((rs[k]?).map fun r=>r.c).getD 0
  live:=live
  inj i j hi hj e:=by
    have e1:ns.getD i 0=ns[i]:=by simp [List.getD_eq_getElem?_getD,hi]
    have e2:ns.getD j 0=ns[j]:=by simp [List.getD_eq_getElem?_getD,hj]
    have e:ns[i]=ns[j]:=by rw [← e1,← e2]; exact e
    exact (List.getElem?_inj hi nd).mp (by rw [List.getElem?_eq_getElem hi,List.getElem?_eq_getElem hj,e])
  ab k hk:=by
    have h:=hl k hk
    have o:=ok _ (List.getElem_mem h)
    simp only [List.getElem?_eq_getElem h,Option.map_some,Option.getD_some]
    have h1:=o.a0; have h2:=o.a1; have h3:=o.b0; have h4:=o.b1; have h5:=o.ab
    exact ⟨by omega,by omega,by omega⟩
  c1 k hk:=by
    have h:=hl k hk
    have o:=ok _ (List.getElem_mem h)
    simp only [List.getElem?_eq_getElem h,Option.map_some,Option.getD_some]
    exact o.c1
def RowsAt (K:PySem.W.Frag) (H:Hp) (l:Addr) (n:Nat) (R:Nat→RM.Row):Prop:=∃ ps:List Addr,SqL K H l (ps.map V.ref)∧ps.length=n∧∀ (i:Nat) p,ps[i]?=some p→SqT K H p (rowV (R i))
theorem RowsAt.mono {K:PySem.W.Frag} {H H':Hp} {l:Addr} {n:Nat} {R:Nat→RM.Row} (s:Same H H') (h:RowsAt K H l n R):RowsAt K H' l n R:=by
  obtain ⟨ps,h1,h2,h3⟩:=h
  exact ⟨ps,s.seq h1,h2,fun i p e=>s.seqT (h3 i p e)⟩
theorem ints_lay:∀ ns:List Int,PyData.canLayAll0 (ns.map .int)=true
  | []=>rfl
  | n :: ns=>by
    show (PyData.canLay0 (.int n) && PyData.canLayAll0 (ns.map .int))=true
    rw [ints_lay ns]; rfl
theorem ropes_lay:∀ rs:List R5,PyData.canLayAll0 (rs.map R5.D)=true
  | []=>rfl
  | r :: rs=>by
    show (PyData.canLay0 r.D && PyData.canLayAll0 (rs.map R5.D))=true
    rw [ropes_lay rs]; rfl
theorem ints_deep:∀ ns:List Int,PyData.depthAll (ns.map .int)=0
  | []=>rfl
  | n :: ns=>by
    show max (PyData.depth (.int n)) (PyData.depthAll (ns.map .int))=0
    rw [ints_deep ns]; rfl
theorem ropes_deep:∀ rs:List R5,PyData.depthAll (rs.map R5.D)≤1
  | []=>by decide
  | r :: rs=>by
    show max (PyData.depth r.D) (PyData.depthAll (rs.map R5.D))≤1
    have:=ropes_deep rs
    have e:PyData.depth r.D=1:=rfl
    omega
section
variable {ns:List Int} {rs:List R5} {live:List Nat} {nd:ns.Nodup} {ok:∀ r∈rs,r.Ok ns.length} {hl:∀ k∈live,k < rs.length}
def FitAll (n m:Nat) (R:Nat→RM.Row):Prop:=∀ i,i < n→RowFit n m (R i)
theorem FitAll.sane {m:Nat} {R:Nat→RM.Row} (h:FitAll ns.length m R):RM.Sane (townNet ns rs live nd ok hl) R:=fun i hi=>(h i hi).ho
theorem due_fit {R:Nat→RM.Row} {h:Nat} {d:RM.Row} (hR:FitAll ns.length rs.length R) (hh:h < ns.length) (h0:∀ x∈ns,0≤x) (i:RM.IsDue (N:=townNet ns rs live nd ok hl) ns.length R h d):RowFit ns.length rs.length d:=by
  rcases i.one with e | ⟨k,g,a,c,e⟩
  · rw [e]
    have en:(townNet ns rs live nd ok hl).nm h=ns[h]:=by show ns.getD h 0=_; simp [List.getD_eq_getElem?_getD,hh]
    refine ⟨?_,Int.le_refl _,⟨Int.le_refl _,?_⟩,.inl rfl⟩
    · show 0≤(townNet ns rs live nd ok hl).nm h
      rw [en]
      exact h0 _ (List.getElem_mem hh)
    · show (0:Int) < ns.length
      omega
  · have f:=hR g a.lt.2.1
    have c1:=a.cost
    have hk:k < rs.length:=hl k a.1
    rw [e]
    refine ⟨f.hd,?_,⟨?_,c⟩,.inr ⟨?_,?_⟩⟩
    · show 0≤(R g).co + (townNet ns rs live nd ok hl).c k
      have:=f.co
      omega
    · show 0≤(R g).ho + 1
      have:=f.ho.1
      omega
    · show (0:Int)≤(k:Nat); omega
    · show ((k:Nat):Int) < (rs.length:Nat); omega
end
theorem RowFit.by1 {n m:Nat} {r:RM.Row} (h:RowFit n m r) : -1≤r.by_:=by have:=h.by_; omega
def isAt (rs:List R5) (h:Int) (i:Nat):Bool:=match rs[i]? with | some r=>decide (h=r.a) || decide (h=r.b) | none=>false
def atH (rs:List R5) (h:Int) (n:Nat):List Nat:=(List.range n).filter (isAt rs h)
theorem atH_succ (rs:List R5) (h:Int) (n:Nat):atH rs h (n + 1)=atH rs h n++(if isAt rs h n then [n] else []):=by
  unfold atH
  rw [List.range_succ,List.filter_append]
  congr 1
  by_cases h':isAt rs h n=true
  · rw [if_pos h']; simp [h']
  · rw [if_neg h']; simp [h']
theorem atH_len (rs:List R5) (h:Int) (n:Nat):(atH rs h n).length≤n:=by
  have:=List.length_filter_le (isAt rs h) (List.range n)
  rw [List.length_range] at this
  exact this
theorem in_two (x a b:Int):inV (V.int x) [V.int a,V.int b]=(decide (x=a) || decide (x=b)):=by
  show (eqV (.int a) (.int x) || (eqV (.int b) (.int x) || false))=_
  rw [eqV_int,eqV_int,Bool.or_false]
theorem natsV_ints (ks:List Nat):natsV ks=(ks.map fun k:Nat=>(k:Int)).map V.int:=by
  unfold natsV
  rw [List.map_map]
  rfl
theorem inV_nats (x:Nat) (xs:List Nat):inV (.int (x:Nat)) (natsV xs)=decide (x∈xs):=by
  rw [natsV_ints,inV_ints]
  by_cases h:x∈xs
  · rw [decide_eq_true h]
    exact decide_eq_true (List.mem_map.mpr ⟨x,h,rfl⟩)
  · rw [decide_eq_false h]
    refine decide_eq_false fun z=>h ?_
    obtain ⟨y,hy,e⟩:=List.mem_map.mp z
    have:y=x:=by omega
    exact this ▸ hy
theorem flat_nats (xs:List Nat):(natsV xs).all flatV=true:=by rw [natsV_ints]; exact flat_ints _
theorem atH_rise (rs:List R5) (h:Int) (n:Nat):(atH rs h n).Pairwise (· < ·):=List.Pairwise.filter _ List.pairwise_lt_range
theorem rise_at {ks:List Nat} (h:ks.Pairwise (· < ·)) {j:Nat} (hj:j < ks.length) {k:Nat} (hk:k∈ks.take j):k < ks[j]:=by
  obtain ⟨i,hi,e⟩:=List.getElem_of_mem hk
  rw [List.length_take] at hi
  rw [List.getElem_take] at e
  rw [← e]
  exact List.pairwise_iff_getElem.mp h i j (by omega) hj (by omega)
theorem mem_atH {rs:List R5} {h:Int} {n k:Nat}:k∈atH rs h n↔k < n∧isAt rs h k=true:=by
  unfold atH
  rw [List.mem_filter,List.mem_range]
section
variable {ns:List Int} {rs:List R5} {live:List Nat} {nd:ns.Nodup} {ok:∀ r∈rs,r.Ok ns.length} {hl:∀ k∈live,k < rs.length}
def farOf (r:R5) (h:Nat):Nat:=(if (h:Int)=r.a then r.b else r.a).toNat
theorem adj_far {k h g:Nat} (hk:k∈live):RM.Adj (townNet ns rs live nd ok hl) k h g↔isAt rs (h:Int) k=true∧g=farOf (rs[k]'(hl k hk)) h:=by
  have hlt:=hl k hk
  have o:=ok _ (List.getElem_mem hlt)
  have e1:rs[k]?=some rs[k]:=List.getElem?_eq_getElem hlt
  have ea:(townNet ns rs live nd ok hl).a k=rs[k].a.toNat:=by show ((rs[k]?).map fun r=>r.a.toNat).getD 0=_; rw [e1]; rfl
  have eb:(townNet ns rs live nd ok hl).b k=rs[k].b.toNat:=by show ((rs[k]?).map fun r=>r.b.toNat).getD 0=_; rw [e1]; rfl
  unfold RM.Adj isAt farOf
  rw [ea,eb,e1]
  dsimp only
  generalize rs[k]=r at o
  have h1:=o.a0; have h2:=o.b0; have h3:=o.ab
  constructor
  · rintro ⟨_,⟨q1,q2⟩ | ⟨q1,q2⟩⟩
    · have z:(h:Int)=r.a:=by omega
      rw [if_pos z]
      exact ⟨by simp [z],q2.symm⟩
    · have z:(h:Int)=r.b:=by omega
      rw [if_neg (by omega)]
      exact ⟨by simp [z],q2.symm⟩
  · rintro ⟨q1,q2⟩
    refine ⟨hk,?_⟩
    have q1:(h:Int)=r.a∨(h:Int)=r.b:=by simpa using q1
    by_cases z:(h:Int)=r.a
    · rw [if_pos z] at q2
      exact .inl ⟨by omega,q2.symm⟩
    · rw [if_neg z] at q2
      exact .inr ⟨by omega,q2.symm⟩
end
theorem cut_ints (ns:List Int) (a b:Nat):∃ cs:List Int,cutV (ns.map V.int) (some (a:Int)) (some (b:Int))=cs.map V.int∧cs.length≤b - a:=by
  refine ⟨(ns.drop (HT.sIx ns.length 0 (some (a:Int)))).take (HT.sIx ns.length ns.length (some (b:Int)) - HT.sIx ns.length 0 (some (a:Int))),?_,?_⟩
  · unfold cutV
    rw [List.length_map,List.map_take,List.map_drop]
  · rw [HT.sIx_nat,HT.sIx_nat,List.length_take,List.length_drop]
    omega
theorem snoc_at {α:Type} {xs:List α} {x y:α} {j:Nat} (h:(xs++[x])[j]?=some y):xs[j]?=some y∨(j=xs.length∧y=x):=by
  by_cases hj:j < xs.length
  · rw [List.getElem?_append_left hj] at h
    exact .inl h
  · have:=(List.getElem?_eq_some_iff.mp h).1
    rw [List.length_append] at this
    have e:j=xs.length:=by have:j < xs.length + 1:=this; omega
    subst e
    rw [List.getElem?_append_right (Nat.le_refl _),Nat.sub_self] at h
    cases h
    exact .inr ⟨rfl,rfl⟩
section
variable {ns:List Int} {rs:List R5} {live:List Nat} {nd:ns.Nodup} {ok:∀ r∈rs,r.Ok ns.length} {hl:∀ k∈live,k < rs.length}
theorem nm_at {h:Nat} (hh:h < ns.length):(townNet ns rs live nd ok hl).nm h=ns[h]:=by
  show ns.getD h 0=_
  simp [List.getD_eq_getElem?_getD,hh]
end
theorem ixN_nat {n i:Nat} (h:i < n):ixN n (i:Int)=some i:=by
  unfold ixN
  rw [if_pos (by omega),if_pos (by omega)]
  simp
section
variable {ns:List Int} {rs:List R5} {live:List Nat} {nd:ns.Nodup} {ok:∀ r∈rs,r.Ok ns.length} {hl:∀ k∈live,k < rs.length}
theorem net_c {k:Nat} (h:k < rs.length):(townNet ns rs live nd ok hl).c k=rs[k].c:=by
  show ((rs[k]?).map fun r=>r.c).getD 0=_
  rw [List.getElem?_eq_getElem h]; rfl
end
end TW
namespace TW
open PySem L2 PyProof.Rows
theorem seq_nx {a b:TS} {D:Ends} {σ:L2.St} {H:Hp} (h:∀ N:L2.St→Hp→Prop,(∀ σ' H',b D σ' H'→N σ' H')→a { D with nx:=N } σ H):tSeq a b D σ H:=h _ fun _ _ x=>x
theorem ixL_mk {K:PySem.W.Frag} {H:Hp} {Q:VK} {p:Addr} {xs:List V} {i:Int} {v:V} (h:SqL K H p xs) (e:atI xs i=some v) (k:Q v H):rIxL K (.ref p) (.int i) H Q:=⟨p,xs,i,v,rfl,rfl,h,e,k⟩
theorem ixTc_mk {K:PySem.W.Frag} {σ:L2.St} {H:Hp} {Q:VK} {p:Addr} {xs:List V} {i:Int} {v:V} (h:SqT K H p xs) (e:atI xs i=some v) (k:Q v H):tC (.int i) σ H fun y H2=>rIxT K (.ref p) y H2 Q:=⟨p,xs,i,v,rfl,rfl,h,e,k⟩
theorem for_listN {K:PySem.W.Frag} {a:Addr} {xs:List V} {g:TG} {tb:TS} {D:Ends} {σ:L2.St} {H:Hp} (Pv:Nat→L2.St→Hp→Prop) (h0:Pv 0 σ H) (hl:∀ i σ H,i≤xs.length→Pv i σ H→SqL K H a xs)
    (hs:∀ i x σ H (N:L2.St→Hp→Prop),(∀ σ' H',Pv (i + 1) σ' H'→N σ' H')→xs[i]?=some x→Pv i σ H→g x σ H fun σ2 H2=>tb { D with nx:=N,ct:=N,bk:=D.nx } σ2 H2) (hd:∀ σ H,Pv xs.length σ H→D.nx σ H) :
    ∃ W:Nat→Nat→L2.St→Hp→Prop,(∃ m,W 0 m σ H)∧∀ i m σ H,W i m σ H →
      ((Itl K a).stop i H∧D.nx σ H)∨((Itl K a).go i H∧∃ N:L2.St→Hp→Prop,(∀ σ' H',N σ' H'→∃ m',m' < m∧W (i + 1) m' σ' H')∧∀ x H',(Itl K a).yld i H x H'→g x σ H' fun σ2 H2=>tb { D with nx:=N,ct:=N,bk:=D.nx } σ2 H2) :=
  for_list Pv h0 hl (fun i x σ H hi p=>hs i x σ H _ (fun _ _ x=>x) hi p) hd
end TW
set_option maxHeartbeats 4000000
namespace TW
open PySem L2 PyProof.Rows
open RM (rowV byV byV_non byV_int)
seal L2.PE L2.PA L2.PT L2.PW L2.PS L2.PSs L2.PG L2.PGs L2.PI L2.PTs
section
open Classical
noncomputable def hangOf (N:RM.Net) (R:Nat→RM.Row) (h:Nat):Option (Nat × Nat) :=
  if e:∃ p:Nat × Nat,RM.Hang N R p.1 h p.2 then some (choose e) else none
end
theorem hangOf_some {N:RM.Net} {R:Nat→RM.Row} {h k g:Nat}:hangOf N R h=some (k,g)↔RM.Hang N R k h g:=by
  unfold hangOf
  constructor
  · intro e
    split at e
    · rename_i q
      have:=Classical.choose_spec q
      rw [Option.some.inj e] at this
      exact this
    · cases e
  · intro t
    have q:∃ p:Nat × Nat,RM.Hang N R p.1 h p.2:=⟨(k,g),t⟩
    rw [dif_pos q]
    have u:=Classical.choose_spec q
    obtain ⟨e1,e2⟩:=u.uniq t
    exact congrArg some (Prod.ext e1 e2)
theorem hangOf_none {N:RM.Net} {R:Nat→RM.Row} {h:Nat} (q:∀ k g,¬ RM.Hang N R k h g):hangOf N R h=none:=by
  cases e:hangOf N R h with
  | none=>rfl
  | some p=>exact absurd (hangOf_some.mp e) (q p.1 p.2)
def ItemAt (K:PySem.W.Frag) (H:Hp) (v:V):Option (Nat × Nat)→Prop
  | none=>v = .non
  | some p=>∃ t,v = .ref t∧SqT K H t [.int (p.1:Nat),.int (p.2:Nat)]
theorem ItemAt.mono {K:PySem.W.Frag} {H H':Hp} {v:V} {o:Option (Nat × Nat)} (s:Same H H') (h:ItemAt K H v o):ItemAt K H' v o:=by
  cases o with
  | none=>exact h
  | some p =>
    obtain ⟨t,e,q⟩:=h
    exact ⟨t,e,s.seqT q⟩
theorem ItemAt.lst {K:PySem.W.Frag} {H:Hp} {v:V} {o:Option (Nat × Nat)} {l:Addr} {xs:List V} {ob:HO} (hl:H l=some (.lst xs)) (h:ItemAt K H v o):ItemAt K (upd H l ob) v o:=by
  cases o with
  | none=>exact h
  | some p =>
    obtain ⟨t,e,q⟩:=h
    exact ⟨t,e,sqT_lst hl q⟩
def OwnUps (K:PySem.W.Frag) (H:Hp) (l:Addr) (n:Nat) (u:Nat→Option (Nat × Nat)):Prop:=∃ vs:List V,H l=some (.lst vs)∧vs.length=n∧∀ (i:Nat) v,vs[i]?=some v→ItemAt K H v (u i)
section
variable {ns:List Int} {rs:List R5} {live:List Nat} {nd:ns.Nodup} {ok:∀ r∈rs,r.Ok ns.length} {hl:∀ k∈live,k < rs.length}
theorem hang_far {R:Nat→RM.Row} {k h:Nat} (hk:k∈live):(∃ g,RM.Hang (townNet ns rs live nd ok hl) R k h g)↔isAt rs (h:Int) k=true∧(R (farOf (rs[k]'(hl k hk)) h)).ho + 1 < ns.length∧R h=RM.over (townNet ns rs live nd ok hl) k (R (farOf (rs[k]'(hl k hk)) h)):=by
  constructor
  · rintro ⟨g,t⟩
    obtain ⟨q1,q2⟩:=(adj_far hk).mp t.adj
    subst q2
    exact ⟨q1,t.cut,t.eq⟩
  · rintro ⟨q1,q2,q3⟩
    exact ⟨_,(adj_far hk).mpr ⟨q1,rfl⟩,q2,q3⟩
theorem hang_g {R:Nat→RM.Row} {k h g:Nat} (t:RM.Hang (townNet ns rs live nd ok hl) R k h g):g=farOf (rs[k]'(hl k t.adj.1)) h:=((adj_far t.adj.1).mp t.adj).2
theorem far_lt {k h:Nat} (hk:k < rs.length) (ok:∀ r∈rs,r.Ok ns.length):farOf rs[k] h < ns.length:=by
  have o:=ok _ (List.getElem_mem hk)
  have h1:=o.a0; have h2:=o.a1; have h3:=o.b0; have h4:=o.b1
  unfold farOf
  split <;> omega
theorem far_int {k h:Nat} (hk:k < rs.length) (ok:∀ r∈rs,r.Ok ns.length):(if (h:Int)=rs[k].a then rs[k].b else rs[k].a)=((farOf rs[k] h:Nat):Int):=by
  have o:=ok _ (List.getElem_mem hk)
  have h1:=o.a0; have h2:=o.b0
  unfold farOf
  split <;> omega
theorem far_sum {k h:Nat} (hk:k < rs.length) (ok:∀ r∈rs,r.Ok ns.length) (q:isAt rs (h:Int) k=true):rs[k].a + rs[k].b - (h:Int)=((farOf rs[k] h:Nat):Int):=by
  have o:=ok _ (List.getElem_mem hk)
  have h1:=o.a0; have h2:=o.b0
  unfold isAt at q
  rw [List.getElem?_eq_getElem hk] at q
  have q:(h:Int)=rs[k].a∨(h:Int)=rs[k].b:=by simpa using q
  unfold farOf
  split <;> omega
end
theorem at3r {x y z i:Int} (lo hi:Int) (hx:lo≤x∧x≤hi) (hy:lo≤y∧y≤hi) (hz:lo≤z∧z≤hi) (h0:0≤i) (h3:i < 3):∃ w,(lo≤w∧w≤hi)∧atI [V.int x,V.int y,V.int z] i=some (.int w):=by
  have:i=0∨i=1∨i=2:=by omega
  rcases this with rfl | rfl | rfl
  · exact ⟨x,hx,rfl⟩
  · exact ⟨y,hy,rfl⟩
  · exact ⟨z,hz,rfl⟩
theorem inV_non (xs:List Nat):inV .non (natsV xs)=false:=by
  unfold inV
  rw [Bool.eq_false_iff]
  intro h
  obtain ⟨x,hx,e⟩:=List.any_eq_true.mp h
  obtain ⟨y,_,rfl⟩:=List.mem_map.mp hx
  cases e
end TW
namespace L2
open PySem PySem.Spec PyProof.Rows
theorem vals_of_ints {us:List Value} {ns:List Int} (h:IntsAre us ns):Vals (ns.map V.int) us:=by
  induction h with
  | nil=>exact .nil
  | cons n t _ ih=>exact .cons ⟨t,rfl⟩ ih
section
variable {X:Cx}
def rSorted (K:PySem.W.Frag):List V→Hp→VK→Prop:=fun xs H Q=>∃ (a:Addr) (ns:List Int),xs = [.ref a]∧SqL K H a (ns.map V.int)∧ns.length < 64∧∀ l (ns':List Int),H l=none→ns'.Perm ns→ns'.Pairwise (·≤·)→Q (.ref l) (upd H l (.lst (ns'.map V.int)))
theorem call_sorted:CallR X (.builtin "sorted") (rSorted X.K):=by
  intro pins s σ H xs us Q I r ⟨a,ns,e,hq,h64,q⟩
  subst e
  obtain ⟨u,e,ru⟩:=Vals.one r
  subst e
  cases ru
  obtain ⟨its,rv,p,hz⟩:=I.list hq
  have hi:IntsAre its ns:=intsAre_of rv
  have hlen:=IntsAre.length hi
  refine sorted_ints (vs:=its) p.isList hi (by omega) fun out ns' a1 a2 a3=>?_
  obtain ⟨e,he⟩:=sortedAll_at s.heap its out
  refine ⟨.ref (s.heap.objs.size + 1),_,I.laid (a:=s.heap.objs.size + 1) (o:=.lst (ns'.map V.int)) (t':=s.toks) (fun b o e=>sortedAll_old e) (Nat.le_succ _) ⟨?_,out.toList,e,vals_of_ints a1,?_⟩,rfl,q _ ns' (I.hok.fresh (Nat.le_succ _)) a2 a3⟩
  · rw [List.length_map,a2.length_eq]
    exact Nat.le_of_lt (small1000 (by omega))
  · rw [he]
end
end L2
set_option maxHeartbeats 4000000
namespace TW
open PySem L2 PyProof.Rows
open RM (rowV byV byV_non byV_int)
seal L2.PE L2.PA L2.PT L2.PW L2.PS L2.PSs L2.PG L2.PGs L2.PI L2.PTs
theorem rise_uniq:∀ {xs ys:List Nat},xs.Pairwise (· < ·)→ys.Pairwise (· < ·)→(∀ k,k∈xs↔k∈ys)→xs=ys
  | [],[],_,_,_=>rfl
  | [],y :: ys,_,_,h=>absurd ((h y).mpr List.mem_cons_self) (by simp)
  | x :: xs,[],_,_,h=>absurd ((h x).mp List.mem_cons_self) (by simp)
  | x :: xs,y :: ys,hx,hy,h=>by
    have hx1:=List.pairwise_cons.mp hx
    have hy1:=List.pairwise_cons.mp hy
    have e:x=y:=by
      rcases List.mem_cons.mp ((h x).mp List.mem_cons_self) with z | z
      · exact z
      · rcases List.mem_cons.mp ((h y).mpr List.mem_cons_self) with w | w
        · exact w.symm
        · have:=hy1.1 x z
          have:=hx1.1 y w
          omega
    subst e
    rw [rise_uniq hx1.2 hy1.2 fun k=>?_]
    constructor
    · intro z
      rcases List.mem_cons.mp ((h k).mp (List.mem_cons_of_mem _ z)) with w | w
      · have:=hx1.1 k z; omega
      · exact w
    · intro z
      rcases List.mem_cons.mp ((h k).mpr (List.mem_cons_of_mem _ z)) with w | w
      · have:=hy1.1 k z; omega
      · exact w
theorem Hang.lt {N:RM.Net} {R:Nat→RM.Row} {k h g:Nat} (t:RM.Hang N R k h g):h < N.n∧g < N.n:=⟨t.adj.lt.1,t.adj.lt.2.1⟩
def Opens (N:RM.Net) (R:Nat→RM.Row) (os:List Nat):Prop:=os.Pairwise (· < ·)∧∀ k,k∈os↔∃ h g,RM.Hang N R k h g
theorem Opens.uniq {N:RM.Net} {R:Nat→RM.Row} {xs ys:List Nat} (a:Opens N R xs) (b:Opens N R ys):xs=ys:=rise_uniq a.1 b.1 fun k=>(a.2 k).trans (b.2 k).symm
theorem sorted_nats {ks:List Nat} {ms:List Int} (p:ms.Perm (ks.map fun k:Nat=>(k:Int))) (pw:ms.Pairwise (·≤·)) (nd:ks.Nodup):∃ os:List Nat,ms.map V.int=natsV os∧os.Pairwise (· < ·)∧(∀ k,k∈os↔k∈ks)∧os.length=ks.length:=by
  have nn:∀ m∈ms,∃ k:Nat,m=(k:Int)∧k∈ks:=fun m hm=>by
    obtain ⟨k,hk,e⟩:=List.mem_map.mp (p.mem_iff.mp hm)
    exact ⟨k,e.symm,hk⟩
  have e1:(ms.map Int.toNat).map (fun k:Nat=>(k:Int))=ms:=by
    rw [List.map_map]
    conv=>rhs; rw [← List.map_id ms]
    apply List.map_congr_left
    intro m hm
    obtain ⟨k,e,_⟩:=nn m hm
    rw [e]
    rfl
  have ndm:ms.Nodup:=by
    refine p.nodup_iff.mpr ?_
    unfold List.Nodup
    rw [List.pairwise_map]
    exact nd.imp fun h e=>h (by omega)
  refine ⟨ms.map Int.toNat,?_,?_,fun k=>?_,by rw [List.length_map,p.length_eq,List.length_map]⟩
  · rw [natsV_ints,e1]
  · rw [List.pairwise_map]
    have both:=List.pairwise_and_iff.mpr ⟨pw,ndm⟩
    refine List.Pairwise.imp_of_mem (fun {a b} ha hb h=>?_) both
    obtain ⟨x,ex,_⟩:=nn a ha
    obtain ⟨y,ey,_⟩:=nn b hb
    have h1:=h.1
    have h2:=h.2
    omega
  · constructor
    · intro hk
      obtain ⟨m,hm,e⟩:=List.mem_map.mp hk
      obtain ⟨y,ey,hy⟩:=nn m hm
      rw [ey] at e
      have:y=k:=by rw [← e]; rfl
      exact this ▸ hy
    · intro hk
      have:((k:Nat):Int)∈ms:=p.mem_iff.mpr (List.mem_map.mpr ⟨k,hk,rfl⟩)
      exact List.mem_map.mpr ⟨_,this,rfl⟩
end TW
set_option maxHeartbeats 4000000
namespace TW
open PySem L2 PyProof.Rows Gr
open RM (rowV byV byV_non byV_int)
end TW
namespace L2
open PySem PySem.Calls PySem.Spec PyProof.Rows PyProof.V PySem.W
end L2
namespace L2
open PySem PySem.Calls PySem.Spec PyProof.Rows PyProof.V PySem.W
end L2
set_option maxHeartbeats 4000000
namespace Gr
end Gr
namespace TW
open PySem L2 PyProof.Rows Gr
end TW
namespace L2
open PySem PySem.Calls PySem.Spec PyProof.Rows PyProof.V PySem.W
end L2
namespace TW
open PySem L2 PyProof.Rows Gr
end TW
namespace TW
open PySem L2 PyProof.Rows
def stand (b:List Bool):List Nat:=(List.range b.length).filter fun k=>b.getD k false
theorem mem_stand {b:List Bool} {k:Nat}:k∈stand b↔b[k]?=some true:=by
  unfold stand
  rw [List.mem_filter,List.mem_range,List.getD_eq_getElem?_getD]
  constructor
  · rintro ⟨h1,h2⟩
    rw [List.getElem?_eq_getElem h1] at h2 ⊢
    simpa using h2
  · intro h
    have h1:=(List.getElem?_eq_some_iff.mp h).1
    exact ⟨h1,by rw [h]; rfl⟩
theorem stand_rise (b:List Bool):(stand b).Pairwise (· < ·):=List.Pairwise.filter _ List.pairwise_lt_range
theorem rise_ext:∀ {xs ys:List Nat},xs.Pairwise (· < ·)→ys.Pairwise (· < ·)→(∀ k,k∈xs↔k∈ys)→xs=ys
  | [],[],_,_,_=>rfl
  | [],y :: ys,_,_,h=>absurd ((h y).mpr (by simp)) (by simp)
  | x :: xs,[],_,_,h=>absurd ((h x).mp (by simp)) (by simp)
  | x :: xs,y :: ys,hx,hy,h=>by
    rw [List.pairwise_cons] at hx hy
    have e:x=y:=by
      have h1:=(h x).mp (by simp)
      have h2:=(h y).mpr (by simp)
      rw [List.mem_cons] at h1 h2
      rcases h1 with h1 | h1
      · exact h1
      · rcases h2 with h2 | h2
        · exact h2.symm
        · have:=hx.1 _ h2
          have:=hy.1 _ h1
          omega
    subst e
    rw [rise_ext hx.2 hy.2 fun k=>?_]
    constructor
    · intro hk
      rcases List.mem_cons.mp ((h k).mp (List.mem_cons_of_mem _ hk)) with rfl | z
      · exact absurd (hx.1 _ hk) (Nat.lt_irrefl _)
      · exact z
    · intro hk
      rcases List.mem_cons.mp ((h k).mpr (List.mem_cons_of_mem _ hk)) with rfl | z
      · exact absurd (hy.1 _ hk) (Nat.lt_irrefl _)
      · exact z
theorem stand_full (n:Nat):stand (List.replicate n true)=List.range n:=by
  refine rise_ext (stand_rise _) List.pairwise_lt_range fun j=>?_
  rw [mem_stand,List.getElem?_replicate,List.mem_range]
  by_cases h:j < n
  · simp [h]
  · simp [h]
theorem stand_nil {b:List Bool}:stand b = []↔∀ x∈b,x=false:=by
  constructor
  · intro h x hx
    obtain ⟨k,hk⟩:=List.getElem?_of_mem hx
    cases x with
    | false=>rfl
    | true =>
      have:=mem_stand.mpr hk
      rw [h] at this
      cases this
  · intro h
    cases e:stand b with
    | nil=>rfl
    | cons k r =>
      have:k∈stand b:=by rw [e]; simp
      have:=h _ (List.mem_of_getElem? (mem_stand.mp this))
      cases this
theorem rep_bl (k:Nat):(List.replicate k [V.bl true]).flatten=(List.replicate k true).map V.bl:=by
  induction k with
  | zero=>rfl
  | succ k ih=>rw [List.replicate_succ,List.flatten_cons,ih,List.replicate_succ]; rfl
theorem ws_full (rs:List R5):(rs.map fun r=>List.range r.d.toNat)=(rs.map fun r=>List.replicate r.d.toNat true).map stand:=by
  rw [List.map_map]
  refine List.map_congr_left fun r _=>?_
  exact (stand_full _).symm
structure StrAt (C:Addr) (H:Hp) (p tp lu:Addr) (ws:List (List Nat)):Prop where
  ob:∃ dx,H p=some (.ins C dx [("town",.ref tp),("upright",.ref lu)])
  up:∃ ls:List Addr,H lu=some (.lst (ls.map V.ref))∧ls.length=ws.length∧∀ (i:Nat) l w,ls[i]?=some l→ws[i]?=some w→H l=some (.lst (natsV w))
section
variable {C:Addr} {H H':Hp} {p tp lu:Addr} {ws:List (List Nat)}
theorem StrAt.mono (s:Same H H') (h:StrAt C H p tp lu ws):StrAt C H' p tp lu ws:=by
  obtain ⟨⟨dx,h1⟩,ls,h2,h3,h4⟩:=h
  exact ⟨⟨dx,s _ _ h1⟩,ls,s _ _ h2,h3,fun i l w a b=>s _ _ (h4 i l w a b)⟩
theorem nats_refs {w:List Nat} {ls:List Addr} {i:Nat} {l:Addr} (e:ls[i]?=some l):natsV w≠ls.map V.ref:=by
  intro z
  have h1:(natsV w)[i]?=some (V.ref l):=by rw [z,List.getElem?_map,e]; rfl
  rw [List.getElem?_map] at h1
  cases h2:w[i]? with
  | none=>rw [h2] at h1; cases h1
  | some k=>rw [h2] at h1; cases h1
theorem StrAt.ne (h:StrAt C H p tp lu ws):p≠lu:=by
  obtain ⟨⟨dx,h1⟩,ls,h2,_⟩:=h
  exact ne_of h1 h2 (by intro z; cases z)
theorem StrAt.put {i:Nat} {q:Addr} {w:List Nat} {ls:List Addr} (h:StrAt C H p tp lu ws) (e:H lu=some (.lst (ls.map V.ref))) (hq:H q=some (.lst (natsV w))) (hi:i < ws.length) (k:∀ b u,H b=some u→b≠lu→H' b=some u) (hu:H' lu=some (.lst ((ls.map V.ref).set i (.ref q)))):StrAt C H' p tp lu (ws.set i w):=by
  have hne:=h.ne
  obtain ⟨⟨dx,h1⟩,ls',h2,h3,h4⟩:=h
  rw [e] at h2
  have z:=HO.lst.inj (Option.some.inj h2)
  have z:ls=ls':=by
    have:=congrArg (List.map fun v=>match v with | V.ref a=>a | _=>0) z
    rw [List.map_map,List.map_map] at this
    have ff:((fun v=>match v with | V.ref a=>a | _=>0) ∘ V.ref)=(id:Addr→Addr):=rfl
    rw [ff,List.map_id,List.map_id] at this
    exact this
  subst z
  have hl:i < ls.length:=by omega
  have nq:q≠lu:=by
    refine ne_of hq e fun z=>?_
    exact nats_refs (List.getElem?_eq_getElem hl) (HO.lst.inj z)
  refine ⟨⟨dx,k _ _ h1 hne⟩,ls.set i q,by rw [hu,List.map_set],by rw [List.length_set,List.length_set,h3],fun j l w' a b=>?_⟩
  rw [List.getElem?_set] at a b
  by_cases ej:i=j
  · subst ej
    rw [if_pos rfl,if_pos hl] at a
    rw [if_pos rfl,if_pos hi] at b
    cases a
    cases b
    exact k _ _ hq nq
  · rw [if_neg ej] at a b
    have hj:=h4 j l w' a b
    exact k _ _ hj (ne_of hj e fun z=>nats_refs a (HO.lst.inj z))
structure Sts (H:Hp) (ls:Addr) (lis:List Addr) (bs:List (List Bool)):Prop where
  at_:H ls=some (.lst (lis.map V.ref))
  len:lis.length=bs.length
  nd:lis.Nodup
  it:∀ (i:Nat) l b,lis[i]?=some l→bs[i]?=some b→H l=some (.lst (b.map V.bl))
theorem Sts.mono {ls:Addr} {lis:List Addr} {bs:List (List Bool)} (s:Same H H') (h:Sts H ls lis bs):Sts H' ls lis bs:=⟨s _ _ h.at_,h.len,h.nd,fun i l b x y=>s _ _ (h.it i l b x y)⟩
theorem TownAt.but {K:PySem.W.Frag} {C C' dx:Addr} {fs:List (Str × V)} {tp ln lr:Addr} {ns:List Int} {rs:List R5} (h:TownAt K C H tp ln lr ns rs) (k:∀ b o,H b=some o→b≠p→H' b=some o) (hp:H p=some (.ins C' dx fs)) (ne:tp≠p):TownAt K C H' tp ln lr ns rs:=by
  obtain ⟨⟨d,h1⟩,h2,vs,h3,h4⟩:=h
  exact ⟨⟨d,k _ _ h1 ne⟩,k _ _ h2 (ne_of h2 hp (by intro z; cases z)),vs,k _ _ h3 (ne_of h3 hp (by intro z; cases z)),repAll_but k hp h4⟩
end
end TW
namespace L2
open PySem PySem.Spec PyProof.Rows
section
variable {X:Cx}
theorem pt_truthK (K:PySem.W.Frag) (hK:X.K=K) {a:Expr} {ta:TE} (ha:PE X a ta) (he:∀ whole,isTrue a X.env whole=(do let v ← whole; standAt a.pos; holding [v] (truthy v))):PT X a (tTruth K ta):=by
  subst hK
  exact pt_truthN ha he
end
end L2
namespace TW
open PySem L2 PyProof.Rows
def letsB (e:Int) (g:Nat):Bool:=decide (e / 2 ^ g % 2=1)
theorem lets_bit {e z:Int} {g:Nat} (h1:1≤e) (h7:e≤7) (hz:([1,2,4]:List Int)[g]?=some z):(!decide (Builtin.bitAnd e z=0))=letsB e g:=by
  have hg:g=0∨g=1∨g=2:=by
    have:=(List.getElem?_eq_some_iff.mp hz).1
    simp at this
    omega
  have he:e=1∨e=2∨e=3∨e=4∨e=5∨e=6∨e=7:=by omega
  rcases hg with rfl | rfl | rfl <;> cases hz <;> rcases he with rfl | rfl | rfl | rfl | rfl | rfl | rfl <;> decide +kernel
theorem bit3 {g:Nat} (h:g < 3):∃ z,([1,2,4]:List Int)[g]?=some z:=⟨_,List.getElem?_eq_getElem (by simpa using h)⟩
def isLive (rs:List R5) (ws:List (List Nat)) (g i:Nat):Bool:=match rs[i]?,ws[i]? with | some r,some w=>(!w.isEmpty) && letsB r.e g | _,_=>false
def liveTo (rs:List R5) (ws:List (List Nat)) (g n:Nat):List Nat:=(List.range n).filter (isLive rs ws g)
theorem liveTo_succ (rs:List R5) (ws:List (List Nat)) (g n:Nat):liveTo rs ws g (n + 1)=liveTo rs ws g n++(if isLive rs ws g n=true then [n] else []):=by
  unfold liveTo
  rw [List.range_succ,List.filter_append]
  congr 1
  by_cases h:isLive rs ws g n=true
  · rw [if_pos h,List.filter_cons,if_pos h]; rfl
  · rw [if_neg h,List.filter_cons,if_neg h]; rfl
theorem liveTo_len (rs:List R5) (ws:List (List Nat)) (g n:Nat):(liveTo rs ws g n).length≤n:=by
  have:=List.length_filter_le (isLive rs ws g) (List.range n)
  rw [List.length_range] at this
  exact this
theorem any_stand (b:List Bool):b.any id = !(stand b).isEmpty:=by
  cases e:stand b with
  | nil =>
    have:=stand_nil.mp e
    have:b.any id=false:=by
      rw [Bool.eq_false_iff]
      intro z
      obtain ⟨x,hx,hx'⟩:=List.any_eq_true.mp z
      rw [this x hx] at hx'
      cases hx'
    rw [this]
    rfl
  | cons k r =>
    have hk:k∈stand b:=by rw [e]; simp
    have:=mem_stand.mp hk
    have:b.any id=true:=List.any_eq_true.mpr ⟨true,List.mem_of_getElem? this,rfl⟩
    rw [this]
    rfl
end TW
namespace TW
open PySem L2 PyProof.Rows
end TW
namespace L2
open PySem PySem.Spec PyProof.Rows
end L2
namespace TW
open PySem L2 PyProof.Rows
theorem iteFe {b:Bool} {A B:Prop} (e:b=false) (h:B):if b=true then A else B:=by subst e; exact iteF h
end TW
namespace L2
open PySem PySem.W PyProof.Rows
section
variable {n:Nat} {r:Nat→Int} {cmp:Nat→Nat→(Bool→Shared→Prop)→Shared→Prop} {s:Shared}
def Pm (n:Nat) (p:Array Nat):Prop:=p.Perm (List.toArray (List.range n))
theorem Pm.size {p:Array Nat} (h:Pm n p):p.size=n:=by
  have:=h.size_eq
  simpa using this
theorem Pm.lt {p:Array Nat} (h:Pm n p) {k:Nat} (hk:k < n):p.getD k 0 < n:=by
  have hs:=h.size
  have e:p.getD k 0=p[k]'(by omega):=by simp [Array.getD,hs,hk]
  rw [e]
  have:p[k]'(by omega)∈p:=Array.getElem_mem _
  have:=(h.mem_iff).mp this
  simpa using this
def kv (r:Nat→Int) (p:Array Nat) (k:Nat):Int:=r (p.getD k 0)
def UpTo (r:Nat→Int) (p:Array Nat) (m:Nat):Prop:=∀ i j,i < j→j < m→kv r p i≤kv r p j
def DnTo (r:Nat→Int) (p:Array Nat) (m:Nat):Prop:=∀ i j,i < j→j < m→kv r p j≤kv r p i
def EqIn (r:Nat→Int) (p:Array Nat) (a b:Nat):Prop:=∀ i j,a≤i→i < b→a≤j→j < b→kv r p i=kv r p j
theorem UpTo.next {p:Array Nat} {m:Nat} (h:UpTo r p m) (h1:1≤m) (hm:kv r p (m - 1)≤kv r p m):UpTo r p (m + 1):=fun i j hij hj=>by
  by_cases e:j=m
  · subst e
    by_cases e2:i=j - 1
    · rw [e2]; exact hm
    · exact Int.le_trans (h i (j - 1) (by omega) (by omega)) hm
  · exact h i j hij (by omega)
theorem DnTo.next {p:Array Nat} {m:Nat} (h:DnTo r p m) (h1:1≤m) (hm:kv r p m≤kv r p (m - 1)):DnTo r p (m + 1):=fun i j hij hj=>by
  by_cases e:j=m
  · subst e
    by_cases e2:i=j - 1
    · rw [e2]; exact hm
    · exact Int.le_trans hm (h i (j - 1) (by omega) (by omega))
  · exact h i j hij (by omega)
theorem eq_one {p:Array Nat} {m:Nat}:EqIn r p (m + 1 - (0 + 1)) (m + 1):=fun i j a b c d=>by
  have:i=j:=by omega
  rw [this]
theorem up_one {p:Array Nat}:UpTo r p 1:=fun i j a b=>by omega
theorem kv_rev {p:Array Nat} {a b k:Nat} (hb:b≤p.size) (hab:a≤b):kv r (kas_rev p a b) k=if a≤k∧k < b then kv r p (a + b - 1 - k) else kv r p k:=by
  unfold kv
  have e:(kas_rev p a b)[k]?=if a≤k∧k < b then p[a + b - 1 - k]? else p[k]?:=by
    unfold kas_rev
    rw [getElem?_mirror hb ((b - a) / 2) (by omega) k]
    by_cases h:a≤k∧k < b
    · rw [if_pos h]
      by_cases h2:a≤k∧k < a + (b - a) / 2∨b - (b - a) / 2≤k∧k < b
      · rw [if_pos h2]
      · rw [if_neg h2]
        congr 1
        omega
    · rw [if_neg h,if_neg (by omega)]
  have g:∀ (q:Array Nat) (i:Nat),q.getD i 0=(q[i]?).getD 0:=fun q i=>by simp [Array.getD_eq_getD_getElem?]
  rw [g,e]
  by_cases h:a≤k∧k < b
  · rw [if_pos h,if_pos h,g]
  · rw [if_neg h,if_neg h,g]
theorem Pm.rev {p:Array Nat} (h:Pm n p) (a b:Nat):Pm n (kas_rev p a b):=(mirror_perm _ _ _ _).trans h
theorem up_of_rev {p:Array Nat} {m:Nat} (hm:m≤p.size) (h:DnTo r p m):UpTo r (kas_rev p 0 m) m:=fun i j hij hj=>by
  rw [kv_rev hm (Nat.zero_le _),kv_rev hm (Nat.zero_le _),if_pos ⟨Nat.zero_le _,by omega⟩,if_pos ⟨Nat.zero_le _,hj⟩]
  exact h _ _ (by omega) (by omega)
theorem dn_rev_eq {p:Array Nat} {a m:Nat} (hm:m≤p.size) (ham:a≤m) (h:DnTo r p m) (he:EqIn r p a m):DnTo r (kas_rev p a m) m∧∀ k,m≤k→kv r (kas_rev p a m) k=kv r p k:=by
  have same:∀ k,kv r (kas_rev p a m) k=kv r p k:=fun k=>by
    rw [kv_rev hm ham]
    by_cases h:a≤k∧k < m
    · rw [if_pos h]
      exact he _ _ (by omega) (by omega) h.1 h.2
    · rw [if_neg h]
  exact ⟨fun i j hij hj=>by rw [same,same]; exact h i j hij hj,fun k _=>same k⟩
variable (hc:∀ i j C,i < n→j < n→C (decide (r i < r j)) s→cmp i j C s)
include hc
theorem asc_ok {p:Array Nat} (hp:Pm n p):∀ (f m:Nat) {Q:Nat→Shared→Prop},1≤m→m + f=n→UpTo r p m →
    (∀ m',m≤m'→m'≤n→UpTo r p m'→(m' < n→kv r p m' < kv r p (m' - 1))→Q m' s)→(kas_asc p f m).kasWp cmp Q s
  | 0,m,Q,h1,hf,hu,k=>k m (Nat.le_refl _) (by omega) hu (fun z=>by omega)
  | f + 1,m,Q,h1,hf,hu,k=>by
    refine hc _ _ _ (hp.lt (by omega)) (hp.lt (by omega)) ?_
    by_cases hd:kv r p m < kv r p (m - 1)
    · rw [show decide (r (p.getD m 0) < r (p.getD (m - 1) 0))=true from decide_eq_true hd]
      exact k m (Nat.le_refl _) (by omega) hu fun _=>hd
    · rw [show decide (r (p.getD m 0) < r (p.getD (m - 1) 0))=false from decide_eq_false hd]
      exact asc_ok hp f (m + 1) (by omega) (by omega) (hu.next h1 (by omega)) fun m' a b c d=>k m' (by omega) b c d
theorem desc_ok:∀ (f:Nat) (p:Array Nat) (m q:Nat) {Q:Array Nat × Nat × Nat→Shared→Prop},Pm n p→1≤m→m + f=n→q + 1≤m→DnTo r p m→EqIn r p (m - (q + 1)) m →
    (∀ p' m' q',Pm n p'→1≤m'→m'≤n→q' + 1≤m'→DnTo r p' m'→EqIn r p' (m' - (q' + 1)) m'→Q (p',m',q') s)→(kas_desc f p m q).kasWp cmp Q s
  | 0,p,m,q,Q,hp,h1,hf,hq,hd,he,k=>k p m q hp h1 (by omega) hq hd he
  | f + 1,p,m,q,Q,hp,h1,hf,hq,hd,he,k=>by
    have hz:=hp.size
    refine hc _ _ _ (hp.lt (by omega)) (hp.lt (by omega)) ?_
    by_cases c1:kv r p m < kv r p (m - 1)
    · rw [show decide (r (p.getD m 0) < r (p.getD (m - 1) 0))=true from decide_eq_true c1]
      show ((if true=true then (if q > 0 then kas_desc f (kas_rev p (m - (q + 1)) m) (m + 1) 0 else kas_desc f p (m + 1) 0) else _):KasT _).kasWp cmp Q s
      rw [if_pos rfl]
      have last:∀ {p':Array Nat},EqIn r p' (m + 1 - (0 + 1)) (m + 1):=fun i j a b c d=>by
        have:i=j:=by omega
        rw [this]
      by_cases hq0:q > 0
      · rw [if_pos hq0]
        obtain ⟨d1,d2⟩:=dn_rev_eq (by omega) (Nat.sub_le _ _) hd he
        refine desc_ok f _ (m + 1) 0 (hp.rev _ _) (by omega) (by omega) (by omega) (d1.next h1 ?_) last k
        rw [d2 m (Nat.le_refl _)]
        have:kv r (kas_rev p (m - (q + 1)) m) (m - 1)=kv r p (m - 1):=by
          rw [kv_rev (by omega) (Nat.sub_le _ _)]
          split
          · exact he _ _ (by omega) (by omega) (by omega) (by omega)
          · rfl
        omega
      · rw [if_neg hq0]
        exact desc_ok f p (m + 1) 0 hp (by omega) (by omega) (by omega) (hd.next h1 (by omega)) last k
    · rw [show decide (r (p.getD m 0) < r (p.getD (m - 1) 0))=false from decide_eq_false c1]
      refine hc _ _ _ (hp.lt (by omega)) (hp.lt (by omega)) ?_
      by_cases c2:kv r p (m - 1) < kv r p m
      · rw [show decide (r (p.getD (m - 1) 0) < r (p.getD m 0))=true from decide_eq_true c2]
        exact k p m q hp h1 (by omega) hq hd he
      · rw [show decide (r (p.getD (m - 1) 0) < r (p.getD m 0))=false from decide_eq_false c2]
        have e1:kv r p m=kv r p (m - 1):=by omega
        refine desc_ok f p (m + 1) (q + 1) hp (by omega) (by omega) (by omega) (hd.next h1 (by omega)) (fun i j a b c d=>?_) k
        have at_:∀ x,m + 1 - (q + 1 + 1)≤x→x < m + 1→kv r p x=kv r p (m - 1):=fun x a b=>by
          by_cases ex:x=m
          · rw [ex]; exact e1
          · exact he x (m - 1) (by omega) (by omega) (by omega) (by omega)
        rw [at_ i a b,at_ j c d]
theorem tail3_ok {m:Nat} {p:Array Nat} {Q:Nat × Array Nat→Shared→Prop} (hp:Pm n p) (h1:1≤m) (hm:m≤n) (hd:DnTo r p m) (k:∀ m' p',Pm n p'→1≤m'→m'≤n→UpTo r p' m'→Q (m',p') s):(kas_tail3 m n p).kasWp cmp Q s:=by
  unfold kas_tail3
  rw [KasT.kasWp_bind]
  exact asc_ok hc (hp.rev 0 m) (n - m) m h1 (by omega) (up_of_rev (by have:=hp.size; omega) hd) fun m' a b c _=>k m' _ (hp.rev 0 m) (by omega) b c
theorem descPart_ok {m:Nat} {p:Array Nat} {Q:Nat × Array Nat→Shared→Prop} (hp:Pm n p) (h1:1≤m) (hm:m < n) (hd:DnTo r p (m + 1)) (k:∀ m' p',Pm n p'→1≤m'→m'≤n→UpTo r p' m'→Q (m',p') s):(kas_descPart m n p).kasWp cmp Q s:=by
  unfold kas_descPart
  rw [KasT.kasWp_bind]
  refine desc_ok hc (n - (m + 1)) p (m + 1) 0 hp (by omega) (by omega) (by omega) hd eq_one fun p' m' q' a1 a2 a3 a4 a5 a6=>?_
  dsimp only
  by_cases hq:q' > 0
  · rw [if_pos hq]
    exact tail3_ok hc (a1.rev _ _) a2 a3 (dn_rev_eq (by have:=a1.size; omega) (Nat.sub_le _ _) a5 a6).1 k
  · rw [if_neg hq]
    exact tail3_ok hc a1 a2 a3 a5 k
theorem count_ok {p:Array Nat} {Q:Nat × Array Nat→Shared→Prop} (hp:Pm n p) (h1:1≤n) (k:∀ m' p',Pm n p'→1≤m'→m'≤n→UpTo r p' m'→Q (m',p') s):(kas_count n p).kasWp cmp Q s:=by
  unfold kas_count
  rw [KasT.kasWp_bind]
  refine asc_ok hc hp (n - 1) 1 (Nat.le_refl _) (by omega) up_one fun m a b hu hx=>?_
  by_cases e:m=n
  · rw [if_pos (by simp [e])]
    exact k m p hp a b hu
  · rw [if_neg (by simp [e])]
    have hx:=hx (by omega)
    by_cases hm:m > 1
    · rw [if_pos hm]
      refine hc _ _ _ (hp.lt (by omega)) (hp.lt (by omega)) ?_
      by_cases c1:kv r p 0 < kv r p (m - 1)
      · rw [show decide (r (p.getD 0 0) < r (p.getD (m - 1) 0))=true from decide_eq_true c1]
        exact k m p hp a b hu
      · rw [show decide (r (p.getD 0 0) < r (p.getD (m - 1) 0))=false from decide_eq_false c1]
        have he:EqIn r p 0 m:=by
          have at_:∀ x,x < m→kv r p x=kv r p 0:=fun x hxm=>by
            by_cases x0:x=0
            · rw [x0]
            · have g1:=hu 0 x (by omega) hxm
              by_cases x1:x=m - 1
              · rw [x1] at g1 ⊢; omega
              · have:=hu x (m - 1) (by omega) (by omega)
                omega
          exact fun i j _ b1 _ b2=>by rw [at_ i b1,at_ j b2]
        have hd:DnTo r p m:=fun i j hij hj=>by rw [he i j (Nat.zero_le _) (by omega) (Nat.zero_le _) hj]; exact Int.le_refl _
        obtain ⟨d1,d2⟩:=dn_rev_eq (by have:=hp.size; omega) (Nat.zero_le _) hd he
        refine descPart_ok hc (hp.rev 0 m) (by omega) (by omega) (d1.next (by omega) ?_) k
        rw [d2 m (Nat.le_refl _),kv_rev (by have:=hp.size; omega) (Nat.zero_le _),if_pos ⟨Nat.zero_le _,by omega⟩]
        have:=he (0 + m - 1 - (m - 1)) (m - 1) (Nat.zero_le _) (by omega) (Nat.zero_le _) (by omega)
        omega
    · rw [if_neg hm]
      have em:m=1:=by omega
      subst em
      refine descPart_ok hc hp (Nat.le_refl _) (by omega) (fun i j hij hj=>?_) k
      have:i=0∧j=1:=by omega
      rw [this.1,this.2]
      exact Int.le_of_lt hx
theorem place_ok {p:Array Nat} {kk:Nat} (hp:Pm n p) (hk:kk < n) (hu:UpTo r p kk):∀ (f l u:Nat) {Q:Nat→Shared→Prop},l≤u→u≤kk→u - l≤f→(∀ i,i < l→kv r p i≤kv r p kk)→(∀ i,u≤i→i < kk→kv r p kk < kv r p i) →
    (∀ l',l'≤kk→(∀ i,i < l'→kv r p i≤kv r p kk)→(∀ i,l'≤i→i < kk→kv r p kk < kv r p i)→Q l' s)→(kas_place p kk f l u).kasWp cmp Q s
  | 0,l,u,Q,hlu,huk,hf,a,b,k=>k l (by omega) a (fun i h=>b i (by omega))
  | f + 1,l,u,Q,hlu,huk,hf,a,b,k=>by
    show ((if l ≥ u then KasT.ret l else _):KasT Nat).kasWp cmp Q s
    by_cases h:l ≥ u
    · rw [if_pos h]
      exact k l (by omega) a (fun i h=>b i (by omega))
    · rw [if_neg h]
      refine hc _ _ _ (hp.lt hk) (hp.lt (by omega)) ?_
      by_cases c:kv r p kk < kv r p ((l + u) / 2)
      · rw [show decide (r (p.getD kk 0) < r (p.getD ((l + u) / 2) 0))=true from decide_eq_true c]
        refine place_ok hp hk hu f l ((l + u) / 2) (by omega) (by omega) (by omega) a (fun i h1 h2=>?_) k
        by_cases e:i=(l + u) / 2
        · rw [e]; exact c
        · exact Int.lt_of_lt_of_le c (hu _ i (by omega) h2)
      · rw [show decide (r (p.getD kk 0) < r (p.getD ((l + u) / 2) 0))=false from decide_eq_false c]
        refine place_ok hp hk hu f ((l + u) / 2 + 1) u (by omega) huk (by omega) (fun i h1=>?_) b k
        by_cases e:i=(l + u) / 2
        · rw [e]; omega
        · have:=hu i ((l + u) / 2) (by omega) (by omega)
          omega
omit hc in
theorem kv_bub {p:Array Nat} {src d k:Nat} (hs:src < p.size) (hd:d≤src):kv r (bubble p src d) k=if k=src - d then kv r p src else if src - d < k∧k≤src then kv r p (k - 1) else kv r p k:=by
  unfold kv
  have g:∀ (q:Array Nat) (i:Nat),q.getD i 0=(q[i]?).getD 0:=fun q i=>by simp [Array.getD_eq_getD_getElem?]
  rw [g,getElem?_bubble hs d hd k]
  by_cases h:k=src - d
  · rw [if_pos h,if_pos h,g]
  · rw [if_neg h,if_neg h]
    by_cases h2:src - d < k∧k≤src
    · rw [if_pos h2,if_pos h2,g]
    · rw [if_neg h2,if_neg h2,g]
theorem bin_ok:∀ (f:Nat) (p:Array Nat) (m:Nat) {Q:Array Nat→Shared→Prop},Pm n p→m + f=n→UpTo r p m→(∀ p',Pm n p'→UpTo r p' n→Q p' s)→(kas_bin f p m).kasWp cmp Q s
  | 0,p,m,Q,hp,hf,hu,k=>k p hp (by rw [← hf]; exact hu)
  | f + 1,p,m,Q,hp,hf,hu,k=>by
    show ((kas_place p m m 0 m).bind fun l=>kas_bin f (bubble p m (m - l)) (m + 1)).kasWp cmp Q s
    rw [KasT.kasWp_bind]
    refine place_ok hc hp (by omega) hu m 0 m (Nat.zero_le _) (Nat.le_refl _) (by omega) (fun i h=>by omega) (fun i h1 h2=>by omega) fun l hl a b=>?_
    have hz:=hp.size
    refine bin_ok f _ (m + 1) ((bubble_perm _ _ _).trans hp) (by omega) (fun i j hij hj=>?_) k
    have el:m - (m - l)=l:=by omega
    rw [kv_bub (by omega) (Nat.sub_le _ _),kv_bub (by omega) (Nat.sub_le _ _),el]
    by_cases hi:i=l
    · rw [if_pos hi,if_neg (by omega),if_pos (by omega)]
      exact Int.le_of_lt (b (j - 1) (by omega) (by omega))
    · rw [if_neg hi]
      by_cases hi2:l < i∧i≤m
      · rw [if_pos hi2,if_neg (by omega),if_pos (by omega)]
        exact hu (i - 1) (j - 1) (by omega) (by omega)
      · rw [if_neg hi2]
        by_cases hjl:j=l
        · rw [if_pos hjl]; exact a i (by omega)
        · rw [if_neg hjl]
          by_cases hj2:l < j∧j≤m
          · rw [if_pos hj2]
            by_cases ej:i=j - 1
            · rw [ej]; exact Int.le_refl _
            · exact hu i (j - 1) (by omega) (by omega)
          · rw [if_neg hj2]
            exact hu i j hij (by omega)
theorem sort_ok {Q:Array Nat→Shared→Prop} (h1:1≤n) (k:∀ p,Pm n p→UpTo r p n→Q p s):(kas_sort n).kasWp cmp Q s:=by
  unfold kas_sort
  rw [KasT.kasWp_bind]
  refine count_ok hc (Array.Perm.refl _) h1 fun m p hp a b hu=>?_
  dsimp only
  by_cases h:m < n
  · rw [if_pos h]
    have em:max m 1=m:=by omega
    rw [em]
    exact bin_ok hc (n - m) p m hp (by omega) hu k
  · rw [if_neg h]
    have:m=n:=by omega
    subst this
    exact k p hp hu
end
end L2
namespace L2
open PySem PySem.W PySem.Spec PyProof.Rows
abbrev T3:=Int × Int × Int
def lt3 (x y:T3):Bool:=decide (x.1 < y.1) || (decide (x.1=y.1) && (decide (x.2.1 < y.2.1) || (decide (x.2.1=y.2.1) && decide (x.2.2 < y.2.2))))
theorem lt3_iff {x y:T3}:lt3 x y=true↔x.1 < y.1∨(x.1=y.1∧(x.2.1 < y.2.1∨(x.2.1=y.2.1∧x.2.2 < y.2.2))):=by
  unfold lt3
  simp [Bool.or_eq_true,Bool.and_eq_true]
theorem lt3_trans {x y z:T3} (a:lt3 x y=true) (b:lt3 y z=true):lt3 x z=true:=by
  rw [lt3_iff] at *
  omega
theorem lt3_irr (x:T3):lt3 x x=false:=by
  rw [Bool.eq_false_iff]
  intro z
  rw [lt3_iff] at z
  omega
theorem le3 {x y z:T3} (a:lt3 x y=false) (b:lt3 z y=true):lt3 z x=true:=by
  have a':¬ lt3 x y=true:=by rw [a]; exact Bool.false_ne_true
  rw [lt3_iff] at *
  omega
def rank3 (ts:List T3) (x:T3):Int:=((ts.filter fun z=>lt3 z x).length:Nat)
theorem filter_le {α:Type} {p q:α→Bool}:∀ {l:List α},(∀ z,p z=true→q z=true)→(l.filter p).length≤(l.filter q).length
  | [],_=>Nat.le_refl _
  | a :: l,h=>by
    have ih:=filter_le (l:=l) h
    rw [List.filter_cons,List.filter_cons]
    by_cases hp:p a=true
    · rw [if_pos hp,if_pos (h a hp),List.length_cons,List.length_cons]; omega
    · rw [if_neg hp]
      split
      · rw [List.length_cons]; omega
      · exact ih
theorem filter_lt {α:Type} {p q:α→Bool} {x:α}:∀ {l:List α},(∀ z,p z=true→q z=true)→x∈l→p x=false→q x=true→(l.filter p).length < (l.filter q).length
  | a :: l,h,hx,h1,h2=>by
    rw [List.filter_cons,List.filter_cons]
    rcases List.mem_cons.mp hx with rfl | hx
    · rw [if_neg (by rw [h1]; exact Bool.false_ne_true),if_pos h2,List.length_cons]
      have:=filter_le (l:=l) h
      omega
    · have ih:=filter_lt h hx h1 h2
      by_cases hp:p a=true
      · rw [if_pos hp,if_pos (h a hp),List.length_cons,List.length_cons]; omega
      · rw [if_neg hp]
        split
        · rw [List.length_cons]; omega
        · exact ih
theorem rank3_lt {ts:List T3} {x y:T3} (hx:x∈ts):decide (rank3 ts x < rank3 ts y)=lt3 x y:=by
  unfold rank3
  cases e:lt3 x y with
  | true =>
    refine decide_eq_true ?_
    have:=filter_lt (l:=ts) (p:=fun z=>lt3 z x) (q:=fun z=>lt3 z y) (x:=x) (fun z hz=>lt3_trans hz e) hx (lt3_irr x) e
    omega
  | false =>
    refine decide_eq_false ?_
    have:=filter_le (l:=ts) (p:=fun z=>lt3 z y) (q:=fun z=>lt3 z x) (fun z hz=>le3 e hz)
    omega
abbrev t3V (x:T3):List V:=[.int x.1,.int x.2.1,.int x.2.2]
def Tri (h:Heap) (v:Value) (x:T3):Prop:=∃ (q:Addr) (o:Obj) (n:Nat) (t1 t2 t3:Tok),v = .ref q∧h.get? q=some o∧o.cls = .type "tuple" ∧ o.data = .seq #[.int x.1 t1,.int x.2.1 t2,.int x.2.2 t3] n
section
variable {prog:Program} {w:World} {A:Around} {s:Shared}
theorem tri_lt {E:Value→Shared→Prop} {u v:Value} {x y:T3} {C:Bool→Shared→Prop} (hu:Tri s.heap u x) (hv:Tri s.heap v y) (k:C (lt3 x y) s):wpAny (model prog w) A (keyLt' (tuples' true) u v) C E s:=by
  obtain ⟨p,o,n,t1,t2,t3,rfl,h1,c1,d1⟩:=hu
  obtain ⟨q,o',n',u1,u2,u3,rfl,h2,c2,d2⟩:=hv
  refine kat_lt h1 d1 h2 d2 ?_
  refine kat_cons (wpAny_eqBool_int (kat_go (fun e0=>kat_yes ?_) fun e0=>kat_no (oneLt_int ?_)))
  case refine_2 =>
    have n0:¬ x.1=y.1:=by simpa using e0
    have e:lt3 x y=decide (x.1 < y.1):=by unfold lt3; rw [decide_eq_false n0]; simp
    rw [← e]; exact k
  have e0:x.1=y.1:=by simpa using e0
  refine kat_cons (wpAny_eqBool_int (kat_go (fun e1=>kat_yes ?_) fun e1=>kat_no (kat_one _ _ (lt_int ?_))))
  case refine_2 =>
    have n0:¬ x.2.1=y.2.1:=by simpa using e1
    have e:lt3 x y=decide (x.2.1 < y.2.1):=by rw [Bool.eq_iff_iff,lt3_iff,decide_eq_true_eq]; omega
    rw [← e]; exact k
  have e1:x.2.1=y.2.1:=by simpa using e1
  refine kat_cons (wpAny_eqBool_int (kat_go (fun e2=>kat_yes (kat_nil ?_)) fun e2=>kat_no (kat_one _ _ (lt_int ?_))))
  · have e2:x.2.2=y.2.2:=by simpa using e2
    have e:lt3 x y=false:=by
      rw [Bool.eq_false_iff]
      intro z
      rw [lt3_iff] at z
      omega
    rw [e] at k; exact k
  · have e:lt3 x y=decide (x.2.2 < y.2.2):=by rw [Bool.eq_iff_iff,lt3_iff,decide_eq_true_eq]; omega
    rw [← e]; exact k
theorem tri_firsts {h:Heap}:∀ {vs:List Value} {ts:List T3},vs.length=ts.length→(∀ (i:Nat) v x,vs[i]?=some v→ts[i]?=some x→Tri h v x)→∃ fs,KatTups h vs fs∧fs.length=vs.length∧∀ f∈fs,∃ i t,f=Value.int i t
  | [],[],_,_=>⟨[],trivial,rfl,fun _ hf=>absurd hf (by simp)⟩
  | v :: vs,x :: ts,hl,h=>by
    obtain ⟨fs,a,b,c⟩:=tri_firsts (vs:=vs) (ts:=ts) (by simpa using hl) fun i v x e1 e2=>h (i + 1) v x (by simpa using e1) (by simpa using e2)
    obtain ⟨q,o,n,t1,t2,t3,rfl,h1,c1,d1⟩:=h 0 v x rfl rfl
    refine ⟨.int x.1 t1 :: fs,KatTups.cons h1 c1 d1 rfl a,by simp [b],fun f hf=>?_⟩
    rcases List.mem_cons.mp hf with rfl | hf
    · exact ⟨_,_,rfl⟩
    · exact c f hf
end
section
variable {prog:Program} {w:World} {A:Around} {s:Shared} {E:Value→Shared→Prop}
theorem sort_one {d:Addr} {v:Value} {c:Nat} {P:PySem.Fin→Shared→Prop} (hd:s.heap.get? d=some (seqObj "list" [v].toArray c)) (k:P (.done (.ret .none)) { s with heap:=sortedHeap s.heap d [v] #[v] }) :
    wpAny (model prog w) A (Builtin.«list.sort» ⟨[.ref d],[]⟩) P E s:=by
  have hlt:d < s.heap.objs.size:=Heap.lt_size hd
  rw [list_sort_plain]
  refine wpAny_bind (listItems_at hd rfl (wpAny_bind (listUpdate_at hd rfl ?_)))
  have h1:∃ c1,(s.heap.update d (Obj.mapSeq fun _=>#[])).get? d=some (seqObj "list" #[] c1):=⟨_,get?_update_seq hd (fun _=>#[])⟩
  obtain ⟨c1,h1⟩:=h1
  refine wpAny_bind (seqEpoch_at h1 rfl (wpAny_bind (wpAny_newTuple (wpAny_bind (wpAny_newList (wpAny_holding ?_))))))
  have hsz:(s.heap.update d (Obj.mapSeq fun _=>#[])).objs.size=s.heap.objs.size:=Heap.size_update _ _ _
  have h6:(((s.heap.update d (Obj.mapSeq fun _=>#[])).push (seqObj "tuple" [v].toArray 0)).push (seqObj "list" #[] 0)).get? d=some (seqObj "list" #[] c1) :=
    Heap.get?_push_of_some _ (Heap.get?_push_of_some _ h1)
  show wpAny (model prog w) A _ P E { s with heap:=((s.heap.update d (Obj.mapSeq fun _=>#[])).push (seqObj "tuple" [v].toArray 0)).push (seqObj "list" #[] 0) }
  have ht:[v].toArray.size < 2:=by simp
  have hv:(arrOf (SortSt.mk' general' (#[v].zip #[v]) #[] 7 none)).map (·.2) = #[v]:=by
    show (#[v].zip #[v]).map (·.2) = #[v]
    simp
  dsimp only
  rw [if_pos ht,if_pos ht]
  refine wpAny_bind (wpAny_pure ?_)
  rw [StateT.run_pure]
  refine wpAny_bind (wpAny_pure (wpAny_bind (seqEpoch_at h6 rfl (wpAny_bind (listUpdate_at h6 rfl ?_ (hsz2:=?_))))))
  · simp only [bne_self_eq_false,Bool.false_eq_true,if_false]
    refine wpAny_pure ?_
    rw [hv]
    exact k
  · show ((arrOf (SortSt.mk' general' (#[v].zip #[v]) #[] 7 none)).map (·.2)).size≤sizeLine + 1
    rw [hv]
    show 1≤sizeLine + 1
    exact Nat.le_add_left _ _
theorem sorted_one {l:Addr} {v:Value} {Q:Value→Shared→Prop} (hl:s.heap.IsList l [v].toArray) (k:Q (.ref (s.heap.objs.size + 1)) { s with heap:=sortedAll s.heap [v] #[v] }):wpAny (model prog w) A (call (.builtin "sorted") [.ref l]) Q E s:=by
  refine Calls.call_function_entry kind_sorted plain_sorted entry_sorted (args_sorted1 _) ?_
  unfold Builtin.«sorted»
  refine wpAny_bind (m:=checkCount "sorted" 1 1 _) (wpAny_pure (wpAny_bind (collect_list hl (wpAny_bind (wpAny_newList ?_)))))
  have hz:((s.heap.push (seqObj "list" #[] 0)).update s.heap.objs.size (Obj.mapSeq (·++[v].toArray))).objs.size=s.heap.objs.size + 1:=(Heap.size_update _ _ _).trans (size_push' _ _)
  have ho:(((s.heap.push (seqObj "list" #[] 0)).update s.heap.objs.size (Obj.mapSeq (·++[v].toArray))).push (seqObj "list" [v].toArray 0)).get? (s.heap.objs.size + 1)=some (seqObj "list" [v].toArray 0):=hz ▸ Heap.get?_push_size _ rfl
  show wpAny _ _ _ _ _ { s with heap:=((s.heap.push (seqObj "list" #[] 0)).update s.heap.objs.size (Obj.mapSeq (·++[v].toArray))).push (seqObj "list" [v].toArray 0) }
  rw [hz]
  exact wpAny_bind (wpAny_holding (wpAny_call_entry slot_list_sort ⟨_,ho,rfl⟩ entry_list_sort (sort_one ho ⟨_,rfl,wpAny_pure ⟨_,rfl,k⟩⟩) (args_list_sort _)))
end
def TrisAt (K:PySem.W.Frag) (H:Hp) (qs:List Addr) (ts:List T3):Prop:=qs.length=ts.length∧∀ (i:Nat) q t,qs[i]?=some q→ts[i]?=some t→SqT K H q (t3V t)
theorem TrisAt.mono {K:PySem.W.Frag} {H H':Hp} {qs:List Addr} {ts:List T3} (s:Same H H') (h:TrisAt K H qs ts):TrisAt K H' qs ts:=⟨h.1,fun i q t a b=>s.seqT (h.2 i q t a b)⟩
def Sorted3 (ts:List T3):Prop:=∀ (i j:Nat) (x y:T3),i < j→ts[i]?=some x→ts[j]?=some y→lt3 y x=false
section
variable {X:Cx}
def rSorted3 (K:PySem.W.Frag):List V→Hp→VK→Prop:=fun xs H Q=>∃ (a:Addr) (qs:List Addr) (ts:List T3),xs = [.ref a]∧SqL K H a (qs.map V.ref)∧TrisAt K H qs ts∧ts.length < 64 ∧
  ∀ l (qs':List Addr) (ts':List T3),H l=none→ts'.Perm ts→Sorted3 ts'→TrisAt K H qs' ts'→Q (.ref l) (upd H l (.lst (qs'.map V.ref)))
theorem refs_of:∀ {qs:List Addr} {its:List Value},Vals (qs.map V.ref) its→its=qs.map Value.ref
  | [],_,r=>by cases r; rfl
  | q :: qs,_,r=>by
    cases r with
    | cons h t =>
      have h:_=Value.ref q:=h
      rw [h,refs_of t]
      rfl
theorem vals_refs:∀ qs:List Addr,Vals (qs.map V.ref) (qs.map Value.ref)
  | []=>.nil
  | q :: qs=>.cons rfl (vals_refs qs)
theorem map_getD {α:Type} (d:α):∀ l:List α,(List.range l.length).map (fun i=>l.getD i d)=l:=fun l=>by
  apply List.ext_getElem
  · simp
  · intro i h1 h2
    simp at h1
    simp [h1]
theorem call_sorted3:CallR X (.builtin "sorted") (rSorted3 X.K):=by
  intro pins s σ H xs us Q I r ⟨a,qs,ts,e,hq,ht,h64,q⟩
  subst e
  obtain ⟨u,e,ru⟩:=Vals.one r
  subst e
  cases ru
  obtain ⟨its,rv,p,hz⟩:=I.list hq
  have eits:=refs_of rv
  subst eits
  have hlen:=ht.1
  by_cases h0:ts.length=0
  · have e1:qs = []:=List.length_eq_zero_iff.mp (by omega)
    subst e1
    have e2:ts = []:=List.length_eq_zero_iff.mp h0
    subst e2
    refine call_sorted pins s σ H [V.ref a] [Value.ref a] Q I (.cons rfl .nil) ⟨a,[],rfl,hq,by decide,fun l ns' hl hp _=>?_⟩
    have:ns' = []:=List.Perm.eq_nil hp
    subst this
    exact q l [] [] hl (List.Perm.refl _) (fun i j x y _ h=>by simp at h) ⟨rfl,fun i q t h=>by simp at h⟩
  by_cases h1:ts.length=1
  · obtain ⟨q0,e1⟩ : ∃ q0,qs = [q0]:=List.length_eq_one_iff.mp (by omega)
    subst e1
    refine sorted_one (v:=.ref q0) p.isList ?_
    obtain ⟨e,he⟩:=sortedAll_at s.heap [.ref q0] #[.ref q0]
    refine ⟨.ref (s.heap.objs.size + 1),_,I.laid (a:=s.heap.objs.size + 1) (o:=.lst [.ref q0]) (t':=s.toks) (fun b o e=>sortedAll_old e) (Nat.le_succ _) ⟨?_,[.ref q0],e,.cons rfl .nil,he⟩,rfl,q _ [q0] ts (I.hok.fresh (Nat.le_succ _)) (List.Perm.refl _) (fun i j x y hij h1' h2'=>?_) ht⟩
    · show 1≤sizeLine
      decide
    · have:=(List.getElem?_eq_some_iff.mp h2').1
      omega
  have h2:2≤ts.length:=by omega
  obtain ⟨m,F⟩:=I.fr
  have tri0:∀ (i:Nat) v x,(qs.map Value.ref)[i]?=some v→ts[i]?=some x→Tri s.heap v x:=fun i v x e1 e2=>by
    rw [List.getElem?_map] at e1
    cases e3:qs[i]? with
    | none=>rw [e3] at e1; cases e1
    | some q0 =>
      rw [e3] at e1
      cases e1
      obtain ⟨jt,rj,tp,_⟩:=I.tuple (ht.2 i q0 x e3 e2)
      obtain ⟨o,ho,hc,n,hd⟩:=tp
      cases rj with
      | cons x1 r1=>cases r1 with
        | cons x2 r2=>cases r2 with
          | cons x3 r3 =>
            cases r3
            obtain ⟨t1,rfl⟩:=x1
            obtain ⟨t2,rfl⟩:=x2
            obtain ⟨t3,rfl⟩:=x3
            exact ⟨q0,o,n,t1,t2,t3,rfl,ho,hc,hd⟩
  have keepN:∀ {h':Heap} {m':Str→Option Value},Fr X.base X.env.locals h' m'→(∀ p∈allNews X.base s.heap X.env.locals,h'.get? p.1=some p.2)→∀ b o,b≠X.env.locals→s.heap.get? b=some o→h'.get? b=some o:=fun {h' m'} F' N' b o hb e=>by
    cases g:X.base.get? b with
    | some u =>
      have:=I.bk b u g
      rw [e] at this
      cases this
      exact F'.keep b _ g
    | none=>exact N' (b,o) (mem_allNews hb g e)
  have triK:∀ {h':Heap},(∀ b o,b≠X.env.locals→s.heap.get? b=some o→h'.get? b=some o)→∀ (i:Nat) v x,(qs.map Value.ref)[i]?=some v→ts[i]?=some x→Tri h' v x:=fun {h'} kp i v x e1 e2=>by
    obtain ⟨q0,o,n,t1,t2,t3,rfl,ho,hc,hd⟩:=tri0 i v x e1 e2
    refine ⟨q0,o,n,t1,t2,t3,rfl,kp q0 o (fun z=>?_) ho,hc,hd⟩
    obtain ⟨m0,⟨oL,es,ep,hoL,hdL,_⟩,_⟩:=I.loc
    rw [z,hoL] at ho
    cases ho
    rw [hdL] at hd
    cases hd
  refine kat_sorted (vs:=qs.map Value.ref) F (news_all (g:=X.base) (h:=s.heap) (L:=X.env.locals)) p.isList (by rw [List.length_map]; omega) (by rw [List.length_map]; omega) fun D e1 h' F' N' hD=>?_
  have kp':=keepN F' fun p hp=>(N' p (.tail _ hp)).1
  have tri':=triK kp'
  obtain ⟨fs,kt,fl,fi⟩:=tri_firsts (h:=h') (vs:=qs.map Value.ref) (ts:=ts) (by rw [List.length_map]; exact hlen) tri'
  refine kat_kind (s:={ s with heap:=h' }) (T:=.type "int") kt (by rw [fl,List.length_map]; omega) (fun f hf=>?_) rfl ?_
  · obtain ⟨i,t,rfl⟩:=fi f hf
    exact Looks.of_pure rfl
  have eint:(Value.type "int" != Value.type "tuple")=true:=by decide
  rw [eint]
  have hn:(qs.map Value.ref).length=ts.length:=by rw [List.length_map]; exact hlen
  have at_:∀ i,i < ts.length→(qs.map Value.ref)[i]?=some ((qs.map Value.ref).getD i Value.none)∧ts[i]?=some (ts.getD i (0,0,0)):=fun i hi=>by
    constructor
    · rw [List.getD_eq_getElem?_getD,List.getElem?_eq_getElem (by omega)]; rfl
    · rw [List.getD_eq_getElem?_getD,List.getElem?_eq_getElem hi]; rfl
  refine sort_ok (n:=(qs.map Value.ref).length) (r:=fun i=>rank3 ts (ts.getD i (0,0,0))) (fun i j C hi hj k=>?_) (by omega) fun pp hp hu=>?_
  · rw [hn] at hi hj
    unfold kas_ask
    refine tri_lt (x:=ts.getD i (0,0,0)) (y:=ts.getD j (0,0,0)) (tri' i _ _ (at_ i hi).1 (at_ i hi).2) (tri' j _ _ (at_ j hj).1 (at_ j hj).2) ?_
    rw [← rank3_lt (ts:=ts) (List.mem_of_getElem? (at_ i hi).2)]
    exact k
  have hDn:s.heap.get? D=none:=by
    cases g:s.heap.get? D with
    | none=>rfl
    | some o =>
      have hx:=N' (D,seqObj "list" #[] e1) (.head _)
      have:=hD (D,o) (mem_allNews hx.2.1 hx.2.2 g)
      exact absurd this (Nat.lt_irrefl _)
  have hHD:H D=none:=by
    cases g:H D with
    | none=>rfl
    | some o =>
      obtain ⟨ob,hob⟩:=(I.hok D o g).there
      rw [hDn] at hob
      cases hob
  have hpl:pp.toList.Perm (List.range ts.length):=by
    have:=hp.toList
    rw [hn] at this
    simpa using this
  refine KasFin.intro F' N' (UpdF.head fun p hp=>Nat.ne_of_lt (hD p hp)) fun h2' c F2 N2=>?_
  have kp2:=keepN F2 fun p hp=>(N2 p (.tail _ hp)).1
  have hgD:=(N2 _ (.head _)).1
  have eout:(pp.toList.map fun i=>(qs.map Value.ref).getD i Value.none)=(pp.toList.map fun i=>qs.getD i 0).map Value.ref:=by
    rw [List.map_map]
    refine List.map_congr_left fun i hi=>?_
    have hil:i < qs.length:=by
      have:=(hpl.mem_iff).mp hi
      rw [List.mem_range] at this
      omega
    show (qs.map Value.ref).getD i Value.none=Value.ref (qs.getD i 0)
    rw [List.getD_eq_getElem?_getD,List.getD_eq_getElem?_getD,List.getElem?_map,List.getElem?_eq_getElem hil]
    rfl
  rw [eout] at hgD
  have hplen:pp.toList.length=ts.length:=by rw [hpl.length_eq,List.length_range]
  have neD:∀ b o,s.heap.get? b=some o→b≠D:=fun b o e z=>by rw [z,hDn] at e; cases e
  have neH:∀ b o,H b=some o→b≠D:=fun b o e=>ne_of_none e hHD
  have neL:∀ b o,H b=some o→b≠X.env.locals:=fun b o e=>ne_of_none e I.free
  refine ⟨.ref D,upd H D (.lst ((pp.toList.map fun i=>qs.getD i 0).map V.ref)),?_,rfl,q D (pp.toList.map fun i=>qs.getD i 0) (pp.toList.map fun i=>ts.getD i (0,0,0)) hHD ?_ ?_ ?_⟩
  · show Inv X pins σ _ { s with heap:=h2',gens:=s.gens,drawn:=s.drawn,toks:=s.toks }
    refine I.step (s:=s) (t':=s.toks) (g':=s.gens) (d':=s.drawn) (h':=h2') (ch:=[]) (fun _ z=>nomatch z) (fun b o hb _ _ e _=>kp2 b o hb e) (fun b o hb _ _ e _=>⟨o.slots,kp2 b o hb e⟩) (fun b o _ e n=>by rw [upd_ne (neD b o e)]; exact n) (fun b o _ e=>?_)
      (fun b xs e=>by rw [upd_ne (neH b _ e)]; exact e) (fun b o u e=>by rw [upd_ne (neH b _ e)]; exact e) (fun b ps e=>⟨#[],by rw [upd_ne (neH b _ e),e]; simp⟩) (fun m' hm'=>?_) (fun b o e=>?_) I.bare
    · by_cases hb:b=X.env.locals
      · obtain ⟨o',_,_,ho',_⟩:=F2.ns
        exact ⟨o',by rw [hb]; exact ho'⟩
      · exact ⟨o,kp2 b o hb e⟩
    · have em:m'=m:=by
        obtain ⟨o1,es1,ep1,g1,d1,k1,f1⟩:=hm'
        obtain ⟨o2,es2,ep2,g2,d2,k2,f2⟩:=F.ns
        rw [g1] at g2
        cases g2
        rw [d1] at d2
        cases d2
        funext x
        rw [← f1 x,← f2 x]
      rw [em]
      exact F2.ns
    · by_cases hb:b=D
      · subst hb
        rw [upd_same] at e
        cases e
        refine ⟨?_,(pp.toList.map fun i=>qs.getD i 0).map Value.ref,c,vals_refs _,hgD⟩
        rw [List.length_map,List.length_map,hplen]
        exact Nat.le_of_lt (small1000 (by omega))
      · rw [upd_ne hb] at e
        refine (I.hok b o e).stay (fun c u hc r=>?_) (fun c r=>by rw [upd_ne (neH c _ r)]; exact r) fun c xs r=>by rw [upd_ne (neH c _ r)]; exact r
        rcases hc with z | z
        · rw [z] at r ⊢
          exact kp2 b u (neL b o e) r
        · exact kp2 c u (neL c _ z) r
  · have:=hpl.map fun i=>ts.getD i (0,0,0)
    rw [map_getD] at this
    exact this
  · intro i j x y hij e1 e2
    rw [List.getElem?_map] at e1 e2
    cases g1:pp.toList[i]? with
    | none=>rw [g1] at e1; cases e1
    | some a1 =>
      cases g2:pp.toList[j]? with
      | none=>rw [g2] at e2; cases e2
      | some a2 =>
        rw [g1] at e1
        rw [g2] at e2
        cases e1
        cases e2
        have hj:=(List.getElem?_eq_some_iff.mp g2).1
        have z:=hu i j hij (by omega)
        have z:rank3 ts (ts.getD (pp.getD i 0) (0,0,0))≤rank3 ts (ts.getD (pp.getD j 0) (0,0,0)):=z
        show lt3 (ts.getD a2 (0,0,0)) (ts.getD a1 (0,0,0))=false
        have k1:pp.getD i 0=a1:=by rw [Array.getD_eq_getD_getElem?,← Array.getElem?_toList,g1]; rfl
        have k2:pp.getD j 0=a2:=by rw [Array.getD_eq_getD_getElem?,← Array.getElem?_toList,g2]; rfl
        rw [k1,k2] at z
        have m2:a2 < ts.length:=by
          have:=(hpl.mem_iff).mp (List.mem_of_getElem? g2)
          rwa [List.mem_range] at this
        rw [← rank3_lt (ts:=ts) (List.mem_of_getElem? (at_ a2 m2).2)]
        exact decide_eq_false (by omega)
  · refine ⟨by rw [List.length_map,List.length_map],fun i q0 t0 e1 e2=>?_⟩
    rw [List.getElem?_map] at e1 e2
    cases g1:pp.toList[i]? with
    | none=>rw [g1] at e1; cases e1
    | some a1 =>
      rw [g1] at e1 e2
      cases e1
      cases e2
      have m1:a1 < ts.length:=by
        have:=(hpl.mem_iff).mp (List.mem_of_getElem? g1)
        rwa [List.mem_range] at this
      refine ht.2 a1 _ _ ?_ (at_ a1 m1).2
      show qs[a1]?=some (qs.getD a1 0)
      rw [List.getD_eq_getElem?_getD,List.getElem?_eq_getElem (by omega)]
      rfl
end
end L2
namespace L2
open PySem PySem.W PySem.Spec PyProof.Rows
section
variable {X:Cx} {pins:List (Addr × Obj)} {σ:St} {H:Hp} {s:Shared}
theorem Inv.thaw {d:Addr} {o:Obj} {u:HO} (I:Inv X pins σ H s) (hd:H d=some (.frz o u)) (h0:∀ o' u',X.H₀ d≠some (.frz o' u')):Inv X pins σ (upd H d u) s:=by
  have ne:∀ b v,H b=some v→(∀ o' u',v≠.frz o' u')→b≠d:=fun b v e hv z=>by
    rw [z,hd] at e
    cases e
    exact hv _ _ rfl
  have non:∀ b,H b=none→(upd H d u) b=none:=fun b e=>by
    rw [upd_ne (fun z=>by rw [z,hd] at e; cases e)]
    exact e
  have ho:∀ b y,H b=some (.own y)→(upd H d u) b=some (.own y):=fun b y e=>by rw [upd_ne (ne b _ e (by intro _ _ z; cases z))]; exact e
  have ht:∀ b xs,H b=some (.tup xs)→(upd H d u) b=some (.tup xs):=fun b xs e=>by rw [upd_ne (ne b _ e (by intro _ _ z; cases z))]; exact e
  refine ⟨I.ok,I.os,I.bare,⟨I.base.keep,I.base.slot,fun b o' e n hx=>non b (I.base.free b o' e n hx),I.base.there,fun b xs e=>ht b xs (I.base.tups b xs e),fun b o' u' e=>?_,fun b ps e=>?_⟩,I.loc,I.cell,non _ I.free,fun x c e=>non c (I.freeC x c e),fun p hp=>?_,fun b v e=>?_,I.len⟩
  · have e1:=I.base.frzs b o' u' e
    rw [upd_ne (fun z=>h0 o' u' (by rw [← z]; exact e))]
    exact e1
  · obtain ⟨more,e1⟩:=I.base.tbls b ps e
    exact ⟨more,by rw [upd_ne (ne b _ e1 (by intro _ _ z; cases z))]; exact e1⟩
  · obtain ⟨a,b,c⟩:=I.pin p hp
    exact ⟨a,non _ b,c⟩
  · by_cases hb:b=d
    · subst hb
      rw [upd_same] at e
      cases e
      obtain ⟨_,q⟩:=I.hok b _ hd
      exact q.stay (fun c v _ r=>r) (fun c r=>ho c _ r) ht
    · rw [upd_ne hb] at e
      exact (I.hok b v e).stay (fun c v _ r=>r) (fun c r=>ho c _ r) ht
def tThaw (t:TE):TE:=fun σ H Q=>∃ d kvs,H d=some (.dT kvs)∧t σ H fun v H1=>∃ o,H1 d=some (.frz o (.dT kvs))∧Q v (upd H1 d (.dT kvs))
theorem pe_thaw {e:Expr} {t:TE} (h:PE X e t):PE X e (tThaw t):=by
  intro pins s σ H Q I ⟨d,kvs,hd,q⟩
  refine thn (h pins s σ H _ I q) fun v s1 ⟨x,H1,I1,r1,o,e1,q1⟩=>⟨x,_,I1.thaw e1 (fun o' u' z=>?_),r1,q1⟩
  have:=I.base.frzs d o' u' z
  rw [hd] at this
  cases this
end
section
variable {prog:Program} {w:World} {A:Around} {E:Value→Shared→Prop} {s:Shared} {d v it:Addr} {od:Obj} {es:Array DictEntry} {ep:Nat}
theorem items_view {Q:Value→Shared→Prop} (lo:(d == sysModules)=false) (h1:s.heap.get? d=some od) (h2:od.ExactDict) (h3:od.data = .dict es ep)
    (k:Q (.ref s.heap.objs.size) { s with heap:=s.heap.push { cls:=.type "dict_items",data:=.fields #[.ref d] } }):wpAny (model prog w) A (call (.builtin "dict.items") [.ref d]) Q E s:=by
  have ty:s.TypeIs (.ref d) "dict" := ⟨od,h1,h2.1⟩
  refine wpAny_call_entry F.slot_dict_items ty F.entry_dict_items ?_ (F.args_dict_items_1 _)
  unfold Builtin.«dict.items» Builtin.Dict.noArgs Builtin.Dict.showsAll
  refine wpAny_bind (wpAny_bind (wpAny_notOrdered_dict ty (wpAny_pure ?_)))
  rw [if_neg (by rw [lo]; exact Bool.false_ne_true)]
  exact wpAny_bind (wpAny_pure (wpAny_bind (wpAny_newObj_type (wpAny_pure ⟨_,rfl,k⟩))))
theorem items_iter {Q:Value→Shared→Prop} (hv:s.heap.IsItemsView v d) (h1:s.heap.get? d=some od) (h3:od.data = .dict es ep)
    (k:Q (.ref s.heap.objs.size) { s with heap:=s.heap.push { cls:=.type "dict_itemiterator",data:=.fields #[.none,.bool false,.ref d,.int 0 0,.int es.size 0,.int ep 0,.none,.none] } }):wpAny (model prog w) A (pyIter (.ref v)) Q E s:=by
  obtain ⟨vo,g1,g2,g3⟩:=id hv
  have own:Builtin.Dict_items.ownsTuple "dict_itemiterator" = true:=by decide
  refine wpAny_pyIter_slot hv.typeIs F.slot_dict_items_iter (wpAny_call_entry F.slot_dict_items_iter hv.typeIs F.entry_dict_items_iter ?_ (F.args_dict_items_iter_1 _))
  unfold Builtin.«dict_items.__iter__» Builtin.Dict_items.dictOf Builtin.Dict_items.newIterator
  refine wpAny_bind (wpAny_pure (wpAny_bind (wpAny_bind (wpAny_field g1 g3 (x:=.ref d) rfl (wpAny_pure (wpAny_bind (wpAny_bind (wpAny_dictEntries h1 h3 (wpAny_bind (wpAny_dictEpoch h1 h3 ?_))))))))))
  simp only [own,if_true]
  refine wpAny_newObj_type (wpAny_pure ⟨_,rfl,"dict_itemiterator",_,⟨_,Heap.get?_push_size _ rfl,rfl⟩,F.slot_dict_itemiterator_next.lookup,?_⟩) ?_
  · simpa [rawInt,Builtin.Dict_items.ownedTupleFields] using k
  · simp [sizeOk,Builtin.Dict_items.ownedTupleFields,sizeLine_eq]
theorem items_next {i:Nat} {en:DictEntry} {ok ov:Value} {Q:Option Value→Shared→Prop} (hi:IsItemIter s.heap it d i es.size ep ok ov) (h1:s.heap.get? d=some od) (h3:od.data = .dict es ep) (he:es[i]?=some en)
    (k:∀ h',IsItemIterOut h' it d (i + 1) es.size ep en.key en.val s.heap.objs.size→h'.get? s.heap.objs.size=some { cls:=.type "tuple",data:=.seq #[en.key,en.val] }→h'.objs.size=s.heap.objs.size + 1 →
      (∀ b o,b≠it→s.heap.get? b=some o→h'.get? b=some o)→Q (some (.ref s.heap.objs.size)) { s with heap:=h' }):wpAny (model prog w) A (pyNext (.ref it)) Q E s:=by
  obtain ⟨h,g,dr,tk,os⟩:=s
  have ty:Shared.TypeIs ⟨h,g,dr,tk,os⟩ (.ref it) "dict_itemiterator" := ⟨_,hi,rfl⟩
  have own:Builtin.Dict_items.ownsTuple "dict_itemiterator" = true:=by decide
  obtain ⟨hlt,hen⟩:=Array.getElem?_eq_some_iff.mp he
  unfold pyNext
  refine wpAny_bind (wpAny_attempt (wpAny_callSpecial?_slot (name:=Str.ofString "__next__") ty F.slot_dict_itemiterator_next (wpAny_call_entry F.slot_dict_itemiterator_next ty F.entry_dict_itemiterator_next ?_ (F.args_dict_itemiterator_next_1 _))))
  refine wpAny_bind (wpAny_pure (wpAny_bind (wpAny_bind (wpAny_bind (wpAny_typeNameOfWhole_itemiter ty (wpAny_pure (wpAny_bind (wpAny_fieldsOf hi rfl ?_))))))))
  simp only [own,if_true]
  have nn:¬ (Value.ref d == Value.none)=true:=Bool.false_ne_true
  have ne1:¬ (i:Int) < 0:=by omega
  show wpAny (model prog w) A.in1 (if (Value.ref d == Value.none)=true then _ else _) _ _ _
  rw [if_neg nn]
  refine wpAny_bind (wpAny_pure (wpAny_bind (wpAny_dictEntries h1 h3 ?_)))
  rw [if_neg (by simp)]
  refine wpAny_bind (wpAny_pure (wpAny_bind (wpAny_dictEpoch h1 h3 ?_)))
  rw [if_neg (by simp)]
  refine wpAny_pure ?_
  simp only [ne1,if_false,Int.toNat_natCast,he]
  refine wpAny_bind (wpAny_bind (wpAny_typeNameOfWhole_itemiter ty (wpAny_pure (wpAny_bind (wpAny_isOneOf_itemiter ty ?_)))))
  have t0:(rawInt ((i:Int) + 1))=Value.int ((i + 1:Nat):Int) 0:=by
    show Value.int ((i:Int) + 1) 0=_
    rw [show ((i + 1:Nat):Int)=(i:Int) + 1 by omega]
  show wpAny _ _ (setField (.ref it) 3 (rawInt ((i:Int) + 1)) >>= _) _ _ ⟨h,g,dr,tk,os⟩
  rw [t0]
  refine wpAny_bind (wpAny_setField_rec hi (by simp) fun h4 g4 sb4=>wpAny_bind (wpAny_holding ?_))
  have g4:IsItemIter h4 it d (i + 1) es.size ep ok ov:=g4
  have sb4:Heap.SameBut it h h4:=sb4
  have ty4:Shared.TypeIs ⟨h4,g,dr,tk,os⟩ (.ref it) "dict_itemiterator" := ⟨_,g4,rfl⟩
  have z4:h4.objs.size=h.objs.size:=sb4.1
  have ilt:it < h.objs.size:=Heap.lt_size hi
  refine wpAny_bind (wpAny_isOneOf_itemiter ty4 (wpAny_bind (wpAny_isOneOf_itemiter ty4 ?_)))
  show wpAny _ _ (Builtin.Dict_items.pairFromOwner (.ref it) 6 en.key en.val) _ _ ⟨h4,g,dr,tk,os⟩
  unfold Builtin.Dict_items.pairFromOwner
  refine wpAny_bind (wpAny_newTuple ?_)
  obtain ⟨h5,e5⟩ : ∃ h5,h4.push { cls:=.type "tuple",data:=.seq #[en.key,en.val] }=h5:=⟨_,rfl⟩
  have g5:IsItemIter h5 it d (i + 1) es.size ep ok ov:=e5 ▸ Heap.get?_push_of_some _ g4
  have tu5:h5.get? h.objs.size=some { cls:=.type "tuple",data:=.seq #[en.key,en.val] }:=by
    rw [← e5,← z4]
    exact Heap.get?_push_size _ rfl
  have z5:h5.objs.size=h.objs.size + 1:=by rw [← e5,Heap.size_push,z4]
  have k5:∀ b o,b≠it→h.get? b=some o→h5.get? b=some o:=fun b o hb q=>e5 ▸ Heap.get?_push_of_some _ (sb4.extBut b o hb q)
  show wpAny _ _ (Builtin.Dict_items.ownedTupleIsFree (.ref it) >>= _) _ _ ⟨h4.push { cls:=.type "tuple",data:=.seq #[en.key,en.val] },g,dr,tk,os⟩
  rw [e5,z4]
  unfold Builtin.Dict_items.ownedTupleIsFree
  refine wpAny_bind (wpAny_bind (wpAny_field g5 rfl (x:=.none) rfl (wpAny_pure ?_)))
  simp only [if_true]
  refine wpAny_bind (wpAny_field g5 rfl (x:=ok) rfl (wpAny_bind (wpAny_field g5 rfl (x:=ov) rfl ?_)))
  refine wpAny_bind (wpAny_setField_rec g5 (by simp) fun h6 g6 sb6=>?_)
  have g6:IsItemIter h6 it d (i + 1) es.size ep en.key ov:=g6
  refine wpAny_bind (wpAny_setField_rec g6 (by simp) fun h7 g7 sb7=>?_)
  have g7:IsItemIter h7 it d (i + 1) es.size ep en.key en.val:=g7
  refine wpAny_bind (wpAny_setField_rec g7 (by simp) fun h8 g8 sb8=>?_)
  have g8:IsItemIterOut h8 it d (i + 1) es.size ep en.key en.val h.objs.size:=g8
  refine wpAny_bind (wpAny_setField_rec g8 (by simp) fun h9 g9 sb9=>?_)
  have g9:IsItemIterOut h9 it d (i + 1) es.size ep en.key en.val h.objs.size:=g9
  have s6:Heap.SameBut it h5 h6:=sb6
  have s7:Heap.SameBut it h6 h7:=sb7
  have s8:Heap.SameBut it h7 h8:=sb8
  have s9:Heap.SameBut it h8 h9:=sb9
  have k9:∀ b o,b≠it→h5.get? b=some o→h9.get? b=some o:=fun b o hb q=>s9.extBut b o hb (s8.extBut b o hb (s7.extBut b o hb (s6.extBut b o hb q)))
  refine wpAny_bind (wpAny_letGo (wpAny_pure (wpAny_pure ⟨_,rfl,wpAny_pure (k h9 g9 (k9 _ _ (Nat.ne_of_gt ilt) tu5) ?_ fun b o hb q=>k9 b o hb (k5 b o hb q))⟩)))
  show h9.objs.size=h.objs.size + 1
  rw [s9.1,s8.1,s7.1,s6.1,z5]
theorem items_end {i:Nat} {ok ov:Value} {Q:Option Value→Shared→Prop} (hh:A.handled=none) (hi:IsItemIter s.heap it d i es.size ep ok ov) (h1:s.heap.get? d=some od) (h3:od.data = .dict es ep) (he:es.size≤i)
    (k:∀ h',Heap.ExtBut it s.heap h'→Q none { s with heap:=h' }):wpAny (model prog w) A (pyNext (.ref it)) Q E s:=by
  have ty:s.TypeIs (.ref it) "dict_itemiterator" := ⟨_,hi,rfl⟩
  have own:Builtin.Dict_items.ownsTuple "dict_itemiterator" = true:=by decide
  have nn:¬ (Value.ref d == Value.none)=true:=Bool.false_ne_true
  have ne1:¬ (i:Int) < 0:=by omega
  unfold pyNext
  refine wpAny_bind (wpAny_attempt (wpAny_callSpecial?_slot (name:=Str.ofString "__next__") ty F.slot_dict_itemiterator_next (wpAny_call_entry F.slot_dict_itemiterator_next ty F.entry_dict_itemiterator_next ?_ (F.args_dict_itemiterator_next_1 _))))
  refine wpAny_bind (wpAny_pure (wpAny_bind (wpAny_bind (wpAny_bind (wpAny_typeNameOfWhole_itemiter ty (wpAny_pure (wpAny_bind (wpAny_fieldsOf hi rfl ?_))))))))
  simp only [own,if_true]
  show wpAny (model prog w) A.in1 (if (Value.ref d == Value.none)=true then _ else _) _ _ _
  rw [if_neg nn]
  refine wpAny_bind (wpAny_pure (wpAny_bind (wpAny_dictEntries h1 h3 ?_)))
  rw [if_neg (by simp)]
  refine wpAny_bind (wpAny_pure (wpAny_bind (wpAny_dictEpoch h1 h3 ?_)))
  rw [if_neg (by simp)]
  refine wpAny_pure ?_
  simp only [ne1,if_false,Int.toNat_natCast,Array.getElem?_eq_none he]
  refine wpAny_bind (wpAny_bind (wpAny_typeNameOfWhole_itemiter ty (wpAny_pure ?_)))
  show wpAny _ _ (setField (.ref it) 2 .none >>= _) _ _ s
  refine wpAny_bind (wpAny_setField hi rfl (by simp) ?_)
  unfold newExc newTuple raiseNew
  refine wpAny_bind (wpAny_bind (wpAny_newObj_type (wpAny_bind (m:=firstArgMember _ _) (wpAny_of_eq (a:=Value.none) rfl (wpAny_newObj_type (wpAny_bind (wpAny_handled ?_)) (by size_fits)))) (by size_fits)))
  rw [show A.in1.handled=none from hh]
  refine wpAny_bind (wpAny_pure (wpAny_throw ?_))
  refine wpAny_bind ?_
  refine wpAny_isInstance (T:="StopIteration") (b:=true) ⟨_,Heap.get?_push_size _ rfl,rfl⟩ isSubtype_stop ?_
  have up:=(Heap.SameBut.update s.heap it (Obj.mapFields fun x=>x.setIfInBounds 2 Value.none)).extBut
  exact wpAny_pure (k _ ((up.push _).push _))
end
end L2
namespace L2
open PySem PySem.W PySem.Spec PyProof.Rows
def ViewO (v d:Addr):HO:=.ext fun h=>h.IsItemsView v d
section
variable {X:Cx}
def rItems:V→List V→Hp→VK→Prop:=fun x vs H Q=>∃ d kvs,x = .ref d∧vs = []∧H d=some (.dT kvs)∧∀ v,H v=none→Q (.ref v) (upd H v (ViewO v d))
theorem mt_items:MtR X "dict.items" rItems:=by
  intro pins s σ H x vs v us Q I rx rv h
  obtain ⟨d,kvs,rfl,rfl,hd,q⟩:=h
  cases rx
  have hus:=rv.zero
  subst hus
  obtain ⟨z,lo,xs,rel,o,es,ep,h1,h2,h3,_⟩:=(show ObjOk X.prog X.w H s.heap d (.dT kvs) from I.hok d _ hd)
  refine items_view lo h1 h2 h3 ⟨.ref s.heap.objs.size,_,I.laid (a:=s.heap.objs.size) (o:=ViewO s.heap.objs.size d) (t':=s.toks) (fun b o e=>Heap.get?_push_of_some _ e) (Nat.le_refl _) ⟨⟨_,Heap.get?_push_size _ rfl,rfl,rfl⟩,⟨_,Heap.get?_push_size _ rfl⟩,fun g1 g2 ⟨o',a1,a2,a3⟩ k=>⟨o',k _ a1,a2,a3⟩⟩,rfl,q _ (I.hok.fresh (Nat.le_refl _))⟩
def Itx (d:Addr) (o:Obj) (kvs:List (List Key × V)):It :=
  ⟨fun i H=>H d=some (.frz o (.dT kvs))∧i < kvs.length,
   fun i H x H'=>∃ p kb k v,H p=none∧x = .ref p∧H'=upd H p (.tup [.ref kb,v])∧kvs[i]?=some (k,v)∧H kb=some (.tup (k.map kV)),
   fun i H=>H d=some (.frz o (.dT kvs))∧kvs.length≤i⟩
theorem paired_get {α β:Type} {F:α→β→Prop}:∀ {l₁:List α} {l₂:List β},Paired F l₁ l₂→∀ {i:Nat} {a:α},l₁[i]?=some a→∃ b,l₂[i]?=some b∧F a b
  | _,_,.cons h t,0,a,e=>by cases e; exact ⟨_,rfl,h⟩
  | _,_,.cons h t,i + 1,a,e=>paired_get t (by simpa using e)
theorem turn_items {P:Program} {w:World} {K:PySem.W.Frag} {elts:List Expr} {x1} {pos:Pos} (d it:Addr) {o:Obj} {es:Array DictEntry} {ep:Nat} {kvs:List (List Key × V)} (ho:o.data = .dict es ep) :
    Turn P w K (.Tuple elts x1 pos) (Itx d o kvs) [it] it (fun i h=>∃ ok ov,IsItemIter h it d i es.size ep ok ov) where
  mem:=by simp
  obj:=fun i h ⟨ok,ov,st⟩ b hb=>by
    have e:b=it:=by simpa using hb
    subst e
    exact ⟨_,st,fun v z=>by
      have z':Data.fields _=Data.cell v:=z
      cases z'⟩
  keep:=fun i h h' ⟨ok,ov,st⟩ k=>⟨ok,ov,k it (by simp) _ st⟩
  item:=by
    intro X hP hw hK hc i pins s σ H E I hf ⟨ok,ov,st⟩ hg
    subst hP hw hK
    obtain ⟨e,hlt⟩:=hg
    obtain ⟨g1,z,lo,xs,rel,o',es',ep',g2,g3,g4,g5,g6⟩:=(show ObjOk X.prog X.w H s.heap d (.frz o (.dT kvs)) from I.hok d _ e)
    rw [g1] at g2; cases g2
    rw [ho] at g4; cases g4
    obtain ⟨f0,f1,f2,f3,f4,f5⟩:=hf it (by simp)
    obtain ⟨⟨k2,kb,u⟩,hx,hk1,hk2,hk3⟩:=paired_get rel (List.getElem?_eq_getElem hlt)
    have he:es[i]?=some (entryOfKey (tupleKind (mixKind X.prog X.w)) (k2,kb,u)):=by
      rw [← Array.getElem?_toList,g5,List.getElem?_map,hx]
      rfl
    refine items_next st g1 ho he fun h' io tu sz kp=>⟨_,rfl,wpAny_letOwnedTupleGo_items io fun hh e2 sb2=>?_⟩
    have hfr:H s.heap.objs.size=none:=I.hok.fresh (Nat.le_refl _)
    have lt:it < s.heap.objs.size:=Heap.lt_size st
    have kp2:∀ b q,b≠it→s.heap.get? b=some q→hh.get? b=some q:=fun b q hb r=>(sb2.2 b hb).trans (kp b q hb r)
    have nit:∀ b q,H b=some q→b≠it:=fun b q r z=>by rw [z,f0] at r; cases r
    have tu2:hh.get? s.heap.objs.size=some { cls:=.type "tuple",data:=.seq #[.ref kb,u] }:=(sb2.2 _ (Nat.ne_of_gt lt)).trans tu
    have I1:Inv X pins σ (upd H s.heap.objs.size (.tup [.ref kb,kvs[i].2])) { s with heap:=hh,toks:=s.toks }:=by
      refine I.step (g':=s.gens) (d':=s.drawn) (ch:=[it]) (fun b hb=>?_) (fun b q _ _ hc r _=>kp2 b q (fun z=>hc (by simp [z])) r) (fun b q _ _ hc r _=>⟨q.slots,kp2 b q (fun z=>hc (by simp [z])) r⟩)
        (fun b q _ r n=>by rw [upd_ne (Nat.ne_of_lt (Heap.lt_size r))]; exact n) (fun b q hc r=>⟨q,kp2 b q (fun z=>hc (by simp [z])) r⟩) (fun b ys r=>by rw [upd_ne (ne_of_none r hfr)]; exact r) (fun b q y r=>by rw [upd_ne (ne_of_none r hfr)]; exact r)
        (fun b ps r=>⟨#[],by rw [upd_ne (ne_of_none r hfr),r]; simp⟩) (fun m hm=>?_) (fun b q r=>?_) I.bare
      · have e:b=it:=by simpa using hb
        subst e
        exact ⟨f3,f1,f4,f5⟩
      · obtain ⟨q,es2,ep2,hq,r⟩:=hm
        exact ⟨q,es2,ep2,kp2 _ q (Ne.symm f1) hq,r⟩
      · by_cases hb:b=s.heap.objs.size
        · subst hb
          rw [upd_same] at r
          cases r
          exact ⟨by show 2≤sizeLine; decide,[.ref kb,u],.cons rfl (.cons hk3 .nil),⟨_,tu2,rfl,_,rfl⟩⟩
        · rw [upd_ne hb] at r
          refine (I.hok b q r).stay (fun c y hc t=>?_) (fun c t=>by rw [upd_ne (ne_of_none t hfr)]; exact t) fun c ys t=>by rw [upd_ne (ne_of_none t hfr)]; exact t
          rcases hc with e | e
          · rw [e] at t ⊢; exact kp2 b y (nit b q r) t
          · exact kp2 c y (nit c _ e) t
    refine ⟨.ref s.heap.objs.size,_,I1,rfl,⟨_,kb,kvs[i].1,kvs[i].2,hfr,rfl,rfl,List.getElem?_eq_getElem hlt,hk2⟩,⟨_,_,e2⟩,fun b hb=>?_⟩
    have e:b=it:=by simpa using hb
    subst e
    rw [upd_ne (Nat.ne_of_lt lt)]
    exact f0
  done:=by
    intro X hP hw hK hc i pins s σ H E I hf ⟨ok,ov,st⟩ hg
    subst hP hw hK
    obtain ⟨e,hle⟩:=hg
    obtain ⟨g1,z,lo,xs,rel,o',es',ep',g2,g3,g4,g5,g6⟩:=(show ObjOk X.prog X.w H s.heap d (.frz o (.dT kvs)) from I.hok d _ e)
    rw [g1] at g2; cases g2
    rw [ho] at g4; cases g4
    obtain ⟨f0,f1,f2,f3,f4,f5⟩:=hf it (by simp)
    have hl:es.size=kvs.length:=by
      have:=congrArg List.length g5
      rw [List.length_map,← Paired.length rel] at this
      simpa using this
    exact items_end (I.ok.hd hc) st g1 ho (by omega) fun h' eb=>⟨rfl,I.turned (t':=s.toks) (fun b o hb e=>eb b o hb e) f0 f1 f3 f4 f5⟩
  self:=fun _ _ _ _ _ ⟨_,_,st⟩ h=>kcp_self st h
def iItems (td:TE):TI:=fun σ H R=>td σ H fun x H1=>∃ v d kvs,x = .ref v∧H1 v=some (ViewO v d)∧H1 d=some (.dT kvs)∧∀ o,R (Itx d o kvs) (upd H1 d (.frz o (.dT kvs)))
theorem pi_items {l:Expr} {td:TE} {elts:List Expr} {x1} {tpos:Pos} (hl:PE X l td):PI X (.Tuple elts x1 tpos) l (iItems td):=by
  intro pins s σ H R I h
  refine thn (hl pins s σ H _ I h) fun v s1 ⟨x,H1,I1,r1,q1⟩=>?_
  obtain ⟨w',d,kvs,e,hv,hd,q⟩:=q1
  subst e
  cases r1
  obtain ⟨z,lo,xs,rel,o,es,ep,g1,g3,g4,g5⟩:=(show ObjOk X.prog X.w H1 s1.heap d (.dT kvs) from I1.hok d _ hd)
  obtain ⟨iv,_,_⟩:=(show ObjOk X.prog X.w H1 s1.heap w' (ViewO w' d) from I1.hok w' _ hv)
  have I2:Inv X pins σ (upd H1 d (.frz o (.dT kvs))) s1:=I1.write (t':=s1.toks) (h':=s1.heap) (x:=d) (e:=d) (by rw [hd]; exact True.intro) (.inl rfl) (fun b u _ q=>q) ⟨o,g1⟩ ⟨g1,z,lo,xs,Paired.mapP rel fun p q y=>⟨y.1,by rw [upd_ne (ne_of y.2.1 hd (by intro z; cases z))]; exact y.2.1,y.2.2⟩,o,es,ep,g1,g3,g4,g5⟩
  have hn:(upd H1 d (.frz o (.dT kvs))) s1.heap.objs.size=none:=by
    rw [upd_ne (Ne.symm (Nat.ne_of_lt (Heap.lt_size g1)))]; exact I1.hok.fresh (Nat.le_refl _)
  refine items_iter iv g1 g4 ?_
  refine ⟨s1.heap.objs.size,[s1.heap.objs.size],_,_,_,rfl,I2.kept (t':=s1.toks) fun b o e=>Heap.get?_push_of_some _ e,turn_items d _ g4,⟨_,_,Heap.get?_push_size _ rfl⟩,fun b hb=>?_,q o⟩
  have e:b=s1.heap.objs.size:=by simpa using hb
  subst e
  exact I2.fpOk (Nat.le_refl _) hn
theorem itx_go {d:Addr} {o:Obj} {kvs:List (List Key × V)} {H1:Hp} (h:H1 d=some (.frz o (.dT kvs))):∀ i H,i < kvs.length→Same H1 H→(Itx d o kvs).go i H:=fun i H hi s=>⟨s _ _ h,hi⟩
theorem itx_stop {d:Addr} {o:Obj} {kvs:List (List Key × V)} {H1:Hp} (h:H1 d=some (.frz o (.dT kvs))):∀ H,Same H1 H→(Itx d o kvs).stop kvs.length H:=fun H s=>⟨s _ _ h,Nat.le_refl _⟩
end
end L2
namespace L2
theorem op_catTK {X:Cx} (K:PySem.W.Frag) (hK:X.K=K):OpR X (PySem.binaryOp .Add) (rCatT K):=by
  subst hK
  exact op_catT
end L2
namespace TW
open PySem L2 PyProof.Rows
def noteK (t:T3):List Key × V:=([.inl t.1,.inl t.2.1],.int t.2.2)
structure BookAt (C:Addr) (H:Hp) (p d:Addr) (ts:List T3):Prop where
  ob:∃ dx,H p=some (.ins C dx [("kept",.ref d)])
  di:H d=some (.dT (ts.map noteK))
def NoTup (u:HO):Prop:=∀ xs,u≠.tup xs∧∀ o,u≠.frz o (.tup xs)
theorem nt_lst {ys:List V}:NoTup (.lst ys):=fun xs=>⟨fun e=>(by cases e),fun o e=>(by cases e)⟩
theorem nt_dT {kvs:List (List Key × V)}:NoTup (.dT kvs):=fun xs=>⟨fun e=>(by cases e),fun o e=>(by cases e)⟩
theorem nt_frz {o:Obj} {kvs:List (List Key × V)}:NoTup (.frz o (.dT kvs)):=fun xs=>⟨fun e=>(by cases e),fun o e=>(by cases e)⟩
theorem nt_ins {C dx:Addr} {fs:List (Str × V)}:NoTup (.ins C dx fs):=fun xs=>⟨fun e=>(by cases e),fun o e=>(by cases e)⟩
theorem SqT.past {K:PySem.W.Frag} {H H':Hp} {z a:Addr} {u:HO} {xs:List V} (hz:H z=some u) (nt:NoTup u) (keep:∀ b v,H b=some v→b≠z→H' b=some v) (h:SqT K H a xs):SqT K H' a xs:=by
  rcases h with (h | ⟨o,h⟩) | h
  · exact .inl (.inl (keep _ _ h fun e=>by subst e; rw [hz] at h; exact (nt xs).1 (Option.some.inj h)))
  · exact .inl (.inr ⟨o,keep _ _ h fun e=>by subst e; rw [hz] at h; exact (nt xs).2 o (Option.some.inj h)⟩)
  · exact .inr h
theorem TrisAt.past {K:PySem.W.Frag} {H H':Hp} {z:Addr} {u:HO} {qs:List Addr} {ts:List T3} (hz:H z=some u) (nt:NoTup u) (keep:∀ b v,H b=some v→b≠z→H' b=some v) (h:TrisAt K H qs ts):TrisAt K H' qs ts :=
  ⟨h.1,fun i q t a b=>SqT.past hz nt keep (h.2 i q t a b)⟩
theorem upd_keep {H:Hp} {z:Addr} {o:HO}:∀ b v,H b=some v→b≠z→(upd H z o) b=some v:=fun b v e nb=>by rw [upd_ne nb]; exact e
theorem TrisAt.snoc {K:PySem.W.Frag} {H:Hp} {qs:List Addr} {ts:List T3} {q:Addr} {t:T3} (h:TrisAt K H qs ts) (hq:SqT K H q (t3V t)):TrisAt K H (qs++[q]) (ts++[t]):=by
  refine ⟨by rw [List.length_append,List.length_append,h.1]; rfl,fun i a u ha hu=>?_⟩
  by_cases z:i < qs.length
  · rw [List.getElem?_append_left z] at ha
    rw [List.getElem?_append_left (h.1 ▸ z)] at hu
    exact h.2 i a u ha hu
  · have e:i=qs.length:=by
      have:=(List.getElem?_eq_some_iff.mp ha).1
      rw [List.length_append] at this
      have:i < qs.length + 1:=this
      omega
    subst e
    rw [List.getElem?_concat_length] at ha
    rw [h.1,List.getElem?_concat_length] at hu
    cases ha
    cases hu
    exact hq
theorem TrisAt.nil {K:PySem.W.Frag} {H:Hp}:TrisAt K H [] []:=⟨rfl,fun i q t hq=>by cases hq⟩
def two (f:Bool→Addr):List V:=[.ref (f false),.ref (f true)]
theorem ne_obj {H:Hp} {a b:Addr} {u v:HO} (ha:H a=some u) (hb:H b=some v) (n:u≠v):a≠b:=fun e=>by
  subst e
  rw [ha] at hb
  exact n (Option.some.inj hb)
end TW
namespace L2
open PySem PySem.W PySem.Spec PyProof.Rows
end L2
namespace TW
open PySem L2 PyProof.Rows
theorem comp_opt {J:It} {n:Nat} {cap:List (Option Nat)} {g:TG} {tc:TT} {te:TE} {σ:L2.St} {Qr:Hp→Prop} {H1:Hp} {acc:Addr} (it:Nat→V) (f:Nat→Option V) (hacc:H1 acc=none)
    (go:∀ i H,i < n→Same H1 H→J.go i H) (stop:∀ H,Same H1 H→J.stop n H) (yld:∀ i H x H',i < n→Same H1 H→J.yld i H x H'→H'=H∧x=it i) (hn:n≤1000)
    (step:∀ (i:Nat) (H:Hp) (R:V→Hp→Prop) (S:Hp→Prop),i < n→Same H1 H→(∀ y H',Same H H'→f i=some y→R y H')→(∀ H',Same H H'→f i=none→S H') →
      g (it i) (capSt cap σ) H fun σ2 H2=>tc σ2 H2 fun b H3=>if b=true then te σ2 H3 R else S H3)
    (fin:∀ H,Same H1 H→H acc=some (.lst ((List.range n).filterMap f))→Qr H) :
    ∃ W:Nat→Nat→Hp→Prop,(∃ m,W 0 m (upd H1 acc (.lst [])))∧∀ i m H,W i m H →
      (J.stop i H∧Qr H)∨(J.go i H∧∀ x H',J.yld i H x H'→g x (capSt cap σ) H' fun σ2 H2=>tc σ2 H2 fun b H3=>if b=true then te σ2 H3 fun y H4=>∃ xs,H4 acc=some (.lst xs)∧xs.length < sizeLine ∧
        ∃ m',m' < m∧W (i + 1) m' (upd H4 acc (.lst (xs++[y]))) else ∃ m',m' < m∧W (i + 1) m' H3):=by
  have hlen:∀ i,((List.range i).filterMap f).length≤i:=fun i=>by
    have:=List.length_filterMap_le f (List.range i)
    rwa [List.length_range] at this
  refine comp_by (n:=n) (fun i ys _=>ys=(List.range i).filterMap f) hacc go stop rfl ?_ ?_
  · rintro i ys H hi s hy rfl x H' hx
    obtain ⟨rfl,rfl⟩:=yld i H x H' hi s hx
    have e:(List.range (i + 1)).filterMap f=(List.range i).filterMap f++(f i).toList:=by
      rw [List.range_succ,List.filterMap_append]
      cases h:f i <;> simp [h]
    refine step i H' _ _ hi s (fun y H4 s4 hf=>?_) (fun H3 s3 hf=>?_)
    · refine comp_add hacc hi (s.trans s4) (s4 _ _ hy) (small1000 (Nat.le_trans (hlen i) (Nat.le_trans (Nat.le_of_lt hi) hn))) ?_
      show _=(List.range (i + 1)).filterMap f
      rw [e,hf]
      rfl
    · refine comp_skip hi (s.trans s3) (s3 _ _ hy) ?_
      show _=(List.range (i + 1)).filterMap f
      rw [e,hf]
      simp
  · rintro ys H s hy rfl
    exact fin H s hy
theorem range_filter {α β:Type}:∀ (xs:List α) (F:α→Option β),(List.range xs.length).filterMap (fun i=>xs[i]?.bind F)=xs.filterMap F
  | [],F=>rfl
  | x :: xs,F=>by
    have e:((fun i:Nat=>(x :: xs)[i]?.bind F) ∘ Nat.succ)=fun i=>xs[i]?.bind F:=funext fun i=>by simp
    rw [List.length_cons,List.range_succ_eq_map,List.filterMap_cons,List.filterMap_map,e,range_filter xs F,List.filterMap_cons]
    rfl
def NoLst (u:HO):Prop:=∀ xs,u≠.lst xs∧∀ o,u≠.frz o (.lst xs)
theorem nl_ins {C dx:Addr} {fs:List (Str × V)}:NoLst (.ins C dx fs):=fun xs=>⟨fun e=>(by cases e),fun o e=>(by cases e)⟩
theorem SqL.past {K:PySem.W.Frag} {H H':Hp} {z a:Addr} {u:HO} {xs:List V} (hz:H z=some u) (nt:NoLst u) (keep:∀ b v,H b=some v→b≠z→H' b=some v) (h:SqL K H a xs):SqL K H' a xs:=by
  rcases h with (h | ⟨o,h⟩) | h
  · exact .inl (.inl (keep _ _ h fun e=>by subst e; rw [hz] at h; exact (nt xs).1 (Option.some.inj h)))
  · exact .inl (.inr ⟨o,keep _ _ h fun e=>by subst e; rw [hz] at h; exact (nt xs).2 o (Option.some.inj h)⟩)
  · exact .inr h
end TW
namespace TX
open PySem PySem.StrLaws PySem.Builtin PySem.Builtin.Str
end TX
namespace TX
open PySem PySem.StrLaws PySem.Builtin PySem.Builtin.Str PySem.NumText
end TX
namespace TX
open PySem PySem.StrLaws PySem.Builtin PySem.Builtin.Str
end TX
namespace L2
open PySem PySem.W PySem.Spec PyProof.Rows
end L2
namespace L2
open PySem PySem.W PySem.Spec PyProof.Rows
end L2
namespace L2
open PySem PySem.W PySem.Spec PyProof.Rows
theorem fm_congr {α β:Type} {f g:α→Option β}:∀ {l:List α},(∀ x∈l,f x=g x)→l.filterMap f=l.filterMap g
  | [],_=>rfl
  | x :: l,h=>by
    rw [List.filterMap_cons,List.filterMap_cons,h x (List.mem_cons_self ..),fm_congr fun y hy=>h y (List.mem_cons_of_mem _ hy)]
theorem pick_back {α:Type} (xs:List α):((List.range xs.length).map (fun k=>xs.length - 1 - k)).filterMap (fun i=>xs.toArray[i]?)=xs.reverse:=by
  have h1:(List.range xs.length).map (fun k=>xs.length - 1 - k)=(List.range xs.length).reverse:=by
    refine List.ext_getElem (by simp) fun i h1 h2=>?_
    simp at h1 h2
    simp [List.getElem_reverse]
  rw [h1,List.filterMap_reverse]
  congr 1
  refine List.ext_getElem? fun i=>?_
  have h2:(List.range xs.length).filterMap (fun i=>xs.toArray[i]?)=xs:=by
    have:=TW.range_filter xs (fun x=>some x)
    rw [List.filterMap_some] at this
    refine Eq.trans (fm_congr fun i hi=>?_) this
    rw [List.getElem?_toArray]
    cases xs[i]? <;> rfl
  rw [h2]
theorem slicePick_back (its:List Value):slicePick its.toArray none none (some (-1))=its.reverse.toArray:=by
  unfold slicePick
  congr 1
  have e:sliceBounds none none (some (-1)) its.toArray.size=((its.length:Int) - 1,-1,-1):=by
    simp [sliceBounds]
  rw [e,← pick_back its]
  congr 1
  unfold sliceRange
  by_cases h:its.length=0
  · simp [h]
  · have h1:((its.length:Int) - 1) > -1:=by omega
    have e2:((its.length:Int) - 1 - -1 - -1 - 1) / (- -1)=(its.length:Int):=by
      have:((its.length:Int) - 1 - -1 - -1 - 1)=(its.length:Int):=by omega
      rw [this]
      show (its.length:Int) / 1=_
      exact Int.ediv_one _
    simp only [show ¬ ((-1:Int) > 0) by decide,if_false,h1,if_true,e2,Int.toNat_natCast]
    refine List.map_congr_left fun k hk=>?_
    have:=List.mem_range.mp hk
    omega
section
variable {X:Cx}
def tSlRev (K:PySem.W.Frag) (te:TE) (ts:TO):TE:=fun σ H Q=>te σ H fun x H1=>ts σ H1 fun o H2=>∃ a xs,x = .ref a∧o=some (-1)∧SqL K H2 a xs∧∀ p,H2 p=none→Q (.ref p) (upd H2 p (.lst xs.reverse))
theorem vals_back {xs:List V} {us:List Value} (h:Vals xs us):Vals xs.reverse us.reverse:=by
  induction h with
  | nil=>exact .nil
  | cons r t ih =>
    rw [List.reverse_cons,List.reverse_cons]
    exact ih.append (.cons r .nil)
theorem pe_sliceRev {e st:Expr} {te:TE} {ts:TO} {p2 pos:Pos} (he:PE X e te) (hs:PO X (some st) ts):PE X (.Subscript e (.Slice none none (some st) p2) pos) (tSlRev X.K te ts):=by
  intro pins s σ H Q I h
  refine Subscript_ (thn (he pins s σ H _ I h) fun v s1 ⟨x,H1,I1,r1,q1⟩=>?_)
  refine wpAny_Slice ?_
  rw [evalPart_none]
  refine wpAny_pure ?_
  refine wpAny_pure ?_
  refine thn (hs pins s1 σ H1 _ I1 q1) fun vs s2 ⟨o,H2,I2,po,a,xs,e1,e2,hq,q⟩=>?_
  subst e1 e2
  cases r1
  have I4:Inv X pins σ H2 { s2 with heap:=s2.heap.push { cls:=.type "slice",data:=.fields #[.none,.none,vs] } }:=I2.kept (t':=s2.toks) fun b ob q=>Heap.get?_push_of_some _ q
  obtain ⟨its,r,ht,hz⟩:=I4.list hq
  have hlen:=r.length
  show wpAny (model X.prog X.w) X.A (subscriptTail e (.Slice none none (some st) p2) (.ref a) (.ref s2.heap.objs.size)) (EP X pins σ Q) X.xe { s2 with heap:=s2.heap.push { cls:=.type "slice",data:=.fields #[.none,.none,vs] } }
  refine tail_any (ops:=[.ref a,.ref s2.heap.objs.size]) ht.isList.typeIs slot_list_getitem.lookup ?_ (by with_unfolding_all rfl)
  refine wpAny_getItem_list_slice ht.isList (Heap.IsSliceOf.new ..) .none .none po (by simp) ?_ (by rw [List.size_toArray] <;> omega)
  rw [slicePick_back]
  refine ⟨.ref _,_,I4.laid (t':=s2.toks) (o:=.lst xs.reverse) (fun b ob q=>Heap.get?_push_of_some _ q) (Nat.le_refl _) ?_,rfl,q _ (I4.hok.fresh (Nat.le_refl _))⟩
  exact ⟨by rw [List.length_reverse]; exact hz,its.reverse,0,vals_back r,Heap.get?_push_size _ rfl⟩
end
end L2
namespace TW
open PySem L2 PyProof.Rows
theorem comp_at {K:PySem.W.Frag} {l acc:Addr} {xs:List V} {cap:List (Option Nat)} {g:TG} {tc:TT} {te:TE} {σ:L2.St} {Qr:Hp→Prop} {H1:Hp} (f:Nat→Option V) (hacc:H1 acc=none) (hl:SqL K H1 l xs) (hn:xs.length≤1000)
    (step:∀ (i:Nat) (x:V) (H:Hp) (R:V→Hp→Prop) (S:Hp→Prop),xs[i]?=some x→Same H1 H→(∀ y H',Same H H'→f i=some y→R y H')→(∀ H',Same H H'→f i=none→S H') →
      g x (capSt cap σ) H fun σ2 H2=>tc σ2 H2 fun b H3=>if b=true then te σ2 H3 R else S H3)
    (fin:∀ H,Same H1 H→H acc=some (.lst ((List.range xs.length).filterMap f))→Qr H) :
    ∃ W:Nat→Nat→Hp→Prop,(∃ m,W 0 m (upd H1 acc (.lst [])))∧∀ i m H,W i m H →
      ((Itl K l).stop i H∧Qr H)∨((Itl K l).go i H∧∀ x H',(Itl K l).yld i H x H'→g x (capSt cap σ) H' fun σ2 H2=>tc σ2 H2 fun b H3=>if b=true then te σ2 H3 fun y H4=>∃ xs,H4 acc=some (.lst xs)∧xs.length < sizeLine ∧
        ∃ m',m' < m∧W (i + 1) m' (upd H4 acc (.lst (xs++[y]))) else ∃ m',m' < m∧W (i + 1) m' H3):=by
  refine comp_opt (n:=xs.length) (fun i=>xs.getD i .non) f hacc (itl_go hl) (itl_stop hl) (fun i H x H' hi s hx=>?_) hn (fun i H R S hi s h1 h2=>?_) fin
  · obtain ⟨rfl,hx⟩:=hx
    have hx:=hx _ (s.seq hl)
    exact ⟨rfl,by rw [List.getD_eq_getElem?_getD,hx]; rfl⟩
  · have e:xs.getD i .non=xs[i]:=by rw [List.getD_eq_getElem?_getD,List.getElem?_eq_getElem hi]; rfl
    rw [e]
    exact step i _ H R S (List.getElem?_eq_getElem hi) s h1 h2
theorem range_maps {α β:Type} (xs:List α) (h:α→β):(List.range xs.length).filterMap (fun i=>xs[i]?.map h)=xs.map h:=by
  have e:∀ l:List α,l.filterMap (fun x=>some (h x))=l.map h:=fun l=>by
    induction l with
    | nil=>rfl
    | cons a l ih=>rw [List.filterMap_cons,ih]; rfl
  rw [← e,← range_filter xs (fun x=>some (h x))]
  refine fm_congr fun i _=>?_
  cases xs[i]? <;> rfl
end TW
namespace TW
open PySem L2 PyProof.Rows
inductive Role where
  | net | strands | upright | wires (i:Nat) | rowsO | rows (g:Nat) | booksO | book (g:Nat) | notes (g:Nat)
  | homes | groups | handedO | handed (c:Nat) | letters | posted (i:Nat) | letter (i:Nat) | done (i:Nat) | deeds (i:Nat) | copies
  deriving DecidableEq
structure Own (H:Hp) (loc:Role→Addr) (ob:Role→Option HO):Prop where
  get:∀ r o,ob r=some o→H (loc r)=some o
  inj:∀ r q,ob r≠none→ob q≠none→loc r=loc q→r=q
def setO (ob:Role→Option HO) (r:Role) (o:HO):Role→Option HO:=fun q=>if q=r then some o else ob q
def setL (loc:Role→Addr) (r:Role) (a:Addr):Role→Addr:=fun q=>if q=r then a else loc q
theorem setO_same {ob:Role→Option HO} {r:Role} {o:HO}:setO ob r o r=some o:=if_pos rfl
theorem setO_ne {ob:Role→Option HO} {r q:Role} {o:HO} (h:q≠r):setO ob r o q=ob q:=if_neg h
theorem setL_same {loc:Role→Addr} {r:Role} {a:Addr}:setL loc r a r=a:=if_pos rfl
theorem setL_ne {loc:Role→Addr} {r q:Role} {a:Addr} (h:q≠r):setL loc r a q=loc q:=if_neg h
def Fp (loc:Role→Addr) (ob:Role→Option HO) (b:Addr):Prop:=∃ r,ob r≠none∧loc r=b
section
variable {H H':Hp} {loc:Role→Addr} {ob:Role→Option HO}
theorem Own.mono (h:Own H loc ob) (s:Same H H'):Own H' loc ob:=⟨fun r o e=>s _ _ (h.get r o e),h.inj⟩
theorem Own.keep (h:Own H loc ob) (k:∀ b o,H b=some o→Fp loc ob b→H' b=some o):Own H' loc ob :=
  ⟨fun r o e=>k _ _ (h.get r o e) ⟨r,by rw [e]; exact Option.some_ne_none o,rfl⟩,h.inj⟩
theorem Own.set (h:Own H loc ob) {r:Role} (hr:ob r≠none) (o:HO):Own (upd H (loc r) o) loc (setO ob r o):=by
  have hs:∀ q,setO ob r o q≠none→ob q≠none:=fun q hq=>by
    by_cases e:q=r
    · rw [e]; exact hr
    · rw [setO_ne e] at hq; exact hq
  refine ⟨fun q u e=>?_,fun q q' h1 h2 e=>h.inj q q' (hs q h1) (hs q' h2) e⟩
  by_cases z:q=r
  · subst z
    rw [setO_same] at e
    cases e
    exact upd_same
  · rw [setO_ne z] at e
    rw [upd_ne (fun w=>z (h.inj q r (by rw [e]; exact Option.some_ne_none u) hr w))]
    exact h.get q u e
theorem Own.new (h:Own H loc ob) {p:Addr} (hp:H p=none) (r:Role) (o:HO):Own (upd H p o) (setL loc r p) (setO ob r o):=by
  have ne:∀ q,q≠r→ob q≠none→loc q≠p:=fun q hq hob e=>by
    cases ho:ob q with
    | none=>exact hob ho
    | some u =>
      have:=h.get q u ho
      rw [e,hp] at this
      cases this
  refine ⟨fun q u e=>?_,fun q q' h1 h2 e=>?_⟩
  · by_cases z:q=r
    · subst z
      rw [setO_same] at e
      cases e
      rw [setL_same]
      exact upd_same
    · rw [setO_ne z] at e
      rw [setL_ne z,upd_ne (ne q z (by rw [e]; exact Option.some_ne_none u))]
      exact h.get q u e
  · by_cases z:q=r
    · by_cases z':q'=r
      · rw [z,z']
      · rw [z,setL_same,setL_ne z'] at e
        rw [setO_ne z'] at h2
        exact absurd e.symm (ne q' z' h2)
    · by_cases z':q'=r
      · rw [z',setL_same,setL_ne z] at e
        rw [setO_ne z] at h1
        exact absurd e (ne q z h1)
      · rw [setL_ne z,setL_ne z'] at e
        rw [setO_ne z] at h1
        rw [setO_ne z'] at h2
        exact h.inj q q' h1 h2 e
theorem Own.fpNew (h:Own H loc ob) {p:Addr} {r:Role} {o:HO} {b:Addr} (hb:Fp (setL loc r p) (setO ob r o) b):Fp loc ob b∨b=p:=by
  obtain ⟨q,h1,h2⟩:=hb
  by_cases z:q=r
  · rw [z,setL_same] at h2
    exact .inr h2.symm
  · rw [setO_ne z] at h1
    rw [setL_ne z] at h2
    exact .inl ⟨q,h1,h2⟩
theorem fpSet {r:Role} (hr:ob r≠none) {o:HO} {b:Addr}:Fp loc (setO ob r o) b↔Fp loc ob b:=by
  constructor
  · rintro ⟨q,h1,h2⟩
    refine ⟨q,?_,h2⟩
    by_cases z:q=r
    · rw [z]; exact hr
    · rw [setO_ne z] at h1; exact h1
  · rintro ⟨q,h1,h2⟩
    refine ⟨q,?_,h2⟩
    by_cases z:q=r
    · rw [z,setO_same]; exact Option.some_ne_none o
    · rw [setO_ne z]; exact h1
end
inductive Deed where
  | post (h:Nat) | come (h r:Nat) | hand (h c:Nat) | send (h r w:Nat) | twice (h r:Nat) | lost (h r:Nat)
def Deed.vs:Deed→List V
  | .post h=>[.str "post",.int h]
  | .come h r=>[.str "come",.int h,.int r]
  | .hand h c=>[.str "hand",.int h,.int c]
  | .send h r w=>[.str "send",.int h,.int r,.int w]
  | .twice h r=>[.str "twice",.int h,.int r]
  | .lost h r=>[.str "lost",.int h,.int r]
structure LS where
  s:Nat
  to:Nat
  kd:Int
  grp:Nat
  old:Bool
  done:List Nat
  deeds:List Deed
structure Cp where
  l:Nat
  r:Nat
  w:Nat
  h:Nat
def Cp.vs (c:Cp):List V:=[.int c.l,.int c.r,.int c.w,.int c.h]
structure NS where
  ws:List (List Nat)
  R:Nat→Nat→RM.Row
  ts:Nat→List T3
  homes:List Nat
  groups:List Nat
  had:List (List Nat)
  ls:List LS
  cps:List Cp
structure TQ where
  rq:Nat→List Addr
  dq:Nat→List Addr
  cq:List Addr
structure NC where
  net:Addr
  str:Addr
  book:Addr
  post:Addr
  let0:Addr
  let1:Addr
  let2:Addr
def letO (c:NC) (dx:Addr) (l:LS):HO:=if l.kd=1 then .ins c.let1 dx [("sender",.int l.s),("to",.int l.to)] else .ins c.let2 dx [("sender",.int l.s)]
def desc (c:NC) (dx:Role→Addr) (tp:Addr) (loc:Role→Addr) (q:TQ) (s:NS):Role→Option HO
  | .net=>some (.ins c.net (dx .net) [("town",.ref tp),("strands",.ref (loc .strands)),("rows_by_group",.ref (loc .rowsO)),("books",.ref (loc .booksO)),("homes",.ref (loc .homes)),("groups",.ref (loc .groups)),("handed",.ref (loc .handedO)),("letters",.ref (loc .letters)),("copies",.ref (loc .copies))])
  | .strands=>some (.ins c.str (dx .strands) [("town",.ref tp),("upright",.ref (loc .upright))])
  | .upright=>some (.lst ((List.range s.ws.length).map fun i=>.ref (loc (.wires i))))
  | .wires i=>s.ws[i]?.map fun w=>.lst (natsV w)
  | .rowsO=>some (.lst ((List.range 3).map fun g=>.ref (loc (.rows g))))
  | .rows g=>if g < 3 then some (.lst ((q.rq g).map V.ref)) else none
  | .booksO=>some (.lst ((List.range 3).map fun g=>.ref (loc (.book g))))
  | .book g=>if g < 3 then some (.ins c.book (dx (.book g)) [("kept",.ref (loc (.notes g)))]) else none
  | .notes g=>if g < 3 then some (.dT ((s.ts g).map noteK)) else none
  | .homes=>some (.lst (natsV s.homes))
  | .groups=>some (.lst (natsV s.groups))
  | .handedO=>some (.lst ((List.range s.had.length).map fun i=>.ref (loc (.handed i))))
  | .handed i=>s.had[i]?.map fun w=>.lst (natsV w)
  | .letters=>some (.lst ((List.range s.ls.length).map fun i=>.ref (loc (.posted i))))
  | .posted i=>s.ls[i]?.map fun l=>.ins c.post (dx (.posted i)) [("letter",.ref (loc (.letter i))),("group",.int l.grp),("old",.bl l.old),("done_at",.ref (loc (.done i))),("deeds",.ref (loc (.deeds i)))]
  | .letter i=>s.ls[i]?.map fun l=>letO c (dx (.letter i)) l
  | .done i=>s.ls[i]?.map fun l=>.dK (l.done.map fun h:Nat=>(Sum.inl (h:Int),.bl true))
  | .deeds i=>s.ls[i]?.map fun l=>.lst ((q.dq i).map V.ref)
  | .copies=>some (.lst (q.cq.map V.ref))
mutual
def flatT:PyData→Bool
  | .none=>true
  | .bool _=>true
  | .int _=>true
  | .str _=>true
  | .list _=>false
  | .tuple ds=>flatTs ds
  | .dict _=>true
def flatTs:List PyData→Bool
  | []=>true
  | d :: ds=>flatT d && flatTs ds
end
structure TsAt (K:PySem.W.Frag) (H:Hp) (qs:List Addr) (xs:List (List V)):Prop where
  len:qs.length=xs.length
  at':∀ (i:Nat) q x,qs[i]?=some q→xs[i]?=some x→SqT K H q x
theorem TsAt.mono {K:PySem.W.Frag} {H H':Hp} {qs:List Addr} {xs:List (List V)} (h:TsAt K H qs xs) (k:∀ b x,SqT K H b x→SqT K H' b x):TsAt K H' qs xs:=⟨h.len,fun i q x a b=>k _ _ (h.at' i q x a b)⟩
def rowsL (n:Nat) (R:Nat→RM.Row):List (List V):=(List.range n).map fun i=>RM.rowV (R i)
structure NetTups (K:PySem.W.Frag) (H:Hp) (n:Nat) (q:TQ) (s:NS):Prop where
  rows:∀ g,g < 3→TsAt K H (q.rq g) (rowsL n (s.R g))
  deeds:∀ i l,s.ls[i]?=some l→TsAt K H (q.dq i) (l.deeds.map Deed.vs)
  cps:TsAt K H q.cq (s.cps.map Cp.vs)
theorem NetTups.mono {K:PySem.W.Frag} {H H':Hp} {n:Nat} {q:TQ} {s:NS} (h:NetTups K H n q s) (k:∀ b x,SqT K H b x→SqT K H' b x):NetTups K H' n q s :=
  ⟨fun g hg=>(h.rows g hg).mono k,fun i l e=>(h.deeds i l e).mono k,h.cps.mono k⟩
def NetAt (K:PySem.W.Frag) (c:NC) (H:Hp) (F:Addr→Prop) (p tp:Addr) (n:Nat) (s:NS):Prop :=
  ∃ loc dx q,loc .net=p∧Own H loc (desc c dx tp loc q s)∧(∀ b,F b↔Fp loc (desc c dx tp loc q s) b)∧NetTups K H n q s
structure Step (H:Hp) (F:Addr→Prop) (H':Hp) (F':Addr→Prop):Prop where
  kp:∀ b o,H b=some o→¬ F b→H' b=some o
  fr:∀ b,F' b→F b∨H b=none
theorem desc_noTup {c:NC} {dx:Role→Addr} {tp:Addr} {loc:Role→Addr} {q:TQ} {s:NS} {r:Role} {o:HO} (h:desc c dx tp loc q s r=some o):NoTup o:=by
  have key:∀ {α:Type} {f:α→HO} {x:Option α},(∀ a,NoTup (f a))→x.map f=some o→NoTup o:=fun {α f x} hf e=>by
    cases x with
    | none=>cases e
    | some a=>cases e; exact hf a
  have ins:∀ {C d:Addr} {fs:List (Str × V)},NoTup (.ins C d fs):=nt_ins
  cases r <;> simp only [desc] at h
  all_goals first
    | (cases h; exact nt_ins)
    | (cases h; exact nt_lst)
    | exact key (fun _=>nt_lst) h
    | exact key (fun _=>nt_ins) h
    | (split at h
       · cases h; first | exact nt_lst | exact nt_ins | exact nt_dT
       · cases h)
    | (refine key (fun l=>?_) h; unfold letO; split <;> exact nt_ins)
    | (refine key (fun l=>?_) h; exact fun xs=>⟨fun e=>(by cases e),fun o e=>(by cases e)⟩)
section
variable {K:PySem.W.Frag} {c:NC} {CT:Addr} {H H':Hp} {F F':Addr→Prop} {p tp ln lr:Addr} {n:Nat} {s s':NS} {ns:List Int} {rs:List R5}
theorem NetAt.mono (h:NetAt K c H F p tp n s) (e:Same H H'):NetAt K c H' F p tp n s:=by
  obtain ⟨loc,dx,q,h1,h2,h3,h4⟩:=h
  exact ⟨loc,dx,q,h1,h2.mono e,h3,h4.mono fun b x=>e.seqT⟩
theorem NetAt.noTup (h:NetAt K c H F p tp n s) {b:Addr} {o:HO} (hb:F b) (e:H b=some o):NoTup o:=by
  obtain ⟨loc,dx,q,h1,h2,h3,h4⟩:=h
  obtain ⟨r,hr,rfl⟩:=(h3 b).mp hb
  cases ho:desc c dx tp loc q s r with
  | none=>exact absurd ho hr
  | some u =>
    have:=h2.get r u ho
    rw [e] at this
    cases this
    exact desc_noTup ho
theorem NetAt.there (h:NetAt K c H F p tp n s) {b:Addr} (hb:F b):∃ o,H b=some o:=by
  obtain ⟨loc,dx,q,h1,h2,h3,h4⟩:=h
  obtain ⟨r,hr,rfl⟩:=(h3 b).mp hb
  cases ho:desc c dx tp loc q s r with
  | none=>exact absurd ho hr
  | some u=>exact ⟨u,h2.get r u ho⟩
theorem NetAt.tup (h:NetAt K c H F p tp n s) (kp:∀ b o,H b=some o→¬ F b→H' b=some o) {b:Addr} {x:List V} (e:SqT K H b x):SqT K H' b x:=by
  rcases e with (e | ⟨o,e⟩) | e
  · exact .inl (.inl (kp _ _ e fun z=>(h.noTup z e x).1 rfl))
  · exact .inl (.inr ⟨o,kp _ _ e fun z=>(h.noTup z e x).2 o rfl⟩)
  · exact .inr e
theorem NetAt.keep (h:NetAt K c H F p tp n s) (kp:∀ b o,H b=some o→F b→H' b=some o) (kt:∀ b x,SqT K H b x→SqT K H' b x):NetAt K c H' F p tp n s:=by
  obtain ⟨loc,dx,q,h1,h2,h3,h4⟩:=h
  exact ⟨loc,dx,q,h1,h2.keep fun b o e z=>kp b o e ((h3 b).mpr z),h3,h4.mono kt⟩
end
mutual
theorem Rep.tups {K:PySem.W.Frag} {H H':Hp} (kt:∀ b x,SqT K H b x→SqT K H' b x):∀ {d:PyData} {v:V},flatT d=true→Rep K H d v→Rep K H' d v
  | .none,_,_,h=>h
  | .bool _,_,_,h=>h
  | .int _,_,_,h=>h
  | .str _,_,_,h=>h
  | .list _,_,f,_=>by simp [flatT] at f
  | .tuple ds,_,f,⟨a,vs,e,q,r⟩=>⟨a,vs,e,kt _ _ q,RepAll.tups kt f r⟩
  | .dict _,_,_,h=>h
theorem RepAll.tups {K:PySem.W.Frag} {H H':Hp} (kt:∀ b x,SqT K H b x→SqT K H' b x):∀ {ds:List PyData} {vs:List V},flatTs ds=true→RepAll K H ds vs→RepAll K H' ds vs
  | [],_,_,h=>h
  | d :: ds,_,f,⟨v,r,e,q,t⟩=>by
    have f:(flatT d && flatTs ds)=true:=f
    rw [Bool.and_eq_true] at f
    exact ⟨v,r,e,Rep.tups kt f.1 q,RepAll.tups kt f.2 t⟩
end
theorem ropes_flat:∀ rs:List R5,flatTs (rs.map R5.D)=true
  | []=>rfl
  | r :: rs=>by
    show (flatT r.D && flatTs (rs.map R5.D))=true
    rw [ropes_flat rs]
    rfl
section
variable {K:PySem.W.Frag} {c:NC} {CT:Addr} {H H':Hp} {F F':Addr→Prop} {p tp ln lr:Addr} {n:Nat} {s s':NS} {ns:List Int} {rs:List R5}
theorem TownAt.keep (h:TownAt K CT H tp ln lr ns rs) (k1:∀ b o,H b=some o→b=tp∨b=ln∨b=lr→H' b=some o) (kt:∀ b x,SqT K H b x→SqT K H' b x):TownAt K CT H' tp ln lr ns rs:=by
  obtain ⟨⟨dx,h1⟩,h2,vs,h3,h4⟩:=h
  exact ⟨⟨dx,k1 _ _ h1 (.inl rfl)⟩,k1 _ _ h2 (.inr (.inl rfl)),vs,k1 _ _ h3 (.inr (.inr rfl)),RepAll.tups kt (ropes_flat rs) h4⟩
structure NW (K:PySem.W.Frag) (c:NC) (CT:Addr) (H:Hp) (F:Addr→Prop) (p tp ln lr:Addr) (ns:List Int) (rs:List R5) (s:NS):Prop where
  net:NetAt K c H F p tp ns.length s
  town:TownAt K CT H tp ln lr ns rs
  o1:¬ F tp
  o2:¬ F ln
  o3:¬ F lr
theorem NW.mono (h:NW K c CT H F p tp ln lr ns rs s) (e:Same H H'):NW K c CT H' F p tp ln lr ns rs s:=⟨h.net.mono e,h.town.mono e,h.o1,h.o2,h.o3⟩
theorem NW.done (h:NW K c CT H F p tp ln lr ns rs s) (st:Step H F H' F') (hn:NetAt K c H' F' p tp ns.length s'):NW K c CT H' F' p tp ln lr ns rs s':=by
  have kt:∀ b x,SqT K H b x→SqT K H' b x:=fun b x=>h.net.tup st.kp
  obtain ⟨⟨dx,h1⟩,h2,vs,h3,h4⟩:=id h.town
  have nf:∀ b o,H b=some o→¬ F b→¬ F' b:=fun b o e nb z=>by
    rcases st.fr b z with w | w
    · exact nb w
    · rw [e] at w; cases w
  refine ⟨hn,h.town.keep (fun b o e q=>st.kp b o e ?_) kt,nf _ _ h1 h.o1,nf _ _ h2 h.o2,nf _ _ h3 h.o3⟩
  rcases q with rfl | rfl | rfl
  · exact h.o1
  · exact h.o2
  · exact h.o3
theorem Step.refl' (e:Same H H'):Step H F H' F:=⟨fun b o q _=>e _ _ q,fun b z=>.inl z⟩
theorem Step.trans {H'':Hp} {F'':Addr→Prop} (a:Step H F H' F') (b:Step H' F' H'' F''):Step H F H'' F'':=by
  refine ⟨fun x o e nf=>b.kp x o (a.kp x o e nf) fun z=>?_,fun x z=>?_⟩
  · rcases a.fr x z with w | w
    · exact nf w
    · rw [e] at w; cases w
  · rcases b.fr x z with w | w
    · exact a.fr x w
    · by_cases q:F x
      · exact .inl q
      · refine .inr ?_
        cases hx:H x with
        | none=>rfl
        | some o =>
          have:=a.kp x o hx q
          rw [this] at w
          cases w
end
theorem Own.join {H:Hp} {l1 l2:Role→Addr} {o1 o2:Role→Option HO} (a:Own H l1 o1) (b:Own H l2 o2) (ap:∀ r q,o1 r≠none→o2 q≠none→l1 r≠l2 q) :
    Own H (fun r=>if (o2 r).isSome=true then l2 r else l1 r) (fun r=>if (o2 r).isSome=true then o2 r else o1 r):=by
  have ne:∀ {r},(o2 r).isSome=true→o2 r≠none:=fun {r} h e=>by rw [e] at h; cases h
  refine ⟨fun r o e=>?_,fun r q h1 h2 e=>?_⟩
  · by_cases z:(o2 r).isSome=true
    · rw [if_pos z] at e ⊢
      exact b.get r o e
    · rw [if_neg z] at e ⊢
      exact a.get r o e
  · by_cases z:(o2 r).isSome=true
    · by_cases z':(o2 q).isSome=true
      · simp only [z,z',if_true] at h1 h2 e
        exact b.inj r q h1 h2 e
      · simp only [z,z',if_true,if_false] at h1 h2 e
        exact absurd e.symm (ap q r (by simpa using h2) (ne z))
    · by_cases z':(o2 q).isSome=true
      · simp only [z,z',if_true,if_false] at h1 h2 e
        exact absurd e (ap r q (by simpa using h1) (ne z'))
      · simp only [z,z',if_false] at h1 h2 e
        exact a.inj r q (by simpa using h1) (by simpa using h2) e
structure Bld (H0 H:Hp) (p:Addr) (loc:Role→Addr) (ob:Role→Option HO):Prop where
  own:Own H loc ob
  np:loc .net=p
  hn:ob .net≠none
  kp:∀ b o,H0 b=some o→b≠p→H b=some o
  fr:∀ b,Fp loc ob b→b=p∨H0 b=none
section
variable {H0 H H':Hp} {p:Addr} {loc:Role→Addr} {ob:Role→Option HO}
theorem Bld.free (h:Bld H0 H p loc ob) {a:Addr} (ha:H a=none):H0 a=none:=by
  cases e:H0 a with
  | none=>rfl
  | some o =>
    by_cases z:a=p
    · exfalso
      cases ho:ob .net with
      | none=>exact h.hn ho
      | some u =>
        have:=h.own.get .net u ho
        rw [h.np,← z,ha] at this
        cases this
    · have:=h.kp a o e z
      rw [ha] at this
      cases this
theorem Bld.new (h:Bld H0 H p loc ob) {a:Addr} (ha:H a=none) {r:Role} (hr:r≠.net) (o:HO):Bld H0 (upd H a o) p (setL loc r a) (setO ob r o):=by
  refine ⟨h.own.new ha r o,by rw [setL_ne (Ne.symm hr)]; exact h.np,by rw [setO_ne (Ne.symm hr)]; exact h.hn,fun b u e n=>?_,fun b hb=>?_⟩
  · have:=h.kp b u e n
    rw [upd_ne (ne_of_none this ha)]
    exact this
  · rcases h.own.fpNew hb with z | rfl
    · exact h.fr b z
    · exact .inr (h.free ha)
theorem Bld.put (h:Bld H0 H p loc ob) (o:HO):Bld H0 (upd H p o) p loc (setO ob .net o):=by
  have e:=h.own.set (r:=.net) h.hn o
  rw [h.np] at e
  refine ⟨e,h.np,by rw [setO_same]; exact Option.some_ne_none o,fun b u q n=>?_,fun b hb=>h.fr b ((fpSet h.hn).mp hb)⟩
  rw [upd_ne n]
  exact h.kp b u q n
theorem Own.add {H H':Hp} {loc:Role→Addr} {ob:Role→Option HO} (h:Own H loc ob) (s:Same H H') {a:Addr} (ha:H a=none) {o:HO} (e:H' a=some o) (r:Role):Own H' (setL loc r a) (setO ob r o):=by
  have h1:=h.new ha r o
  refine ⟨fun q u eq=>?_,h1.inj⟩
  by_cases z:q=r
  · subst z
    rw [setO_same] at eq
    cases eq
    rw [setL_same]
    exact e
  · rw [setO_ne z] at eq
    rw [setL_ne z]
    exact s _ _ (h.get q u eq)
theorem Bld.add (h:Bld H0 H p loc ob) (s:Same H H') {a:Addr} (ha:H a=none) {o:HO} (e:H' a=some o) {r:Role} (hr:r≠.net):Bld H0 H' p (setL loc r a) (setO ob r o):=by
  have h1:=h.new ha hr o
  exact ⟨h.own.add s ha e r,h1.np,h1.hn,fun b u q n=>s _ _ (h.kp b u q n),h1.fr⟩
theorem Bld.setR (h:Bld H0 H p loc ob) {r:Role} (hr:ob r≠none) (nr:r≠.net) (o:HO):Bld H0 (upd H (loc r) o) p loc (setO ob r o):=by
  refine ⟨h.own.set hr o,h.np,by rw [setO_ne (Ne.symm nr)]; exact h.hn,fun b u e n=>?_,fun b hb=>h.fr b ((fpSet hr).mp hb)⟩
  have nl:b≠loc r:=fun z=>by
    rcases h.fr (loc r) ⟨r,hr,rfl⟩ with w | w
    · exact n (z.trans w)
    · rw [z,w] at e; cases e
  rw [upd_ne nl]
  exact h.kp b u e n
theorem Bld.ext {loc':Role→Addr} {ob':Role→Option HO} (h:Bld H0 H p loc ob) (h1:∀ r,ob r=ob' r) (h2:∀ r,ob r≠none→loc r=loc' r):Bld H0 H p loc' ob':=by
  have e:ob=ob':=funext h1
  subst e
  refine ⟨⟨fun r o e=>?_,fun r q a b e=>h.own.inj r q a b ?_⟩,?_,h.hn,h.kp,fun b hb=>?_⟩
  · rw [← h2 r (by rw [e]; exact Option.some_ne_none o)]
    exact h.own.get r o e
  · rw [h2 r a,h2 q b]
    exact e
  · rw [← h2 .net h.hn]
    exact h.np
  · obtain ⟨r,a,e⟩:=hb
    exact h.fr b ⟨r,a,(h2 r a).trans e⟩
theorem Bld.join {l2:Role→Addr} {o2:Role→Option HO} (h:Bld H0 H p loc ob) (b:Own H' l2 o2) (n2:o2 .net=none) (fresh:∀ r,o2 r≠none→H (l2 r)=none) (s:Same H H') :
    Bld H0 H' p (fun r=>if (o2 r).isSome=true then l2 r else loc r) (fun r=>if (o2 r).isSome=true then o2 r else ob r):=by
  refine ⟨(h.own.mono s).join b fun r q h1 h2 e=>?_,?_,?_,fun b o e n=>s _ _ (h.kp b o e n),fun x hx=>?_⟩
  · cases ho:ob r with
    | none=>exact h1 ho
    | some u =>
      have:=h.own.get r u ho
      rw [e,fresh q h2] at this
      cases this
  · show (if (o2 .net).isSome=true then _ else _)=p
    rw [n2]
    exact h.np
  · show (if (o2 .net).isSome=true then _ else _)≠none
    rw [n2]
    exact h.hn
  · obtain ⟨r,h1,h2⟩:=hx
    by_cases z:(o2 r).isSome=true
    · simp only [z,if_true] at h1 h2
      rw [← h2]
      exact .inr (h.free (fresh r h1))
    · simp only [z,if_false] at h1 h2
      exact h.fr x ⟨r,by simpa using h1,by simpa using h2⟩
end
def ownR (ns:List Int) (i:Nat):RM.Row:=⟨ns.getD i 0,0,0,-1⟩
def S0 (ns:List Int) (rs:List R5) (cl:List (Nat × Nat)):NS where
  ws:=rs.map fun r=>List.range r.d.toNat
  R:=fun _=>ownR ns
  ts:=fun _=>[]
  homes:=cl.map (·.1)
  groups:=cl.map (·.2)
  had:=cl.map fun _=>[]
  ls:=[]
  cps:=[]
def strO (C dx tp lu:Addr) (ls:List Addr) (ws:List (List Nat)):Role→Option HO
  | .strands=>some (.ins C dx [("town",.ref tp),("upright",.ref lu)])
  | .upright=>some (.lst (ls.map V.ref))
  | .wires i=>ws[i]?.map fun w=>.lst (natsV w)
  | _=>none
def strL (sp lu:Addr) (ls:List Addr):Role→Addr
  | .strands=>sp
  | .upright=>lu
  | .wires i=>ls.getD i 0
  | _=>0
theorem strOwn {H:Hp} {C sp dx tp lu:Addr} {ls:List Addr} {ws:List (List Nat)} (h1:H sp=some (.ins C dx [("town",.ref tp),("upright",.ref lu)])) (h2:H lu=some (.lst (ls.map V.ref))) (hl:ls.length=ws.length)
    (h3:∀ (i:Nat) l w,ls[i]?=some l→ws[i]?=some w→H l=some (.lst (natsV w))) (nd:ls.Nodup) (nu:lu ∉ ls):Own H (strL sp lu ls) (strO C dx tp lu ls ws):=by
  have at':∀ {i:Nat},strO C dx tp lu ls ws (.wires i)≠none→∃ (hi:i < ls.length),strL sp lu ls (.wires i)=ls[i]:=fun {i} h=>by
    have hi:i < ls.length:=by
      rw [hl]
      by_cases z:i < ws.length
      · exact z
      · exact absurd (show (ws[i]?.map fun w=>HO.lst (natsV w))=none by rw [List.getElem?_eq_none (by omega)]; rfl) h
    refine ⟨hi,?_⟩
    show ls.getD i 0=ls[i]
    rw [List.getD_eq_getElem?_getD,List.getElem?_eq_getElem hi]
    rfl
  have wl:∀ {i:Nat} (hi:i < ls.length),∃ w,H ls[i]=some (.lst (natsV w)):=fun {i} hi=>⟨ws[i]'(hl ▸ hi),h3 i _ _ (List.getElem?_eq_getElem hi) (List.getElem?_eq_getElem (hl ▸ hi))⟩
  have d1:sp≠lu:=ne_obj h1 h2 (fun e=>by cases e)
  have d2:∀ {i:Nat} (hi:i < ls.length),sp≠ls[i]:=fun {i} hi=>by
    obtain ⟨w,hw⟩:=wl hi
    exact ne_obj h1 hw (fun e=>by cases e)
  have d3:∀ {i:Nat} (hi:i < ls.length),lu≠ls[i]:=fun {i} hi e=>nu (e ▸ List.getElem_mem hi)
  refine ⟨fun r o e=>?_,fun r q e1 e2 e=>?_⟩
  · cases r <;> first | (cases e; done) | skip
    case strands=>cases e; exact h1
    case upright=>cases e; exact h2
    case wires i =>
      obtain ⟨hi,el⟩:=at' (i:=i) (by rw [e]; exact Option.some_ne_none o)
      have hw:=List.getElem?_eq_getElem (hl ▸ hi:i < ws.length)
      have e:(ws[i]?.map fun w=>HO.lst (natsV w))=some o:=e
      rw [hw] at e
      cases e
      rw [el]
      exact h3 i _ _ (List.getElem?_eq_getElem hi) hw
  · cases r <;> first | exact absurd rfl e1 | skip
    all_goals cases q <;> first | exact absurd rfl e2 | rfl | skip
    case strands.upright=>exact absurd e d1
    case strands.wires i =>
      obtain ⟨hi,el⟩:=at' e2
      exact absurd (e.trans el) (d2 hi)
    case upright.strands=>exact absurd e.symm d1
    case upright.wires i =>
      obtain ⟨hi,el⟩:=at' e2
      exact absurd (e.trans el) (d3 hi)
    case wires.strands i =>
      obtain ⟨hi,el⟩:=at' e1
      exact absurd (e.symm.trans el) (d2 hi)
    case wires.upright i =>
      obtain ⟨hi,el⟩:=at' e1
      exact absurd (e.symm.trans el) (d3 hi)
    case wires.wires i j =>
      obtain ⟨hi,el⟩:=at' e1
      obtain ⟨hj,el'⟩:=at' e2
      rw [el,el'] at e
      have q:ls[i]?=ls[j]?:=by rw [List.getElem?_eq_getElem hi,List.getElem?_eq_getElem hj,e]
      have:=(List.getElem?_inj hi nd).mp q
      rw [this]
end TW
namespace TW
open PySem L2 PyProof.Rows
structure TownOk (ns:List Int) (rs:List R5):Prop where
  nd:ns.Nodup
  ok:∀ r∈rs,r.Ok ns.length
  n1:1≤ns.length
  n10:ns.length≤10
  m20:rs.length≤20
  pos:∀ x∈ns,0≤x
structure NSok (ns:List Int) (rs:List R5) (s:NS):Prop where
  wl:s.ws.length=rs.length
  w4:∀ w∈s.ws,w.length≤4
  fit:∀ g,g < 3→FitAll ns.length rs.length (s.R g)
abbrev liveN (rs:List R5) (ws:List (List Nat)) (g:Nat):List Nat:=liveTo rs ws g rs.length
theorem liveN_lt {rs:List R5} {ws:List (List Nat)} {g:Nat}:∀ k∈liveN rs ws g,k < rs.length:=fun k hk=>List.mem_range.mp (List.mem_filter.mp hk).1
def gNet (ns:List Int) (rs:List R5) (o:TownOk ns rs) (ws:List (List Nat)) (g:Nat):RM.Net:=townNet ns rs (liveN rs ws g) o.nd o.ok liveN_lt
section
variable {K:PySem.W.Frag} {c:NC} {CT:Addr} {H H':Hp} {loc dx:Role→Addr} {q:TQ} {p tp ln lr:Addr} {n:Nat} {s:NS} {ns:List Int} {rs:List R5}
theorem Own.strAt (O:Own H loc (desc c dx tp loc q s)):StrAt c.str H (loc .strands) tp (loc .upright) s.ws:=by
  refine ⟨⟨dx .strands,O.get .strands _ rfl⟩,(List.range s.ws.length).map fun i=>loc (.wires i),?_,by rw [List.length_map,List.length_range],fun i l w e1 e2=>?_⟩
  · have:=O.get .upright _ rfl
    rw [this,List.map_map]
    rfl
  · have hi:=(List.getElem?_eq_some_iff.mp e2).1
    rw [List.getElem?_map,List.getElem?_range hi] at e1
    cases e1
    exact O.get (.wires i) _ (by show (s.ws[i]?.map _)=_; rw [e2]; rfl)
theorem Own.bookAt (O:Own H loc (desc c dx tp loc q s)) {g:Nat} (hg:g < 3):BookAt c.book H (loc (.book g)) (loc (.notes g)) (s.ts g) :=
  ⟨⟨dx (.book g),O.get (.book g) _ (if_pos hg)⟩,O.get (.notes g) _ (if_pos hg)⟩
theorem at_rng {f:Nat→V} {m g:Nat} (h:g < m):atI ((List.range m).map f) (g:Int)=some (f g):=atI_nat (by rw [List.getElem?_map,List.getElem?_range h]; rfl)
theorem TsAt.rowsAt {l:Addr} {qs:List Addr} {R:Nat→RM.Row} (h:TsAt K H qs (rowsL n R)) (hl:SqL K H l (qs.map V.ref)):RowsAt K H l n R:=by
  have e:qs.length=n:=by rw [h.len]; simp [rowsL]
  refine ⟨qs,hl,e,fun i p hp=>h.at' i p _ hp ?_⟩
  have hi:=(List.getElem?_eq_some_iff.mp hp).1
  unfold rowsL
  rw [List.getElem?_map,List.getElem?_range (by omega)]
  rfl
theorem natsV_at {xs:List Nat} {i:Nat} (h:i < xs.length):atI (natsV xs) (i:Int)=some (.int (xs[i]:Nat)):=atI_nat (by rw [List.getElem?_map,List.getElem?_eq_getElem h]; rfl)
end
def updN {α:Type} (f:Nat→α) (i:Nat) (v:α):Nat→α:=fun g=>if g=i then v else f g
theorem updN_same {α:Type} {f:Nat→α} {i:Nat} {v:α}:updN f i v i=v:=if_pos rfl
theorem updN_ne {α:Type} {f:Nat→α} {i g:Nat} {v:α} (h:g≠i):updN f i v g=f g:=if_neg h
theorem Own.ext {H:Hp} {loc loc':Role→Addr} {ob ob':Role→Option HO} (h:Own H loc ob) (h1:∀ r,ob r=ob' r) (h2:∀ r,ob r≠none→loc r=loc' r):Own H loc' ob'∧∀ b,Fp loc ob b↔Fp loc' ob' b:=by
  have e:ob=ob':=funext h1
  subst e
  refine ⟨⟨fun r o e=>?_,fun r q a b e=>h.inj r q a b ?_⟩,fun b=>⟨fun ⟨r,a,e⟩=>⟨r,a,(h2 r a).symm.trans e⟩,fun ⟨r,a,e⟩=>⟨r,a,(h2 r a).trans e⟩⟩⟩
  · rw [← h2 r (by rw [e]; exact Option.some_ne_none o)]
    exact h.get r o e
  · rw [h2 r a,h2 q b]
    exact e
section
variable {K:PySem.W.Frag} {c:NC} {H H':Hp} {F:Addr→Prop} {loc dx:Role→Addr} {q:TQ} {p tp:Addr} {n g:Nat} {s:NS}
theorem net_forget (hp:loc .net=p) (O:Own H loc (desc c dx tp loc q s)) (hF:∀ b,F b↔Fp loc (desc c dx tp loc q s) b) (hT:NetTups K H n q s) (hg:g < 3) {d' dx':Addr} (hd:H d'=none)
    (h1:H' (loc (.book g))=some (.ins c.book dx' [("kept",.ref d')])) (h2:H' d'=some (.dT [])) (kp:∀ b o,H b=some o→b≠loc (.book g)→H' b=some o) :
    ∃ F',NetAt K c H' F' p tp n { s with ts:=updN s.ts g [] }∧Step H F H' F':=by
  have nb:desc c dx tp loc q s (.book g)≠none:=by
    show (if g < 3 then some _ else none)≠none
    rw [if_pos hg]
    exact Option.some_ne_none _
  have hbF:F (loc (.book g)):=(hF _).mpr ⟨.book g,nb,rfl⟩
  have kF:∀ b o,H b=some o→¬ F b→H' b=some o:=fun b o e z=>kp b o e fun w=>z (w ▸ hbF)
  have N0:NetAt K c H F p tp n s:=⟨loc,dx,q,hp,O,hF,hT⟩
  have O1:=O.set nb (.ins c.book dx' [("kept",.ref d')])
  have ndb:d'≠loc (.book g):=fun z=>by
    have:=N0.there hbF
    obtain ⟨o,e⟩:=this
    rw [z,e] at hd
    cases hd
  have hd1:(upd H (loc (.book g)) (.ins c.book dx' [("kept",.ref d')])) d'=none:=by rw [upd_ne ndb]; exact hd
  have O2:=O1.new hd1 (.notes g) (.dT [])
  have O3:Own H' (setL loc (.notes g) d') (setO (setO (desc c dx tp loc q s) (.book g) (.ins c.book dx' [("kept",.ref d')])) (.notes g) (.dT [])):=by
    refine O2.keep fun b o e _=>?_
    by_cases z:b=d'
    · rw [z,upd_same] at e
      cases e
      rw [z]
      exact h2
    · rw [upd_ne z] at e
      by_cases z2:b=loc (.book g)
      · rw [z2,upd_same] at e
        cases e
        rw [z2]
        exact h1
      · rw [upd_ne z2] at e
        exact kp b o e z2
  obtain ⟨O4,F4⟩:=O3.ext (ob':=desc c (fun r=>if r = .book g then dx' else dx r) tp (setL loc (.notes g) d') q { s with ts:=updN s.ts g [] }) (loc':=setL loc (.notes g) d') (fun r=>by
    cases r <;> first | rfl | skip
    · rename_i k
      show setO (desc c dx tp loc q s) (.book g) _ (.book k)=(if k < 3 then some (HO.ins c.book (if Role.book k = .book g then dx' else dx (.book k)) [("kept",.ref (setL loc (.notes g) d' (.notes k)))]) else none)
      by_cases z:k=g
      · subst z
        rw [setO_same,if_pos hg,if_pos rfl,setL_same]
      · have z':Role.book k≠.book g:=fun e=>z (by cases e; rfl)
        have z'':Role.notes k≠.notes g:=fun e=>z (by cases e; rfl)
        rw [setO_ne z',if_neg z',setL_ne z'']
        rfl
    · rename_i k
      show setO (setO (desc c dx tp loc q s) (.book g) _) (.notes g) _ (.notes k)=(if k < 3 then some (HO.dT ((updN s.ts g [] k).map noteK)) else none)
      by_cases z:k=g
      · subst z
        rw [setO_same,if_pos hg,updN_same]
        rfl
      · have z'':Role.notes k≠.notes g:=fun e=>z (by cases e; rfl)
        rw [setO_ne z'',updN_ne z]
        rfl) (fun r _=>rfl)
  refine ⟨Fp _ _,⟨_,_,q,?_,O4,fun b=>Iff.rfl,⟨fun k hk=>(hT.rows k hk).mono fun b x=>N0.tup kF,fun i l e=>(hT.deeds i l e).mono fun b x=>N0.tup kF,hT.cps.mono fun b x=>N0.tup kF⟩⟩,kF,fun b hb=>?_⟩
  · rw [setL_ne (fun z=>by cases z)]
    exact hp
  · rcases O1.fpNew ((F4 b).mpr hb) with z | rfl
    · exact .inl ((hF b).mpr ((fpSet nb).mp z))
    · exact .inr hd
theorem net_row (hp:loc .net=p) (O:Own H loc (desc c dx tp loc q s)) (hF:∀ b,F b↔Fp loc (desc c dx tp loc q s) b) (hT:NetTups K H n q s) (hg:g < 3) {x:Nat} (hx:x < n) {a:Addr} {d:RM.Row} (ha:SqT K H a (RM.rowV d)) :
    ∃ F',NetAt K c (upd H (loc (.rows g)) (.lst (((q.rq g).map V.ref).set x (.ref a)))) F' p tp n { s with R:=updN s.R g (RM.upd (s.R g) x d) }∧Step H F (upd H (loc (.rows g)) (.lst (((q.rq g).map V.ref).set x (.ref a)))) F':=by
  have nb:desc c dx tp loc q s (.rows g)≠none:=by
    show (if g < 3 then some _ else none)≠none
    rw [if_pos hg]
    exact Option.some_ne_none _
  have hbF:F (loc (.rows g)):=(hF _).mpr ⟨.rows g,nb,rfl⟩
  have kF:∀ b o,H b=some o→¬ F b→(upd H (loc (.rows g)) (.lst (((q.rq g).map V.ref).set x (.ref a)))) b=some o:=fun b o e z=>by
    have nw:b≠loc (.rows g):=fun w=>z (w ▸ hbF)
    rw [upd_ne nw]
    exact e
  have N0:NetAt K c H F p tp n s:=⟨loc,dx,q,hp,O,hF,hT⟩
  have kt:∀ {b x},SqT K H b x→_:=fun {b x} e=>N0.tup kF (b:=b) (x:=x) e
  have O1:=O.set nb (.lst (((q.rq g).map V.ref).set x (.ref a)))
  obtain ⟨O4,F4⟩:=O1.ext (ob':=desc c dx tp loc { q with rq:=updN q.rq g ((q.rq g).set x a) } { s with R:=updN s.R g (RM.upd (s.R g) x d) }) (loc':=loc) (fun r=>by
    cases r <;> first | rfl | skip
    rename_i k
    show setO (desc c dx tp loc q s) (.rows g) _ (.rows k)=(if k < 3 then some (HO.lst ((updN q.rq g ((q.rq g).set x a) k).map V.ref)) else none)
    by_cases z:k=g
    · subst z
      rw [setO_same,if_pos hg,updN_same,List.map_set]
    · rw [setO_ne (fun e=>z (by cases e; rfl)),updN_ne z]
      rfl) (fun r _=>rfl)
  refine ⟨Fp _ _,⟨loc,dx,_,hp,O4,fun b=>Iff.rfl,⟨fun k hk=>?_,fun i l e=>(hT.deeds i l e).mono fun b x=>kt,hT.cps.mono fun b x=>kt⟩⟩,kF,fun b hb=>.inl ((hF b).mpr ((fpSet nb).mp ((F4 b).mpr hb)))⟩
  show TsAt K _ (updN q.rq g ((q.rq g).set x a) k) (rowsL n (updN s.R g (RM.upd (s.R g) x d) k))
  by_cases z:k=g
  · subst z
    rw [updN_same,updN_same]
    have h0:=hT.rows k hk
    have hl:(q.rq k).length=n:=by rw [h0.len]; simp [rowsL]
    refine ⟨by rw [List.length_set,hl]; simp [rowsL],fun i b v e1 e2=>?_⟩
    have hi:=(List.getElem?_eq_some_iff.mp e1).1
    rw [List.length_set,hl] at hi
    unfold rowsL at e2
    rw [List.getElem?_map,List.getElem?_range hi] at e2
    cases e2
    rw [List.getElem?_set] at e1
    by_cases w:x=i
    · subst w
      rw [if_pos rfl,if_pos (by rw [hl]; exact hi)] at e1
      cases e1
      have:RM.upd (s.R k) x d x=d:=by unfold RM.upd; rw [if_pos rfl]
      show SqT K _ a (RM.rowV (RM.upd (s.R k) x d x))
      rw [this]
      exact kt ha
    · rw [if_neg w] at e1
      have:RM.upd (s.R k) x d i=s.R k i:=by unfold RM.upd; rw [if_neg (Ne.symm w)]
      show SqT K _ b (RM.rowV (RM.upd (s.R k) x d i))
      rw [this]
      exact kt (h0.at' i b _ e1 (by unfold rowsL; rw [List.getElem?_map,List.getElem?_range hi]; rfl))
  · rw [updN_ne z,updN_ne z]
    exact (hT.rows k hk).mono fun b x=>kt
end
end TW
namespace TW
open PySem L2 PyProof.Rows
section
variable {K:PySem.W.Frag} {c:NC} {H H':Hp} {F:Addr→Prop} {loc dx:Role→Addr} {q:TQ} {p tp:Addr} {n j:Nat} {s:NS}
theorem net_wire (hp:loc .net=p) (O:Own H loc (desc c dx tp loc q s)) (hF:∀ b,F b↔Fp loc (desc c dx tp loc q s) b) (hT:NetTups K H n q s) (hj:j < s.ws.length) {a:Addr} {w:List Nat} {ls:List Addr} (hu:H (loc .upright)=some (.lst (ls.map V.ref))) (ha:H a=none)
    (h1:H' a=some (.lst (natsV w))) (h2:H' (loc .upright)=some (.lst ((ls.map V.ref).set j (.ref a)))) (kp:∀ b o,H b=some o→b≠loc .upright→H' b=some o) :
    ∃ F',NetAt K c H' F' p tp n { s with ws:=s.ws.set j w }∧Step H F H' F':=by
  have nb:desc c dx tp loc q s .upright≠none:=Option.some_ne_none _
  have hbF:F (loc .upright):=(hF _).mpr ⟨.upright,nb,rfl⟩
  have kF:∀ b o,H b=some o→¬ F b→H' b=some o:=fun b o e z=>kp b o e fun w=>z (w ▸ hbF)
  have N0:NetAt K c H F p tp n s:=⟨loc,dx,q,hp,O,hF,hT⟩
  have els:ls.map V.ref=(List.range s.ws.length).map fun i=>V.ref (loc (.wires i)):=by
    have:=O.get .upright _ rfl
    rw [hu] at this
    exact HO.lst.inj (Option.some.inj this)
  have O1:=O.set nb (.lst ((ls.map V.ref).set j (.ref a)))
  have nau:a≠loc .upright:=fun z=>by
    obtain ⟨o,e⟩:=N0.there hbF
    rw [z,e] at ha
    cases ha
  have ha1:(upd H (loc .upright) (.lst ((ls.map V.ref).set j (.ref a)))) a=none:=by rw [upd_ne nau]; exact ha
  have O2:=O1.new ha1 (.wires j) (.lst (natsV w))
  have O3:Own H' (setL loc (.wires j) a) (setO (setO (desc c dx tp loc q s) .upright (.lst ((ls.map V.ref).set j (.ref a)))) (.wires j) (.lst (natsV w))):=by
    refine O2.keep fun b o e _=>?_
    by_cases z:b=a
    · rw [z,upd_same] at e
      cases e
      rw [z]
      exact h1
    · rw [upd_ne z] at e
      by_cases z2:b=loc .upright
      · rw [z2,upd_same] at e
        cases e
        rw [z2]
        exact h2
      · rw [upd_ne z2] at e
        exact kp b o e z2
  obtain ⟨O4,F4⟩:=O3.ext (ob':=desc c dx tp (setL loc (.wires j) a) q { s with ws:=s.ws.set j w }) (loc':=setL loc (.wires j) a) (fun r=>by
    cases r <;> first | rfl | skip
    · show some (HO.lst ((ls.map V.ref).set j (.ref a)))=some (HO.lst ((List.range (s.ws.set j w).length).map fun i=>V.ref (setL loc (.wires j) a (.wires i))))
      rw [els,List.length_set]
      congr 2
      refine List.ext_getElem (by simp) fun i e1 e2=>?_
      simp only [List.length_set,List.length_map,List.length_range] at e1
      rw [List.getElem_set]
      by_cases z:j=i
      · subst z
        simp [setL_same]
      · have z':Role.wires i≠.wires j:=fun e=>z (by cases e; rfl)
        simp [z,setL_ne z']
    · rename_i i
      show setO (setO (desc c dx tp loc q s) .upright _) (.wires j) _ (.wires i)=((s.ws.set j w)[i]?.map fun w=>HO.lst (natsV w))
      by_cases z:i=j
      · subst z
        rw [setO_same,List.getElem?_set,if_pos rfl,if_pos hj]
        rfl
      · rw [setO_ne (fun e=>z (by cases e; rfl)),List.getElem?_set,if_neg (Ne.symm z)]
        rfl) (fun r _=>rfl)
  refine ⟨Fp _ _,⟨_,dx,q,?_,O4,fun b=>Iff.rfl,⟨fun k hk=>(hT.rows k hk).mono fun b x=>N0.tup kF,fun i l e=>(hT.deeds i l e).mono fun b x=>N0.tup kF,hT.cps.mono fun b x=>N0.tup kF⟩⟩,kF,fun b hb=>?_⟩
  · rw [setL_ne (fun z=>by cases z)]
    exact hp
  · rcases O1.fpNew ((F4 b).mpr hb) with z | rfl
    · exact .inl ((hF b).mpr ((fpSet nb).mp z))
    · exact .inr ha
theorem net_copies (hp:loc .net=p) (O:Own H loc (desc c dx tp loc q s)) (hF:∀ b,F b↔Fp loc (desc c dx tp loc q s) b) (hT:NetTups K H n q s) {l:Addr} {qs:List Addr} {cps:List Cp} (hl:H l=some (.lst (qs.map V.ref))) (nl:¬ F l) (hq:TsAt K H qs (cps.map Cp.vs)) :
    ∃ F',NetAt K c (upd H p (.ins c.net (dx .net) [("town",.ref tp),("strands",.ref (loc .strands)),("rows_by_group",.ref (loc .rowsO)),("books",.ref (loc .booksO)),("homes",.ref (loc .homes)),("groups",.ref (loc .groups)),("handed",.ref (loc .handedO)),("letters",.ref (loc .letters)),("copies",.ref l)])) F' p tp n { s with cps:=cps } ∧
      (∀ b o,H b=some o→b≠p→(upd H p (.ins c.net (dx .net) [("town",.ref tp),("strands",.ref (loc .strands)),("rows_by_group",.ref (loc .rowsO)),("books",.ref (loc .booksO)),("homes",.ref (loc .homes)),("groups",.ref (loc .groups)),("handed",.ref (loc .handedO)),("letters",.ref (loc .letters)),("copies",.ref l)])) b=some o)∧F p∧∀ b,F' b→F b∨b=l:=by
  generalize eo:HO.ins c.net (dx .net) [("town",.ref tp),("strands",.ref (loc .strands)),("rows_by_group",.ref (loc .rowsO)),("books",.ref (loc .booksO)),("homes",.ref (loc .homes)),("groups",.ref (loc .groups)),("handed",.ref (loc .handedO)),("letters",.ref (loc .letters)),("copies",.ref l)]=o1
  have nb:desc c dx tp loc q s .net≠none:=Option.some_ne_none _
  have hpF:F p:=(hF _).mpr ⟨.net,nb,hp⟩
  have N0:NetAt K c H F p tp n s:=⟨loc,dx,q,hp,O,hF,hT⟩
  have kp:∀ b o,H b=some o→b≠p→(upd H p o1) b=some o:=fun b o e z=>by rw [upd_ne z]; exact e
  have kt:∀ {b x},SqT K H b x→SqT K (upd H p o1) b x:=fun {b x} e=>N0.tup (fun b o e z=>kp b o e fun w=>z (w ▸ hpF)) e
  have O1:=O.set nb o1
  rw [hp] at O1
  have nlp:l≠p:=fun z=>nl (z ▸ hpF)
  have O2:Own (upd H p o1) (setL loc .copies l) (setO (setO (desc c dx tp loc q s) .net o1) .copies (.lst (qs.map V.ref))):=by
    refine ⟨fun r o e=>?_,fun r r' a b e=>?_⟩
    · by_cases z:r = .copies
      · subst z
        rw [setO_same] at e
        cases e
        rw [setL_same]
        exact kp _ _ hl nlp
      · rw [setO_ne z] at e
        rw [setL_ne z]
        exact O1.get r o e
    · have outl:∀ {r:Role},r≠.copies→setO (desc c dx tp loc q s) .net o1 r≠none→loc r≠l:=fun {r} z h e=>by
        refine nl ((hF _).mpr ⟨r,?_,e⟩)
        by_cases w:r = .net
        · rw [w]; exact nb
        · rw [setO_ne w] at h; exact h
      by_cases z:r = .copies
      · by_cases z':r' = .copies
        · rw [z,z']
        · rw [z,setL_same,setL_ne z'] at e
          rw [setO_ne z'] at b
          exact absurd e.symm (outl z' b)
      · by_cases z':r' = .copies
        · rw [z',setL_same,setL_ne z] at e
          rw [setO_ne z] at a
          exact absurd e (outl z a)
        · rw [setL_ne z,setL_ne z'] at e
          rw [setO_ne z] at a
          rw [setO_ne z'] at b
          exact O1.inj r r' a b e
  obtain ⟨O4,F4⟩:=O2.ext (ob':=desc c dx tp (setL loc .copies l) { q with cq:=qs } { s with cps:=cps }) (loc':=setL loc .copies l) (fun r=>by
    subst eo
    cases r <;> rfl) (fun r _=>rfl)
  refine ⟨Fp _ _,⟨_,dx,_,?_,O4,fun b=>Iff.rfl,⟨fun k hk=>(hT.rows k hk).mono fun b x=>kt,fun i l e=>(hT.deeds i l e).mono fun b x=>kt,hq.mono fun b x=>kt⟩⟩,kp,hpF,fun b hb=>?_⟩
  · rw [setL_ne (fun z=>by cases z)]
    exact hp
  · obtain ⟨r,h1,h2⟩:=(F4 b).mpr hb
    by_cases z:r = .copies
    · rw [z,setL_same] at h2
      exact .inr h2.symm
    · rw [setL_ne z] at h2
      rw [setO_ne z] at h1
      refine .inl ((hF b).mpr ⟨r,?_,h2⟩)
      by_cases w:r = .net
      · rw [w]; exact nb
      · rw [setO_ne w] at h1; exact h1
end
end TW
namespace TW
open PySem L2 PyProof.Rows
open Classical in
noncomputable def Off (H:Hp) (F:Addr→Prop):Hp:=fun b=>if F b then none else H b
section
variable {K:PySem.W.Frag} {c:NC} {CT:Addr} {H H':Hp} {F F' F1 F2 G:Addr→Prop} {p tp ln lr:Addr} {n:Nat} {s:NS} {ns:List Int} {rs:List R5}
theorem off_some {b:Addr} {o:HO} (h:Off H F b=some o):¬ F b∧H b=some o:=by
  unfold Off at h
  by_cases z:F b
  · rw [if_pos z] at h; cases h
  · rw [if_neg z] at h; exact ⟨z,h⟩
theorem off_of {b:Addr} {o:HO} (z:¬ F b) (h:H b=some o):Off H F b=some o:=by
  unfold Off
  rw [if_neg z]
  exact h
theorem off_same:Same (Off H F) H:=fun b o e=>(off_some e).2
theorem off_step (st:Step H F H' F'):Same (Off H F) (Off H' F'):=fun b o e=>by
  obtain ⟨h1,h2⟩:=off_some e
  refine off_of (fun z=>?_) (st.kp b o h2 h1)
  rcases st.fr b z with w | w
  · exact h1 w
  · rw [h2] at w; cases w
theorem off_mono (e:Same H H'):Same (Off H F) (Off H' F):=off_step (Step.refl' e)
theorem off_upd {z:Addr} {o:HO} (nz:¬ F z):Off (upd H z o) F=upd (Off H F) z o:=by
  funext b
  by_cases e:b=z
  · subst e
    rw [upd_same]
    exact off_of nz upd_same
  · rw [upd_ne e]
    unfold Off
    rw [upd_ne e]
theorem Step.with_ (st:Step H F H' F') (G:Addr→Prop):Step H (fun b=>F b∨G b) H' (fun b=>F' b∨G b) :=
  ⟨fun b o e z=>st.kp b o e fun w=>z (.inl w),fun b z=>z.elim (fun w=>(st.fr b w).imp .inl id) (fun w=>.inl (.inr w))⟩
theorem Step.with' (st:Step H F H' F') (G:Addr→Prop):Step H (fun b=>G b∨F b) H' (fun b=>G b∨F' b) :=
  ⟨fun b o e z=>st.kp b o e fun w=>z (.inr w),fun b z=>z.elim (fun w=>.inl (.inl w)) (fun w=>(st.fr b w).imp .inr id)⟩
theorem NetAt.offT (h:NetAt K c H F p tp n s) {b:Addr} {x:List V} (e:SqT K H b x):SqT K (Off H F) b x:=by
  rcases e with (e | ⟨o,e⟩) | e
  · exact .inl (.inl (off_of (fun z=>(h.noTup z e x).1 rfl) e))
  · exact .inl (.inr ⟨o,off_of (fun z=>(h.noTup z e x).2 o rfl) e⟩)
  · exact .inr e
theorem TownAt.nw (hT:TownAt K CT (Off H G) tp ln lr ns rs) (N:NetAt K c H F p tp ns.length s) (sub:∀ b,F b→G b):NW K c CT H F p tp ln lr ns rs s:=by
  obtain ⟨⟨dx,h1⟩,h2,vs,h3,h4⟩:=id hT
  exact ⟨N,hT.mono off_same,fun z=>(off_some h1).1 (sub _ z),fun z=>(off_some h2).1 (sub _ z),fun z=>(off_some h3).1 (sub _ z)⟩
end
structure Nets (K:PySem.W.Frag) (c:NC) (H:Hp) (F1 F2:Addr→Prop) (p1 p2 tp:Addr) (n:Nat) (s1 s2:NS):Prop where
  one:NetAt K c H F1 p1 tp n s1
  two:NetAt K c H F2 p2 tp n s2
  dj:∀ b,F1 b→¬ F2 b
noncomputable abbrev Off2 (H:Hp) (F1 F2:Addr→Prop):Hp:=Off H fun b=>F1 b∨F2 b
section
variable {K:PySem.W.Frag} {c:NC} {CT:Addr} {H H':Hp} {F F' F1 F2 F1' F2':Addr→Prop} {p1 p2 tp ln lr:Addr} {n:Nat} {s1 s2 s1' s2':NS} {ns:List Int} {rs:List R5}
theorem Nets.mono (h:Nets K c H F1 F2 p1 p2 tp n s1 s2) (e:Same H H'):Nets K c H' F1 F2 p1 p2 tp n s1 s2:=⟨h.one.mono e,h.two.mono e,h.dj⟩
theorem Nets.offT (h:Nets K c H F1 F2 p1 p2 tp n s1 s2) {b:Addr} {x:List V} (e:SqT K H b x):SqT K (Off2 H F1 F2) b x:=by
  have nf:∀ {o},H b=some o→¬ NoTup o→¬ (F1 b∨F2 b):=fun {o} e z w=>w.elim (fun y=>z (h.one.noTup y e)) (fun y=>z (h.two.noTup y e))
  rcases e with (e | ⟨o,e⟩) | e
  · exact .inl (.inl (off_of (nf e fun z=>(z x).1 rfl) e))
  · exact .inl (.inr ⟨o,off_of (nf e fun z=>(z x).2 o rfl) e⟩)
  · exact .inr e
theorem Nets.step1 (h:Nets K c H F1 F2 p1 p2 tp n s1 s2) (st:Step H F1 H' F1') (N:NetAt K c H' F1' p1 tp n s1'):Nets K c H' F1' F2 p1 p2 tp n s1' s2:=by
  refine ⟨N,h.two.keep (fun b o e fb=>st.kp b o e fun w=>h.dj b w fb) (fun b x=>h.one.tup st.kp),fun b z w=>?_⟩
  rcases st.fr b z with y | y
  · exact h.dj b y w
  · obtain ⟨o,e⟩:=h.two.there w
    rw [y] at e
    cases e
theorem Nets.step2 (h:Nets K c H F1 F2 p1 p2 tp n s1 s2) (st:Step H F2 H' F2') (N:NetAt K c H' F2' p2 tp n s2'):Nets K c H' F1 F2' p1 p2 tp n s1 s2':=by
  refine ⟨h.one.keep (fun b o e fb=>st.kp b o e fun w=>h.dj b fb w) (fun b x=>h.two.tup st.kp),N,fun b w z=>?_⟩
  rcases st.fr b z with y | y
  · exact h.dj b w y
  · obtain ⟨o,e⟩:=h.one.there w
    rw [y] at e
    cases e
theorem Nets.past (h:Nets K c H F1 F2 p1 p2 tp n s1 s2) {z:Addr} {u o:HO} (hz:Off2 H F1 F2 z=some u) (nt:NoTup u):Nets K c (upd H z o) F1 F2 p1 p2 tp n s1 s2:=by
  obtain ⟨nf,hz'⟩:=off_some hz
  have kt:∀ b x,SqT K H b x→SqT K (upd H z o) b x:=fun b x=>SqT.past hz' nt upd_keep
  exact ⟨h.one.keep (fun b v e fb=>upd_keep b v e fun w=>nf (.inl (w ▸ fb))) kt,h.two.keep (fun b v e fb=>upd_keep b v e fun w=>nf (.inr (w ▸ fb))) kt,h.dj⟩
theorem Nets.nw1 (h:Nets K c H F1 F2 p1 p2 tp ns.length s1 s2) (hT:TownAt K CT (Off2 H F1 F2) tp ln lr ns rs):NW K c CT H F1 p1 tp ln lr ns rs s1:=hT.nw h.one fun b z=>.inl z
theorem Nets.nw2 (h:Nets K c H F1 F2 p1 p2 tp ns.length s1 s2) (hT:TownAt K CT (Off2 H F1 F2) tp ln lr ns rs):NW K c CT H F2 p2 tp ln lr ns rs s2:=hT.nw h.two fun b z=>.inr z
end
def RopL (K:PySem.W.Frag) (H:Hp) (l:Addr) (rs:List R5):Prop:=∃ qs:List Addr,H l=some (.lst (qs.map V.ref))∧TsAt K H qs (rs.map R5.vs)
theorem RopL.keep {K:PySem.W.Frag} {H H':Hp} {l:Addr} {rs:List R5} (h:RopL K H l rs) (k:∀ o,H l=some o→H' l=some o) (kt:∀ b x,SqT K H b x→SqT K H' b x):RopL K H' l rs:=by
  obtain ⟨qs,h1,h2⟩:=h
  exact ⟨qs,k _ h1,h2.mono kt⟩
theorem RopL.ropes {K:PySem.W.Frag} {H:Hp} {l:Addr}:∀ {rs:List R5} {qs:List Addr},TsAt K H qs (rs.map R5.vs)→RepAll K H (rs.map R5.D) (qs.map V.ref)
  | [],[],_=>rfl
  | [],_ :: _,h=>by cases h.len
  | _ :: _,[],h=>by cases h.len
  | r :: rs,q :: qs,h=>⟨.ref q,qs.map V.ref,rfl,Rep.intsT (ns:=r.ns) (h.at' 0 q _ rfl rfl),RopL.ropes (l:=l) ⟨Nat.succ.inj h.len,fun i p x a b=>h.at' (i + 1) p x a b⟩⟩
structure LW (K:PySem.W.Frag) (CT:Addr) (h:Hp) (tp ln lr a0 b0 lv lt lq:Addr) (lg tg:Nat→Addr) (ns:List Int) (rs:List R5) (ws:List (List Nat)) (R:Nat→Nat→RM.Row) (cs:List Int):Prop where
  town:TownAt K CT h tp ln lr ns rs
  nms:h a0=some (.lst (ns.map V.int))
  rps:RopL K h b0 rs
  lvs:h lv=some (.lst ((List.range 3).map fun g=>.ref (lg g)))
  lgs:∀ g,g < 3→h (lg g)=some (.lst (natsV (liveN rs ws g)))
  lts:h lt=some (.lst ((List.range 3).map fun g=>.ref (tg g)))
  tgs:∀ g,g < 3→∃ qs:List Addr,h (tg g)=some (.lst (qs.map V.ref))∧TsAt K h qs (rowsL ns.length (R g))
  cls:h lq=some (.lst (cs.map V.int))
  ne:∀ g,g < 3→tg g≠tp∧tg g≠ln∧tg g≠lr∧tg g≠a0∧tg g≠b0∧tg g≠lv∧tg g≠lt∧tg g≠lq∧∀ k,k < 3→tg g≠lg k
  inj:∀ g k,g < 3→k < 3→tg g=tg k→g=k
section
variable {K:PySem.W.Frag} {CT:Addr} {h h':Hp} {tp ln lr a0 b0 lv lt lq:Addr} {lg tg:Nat→Addr} {ns:List Int} {rs:List R5} {ws:List (List Nat)} {R:Nat→Nat→RM.Row} {cs:List Int}
theorem LW.mono (L:LW K CT h tp ln lr a0 b0 lv lt lq lg tg ns rs ws R cs) (e:Same h h'):LW K CT h' tp ln lr a0 b0 lv lt lq lg tg ns rs ws R cs :=
  ⟨L.town.mono e,e _ _ L.nms,L.rps.keep (fun o z=>e _ _ z) (fun b x=>e.seqT),e _ _ L.lvs,fun g hg=>e _ _ (L.lgs g hg),e _ _ L.lts,fun g hg=>(by
    obtain ⟨qs,h1,h2⟩:=L.tgs g hg
    exact ⟨qs,e _ _ h1,h2.mono fun b x=>e.seqT⟩),e _ _ L.cls,L.ne,L.inj⟩
theorem LW.put (L:LW K CT h tp ln lr a0 b0 lv lt lq lg tg ns rs ws R cs) {g x:Nat} (hg:g < 3) (hx:x < ns.length) {qs:List Addr} {q:Addr} {d:RM.Row} (hq:h (tg g)=some (.lst (qs.map V.ref))) (ht:TsAt K h qs (rowsL ns.length (R g))) (hd:SqT K h q (RM.rowV d)) :
    LW K CT (upd h (tg g) (.lst ((qs.map V.ref).set x (.ref q)))) tp ln lr a0 b0 lv lt lq lg tg ns rs ws (updN R g (RM.upd (R g) x d)) cs:=by
  obtain ⟨n1,n2,n3,n4,n0,n5,n6,n7,n8⟩:=L.ne g hg
  have kt:∀ b y,SqT K h b y→SqT K (upd h (tg g) (.lst ((qs.map V.ref).set x (.ref q)))) b y:=fun b y=>SqT.past hq nt_lst upd_keep
  have kp:∀ {b o},h b=some o→tg g≠b→(upd h (tg g) (.lst ((qs.map V.ref).set x (.ref q)))) b=some o:=fun {b o} e z=>by rw [upd_ne (Ne.symm z)]; exact e
  refine ⟨L.town.keep (fun b o e z=>kp e ?_) kt,kp L.nms n4,L.rps.keep (fun o z=>kp z n0) kt,kp L.lvs n5,fun k hk=>kp (L.lgs k hk) (n8 k hk),kp L.lts n6,fun k hk=>?_,kp L.cls n7,L.ne,L.inj⟩
  · rcases z with rfl | rfl | rfl
    · exact n1
    · exact n2
    · exact n3
  · by_cases z:k=g
    · subst z
      rw [updN_same]
      refine ⟨qs.set x q,by rw [upd_same,List.map_set],?_⟩
      have el:qs.length=ns.length:=by rw [ht.len]; simp [rowsL]
      refine ⟨by simp [el,rowsL],fun i p y e1 e2=>?_⟩
      have hi:=(List.getElem?_eq_some_iff.mp e1).1
      rw [List.length_set,el] at hi
      unfold rowsL at e2
      rw [List.getElem?_map,List.getElem?_range hi] at e2
      cases e2
      rw [List.getElem?_set] at e1
      by_cases w:x=i
      · subst w
        rw [if_pos rfl,if_pos (by omega)] at e1
        cases e1
        show SqT K _ _ (RM.rowV (RM.upd (R k) x d x))
        rw [show RM.upd (R k) x d x=d from if_pos rfl]
        exact kt _ _ hd
      · rw [if_neg w] at e1
        show SqT K _ _ (RM.rowV (RM.upd (R k) x d i))
        rw [show RM.upd (R k) x d i=R k i from if_neg (fun z=>w z.symm)]
        refine kt _ _ (ht.at' i p _ e1 ?_)
        unfold rowsL
        rw [List.getElem?_map,List.getElem?_range hi]
        rfl
    · obtain ⟨qs',h1,h2⟩:=L.tgs k hk
      refine ⟨qs',kp h1 (fun w=>z (L.inj g k hg hk w).symm),?_⟩
      rw [updN_ne z]
      exact h2.mono kt
end
theorem updN_id {α:Type} {f:Nat→α} {i:Nat} {v:α} (h:v=f i):updN f i v=f:=by
  funext g
  by_cases z:g=i
  · subst z
    rw [updN_same,h]
  · rw [updN_ne z]
theorem rmupd_id {f:Nat→RM.Row} {i:Nat} {v:RM.Row} (h:v=f i):RM.upd f i v=f:=by
  funext g
  unfold RM.upd
  by_cases z:g=i
  · rw [if_pos z,h,z]
  · rw [if_neg z]
theorem off_sub {F G:Addr→Prop} {H:Hp} (h:∀ b,F b→G b):Same (Off H G) (Off H F):=fun b o e=>off_of (fun z=>(off_some e).1 (h b z)) (off_some e).2
theorem off_or {F G:Addr→Prop} {H:Hp} {b:Addr} {o:HO} (e:Off H F b=some o) (z:¬ G b):Off H (fun b=>F b∨G b) b=some o:=off_of (fun y=>y.elim (off_some e).1 z) (off_some e).2
theorem off_orT {K:PySem.W.Frag} {F G:Addr→Prop} {H:Hp} (hG:∀ b,G b→∃ ys,H b=some (.lst ys)) {b:Addr} {x:List V} (e:SqT K (Off H F) b x):SqT K (Off H fun b=>F b∨G b) b x:=by
  rcases e with (e | ⟨o,e⟩) | e
  · refine .inl (.inl (off_or e fun z=>?_))
    obtain ⟨ys,h⟩:=hG _ z
    rw [(off_some e).2] at h
    cases h
  · refine .inl (.inr ⟨o,off_or e fun z=>?_⟩)
    obtain ⟨ys,h⟩:=hG _ z
    rw [(off_some e).2] at h
    cases h
  · exact .inr e
theorem off_made {H H0 H':Hp} {F:Addr→Prop} {p:Addr} (t:Same H H0) (np:H p=none) (kp:∀ b o,H0 b=some o→b≠p→H' b=some o) (fr:∀ b,F b→b=p∨H0 b=none):Same H (Off H' F):=fun b o e=>off_of (fun z=>by
  rcases fr b z with rfl | w
  · rw [e] at np; cases np
  · rw [t _ _ e] at w; cases w) (kp b o (t b o e) (ne_of_none e np))
theorem Step.tupL {K:PySem.W.Frag} {H H':Hp} {F F':Addr→Prop} (st:Step H F H' F') (hl:∀ b,F b→∃ ys,H b=some (.lst ys)) {b:Addr} {x:List V} (e:SqT K H b x):SqT K H' b x:=by
  rcases e with (e | ⟨o,e⟩) | e
  · refine .inl (.inl (st.kp _ _ e fun z=>?_))
    obtain ⟨ys,h⟩:=hl _ z
    rw [e] at h
    cases h
  · refine .inl (.inr ⟨o,st.kp _ _ e fun z=>?_⟩)
    obtain ⟨ys,h⟩:=hl _ z
    rw [e] at h
    cases h
  · exact .inr e
end TW
set_option maxHeartbeats 4000000
namespace K27
open PySem L2
def top (i:Nat):Stmt:=PySem.Challenge.pw_knotless_k27_net_calls.main.body.getD i (.Pass ⟨0,0,0,0⟩)
abbrev s_Booku_initu:Stmt:=(inClass (top 2) 0)
abbrev s_Book_notes:Stmt:=(inClass (top 2) 3)
abbrev s_Book_forget:Stmt:=(inClass (top 2) 4)
abbrev s_own_row:Stmt:=(top 11)
abbrev s_offer:Stmt:=(top 12)
abbrev s_due:Stmt:=(top 13)
abbrev s_resting:Stmt:=(top 14)
abbrev s_ups:Stmt:=(top 17)
abbrev s_opens:Stmt:=(top 18)
abbrev s_up_of:Stmt:=(top 20)
abbrev s_Townu_initu:Stmt:=(inClass (top 27) 0)
abbrev s_Town_name:Stmt:=(inClass (top 27) 1)
abbrev s_Town_rope:Stmt:=(inClass (top 27) 2)
abbrev s_Town_ropes_at:Stmt:=(inClass (top 27) 3)
abbrev s_Town_far_end:Stmt:=(inClass (top 27) 4)
abbrev s_Town_lets:Stmt:=(inClass (top 27) 5)
abbrev s_check_names:Stmt:=(top 28)
abbrev s_check_ropes:Stmt:=(top 29)
abbrev s_check_rope:Stmt:=(top 30)
abbrev s_joins_two:Stmt:=(top 31)
abbrev s_Strandsu_initu:Stmt:=(inClass (top 33) 0)
abbrev s_Strands_fall:Stmt:=(inClass (top 33) 1)
abbrev s_Strands_standing:Stmt:=(inClass (top 33) 3)
abbrev s_Strands_live:Stmt:=(inClass (top 33) 5)
abbrev s_wires_of:Stmt:=(top 34)
abbrev s_check_group:Stmt:=(top 35)
abbrev s_Netu_initu:Stmt:=(inClass (top 38) 0)
abbrev s_Net_rows:Stmt:=(inClass (top 38) 1)
abbrev s_Net_live:Stmt:=(inClass (top 38) 2)
abbrev s_Net_opens:Stmt:=(inClass (top 38) 3)
abbrev s_Net_notes:Stmt:=(inClass (top 38) 4)
abbrev s_Net_resting:Stmt:=(inClass (top 38) 5)
abbrev s_Net_row_at:Stmt:=(inClass (top 38) 6)
abbrev s_Net_call:Stmt:=(inClass (top 38) 7)
abbrev s_Net_fall:Stmt:=(inClass (top 38) 8)
abbrev s_Net_place:Stmt:=(inClass (top 38) 10)
abbrev s_Net_had:Stmt:=(inClass (top 38) 11)
abbrev s_Net_flying:Stmt:=(inClass (top 38) 14)
abbrev s_Net_lose_copies:Stmt:=(inClass (top 38) 21)
abbrev s_Net_take_news:Stmt:=(inClass (top 38) 22)
abbrev s_Net_take_news_of_rope:Stmt:=(inClass (top 38) 23)
abbrev s_Net_check_house:Stmt:=(inClass (top 38) 24)
abbrev s_Net_check_caller:Stmt:=(inClass (top 38) 25)
abbrev s_first_rows:Stmt:=(top 39)
abbrev s_check_callers:Stmt:=(top 40)
abbrev s_w_cell_at:Stmt:=(top 42)
abbrev s_w_whole:Stmt:=(top 43)
abbrev s_w_list:Stmt:=(top 44)
abbrev s_w_names:Stmt:=(top 45)
abbrev s_w_ropes:Stmt:=(top 46)
abbrev s_w_callers:Stmt:=(top 47)
abbrev s_w_live:Stmt:=(top 48)
abbrev s_w_due:Stmt:=(top 49)
abbrev s_w_rows_same:Stmt:=(top 50)
abbrev s_w_opens:Stmt:=(top 51)
abbrev s_w_first:Stmt:=(top 52)
abbrev s_w_look:Stmt:=(top 53)
abbrev s_law:Stmt:=(top 54)
theorem sc_Booku_initu:FnScope ["self"] ["self"] (defScope s_Booku_initu):=⟨rfl,rfl,rfl,by decide +kernel,rfl,by decide +kernel,by decide +kernel⟩
theorem sc_Book_notes:FnScope ["self"] ["self"] (defScope s_Book_notes):=⟨rfl,rfl,rfl,by decide +kernel,rfl,by decide +kernel,by decide +kernel⟩
theorem nd_Book_notes_c0:(["noted","rope"]:List Str).Nodup:=by decide +kernel
theorem sc_Book_forget:FnScope ["self"] ["self"] (defScope s_Book_forget):=⟨rfl,rfl,rfl,by decide +kernel,rfl,by decide +kernel,by decide +kernel⟩
theorem sc_own_row:FnScope ["town","house"] ["town","house"] (defScope s_own_row):=⟨rfl,rfl,rfl,by decide +kernel,rfl,by decide +kernel,by decide +kernel⟩
theorem sc_offer:FnScope ["town","row","rope","hops"] ["town","row","rope"] (defScope s_offer):=⟨rfl,rfl,rfl,by decide +kernel,rfl,by decide +kernel,by decide +kernel⟩
theorem sc_due:FnScope ["town","live","rows","house","least","rope","made"] ["town","live","rows","house"] (defScope s_due):=⟨rfl,rfl,rfl,by decide +kernel,rfl,by decide +kernel,by decide +kernel⟩
theorem sc_resting:FnScope ["town","live","rows"] ["town","live","rows"] (defScope s_resting):=⟨rfl,rfl,rfl,by decide +kernel,rfl,by decide +kernel,by decide +kernel⟩
theorem nd_resting_c0:(["house","live","rows","town"]:List Str).Nodup:=by decide +kernel
theorem sc_ups:FnScope ["town","live","rows"] ["town","live","rows"] (defScope s_ups):=⟨rfl,rfl,rfl,by decide +kernel,rfl,by decide +kernel,by decide +kernel⟩
theorem nd_ups_c0:(["house","live","rows","town"]:List Str).Nodup:=by decide +kernel
theorem sc_opens:FnScope ["town","live","rows"] ["town","live","rows"] (defScope s_opens):=⟨rfl,rfl,rfl,by decide +kernel,rfl,by decide +kernel,by decide +kernel⟩
theorem nd_opens_c0:(["up"]:List Str).Nodup:=by decide +kernel
theorem sc_up_of:FnScope ["town","live","rows","house","rope","other"] ["town","live","rows","house"] (defScope s_up_of):=⟨rfl,rfl,rfl,by decide +kernel,rfl,by decide +kernel,by decide +kernel⟩
theorem sc_Townu_initu:FnScope ["self","names","ropes"] ["self","names","ropes"] (defScope s_Townu_initu):=⟨rfl,rfl,rfl,by decide +kernel,rfl,by decide +kernel,by decide +kernel⟩
theorem sc_Town_name:FnScope ["self","house"] ["self","house"] (defScope s_Town_name):=⟨rfl,rfl,rfl,by decide +kernel,rfl,by decide +kernel,by decide +kernel⟩
theorem sc_Town_rope:FnScope ["self","number"] ["self","number"] (defScope s_Town_rope):=⟨rfl,rfl,rfl,by decide +kernel,rfl,by decide +kernel,by decide +kernel⟩
theorem sc_Town_ropes_at:FnScope ["self","house"] ["self","house"] (defScope s_Town_ropes_at):=⟨rfl,rfl,rfl,by decide +kernel,rfl,by decide +kernel,by decide +kernel⟩
theorem nd_Town_ropes_at_c0:(["number","rope","house"]:List Str).Nodup:=by decide +kernel
theorem sc_Town_far_end:FnScope ["self","rope","house","ends"] ["self","rope","house"] (defScope s_Town_far_end):=⟨rfl,rfl,rfl,by decide +kernel,rfl,by decide +kernel,by decide +kernel⟩
theorem sc_Town_lets:FnScope ["self","rope","group"] ["self","rope","group"] (defScope s_Town_lets):=⟨rfl,rfl,rfl,by decide +kernel,rfl,by decide +kernel,by decide +kernel⟩
theorem sc_check_names:FnScope ["names"] ["names"] (defScope s_check_names):=⟨rfl,rfl,rfl,by decide +kernel,rfl,by decide +kernel,by decide +kernel⟩
theorem sc_check_ropes:FnScope ["size","ropes","rope"] ["size","ropes"] (defScope s_check_ropes):=⟨rfl,rfl,rfl,by decide +kernel,rfl,by decide +kernel,by decide +kernel⟩
theorem sc_check_rope:FnScope ["size","rope"] ["size","rope"] (defScope s_check_rope):=⟨rfl,rfl,rfl,by decide +kernel,rfl,by decide +kernel,by decide +kernel⟩
theorem sc_joins_two:FnScope ["size","one","other"] ["size","one","other"] (defScope s_joins_two):=⟨rfl,rfl,rfl,by decide +kernel,rfl,by decide +kernel,by decide +kernel⟩
theorem sc_Strandsu_initu:FnScope ["self","town"] ["self","town"] (defScope s_Strandsu_initu):=⟨rfl,rfl,rfl,by decide +kernel,rfl,by decide +kernel,by decide +kernel⟩
theorem nd_Strandsu_initu_c0:(["rope","town"]:List Str).Nodup:=by decide +kernel
theorem sc_Strands_fall:FnScope ["self","rope","wire","ahead"] ["self","rope","wire"] (defScope s_Strands_fall):=⟨rfl,rfl,rfl,by decide +kernel,rfl,by decide +kernel,by decide +kernel⟩
theorem nd_Strands_fall_c0:(["each","wire"]:List Str).Nodup:=by decide +kernel
theorem sc_Strands_standing:FnScope ["self","rope"] ["self","rope"] (defScope s_Strands_standing):=⟨rfl,rfl,rfl,by decide +kernel,rfl,by decide +kernel,by decide +kernel⟩
theorem sc_Strands_live:FnScope ["self","group"] ["self","group"] (defScope s_Strands_live):=⟨rfl,rfl,rfl,by decide +kernel,rfl,by decide +kernel,by decide +kernel⟩
theorem nd_Strands_live_c0:(["rope","group","self"]:List Str).Nodup:=by decide +kernel
theorem sc_wires_of:FnScope ["town","rope"] ["town","rope"] (defScope s_wires_of):=⟨rfl,rfl,rfl,by decide +kernel,rfl,by decide +kernel,by decide +kernel⟩
theorem sc_check_group:FnScope ["group"] ["group"] (defScope s_check_group):=⟨rfl,rfl,rfl,by decide +kernel,rfl,by decide +kernel,by decide +kernel⟩
theorem sc_Netu_initu:FnScope ["self","town","callers"] ["self","town","callers"] (defScope s_Netu_initu):=⟨rfl,rfl,rfl,by decide +kernel,rfl,by decide +kernel,by decide +kernel⟩
theorem nd_Netu_initu_c0:(["bit","town"]:List Str).Nodup:=by decide +kernel
theorem nd_Netu_initu_c1:(["bit"]:List Str).Nodup:=by decide +kernel
theorem nd_Netu_initu_c2:(["caller"]:List Str).Nodup:=by decide +kernel
theorem nd_Netu_initu_c3:(["caller"]:List Str).Nodup:=by decide +kernel
theorem nd_Netu_initu_c4:(["caller"]:List Str).Nodup:=by decide +kernel
theorem sc_Net_rows:FnScope ["self","group"] ["self","group"] (defScope s_Net_rows):=⟨rfl,rfl,rfl,by decide +kernel,rfl,by decide +kernel,by decide +kernel⟩
theorem sc_Net_live:FnScope ["self","group"] ["self","group"] (defScope s_Net_live):=⟨rfl,rfl,rfl,by decide +kernel,rfl,by decide +kernel,by decide +kernel⟩
theorem sc_Net_opens:FnScope ["self","group"] ["self","group"] (defScope s_Net_opens):=⟨rfl,rfl,rfl,by decide +kernel,rfl,by decide +kernel,by decide +kernel⟩
theorem sc_Net_notes:FnScope ["self","group"] ["self","group"] (defScope s_Net_notes):=⟨rfl,rfl,rfl,by decide +kernel,rfl,by decide +kernel,by decide +kernel⟩
theorem sc_Net_resting:FnScope ["self","group"] ["self","group"] (defScope s_Net_resting):=⟨rfl,rfl,rfl,by decide +kernel,rfl,by decide +kernel,by decide +kernel⟩
theorem sc_Net_row_at:FnScope ["self","house","group"] ["self","house","group"] (defScope s_Net_row_at):=⟨rfl,rfl,rfl,by decide +kernel,rfl,by decide +kernel,by decide +kernel⟩
theorem sc_Net_call:FnScope ["self","house","group","ahead","row"] ["self","house","group"] (defScope s_Net_call):=⟨rfl,rfl,rfl,by decide +kernel,rfl,by decide +kernel,by decide +kernel⟩
theorem sc_Net_fall:FnScope ["self","rope","wire","ended"] ["self","rope","wire"] (defScope s_Net_fall):=⟨rfl,rfl,rfl,by decide +kernel,rfl,by decide +kernel,by decide +kernel⟩
theorem sc_Net_place:FnScope ["self","caller"] ["self","caller"] (defScope s_Net_place):=⟨rfl,rfl,rfl,by decide +kernel,rfl,by decide +kernel,by decide +kernel⟩
theorem sc_Net_had:FnScope ["self","caller"] ["self","caller"] (defScope s_Net_had):=⟨rfl,rfl,rfl,by decide +kernel,rfl,by decide +kernel,by decide +kernel⟩
theorem sc_Net_flying:FnScope ["self"] ["self"] (defScope s_Net_flying):=⟨rfl,rfl,rfl,by decide +kernel,rfl,by decide +kernel,by decide +kernel⟩
theorem sc_Net_lose_copies:FnScope ["self","rope","wire","left","flown"] ["self","rope","wire"] (defScope s_Net_lose_copies):=⟨rfl,rfl,rfl,by decide +kernel,rfl,by decide +kernel,by decide +kernel⟩
theorem sc_Net_take_news:FnScope ["self","group","posted"] ["self","group"] (defScope s_Net_take_news):=⟨rfl,rfl,rfl,by decide +kernel,rfl,by decide +kernel,by decide +kernel⟩
theorem sc_Net_take_news_of_rope:FnScope ["self","rope","group"] ["self","rope"] (defScope s_Net_take_news_of_rope):=⟨rfl,rfl,rfl,by decide +kernel,rfl,by decide +kernel,by decide +kernel⟩
theorem sc_Net_check_house:FnScope ["self","house"] ["self","house"] (defScope s_Net_check_house):=⟨rfl,rfl,rfl,by decide +kernel,rfl,by decide +kernel,by decide +kernel⟩
theorem sc_Net_check_caller:FnScope ["self","caller"] ["self","caller"] (defScope s_Net_check_caller):=⟨rfl,rfl,rfl,by decide +kernel,rfl,by decide +kernel,by decide +kernel⟩
theorem sc_first_rows:FnScope ["town"] ["town"] (defScope s_first_rows):=⟨rfl,rfl,rfl,by decide +kernel,rfl,by decide +kernel,by decide +kernel⟩
theorem nd_first_rows_c0:(["house","town"]:List Str).Nodup:=by decide +kernel
theorem sc_check_callers:FnScope ["town","callers","caller"] ["town","callers"] (defScope s_check_callers):=⟨rfl,rfl,rfl,by decide +kernel,rfl,by decide +kernel,by decide +kernel⟩
theorem sc_w_cell_at:FnScope ["_law_script","_law_k"] ["_law_script","_law_k"] (defScope s_w_cell_at):=⟨rfl,rfl,rfl,by decide +kernel,rfl,by decide +kernel,by decide +kernel⟩
theorem sc_w_whole:FnScope ["_law_found"] ["_law_found"] (defScope s_w_whole):=⟨rfl,rfl,rfl,by decide +kernel,rfl,by decide +kernel,by decide +kernel⟩
theorem sc_w_list:FnScope ["_law_found","_law_ought"] ["_law_found","_law_ought"] (defScope s_w_list):=⟨rfl,rfl,rfl,by decide +kernel,rfl,by decide +kernel,by decide +kernel⟩
theorem nd_w_list_c0:(["_law_one"]:List Str).Nodup:=by decide +kernel
theorem sc_w_names:FnScope ["_law_script","_law_size","_law_names_here","_law_k","_law_cell","_law_name"] ["_law_script","_law_size"] (defScope s_w_names):=⟨rfl,rfl,rfl,by decide +kernel,rfl,by decide +kernel,by decide +kernel⟩
theorem sc_w_ropes:FnScope ["_law_script","_law_size","_law_group","_law_ropes_here","_law_many","_law_k","_law_cell","_law_one","_law_other","_law_rest","_law_cost","_law_lets"] ["_law_script","_law_size","_law_group"] (defScope s_w_ropes):=⟨rfl,rfl,rfl,by decide +kernel,rfl,by decide +kernel,by decide +kernel⟩
theorem sc_w_callers:FnScope ["_law_script","_law_size","_law_group","_law_callers_here","_law_most","_law_k","_law_cell","_law_place"] ["_law_script","_law_size","_law_group"] (defScope s_w_callers):=⟨rfl,rfl,rfl,by decide +kernel,rfl,by decide +kernel,by decide +kernel⟩
theorem sc_w_live:FnScope ["_law_ropes_here","_law_stood","_law_group"] ["_law_ropes_here","_law_stood","_law_group"] (defScope s_w_live):=⟨rfl,rfl,rfl,by decide +kernel,rfl,by decide +kernel,by decide +kernel⟩
theorem nd_w_live_c0:(["_law_k","_law_group","_law_ropes_here","_law_stood"]:List Str).Nodup:=by decide +kernel
theorem sc_w_due:FnScope ["_law_names_here","_law_ropes_here","_law_live_here","_law_rows","_law_house","_law_best","_law_rope","_law_one","_law_other","_law_cost","_law_row"] ["_law_names_here","_law_ropes_here","_law_live_here","_law_rows","_law_house"] (defScope s_w_due):=⟨rfl,rfl,rfl,by decide +kernel,rfl,by decide +kernel,by decide +kernel⟩
theorem sc_w_rows_same:FnScope ["_law_found","_law_ought","_law_row","_law_other"] ["_law_found","_law_ought"] (defScope s_w_rows_same):=⟨rfl,rfl,rfl,by decide +kernel,rfl,by decide +kernel,by decide +kernel⟩
theorem nd_w_rows_same_c0:(["_law_one"]:List Str).Nodup:=by decide +kernel
theorem sc_w_opens:FnScope ["_law_ropes_here","_law_live_here","_law_rows","_law_found","_law_rope","_law_one","_law_other","_law_cost","_law_low","_law_high"] ["_law_ropes_here","_law_live_here","_law_rows"] (defScope s_w_opens):=⟨rfl,rfl,rfl,by decide +kernel,rfl,by decide +kernel,by decide +kernel⟩
theorem sc_w_first:FnScope ["_law_net","_law_callers_here","_law_tables","_law_lives","_law_group","_law_caller","_law_place"] ["_law_net","_law_callers_here","_law_tables","_law_lives"] (defScope s_w_first):=⟨rfl,rfl,rfl,by decide +kernel,rfl,by decide +kernel,by decide +kernel⟩
theorem sc_w_look:FnScope ["_law_net","_law_names_here","_law_ropes_here","_law_tables","_law_lives","_law_group","_law_other","_law_found","_law_rows","_law_some","_law_calm"] ["_law_net","_law_names_here","_law_ropes_here","_law_tables","_law_lives","_law_group"] (defScope s_w_look):=⟨rfl,rfl,rfl,by decide +kernel,rfl,by decide +kernel,by decide +kernel⟩
theorem nd_w_look_c0:(["_law_house","_law_group","_law_lives","_law_names_here","_law_ropes_here","_law_rows"]:List Str).Nodup:=by decide +kernel
theorem sc_law:FnScope ["_law_script","_law_size","_law_group","_law_names_here","_law_ropes_here","_law_callers_here","_law_handed","_law_town","_law_net","_law_some","_law_stood","_law_one","_law_lives","_law_tables","_law_beside","_law_cell","_law_house","_law_ought","_law_fresh"] ["_law_script"] (defScope s_law):=⟨rfl,rfl,rfl,by decide +kernel,rfl,by decide +kernel,by decide +kernel⟩
theorem nd_law_c0:(["_law_rope"]:List Str).Nodup:=by decide +kernel
theorem nd_law_c1:(["_law_one","_law_ropes_here","_law_stood"]:List Str).Nodup:=by decide +kernel
theorem nd_law_c2:(["_law_name"]:List Str).Nodup:=by decide +kernel
theorem nd_law_c3:(["_law_name"]:List Str).Nodup:=by decide +kernel
set_option genInjectivity false in
structure Ad where
  f_Booku_initu:Addr
  d_Booku_initu:FuncData
  f_Book_notes:Addr
  d_Book_notes:FuncData
  f_Book_forget:Addr
  d_Book_forget:FuncData
  f_own_row:Addr
  d_own_row:FuncData
  f_offer:Addr
  d_offer:FuncData
  f_due:Addr
  d_due:FuncData
  f_resting:Addr
  d_resting:FuncData
  f_ups:Addr
  d_ups:FuncData
  f_opens:Addr
  d_opens:FuncData
  f_up_of:Addr
  d_up_of:FuncData
  f_Townu_initu:Addr
  d_Townu_initu:FuncData
  f_Town_name:Addr
  d_Town_name:FuncData
  f_Town_rope:Addr
  d_Town_rope:FuncData
  f_Town_ropes_at:Addr
  d_Town_ropes_at:FuncData
  f_Town_far_end:Addr
  d_Town_far_end:FuncData
  f_Town_lets:Addr
  d_Town_lets:FuncData
  f_check_names:Addr
  d_check_names:FuncData
  f_check_ropes:Addr
  d_check_ropes:FuncData
  f_check_rope:Addr
  d_check_rope:FuncData
  f_joins_two:Addr
  d_joins_two:FuncData
  f_Strandsu_initu:Addr
  d_Strandsu_initu:FuncData
  f_Strands_fall:Addr
  d_Strands_fall:FuncData
  f_Strands_standing:Addr
  d_Strands_standing:FuncData
  f_Strands_live:Addr
  d_Strands_live:FuncData
  f_wires_of:Addr
  d_wires_of:FuncData
  f_check_group:Addr
  d_check_group:FuncData
  f_Netu_initu:Addr
  d_Netu_initu:FuncData
  f_Net_rows:Addr
  d_Net_rows:FuncData
  f_Net_live:Addr
  d_Net_live:FuncData
  f_Net_opens:Addr
  d_Net_opens:FuncData
  f_Net_notes:Addr
  d_Net_notes:FuncData
  f_Net_resting:Addr
  d_Net_resting:FuncData
  f_Net_row_at:Addr
  d_Net_row_at:FuncData
  f_Net_call:Addr
  d_Net_call:FuncData
  f_Net_fall:Addr
  d_Net_fall:FuncData
  f_Net_place:Addr
  d_Net_place:FuncData
  f_Net_had:Addr
  d_Net_had:FuncData
  f_Net_flying:Addr
  d_Net_flying:FuncData
  f_Net_lose_copies:Addr
  d_Net_lose_copies:FuncData
  f_Net_take_news:Addr
  d_Net_take_news:FuncData
  f_Net_take_news_of_rope:Addr
  d_Net_take_news_of_rope:FuncData
  f_Net_check_house:Addr
  d_Net_check_house:FuncData
  f_Net_check_caller:Addr
  d_Net_check_caller:FuncData
  f_first_rows:Addr
  d_first_rows:FuncData
  f_check_callers:Addr
  d_check_callers:FuncData
  f_w_cell_at:Addr
  d_w_cell_at:FuncData
  f_w_whole:Addr
  d_w_whole:FuncData
  f_w_list:Addr
  d_w_list:FuncData
  f_w_names:Addr
  d_w_names:FuncData
  f_w_ropes:Addr
  d_w_ropes:FuncData
  f_w_callers:Addr
  d_w_callers:FuncData
  f_w_live:Addr
  d_w_live:FuncData
  f_w_due:Addr
  d_w_due:FuncData
  f_w_rows_same:Addr
  d_w_rows_same:FuncData
  f_w_opens:Addr
  d_w_opens:FuncData
  f_w_first:Addr
  d_w_first:FuncData
  f_w_look:Addr
  d_w_look:FuncData
  f_law:Addr
  d_law:FuncData
  a_Town:Addr
  a_Strands:Addr
  a_Book:Addr
  a_Net:Addr
  a_NoWire:Addr
  a_NoGroup:Addr
  q_MOST_HOUSES:Tok
  q_MOST_ROPES:Tok
  q_MOST_WIRES:Tok
  q_ALL_GROUPS:Tok
  q_MOST_CALLERS:Tok
  a_GROUP_BITS:Addr
structure Txt (K:PySem.W.Frag) (mg:Str→Option Value) (t:Ad):Prop where
  F_Booku_initu:Fun K "__init__" "Book.__init__" s_Booku_initu t.f_Booku_initu t.d_Booku_initu
  B_Booku_initu:Binds K t.d_Booku_initu ["self"] []
  K_Book:Mk K t.a_Book t.f_Booku_initu
  F_Book_notes:Fun K "notes" "Book.notes" s_Book_notes t.f_Book_notes t.d_Book_notes
  B_Book_notes:Binds K t.d_Book_notes ["self"] []
  m_Book_notes:Meth K t.a_Book "notes" t.f_Book_notes
  F_Book_forget:Fun K "forget" "Book.forget" s_Book_forget t.f_Book_forget t.d_Book_forget
  B_Book_forget:Binds K t.d_Book_forget ["self"] []
  m_Book_forget:Meth K t.a_Book "forget" t.f_Book_forget
  F_own_row:Fun K "own_row" "own_row" s_own_row t.f_own_row t.d_own_row
  B_own_row:Binds K t.d_own_row ["town","house"] []
  g_own_row:mg "own_row" = some (.ref t.f_own_row)
  F_offer:Fun K "offer" "offer" s_offer t.f_offer t.d_offer
  B_offer:Binds K t.d_offer ["town","row","rope"] []
  g_offer:mg "offer" = some (.ref t.f_offer)
  F_due:Fun K "due" "due" s_due t.f_due t.d_due
  B_due:Binds K t.d_due ["town","live","rows","house"] []
  g_due:mg "due" = some (.ref t.f_due)
  F_resting:Fun K "resting" "resting" s_resting t.f_resting t.d_resting
  B_resting:Binds K t.d_resting ["town","live","rows"] []
  g_resting:mg "resting" = some (.ref t.f_resting)
  F_ups:Fun K "ups" "ups" s_ups t.f_ups t.d_ups
  B_ups:Binds K t.d_ups ["town","live","rows"] []
  g_ups:mg "ups" = some (.ref t.f_ups)
  F_opens:Fun K "opens" "opens" s_opens t.f_opens t.d_opens
  B_opens:Binds K t.d_opens ["town","live","rows"] []
  g_opens:mg "opens" = some (.ref t.f_opens)
  F_up_of:Fun K "up_of" "up_of" s_up_of t.f_up_of t.d_up_of
  B_up_of:Binds K t.d_up_of ["town","live","rows","house"] []
  g_up_of:mg "up_of" = some (.ref t.f_up_of)
  F_Townu_initu:Fun K "__init__" "Town.__init__" s_Townu_initu t.f_Townu_initu t.d_Townu_initu
  B_Townu_initu:Binds K t.d_Townu_initu ["self","names","ropes"] []
  K_Town:Mk K t.a_Town t.f_Townu_initu
  F_Town_name:Fun K "name" "Town.name" s_Town_name t.f_Town_name t.d_Town_name
  B_Town_name:Binds K t.d_Town_name ["self","house"] []
  m_Town_name:Meth K t.a_Town "name" t.f_Town_name
  F_Town_rope:Fun K "rope" "Town.rope" s_Town_rope t.f_Town_rope t.d_Town_rope
  B_Town_rope:Binds K t.d_Town_rope ["self","number"] []
  m_Town_rope:Meth K t.a_Town "rope" t.f_Town_rope
  F_Town_ropes_at:Fun K "ropes_at" "Town.ropes_at" s_Town_ropes_at t.f_Town_ropes_at t.d_Town_ropes_at
  B_Town_ropes_at:Binds K t.d_Town_ropes_at ["self","house"] []
  m_Town_ropes_at:Meth K t.a_Town "ropes_at" t.f_Town_ropes_at
  F_Town_far_end:Fun K "far_end" "Town.far_end" s_Town_far_end t.f_Town_far_end t.d_Town_far_end
  B_Town_far_end:Binds K t.d_Town_far_end ["self","rope","house"] []
  m_Town_far_end:Meth K t.a_Town "far_end" t.f_Town_far_end
  F_Town_lets:Fun K "lets" "Town.lets" s_Town_lets t.f_Town_lets t.d_Town_lets
  B_Town_lets:Binds K t.d_Town_lets ["self","rope","group"] []
  m_Town_lets:Meth K t.a_Town "lets" t.f_Town_lets
  F_check_names:Fun K "check_names" "check_names" s_check_names t.f_check_names t.d_check_names
  B_check_names:Binds K t.d_check_names ["names"] []
  g_check_names:mg "check_names" = some (.ref t.f_check_names)
  F_check_ropes:Fun K "check_ropes" "check_ropes" s_check_ropes t.f_check_ropes t.d_check_ropes
  B_check_ropes:Binds K t.d_check_ropes ["size","ropes"] []
  g_check_ropes:mg "check_ropes" = some (.ref t.f_check_ropes)
  F_check_rope:Fun K "check_rope" "check_rope" s_check_rope t.f_check_rope t.d_check_rope
  B_check_rope:Binds K t.d_check_rope ["size","rope"] []
  g_check_rope:mg "check_rope" = some (.ref t.f_check_rope)
  F_joins_two:Fun K "joins_two" "joins_two" s_joins_two t.f_joins_two t.d_joins_two
  B_joins_two:Binds K t.d_joins_two ["size","one","other"] []
  g_joins_two:mg "joins_two" = some (.ref t.f_joins_two)
  F_Strandsu_initu:Fun K "__init__" "Strands.__init__" s_Strandsu_initu t.f_Strandsu_initu t.d_Strandsu_initu
  B_Strandsu_initu:Binds K t.d_Strandsu_initu ["self","town"] []
  K_Strands:Mk K t.a_Strands t.f_Strandsu_initu
  F_Strands_fall:Fun K "fall" "Strands.fall" s_Strands_fall t.f_Strands_fall t.d_Strands_fall
  B_Strands_fall:Binds K t.d_Strands_fall ["self","rope","wire"] []
  m_Strands_fall:Meth K t.a_Strands "fall" t.f_Strands_fall
  F_Strands_standing:Fun K "standing" "Strands.standing" s_Strands_standing t.f_Strands_standing t.d_Strands_standing
  B_Strands_standing:Binds K t.d_Strands_standing ["self","rope"] []
  m_Strands_standing:Meth K t.a_Strands "standing" t.f_Strands_standing
  F_Strands_live:Fun K "live" "Strands.live" s_Strands_live t.f_Strands_live t.d_Strands_live
  B_Strands_live:Binds K t.d_Strands_live ["self","group"] []
  m_Strands_live:Meth K t.a_Strands "live" t.f_Strands_live
  F_wires_of:Fun K "wires_of" "wires_of" s_wires_of t.f_wires_of t.d_wires_of
  B_wires_of:Binds K t.d_wires_of ["town","rope"] []
  g_wires_of:mg "wires_of" = some (.ref t.f_wires_of)
  F_check_group:Fun K "check_group" "check_group" s_check_group t.f_check_group t.d_check_group
  B_check_group:Binds K t.d_check_group ["group"] []
  g_check_group:mg "check_group" = some (.ref t.f_check_group)
  F_Netu_initu:Fun K "__init__" "Net.__init__" s_Netu_initu t.f_Netu_initu t.d_Netu_initu
  B_Netu_initu:Binds K t.d_Netu_initu ["self","town","callers"] []
  K_Net:Mk K t.a_Net t.f_Netu_initu
  F_Net_rows:Fun K "rows" "Net.rows" s_Net_rows t.f_Net_rows t.d_Net_rows
  B_Net_rows:Binds K t.d_Net_rows ["self","group"] []
  m_Net_rows:Meth K t.a_Net "rows" t.f_Net_rows
  F_Net_live:Fun K "live" "Net.live" s_Net_live t.f_Net_live t.d_Net_live
  B_Net_live:Binds K t.d_Net_live ["self","group"] []
  m_Net_live:Meth K t.a_Net "live" t.f_Net_live
  F_Net_opens:Fun K "opens" "Net.opens" s_Net_opens t.f_Net_opens t.d_Net_opens
  B_Net_opens:Binds K t.d_Net_opens ["self","group"] []
  m_Net_opens:Meth K t.a_Net "opens" t.f_Net_opens
  F_Net_notes:Fun K "notes" "Net.notes" s_Net_notes t.f_Net_notes t.d_Net_notes
  B_Net_notes:Binds K t.d_Net_notes ["self","group"] []
  m_Net_notes:Meth K t.a_Net "notes" t.f_Net_notes
  F_Net_resting:Fun K "resting" "Net.resting" s_Net_resting t.f_Net_resting t.d_Net_resting
  B_Net_resting:Binds K t.d_Net_resting ["self","group"] []
  m_Net_resting:Meth K t.a_Net "resting" t.f_Net_resting
  F_Net_row_at:Fun K "row_at" "Net.row_at" s_Net_row_at t.f_Net_row_at t.d_Net_row_at
  B_Net_row_at:Binds K t.d_Net_row_at ["self","house","group"] []
  m_Net_row_at:Meth K t.a_Net "row_at" t.f_Net_row_at
  F_Net_call:Fun K "call" "Net.call" s_Net_call t.f_Net_call t.d_Net_call
  B_Net_call:Binds K t.d_Net_call ["self","house","group"] []
  m_Net_call:Meth K t.a_Net "call" t.f_Net_call
  F_Net_fall:Fun K "fall" "Net.fall" s_Net_fall t.f_Net_fall t.d_Net_fall
  B_Net_fall:Binds K t.d_Net_fall ["self","rope","wire"] []
  m_Net_fall:Meth K t.a_Net "fall" t.f_Net_fall
  F_Net_place:Fun K "place" "Net.place" s_Net_place t.f_Net_place t.d_Net_place
  B_Net_place:Binds K t.d_Net_place ["self","caller"] []
  m_Net_place:Meth K t.a_Net "place" t.f_Net_place
  F_Net_had:Fun K "had" "Net.had" s_Net_had t.f_Net_had t.d_Net_had
  B_Net_had:Binds K t.d_Net_had ["self","caller"] []
  m_Net_had:Meth K t.a_Net "had" t.f_Net_had
  F_Net_flying:Fun K "flying" "Net.flying" s_Net_flying t.f_Net_flying t.d_Net_flying
  B_Net_flying:Binds K t.d_Net_flying ["self"] []
  m_Net_flying:Meth K t.a_Net "flying" t.f_Net_flying
  F_Net_lose_copies:Fun K "lose_copies" "Net.lose_copies" s_Net_lose_copies t.f_Net_lose_copies t.d_Net_lose_copies
  B_Net_lose_copies:Binds K t.d_Net_lose_copies ["self","rope","wire"] []
  m_Net_lose_copies:Meth K t.a_Net "lose_copies" t.f_Net_lose_copies
  F_Net_take_news:Fun K "take_news" "Net.take_news" s_Net_take_news t.f_Net_take_news t.d_Net_take_news
  B_Net_take_news:Binds K t.d_Net_take_news ["self","group"] []
  m_Net_take_news:Meth K t.a_Net "take_news" t.f_Net_take_news
  F_Net_take_news_of_rope:Fun K "take_news_of_rope" "Net.take_news_of_rope" s_Net_take_news_of_rope t.f_Net_take_news_of_rope t.d_Net_take_news_of_rope
  B_Net_take_news_of_rope:Binds K t.d_Net_take_news_of_rope ["self","rope"] []
  m_Net_take_news_of_rope:Meth K t.a_Net "take_news_of_rope" t.f_Net_take_news_of_rope
  F_Net_check_house:Fun K "check_house" "Net.check_house" s_Net_check_house t.f_Net_check_house t.d_Net_check_house
  B_Net_check_house:Binds K t.d_Net_check_house ["self","house"] []
  m_Net_check_house:Meth K t.a_Net "check_house" t.f_Net_check_house
  F_Net_check_caller:Fun K "check_caller" "Net.check_caller" s_Net_check_caller t.f_Net_check_caller t.d_Net_check_caller
  B_Net_check_caller:Binds K t.d_Net_check_caller ["self","caller"] []
  m_Net_check_caller:Meth K t.a_Net "check_caller" t.f_Net_check_caller
  F_first_rows:Fun K "first_rows" "first_rows" s_first_rows t.f_first_rows t.d_first_rows
  B_first_rows:Binds K t.d_first_rows ["town"] []
  g_first_rows:mg "first_rows" = some (.ref t.f_first_rows)
  F_check_callers:Fun K "check_callers" "check_callers" s_check_callers t.f_check_callers t.d_check_callers
  B_check_callers:Binds K t.d_check_callers ["town","callers"] []
  g_check_callers:mg "check_callers" = some (.ref t.f_check_callers)
  F_w_cell_at:Fun K "_law_cell_at" "_law_cell_at" s_w_cell_at t.f_w_cell_at t.d_w_cell_at
  B_w_cell_at:Binds K t.d_w_cell_at ["_law_script","_law_k"] []
  g_w_cell_at:mg "_law_cell_at" = some (.ref t.f_w_cell_at)
  F_w_whole:Fun K "_law_whole" "_law_whole" s_w_whole t.f_w_whole t.d_w_whole
  B_w_whole:Binds K t.d_w_whole ["_law_found"] []
  g_w_whole:mg "_law_whole" = some (.ref t.f_w_whole)
  F_w_list:Fun K "_law_list" "_law_list" s_w_list t.f_w_list t.d_w_list
  B_w_list:Binds K t.d_w_list ["_law_found","_law_ought"] []
  g_w_list:mg "_law_list" = some (.ref t.f_w_list)
  F_w_names:Fun K "_law_names" "_law_names" s_w_names t.f_w_names t.d_w_names
  B_w_names:Binds K t.d_w_names ["_law_script","_law_size"] []
  g_w_names:mg "_law_names" = some (.ref t.f_w_names)
  F_w_ropes:Fun K "_law_ropes" "_law_ropes" s_w_ropes t.f_w_ropes t.d_w_ropes
  B_w_ropes:Binds K t.d_w_ropes ["_law_script","_law_size","_law_group"] []
  g_w_ropes:mg "_law_ropes" = some (.ref t.f_w_ropes)
  F_w_callers:Fun K "_law_callers" "_law_callers" s_w_callers t.f_w_callers t.d_w_callers
  B_w_callers:Binds K t.d_w_callers ["_law_script","_law_size","_law_group"] []
  g_w_callers:mg "_law_callers" = some (.ref t.f_w_callers)
  F_w_live:Fun K "_law_live" "_law_live" s_w_live t.f_w_live t.d_w_live
  B_w_live:Binds K t.d_w_live ["_law_ropes_here","_law_stood","_law_group"] []
  g_w_live:mg "_law_live" = some (.ref t.f_w_live)
  F_w_due:Fun K "_law_due" "_law_due" s_w_due t.f_w_due t.d_w_due
  B_w_due:Binds K t.d_w_due ["_law_names_here","_law_ropes_here","_law_live_here","_law_rows","_law_house"] []
  g_w_due:mg "_law_due" = some (.ref t.f_w_due)
  F_w_rows_same:Fun K "_law_rows_same" "_law_rows_same" s_w_rows_same t.f_w_rows_same t.d_w_rows_same
  B_w_rows_same:Binds K t.d_w_rows_same ["_law_found","_law_ought"] []
  g_w_rows_same:mg "_law_rows_same" = some (.ref t.f_w_rows_same)
  F_w_opens:Fun K "_law_opens" "_law_opens" s_w_opens t.f_w_opens t.d_w_opens
  B_w_opens:Binds K t.d_w_opens ["_law_ropes_here","_law_live_here","_law_rows"] []
  g_w_opens:mg "_law_opens" = some (.ref t.f_w_opens)
  F_w_first:Fun K "_law_first" "_law_first" s_w_first t.f_w_first t.d_w_first
  B_w_first:Binds K t.d_w_first ["_law_net","_law_callers_here","_law_tables","_law_lives"] []
  g_w_first:mg "_law_first" = some (.ref t.f_w_first)
  F_w_look:Fun K "_law_look" "_law_look" s_w_look t.f_w_look t.d_w_look
  B_w_look:Binds K t.d_w_look ["_law_net","_law_names_here","_law_ropes_here","_law_tables","_law_lives","_law_group"] []
  g_w_look:mg "_law_look" = some (.ref t.f_w_look)
  F_law:Fun K "law" "law" s_law t.f_law t.d_law
  B_law:Binds K t.d_law ["_law_script"] []
  g_law:mg "law" = some (.ref t.f_law)
  c_Town:Cls K t.a_Town
  g_Town:mg "Town" = some (.ref t.a_Town)
  n_Town_house_names:NoAttr K t.a_Town "house_names"
  n_Town_rope_tuples:NoAttr K t.a_Town "rope_tuples"
  n_Town_size:NoAttr K t.a_Town "size"
  n_Town_many:NoAttr K t.a_Town "many"
  c_Strands:Cls K t.a_Strands
  g_Strands:mg "Strands" = some (.ref t.a_Strands)
  n_Strands_town:NoAttr K t.a_Strands "town"
  n_Strands_upright:NoAttr K t.a_Strands "upright"
  c_Book:Cls K t.a_Book
  g_Book:mg "Book" = some (.ref t.a_Book)
  n_Book_kept:NoAttr K t.a_Book "kept"
  c_Net:Cls K t.a_Net
  g_Net:mg "Net" = some (.ref t.a_Net)
  n_Net_town:NoAttr K t.a_Net "town"
  n_Net_strands:NoAttr K t.a_Net "strands"
  n_Net_rows_by_group:NoAttr K t.a_Net "rows_by_group"
  n_Net_books:NoAttr K t.a_Net "books"
  n_Net_homes:NoAttr K t.a_Net "homes"
  n_Net_groups:NoAttr K t.a_Net "groups"
  n_Net_handed:NoAttr K t.a_Net "handed"
  n_Net_letters:NoAttr K t.a_Net "letters"
  n_Net_copies:NoAttr K t.a_Net "copies"
  ga_opens_opens:mg "opens_opens" = some (.ref t.f_opens)
  ga_resting_rows:mg "resting_rows" = some (.ref t.f_resting)
  g_NoWire:mg "NoWire" = some (.ref t.a_NoWire)
  x_NoWire:ExcC K t.a_NoWire
  g_NoGroup:mg "NoGroup" = some (.ref t.a_NoGroup)
  x_NoGroup:ExcC K t.a_NoGroup
  k_MOST_HOUSES:mg "MOST_HOUSES" = some (.int 10 t.q_MOST_HOUSES)
  k_MOST_ROPES:mg "MOST_ROPES" = some (.int 20 t.q_MOST_ROPES)
  k_MOST_WIRES:mg "MOST_WIRES" = some (.int 4 t.q_MOST_WIRES)
  k_ALL_GROUPS:mg "ALL_GROUPS" = some (.int 7 t.q_ALL_GROUPS)
  k_MOST_CALLERS:mg "MOST_CALLERS" = some (.int 20 t.q_MOST_CALLERS)
  k_GROUP_BITS:mg "GROUP_BITS" = some (.ref t.a_GROUP_BITS)
  s_GROUP_BITS:∀ H,SqT K H t.a_GROUP_BITS [.int 1,.int 2,.int 4]
  n_len:mg "len" = none
  n_isinstance:mg "isinstance" = none
  n_int:mg "int" = none
  n_bool:mg "bool" = none
  n_list:mg "list" = none
  n_tuple:mg "tuple" = none
  n_range:mg "range" = none
  n_enumerate:mg "enumerate" = none
  n_min:mg "min" = none
  n_set:mg "set" = none
  n_all:mg "all" = none
  n_sorted:mg "sorted" = none
  n_zip:mg "zip" = none
theorem el1 {α:Type} {M:List α→Prop} (h:∀ x0,M [x0]):∀ us:List α,us.length=1→M us
  | [_],_=>h _
theorem el2 {α:Type} {M:List α→Prop} (h:∀ x0 x1,M [x0,x1]):∀ us:List α,us.length=2→M us
  | [_,_],_=>h _ _
theorem el3 {α:Type} {M:List α→Prop} (h:∀ x0 x1 x2,M [x0,x1,x2]):∀ us:List α,us.length=3→M us
  | [_,_,_],_=>h _ _ _
theorem el4 {α:Type} {M:List α→Prop} (h:∀ x0 x1 x2 x3,M [x0,x1,x2,x3]):∀ us:List α,us.length=4→M us
  | [_,_,_,_],_=>h _ _ _ _
theorem el5 {α:Type} {M:List α→Prop} (h:∀ x0 x1 x2 x3 x4,M [x0,x1,x2,x3,x4]):∀ us:List α,us.length=5→M us
  | [_,_,_,_,_],_=>h _ _ _ _ _
theorem el6 {α:Type} {M:List α→Prop} (h:∀ x0 x1 x2 x3 x4 x5,M [x0,x1,x2,x3,x4,x5]):∀ us:List α,us.length=6→M us
  | [_,_,_,_,_,_],_=>h _ _ _ _ _ _
theorem txt_mk {K:PySem.W.Frag} {h:Heap} {mg:Str→Option Value} (X:K.In h) (G:h.Ns mainGlobals mg) {oc_Booku_initu kV_Booku_initu dc_Booku_initu pm_Booku_initu cd_Booku_initu ct_Booku_initu:Value} {od_Booku_initu an_Booku_initu:Option Addr} {sl_Booku_initu:Array (Option Value)} {f_Booku_initu:Addr}
    {oc_Book_notes kV_Book_notes dc_Book_notes pm_Book_notes cd_Book_notes ct_Book_notes:Value} {od_Book_notes an_Book_notes:Option Addr} {sl_Book_notes:Array (Option Value)} {f_Book_notes:Addr}
    {oc_Book_forget kV_Book_forget dc_Book_forget pm_Book_forget cd_Book_forget ct_Book_forget:Value} {od_Book_forget an_Book_forget:Option Addr} {sl_Book_forget:Array (Option Value)} {f_Book_forget:Addr}
    {oc_own_row kV_own_row dc_own_row pm_own_row cd_own_row ct_own_row:Value} {od_own_row an_own_row:Option Addr} {sl_own_row:Array (Option Value)} {f_own_row:Addr}
    {oc_offer kV_offer dc_offer pm_offer cd_offer ct_offer:Value} {od_offer an_offer:Option Addr} {sl_offer:Array (Option Value)} {f_offer:Addr}
    {oc_due kV_due dc_due pm_due cd_due ct_due:Value} {od_due an_due:Option Addr} {sl_due:Array (Option Value)} {f_due:Addr}
    {oc_resting kV_resting dc_resting pm_resting cd_resting ct_resting:Value} {od_resting an_resting:Option Addr} {sl_resting:Array (Option Value)} {f_resting:Addr}
    {oc_ups kV_ups dc_ups pm_ups cd_ups ct_ups:Value} {od_ups an_ups:Option Addr} {sl_ups:Array (Option Value)} {f_ups:Addr}
    {oc_opens kV_opens dc_opens pm_opens cd_opens ct_opens:Value} {od_opens an_opens:Option Addr} {sl_opens:Array (Option Value)} {f_opens:Addr}
    {oc_up_of kV_up_of dc_up_of pm_up_of cd_up_of ct_up_of:Value} {od_up_of an_up_of:Option Addr} {sl_up_of:Array (Option Value)} {f_up_of:Addr}
    {oc_Townu_initu kV_Townu_initu dc_Townu_initu pm_Townu_initu cd_Townu_initu ct_Townu_initu:Value} {od_Townu_initu an_Townu_initu:Option Addr} {sl_Townu_initu:Array (Option Value)} {f_Townu_initu:Addr}
    {oc_Town_name kV_Town_name dc_Town_name pm_Town_name cd_Town_name ct_Town_name:Value} {od_Town_name an_Town_name:Option Addr} {sl_Town_name:Array (Option Value)} {f_Town_name:Addr}
    {oc_Town_rope kV_Town_rope dc_Town_rope pm_Town_rope cd_Town_rope ct_Town_rope:Value} {od_Town_rope an_Town_rope:Option Addr} {sl_Town_rope:Array (Option Value)} {f_Town_rope:Addr}
    {oc_Town_ropes_at kV_Town_ropes_at dc_Town_ropes_at pm_Town_ropes_at cd_Town_ropes_at ct_Town_ropes_at:Value} {od_Town_ropes_at an_Town_ropes_at:Option Addr} {sl_Town_ropes_at:Array (Option Value)} {f_Town_ropes_at:Addr}
    {oc_Town_far_end kV_Town_far_end dc_Town_far_end pm_Town_far_end cd_Town_far_end ct_Town_far_end:Value} {od_Town_far_end an_Town_far_end:Option Addr} {sl_Town_far_end:Array (Option Value)} {f_Town_far_end:Addr}
    {oc_Town_lets kV_Town_lets dc_Town_lets pm_Town_lets cd_Town_lets ct_Town_lets:Value} {od_Town_lets an_Town_lets:Option Addr} {sl_Town_lets:Array (Option Value)} {f_Town_lets:Addr}
    {oc_check_names kV_check_names dc_check_names pm_check_names cd_check_names ct_check_names:Value} {od_check_names an_check_names:Option Addr} {sl_check_names:Array (Option Value)} {f_check_names:Addr}
    {oc_check_ropes kV_check_ropes dc_check_ropes pm_check_ropes cd_check_ropes ct_check_ropes:Value} {od_check_ropes an_check_ropes:Option Addr} {sl_check_ropes:Array (Option Value)} {f_check_ropes:Addr}
    {oc_check_rope kV_check_rope dc_check_rope pm_check_rope cd_check_rope ct_check_rope:Value} {od_check_rope an_check_rope:Option Addr} {sl_check_rope:Array (Option Value)} {f_check_rope:Addr}
    {oc_joins_two kV_joins_two dc_joins_two pm_joins_two cd_joins_two ct_joins_two:Value} {od_joins_two an_joins_two:Option Addr} {sl_joins_two:Array (Option Value)} {f_joins_two:Addr}
    {oc_Strandsu_initu kV_Strandsu_initu dc_Strandsu_initu pm_Strandsu_initu cd_Strandsu_initu ct_Strandsu_initu:Value} {od_Strandsu_initu an_Strandsu_initu:Option Addr} {sl_Strandsu_initu:Array (Option Value)} {f_Strandsu_initu:Addr}
    {oc_Strands_fall kV_Strands_fall dc_Strands_fall pm_Strands_fall cd_Strands_fall ct_Strands_fall:Value} {od_Strands_fall an_Strands_fall:Option Addr} {sl_Strands_fall:Array (Option Value)} {f_Strands_fall:Addr}
    {oc_Strands_standing kV_Strands_standing dc_Strands_standing pm_Strands_standing cd_Strands_standing ct_Strands_standing:Value} {od_Strands_standing an_Strands_standing:Option Addr} {sl_Strands_standing:Array (Option Value)} {f_Strands_standing:Addr}
    {oc_Strands_live kV_Strands_live dc_Strands_live pm_Strands_live cd_Strands_live ct_Strands_live:Value} {od_Strands_live an_Strands_live:Option Addr} {sl_Strands_live:Array (Option Value)} {f_Strands_live:Addr}
    {oc_wires_of kV_wires_of dc_wires_of pm_wires_of cd_wires_of ct_wires_of:Value} {od_wires_of an_wires_of:Option Addr} {sl_wires_of:Array (Option Value)} {f_wires_of:Addr}
    {oc_check_group kV_check_group dc_check_group pm_check_group cd_check_group ct_check_group:Value} {od_check_group an_check_group:Option Addr} {sl_check_group:Array (Option Value)} {f_check_group:Addr}
    {oc_Netu_initu kV_Netu_initu dc_Netu_initu pm_Netu_initu cd_Netu_initu ct_Netu_initu:Value} {od_Netu_initu an_Netu_initu:Option Addr} {sl_Netu_initu:Array (Option Value)} {f_Netu_initu:Addr}
    {oc_Net_rows kV_Net_rows dc_Net_rows pm_Net_rows cd_Net_rows ct_Net_rows:Value} {od_Net_rows an_Net_rows:Option Addr} {sl_Net_rows:Array (Option Value)} {f_Net_rows:Addr}
    {oc_Net_live kV_Net_live dc_Net_live pm_Net_live cd_Net_live ct_Net_live:Value} {od_Net_live an_Net_live:Option Addr} {sl_Net_live:Array (Option Value)} {f_Net_live:Addr}
    {oc_Net_opens kV_Net_opens dc_Net_opens pm_Net_opens cd_Net_opens ct_Net_opens:Value} {od_Net_opens an_Net_opens:Option Addr} {sl_Net_opens:Array (Option Value)} {f_Net_opens:Addr}
    {oc_Net_notes kV_Net_notes dc_Net_notes pm_Net_notes cd_Net_notes ct_Net_notes:Value} {od_Net_notes an_Net_notes:Option Addr} {sl_Net_notes:Array (Option Value)} {f_Net_notes:Addr}
    {oc_Net_resting kV_Net_resting dc_Net_resting pm_Net_resting cd_Net_resting ct_Net_resting:Value} {od_Net_resting an_Net_resting:Option Addr} {sl_Net_resting:Array (Option Value)} {f_Net_resting:Addr}
    {oc_Net_row_at kV_Net_row_at dc_Net_row_at pm_Net_row_at cd_Net_row_at ct_Net_row_at:Value} {od_Net_row_at an_Net_row_at:Option Addr} {sl_Net_row_at:Array (Option Value)} {f_Net_row_at:Addr}
    {oc_Net_call kV_Net_call dc_Net_call pm_Net_call cd_Net_call ct_Net_call:Value} {od_Net_call an_Net_call:Option Addr} {sl_Net_call:Array (Option Value)} {f_Net_call:Addr}
    {oc_Net_fall kV_Net_fall dc_Net_fall pm_Net_fall cd_Net_fall ct_Net_fall:Value} {od_Net_fall an_Net_fall:Option Addr} {sl_Net_fall:Array (Option Value)} {f_Net_fall:Addr}
    {oc_Net_place kV_Net_place dc_Net_place pm_Net_place cd_Net_place ct_Net_place:Value} {od_Net_place an_Net_place:Option Addr} {sl_Net_place:Array (Option Value)} {f_Net_place:Addr}
    {oc_Net_had kV_Net_had dc_Net_had pm_Net_had cd_Net_had ct_Net_had:Value} {od_Net_had an_Net_had:Option Addr} {sl_Net_had:Array (Option Value)} {f_Net_had:Addr}
    {oc_Net_flying kV_Net_flying dc_Net_flying pm_Net_flying cd_Net_flying ct_Net_flying:Value} {od_Net_flying an_Net_flying:Option Addr} {sl_Net_flying:Array (Option Value)} {f_Net_flying:Addr}
    {oc_Net_lose_copies kV_Net_lose_copies dc_Net_lose_copies pm_Net_lose_copies cd_Net_lose_copies ct_Net_lose_copies:Value} {od_Net_lose_copies an_Net_lose_copies:Option Addr} {sl_Net_lose_copies:Array (Option Value)} {f_Net_lose_copies:Addr}
    {oc_Net_take_news kV_Net_take_news dc_Net_take_news pm_Net_take_news cd_Net_take_news ct_Net_take_news:Value} {od_Net_take_news an_Net_take_news:Option Addr} {sl_Net_take_news:Array (Option Value)} {f_Net_take_news:Addr}
    {oc_Net_take_news_of_rope kV_Net_take_news_of_rope dc_Net_take_news_of_rope pm_Net_take_news_of_rope cd_Net_take_news_of_rope ct_Net_take_news_of_rope:Value} {od_Net_take_news_of_rope an_Net_take_news_of_rope:Option Addr} {sl_Net_take_news_of_rope:Array (Option Value)} {f_Net_take_news_of_rope:Addr}
    {oc_Net_check_house kV_Net_check_house dc_Net_check_house pm_Net_check_house cd_Net_check_house ct_Net_check_house:Value} {od_Net_check_house an_Net_check_house:Option Addr} {sl_Net_check_house:Array (Option Value)} {f_Net_check_house:Addr}
    {oc_Net_check_caller kV_Net_check_caller dc_Net_check_caller pm_Net_check_caller cd_Net_check_caller ct_Net_check_caller:Value} {od_Net_check_caller an_Net_check_caller:Option Addr} {sl_Net_check_caller:Array (Option Value)} {f_Net_check_caller:Addr}
    {oc_first_rows kV_first_rows dc_first_rows pm_first_rows cd_first_rows ct_first_rows:Value} {od_first_rows an_first_rows:Option Addr} {sl_first_rows:Array (Option Value)} {f_first_rows:Addr}
    {oc_check_callers kV_check_callers dc_check_callers pm_check_callers cd_check_callers ct_check_callers:Value} {od_check_callers an_check_callers:Option Addr} {sl_check_callers:Array (Option Value)} {f_check_callers:Addr}
    {oc_w_cell_at kV_w_cell_at dc_w_cell_at pm_w_cell_at cd_w_cell_at ct_w_cell_at:Value} {od_w_cell_at an_w_cell_at:Option Addr} {sl_w_cell_at:Array (Option Value)} {f_w_cell_at:Addr}
    {oc_w_whole kV_w_whole dc_w_whole pm_w_whole cd_w_whole ct_w_whole:Value} {od_w_whole an_w_whole:Option Addr} {sl_w_whole:Array (Option Value)} {f_w_whole:Addr}
    {oc_w_list kV_w_list dc_w_list pm_w_list cd_w_list ct_w_list:Value} {od_w_list an_w_list:Option Addr} {sl_w_list:Array (Option Value)} {f_w_list:Addr}
    {oc_w_names kV_w_names dc_w_names pm_w_names cd_w_names ct_w_names:Value} {od_w_names an_w_names:Option Addr} {sl_w_names:Array (Option Value)} {f_w_names:Addr}
    {oc_w_ropes kV_w_ropes dc_w_ropes pm_w_ropes cd_w_ropes ct_w_ropes:Value} {od_w_ropes an_w_ropes:Option Addr} {sl_w_ropes:Array (Option Value)} {f_w_ropes:Addr}
    {oc_w_callers kV_w_callers dc_w_callers pm_w_callers cd_w_callers ct_w_callers:Value} {od_w_callers an_w_callers:Option Addr} {sl_w_callers:Array (Option Value)} {f_w_callers:Addr}
    {oc_w_live kV_w_live dc_w_live pm_w_live cd_w_live ct_w_live:Value} {od_w_live an_w_live:Option Addr} {sl_w_live:Array (Option Value)} {f_w_live:Addr}
    {oc_w_due kV_w_due dc_w_due pm_w_due cd_w_due ct_w_due:Value} {od_w_due an_w_due:Option Addr} {sl_w_due:Array (Option Value)} {f_w_due:Addr}
    {oc_w_rows_same kV_w_rows_same dc_w_rows_same pm_w_rows_same cd_w_rows_same ct_w_rows_same:Value} {od_w_rows_same an_w_rows_same:Option Addr} {sl_w_rows_same:Array (Option Value)} {f_w_rows_same:Addr}
    {oc_w_opens kV_w_opens dc_w_opens pm_w_opens cd_w_opens ct_w_opens:Value} {od_w_opens an_w_opens:Option Addr} {sl_w_opens:Array (Option Value)} {f_w_opens:Addr}
    {oc_w_first kV_w_first dc_w_first pm_w_first cd_w_first ct_w_first:Value} {od_w_first an_w_first:Option Addr} {sl_w_first:Array (Option Value)} {f_w_first:Addr}
    {oc_w_look kV_w_look dc_w_look pm_w_look cd_w_look ct_w_look:Value} {od_w_look an_w_look:Option Addr} {sl_w_look:Array (Option Value)} {f_w_look:Addr}
    {oc_law kV_law dc_law pm_law cd_law ct_law:Value} {od_law an_law:Option Addr} {sl_law:Array (Option Value)} {f_law:Addr}
    {C_Town:Addr}
    {C_Strands:Addr}
    {C_Book:Addr}
    {C_Net:Addr}
    {X_NoWire:Addr}
    {X_NoGroup:Addr}
    {q_MOST_HOUSES:Tok}
    {q_MOST_ROPES:Tok}
    {q_MOST_WIRES:Tok}
    {q_ALL_GROUPS:Tok}
    {q_MOST_CALLERS:Tok}
    {a_GROUP_BITS:Addr} {od_GROUP_BITS:Option Addr} {n_GROUP_BITS:Nat} {t0_GROUP_BITS t1_GROUP_BITS t2_GROUP_BITS:Tok} {sl_GROUP_BITS:Array (Option Value)}
    (aC_Town:PySem.W.nsIn K mainGlobals "Town" = some (some (.ref C_Town)))
    (aC_Strands:PySem.W.nsIn K mainGlobals "Strands" = some (some (.ref C_Strands)))
    (aC_Book:PySem.W.nsIn K mainGlobals "Book" = some (some (.ref C_Book)))
    (aC_Net:PySem.W.nsIn K mainGlobals "Net" = some (some (.ref C_Net)))
    (a_Booku_initu:PySem.W.findIn K (.ref C_Book) "__init__" = some (some (.ref f_Booku_initu)))
    (i_Booku_initu:PySem.W.isFn K (.ref f_Booku_initu)=true)
    (l_Booku_initu:K.lookup f_Booku_initu=some ⟨oc_Booku_initu,od_Booku_initu,.func (PySem.W.fnOf "__init__" "Book.__init__" (defArgs s_Booku_initu) (defBody s_Booku_initu) (defScope s_Booku_initu) .none kV_Booku_initu dc_Booku_initu pm_Booku_initu an_Booku_initu cd_Booku_initu ct_Booku_initu),sl_Booku_initu⟩)
    (c_Booku_initu:PySem.W.codeIn K cd_Booku_initu "Book.__init__" = true)
    (k_Booku_initu:PySem.W.keepIn K (.ref f_Booku_initu)=true)
    (a_Book_notes:PySem.W.findIn K (.ref C_Book) "notes" = some (some (.ref f_Book_notes)))
    (i_Book_notes:PySem.W.isFn K (.ref f_Book_notes)=true)
    (l_Book_notes:K.lookup f_Book_notes=some ⟨oc_Book_notes,od_Book_notes,.func (PySem.W.fnOf "notes" "Book.notes" (defArgs s_Book_notes) (defBody s_Book_notes) (defScope s_Book_notes) .none kV_Book_notes dc_Book_notes pm_Book_notes an_Book_notes cd_Book_notes ct_Book_notes),sl_Book_notes⟩)
    (c_Book_notes:PySem.W.codeIn K cd_Book_notes "Book.notes" = true)
    (k_Book_notes:PySem.W.keepIn K (.ref f_Book_notes)=true)
    (a_Book_forget:PySem.W.findIn K (.ref C_Book) "forget" = some (some (.ref f_Book_forget)))
    (i_Book_forget:PySem.W.isFn K (.ref f_Book_forget)=true)
    (l_Book_forget:K.lookup f_Book_forget=some ⟨oc_Book_forget,od_Book_forget,.func (PySem.W.fnOf "forget" "Book.forget" (defArgs s_Book_forget) (defBody s_Book_forget) (defScope s_Book_forget) .none kV_Book_forget dc_Book_forget pm_Book_forget an_Book_forget cd_Book_forget ct_Book_forget),sl_Book_forget⟩)
    (c_Book_forget:PySem.W.codeIn K cd_Book_forget "Book.forget" = true)
    (k_Book_forget:PySem.W.keepIn K (.ref f_Book_forget)=true)
    (a_own_row:PySem.W.nsIn K mainGlobals "own_row" = some (some (.ref f_own_row)))
    (l_own_row:K.lookup f_own_row=some ⟨oc_own_row,od_own_row,.func (PySem.W.fnOf "own_row" "own_row" (defArgs s_own_row) (defBody s_own_row) (defScope s_own_row) .none kV_own_row dc_own_row pm_own_row an_own_row cd_own_row ct_own_row),sl_own_row⟩)
    (c_own_row:PySem.W.codeIn K cd_own_row "own_row" = true)
    (k_own_row:PySem.W.keepIn K (.ref f_own_row)=true)
    (a_offer:PySem.W.nsIn K mainGlobals "offer" = some (some (.ref f_offer)))
    (l_offer:K.lookup f_offer=some ⟨oc_offer,od_offer,.func (PySem.W.fnOf "offer" "offer" (defArgs s_offer) (defBody s_offer) (defScope s_offer) .none kV_offer dc_offer pm_offer an_offer cd_offer ct_offer),sl_offer⟩)
    (c_offer:PySem.W.codeIn K cd_offer "offer" = true)
    (k_offer:PySem.W.keepIn K (.ref f_offer)=true)
    (a_due:PySem.W.nsIn K mainGlobals "due" = some (some (.ref f_due)))
    (l_due:K.lookup f_due=some ⟨oc_due,od_due,.func (PySem.W.fnOf "due" "due" (defArgs s_due) (defBody s_due) (defScope s_due) .none kV_due dc_due pm_due an_due cd_due ct_due),sl_due⟩)
    (c_due:PySem.W.codeIn K cd_due "due" = true)
    (k_due:PySem.W.keepIn K (.ref f_due)=true)
    (a_resting:PySem.W.nsIn K mainGlobals "resting" = some (some (.ref f_resting)))
    (l_resting:K.lookup f_resting=some ⟨oc_resting,od_resting,.func (PySem.W.fnOf "resting" "resting" (defArgs s_resting) (defBody s_resting) (defScope s_resting) .none kV_resting dc_resting pm_resting an_resting cd_resting ct_resting),sl_resting⟩)
    (c_resting:PySem.W.codeIn K cd_resting "resting" = true)
    (k_resting:PySem.W.keepIn K (.ref f_resting)=true)
    (a_ups:PySem.W.nsIn K mainGlobals "ups" = some (some (.ref f_ups)))
    (l_ups:K.lookup f_ups=some ⟨oc_ups,od_ups,.func (PySem.W.fnOf "ups" "ups" (defArgs s_ups) (defBody s_ups) (defScope s_ups) .none kV_ups dc_ups pm_ups an_ups cd_ups ct_ups),sl_ups⟩)
    (c_ups:PySem.W.codeIn K cd_ups "ups" = true)
    (k_ups:PySem.W.keepIn K (.ref f_ups)=true)
    (a_opens:PySem.W.nsIn K mainGlobals "opens" = some (some (.ref f_opens)))
    (l_opens:K.lookup f_opens=some ⟨oc_opens,od_opens,.func (PySem.W.fnOf "opens" "opens" (defArgs s_opens) (defBody s_opens) (defScope s_opens) .none kV_opens dc_opens pm_opens an_opens cd_opens ct_opens),sl_opens⟩)
    (c_opens:PySem.W.codeIn K cd_opens "opens" = true)
    (k_opens:PySem.W.keepIn K (.ref f_opens)=true)
    (a_up_of:PySem.W.nsIn K mainGlobals "up_of" = some (some (.ref f_up_of)))
    (l_up_of:K.lookup f_up_of=some ⟨oc_up_of,od_up_of,.func (PySem.W.fnOf "up_of" "up_of" (defArgs s_up_of) (defBody s_up_of) (defScope s_up_of) .none kV_up_of dc_up_of pm_up_of an_up_of cd_up_of ct_up_of),sl_up_of⟩)
    (c_up_of:PySem.W.codeIn K cd_up_of "up_of" = true)
    (k_up_of:PySem.W.keepIn K (.ref f_up_of)=true)
    (a_Townu_initu:PySem.W.findIn K (.ref C_Town) "__init__" = some (some (.ref f_Townu_initu)))
    (i_Townu_initu:PySem.W.isFn K (.ref f_Townu_initu)=true)
    (l_Townu_initu:K.lookup f_Townu_initu=some ⟨oc_Townu_initu,od_Townu_initu,.func (PySem.W.fnOf "__init__" "Town.__init__" (defArgs s_Townu_initu) (defBody s_Townu_initu) (defScope s_Townu_initu) .none kV_Townu_initu dc_Townu_initu pm_Townu_initu an_Townu_initu cd_Townu_initu ct_Townu_initu),sl_Townu_initu⟩)
    (c_Townu_initu:PySem.W.codeIn K cd_Townu_initu "Town.__init__" = true)
    (k_Townu_initu:PySem.W.keepIn K (.ref f_Townu_initu)=true)
    (a_Town_name:PySem.W.findIn K (.ref C_Town) "name" = some (some (.ref f_Town_name)))
    (i_Town_name:PySem.W.isFn K (.ref f_Town_name)=true)
    (l_Town_name:K.lookup f_Town_name=some ⟨oc_Town_name,od_Town_name,.func (PySem.W.fnOf "name" "Town.name" (defArgs s_Town_name) (defBody s_Town_name) (defScope s_Town_name) .none kV_Town_name dc_Town_name pm_Town_name an_Town_name cd_Town_name ct_Town_name),sl_Town_name⟩)
    (c_Town_name:PySem.W.codeIn K cd_Town_name "Town.name" = true)
    (k_Town_name:PySem.W.keepIn K (.ref f_Town_name)=true)
    (a_Town_rope:PySem.W.findIn K (.ref C_Town) "rope" = some (some (.ref f_Town_rope)))
    (i_Town_rope:PySem.W.isFn K (.ref f_Town_rope)=true)
    (l_Town_rope:K.lookup f_Town_rope=some ⟨oc_Town_rope,od_Town_rope,.func (PySem.W.fnOf "rope" "Town.rope" (defArgs s_Town_rope) (defBody s_Town_rope) (defScope s_Town_rope) .none kV_Town_rope dc_Town_rope pm_Town_rope an_Town_rope cd_Town_rope ct_Town_rope),sl_Town_rope⟩)
    (c_Town_rope:PySem.W.codeIn K cd_Town_rope "Town.rope" = true)
    (k_Town_rope:PySem.W.keepIn K (.ref f_Town_rope)=true)
    (a_Town_ropes_at:PySem.W.findIn K (.ref C_Town) "ropes_at" = some (some (.ref f_Town_ropes_at)))
    (i_Town_ropes_at:PySem.W.isFn K (.ref f_Town_ropes_at)=true)
    (l_Town_ropes_at:K.lookup f_Town_ropes_at=some ⟨oc_Town_ropes_at,od_Town_ropes_at,.func (PySem.W.fnOf "ropes_at" "Town.ropes_at" (defArgs s_Town_ropes_at) (defBody s_Town_ropes_at) (defScope s_Town_ropes_at) .none kV_Town_ropes_at dc_Town_ropes_at pm_Town_ropes_at an_Town_ropes_at cd_Town_ropes_at ct_Town_ropes_at),sl_Town_ropes_at⟩)
    (c_Town_ropes_at:PySem.W.codeIn K cd_Town_ropes_at "Town.ropes_at" = true)
    (k_Town_ropes_at:PySem.W.keepIn K (.ref f_Town_ropes_at)=true)
    (a_Town_far_end:PySem.W.findIn K (.ref C_Town) "far_end" = some (some (.ref f_Town_far_end)))
    (i_Town_far_end:PySem.W.isFn K (.ref f_Town_far_end)=true)
    (l_Town_far_end:K.lookup f_Town_far_end=some ⟨oc_Town_far_end,od_Town_far_end,.func (PySem.W.fnOf "far_end" "Town.far_end" (defArgs s_Town_far_end) (defBody s_Town_far_end) (defScope s_Town_far_end) .none kV_Town_far_end dc_Town_far_end pm_Town_far_end an_Town_far_end cd_Town_far_end ct_Town_far_end),sl_Town_far_end⟩)
    (c_Town_far_end:PySem.W.codeIn K cd_Town_far_end "Town.far_end" = true)
    (k_Town_far_end:PySem.W.keepIn K (.ref f_Town_far_end)=true)
    (a_Town_lets:PySem.W.findIn K (.ref C_Town) "lets" = some (some (.ref f_Town_lets)))
    (i_Town_lets:PySem.W.isFn K (.ref f_Town_lets)=true)
    (l_Town_lets:K.lookup f_Town_lets=some ⟨oc_Town_lets,od_Town_lets,.func (PySem.W.fnOf "lets" "Town.lets" (defArgs s_Town_lets) (defBody s_Town_lets) (defScope s_Town_lets) .none kV_Town_lets dc_Town_lets pm_Town_lets an_Town_lets cd_Town_lets ct_Town_lets),sl_Town_lets⟩)
    (c_Town_lets:PySem.W.codeIn K cd_Town_lets "Town.lets" = true)
    (k_Town_lets:PySem.W.keepIn K (.ref f_Town_lets)=true)
    (a_check_names:PySem.W.nsIn K mainGlobals "check_names" = some (some (.ref f_check_names)))
    (l_check_names:K.lookup f_check_names=some ⟨oc_check_names,od_check_names,.func (PySem.W.fnOf "check_names" "check_names" (defArgs s_check_names) (defBody s_check_names) (defScope s_check_names) .none kV_check_names dc_check_names pm_check_names an_check_names cd_check_names ct_check_names),sl_check_names⟩)
    (c_check_names:PySem.W.codeIn K cd_check_names "check_names" = true)
    (k_check_names:PySem.W.keepIn K (.ref f_check_names)=true)
    (a_check_ropes:PySem.W.nsIn K mainGlobals "check_ropes" = some (some (.ref f_check_ropes)))
    (l_check_ropes:K.lookup f_check_ropes=some ⟨oc_check_ropes,od_check_ropes,.func (PySem.W.fnOf "check_ropes" "check_ropes" (defArgs s_check_ropes) (defBody s_check_ropes) (defScope s_check_ropes) .none kV_check_ropes dc_check_ropes pm_check_ropes an_check_ropes cd_check_ropes ct_check_ropes),sl_check_ropes⟩)
    (c_check_ropes:PySem.W.codeIn K cd_check_ropes "check_ropes" = true)
    (k_check_ropes:PySem.W.keepIn K (.ref f_check_ropes)=true)
    (a_check_rope:PySem.W.nsIn K mainGlobals "check_rope" = some (some (.ref f_check_rope)))
    (l_check_rope:K.lookup f_check_rope=some ⟨oc_check_rope,od_check_rope,.func (PySem.W.fnOf "check_rope" "check_rope" (defArgs s_check_rope) (defBody s_check_rope) (defScope s_check_rope) .none kV_check_rope dc_check_rope pm_check_rope an_check_rope cd_check_rope ct_check_rope),sl_check_rope⟩)
    (c_check_rope:PySem.W.codeIn K cd_check_rope "check_rope" = true)
    (k_check_rope:PySem.W.keepIn K (.ref f_check_rope)=true)
    (a_joins_two:PySem.W.nsIn K mainGlobals "joins_two" = some (some (.ref f_joins_two)))
    (l_joins_two:K.lookup f_joins_two=some ⟨oc_joins_two,od_joins_two,.func (PySem.W.fnOf "joins_two" "joins_two" (defArgs s_joins_two) (defBody s_joins_two) (defScope s_joins_two) .none kV_joins_two dc_joins_two pm_joins_two an_joins_two cd_joins_two ct_joins_two),sl_joins_two⟩)
    (c_joins_two:PySem.W.codeIn K cd_joins_two "joins_two" = true)
    (k_joins_two:PySem.W.keepIn K (.ref f_joins_two)=true)
    (a_Strandsu_initu:PySem.W.findIn K (.ref C_Strands) "__init__" = some (some (.ref f_Strandsu_initu)))
    (i_Strandsu_initu:PySem.W.isFn K (.ref f_Strandsu_initu)=true)
    (l_Strandsu_initu:K.lookup f_Strandsu_initu=some ⟨oc_Strandsu_initu,od_Strandsu_initu,.func (PySem.W.fnOf "__init__" "Strands.__init__" (defArgs s_Strandsu_initu) (defBody s_Strandsu_initu) (defScope s_Strandsu_initu) .none kV_Strandsu_initu dc_Strandsu_initu pm_Strandsu_initu an_Strandsu_initu cd_Strandsu_initu ct_Strandsu_initu),sl_Strandsu_initu⟩)
    (c_Strandsu_initu:PySem.W.codeIn K cd_Strandsu_initu "Strands.__init__" = true)
    (k_Strandsu_initu:PySem.W.keepIn K (.ref f_Strandsu_initu)=true)
    (a_Strands_fall:PySem.W.findIn K (.ref C_Strands) "fall" = some (some (.ref f_Strands_fall)))
    (i_Strands_fall:PySem.W.isFn K (.ref f_Strands_fall)=true)
    (l_Strands_fall:K.lookup f_Strands_fall=some ⟨oc_Strands_fall,od_Strands_fall,.func (PySem.W.fnOf "fall" "Strands.fall" (defArgs s_Strands_fall) (defBody s_Strands_fall) (defScope s_Strands_fall) .none kV_Strands_fall dc_Strands_fall pm_Strands_fall an_Strands_fall cd_Strands_fall ct_Strands_fall),sl_Strands_fall⟩)
    (c_Strands_fall:PySem.W.codeIn K cd_Strands_fall "Strands.fall" = true)
    (k_Strands_fall:PySem.W.keepIn K (.ref f_Strands_fall)=true)
    (a_Strands_standing:PySem.W.findIn K (.ref C_Strands) "standing" = some (some (.ref f_Strands_standing)))
    (i_Strands_standing:PySem.W.isFn K (.ref f_Strands_standing)=true)
    (l_Strands_standing:K.lookup f_Strands_standing=some ⟨oc_Strands_standing,od_Strands_standing,.func (PySem.W.fnOf "standing" "Strands.standing" (defArgs s_Strands_standing) (defBody s_Strands_standing) (defScope s_Strands_standing) .none kV_Strands_standing dc_Strands_standing pm_Strands_standing an_Strands_standing cd_Strands_standing ct_Strands_standing),sl_Strands_standing⟩)
    (c_Strands_standing:PySem.W.codeIn K cd_Strands_standing "Strands.standing" = true)
    (k_Strands_standing:PySem.W.keepIn K (.ref f_Strands_standing)=true)
    (a_Strands_live:PySem.W.findIn K (.ref C_Strands) "live" = some (some (.ref f_Strands_live)))
    (i_Strands_live:PySem.W.isFn K (.ref f_Strands_live)=true)
    (l_Strands_live:K.lookup f_Strands_live=some ⟨oc_Strands_live,od_Strands_live,.func (PySem.W.fnOf "live" "Strands.live" (defArgs s_Strands_live) (defBody s_Strands_live) (defScope s_Strands_live) .none kV_Strands_live dc_Strands_live pm_Strands_live an_Strands_live cd_Strands_live ct_Strands_live),sl_Strands_live⟩)
    (c_Strands_live:PySem.W.codeIn K cd_Strands_live "Strands.live" = true)
    (k_Strands_live:PySem.W.keepIn K (.ref f_Strands_live)=true)
    (a_wires_of:PySem.W.nsIn K mainGlobals "wires_of" = some (some (.ref f_wires_of)))
    (l_wires_of:K.lookup f_wires_of=some ⟨oc_wires_of,od_wires_of,.func (PySem.W.fnOf "wires_of" "wires_of" (defArgs s_wires_of) (defBody s_wires_of) (defScope s_wires_of) .none kV_wires_of dc_wires_of pm_wires_of an_wires_of cd_wires_of ct_wires_of),sl_wires_of⟩)
    (c_wires_of:PySem.W.codeIn K cd_wires_of "wires_of" = true)
    (k_wires_of:PySem.W.keepIn K (.ref f_wires_of)=true)
    (a_check_group:PySem.W.nsIn K mainGlobals "check_group" = some (some (.ref f_check_group)))
    (l_check_group:K.lookup f_check_group=some ⟨oc_check_group,od_check_group,.func (PySem.W.fnOf "check_group" "check_group" (defArgs s_check_group) (defBody s_check_group) (defScope s_check_group) .none kV_check_group dc_check_group pm_check_group an_check_group cd_check_group ct_check_group),sl_check_group⟩)
    (c_check_group:PySem.W.codeIn K cd_check_group "check_group" = true)
    (k_check_group:PySem.W.keepIn K (.ref f_check_group)=true)
    (a_Netu_initu:PySem.W.findIn K (.ref C_Net) "__init__" = some (some (.ref f_Netu_initu)))
    (i_Netu_initu:PySem.W.isFn K (.ref f_Netu_initu)=true)
    (l_Netu_initu:K.lookup f_Netu_initu=some ⟨oc_Netu_initu,od_Netu_initu,.func (PySem.W.fnOf "__init__" "Net.__init__" (defArgs s_Netu_initu) (defBody s_Netu_initu) (defScope s_Netu_initu) .none kV_Netu_initu dc_Netu_initu pm_Netu_initu an_Netu_initu cd_Netu_initu ct_Netu_initu),sl_Netu_initu⟩)
    (c_Netu_initu:PySem.W.codeIn K cd_Netu_initu "Net.__init__" = true)
    (k_Netu_initu:PySem.W.keepIn K (.ref f_Netu_initu)=true)
    (a_Net_rows:PySem.W.findIn K (.ref C_Net) "rows" = some (some (.ref f_Net_rows)))
    (i_Net_rows:PySem.W.isFn K (.ref f_Net_rows)=true)
    (l_Net_rows:K.lookup f_Net_rows=some ⟨oc_Net_rows,od_Net_rows,.func (PySem.W.fnOf "rows" "Net.rows" (defArgs s_Net_rows) (defBody s_Net_rows) (defScope s_Net_rows) .none kV_Net_rows dc_Net_rows pm_Net_rows an_Net_rows cd_Net_rows ct_Net_rows),sl_Net_rows⟩)
    (c_Net_rows:PySem.W.codeIn K cd_Net_rows "Net.rows" = true)
    (k_Net_rows:PySem.W.keepIn K (.ref f_Net_rows)=true)
    (a_Net_live:PySem.W.findIn K (.ref C_Net) "live" = some (some (.ref f_Net_live)))
    (i_Net_live:PySem.W.isFn K (.ref f_Net_live)=true)
    (l_Net_live:K.lookup f_Net_live=some ⟨oc_Net_live,od_Net_live,.func (PySem.W.fnOf "live" "Net.live" (defArgs s_Net_live) (defBody s_Net_live) (defScope s_Net_live) .none kV_Net_live dc_Net_live pm_Net_live an_Net_live cd_Net_live ct_Net_live),sl_Net_live⟩)
    (c_Net_live:PySem.W.codeIn K cd_Net_live "Net.live" = true)
    (k_Net_live:PySem.W.keepIn K (.ref f_Net_live)=true)
    (a_Net_opens:PySem.W.findIn K (.ref C_Net) "opens" = some (some (.ref f_Net_opens)))
    (i_Net_opens:PySem.W.isFn K (.ref f_Net_opens)=true)
    (l_Net_opens:K.lookup f_Net_opens=some ⟨oc_Net_opens,od_Net_opens,.func (PySem.W.fnOf "opens" "Net.opens" (defArgs s_Net_opens) (defBody s_Net_opens) (defScope s_Net_opens) .none kV_Net_opens dc_Net_opens pm_Net_opens an_Net_opens cd_Net_opens ct_Net_opens),sl_Net_opens⟩)
    (c_Net_opens:PySem.W.codeIn K cd_Net_opens "Net.opens" = true)
    (k_Net_opens:PySem.W.keepIn K (.ref f_Net_opens)=true)
    (a_Net_notes:PySem.W.findIn K (.ref C_Net) "notes" = some (some (.ref f_Net_notes)))
    (i_Net_notes:PySem.W.isFn K (.ref f_Net_notes)=true)
    (l_Net_notes:K.lookup f_Net_notes=some ⟨oc_Net_notes,od_Net_notes,.func (PySem.W.fnOf "notes" "Net.notes" (defArgs s_Net_notes) (defBody s_Net_notes) (defScope s_Net_notes) .none kV_Net_notes dc_Net_notes pm_Net_notes an_Net_notes cd_Net_notes ct_Net_notes),sl_Net_notes⟩)
    (c_Net_notes:PySem.W.codeIn K cd_Net_notes "Net.notes" = true)
    (k_Net_notes:PySem.W.keepIn K (.ref f_Net_notes)=true)
    (a_Net_resting:PySem.W.findIn K (.ref C_Net) "resting" = some (some (.ref f_Net_resting)))
    (i_Net_resting:PySem.W.isFn K (.ref f_Net_resting)=true)
    (l_Net_resting:K.lookup f_Net_resting=some ⟨oc_Net_resting,od_Net_resting,.func (PySem.W.fnOf "resting" "Net.resting" (defArgs s_Net_resting) (defBody s_Net_resting) (defScope s_Net_resting) .none kV_Net_resting dc_Net_resting pm_Net_resting an_Net_resting cd_Net_resting ct_Net_resting),sl_Net_resting⟩)
    (c_Net_resting:PySem.W.codeIn K cd_Net_resting "Net.resting" = true)
    (k_Net_resting:PySem.W.keepIn K (.ref f_Net_resting)=true)
    (a_Net_row_at:PySem.W.findIn K (.ref C_Net) "row_at" = some (some (.ref f_Net_row_at)))
    (i_Net_row_at:PySem.W.isFn K (.ref f_Net_row_at)=true)
    (l_Net_row_at:K.lookup f_Net_row_at=some ⟨oc_Net_row_at,od_Net_row_at,.func (PySem.W.fnOf "row_at" "Net.row_at" (defArgs s_Net_row_at) (defBody s_Net_row_at) (defScope s_Net_row_at) .none kV_Net_row_at dc_Net_row_at pm_Net_row_at an_Net_row_at cd_Net_row_at ct_Net_row_at),sl_Net_row_at⟩)
    (c_Net_row_at:PySem.W.codeIn K cd_Net_row_at "Net.row_at" = true)
    (k_Net_row_at:PySem.W.keepIn K (.ref f_Net_row_at)=true)
    (a_Net_call:PySem.W.findIn K (.ref C_Net) "call" = some (some (.ref f_Net_call)))
    (i_Net_call:PySem.W.isFn K (.ref f_Net_call)=true)
    (l_Net_call:K.lookup f_Net_call=some ⟨oc_Net_call,od_Net_call,.func (PySem.W.fnOf "call" "Net.call" (defArgs s_Net_call) (defBody s_Net_call) (defScope s_Net_call) .none kV_Net_call dc_Net_call pm_Net_call an_Net_call cd_Net_call ct_Net_call),sl_Net_call⟩)
    (c_Net_call:PySem.W.codeIn K cd_Net_call "Net.call" = true)
    (k_Net_call:PySem.W.keepIn K (.ref f_Net_call)=true)
    (a_Net_fall:PySem.W.findIn K (.ref C_Net) "fall" = some (some (.ref f_Net_fall)))
    (i_Net_fall:PySem.W.isFn K (.ref f_Net_fall)=true)
    (l_Net_fall:K.lookup f_Net_fall=some ⟨oc_Net_fall,od_Net_fall,.func (PySem.W.fnOf "fall" "Net.fall" (defArgs s_Net_fall) (defBody s_Net_fall) (defScope s_Net_fall) .none kV_Net_fall dc_Net_fall pm_Net_fall an_Net_fall cd_Net_fall ct_Net_fall),sl_Net_fall⟩)
    (c_Net_fall:PySem.W.codeIn K cd_Net_fall "Net.fall" = true)
    (k_Net_fall:PySem.W.keepIn K (.ref f_Net_fall)=true)
    (a_Net_place:PySem.W.findIn K (.ref C_Net) "place" = some (some (.ref f_Net_place)))
    (i_Net_place:PySem.W.isFn K (.ref f_Net_place)=true)
    (l_Net_place:K.lookup f_Net_place=some ⟨oc_Net_place,od_Net_place,.func (PySem.W.fnOf "place" "Net.place" (defArgs s_Net_place) (defBody s_Net_place) (defScope s_Net_place) .none kV_Net_place dc_Net_place pm_Net_place an_Net_place cd_Net_place ct_Net_place),sl_Net_place⟩)
    (c_Net_place:PySem.W.codeIn K cd_Net_place "Net.place" = true)
    (k_Net_place:PySem.W.keepIn K (.ref f_Net_place)=true)
    (a_Net_had:PySem.W.findIn K (.ref C_Net) "had" = some (some (.ref f_Net_had)))
    (i_Net_had:PySem.W.isFn K (.ref f_Net_had)=true)
    (l_Net_had:K.lookup f_Net_had=some ⟨oc_Net_had,od_Net_had,.func (PySem.W.fnOf "had" "Net.had" (defArgs s_Net_had) (defBody s_Net_had) (defScope s_Net_had) .none kV_Net_had dc_Net_had pm_Net_had an_Net_had cd_Net_had ct_Net_had),sl_Net_had⟩)
    (c_Net_had:PySem.W.codeIn K cd_Net_had "Net.had" = true)
    (k_Net_had:PySem.W.keepIn K (.ref f_Net_had)=true)
    (a_Net_flying:PySem.W.findIn K (.ref C_Net) "flying" = some (some (.ref f_Net_flying)))
    (i_Net_flying:PySem.W.isFn K (.ref f_Net_flying)=true)
    (l_Net_flying:K.lookup f_Net_flying=some ⟨oc_Net_flying,od_Net_flying,.func (PySem.W.fnOf "flying" "Net.flying" (defArgs s_Net_flying) (defBody s_Net_flying) (defScope s_Net_flying) .none kV_Net_flying dc_Net_flying pm_Net_flying an_Net_flying cd_Net_flying ct_Net_flying),sl_Net_flying⟩)
    (c_Net_flying:PySem.W.codeIn K cd_Net_flying "Net.flying" = true)
    (k_Net_flying:PySem.W.keepIn K (.ref f_Net_flying)=true)
    (a_Net_lose_copies:PySem.W.findIn K (.ref C_Net) "lose_copies" = some (some (.ref f_Net_lose_copies)))
    (i_Net_lose_copies:PySem.W.isFn K (.ref f_Net_lose_copies)=true)
    (l_Net_lose_copies:K.lookup f_Net_lose_copies=some ⟨oc_Net_lose_copies,od_Net_lose_copies,.func (PySem.W.fnOf "lose_copies" "Net.lose_copies" (defArgs s_Net_lose_copies) (defBody s_Net_lose_copies) (defScope s_Net_lose_copies) .none kV_Net_lose_copies dc_Net_lose_copies pm_Net_lose_copies an_Net_lose_copies cd_Net_lose_copies ct_Net_lose_copies),sl_Net_lose_copies⟩)
    (c_Net_lose_copies:PySem.W.codeIn K cd_Net_lose_copies "Net.lose_copies" = true)
    (k_Net_lose_copies:PySem.W.keepIn K (.ref f_Net_lose_copies)=true)
    (a_Net_take_news:PySem.W.findIn K (.ref C_Net) "take_news" = some (some (.ref f_Net_take_news)))
    (i_Net_take_news:PySem.W.isFn K (.ref f_Net_take_news)=true)
    (l_Net_take_news:K.lookup f_Net_take_news=some ⟨oc_Net_take_news,od_Net_take_news,.func (PySem.W.fnOf "take_news" "Net.take_news" (defArgs s_Net_take_news) (defBody s_Net_take_news) (defScope s_Net_take_news) .none kV_Net_take_news dc_Net_take_news pm_Net_take_news an_Net_take_news cd_Net_take_news ct_Net_take_news),sl_Net_take_news⟩)
    (c_Net_take_news:PySem.W.codeIn K cd_Net_take_news "Net.take_news" = true)
    (k_Net_take_news:PySem.W.keepIn K (.ref f_Net_take_news)=true)
    (a_Net_take_news_of_rope:PySem.W.findIn K (.ref C_Net) "take_news_of_rope" = some (some (.ref f_Net_take_news_of_rope)))
    (i_Net_take_news_of_rope:PySem.W.isFn K (.ref f_Net_take_news_of_rope)=true)
    (l_Net_take_news_of_rope:K.lookup f_Net_take_news_of_rope=some ⟨oc_Net_take_news_of_rope,od_Net_take_news_of_rope,.func (PySem.W.fnOf "take_news_of_rope" "Net.take_news_of_rope" (defArgs s_Net_take_news_of_rope) (defBody s_Net_take_news_of_rope) (defScope s_Net_take_news_of_rope) .none kV_Net_take_news_of_rope dc_Net_take_news_of_rope pm_Net_take_news_of_rope an_Net_take_news_of_rope cd_Net_take_news_of_rope ct_Net_take_news_of_rope),sl_Net_take_news_of_rope⟩)
    (c_Net_take_news_of_rope:PySem.W.codeIn K cd_Net_take_news_of_rope "Net.take_news_of_rope" = true)
    (k_Net_take_news_of_rope:PySem.W.keepIn K (.ref f_Net_take_news_of_rope)=true)
    (a_Net_check_house:PySem.W.findIn K (.ref C_Net) "check_house" = some (some (.ref f_Net_check_house)))
    (i_Net_check_house:PySem.W.isFn K (.ref f_Net_check_house)=true)
    (l_Net_check_house:K.lookup f_Net_check_house=some ⟨oc_Net_check_house,od_Net_check_house,.func (PySem.W.fnOf "check_house" "Net.check_house" (defArgs s_Net_check_house) (defBody s_Net_check_house) (defScope s_Net_check_house) .none kV_Net_check_house dc_Net_check_house pm_Net_check_house an_Net_check_house cd_Net_check_house ct_Net_check_house),sl_Net_check_house⟩)
    (c_Net_check_house:PySem.W.codeIn K cd_Net_check_house "Net.check_house" = true)
    (k_Net_check_house:PySem.W.keepIn K (.ref f_Net_check_house)=true)
    (a_Net_check_caller:PySem.W.findIn K (.ref C_Net) "check_caller" = some (some (.ref f_Net_check_caller)))
    (i_Net_check_caller:PySem.W.isFn K (.ref f_Net_check_caller)=true)
    (l_Net_check_caller:K.lookup f_Net_check_caller=some ⟨oc_Net_check_caller,od_Net_check_caller,.func (PySem.W.fnOf "check_caller" "Net.check_caller" (defArgs s_Net_check_caller) (defBody s_Net_check_caller) (defScope s_Net_check_caller) .none kV_Net_check_caller dc_Net_check_caller pm_Net_check_caller an_Net_check_caller cd_Net_check_caller ct_Net_check_caller),sl_Net_check_caller⟩)
    (c_Net_check_caller:PySem.W.codeIn K cd_Net_check_caller "Net.check_caller" = true)
    (k_Net_check_caller:PySem.W.keepIn K (.ref f_Net_check_caller)=true)
    (a_first_rows:PySem.W.nsIn K mainGlobals "first_rows" = some (some (.ref f_first_rows)))
    (l_first_rows:K.lookup f_first_rows=some ⟨oc_first_rows,od_first_rows,.func (PySem.W.fnOf "first_rows" "first_rows" (defArgs s_first_rows) (defBody s_first_rows) (defScope s_first_rows) .none kV_first_rows dc_first_rows pm_first_rows an_first_rows cd_first_rows ct_first_rows),sl_first_rows⟩)
    (c_first_rows:PySem.W.codeIn K cd_first_rows "first_rows" = true)
    (k_first_rows:PySem.W.keepIn K (.ref f_first_rows)=true)
    (a_check_callers:PySem.W.nsIn K mainGlobals "check_callers" = some (some (.ref f_check_callers)))
    (l_check_callers:K.lookup f_check_callers=some ⟨oc_check_callers,od_check_callers,.func (PySem.W.fnOf "check_callers" "check_callers" (defArgs s_check_callers) (defBody s_check_callers) (defScope s_check_callers) .none kV_check_callers dc_check_callers pm_check_callers an_check_callers cd_check_callers ct_check_callers),sl_check_callers⟩)
    (c_check_callers:PySem.W.codeIn K cd_check_callers "check_callers" = true)
    (k_check_callers:PySem.W.keepIn K (.ref f_check_callers)=true)
    (a_w_cell_at:PySem.W.nsIn K mainGlobals "_law_cell_at" = some (some (.ref f_w_cell_at)))
    (l_w_cell_at:K.lookup f_w_cell_at=some ⟨oc_w_cell_at,od_w_cell_at,.func (PySem.W.fnOf "_law_cell_at" "_law_cell_at" (defArgs s_w_cell_at) (defBody s_w_cell_at) (defScope s_w_cell_at) .none kV_w_cell_at dc_w_cell_at pm_w_cell_at an_w_cell_at cd_w_cell_at ct_w_cell_at),sl_w_cell_at⟩)
    (c_w_cell_at:PySem.W.codeIn K cd_w_cell_at "_law_cell_at" = true)
    (k_w_cell_at:PySem.W.keepIn K (.ref f_w_cell_at)=true)
    (a_w_whole:PySem.W.nsIn K mainGlobals "_law_whole" = some (some (.ref f_w_whole)))
    (l_w_whole:K.lookup f_w_whole=some ⟨oc_w_whole,od_w_whole,.func (PySem.W.fnOf "_law_whole" "_law_whole" (defArgs s_w_whole) (defBody s_w_whole) (defScope s_w_whole) .none kV_w_whole dc_w_whole pm_w_whole an_w_whole cd_w_whole ct_w_whole),sl_w_whole⟩)
    (c_w_whole:PySem.W.codeIn K cd_w_whole "_law_whole" = true)
    (k_w_whole:PySem.W.keepIn K (.ref f_w_whole)=true)
    (a_w_list:PySem.W.nsIn K mainGlobals "_law_list" = some (some (.ref f_w_list)))
    (l_w_list:K.lookup f_w_list=some ⟨oc_w_list,od_w_list,.func (PySem.W.fnOf "_law_list" "_law_list" (defArgs s_w_list) (defBody s_w_list) (defScope s_w_list) .none kV_w_list dc_w_list pm_w_list an_w_list cd_w_list ct_w_list),sl_w_list⟩)
    (c_w_list:PySem.W.codeIn K cd_w_list "_law_list" = true)
    (k_w_list:PySem.W.keepIn K (.ref f_w_list)=true)
    (a_w_names:PySem.W.nsIn K mainGlobals "_law_names" = some (some (.ref f_w_names)))
    (l_w_names:K.lookup f_w_names=some ⟨oc_w_names,od_w_names,.func (PySem.W.fnOf "_law_names" "_law_names" (defArgs s_w_names) (defBody s_w_names) (defScope s_w_names) .none kV_w_names dc_w_names pm_w_names an_w_names cd_w_names ct_w_names),sl_w_names⟩)
    (c_w_names:PySem.W.codeIn K cd_w_names "_law_names" = true)
    (k_w_names:PySem.W.keepIn K (.ref f_w_names)=true)
    (a_w_ropes:PySem.W.nsIn K mainGlobals "_law_ropes" = some (some (.ref f_w_ropes)))
    (l_w_ropes:K.lookup f_w_ropes=some ⟨oc_w_ropes,od_w_ropes,.func (PySem.W.fnOf "_law_ropes" "_law_ropes" (defArgs s_w_ropes) (defBody s_w_ropes) (defScope s_w_ropes) .none kV_w_ropes dc_w_ropes pm_w_ropes an_w_ropes cd_w_ropes ct_w_ropes),sl_w_ropes⟩)
    (c_w_ropes:PySem.W.codeIn K cd_w_ropes "_law_ropes" = true)
    (k_w_ropes:PySem.W.keepIn K (.ref f_w_ropes)=true)
    (a_w_callers:PySem.W.nsIn K mainGlobals "_law_callers" = some (some (.ref f_w_callers)))
    (l_w_callers:K.lookup f_w_callers=some ⟨oc_w_callers,od_w_callers,.func (PySem.W.fnOf "_law_callers" "_law_callers" (defArgs s_w_callers) (defBody s_w_callers) (defScope s_w_callers) .none kV_w_callers dc_w_callers pm_w_callers an_w_callers cd_w_callers ct_w_callers),sl_w_callers⟩)
    (c_w_callers:PySem.W.codeIn K cd_w_callers "_law_callers" = true)
    (k_w_callers:PySem.W.keepIn K (.ref f_w_callers)=true)
    (a_w_live:PySem.W.nsIn K mainGlobals "_law_live" = some (some (.ref f_w_live)))
    (l_w_live:K.lookup f_w_live=some ⟨oc_w_live,od_w_live,.func (PySem.W.fnOf "_law_live" "_law_live" (defArgs s_w_live) (defBody s_w_live) (defScope s_w_live) .none kV_w_live dc_w_live pm_w_live an_w_live cd_w_live ct_w_live),sl_w_live⟩)
    (c_w_live:PySem.W.codeIn K cd_w_live "_law_live" = true)
    (k_w_live:PySem.W.keepIn K (.ref f_w_live)=true)
    (a_w_due:PySem.W.nsIn K mainGlobals "_law_due" = some (some (.ref f_w_due)))
    (l_w_due:K.lookup f_w_due=some ⟨oc_w_due,od_w_due,.func (PySem.W.fnOf "_law_due" "_law_due" (defArgs s_w_due) (defBody s_w_due) (defScope s_w_due) .none kV_w_due dc_w_due pm_w_due an_w_due cd_w_due ct_w_due),sl_w_due⟩)
    (c_w_due:PySem.W.codeIn K cd_w_due "_law_due" = true)
    (k_w_due:PySem.W.keepIn K (.ref f_w_due)=true)
    (a_w_rows_same:PySem.W.nsIn K mainGlobals "_law_rows_same" = some (some (.ref f_w_rows_same)))
    (l_w_rows_same:K.lookup f_w_rows_same=some ⟨oc_w_rows_same,od_w_rows_same,.func (PySem.W.fnOf "_law_rows_same" "_law_rows_same" (defArgs s_w_rows_same) (defBody s_w_rows_same) (defScope s_w_rows_same) .none kV_w_rows_same dc_w_rows_same pm_w_rows_same an_w_rows_same cd_w_rows_same ct_w_rows_same),sl_w_rows_same⟩)
    (c_w_rows_same:PySem.W.codeIn K cd_w_rows_same "_law_rows_same" = true)
    (k_w_rows_same:PySem.W.keepIn K (.ref f_w_rows_same)=true)
    (a_w_opens:PySem.W.nsIn K mainGlobals "_law_opens" = some (some (.ref f_w_opens)))
    (l_w_opens:K.lookup f_w_opens=some ⟨oc_w_opens,od_w_opens,.func (PySem.W.fnOf "_law_opens" "_law_opens" (defArgs s_w_opens) (defBody s_w_opens) (defScope s_w_opens) .none kV_w_opens dc_w_opens pm_w_opens an_w_opens cd_w_opens ct_w_opens),sl_w_opens⟩)
    (c_w_opens:PySem.W.codeIn K cd_w_opens "_law_opens" = true)
    (k_w_opens:PySem.W.keepIn K (.ref f_w_opens)=true)
    (a_w_first:PySem.W.nsIn K mainGlobals "_law_first" = some (some (.ref f_w_first)))
    (l_w_first:K.lookup f_w_first=some ⟨oc_w_first,od_w_first,.func (PySem.W.fnOf "_law_first" "_law_first" (defArgs s_w_first) (defBody s_w_first) (defScope s_w_first) .none kV_w_first dc_w_first pm_w_first an_w_first cd_w_first ct_w_first),sl_w_first⟩)
    (c_w_first:PySem.W.codeIn K cd_w_first "_law_first" = true)
    (k_w_first:PySem.W.keepIn K (.ref f_w_first)=true)
    (a_w_look:PySem.W.nsIn K mainGlobals "_law_look" = some (some (.ref f_w_look)))
    (l_w_look:K.lookup f_w_look=some ⟨oc_w_look,od_w_look,.func (PySem.W.fnOf "_law_look" "_law_look" (defArgs s_w_look) (defBody s_w_look) (defScope s_w_look) .none kV_w_look dc_w_look pm_w_look an_w_look cd_w_look ct_w_look),sl_w_look⟩)
    (c_w_look:PySem.W.codeIn K cd_w_look "_law_look" = true)
    (k_w_look:PySem.W.keepIn K (.ref f_w_look)=true)
    (a_law:PySem.W.nsIn K mainGlobals "law" = some (some (.ref f_law)))
    (l_law:K.lookup f_law=some ⟨oc_law,od_law,.func (PySem.W.fnOf "law" "law" (defArgs s_law) (defBody s_law) (defScope s_law) .none kV_law dc_law pm_law an_law cd_law ct_law),sl_law⟩)
    (c_law:PySem.W.codeIn K cd_law "law" = true)
    (k_law:PySem.W.keepIn K (.ref f_law)=true)
    (pg_Town:PySem.W.plainGet K C_Town Str.empty=true)
    (hd_Town:PySem.W.hasDictIn K C_Town=true)
    (po_Town:PySem.W.plainOver K C_Town=true)
    (sa_Town:PySem.W.findIn K (.ref C_Town) "__setattr__" = some (some (.builtin "object.__setattr__")))
    (mk_Town:PySem.W.makesIn K C_Town=true)
    (kc_Town:PySem.W.keepIn K (.ref C_Town)=true)
    (nA_Town_house_names:PySem.W.findIn K (.ref C_Town) "house_names" = some none)
    (nA_Town_rope_tuples:PySem.W.findIn K (.ref C_Town) "rope_tuples" = some none)
    (nA_Town_size:PySem.W.findIn K (.ref C_Town) "size" = some none)
    (nA_Town_many:PySem.W.findIn K (.ref C_Town) "many" = some none)
    (pg_Strands:PySem.W.plainGet K C_Strands Str.empty=true)
    (hd_Strands:PySem.W.hasDictIn K C_Strands=true)
    (po_Strands:PySem.W.plainOver K C_Strands=true)
    (sa_Strands:PySem.W.findIn K (.ref C_Strands) "__setattr__" = some (some (.builtin "object.__setattr__")))
    (mk_Strands:PySem.W.makesIn K C_Strands=true)
    (kc_Strands:PySem.W.keepIn K (.ref C_Strands)=true)
    (nA_Strands_town:PySem.W.findIn K (.ref C_Strands) "town" = some none)
    (nA_Strands_upright:PySem.W.findIn K (.ref C_Strands) "upright" = some none)
    (pg_Book:PySem.W.plainGet K C_Book Str.empty=true)
    (hd_Book:PySem.W.hasDictIn K C_Book=true)
    (po_Book:PySem.W.plainOver K C_Book=true)
    (sa_Book:PySem.W.findIn K (.ref C_Book) "__setattr__" = some (some (.builtin "object.__setattr__")))
    (mk_Book:PySem.W.makesIn K C_Book=true)
    (kc_Book:PySem.W.keepIn K (.ref C_Book)=true)
    (nA_Book_kept:PySem.W.findIn K (.ref C_Book) "kept" = some none)
    (pg_Net:PySem.W.plainGet K C_Net Str.empty=true)
    (hd_Net:PySem.W.hasDictIn K C_Net=true)
    (po_Net:PySem.W.plainOver K C_Net=true)
    (sa_Net:PySem.W.findIn K (.ref C_Net) "__setattr__" = some (some (.builtin "object.__setattr__")))
    (mk_Net:PySem.W.makesIn K C_Net=true)
    (kc_Net:PySem.W.keepIn K (.ref C_Net)=true)
    (nA_Net_town:PySem.W.findIn K (.ref C_Net) "town" = some none)
    (nA_Net_strands:PySem.W.findIn K (.ref C_Net) "strands" = some none)
    (nA_Net_rows_by_group:PySem.W.findIn K (.ref C_Net) "rows_by_group" = some none)
    (nA_Net_books:PySem.W.findIn K (.ref C_Net) "books" = some none)
    (nA_Net_homes:PySem.W.findIn K (.ref C_Net) "homes" = some none)
    (nA_Net_groups:PySem.W.findIn K (.ref C_Net) "groups" = some none)
    (nA_Net_handed:PySem.W.findIn K (.ref C_Net) "handed" = some none)
    (nA_Net_letters:PySem.W.findIn K (.ref C_Net) "letters" = some none)
    (nA_Net_copies:PySem.W.findIn K (.ref C_Net) "copies" = some none)
    (al_opens_opens:PySem.W.nsIn K mainGlobals "opens_opens" = some (some (.ref f_opens)))
    (al_resting_rows:PySem.W.nsIn K mainGlobals "resting_rows" = some (some (.ref f_resting)))
    (aX_NoWire:PySem.W.nsIn K mainGlobals "NoWire" = some (some (.ref X_NoWire)))
    (xex_NoWire:PySem.W.excIn K X_NoWire veMro "ValueError.__new__" = true)
    (xga_NoWire:PySem.W.findIn K (.ref X_NoWire) "__getattribute__" = some (some (.builtin "BaseException.__getattribute__")))
    (xgb_NoWire:PySem.W.findIn K (.ref X_NoWire) "__getattr__" = some none)
    (xhd_NoWire:PySem.W.hasDictIn K X_NoWire=true)
    (xca_NoWire:PySem.W.findIn K (.ref X_NoWire) "__class__" = some (some (.builtin "object.__class__")))
    (xcg_NoWire:PySem.W.specialIn K (.builtin "object.__class__") "__get__" = some (some (.builtin "getset_descriptor.__get__")))
    (xct_NoWire:PySem.W.takesIn K (.builtin "object.__class__")=some true)
    (xmo_NoWire:PySem.W.mroIn K X_NoWire (.type "object")=some true)
    (xmb_NoWire:PySem.W.mroIn K X_NoWire (.type "BaseException")=some true)
    (aX_NoGroup:PySem.W.nsIn K mainGlobals "NoGroup" = some (some (.ref X_NoGroup)))
    (xex_NoGroup:PySem.W.excIn K X_NoGroup veMro "ValueError.__new__" = true)
    (xga_NoGroup:PySem.W.findIn K (.ref X_NoGroup) "__getattribute__" = some (some (.builtin "BaseException.__getattribute__")))
    (xgb_NoGroup:PySem.W.findIn K (.ref X_NoGroup) "__getattr__" = some none)
    (xhd_NoGroup:PySem.W.hasDictIn K X_NoGroup=true)
    (xca_NoGroup:PySem.W.findIn K (.ref X_NoGroup) "__class__" = some (some (.builtin "object.__class__")))
    (xcg_NoGroup:PySem.W.specialIn K (.builtin "object.__class__") "__get__" = some (some (.builtin "getset_descriptor.__get__")))
    (xct_NoGroup:PySem.W.takesIn K (.builtin "object.__class__")=some true)
    (xmo_NoGroup:PySem.W.mroIn K X_NoGroup (.type "object")=some true)
    (xmb_NoGroup:PySem.W.mroIn K X_NoGroup (.type "BaseException")=some true)
    (g_MOST_HOUSES:PySem.W.nsIn K mainGlobals "MOST_HOUSES" = some (some (.int 10 q_MOST_HOUSES)))
    (g_MOST_ROPES:PySem.W.nsIn K mainGlobals "MOST_ROPES" = some (some (.int 20 q_MOST_ROPES)))
    (g_MOST_WIRES:PySem.W.nsIn K mainGlobals "MOST_WIRES" = some (some (.int 4 q_MOST_WIRES)))
    (g_ALL_GROUPS:PySem.W.nsIn K mainGlobals "ALL_GROUPS" = some (some (.int 7 q_ALL_GROUPS)))
    (g_MOST_CALLERS:PySem.W.nsIn K mainGlobals "MOST_CALLERS" = some (some (.int 20 q_MOST_CALLERS)))
    (g_GROUP_BITS:PySem.W.nsIn K mainGlobals "GROUP_BITS" = some (some (.ref a_GROUP_BITS)))
    (o_GROUP_BITS:K.lookup a_GROUP_BITS=some ⟨.type "tuple",od_GROUP_BITS,.seq #[.int 1 t0_GROUP_BITS,.int 2 t1_GROUP_BITS,.int 4 t2_GROUP_BITS] n_GROUP_BITS,sl_GROUP_BITS⟩)
    (z_len:PySem.W.nsIn K mainGlobals "len" = some none)
    (z_isinstance:PySem.W.nsIn K mainGlobals "isinstance" = some none)
    (z_int:PySem.W.nsIn K mainGlobals "int" = some none)
    (z_bool:PySem.W.nsIn K mainGlobals "bool" = some none)
    (z_list:PySem.W.nsIn K mainGlobals "list" = some none)
    (z_tuple:PySem.W.nsIn K mainGlobals "tuple" = some none)
    (z_range:PySem.W.nsIn K mainGlobals "range" = some none)
    (z_enumerate:PySem.W.nsIn K mainGlobals "enumerate" = some none)
    (z_min:PySem.W.nsIn K mainGlobals "min" = some none)
    (z_set:PySem.W.nsIn K mainGlobals "set" = some none)
    (z_all:PySem.W.nsIn K mainGlobals "all" = some none)
    (z_sorted:PySem.W.nsIn K mainGlobals "sorted" = some none)
    (z_zip:PySem.W.nsIn K mainGlobals "zip" = some none):∃ t,Txt K mg t:=by
  have F_Booku_initu:=fun_mk (st:=s_Booku_initu) l_Booku_initu c_Booku_initu k_Booku_initu
  have F_Book_notes:=fun_mk (st:=s_Book_notes) l_Book_notes c_Book_notes k_Book_notes
  have F_Book_forget:=fun_mk (st:=s_Book_forget) l_Book_forget c_Book_forget k_Book_forget
  have F_own_row:=fun_mk (st:=s_own_row) l_own_row c_own_row k_own_row
  have F_offer:=fun_mk (st:=s_offer) l_offer c_offer k_offer
  have F_due:=fun_mk (st:=s_due) l_due c_due k_due
  have F_resting:=fun_mk (st:=s_resting) l_resting c_resting k_resting
  have F_ups:=fun_mk (st:=s_ups) l_ups c_ups k_ups
  have F_opens:=fun_mk (st:=s_opens) l_opens c_opens k_opens
  have F_up_of:=fun_mk (st:=s_up_of) l_up_of c_up_of k_up_of
  have F_Townu_initu:=fun_mk (st:=s_Townu_initu) l_Townu_initu c_Townu_initu k_Townu_initu
  have F_Town_name:=fun_mk (st:=s_Town_name) l_Town_name c_Town_name k_Town_name
  have F_Town_rope:=fun_mk (st:=s_Town_rope) l_Town_rope c_Town_rope k_Town_rope
  have F_Town_ropes_at:=fun_mk (st:=s_Town_ropes_at) l_Town_ropes_at c_Town_ropes_at k_Town_ropes_at
  have F_Town_far_end:=fun_mk (st:=s_Town_far_end) l_Town_far_end c_Town_far_end k_Town_far_end
  have F_Town_lets:=fun_mk (st:=s_Town_lets) l_Town_lets c_Town_lets k_Town_lets
  have F_check_names:=fun_mk (st:=s_check_names) l_check_names c_check_names k_check_names
  have F_check_ropes:=fun_mk (st:=s_check_ropes) l_check_ropes c_check_ropes k_check_ropes
  have F_check_rope:=fun_mk (st:=s_check_rope) l_check_rope c_check_rope k_check_rope
  have F_joins_two:=fun_mk (st:=s_joins_two) l_joins_two c_joins_two k_joins_two
  have F_Strandsu_initu:=fun_mk (st:=s_Strandsu_initu) l_Strandsu_initu c_Strandsu_initu k_Strandsu_initu
  have F_Strands_fall:=fun_mk (st:=s_Strands_fall) l_Strands_fall c_Strands_fall k_Strands_fall
  have F_Strands_standing:=fun_mk (st:=s_Strands_standing) l_Strands_standing c_Strands_standing k_Strands_standing
  have F_Strands_live:=fun_mk (st:=s_Strands_live) l_Strands_live c_Strands_live k_Strands_live
  have F_wires_of:=fun_mk (st:=s_wires_of) l_wires_of c_wires_of k_wires_of
  have F_check_group:=fun_mk (st:=s_check_group) l_check_group c_check_group k_check_group
  have F_Netu_initu:=fun_mk (st:=s_Netu_initu) l_Netu_initu c_Netu_initu k_Netu_initu
  have F_Net_rows:=fun_mk (st:=s_Net_rows) l_Net_rows c_Net_rows k_Net_rows
  have F_Net_live:=fun_mk (st:=s_Net_live) l_Net_live c_Net_live k_Net_live
  have F_Net_opens:=fun_mk (st:=s_Net_opens) l_Net_opens c_Net_opens k_Net_opens
  have F_Net_notes:=fun_mk (st:=s_Net_notes) l_Net_notes c_Net_notes k_Net_notes
  have F_Net_resting:=fun_mk (st:=s_Net_resting) l_Net_resting c_Net_resting k_Net_resting
  have F_Net_row_at:=fun_mk (st:=s_Net_row_at) l_Net_row_at c_Net_row_at k_Net_row_at
  have F_Net_call:=fun_mk (st:=s_Net_call) l_Net_call c_Net_call k_Net_call
  have F_Net_fall:=fun_mk (st:=s_Net_fall) l_Net_fall c_Net_fall k_Net_fall
  have F_Net_place:=fun_mk (st:=s_Net_place) l_Net_place c_Net_place k_Net_place
  have F_Net_had:=fun_mk (st:=s_Net_had) l_Net_had c_Net_had k_Net_had
  have F_Net_flying:=fun_mk (st:=s_Net_flying) l_Net_flying c_Net_flying k_Net_flying
  have F_Net_lose_copies:=fun_mk (st:=s_Net_lose_copies) l_Net_lose_copies c_Net_lose_copies k_Net_lose_copies
  have F_Net_take_news:=fun_mk (st:=s_Net_take_news) l_Net_take_news c_Net_take_news k_Net_take_news
  have F_Net_take_news_of_rope:=fun_mk (st:=s_Net_take_news_of_rope) l_Net_take_news_of_rope c_Net_take_news_of_rope k_Net_take_news_of_rope
  have F_Net_check_house:=fun_mk (st:=s_Net_check_house) l_Net_check_house c_Net_check_house k_Net_check_house
  have F_Net_check_caller:=fun_mk (st:=s_Net_check_caller) l_Net_check_caller c_Net_check_caller k_Net_check_caller
  have F_first_rows:=fun_mk (st:=s_first_rows) l_first_rows c_first_rows k_first_rows
  have F_check_callers:=fun_mk (st:=s_check_callers) l_check_callers c_check_callers k_check_callers
  have F_w_cell_at:=fun_mk (st:=s_w_cell_at) l_w_cell_at c_w_cell_at k_w_cell_at
  have F_w_whole:=fun_mk (st:=s_w_whole) l_w_whole c_w_whole k_w_whole
  have F_w_list:=fun_mk (st:=s_w_list) l_w_list c_w_list k_w_list
  have F_w_names:=fun_mk (st:=s_w_names) l_w_names c_w_names k_w_names
  have F_w_ropes:=fun_mk (st:=s_w_ropes) l_w_ropes c_w_ropes k_w_ropes
  have F_w_callers:=fun_mk (st:=s_w_callers) l_w_callers c_w_callers k_w_callers
  have F_w_live:=fun_mk (st:=s_w_live) l_w_live c_w_live k_w_live
  have F_w_due:=fun_mk (st:=s_w_due) l_w_due c_w_due k_w_due
  have F_w_rows_same:=fun_mk (st:=s_w_rows_same) l_w_rows_same c_w_rows_same k_w_rows_same
  have F_w_opens:=fun_mk (st:=s_w_opens) l_w_opens c_w_opens k_w_opens
  have F_w_first:=fun_mk (st:=s_w_first) l_w_first c_w_first k_w_first
  have F_w_look:=fun_mk (st:=s_w_look) l_w_look c_w_look k_w_look
  have F_law:=fun_mk (st:=s_law) l_law c_law k_law
  exact ⟨⟨f_Booku_initu,(PySem.W.fnOf "__init__" "Book.__init__" (defArgs s_Booku_initu) (defBody s_Booku_initu) (defScope s_Booku_initu) .none kV_Booku_initu dc_Booku_initu pm_Booku_initu an_Booku_initu cd_Booku_initu ct_Booku_initu),f_Book_notes,(PySem.W.fnOf "notes" "Book.notes" (defArgs s_Book_notes) (defBody s_Book_notes) (defScope s_Book_notes) .none kV_Book_notes dc_Book_notes pm_Book_notes an_Book_notes cd_Book_notes ct_Book_notes),f_Book_forget,(PySem.W.fnOf "forget" "Book.forget" (defArgs s_Book_forget) (defBody s_Book_forget) (defScope s_Book_forget) .none kV_Book_forget dc_Book_forget pm_Book_forget an_Book_forget cd_Book_forget ct_Book_forget),f_own_row,(PySem.W.fnOf "own_row" "own_row" (defArgs s_own_row) (defBody s_own_row) (defScope s_own_row) .none kV_own_row dc_own_row pm_own_row an_own_row cd_own_row ct_own_row),f_offer,(PySem.W.fnOf "offer" "offer" (defArgs s_offer) (defBody s_offer) (defScope s_offer) .none kV_offer dc_offer pm_offer an_offer cd_offer ct_offer),f_due,(PySem.W.fnOf "due" "due" (defArgs s_due) (defBody s_due) (defScope s_due) .none kV_due dc_due pm_due an_due cd_due ct_due),f_resting,(PySem.W.fnOf "resting" "resting" (defArgs s_resting) (defBody s_resting) (defScope s_resting) .none kV_resting dc_resting pm_resting an_resting cd_resting ct_resting),f_ups,(PySem.W.fnOf "ups" "ups" (defArgs s_ups) (defBody s_ups) (defScope s_ups) .none kV_ups dc_ups pm_ups an_ups cd_ups ct_ups),f_opens,(PySem.W.fnOf "opens" "opens" (defArgs s_opens) (defBody s_opens) (defScope s_opens) .none kV_opens dc_opens pm_opens an_opens cd_opens ct_opens),f_up_of,(PySem.W.fnOf "up_of" "up_of" (defArgs s_up_of) (defBody s_up_of) (defScope s_up_of) .none kV_up_of dc_up_of pm_up_of an_up_of cd_up_of ct_up_of),f_Townu_initu,(PySem.W.fnOf "__init__" "Town.__init__" (defArgs s_Townu_initu) (defBody s_Townu_initu) (defScope s_Townu_initu) .none kV_Townu_initu dc_Townu_initu pm_Townu_initu an_Townu_initu cd_Townu_initu ct_Townu_initu),f_Town_name,(PySem.W.fnOf "name" "Town.name" (defArgs s_Town_name) (defBody s_Town_name) (defScope s_Town_name) .none kV_Town_name dc_Town_name pm_Town_name an_Town_name cd_Town_name ct_Town_name),f_Town_rope,(PySem.W.fnOf "rope" "Town.rope" (defArgs s_Town_rope) (defBody s_Town_rope) (defScope s_Town_rope) .none kV_Town_rope dc_Town_rope pm_Town_rope an_Town_rope cd_Town_rope ct_Town_rope),f_Town_ropes_at,(PySem.W.fnOf "ropes_at" "Town.ropes_at" (defArgs s_Town_ropes_at) (defBody s_Town_ropes_at) (defScope s_Town_ropes_at) .none kV_Town_ropes_at dc_Town_ropes_at pm_Town_ropes_at an_Town_ropes_at cd_Town_ropes_at ct_Town_ropes_at),f_Town_far_end,(PySem.W.fnOf "far_end" "Town.far_end" (defArgs s_Town_far_end) (defBody s_Town_far_end) (defScope s_Town_far_end) .none kV_Town_far_end dc_Town_far_end pm_Town_far_end an_Town_far_end cd_Town_far_end ct_Town_far_end),f_Town_lets,(PySem.W.fnOf "lets" "Town.lets" (defArgs s_Town_lets) (defBody s_Town_lets) (defScope s_Town_lets) .none kV_Town_lets dc_Town_lets pm_Town_lets an_Town_lets cd_Town_lets ct_Town_lets),f_check_names,(PySem.W.fnOf "check_names" "check_names" (defArgs s_check_names) (defBody s_check_names) (defScope s_check_names) .none kV_check_names dc_check_names pm_check_names an_check_names cd_check_names ct_check_names),f_check_ropes,(PySem.W.fnOf "check_ropes" "check_ropes" (defArgs s_check_ropes) (defBody s_check_ropes) (defScope s_check_ropes) .none kV_check_ropes dc_check_ropes pm_check_ropes an_check_ropes cd_check_ropes ct_check_ropes),f_check_rope,(PySem.W.fnOf "check_rope" "check_rope" (defArgs s_check_rope) (defBody s_check_rope) (defScope s_check_rope) .none kV_check_rope dc_check_rope pm_check_rope an_check_rope cd_check_rope ct_check_rope),f_joins_two,(PySem.W.fnOf "joins_two" "joins_two" (defArgs s_joins_two) (defBody s_joins_two) (defScope s_joins_two) .none kV_joins_two dc_joins_two pm_joins_two an_joins_two cd_joins_two ct_joins_two),f_Strandsu_initu,(PySem.W.fnOf "__init__" "Strands.__init__" (defArgs s_Strandsu_initu) (defBody s_Strandsu_initu) (defScope s_Strandsu_initu) .none kV_Strandsu_initu dc_Strandsu_initu pm_Strandsu_initu an_Strandsu_initu cd_Strandsu_initu ct_Strandsu_initu),f_Strands_fall,(PySem.W.fnOf "fall" "Strands.fall" (defArgs s_Strands_fall) (defBody s_Strands_fall) (defScope s_Strands_fall) .none kV_Strands_fall dc_Strands_fall pm_Strands_fall an_Strands_fall cd_Strands_fall ct_Strands_fall),f_Strands_standing,(PySem.W.fnOf "standing" "Strands.standing" (defArgs s_Strands_standing) (defBody s_Strands_standing) (defScope s_Strands_standing) .none kV_Strands_standing dc_Strands_standing pm_Strands_standing an_Strands_standing cd_Strands_standing ct_Strands_standing),f_Strands_live,(PySem.W.fnOf "live" "Strands.live" (defArgs s_Strands_live) (defBody s_Strands_live) (defScope s_Strands_live) .none kV_Strands_live dc_Strands_live pm_Strands_live an_Strands_live cd_Strands_live ct_Strands_live),f_wires_of,(PySem.W.fnOf "wires_of" "wires_of" (defArgs s_wires_of) (defBody s_wires_of) (defScope s_wires_of) .none kV_wires_of dc_wires_of pm_wires_of an_wires_of cd_wires_of ct_wires_of),f_check_group,(PySem.W.fnOf "check_group" "check_group" (defArgs s_check_group) (defBody s_check_group) (defScope s_check_group) .none kV_check_group dc_check_group pm_check_group an_check_group cd_check_group ct_check_group),f_Netu_initu,(PySem.W.fnOf "__init__" "Net.__init__" (defArgs s_Netu_initu) (defBody s_Netu_initu) (defScope s_Netu_initu) .none kV_Netu_initu dc_Netu_initu pm_Netu_initu an_Netu_initu cd_Netu_initu ct_Netu_initu),f_Net_rows,(PySem.W.fnOf "rows" "Net.rows" (defArgs s_Net_rows) (defBody s_Net_rows) (defScope s_Net_rows) .none kV_Net_rows dc_Net_rows pm_Net_rows an_Net_rows cd_Net_rows ct_Net_rows),f_Net_live,(PySem.W.fnOf "live" "Net.live" (defArgs s_Net_live) (defBody s_Net_live) (defScope s_Net_live) .none kV_Net_live dc_Net_live pm_Net_live an_Net_live cd_Net_live ct_Net_live),f_Net_opens,(PySem.W.fnOf "opens" "Net.opens" (defArgs s_Net_opens) (defBody s_Net_opens) (defScope s_Net_opens) .none kV_Net_opens dc_Net_opens pm_Net_opens an_Net_opens cd_Net_opens ct_Net_opens),f_Net_notes,(PySem.W.fnOf "notes" "Net.notes" (defArgs s_Net_notes) (defBody s_Net_notes) (defScope s_Net_notes) .none kV_Net_notes dc_Net_notes pm_Net_notes an_Net_notes cd_Net_notes ct_Net_notes),f_Net_resting,(PySem.W.fnOf "resting" "Net.resting" (defArgs s_Net_resting) (defBody s_Net_resting) (defScope s_Net_resting) .none kV_Net_resting dc_Net_resting pm_Net_resting an_Net_resting cd_Net_resting ct_Net_resting),f_Net_row_at,(PySem.W.fnOf "row_at" "Net.row_at" (defArgs s_Net_row_at) (defBody s_Net_row_at) (defScope s_Net_row_at) .none kV_Net_row_at dc_Net_row_at pm_Net_row_at an_Net_row_at cd_Net_row_at ct_Net_row_at),f_Net_call,(PySem.W.fnOf "call" "Net.call" (defArgs s_Net_call) (defBody s_Net_call) (defScope s_Net_call) .none kV_Net_call dc_Net_call pm_Net_call an_Net_call cd_Net_call ct_Net_call),f_Net_fall,(PySem.W.fnOf "fall" "Net.fall" (defArgs s_Net_fall) (defBody s_Net_fall) (defScope s_Net_fall) .none kV_Net_fall dc_Net_fall pm_Net_fall an_Net_fall cd_Net_fall ct_Net_fall),f_Net_place,(PySem.W.fnOf "place" "Net.place" (defArgs s_Net_place) (defBody s_Net_place) (defScope s_Net_place) .none kV_Net_place dc_Net_place pm_Net_place an_Net_place cd_Net_place ct_Net_place),f_Net_had,(PySem.W.fnOf "had" "Net.had" (defArgs s_Net_had) (defBody s_Net_had) (defScope s_Net_had) .none kV_Net_had dc_Net_had pm_Net_had an_Net_had cd_Net_had ct_Net_had),f_Net_flying,(PySem.W.fnOf "flying" "Net.flying" (defArgs s_Net_flying) (defBody s_Net_flying) (defScope s_Net_flying) .none kV_Net_flying dc_Net_flying pm_Net_flying an_Net_flying cd_Net_flying ct_Net_flying),f_Net_lose_copies,(PySem.W.fnOf "lose_copies" "Net.lose_copies" (defArgs s_Net_lose_copies) (defBody s_Net_lose_copies) (defScope s_Net_lose_copies) .none kV_Net_lose_copies dc_Net_lose_copies pm_Net_lose_copies an_Net_lose_copies cd_Net_lose_copies ct_Net_lose_copies),f_Net_take_news,(PySem.W.fnOf "take_news" "Net.take_news" (defArgs s_Net_take_news) (defBody s_Net_take_news) (defScope s_Net_take_news) .none kV_Net_take_news dc_Net_take_news pm_Net_take_news an_Net_take_news cd_Net_take_news ct_Net_take_news),f_Net_take_news_of_rope,(PySem.W.fnOf "take_news_of_rope" "Net.take_news_of_rope" (defArgs s_Net_take_news_of_rope) (defBody s_Net_take_news_of_rope) (defScope s_Net_take_news_of_rope) .none kV_Net_take_news_of_rope dc_Net_take_news_of_rope pm_Net_take_news_of_rope an_Net_take_news_of_rope cd_Net_take_news_of_rope ct_Net_take_news_of_rope),f_Net_check_house,(PySem.W.fnOf "check_house" "Net.check_house" (defArgs s_Net_check_house) (defBody s_Net_check_house) (defScope s_Net_check_house) .none kV_Net_check_house dc_Net_check_house pm_Net_check_house an_Net_check_house cd_Net_check_house ct_Net_check_house),f_Net_check_caller,(PySem.W.fnOf "check_caller" "Net.check_caller" (defArgs s_Net_check_caller) (defBody s_Net_check_caller) (defScope s_Net_check_caller) .none kV_Net_check_caller dc_Net_check_caller pm_Net_check_caller an_Net_check_caller cd_Net_check_caller ct_Net_check_caller),f_first_rows,(PySem.W.fnOf "first_rows" "first_rows" (defArgs s_first_rows) (defBody s_first_rows) (defScope s_first_rows) .none kV_first_rows dc_first_rows pm_first_rows an_first_rows cd_first_rows ct_first_rows),f_check_callers,(PySem.W.fnOf "check_callers" "check_callers" (defArgs s_check_callers) (defBody s_check_callers) (defScope s_check_callers) .none kV_check_callers dc_check_callers pm_check_callers an_check_callers cd_check_callers ct_check_callers),f_w_cell_at,(PySem.W.fnOf "_law_cell_at" "_law_cell_at" (defArgs s_w_cell_at) (defBody s_w_cell_at) (defScope s_w_cell_at) .none kV_w_cell_at dc_w_cell_at pm_w_cell_at an_w_cell_at cd_w_cell_at ct_w_cell_at),f_w_whole,(PySem.W.fnOf "_law_whole" "_law_whole" (defArgs s_w_whole) (defBody s_w_whole) (defScope s_w_whole) .none kV_w_whole dc_w_whole pm_w_whole an_w_whole cd_w_whole ct_w_whole),f_w_list,(PySem.W.fnOf "_law_list" "_law_list" (defArgs s_w_list) (defBody s_w_list) (defScope s_w_list) .none kV_w_list dc_w_list pm_w_list an_w_list cd_w_list ct_w_list),f_w_names,(PySem.W.fnOf "_law_names" "_law_names" (defArgs s_w_names) (defBody s_w_names) (defScope s_w_names) .none kV_w_names dc_w_names pm_w_names an_w_names cd_w_names ct_w_names),f_w_ropes,(PySem.W.fnOf "_law_ropes" "_law_ropes" (defArgs s_w_ropes) (defBody s_w_ropes) (defScope s_w_ropes) .none kV_w_ropes dc_w_ropes pm_w_ropes an_w_ropes cd_w_ropes ct_w_ropes),f_w_callers,(PySem.W.fnOf "_law_callers" "_law_callers" (defArgs s_w_callers) (defBody s_w_callers) (defScope s_w_callers) .none kV_w_callers dc_w_callers pm_w_callers an_w_callers cd_w_callers ct_w_callers),f_w_live,(PySem.W.fnOf "_law_live" "_law_live" (defArgs s_w_live) (defBody s_w_live) (defScope s_w_live) .none kV_w_live dc_w_live pm_w_live an_w_live cd_w_live ct_w_live),f_w_due,(PySem.W.fnOf "_law_due" "_law_due" (defArgs s_w_due) (defBody s_w_due) (defScope s_w_due) .none kV_w_due dc_w_due pm_w_due an_w_due cd_w_due ct_w_due),f_w_rows_same,(PySem.W.fnOf "_law_rows_same" "_law_rows_same" (defArgs s_w_rows_same) (defBody s_w_rows_same) (defScope s_w_rows_same) .none kV_w_rows_same dc_w_rows_same pm_w_rows_same an_w_rows_same cd_w_rows_same ct_w_rows_same),f_w_opens,(PySem.W.fnOf "_law_opens" "_law_opens" (defArgs s_w_opens) (defBody s_w_opens) (defScope s_w_opens) .none kV_w_opens dc_w_opens pm_w_opens an_w_opens cd_w_opens ct_w_opens),f_w_first,(PySem.W.fnOf "_law_first" "_law_first" (defArgs s_w_first) (defBody s_w_first) (defScope s_w_first) .none kV_w_first dc_w_first pm_w_first an_w_first cd_w_first ct_w_first),f_w_look,(PySem.W.fnOf "_law_look" "_law_look" (defArgs s_w_look) (defBody s_w_look) (defScope s_w_look) .none kV_w_look dc_w_look pm_w_look an_w_look cd_w_look ct_w_look),f_law,(PySem.W.fnOf "law" "law" (defArgs s_law) (defBody s_law) (defScope s_law) .none kV_law dc_law pm_law an_law cd_law ct_law),C_Town,C_Strands,C_Book,C_Net,X_NoWire,X_NoGroup,q_MOST_HOUSES,q_MOST_ROPES,q_MOST_WIRES,q_ALL_GROUPS,q_MOST_CALLERS,a_GROUP_BITS⟩,⟨F_Booku_initu,
    (F_Booku_initu.binds (ps:=["self"]) fun _ _ _ _ _ _=>el1 fun _=>rfl),
    ⟨mk_Book,a_Booku_initu,i_Booku_initu,kc_Book⟩,
    F_Book_notes,
    (F_Book_notes.binds (ps:=["self"]) fun _ _ _ _ _ _=>el1 fun _=>rfl),
    ⟨a_Book_notes,i_Book_notes,k_Book_notes⟩,
    F_Book_forget,
    (F_Book_forget.binds (ps:=["self"]) fun _ _ _ _ _ _=>el1 fun _=>rfl),
    ⟨a_Book_forget,i_Book_forget,k_Book_forget⟩,
    F_own_row,
    (F_own_row.binds (ps:=["town","house"]) fun _ _ _ _ _ _=>el2 fun _ _=>rfl),
    (PySem.W.mg_of X G a_own_row),
    F_offer,
    (F_offer.binds (ps:=["town","row","rope"]) fun _ _ _ _ _ _=>el3 fun _ _ _=>rfl),
    (PySem.W.mg_of X G a_offer),
    F_due,
    (F_due.binds (ps:=["town","live","rows","house"]) fun _ _ _ _ _ _=>el4 fun _ _ _ _=>rfl),
    (PySem.W.mg_of X G a_due),
    F_resting,
    (F_resting.binds (ps:=["town","live","rows"]) fun _ _ _ _ _ _=>el3 fun _ _ _=>rfl),
    (PySem.W.mg_of X G a_resting),
    F_ups,
    (F_ups.binds (ps:=["town","live","rows"]) fun _ _ _ _ _ _=>el3 fun _ _ _=>rfl),
    (PySem.W.mg_of X G a_ups),
    F_opens,
    (F_opens.binds (ps:=["town","live","rows"]) fun _ _ _ _ _ _=>el3 fun _ _ _=>rfl),
    (PySem.W.mg_of X G a_opens),
    F_up_of,
    (F_up_of.binds (ps:=["town","live","rows","house"]) fun _ _ _ _ _ _=>el4 fun _ _ _ _=>rfl),
    (PySem.W.mg_of X G a_up_of),
    F_Townu_initu,
    (F_Townu_initu.binds (ps:=["self","names","ropes"]) fun _ _ _ _ _ _=>el3 fun _ _ _=>rfl),
    ⟨mk_Town,a_Townu_initu,i_Townu_initu,kc_Town⟩,
    F_Town_name,
    (F_Town_name.binds (ps:=["self","house"]) fun _ _ _ _ _ _=>el2 fun _ _=>rfl),
    ⟨a_Town_name,i_Town_name,k_Town_name⟩,
    F_Town_rope,
    (F_Town_rope.binds (ps:=["self","number"]) fun _ _ _ _ _ _=>el2 fun _ _=>rfl),
    ⟨a_Town_rope,i_Town_rope,k_Town_rope⟩,
    F_Town_ropes_at,
    (F_Town_ropes_at.binds (ps:=["self","house"]) fun _ _ _ _ _ _=>el2 fun _ _=>rfl),
    ⟨a_Town_ropes_at,i_Town_ropes_at,k_Town_ropes_at⟩,
    F_Town_far_end,
    (F_Town_far_end.binds (ps:=["self","rope","house"]) fun _ _ _ _ _ _=>el3 fun _ _ _=>rfl),
    ⟨a_Town_far_end,i_Town_far_end,k_Town_far_end⟩,
    F_Town_lets,
    (F_Town_lets.binds (ps:=["self","rope","group"]) fun _ _ _ _ _ _=>el3 fun _ _ _=>rfl),
    ⟨a_Town_lets,i_Town_lets,k_Town_lets⟩,
    F_check_names,
    (F_check_names.binds (ps:=["names"]) fun _ _ _ _ _ _=>el1 fun _=>rfl),
    (PySem.W.mg_of X G a_check_names),
    F_check_ropes,
    (F_check_ropes.binds (ps:=["size","ropes"]) fun _ _ _ _ _ _=>el2 fun _ _=>rfl),
    (PySem.W.mg_of X G a_check_ropes),
    F_check_rope,
    (F_check_rope.binds (ps:=["size","rope"]) fun _ _ _ _ _ _=>el2 fun _ _=>rfl),
    (PySem.W.mg_of X G a_check_rope),
    F_joins_two,
    (F_joins_two.binds (ps:=["size","one","other"]) fun _ _ _ _ _ _=>el3 fun _ _ _=>rfl),
    (PySem.W.mg_of X G a_joins_two),
    F_Strandsu_initu,
    (F_Strandsu_initu.binds (ps:=["self","town"]) fun _ _ _ _ _ _=>el2 fun _ _=>rfl),
    ⟨mk_Strands,a_Strandsu_initu,i_Strandsu_initu,kc_Strands⟩,
    F_Strands_fall,
    (F_Strands_fall.binds (ps:=["self","rope","wire"]) fun _ _ _ _ _ _=>el3 fun _ _ _=>rfl),
    ⟨a_Strands_fall,i_Strands_fall,k_Strands_fall⟩,
    F_Strands_standing,
    (F_Strands_standing.binds (ps:=["self","rope"]) fun _ _ _ _ _ _=>el2 fun _ _=>rfl),
    ⟨a_Strands_standing,i_Strands_standing,k_Strands_standing⟩,
    F_Strands_live,
    (F_Strands_live.binds (ps:=["self","group"]) fun _ _ _ _ _ _=>el2 fun _ _=>rfl),
    ⟨a_Strands_live,i_Strands_live,k_Strands_live⟩,
    F_wires_of,
    (F_wires_of.binds (ps:=["town","rope"]) fun _ _ _ _ _ _=>el2 fun _ _=>rfl),
    (PySem.W.mg_of X G a_wires_of),
    F_check_group,
    (F_check_group.binds (ps:=["group"]) fun _ _ _ _ _ _=>el1 fun _=>rfl),
    (PySem.W.mg_of X G a_check_group),
    F_Netu_initu,
    (F_Netu_initu.binds (ps:=["self","town","callers"]) fun _ _ _ _ _ _=>el3 fun _ _ _=>rfl),
    ⟨mk_Net,a_Netu_initu,i_Netu_initu,kc_Net⟩,
    F_Net_rows,
    (F_Net_rows.binds (ps:=["self","group"]) fun _ _ _ _ _ _=>el2 fun _ _=>rfl),
    ⟨a_Net_rows,i_Net_rows,k_Net_rows⟩,
    F_Net_live,
    (F_Net_live.binds (ps:=["self","group"]) fun _ _ _ _ _ _=>el2 fun _ _=>rfl),
    ⟨a_Net_live,i_Net_live,k_Net_live⟩,
    F_Net_opens,
    (F_Net_opens.binds (ps:=["self","group"]) fun _ _ _ _ _ _=>el2 fun _ _=>rfl),
    ⟨a_Net_opens,i_Net_opens,k_Net_opens⟩,
    F_Net_notes,
    (F_Net_notes.binds (ps:=["self","group"]) fun _ _ _ _ _ _=>el2 fun _ _=>rfl),
    ⟨a_Net_notes,i_Net_notes,k_Net_notes⟩,
    F_Net_resting,
    (F_Net_resting.binds (ps:=["self","group"]) fun _ _ _ _ _ _=>el2 fun _ _=>rfl),
    ⟨a_Net_resting,i_Net_resting,k_Net_resting⟩,
    F_Net_row_at,
    (F_Net_row_at.binds (ps:=["self","house","group"]) fun _ _ _ _ _ _=>el3 fun _ _ _=>rfl),
    ⟨a_Net_row_at,i_Net_row_at,k_Net_row_at⟩,
    F_Net_call,
    (F_Net_call.binds (ps:=["self","house","group"]) fun _ _ _ _ _ _=>el3 fun _ _ _=>rfl),
    ⟨a_Net_call,i_Net_call,k_Net_call⟩,
    F_Net_fall,
    (F_Net_fall.binds (ps:=["self","rope","wire"]) fun _ _ _ _ _ _=>el3 fun _ _ _=>rfl),
    ⟨a_Net_fall,i_Net_fall,k_Net_fall⟩,
    F_Net_place,
    (F_Net_place.binds (ps:=["self","caller"]) fun _ _ _ _ _ _=>el2 fun _ _=>rfl),
    ⟨a_Net_place,i_Net_place,k_Net_place⟩,
    F_Net_had,
    (F_Net_had.binds (ps:=["self","caller"]) fun _ _ _ _ _ _=>el2 fun _ _=>rfl),
    ⟨a_Net_had,i_Net_had,k_Net_had⟩,
    F_Net_flying,
    (F_Net_flying.binds (ps:=["self"]) fun _ _ _ _ _ _=>el1 fun _=>rfl),
    ⟨a_Net_flying,i_Net_flying,k_Net_flying⟩,
    F_Net_lose_copies,
    (F_Net_lose_copies.binds (ps:=["self","rope","wire"]) fun _ _ _ _ _ _=>el3 fun _ _ _=>rfl),
    ⟨a_Net_lose_copies,i_Net_lose_copies,k_Net_lose_copies⟩,
    F_Net_take_news,
    (F_Net_take_news.binds (ps:=["self","group"]) fun _ _ _ _ _ _=>el2 fun _ _=>rfl),
    ⟨a_Net_take_news,i_Net_take_news,k_Net_take_news⟩,
    F_Net_take_news_of_rope,
    (F_Net_take_news_of_rope.binds (ps:=["self","rope"]) fun _ _ _ _ _ _=>el2 fun _ _=>rfl),
    ⟨a_Net_take_news_of_rope,i_Net_take_news_of_rope,k_Net_take_news_of_rope⟩,
    F_Net_check_house,
    (F_Net_check_house.binds (ps:=["self","house"]) fun _ _ _ _ _ _=>el2 fun _ _=>rfl),
    ⟨a_Net_check_house,i_Net_check_house,k_Net_check_house⟩,
    F_Net_check_caller,
    (F_Net_check_caller.binds (ps:=["self","caller"]) fun _ _ _ _ _ _=>el2 fun _ _=>rfl),
    ⟨a_Net_check_caller,i_Net_check_caller,k_Net_check_caller⟩,
    F_first_rows,
    (F_first_rows.binds (ps:=["town"]) fun _ _ _ _ _ _=>el1 fun _=>rfl),
    (PySem.W.mg_of X G a_first_rows),
    F_check_callers,
    (F_check_callers.binds (ps:=["town","callers"]) fun _ _ _ _ _ _=>el2 fun _ _=>rfl),
    (PySem.W.mg_of X G a_check_callers),
    F_w_cell_at,
    (F_w_cell_at.binds (ps:=["_law_script","_law_k"]) fun _ _ _ _ _ _=>el2 fun _ _=>rfl),
    (PySem.W.mg_of X G a_w_cell_at),
    F_w_whole,
    (F_w_whole.binds (ps:=["_law_found"]) fun _ _ _ _ _ _=>el1 fun _=>rfl),
    (PySem.W.mg_of X G a_w_whole),
    F_w_list,
    (F_w_list.binds (ps:=["_law_found","_law_ought"]) fun _ _ _ _ _ _=>el2 fun _ _=>rfl),
    (PySem.W.mg_of X G a_w_list),
    F_w_names,
    (F_w_names.binds (ps:=["_law_script","_law_size"]) fun _ _ _ _ _ _=>el2 fun _ _=>rfl),
    (PySem.W.mg_of X G a_w_names),
    F_w_ropes,
    (F_w_ropes.binds (ps:=["_law_script","_law_size","_law_group"]) fun _ _ _ _ _ _=>el3 fun _ _ _=>rfl),
    (PySem.W.mg_of X G a_w_ropes),
    F_w_callers,
    (F_w_callers.binds (ps:=["_law_script","_law_size","_law_group"]) fun _ _ _ _ _ _=>el3 fun _ _ _=>rfl),
    (PySem.W.mg_of X G a_w_callers),
    F_w_live,
    (F_w_live.binds (ps:=["_law_ropes_here","_law_stood","_law_group"]) fun _ _ _ _ _ _=>el3 fun _ _ _=>rfl),
    (PySem.W.mg_of X G a_w_live),
    F_w_due,
    (F_w_due.binds (ps:=["_law_names_here","_law_ropes_here","_law_live_here","_law_rows","_law_house"]) fun _ _ _ _ _ _=>el5 fun _ _ _ _ _=>rfl),
    (PySem.W.mg_of X G a_w_due),
    F_w_rows_same,
    (F_w_rows_same.binds (ps:=["_law_found","_law_ought"]) fun _ _ _ _ _ _=>el2 fun _ _=>rfl),
    (PySem.W.mg_of X G a_w_rows_same),
    F_w_opens,
    (F_w_opens.binds (ps:=["_law_ropes_here","_law_live_here","_law_rows"]) fun _ _ _ _ _ _=>el3 fun _ _ _=>rfl),
    (PySem.W.mg_of X G a_w_opens),
    F_w_first,
    (F_w_first.binds (ps:=["_law_net","_law_callers_here","_law_tables","_law_lives"]) fun _ _ _ _ _ _=>el4 fun _ _ _ _=>rfl),
    (PySem.W.mg_of X G a_w_first),
    F_w_look,
    (F_w_look.binds (ps:=["_law_net","_law_names_here","_law_ropes_here","_law_tables","_law_lives","_law_group"]) fun _ _ _ _ _ _=>el6 fun _ _ _ _ _ _=>rfl),
    (PySem.W.mg_of X G a_w_look),
    F_law,
    (F_law.binds (ps:=["_law_script"]) fun _ _ _ _ _ _=>el1 fun _=>rfl),
    (PySem.W.mg_of X G a_law),
    ⟨pg_Town,hd_Town,po_Town,sa_Town⟩,
    (PySem.W.mg_of X G aC_Town),
    nA_Town_house_names,
    nA_Town_rope_tuples,
    nA_Town_size,
    nA_Town_many,
    ⟨pg_Strands,hd_Strands,po_Strands,sa_Strands⟩,
    (PySem.W.mg_of X G aC_Strands),
    nA_Strands_town,
    nA_Strands_upright,
    ⟨pg_Book,hd_Book,po_Book,sa_Book⟩,
    (PySem.W.mg_of X G aC_Book),
    nA_Book_kept,
    ⟨pg_Net,hd_Net,po_Net,sa_Net⟩,
    (PySem.W.mg_of X G aC_Net),
    nA_Net_town,
    nA_Net_strands,
    nA_Net_rows_by_group,
    nA_Net_books,
    nA_Net_homes,
    nA_Net_groups,
    nA_Net_handed,
    nA_Net_letters,
    nA_Net_copies,
    (PySem.W.mg_of X G al_opens_opens),
    (PySem.W.mg_of X G al_resting_rows),
    (PySem.W.mg_of X G aX_NoWire),
    ⟨xex_NoWire,xga_NoWire,xgb_NoWire,xhd_NoWire,xca_NoWire,xcg_NoWire,xct_NoWire,xmo_NoWire,xmb_NoWire⟩,
    (PySem.W.mg_of X G aX_NoGroup),
    ⟨xex_NoGroup,xga_NoGroup,xgb_NoGroup,xhd_NoGroup,xca_NoGroup,xcg_NoGroup,xct_NoGroup,xmo_NoGroup,xmb_NoGroup⟩,
    (PySem.W.mg_of X G g_MOST_HOUSES),
    (PySem.W.mg_of X G g_MOST_ROPES),
    (PySem.W.mg_of X G g_MOST_WIRES),
    (PySem.W.mg_of X G g_ALL_GROUPS),
    (PySem.W.mg_of X G g_MOST_CALLERS),
    (PySem.W.mg_of X G g_GROUP_BITS),
    (fun H=>.inr ⟨_,_,_,o_GROUP_BITS,rfl,rfl,(by show 3≤sizeLine; decide),(.cons ⟨_,rfl⟩ (.cons ⟨_,rfl⟩ (.cons ⟨_,rfl⟩ .nil)))⟩),
    (PySem.W.mg_none_of X G z_len),
    (PySem.W.mg_none_of X G z_isinstance),
    (PySem.W.mg_none_of X G z_int),
    (PySem.W.mg_none_of X G z_bool),
    (PySem.W.mg_none_of X G z_list),
    (PySem.W.mg_none_of X G z_tuple),
    (PySem.W.mg_none_of X G z_range),
    (PySem.W.mg_none_of X G z_enumerate),
    (PySem.W.mg_none_of X G z_min),
    (PySem.W.mg_none_of X G z_set),
    (PySem.W.mg_none_of X G z_all),
    (PySem.W.mg_none_of X G z_sorted),
    (PySem.W.mg_none_of X G z_zip)⟩⟩
end K27
set_option maxHeartbeats 4000000
namespace K27
open PySem L2 TW PyProof.Rows
open RM (rowV byV byV_non byV_int)
seal L2.PE L2.PA L2.PT L2.PW L2.PS L2.PSs L2.PG L2.PGs L2.PI L2.PTs
section
variable {P:Program} {w:World} {K:PySem.W.Frag} {mg:Str→Option Value} {base:Heap}
def spWhole:Sp:=fun vs H Q _=>∃ i:Int,vs = [.int i]∧Q (.bl true) H
theorem ok_w_whole {t:Ad} (T:Txt K mg t):FnOk P w K mg base CX0 1 t.f_w_whole t.d_w_whole ["_law_found"]  spWhole:=by
  refine T.F_w_whole.ok sc_w_whole (fun vs H Q E h=>?_) (fun cdv A outer s H vs Q E hr h=>?_)
  · obtain ⟨i,rfl,_⟩:=h; rfl
  · obtain ⟨i,rfl,k⟩:=h
    refine ⟨_,(pss_one (ps_ret (pe_and (pe_callB call_isi (by rfl) T.n_isinstance boot_isinstance (pa_c (pv 0) (pa_c (pe_bltn rfl T.n_int boot_int (v:=.ty "int") rfl) pa_nil))) (pe_one (pe_not (pe_callB call_isi (by rfl) T.n_isinstance boot_isinstance (pa_c (pv 0) (pa_c (pe_bltn rfl T.n_bool boot_bool (v:=.ty "bool") rfl) pa_nil)))))))),?_⟩
    refine ⟨_,rfl,_,_,_,_,rfl,.int _,rfl,_,rfl,iteT ?_⟩
    refine ⟨_,rfl,_,_,_,_,rfl,.int _,rfl,_,rfl,?_⟩
    exact k
def spCell (K:PySem.W.Frag):Sp:=fun vs H Q _=>∃ (a:Addr) (ns:List Int) (k:Int),vs = [.ref a,.int k]∧SqL K H a (ns.map V.int)∧0≤k∧Q (.int (ns.getD k.toNat 0)) H
theorem ok_w_cell_at {t:Ad} (T:Txt K mg t):FnOk P w K mg base CX0 1 t.f_w_cell_at t.d_w_cell_at ["_law_script","_law_k"]  (spCell K):=by
  refine T.F_w_cell_at.ok sc_w_cell_at (fun vs H Q E h=>?_) (fun cdv A outer s H vs Q E hr h=>?_)
  · obtain ⟨a,ns,i,rfl,_⟩:=h; rfl
  · obtain ⟨a,ns,i,rfl,hS,h0,k⟩:=h
    refine ⟨_,(pss_cons (ps_if (pt_cmpR op_lt (pv 1) (pe_callB call_len_seq (by rfl) T.n_len PySem.boot_len (pa_c (pv 0) pa_nil)) (nomark _)) (pss_one (ps_ret (pe_ix ix_list (pv 0) (pv 1) (fun _ _=>rfl)))) pss_nil)
      (pss_one (ps_ret pe_int))),?_⟩
    refine ⟨_,rfl,_,rfl,a,_,rfl,.inl hS,_,_,rfl,rfl,_,rfl,?_⟩
    refine ite2 (fun c=>?_) (fun c=>?_)
    · have hi:i < ns.length:=by simpa using c
      refine ⟨_,rfl,_,rfl,a,_,_,_,rfl,rfl,hS,atI_ints h0 hi,k⟩
    · have hi:¬ i < ns.length:=by simpa using c
      have e:ns.getD i.toNat 0=0:=by
        rw [List.getD_eq_getElem?_getD,List.getElem?_eq_none (by omega)]; rfl
      rw [e] at k
      exact k
end
section
variable {P:Program} {w:World} {K:PySem.W.Frag} {mg:Str→Option Value} {base:Heap}
def spJoins:Sp:=fun vs H Q _=>∃ (n a b:Int),vs = [.int n,.int a,.int b]∧0≤a∧a < n∧0≤b∧b < n∧a≠b∧Q (.bl true) H
theorem ok_joins_two {t:Ad} (T:Txt K mg t):FnOk P w K mg base CX0 1 t.f_joins_two t.d_joins_two ["size","one","other"]  spJoins:=by
  refine T.F_joins_two.ok sc_joins_two (fun vs H Q E h=>?_) (fun cdv A outer s H vs Q E hr h=>?_)
  · obtain ⟨_,_,_,rfl,_⟩:=h; rfl
  · obtain ⟨n,a,b,rfl,h1,h2,h3,h4,h5,k⟩:=h
    refine ⟨_,(pss_one (ps_ret (pe_and (pe_chain op_le op_lt pe_int (pv 1) (pv 0)) (pe_and (pe_chain op_le op_lt pe_int (pv 2) (pv 0)) (pe_one (pe_cmpR op_ne (pv 1) (pv 2) (nomark _))))))),?_⟩
    simp [tRet,tAndV,tChain,rI0,tC,tVar,tOp,rNe,L2.start,scal,h1,h2,h3,h4,h5,k]
    intros; omega
def spCheckRope (K:PySem.W.Frag):Sp:=fun vs H Q _=>∃ (n:Int) (p:Addr) (a b c d e:Int),vs = [.int n,.ref p]∧SqT K H p (five a b c d e)∧RopeOk n a b c d e∧Q .non H
theorem ok_check_rope {t:Ad} (T:Txt K mg t):FnOk P w K mg base CX0 2 t.f_check_rope t.d_check_rope ["size","rope"]  (spCheckRope K):=by
  refine T.F_check_rope.ok sc_check_rope (fun vs H Q E h=>?_) (fun cdv A outer s H vs Q E hr h=>?_)
  · obtain ⟨n,p,a,b,c,d,e,rfl,_⟩:=h; rfl
  · obtain ⟨n,p,a,b,c,d,e,rfl,hp,ok,k⟩:=h
    obtain ⟨h1,h2,h3,h4,h5,h6,h7,h8,h9,h10⟩:=ok
    refine ⟨_,(pss_cons (ps_if (pt_cmpR op_ne (pe_callB call_len_seq (by rfl) T.n_len PySem.boot_len (pa_c (pv 1) pa_nil)) pe_int (nomark _)) pss_never pss_nil)
      (pss_cons (ps_if (pt_not (pt_val (pe_call (ok_joins_two T) (hr.mono (by decide)) rfl T.g_joins_two T.F_joins_two.kp T.B_joins_two .nil pass0 (pa_c (pv 0) (pa_c (pe_ix ix_tup (pv 1) pe_int (fun _ _=>rfl)) (pa_c (pe_ix ix_tup (pv 1) pe_int (fun _ _=>rfl)) pa_nil)))))) pss_never pss_nil)
      (pss_cons (ps_if (pt_cmpR op_lt (pe_ix ix_tup (pv 1) pe_int (fun _ _=>rfl)) pe_int (nomark _)) pss_never pss_nil)
      (pss_cons (ps_if (pt_not (pt_chain op_le op_le pe_int (pe_ix ix_tup (pv 1) pe_int (fun _ _=>rfl)) (pe_glob rfl T.k_MOST_WIRES (v:=.int 4) ⟨_,rfl⟩))) pss_never pss_nil)
      (pss_one (ps_if (pt_not (pt_chain op_le op_le pe_int (pe_ix ix_tup (pv 1) pe_int (fun _ _=>rfl)) (pe_glob rfl T.k_ALL_GROUPS (v:=.int 7) ⟨_,rfl⟩))) pss_never pss_nil)))))),?_⟩
    refine ⟨_,rfl,p,_,rfl,.inr hp,rfl,_,rfl,iteF ?_⟩
    refine ⟨_,rfl,_,rfl,p,_,_,_,rfl,rfl,hp,rfl,_,rfl,p,_,_,_,rfl,rfl,hp,rfl,?_⟩
    refine ⟨_,_,_,rfl,h1,h2,h3,h4,h5,_,rfl,iteF ?_⟩
    refine ⟨_,rfl,p,_,_,_,rfl,rfl,hp,rfl,_,_,rfl,rfl,_,rfl,?_⟩
    rw [decide_eq_false (show ¬ c < 1 by omega)]
    refine iteF ?_
    refine ⟨_,rfl,p,_,_,_,rfl,rfl,hp,rfl,_,_,rfl,rfl,_,rfl,?_⟩
    rw [decide_eq_true h7]
    refine iteT ?_
    refine ⟨_,_,rfl,rfl,_,rfl,?_⟩
    rw [decide_eq_true h8]
    refine iteF ?_
    refine ⟨_,rfl,p,_,_,_,rfl,rfl,hp,rfl,_,_,rfl,rfl,_,rfl,?_⟩
    rw [decide_eq_true h9]
    refine iteT ?_
    refine ⟨_,_,rfl,rfl,_,rfl,?_⟩
    rw [decide_eq_true h10]
    refine iteF ?_
    exact k
end
end K27
set_option maxHeartbeats 4000000
namespace K27
open PySem L2 TW PyProof.Rows
open RM (rowV byV byV_non byV_int)
seal L2.PE L2.PA L2.PT L2.PW L2.PS L2.PSs L2.PG L2.PGs L2.PI L2.PTs
section
variable {P:Program} {w:World} {K:PySem.W.Frag} {mg:Str→Option Value} {base:Heap}
def spCheckRopes (K:PySem.W.Frag):Sp:=fun vs H Q _=>∃ (n:Int) (l:Addr) (rs:List R5),vs = [.int n,.ref l]∧Ropes K H l rs∧rs.length≤20∧(∀ r∈rs,r.Ok n)∧Q .non H
theorem ok_check_ropes {t:Ad} (T:Txt K mg t):FnOk P w K mg base CX0 3 t.f_check_ropes t.d_check_ropes ["size","ropes"]  (spCheckRopes K):=by
  refine T.F_check_ropes.ok sc_check_ropes (fun vs H Q E h=>?_) (fun cdv A outer s H vs Q E hr h=>?_)
  · obtain ⟨n,l,rs,rfl,_⟩:=h; rfl
  · obtain ⟨n,l,rs,rfl,hR,hl,ok,k⟩:=h
    obtain ⟨us,hL,el,hg⟩:=hR.at
    refine ⟨_,(pss_cons (ps_if (pt_cmpR op_gt (pe_callB call_len_seq (by rfl) T.n_len PySem.boot_len (pa_c (pv 1) pa_nil)) (pe_glob rfl T.k_MOST_ROPES (v:=.int 20) ⟨_,rfl⟩) (nomark _)) pss_never pss_nil)
      (pss_one (ps_for PassesOwn.never rfl (pi_list (pv 1)) (pg_name (i:=2) sc_check_ropes.nd rfl (Or.inl rfl)) (pss_one (ps_expr (pe_call (ok_check_rope T) (hr.mono (by decide)) rfl T.g_check_rope T.F_check_rope.kp T.B_check_rope .nil pass0 (pa_c (pv 0) (pa_c (pv 2) pa_nil)))))))),?_⟩
    refine ⟨_,rfl,l,_,rfl,.inl hL,_,_,rfl,rfl,_,rfl,?_⟩
    rw [decide_eq_false (show ¬ (20:Int) < us.length by omega)]
    refine iteF ?_
    refine ⟨_,rfl,l,rfl,⟨_,hL⟩,for_list (K:=K) (a:=l) (xs:=us) (fun i σ H2=>H2=H∧∃ v,σ = [some (.int n),some (.ref l),v]) ⟨rfl,_,rfl⟩ (fun i σ H2 _ ⟨e,_⟩=>by rw [e]; exact hL) ?_ ?_⟩
    · rintro i y σ H2 hi ⟨rfl,v,rfl⟩
      have hil:i < us.length:=(List.getElem?_eq_some_iff.mp hi).1
      have hir:rs[i]?=some rs[i]:=by simp
      obtain ⟨p,h1,h2⟩:=hg i _ hir
      rw [hi] at h1
      cases h1
      refine ⟨_,rfl,_,rfl,n,p,_,_,_,_,_,rfl,h2,ok _ (List.mem_of_getElem? hir),rfl,_,rfl⟩
    · rintro σ H2 ⟨rfl,v,rfl⟩
      exact k
def spCheckNames (K:PySem.W.Frag):Sp:=fun vs H Q _=>∃ (l:Addr) (ns:List Int),vs = [.ref l]∧SqL K H l (ns.map V.int)∧1≤ns.length∧ns.length≤10∧(∀ n∈ns,0≤n)∧ns.Nodup∧∀ H',Same H H'→Q .non H'
theorem ok_check_names {t:Ad} (T:Txt K mg t):FnOk P w K mg base CX0 1 t.f_check_names t.d_check_names ["names"]  (spCheckNames K):=by
  refine T.F_check_names.ok sc_check_names (fun vs H Q E h=>?_) (fun cdv A outer s H vs Q E hr h=>?_)
  · obtain ⟨l,ns,rfl,_⟩:=h; rfl
  · obtain ⟨l,ns,rfl,hL,h1,h2,h3,h4,k⟩:=h
    refine ⟨_,(pss_cons (ps_if (pt_not (pt_chain op_le op_le pe_int (pe_callB call_len_seq (by rfl) T.n_len PySem.boot_len (pa_c (pv 0) pa_nil)) (pe_glob rfl T.k_MOST_HOUSES (v:=.int 10) ⟨_,rfl⟩))) pss_never pss_nil)
      (pss_cons (ps_if (pt_cmpR op_lt (pe_callB (call_minL rfl) (by rfl) T.n_min boot_min (pa_c (pv 0) pa_nil)) pe_int (nomark _)) pss_never pss_nil)
      (pss_one (ps_if (pt_cmpR op_ne (pe_callB call_lenS (by rfl) T.n_len PySem.boot_len (pa_c (pe_callTy (call_setL rfl) (by rfl) T.n_set boot_set (pa_c (pv 0) pa_nil)) pa_nil)) (pe_callB call_len_seq (by rfl) T.n_len PySem.boot_len (pa_c (pv 0) pa_nil)) (nomark _)) pss_never pss_nil)))),?_⟩
    refine ⟨_,rfl,l,_,rfl,.inl hL,_,_,rfl,rfl,_,rfl,?_⟩
    rw [decide_eq_true (show (1:Int)≤(ns.map V.int).length by rw [List.length_map]; omega)]
    refine iteT ?_
    refine ⟨_,_,rfl,rfl,_,rfl,?_⟩
    rw [decide_eq_true (show ((ns.map V.int).length:Int)≤10 by rw [List.length_map]; omega)]
    refine iteF ?_
    refine ⟨_,rfl,l,ns,rfl,hL,by omega,fun m hm hle=>?_⟩
    refine ⟨_,_,rfl,rfl,_,rfl,?_⟩
    rw [decide_eq_false (show ¬ m < 0 by have:=h3 m hm; omega)]
    refine iteF ?_
    refine ⟨_,rfl,l,ns,rfl,hL,Nat.lt_of_lt_of_le (show ns.length + 1 < 100 by omega) (by decide),fun p hp=>?_⟩
    have s1:=Same.new (o:=.set (fun k'=>(firstMet (fun i=>ns.getD i 0) ns.length).any (· == k')) (firstMet (fun i=>ns.getD i 0) ns.length).length) hp
    refine ⟨p,_,_,rfl,upd_same,_,rfl,l,_,rfl,.inl (s1.seq hL),rfl,_,rfl,?_⟩
    rw [firstMet_nodup ns h4,List.length_map]
    simp only [decide_true,Bool.not_true]
    refine iteF ?_
    exact k _ (Same.new hp)
end
end K27
set_option maxHeartbeats 4000000
namespace K27
open PySem L2 TW PyProof.Rows
open RM (rowV byV byV_non byV_int)
seal L2.PE L2.PA L2.PT L2.PW L2.PS L2.PSs L2.PG L2.PGs L2.PI L2.PTs
section
variable {P:Program} {w:World} {K:PySem.W.Frag} {mg:Str→Option Value} {base:Heap}
def spInit (K:PySem.W.Frag) (C:Addr):Sp:=fun vs H Q _=>∃ (p dx l1 l2:Addr) (ns:List Int) (rs:List R5),vs = [.ref p,.ref l1,.ref l2]∧H p=some (.ins C dx [])∧SqL K H l1 (ns.map V.int)∧Ropes K H l2 rs ∧
  1≤ns.length∧ns.length≤10∧(∀ n∈ns,0≤n)∧ns.Nodup∧rs.length≤20∧(∀ r∈rs,r.Ok ns.length) ∧
  ∀ ln lr H',H ln=none→H lr=none→TownAt K C H' p ln lr ns rs→(∀ b o,H b=some o→b≠p→H' b=some o)→Q .non H'
theorem ok_Townu_initu {t:Ad} (T:Txt K mg t):FnOk P w K mg base CX0 4 t.f_Townu_initu t.d_Townu_initu ["self","names","ropes"]  (spInit K t.a_Town):=by
  refine T.F_Townu_initu.ok sc_Townu_initu (fun vs H Q E h=>?_) (fun cdv A outer s H vs Q E hr h=>?_)
  · obtain ⟨p,dx,l1,l2,ns,rs,rfl,_⟩:=h; rfl
  · obtain ⟨p,dx,l1,l2,ns,rs,rfl,hp,hL,hR,h1,h2,h3,h4,h5,h6,k⟩:=h
    refine ⟨_,(pss_cons (ps_expr (pe_call (ok_check_names T) (hr.mono (by decide)) rfl T.g_check_names T.F_check_names.kp T.B_check_names .nil pass0 (pa_c (pv 1) pa_nil)))
      (pss_cons (ps_expr (pe_call (ok_check_ropes T) (hr.mono (by decide)) rfl T.g_check_ropes T.F_check_ropes.kp T.B_check_ropes .nil pass0 (pa_c (pe_callB call_len_seq (by rfl) T.n_len PySem.boot_len (pa_c (pv 1) pa_nil)) (pa_c (pv 2) pa_nil))))
      (pss_cons (ps_fld (pv 0) (pe_callTy call_list_of (by rfl) T.n_list boot_list (pa_c (pv 1) pa_nil)) rfl)
      (pss_cons (ps_fld (pv 0) (pe_callTy call_list_of (by rfl) T.n_list boot_list (pa_c (pv 2) pa_nil)) rfl)
      (pss_cons (ps_fld (pv 0) (pe_callB call_len_seq (by rfl) T.n_len PySem.boot_len (pa_c (pv 1) pa_nil)) rfl)
      (pss_one (ps_fld (pv 0) (pe_callB call_len_seq (by rfl) T.n_len PySem.boot_len (pa_c (pv 2) pa_nil)) rfl))))))),?_⟩
    refine ⟨_,rfl,l1,ns,rfl,hL,h1,h2,h3,h4,fun H1 s1=>?_⟩
    refine ⟨_,rfl,l1,_,rfl,.inl (s1.seq hL),?_⟩
    refine ⟨_,rfl,(ns.length:Int),l2,rs,by simp,hR.mono s1,h5,h6,?_⟩
    have hp1:=s1 _ _ hp
    have hR1:=hR.mono s1
    have hL1:=s1.seq hL
    obtain ⟨_,us,e,hq,hra⟩:=id hR1
    cases e
    refine ⟨_,rfl,l1,_,rfl,.inl hL1,fun ln hn=>?_⟩
    have npn:p≠ln:=ne_of_none hp1 hn
    have s2:=Same.new (o:=.lst (ns.map V.int)) hn
    refine ⟨_,rfl,p,_,dx,[],rfl,s2 _ _ hp1,T.c_Town,T.n_Town_house_names,by decide,?_⟩
    rw [putF_new (names:=[]) rfl rfl]
    generalize eH2:upd (upd H1 ln (.lst (ns.map V.int))) p (.ins t.a_Town dx ([]++[(Str.ofString "house_names",V.ref ln)]))=H2
    have k2:∀ b o,H1 b=some o→b≠p→H2 b=some o:=fun b o e nb=>by rw [← eH2,upd_ne nb]; exact s2 _ _ e
    have hp2:H2 p=some (.ins t.a_Town dx [(Str.ofString "house_names",V.ref ln)]):=by rw [← eH2]; exact upd_same
    have hn2:H2 ln=some (.lst (ns.map V.int)):=by rw [← eH2,upd_ne (Ne.symm npn),upd_same]
    have fr2:∀ {b:Addr},H1 b=none→b≠p→b≠ln→H2 b=none:=fun {b} e n1 n2=>by rw [← eH2,upd_ne n1,upd_ne n2]; exact e
    have hL2:SqL K H2 l1 (ns.map V.int):=sqL_but (fun b o e nb=>k2 b o e nb) hp1 hL1
    have hq2:SqL K H2 l2 us:=sqL_but (fun b o e nb=>k2 b o e nb) hp1 hq
    have hra2:RepAll K H2 (rs.map R5.D) us:=repAll_but (fun b o e nb=>k2 b o e nb) hp1 hra
    refine ⟨_,rfl,l2,_,rfl,.inl hq2,fun lr hr2=>?_⟩
    have npr:p≠lr:=ne_of_none hp2 hr2
    have s3:=Same.new (o:=.lst us) hr2
    refine ⟨_,rfl,p,_,dx,_,rfl,s3 _ _ hp2,T.c_Town,T.n_Town_rope_tuples,(by show 1 < 1000; decide),?_⟩
    rw [putF_new (names:=["house_names"]) rfl (by decide +kernel)]
    generalize eH3:upd (upd H2 lr (.lst us)) p (.ins t.a_Town dx ([(Str.ofString "house_names",V.ref ln)]++[(Str.ofString "rope_tuples",V.ref lr)]))=H3
    have k3:∀ b o,H2 b=some o→b≠p→H3 b=some o:=fun b o e nb=>by rw [← eH3,upd_ne nb]; exact s3 _ _ e
    have hp3:H3 p=some (.ins t.a_Town dx [(Str.ofString "house_names",V.ref ln),(Str.ofString "rope_tuples",V.ref lr)]):=by rw [← eH3]; exact upd_same
    have hr3:H3 lr=some (.lst us):=by rw [← eH3,upd_ne (Ne.symm npr),upd_same]
    have hn3:=k3 _ _ hn2 (Ne.symm npn)
    have hL3:SqL K H3 l1 (ns.map V.int):=sqL_but k3 hp2 hL2
    have hq3:SqL K H3 l2 us:=sqL_but k3 hp2 hq2
    have hra3:RepAll K H3 (rs.map R5.D) us:=repAll_but k3 hp2 hra2
    refine ⟨_,rfl,l1,_,rfl,.inl hL3,_,rfl,p,_,dx,_,rfl,hp3,T.c_Town,T.n_Town_size,(by show 2 < 1000; decide),?_⟩
    rw [putF_new (names:=["house_names","rope_tuples"]) rfl (by decide +kernel)]
    generalize eH4:upd H3 p (.ins t.a_Town dx ([(Str.ofString "house_names",V.ref ln),(Str.ofString "rope_tuples",V.ref lr)]++[(Str.ofString "size",V.int ((ns.map V.int).length:Nat))]))=H4
    have k4:∀ b o,H3 b=some o→b≠p→H4 b=some o:=fun b o e nb=>by rw [← eH4,upd_ne nb]; exact e
    have hp4:H4 p=some (.ins t.a_Town dx [(Str.ofString "house_names",V.ref ln),(Str.ofString "rope_tuples",V.ref lr),(Str.ofString "size",V.int ((ns.map V.int).length:Nat))]):=by rw [← eH4]; exact upd_same
    have hq4:SqL K H4 l2 us:=sqL_but k4 hp3 hq3
    have hra4:RepAll K H4 (rs.map R5.D) us:=repAll_but k4 hp3 hra3
    refine ⟨_,rfl,l2,_,rfl,.inl hq4,_,rfl,p,_,dx,_,rfl,hp4,T.c_Town,T.n_Town_many,(by show 3 < 1000; decide),?_⟩
    rw [putF_new (names:=["house_names","rope_tuples","size"]) rfl (by decide +kernel)]
    have k5:∀ b o,H4 b=some o→b≠p→∀ u,(upd H4 p u) b=some o:=fun b o e nb u=>by rw [upd_ne nb]; exact e
    have eus:us.length=rs.length:=by rw [hra.length,List.length_map]
    refine k ln lr _ (s1.free hn) ?_ ⟨⟨dx,?_⟩,?_,us,?_,repAll_but (fun b o e nb=>k5 b o e nb _) hp4 hra4⟩ ?_
    · cases q:H lr with
      | none=>rfl
      | some o =>
        have:=k2 lr o (s1 _ _ q) (fun e=>npr e.symm)
        rw [hr2] at this; cases this
    · rw [upd_same,eus,List.length_map]
      rfl
    · exact k5 _ _ (k4 _ _ hn3 (Ne.symm npn)) (Ne.symm npn) _
    · exact k5 _ _ (k4 _ _ hr3 (Ne.symm npr)) (Ne.symm npr) _
    · exact fun b o e nb=>k5 _ _ (k4 _ _ (k3 _ _ (k2 _ _ (s1 _ _ e) nb) nb) nb) nb _
end
end K27
set_option maxHeartbeats 4000000
namespace K27
open PySem L2 TW PyProof.Rows
open RM (rowV byV byV_non byV_int)
seal L2.PE L2.PA L2.PT L2.PW L2.PS L2.PSs L2.PG L2.PGs L2.PI L2.PTs
section
variable {P:Program} {w:World} {K:PySem.W.Frag} {mg:Str→Option Value} {base:Heap}
def spName (K:PySem.W.Frag) (C:Addr):Sp:=fun vs H Q _=>∃ (p ln lr:Addr) (ns:List Int) (rs:List R5) (i:Nat) (n:Int),vs = [.ref p,.int i]∧TownAt K C H p ln lr ns rs∧ns[i]?=some n∧Q (.int n) H
theorem ok_Town_name {t:Ad} (T:Txt K mg t):FnOk P w K mg base CX0 1 t.f_Town_name t.d_Town_name ["self","house"]  (spName K t.a_Town):=by
  refine T.F_Town_name.ok sc_Town_name (fun vs H Q E h=>?_) (fun cdv A outer s H vs Q E hr h=>?_)
  · obtain ⟨p,ln,lr,ns,rs,i,n,rfl,_⟩:=h; rfl
  · obtain ⟨p,ln,lr,ns,rs,i,n,rfl,hT,hi,k⟩:=h
    obtain ⟨⟨dx,hp⟩,hn,us,hr',hra⟩:=id hT
    refine ⟨_,(pss_one (ps_ret (pe_ix ix_list (pe_fld (pv 0) rfl) (pv 1) (fun _ _=>rfl)))),?_⟩
    refine ⟨_,rfl,p,_,dx,_,_,rfl,hp,T.c_Town,T.n_Town_house_names,rfl,_,rfl,ln,_,_,_,rfl,rfl,SqL.of hn,atI_nat (v:=V.int n) (by rw [List.getElem?_map,hi]; rfl),k⟩
end
section
variable {P:Program} {w:World} {K:PySem.W.Frag} {mg:Str→Option Value} {base:Heap}
def spRope (K:PySem.W.Frag) (C:Addr):Sp:=fun vs H Q _=>∃ (p ln lr:Addr) (ns:List Int) (rs:List R5) (i:Nat) (r:R5),vs = [.ref p,.int i]∧TownAt K C H p ln lr ns rs∧rs[i]?=some r∧∀ q,H q=some (.tup r.vs)∨SqT K H q r.vs→Q (.ref q) H
theorem ok_Town_rope {t:Ad} (T:Txt K mg t):FnOk P w K mg base CX0 1 t.f_Town_rope t.d_Town_rope ["self","number"]  (spRope K t.a_Town):=by
  refine T.F_Town_rope.ok sc_Town_rope (fun vs H Q E h=>?_) (fun cdv A outer s H vs Q E hr h=>?_)
  · obtain ⟨p,ln,lr,ns,rs,i,n,rfl,_⟩:=h; rfl
  · obtain ⟨p,ln,lr,ns,rs,i,r,rfl,hT,hi,k⟩:=h
    obtain ⟨⟨dx,hp⟩,hn,us,hr',hra⟩:=id hT
    obtain ⟨v,hv,hD⟩:=hra.get (i:=i) (d:=r.D) (by rw [List.getElem?_map,hi]; rfl)
    obtain ⟨q,e,hq⟩:=Rep.of_intsT (ns:=r.ns) hD
    subst e
    refine ⟨_,(pss_one (ps_ret (pe_ix ix_list (pe_fld (pv 0) rfl) (pv 1) (fun _ _=>rfl)))),?_⟩
    exact ⟨_,rfl,p,_,dx,_,_,rfl,hp,T.c_Town,T.n_Town_rope_tuples,rfl,_,rfl,lr,_,_,_,rfl,rfl,SqL.of hr',atI_nat hv,k q (.inr hq)⟩
end
end K27
set_option maxHeartbeats 4000000
namespace K27
open PySem L2 TW PyProof.Rows
open RM (rowV byV byV_non byV_int)
seal L2.PE L2.PA L2.PT L2.PW L2.PS L2.PSs L2.PG L2.PGs L2.PI L2.PTs
section
variable {P:Program} {w:World} {K:PySem.W.Frag} {mg:Str→Option Value} {base:Heap}
def spFar (K:PySem.W.Frag) (C:Addr):Sp:=fun vs H Q _=>∃ (p ln lr:Addr) (ns:List Int) (rs:List R5) (i:Nat) (r:R5) (h:Int),vs = [.ref p,.int i,.int h]∧TownAt K C H p ln lr ns rs∧rs[i]?=some r∧Q (.int (if h=r.a then r.b else r.a)) H
theorem ok_Town_far_end {t:Ad} (T:Txt K mg t):FnOk P w K mg base CX0 1 t.f_Town_far_end t.d_Town_far_end ["self","rope","house"]  (spFar K t.a_Town):=by
  refine T.F_Town_far_end.ok sc_Town_far_end (fun vs H Q E h=>?_) (fun cdv A outer s H vs Q E hr h=>?_)
  · obtain ⟨p,ln,lr,ns,rs,i,n,h,rfl,_⟩:=h; rfl
  · obtain ⟨p,ln,lr,ns,rs,i,r,x,rfl,hT,hi,k⟩:=h
    obtain ⟨⟨dx,hp⟩,hn,us,hr',hra⟩:=id hT
    obtain ⟨v,hv,hD⟩:=hra.get (i:=i) (d:=r.D) (by rw [List.getElem?_map,hi]; rfl)
    obtain ⟨q,e,hq⟩:=Rep.of_intsT (ns:=r.ns) hD
    subst e
    refine ⟨_,(pss_cons (ps_set (i:=3) sc_Town_far_end.nd rfl (Or.inl rfl) (pe_ix ix_list (pe_fld (pv 0) rfl) (pv 1) (fun _ _=>rfl)))
      (pss_one (ps_ret (pe_ifExp (pt_cmpR op_eq (pv 2) (pe_ix ix_tup (pv 3) pe_int (fun _ _=>rfl)) (nomark _)) (pe_ix ix_tup (pv 3) pe_int (fun _ _=>rfl)) (pe_ix ix_tup (pv 3) pe_int (fun _ _=>rfl)))))),?_⟩
    refine ⟨_,rfl,p,_,dx,_,_,rfl,hp,T.c_Town,T.n_Town_rope_tuples,rfl,_,rfl,lr,_,_,_,rfl,rfl,SqL.of hr',atI_nat hv,?_⟩
    refine ⟨_,rfl,_,rfl,q,_,_,_,rfl,rfl,hq,rfl,rfl,_,rfl,?_⟩
    refine ite2 (fun c=>?_) (fun c=>?_)
    · have c':x=r.a:=by simpa using c
      rw [if_pos c'] at k
      exact ⟨_,rfl,q,_,_,_,rfl,rfl,hq,rfl,k⟩
    · have c':¬ x=r.a:=by simpa using c
      rw [if_neg c'] at k
      exact ⟨_,rfl,q,_,_,_,rfl,rfl,hq,rfl,k⟩
def spAt (K:PySem.W.Frag) (C:Addr):Sp:=fun vs H Q _=>∃ (p ln lr:Addr) (ns:List Int) (rs:List R5) (h:Int),vs = [.ref p,.int h]∧TownAt K C H p ln lr ns rs∧rs.length≤20 ∧
  ∀ l H',Same H H'→H l=none→H' l=some (.lst (natsV (atH rs h rs.length)))→Q (.ref l) H'
theorem ok_Town_ropes_at {t:Ad} (T:Txt K mg t):FnOk P w K mg base CX0 1 t.f_Town_ropes_at t.d_Town_ropes_at ["self","house"]  (spAt K t.a_Town):=by
  refine T.F_Town_ropes_at.ok sc_Town_ropes_at (fun vs H Q E h=>?_) (fun cdv A outer s H vs Q E hr h=>?_)
  · obtain ⟨p,ln,lr,ns,rs,i,rfl,_⟩:=h; rfl
  · obtain ⟨p,ln,lr,ns,rs,x,rfl,hT,h20,k⟩:=h
    obtain ⟨⟨dx,hp⟩,hn,us,hr',hra⟩:=id hT
    have eus:us.length=rs.length:=by rw [hra.length,List.length_map]
    refine ⟨_,(pss_one (ps_ret (pe_comp (compOk_of (dsc:=defScope s_Town_ropes_at) (N0:=["self","house"]) (N2:=["number","rope","house"]) (cap:=[none,none,some 1]) rfl rfl (by decide +kernel)) rfl (pi_enum rfl T.n_enumerate (pa_c (pe_fld (pv 0) rfl) pa_nil)) (fun _ _ _ _=>by exact (pg_tupK K rfl (n:=2) rfl (pgs_cons (pg_name (i:=0) nd_Town_ropes_at_c0 rfl (Or.inl rfl)) (pgs_cons (pg_name (i:=1) nd_Town_ropes_at_c0 rfl (Or.inl rfl)) pgs_nil)))) (fun _ _ _ _=>by exact (pts_one (pt_cmpR (op_in_seqK K rfl) (pv 2) (pe_tup (pa_c (pe_ix (ix_tupK K rfl) (pv 1) pe_int (fun _ _=>rfl)) (pa_c (pe_ix (ix_tupK K rfl) (pv 1) pe_int (fun _ _=>rfl)) pa_nil))) (by with_unfolding_all rfl)))) (fun _ _ _ _=>by exact (pv 0))))),?_⟩
    refine ⟨_,rfl,p,_,dx,_,_,rfl,hp,T.c_Town,T.n_Town_rope_tuples,rfl,lr,us,rfl,SqL.of hr',fun acc hacc=>?_⟩
    refine comp_by (n:=us.length) (fun i ys _=>ys=natsV (atH rs x i)) hacc (ite_go (SqL.of hr')) (ite_stop (SqL.of hr')) rfl ?_ ?_
    · rintro i ys H2 hi s2 hy hP y H3 ⟨q,v,hq,rfl,rfl,hv⟩
      have hvi:=hv us (s2.seq (SqL.of hr'))
      have hir:rs[i]?=some rs[i]:=by simp
      obtain ⟨v',hv',hD⟩:=hra.get (i:=i) (d:=(rs[i]).D) (by rw [List.getElem?_map,hir]; rfl)
      rw [hvi] at hv'
      cases hv'
      obtain ⟨b,e,hb⟩:=Rep.of_intsT (ns:=(rs[i]).ns) hD
      subst e
      have hb3:=(s2.out (o:=.tup [.int (i:Nat),.ref b]) (s2.free hq)).seqT hb
      have nq:acc≠q:=ne_of_none hy hq
      refine ⟨q,_,rfl,SqT.of upd_same,rfl,_,_,rfl,_,_,rfl,rfl,?_⟩
      refine ⟨_,rfl,_,rfl,b,_,_,_,rfl,rfl,hb3,rfl,_,rfl,b,_,_,_,rfl,rfl,hb3,rfl,(by show 2≤sizeLine; decide),fun c hc=>?_⟩
      refine ⟨c,_,rfl,.inr (SqT.of upd_same),rfl,rfl,_,rfl,?_⟩
      have eb:inV (V.int x) [V.int rs[i].a,V.int rs[i].b]=isAt rs x i:=by
        unfold isAt
        rw [hir]
        exact in_two _ _ _
      have s3:=s2.out (o:=.tup [.int (i:Nat),.ref b]) (s2.free hq)
      have s4:=s3.out (o:=.tup [V.int rs[i].a,V.int rs[i].b]) (s3.free hc)
      have hy4:(upd (upd H2 q (HO.tup [V.int (i:Nat),V.ref b])) c (HO.tup [V.int rs[i].a,V.int rs[i].b])) acc=some (.lst ys):=by
        have e1:(upd H2 q (HO.tup [V.int (i:Nat),V.ref b])) acc=some (.lst ys):=by rw [upd_ne nq]; exact hy
        rw [upd_ne (ne_of_none e1 hc)]; exact e1
      dsimp only
      rw [if_neg Bool.false_ne_true,eb]
      have hl:ys.length < sizeLine:=by rw [hP,List.length_map]; exact Nat.lt_of_le_of_lt (Nat.le_trans (atH_len rs x i) (by omega)) (small1000 (Nat.le_refl _))
      refine ite2 (fun c'=>?_) (fun c'=>?_)
      · exact ⟨_,rfl,comp_add hacc hi s4 hy4 hl (by rw [hP,atH_succ,if_pos c',natsV_snoc])⟩
      · exact comp_skip hi s4 hy4 (by rw [hP,atH_succ,if_neg c',List.append_nil])
    · intro ys H2 s2 hy hP
      rw [eus] at hP
      exact k acc H2 s2 hacc (by rw [hy,hP])
end
section
variable {P:Program} {w:World} {K:PySem.W.Frag} {mg:Str→Option Value} {base:Heap}
def spOwnRow (K:PySem.W.Frag) (C:Addr):Sp:=fun vs H Q _=>∃ (p ln lr:Addr) (ns:List Int) (rs:List R5) (i:Nat) (n:Int),vs = [.ref p,.int i]∧TownAt K C H p ln lr ns rs∧ns[i]?=some n ∧
  ∀ q H',Same H H'→SqT K H' q (rowV ⟨n,0,0,-1⟩)→Q (.ref q) H'
theorem ok_own_row {t:Ad} (T:Txt K mg t):FnOk P w K mg base CX0 2 t.f_own_row t.d_own_row ["town","house"]  (spOwnRow K t.a_Town):=by
  refine T.F_own_row.ok sc_own_row (fun vs H Q E h=>?_) (fun cdv A outer s H vs Q E hr h=>?_)
  · obtain ⟨_,_,_,_,_,_,_,rfl,_⟩:=h; rfl
  · obtain ⟨p,ln,lr,ns,rs,i,n,rfl,hT,hi,k⟩:=h
    obtain ⟨⟨dx,hp⟩,_,_,_⟩:=id hT
    refine ⟨_,(pss_one (ps_ret (pe_tup (pa_c (pe_meth (pv 0) T.c_Town T.m_Town_name (ok_Town_name T) (hr.mono (by decide)) T.B_Town_name .nil pass0 (pa_c (pv 1) pa_nil)) (pa_c pe_int (pa_c pe_int (pa_c pe_non pa_nil))))))),?_⟩
    refine ⟨_,rfl,p,dx,_,rfl,hp,rfl,_,rfl,p,ln,lr,ns,rs,i,n,rfl,hT,hi,(by show 4≤sizeLine; decide),fun q hq=>?_⟩
    exact k q _ (Same.new hq) (SqT.of upd_same)
end
section
variable {P:Program} {w:World} {K:PySem.W.Frag} {mg:Str→Option Value} {base:Heap}
def spOffer (K:PySem.W.Frag) (C:Addr):Sp:=fun vs H Q _=>∃ (p ln lr:Addr) (ns:List Int) (rs:List R5) (i:Nat) (x:R5) (a:Addr) (r:RM.Row),vs = [.ref p,.ref a,.int i]∧TownAt K C H p ln lr ns rs∧rs[i]?=some x∧SqT K H a (rowV r) ∧
  (¬ r.ho + 1 < ns.length→∀ H',Same H H'→Q .non H')∧(r.ho + 1 < ns.length→∀ q H',Same H H'→SqT K H' q (rowV ⟨r.hd,r.co + x.c,r.ho + 1,i⟩)→Q (.ref q) H')
theorem ok_offer {t:Ad} (T:Txt K mg t):FnOk P w K mg base CX0 2 t.f_offer t.d_offer ["town","row","rope"]  (spOffer K t.a_Town):=by
  refine T.F_offer.ok sc_offer (fun vs H Q E h=>?_) (fun cdv A outer s H vs Q E hr h=>?_)
  · obtain ⟨_,_,_,_,_,_,_,_,_,rfl,_⟩:=h; rfl
  · obtain ⟨p,ln,lr,ns,rs,i,x,a,r,rfl,hT,hi,ha,k1,k2⟩:=h
    obtain ⟨⟨dx,hp⟩,_,_,_⟩:=id hT
    refine ⟨_,(pss_cons (ps_set (i:=3) sc_offer.nd rfl (Or.inl rfl) (pe_op op_add (pe_ix ix_tup (pv 1) pe_int (fun _ _=>rfl)) pe_int))
      (pss_cons (ps_if (pt_cmpR op_ge (pv 3) (pe_fld (pv 0) rfl) (nomark _)) (pss_one (ps_ret pe_non)) pss_nil)
      (pss_one (ps_ret (pe_tup (pa_c (pe_ix ix_tup (pv 1) pe_int (fun _ _=>rfl)) (pa_c (pe_op op_add (pe_ix ix_tup (pv 1) pe_int (fun _ _=>rfl)) (pe_ix ix_tup (pe_meth (pv 0) T.c_Town T.m_Town_rope (ok_Town_rope T) (hr.mono (by decide)) T.B_Town_rope .nil pass0 (pa_c (pv 2) pa_nil)) pe_int (fun _ _=>rfl))) (pa_c (pv 3) (pa_c (pv 2) pa_nil))))))))),?_⟩
    refine ⟨_,rfl,a,_,_,_,rfl,rfl,ha,rfl,_,_,rfl,rfl,?_⟩
    refine ⟨_,rfl,_,rfl,p,_,dx,_,_,rfl,hp,T.c_Town,T.n_Town_size,rfl,_,_,rfl,rfl,_,rfl,?_⟩
    refine ite2 (fun e=>?_) (fun e=>?_)
    · have e':(ns.length:Int)≤r.ho + 1:=of_decide_eq_true e
      exact k1 (by omega) _ (Same.refl _)
    · have e':¬ (ns.length:Int)≤r.ho + 1:=of_decide_eq_false (eq_false_of_ne_true e)
      refine ⟨_,rfl,a,_,_,_,rfl,rfl,ha,rfl,_,rfl,a,_,_,_,rfl,rfl,ha,rfl,_,rfl,p,dx,_,rfl,hp,rfl,_,rfl,p,ln,lr,ns,rs,i,x,rfl,hT,hi,fun q hq=>?_⟩
      have hq':SqT K H q x.vs:=hq.elim (fun z=>SqT.of z) id
      refine ⟨q,_,_,_,rfl,rfl,hq',rfl,_,_,rfl,rfl,_,rfl,_,rfl,(by show 4≤sizeLine; decide),fun u hu=>?_⟩
      refine k2 (by omega) u _ (Same.new hu) (SqT.of ?_)
      rw [upd_same]
      show some (HO.tup [.int r.hd,.int (r.co + x.c),.int (r.ho + 1),.int (i:Int)])=some (HO.tup [.int r.hd,.int (r.co + x.c),.int (r.ho + 1),byV (i:Int)])
      rw [byV_int (by omega)]
end
end K27
set_option maxHeartbeats 4000000
namespace K27
open PySem L2 TW PyProof.Rows
open RM (rowV byV byV_non byV_int)
seal L2.PE L2.PA L2.PT L2.PW L2.PS L2.PSs L2.PG L2.PGs L2.PI L2.PTs
section
variable {P:Program} {w:World} {K:PySem.W.Frag} {mg:Str→Option Value} {base:Heap}
def spDue (K:PySem.W.Frag) (C:Addr):Sp:=fun vs H Q _=>∃ (p ln lr c b:Addr) (ns:List Int) (rs:List R5) (live:List Nat) (nd:ns.Nodup) (ok:∀ r∈rs,r.Ok ns.length) (hl:∀ k∈live,k < rs.length) (R:Nat→RM.Row) (h:Nat),vs = [.ref p,.ref c,.ref b,.int h]∧TownAt K C H p ln lr ns rs∧SqL K H c (natsV live)∧RowsAt K H b ns.length R∧h < ns.length∧rs.length≤20∧RM.Sane (townNet ns rs live nd ok hl) R ∧
  ∀ q d H',Same H H'→SqT K H' q (rowV d)→RM.IsDue (N:=townNet ns rs live nd ok hl) ns.length R h d→Q (.ref q) H'
theorem ok_due {t:Ad} (T:Txt K mg t):FnOk P w K mg base CX0 3 t.f_due t.d_due ["town","live","rows","house"]  (spDue K t.a_Town):=by
  refine T.F_due.ok sc_due (fun vs H Q E h=>?_) (fun cdv A outer s H vs Q E hr h=>?_)
  · obtain ⟨_,_,_,_,_,_,_,_,_,_,_,_,_,rfl,_⟩:=h; rfl
  · obtain ⟨p,ln,lr,c,b,ns,rs,live,nd,ok,hlv,R,x,rfl,hT,hC,hR,hx,h20,sane,k⟩:=h
    obtain ⟨⟨dx,hp⟩,_,_,_⟩:=id hT
    obtain ⟨ps,hP,ePs,hrow⟩:=hR
    have enm:(townNet ns rs live nd ok hlv).nm x=ns[x]:=by show ns.getD x 0=_; simp [List.getD_eq_getElem?_getD,hx]
    refine ⟨_,(pss_cons (ps_set (i:=4) sc_due.nd rfl (Or.inl rfl) (pe_call (ok_own_row T) (hr.mono (by decide)) rfl T.g_own_row T.F_own_row.kp T.B_own_row .nil pass0 (pa_c (pv 0) (pa_c (pv 3) pa_nil))))
      (pss_cons (ps_for PassesOwn.never rfl (pi_list (pe_meth (pv 0) T.c_Town T.m_Town_ropes_at (ok_Town_ropes_at T) (hr.mono (by decide)) T.B_Town_ropes_at .nil pass0 (pa_c (pv 3) pa_nil))) (pg_name (i:=5) sc_due.nd rfl (Or.inl rfl)) (pss_one (ps_if (pt_cmpR op_in_seq (pv 5) (pv 1) (by with_unfolding_all rfl)) (pss_cons (ps_set (i:=6) sc_due.nd rfl (Or.inl rfl) (pe_call (ok_offer T) (hr.mono (by decide)) rfl T.g_offer T.F_offer.kp T.B_offer .nil pass0 (pa_c (pv 0) (pa_c (pe_ix ix_list (pv 2) (pe_meth (pv 0) T.c_Town T.m_Town_far_end (ok_Town_far_end T) (hr.mono (by decide)) T.B_Town_far_end .nil pass0 (pa_c (pv 5) (pa_c (pv 3) pa_nil))) (fun _ _=>rfl)) (pa_c (pv 5) pa_nil)))))
      (pss_one (ps_if (PW.pt (pw_and (pt_cmpR op_notN (pv 6) pe_non (nomark _)) (pw_and1 (pt_cmpR (op_ltR (Nat.lt_of_succ_lt (hu_of hr))) (pe_slice sl_tup (pv 6) po_none (po_some pe_int)) (pe_slice sl_tup (pv 4) po_none (po_some pe_int)) (nomark _))))) (pss_one (ps_set (i:=4) sc_due.nd rfl (Or.inl rfl) (pv 6))) pss_nil))) pss_nil)))
      (pss_one (ps_ret (pv 4))))),?_⟩
    refine ⟨_,rfl,_,rfl,p,ln,lr,ns,rs,x,ns[x],rfl,hT,List.getElem?_eq_getElem hx,fun p0 H0 s0 hp0=>?_⟩
    have hown:SqT K H0 p0 (rowV (RM.own (townNet ns rs live nd ok hlv) x)):=by unfold RM.own; rw [enm]; exact hp0
    refine ⟨_,rfl,p,dx,_,rfl,s0 _ _ hp,rfl,_,rfl,p,ln,lr,ns,rs,x,rfl,hT.mono s0,h20,fun l H1 s1 hl0 hl1=>?_⟩
    have s01:=s0.trans s1
    refine ⟨l,rfl,⟨_,SqL.of hl1⟩,?_⟩
    generalize eal:atH rs (x:Int) rs.length=al at hl1
    refine for_list (K:=K) (a:=l) (xs:=natsV al) (fun j σ H2=>Same H1 H2∧∃ (q:Addr) (d:RM.Row) (v5 v6:Option V),σ = [some (.ref p),some (.ref c),some (.ref b),some (.int x),some (.ref q),v5,v6]∧SqT K H2 q (rowV d) ∧
      (d=RM.own (townNet ns rs live nd ok hlv) x∨∃ kk g,kk∈al.take j∧RM.Adj (townNet ns rs live nd ok hlv) kk x g∧(R g).ho + 1 < ns.length∧d=RM.over (townNet ns rs live nd ok hlv) kk (R g))∧RM.le d (RM.own (townNet ns rs live nd ok hlv) x) ∧
      ∀ kk g,kk∈al.take j→RM.Adj (townNet ns rs live nd ok hlv) kk x g→(R g).ho + 1 < ns.length→RM.le d (RM.over (townNet ns rs live nd ok hlv) kk (R g)))
      ⟨Same.refl _,p0,RM.own (townNet ns rs live nd ok hlv) x,_,_,rfl,s1.seqT hown,.inl rfl,RM.le_refl _,fun kk g he=>by simp at he⟩ (fun j σ H2 _ z=>SqL.of (z.1 _ _ hl1)) ?_ ?_
    · rintro j y σ H2 hj ⟨s2,q,d,v5,v6,rfl,hq,d1,d2,d3⟩
      have hjl:j < al.length:=by
        have:=(List.getElem?_eq_some_iff.mp hj).1
        rw [List.length_map] at this
        exact this
      rw [List.getElem?_map,List.getElem?_eq_getElem hjl] at hj
      cases hj
      have et:al.take (j + 1)=al.take j++[al[j]]:=by rw [List.take_add_one,List.getElem?_eq_getElem hjl]; rfl
      have hka:al[j]∈al:=List.getElem_mem hjl
      have hrise:∀ k'∈al.take j,k' < al[j]:=fun k' hk'=>rise_at (eal ▸ atH_rise rs (x:Int) rs.length) hjl hk'
      have wid:(d=RM.own (townNet ns rs live nd ok hlv) x∨∃ kk g,kk∈al.take j++[al[j]]∧RM.Adj (townNet ns rs live nd ok hlv) kk x g∧(R g).ho + 1 < ns.length∧d=RM.over (townNet ns rs live nd ok hlv) kk (R g)):=d1.imp id fun ⟨a1,a2,a3,a4⟩=>⟨a1,a2,List.mem_append_left _ a3,a4⟩
      rw [et]
      show gName 5 (V.int ((al[j]:Nat):Int)) _ _ _
      generalize al[j]=kk at hka hrise wid
      rw [← eal,mem_atH] at hka
      obtain ⟨hkl,hat⟩:=hka
      have s02:=s01.trans s2
      refine ⟨_,rfl,_,rfl,c,_,rfl,.inl (s02.seq hC),rfl,flat_nats live,_,rfl,?_⟩
      dsimp only
      rw [if_neg Bool.false_ne_true,inV_nats]
      refine ite2 (fun hc=>?_) (fun hc=>?_)
      case refine_2 =>
        have hc:kk ∉ live:=fun z=>hc (decide_eq_true z)
        refine ⟨s2,q,d,_,_,rfl,hq,wid,d2,fun k' g hk' adj hcut=>?_⟩
        rcases List.mem_append.mp hk' with z | z
        · exact d3 k' g z adj hcut
        · rw [List.mem_singleton.mp z] at adj
          exact absurd adj.1 hc
      have hc:kk∈live:=of_decide_eq_true hc
      have hrk:rs[kk]?=some rs[kk]:=List.getElem?_eq_getElem hkl
      have adj:RM.Adj (townNet ns rs live nd ok hlv) kk x (farOf rs[kk] x):=(adj_far hc).mpr ⟨hat,rfl⟩
      have hgn:farOf rs[kk] x < ns.length:=adj.lt.2.1
      have hgs:=sane _ hgn
      have ofar:(if (x:Int)=rs[kk].a then rs[kk].b else rs[kk].a)=((farOf rs[kk] x:Nat):Int):=by
        have o:=ok _ (List.getElem_mem hkl)
        have h1:=o.a0; have h2:=o.b0
        unfold farOf
        split <;> omega
      have ecost:(townNet ns rs live nd ok hlv).c kk=rs[kk].c:=by show ((rs[kk]?).map fun r=>r.c).getD 0=_; rw [hrk]; rfl
      have fu:∀ g,RM.Adj (townNet ns rs live nd ok hlv) kk x g→g=farOf rs[kk] x:=fun g a=>((adj_far hc).mp a).2
      generalize farOf rs[kk] x=g at adj hgn hgs ofar fu
      have hpg:ps[g]?=some ps[g]:=List.getElem?_eq_getElem (by omega)
      have hatg:atI (ps.map V.ref) (if (x:Int)=rs[kk].a then rs[kk].b else rs[kk].a)=some (.ref ps[g]):=by rw [ofar]; exact atI_nat (by rw [List.getElem?_map,hpg]; rfl)
      have hrg:=s02.seqT (hrow g _ hpg)
      refine ⟨_,rfl,_,rfl,_,rfl,p,dx,_,rfl,s02 _ _ hp,rfl,_,rfl,_,rfl,p,ln,lr,ns,rs,kk,rs[kk],x,rfl,hT.mono s02,hrk,b,_,_,_,rfl,rfl,s02.seq hP,hatg,_,rfl,?_⟩
      refine ⟨p,ln,lr,ns,rs,kk,rs[kk],ps[g],R g,rfl,hT.mono s02,hrk,hrg,fun hcut H3 s3=>?_,fun hcut u H3 s3 hu=>?_⟩
      · refine ⟨_,rfl,rfl,_,rfl,iteF (iteF ?_)⟩
        refine ⟨s2.trans s3,q,d,_,_,rfl,s3.seqT hq,wid,d2,fun k' g' hk' a' hcut'=>?_⟩
        rcases List.mem_append.mp hk' with z | z
        · exact d3 k' g' z a' hcut'
        · rw [List.mem_singleton.mp z] at a'
          rw [fu g' a'] at hcut'
          exact absurd hcut' hcut
      have eov:(⟨(R g).hd,(R g).co + rs[kk].c,(R g).ho + 1,kk⟩ : RM.Row)=RM.over (townNet ns rs live nd ok hlv) kk (R g):=by unfold RM.over; rw [ecost]
      rw [eov] at hu
      have hq3:=s3.seqT hq
      have s23:=s2.trans s3
      refine ⟨_,rfl,rfl,_,rfl,iteT ?_⟩
      have lex:LexR [V.int (RM.over (townNet ns rs live nd ok hlv) kk (R g)).hd,V.int (RM.over (townNet ns rs live nd ok hlv) kk (R g)).co,V.int (RM.over (townNet ns rs live nd ok hlv) kk (R g)).ho] [V.int d.hd,V.int d.co,V.int d.ho] (decide (RM.lt (RM.over (townNet ns rs live nd ok hlv) kk (R g)) d)):=RM.rowLex3 (by
        rcases d1 with z | ⟨k',g',hk',_,_,z⟩
        · rw [z]
          intro _ _ e3
          have:(R g).ho + 1=0:=e3
          omega
        · have hlt':=hrise k' hk'
          rw [z]
          intro e1 e2 e3 e4
          rcases e4 with e4 | ⟨_,e4 | ⟨_,e4 | ⟨_,e4⟩⟩⟩
          · omega
          · omega
          · omega
          · have:((kk:Nat):Int) < ((k':Nat):Int):=e4
            omega)
      have nw:∀ r:RM.Row,¬ (HT.sIx (rowV r).length 0 none=0∧HT.sIx (rowV r).length (rowV r).length (some 3)=(rowV r).length):=fun r z=>absurd z.2 (by show HT.sIx 4 4 (some 3)≠4; decide)
      have ct:∀ r:RM.Row,cutV (rowV r) none (some 3) = [V.int r.hd,V.int r.co,V.int r.ho]:=fun r=>rfl
      refine ⟨_,rfl,_,rfl,u,_,rfl,hu,nw _,fun z1 hz1=>?_⟩
      rw [ct]
      have t1:=Same.new (o:=.tup [V.int (RM.over (townNet ns rs live nd ok hlv) kk (R g)).hd,V.int (RM.over (townNet ns rs live nd ok hlv) kk (R g)).co,V.int (RM.over (townNet ns rs live nd ok hlv) kk (R g)).ho]) hz1
      refine ⟨_,rfl,_,rfl,q,_,rfl,t1.seqT hq3,nw _,fun z2 hz2=>?_⟩
      rw [ct]
      have t2:=Same.new (o:=.tup [V.int d.hd,V.int d.co,V.int d.ho]) hz2
      have s23:=s23.trans (t1.trans t2)
      have hu:=(t1.trans t2).seqT hu
      have hq3:=(t1.trans t2).seqT hq3
      refine ⟨z1,z2,_,_,_,rfl,rfl,SqT.of (t2 _ _ upd_same),SqT.of upd_same,rfl,lex,_,rfl,?_⟩
      by_cases hlt:RM.lt (RM.over (townNet ns rs live nd ok hlv) kk (R g)) d
      · rw [decide_eq_true hlt]
        refine iteT ?_
        refine ⟨_,rfl,s23,u,_,_,_,rfl,hu,.inr ⟨kk,g,List.mem_append_right _ (List.mem_singleton.mpr rfl),adj,hcut,rfl⟩,RM.le_trans (RM.lt_le hlt) d2,fun k' g' hk' a' hcut'=>?_⟩
        rcases List.mem_append.mp hk' with z | z
        · exact RM.le_trans (RM.lt_le hlt) (d3 k' g' z a' hcut')
        · rw [List.mem_singleton.mp z] at a' ⊢
          rw [fu g' a']
          exact RM.le_refl _
      · rw [decide_eq_false hlt]
        refine iteF ⟨s23,q,d,_,_,rfl,hq3,wid,d2,fun k' g' hk' a' hcut'=>?_⟩
        rcases List.mem_append.mp hk' with z | z
        · exact d3 k' g' z a' hcut'
        · rw [List.mem_singleton.mp z] at a' ⊢
          rw [fu g' a']
          exact hlt
    · rintro σ H2 ⟨s2,q,d,v5,v6,rfl,hq,d1,d2,d3⟩
      rw [List.length_map,List.take_of_length_le (Nat.le_refl _)] at d3
      refine ⟨_,rfl,k q d H2 (s01.trans s2) hq ⟨d1.imp id fun ⟨a1,a2,_,a4⟩=>⟨a1,a2,a4⟩,d2,fun kk g adj hcut=>d3 kk g ?_ adj hcut⟩⟩
      rw [← eal,mem_atH]
      exact ⟨hlv kk adj.1,((adj_far adj.1).mp adj).1⟩
end
end K27
set_option maxHeartbeats 4000000
namespace K27
open PySem L2 TW PyProof.Rows
open RM (rowV byV byV_non byV_int)
seal L2.PE L2.PA L2.PT L2.PW L2.PS L2.PSs L2.PG L2.PGs L2.PI L2.PTs
section
variable {P:Program} {w:World} {K:PySem.W.Frag} {mg:Str→Option Value} {base:Heap}
def spResting (K:PySem.W.Frag) (C:Addr):Sp:=fun vs H Q _=>∃ (p ln lr c b:Addr) (ns:List Int) (rs:List R5) (live:List Nat) (nd:ns.Nodup) (ok:∀ r∈rs,r.Ok ns.length) (hl:∀ k∈live,k < rs.length) (R:Nat→RM.Row),vs = [.ref p,.ref c,.ref b]∧TownAt K C H p ln lr ns rs∧SqL K H c (natsV live)∧RowsAt K H b ns.length R∧ns.length≤12∧rs.length≤20∧FitAll ns.length rs.length R∧(∀ x∈ns,0≤x) ∧
  ∀ (y:Bool) H',Same H H'→(y=true↔RM.Rest (townNet ns rs live nd ok hl) R)→Q (.bl y) H'
theorem ok_resting {t:Ad} (T:Txt K mg t):FnOk P w K mg base CX0 4 t.f_resting t.d_resting ["town","live","rows"]  (spResting K t.a_Town):=by
  refine T.F_resting.ok sc_resting (fun vs H Q E h=>?_) (fun cdv A outer s H vs Q E hr h=>?_)
  · obtain ⟨_,_,_,_,_,_,_,_,_,_,_,_,rfl,_⟩:=h; rfl
  · obtain ⟨p,ln,lr,c,b,ns,rs,live,nd,ok,hlv,R,rfl,hT,hC,hR,hn12,h20,fit,hn0,k⟩:=h
    obtain ⟨⟨dx,hp⟩,_,_,_⟩:=id hT
    obtain ⟨ps,hP,ePs,hrow⟩:=id hR
    refine ⟨_,(pss_one (ps_ret (pe_callB (call_all rfl) (by rfl) T.n_all boot_all (pa_c (pe_comp (compOk_of (dsc:=defScope s_resting) (N0:=["town","live","rows"]) (N2:=["house","live","rows","town"]) (cap:=[none,some 1,some 2,some 0]) rfl rfl (by decide +kernel)) rfl (pi_range1 rfl T.n_range (pa_c (pe_fld (pv 0) rfl) pa_nil)) (fun _ _ _ _=>by exact (pg_name (i:=0) nd_resting_c0 rfl (Or.inl rfl))) (fun _ _ _ _=>by exact pts_nil) (fun _ _ _ _=>by exact (pe_cmpR (op_eqDs K rfl hr.units) (pe_ix (ix_listK K rfl) (pv 2) (pv 0) (fun _ _=>rfl)) (pe_call (ok_due T) (hr.mono (by decide)) rfl T.g_due T.F_due.kp T.B_due .nil pass0 (pa_c (pv 3) (pa_c (pv 1) (pa_c (pv 2) (pa_c (pv 0) pa_nil))))) (nomark _)))) pa_nil)))),?_⟩
    refine ⟨_,rfl,p,_,dx,_,_,rfl,hp,T.c_Town,T.n_Town_size,rfl,(ns.length:Int),rfl,by omega,by omega,fun acc hacc=>?_⟩
    refine comp_by (n:=((ns.length:Int)).toNat) (fun i ys _=>∃ bs:List Bool,ys=bs.map V.bl∧bs.length=i∧(bs.all id=true↔∀ j,j < i→RM.IsDue (N:=townNet ns rs live nd ok hlv) ns.length R j (R j))) hacc itr_go itr_stop ⟨[],rfl,rfl,by simp⟩ ?_ ?_
    · rintro i ys H2 hi s2 hy ⟨bs,e1,e2,e3⟩ x H3 ⟨rfl,rfl⟩
      have hin:i < ns.length:=by omega
      have hpi:ps[i]?=some ps[i]:=List.getElem?_eq_getElem (by omega)
      have hatp:atI (ps.map V.ref) (0 + (i:Int))=some (.ref ps[i]):=by rw [Int.zero_add]; exact atI_nat (by rw [List.getElem?_map,hpi]; rfl)
      refine ⟨_,rfl,_,rfl,b,_,_,_,rfl,rfl,s2.seq hP,hatp,?_⟩
      refine ⟨_,rfl,_,rfl,_,rfl,_,rfl,p,ln,lr,c,b,ns,rs,live,nd,ok,hlv,R,i,by rw [Int.zero_add]; rfl,hT.mono s2,s2.seq hC,hR.mono s2,hin,h20,fit.sane,fun q d H3 s3 hq hdd=>?_⟩
      have fd:=due_fit fit hin hn0 hdd
      refine ⟨RM.rowD (R i),RM.rowD d,RM.rowD_rep ((s2.trans s3).seqT (hrow i _ hpi)),RM.rowD_rep hq,RM.rowD_lay _,RM.rowD_lay _,(by rw [RM.rowD_deep]; decide),?_⟩
      rw [RM.rowD_eqv (fit i hin).by1 fd.by1]
      refine comp_add hacc hi (s2.trans s3) (s3 _ _ hy) (by rw [e1,List.length_map,e2]; exact small1000 (by omega)) ⟨bs++[decide (R i=d)],by rw [e1,List.map_append]; rfl,by rw [List.length_append,e2]; rfl,?_⟩
      rw [List.all_append,Bool.and_eq_true,e3]
      constructor
      · rintro ⟨q1,q2⟩ j hj
        rcases Nat.lt_or_eq_of_le (Nat.le_of_lt_succ hj) with z | rfl
        · exact q1 j z
        · have q2:R j=d:=by simpa using q2
          exact q2 ▸ hdd
      · intro q
        refine ⟨fun j hj=>q j (by omega),?_⟩
        have:=(q i (by omega)).uniq hdd
        simpa using this
    rintro ys H2 s2 hy ⟨bs,e1,e2,e3⟩
    refine ⟨acc,bs,rfl,SqL.of (by rw [hy,e1]),k _ _ s2 ?_⟩
    rw [e3]
    constructor
    · exact fun q i hi=>q i (by have:i < ns.length:=hi; omega)
    · exact fun q i hi=>q i (by show i < ns.length; omega)
end
end K27
set_option maxHeartbeats 4000000
namespace K27
open PySem L2 TW PyProof.Rows
open RM (rowV byV byV_non byV_int)
seal L2.PE L2.PA L2.PT L2.PW L2.PS L2.PSs L2.PG L2.PGs L2.PI L2.PTs
section
variable {P:Program} {w:World} {K:PySem.W.Frag} {mg:Str→Option Value} {base:Heap}
def spUpOf (K:PySem.W.Frag) (C:Addr):Sp:=fun vs H Q _=>∃ (p ln lr c b:Addr) (ns:List Int) (rs:List R5) (live:List Nat) (nd:ns.Nodup) (ok:∀ r∈rs,r.Ok ns.length) (hl:∀ k∈live,k < rs.length) (R:Nat→RM.Row) (h:Nat),vs = [.ref p,.ref c,.ref b,.int h]∧TownAt K C H p ln lr ns rs∧SqL K H c (natsV live)∧RowsAt K H b ns.length R∧h < ns.length∧rs.length≤20∧FitAll ns.length rs.length R ∧
  ∀ v H',Same H H'→ItemAt K H' v (hangOf (townNet ns rs live nd ok hl) R h)→Q v H'
theorem ok_up_of {t:Ad} (T:Txt K mg t):FnOk P w K mg base CX0 3 t.f_up_of t.d_up_of ["town","live","rows","house"]  (spUpOf K t.a_Town):=by
  refine T.F_up_of.ok sc_up_of (fun vs H Q E h=>?_) (fun cdv A outer s H vs Q E hr h=>?_)
  · obtain ⟨_,_,_,_,_,_,_,_,_,_,_,_,_,rfl,_⟩:=h; rfl
  · obtain ⟨p,ln,lr,c,b,ns,rs,live,nd,ok,hlv,R,i,rfl,hT,hC,hRw,hin,h20,fit,k⟩:=h
    obtain ⟨⟨dx,hp⟩,_,_,_⟩:=id hT
    obtain ⟨ps,hP,ePs,hrow⟩:=id hRw
    have hpi:ps[i]?=some ps[i]:=List.getElem?_eq_getElem (by omega)
    have hatp:atI (ps.map V.ref) (i:Int)=some (.ref ps[i]):=atI_nat (by rw [List.getElem?_map,hpi]; rfl)
    have hri:=hrow i _ hpi
    have fi:=fit i hin
    refine ⟨_,(pss_cons (ps_set (i:=4) sc_up_of.nd rfl (Or.inl rfl) (pe_ix ix_tup (pe_ix ix_list (pv 2) (pv 3) (fun _ _=>rfl)) pe_int (fun _ _=>rfl)))
      (pss_cons (ps_if (PW.pt (pw_or (pt_cmpR op_notIn_seq (pv 4) (pv 1) (by with_unfolding_all rfl)) (pw_or1 (pt_cmpR op_notIn_seq (pv 4) (pe_meth (pv 0) T.c_Town T.m_Town_ropes_at (ok_Town_ropes_at T) (hr.mono (by decide)) T.B_Town_ropes_at .nil pass0 (pa_c (pv 3) pa_nil)) (by with_unfolding_all rfl))))) (pss_one (ps_ret pe_non)) pss_nil)
      (pss_cons (ps_set (i:=5) sc_up_of.nd rfl (Or.inl rfl) (pe_meth (pv 0) T.c_Town T.m_Town_far_end (ok_Town_far_end T) (hr.mono (by decide)) T.B_Town_far_end .nil pass0 (pa_c (pv 4) (pa_c (pv 3) pa_nil))))
      (pss_cons (ps_if (pt_cmpR op_neD (pe_call (ok_offer T) (hr.mono (by decide)) rfl T.g_offer T.F_offer.kp T.B_offer .nil pass0 (pa_c (pv 0) (pa_c (pe_ix ix_list (pv 2) (pv 5) (fun _ _=>rfl)) (pa_c (pv 4) pa_nil)))) (pe_ix ix_list (pv 2) (pv 3) (fun _ _=>rfl)) (nomark _)) (pss_one (ps_ret pe_non)) pss_nil)
      (pss_one (ps_ret (pe_tup (pa_c (pv 4) (pa_c (pv 5) pa_nil))))))))),?_⟩
    refine ⟨_,rfl,_,rfl,ixL_mk hP hatp (ixTc_mk hri rfl ?_)⟩
    have none_:∀ {H3:Hp},Same H H3→(∀ k g,¬ RM.Hang (townNet ns rs live nd ok hlv) R k i g)→Q .non H3:=fun s3 no=>k .non _ s3 (by rw [hangOf_none no]; rfl)
    show gName 4 (byV (R i).by_) _ _ _
    rcases fi.by_ with eby | ⟨b0,b1⟩
    · rw [show byV (R i).by_=V.non by rw [eby]; rfl]
      refine ⟨_,rfl,_,rfl,c,_,rfl,.inl hC,rfl,flat_nats live,_,rfl,?_⟩
      dsimp only
      rw [if_pos rfl,inV_non]
      refine iteT (iteT (none_ (Same.refl _) fun k' g t=>?_))
      have:=t.by
      omega
    obtain ⟨kk,ekk⟩ : ∃ kk:Nat,(R i).by_=(kk:Int):=⟨(R i).by_.toNat,by omega⟩
    have hkl:kk < rs.length:=by omega
    rw [show byV (R i).by_=V.int (kk:Nat) by rw [ekk,byV_int (by omega)]]
    have byk:∀ k' g,RM.Hang (townNet ns rs live nd ok hlv) R k' i g→k'=kk:=fun k' g t=>by have:=t.by; omega
    refine ⟨_,rfl,_,rfl,c,_,rfl,.inl hC,rfl,flat_nats live,_,rfl,?_⟩
    dsimp only
    rw [if_pos rfl,inV_nats]
    by_cases hc:kk∈live
    case neg =>
      rw [decide_eq_false hc]
      refine iteT (iteT (none_ (Same.refl _) fun k' g t=>?_))
      have:=byk k' g t
      subst this
      exact hc t.adj.1
    rw [decide_eq_true hc]
    refine iteF ?_
    refine ⟨_,rfl,_,rfl,p,dx,_,rfl,hp,rfl,_,rfl,p,ln,lr,ns,rs,i,rfl,hT,h20,fun l H1 s1 hl0 hl1=>?_⟩
    refine ⟨l,_,rfl,.inl (SqL.of hl1),rfl,flat_nats _,_,rfl,?_⟩
    dsimp only
    rw [if_pos rfl,inV_nats]
    by_cases hat:kk∈atH rs (i:Int) rs.length
    case neg =>
      rw [decide_eq_false hat]
      refine iteT (none_ s1 fun k' g t=>?_)
      have:=byk k' g t
      subst this
      exact hat (mem_atH.mpr ⟨hkl,((adj_far hc).mp t.adj).1⟩)
    rw [decide_eq_true hat]
    refine iteF ?_
    have hat:=(mem_atH.mp hat).2
    have hrk:rs[kk]?=some rs[kk]:=List.getElem?_eq_getElem hkl
    have ofar:=far_int (h:=i) hkl ok
    have hgn:farOf rs[kk] i < ns.length:=far_lt hkl ok
    have hfar:=hang_far (ns:=ns) (rs:=rs) (live:=live) (nd:=nd) (ok:=ok) (hl:=hlv) (R:=R) (h:=i) hc
    have ecost:=net_c (ns:=ns) (live:=live) (nd:=nd) (ok:=ok) (hl:=hlv) hkl
    have hg':∀ g,RM.Hang (townNet ns rs live nd ok hlv) R kk i g→g=farOf rs[kk] i:=fun g t=>hang_g t
    refine ⟨_,rfl,p,dx,_,rfl,s1 _ _ hp,rfl,_,rfl,_,rfl,p,ln,lr,ns,rs,kk,rs[kk],i,rfl,hT.mono s1,hrk,?_⟩
    show gName 5 (V.int (if (i:Int)=rs[kk].a then rs[kk].b else rs[kk].a)) _ _ _
    rw [ofar]
    generalize farOf rs[kk] i=g at ofar hgn hfar hg'
    have hpg:ps[g]?=some ps[g]:=List.getElem?_eq_getElem (by omega)
    have hatg:atI (ps.map V.ref) (g:Int)=some (.ref ps[g]):=atI_nat (by rw [List.getElem?_map,hpg]; rfl)
    refine ⟨_,rfl,_,rfl,_,rfl,ixL_mk (s1.seq hP) hatg ⟨_,rfl,p,ln,lr,ns,rs,kk,rs[kk],ps[g],R g,rfl,hT.mono s1,hrk,s1.seqT (hrow g _ hpg),fun hcut H2 s2=>?_,fun hcut u H2 s2 hu=>?_⟩⟩
    · have s12:=s1.trans s2
      refine ⟨_,rfl,_,rfl,ixL_mk (s12.seq hP) hatp ⟨.none,RM.rowD (R i),rfl,RM.rowD_rep (s12.seqT hri),rfl,RM.rowD_lay _,Nat.lt_of_le_of_lt (Nat.add_le_add_left (Nat.le_trans (Nat.min_le_left _ _) (by decide)) _) hr.units,_,rfl,?_⟩⟩
      refine iteT (none_ s12 fun k' g' t=>?_)
      have e1:=byk k' g' t
      subst e1
      have e2:=hg' g' t
      subst e2
      exact hcut t.cut
    · have s12:=s1.trans s2
      have eov:(⟨(R g).hd,(R g).co + rs[kk].c,(R g).ho + 1,kk⟩ : RM.Row)=RM.over (townNet ns rs live nd ok hlv) kk (R g):=by unfold RM.over; rw [ecost]
      rw [eov] at hu
      refine ⟨_,rfl,_,rfl,ixL_mk (s12.seq hP) hatp ⟨RM.rowD (RM.over (townNet ns rs live nd ok hlv) kk (R g)),RM.rowD (R i),RM.rowD_rep hu,RM.rowD_rep (s12.seqT hri),RM.rowD_lay _,RM.rowD_lay _,Nat.lt_of_le_of_lt (Nat.add_le_add_left (Nat.le_trans (Nat.min_le_left _ _) (by rw [RM.rowD_deep]; decide)) _) hr.units,_,rfl,?_⟩⟩
      rw [RM.rowD_eqv (show (-1:Int)≤(kk:Nat) by omega) fi.by1]
      by_cases e:RM.over (townNet ns rs live nd ok hlv) kk (R g)=R i
      case neg =>
        rw [decide_eq_false e]
        refine iteT (none_ s12 fun k' g' t=>?_)
        have e1:=byk k' g' t
        subst e1
        have e2:=hg' g' t
        subst e2
        exact e t.eq.symm
      rw [decide_eq_true e]
      refine iteF ?_
      have hh:RM.Hang (townNet ns rs live nd ok hlv) R kk i g:=by
        obtain ⟨g2,t⟩:=hfar.mpr ⟨hat,hcut,e.symm⟩
        have:=hg' g2 t
        subst this
        exact t
      refine ⟨_,rfl,_,rfl,(by show 2≤sizeLine; decide),fun o2 ho2=>?_⟩
      exact k (.ref o2) _ (s12.trans (Same.new ho2)) (by rw [hangOf_some.mpr hh]; exact ⟨o2,rfl,SqT.of upd_same⟩)
def spUps (K:PySem.W.Frag) (C:Addr):Sp:=fun vs H Q _=>∃ (p ln lr c b:Addr) (ns:List Int) (rs:List R5) (live:List Nat) (nd:ns.Nodup) (ok:∀ r∈rs,r.Ok ns.length) (hl:∀ k∈live,k < rs.length) (R:Nat→RM.Row),vs = [.ref p,.ref c,.ref b]∧TownAt K C H p ln lr ns rs∧SqL K H c (natsV live)∧RowsAt K H b ns.length R∧ns.length≤12∧rs.length≤20∧FitAll ns.length rs.length R ∧
  ∀ l H',Same H H'→H l=none→OwnUps K H' l ns.length (hangOf (townNet ns rs live nd ok hl) R)→Q (.ref l) H'
theorem ok_ups {t:Ad} (T:Txt K mg t):FnOk P w K mg base CX0 4 t.f_ups t.d_ups ["town","live","rows"]  (spUps K t.a_Town):=by
  refine T.F_ups.ok sc_ups (fun vs H Q E h=>?_) (fun cdv A outer s H vs Q E hr h=>?_)
  · obtain ⟨_,_,_,_,_,_,_,_,_,_,_,_,rfl,_⟩:=h; rfl
  · obtain ⟨p,ln,lr,c,b,ns,rs,live,nd,ok,hlv,R,rfl,hT,hC,hRw,hn12,h20,fit,k⟩:=h
    obtain ⟨⟨dx,hp⟩,_,_,_⟩:=id hT
    refine ⟨_,(pss_one (ps_ret (pe_comp (compOk_of (dsc:=defScope s_ups) (N0:=["town","live","rows"]) (N2:=["house","live","rows","town"]) (cap:=[none,some 1,some 2,some 0]) rfl rfl (by decide +kernel)) rfl (pi_range1 rfl T.n_range (pa_c (pe_fld (pv 0) rfl) pa_nil)) (fun _ _ _ _=>by exact (pg_name (i:=0) nd_ups_c0 rfl (Or.inl rfl))) (fun _ _ _ _=>by exact pts_nil) (fun _ _ _ _=>by exact (pe_call (ok_up_of T) (hr.mono (by decide)) rfl T.g_up_of T.F_up_of.kp T.B_up_of .nil pass0 (pa_c (pv 3) (pa_c (pv 1) (pa_c (pv 2) (pa_c (pv 0) pa_nil))))))))),?_⟩
    refine ⟨_,rfl,p,_,dx,_,_,rfl,hp,T.c_Town,T.n_Town_size,rfl,(ns.length:Int),rfl,by omega,by omega,fun acc hacc=>?_⟩
    refine comp_by (n:=((ns.length:Int)).toNat) (fun i ys H2=>ys.length=i∧∀ (j:Nat) v,ys[j]?=some v→ItemAt K H2 v (hangOf (townNet ns rs live nd ok hlv) R j)) hacc itr_go itr_stop ⟨rfl,fun j v e=>by simp at e⟩ ?_ ?_
    · rintro i ys H2 hi s2 hy ⟨e1,hit⟩ x H3 ⟨rfl,rfl⟩
      refine ⟨_,rfl,_,rfl,_,rfl,_,rfl,p,ln,lr,c,b,ns,rs,live,nd,ok,hlv,R,i,by rw [Int.zero_add]; rfl,hT.mono s2,s2.seq hC,hRw.mono s2,by omega,h20,fit,fun v H4 s4 hv=>?_⟩
      refine comp_add hacc hi (s2.trans s4) (s4 _ _ hy) (by rw [e1]; exact small1000 (by omega)) ⟨by rw [List.length_append,e1]; rfl,fun j w e=>?_⟩
      refine ItemAt.lst (s4 _ _ hy) ?_
      rcases snoc_at e with z | ⟨z1,z2⟩
      · exact (hit j w z).mono s4
      · rw [z1,z2,e1]; exact hv
    rintro ys H2 s2 hy ⟨e1,hit⟩
    exact k acc H2 s2 hacc ⟨ys,hy,by omega,hit⟩
end
end K27
set_option maxHeartbeats 4000000
namespace K27
open PySem L2 TW PyProof.Rows
open RM (rowV byV byV_non byV_int)
seal L2.PE L2.PA L2.PT L2.PW L2.PS L2.PSs L2.PG L2.PGs L2.PI L2.PTs
section
variable {P:Program} {w:World} {K:PySem.W.Frag} {mg:Str→Option Value} {base:Heap}
def spOpens (K:PySem.W.Frag) (C:Addr):Sp:=fun vs H Q _=>∃ (p ln lr c b:Addr) (ns:List Int) (rs:List R5) (live:List Nat) (nd:ns.Nodup) (ok:∀ r∈rs,r.Ok ns.length) (hl:∀ k∈live,k < rs.length) (R:Nat→RM.Row),vs = [.ref p,.ref c,.ref b]∧TownAt K C H p ln lr ns rs∧SqL K H c (natsV live)∧RowsAt K H b ns.length R∧ns.length≤12∧rs.length≤20∧FitAll ns.length rs.length R ∧
  ∀ l os H',Same H H'→H l=none→H' l=some (.lst (natsV os))→Opens (townNet ns rs live nd ok hl) R os→os.length≤12→Q (.ref l) H'
theorem ok_opens {t:Ad} (T:Txt K mg t):FnOk P w K mg base CX0 5 t.f_opens t.d_opens ["town","live","rows"]  (spOpens K t.a_Town):=by
  refine T.F_opens.ok sc_opens (fun vs H Q E h=>?_) (fun cdv A outer s H vs Q E hr h=>?_)
  · obtain ⟨_,_,_,_,_,_,_,_,_,_,_,_,rfl,_⟩:=h; rfl
  · obtain ⟨p,ln,lr,c,b,ns,rs,live,nd,ok,hlv,R,rfl,hT,hC,hRw,hn12,h20,fit,k⟩:=h
    refine ⟨_,(pss_one (ps_ret (pe_callB call_sorted (by rfl) T.n_sorted boot_sorted (pa_c (pe_comp (compOk_of (dsc:=defScope s_opens) (N0:=["town","live","rows"]) (N2:=["up"]) (cap:=[none]) rfl rfl (by decide +kernel)) rfl (pi_list (pe_call (ok_ups T) (hr.mono (by decide)) rfl T.g_ups T.F_ups.kp T.B_ups .nil pass0 (pa_c (pv 0) (pa_c (pv 1) (pa_c (pv 2) pa_nil))))) (fun _ _ _ _=>by exact (pg_name (i:=0) nd_opens_c0 rfl (Or.inl rfl))) (fun _ _ _ _=>by exact (pts_one (pt_cmpR op_notN (pv 0) pe_non (nomark _)))) (fun _ _ _ _=>by exact (pe_ix (ix_tupK K rfl) (pv 0) pe_int (fun _ _=>rfl)))) pa_nil)))),?_⟩
    refine ⟨_,rfl,_,rfl,_,rfl,p,ln,lr,c,b,ns,rs,live,nd,ok,hlv,R,rfl,hT,hC,hRw,hn12,h20,fit,fun lu H2 s2 hlu0 hO=>?_⟩
    obtain ⟨vs,hvs,evs,ivs⟩:=hO
    refine ⟨lu,rfl,⟨_,SqL.of hvs⟩,fun acc hacc=>?_⟩
    refine comp_by (n:=vs.length) (fun i ys _=>∃ ks:List Nat,ys=natsV ks∧ks.length≤i∧ks.Nodup∧∀ k,k∈ks↔∃ h g,h < i∧RM.Hang (townNet ns rs live nd ok hlv) R k h g) hacc (itl_go (SqL.of hvs)) (itl_stop (SqL.of hvs)) ⟨[],rfl,Nat.zero_le _,List.nodup_nil,fun k=>⟨fun z=>absurd z (by simp),fun ⟨_,_,z,_⟩=>absurd z (Nat.not_lt_zero _)⟩⟩ ?_ ?_
    · rintro i ys H3 hi s3 hy ⟨ks,rfl,e1,e2,e3⟩ y H4 ⟨rfl,hv⟩
      have hvi:=hv _ (s3.seq (SqL.of hvs))
      rw [List.getElem?_eq_getElem hi] at hvi
      cases hvi
      have it:=(ivs i _ (List.getElem?_eq_getElem hi)).mono s3
      generalize vs[i]=v at it
      cases hh:hangOf (townNet ns rs live nd ok hlv) R i with
      | none =>
        rw [hh] at it
        have it:v = .non:=it
        subst it
        refine ⟨_,rfl,rfl,_,rfl,iteF ?_⟩
        refine comp_skip hi s3 hy ⟨ks,rfl,by omega,e2,fun k=>(e3 k).trans ⟨fun ⟨h,g,z,t⟩=>⟨h,g,by omega,t⟩,fun ⟨h,g,z,t⟩=>⟨h,g,?_,t⟩⟩⟩
        by_cases e:h=i
        · subst e
          rw [hangOf_some.mpr t] at hh
          cases hh
        · omega
      | some q =>
        rw [hh] at it
        obtain ⟨t1,rfl,ht⟩:=it
        have hang:=(hangOf_some (k:=q.1) (g:=q.2)).mp hh
        refine ⟨_,rfl,rfl,_,rfl,iteT ?_⟩
        refine ⟨_,rfl,t1,_,0,_,rfl,rfl,ht,rfl,?_⟩
        refine comp_add hacc hi s3 hy (by rw [List.length_map]; exact small1000 (by omega)) ⟨ks++[q.1],by rw [natsV_snoc],by rw [List.length_append]; exact Nat.add_le_add_right e1 1,Gr.nodup_snoc e2 fun z=>?_,fun k=>?_⟩
        · obtain ⟨h,g,z1,t⟩:=(e3 _).mp z
          have:=(t.one hang).1
          omega
        · rw [List.mem_append,List.mem_singleton,e3]
          constructor
          · rintro (⟨h,g,z,t⟩ | rfl)
            · exact ⟨h,g,by omega,t⟩
            · exact ⟨i,q.2,by omega,hang⟩
          · rintro ⟨h,g,z,t⟩
            by_cases e:h=i
            · subst e
              exact .inr (t.uniq hang).1
            · exact .inl ⟨h,g,by omega,t⟩
    rintro ys H3 s3 hy ⟨ks,rfl,e1,e2,e3⟩
    refine ⟨acc,ks.map fun k:Nat=>(k:Int),rfl,SqL.of (by rw [hy,natsV_ints]),by rw [List.length_map]; omega,fun l ms hl perm pw=>?_⟩
    obtain ⟨os,eos,o1,o2,o3⟩:=sorted_nats perm pw e2
    rw [eos]
    have s23:=s2.trans s3
    refine k l os _ (s23.trans (Same.new hl)) (s23.free hl) upd_same ⟨o1,fun k=>?_⟩ (by omega)
    rw [o2,e3]
    constructor
    · rintro ⟨h,g,_,t⟩; exact ⟨h,g,t⟩
    · rintro ⟨h,g,t⟩
      have:h < ns.length:=(Hang.lt t).1
      exact ⟨h,g,by omega,t⟩
end
end K27
set_option maxHeartbeats 4000000
namespace K27
open PySem L2 TW PyProof.Rows
open RM (rowV byV byV_non byV_int)
seal L2.PE L2.PA L2.PT L2.PW L2.PS L2.PSs L2.PG L2.PGs L2.PI L2.PTs
section
variable {P:Program} {w:World} {K:PySem.W.Frag} {mg:Str→Option Value} {base:Heap}
def spLets (K:PySem.W.Frag) (C:Addr):Sp:=fun vs H Q _=>∃ (p ln lr:Addr) (ns:List Int) (rs:List R5) (i:Nat) (r:R5) (g:Nat) (z:Int),vs = [.ref p,.int i,.int g]∧TownAt K C H p ln lr ns rs∧rs[i]?=some r∧([1,2,4]:List Int)[g]?=some z∧Q (.bl (!decide (Builtin.bitAnd r.e z=0))) H
theorem ok_Town_lets {t:Ad} (T:Txt K mg t):FnOk P w K mg base CX0 1 t.f_Town_lets t.d_Town_lets ["self","rope","group"]  (spLets K t.a_Town):=by
  refine T.F_Town_lets.ok sc_Town_lets (fun vs H Q E h=>?_) (fun cdv A outer s H vs Q E hr h=>?_)
  · obtain ⟨p,ln,lr,ns,rs,i,n,h,z,rfl,_⟩:=h; rfl
  · obtain ⟨p,ln,lr,ns,rs,i,r,g,z,rfl,hT,hi,hz,k⟩:=h
    obtain ⟨⟨dx,hp⟩,hn,us,hr',hra⟩:=id hT
    obtain ⟨v,hv,hD⟩:=hra.get (i:=i) (d:=r.D) (by rw [List.getElem?_map,hi]; rfl)
    obtain ⟨q,e,hq⟩:=Rep.of_intsT (ns:=r.ns) hD
    subst e
    refine ⟨_,(pss_one (ps_ret (pe_cmpR op_ne (pe_op op_and (pe_ix ix_tup (pe_ix ix_list (pe_fld (pv 0) rfl) (pv 1) (fun _ _=>rfl)) pe_int (fun _ _=>rfl)) (pe_ix ix_tup (pe_glob rfl T.k_GROUP_BITS (v:=.ref t.a_GROUP_BITS) rfl) (pv 2) (fun _ _=>rfl))) pe_int (nomark _)))),?_⟩
    refine ⟨_,rfl,p,_,dx,_,_,rfl,hp,T.c_Town,T.n_Town_rope_tuples,rfl,_,rfl,lr,_,_,_,rfl,rfl,SqL.of hr',atI_nat hv,?_⟩
    refine ⟨q,_,_,_,rfl,rfl,hq,rfl,?_⟩
    have hb:([.int 1,.int 2,.int 4]:List V)[g]?=some (.int z):=by
      have e:([.int 1,.int 2,.int 4]:List V)=([1,2,4]:List Int).map V.int:=rfl
      rw [e,List.getElem?_map,hz]; rfl
    refine ⟨_,rfl,_,_,_,_,rfl,rfl,T.s_GROUP_BITS H,atI_nat hb,_,_,rfl,rfl,rfl,?_⟩
    have e:decide (V.int (Builtin.bitAnd r.e z)=V.int 0)=decide (Builtin.bitAnd r.e z=0):=by simp
    rw [e]
    exact k
end
end K27
set_option maxHeartbeats 4000000
namespace K27
open PySem L2 TW PyProof.Rows
open RM (rowV byV byV_non byV_int)
seal L2.PE L2.PA L2.PT L2.PW L2.PS L2.PSs L2.PG L2.PGs L2.PI L2.PTs
section
variable {P:Program} {w:World} {K:PySem.W.Frag} {mg:Str→Option Value} {base:Heap}
def spWiresOf (K:PySem.W.Frag) (C:Addr):Sp:=fun vs H Q _=>∃ (p ln lr:Addr) (ns:List Int) (rs:List R5) (i:Nat) (r:R5),vs = [.ref p,.int i]∧TownAt K C H p ln lr ns rs∧rs[i]?=some r∧Q (.int r.d) H
theorem ok_wires_of {t:Ad} (T:Txt K mg t):FnOk P w K mg base CX0 2 t.f_wires_of t.d_wires_of ["town","rope"]  (spWiresOf K t.a_Town):=by
  refine T.F_wires_of.ok sc_wires_of (fun vs H Q E h=>?_) (fun cdv A outer s H vs Q E hr h=>?_)
  · obtain ⟨p,ln,lr,ns,rs,i,r,rfl,_⟩:=h; rfl
  · obtain ⟨p,ln,lr,ns,rs,i,r,rfl,hT,hi,k⟩:=h
    obtain ⟨⟨dx,hp⟩,_⟩:=id hT
    refine ⟨_,(pss_one (ps_ret (pe_ix ix_tup (pe_meth (pv 0) T.c_Town T.m_Town_rope (ok_Town_rope T) (hr.mono (by decide)) T.B_Town_rope .nil pass0 (pa_c (pv 1) pa_nil)) pe_int (fun _ _=>rfl)))),?_⟩
    refine ⟨_,rfl,p,dx,_,rfl,hp,rfl,_,rfl,p,ln,lr,ns,rs,i,r,rfl,hT,hi,fun q hq=>?_⟩
    have hq:SqT K H q r.vs:=hq.elim SqT.of id
    exact ⟨q,_,_,_,rfl,rfl,hq,rfl,k⟩
end
end K27
set_option maxHeartbeats 4000000
namespace K27
open PySem L2 TW PyProof.Rows
open RM (rowV byV byV_non byV_int)
seal L2.PE L2.PA L2.PT L2.PW L2.PS L2.PSs L2.PG L2.PGs L2.PI L2.PTs
section
variable {P:Program} {w:World} {K:PySem.W.Frag} {mg:Str→Option Value} {base:Heap}
def spStanding (K:PySem.W.Frag) (CT C NW:Addr):Sp:=fun vs H Q E=>∃ (p tp lu ln lr:Addr) (ns:List Int) (rs:List R5) (ws:List (List Nat)) (i:Int),vs = [.ref p,.int i]∧TownAt K CT H tp ln lr ns rs∧StrAt C H p tp lu ws∧ws.length=rs.length ∧
  (∀ (j:Nat) w l H',i=(j:Int)→ws[j]?=some w→Same H H'→H l=none→H' l=some (.lst (natsV w))→Q (.ref l) H')∧(¬ (0≤i∧i < rs.length)→E (.ref NW) none H)
theorem ok_Strands_standing {t:Ad} (T:Txt K mg t):FnOk P w K mg base (CX1 P w) 1 t.f_Strands_standing t.d_Strands_standing ["self","rope"]  (spStanding K t.a_Town t.a_Strands t.a_NoWire):=by
  refine T.F_Strands_standing.okX sc_Strands_standing (fun vs H Q E h=>?_) (fun cdv A outer s H vs Q E hr h=>?_)
  · obtain ⟨_,_,_,_,_,_,_,_,_,rfl,_⟩:=h; rfl
  · obtain ⟨p,tp,lu,ln,lr,ns,rs,ws,i,rfl,hT,hW,ew,k,kx⟩:=h
    obtain ⟨⟨dx,hp⟩,ls,hlu,els,hls⟩:=id hW
    obtain ⟨⟨dt,htp⟩,_⟩:=id hT
    refine ⟨_,(pss_cons (ps_if (pt_not (pt_chain op_le op_lt pe_int (pv 1) (pe_fld (pe_fld (pv 0) rfl) rfl))) (pss_one (ps_raise rfl T.g_NoWire T.x_NoWire hr.hd pe_str)) pss_nil)
      (pss_one (ps_ret (pe_callTy call_list_of (by rfl) T.n_list boot_list (pa_c (pe_ix ix_list (pe_fld (pv 0) rfl) (pv 1) (fun _ _=>rfl)) pa_nil))))),?_⟩
    refine ⟨_,rfl,_,_,rfl,rfl,_,rfl,?_⟩
    by_cases h0:0≤i
    case neg =>
      rw [decide_eq_false h0]
      exact iteF ⟨_,rfl,iteT (kx fun z=>h0 z.1)⟩
    rw [decide_eq_true h0]
    refine iteT ?_
    refine ⟨_,rfl,p,_,dx,_,_,rfl,hp,T.c_Strands,T.n_Strands_town,rfl,tp,_,dt,_,_,rfl,htp,T.c_Town,T.n_Town_many,rfl,_,_,rfl,rfl,_,rfl,?_⟩
    by_cases h1:i < (rs.length:Int)
    case neg =>
      rw [decide_eq_false h1]
      exact iteT (kx fun z=>h1 z.2)
    rw [decide_eq_true h1]
    refine iteF ?_
    obtain ⟨j,rfl⟩ : ∃ j:Nat,i=(j:Int):=⟨i.toNat,by omega⟩
    have hj:j < ws.length:=by omega
    have hwj:ws[j]?=some ws[j]:=List.getElem?_eq_getElem hj
    have hlj:ls[j]?=some ls[j]:=List.getElem?_eq_getElem (by omega)
    have hat:atI (ls.map V.ref) (j:Int)=some (.ref ls[j]):=atI_nat (by rw [List.getElem?_map,hlj]; rfl)
    refine ⟨_,rfl,p,_,dx,_,_,rfl,hp,T.c_Strands,T.n_Strands_upright,rfl,_,rfl,lu,_,_,_,rfl,rfl,SqL.of hlu,hat,ls[j],_,rfl,.inl (SqL.of (hls j _ _ hlj hwj)),fun l hl=>?_⟩
    exact k j _ l _ rfl hwj (Same.new hl) hl upd_same
end
end K27
set_option maxHeartbeats 4000000
namespace K27
open PySem L2 TW PyProof.Rows
open RM (rowV byV byV_non byV_int)
seal L2.PE L2.PA L2.PT L2.PW L2.PS L2.PSs L2.PG L2.PGs L2.PI L2.PTs
section
variable {P:Program} {w:World} {K:PySem.W.Frag} {mg:Str→Option Value} {base:Heap}
def spFallN (K:PySem.W.Frag) (CT C NW:Addr):Sp:=fun vs H Q E=>∃ (p tp lu ln lr:Addr) (ns:List Int) (rs:List R5) (ws:List (List Nat)) (i x:Int),vs = [.ref p,.int i,.int x]∧TownAt K CT H tp ln lr ns rs∧StrAt C H p tp lu ws∧ws.length=rs.length∧(∀ w∈ws,w.length≤4) ∧
  (∀ (j k:Nat) w (ls:List Addr) (q:Addr) H',i=(j:Int)→x=(k:Int)→ws[j]?=some w→k∈w→H lu=some (.lst (ls.map V.ref))→H q=none→H' q=some (.lst (natsV (w.filter fun z=>decide (z≠k))))→H' lu=some (.lst ((ls.map V.ref).set j (.ref q)))→(∀ b o,H b=some o→b≠lu→H' b=some o)→Q (.bl (w.filter fun z=>decide (z≠k)).isEmpty) H') ∧
  (¬ (0≤i∧i < rs.length)→E (.ref NW) none H)∧(∀ (j:Nat) w H',i=(j:Int)→ws[j]?=some w→(∀ k∈w,x≠(k:Nat))→Same H H'→E (.ref NW) none H')
theorem ok_Strands_fall {t:Ad} (T:Txt K mg t):FnOk P w K mg base (CX1 P w) 2 t.f_Strands_fall t.d_Strands_fall ["self","rope","wire"]  (spFallN K t.a_Town t.a_Strands t.a_NoWire):=by
  refine T.F_Strands_fall.okX sc_Strands_fall (fun vs H Q E h=>?_) (fun cdv A outer s H vs Q E hr h=>?_)
  · obtain ⟨_,_,_,_,_,_,_,_,_,_,rfl,_⟩:=h; rfl
  · obtain ⟨p,tp,lu,ln,lr,ns,rs,ws,i,x,rfl,hT,hW,ew,h4,k,kx,ky⟩:=h
    obtain ⟨⟨dx,hp⟩,ls,hlu,els,hls⟩:=id hW
    refine ⟨_,(pss_cons (ps_set (i:=3) sc_Strands_fall.nd rfl (Or.inl rfl) (pe_meth (pv 0) T.c_Strands T.m_Strands_standing (ok_Strands_standing T) (hr.mono (by decide)) T.B_Strands_standing .nil pass1 (pa_c (pv 1) pa_nil)))
      (pss_cons (ps_if (pt_cmpR op_notIn_seq (pv 2) (pv 3) (by with_unfolding_all rfl)) (pss_one (ps_raise rfl T.g_NoWire T.x_NoWire hr.hd pe_str)) pss_nil)
      (pss_cons (ps_asg (pe_comp (compOk_of (dsc:=defScope s_Strands_fall) (N0:=["self","rope","wire","ahead"]) (N2:=["each","wire"]) (cap:=[none,some 2]) rfl rfl (by decide +kernel)) rfl (pi_list (pv 3)) (fun _ _ _ _=>by exact (pg_name (i:=0) nd_Strands_fall_c0 rfl (Or.inl rfl))) (fun _ _ _ _=>by exact (pts_one (pt_cmpR op_ne (pv 0) (pv 1) (nomark _)))) (fun _ _ _ _=>by exact (pv 0))) (pg_sub (pe_fld (pv 0) rfl) (pv 1) set_list))
      (pss_one (ps_ret (pe_cmpR op_eqD (pe_ix ix_list (pe_fld (pv 0) rfl) (pv 1) (fun _ _=>rfl)) (pe_lst pa_nil) (nomark _))))))),?_⟩
    refine ⟨_,rfl,p,dx,_,rfl,hp,rfl,_,rfl,p,tp,lu,ln,lr,ns,rs,ws,i,rfl,hT,hW,ew,fun j w' l H1 ej hj s1 hl0 hl=>?_,kx⟩
    subst ej
    have hjl:=(List.getElem?_eq_some_iff.mp hj).1
    have w4:=h4 _ (List.mem_of_getElem? hj)
    refine ⟨_,rfl,_,rfl,l,_,rfl,.inl (SqL.of hl),rfl,flat_nats w',_,rfl,?_⟩
    dsimp only
    rw [if_pos rfl,natsV_ints,inV_ints]
    by_cases hc:x∈w'.map fun k:Nat=>(k:Int)
    case neg =>
      rw [decide_eq_false hc]
      exact iteT (ky j w' H1 rfl hj (fun z hz e=>hc (List.mem_map.mpr ⟨z,hz,e.symm⟩)) s1)
    rw [decide_eq_true hc]
    refine iteF ?_
    obtain ⟨kk,hkk,rfl⟩:=List.mem_map.mp hc
    refine ⟨_,rfl,l,rfl,⟨_,SqL.of hl⟩,fun acc hacc=>?_⟩
    have hC:=SqL.of (K:=K) hl
    refine comp_by (n:=(natsV w').length) (fun i ys _=>ys=natsV ((w'.take i).filter fun z=>decide (z≠kk))) hacc (itl_go hC) (itl_stop hC) rfl ?_ ?_
    · rintro i ys H2 hi s2 hy rfl y H3 ⟨rfl,hv⟩
      have hv:=hv _ (s2.seq hC)
      have hi':i < w'.length:=by rw [List.length_map] at hi; exact hi
      have hwi:w'[i]?=some w'[i]:=List.getElem?_eq_getElem hi'
      rw [List.getElem?_map,hwi] at hv
      cases hv
      refine ⟨_,rfl,_,rfl,rfl,_,rfl,?_⟩
      have et:w'.take (i + 1)=w'.take i++[w'[i]]:=by rw [List.take_add_one,hwi]; rfl
      by_cases hz:w'[i]=kk
      · have e1:decide (V.int (w'[i]:Nat)=V.int (kk:Nat))=true:=decide_eq_true (by rw [hz])
        rw [e1]
        refine iteF (comp_skip hi s2 hy ?_)
        rw [et,List.filter_append,hz]
        simp
      · have e1:decide (V.int (w'[i]:Nat)=V.int (kk:Nat))=false:=decide_eq_false fun q=>hz (by have:=V.int.inj q; omega)
        rw [e1]
        refine iteT ⟨_,rfl,comp_add hacc hi s2 hy ?_ ?_⟩
        · rw [List.length_map]
          have:=List.length_filter_le (fun z=>decide (z≠kk)) (w'.take i)
          rw [List.length_take] at this
          exact small1000 (by omega)
        · rw [et,List.filter_append,← natsV_snoc]
          simp [hz]
    · rintro ys H2 s2 hy rfl
      rw [List.length_map,List.take_length] at hy
      have s12:=s1.trans s2
      have hu2:=s12 _ _ hlu
      have hp2:=s12 _ _ hp
      have hlj:j < ls.length:=by omega
      refine ⟨_,rfl,p,_,dx,_,_,rfl,hp2,T.c_Strands,T.n_Strands_upright,rfl,_,rfl,lu,_,_,j,rfl,rfl,hu2,(by rw [List.length_map]; exact ixN_nat hlj),?_⟩
      have hW2:=hW.mono s12
      generalize eH3:upd H2 lu (.lst ((ls.map V.ref).set j (.ref acc)))=H3
      have k3:∀ b o,H2 b=some o→b≠lu→H3 b=some o:=fun b o e nb=>by rw [← eH3,upd_ne nb]; exact e
      have hu3:H3 lu=some (.lst ((ls.map V.ref).set j (.ref acc))):=by rw [← eH3]; exact upd_same
      have hW3:=hW2.put hu2 hy hjl k3 hu3
      have hacc3:H3 acc=some (.lst (natsV (w'.filter fun z=>decide (z≠kk)))):=k3 _ _ hy (ne_of hy hu2 fun z=>nats_refs (List.getElem?_eq_getElem hlj) (HO.lst.inj z))
      obtain ⟨⟨dx3,hp3⟩,_⟩:=id hW3
      refine ⟨_,rfl,p,_,dx3,_,_,rfl,hp3,T.c_Strands,T.n_Strands_upright,rfl,_,rfl,lu,_,_,V.ref acc,rfl,rfl,SqL.of hu3,atI_nat (by rw [List.getElem?_set,if_pos rfl,if_pos (by rw [List.length_map]; exact hlj)]),Nat.zero_le _,fun q hq=>?_⟩
      have s4:=Same.new (o:=.lst []) hq
      refine ⟨.list (((w'.filter fun z=>decide (z≠kk)).map fun k:Nat=>(k:Int)).map .int),.list [],⟨acc,_,rfl,SqL.of (s4 _ _ hacc3),(by rw [natsV_ints]; exact repAll_ints _)⟩,⟨q,_,rfl,SqL.of upd_same,rfl⟩,ints_lay _,rfl,Nat.lt_of_le_of_lt (Nat.add_le_add_left (Nat.le_trans (Nat.min_le_right _ _) (by decide)) _) hr.units,?_⟩
      have z:=k j kk w' ls acc _ rfl rfl hj hkk hlu (s1.free hacc) (s4 _ _ hacc3) (s4 _ _ hu3) (fun b o e nb=>s4 _ _ (k3 _ _ (s12 _ _ e) nb))
      cases e:w'.filter fun z=>decide (z≠kk) with
      | nil=>rw [e] at z; exact z
      | cons a r=>rw [e] at z; exact z
end
end K27
set_option maxHeartbeats 4000000
namespace K27
open PySem L2 TW PyProof.Rows
open RM (rowV byV byV_non byV_int)
seal L2.PE L2.PA L2.PT L2.PW L2.PS L2.PSs L2.PG L2.PGs L2.PI L2.PTs
section
variable {P:Program} {w:World} {K:PySem.W.Frag} {mg:Str→Option Value} {base:Heap}
def spGroup (NG:Addr):Sp:=fun vs H Q E=>∃ g:Int,vs = [.int g]∧(0≤g∧g < 3→Q .non H)∧(¬ (0≤g∧g < 3)→E (.ref NG) none H)
theorem ok_check_group {t:Ad} (T:Txt K mg t):FnOk P w K mg base (CX1 P w) 1 t.f_check_group t.d_check_group ["group"]  (spGroup t.a_NoGroup):=by
  refine T.F_check_group.okX sc_check_group (fun vs H Q E h=>?_) (fun cdv A outer s H vs Q E hr h=>?_)
  · obtain ⟨_,rfl,_⟩:=h; rfl
  · obtain ⟨g,rfl,k,kx⟩:=h
    refine ⟨_,(pss_one (ps_if (pt_not (pt_chain op_le op_lt pe_int (pv 0) (pe_callB call_len_seq (by rfl) T.n_len PySem.boot_len (pa_c (pe_glob rfl T.k_GROUP_BITS (v:=.ref t.a_GROUP_BITS) rfl) pa_nil)))) (pss_one (ps_raise rfl T.g_NoGroup T.x_NoGroup hr.hd pe_str)) pss_nil)),?_⟩
    refine ⟨_,rfl,_,_,rfl,rfl,_,rfl,?_⟩
    by_cases h0:0≤g
    case neg =>
      rw [decide_eq_false h0]
      exact iteF ⟨_,rfl,iteT (kx fun z=>h0 z.1)⟩
    rw [decide_eq_true h0]
    refine iteT ?_
    refine ⟨_,_,rfl,.inr (T.s_GROUP_BITS H),_,_,rfl,rfl,_,rfl,?_⟩
    by_cases h1:g < 3
    case neg =>
      have e:decide (g < ((([.int 1,.int 2,.int 4]:List V).length:Nat):Int))=false:=decide_eq_false h1
      rw [e]
      exact iteT (kx fun z=>h1 z.2)
    have e:decide (g < ((([.int 1,.int 2,.int 4]:List V).length:Nat):Int))=true:=decide_eq_true h1
    rw [e]
    exact iteF (k ⟨h0,h1⟩)
def spLive (K:PySem.W.Frag) (CT C NG:Addr):Sp:=fun vs H Q E=>∃ (p tp lu ln lr:Addr) (ns:List Int) (rs:List R5) (ws:List (List Nat)) (g:Int),vs = [.ref p,.int g]∧TownAt K CT H tp ln lr ns rs∧StrAt C H p tp lu ws∧ws.length=rs.length∧rs.length≤20∧(∀ r∈rs,1≤r.e∧r.e≤7) ∧
  (∀ (gg:Nat) l H',g=(gg:Int)→gg < 3→Same H H'→H l=none→H' l=some (.lst (natsV (liveTo rs ws gg rs.length)))→Q (.ref l) H')∧(¬ (0≤g∧g < 3)→E (.ref NG) none H)
theorem ok_Strands_live {t:Ad} (T:Txt K mg t):FnOk P w K mg base (CX1 P w) 2 t.f_Strands_live t.d_Strands_live ["self","group"]  (spLive K t.a_Town t.a_Strands t.a_NoGroup):=by
  refine T.F_Strands_live.okX sc_Strands_live (fun vs H Q E h=>?_) (fun cdv A outer s H vs Q E hr h=>?_)
  · obtain ⟨_,_,_,_,_,_,_,_,_,rfl,_⟩:=h; rfl
  · obtain ⟨p,tp,lu,ln,lr,ns,rs,ws,g,rfl,hT,hW,ew,h20,he,k,kx⟩:=h
    obtain ⟨⟨dx,hp⟩,ls,hlu,els,hls⟩:=id hW
    obtain ⟨⟨dt,htp⟩,_⟩:=id hT
    refine ⟨_,(pss_cons (ps_expr (pe_call (ok_check_group T) (hr.mono (by decide)) rfl T.g_check_group T.F_check_group.kp T.B_check_group .nil pass1 (pa_c (pv 1) pa_nil)))
      (pss_one (ps_ret (pe_comp (compOk_of (dsc:=defScope s_Strands_live) (N0:=["self","group"]) (N2:=["rope","group","self"]) (cap:=[none,some 1,some 0]) rfl rfl (by decide +kernel)) rfl (pi_range1 rfl T.n_range (pa_c (pe_fld (pe_fld (pv 0) rfl) rfl) pa_nil)) (fun _ _ _ _=>by exact (pg_name (i:=0) nd_Strands_live_c0 rfl (Or.inl rfl))) (fun _ _ _ _=>by exact (pts_one (PW.pt (pw_and (pt_truthK K rfl (pe_ix (ix_listK K rfl) (pe_fldK K rfl (pv 2) rfl) (pv 0) (fun _ _=>rfl)) (fun _=>rfl)) (pw_and1 (pt_val (pe_meth (pe_fldK K rfl (pv 2) rfl) T.c_Town T.m_Town_lets (ok_Town_lets T) (hr.mono (by decide)) T.B_Town_lets .nil pass0 (pa_c (pv 0) (pa_c (pv 1) pa_nil))))))))) (fun _ _ _ _=>by exact (pv 0)))))),?_⟩
    refine ⟨_,rfl,g,rfl,fun hg=>?_,kx⟩
    obtain ⟨gg,rfl⟩ : ∃ gg:Nat,g=(gg:Int):=⟨g.toNat,by omega⟩
    have hg3:gg < 3:=by omega
    obtain ⟨z,hz⟩:=bit3 hg3
    refine ⟨_,rfl,p,_,dx,_,_,rfl,hp,T.c_Strands,T.n_Strands_town,rfl,tp,_,dt,_,_,rfl,htp,T.c_Town,T.n_Town_many,rfl,_,rfl,(by show -(2 ^ 62)≤((rs.length:Nat):Int); omega),(by show ((rs.length:Nat):Int) < 2 ^ 62; omega),fun acc hacc=>?_⟩
    refine comp_by (n:=(((rs.length:Nat):Int)).toNat) (fun i ys _=>ys=natsV (liveTo rs ws gg i)) hacc itr_go itr_stop rfl ?_ ?_
    · rintro i ys H2 hi s2 hy rfl x H3 ⟨rfl,rfl⟩
      have hi':i < rs.length:=by simpa using hi
      have hir:rs[i]?=some rs[i]:=List.getElem?_eq_getElem hi'
      have hiw:ws[i]?=some ws[i]:=List.getElem?_eq_getElem (by omega)
      have hil:ls[i]?=some ls[i]:=List.getElem?_eq_getElem (by omega)
      have hl8:(natsV (liveTo rs ws gg i)).length < sizeLine:=by rw [List.length_map]; exact small1000 (by have:=liveTo_len rs ws gg i; omega)
      have eL:isLive rs ws gg i=((!(ws[i]).isEmpty) && letsB (rs[i]).e gg):=by unfold isLive; rw [hir,hiw]
      refine ⟨_,rfl,p,_,dx,_,_,rfl,s2 _ _ hp,T.c_Strands,T.n_Strands_upright,rfl,_,rfl,lu,_,_,V.ref ls[i],rfl,rfl,SqL.of (s2 _ _ hlu),(by rw [Int.zero_add]; exact atI_nat (by rw [List.getElem?_map,hil]; rfl)),?_⟩
      refine ⟨!(natsV ws[i]).isEmpty,?_,?_⟩
      · exact .inl ⟨_,SqL.of (s2 _ _ (hls i _ _ hil hiw)),rfl⟩
      cases ewi:ws[i] with
      | nil =>
        refine iteF (comp_skip hi s2 hy ?_)
        rw [liveTo_succ,eL,ewi]
        simp
      | cons y0 r0 =>
        refine iteT ?_
        refine ⟨_,rfl,p,_,dx,_,_,rfl,s2 _ _ hp,T.c_Strands,T.n_Strands_town,rfl,tp,dt,_,rfl,s2 _ _ htp,rfl,_,rfl,_,rfl,tp,ln,lr,ns,rs,i,rs[i],gg,z,(by show [V.ref tp,V.int (0 + (i:Int)),V.int (gg:Nat)]=_; rw [Int.zero_add]),hT.mono s2,hir,hz,_,rfl,?_⟩
        have h17:=he _ (List.mem_of_getElem? hir)
        rw [lets_bit h17.1 h17.2 hz]
        cases eb:letsB rs[i].e gg with
        | true =>
          refine iteT ⟨_,rfl,comp_add hacc hi s2 hy hl8 ?_⟩
          rw [liveTo_succ,eL,ewi,eb,Int.zero_add]
          exact (natsV_snoc _ _).symm
        | false =>
          refine iteF (comp_skip hi s2 hy ?_)
          rw [liveTo_succ,eL,ewi,eb]
          simp
    · rintro ys H2 s2 hy rfl
      exact k gg acc H2 rfl hg3 s2 hacc (by rw [hy,Int.toNat_natCast])
end
end K27
set_option maxHeartbeats 4000000
namespace K27
open PySem L2 TW PyProof.Rows
open RM (rowV byV byV_non byV_int)
seal L2.PE L2.PA L2.PT L2.PW L2.PS L2.PSs L2.PG L2.PGs L2.PI L2.PTs
section
variable {P:Program} {w:World} {K:PySem.W.Frag} {mg:Str→Option Value} {base:Heap}
def spBInit (C:Addr):Sp:=fun vs H Q _=>∃ (p dx:Addr),vs = [.ref p]∧H p=some (.ins C dx []) ∧
  ∀ d H',H d=none→BookAt C H' p d []→(∀ b o,H b=some o→b≠p→H' b=some o)→Q .non H'
theorem ok_Booku_initu {t:Ad} (T:Txt K mg t):FnOk P w K mg base CX0 1 t.f_Booku_initu t.d_Booku_initu ["self"]  (spBInit t.a_Book):=by
  refine T.F_Booku_initu.ok sc_Booku_initu (fun vs H Q E h=>?_) (fun cdv A outer s H vs Q E hr h=>?_)
  · obtain ⟨_,_,rfl,_⟩:=h; rfl
  · obtain ⟨p,dx,rfl,hp,k⟩:=h
    refine ⟨_,(pss_one (ps_fld (pv 0) pe_dnewT rfl)),?_⟩
    refine fun d hd=>⟨_,rfl,p,t.a_Book,dx,[],rfl,?_,T.c_Book,T.n_Book_kept,by decide,?_⟩
    · rw [upd_ne (ne_of_none hp hd)]; exact hp
    · refine k d _ hd ⟨⟨dx,upd_same⟩,?_⟩ fun b o e nb=>?_
      · rw [upd_ne (ne_of_none hp hd).symm]; exact upd_same
      · rw [upd_ne nb,upd_ne (ne_of_none e hd)]; exact e
def spNotes (K:PySem.W.Frag) (C:Addr):Sp:=fun vs H Q _=>∃ (p d:Addr) (ts:List T3),vs = [.ref p]∧BookAt C H p d ts∧ts.length < 64 ∧
  ∀ l (qs:List Addr) (us:List T3) H',Same H H'→H l=none→H' l=some (.lst (qs.map V.ref))→TrisAt K H' qs us→us.Perm ts→Sorted3 us→Q (.ref l) H'
theorem ok_Book_notes {t:Ad} (T:Txt K mg t):FnOk P w K mg base CX0 1 t.f_Book_notes t.d_Book_notes ["self"]  (spNotes K t.a_Book):=by
  refine T.F_Book_notes.ok sc_Book_notes (fun vs H Q E h=>?_) (fun cdv A outer s H vs Q E hr h=>?_)
  · obtain ⟨_,_,_,rfl,_⟩:=h; rfl
  · obtain ⟨p,d,ts,rfl,⟨⟨dx,hp⟩,hd⟩,h64,k⟩:=h
    refine ⟨_,(pss_one (ps_ret (pe_callB call_sorted3 (by rfl) T.n_sorted boot_sorted (pa_c (pe_thaw (pe_comp (compOk_of (dsc:=defScope s_Book_notes) (N0:=["self"]) (N2:=["noted","rope"]) (cap:=[none,none]) rfl rfl (by decide +kernel)) rfl (pi_items (pe_bm0 PySem.F.plainAttrs_dict PySem.F.slot_dict_items PySem.F.type_dict_items mt_items (pe_fld (pv 0) rfl))) (fun _ _ _ _=>by exact (pg_tupK K rfl (n:=2) rfl (pgs_cons (pg_name (i:=0) nd_Book_notes_c0 rfl (Or.inl rfl)) (pgs_cons (pg_name (i:=1) nd_Book_notes_c0 rfl (Or.inl rfl)) pgs_nil)))) (fun _ _ _ _=>by exact pts_nil) (fun _ _ _ _=>by exact (pe_op (op_catTK K rfl) (pv 0) (pe_tup (pa_c (pv 1) pa_nil)))))) pa_nil)))),?_⟩
    refine ⟨d,ts.map noteK,hd,?_⟩
    refine ⟨_,rfl,p,t.a_Book,dx,_,_,rfl,hp,T.c_Book,T.n_Book_kept,rfl,?_⟩
    refine ⟨.inr (.inr (.inl ⟨rfl,.inr ⟨_,hd⟩⟩)),d,_,rfl,rfl,hd,fun v hv=>?_⟩
    have s1:=Same.new (o:=ViewO v d) hv
    have hv1:=upd_same (H:=H) (a:=v) (o:=ViewO v d)
    have hd1:=s1 _ _ hd
    generalize upd H v (ViewO v d)=H1 at s1 hv1 hd1
    refine ⟨v,d,_,rfl,hv1,hd1,fun o=>?_⟩
    intro acc hacc
    have hd2:=upd_same (H:=H1) (a:=d) (o:=.frz o (.dT (ts.map noteK)))
    have hH:∀ {H3:Hp},Same (upd H1 d (.frz o (.dT (ts.map noteK)))) H3→Same H (upd H3 d (.dT (ts.map noteK))):=fun {H3} s3 b u e=>by
      by_cases z:b=d
      · subst z
        rw [hd] at e
        cases e
        exact upd_same
      · rw [upd_ne z]
        exact s3 _ _ (by rw [upd_ne z]; exact s1 _ _ e)
    generalize upd H1 d (.frz o (.dT (ts.map noteK)))=H2 at hd2 hH hacc
    refine comp_by (n:=(ts.map noteK).length) (fun i ys H3=>∃ qs:List Addr,ys=qs.map V.ref∧TrisAt K H3 qs (ts.take i)) hacc (itx_go hd2) (itx_stop hd2) ⟨[],rfl,TrisAt.nil⟩ ?_ ?_
    · rintro i ys H3 hi s3 hy ⟨qs,rfl,hqs⟩ x H4 ⟨q,kb,ky,vv,hq,rfl,rfl,hkv,hkb⟩
      have hi':i < ts.length:=by rw [List.length_map] at hi; exact hi
      rw [List.getElem?_map,List.getElem?_eq_getElem hi'] at hkv
      cases hkv
      generalize ht:ts[i]=u
      have hu:ts[i]?=some u:=by rw [List.getElem?_eq_getElem hi',ht]
      obtain ⟨u1,u2,u3⟩:=u
      rw [ht] at hkb
      have u4:=Same.new (o:=.tup [.ref kb,.int u3]) hq
      refine ⟨q,_,rfl,SqT.of upd_same,rfl,_,_,rfl,_,_,rfl,rfl,?_⟩
      refine ⟨_,rfl,_,rfl,(by show 1≤sizeLine; decide),fun b hb=>?_⟩
      have u5:=Same.new (o:=.tup [V.int u3]) hb
      refine ⟨kb,b,[.int u1,.int u2],_,rfl,rfl,SqT.of (u5 _ _ (u4 _ _ hkb)),SqT.of upd_same,(by simp),(by show 3≤sizeLine; decide),fun z=>(by cases z),fun _ c hc=>?_⟩
      have u6:=Same.new (o:=.tup ([V.int u1,.int u2]++[.int u3])) hc
      have s7:=u4.trans (u5.trans u6)
      have hy7:=s7 _ _ hy
      have hl:qs.length=i:=by rw [hqs.1,List.length_take]; omega
      refine comp_add hacc hi (s3.trans s7) hy7 (by rw [List.length_map]; exact small1000 (by omega)) ⟨qs++[c],by simp,?_⟩
      rw [List.take_add_one,hu]
      exact TrisAt.past hy7 nt_lst upd_keep (TrisAt.snoc (t:=(u1,u2,u3)) (hqs.mono s7) (SqT.of upd_same))
    · rintro ys H3 s3 hy ⟨qs,rfl,hqs⟩
      have hacd:acc≠d:=(ne_of_none hd2 hacc).symm
      rw [List.length_map,List.take_length] at hqs
      refine ⟨o,s3 _ _ hd2,?_⟩
      refine ⟨acc,qs,ts,rfl,SqL.of (by rw [upd_ne hacd]; exact hy),TrisAt.past (s3 _ _ hd2) nt_frz upd_keep hqs,h64,fun l qs' us hl hp hs ht=>?_⟩
      exact k l qs' us _ ((hH s3).trans (Same.new hl)) ((hH s3).free hl) upd_same (ht.mono (Same.new hl)) hp hs
def spForget (C:Addr):Sp:=fun vs H Q _=>∃ (p d:Addr) (ts:List T3),vs = [.ref p]∧BookAt C H p d ts ∧
  ∀ d' H',H d'=none→BookAt C H' p d' []→(∀ b o,H b=some o→b≠p→H' b=some o)→Q .non H'
theorem ok_Book_forget {t:Ad} (T:Txt K mg t):FnOk P w K mg base CX0 1 t.f_Book_forget t.d_Book_forget ["self"]  (spForget t.a_Book):=by
  refine T.F_Book_forget.ok sc_Book_forget (fun vs H Q E h=>?_) (fun cdv A outer s H vs Q E hr h=>?_)
  · obtain ⟨_,_,_,rfl,_⟩:=h; rfl
  · obtain ⟨p,d,ts,rfl,⟨⟨dx,hp⟩,hd⟩,k⟩:=h
    refine ⟨_,(pss_one (ps_fld (pv 0) pe_dnewT rfl)),?_⟩
    refine fun d' hd'=>⟨_,rfl,p,t.a_Book,dx,[("kept",.ref d)],rfl,?_,T.c_Book,T.n_Book_kept,(by show 1 < 1000; decide),?_⟩
    · rw [upd_ne (ne_of_none hp hd')]; exact hp
    · refine k d' _ hd' ⟨⟨dx,upd_same⟩,?_⟩ fun b o e nb=>?_
      · rw [upd_ne (ne_of_none hp hd').symm]; exact upd_same
      · rw [upd_ne nb,upd_ne (ne_of_none e hd')]; exact e
end
end K27
set_option maxHeartbeats 4000000
namespace K27
open PySem L2 TW PyProof.Rows
open RM (rowV byV byV_non byV_int)
seal L2.PE L2.PA L2.PT L2.PW L2.PS L2.PSs L2.PG L2.PGs L2.PI L2.PTs
section
variable {P:Program} {w:World} {K:PySem.W.Frag} {mg:Str→Option Value} {base:Heap}
def spNames27 (K:PySem.W.Frag):Sp:=fun vs H Q _=>∃ (a:Addr) (cs:List Int) (n:Nat),vs = [.ref a,.int n]∧SqL K H a (cs.map V.int)∧1≤n∧n≤10 ∧
  ∀ l H' (xs:List Int),Same H H'→H l=none→H' l=some (.lst (xs.map V.int))→xs.length=n→xs.Nodup→(∀ x∈xs,0≤x)→Q (.ref l) H'
theorem ok_w_names {t:Ad} (T:Txt K mg t):FnOk P w K mg base CX0 2 t.f_w_names t.d_w_names ["_law_script","_law_size"]  (spNames27 K):=by
  refine T.F_w_names.ok sc_w_names (fun vs H Q E h=>?_) (fun cdv A outer s H vs Q E hr h=>?_)
  · obtain ⟨_,_,_,rfl,_⟩:=h; rfl
  · obtain ⟨a,cs,n,rfl,hS,hn1,hn,k⟩:=h
    refine ⟨_,(pss_cons (ps_set (i:=2) sc_w_names.nd rfl (Or.inl rfl) (pe_lst pa_nil))
      (pss_cons (ps_for PassesOwn.never rfl (pi_range1 rfl T.n_range (pa_c (pv 1) pa_nil)) (pg_name (i:=3) sc_w_names.nd rfl (Or.inl rfl)) (pss_cons (ps_set (i:=4) sc_w_names.nd rfl (Or.inl rfl) (pe_call (ok_w_cell_at T) (hr.mono (by decide)) rfl T.g_w_cell_at T.F_w_cell_at.kp T.B_w_cell_at .nil pass0 (pa_c (pv 0) (pa_c (pe_op op_add pe_int (pv 3)) pa_nil))))
      (pss_cons (ps_set (i:=5) sc_w_names.nd rfl (Or.inl rfl) (pe_op op_mod (pe_op op_fdiv (pv 4) pe_int) pe_int))
      (pss_cons (ps_if (pt_cmpR op_eq (pe_op op_mod (pv 4) pe_int) pe_int (nomark _)) (pss_one (ps_set (i:=5) sc_w_names.nd rfl (Or.inl rfl) (pe_op op_mod (pe_op op_fdiv (pv 4) pe_int) (pe_op op_sub (pe_op op_pow pe_int pe_int) pe_int)))) pss_nil)
      (pss_cons (ps_while PassesOwn.never (pt_cmpR op_in_seq (pv 5) (pv 2) (by with_unfolding_all rfl)) (pss_one (ps_set (i:=5) sc_w_names.nd rfl (Or.inl rfl) (pe_op op_add (pv 5) pe_int))))
      (pss_one (ps_expr (pe_bm PySem.F.plainAttrs_list PySem.F.slot_list_append PySem.F.type_list_append mt_append (pv 2) (pa_c (pv 5) pa_nil)))))))))
      (pss_cons (ps_if (pt_cmpR op_eq (pe_op op_mod (pe_op op_fdiv (pe_call (ok_w_cell_at T) (hr.mono (by decide)) rfl T.g_w_cell_at T.F_w_cell_at.kp T.B_w_cell_at .nil pass0 (pa_c (pv 0) (pa_c pe_int pa_nil))) pe_int) pe_int) pe_int (nomark _)) (pss_one (ps_ret (pe_sliceRev (pv 2) (po_some (pe_un un_neg pe_int))))) pss_nil)
      (pss_one (ps_ret (pv 2)))))),?_⟩
    refine ⟨Nat.zero_le _,fun l hl=>?_⟩
    refine ⟨_,rfl,(n:Int),rfl,by omega,by omega,?_⟩
    refine for_range (n:=((n:Int)).toNat) (fun i σ H2=>Same H H2∧∃ (xs:List Int) (v3 v4 v5:Option V),σ = [some (.ref a),some (.int n),some (.ref l),v3,v4,v5]∧H2 l=some (.lst (xs.map V.int))∧xs.length=i∧xs.Nodup∧∀ x∈xs,0≤x)
      ⟨Same.new hl,[],none,none,none,rfl,upd_same,rfl,List.nodup_nil,fun x hx=>absurd hx (by simp)⟩ ?_ ?_
    · rintro i σ H2 hi ⟨s2,xs,v3,v4,v5,rfl,hx,ei,nd,nn⟩
      rw [Int.zero_add]
      refine ⟨_,rfl,_,rfl,_,_,rfl,rfl,a,cs,_,rfl,s2.seq hS,by omega,?_⟩
      dsimp only [gName]
      generalize cs.getD _ 0=c
      refine ⟨_,rfl,_,_,rfl,rfl,⟨by decide,by decide⟩,_,_,rfl,rfl,(by show (0:Int) < 40; decide),?_⟩
      dsimp only [gName]
      refine ifS_by (fun σ H3=>H3=H2∧∃ z:Int,0≤z∧σ = [some (.ref a),some (.int n),some (.ref l),some (.int (i:Nat)),some (.int c),some (.int z)]) ?_ fun nx=>?_
      case refine_2 =>
        refine ⟨_,rfl,_,_,rfl,rfl,(by show (0:Int) < 3; decide),rfl,_,rfl,ite2 (fun e=>?_) (fun e=>?_)⟩
        · exact ⟨_,rfl,_,_,rfl,rfl,⟨by decide,by decide⟩,_,_,rfl,rfl,⟨by decide,by decide,by decide⟩,_,_,rfl,rfl,_,_,rfl,rfl,(by show (0:Int) < 10 ^ (60:Int).toNat - 20; decide),nx _ _ ⟨rfl,_,Int.emod_nonneg _ (by decide),rfl⟩⟩
        · exact nx _ _ ⟨rfl,_,Int.emod_nonneg _ (by decide),rfl⟩
      rintro σ H3 ⟨rfl,z,hz0,rfl⟩
      refine while_by (fun σ H4=>H4=H3∧∃ x:Int,0≤x∧σ = [some (.ref a),some (.int n),some (.ref l),some (.int (i:Nat)),some (.int c),some (.int x)])
        (fun (σ:L2.St) (_:Hp)=>match σ[5]? with | some (some (V.int x))=>above xs x | _=>0) ⟨rfl,_,hz0,rfl⟩ ?_ ?_
      · rintro σ H4 ⟨rfl,x,hx0,rfl⟩
        refine ⟨_,rfl,_,rfl,l,_,rfl,.inl (SqL.of hx),rfl,flat_ints xs,_,rfl,?_⟩
        dsimp only
        rw [if_neg Bool.false_ne_true,inV_ints]
        refine ite2 (fun c=>?_) (fun c=>?_)
        · have hm:x∈xs:=of_decide_eq_true c
          exact ⟨_,rfl,_,_,rfl,rfl,⟨rfl,x + 1,by omega,rfl⟩,above_lt hm⟩
        · have hm:x ∉ xs:=fun z=>c (decide_eq_true z)
          refine ⟨_,rfl,.inl ⟨rfl,_,SqL.of hx⟩,_,rfl,l,_,_,rfl,rfl,hx,?_,?_⟩
          · rw [List.length_map]; exact small1000 (by omega)
          · refine ⟨s2.out hl,xs++[x],_,_,_,rfl,?_,?_,Gr.nodup_snoc nd hm,?_⟩
            · rw [upd_same,List.map_append]; rfl
            · simp [ei]
            · intro y hy
              rcases List.mem_append.mp hy with z | z
              · exact nn y z
              · have:y=x:=by simpa using z
                rw [this]; exact hx0
      · rintro σ H4 Q1 Q2 hq ⟨v,e1,u,e2,q,ys,e3,e4,e5,e6,b,e7,e8⟩
        exact ⟨v,e1,u,e2,q,ys,e3,e4,e5,e6,b,e7,hq _ _ e8⟩
    · rintro σ H2 ⟨s2,xs,v3,v4,v5,rfl,hx,ei,nd,nn⟩
      refine ⟨_,rfl,a,cs,1,rfl,s2.seq hS,by decide,_,_,rfl,rfl,⟨by decide,by decide⟩,_,_,rfl,rfl,(by show (0:Int) < 2; decide),rfl,_,rfl,ite2 (fun e=>?_) (fun e=>?_)⟩
      · refine ⟨_,rfl,_,rfl,_,rfl,l,_,rfl,rfl,SqL.of hx,fun l2 hl2=>?_⟩
        rw [← List.map_reverse]
        exact k l2 _ xs.reverse (s2.trans (Same.new hl2)) (s2.free hl2) upd_same (by rw [List.length_reverse]; omega) ((List.reverse_perm xs).nodup_iff.mpr nd) fun x hx=>nn x (List.mem_reverse.mp hx)
      · exact ⟨_,rfl,k l H2 xs s2 hl hx (by omega) nd nn⟩
end
end K27
set_option maxHeartbeats 4000000
namespace K27
open PySem L2 TW PyProof.Rows
open RM (rowV byV byV_non byV_int)
seal L2.PE L2.PA L2.PT L2.PW L2.PS L2.PSs L2.PG L2.PGs L2.PI L2.PTs
section
variable {P:Program} {w:World} {K:PySem.W.Frag} {mg:Str→Option Value} {base:Heap}
theorem or_lets {x:Int} {g:Nat} (h1:1≤x) (h7:x≤7) (hg:g < 3):1≤Builtin.bitOr x (1 * 2 ^ ((g:Int)).toNat)∧Builtin.bitOr x (1 * 2 ^ ((g:Int)).toNat)≤7:=by
  have hx:x=1∨x=2∨x=3∨x=4∨x=5∨x=6∨x=7:=by omega
  have hg':g=0∨g=1∨g=2:=by omega
  rcases hg' with rfl | rfl | rfl <;> rcases hx with rfl | rfl | rfl | rfl | rfl | rfl | rfl <;> decide +kernel
def RopeL (K:PySem.W.Frag) (H:Hp) (l:Addr) (rs:List R5):Prop:=∃ qs:List Addr,H l=some (.lst (qs.map V.ref))∧TsAt K H qs (rs.map R5.vs)
theorem TsAt.snoc {K:PySem.W.Frag} {H:Hp} {qs:List Addr} {xs:List (List V)} {q:Addr} {x:List V} (h:TsAt K H qs xs) (hq:SqT K H q x):TsAt K H (qs++[q]) (xs++[x]):=by
  refine ⟨by rw [List.length_append,List.length_append,h.len]; rfl,fun i a u ha hu=>?_⟩
  by_cases z:i < qs.length
  · rw [List.getElem?_append_left z] at ha
    rw [List.getElem?_append_left (h.len ▸ z)] at hu
    exact h.at' i a u ha hu
  · have e:i=qs.length:=by
      have:=(List.getElem?_eq_some_iff.mp ha).1
      rw [List.length_append] at this
      have:i < qs.length + 1:=this
      omega
    subst e
    rw [List.getElem?_concat_length] at ha
    rw [h.len,List.getElem?_concat_length] at hu
    cases ha
    cases hu
    exact hq
def spRopes27 (K:PySem.W.Frag):Sp:=fun vs H Q _=>∃ (a:Addr) (cs:List Int) (n g:Nat),vs = [.ref a,.int n,.int g]∧SqL K H a (cs.map V.int)∧1≤n∧n≤10∧g < 3 ∧
  ∀ l H' (rs:List R5),Same H H'→H l=none→RopeL K H' l rs→rs.length≤14→(∀ r∈rs,r.Ok n)→Q (.ref l) H'
theorem ok_w_ropes {t:Ad} (T:Txt K mg t):FnOk P w K mg base CX0 2 t.f_w_ropes t.d_w_ropes ["_law_script","_law_size","_law_group"]  (spRopes27 K):=by
  refine T.F_w_ropes.ok sc_w_ropes (fun vs H Q E h=>?_) (fun cdv A outer s H vs Q E hr h=>?_)
  · obtain ⟨_,_,_,_,rfl,_⟩:=h; rfl
  · obtain ⟨a,cs,n,g,rfl,hS,hn1,hn,hg,k⟩:=h
    refine ⟨_,(pss_cons (ps_set (i:=3) sc_w_ropes.nd rfl (Or.inl rfl) (pe_lst pa_nil))
      (pss_cons (ps_set (i:=4) sc_w_ropes.nd rfl (Or.inl rfl) pe_int)
      (pss_cons (ps_if (pt_cmpR op_gt (pv 1) pe_int (nomark _)) (pss_one (ps_set (i:=4) sc_w_ropes.nd rfl (Or.inl rfl) (pe_op op_add (pe_op op_sub (pv 1) pe_int) (pe_op op_mod (pe_op op_fdiv (pe_call (ok_w_cell_at T) (hr.mono (by decide)) rfl T.g_w_cell_at T.F_w_cell_at.kp T.B_w_cell_at .nil pass0 (pa_c (pv 0) (pa_c pe_int pa_nil))) pe_int) pe_int)))) pss_nil)
      (pss_cons (ps_for PassesOwn.never rfl (pi_range1 rfl T.n_range (pa_c (pv 4) pa_nil)) (pg_name (i:=5) sc_w_ropes.nd rfl (Or.inl rfl)) (pss_cons (ps_set (i:=6) sc_w_ropes.nd rfl (Or.inl rfl) (pe_call (ok_w_cell_at T) (hr.mono (by decide)) rfl T.g_w_cell_at T.F_w_cell_at.kp T.B_w_cell_at .nil pass0 (pa_c (pv 0) (pa_c (pe_op op_add pe_int (pv 5)) pa_nil))))
      (pss_cons (ps_set (i:=7) sc_w_ropes.nd rfl (Or.inl rfl) (pe_op op_mod (pe_op op_fdiv (pv 6) pe_int) (pv 1)))
      (pss_cons (ps_set (i:=8) sc_w_ropes.nd rfl (Or.inl rfl) (pe_op op_mod (pe_op op_add (pe_op op_add (pv 7) pe_int) (pe_op op_mod (pe_op op_fdiv (pv 6) pe_int) (pe_op op_sub (pv 1) pe_int))) (pv 1)))
      (pss_cons (ps_if (pt_cmpR op_lt (pv 5) (pe_op op_sub (pv 1) pe_int) (nomark _)) (pss_cons (ps_set (i:=7) sc_w_ropes.nd rfl (Or.inl rfl) (pe_op op_add (pv 5) pe_int))
      (pss_one (ps_set (i:=8) sc_w_ropes.nd rfl (Or.inl rfl) (pe_op op_mod (pe_op op_fdiv (pv 6) pe_int) (pe_op op_add (pv 5) pe_int))))) pss_nil)
      (pss_cons (ps_set (i:=9) sc_w_ropes.nd rfl (Or.inl rfl) (pe_op op_fdiv (pv 6) pe_int))
      (pss_cons (ps_set (i:=10) sc_w_ropes.nd rfl (Or.inl rfl) (pe_op op_add pe_int (pe_op op_mod (pv 9) pe_int)))
      (pss_cons (ps_if (pt_cmpR op_eq (pe_op op_mod (pe_op op_fdiv (pv 9) pe_int) pe_int) pe_int (nomark _)) (pss_one (ps_set (i:=10) sc_w_ropes.nd rfl (Or.inl rfl) (pe_op op_add pe_int (pe_op op_mod (pe_op op_fdiv (pv 9) pe_int) (pe_op op_sub (pe_op op_pow pe_int pe_int) pe_int))))) pss_nil)
      (pss_cons (ps_set (i:=11) sc_w_ropes.nd rfl (Or.inl rfl) (pe_op op_add pe_int (pe_op op_mod (pe_op op_fdiv (pv 9) pe_int) pe_int)))
      (pss_cons (ps_if (pt_cmpR op_gt (pe_op op_mod (pe_op op_fdiv (pv 9) pe_int) pe_int) pe_int (nomark _)) (pss_one (ps_set (i:=11) sc_w_ropes.nd rfl (Or.inl rfl) (pe_op op_or (pv 11) (pe_op op_shl pe_int (pv 2))))) pss_nil)
      (pss_cons (ps_if (pt_cmpR op_eq (pe_op op_mod (pv 6) pe_int) pe_int (nomark _)) (pss_one (ps_par (i:=7) (j:=8) rfl sc_w_ropes.nd rfl rfl (by decide) rfl rfl (pa_c (pv 8) (pa_c (pv 7) pa_nil)) rfl)) pss_nil)
      (pss_one (ps_expr (pe_bm PySem.F.plainAttrs_list PySem.F.slot_list_append PySem.F.type_list_append mt_append (pv 3) (pa_c (pe_tup (pa_c (pv 7) (pa_c (pv 8) (pa_c (pv 10) (pa_c (pe_op op_add pe_int (pe_op op_mod (pe_op op_fdiv (pv 9) pe_int) pe_int)) (pa_c (pv 11) pa_nil)))))) pa_nil)))))))))))))))
      (pss_one (ps_ret (pv 3))))))),?_⟩
    refine ⟨Nat.zero_le _,fun l hl=>?_⟩
    have s0:=Same.new (o:=.lst []) hl
    have hl0:=upd_same (H:=H) (a:=l) (o:=.lst [])
    generalize upd H l (.lst [])=H0 at s0 hl0
    dsimp only [gName]
    refine seq_nx fun N hN=>?_
    refine hN [some (.ref a),some (.int n),some (.int g),some (.ref l),some (.int 0),none,none,none,none,none,none,none] H0 ?_
    refine ifS_by (fun σ H1=>H1=H0∧∃ m:Nat,m≤14∧(0 < m→2≤n)∧σ = [some (.ref a),some (.int n),some (.int g),some (.ref l),some (.int (m:Nat)),none,none,none,none,none,none,none]) ?_ fun nx=>?_
    case refine_2 =>
      refine ⟨_,rfl,_,_,rfl,rfl,_,rfl,ite2 (fun e=>?_) (fun e=>?_)⟩
      · have h2:(1:Int) < n:=of_decide_eq_true e
        refine ⟨_,rfl,_,_,rfl,rfl,_,rfl,a,cs,1,rfl,s0.seq hS,by decide,_,_,rfl,rfl,⟨by decide,by decide⟩,_,_,rfl,rfl,(by show (0:Int) < 6; decide),_,_,rfl,rfl,nx _ _ ?_⟩
        generalize cs.getD _ 0 / 3=y
        have q1:=Int.emod_nonneg y (show (6:Int)≠0 by decide)
        have q2:=Int.emod_lt_of_pos y (show (0:Int) < 6 by decide)
        refine ⟨rfl,((n:Int) - 1 + y % 6).toNat,by omega,fun _=>by omega,?_⟩
        rw [Int.toNat_of_nonneg (by omega)]
        rfl
      · exact nx _ _ ⟨rfl,0,by omega,fun z=>absurd z (by decide),rfl⟩
    rintro σ H1 ⟨rfl,m,hm,h2,rfl⟩
    refine ⟨_,rfl,(m:Int),rfl,by omega,by omega,?_⟩
    refine for_range (n:=((m:Int)).toNat) (fun i σ H2=>Same H H2∧∃ (rs:List R5) (v5 v6 v7 v8 v9 v10 v11:Option V),σ = [some (.ref a),some (.int n),some (.int g),some (.ref l),some (.int (m:Nat)),v5,v6,v7,v8,v9,v10,v11]∧RopeL K H2 l rs∧rs.length=i∧∀ r∈rs,r.Ok n)
      ⟨s0,[],_,_,_,_,_,_,_,rfl,⟨[],hl0,⟨rfl,fun i q x e=>by cases e⟩⟩,rfl,fun r hr'=>absurd hr' (by simp)⟩ ?_ ?_
    · rintro i σ H2 hi ⟨s2,rs,v5,v6,v7,v8,v9,v10,v11,rfl,⟨qs,hl2,hqs⟩,ei,ok⟩
      rw [Int.zero_add]
      have hi':i < m:=by simpa using hi
      have h2:2≤n:=h2 (by omega)
      refine ⟨_,rfl,_,rfl,_,_,rfl,rfl,a,cs,_,rfl,s2.seq hS,by omega,?_⟩
      dsimp only [gName]
      generalize cs.getD _ 0=c
      obtain ⟨o1,o2,o3,o4,o5⟩:=ends_ok (n:=n) (x:=c / 2) (y:=c / 13) (by omega)
      refine ⟨_,rfl,_,_,rfl,rfl,⟨by decide,by decide⟩,_,rfl,_,_,rfl,rfl,(by show (0:Int) < n; omega),?_⟩
      refine ⟨_,rfl,_,_,rfl,rfl,_,rfl,_,_,rfl,rfl,⟨by decide,by decide⟩,_,rfl,_,_,rfl,rfl,_,_,rfl,rfl,(by show 0 < (n:Int) - 1; omega),_,_,rfl,rfl,_,rfl,_,_,rfl,rfl,(by show (0:Int) < n; omega),?_⟩
      dsimp only [gName]
      refine ifS_by (fun σ H3=>H3=H2∧∃ x y:Int,(0≤x∧x < n∧0≤y∧y < n∧x≠y)∧σ = [some (.ref a),some (.int n),some (.int g),some (.ref l),some (.int (m:Nat)),some (.int (i:Nat)),some (.int c),some (.int x),some (.int y),v9,v10,v11]) ?_ fun nx=>?_
      case refine_2 =>
        refine ⟨_,rfl,_,rfl,_,_,rfl,rfl,_,_,rfl,rfl,_,rfl,ite2 (fun e=>?_) (fun e=>?_)⟩
        · have e:(i:Int) < (n:Int) - 1:=of_decide_eq_true e
          refine ⟨_,rfl,_,_,rfl,rfl,?_⟩
          refine ⟨_,rfl,_,_,rfl,rfl,⟨by decide,by decide⟩,_,rfl,_,_,rfl,rfl,_,_,rfl,rfl,(by show (0:Int) < (i:Int) + 1; omega),nx _ _ ⟨rfl,(i:Int) + 1,c / 2 % ((i:Int) + 1),?_,rfl⟩⟩
          have q1:=Int.emod_nonneg (c / 2) (show (i:Int) + 1≠0 by omega)
          have q2:=Int.emod_lt_of_pos (c / 2) (show (0:Int) < (i:Int) + 1 by omega)
          omega
        · exact nx _ _ ⟨rfl,_,_,⟨o1,o2,o3,o4,o5⟩,rfl⟩
      clear o1 o2 o3 o4 o5
      rintro σ H3 ⟨rfl,x,y,⟨x0,xn,y0,yn,xy⟩,rfl⟩
      refine ⟨_,rfl,_,_,rfl,rfl,⟨by decide,by decide⟩,?_⟩
      dsimp only [gName]
      generalize c / 97=rt
      refine ⟨_,rfl,_,_,rfl,rfl,(by show (0:Int) < 3; decide),_,_,rfl,rfl,?_⟩
      dsimp only [gName]
      refine ifS_by (fun σ H4=>H4=H3∧∃ z:Int,1≤z∧σ = [some (.ref a),some (.int n),some (.int g),some (.ref l),some (.int (m:Nat)),some (.int (i:Nat)),some (.int c),some (.int x),some (.int y),some (.int rt),some (.int z),v11]) ?_ fun nx=>?_
      case refine_2 =>
        refine ⟨_,rfl,_,_,rfl,rfl,⟨by decide,by decide⟩,_,_,rfl,rfl,(by show (0:Int) < 3; decide),rfl,_,rfl,ite2 (fun e=>?_) (fun e=>?_)⟩
        · refine ⟨_,rfl,_,_,rfl,rfl,⟨by decide,by decide⟩,_,_,rfl,rfl,⟨by decide,by decide,by decide⟩,_,_,rfl,rfl,_,_,rfl,rfl,(by show (0:Int) < 10 ^ (60:Int).toNat - 1; decide),_,_,rfl,rfl,nx _ _ ⟨rfl,_,?_,rfl⟩⟩
          have:=Int.emod_nonneg (rt / 9) (show (10:Int) ^ (60:Int).toNat - 1≠0 by decide)
          omega
        · refine nx _ _ ⟨rfl,_,?_,rfl⟩
          have:=Int.emod_nonneg rt (show (3:Int)≠0 by decide)
          omega
      rintro σ H4 ⟨rfl,z,hz,rfl⟩
      refine ⟨_,rfl,_,_,rfl,rfl,⟨by decide,by decide⟩,_,_,rfl,rfl,(by show (0:Int) < 7; decide),_,_,rfl,rfl,?_⟩
      dsimp only [gName]
      refine ifS_by (fun σ H5=>H5=H4∧∃ e:Int,1≤e∧e≤7∧σ = [some (.ref a),some (.int n),some (.int g),some (.ref l),some (.int (m:Nat)),some (.int (i:Nat)),some (.int c),some (.int x),some (.int y),some (.int rt),some (.int z),some (.int e)]) ?_ fun nx=>?_
      case refine_2 =>
        have q1:=Int.emod_nonneg (rt / 11) (show (7:Int)≠0 by decide)
        have q2:=Int.emod_lt_of_pos (rt / 11) (show (0:Int) < 7 by decide)
        refine ⟨_,rfl,_,_,rfl,rfl,⟨by decide,by decide⟩,_,_,rfl,rfl,(by show (0:Int) < 4; decide),_,_,rfl,rfl,_,rfl,ite2 (fun e=>?_) (fun e=>?_)⟩
        · have b:=or_lets (x:=1 + rt / 11 % 7) (by omega) (by omega) hg
          exact ⟨_,rfl,_,rfl,_,_,rfl,rfl,⟨by omega,by omega,by decide⟩,_,_,rfl,rfl,nx _ _ ⟨rfl,_,b.1,b.2,rfl⟩⟩
        · exact nx _ _ ⟨rfl,_,by omega,by omega,rfl⟩
      rintro σ H5 ⟨rfl,le,le1,le7,rfl⟩
      refine ifS_by (fun σ H6=>Same H5 H6∧∃ x y:Int,(0≤x∧x < n∧0≤y∧y < n∧x≠y)∧σ = [some (.ref a),some (.int n),some (.int g),some (.ref l),some (.int (m:Nat)),some (.int (i:Nat)),some (.int c),some (.int x),some (.int y),some (.int rt),some (.int z),some (.int le)]) ?_ fun nx=>?_
      case refine_2 =>
        refine ⟨_,rfl,_,_,rfl,rfl,(by show (0:Int) < 2; decide),rfl,_,rfl,ite2 (fun e=>?_) (fun e=>?_)⟩
        · exact ⟨_,rfl,_,rfl,_,_,rfl,nx _ _ ⟨Same.refl _,y,x,⟨y0,yn,x0,xn,Ne.symm xy⟩,rfl⟩⟩
        · exact nx _ _ ⟨Same.refl _,x,y,⟨x0,xn,y0,yn,xy⟩,rfl⟩
      clear x0 xn y0 yn xy x y
      rintro σ H6 ⟨s6,x,y,⟨x0,xn,y0,yn,xy⟩,rfl⟩
      have hl6:=s6 _ _ hl2
      refine ⟨_,rfl,.inl ⟨rfl,_,SqL.of hl6⟩,_,rfl,_,rfl,_,rfl,_,rfl,_,_,rfl,rfl,⟨by decide,by decide⟩,_,_,rfl,rfl,(by show (0:Int) < 4; decide),_,_,rfl,rfl,_,rfl,(by show 5≤sizeLine; decide),fun q hq=>?_⟩
      have u7:=Same.new (o:=.tup [V.int x,.int y,.int z,.int (1 + rt / 5 % 4),.int le]) hq
      have h77:=upd_same (H:=H6) (a:=q) (o:=.tup [V.int x,.int y,.int z,.int (1 + rt / 5 % 4),.int le])
      generalize upd H6 q (.tup [V.int x,.int y,.int z,.int (1 + rt / 5 % 4),.int le])=H7 at u7 h77
      have s67:=s6.trans u7
      have hl7:=s67 _ _ hl2
      have hqs7:=hqs.mono fun b x=>s67.seqT
      have q1:=Int.emod_nonneg (rt / 5) (show (4:Int)≠0 by decide)
      have q2:=Int.emod_lt_of_pos (rt / 5) (show (0:Int) < 4 by decide)
      refine ⟨l,_,_,rfl,rfl,hl7,(by rw [List.length_map,hqs.len,List.length_map]; exact small1000 (by omega)),?_⟩
      refine ⟨(s2.trans s67).out hl,rs++[⟨x,y,z,1 + rt / 5 % 4,le⟩],_,_,_,_,_,_,_,rfl,⟨qs++[q],?_,?_⟩,by rw [List.length_append,ei]; rfl,fun r hr'=>?_⟩
      · rw [upd_same,List.map_append]; rfl
      · rw [List.map_append]
        exact (TsAt.snoc hqs7 (SqT.of h77)).mono fun b x=>SqT.past hl7 nt_lst upd_keep
      · rcases List.mem_append.mp hr' with w' | w'
        · exact ok r w'
        · rw [List.mem_singleton.mp w']
          exact ⟨x0,xn,y0,yn,xy,hz,by show 1≤1 + rt / 5 % 4; omega,by show 1 + rt / 5 % 4≤4; omega,le1,le7⟩
    · rintro σ H2 ⟨s2,rs,v5,v6,v7,v8,v9,v10,v11,rfl,hR,ei,ok⟩
      exact ⟨_,rfl,k l H2 rs s2 hl hR (by rw [ei]; simpa using hm) ok⟩
theorem call_push {K:PySem.W.Frag} {H:Hp} {l q:Addr} {qs:List Addr} {cl:List (Nat × Nat)} {pl gr:Nat} (hl:H l=some (.lst (qs.map V.ref))) (hqs:TsAt K H qs (cl.map fun c=>[.int c.1,.int c.2])) (hq:H q=some (.tup [V.int pl,.int gr])) :
    (upd H l (.lst (qs.map V.ref++[.ref q]))) l=some (.lst ((qs++[q]).map V.ref))∧TsAt K (upd H l (.lst (qs.map V.ref++[.ref q]))) (qs++[q]) ((cl++[(pl,gr)]).map fun c=>[.int c.1,.int c.2]):=by
  refine ⟨by rw [upd_same,List.map_append]; rfl,?_⟩
  rw [List.map_append]
  exact (TsAt.snoc hqs (SqT.of hq)).mono fun b x=>SqT.past hl nt_lst upd_keep
def spCallers27 (K:PySem.W.Frag):Sp:=fun vs H Q _=>∃ (a:Addr) (cs:List Int) (n g:Nat),vs = [.ref a,.int n,.int g]∧SqL K H a (cs.map V.int)∧1≤n∧n≤10∧g < 3 ∧
  ∀ l (qs:List Addr) H' (cl:List (Nat × Nat)),Same H H'→H l=none→H' l=some (.lst (qs.map V.ref))→TsAt K H' qs (cl.map fun c=>[.int c.1,.int c.2])→1≤cl.length→cl.length≤20→(∀ c∈cl,c.1 < n∧c.2 < 3)→Q (.ref l) H'
theorem ok_w_callers {t:Ad} (T:Txt K mg t):FnOk P w K mg base CX0 2 t.f_w_callers t.d_w_callers ["_law_script","_law_size","_law_group"]  (spCallers27 K):=by
  refine T.F_w_callers.ok sc_w_callers (fun vs H Q E h=>?_) (fun cdv A outer s H vs Q E hr h=>?_)
  · obtain ⟨_,_,_,_,rfl,_⟩:=h; rfl
  · obtain ⟨a,cs,n,g,rfl,hS,hn1,hn,hg,k⟩:=h
    refine ⟨_,(pss_cons (ps_set (i:=3) sc_w_callers.nd rfl (Or.inl rfl) (pe_lst pa_nil))
      (pss_cons (ps_set (i:=4) sc_w_callers.nd rfl (Or.inl rfl) (pe_ix ix_list (pe_lst (pa_c pe_int (pa_c pe_int (pa_c pe_int pa_nil)))) (pe_op op_mod (pe_op op_fdiv (pe_call (ok_w_cell_at T) (hr.mono (by decide)) rfl T.g_w_cell_at T.F_w_cell_at.kp T.B_w_cell_at .nil pass0 (pa_c (pv 0) (pa_c pe_int pa_nil))) pe_int) pe_int) (fun _ _=>rfl)))
      (pss_cons (ps_for PassesOwn.never rfl (pi_range1 rfl T.n_range (pa_c (pe_op op_add pe_int (pe_op op_mod (pe_op op_fdiv (pe_call (ok_w_cell_at T) (hr.mono (by decide)) rfl T.g_w_cell_at T.F_w_cell_at.kp T.B_w_cell_at .nil pass0 (pa_c (pv 0) (pa_c pe_int pa_nil))) pe_int) (pv 4))) pa_nil)) (pg_name (i:=5) sc_w_callers.nd rfl (Or.inl rfl)) (pss_cons (ps_set (i:=6) sc_w_callers.nd rfl (Or.inl rfl) (pe_op op_fdiv (pe_call (ok_w_cell_at T) (hr.mono (by decide)) rfl T.g_w_cell_at T.F_w_cell_at.kp T.B_w_cell_at .nil pass0 (pa_c (pv 0) (pa_c (pe_op op_add pe_int (pe_op op_mod (pv 5) pe_int)) pa_nil))) (pe_op op_add pe_int (pe_op op_mul pe_int (pe_op op_fdiv (pv 5) pe_int)))))
      (pss_cons (ps_set (i:=7) sc_w_callers.nd rfl (Or.inl rfl) (pe_op op_mod (pv 6) (pv 1)))
      (pss_one (ps_if (pt_cmpR op_eq (pe_op op_mod (pe_op op_fdiv (pv 6) pe_int) pe_int) pe_int (nomark _)) (pss_one (ps_expr (pe_bm PySem.F.plainAttrs_list PySem.F.slot_list_append PySem.F.type_list_append mt_append (pv 3) (pa_c (pe_tup (pa_c (pv 7) (pa_c (pe_op op_mod (pe_op op_add (pe_op op_add (pv 2) pe_int) (pe_op op_mod (pe_op op_fdiv (pv 6) pe_int) pe_int)) pe_int) pa_nil))) pa_nil)))) (pss_one (ps_expr (pe_bm PySem.F.plainAttrs_list PySem.F.slot_list_append PySem.F.type_list_append mt_append (pv 3) (pa_c (pe_tup (pa_c (pv 7) (pa_c (pv 2) pa_nil))) pa_nil)))))))))
      (pss_one (ps_ret (pv 3)))))),?_⟩
    refine ⟨Nat.zero_le _,fun l hl=>?_⟩
    have s0:=Same.new (o:=.lst []) hl
    have hl0:=upd_same (H:=H) (a:=l) (o:=.lst [])
    generalize upd H l (.lst [])=H0 at s0 hl0
    refine ⟨(by show 3≤sizeLine; decide),fun l1 h1=>?_⟩
    have u1:=Same.new (o:=.lst [V.int 6,V.int 6,V.int 20]) h1
    have h11:=upd_same (H:=H0) (a:=l1) (o:=.lst [V.int 6,V.int 6,V.int 20])
    have hl1:=u1 _ _ hl0
    have s1:=s0.trans u1
    generalize upd H0 l1 (.lst [V.int 6,V.int 6,V.int 20])=H1 at u1 h11 hl1 s1
    refine ⟨_,rfl,a,cs,1,rfl,s1.seq hS,by decide,_,_,rfl,rfl,⟨by decide,by decide⟩,_,_,rfl,rfl,(by show (0:Int) < 3; decide),?_⟩
    obtain ⟨mo,hmo,emo⟩:=at3r (x:=6) (y:=6) (z:=20) (i:=cs.getD (1:Int).toNat 0 / 7 % 3) 1 20 (by decide) (by decide) (by decide) (Int.emod_nonneg _ (by decide)) (Int.emod_lt_of_pos _ (by decide))
    refine ⟨l1,_,_,_,rfl,rfl,SqL.of h11,emo,?_⟩
    dsimp only [gName]
    refine ⟨_,rfl,a,cs,1,rfl,s1.seq hS,by decide,_,_,rfl,rfl,⟨by decide,by decide⟩,_,rfl,_,_,rfl,rfl,(by show 0 < mo; omega),_,_,rfl,rfl,?_⟩
    have q1:=Int.emod_nonneg (cs.getD (1:Int).toNat 0 / 36) (show mo≠0 by omega)
    have q2:=Int.emod_lt_of_pos (cs.getD (1:Int).toNat 0 / 36) (show 0 < mo by omega)
    obtain ⟨m,em⟩ : ∃ m:Nat,1 + cs.getD (1:Int).toNat 0 / 36 % mo=(m:Int):=⟨(1 + cs.getD (1:Int).toNat 0 / 36 % mo).toNat,by omega⟩
    have hm1:1≤m:=by omega
    have hm20:m≤20:=by omega
    refine ⟨(m:Int),(by rw [← em]),by omega,by omega,?_⟩
    refine for_range (n:=m) (fun i σ H2=>Same H H2∧∃ (qs:List Addr) (cl:List (Nat × Nat)) (v5 v6 v7:Option V),σ = [some (.ref a),some (.int n),some (.int g),some (.ref l),some (.int mo),v5,v6,v7]∧H2 l=some (.lst (qs.map V.ref))∧TsAt K H2 qs (cl.map fun c=>[.int c.1,.int c.2])∧cl.length=i∧∀ c∈cl,c.1 < n∧c.2 < 3)
      ⟨s1,[],[],_,_,_,rfl,hl1,⟨rfl,fun i q x e=>by cases e⟩,rfl,fun c hc=>absurd hc (by simp)⟩ ?_ ?_
    · rintro i σ H2 hi ⟨s2,qs,cl,v5,v6,v7,rfl,hl2,hqs,ei,ok⟩
      rw [Int.zero_add]
      have e6:=Int.emod_nonneg (i:Int) (show (6:Int)≠0 by decide)
      have d6:0≤(i:Int) / 6:=Int.ediv_nonneg (by omega) (by decide)
      have d6':(i:Int) / 6≤20:=by omega
      refine ⟨_,rfl,_,rfl,_,_,rfl,rfl,(by show (0:Int) < 6; decide),_,_,rfl,rfl,a,cs,_,rfl,s2.seq hS,by omega,_,rfl,_,_,rfl,rfl,⟨by decide,by decide⟩,_,_,rfl,rfl,.inl ⟨by decide,by decide⟩,_,_,rfl,rfl,_,_,rfl,rfl,⟨by omega,by omega⟩,?_⟩
      dsimp only [gName]
      generalize cs.getD _ 0 / (1 + 7 * ((i:Int) / 6))=c
      refine ⟨_,rfl,_,rfl,_,_,rfl,rfl,(by show (0:Int) < n; omega),?_⟩
      dsimp only [gName]
      have p1:=Int.emod_nonneg c (show (n:Int)≠0 by omega)
      have p2:=Int.emod_lt_of_pos c (show (0:Int) < n by omega)
      obtain ⟨pl,epl⟩ : ∃ pl:Nat,c % (n:Int)=(pl:Int):=⟨(c % (n:Int)).toNat,by omega⟩
      rw [epl]
      have hpl:pl < n:=by omega
      refine ⟨_,rfl,_,_,rfl,rfl,⟨by decide,by decide⟩,_,_,rfl,rfl,(by show (0:Int) < 4; decide),rfl,_,rfl,ite2 (fun e=>?_) (fun e=>?_)⟩
      · have g1:=Int.emod_nonneg ((g:Int) + 1 + c / 44 % 2) (show (3:Int)≠0 by decide)
        have g2:=Int.emod_lt_of_pos ((g:Int) + 1 + c / 44 % 2) (show (0:Int) < 3 by decide)
        obtain ⟨gr,egr⟩ : ∃ gr:Nat,((g:Int) + 1 + c / 44 % 2) % 3=(gr:Int):=⟨(((g:Int) + 1 + c / 44 % 2) % 3).toNat,by omega⟩
        refine ⟨_,rfl,.inl ⟨rfl,_,SqL.of hl2⟩,_,rfl,_,rfl,_,_,rfl,rfl,_,rfl,_,_,rfl,rfl,⟨by decide,by decide⟩,_,_,rfl,rfl,(by show (0:Int) < 2; decide),_,_,rfl,rfl,_,_,rfl,rfl,(by show (0:Int) < 3; decide),(by show 2≤sizeLine; decide),fun q hq=>?_⟩
        have u3:=Same.new (o:=.tup [V.int pl,.int (((g:Int) + 1 + c / 44 % 2) % 3)]) hq
        have h33:=upd_same (H:=H2) (a:=q) (o:=.tup [V.int pl,.int (((g:Int) + 1 + c / 44 % 2) % 3)])
        generalize upd H2 q (.tup [V.int pl,.int (((g:Int) + 1 + c / 44 % 2) % 3)])=H3 at u3 h33
        rw [egr] at h33
        have hl3:=u3 _ _ hl2
        obtain ⟨p1,p2⟩:=call_push (cl:=cl) hl3 (hqs.mono fun b x=>u3.seqT) h33
        refine ⟨l,_,_,rfl,rfl,hl3,(by rw [List.length_map,hqs.len,List.length_map]; exact small1000 (by omega)),(s2.trans u3).out hl,_,_,_,_,_,rfl,p1,p2,by rw [List.length_append,ei]; rfl,fun z hz=>?_⟩
        rcases List.mem_append.mp hz with w' | w'
        · exact ok z w'
        · rw [List.mem_singleton.mp w']
          exact ⟨hpl,by show gr < 3; omega⟩
      · refine ⟨_,rfl,.inl ⟨rfl,_,SqL.of hl2⟩,_,rfl,_,rfl,(by show 2≤sizeLine; decide),fun q hq=>?_⟩
        have u3:=Same.new (o:=.tup [V.int pl,.int g]) hq
        have h33:=upd_same (H:=H2) (a:=q) (o:=.tup [V.int pl,.int g])
        generalize upd H2 q (.tup [V.int pl,.int g])=H3 at u3 h33
        have hl3:=u3 _ _ hl2
        obtain ⟨p1,p2⟩:=call_push (cl:=cl) hl3 (hqs.mono fun b x=>u3.seqT) h33
        refine ⟨l,_,_,rfl,rfl,hl3,(by rw [List.length_map,hqs.len,List.length_map]; exact small1000 (by omega)),(s2.trans u3).out hl,_,_,_,_,_,rfl,p1,p2,by rw [List.length_append,ei]; rfl,fun z hz=>?_⟩
        rcases List.mem_append.mp hz with w' | w'
        · exact ok z w'
        · rw [List.mem_singleton.mp w']
          exact ⟨hpl,hg⟩
    · rintro σ H2 ⟨s2,qs,cl,v5,v6,v7,rfl,hl2,hqs,ei,ok⟩
      exact ⟨_,rfl,k l qs H2 cl s2 hl hl2 hqs (by omega) (by omega) ok⟩
end
end K27
set_option maxHeartbeats 4000000
namespace K27
open PySem L2 TW PyProof.Rows
open RM (rowV byV byV_non byV_int)
seal L2.PE L2.PA L2.PT L2.PW L2.PS L2.PSs L2.PG L2.PGs L2.PI L2.PTs
section
variable {P:Program} {w:World} {K:PySem.W.Frag} {mg:Str→Option Value} {base:Heap}
def spStrInitN (K:PySem.W.Frag) (CT C:Addr):Sp:=fun vs H Q _=>∃ (p dx tp ln lr:Addr) (ns:List Int) (rs:List R5),vs = [.ref p,.ref tp]∧H p=some (.ins C dx [])∧TownAt K CT H tp ln lr ns rs∧rs.length≤20∧(∀ r∈rs,1≤r.d∧r.d≤4) ∧
  ∀ lu (ls:List Addr) H',H lu=none→(∀ l∈ls,H l=none)→lu ∉ ls→ls.Nodup→ls.length=rs.length→H' p=some (.ins C dx [("town",.ref tp),("upright",.ref lu)])→H' lu=some (.lst (ls.map V.ref)) →
    (∀ (j:Nat) l r,ls[j]?=some l→rs[j]?=some r→H' l=some (.lst (natsV (List.range r.d.toNat))))→(∀ b o,H b=some o→b≠p→H' b=some o)→Q .non H'
theorem ok_Strandsu_initu {t:Ad} (T:Txt K mg t):FnOk P w K mg base CX0 3 t.f_Strandsu_initu t.d_Strandsu_initu ["self","town"]  (spStrInitN K t.a_Town t.a_Strands):=by
  refine T.F_Strandsu_initu.ok sc_Strandsu_initu (fun vs H Q E h=>?_) (fun cdv A outer s H vs Q E hr h=>?_)
  · obtain ⟨_,_,_,_,_,_,_,rfl,_⟩:=h; rfl
  · obtain ⟨p,dx,tp,ln,lr,ns,rs,rfl,hp,hT,h20,hw,k⟩:=h
    refine ⟨_,(pss_cons (ps_fld (pv 0) (pv 1) rfl)
      (pss_one (ps_fld (pv 0) (pe_comp (compOk_of (dsc:=defScope s_Strandsu_initu) (N0:=["self","town"]) (N2:=["rope","town"]) (cap:=[none,some 1]) rfl rfl (by decide +kernel)) rfl (pi_range1 rfl T.n_range (pa_c (pe_fld (pv 1) rfl) pa_nil)) (fun _ _ _ _=>by exact (pg_name (i:=0) nd_Strandsu_initu_c0 rfl (Or.inl rfl))) (fun _ _ _ _=>by exact pts_nil) (fun _ _ _ _=>by exact (pe_callTy (call_listR rfl) (by rfl) T.n_list boot_list (pa_c (pe_callTy call_rangeO (by rfl) T.n_range boot_range (pa_c (pe_call (ok_wires_of T) (hr.mono (by decide)) rfl T.g_wires_of T.F_wires_of.kp T.B_wires_of .nil pass0 (pa_c (pv 1) (pa_c (pv 0) pa_nil))) pa_nil)) pa_nil)))) rfl))),?_⟩
    obtain ⟨⟨dt,htp⟩,_⟩:=id hT
    have ntp:tp≠p:=ne_of htp hp fun z=>by have:=(HO.ins.inj z).2.2; cases this
    refine ⟨_,rfl,_,rfl,p,_,dx,[],rfl,hp,T.c_Strands,T.n_Strands_town,by decide,?_⟩
    rw [putF_new (names:=[]) rfl rfl]
    generalize eH1:upd H p (.ins t.a_Strands dx ([]++[(Str.ofString "town",V.ref tp)]))=H1
    have k1:∀ b o,H b=some o→b≠p→H1 b=some o:=fun b o e nb=>by rw [← eH1,upd_ne nb]; exact e
    have hp1:H1 p=some (.ins t.a_Strands dx [(Str.ofString "town",V.ref tp)]):=by rw [← eH1]; exact upd_same
    have hT1:=hT.but k1 hp ntp
    have f1:∀ {l:Addr},H1 l=none→H l=none:=fun {l} e=>by
      cases q:H l with
      | none=>rfl
      | some o =>
        by_cases z:l=p
        · rw [z,hp1] at e; cases e
        · have:=k1 _ _ q z
          rw [e] at this; cases this
    obtain ⟨⟨dt,htp1⟩,_⟩:=id hT1
    refine ⟨_,rfl,tp,_,dt,_,_,rfl,htp1,T.c_Town,T.n_Town_many,rfl,_,rfl,(by show -(2 ^ 62)≤((rs.length:Nat):Int); omega),(by show ((rs.length:Nat):Int) < 2 ^ 62; omega),fun acc hacc=>?_⟩
    refine comp_by (n:=(((rs.length:Nat):Int)).toNat) (fun i ys H2=>∃ ls:List Addr,ys=ls.map V.ref∧ls.length=i∧ls.Nodup∧(∀ l∈ls,H l=none∧H2 l≠none)∧∀ (j:Nat) l r,ls[j]?=some l→rs[j]?=some r→H2 l=some (.lst (natsV (List.range r.d.toNat)))∧l≠acc) hacc itr_go itr_stop ⟨[],rfl,rfl,List.nodup_nil,fun l hl=>(by cases hl),fun j l r e=>by simp at e⟩ ?_ ?_
    · rintro i ys H2 hi s2 hy ⟨ls,rfl,el,nd,hfr,hls⟩ x H3 ⟨rfl,rfl⟩
      have hi:i < rs.length:=by simpa using hi
      have hir:rs[i]?=some rs[i]:=List.getElem?_eq_getElem hi
      have wi:=hw _ (List.mem_of_getElem? hir)
      obtain ⟨d,ed⟩ : ∃ d:Nat,rs[i].d=(d:Int):=⟨rs[i].d.toNat,by omega⟩
      refine ⟨_,rfl,_,rfl,tp,ln,lr,ns,rs,i,rs[i],(by show [V.ref tp,V.int (0 + (i:Int))]=_; rw [Int.zero_add]),hT1.mono s2,hir,?_⟩
      refine ⟨rs[i].d,rfl,fun q hq=>?_⟩
      have s3:=Same.new (o:=.rng 0 rs[i].d) hq
      refine ⟨q,d,rfl,(by rw [upd_same,ed]),by omega,fun l hl=>?_⟩
      have hl0:H l=none:=f1 ((s2.trans s3).free hl)
      have nl:l ∉ ls:=fun z=>(hfr l z).2 (s3.free hl)
      have s4:=s3.trans (Same.new (o:=.lst ((List.range d).map fun k=>V.int (k:Nat))) hl)
      have hy4:=s4 _ _ hy
      have hl4:(upd (upd H3 q (.rng 0 rs[i].d)) l (.lst ((List.range d).map fun k=>V.int (k:Nat)))) l=some (.lst (natsV (List.range d))):=upd_same
      have nla:l≠acc:=(ne_of_none (s3 _ _ hy) hl).symm
      generalize upd (upd H3 q (.rng 0 rs[i].d)) l (.lst ((List.range d).map fun k=>V.int (k:Nat)))=H4 at s4 hy4 hl4
      refine comp_add hacc (by simpa using hi) (s2.trans s4) hy4 (by rw [List.length_map,el]; exact small1000 (by omega)) ⟨ls++[l],by rw [List.map_append]; rfl,by rw [List.length_append,el]; rfl,Gr.nodup_snoc nd nl,fun l' hl'=>?_,fun j l' r e1 e2=>?_⟩
      · rcases List.mem_append.mp hl' with z | z
        · obtain ⟨z1,z2⟩:=hfr l' z
          refine ⟨z1,?_⟩
          by_cases q:l'=acc
          · rw [q,upd_same]; exact Option.some_ne_none _
          · rw [upd_ne q]
            cases e:H3 l' with
            | none=>exact absurd e z2
            | some o=>rw [s4 _ _ e]; exact Option.some_ne_none _
        · rw [List.mem_singleton.mp z]
          exact ⟨hl0,by rw [upd_ne nla,hl4]; exact Option.some_ne_none _⟩
      · rcases snoc_at e1 with e1 | ⟨rfl,rfl⟩
        · obtain ⟨z1,z2⟩:=hls j l' r e1 e2
          exact ⟨by rw [upd_ne z2]; exact s4 _ _ z1,z2⟩
        · rw [el,hir] at e2
          cases e2
          rw [ed,Int.toNat_natCast]
          exact ⟨by rw [upd_ne nla]; exact hl4,nla⟩
    · rintro ys H2 s2 hy ⟨ls,rfl,el,nd,hfr,hls⟩
      have el:ls.length=rs.length:=by simpa using el
      have npa:p≠acc:=ne_of_none hp1 hacc
      have hp2:=s2 _ _ hp1
      refine ⟨_,rfl,p,_,dx,_,rfl,hp2,T.c_Strands,T.n_Strands_upright,(by show 1 < 1000; decide),?_⟩
      rw [putF_new (names:=["town"]) rfl (by decide +kernel)]
      refine k acc ls _ (f1 hacc) (fun l hl=>(hfr l hl).1) (fun z=>?_) nd el upd_same (by rw [upd_ne (Ne.symm npa)]; exact hy) (fun j l r e1 e2=>?_) fun b o e nb=>by rw [upd_ne nb]; exact s2 _ _ (k1 _ _ e nb)
      · obtain ⟨j,hj⟩:=List.getElem?_of_mem z
        have hjl:=(List.getElem?_eq_some_iff.mp hj).1
        exact (hls j acc _ hj (List.getElem?_eq_getElem (el ▸ hjl))).2 rfl
      · have z:=(hls j l r e1 e2).1
        rw [upd_ne (ne_of z hp2 (by intro z; cases z))]
        exact z
def spFirstRows (K:PySem.W.Frag) (C:Addr):Sp:=fun vs H Q _=>∃ (tp ln lr:Addr) (ns:List Int) (rs:List R5),vs = [.ref tp]∧TownAt K C H tp ln lr ns rs∧ns.length≤12∧∀ l (qs:List Addr) H',Same H H'→H l=none→H' l=some (.lst (qs.map V.ref))→TsAt K H' qs (rowsL ns.length (ownR ns))→Q (.ref l) H'
theorem ok_first_rows {t:Ad} (T:Txt K mg t):FnOk P w K mg base CX0 3 t.f_first_rows t.d_first_rows ["town"]  (spFirstRows K t.a_Town):=by
  refine T.F_first_rows.ok sc_first_rows (fun vs H Q E h=>?_) (fun cdv A outer s H vs Q E hr h=>?_)
  · obtain ⟨_,_,_,_,_,rfl,_⟩:=h; rfl
  · obtain ⟨tp,ln,lr,ns,rs,rfl,hT,h12,k⟩:=h
    refine ⟨_,(pss_one (ps_ret (pe_comp (compOk_of (dsc:=defScope s_first_rows) (N0:=["town"]) (N2:=["house","town"]) (cap:=[none,some 0]) rfl rfl (by decide +kernel)) rfl (pi_range1 rfl T.n_range (pa_c (pe_fld (pv 0) rfl) pa_nil)) (fun _ _ _ _=>by exact (pg_name (i:=0) nd_first_rows_c0 rfl (Or.inl rfl))) (fun _ _ _ _=>by exact pts_nil) (fun _ _ _ _=>by exact (pe_call (ok_own_row T) (hr.mono (by decide)) rfl T.g_own_row T.F_own_row.kp T.B_own_row .nil pass0 (pa_c (pv 1) (pa_c (pv 0) pa_nil))))))),?_⟩
    obtain ⟨⟨dt,htp⟩,_⟩:=id hT
    refine ⟨_,rfl,tp,_,dt,_,_,rfl,htp,T.c_Town,T.n_Town_size,rfl,(ns.length:Int),rfl,by omega,by omega,fun acc hacc=>?_⟩
    refine comp_by (n:=((ns.length:Int)).toNat) (fun i ys H2=>∃ qs:List Addr,ys=qs.map V.ref∧TsAt K H2 qs (rowsL i (ownR ns))) hacc itr_go itr_stop ⟨[],rfl,⟨rfl,fun i q x e=>by cases e⟩⟩ ?_ ?_
    · rintro i ys H2 hi s2 hy ⟨qs,rfl,hqs⟩ x H3 ⟨rfl,rfl⟩
      have hi:i < ns.length:=by simpa using hi
      rw [Int.zero_add]
      refine ⟨_,rfl,_,rfl,tp,ln,lr,ns,rs,i,ns[i],rfl,hT.mono s2,List.getElem?_eq_getElem hi,fun q H4 s4 hq=>?_⟩
      have hy4:=s4 _ _ hy
      have hl:qs.length=i:=by rw [hqs.len]; simp [rowsL]
      refine comp_add hacc (by simpa using hi) (s2.trans s4) hy4 (by rw [List.length_map]; exact small1000 (by omega)) ⟨qs++[q],by rw [List.map_append]; rfl,?_⟩
      have e:rowsL (i + 1) (ownR ns)=rowsL i (ownR ns)++[rowV ⟨ns[i],0,0,-1⟩]:=by
        unfold rowsL
        rw [List.range_succ,List.map_append,List.map_cons,List.map_nil]
        congr 3
        unfold ownR
        rw [List.getD_eq_getElem?_getD,List.getElem?_eq_getElem hi]
        rfl
      rw [e]
      exact (TsAt.snoc (hqs.mono fun b x=>s4.seqT) hq).mono fun b x=>SqT.past hy4 nt_lst upd_keep
    · rintro ys H2 s2 hy ⟨qs,rfl,hqs⟩
      rw [show ((ns.length:Int)).toNat=ns.length from rfl] at hqs
      exact k acc qs H2 s2 hacc hy hqs
def spCheckCallers (K:PySem.W.Frag) (C:Addr):Sp:=fun vs H Q _=>∃ (tp ln lr lc:Addr) (ns:List Int) (rs:List R5) (qs:List Addr) (cl:List (Nat × Nat)),vs = [.ref tp,.ref lc]∧TownAt K C H tp ln lr ns rs∧SqL K H lc (qs.map V.ref)∧TsAt K H qs (cl.map fun c=>[.int c.1,.int c.2])∧cl.length≤20∧(∀ c∈cl,c.1 < ns.length∧c.2 < 3)∧Q .non H
theorem ok_check_callers {t:Ad} (T:Txt K mg t):FnOk P w K mg base CX0 1 t.f_check_callers t.d_check_callers ["town","callers"]  (spCheckCallers K t.a_Town):=by
  refine T.F_check_callers.ok sc_check_callers (fun vs H Q E h=>?_) (fun cdv A outer s H vs Q E hr h=>?_)
  · obtain ⟨_,_,_,_,_,_,_,_,rfl,_⟩:=h; rfl
  · obtain ⟨tp,ln,lr,lc,ns,rs,qs,cl,rfl,hT,hL,hqs,h20,hok,k⟩:=h
    refine ⟨_,(pss_cons (ps_if (pt_cmpR op_gt (pe_callB call_len_seq (by rfl) T.n_len PySem.boot_len (pa_c (pv 1) pa_nil)) (pe_glob rfl T.k_MOST_CALLERS (v:=.int 20) ⟨_,rfl⟩) (nomark _)) pss_never pss_nil)
      (pss_one (ps_for PassesOwn.never rfl (pi_list (pv 1)) (pg_name (i:=2) sc_check_callers.nd rfl (Or.inl rfl)) (pss_cons (ps_if (pt_cmpR op_ne (pe_callB call_len_seq (by rfl) T.n_len PySem.boot_len (pa_c (pv 2) pa_nil)) pe_int (nomark _)) pss_never pss_nil)
      (pss_cons (ps_if (pt_not (pt_chain op_le op_lt pe_int (pe_ix ix_tup (pv 2) pe_int (fun _ _=>rfl)) (pe_fld (pv 0) rfl))) pss_never pss_nil)
      (pss_one (ps_if (pt_not (pt_chain op_le op_lt pe_int (pe_ix ix_tup (pv 2) pe_int (fun _ _=>rfl)) (pe_callB call_len_seq (by rfl) T.n_len PySem.boot_len (pa_c (pe_glob rfl T.k_GROUP_BITS (v:=.ref t.a_GROUP_BITS) rfl) pa_nil)))) pss_never pss_nil))))))),?_⟩
    obtain ⟨⟨dt,htp⟩,_⟩:=id hT
    have eq:qs.length=cl.length:=by rw [hqs.len,List.length_map]
    refine ⟨_,rfl,lc,_,rfl,.inl hL,_,_,rfl,rfl,_,rfl,iteFe (decide_eq_false (by rw [List.length_map]; omega)) ?_⟩
    refine ⟨_,rfl,lc,rfl,⟨_,hL⟩,for_list (K:=K) (a:=lc) (xs:=qs.map V.ref) (fun i σ H2=>H2=H∧∃ v2:Option V,σ = [some (.ref tp),some (.ref lc),v2]) ⟨rfl,_,rfl⟩ (fun i σ H2 _ z=>by rw [z.1]; exact hL) ?_ ?_⟩
    · rintro i y σ H2 hi ⟨rfl,v2,rfl⟩
      have hil:=(List.getElem?_eq_some_iff.mp hi).1
      rw [List.length_map] at hil
      have hic:i < cl.length:=eq ▸ hil
      have ey:y = .ref qs[i]:=by
        rw [List.getElem?_map,List.getElem?_eq_getElem hil] at hi
        exact (Option.some.inj hi).symm
      subst ey
      have hq:SqT K H2 qs[i] [.int cl[i].1,.int cl[i].2]:=hqs.at' i _ _ (List.getElem?_eq_getElem hil) (by rw [List.getElem?_map,List.getElem?_eq_getElem hic]; rfl)
      obtain ⟨o1,o2⟩:=hok _ (List.getElem_mem hic)
      generalize qs[i]=q at hq
      generalize cl[i]=cc at hq o1 o2
      obtain ⟨c1,c2⟩:=cc
      refine ⟨_,rfl,q,_,rfl,.inr hq,rfl,_,rfl,iteFe (by show (!decide (V.int 2=V.int 2))=false; rw [decide_eq_true rfl]; rfl) ?_⟩
      refine ⟨_,rfl,q,_,_,_,rfl,rfl,hq,rfl,_,_,rfl,rfl,_,rfl,?_⟩
      rw [decide_eq_true (show (0:Int)≤(c1:Int) by omega)]
      refine iteT ⟨_,rfl,tp,_,dt,_,_,rfl,htp,T.c_Town,T.n_Town_size,rfl,_,_,rfl,rfl,_,rfl,?_⟩
      rw [decide_eq_true (show (c1:Int) < (ns.length:Int) by have:c1 < ns.length:=o1; omega)]
      refine iteF ?_
      refine ⟨_,rfl,q,_,_,_,rfl,rfl,hq,rfl,_,_,rfl,rfl,_,rfl,?_⟩
      rw [decide_eq_true (show (0:Int)≤(c2:Int) by omega)]
      refine iteT ⟨_,_,rfl,.inr (T.s_GROUP_BITS _),_,_,rfl,rfl,_,rfl,?_⟩
      have e3:decide ((c2:Int) < ((([.int 1,.int 2,.int 4]:List V).length:Nat):Int))=true:=decide_eq_true (by show (c2:Int) < 3; have:c2 < 3:=o2; omega)
      rw [e3]
      exact iteF ⟨rfl,_,rfl⟩
    · rintro σ H2 ⟨rfl,v2,rfl⟩
      exact k
end
end K27
set_option maxHeartbeats 4000000
namespace K27
open PySem L2 TW PyProof.Rows
open RM (rowV byV byV_non byV_int)
seal L2.PE L2.PA L2.PT L2.PW L2.PS L2.PSs L2.PG L2.PGs L2.PI L2.PTs
abbrev nc (t:Ad):NC:=⟨t.a_Net,t.a_Strands,t.a_Book,t.a_Net,t.a_Net,t.a_Net,t.a_Net⟩
section
variable {P:Program} {w:World} {K:PySem.W.Frag} {mg:Str→Option Value} {base:Heap}
def spNetInit (K:PySem.W.Frag) (CT:Addr) (c:NC):Sp:=fun vs H Q _=>∃ (p dx tp ln lr lc:Addr) (ns:List Int) (rs:List R5) (qs:List Addr) (cl:List (Nat × Nat)),vs = [.ref p,.ref tp,.ref lc]∧H p=some (.ins c.net dx [])∧TownAt K CT H tp ln lr ns rs∧ns.length≤12∧rs.length≤20∧(∀ r∈rs,1≤r.d∧r.d≤4) ∧
  SqL K H lc (qs.map V.ref)∧TsAt K H qs (cl.map fun c=>[.int c.1,.int c.2])∧cl.length≤20∧(∀ c∈cl,c.1 < ns.length∧c.2 < 3) ∧
  ∀ F H',NetAt K c H' F p tp ns.length (S0 ns rs cl)→(∀ b o,H b=some o→b≠p→H' b=some o)→(∀ b,F b→b=p∨H b=none)→Q .non H'
structure Env27 (K:PySem.W.Frag) (CT:Addr) (H:Hp) (tp ln lr lc:Addr) (ns:List Int) (rs:List R5) (qs:List Addr) (cl:List (Nat × Nat)):Prop where
  town:TownAt K CT H tp ln lr ns rs
  cal:SqL K H lc (qs.map V.ref)
  tup:TsAt K H qs (cl.map fun c=>[.int c.1,.int c.2])
theorem Env27.mono {CT tp ln lr lc:Addr} {H H':Hp} {ns:List Int} {rs:List R5} {qs:List Addr} {cl:List (Nat × Nat)} (h:Env27 K CT H tp ln lr lc ns rs qs cl) (s:Same H H'):Env27 K CT H' tp ln lr lc ns rs qs cl:=⟨h.town.mono s,s.seq h.cal,h.tup.mono fun b x=>s.seqT⟩
theorem Env27.put {CT tp ln lr lc p C dx:Addr} {H:Hp} {ns:List Int} {rs:List R5} {qs:List Addr} {cl:List (Nat × Nat)} {fs:List (Str × V)} {o:HO} (h:Env27 K CT H tp ln lr lc ns rs qs cl) (hp:H p=some (.ins C dx fs)) (n:tp≠p):Env27 K CT (upd H p o) tp ln lr lc ns rs qs cl :=
  ⟨h.town.but (fun b u e nb=>by rw [upd_ne nb]; exact e) hp n,SqL.past hp nl_ins upd_keep h.cal,h.tup.mono fun b x=>SqT.past hp nt_ins upd_keep⟩
theorem rng_snoc (la:Nat→Addr) (i:Nat) (l:Addr):(List.range (i + 1)).map (fun g=>V.ref (updN la i l g))=(List.range i).map (fun g=>V.ref (la g))++[.ref l]:=by
  rw [List.range_succ,List.map_append,List.map_cons,List.map_nil,updN_same]
  congr 1
  refine List.map_congr_left fun g hg=>?_
  rw [updN_ne (Nat.ne_of_lt (List.mem_range.mp hg))]
def locR (loc:Role→Addr) (acc:Addr) (la:Nat→Addr):Role→Addr
  | .rowsO=>acc
  | .rows g=>la g
  | r=>loc r
def obR (ob:Role→Option HO) (la:Nat→Addr) (rq:Nat→List Addr) (i:Nat):Role→Option HO
  | .rowsO=>some (.lst ((List.range i).map fun g=>.ref (la g)))
  | .rows g=>if g < i then some (.lst ((rq g).map V.ref)) else none
  | r=>ob r
def locB (loc:Role→Addr) (acc:Addr) (lb ld:Nat→Addr):Role→Addr
  | .booksO=>acc
  | .book g=>lb g
  | .notes g=>ld g
  | r=>loc r
def obB (C:Addr) (ob:Role→Option HO) (dxb lb ld:Nat→Addr) (i:Nat):Role→Option HO
  | .booksO=>some (.lst ((List.range i).map fun g=>.ref (lb g)))
  | .book g=>if g < i then some (.ins C (dxb g) [("kept",.ref (ld g))]) else none
  | .notes g=>if g < i then some (.dT []) else none
  | r=>ob r
def locH (loc:Role→Addr) (acc:Addr) (lh:Nat→Addr):Role→Addr
  | .handedO=>acc
  | .handed g=>lh g
  | r=>loc r
def obH (ob:Role→Option HO) (lh:Nat→Addr) (i:Nat):Role→Option HO
  | .handedO=>some (.lst ((List.range i).map fun g=>.ref (lh g)))
  | .handed g=>if g < i then some (.lst []) else none
  | r=>ob r
def dxF (dx dxs:Addr) (dxb:Nat→Addr):Role→Addr
  | .net=>dx
  | .strands=>dxs
  | .book g=>dxb g
  | _=>0
def locF (p sp lu:Addr) (ls:List Addr) (acc:Addr) (la:Nat→Addr) (acb:Addr) (lb ld:Nat→Addr) (ach acg acd:Addr) (lh:Nat→Addr) (acl aco:Addr):Role→Addr
  | .net=>p
  | .strands=>sp
  | .upright=>lu
  | .wires i=>ls.getD i 0
  | .rowsO=>acc
  | .rows g=>la g
  | .booksO=>acb
  | .book g=>lb g
  | .notes g=>ld g
  | .homes=>ach
  | .groups=>acg
  | .handedO=>acd
  | .handed i=>lh i
  | .letters=>acl
  | .copies=>aco
  | _=>0
theorem ok_Netu_initu {t:Ad} (T:Txt K mg t):FnOk P w K mg base CX0 5 t.f_Netu_initu t.d_Netu_initu ["self","town","callers"]  (spNetInit K t.a_Town (nc t)):=by
  refine T.F_Netu_initu.ok sc_Netu_initu (fun vs H Q E h=>?_) (fun cdv A outer s H vs Q E hr h=>?_)
  · obtain ⟨_,_,_,_,_,_,_,_,_,_,rfl,_⟩:=h; rfl
  · obtain ⟨p,dx,tp,ln,lr,lc,ns,rs,qs,cl,rfl,hp,hT,h12,h20,hw,hL,hqs,hc20,hok,k⟩:=h
    refine ⟨_,(pss_cons (ps_expr (pe_call (ok_check_callers T) (hr.mono (by decide)) rfl T.g_check_callers T.F_check_callers.kp T.B_check_callers .nil pass0 (pa_c (pv 1) (pa_c (pv 2) pa_nil))))
      (pss_cons (ps_fld (pv 0) (pv 1) rfl)
      (pss_cons (ps_fld (pv 0) (pe_make T.K_Strands (ok_Strandsu_initu T) (hr.mono (by decide)) rfl T.g_Strands T.B_Strandsu_initu .nil pass0 (pa_c (pv 1) pa_nil)) rfl)
      (pss_cons (ps_fld (pv 0) (pe_comp (compOk_of (dsc:=defScope s_Netu_initu) (N0:=["self","town","callers"]) (N2:=["bit","town"]) (cap:=[none,some 1]) rfl rfl (by decide +kernel)) rfl (pi_tup (pe_glob rfl T.k_GROUP_BITS (v:=.ref t.a_GROUP_BITS) rfl)) (fun _ _ _ _=>by exact (pg_name (i:=0) nd_Netu_initu_c0 rfl (Or.inl rfl))) (fun _ _ _ _=>by exact pts_nil) (fun _ _ _ _=>by exact (pe_call (ok_first_rows T) (hr.mono (by decide)) rfl T.g_first_rows T.F_first_rows.kp T.B_first_rows .nil pass0 (pa_c (pv 1) pa_nil)))) rfl)
      (pss_cons (ps_fld (pv 0) (pe_comp (compOk_of (dsc:=defScope s_Netu_initu) (N0:=["self","town","callers"]) (N2:=["bit"]) (cap:=[none]) rfl rfl (by decide +kernel)) rfl (pi_tup (pe_glob rfl T.k_GROUP_BITS (v:=.ref t.a_GROUP_BITS) rfl)) (fun _ _ _ _=>by exact (pg_name (i:=0) nd_Netu_initu_c1 rfl (Or.inl rfl))) (fun _ _ _ _=>by exact pts_nil) (fun _ _ _ _=>by exact (pe_make0 T.K_Book (ok_Booku_initu T) (hr.mono (by decide)) rfl T.g_Book T.B_Booku_initu .nil pass0))) rfl)
      (pss_cons (ps_fld (pv 0) (pe_comp (compOk_of (dsc:=defScope s_Netu_initu) (N0:=["self","town","callers"]) (N2:=["caller"]) (cap:=[none]) rfl rfl (by decide +kernel)) rfl (pi_list (pv 2)) (fun _ _ _ _=>by exact (pg_name (i:=0) nd_Netu_initu_c2 rfl (Or.inl rfl))) (fun _ _ _ _=>by exact pts_nil) (fun _ _ _ _=>by exact (pe_ix (ix_tupK K rfl) (pv 0) pe_int (fun _ _=>rfl)))) rfl)
      (pss_cons (ps_fld (pv 0) (pe_comp (compOk_of (dsc:=defScope s_Netu_initu) (N0:=["self","town","callers"]) (N2:=["caller"]) (cap:=[none]) rfl rfl (by decide +kernel)) rfl (pi_list (pv 2)) (fun _ _ _ _=>by exact (pg_name (i:=0) nd_Netu_initu_c3 rfl (Or.inl rfl))) (fun _ _ _ _=>by exact pts_nil) (fun _ _ _ _=>by exact (pe_ix (ix_tupK K rfl) (pv 0) pe_int (fun _ _=>rfl)))) rfl)
      (pss_cons (ps_fld (pv 0) (pe_comp (compOk_of (dsc:=defScope s_Netu_initu) (N0:=["self","town","callers"]) (N2:=["caller"]) (cap:=[none]) rfl rfl (by decide +kernel)) rfl (pi_list (pv 2)) (fun _ _ _ _=>by exact (pg_name (i:=0) nd_Netu_initu_c4 rfl (Or.inl rfl))) (fun _ _ _ _=>by exact pts_nil) (fun _ _ _ _=>by exact (pe_lst pa_nil))) rfl)
      (pss_cons (ps_fld (pv 0) (pe_lst pa_nil) rfl)
      (pss_one (ps_fld (pv 0) (pe_lst pa_nil) rfl))))))))))),?_⟩
    obtain ⟨⟨dt,htp⟩,htn,vs,htr,_⟩:=id hT
    have ntp:tp≠p:=ne_of htp hp fun z=>by have:=(HO.ins.inj z).2.2; cases this
    refine ⟨_,rfl,_,rfl,tp,ln,lr,lc,ns,rs,qs,cl,rfl,hT,hL,hqs,hc20,hok,?_⟩
    have B0:Bld H H p (fun _=>p) (fun r=>if r = .net then some (.ins t.a_Net dx []) else none):=by
      refine ⟨⟨fun r o e=>?_,fun r q h1 h2 _=>?_⟩,rfl,by simp,fun b o e _=>e,fun b hb=>.inl ?_⟩
      · by_cases z:r = .net
        · rw [if_pos z] at e; cases e; exact hp
        · rw [if_neg z] at e; cases e
      · have g:∀ {r:Role},(if r=Role.net then some (HO.ins t.a_Net dx []) else none)≠none→r = .net:=fun {r} h=>by
          by_cases z:r = .net
          · exact z
          · rw [if_neg z] at h; exact absurd rfl h
        rw [g h1,g h2]
      · obtain ⟨_,_,e⟩:=hb
        exact e.symm
    refine ⟨_,rfl,_,rfl,p,_,dx,[],rfl,hp,T.c_Net,T.n_Net_town,by decide,?_⟩
    rw [putF_new (names:=[]) rfl rfl]
    have B1:=B0.put (.ins t.a_Net dx ([]++[(Str.ofString "town",V.ref tp)]))
    have hT1:TownAt K t.a_Town (upd H p (.ins t.a_Net dx ([]++[(Str.ofString "town",V.ref tp)]))) tp ln lr ns rs:=hT.but (fun b o e n=>by rw [upd_ne n]; exact e) hp ntp
    have hp1:=upd_same (H:=H) (a:=p) (o:=.ins t.a_Net dx ([]++[(Str.ofString "town",V.ref tp)]))
    have kq1:∀ b x,SqT K H b x→SqT K (upd H p (.ins t.a_Net dx ([]++[(Str.ofString "town",V.ref tp)]))) b x:=fun b x=>SqT.past hp nt_ins upd_keep
    have hL1:=SqL.past hp nl_ins (upd_keep (o:=.ins t.a_Net dx ([]++[(Str.ofString "town",V.ref tp)]))) hL
    have hqs1:=hqs.mono kq1
    generalize upd H p (.ins t.a_Net dx ([]++[(Str.ofString "town",V.ref tp)]))=H1 at B1 hT1 hp1 hL1 hqs1
    clear B0 kq1 hqs hL hT
    refine ⟨_,rfl,fun sp dxs nsp ndx hne=>?_⟩
    have t2:Same H1 (upd (upd H1 dxs (.own sp)) sp (.ins t.a_Strands dxs [])):=(Same.new ndx).trans (Same.new (by rw [upd_ne (Ne.symm hne)]; exact nsp))
    refine ⟨sp,dxs,tp,ln,lr,ns,rs,rfl,upd_same,hT1.mono t2,h20,hw,fun lu ls H2 hlu hls nlu nd el h2p h2u h2w kp=>⟨rfl,?_⟩⟩
    have s2:Same H1 H2:=fun b o e=>kp b o (t2 b o e) (ne_of_none e nsp)
    have h1lu:H1 lu=none:=t2.free hlu
    have h1ls:∀ l∈ls,H1 l=none:=fun l hl=>t2.free (hls l hl)
    have OS:Own H2 (strL sp lu ls) (strO t.a_Strands dxs tp lu ls (rs.map fun r=>List.range r.d.toNat)):=by
      refine strOwn h2p h2u (by rw [List.length_map]; exact el) (fun i l w' e1 e2=>?_) nd nlu
      rw [List.getElem?_map] at e2
      cases e3:rs[i]? with
      | none=>rw [e3] at e2; cases e2
      | some r=>rw [e3] at e2; cases e2; exact h2w i l r e1 e3
    have B2:=B1.join OS rfl (fun r hr'=>by
      cases r <;> first | exact absurd rfl hr' | skip
      · exact nsp
      · exact h1lu
      · rename_i i
        show H1 (ls.getD i 0)=none
        by_cases z:i < ls.length
        · rw [List.getD_eq_getElem?_getD,List.getElem?_eq_getElem z]
          exact h1ls _ (List.getElem_mem z)
        · exact absurd (show ((rs.map fun r:R5=>List.range r.d.toNat)[i]?.map fun w=>HO.lst (natsV w))=none by rw [List.getElem?_eq_none (by rw [List.length_map]; omega)]; rfl) hr') s2
    have env2:Env27 K t.a_Town H2 tp ln lr lc ns rs qs cl:=⟨hT1.mono s2,s2.seq hL1,hqs1.mono fun b x=>s2.seqT⟩
    have hp2:=s2 _ _ hp1
    refine ⟨_,rfl,p,_,dx,_,rfl,hp2,T.c_Net,T.n_Net_strands,(by show 1 < 1000; decide),?_⟩
    rw [putF_new (names:=["town"]) rfl (by decide +kernel)]
    have B3:=B2.put (.ins t.a_Net dx (([]++[(Str.ofString "town",V.ref tp)])++[(Str.ofString "strands",V.ref sp)]))
    have env3:=env2.put hp2 ntp (o:=.ins t.a_Net dx (([]++[(Str.ofString "town",V.ref tp)])++[(Str.ofString "strands",V.ref sp)]))
    have hp3:=upd_same (H:=H2) (a:=p) (o:=.ins t.a_Net dx (([]++[(Str.ofString "town",V.ref tp)])++[(Str.ofString "strands",V.ref sp)]))
    generalize upd H2 p (.ins t.a_Net dx (([]++[(Str.ofString "town",V.ref tp)])++[(Str.ofString "strands",V.ref sp)]))=H3 at B3 env3 hp3
    clear env2 hp2 B1 hT1 hp1 hL1 hqs1 OS kp t2 s2 h2p h2u h2w h1lu h1ls hlu hls B2
    generalize eloc:(fun r=>if (strO t.a_Strands dxs tp lu ls (rs.map fun r:R5=>List.range r.d.toNat) r).isSome=true then strL sp lu ls r else p)=loc3 at B3
    generalize eob:(setO (fun r=>if (strO t.a_Strands dxs tp lu ls (rs.map fun r:R5=>List.range r.d.toNat) r).isSome=true then strO t.a_Strands dxs tp lu ls (rs.map fun r:R5=>List.range r.d.toNat) r else setO (fun r=>if r = .net then some (.ins t.a_Net dx []) else none) .net (.ins t.a_Net dx ([]++[(Str.ofString "town",V.ref tp)])) r) .net (.ins t.a_Net dx (([]++[(Str.ofString "town",V.ref tp)])++[(Str.ofString "strands",V.ref sp)])))=ob3 at B3
    refine ⟨_,rfl,⟨_,T.s_GROUP_BITS _⟩,fun acc hacc=>?_⟩
    refine comp_by (n:=3) (fun i ys Hx=>∃ (la:Nat→Addr) (rq:Nat→List Addr),ys=(List.range i).map (fun g=>.ref (la g))∧Bld H Hx p (locR loc3 acc la) (obR ob3 la rq i)∧(∀ g,g < i→TsAt K Hx (rq g) (rowsL ns.length (ownR ns)))) hacc (itt_go (T.s_GROUP_BITS _)) (itt_stop (T.s_GROUP_BITS _)) ?_ ?_ ?_
    · refine ⟨fun _=>0,fun _=>[],rfl,(B3.new hacc (r:=.rowsO) (by decide) (.lst [])).ext (fun r=>?_) (fun r hr'=>?_),fun g hg=>absurd hg (by omega)⟩
      · cases r <;> first | rfl | skip
        rename_i g
        show ob3 (.rows g)=_
        rw [show ob3 (.rows g)=none by rw [← eob]; rfl]
        show none=(if g < 0 then some (HO.lst (([]:List Addr).map V.ref)) else none)
        rw [if_neg (Nat.not_lt_zero g)]
      · cases r <;> first | rfl | skip
        rename_i g
        exact absurd (show ob3 (.rows g)=none by rw [← eob]; rfl) hr'
    · rintro i ys Hx hi sx hy ⟨la,rq,rfl,B,hR⟩ x H4 ⟨rfl,hx⟩
      refine ⟨_,rfl,tp,ln,lr,ns,rs,rfl,(env3.mono sx).town,h12,fun l qs' H5 s5 hl h5 ht=>?_⟩
      have hy5:=s5 _ _ hy
      have B5:=((B.add s5 hl h5 (r:=.rows i) (fun z=>by cases z)).setR (r:=.rowsO) (Option.some_ne_none _) (fun z=>by cases z) (.lst ((List.range i).map (fun g=>V.ref (la g))++[.ref l])))
      have hl5:l≠acc:=(ne_of_none hy hl).symm
      refine comp_add hacc hi (sx.trans s5) hy5 (by rw [List.length_map,List.length_range]; exact small1000 (by omega)) ⟨updN la i l,updN rq i qs',(rng_snoc la i l).symm,B5.ext (fun r=>?_) (fun r hr'=>?_),fun g hg=>?_⟩
      · cases r <;> first | rfl | skip
        · show some (HO.lst _)=some (HO.lst _)
          rw [rng_snoc]
        · rename_i g
          show setO (obR ob3 la rq i) (.rows i) _ (.rows g)=if g < i + 1 then some (HO.lst ((updN rq i qs' g).map V.ref)) else none
          by_cases z:g=i
          · subst z
            rw [setO_same,if_pos (by omega),updN_same]
          · rw [setO_ne (fun e=>z (by cases e; rfl)),updN_ne z]
            show (if g < i then some (HO.lst ((rq g).map V.ref)) else none)=_
            by_cases z2:g < i
            · rw [if_pos z2,if_pos (by omega)]
            · rw [if_neg z2,if_neg (by omega)]
      · cases r <;> first | rfl | skip
        rename_i g
        show setL (locR loc3 acc la) (.rows i) l (.rows g)=updN la i l g
        by_cases z:g=i
        · subst z
          rw [setL_same,updN_same]
        · rw [setL_ne (fun e=>z (by cases e; rfl)),updN_ne z]
          rfl
      · by_cases z:g=i
        · subst z
          rw [updN_same]
          exact ht.mono fun b x=>SqT.past hy5 nt_lst upd_keep
        · rw [updN_ne z]
          exact ((hR g (by omega)).mono fun b x=>s5.seqT).mono fun b x=>SqT.past hy5 nt_lst upd_keep
    rintro ys H4 s4 hy ⟨la,rq,rfl,B4,hR4⟩
    have env4:=env3.mono s4
    have hp4:=s4 _ _ hp3
    refine ⟨_,rfl,p,_,dx,_,rfl,hp4,T.c_Net,T.n_Net_rows_by_group,(by show 2 < 1000; decide),?_⟩
    rw [putF_new (names:=["town","strands"]) rfl (by decide +kernel)]
    generalize eo5:HO.ins t.a_Net dx ((([]++[(Str.ofString "town",V.ref tp)])++[(Str.ofString "strands",V.ref sp)])++[(Str.ofString "rows_by_group",V.ref acc)])=o5
    have B5:=B4.put o5
    have env5:=env4.put hp4 ntp (o:=o5)
    have hp5:=upd_same (H:=H4) (a:=p) (o:=o5)
    have hR5:∀ g,g < 3→TsAt K (upd H4 p o5) (rq g) (rowsL ns.length (ownR ns)):=fun g hg=>(hR4 g hg).mono fun b x=>SqT.past hp4 nt_ins upd_keep
    generalize upd H4 p o5=H5 at B5 env5 hp5 hR5
    clear env4 hp4 hR4 B4 hy s4 hacc
    generalize eloc5:locR loc3 acc la=loc5 at B5
    generalize eob5:setO (obR ob3 la rq 3) .net o5=ob5 at B5
    have n5:∀ g,ob5 .booksO=none∧ob5 (.book g)=none∧ob5 (.notes g)=none:=fun g=>by rw [← eob5,← eob]; exact ⟨rfl,rfl,rfl⟩
    refine ⟨_,rfl,⟨_,T.s_GROUP_BITS _⟩,fun acb hacb=>?_⟩
    refine comp_by (n:=3) (fun i ys Hx=>∃ (lb ld dxb:Nat→Addr),ys=(List.range i).map (fun g=>.ref (lb g))∧Bld H Hx p (locB loc5 acb lb ld) (obB t.a_Book ob5 dxb lb ld i)) hacb (itt_go (T.s_GROUP_BITS _)) (itt_stop (T.s_GROUP_BITS _)) ?_ ?_ ?_
    · refine ⟨fun _=>0,fun _=>0,fun _=>0,rfl,(B5.new hacb (r:=.booksO) (fun z=>by cases z) (.lst [])).ext (fun r=>?_) (fun r hr'=>?_)⟩
      · cases r <;> first | rfl | skip
        · rename_i g
          show ob5 (.book g)=(if g < 0 then some (HO.ins t.a_Book 0 [("kept",.ref 0)]) else none)
          rw [if_neg (Nat.not_lt_zero g)]
          exact (n5 g).2.1
        · rename_i g
          show ob5 (.notes g)=(if g < 0 then some (HO.dT []) else none)
          rw [if_neg (Nat.not_lt_zero g)]
          exact (n5 g).2.2
      · cases r <;> first | rfl | skip
        · rename_i g
          exact absurd (n5 g).2.1 hr'
        · rename_i g
          exact absurd (n5 g).2.2 hr'
    · rintro i ys Hx hi sx hy ⟨lb,ld,dxb,rfl,B⟩ x H6 ⟨rfl,hx⟩
      refine fun bp dxp nbp ndxp hne=>?_
      have t6:Same H6 (upd (upd H6 dxp (.own bp)) bp (.ins t.a_Book dxp [])):=(Same.new ndxp).trans (Same.new (by rw [upd_ne (Ne.symm hne)]; exact nbp))
      refine ⟨bp,dxp,rfl,upd_same,fun d H7 hd hB kp=>⟨rfl,?_⟩⟩
      have s7:Same H6 H7:=fun b o e=>kp b o (t6 b o e) (ne_of_none e nbp)
      have hd6:H6 d=none:=t6.free hd
      obtain ⟨⟨dx',h7b⟩,h7d⟩:=hB
      have nbd:bp≠d:=ne_obj h7b h7d (fun e=>by cases e)
      have sm:Same H6 (hide H7 d):=fun b o e=>by
        have nb:b≠d:=ne_of_none e hd6
        show (if b=d then none else H7 b)=some o
        rw [if_neg nb]
        exact s7 _ _ e
      have sm2:Same (hide H7 d) H7:=fun b o e=>by
        have e:(if b=d then none else H7 b)=some o:=e
        by_cases z:b=d
        · rw [if_pos z] at e; cases e
        · rw [if_neg z] at e; exact e
      have hmb:(hide H7 d) bp=some (.ins t.a_Book dx' [("kept",.ref d)]):=by
        show (if bp=d then none else H7 bp)=_
        rw [if_neg nbd]
        exact h7b
      have hmd:(hide H7 d) d=none:=if_pos rfl
      have B1:=B.add sm nbp hmb (r:=.book i) (fun z=>by cases z)
      have B2:=B1.add sm2 hmd h7d (r:=.notes i) (fun z=>by cases z)
      have B3:=B2.setR (r:=.booksO) (Option.some_ne_none _) (fun z=>by cases z) (.lst ((List.range i).map (fun g=>V.ref (lb g))++[.ref bp]))
      refine comp_add hacb hi (sx.trans s7) (s7 _ _ hy) (by rw [List.length_map,List.length_range]; exact small1000 (by omega)) ⟨updN lb i bp,updN ld i d,updN dxb i dx',(rng_snoc lb i bp).symm,B3.ext (fun r=>?_) (fun r hr'=>?_)⟩
      · cases r <;> first | rfl | skip
        · show some (HO.lst _)=some (HO.lst _)
          rw [rng_snoc]
        · rename_i g
          show setO (obB t.a_Book ob5 dxb lb ld i) (.book i) _ (.book g)=if g < i + 1 then some (HO.ins t.a_Book (updN dxb i dx' g) [("kept",.ref (updN ld i d g))]) else none
          by_cases z:g=i
          · subst z
            rw [setO_same,if_pos (by omega),updN_same,updN_same]
          · rw [setO_ne (fun e=>z (by cases e; rfl)),updN_ne z,updN_ne z]
            show (if g < i then some (HO.ins t.a_Book (dxb g) [("kept",.ref (ld g))]) else none)=_
            by_cases z2:g < i
            · rw [if_pos z2,if_pos (by omega)]
            · rw [if_neg z2,if_neg (by omega)]
        · rename_i g
          show setO (setO (obB t.a_Book ob5 dxb lb ld i) (.book i) _) (.notes i) _ (.notes g)=if g < i + 1 then some (HO.dT []) else none
          by_cases z:g=i
          · subst z
            rw [setO_same,if_pos (by omega)]
            rfl
          · rw [setO_ne (fun e=>z (by cases e; rfl))]
            show (if g < i then some (HO.dT []) else none)=_
            by_cases z2:g < i
            · rw [if_pos z2,if_pos (by omega)]
            · rw [if_neg z2,if_neg (by omega)]
      · cases r <;> first | rfl | skip
        · rename_i g
          show setL (locB loc5 acb lb ld) (.book i) bp (.book g)=updN lb i bp g
          by_cases z:g=i
          · subst z
            rw [setL_same,updN_same]
          · rw [setL_ne (fun e=>z (by cases e; rfl)),updN_ne z]
            rfl
        · rename_i g
          show setL (setL (locB loc5 acb lb ld) (.book i) bp) (.notes i) d (.notes g)=updN ld i d g
          by_cases z:g=i
          · subst z
            rw [setL_same,updN_same]
          · rw [setL_ne (fun e=>z (by cases e; rfl)),updN_ne z]
            rfl
    rintro ys H6 s6 hy ⟨lb,ld,dxb,rfl,B6⟩
    have env6:=env5.mono s6
    have hR6:∀ g,g < 3→TsAt K H6 (rq g) (rowsL ns.length (ownR ns)):=fun g hg=>(hR5 g hg).mono fun b x=>s6.seqT
    have hp6:=s6 _ _ hp5
    subst eo5
    refine ⟨_,rfl,p,_,dx,_,rfl,hp6,T.c_Net,T.n_Net_books,(by show 3 < 1000; decide),?_⟩
    rw [putF_new (names:=["town","strands","rows_by_group"]) rfl (by decide +kernel)]
    generalize eo7:HO.ins t.a_Net dx (((([]++[(Str.ofString "town",V.ref tp)])++[(Str.ofString "strands",V.ref sp)])++[(Str.ofString "rows_by_group",V.ref acc)])++[(Str.ofString "books",V.ref acb)])=o7
    have B7:=B6.put o7
    have env7:=env6.put hp6 ntp (o:=o7)
    have hp7:=upd_same (H:=H6) (a:=p) (o:=o7)
    have hR7:∀ g,g < 3→TsAt K (upd H6 p o7) (rq g) (rowsL ns.length (ownR ns)):=fun g hg=>(hR6 g hg).mono fun b x=>SqT.past hp6 nt_ins upd_keep
    generalize upd H6 p o7=H7 at B7 env7 hp7 hR7
    clear env5 env6 hp5 hp6 hR5 hR6 B5 B6 hy s6 hacb
    have ecl:(qs.map V.ref).length=cl.length:=by rw [List.length_map,env7.tup.len,List.length_map]
    have getc:∀ {i:Nat} {x:V} {Hx:Hp},(qs.map V.ref)[i]?=some x→Env27 K t.a_Town Hx tp ln lr lc ns rs qs cl→∃ (hi:i < cl.length) (q:Addr),x = .ref q∧SqT K Hx q [.int cl[i].1,.int cl[i].2]:=fun {i x Hx} hx ev=>by
      have hi:=(List.getElem?_eq_some_iff.mp hx).1
      rw [ecl] at hi
      have hq:i < qs.length:=by rw [← List.length_map (f:=V.ref),ecl]; exact hi
      refine ⟨hi,qs[i],?_,ev.tup.at' i _ _ (List.getElem?_eq_getElem hq) (by rw [List.getElem?_map,List.getElem?_eq_getElem hi]; rfl)⟩
      rw [List.getElem?_map,List.getElem?_eq_getElem hq] at hx
      exact (Option.some.inj hx).symm
    refine ⟨_,rfl,lc,rfl,⟨_,env7.cal⟩,fun ach hach=>?_⟩
    refine comp_at (fun i=>cl[i]?.map fun c=>V.int (c.1:Nat)) hach env7.cal (by omega) (fun i x Hx R S hx sx h1 h2=>?_) (fun H8 s8 hy=>?_)
    · obtain ⟨hi,q,rfl,hq⟩:=getc hx (env7.mono sx)
      exact ⟨_,rfl,q,_,_,_,rfl,rfl,hq,rfl,h1 _ _ (Same.refl _) (by rw [List.getElem?_eq_getElem hi]; rfl)⟩
    rw [ecl,range_maps] at hy
    have B8:=B7.add s8 hach hy (r:=.homes) (fun z=>by cases z)
    have env8:=env7.mono s8
    have hp8:=s8 _ _ hp7
    subst eo7
    refine ⟨_,rfl,p,_,dx,_,rfl,hp8,T.c_Net,T.n_Net_homes,(by show 4 < 1000; decide),?_⟩
    rw [putF_new (names:=["town","strands","rows_by_group","books"]) rfl (by decide +kernel)]
    generalize eo9:HO.ins t.a_Net dx ((((([]++[(Str.ofString "town",V.ref tp)])++[(Str.ofString "strands",V.ref sp)])++[(Str.ofString "rows_by_group",V.ref acc)])++[(Str.ofString "books",V.ref acb)])++[(Str.ofString "homes",V.ref ach)])=o9
    have B9:=B8.put o9
    have env9:=env8.put hp8 ntp (o:=o9)
    have hp9:=upd_same (H:=H8) (a:=p) (o:=o9)
    have hR9:∀ g,g < 3→TsAt K (upd H8 p o9) (rq g) (rowsL ns.length (ownR ns)):=fun g hg=>((hR7 g hg).mono fun b x=>s8.seqT).mono fun b x=>SqT.past hp8 nt_ins upd_keep
    generalize upd H8 p o9=H9 at B9 env9 hp9 hR9
    clear env7 env8 hp7 hp8 hR7 B7 B8 hy s8 hach
    refine ⟨_,rfl,lc,rfl,⟨_,env9.cal⟩,fun acg hacg=>?_⟩
    refine comp_at (fun i=>cl[i]?.map fun c=>V.int (c.2:Nat)) hacg env9.cal (by omega) (fun i x Hx R S hx sx h1 h2=>?_) (fun H10 s10 hy=>?_)
    · obtain ⟨hi,q,rfl,hq⟩:=getc hx (env9.mono sx)
      exact ⟨_,rfl,q,_,_,_,rfl,rfl,hq,rfl,h1 _ _ (Same.refl _) (by rw [List.getElem?_eq_getElem hi]; rfl)⟩
    rw [ecl,range_maps] at hy
    have B10:=B9.add s10 hacg hy (r:=.groups) (fun z=>by cases z)
    have env10:=env9.mono s10
    have hp10:=s10 _ _ hp9
    subst eo9
    refine ⟨_,rfl,p,_,dx,_,rfl,hp10,T.c_Net,T.n_Net_groups,(by show 5 < 1000; decide),?_⟩
    rw [putF_new (names:=["town","strands","rows_by_group","books","homes"]) rfl (by decide +kernel)]
    generalize eo11:HO.ins t.a_Net dx (((((([]++[(Str.ofString "town",V.ref tp)])++[(Str.ofString "strands",V.ref sp)])++[(Str.ofString "rows_by_group",V.ref acc)])++[(Str.ofString "books",V.ref acb)])++[(Str.ofString "homes",V.ref ach)])++[(Str.ofString "groups",V.ref acg)])=o11
    have B11:=B10.put o11
    have env11:=env10.put hp10 ntp (o:=o11)
    have hp11:=upd_same (H:=H10) (a:=p) (o:=o11)
    have hR11:∀ g,g < 3→TsAt K (upd H10 p o11) (rq g) (rowsL ns.length (ownR ns)):=fun g hg=>((hR9 g hg).mono fun b x=>s10.seqT).mono fun b x=>SqT.past hp10 nt_ins upd_keep
    generalize upd H10 p o11=H11 at B11 env11 hp11 hR11
    clear env9 env10 hp9 hp10 hR9 B9 B10 hy s10 hacg
    generalize eloc11:setL (setL (locB loc5 acb lb ld) .homes ach) .groups acg=loc11 at B11
    generalize eob11:setO (setO (setO (setO (setO (obB t.a_Book ob5 dxb lb ld 3) .net _) .homes _) .net _) .groups _) .net o11=ob11 at B11
    have n11:∀ g,ob11 .handedO=none∧ob11 (.handed g)=none:=fun g=>by rw [← eob11,← eob5,← eob]; exact ⟨rfl,rfl⟩
    refine ⟨_,rfl,lc,rfl,⟨_,env11.cal⟩,fun acd hacd=>?_⟩
    refine comp_by (n:=(qs.map V.ref).length) (fun i ys Hx=>∃ lh:Nat→Addr,ys=(List.range i).map (fun g=>.ref (lh g))∧Bld H Hx p (locH loc11 acd lh) (obH ob11 lh i)) hacd (itl_go env11.cal) (itl_stop env11.cal) ?_ ?_ ?_
    · refine ⟨fun _=>0,rfl,(B11.new hacd (r:=.handedO) (fun z=>by cases z) (.lst [])).ext (fun r=>?_) (fun r hr'=>?_)⟩
      · cases r <;> first | rfl | skip
        rename_i g
        show ob11 (.handed g)=(if g < 0 then some (HO.lst []) else none)
        rw [if_neg (Nat.not_lt_zero g)]
        exact (n11 g).2
      · cases r <;> first | rfl | skip
        rename_i g
        exact absurd (n11 g).2 hr'
    · rintro i ys Hx hi sx hy ⟨lh,rfl,B⟩ x H12 ⟨rfl,hx⟩
      refine ⟨Nat.zero_le _,fun l hl=>?_⟩
      have u:=Same.new (o:=.lst []) hl
      have B3:=(B.new hl (r:=.handed i) (fun z=>by cases z) (.lst [])).setR (r:=.handedO) (Option.some_ne_none _) (fun z=>by cases z) (.lst ((List.range i).map (fun g=>V.ref (lh g))++[.ref l]))
      refine comp_add hacd hi (sx.trans u) (u _ _ hy) (by rw [List.length_map,List.length_range]; exact small1000 (by omega)) ⟨updN lh i l,(rng_snoc lh i l).symm,B3.ext (fun r=>?_) (fun r hr'=>?_)⟩
      · cases r <;> first | rfl | skip
        · show some (HO.lst _)=some (HO.lst _)
          rw [rng_snoc]
        · rename_i g
          show setO (obH ob11 lh i) (.handed i) _ (.handed g)=if g < i + 1 then some (HO.lst []) else none
          by_cases z:g=i
          · subst z
            rw [setO_same,if_pos (by omega)]
          · rw [setO_ne (fun e=>z (by cases e; rfl))]
            show (if g < i then some (HO.lst []) else none)=_
            by_cases z2:g < i
            · rw [if_pos z2,if_pos (by omega)]
            · rw [if_neg z2,if_neg (by omega)]
      · cases r <;> first | rfl | skip
        rename_i g
        show setL (locH loc11 acd lh) (.handed i) l (.handed g)=updN lh i l g
        by_cases z:g=i
        · subst z
          rw [setL_same,updN_same]
        · rw [setL_ne (fun e=>z (by cases e; rfl)),updN_ne z]
          rfl
    rintro ys H12 s12 hy ⟨lh,rfl,B12⟩
    rw [ecl] at B12
    have hR12:∀ g,g < 3→TsAt K H12 (rq g) (rowsL ns.length (ownR ns)):=fun g hg=>(hR11 g hg).mono fun b x=>s12.seqT
    have hp12:=s12 _ _ hp11
    subst eo11
    refine ⟨_,rfl,p,_,dx,_,rfl,hp12,T.c_Net,T.n_Net_handed,(by show 6 < 1000; decide),?_⟩
    rw [putF_new (names:=["town","strands","rows_by_group","books","homes","groups"]) rfl (by decide +kernel)]
    generalize eo13:HO.ins t.a_Net dx ((((((([]++[(Str.ofString "town",V.ref tp)])++[(Str.ofString "strands",V.ref sp)])++[(Str.ofString "rows_by_group",V.ref acc)])++[(Str.ofString "books",V.ref acb)])++[(Str.ofString "homes",V.ref ach)])++[(Str.ofString "groups",V.ref acg)])++[(Str.ofString "handed",V.ref acd)])=o13
    have B13:=B12.put o13
    have hp13:=upd_same (H:=H12) (a:=p) (o:=o13)
    have hR13:∀ g,g < 3→TsAt K (upd H12 p o13) (rq g) (rowsL ns.length (ownR ns)):=fun g hg=>(hR12 g hg).mono fun b x=>SqT.past hp12 nt_ins upd_keep
    generalize upd H12 p o13=H13 at B13 hp13 hR13
    clear hp11 hp12 hR11 hR12 B11 B12 hy s12 hacd
    refine ⟨Nat.zero_le _,fun acl hacl=>?_⟩
    have B14:=B13.new hacl (r:=.letters) (fun z=>by cases z) (.lst [])
    have u14:=Same.new (o:=.lst []) hacl
    have hp14:=u14 _ _ hp13
    have hR14:∀ g,g < 3→TsAt K (upd H13 acl (.lst [])) (rq g) (rowsL ns.length (ownR ns)):=fun g hg=>(hR13 g hg).mono fun b x=>u14.seqT
    generalize upd H13 acl (.lst [])=H14 at B14 hp14 hR14
    subst eo13
    refine ⟨_,rfl,p,_,dx,_,rfl,hp14,T.c_Net,T.n_Net_letters,(by show 7 < 1000; decide),?_⟩
    rw [putF_new (names:=["town","strands","rows_by_group","books","homes","groups","handed"]) rfl (by decide +kernel)]
    generalize eo15:HO.ins t.a_Net dx (((((((([]++[(Str.ofString "town",V.ref tp)])++[(Str.ofString "strands",V.ref sp)])++[(Str.ofString "rows_by_group",V.ref acc)])++[(Str.ofString "books",V.ref acb)])++[(Str.ofString "homes",V.ref ach)])++[(Str.ofString "groups",V.ref acg)])++[(Str.ofString "handed",V.ref acd)])++[(Str.ofString "letters",V.ref acl)])=o15
    have B15:=B14.put o15
    have hp15:=upd_same (H:=H14) (a:=p) (o:=o15)
    have hR15:∀ g,g < 3→TsAt K (upd H14 p o15) (rq g) (rowsL ns.length (ownR ns)):=fun g hg=>(hR14 g hg).mono fun b x=>SqT.past hp14 nt_ins upd_keep
    generalize upd H14 p o15=H15 at B15 hp15 hR15
    clear hp13 hp14 hR13 hR14 B13 B14 hacl u14
    refine ⟨Nat.zero_le _,fun aco haco=>?_⟩
    have B16:=B15.new haco (r:=.copies) (fun z=>by cases z) (.lst [])
    have u16:=Same.new (o:=.lst []) haco
    have hp16:=u16 _ _ hp15
    have hR16:∀ g,g < 3→TsAt K (upd H15 aco (.lst [])) (rq g) (rowsL ns.length (ownR ns)):=fun g hg=>(hR15 g hg).mono fun b x=>u16.seqT
    generalize upd H15 aco (.lst [])=H16 at B16 hp16 hR16
    subst eo15
    refine ⟨_,rfl,p,_,dx,_,rfl,hp16,T.c_Net,T.n_Net_copies,(by show 8 < 1000; decide),?_⟩
    rw [putF_new (names:=["town","strands","rows_by_group","books","homes","groups","handed","letters"]) rfl (by decide +kernel)]
    generalize eo17:HO.ins t.a_Net dx ((((((((([]++[(Str.ofString "town",V.ref tp)])++[(Str.ofString "strands",V.ref sp)])++[(Str.ofString "rows_by_group",V.ref acc)])++[(Str.ofString "books",V.ref acb)])++[(Str.ofString "homes",V.ref ach)])++[(Str.ofString "groups",V.ref acg)])++[(Str.ofString "handed",V.ref acd)])++[(Str.ofString "letters",V.ref acl)])++[(Str.ofString "copies",V.ref aco)])=o17
    have B17:=B16.put o17
    have hR17:∀ g,g < 3→TsAt K (upd H16 p o17) (rq g) (rowsL ns.length (ownR ns)):=fun g hg=>(hR16 g hg).mono fun b x=>SqT.past hp16 nt_ins upd_keep
    generalize upd H16 p o17=H17 at B17 hR17
    subst eo17 eob11 eloc11 eob5 eloc5 eob eloc
    have hws:(rs.map fun r:R5=>List.range r.d.toNat).length=ls.length:=by rw [List.length_map]; exact el.symm
    have hupr:ls.map V.ref=(List.range (rs.map fun r:R5=>List.range r.d.toNat).length).map fun i=>V.ref (ls.getD i 0):=by
      rw [hws]
      refine List.ext_getElem (by simp) fun i h1 h2=>?_
      simp at h1
      simp [h1]
    have B18:Bld H H17 p (locF p sp lu ls acc la acb lb ld ach acg acd lh acl aco) (desc (nc t) (dxF dx dxs dxb) tp (locF p sp lu ls acc la acb lb ld ach acg acd lh acl aco) ⟨rq,fun _=>[],[]⟩ (S0 ns rs cl)):=by
      refine B17.ext (fun r=>?_) (fun r hr'=>?_)
      · cases r <;> first | rfl | skip
        case upright =>
          show some (HO.lst (ls.map V.ref))=some (HO.lst ((List.range (rs.map fun r:R5=>List.range r.d.toNat).length).map fun i=>V.ref (ls.getD i 0)))
          rw [← hupr]
        case wires j =>
          show (if ((rs.map fun r:R5=>List.range r.d.toNat)[j]?.map fun w=>HO.lst (natsV w)).isSome=true then ((rs.map fun r:R5=>List.range r.d.toNat)[j]?.map fun w=>HO.lst (natsV w)) else none)=((rs.map fun r:R5=>List.range r.d.toNat)[j]?.map fun w=>HO.lst (natsV w))
          cases (rs.map fun r:R5=>List.range r.d.toNat)[j]? <;> rfl
        case homes =>
          show some (HO.lst _)=some (HO.lst ((cl.map (·.1)).map _))
          rw [List.map_map]
          rfl
        case groups =>
          show some (HO.lst _)=some (HO.lst ((cl.map (·.2)).map _))
          rw [List.map_map]
          rfl
        case handedO =>
          show some (HO.lst ((List.range cl.length).map fun g=>V.ref (lh g)))=some (HO.lst ((List.range (cl.map fun _=>([]:List Nat)).length).map fun g=>V.ref (lh g)))
          rw [List.length_map]
        case handed j =>
          show (if j < cl.length then some (HO.lst []) else none)=((cl.map fun _=>([]:List Nat))[j]?.map fun w=>HO.lst (natsV w))
          rw [List.getElem?_map]
          by_cases z:j < cl.length
          · rw [if_pos z,List.getElem?_eq_getElem z]
            rfl
          · rw [if_neg z,List.getElem?_eq_none (by omega)]
            rfl
      · cases r <;> first | rfl | exact absurd rfl hr' | skip
        case wires j =>
          show (if ((rs.map fun r:R5=>List.range r.d.toNat)[j]?.map fun w=>HO.lst (natsV w)).isSome=true then ls.getD j 0 else p)=ls.getD j 0
          have hr':(if ((rs.map fun r:R5=>List.range r.d.toNat)[j]?.map fun w=>HO.lst (natsV w)).isSome=true then ((rs.map fun r:R5=>List.range r.d.toNat)[j]?.map fun w=>HO.lst (natsV w)) else none)≠none:=hr'
          cases e:(rs.map fun r:R5=>List.range r.d.toNat)[j]? with
          | none=>rw [e] at hr'; exact absurd rfl hr'
          | some w'=>rfl
    refine k _ H17 ⟨_,dxF dx dxs dxb,⟨rq,fun _=>[],[]⟩,B18.np,B18.own,fun b=>Iff.rfl,⟨hR17,fun i l e=>?_,⟨rfl,fun i q x e=>by cases e⟩⟩⟩ B18.kp B18.fr
    cases e
end
end K27
set_option maxHeartbeats 4000000
namespace K27
open PySem L2 TW PyProof.Rows
open RM (rowV byV byV_non byV_int)
seal L2.PE L2.PA L2.PT L2.PW L2.PS L2.PSs L2.PG L2.PGs L2.PI L2.PTs
section
variable {P:Program} {w:World} {K:PySem.W.Frag} {mg:Str→Option Value} {base:Heap}
def spNRows (K:PySem.W.Frag) (c:NC):Sp:=fun vs H Q _=>∃ (F:Addr→Prop) (p tp:Addr) (n g:Nat) (s:NS),vs = [.ref p,.int g]∧NetAt K c H F p tp n s∧g < 3∧∀ l (qs:List Addr) H',Same H H'→H l=none→H' l=some (.lst (qs.map V.ref))→TsAt K H' qs (rowsL n (s.R g))→Q (.ref l) H'
theorem ok_Net_rows {t:Ad} (T:Txt K mg t):FnOk P w K mg base CX0 2 t.f_Net_rows t.d_Net_rows ["self","group"]  (spNRows K (nc t)):=by
  refine T.F_Net_rows.ok sc_Net_rows (fun vs H Q E h=>?_) (fun cdv A outer s H vs Q E hr h=>?_)
  · obtain ⟨_,_,_,_,_,_,rfl,_⟩:=h; rfl
  · obtain ⟨F,p,tp,n,g,st,rfl,⟨loc,dx,q,hp,O,hF,hT⟩,hg,k⟩:=h
    refine ⟨_,(pss_cons (ps_expr (pe_call (ok_check_group T) (hr.mono (by decide)) rfl T.g_check_group T.F_check_group.kp T.B_check_group .nil passF (pa_c (pv 1) pa_nil)))
      (pss_one (ps_ret (pe_callTy call_list_of (by rfl) T.n_list boot_list (pa_c (pe_ix ix_list (pe_fld (pv 0) rfl) (pv 1) (fun _ _=>rfl)) pa_nil))))),?_⟩
    have hnet:=O.get .net _ rfl
    rw [hp] at hnet
    refine ⟨_,rfl,g,rfl,fun _=>?_,fun z=>absurd ⟨by omega,by omega⟩ z⟩
    refine ⟨_,rfl,p,_,_,_,_,rfl,hnet,T.c_Net,T.n_Net_rows_by_group,rfl,_,rfl,loc .rowsO,_,_,_,rfl,rfl,SqL.of (O.get .rowsO _ rfl),at_rng hg,loc (.rows g),_,rfl,.inl (SqL.of (O.get (.rows g) _ (if_pos hg))),fun l hl=>?_⟩
    have u:=Same.new (o:=.lst ((q.rq g).map V.ref)) hl
    exact k l (q.rq g) _ u hl upd_same ((hT.rows g hg).mono fun b x=>u.seqT)
def spNLive (K:PySem.W.Frag) (CT:Addr) (c:NC):Sp:=fun vs H Q _=>∃ (F:Addr→Prop) (p tp ln lr:Addr) (ns:List Int) (rs:List R5) (s:NS) (g:Nat),vs = [.ref p,.int g]∧NW K c CT H F p tp ln lr ns rs s∧TownOk ns rs∧NSok ns rs s∧g < 3∧∀ l H',Same H H'→H l=none→H' l=some (.lst (natsV (liveN rs s.ws g)))→Q (.ref l) H'
theorem ok_Net_live {t:Ad} (T:Txt K mg t):FnOk P w K mg base CX0 3 t.f_Net_live t.d_Net_live ["self","group"]  (spNLive K t.a_Town (nc t)):=by
  refine T.F_Net_live.ok sc_Net_live (fun vs H Q E h=>?_) (fun cdv A outer s H vs Q E hr h=>?_)
  · obtain ⟨_,_,_,_,_,_,_,_,_,rfl,_⟩:=h; rfl
  · obtain ⟨F,p,tp,ln,lr,ns,rs,st,g,rfl,N,ok,sok,hg,k⟩:=h
    refine ⟨_,(pss_one (ps_ret (pe_meth (pe_fld (pv 0) rfl) T.c_Strands T.m_Strands_live (ok_Strands_live T) (hr.mono (by decide)) T.B_Strands_live .nil passF (pa_c (pv 1) pa_nil)))),?_⟩
    obtain ⟨loc,dx,q,hp,O,hF,hT⟩:=N.net
    have hnet:=O.get .net _ rfl
    rw [hp] at hnet
    refine ⟨_,rfl,p,_,_,_,_,rfl,hnet,T.c_Net,T.n_Net_strands,rfl,loc .strands,dx .strands,_,rfl,O.get .strands _ rfl,rfl,_,rfl,loc .strands,tp,loc .upright,ln,lr,ns,rs,st.ws,g,rfl,N.town,O.strAt,sok.wl,ok.m20,(fun r hr'=>⟨(ok.ok r hr').e1,(ok.ok r hr').e7⟩),fun gg l H' eg _ s' hl h'=>?_,fun z=>absurd ⟨by omega,by omega⟩ z⟩
    have:gg=g:=by omega
    subst this
    exact k l H' s' hl h'
def spNOpens (K:PySem.W.Frag) (CT:Addr) (c:NC):Sp:=fun vs H Q _=>∃ (F:Addr→Prop) (p tp ln lr:Addr) (ns:List Int) (rs:List R5) (s:NS) (o:TownOk ns rs) (g:Nat),vs = [.ref p,.int g]∧NW K c CT H F p tp ln lr ns rs s∧NSok ns rs s∧g < 3∧∀ l os H',Same H H'→H l=none→H' l=some (.lst (natsV os))→Opens (gNet ns rs o s.ws g) (s.R g) os→os.length≤12→Q (.ref l) H'
theorem ok_Net_opens {t:Ad} (T:Txt K mg t):FnOk P w K mg base CX0 6 t.f_Net_opens t.d_Net_opens ["self","group"]  (spNOpens K t.a_Town (nc t)):=by
  refine T.F_Net_opens.ok sc_Net_opens (fun vs H Q E h=>?_) (fun cdv A outer s H vs Q E hr h=>?_)
  · obtain ⟨_,_,_,_,_,_,_,_,_,_,rfl,_⟩:=h; rfl
  · obtain ⟨F,p,tp,ln,lr,ns,rs,st,ok,g,rfl,N,sok,hg,k⟩:=h
    refine ⟨_,(pss_one (ps_ret (pe_call (ok_opens T) (hr.mono (by decide)) rfl T.ga_opens_opens T.F_opens.kp T.B_opens .nil pass0 (pa_c (pe_fld (pv 0) rfl) (pa_c (pe_meth (pv 0) T.c_Net T.m_Net_live (ok_Net_live T) (hr.mono (by decide)) T.B_Net_live .nil pass0 (pa_c (pv 1) pa_nil)) (pa_c (pe_meth (pv 0) T.c_Net T.m_Net_rows (ok_Net_rows T) (hr.mono (by decide)) T.B_Net_rows .nil pass0 (pa_c (pv 1) pa_nil)) pa_nil)))))),?_⟩
    obtain ⟨loc,dx,q,hp,O,hF,hT⟩:=id N.net
    have hnet:=O.get .net _ rfl
    rw [hp] at hnet
    refine ⟨_,rfl,p,_,_,_,_,rfl,hnet,T.c_Net,T.n_Net_town,rfl,?_⟩
    refine ⟨_,rfl,p,_,_,rfl,hnet,rfl,_,rfl,F,p,tp,ln,lr,ns,rs,st,g,rfl,N,ok,sok,hg,fun l1 H1 s1 hl1 h1=>?_⟩
    have N1:=N.mono s1
    refine ⟨_,rfl,p,_,_,rfl,s1 _ _ hnet,rfl,_,rfl,F,p,tp,ns.length,g,st,rfl,N1.net,hg,fun l2 qs H2 s2 hl2 h2 ht=>?_⟩
    refine ⟨tp,ln,lr,l1,l2,ns,rs,_,ok.nd,ok.ok,liveN_lt,st.R g,rfl,N1.town.mono s2,SqL.of (s2 _ _ h1),ht.rowsAt (SqL.of h2),by have:=ok.n10; omega,ok.m20,sok.fit g hg,fun l os H3 s3 hl h3 hO h12=>?_⟩
    exact k l os H3 (s1.trans (s2.trans s3)) ((s1.trans s2).free hl) h3 hO h12
def spNNotes (K:PySem.W.Frag) (c:NC):Sp:=fun vs H Q _=>∃ (F:Addr→Prop) (p tp:Addr) (n g:Nat) (s:NS),vs = [.ref p,.int g]∧NetAt K c H F p tp n s∧g < 3∧(s.ts g).length < 64 ∧
  ∀ l (qs:List Addr) (us:List T3) H',Same H H'→H l=none→H' l=some (.lst (qs.map V.ref))→TrisAt K H' qs us→us.Perm (s.ts g)→Sorted3 us→Q (.ref l) H'
theorem ok_Net_notes {t:Ad} (T:Txt K mg t):FnOk P w K mg base CX0 2 t.f_Net_notes t.d_Net_notes ["self","group"]  (spNNotes K (nc t)):=by
  refine T.F_Net_notes.ok sc_Net_notes (fun vs H Q E h=>?_) (fun cdv A outer s H vs Q E hr h=>?_)
  · obtain ⟨_,_,_,_,_,_,rfl,_⟩:=h; rfl
  · obtain ⟨F,p,tp,n,g,st,rfl,⟨loc,dx,q,hp,O,hF,hT⟩,hg,h64,k⟩:=h
    refine ⟨_,(pss_cons (ps_expr (pe_call (ok_check_group T) (hr.mono (by decide)) rfl T.g_check_group T.F_check_group.kp T.B_check_group .nil passF (pa_c (pv 1) pa_nil)))
      (pss_one (ps_ret (pe_meth0 (pe_ix ix_list (pe_fld (pv 0) rfl) (pv 1) (fun _ _=>rfl)) T.c_Book T.m_Book_notes (ok_Book_notes T) (hr.mono (by decide)) T.B_Book_notes .nil pass0)))),?_⟩
    have hnet:=O.get .net _ rfl
    rw [hp] at hnet
    refine ⟨_,rfl,g,rfl,fun _=>?_,fun z=>absurd ⟨by omega,by omega⟩ z⟩
    exact ⟨_,rfl,p,_,_,_,_,rfl,hnet,T.c_Net,T.n_Net_books,rfl,_,rfl,loc .booksO,_,_,_,rfl,rfl,SqL.of (O.get .booksO _ rfl),at_rng hg,loc (.book g),dx (.book g),_,rfl,O.get (.book g) _ (if_pos hg),rfl,loc (.book g),loc (.notes g),st.ts g,rfl,O.bookAt hg,h64,k⟩
def spNResting (K:PySem.W.Frag) (CT:Addr) (c:NC):Sp:=fun vs H Q _=>∃ (F:Addr→Prop) (p tp ln lr:Addr) (ns:List Int) (rs:List R5) (s:NS) (o:TownOk ns rs) (g:Nat),vs = [.ref p,.int g]∧NW K c CT H F p tp ln lr ns rs s∧NSok ns rs s∧g < 3∧∀ (y:Bool) H',Same H H'→(y=true↔RM.Rest (gNet ns rs o s.ws g) (s.R g))→Q (.bl y) H'
theorem ok_Net_resting {t:Ad} (T:Txt K mg t):FnOk P w K mg base CX0 5 t.f_Net_resting t.d_Net_resting ["self","group"]  (spNResting K t.a_Town (nc t)):=by
  refine T.F_Net_resting.ok sc_Net_resting (fun vs H Q E h=>?_) (fun cdv A outer s H vs Q E hr h=>?_)
  · obtain ⟨_,_,_,_,_,_,_,_,_,_,rfl,_⟩:=h; rfl
  · obtain ⟨F,p,tp,ln,lr,ns,rs,st,ok,g,rfl,N,sok,hg,k⟩:=h
    refine ⟨_,(pss_one (ps_ret (pe_call (ok_resting T) (hr.mono (by decide)) rfl T.ga_resting_rows T.F_resting.kp T.B_resting .nil pass0 (pa_c (pe_fld (pv 0) rfl) (pa_c (pe_meth (pv 0) T.c_Net T.m_Net_live (ok_Net_live T) (hr.mono (by decide)) T.B_Net_live .nil pass0 (pa_c (pv 1) pa_nil)) (pa_c (pe_meth (pv 0) T.c_Net T.m_Net_rows (ok_Net_rows T) (hr.mono (by decide)) T.B_Net_rows .nil pass0 (pa_c (pv 1) pa_nil)) pa_nil)))))),?_⟩
    obtain ⟨loc,dx,q,hp,O,hF,hT⟩:=id N.net
    have hnet:=O.get .net _ rfl
    rw [hp] at hnet
    refine ⟨_,rfl,p,_,_,_,_,rfl,hnet,T.c_Net,T.n_Net_town,rfl,?_⟩
    refine ⟨_,rfl,p,_,_,rfl,hnet,rfl,_,rfl,F,p,tp,ln,lr,ns,rs,st,g,rfl,N,ok,sok,hg,fun l1 H1 s1 hl1 h1=>?_⟩
    have N1:=N.mono s1
    refine ⟨_,rfl,p,_,_,rfl,s1 _ _ hnet,rfl,_,rfl,F,p,tp,ns.length,g,st,rfl,N1.net,hg,fun l2 qs H2 s2 hl2 h2 ht=>?_⟩
    exact ⟨tp,ln,lr,l1,l2,ns,rs,_,ok.nd,ok.ok,liveN_lt,st.R g,rfl,N1.town.mono s2,SqL.of (s2 _ _ h1),ht.rowsAt (SqL.of h2),by have:=ok.n10; omega,ok.m20,sok.fit g hg,ok.pos,fun y H3 s3 hy=>k y H3 (s1.trans (s2.trans s3)) hy⟩
def spNHouse (K:PySem.W.Frag) (CT:Addr) (c:NC):Sp:=fun vs H Q _=>∃ (F:Addr→Prop) (p tp ln lr:Addr) (ns:List Int) (rs:List R5) (s:NS) (h:Nat),vs = [.ref p,.int h]∧NW K c CT H F p tp ln lr ns rs s∧h < ns.length∧Q .non H
theorem ok_Net_check_house {t:Ad} (T:Txt K mg t):FnOk P w K mg base CX0 1 t.f_Net_check_house t.d_Net_check_house ["self","house"]  (spNHouse K t.a_Town (nc t)):=by
  refine T.F_Net_check_house.ok sc_Net_check_house (fun vs H Q E h=>?_) (fun cdv A outer s H vs Q E hr h=>?_)
  · obtain ⟨_,_,_,_,_,_,_,_,_,rfl,_⟩:=h; rfl
  · obtain ⟨F,p,tp,ln,lr,ns,rs,st,x,rfl,N,hx,k⟩:=h
    refine ⟨_,(pss_one (ps_if (pt_not (pt_chain op_le op_lt pe_int (pv 1) (pe_fld (pe_fld (pv 0) rfl) rfl))) pss_never pss_nil)),?_⟩
    obtain ⟨loc,dx,q,hp,O,hF,hT⟩:=id N.net
    obtain ⟨⟨dt,htp⟩,_⟩:=id N.town
    have hnet:=O.get .net _ rfl
    rw [hp] at hnet
    refine ⟨_,rfl,_,_,rfl,rfl,_,rfl,?_⟩
    rw [decide_eq_true (show (0:Int)≤(x:Int) by omega)]
    refine iteT ⟨_,rfl,p,_,_,_,_,rfl,hnet,T.c_Net,T.n_Net_town,rfl,tp,_,dt,_,_,rfl,htp,T.c_Town,T.n_Town_size,rfl,_,_,rfl,rfl,_,rfl,?_⟩
    rw [decide_eq_true (show (x:Int) < (ns.length:Int) by omega)]
    exact iteF k
def spNCaller (K:PySem.W.Frag) (c:NC):Sp:=fun vs H Q _=>∃ (F:Addr→Prop) (p tp:Addr) (n x:Nat) (s:NS),vs = [.ref p,.int x]∧NetAt K c H F p tp n s∧x < s.homes.length∧Q .non H
theorem ok_Net_check_caller {t:Ad} (T:Txt K mg t):FnOk P w K mg base CX0 1 t.f_Net_check_caller t.d_Net_check_caller ["self","caller"]  (spNCaller K (nc t)):=by
  refine T.F_Net_check_caller.ok sc_Net_check_caller (fun vs H Q E h=>?_) (fun cdv A outer s H vs Q E hr h=>?_)
  · obtain ⟨_,_,_,_,_,_,rfl,_⟩:=h; rfl
  · obtain ⟨F,p,tp,n,x,st,rfl,⟨loc,dx,q,hp,O,hF,hT⟩,hx,k⟩:=h
    refine ⟨_,(pss_one (ps_if (pt_not (pt_chain op_le op_lt pe_int (pv 1) (pe_callB call_len_seq (by rfl) T.n_len PySem.boot_len (pa_c (pe_fld (pv 0) rfl) pa_nil)))) pss_never pss_nil)),?_⟩
    have hnet:=O.get .net _ rfl
    rw [hp] at hnet
    refine ⟨_,rfl,_,_,rfl,rfl,_,rfl,?_⟩
    rw [decide_eq_true (show (0:Int)≤(x:Int) by omega)]
    refine iteT ⟨_,rfl,p,_,_,_,_,rfl,hnet,T.c_Net,T.n_Net_homes,rfl,loc .homes,_,rfl,.inl (SqL.of (O.get .homes _ rfl)),_,_,rfl,rfl,_,rfl,?_⟩
    rw [List.length_map,decide_eq_true (show (x:Int) < (st.homes.length:Int) by omega)]
    exact iteF k
def spNRowAt (K:PySem.W.Frag) (CT:Addr) (c:NC):Sp:=fun vs H Q _=>∃ (F:Addr→Prop) (p tp ln lr:Addr) (ns:List Int) (rs:List R5) (s:NS) (h g:Nat),vs = [.ref p,.int h,.int g]∧NW K c CT H F p tp ln lr ns rs s∧h < ns.length∧g < 3∧∀ q H',Same H H'→SqT K H' q (rowV (s.R g h))→Q (.ref q) H'
theorem ok_Net_row_at {t:Ad} (T:Txt K mg t):FnOk P w K mg base CX0 3 t.f_Net_row_at t.d_Net_row_at ["self","house","group"]  (spNRowAt K t.a_Town (nc t)):=by
  refine T.F_Net_row_at.ok sc_Net_row_at (fun vs H Q E h=>?_) (fun cdv A outer s H vs Q E hr h=>?_)
  · obtain ⟨_,_,_,_,_,_,_,_,_,_,rfl,_⟩:=h; rfl
  · obtain ⟨F,p,tp,ln,lr,ns,rs,st,x,g,rfl,N,hx,hg,k⟩:=h
    refine ⟨_,(pss_cons (ps_expr (pe_meth (pv 0) T.c_Net T.m_Net_check_house (ok_Net_check_house T) (hr.mono (by decide)) T.B_Net_check_house .nil pass0 (pa_c (pv 1) pa_nil)))
      (pss_one (ps_ret (pe_ix ix_list (pe_meth (pv 0) T.c_Net T.m_Net_rows (ok_Net_rows T) (hr.mono (by decide)) T.B_Net_rows .nil pass0 (pa_c (pv 2) pa_nil)) (pv 1) (fun _ _=>rfl))))),?_⟩
    obtain ⟨loc,dx,q,hp,O,hF,hT⟩:=id N.net
    have hnet:=O.get .net _ rfl
    rw [hp] at hnet
    refine ⟨_,rfl,p,_,_,rfl,hnet,rfl,_,rfl,F,p,tp,ln,lr,ns,rs,st,x,rfl,N,hx,?_⟩
    refine ⟨_,rfl,p,_,_,rfl,hnet,rfl,_,rfl,F,p,tp,ns.length,g,st,rfl,N.net,hg,fun l qs H2 s2 hl h2 ht=>?_⟩
    have el:qs.length=ns.length:=by rw [ht.len]; simp [rowsL]
    have hxq:x < qs.length:=by omega
    refine ⟨_,rfl,l,_,_,_,rfl,rfl,SqL.of h2,atI_nat (v:=.ref qs[x]) (by rw [List.getElem?_map,List.getElem?_eq_getElem hxq]; rfl),k _ H2 s2 (ht.at' x _ _ (List.getElem?_eq_getElem hxq) ?_)⟩
    unfold rowsL
    rw [List.getElem?_map,List.getElem?_range hx]
    rfl
def spNPlace (K:PySem.W.Frag) (c:NC):Sp:=fun vs H Q _=>∃ (F:Addr→Prop) (p tp:Addr) (n x:Nat) (s:NS) (hx:x < s.homes.length),vs = [.ref p,.int x]∧NetAt K c H F p tp n s∧Q (.int (s.homes[x]:Nat)) H
theorem ok_Net_place {t:Ad} (T:Txt K mg t):FnOk P w K mg base CX0 2 t.f_Net_place t.d_Net_place ["self","caller"]  (spNPlace K (nc t)):=by
  refine T.F_Net_place.ok sc_Net_place (fun vs H Q E h=>?_) (fun cdv A outer s H vs Q E hr h=>?_)
  · obtain ⟨_,_,_,_,_,_,_,rfl,_⟩:=h; rfl
  · obtain ⟨F,p,tp,n,x,st,hx,rfl,N,k⟩:=h
    refine ⟨_,(pss_cons (ps_expr (pe_meth (pv 0) T.c_Net T.m_Net_check_caller (ok_Net_check_caller T) (hr.mono (by decide)) T.B_Net_check_caller .nil pass0 (pa_c (pv 1) pa_nil)))
      (pss_one (ps_ret (pe_ix ix_list (pe_fld (pv 0) rfl) (pv 1) (fun _ _=>rfl))))),?_⟩
    obtain ⟨loc,dx,q,hp,O,hF,hT⟩:=id N
    have hnet:=O.get .net _ rfl
    rw [hp] at hnet
    refine ⟨_,rfl,p,_,_,rfl,hnet,rfl,_,rfl,F,p,tp,n,x,st,rfl,N,hx,?_⟩
    exact ⟨_,rfl,p,_,_,_,_,rfl,hnet,T.c_Net,T.n_Net_homes,rfl,_,rfl,loc .homes,_,_,_,rfl,rfl,SqL.of (O.get .homes _ rfl),natsV_at hx,k⟩
def spNHad (K:PySem.W.Frag) (c:NC):Sp:=fun vs H Q _=>∃ (F:Addr→Prop) (p tp:Addr) (n x:Nat) (s:NS) (hd:List Nat),vs = [.ref p,.int x]∧NetAt K c H F p tp n s∧x < s.homes.length∧s.had[x]?=some hd∧∀ l H',Same H H'→H l=none→H' l=some (.lst (natsV hd))→Q (.ref l) H'
theorem ok_Net_had {t:Ad} (T:Txt K mg t):FnOk P w K mg base CX0 2 t.f_Net_had t.d_Net_had ["self","caller"]  (spNHad K (nc t)):=by
  refine T.F_Net_had.ok sc_Net_had (fun vs H Q E h=>?_) (fun cdv A outer s H vs Q E hr h=>?_)
  · obtain ⟨_,_,_,_,_,_,_,rfl,_⟩:=h; rfl
  · obtain ⟨F,p,tp,n,x,st,hd,rfl,N,hx,hhd,k⟩:=h
    refine ⟨_,(pss_cons (ps_expr (pe_meth (pv 0) T.c_Net T.m_Net_check_caller (ok_Net_check_caller T) (hr.mono (by decide)) T.B_Net_check_caller .nil pass0 (pa_c (pv 1) pa_nil)))
      (pss_one (ps_ret (pe_callTy call_list_of (by rfl) T.n_list boot_list (pa_c (pe_ix ix_list (pe_fld (pv 0) rfl) (pv 1) (fun _ _=>rfl)) pa_nil))))),?_⟩
    obtain ⟨loc,dx,q,hp,O,hF,hT⟩:=id N
    have hnet:=O.get .net _ rfl
    rw [hp] at hnet
    have hl:=(List.getElem?_eq_some_iff.mp hhd).1
    refine ⟨_,rfl,p,_,_,rfl,hnet,rfl,_,rfl,F,p,tp,n,x,st,rfl,N,hx,?_⟩
    refine ⟨_,rfl,p,_,_,_,_,rfl,hnet,T.c_Net,T.n_Net_handed,rfl,_,rfl,loc .handedO,_,_,_,rfl,rfl,SqL.of (O.get .handedO _ rfl),at_rng hl,loc (.handed x),_,rfl,.inl (SqL.of (O.get (.handed x) (.lst (natsV hd)) (by show (st.had[x]?.map _)=_; rw [hhd]; rfl))),fun l hl=>?_⟩
    exact k l _ (Same.new hl) hl upd_same
def spNFlying (K:PySem.W.Frag) (c:NC):Sp:=fun vs H Q _=>∃ (F:Addr→Prop) (p tp:Addr) (n:Nat) (s:NS),vs = [.ref p]∧NetAt K c H F p tp n s∧∀ l (qs:List Addr) H',Same H H'→H l=none→H' l=some (.lst (qs.map V.ref))→TsAt K H' qs (s.cps.map Cp.vs)→Q (.ref l) H'
theorem ok_Net_flying {t:Ad} (T:Txt K mg t):FnOk P w K mg base CX0 1 t.f_Net_flying t.d_Net_flying ["self"]  (spNFlying K (nc t)):=by
  refine T.F_Net_flying.ok sc_Net_flying (fun vs H Q E h=>?_) (fun cdv A outer s H vs Q E hr h=>?_)
  · obtain ⟨_,_,_,_,_,rfl,_⟩:=h; rfl
  · obtain ⟨F,p,tp,n,st,rfl,N,k⟩:=h
    refine ⟨_,(pss_one (ps_ret (pe_callTy call_list_of (by rfl) T.n_list boot_list (pa_c (pe_fld (pv 0) rfl) pa_nil)))),?_⟩
    obtain ⟨loc,dx,q,hp,O,hF,hT⟩:=id N
    have hnet:=O.get .net _ rfl
    rw [hp] at hnet
    refine ⟨_,rfl,p,_,_,_,_,rfl,hnet,T.c_Net,T.n_Net_copies,rfl,loc .copies,_,rfl,.inl (SqL.of (O.get .copies _ rfl)),fun l hl=>?_⟩
    have u:=Same.new (o:=.lst (q.cq.map V.ref)) hl
    exact k l q.cq _ u hl upd_same (hT.cps.mono fun b x=>u.seqT)
end
end K27
set_option maxHeartbeats 4000000
namespace K27
open PySem L2 TW PyProof.Rows
open RM (rowV byV byV_non byV_int)
seal L2.PE L2.PA L2.PT L2.PW L2.PS L2.PSs L2.PG L2.PGs L2.PI L2.PTs
section
variable {P:Program} {w:World} {K:PySem.W.Frag} {mg:Str→Option Value} {base:Heap}
def spNews0 (K:PySem.W.Frag) (c:NC):Sp:=fun vs H Q _=>∃ (F:Addr→Prop) (p tp:Addr) (n g:Nat) (s:NS),vs = [.ref p,.int g]∧NetAt K c H F p tp n s∧g < 3∧s.ls = []∧∀ F' H',NetAt K c H' F' p tp n { s with ts:=updN s.ts g [] }→Step H F H' F'→Q .non H'
theorem ok_Net_take_news {t:Ad} (T:Txt K mg t):FnOk P w K mg base CX0 2 t.f_Net_take_news t.d_Net_take_news ["self","group"]  (spNews0 K (nc t)):=by
  refine T.F_Net_take_news.ok sc_Net_take_news (fun vs H Q E h=>?_) (fun cdv A outer s H vs Q E hr h=>?_)
  · obtain ⟨_,_,_,_,_,_,rfl,_⟩:=h; rfl
  · obtain ⟨F,p,tp,n,g,st,rfl,⟨loc,dx,q,hp,O,hF,hT⟩,hg,hls,k⟩:=h
    refine ⟨_,(pss_cons (ps_expr (pe_meth0 (pe_ix ix_list (pe_fld (pv 0) rfl) (pv 1) (fun _ _=>rfl)) T.c_Book T.m_Book_forget (ok_Book_forget T) (hr.mono (by decide)) T.B_Book_forget .nil pass0))
      (pss_one (ps_for PassesOwn.never rfl (pi_list (pe_fld (pv 0) rfl)) (pg_name (i:=2) sc_Net_take_news.nd rfl (Or.inl rfl)) (pss_one (ps_if (pt_cmpR op_eq (pe_fld (pv 2) rfl) (pv 1) (nomark _)) (pss_one (ps_fld (pv 2) pe_bl rfl)) pss_nil))))),?_⟩
    have hnet:=O.get .net _ rfl
    rw [hp] at hnet
    refine ⟨_,rfl,p,_,_,_,_,rfl,hnet,T.c_Net,T.n_Net_books,rfl,_,rfl,loc .booksO,_,_,_,rfl,rfl,SqL.of (O.get .booksO _ rfl),at_rng hg,loc (.book g),dx (.book g),_,rfl,O.get (.book g) _ (if_pos hg),rfl,loc (.book g),loc (.notes g),st.ts g,rfl,O.bookAt hg,fun d' H1 hd' hB kp=>?_⟩
    obtain ⟨⟨dx',h1b⟩,h1d⟩:=hB
    obtain ⟨F',N',st'⟩:=net_forget hp O hF hT hg hd' h1b h1d kp
    obtain ⟨loc',dx2,q',hp',O',hF',hT'⟩:=id N'
    have hnet':=O'.get .net _ rfl
    rw [hp'] at hnet'
    have hll:H1 (loc' .letters)=some (.lst []):=by
      have:=O'.get .letters _ rfl
      rw [this]
      show some (HO.lst ((List.range st.ls.length).map _))=_
      rw [hls]
      rfl
    refine ⟨_,rfl,p,_,_,_,_,rfl,hnet',T.c_Net,T.n_Net_letters,rfl,loc' .letters,rfl,⟨_,SqL.of hll⟩,for_list (K:=K) (a:=loc' .letters) (xs:=[]) (fun i σ H2=>H2=H1∧∃ v2:Option V,σ = [some (.ref p),some (.int g),v2]) ⟨rfl,_,rfl⟩ (fun i σ H2 _ z=>by rw [z.1]; exact SqL.of hll) ?_ ?_⟩
    · rintro i y σ H2 hi _
      cases hi
    · rintro σ H2 ⟨rfl,v2,rfl⟩
      exact k F' H2 N' st'
def call0 (s:NS) (g x:Nat) (d:RM.Row):NS:=if d=s.R g x then s else { s with R:=updN s.R g (RM.upd (s.R g) x d),ts:=updN s.ts g [] }
def spNCall (K:PySem.W.Frag) (CT:Addr) (c:NC):Sp:=fun vs H Q _=>∃ (F:Addr→Prop) (p tp ln lr:Addr) (ns:List Int) (rs:List R5) (s:NS) (o:TownOk ns rs) (x g:Nat),vs = [.ref p,.int x,.int g]∧NW K c CT H F p tp ln lr ns rs s∧NSok ns rs s∧x < ns.length∧g < 3∧s.ls = [] ∧
  ∀ d F' H',RM.IsDue (N:=gNet ns rs o s.ws g) ns.length (s.R g) x d→RowFit ns.length rs.length d→NetAt K c H' F' p tp ns.length (call0 s g x d)→Step H F H' F'→Q (.bl (!decide (d=s.R g x))) H'
theorem ok_Net_call {t:Ad} (T:Txt K mg t):FnOk P w K mg base CX0 4 t.f_Net_call t.d_Net_call ["self","house","group"]  (spNCall K t.a_Town (nc t)):=by
  refine T.F_Net_call.ok sc_Net_call (fun vs H Q E h=>?_) (fun cdv A outer s H vs Q E hr h=>?_)
  · obtain ⟨_,_,_,_,_,_,_,_,_,_,_,rfl,_⟩:=h; rfl
  · obtain ⟨F,p,tp,ln,lr,ns,rs,st,ok,x,g,rfl,N,sok,hx,hg,hls,k⟩:=h
    refine ⟨_,(pss_cons (ps_set (i:=3) sc_Net_call.nd rfl (Or.inl rfl) (pe_meth (pv 0) T.c_Net T.m_Net_row_at (ok_Net_row_at T) (hr.mono (by decide)) T.B_Net_row_at .nil pass0 (pa_c (pv 1) (pa_c (pv 2) pa_nil))))
      (pss_cons (ps_set (i:=4) sc_Net_call.nd rfl (Or.inl rfl) (pe_call (ok_due T) (hr.mono (by decide)) rfl T.g_due T.F_due.kp T.B_due .nil pass0 (pa_c (pe_fld (pv 0) rfl) (pa_c (pe_meth (pv 0) T.c_Net T.m_Net_live (ok_Net_live T) (hr.mono (by decide)) T.B_Net_live .nil pass0 (pa_c (pv 2) pa_nil)) (pa_c (pe_meth (pv 0) T.c_Net T.m_Net_rows (ok_Net_rows T) (hr.mono (by decide)) T.B_Net_rows .nil pass0 (pa_c (pv 2) pa_nil)) (pa_c (pv 1) pa_nil))))))
      (pss_cons (ps_if (pt_cmpR op_eqD (pv 4) (pv 3) (nomark _)) (pss_one (ps_ret pe_bl)) pss_nil)
      (pss_cons (ps_asg (pv 4) (pg_sub (pe_ix ix_list (pe_fld (pv 0) rfl) (pv 2) (fun _ _=>rfl)) (pv 1) set_list))
      (pss_cons (ps_expr (pe_meth (pv 0) T.c_Net T.m_Net_take_news (ok_Net_take_news T) (hr.mono (by decide)) T.B_Net_take_news .nil pass0 (pa_c (pv 2) pa_nil)))
      (pss_one (ps_ret pe_bl))))))),?_⟩
    obtain ⟨loc,dx,q,hp,O,hF,hT⟩:=id N.net
    have hnet:=O.get .net _ rfl
    rw [hp] at hnet
    refine ⟨_,rfl,p,_,_,rfl,hnet,rfl,_,rfl,_,rfl,F,p,tp,ln,lr,ns,rs,st,x,g,rfl,N,hx,hg,fun q1 H1 s1 hq1=>?_⟩
    have N1:=N.mono s1
    have hnet1:=s1 _ _ hnet
    refine ⟨_,rfl,p,_,_,_,_,rfl,hnet1,T.c_Net,T.n_Net_town,rfl,?_⟩
    refine ⟨_,rfl,p,_,_,rfl,hnet1,rfl,_,rfl,F,p,tp,ln,lr,ns,rs,st,g,rfl,N1,ok,sok,hg,fun l2 H2 s2 hl2 h2=>?_⟩
    have N2:=N1.mono s2
    refine ⟨_,rfl,p,_,_,rfl,s2 _ _ hnet1,rfl,_,rfl,F,p,tp,ns.length,g,st,rfl,N2.net,hg,fun l3 qs H3 s3 hl3 h3 ht=>?_⟩
    have N3:=N2.mono s3
    refine ⟨_,rfl,tp,ln,lr,l2,l3,ns,rs,_,ok.nd,ok.ok,liveN_lt,st.R g,x,rfl,N3.town,SqL.of (s3 _ _ h2),ht.rowsAt (SqL.of h3),hx,ok.m20,(sok.fit g hg).sane,fun q4 d H4 s4 hq4 hdd=>?_⟩
    have fd:=due_fit (sok.fit g hg) hx ok.pos hdd
    have N4:=N3.mono s4
    have s14:=s2.trans (s3.trans s4)
    have s04:=s1.trans s14
    refine ⟨_,rfl,_,rfl,RM.rowD d,RM.rowD (st.R g x),RM.rowD_rep hq4,RM.rowD_rep (s14.seqT hq1),RM.rowD_lay _,RM.rowD_lay _,Nat.lt_of_le_of_lt (Nat.add_le_add_left (Nat.le_trans (Nat.min_le_left _ _) (by rw [RM.rowD_deep]; decide:(RM.rowD d).depth≤64)) _) hr.units,?_⟩
    rw [RM.rowD_eqv fd.by1 (sok.fit g hg x hx).by1]
    refine ⟨_,rfl,ite2 (fun e=>?_) (fun e=>?_)⟩
    · have e':d=st.R g x:=of_decide_eq_true e
      have:=k d F H4 hdd fd (by unfold call0; rw [if_pos e']; exact N4.net) (Step.refl' s04)
      rw [decide_eq_true e'] at this
      exact this
    · have e':¬ d=st.R g x:=fun z=>e (decide_eq_true z)
      obtain ⟨loc4,dx4,q4',hp4,O4,hF4,hT4⟩:=id N4.net
      have hnet4:=O4.get .net _ rfl
      rw [hp4] at hnet4
      have hrl:(q4'.rq g).length=ns.length:=by rw [(hT4.rows g hg).len]; simp [rowsL]
      obtain ⟨F5,N5,st5⟩:=net_row hp4 O4 hF4 hT4 hg hx hq4
      refine ⟨_,rfl,_,rfl,p,_,_,_,_,rfl,hnet4,T.c_Net,T.n_Net_rows_by_group,rfl,_,rfl,loc4 .rowsO,_,_,_,rfl,rfl,SqL.of (O4.get .rowsO _ rfl),at_rng hg,_,rfl,loc4 (.rows g),_,_,_,rfl,rfl,O4.get (.rows g) _ (if_pos hg),ixN_nat (by rw [List.length_map,hrl]; exact hx),?_⟩
      generalize upd H4 (loc4 (.rows g)) (.lst (((q4'.rq g).map V.ref).set x (.ref q4)))=H5 at N5 st5
      obtain ⟨loc5,dx5,q5,hp5,O5,hF5,hT5⟩:=id N5
      have hnet5:=O5.get .net _ rfl
      rw [hp5] at hnet5
      refine ⟨_,rfl,p,_,_,rfl,hnet5,rfl,_,rfl,F5,p,tp,ns.length,g,_,rfl,N5,hg,hls,fun F6 H6 N6 st6=>?_⟩
      have:=k d F6 H6 hdd fd (by unfold call0; rw [if_neg e']; exact N6) ((Step.refl' s04).trans (st5.trans st6))
      rw [decide_eq_false e'] at this
      exact this
end
end K27
set_option maxHeartbeats 4000000
namespace K27
open PySem L2 TW PyProof.Rows
open RM (rowV byV byV_non byV_int)
seal L2.PE L2.PA L2.PT L2.PW L2.PS L2.PSs L2.PG L2.PGs L2.PI L2.PTs
section
variable {P:Program} {w:World} {K:PySem.W.Frag} {mg:Str→Option Value} {base:Heap}
def spLose0 (K:PySem.W.Frag) (c:NC):Sp:=fun vs H Q _=>∃ (F:Addr→Prop) (p tp:Addr) (n:Nat) (i x:Int) (s:NS),vs = [.ref p,.int i,.int x]∧NetAt K c H F p tp n s∧s.cps = []∧∀ F' H',NetAt K c H' F' p tp n { s with cps:=[] }→Step H F H' F'→Q .non H'
theorem ok_Net_lose_copies {t:Ad} (T:Txt K mg t):FnOk P w K mg base CX0 1 t.f_Net_lose_copies t.d_Net_lose_copies ["self","rope","wire"]  (spLose0 K (nc t)):=by
  refine T.F_Net_lose_copies.ok sc_Net_lose_copies (fun vs H Q E h=>?_) (fun cdv A outer s H vs Q E hr h=>?_)
  · obtain ⟨_,_,_,_,_,_,_,rfl,_⟩:=h; rfl
  · obtain ⟨F,p,tp,n,i,x,st,rfl,N,hc,k⟩:=h
    refine ⟨_,(pss_cons (ps_set (i:=3) sc_Net_lose_copies.nd rfl (Or.inl rfl) (pe_lst pa_nil))
      (pss_cons (ps_for PassesOwn.never rfl (pi_list (pe_fld (pv 0) rfl)) (pg_name (i:=4) sc_Net_lose_copies.nd rfl (Or.inl rfl)) (pss_one (ps_if (pt_cmpR op_eqD (pe_slice sl_tup (pv 4) (po_some pe_int) (po_some pe_int)) (pe_tup (pa_c (pv 1) (pa_c (pv 2) pa_nil))) (nomark _)) (pss_one (ps_expr (pe_bm PySem.F.plainAttrs_list PySem.F.slot_list_append PySem.F.type_list_append mt_append (pe_fld (pe_ix ix_list (pe_fld (pv 0) rfl) (pe_ix ix_tup (pv 4) pe_int (fun _ _=>rfl)) (fun _ _=>rfl)) rfl) (pa_c (pe_tup (pa_c pe_str (pa_c (pe_ix ix_tup (pv 4) pe_int (fun _ _=>rfl)) (pa_c (pv 1) pa_nil)))) pa_nil)))) (pss_one (ps_expr (pe_bm PySem.F.plainAttrs_list PySem.F.slot_list_append PySem.F.type_list_append mt_append (pv 3) (pa_c (pv 4) pa_nil)))))))
      (pss_one (ps_fld (pv 0) (pv 3) rfl)))),?_⟩
    refine ⟨Nat.zero_le _,fun l hl=>?_⟩
    have u1:=Same.new (o:=.lst []) hl
    have h1:=upd_same (H:=H) (a:=l) (o:=.lst [])
    generalize upd H l (.lst [])=H1 at u1 h1
    have nF:¬ F l:=fun z=>by
      obtain ⟨o,e⟩:=N.there z
      rw [hl] at e
      cases e
    obtain ⟨loc,dx,q,hp,O,hF,hT⟩:=id (N.mono u1)
    have hnet:=O.get .net _ rfl
    rw [hp] at hnet
    have hcq:q.cq = []:=by
      have:=hT.cps.len
      rw [hc] at this
      exact List.length_eq_zero_iff.mp this
    have hco:H1 (loc .copies)=some (.lst []):=by
      have:=O.get .copies _ rfl
      rw [this]
      show some (HO.lst (q.cq.map V.ref))=_
      rw [hcq]
      rfl
    refine ⟨_,rfl,p,_,_,_,_,rfl,hnet,T.c_Net,T.n_Net_copies,rfl,loc .copies,rfl,⟨_,SqL.of hco⟩,for_list (K:=K) (a:=loc .copies) (xs:=[]) (fun j σ H2=>H2=H1∧∃ v4:Option V,σ = [some (.ref p),some (.int i),some (.int x),some (.ref l),v4]) ⟨rfl,_,rfl⟩ (fun j σ H2 _ z=>by rw [z.1]; exact SqL.of hco) ?_ ?_⟩
    · rintro j y σ H2 hj _
      cases hj
    · rintro σ H2 ⟨rfl,v4,rfl⟩
      obtain ⟨F',N',kp,hpF,fr⟩:=net_copies hp O hF hT (l:=l) (qs:=[]) (cps:=[]) h1 nF ⟨rfl,fun i q x e=>by cases e⟩
      refine ⟨_,rfl,_,rfl,p,_,_,_,rfl,hnet,T.c_Net,T.n_Net_copies,(by show 9 < 1000; decide),?_⟩
      refine k F' _ N' ⟨fun b o e z=>kp _ _ (u1 _ _ e) (fun y=>z (y ▸ hpF)),fun b z=>?_⟩
      rcases fr b z with y | rfl
      · exact .inl y
      · exact .inr hl
def spNewsRope0 (K:PySem.W.Frag) (CT:Addr) (c:NC):Sp:=fun vs H Q _=>∃ (F:Addr→Prop) (p tp ln lr:Addr) (ns:List Int) (rs:List R5) (s:NS) (i:Nat),vs = [.ref p,.int i]∧NW K c CT H F p tp ln lr ns rs s∧i < rs.length∧s.ls = [] ∧
  ∀ ts F' H',NW K c CT H' F' p tp ln lr ns rs { s with ts:=ts }→Step H F H' F'→(∀ g,ts g = []∨ts g=s.ts g)→Q .non H'
theorem ok_Net_take_news_of_rope {t:Ad} (T:Txt K mg t):FnOk P w K mg base CX0 3 t.f_Net_take_news_of_rope t.d_Net_take_news_of_rope ["self","rope"]  (spNewsRope0 K t.a_Town (nc t)):=by
  refine T.F_Net_take_news_of_rope.ok sc_Net_take_news_of_rope (fun vs H Q E h=>?_) (fun cdv A outer s H vs Q E hr h=>?_)
  · obtain ⟨_,_,_,_,_,_,_,_,_,rfl,_⟩:=h; rfl
  · obtain ⟨F,p,tp,ln,lr,ns,rs,st,i,rfl,N,hi,hls,k⟩:=h
    refine ⟨_,(pss_one (ps_for PassesOwn.never rfl (pi_range1 rfl T.n_range (pa_c (pe_callB call_len_seq (by rfl) T.n_len PySem.boot_len (pa_c (pe_glob rfl T.k_GROUP_BITS (v:=.ref t.a_GROUP_BITS) rfl) pa_nil)) pa_nil)) (pg_name (i:=2) sc_Net_take_news_of_rope.nd rfl (Or.inl rfl)) (pss_one (ps_if (pt_val (pe_meth (pe_fld (pv 0) rfl) T.c_Town T.m_Town_lets (ok_Town_lets T) (hr.mono (by decide)) T.B_Town_lets .nil pass0 (pa_c (pv 1) (pa_c (pv 2) pa_nil)))) (pss_one (ps_expr (pe_meth (pv 0) T.c_Net T.m_Net_take_news (ok_Net_take_news T) (hr.mono (by decide)) T.B_Net_take_news .nil pass0 (pa_c (pv 2) pa_nil)))) pss_nil)))),?_⟩
    refine ⟨_,_,rfl,.inr (T.s_GROUP_BITS _),(3:Int),rfl,by omega,by omega,?_⟩
    refine for_range (n:=3) (fun g σ H2=>∃ (ts:Nat→List T3) (F2:Addr→Prop) (v2:Option V),NW K (nc t) t.a_Town H2 F2 p tp ln lr ns rs { st with ts:=ts }∧Step H F H2 F2∧(∀ g,ts g = []∨ts g=st.ts g)∧σ = [some (.ref p),some (.int i),v2]) ⟨st.ts,F,_,N,Step.refl' (Same.refl _),fun g=>.inr rfl,rfl⟩ ?_ ?_
    · rintro g σ H2 hg ⟨ts,F2,v2,N2,st2,hts,rfl⟩
      rw [Int.zero_add]
      obtain ⟨loc,dx,q,hp,O,hF,hT⟩:=id N2.net
      obtain ⟨⟨dt,htp⟩,_⟩:=id N2.town
      have hnet:=O.get .net _ rfl
      rw [hp] at hnet
      obtain ⟨z,hz⟩:=bit3 hg
      refine ⟨_,rfl,p,_,_,_,_,rfl,hnet,T.c_Net,T.n_Net_town,rfl,tp,dt,_,rfl,htp,rfl,_,rfl,_,rfl,tp,ln,lr,ns,rs,i,rs[i],g,z,rfl,N2.town,List.getElem?_eq_getElem hi,hz,_,rfl,ite2 (fun e=>?_) (fun e=>?_)⟩
      · refine ⟨_,rfl,p,_,_,rfl,hnet,rfl,_,rfl,F2,p,tp,ns.length,g,_,rfl,N2.net,hg,hls,fun F3 H3 N3 st3=>?_⟩
        refine ⟨updN ts g [],F3,_,N2.done st3 N3,st2.trans st3,fun g'=>?_,rfl⟩
        by_cases y:g'=g
        · subst y
          exact .inl updN_same
        · rw [updN_ne y]
          exact hts g'
      · exact ⟨ts,F2,_,N2,st2,hts,rfl⟩
    · rintro σ H2 ⟨ts,F2,v2,N2,st2,hts,rfl⟩
      exact k ts F2 H2 N2 st2 hts
def spNFall0 (K:PySem.W.Frag) (CT:Addr) (c:NC):Sp:=fun vs H Q _=>∃ (F:Addr→Prop) (p tp ln lr:Addr) (ns:List Int) (rs:List R5) (s:NS) (i x:Nat) (w:List Nat),vs = [.ref p,.int i,.int x]∧NW K c CT H F p tp ln lr ns rs s∧NSok ns rs s∧s.ls = []∧s.cps = []∧s.ws[i]?=some w∧x∈w ∧
  ∀ (b:Bool) ts F' H',NW K c CT H' F' p tp ln lr ns rs { s with ws:=s.ws.set i (w.filter fun z=>decide (z≠x)),ts:=ts,cps:=[] }→Step H F H' F'→(∀ g,ts g = []∨ts g=s.ts g)→Q (.bl b) H'
theorem ok_Net_fall {t:Ad} (T:Txt K mg t):FnOk P w K mg base CX0 4 t.f_Net_fall t.d_Net_fall ["self","rope","wire"]  (spNFall0 K t.a_Town (nc t)):=by
  refine T.F_Net_fall.ok sc_Net_fall (fun vs H Q E h=>?_) (fun cdv A outer s H vs Q E hr h=>?_)
  · obtain ⟨_,_,_,_,_,_,_,_,_,_,_,rfl,_⟩:=h; rfl
  · obtain ⟨F,p,tp,ln,lr,ns,rs,st,i,x,w',rfl,N,sok,hls,hcp,hwi,hxw,k⟩:=h
    refine ⟨_,(pss_cons (ps_set (i:=3) sc_Net_fall.nd rfl (Or.inl rfl) (pe_meth (pe_fld (pv 0) rfl) T.c_Strands T.m_Strands_fall (ok_Strands_fall T) (hr.mono (by decide)) T.B_Strands_fall .nil passF (pa_c (pv 1) (pa_c (pv 2) pa_nil))))
      (pss_cons (ps_expr (pe_meth (pv 0) T.c_Net T.m_Net_lose_copies (ok_Net_lose_copies T) (hr.mono (by decide)) T.B_Net_lose_copies .nil pass0 (pa_c (pv 1) (pa_c (pv 2) pa_nil))))
      (pss_cons (ps_if (pt_val (pv 3)) (pss_one (ps_expr (pe_meth (pv 0) T.c_Net T.m_Net_take_news_of_rope (ok_Net_take_news_of_rope T) (hr.mono (by decide)) T.B_Net_take_news_of_rope .nil pass0 (pa_c (pv 1) pa_nil)))) pss_nil)
      (pss_one (ps_ret (pv 3)))))),?_⟩
    obtain ⟨loc,dx,q,hp,O,hF,hT⟩:=id N.net
    have hnet:=O.get .net _ rfl
    rw [hp] at hnet
    have hil:=(List.getElem?_eq_some_iff.mp hwi).1
    have hir:i < rs.length:=by rw [← sok.wl]; exact hil
    refine ⟨_,rfl,p,_,_,_,_,rfl,hnet,T.c_Net,T.n_Net_strands,rfl,loc .strands,dx .strands,_,rfl,O.get .strands _ rfl,rfl,_,rfl,_,rfl,loc .strands,tp,loc .upright,ln,lr,ns,rs,st.ws,i,x,rfl,N.town,O.strAt,sok.wl,sok.w4,fun j kk w2 ls a H1 ej ek hj hk hlu ha h1a h1u kp=>?_,fun z=>absurd ⟨by omega,by omega⟩ z,fun j w2 H1 ej hj hk _=>?_⟩
    case refine_2 =>
      have:j=i:=by omega
      subst this
      rw [hwi] at hj
      cases hj
      exact absurd rfl (hk x hxw)
    have:j=i:=by omega
    subst this
    have:kk=x:=by omega
    subst this
    rw [hwi] at hj
    cases hj
    obtain ⟨F1,N1,st1⟩:=net_wire hp O hF hT hil hlu ha h1a h1u kp
    have NW1:=N.done st1 N1
    obtain ⟨loc1,dx1,q1,hp1,O1,hF1,hT1⟩:=id N1
    have hnet1:=O1.get .net _ rfl
    rw [hp1] at hnet1
    dsimp only [gName]
    refine ⟨_,rfl,p,_,_,rfl,hnet1,rfl,_,rfl,_,rfl,F1,p,tp,ns.length,j,kk,_,rfl,N1,hcp,fun F2 H2 N2 st2=>?_⟩
    have NW2:=NW1.done st2 N2
    generalize (w'.filter fun z=>decide (z≠kk)).isEmpty=eb
    obtain ⟨loc2,dx2,q2,hp2,O2,hF2,hT2⟩:=id N2
    have hnet2:=O2.get .net _ rfl
    rw [hp2] at hnet2
    dsimp only
    refine ifS_by (fun σ H3=>∃ (ts:Nat→List T3) (F3:Addr→Prop),NW K (nc t) t.a_Town H3 F3 p tp ln lr ns rs { st with ws:=st.ws.set j (w'.filter fun z=>decide (z≠kk)),ts:=ts,cps:=[] }∧Step H F H3 F3∧(∀ g,ts g = []∨ts g=st.ts g)∧σ = [some (.ref p),some (.int j),some (.int kk),some (.bl eb)]) ?_ fun nx=>?_
    case refine_2 =>
      refine ⟨_,rfl,_,rfl,ite2 (fun e=>?_) (fun e=>?_)⟩
      · refine ⟨_,rfl,p,_,_,rfl,hnet2,rfl,_,rfl,F2,p,tp,ln,lr,ns,rs,_,j,rfl,NW2,hir,hls,fun ts F3 H3 N3 st3 hts=>?_⟩
        exact nx _ _ ⟨ts,F3,N3,st1.trans (st2.trans st3),hts,rfl⟩
      · exact nx _ _ ⟨st.ts,F2,NW2,st1.trans st2,fun g=>.inr rfl,rfl⟩
    rintro σ H3 ⟨ts,F3,N3,st3,hts,rfl⟩
    exact ⟨_,rfl,k eb ts F3 H3 N3 st3 hts⟩
end
end K27
set_option maxHeartbeats 4000000
namespace K27
open PySem L2 TW PyProof.Rows
open RM (rowV byV byV_non byV_int)
seal L2.PE L2.PA L2.PT L2.PW L2.PS L2.PSs L2.PG L2.PGs L2.PI L2.PTs
section
variable {P:Program} {w:World} {K:PySem.W.Frag} {mg:Str→Option Value} {base:Heap}
def spList (K:PySem.W.Frag):Sp:=fun vs H Q _=>∃ (l l':Addr) (ks:List Nat),vs = [.ref l,.ref l']∧SqL K H l (natsV ks)∧SqL K H l' (natsV ks)∧ks.length≤100∧∀ H',Same H H'→Q (.bl true) H'
theorem ok_w_list {t:Ad} (T:Txt K mg t):FnOk P w K mg base CX0 2 t.f_w_list t.d_w_list ["_law_found","_law_ought"]  (spList K):=by
  refine T.F_w_list.ok sc_w_list (fun vs H Q E h=>?_) (fun cdv A outer s H vs Q E hr h=>?_)
  · obtain ⟨_,_,_,rfl,_⟩:=h; rfl
  · obtain ⟨l,l',ks,rfl,hL,hL',h100,k⟩:=h
    refine ⟨_,(pss_one (ps_ret (pe_and (pe_callB call_isiL (by rfl) T.n_isinstance boot_isinstance (pa_c (pv 0) (pa_c (pe_bltn rfl T.n_list boot_list (v:=.ty "list") rfl) pa_nil))) (pe_and (pe_callB (call_all rfl) (by rfl) T.n_all boot_all (pa_c (pe_comp (compOk_of (dsc:=defScope s_w_list) (N0:=["_law_found","_law_ought"]) (N2:=["_law_one"]) (cap:=[none]) rfl rfl (by decide +kernel)) rfl (pi_list (pv 0)) (fun _ _ _ _=>by exact (pg_name (i:=0) nd_w_list_c0 rfl (Or.inl rfl))) (fun _ _ _ _=>by exact pts_nil) (fun _ _ _ _=>by exact (pe_call (ok_w_whole T) (hr.mono (by decide)) rfl T.g_w_whole T.F_w_whole.kp T.B_w_whole .nil pass0 (pa_c (pv 0) pa_nil)))) pa_nil)) (pe_one (pe_cmpR op_eqD (pv 0) (pv 1) (nomark _))))))),?_⟩
    refine ⟨_,rfl,l,_,_,_,rfl,hL,rfl,_,rfl,iteT ?_⟩
    refine ⟨_,rfl,l,rfl,⟨_,hL⟩,fun acc hacc=>?_⟩
    refine comp_by (n:=(natsV ks).length) (fun i ys _=>∃ bs:List Bool,ys=bs.map V.bl∧bs.length=i∧bs.all id=true) hacc (itl_go hL) (itl_stop hL) ⟨[],rfl,rfl,rfl⟩ ?_ ?_
    · rintro i ys H3 hi s3 hy ⟨bs,rfl,hbl,hba⟩ x H4 ⟨rfl,hx⟩
      have hx:=hx _ (s3.seq hL)
      have hi':i < ks.length:=by rw [List.length_map] at hi; exact hi
      rw [List.getElem?_map,List.getElem?_eq_getElem hi'] at hx
      cases hx
      refine ⟨_,rfl,_,rfl,?_⟩
      exact comp_add hacc hi s3 hy (by rw [List.length_map]; exact small1000 (by omega)) ⟨bs++[true],by simp,by simp [hbl],by simp [hba]⟩
    · rintro ys H3 s3 hy ⟨bs,rfl,hbl,hba⟩
      refine ⟨acc,bs,rfl,SqL.of hy,_,rfl,?_⟩
      rw [hba]
      refine iteT ?_
      have r1:Rep K H3 (.list ((ks.map fun k:Nat=>(k:Int)).map .int)) (.ref l):=⟨l,_,rfl,s3.seq hL,(by rw [natsV_ints]; exact repAll_ints _)⟩
      have r2:Rep K H3 (.list ((ks.map fun k:Nat=>(k:Int)).map .int)) (.ref l'):=⟨l',_,rfl,s3.seq hL',(by rw [natsV_ints]; exact repAll_ints _)⟩
      refine ⟨_,rfl,_,rfl,_,_,r1,r2,ints_lay _,ints_lay _,Nat.lt_of_le_of_lt (Nat.add_le_add_left (Nat.le_trans (Nat.min_le_left _ _) ?_) _) hr.units,?_⟩
      · show PyData.depthAll ((ks.map fun k:Nat=>(k:Int)).map .int) + 1≤64
        rw [ints_deep]
        decide
      · rw [SeqAt.eqv_refl (.list ((ks.map fun k:Nat=>(k:Int)).map .int)) (ints_lay _)]
        exact k _ s3
end
end K27
set_option maxHeartbeats 4000000
namespace K27
open PySem L2 TW PyProof.Rows
open RM (rowV byV byV_non byV_int)
seal L2.PE L2.PA L2.PT L2.PW L2.PS L2.PSs L2.PG L2.PGs L2.PI L2.PTs
section
variable {P:Program} {w:World} {K:PySem.W.Frag} {mg:Str→Option Value} {base:Heap}
theorem lets_and {e:Int} {g:Nat} (h1:1≤e) (h7:e≤7) (hg:g < 3):decide (V.int (Builtin.bitAnd (e / 2 ^ g) 1)=V.int 1)=letsB e g:=by
  obtain ⟨k,rfl⟩ : ∃ k:Nat,e=(k:Int):=⟨e.toNat,by omega⟩
  have key:∀ a:Fin 8,∀ b:Fin 3,decide (V.int (Builtin.bitAnd (((a:Nat):Int) / 2 ^ (b:Nat)) 1)=V.int 1)=letsB ((a:Nat):Int) b:=by decide
  exact key ⟨k,by omega⟩ ⟨g,hg⟩
theorem inV_true (b:List Bool):inV (.bl true) (b.map V.bl)=b.any id:=by
  unfold inV
  induction b with
  | nil=>rfl
  | cons e es ih =>
    rw [List.map_cons,List.any_cons,List.any_cons,ih]
    cases e <;> rfl
theorem bls_flat (b:List Bool):(b.map V.bl).all flatV=true:=by
  rw [List.all_eq_true]
  intro x hx
  obtain ⟨e,_,rfl⟩:=List.mem_map.mp hx
  rfl
def spWLive (K:PySem.W.Frag):Sp:=fun vs H Q _=>∃ (b0 ls:Addr) (rs:List R5) (lis:List Addr) (bs:List (List Bool)) (g:Nat),vs = [.ref b0,.ref ls,.int g]∧RopL K H b0 rs∧Sts H ls lis bs∧bs.length=rs.length∧rs.length≤20∧(∀ r∈rs,1≤r.e∧r.e≤7)∧g < 3 ∧
  ∀ l H',Same H H'→H l=none→H' l=some (.lst (natsV (liveTo rs (bs.map stand) g rs.length)))→Q (.ref l) H'
theorem ok_w_live {t:Ad} (T:Txt K mg t):FnOk P w K mg base CX0 1 t.f_w_live t.d_w_live ["_law_ropes_here","_law_stood","_law_group"]  (spWLive K):=by
  refine T.F_w_live.ok sc_w_live (fun vs H Q E h=>?_) (fun cdv A outer s H vs Q E hr h=>?_)
  · obtain ⟨_,_,_,_,_,_,rfl,_⟩:=h; rfl
  · obtain ⟨b0,ls,rs,lis,bs,g,rfl,⟨qs,hb0,hqs⟩,hX,eb,h20,he7,hg,k⟩:=h
    have eus:qs.length=rs.length:=by rw [hqs.len,List.length_map]
    refine ⟨_,(pss_one (ps_ret (pe_comp (compOk_of (dsc:=defScope s_w_live) (N0:=["_law_ropes_here","_law_stood","_law_group"]) (N2:=["_law_k","_law_group","_law_ropes_here","_law_stood"]) (cap:=[none,some 2,some 0,some 1]) rfl rfl (by decide +kernel)) rfl (pi_range1 rfl T.n_range (pa_c (pe_callB call_len_seq (by rfl) T.n_len PySem.boot_len (pa_c (pv 0) pa_nil)) pa_nil)) (fun _ _ _ _=>by exact (pg_name (i:=0) nd_w_live_c0 rfl (Or.inl rfl))) (fun _ _ _ _=>by exact (pts_one (PW.pt (pw_and (pt_cmpR (op_in_seqK K rfl) pe_bl (pe_ix (ix_listK K rfl) (pv 3) (pv 0) (fun _ _=>rfl)) (by with_unfolding_all rfl)) (pw_and1 (pt_cmpR op_eq (pe_op op_and (pe_op op_shr (pe_ix (ix_tupK K rfl) (pe_ix (ix_listK K rfl) (pv 2) (pv 0) (fun _ _=>rfl)) pe_int (fun _ _=>rfl)) (pv 1)) pe_int) pe_int (nomark _))))))) (fun _ _ _ _=>by exact (pv 0))))),?_⟩
    refine ⟨_,rfl,b0,_,rfl,.inl (SqL.of hb0),_,rfl,(by show -(2 ^ 62)≤(((qs.map V.ref).length:Nat):Int); omega),(by show (((qs.map V.ref).length:Nat):Int) < 2 ^ 62; rw [List.length_map]; omega),fun acc hacc=>?_⟩
    refine comp_by (n:=((((qs.map V.ref).length:Nat):Int)).toNat) (fun i ys _=>ys=natsV (liveTo rs (bs.map stand) g i)) hacc itr_go itr_stop rfl ?_ ?_
    · rintro i ys H2 hi s2 hy rfl x H3 ⟨rfl,rfl⟩
      have hi0:i < (qs.map V.ref).length:=by simpa using hi
      have hi':i < rs.length:=by rw [List.length_map] at hi0; omega
      have hir:rs[i]?=some rs[i]:=List.getElem?_eq_getElem hi'
      have hib:bs[i]?=some bs[i]:=List.getElem?_eq_getElem (by omega)
      have hXl:=hX.len
      have hil:lis[i]?=some lis[i]:=List.getElem?_eq_getElem (by omega)
      have hl8:(natsV (liveTo rs (bs.map stand) g i)).length < sizeLine:=by rw [List.length_map]; exact small1000 (by have:=liveTo_len rs (bs.map stand) g i; omega)
      have eL:isLive rs (bs.map stand) g i=((!(stand bs[i]).isEmpty) && letsB (rs[i]).e g):=by unfold isLive; rw [hir,List.getElem?_map,hib]; rfl
      have hq:(qs.map V.ref)[i]?=some (V.ref (qs[i]'(by omega))):=by rw [List.getElem?_map,List.getElem?_eq_getElem]; rfl
      have hqt:=hqs.at' i (qs[i]'(by omega)) (rs[i]).vs (List.getElem?_eq_getElem _) (by rw [List.getElem?_map,hir]; rfl)
      refine ⟨_,rfl,_,rfl,ls,_,_,V.ref lis[i],rfl,rfl,SqL.of (s2 _ _ hX.at_),(by rw [Int.zero_add]; exact atI_nat (by rw [List.getElem?_map,hil]; rfl)),lis[i],_,rfl,.inl (SqL.of (s2 _ _ (hX.it i _ _ hil hib))),rfl,bls_flat _,_,rfl,?_⟩
      dsimp only
      rw [if_neg Bool.false_ne_true,inV_true,any_stand]
      cases es:stand bs[i] with
      | nil =>
        refine iteF (comp_skip hi s2 hy ?_)
        rw [liveTo_succ,eL,es]
        simp
      | cons y0 r0 =>
        refine iteT ?_
        refine ⟨_,rfl,_,rfl,b0,_,_,_,rfl,rfl,SqL.of (s2 _ _ hb0),(by rw [Int.zero_add]; exact atI_nat hq),_,_,_,_,rfl,rfl,s2.seqT hqt,rfl,_,rfl,_,_,rfl,rfl,(by show (0:Int)≤(g:Nat); omega),_,_,rfl,rfl,rfl,_,rfl,?_⟩
        dsimp only
        rw [Int.toNat_natCast,lets_and (he7 _ (List.getElem_mem hi')).1 (he7 _ (List.getElem_mem hi')).2 hg]
        cases eb:letsB rs[i].e g with
        | true =>
          refine iteT ⟨_,rfl,comp_add hacc hi s2 hy hl8 ?_⟩
          rw [liveTo_succ,eL,es,eb,Int.zero_add]
          exact (natsV_snoc _ _).symm
        | false =>
          refine iteF (comp_skip hi s2 hy ?_)
          rw [liveTo_succ,eL,es,eb]
          simp
    · rintro ys H2 s2 hy rfl
      exact k acc H2 s2 hacc (by rw [hy,Int.toNat_natCast,List.length_map,eus])
end
end K27
set_option maxHeartbeats 4000000
namespace K27
open PySem L2 TW PyProof.Rows
open RM (rowV byV byV_non byV_int)
seal L2.PE L2.PA L2.PT L2.PW L2.PS L2.PSs L2.PG L2.PGs L2.PI L2.PTs
section
variable {P:Program} {w:World} {K:PySem.W.Frag} {mg:Str→Option Value} {base:Heap}
theorem or2 {b1:Bool} {A R:Prop} (at_:Prop) (hA:at_→A) (h1:b1=true→at_) (hR:(at_→A)→¬ b1=true→R):if b1=true then A else R:=ite2 (fun e=>hA (h1 e)) (fun e=>hR hA e)
def spWDue (K:PySem.W.Frag):Sp:=fun vs H Q _=>∃ (a b c rb:Addr) (ns:List Int) (rs:List R5) (live:List Nat) (nd:ns.Nodup) (ok:∀ r∈rs,r.Ok ns.length) (hl:∀ k∈live,k < rs.length) (R:Nat→RM.Row) (h:Nat),vs = [.ref a,.ref b,.ref c,.ref rb,.int h]∧SqL K H a (ns.map V.int)∧RopL K H b rs∧SqL K H c (natsV live)∧RowsAt K H rb ns.length R∧h < ns.length∧RM.Sane (townNet ns rs live nd ok hl) R ∧
  ∀ q d H',Same H H'→SqT K H' q (rowV d)→RM.IsDue (N:=townNet ns rs live nd ok hl) ns.length R h d→Q (.ref q) H'
theorem ok_w_due {t:Ad} (T:Txt K mg t):FnOk P w K mg base CX0 1 t.f_w_due t.d_w_due ["_law_names_here","_law_ropes_here","_law_live_here","_law_rows","_law_house"]  (spWDue K):=by
  refine T.F_w_due.ok sc_w_due (fun vs H Q E h=>?_) (fun cdv A outer s H vs Q E hr h=>?_)
  · obtain ⟨_,_,_,_,_,_,_,_,_,_,_,_,rfl,_⟩:=h; rfl
  · obtain ⟨a,b,c,rb,ns,rs,live,nd,ok,hlv,R,x,rfl,hA,hR,hC,hRw,hx,sane,k⟩:=h
    obtain ⟨us,hL,hqs⟩:=id hR
    have el:us.length=rs.length:=by rw [hqs.len,List.length_map]
    have hg:∀ (i:Nat) r,rs[i]?=some r→∃ p,(us.map V.ref)[i]?=some (.ref p)∧SqT K H p r.vs:=fun i r e=>by
      have hi:i < us.length:=by have:=(List.getElem?_eq_some_iff.mp e).1; omega
      exact ⟨us[i],by rw [List.getElem?_map,List.getElem?_eq_getElem hi]; rfl,hqs.at' i _ _ (List.getElem?_eq_getElem hi) (by rw [List.getElem?_map,e]; rfl)⟩
    obtain ⟨ps,hP,ePs,hrow⟩:=id hRw
    refine ⟨_,(pss_cons (ps_set (i:=5) sc_w_due.nd rfl (Or.inl rfl) (pe_tup (pa_c (pe_ix ix_list (pv 0) (pv 4) (fun _ _=>rfl)) (pa_c pe_int (pa_c pe_int (pa_c pe_non pa_nil))))))
      (pss_cons (ps_for PassesOwn.never rfl (pi_list (pv 2)) (pg_name (i:=6) sc_w_due.nd rfl (Or.inl rfl)) (pss_cons (ps_asg (pe_slice sl_tup (pe_ix ix_list (pv 1) (pv 6) (fun _ _=>rfl)) po_none (po_some pe_int)) (pg_tup (n:=3) rfl (pgs_cons (pg_name (i:=7) sc_w_due.nd rfl (Or.inl rfl)) (pgs_cons (pg_name (i:=8) sc_w_due.nd rfl (Or.inl rfl)) (pgs_cons (pg_name (i:=9) sc_w_due.nd rfl (Or.inl rfl)) pgs_nil)))))
      (pss_one (ps_if (PW.pt (pw_or (pt_cmpR op_eq (pv 4) (pv 7) (nomark _)) (pw_or1 (pt_cmpR op_eq (pv 4) (pv 8) (nomark _))))) (pss_cons (ps_set (i:=10) sc_w_due.nd rfl (Or.inl rfl) (pe_ix ix_list (pv 3) (pe_op op_sub (pe_op op_add (pv 7) (pv 8)) (pv 4)) (fun _ _=>rfl)))
      (pss_one (ps_if (pt_cmpR op_lt (pe_op op_add (pe_ix ix_tup (pv 10) pe_int (fun _ _=>rfl)) pe_int) (pe_callB call_len_seq (by rfl) T.n_len PySem.boot_len (pa_c (pv 0) pa_nil)) (nomark _)) (pss_one (ps_set (i:=5) sc_w_due.nd rfl (Or.inl rfl) (pe_callB (call_minR2 rfl (hu_of hr)) (by rfl) T.n_min boot_min (pa_c (pv 5) (pa_c (pe_tup (pa_c (pe_ix ix_tup (pv 10) pe_int (fun _ _=>rfl)) (pa_c (pe_op op_add (pe_ix ix_tup (pv 10) pe_int (fun _ _=>rfl)) (pv 9)) (pa_c (pe_op op_add (pe_ix ix_tup (pv 10) pe_int (fun _ _=>rfl)) pe_int) (pa_c (pv 6) pa_nil))))) pa_nil))))) pss_nil))) pss_nil))))
      (pss_one (ps_ret (pv 5))))),?_⟩
    have hatn:atI (ns.map V.int) (x:Int)=some (.int ns[x]):=atI_nat (by rw [List.getElem?_map,List.getElem?_eq_getElem hx]; rfl)
    refine ⟨_,rfl,_,rfl,ixL_mk hA hatn ⟨(by show 4≤sizeLine; decide),fun p0 hp0=>?_⟩⟩
    have u0:=Same.new (o:=.tup [V.int ns[x],V.int 0,V.int 0,V.non]) hp0
    have hown:SqT K (upd H p0 (.tup [V.int ns[x],V.int 0,V.int 0,V.non])) p0 (rowV (RM.own (townNet ns rs live nd ok hlv) x)):=by
      unfold RM.own
      rw [nm_at hx]
      exact SqT.of upd_same
    refine ⟨_,rfl,c,rfl,⟨_,u0.seq hC⟩,for_listN (K:=K) (a:=c) (xs:=natsV live) (fun j σ H2=>Same H H2∧∃ (q:Addr) (d:RM.Row) (v6 v7 v8 v9 v10:Option V),σ = [some (.ref a),some (.ref b),some (.ref c),some (.ref rb),some (.int (x:Nat)),some (.ref q),v6,v7,v8,v9,v10]∧SqT K H2 q (rowV d) ∧
      (d=RM.own (townNet ns rs live nd ok hlv) x∨∃ kk g,RM.Adj (townNet ns rs live nd ok hlv) kk x g∧(R g).ho + 1 < ns.length∧d=RM.over (townNet ns rs live nd ok hlv) kk (R g))∧RM.le d (RM.own (townNet ns rs live nd ok hlv) x) ∧
      ∀ kk g,kk∈live.take j→RM.Adj (townNet ns rs live nd ok hlv) kk x g→(R g).ho + 1 < ns.length→RM.le d (RM.over (townNet ns rs live nd ok hlv) kk (R g)))
      ⟨u0,p0,RM.own (townNet ns rs live nd ok hlv) x,_,_,_,_,_,rfl,hown,.inl rfl,RM.le_refl _,fun kk g he=>by simp at he⟩ (fun j σ H2 _ z=>z.1.seq hC) ?_ ?_⟩
    · rintro j y σ H2 Nx hNx hj ⟨s2,q,d,v6,v7,v8,v9,v10,rfl,hq,d1,d2,d3⟩
      have hjl:j < live.length:=by
        have:=(List.getElem?_eq_some_iff.mp hj).1
        rw [List.length_map] at this
        exact this
      rw [List.getElem?_map,List.getElem?_eq_getElem hjl] at hj
      cases hj
      have et:live.take (j + 1)=live.take j++[live[j]]:=by rw [List.take_add_one,List.getElem?_eq_getElem hjl]; rfl
      have hc:live[j]∈live:=List.getElem_mem hjl
      rw [et] at hNx
      show gName 6 (V.int ((live[j]:Nat):Int)) _ _ _
      generalize live[j]=kk at hc hNx
      have hkl:=hlv kk hc
      have hrk:rs[kk]?=some rs[kk]:=List.getElem?_eq_getElem hkl
      obtain ⟨pt,hp,hpt⟩:=hg kk _ hrk
      have hatk:atI (us.map V.ref) (kk:Int)=some (.ref pt):=atI_nat hp
      have nw:¬ (HT.sIx (rs[kk]).vs.length 0 none=0∧HT.sIx (rs[kk]).vs.length (rs[kk]).vs.length (some 3)=(rs[kk]).vs.length):=fun z=>absurd z.2 (by show HT.sIx 5 5 (some 3)≠5; decide)
      have ct:cutV (rs[kk]).vs none (some 3) = [V.int rs[kk].a,V.int rs[kk].b,V.int rs[kk].c]:=rfl
      refine ⟨_,rfl,_,rfl,ixL_mk (SqL.of (s2 _ _ hL)) hatk ⟨_,rfl,pt,_,rfl,s2.seqT hpt,nw,fun z1 hz1=>?_⟩⟩
      rw [ct]
      have u1:=Same.new (o:=.tup [V.int rs[kk].a,V.int rs[kk].b,V.int rs[kk].c]) hz1
      refine ⟨z1,_,rfl,SqT.of upd_same,rfl,_,_,rfl,_,_,rfl,_,_,rfl,rfl,?_⟩
      have s3:=s2.trans u1
      have hq3:=u1.seqT hq
      generalize upd H2 z1 (.tup [V.int rs[kk].a,V.int rs[kk].b,V.int rs[kk].c])=H3 at s3 hq3
      clear u1 hz1
      have eat:isAt rs (x:Int) kk=(decide ((x:Int)=rs[kk].a) || decide ((x:Int)=rs[kk].b)):=by
        unfold isAt
        rw [hrk]
      refine ⟨_,rfl,_,rfl,rfl,_,rfl,or2 (isAt rs (x:Int) kk=true) (fun hat=>?_) (fun e=>by rw [eat,decide_eq_true (V.int.inj (of_decide_eq_true e))]; rfl) (fun thn e=>⟨_,rfl,_,rfl,rfl,_,rfl,ite2 (fun e'=>thn (by rw [eat,decide_eq_true (V.int.inj (of_decide_eq_true e'))]; exact Bool.or_true _)) (fun e'=>?_)⟩)⟩
      case refine_2 =>
        have hat:¬ isAt rs (x:Int) kk=true:=by
          rw [eat,decide_eq_false (fun z=>e (decide_eq_true (congrArg V.int z))),decide_eq_false (fun z=>e' (decide_eq_true (congrArg V.int z)))]
          exact Bool.false_ne_true
        refine hNx _ _ ⟨s3,q,d,_,_,_,_,_,rfl,hq3,d1,d2,fun k' g hk' adj hcut=>?_⟩
        rcases List.mem_append.mp hk' with z | z
        · exact d3 k' g z adj hcut
        · rw [List.mem_singleton.mp z] at adj
          exact absurd ((adj_far hc).mp adj).1 hat
      have adj:RM.Adj (townNet ns rs live nd ok hlv) kk x (farOf rs[kk] x):=(adj_far hc).mpr ⟨hat,rfl⟩
      have hgn:farOf rs[kk] x < ns.length:=far_lt hkl ok
      have hgs:=sane _ hgn
      have ofar:=far_sum hkl ok hat
      have ecost:=net_c (ns:=ns) (live:=live) (nd:=nd) (ok:=ok) (hl:=hlv) hkl
      have fu:∀ g,RM.Adj (townNet ns rs live nd ok hlv) kk x g→g=farOf rs[kk] x:=fun g a=>((adj_far hc).mp a).2
      generalize farOf rs[kk] x=g at adj hgn hgs ofar fu
      have hpg:ps[g]?=some ps[g]:=List.getElem?_eq_getElem (by omega)
      have hatg:atI (ps.map V.ref) (rs[kk].a + rs[kk].b - (x:Int))=some (.ref ps[g]):=by rw [ofar]; exact atI_nat (by rw [List.getElem?_map,hpg]; rfl)
      have hrg:=s3.seqT (hrow g _ hpg)
      refine ⟨_,rfl,_,rfl,_,rfl,_,_,rfl,rfl,_,rfl,_,_,rfl,rfl,ixL_mk (s3.seq hP) hatg ?_⟩
      refine ⟨_,rfl,ixTc_mk hrg rfl ⟨_,_,rfl,rfl,_,rfl,a,_,rfl,.inl (s3.seq hA),_,_,rfl,rfl,_,rfl,?_⟩⟩
      rw [List.length_map]
      refine ite2 (fun hcut=>?_) (fun hcut=>?_)
      case refine_2 =>
        have hcut:¬ (R g).ho + 1 < (ns.length:Int):=of_decide_eq_false (eq_false_of_ne_true hcut)
        refine hNx _ _ ⟨s3,q,d,_,_,_,_,_,rfl,hq3,d1,d2,fun k' g' hk' a' hcut'=>?_⟩
        rcases List.mem_append.mp hk' with z | z
        · exact d3 k' g' z a' hcut'
        · rw [List.mem_singleton.mp z] at a'
          rw [fu g' a'] at hcut'
          exact absurd hcut' hcut
      have hcut:(R g).ho + 1 < (ns.length:Int):=of_decide_eq_true hcut
      refine ⟨_,rfl,_,rfl,ixTc_mk hrg rfl ⟨_,rfl,ixTc_mk hrg rfl ⟨_,rfl,_,_,rfl,rfl,_,rfl,ixTc_mk hrg rfl ⟨_,_,rfl,rfl,_,rfl,(by show 4≤sizeLine; decide),fun u hu=>?_⟩⟩⟩⟩
      have u3:=Same.new (o:=.tup [V.int (R g).hd,V.int ((R g).co + rs[kk].c),V.int ((R g).ho + 1),V.int (kk:Nat)]) hu
      have hu':SqT K (upd H3 u (.tup [V.int (R g).hd,V.int ((R g).co + rs[kk].c),V.int ((R g).ho + 1),V.int (kk:Nat)])) u (rowV (RM.over (townNet ns rs live nd ok hlv) kk (R g))):=by
        refine SqT.of ?_
        rw [upd_same]
        show _=some (HO.tup [V.int (R g).hd,V.int ((R g).co + (townNet ns rs live nd ok hlv).c kk),V.int ((R g).ho + 1),byV ((kk:Nat):Int)])
        rw [ecost,byV_int (by omega)]
      have hq4:=u3.seqT hq3
      have s4:=s3.trans u3
      generalize upd H3 u (.tup [V.int (R g).hd,V.int ((R g).co + rs[kk].c),V.int ((R g).ho + 1),V.int (kk:Nat)])=H4 at hu' hq4 s4
      have lex:LexR (rowV (RM.over (townNet ns rs live nd ok hlv) kk (R g))) (rowV d) (decide (RM.lt (RM.over (townNet ns rs live nd ok hlv) kk (R g)) d)):=RM.rowLex (by
        rcases d1 with z | ⟨k',g',_,_,z⟩
        · rw [z]
          refine .inr (.inr (.inl ?_))
          show (R g).ho + 1≠0
          omega
        · rw [z]
          refine .inr (.inr (.inr ⟨?_,?_⟩))
          · show (0:Int)≤(kk:Nat); omega
          · show (0:Int)≤(k':Nat); omega)
      refine ⟨q,u,_,_,_,rfl,hq4,hu',rfl,lex,?_⟩
      by_cases hlt:RM.lt (RM.over (townNet ns rs live nd ok hlv) kk (R g)) d
      · rw [decide_eq_true hlt,if_pos rfl]
        refine hNx _ _ ⟨s4,u,_,_,_,_,_,_,rfl,hu',.inr ⟨kk,g,adj,hcut,rfl⟩,RM.le_trans (RM.lt_le hlt) d2,fun k' g' hk' a' hcut'=>?_⟩
        rcases List.mem_append.mp hk' with z | z
        · exact RM.le_trans (RM.lt_le hlt) (d3 k' g' z a' hcut')
        · rw [List.mem_singleton.mp z] at a' ⊢
          rw [fu g' a']
          exact RM.le_refl _
      · rw [decide_eq_false hlt,if_neg Bool.false_ne_true]
        refine hNx _ _ ⟨s4,q,d,_,_,_,_,_,rfl,hq4,d1,d2,fun k' g' hk' a' hcut'=>?_⟩
        rcases List.mem_append.mp hk' with z | z
        · exact d3 k' g' z a' hcut'
        · rw [List.mem_singleton.mp z] at a' ⊢
          rw [fu g' a']
          exact hlt
    · rintro σ H2 ⟨s2,q,d,v6,v7,v8,v9,v10,rfl,hq,d1,d2,d3⟩
      rw [List.length_map,List.take_of_length_le (Nat.le_refl _)] at d3
      exact ⟨_,rfl,k q d H2 s2 hq ⟨d1,d2,fun kk g adj hcut=>d3 kk g adj.1 adj hcut⟩⟩
end
end K27
set_option maxHeartbeats 4000000
namespace K27
open PySem L2 TW PyProof.Rows
open RM (rowV byV byV_non byV_int)
seal L2.PE L2.PA L2.PT L2.PW L2.PS L2.PSs L2.PG L2.PGs L2.PI L2.PTs
section
variable {P:Program} {w:World} {K:PySem.W.Frag} {mg:Str→Option Value} {base:Heap}
def spRowsSame (K:PySem.W.Frag):Sp:=fun vs H Q _=>∃ (l1 l2:Addr) (n:Nat) (R:Nat→RM.Row),vs = [.ref l1,.ref l2]∧RowsAt K H l1 n R∧RowsAt K H l2 n R∧n≤20∧∀ H',Same H H'→Q (.bl true) H'
theorem ok_w_rows_same {t:Ad} (T:Txt K mg t):FnOk P w K mg base CX0 2 t.f_w_rows_same t.d_w_rows_same ["_law_found","_law_ought"]  (spRowsSame K):=by
  refine T.F_w_rows_same.ok sc_w_rows_same (fun vs H Q E h=>?_) (fun cdv A outer s H vs Q E hr h=>?_)
  · obtain ⟨_,_,_,_,rfl,_⟩:=h; rfl
  · obtain ⟨l1,l2,n,R,rfl,⟨ps,hA,eA,iA⟩,⟨us,hB,eB,iB⟩,hn,k⟩:=h
    refine ⟨_,(pss_cons (ps_if (PW.pt (pw_or (pt_not (pt_val (pe_callB call_isiL (by rfl) T.n_isinstance boot_isinstance (pa_c (pv 0) (pa_c (pe_bltn rfl T.n_list boot_list (v:=.ty "list") rfl) pa_nil))))) (pw_or1 (pt_cmpR op_ne (pe_callB call_len_seq (by rfl) T.n_len PySem.boot_len (pa_c (pv 0) pa_nil)) (pe_callB call_len_seq (by rfl) T.n_len PySem.boot_len (pa_c (pv 1) pa_nil)) (nomark _))))) (pss_one (ps_ret pe_bl)) pss_nil)
      (pss_cons (ps_for PassesOwn.never rfl (pi_zip rfl T.n_zip (pa_c (pv 0) (pa_c (pv 1) pa_nil))) (pg_tup (n:=2) rfl (pgs_cons (pg_name (i:=2) sc_w_rows_same.nd rfl (Or.inl rfl)) (pgs_cons (pg_name (i:=3) sc_w_rows_same.nd rfl (Or.inl rfl)) pgs_nil))) (pss_cons (ps_if (PW.pt (pw_or (pt_not (pt_val (pe_callB call_isiT (by rfl) T.n_isinstance boot_isinstance (pa_c (pv 2) (pa_c (pe_bltn rfl T.n_tuple boot_tuple (v:=.ty "tuple") rfl) pa_nil))))) (pw_or (pt_cmpR op_ne (pe_callB call_len_seq (by rfl) T.n_len PySem.boot_len (pa_c (pv 2) pa_nil)) pe_int (nomark _)) (pw_or1 (pt_cmpR op_neD (pv 2) (pv 3) (nomark _)))))) (pss_one (ps_ret pe_bl)) pss_nil)
      (pss_one (ps_if (PW.pt (pw_or (pt_not (pt_val (pe_callB (call_all rfl) (by rfl) T.n_all boot_all (pa_c (pe_comp (compOk_of (dsc:=defScope s_w_rows_same) (N0:=["_law_found","_law_ought","_law_row","_law_other"]) (N2:=["_law_one"]) (cap:=[none]) rfl rfl (by decide +kernel)) rfl (pi_tup (pe_slice sl_tup (pv 2) po_none (po_some pe_int))) (fun _ _ _ _=>by exact (pg_name (i:=0) nd_w_rows_same_c0 rfl (Or.inl rfl))) (fun _ _ _ _=>by exact pts_nil) (fun _ _ _ _=>by exact (pe_call (ok_w_whole T) (hr.mono (by decide)) rfl T.g_w_whole T.F_w_whole.kp T.B_w_whole .nil pass0 (pa_c (pv 0) pa_nil)))) pa_nil)))) (pw_or1 (PW.pt (pw_and (pt_cmpR op_notN (pe_ix ix_tup (pv 2) pe_int (fun _ _=>rfl)) pe_non (nomark _)) (pw_and1 (pt_not (pt_val (pe_call (ok_w_whole T) (hr.mono (by decide)) rfl T.g_w_whole T.F_w_whole.kp T.B_w_whole .nil pass0 (pa_c (pe_ix ix_tup (pv 2) pe_int (fun _ _=>rfl)) pa_nil)))))))))) (pss_one (ps_ret pe_bl)) pss_nil))))
      (pss_one (ps_ret pe_bl)))),?_⟩
    refine ⟨_,rfl,l1,_,_,_,rfl,hA,rfl,_,rfl,iteF ?_⟩
    refine ⟨_,rfl,l1,_,rfl,.inl hA,_,rfl,l2,_,rfl,.inl hB,rfl,_,rfl,?_⟩
    rw [List.length_map,List.length_map,eA,eB]
    simp only [decide_true,Bool.not_true]
    refine iteF ?_
    refine ⟨_,rfl,_,rfl,l1,l2,_,_,rfl,hA,hB,?_⟩
    refine for_zip (K:=K) (a:=l1) (b:=l2) (xs:=ps.map V.ref) (ys:=us.map V.ref) (n:=n) (fun i σ H2=>Same H H2∧∃ v2 v3:Option V,σ = [some (.ref l1),some (.ref l2),v2,v3]) (by rw [List.length_map,eA]) (by rw [List.length_map,eB]) ⟨Same.refl _,_,_,rfl⟩ (fun i σ H2 _ z=>⟨z.1.seq hA,z.1.seq hB⟩) ?_ ?_
    · rintro i x y σ H2 p hi hx hy ⟨s2,v2,v3,rfl⟩ hp
      have u1:=Same.new (o:=.tup [x,y]) hp
      refine ⟨p,_,rfl,SqT.of upd_same,rfl,_,_,rfl,_,_,rfl,rfl,?_⟩
      rw [List.getElem?_map,List.getElem?_eq_getElem (by omega)] at hx hy
      cases hx
      cases hy
      have s3:=s2.trans u1
      have h1:=s3.seqT (iA i _ (List.getElem?_eq_getElem (by omega)))
      have h2:=s3.seqT (iB i _ (List.getElem?_eq_getElem (by omega)))
      generalize upd H2 p (.tup [.ref ps[i],.ref us[i]])=H3 at s3 h1 h2
      generalize ps[i]=t1 at h1
      generalize us[i]=t2 at h2
      generalize R i=r at h1 h2
      clear u1 hp
      refine ⟨_,rfl,t1,_,_,_,rfl,h1,rfl,_,rfl,iteF ?_⟩
      refine ⟨_,rfl,t1,_,rfl,.inr h1,rfl,_,rfl,iteF ?_⟩
      refine ⟨_,rfl,_,rfl,RM.rowD r,RM.rowD r,RM.rowD_rep h1,RM.rowD_rep h2,RM.rowD_lay _,RM.rowD_lay _,Nat.lt_of_le_of_lt (Nat.add_le_add_left (Nat.le_trans (Nat.min_le_left _ _) (by rw [RM.rowD_deep]; decide:(RM.rowD r).depth≤64)) _) hr.units,_,rfl,?_⟩
      rw [SeqAt.eqv_refl _ (RM.rowD_lay r)]
      refine iteF ?_
      have ecut:cutV (rowV r) none (some 3) = [V.int r.hd,V.int r.co,V.int r.ho]:=rfl
      have nw:¬ (HT.sIx 4 0 none=0∧HT.sIx 4 4 (some 3)=4):=by decide
      refine ⟨_,rfl,3,rfl,t1,_,rfl,h1,nw,fun c hc=>?_⟩
      rw [ecut]
      have t3:=Same.new (o:=.tup [V.int r.hd,V.int r.co,V.int r.ho]) hc
      have hC:SqT K (upd H3 c (.tup [V.int r.hd,V.int r.co,V.int r.ho])) c [V.int r.hd,V.int r.co,V.int r.ho]:=SqT.of upd_same
      refine ⟨c,rfl,⟨_,hC⟩,fun acc hacc=>?_⟩
      refine comp_by (n:=3) (fun i ys _=>∃ bs:List Bool,ys=bs.map V.bl∧bs.length=i∧bs.all id=true) hacc (itt_go hC) (itt_stop hC) ⟨[],rfl,rfl,rfl⟩ ?_ ?_
      · rintro i ys H2 hi s2 hy ⟨bs,e1,e2,e3⟩ x H3 ⟨rfl,hx⟩
        have hxi:=hx _ (s2.seqT hC)
        obtain ⟨z,rfl⟩ : ∃ z:Int,x = .int z:=by
          have:i=0∨i=1∨i=2:=by omega
          rcases this with rfl | rfl | rfl
          · exact ⟨_,(Option.some.inj hxi).symm⟩
          · exact ⟨_,(Option.some.inj hxi).symm⟩
          · exact ⟨_,(Option.some.inj hxi).symm⟩
        refine ⟨_,rfl,z,rfl,?_⟩
        refine comp_add hacc hi s2 hy (by rw [e1,List.length_map,e2]; exact small1000 (by omega)) ⟨bs++[true],by rw [e1,List.map_append]; rfl,by rw [List.length_append,e2]; rfl,by rw [List.all_append,e3]; rfl⟩
      rintro ys H4 s4 hy ⟨bs,e1,e2,e3⟩
      refine ⟨acc,bs,rfl,SqL.of (by rw [hy,e1]),?_⟩
      rw [e3]
      refine ⟨_,rfl,iteF ?_⟩
      have s5:=t3.trans s4
      have h3:=s5.seqT h1
      have s6:=s3.trans s5
      refine ⟨_,rfl,t1,_,3,_,rfl,rfl,h3,rfl,rfl,_,rfl,?_⟩
      by_cases hb:r.by_ < 0
      · have eb:=byV_non hb
        rw [decide_eq_true eb]
        exact iteF (iteF ⟨s6,_,_,rfl⟩)
      · have eb:=byV_int (b:=r.by_) (by omega)
        rw [decide_eq_false (show ¬ byV r.by_ = .non by rw [eb]; intro z; cases z)]
        refine iteT ?_
        exact ⟨_,rfl,t1,_,3,_,rfl,rfl,h3,rfl,r.by_,by rw [eb]; rfl,⟨_,rfl,iteF ⟨s6,_,_,rfl⟩⟩⟩
    · rintro σ H2 ⟨s2,v2,v3,rfl⟩
      exact k H2 s2
end
end K27
set_option maxHeartbeats 4000000
namespace K27
open PySem L2 TW PyProof.Rows
open RM (rowV byV byV_non byV_int)
seal L2.PE L2.PA L2.PT L2.PW L2.PS L2.PSs L2.PG L2.PGs L2.PI L2.PTs
section
variable {P:Program} {w:World} {K:PySem.W.Frag} {mg:Str→Option Value} {base:Heap}
def spWOpens (K:PySem.W.Frag):Sp:=fun vs H Q _=>∃ (b c rb:Addr) (ns:List Int) (rs:List R5) (live:List Nat) (nd:ns.Nodup) (ok:∀ r∈rs,r.Ok ns.length) (hl:∀ k∈live,k < rs.length) (R:Nat→RM.Row),vs = [.ref b,.ref c,.ref rb]∧RopL K H b rs∧SqL K H c (natsV live)∧RowsAt K H rb ns.length R∧live.length≤20∧live.Pairwise (· < ·)∧FitAll ns.length rs.length R ∧
  ∀ l os H',Same H H'→H l=none→H' l=some (.lst (natsV os))→Opens (townNet ns rs live nd ok hl) R os→Q (.ref l) H'
theorem ok_w_opens {t:Ad} (T:Txt K mg t):FnOk P w K mg base CX0 1 t.f_w_opens t.d_w_opens ["_law_ropes_here","_law_live_here","_law_rows"]  (spWOpens K):=by
  refine T.F_w_opens.ok sc_w_opens (fun vs H Q E h=>?_) (fun cdv A outer s H vs Q E hr h=>?_)
  · obtain ⟨_,_,_,_,_,_,_,_,_,_,rfl,_⟩:=h; rfl
  · obtain ⟨b,c,rb,ns,rs,live,nd,ok,hlv,R,rfl,⟨us,hL,hqs⟩,hC,⟨ps,hP,ePs,hrow⟩,h20,rise,fit,k⟩:=h
    have eus:us.length=rs.length:=by rw [hqs.len,List.length_map]
    refine ⟨_,(pss_cons (ps_set (i:=3) sc_w_opens.nd rfl (Or.inl rfl) (pe_lst pa_nil))
      (pss_cons (ps_for PassesOwn.never rfl (pi_list (pv 1)) (pg_name (i:=4) sc_w_opens.nd rfl (Or.inl rfl)) (pss_cons (ps_asg (pe_slice sl_tup (pe_ix ix_list (pv 0) (pv 4) (fun _ _=>rfl)) po_none (po_some pe_int)) (pg_tup (n:=3) rfl (pgs_cons (pg_name (i:=5) sc_w_opens.nd rfl (Or.inl rfl)) (pgs_cons (pg_name (i:=6) sc_w_opens.nd rfl (Or.inl rfl)) (pgs_cons (pg_name (i:=7) sc_w_opens.nd rfl (Or.inl rfl)) pgs_nil)))))
      (pss_one (ps_for PassesOwn.never rfl (pi_list (pe_lst (pa_c (pe_tup (pa_c (pe_ix ix_list (pv 2) (pv 5) (fun _ _=>rfl)) (pa_c (pe_ix ix_list (pv 2) (pv 6) (fun _ _=>rfl)) pa_nil))) (pa_c (pe_tup (pa_c (pe_ix ix_list (pv 2) (pv 6) (fun _ _=>rfl)) (pa_c (pe_ix ix_list (pv 2) (pv 5) (fun _ _=>rfl)) pa_nil))) pa_nil)))) (pg_tup (n:=2) rfl (pgs_cons (pg_name (i:=8) sc_w_opens.nd rfl (Or.inl rfl)) (pgs_cons (pg_name (i:=9) sc_w_opens.nd rfl (Or.inl rfl)) pgs_nil))) (pss_one (ps_if (PW.pt (pw_and (pt_cmpR op_eqD (pv 8) (pe_tup (pa_c (pe_ix ix_tup (pv 9) pe_int (fun _ _=>rfl)) (pa_c (pe_op op_add (pe_ix ix_tup (pv 9) pe_int (fun _ _=>rfl)) (pv 7)) (pa_c (pe_op op_add (pe_ix ix_tup (pv 9) pe_int (fun _ _=>rfl)) pe_int) (pa_c (pv 4) pa_nil))))) (nomark _)) (pw_and1 (pt_cmpR op_notIn_seq (pv 4) (pv 3) (by with_unfolding_all rfl))))) (pss_one (ps_expr (pe_bm PySem.F.plainAttrs_list PySem.F.slot_list_append PySem.F.type_list_append mt_append (pv 3) (pa_c (pv 4) pa_nil)))) pss_nil))))))
      (pss_one (ps_ret (pv 3))))),?_⟩
    refine ⟨Nat.zero_le _,fun l hl=>?_⟩
    have s0:=Same.new (o:=.lst []) hl
    have hl0:=upd_same (H:=H) (a:=l) (o:=.lst [])
    generalize upd H l (.lst [])=H0 at s0 hl0
    refine ⟨_,rfl,c,rfl,⟨_,s0.seq hC⟩,for_list (K:=K) (a:=c) (xs:=natsV live) (fun j σ H2=>Same H H2∧∃ (os:List Nat) (v4 v5 v6 v7 v8 v9:Option V),σ = [some (.ref b),some (.ref c),some (.ref rb),some (.ref l),v4,v5,v6,v7,v8,v9]∧H2 l=some (.lst (natsV os))∧os.Pairwise (· < ·)∧os.length≤j∧∀ k,k∈os↔k∈live.take j∧∃ h g,RM.Hang (townNet ns rs live nd ok hlv) R k h g)
      ⟨s0,[],_,_,_,_,_,_,rfl,hl0,List.Pairwise.nil,Nat.zero_le _,fun k=>by simp⟩ (fun j σ H2 _ z=>z.1.seq hC) ?_ ?_⟩
    · rintro j y σ H2 hj ⟨s2,os,v4,v5,v6,v7,v8,v9,rfl,hl2,o1,o2,o3⟩
      have hjl:j < live.length:=by
        have:=(List.getElem?_eq_some_iff.mp hj).1
        rw [List.length_map] at this
        exact this
      rw [List.getElem?_map,List.getElem?_eq_getElem hjl] at hj
      cases hj
      have et:live.take (j + 1)=live.take j++[live[j]]:=by rw [List.take_add_one,List.getElem?_eq_getElem hjl]; rfl
      have hc:live[j]∈live:=List.getElem_mem hjl
      have hnew:∀ z∈live.take j,z < live[j]:=fun z hz=>by
        obtain ⟨i,hi,e⟩:=List.getElem_of_mem hz
        rw [List.getElem_take] at e
        rw [List.length_take] at hi
        rw [← e]
        exact List.pairwise_iff_getElem.mp rise i j (by omega) hjl (by omega)
      rw [et]
      show gName 4 (V.int ((live[j]:Nat):Int)) _ _ _
      generalize live[j]=kk at hc hnew
      have hkl:=hlv kk hc
      have okk:=ok _ (List.getElem_mem hkl)
      have hrk:rs[kk]?=some rs[kk]:=List.getElem?_eq_getElem hkl
      have hp:(us.map V.ref)[kk]?=some (V.ref (us[kk]'(by omega))):=by rw [List.getElem?_map,List.getElem?_eq_getElem]; rfl
      have hpt:=hqs.at' kk (us[kk]'(by omega)) (rs[kk]).vs (List.getElem?_eq_getElem _) (by rw [List.getElem?_map,hrk]; rfl)
      have hatk:atI (us.map V.ref) (kk:Int)=some (.ref (us[kk]'(by omega))):=atI_nat hp
      have nw:¬ (HT.sIx (rs[kk]).vs.length 0 none=0∧HT.sIx (rs[kk]).vs.length (rs[kk]).vs.length (some 3)=(rs[kk]).vs.length):=fun z=>absurd z.2 (by show HT.sIx 5 5 (some 3)≠5; decide)
      have ct:cutV (rs[kk]).vs none (some 3) = [V.int rs[kk].a,V.int rs[kk].b,V.int rs[kk].c]:=rfl
      refine ⟨_,rfl,_,rfl,ixL_mk (SqL.of (s2 _ _ hL)) hatk ⟨_,rfl,_,_,rfl,s2.seqT hpt,nw,fun z1 hz1=>?_⟩⟩
      rw [ct]
      have u1:=Same.new (o:=.tup [V.int rs[kk].a,V.int rs[kk].b,V.int rs[kk].c]) hz1
      refine ⟨z1,_,rfl,SqT.of upd_same,rfl,_,_,rfl,_,_,rfl,_,_,rfl,rfl,?_⟩
      have s3:=s2.trans u1
      have hl3:=u1 _ _ hl2
      generalize upd H2 z1 (.tup [V.int rs[kk].a,V.int rs[kk].b,V.int rs[kk].c])=H3 at s3 hl3
      clear u1 hz1 s2 hl2
      obtain ⟨x,ex⟩ : ∃ x:Nat,rs[kk].a=(x:Int):=⟨rs[kk].a.toNat,by have:=okk.a0; omega⟩
      obtain ⟨y,ey⟩ : ∃ y:Nat,rs[kk].b=(y:Int):=⟨rs[kk].b.toNat,by have:=okk.b0; omega⟩
      have hx:x < ns.length:=by have:=okk.a1; omega
      have hy:y < ns.length:=by have:=okk.b1; omega
      have ecost:=net_c (ns:=ns) (live:=live) (nd:=nd) (ok:=ok) (hl:=hlv) hkl
      have ea:(townNet ns rs live nd ok hlv).a kk=x:=by show ((rs[kk]?).map fun r=>r.a.toNat).getD 0=x; rw [hrk]; show rs[kk].a.toNat=x; omega
      have eb:(townNet ns rs live nd ok hlv).b kk=y:=by show ((rs[kk]?).map fun r=>r.b.toNat).getD 0=y; rw [hrk]; show rs[kk].b.toNat=y; omega
      have adj:RM.Adj (townNet ns rs live nd ok hlv) kk x y:=⟨hc,.inl ⟨ea,eb⟩⟩
      have hang:∀ {h g:Nat},RM.Adj (townNet ns rs live nd ok hlv) kk h g→(RM.Hang (townNet ns rs live nd ok hlv) R kk h g↔R h=RM.over (townNet ns rs live nd ok hlv) kk (R g)):=fun {h g} a=>⟨fun t=>t.eq,fun e=>⟨a,by
        have f:=(fit h a.lt.1).ho.2
        rw [e] at f
        exact f,e⟩⟩
      have only:∀ {h g:Nat},RM.Hang (townNet ns rs live nd ok hlv) R kk h g→(h=x∧g=y)∨(h=y∧g=x):=fun {h g} t=>by
        have:=t.adj.2
        rw [ea,eb] at this
        rcases this with ⟨e1,e2⟩ | ⟨e1,e2⟩
        · exact .inl ⟨e1.symm,e2.symm⟩
        · exact .inr ⟨e1.symm,e2.symm⟩
      rw [ex,ey]
      have hpx:ps[x]?=some (ps[x]'(by omega)):=List.getElem?_eq_getElem (by omega)
      have hpy:ps[y]?=some (ps[y]'(by omega)):=List.getElem?_eq_getElem (by omega)
      have hatx:atI (ps.map V.ref) (x:Int)=some (.ref (ps[x]'(by omega))):=atI_nat (by rw [List.getElem?_map,hpx]; rfl)
      have haty:atI (ps.map V.ref) (y:Int)=some (.ref (ps[y]'(by omega))):=atI_nat (by rw [List.getElem?_map,hpy]; rfl)
      have rx:=hrow x _ hpx
      have ry:=hrow y _ hpy
      generalize ps[x]'(by omega)=qx at hatx rx
      generalize ps[y]'(by omega)=qy at haty ry
      clear hpx hpy
      refine ⟨_,rfl,_,rfl,ixL_mk (s3.seq hP) hatx ⟨_,rfl,_,rfl,ixL_mk (s3.seq hP) haty ⟨(by show 2≤sizeLine; decide),fun z2 hz2=>?_⟩⟩⟩
      have u2:=Same.new (o:=.tup [V.ref qx,V.ref qy]) hz2
      have g2:=upd_same (H:=H3) (a:=z2) (o:=.tup [V.ref qx,V.ref qy])
      generalize upd H3 z2 (.tup [V.ref qx,V.ref qy])=H4 at u2 g2
      have s4:=s3.trans u2
      refine ⟨_,rfl,_,rfl,ixL_mk (s4.seq hP) haty ⟨_,rfl,_,rfl,ixL_mk (s4.seq hP) hatx ⟨(by show 2≤sizeLine; decide),fun z3 hz3=>?_⟩⟩⟩
      have u3:=Same.new (o:=.tup [V.ref qy,V.ref qx]) hz3
      have g3:=upd_same (H:=H4) (a:=z3) (o:=.tup [V.ref qy,V.ref qx])
      have g2:=u3 _ _ g2
      generalize upd H4 z3 (.tup [V.ref qy,V.ref qx])=H5 at u3 g3 g2
      refine ⟨(by show 2≤sizeLine; decide),fun z4 hz4=>?_⟩
      have u4:=Same.new (o:=.lst [V.ref z2,V.ref z3]) hz4
      have g4:=upd_same (H:=H5) (a:=z4) (o:=.lst [V.ref z2,V.ref z3])
      have g3:=u4 _ _ g3
      have g2:=u4 _ _ g2
      generalize upd H5 z4 (.lst [V.ref z2,V.ref z3])=H6 at u4 g4 g3 g2
      have u26:=(u2.trans u3).trans u4
      have s6:=s3.trans u26
      have hl6:=u26 _ _ hl3
      have rx6:=s6.seqT rx
      have ry6:=s6.seqT ry
      have n4:l≠z4:=ne_of_none ((u2.trans u3) _ _ hl3) hz4
      have nk:kk ∉ os:=fun z=>Nat.lt_irrefl _ (hnew kk ((o3 kk).mp z).1)
      clear u2 u3 u4 u26 s4 hz2 hz3 hz4 hl3 s3
      have inv:∀ i:Nat,i < 2→∃ (zt qh qg:Addr) (h g:Nat),[V.ref z2,V.ref z3][i]?=some (.ref zt)∧SqT K H6 zt [V.ref qh,V.ref qg]∧SqT K H6 qh (rowV (R h))∧SqT K H6 qg (rowV (R g))∧RM.Adj (townNet ns rs live nd ok hlv) kk h g∧(((1≤i + 1∧RM.Hang (townNet ns rs live nd ok hlv) R kk x y)∨(2≤i + 1∧RM.Hang (townNet ns rs live nd ok hlv) R kk y x))↔((1≤i∧RM.Hang (townNet ns rs live nd ok hlv) R kk x y)∨(2≤i∧RM.Hang (townNet ns rs live nd ok hlv) R kk y x))∨RM.Hang (townNet ns rs live nd ok hlv) R kk h g):=fun i hi=>by
        have:i=0∨i=1:=by omega
        rcases this with rfl | rfl
        · exact ⟨z2,qx,qy,x,y,rfl,SqT.of g2,rx6,ry6,adj,by simp⟩
        · exact ⟨z3,qy,qx,y,x,rfl,SqT.of g3,ry6,rx6,adj.symm,by simp⟩
      refine ⟨z4,rfl,⟨_,SqL.of g4⟩,for_listN (K:=K) (a:=z4) (xs:=[V.ref z2,V.ref z3]) (fun i σ H7=>Same H H7∧(∀ b x,SqT K H6 b x→SqT K H7 b x)∧H7 z4=some (.lst [V.ref z2,V.ref z3])∧∃ (os':List Nat) (v8 v9:Option V),σ = [some (.ref b),some (.ref c),some (.ref rb),some (.ref l),some (.int (kk:Nat)),some (.int (x:Nat)),some (.int (y:Nat)),some (.int rs[kk].c),v8,v9]∧H7 l=some (.lst (natsV os'))∧(os'=os∨os'=os++[kk])∧(kk∈os'↔(1≤i∧RM.Hang (townNet ns rs live nd ok hlv) R kk x y)∨(2≤i∧RM.Hang (townNet ns rs live nd ok hlv) R kk y x)))
        ⟨s6,fun b x=>id,g4,os,_,_,rfl,hl6,.inl rfl,⟨fun z=>absurd z nk,fun z=>by omega⟩⟩ (fun i σ H7 _ z=>SqL.of z.2.2.1) ?_ ?_⟩
      · rintro i y' σ H7 Nx hNx hi ⟨s7,kt,g7,os',v8,v9,rfl,hl7,d1,d2⟩
        have hi2:i < 2:=(List.getElem?_eq_some_iff.mp hi).1
        obtain ⟨zt,qh,qg,h,g,e1,e2,e3,e4,e5,e6⟩:=inv i hi2
        rw [e1] at hi
        cases hi
        have e2:=kt _ _ e2
        have e3:=kt _ _ e3
        have e4:=kt _ _ e4
        refine ⟨zt,_,rfl,e2,rfl,_,_,rfl,_,_,rfl,rfl,?_⟩
        refine ⟨_,rfl,_,rfl,ixTc_mk e4 rfl ⟨_,rfl,ixTc_mk e4 rfl ⟨_,rfl,_,_,rfl,rfl,_,rfl,ixTc_mk e4 rfl ⟨_,_,rfl,rfl,_,rfl,(by show 4≤sizeLine; decide),fun u hu=>?_⟩⟩⟩⟩
        have u8:=Same.new (o:=.tup [V.int (R g).hd,V.int ((R g).co + rs[kk].c),V.int ((R g).ho + 1),V.int (kk:Nat)]) hu
        have hu':SqT K (upd H7 u (.tup [V.int (R g).hd,V.int ((R g).co + rs[kk].c),V.int ((R g).ho + 1),V.int (kk:Nat)])) u (rowV (RM.over (townNet ns rs live nd ok hlv) kk (R g))):=by
          refine SqT.of ?_
          rw [upd_same]
          show _=some (HO.tup [V.int (R g).hd,V.int ((R g).co + (townNet ns rs live nd ok hlv).c kk),V.int ((R g).ho + 1),byV ((kk:Nat):Int)])
          rw [ecost,byV_int (by omega)]
        have e3:=u8.seqT e3
        have hl8:=u8 _ _ hl7
        have s8:=s7.trans u8
        have g8:=u8 _ _ g7
        have kt8:∀ b x,SqT K H6 b x→SqT K _ b x:=fun b x z=>u8.seqT (kt b x z)
        generalize upd H7 u (.tup [V.int (R g).hd,V.int ((R g).co + rs[kk].c),V.int ((R g).ho + 1),V.int (kk:Nat)])=H8 at hu' e3 hl8 s8 g8 kt8
        refine ⟨RM.rowD (R h),RM.rowD (RM.over (townNet ns rs live nd ok hlv) kk (R g)),RM.rowD_rep e3,RM.rowD_rep hu',RM.rowD_lay _,RM.rowD_lay _,Nat.lt_of_le_of_lt (Nat.add_le_add_left (Nat.le_trans (Nat.min_le_left _ _) (by rw [RM.rowD_deep]; decide:(RM.rowD (R h)).depth≤64)) _) hr.units,?_⟩
        rw [RM.rowD_eqv (fit h e5.lt.1).by1 (by show (-1:Int)≤((kk:Nat):Int); omega)]
        refine ⟨_,rfl,ite2 (fun e=>?_) (fun e=>?_)⟩
        case refine_2 =>
          have e:¬ RM.Hang (townNet ns rs live nd ok hlv) R kk h g:=fun z=>e (decide_eq_true ((hang e5).mp z))
          exact hNx _ _ ⟨s8,kt8,g8,os',_,_,rfl,hl8,d1,d2.trans ⟨fun z=>e6.mpr (.inl z),fun z=>(e6.mp z).elim id fun w=>absurd w e⟩⟩
        have e:RM.Hang (townNet ns rs live nd ok hlv) R kk h g:=(hang e5).mpr (of_decide_eq_true e)
        refine ⟨_,rfl,_,rfl,l,_,rfl,.inl (SqL.of hl8),rfl,flat_nats _,_,rfl,?_⟩
        dsimp only
        rw [if_pos rfl,inV_nats]
        by_cases z:kk∈os'
        · rw [decide_eq_true z]
          exact iteF (hNx _ _ ⟨s8,kt8,g8,os',_,_,rfl,hl8,d1,⟨fun _=>e6.mpr (.inr e),fun _=>z⟩⟩)
        · rw [decide_eq_false z]
          have eo:os'=os:=d1.resolve_right fun w=>z (by rw [w]; simp)
          subst eo
          refine iteT ⟨_,rfl,.inl ⟨rfl,_,SqL.of hl8⟩,_,rfl,l,_,_,rfl,rfl,hl8,(by rw [List.length_map]; exact small1000 (by omega)),hNx _ _ ⟨s8.out hl,fun b x z=>SqT.past hl8 nt_lst upd_keep (kt8 b x z),by rw [upd_ne (Ne.symm n4)]; exact g8,os'++[kk],_,_,rfl,by rw [upd_same,natsV_snoc],.inr rfl,⟨fun _=>e6.mpr (.inr e),fun _=>by simp⟩⟩⟩
      · rintro σ H7 ⟨s7,kt,g7,os',v8,v9,rfl,hl7,d1,d2⟩
        have d2:kk∈os'↔∃ h g,RM.Hang (townNet ns rs live nd ok hlv) R kk h g:=d2.trans ⟨fun z=>z.elim (fun w=>⟨x,y,w.2⟩) (fun w=>⟨y,x,w.2⟩),fun ⟨h,g,t⟩=>by
          rcases only t with ⟨rfl,rfl⟩ | ⟨rfl,rfl⟩
          · exact .inl ⟨(by show 1≤2; decide),t⟩
          · exact .inr ⟨(by show 2≤2; decide),t⟩⟩
        refine ⟨s7,os',_,_,_,_,_,_,rfl,hl7,?_,?_,fun k'=>?_⟩
        · rcases d1 with rfl | rfl
          · exact o1
          · refine List.pairwise_append.mpr ⟨o1,List.pairwise_singleton _ _,fun z hz z' hz'=>?_⟩
            rw [List.mem_singleton.mp hz']
            exact hnew z ((o3 z).mp hz).1
        · rcases d1 with rfl | rfl
          · omega
          · rw [List.length_append]; exact Nat.add_le_add_right o2 1
        · rw [List.mem_append,List.mem_singleton]
          by_cases ek:k'=kk
          · subst ek
            exact d2.trans ⟨fun z=>⟨.inr rfl,z⟩,fun z=>z.2⟩
          · have:k'∈os'↔k'∈os:=by
              rcases d1 with rfl | rfl
              · exact Iff.rfl
              · simp [ek]
            rw [this,o3]
            exact ⟨fun z=>⟨.inl z.1,z.2⟩,fun z=>⟨z.1.resolve_right ek,z.2⟩⟩
    · rintro σ H2 ⟨s2,os,v4,v5,v6,v7,v8,v9,rfl,hl2,o1,o2,o3⟩
      refine ⟨_,rfl,k l os H2 s2 hl hl2 ⟨o1,fun kk=>(o3 kk).trans ⟨fun z=>z.2,fun ⟨h,g,t⟩=>⟨?_,h,g,t⟩⟩⟩⟩
      rw [List.length_map,List.take_of_length_le (Nat.le_refl _)]
      exact t.adj.1
end
end K27
set_option maxHeartbeats 4000000
namespace K27
open PySem L2 TW PyProof.Rows
open RM (rowV byV byV_non byV_int)
seal L2.PE L2.PA L2.PT L2.PW L2.PS L2.PSs L2.PG L2.PGs L2.PI L2.PTs
section
variable {P:Program} {w:World} {K:PySem.W.Frag} {mg:Str→Option Value} {base:Heap}
theorem repNil {K:PySem.W.Frag} {H:Hp} {l:Addr} (h:H l=some (.lst [])):Rep K H (.list []) (.ref l):=⟨l,[],rfl,SqL.of h,rfl⟩
theorem noOpen {ns:List Int} {rs:List R5} {o:TownOk ns rs} {ws:List (List Nat)} {g:Nat}:Opens (gNet ns rs o ws g) (ownR ns) []:=⟨List.Pairwise.nil,fun k=>⟨fun z=>absurd z (by simp),fun ⟨h,g,t⟩=>by
  have:=t.by
  have e:((ownR ns) h).by_ = -1:=rfl
  omega⟩⟩
def spFirst (K:PySem.W.Frag) (CT:Addr) (c:NC):Sp:=fun vs H Q _=>∃ (F:Addr→Prop) (p tp ln lr cb lt lv:Addr) (ns:List Int) (rs:List R5) (o:TownOk ns rs) (cl:List (Nat × Nat)) (qs:List Addr) (lg tg:Nat→Addr),vs = [.ref p,.ref cb,.ref lt,.ref lv]∧NW K c CT H F p tp ln lr ns rs (S0 ns rs cl)∧NSok ns rs (S0 ns rs cl) ∧
  H cb=some (.lst (qs.map V.ref))∧TsAt K H qs (cl.map fun c=>[.int c.1,.int c.2])∧cl.length≤20∧SqL K H lt ((List.range 3).map fun g=>.ref (tg g))∧(∀ g,g < 3→RowsAt K H (tg g) ns.length (ownR ns))∧SqL K H lv ((List.range 3).map fun g=>.ref (lg g))∧(∀ g,g < 3→SqL K H (lg g) (natsV (liveN rs (S0 ns rs cl).ws g)))∧∀ H',Same H H'→Q (.bl true) H'
theorem ok_w_first {t:Ad} (T:Txt K mg t):FnOk P w K mg base CX0 7 t.f_w_first t.d_w_first ["_law_net","_law_callers_here","_law_tables","_law_lives"]  (spFirst K t.a_Town (nc t)):=by
  refine T.F_w_first.ok sc_w_first (fun vs H Q E h=>?_) (fun cdv A outer s H vs Q E hr h=>?_)
  · obtain ⟨_,_,_,_,_,_,_,_,_,_,_,_,_,_,_,rfl,_⟩:=h; rfl
  · obtain ⟨F,p,tp,ln,lr,cb,lt,lv,ns,rs,ok,cl,qs,lg,tg,rfl,N,sok,hcb,hcq,hcl,hlt,htg,hlv,hlg,k⟩:=h
    refine ⟨_,(pss_cons (ps_for PassesOwn.never rfl (pi_range1 rfl T.n_range (pa_c pe_int pa_nil)) (pg_name (i:=4) sc_w_first.nd rfl (Or.inl rfl)) (pss_cons (ps_if (PW.pt (pw_or (pt_not (pt_val (pe_call (ok_w_rows_same T) (hr.mono (by decide)) rfl T.g_w_rows_same T.F_w_rows_same.kp T.B_w_rows_same .nil pass0 (pa_c (pe_meth (pv 0) T.c_Net T.m_Net_rows (ok_Net_rows T) (hr.mono (by decide)) T.B_Net_rows .nil pass0 (pa_c (pv 4) pa_nil)) (pa_c (pe_ix ix_list (pv 2) (pv 4) (fun _ _=>rfl)) pa_nil))))) (pw_or1 (pt_not (pt_val (pe_call (ok_w_list T) (hr.mono (by decide)) rfl T.g_w_list T.F_w_list.kp T.B_w_list .nil pass0 (pa_c (pe_meth (pv 0) T.c_Net T.m_Net_live (ok_Net_live T) (hr.mono (by decide)) T.B_Net_live .nil pass0 (pa_c (pv 4) pa_nil)) (pa_c (pe_ix ix_list (pv 3) (pv 4) (fun _ _=>rfl)) pa_nil)))))))) (pss_one (ps_ret pe_bl)) pss_nil)
      (pss_one (ps_if (PW.pt (pw_or (pt_cmpR op_neD (pe_meth (pv 0) T.c_Net T.m_Net_opens (ok_Net_opens T) (hr.mono (by decide)) T.B_Net_opens .nil pass0 (pa_c (pv 4) pa_nil)) (pe_lst pa_nil) (nomark _)) (pw_or1 (pt_cmpR op_neD (pe_meth (pv 0) T.c_Net T.m_Net_notes (ok_Net_notes T) (hr.mono (by decide)) T.B_Net_notes .nil pass0 (pa_c (pv 4) pa_nil)) (pe_lst pa_nil) (nomark _))))) (pss_one (ps_ret pe_bl)) pss_nil))))
      (pss_cons (ps_for PassesOwn.never rfl (pi_range1 rfl T.n_range (pa_c (pe_callB call_len_seq (by rfl) T.n_len PySem.boot_len (pa_c (pv 1) pa_nil)) pa_nil)) (pg_name (i:=5) sc_w_first.nd rfl (Or.inl rfl)) (pss_cons (ps_set (i:=6) sc_w_first.nd rfl (Or.inl rfl) (pe_meth (pv 0) T.c_Net T.m_Net_place (ok_Net_place T) (hr.mono (by decide)) T.B_Net_place .nil pass0 (pa_c (pv 5) pa_nil)))
      (pss_one (ps_if (PW.pt (pw_or (pt_not (pt_val (pe_call (ok_w_whole T) (hr.mono (by decide)) rfl T.g_w_whole T.F_w_whole.kp T.B_w_whole .nil pass0 (pa_c (pv 6) pa_nil)))) (pw_or (pt_cmpR op_ne (pv 6) (pe_ix ix_tup (pe_ix ix_list (pv 1) (pv 5) (fun _ _=>rfl)) pe_int (fun _ _=>rfl)) (nomark _)) (pw_or1 (pt_cmpR op_neD (pe_meth (pv 0) T.c_Net T.m_Net_had (ok_Net_had T) (hr.mono (by decide)) T.B_Net_had .nil pass0 (pa_c (pv 5) pa_nil)) (pe_lst pa_nil) (nomark _)))))) (pss_one (ps_ret pe_bl)) pss_nil))))
      (pss_one (ps_ret (pe_cmpR op_eqD (pe_meth0 (pv 0) T.c_Net T.m_Net_flying (ok_Net_flying T) (hr.mono (by decide)) T.B_Net_flying .nil pass0) (pe_lst pa_nil) (nomark _)))))),?_⟩
    have n10:=ok.n10
    have eq:qs.length=cl.length:=by rw [hcq.len,List.length_map]
    obtain ⟨loc,dx,q,hp,O,hF,hT⟩:=id N.net
    have hnet:=O.get .net _ rfl
    rw [hp] at hnet
    refine ⟨_,rfl,by decide,by decide,for_range (n:=3) (fun g σ H2=>Same H H2∧∃ v4:Option V,σ = [some (.ref p),some (.ref cb),some (.ref lt),some (.ref lv),v4,none,none]) ⟨Same.refl _,_,rfl⟩ ?_ ?_⟩
    · rintro g σ H2 hg ⟨s2,v4,rfl⟩
      rw [Int.zero_add]
      refine ⟨_,rfl,p,_,_,rfl,s2 _ _ hnet,rfl,_,rfl,F,p,tp,ns.length,g,_,rfl,(N.mono s2).net,hg,fun l1 qs1 H3 s3 hl1 h1 ht1=>?_⟩
      have s23:=s2.trans s3
      refine ⟨_,rfl,_,rfl,lt,_,_,_,rfl,rfl,s23.seq hlt,at_rng hg,l1,tg g,ns.length,ownR ns,rfl,ht1.rowsAt (SqL.of h1),(htg g hg).mono s23,by omega,fun H4 s4=>⟨_,rfl,iteF ?_⟩⟩
      have s24:=s23.trans s4
      refine ⟨_,rfl,p,_,_,rfl,s24 _ _ hnet,rfl,_,rfl,F,p,tp,ln,lr,ns,rs,_,g,rfl,N.mono s24,ok,sok,hg,fun l2 H5 s5 hl2 h2=>?_⟩
      have s25:=s24.trans s5
      refine ⟨_,rfl,_,rfl,lv,_,_,_,rfl,rfl,s25.seq hlv,at_rng hg,l2,lg g,_,rfl,SqL.of h2,s25.seq (hlg g hg),?_,fun H6 s6=>⟨_,rfl,iteF ?_⟩⟩
      · have:=liveTo_len rs (S0 ns rs cl).ws g rs.length
        have:=ok.m20
        exact Nat.le_trans (liveTo_len rs (S0 ns rs cl).ws g rs.length) (by omega)
      have s26:=s25.trans s6
      refine ⟨_,rfl,p,_,_,rfl,s26 _ _ hnet,rfl,_,rfl,F,p,tp,ln,lr,ns,rs,_,ok,g,rfl,N.mono s26,sok,hg,fun l3 os H7 s7 hl3 h3 hO _=>?_⟩
      have eo:os = []:=hO.uniq noOpen
      subst eo
      have s27:=s26.trans s7
      refine ⟨Nat.zero_le _,fun l4 hl4=>?_⟩
      have u8:=Same.new (o:=.lst []) hl4
      refine ⟨.list [],.list [],repNil (u8 _ _ h3),repNil upd_same,rfl,rfl,Nat.lt_of_le_of_lt (Nat.add_le_add_left (Nat.le_trans (Nat.min_le_left _ _) (by decide:(PyData.list []).depth≤64)) _) hr.units,_,rfl,iteF ?_⟩
      have s28:=s27.trans u8
      refine ⟨_,rfl,p,_,_,rfl,s28 _ _ hnet,rfl,_,rfl,F,p,tp,ns.length,g,_,rfl,(N.mono s28).net,hg,(by show 0 < 64; decide),fun l5 qs5 us5 H9 s9 hl5 h5 hT5 hP5 _=>?_⟩
      have eu:us5 = []:=List.Perm.eq_nil hP5
      subst eu
      have eq5:qs5 = []:=List.length_eq_zero_iff.mp hT5.1
      subst eq5
      have s29:=s28.trans s9
      refine ⟨Nat.zero_le _,fun l6 hl6=>?_⟩
      have u9:=Same.new (o:=.lst []) hl6
      refine ⟨.list [],.list [],repNil (u9 _ _ h5),repNil upd_same,rfl,rfl,Nat.lt_of_le_of_lt (Nat.add_le_add_left (Nat.le_trans (Nat.min_le_left _ _) (by decide:(PyData.list []).depth≤64)) _) hr.units,_,rfl,iteF ?_⟩
      exact ⟨s29.trans u9,_,rfl⟩
    · rintro σ H2 ⟨s2,v4,rfl⟩
      refine ⟨_,rfl,cb,_,rfl,.inl (SqL.of (s2 _ _ hcb)),_,rfl,(by show -(2 ^ 62)≤(((qs.map V.ref).length:Nat):Int); omega),(by show (((qs.map V.ref).length:Nat):Int) < 2 ^ 62; rw [List.length_map]; omega),?_⟩
      have en:((((qs.map V.ref).length:Nat):Int)).toNat=cl.length:=by rw [List.length_map,eq]; rfl
      rw [en]
      refine for_range (n:=cl.length) (fun i σ H3=>Same H H3∧∃ v5 v6:Option V,σ = [some (.ref p),some (.ref cb),some (.ref lt),some (.ref lv),v4,v5,v6]) ⟨s2,_,_,rfl⟩ ?_ ?_
      · rintro i σ H3 hi ⟨s3,v5,v6,rfl⟩
        rw [Int.zero_add]
        have hic:cl[i]?=some cl[i]:=List.getElem?_eq_getElem hi
        have ehm:(S0 ns rs cl).homes[i]'(by show i < (cl.map (·.1)).length; rw [List.length_map]; exact hi)=(cl[i]).1:=by
          show (cl.map (·.1))[i]'_=_
          rw [List.getElem_map]
        refine ⟨_,rfl,p,_,_,rfl,s3 _ _ hnet,rfl,_,rfl,F,p,tp,ns.length,i,S0 ns rs cl,(by show i < (cl.map (·.1)).length; rw [List.length_map]; exact hi),rfl,(N.mono s3).net,?_⟩
        rw [ehm]
        refine ⟨_,rfl,((cl[i]).1:Nat),rfl,⟨_,rfl,iteF ?_⟩⟩
        have hqi:atI (qs.map V.ref) (i:Int)=some (.ref (qs[i]'(by omega))):=atI_nat (by rw [List.getElem?_map,List.getElem?_eq_getElem (by omega)]; rfl)
        have hti:=hcq.at' i (qs[i]'(by omega)) _ (List.getElem?_eq_getElem _) (by rw [List.getElem?_map,hic]; rfl)
        refine ⟨_,rfl,_,rfl,_,rfl,ixL_mk (SqL.of (s3 _ _ hcb)) hqi (ixTc_mk (s3.seqT hti) rfl ⟨rfl,_,rfl,?_⟩)⟩
        rw [decide_eq_true rfl]
        refine iteF ?_
        refine ⟨_,rfl,p,_,_,rfl,s3 _ _ hnet,rfl,_,rfl,F,p,tp,ns.length,i,S0 ns rs cl,[],rfl,(N.mono s3).net,(by show i < (cl.map (·.1)).length; rw [List.length_map]; exact hi),(by show (cl.map fun _=>([]:List Nat))[i]?=_; rw [List.getElem?_map,hic]; rfl),fun l1 H4 s4 hl1 h1=>?_⟩
        refine ⟨Nat.zero_le _,fun l6 hl6=>?_⟩
        have u9:=Same.new (o:=.lst []) hl6
        refine ⟨.list [],.list [],repNil (u9 _ _ h1),repNil upd_same,rfl,rfl,Nat.lt_of_le_of_lt (Nat.add_le_add_left (Nat.le_trans (Nat.min_le_left _ _) (by decide:(PyData.list []).depth≤64)) _) hr.units,_,rfl,iteF ?_⟩
        exact ⟨(s3.trans s4).trans u9,_,_,rfl⟩
      · rintro σ H3 ⟨s3,v5,v6,rfl⟩
        refine ⟨_,rfl,p,_,_,rfl,s3 _ _ hnet,rfl,F,p,tp,ns.length,S0 ns rs cl,rfl,(N.mono s3).net,fun l1 qs1 H4 s4 hl1 h1 hq1=>?_⟩
        have e1:qs1 = []:=List.length_eq_zero_iff.mp hq1.len
        subst e1
        refine ⟨Nat.zero_le _,fun l6 hl6=>?_⟩
        have u9:=Same.new (o:=.lst []) hl6
        refine ⟨.list [],.list [],repNil (u9 _ _ h1),repNil upd_same,rfl,rfl,Nat.lt_of_le_of_lt (Nat.add_le_add_left (Nat.le_trans (Nat.min_le_left _ _) (by decide:(PyData.list []).depth≤64)) _) hr.units,k _ ((s3.trans s4).trans u9)⟩
end
end K27
set_option maxHeartbeats 4000000
namespace K27
open PySem L2 TW PyProof.Rows
open RM (rowV byV byV_non byV_int)
seal L2.PE L2.PA L2.PT L2.PW L2.PS L2.PSs L2.PG L2.PGs L2.PI L2.PTs
section
variable {P:Program} {w:World} {K:PySem.W.Frag} {mg:Str→Option Value} {base:Heap}
theorem liveN_rise {rs:List R5} {ws:List (List Nat)} {g:Nat}:(liveN rs ws g).Pairwise (· < ·):=List.Pairwise.filter _ List.pairwise_lt_range
def spLook (K:PySem.W.Frag) (CT:Addr) (c:NC):Sp:=fun vs H Q _=>∃ (F:Addr→Prop) (p tp ln lr a0 b0 lt lv:Addr) (ns:List Int) (rs:List R5) (o:TownOk ns rs) (s:NS) (lg tg:Nat→Addr) (g:Nat),vs = [.ref p,.ref a0,.ref b0,.ref lt,.ref lv,.int g]∧NW K c CT H F p tp ln lr ns rs s∧NSok ns rs s∧g < 3 ∧
  SqL K H a0 (ns.map V.int)∧RopL K H b0 rs∧SqL K H lt ((List.range 3).map fun g=>.ref (tg g))∧(∀ g,g < 3→RowsAt K H (tg g) ns.length (s.R g))∧SqL K H lv ((List.range 3).map fun g=>.ref (lg g))∧(∀ g,g < 3→SqL K H (lg g) (natsV (liveN rs s.ws g)))∧∀ H',Same H H'→Q (.bl true) H'
theorem ok_w_look {t:Ad} (T:Txt K mg t):FnOk P w K mg base CX0 7 t.f_w_look t.d_w_look ["_law_net","_law_names_here","_law_ropes_here","_law_tables","_law_lives","_law_group"]  (spLook K t.a_Town (nc t)):=by
  refine T.F_w_look.ok sc_w_look (fun vs H Q E h=>?_) (fun cdv A outer s H vs Q E hr h=>?_)
  · obtain ⟨_,_,_,_,_,_,_,_,_,_,_,_,_,_,_,_,rfl,_⟩:=h; rfl
  · obtain ⟨F,p,tp,ln,lr,a0,b0,lt,lv,ns,rs,ok,st,lg,tg,g,rfl,N,sok,hg,hA,hR,hlt,htg,hlv,hlg,k⟩:=h
    refine ⟨_,(pss_cons (ps_for PassesOwn.never rfl (pi_range1 rfl T.n_range (pa_c pe_int pa_nil)) (pg_name (i:=6) sc_w_look.nd rfl (Or.inl rfl)) (pss_cons (ps_set (i:=7) sc_w_look.nd rfl (Or.inl rfl) (pe_meth (pv 0) T.c_Net T.m_Net_rows (ok_Net_rows T) (hr.mono (by decide)) T.B_Net_rows .nil pass0 (pa_c (pv 6) pa_nil)))
      (pss_cons (ps_if (pt_not (pt_val (pe_call (ok_w_rows_same T) (hr.mono (by decide)) rfl T.g_w_rows_same T.F_w_rows_same.kp T.B_w_rows_same .nil pass0 (pa_c (pv 7) (pa_c (pe_ix ix_list (pv 3) (pv 6) (fun _ _=>rfl)) pa_nil))))) (pss_one (ps_ret pe_bl)) pss_nil)
      (pss_one (ps_expr (pe_bm0 PySem.F.plainAttrs_list PySem.F.slot_list_clear PySem.F.type_list_clear mt_clear (pv 7)))))))
      (pss_cons (ps_set (i:=8) sc_w_look.nd rfl (Or.inr rfl) (pe_ix ix_list (pv 3) (pv 5) (fun _ _=>rfl)))
      (pss_cons (ps_set (i:=9) sc_w_look.nd rfl (Or.inl rfl) (pe_meth (pv 0) T.c_Net T.m_Net_live (ok_Net_live T) (hr.mono (by decide)) T.B_Net_live .nil pass0 (pa_c (pv 5) pa_nil)))
      (pss_cons (ps_if (pt_not (pt_val (pe_call (ok_w_list T) (hr.mono (by decide)) rfl T.g_w_list T.F_w_list.kp T.B_w_list .nil pass0 (pa_c (pv 9) (pa_c (pe_ix ix_list (pv 4) (pv 5) (fun _ _=>rfl)) pa_nil))))) (pss_one (ps_ret pe_bl)) pss_nil)
      (pss_cons (ps_expr (pe_bm0 PySem.F.plainAttrs_list PySem.F.slot_list_clear PySem.F.type_list_clear mt_clear (pv 9)))
      (pss_cons (ps_set (i:=7) sc_w_look.nd rfl (Or.inl rfl) (pe_meth (pv 0) T.c_Net T.m_Net_opens (ok_Net_opens T) (hr.mono (by decide)) T.B_Net_opens .nil pass0 (pa_c (pv 5) pa_nil)))
      (pss_cons (ps_if (pt_not (pt_val (pe_call (ok_w_list T) (hr.mono (by decide)) rfl T.g_w_list T.F_w_list.kp T.B_w_list .nil pass0 (pa_c (pv 7) (pa_c (pe_call (ok_w_opens T) (hr.mono (by decide)) rfl T.g_w_opens T.F_w_opens.kp T.B_w_opens .nil pass0 (pa_c (pv 2) (pa_c (pe_ix ix_list (pv 4) (pv 5) (fun _ _=>rfl)) (pa_c (pv 8) pa_nil)))) pa_nil))))) (pss_one (ps_ret pe_bl)) pss_nil)
      (pss_cons (ps_expr (pe_bm PySem.F.plainAttrs_list PySem.F.slot_list_append PySem.F.type_list_append mt_append (pv 7) (pa_c pe_int pa_nil)))
      (pss_cons (ps_set (i:=10) sc_w_look.nd rfl (Or.inl rfl) (pe_callB (call_all rfl) (by rfl) T.n_all boot_all (pa_c (pe_comp (compOk_of (dsc:=defScope s_w_look) (N0:=["_law_net","_law_names_here","_law_ropes_here","_law_tables","_law_lives","_law_group","_law_other","_law_found","_law_rows","_law_some","_law_calm"]) (N2:=["_law_house","_law_group","_law_lives","_law_names_here","_law_ropes_here","_law_rows"]) (cap:=[none,some 5,some 4,some 1,some 2,some 8]) rfl rfl (by decide +kernel)) rfl (pi_range1 rfl T.n_range (pa_c (pe_callB call_len_seq (by rfl) T.n_len PySem.boot_len (pa_c (pv 1) pa_nil)) pa_nil)) (fun _ _ _ _=>by exact (pg_name (i:=0) nd_w_look_c0 rfl (Or.inl rfl))) (fun _ _ _ _=>by exact pts_nil) (fun _ _ _ _=>by exact (pe_cmpR (op_eqDs K rfl hr.units) (pe_call (ok_w_due T) (hr.mono (by decide)) rfl T.g_w_due T.F_w_due.kp T.B_w_due .nil pass0 (pa_c (pv 3) (pa_c (pv 4) (pa_c (pe_ix (ix_listK K rfl) (pv 2) (pv 1) (fun _ _=>rfl)) (pa_c (pv 5) (pa_c (pv 0) pa_nil)))))) (pe_ix (ix_listK K rfl) (pv 5) (pv 0) (fun _ _=>rfl)) (nomark _)))) pa_nil)))
      (pss_one (ps_ret (pe_and (pe_callB call_isi (by rfl) T.n_isinstance boot_isinstance (pa_c (pe_meth (pv 0) T.c_Net T.m_Net_resting (ok_Net_resting T) (hr.mono (by decide)) T.B_Net_resting .nil pass0 (pa_c (pv 5) pa_nil)) (pa_c (pe_bltn rfl T.n_bool boot_bool (v:=.ty "bool") rfl) pa_nil))) (pe_one (pe_cmpR op_eq (pe_meth (pv 0) T.c_Net T.m_Net_resting (ok_Net_resting T) (hr.mono (by decide)) T.B_Net_resting .nil pass0 (pa_c (pv 5) pa_nil)) (pv 10) (nomark _))))))))))))))),?_⟩
    have n10:=ok.n10
    have m20:=ok.m20
    have l20:(liveN rs st.ws g).length≤20:=Nat.le_trans (liveTo_len rs st.ws g rs.length) m20
    obtain ⟨loc,dx,q,hp,O,hF,hT⟩:=id N.net
    have hnet:=O.get .net _ rfl
    rw [hp] at hnet
    refine ⟨_,rfl,by decide,by decide,for_range (n:=3) (fun i σ H2=>Same H H2∧∃ v6 v7:Option V,σ = [some (.ref p),some (.ref a0),some (.ref b0),some (.ref lt),some (.ref lv),some (.int (g:Nat)),v6,v7,none,none,none]) ⟨Same.refl _,_,_,rfl⟩ ?_ ?_⟩
    · rintro i σ H2 hi ⟨s2,v6,v7,rfl⟩
      rw [Int.zero_add]
      refine ⟨_,rfl,p,_,_,rfl,s2 _ _ hnet,rfl,_,rfl,F,p,tp,ns.length,i,_,rfl,(N.mono s2).net,hi,fun l1 qs1 H3 s3 hl1 h1 ht1=>?_⟩
      have s23:=s2.trans s3
      refine ⟨_,rfl,_,rfl,_,rfl,lt,_,_,_,rfl,rfl,s23.seq hlt,at_rng hi,l1,tg i,ns.length,st.R i,rfl,ht1.rowsAt (SqL.of h1),(htg i hi).mono s23,by omega,fun H4 s4=>⟨_,rfl,iteF ?_⟩⟩
      have s24:=s23.trans s4
      refine ⟨_,rfl,.inl ⟨rfl,_,SqL.of (s4 _ _ h1)⟩,l1,_,rfl,rfl,s4 _ _ h1,?_⟩
      exact ⟨s24.out (s2.free hl1),_,_,rfl⟩
    rintro σ H2 ⟨s2,v6,v7,rfl⟩
    refine ⟨_,rfl,_,rfl,lt,_,_,_,rfl,rfl,s2.seq hlt,at_rng hg,?_⟩
    refine ⟨_,rfl,p,_,_,rfl,s2 _ _ hnet,rfl,_,rfl,F,p,tp,ln,lr,ns,rs,_,g,rfl,N.mono s2,ok,sok,hg,fun l2 H5 s5 hl2 h2=>?_⟩
    have s25:=s2.trans s5
    refine ⟨_,rfl,_,rfl,_,rfl,lv,_,_,_,rfl,rfl,s25.seq hlv,at_rng hg,l2,lg g,_,rfl,SqL.of h2,s25.seq (hlg g hg),by omega,fun H6 s6=>⟨_,rfl,iteF ?_⟩⟩
    refine ⟨_,rfl,.inl ⟨rfl,_,SqL.of (s6 _ _ h2)⟩,l2,_,rfl,rfl,s6 _ _ h2,?_⟩
    have s7:Same H (upd H6 l2 (.lst [])):=(s25.trans s6).out (s2.free hl2)
    generalize upd H6 l2 (.lst [])=H7 at s7
    clear s2 s5 s25 s6 h2 hl2
    refine ⟨_,rfl,p,_,_,rfl,s7 _ _ hnet,rfl,_,rfl,F,p,tp,ln,lr,ns,rs,_,ok,g,rfl,N.mono s7,sok,hg,fun l3 os H8 s8 hl3 h3 hO h12=>?_⟩
    have s78:=s7.trans s8
    refine ⟨_,rfl,_,rfl,_,rfl,_,rfl,lv,_,_,_,rfl,rfl,s78.seq hlv,at_rng hg,_,rfl,b0,lg g,tg g,ns,rs,_,ok.nd,ok.ok,liveN_lt,st.R g,rfl,hR.keep (fun o z=>s78 _ _ z) (fun b x=>s78.seqT),s78.seq (hlg g hg),(htg g hg).mono s78,l20,liveN_rise,sok.fit g hg,fun l4 os4 H9 s9 hl4 h4 hO4=>?_⟩
    have eo:os4=os:=hO4.uniq hO
    subst eo
    have s79:=s78.trans s9
    refine ⟨l3,l4,_,rfl,SqL.of (s9 _ _ h3),SqL.of h4,by omega,fun H10 s10=>⟨_,rfl,iteF ?_⟩⟩
    have h3':=s10 _ _ (s9 _ _ h3)
    refine ⟨_,rfl,.inl ⟨rfl,_,SqL.of h3'⟩,l3,_,_,rfl,rfl,h3',(by rw [List.length_map]; exact small1000 (by omega)),?_⟩
    have s11:=(s79.trans s10).out (o:=.lst (natsV os4++[.int 0])) (s7.free hl3)
    generalize upd H10 l3 (.lst (natsV os4++[.int 0]))=H11 at s11
    clear s7 s8 s78 s9 s79 s10 h3 h3' h4 hl3 hl4
    obtain ⟨ps,hP,ePs,hrow⟩:=htg g hg
    refine ⟨_,rfl,a0,_,rfl,.inl (s11.seq hA),_,rfl,(by show -(2 ^ 62)≤(((ns.map V.int).length:Nat):Int); omega),(by show (((ns.map V.int).length:Nat):Int) < 2 ^ 62; rw [List.length_map]; omega),fun acc hacc=>?_⟩
    have en:((((ns.map V.int).length:Nat):Int)).toNat=ns.length:=by rw [List.length_map]; rfl
    rw [en]
    refine comp_by (n:=ns.length) (fun i ys _=>∃ bs:List Bool,ys=bs.map V.bl∧bs.length=i∧(bs.all id=true↔∀ j,j < i→RM.IsDue (N:=gNet ns rs ok st.ws g) ns.length (st.R g) j (st.R g j))) hacc itr_go itr_stop ⟨[],rfl,rfl,by simp⟩ ?_ ?_
    · rintro i ys H2 hi s2 hy ⟨bs,e1,e2,e3⟩ x H3 ⟨rfl,rfl⟩
      have s12:=s11.trans s2
      have hpi:ps[i]?=some ps[i]:=List.getElem?_eq_getElem (by omega)
      have hatp:atI (ps.map V.ref) (0 + (i:Int))=some (.ref ps[i]):=by rw [Int.zero_add]; exact atI_nat (by rw [List.getElem?_map,hpi]; rfl)
      refine ⟨_,rfl,_,rfl,_,rfl,_,rfl,lv,_,_,_,rfl,rfl,s12.seq hlv,at_rng hg,_,rfl,_,rfl,a0,b0,lg g,tg g,ns,rs,_,ok.nd,ok.ok,liveN_lt,st.R g,i,by rw [Int.zero_add]; rfl,s12.seq hA,hR.keep (fun o z=>s12 _ _ z) (fun b x=>s12.seqT),s12.seq (hlg g hg),(htg g hg).mono s12,hi,(sok.fit g hg).sane,fun q d H4 s4 hq hdd=>?_⟩
      have s13:=s12.trans s4
      have fd:=due_fit (sok.fit g hg) hi ok.pos hdd
      refine ⟨_,rfl,_,rfl,tg g,_,_,_,rfl,rfl,s13.seq hP,hatp,RM.rowD d,RM.rowD (st.R g i),RM.rowD_rep hq,RM.rowD_rep (s13.seqT (hrow i _ hpi)),RM.rowD_lay _,RM.rowD_lay _,(by rw [RM.rowD_deep]; decide),?_⟩
      rw [RM.rowD_eqv fd.by1 (sok.fit g hg i hi).by1]
      refine comp_add hacc hi (s2.trans s4) (s4 _ _ hy) (by rw [e1,List.length_map,e2]; exact small1000 (by omega)) ⟨bs++[decide (d=st.R g i)],by rw [e1,List.map_append]; rfl,by rw [List.length_append,e2]; rfl,?_⟩
      rw [List.all_append,Bool.and_eq_true,e3]
      constructor
      · rintro ⟨q1,q2⟩ j hj
        rcases Nat.lt_or_eq_of_le (Nat.le_of_lt_succ hj) with z | rfl
        · exact q1 j z
        · have q2:d=st.R g j:=by simpa using q2
          exact q2 ▸ hdd
      · intro q
        refine ⟨fun j hj=>q j (by omega),?_⟩
        have:=hdd.uniq (q i (by omega))
        simpa using this
    rintro ys H12 s12 hy ⟨bs,e1,e2,e3⟩
    refine ⟨acc,bs,rfl,SqL.of (by rw [hy,e1]),?_⟩
    have e3:bs.all id=true↔RM.Rest (gNet ns rs ok st.ws g) (st.R g):=e3
    dsimp only [gName]
    generalize bs.all id=calm at e3
    have s13:=s11.trans s12
    refine ⟨_,rfl,p,_,_,rfl,s13 _ _ hnet,rfl,_,rfl,F,p,tp,ln,lr,ns,rs,_,ok,g,rfl,N.mono s13,sok,hg,fun y H14 s14 hy=>?_⟩
    refine ⟨_,_,_,_,rfl,.bl _,rfl,_,rfl,iteT ?_⟩
    have s15:=s13.trans s14
    refine ⟨_,rfl,p,_,_,rfl,s15 _ _ hnet,rfl,_,rfl,F,p,tp,ln,lr,ns,rs,_,ok,g,rfl,N.mono s15,sok,hg,fun y' H16 s16 hy'=>?_⟩
    have ey:y'=calm:=Bool.eq_iff_iff.mpr (hy'.trans e3.symm)
    subst ey
    refine ⟨_,rfl,rfl,?_⟩
    rw [decide_eq_true rfl]
    exact k _ (s15.trans s16)
end
end K27
set_option maxHeartbeats 4000000
namespace K27
open PySem L2 TW PyProof.Rows
open RM (rowV byV byV_non byV_int)
seal L2.PE L2.PA L2.PT L2.PW L2.PS L2.PSs L2.PG L2.PGs L2.PI L2.PTs
section
variable {P:Program} {w:World} {K:PySem.W.Frag} {mg:Str→Option Value} {base:Heap}
def calD (c:Nat × Nat):PyData:=.tuple (([(c.1:Int),(c.2:Int)]:List Int).map .int)
theorem cal_all {K:PySem.W.Frag} {H:Hp}:∀ {qs:List Addr} {cl:List (Nat × Nat)},TsAt K H qs (cl.map fun c=>[.int c.1,.int c.2])→RepAll K H (cl.map calD) (qs.map V.ref)
  | [],[],_=>rfl
  | [],_ :: _,h=>by cases h.len
  | _ :: _,[],h=>by cases h.len
  | q :: qs,c :: cl,h=>⟨.ref q,qs.map V.ref,rfl,Rep.intsT (ns:=[(c.1:Int),(c.2:Int)]) (h.at' 0 q _ rfl rfl),cal_all ⟨Nat.succ.inj h.len,fun i p x a b=>h.at' (i + 1) p x a b⟩⟩
theorem cal_lay:∀ cl:List (Nat × Nat),PyData.canLayAll0 (cl.map calD)=true
  | []=>rfl
  | c :: cl=>by
    show (PyData.canLay0 (calD c) && PyData.canLayAll0 (cl.map calD))=true
    rw [cal_lay cl]; rfl
theorem cal_deep:∀ cl:List (Nat × Nat),PyData.depthAll (cl.map calD)≤1
  | []=>by decide
  | c :: cl=>by
    show max (PyData.depth (calD c)) (PyData.depthAll (cl.map calD))≤1
    have:=cal_deep cl
    have e:PyData.depth (calD c)=1:=rfl
    omega
def hdD (ns:List Int) (rs:List R5) (cl:List (Nat × Nat)):PyData:=.list [.list (ns.map .int),.list (rs.map R5.D),.list (cl.map calD)]
theorem hd_lay (ns:List Int) (rs:List R5) (cl:List (Nat × Nat)):PyData.canLay0 (hdD ns rs cl)=true:=by
  show (PyData.canLayAll0 (ns.map .int) && (PyData.canLayAll0 (rs.map R5.D) && (PyData.canLayAll0 (cl.map calD) && true)))=true
  rw [ints_lay,ropes_lay,cal_lay]
  rfl
theorem hd_deep (ns:List Int) (rs:List R5) (cl:List (Nat × Nat)):PyData.depth (hdD ns rs cl)≤64:=by
  show max (PyData.depthAll (ns.map .int) + 1) (max (PyData.depthAll (rs.map R5.D) + 1) (max (PyData.depthAll (cl.map calD) + 1) 0)) + 1≤64
  have h1:=ints_deep ns
  have h2:=ropes_deep rs
  have h3:=cal_deep cl
  omega
theorem hd_rep {K:PySem.W.Frag} {H:Hp} {l x y z:Addr} {ns:List Int} {rs:List R5} {cl:List (Nat × Nat)} {us qs:List Addr} (h0:H l=some (.lst [.ref x,.ref y,.ref z])) (h1:H x=some (.lst (ns.map V.int))) (h2:H y=some (.lst (us.map V.ref))) (h2':TsAt K H us (rs.map R5.vs)) (h3:H z=some (.lst (qs.map V.ref))) (h3':TsAt K H qs (cl.map fun c=>[.int c.1,.int c.2])):Rep K H (hdD ns rs cl) (.ref l) :=
  ⟨l,_,rfl,SqL.of h0,_,_,rfl,⟨x,_,rfl,SqL.of h1,repAll_ints _⟩,_,_,rfl,⟨y,_,rfl,SqL.of h2,RopL.ropes (l:=y) h2'⟩,_,_,rfl,⟨z,_,rfl,SqL.of h3,cal_all h3'⟩,rfl⟩
theorem S0ok {ns:List Int} {rs:List R5} {cl:List (Nat × Nat)} (o:TownOk ns rs):NSok ns rs (S0 ns rs cl):=by
  refine ⟨List.length_map _,fun w hw=>?_,fun g _ i hi=>⟨?_,Int.le_refl _,⟨Int.le_refl _,by show (0:Int) < (ns.length:Int); omega⟩,.inl rfl⟩⟩
  · obtain ⟨r,hr,rfl⟩:=List.mem_map.mp hw
    rw [List.length_range]
    have:=(o.ok r hr).d4
    omega
  · show 0≤ns.getD i 0
    rw [List.getD_eq_getElem?_getD,List.getElem?_eq_getElem hi]
    exact o.pos _ (List.getElem_mem hi)
theorem tsRows {K:PySem.W.Frag} {H:Hp} {qs:List Addr} {n:Nat} {R:Nat→RM.Row} (e:qs.length=n) (h:∀ (j:Nat) q,qs[j]?=some q→SqT K H q (rowV (R j))):TsAt K H qs (rowsL n R):=by
  refine ⟨by simp [rowsL,e],fun i q x e1 e2=>?_⟩
  have hi:=(List.getElem?_eq_some_iff.mp e1).1
  unfold rowsL at e2
  rw [List.getElem?_map,List.getElem?_range (by omega)] at e2
  cases e2
  exact h i q e1
theorem fallOk {ns:List Int} {rs:List R5} {s:NS} {i x:Nat} {w:List Nat} {ts:Nat→List T3} {cps:List Cp} (h:NSok ns rs s) (hw:s.ws[i]?=some w):NSok ns rs { s with ws:=s.ws.set i (w.filter fun z=>decide (z≠x)),ts:=ts,cps:=cps }:=by
  refine ⟨by show (s.ws.set i _).length=_; rw [List.length_set]; exact h.wl,fun u hu=>?_,h.fit⟩
  rcases List.mem_or_eq_of_mem_set hu with z | rfl
  · exact h.w4 u z
  · exact Nat.le_trans (List.length_filter_le _ _) (h.w4 w (List.mem_of_getElem? hw))
theorem callOk {ns:List Int} {rs:List R5} {s:NS} {g x:Nat} {d:RM.Row} (h:NSok ns rs s) (hd:RowFit ns.length rs.length d):NSok ns rs (call0 s g x d):=by
  unfold call0
  split
  · exact h
  · refine ⟨h.wl,h.w4,fun k hk=>?_⟩
    show FitAll _ _ (updN s.R g (RM.upd (s.R g) x d) k)
    by_cases z:k=g
    · subst z
      rw [updN_same]
      intro i hi
      unfold RM.upd
      split
      · exact hd
      · exact h.fit k hk i hi
    · rw [updN_ne z]
      exact h.fit k hk
theorem callR {s:NS} {g x:Nat} {d:RM.Row}:(call0 s g x d).R=updN s.R g (RM.upd (s.R g) x d):=by
  unfold call0
  by_cases z:d=s.R g x
  · rw [if_pos z,rmupd_id z,updN_id rfl]
  · rw [if_neg z]
theorem callW {s:NS} {g x:Nat} {d:RM.Row}:(call0 s g x d).ws=s.ws∧(call0 s g x d).ls=s.ls:=by
  unfold call0
  split
  · exact ⟨rfl,rfl⟩
  · exact ⟨rfl,rfl⟩
theorem three_of {α:Type} {xs:List α} (h:xs.length=3):∃ x y z,xs = [x,y,z]:=by
  match xs,h with
  | [x,y,z],_=>exact ⟨x,y,z,rfl⟩
theorem lt3 {g:Nat} (h:g < 3):g=0∨g=1∨g=2:=by omega
def spLaw (K:PySem.W.Frag):Sp:=fun vs H Q _=>∃ (a:Addr) (ns:List Int),vs = [.ref a]∧SqL K H a (ns.map V.int)∧ns.length≤63∧∀ H',Q (.bl true) H'
theorem ok_law {t:Ad} (T:Txt K mg t):FnOk P w K mg base CX0 8 t.f_law t.d_law ["_law_script"]  (spLaw K):=by
  refine T.F_law.ok sc_law (fun vs H Q E h=>?_) (fun cdv A outer s H vs Q E hr h=>?_)
  · obtain ⟨a,ns,rfl,_⟩:=h; rfl
  · obtain ⟨a,cs,rfl,hS,hlen,k⟩:=h
    refine ⟨_,(pss_cons (ps_set (i:=1) sc_law.nd rfl (Or.inl rfl) (pe_op op_add pe_int (pe_op op_mod (pe_call (ok_w_cell_at T) (hr.mono (by decide)) rfl T.g_w_cell_at T.F_w_cell_at.kp T.B_w_cell_at .nil pass0 (pa_c (pv 0) (pa_c pe_int pa_nil))) pe_int)))
      (pss_cons (ps_set (i:=2) sc_law.nd rfl (Or.inl rfl) (pe_op op_mod (pe_call (ok_w_cell_at T) (hr.mono (by decide)) rfl T.g_w_cell_at T.F_w_cell_at.kp T.B_w_cell_at .nil pass0 (pa_c (pv 0) (pa_c pe_int pa_nil))) pe_int))
      (pss_cons (ps_set (i:=3) sc_law.nd rfl (Or.inl rfl) (pe_call (ok_w_names T) (hr.mono (by decide)) rfl T.g_w_names T.F_w_names.kp T.B_w_names .nil pass0 (pa_c (pv 0) (pa_c (pv 1) pa_nil))))
      (pss_cons (ps_set (i:=4) sc_law.nd rfl (Or.inr rfl) (pe_call (ok_w_ropes T) (hr.mono (by decide)) rfl T.g_w_ropes T.F_w_ropes.kp T.B_w_ropes .nil pass0 (pa_c (pv 0) (pa_c (pv 1) (pa_c (pv 2) pa_nil)))))
      (pss_cons (ps_set (i:=5) sc_law.nd rfl (Or.inl rfl) (pe_call (ok_w_callers T) (hr.mono (by decide)) rfl T.g_w_callers T.F_w_callers.kp T.B_w_callers .nil pass0 (pa_c (pv 0) (pa_c (pv 1) (pa_c (pv 2) pa_nil)))))
      (pss_cons (ps_set (i:=6) sc_law.nd rfl (Or.inl rfl) (pe_lst (pa_c (pe_callTy call_list_of (by rfl) T.n_list boot_list (pa_c (pv 3) pa_nil)) (pa_c (pe_callTy call_list_of (by rfl) T.n_list boot_list (pa_c (pv 4) pa_nil)) (pa_c (pe_callTy call_list_of (by rfl) T.n_list boot_list (pa_c (pv 5) pa_nil)) pa_nil)))))
      (pss_cons (ps_set (i:=7) sc_law.nd rfl (Or.inl rfl) (pe_make T.K_Town (ok_Townu_initu T) (hr.mono (by decide)) rfl T.g_Town T.B_Townu_initu .nil pass0 (pa_c (pe_ix ix_list (pv 6) pe_int (fun _ _=>rfl)) (pa_c (pe_ix ix_list (pv 6) pe_int (fun _ _=>rfl)) pa_nil))))
      (pss_cons (ps_set (i:=8) sc_law.nd rfl (Or.inl rfl) (pe_make T.K_Net (ok_Netu_initu T) (hr.mono (by decide)) rfl T.g_Net T.B_Netu_initu .nil pass0 (pa_c (pv 7) (pa_c (pe_ix ix_list (pv 6) pe_int (fun _ _=>rfl)) pa_nil))))
      (pss_cons (ps_if (pt_cmpR op_neD (pv 6) (pe_lst (pa_c (pv 3) (pa_c (pv 4) (pa_c (pv 5) pa_nil)))) (nomark _)) (pss_one (ps_ret pe_bl)) pss_nil)
      (pss_cons (ps_for PassesOwn.never rfl (pi_list (pv 6)) (pg_name (i:=9) sc_law.nd rfl (Or.inl rfl)) (pss_one (ps_expr (pe_bm0 PySem.F.plainAttrs_list PySem.F.slot_list_clear PySem.F.type_list_clear mt_clear (pv 9)))))
      (pss_cons (ps_set (i:=10) sc_law.nd rfl (Or.inr rfl) (pe_comp (compOk_of (dsc:=defScope s_law) (N0:=["_law_script","_law_size","_law_group","_law_names_here","_law_ropes_here","_law_callers_here","_law_handed","_law_town","_law_net","_law_some","_law_stood","_law_one","_law_lives","_law_tables","_law_beside","_law_cell","_law_house","_law_ought","_law_fresh"]) (N2:=["_law_rope"]) (cap:=[none]) rfl rfl (by decide +kernel)) rfl (pi_list (pv 4)) (fun _ _ _ _=>by exact (pg_name (i:=0) nd_law_c0 rfl (Or.inl rfl))) (fun _ _ _ _=>by exact pts_nil) (fun _ _ _ _=>by exact (pe_op op_rep (pe_lst (pa_c pe_bl pa_nil)) (pe_ix (ix_tupK K rfl) (pv 0) pe_int (fun _ _=>rfl))))))
      (pss_cons (ps_setcomp (i:=12) sc_law.nd rfl (Or.inl rfl) (compOk_of (dsc:=defScope s_law) (N0:=["_law_script","_law_size","_law_group","_law_names_here","_law_ropes_here","_law_callers_here","_law_handed","_law_town","_law_net","_law_some","_law_stood","_law_one","_law_lives","_law_tables","_law_beside","_law_cell","_law_house","_law_ought","_law_fresh"]) (N2:=["_law_one","_law_ropes_here","_law_stood"]) (cap:=[none,some 4,some 10]) rfl rfl (by decide +kernel)) rfl (pi_range1 rfl T.n_range (pa_c pe_int pa_nil)) (fun _ _ _ _=>by exact (pg_name (i:=0) nd_law_c1 rfl (Or.inl rfl))) (fun _ _ _ _=>by exact pts_nil) (fun _ _ _ _=>by exact (pe_call (ok_w_live T) (hr.mono (by decide)) rfl T.g_w_live T.F_w_live.kp T.B_w_live .nil pass0 (pa_c (pv 1) (pa_c (pv 2) (pa_c (pv 0) pa_nil))))))
      (pss_cons (ps_set (i:=13) sc_law.nd rfl (Or.inl rfl) (pe_lst (pa_c (pe_comp (compOk_of (dsc:=defScope s_law) (N0:=["_law_script","_law_size","_law_group","_law_names_here","_law_ropes_here","_law_callers_here","_law_handed","_law_town","_law_net","_law_some","_law_stood","_law_one","_law_lives","_law_tables","_law_beside","_law_cell","_law_house","_law_ought","_law_fresh"]) (N2:=["_law_name"]) (cap:=[none]) rfl rfl (by decide +kernel)) rfl (pi_list (pv 3)) (fun _ _ _ _=>by exact (pg_name (i:=0) nd_law_c2 rfl (Or.inl rfl))) (fun _ _ _ _=>by exact pts_nil) (fun _ _ _ _=>by exact (pe_tup (pa_c (pv 0) (pa_c pe_int (pa_c pe_int (pa_c pe_non pa_nil))))))) (pa_c (pe_comp (compOk_of (dsc:=defScope s_law) (N0:=["_law_script","_law_size","_law_group","_law_names_here","_law_ropes_here","_law_callers_here","_law_handed","_law_town","_law_net","_law_some","_law_stood","_law_one","_law_lives","_law_tables","_law_beside","_law_cell","_law_house","_law_ought","_law_fresh"]) (N2:=["_law_name"]) (cap:=[none]) rfl rfl (by decide +kernel)) rfl (pi_list (pv 3)) (fun _ _ _ _=>by exact (pg_name (i:=0) nd_law_c3 rfl (Or.inl rfl))) (fun _ _ _ _=>by exact pts_nil) (fun _ _ _ _=>by exact (pe_tup (pa_c (pv 0) (pa_c pe_int (pa_c pe_int (pa_c pe_non pa_nil))))))) pa_nil))))
      (pss_cons (ps_expr (pe_bm PySem.F.plainAttrs_list PySem.F.slot_list_append PySem.F.type_list_append mt_append (pv 13) (pa_c (pe_callTy call_list_of (by rfl) T.n_list boot_list (pa_c (pe_ix ix_list (pv 13) pe_int (fun _ _=>rfl)) pa_nil)) pa_nil)))
      (pss_cons (ps_if (pt_not (pt_val (pe_call (ok_w_first T) (hr.mono (by decide)) rfl T.g_w_first T.F_w_first.kp T.B_w_first .nil pass0 (pa_c (pv 8) (pa_c (pv 5) (pa_c (pv 13) (pa_c (pv 12) pa_nil))))))) (pss_one (ps_ret pe_bl)) pss_nil)
      (pss_cons (ps_set (i:=14) sc_law.nd rfl (Or.inl rfl) (pe_make T.K_Net (ok_Netu_initu T) (hr.mono (by decide)) rfl T.g_Net T.B_Netu_initu .nil pass0 (pa_c (pv 7) (pa_c (pe_lst pa_nil) pa_nil))))
      (pss_cons (ps_if (pt_cmpR op_neD (pv 4) (pe_lst pa_nil) (nomark _)) (pss_one (ps_expr (pe_meth (pv 14) T.c_Net T.m_Net_fall (ok_Net_fall T) (hr.mono (by decide)) T.B_Net_fall .nil pass0 (pa_c pe_int (pa_c pe_int pa_nil))))) pss_nil)
      (pss_cons (ps_for PassesOwn.never rfl (pi_list (pe_slice sl_list (pv 0) (po_some pe_int) (po_some pe_int))) (pg_name (i:=15) sc_law.nd rfl (Or.inl rfl)) (pss_cons (ps_set (i:=16) sc_law.nd rfl (Or.inl rfl) (pe_op op_mod (pv 15) (pv 1)))
      (pss_cons (ps_set (i:=11) sc_law.nd rfl (Or.inl rfl) (pe_ix ix_list (pe_lst (pa_c (pv 2) (pa_c (pv 2) (pa_c (pe_op op_mod (pe_op op_fdiv (pv 15) pe_int) pe_int) pa_nil)))) (pe_op op_mod (pe_op op_fdiv (pv 15) pe_int) pe_int) (fun _ _=>rfl)))
      (pss_cons (ps_expr (pe_meth (pv 14) T.c_Net T.m_Net_call (ok_Net_call T) (hr.mono (by decide)) T.B_Net_call .nil pass0 (pa_c (pv 16) (pa_c (pv 11) pa_nil))))
      (pss_cons (ps_set (i:=17) sc_law.nd rfl (Or.inl rfl) (pe_call (ok_w_due T) (hr.mono (by decide)) rfl T.g_w_due T.F_w_due.kp T.B_w_due .nil pass0 (pa_c (pv 3) (pa_c (pv 4) (pa_c (pe_ix ix_list (pv 12) (pv 11) (fun _ _=>rfl)) (pa_c (pe_ix ix_list (pv 13) (pv 11) (fun _ _=>rfl)) (pa_c (pv 16) pa_nil)))))))
      (pss_cons (ps_set (i:=18) sc_law.nd rfl (Or.inl rfl) (pe_meth (pv 8) T.c_Net T.m_Net_call (ok_Net_call T) (hr.mono (by decide)) T.B_Net_call .nil pass0 (pa_c (pv 16) (pa_c (pv 11) pa_nil))))
      (pss_cons (ps_if (PW.pt (pw_or (pt_not (pt_val (pe_callB call_isi (by rfl) T.n_isinstance boot_isinstance (pa_c (pv 18) (pa_c (pe_bltn rfl T.n_bool boot_bool (v:=.ty "bool") rfl) pa_nil))))) (pw_or1 (pt_cmpR op_ne (pv 18) (pe_cmpR op_neD (pv 17) (pe_ix ix_list (pe_ix ix_list (pv 13) (pv 11) (fun _ _=>rfl)) (pv 16) (fun _ _=>rfl)) (nomark _)) (nomark _))))) (pss_one (ps_ret pe_bl)) pss_nil)
      (pss_cons (ps_asg (pv 17) (pg_sub (pe_ix ix_list (pv 13) (pv 11) (fun _ _=>rfl)) (pv 16) set_list))
      (pss_one (ps_if (pt_not (pt_val (pe_call (ok_w_look T) (hr.mono (by decide)) rfl T.g_w_look T.F_w_look.kp T.B_w_look .nil pass0 (pa_c (pv 8) (pa_c (pv 3) (pa_c (pv 4) (pa_c (pv 13) (pa_c (pv 12) (pa_c (pv 11) pa_nil))))))))) (pss_one (ps_ret pe_bl)) pss_nil))))))))))
      (pss_one (ps_ret pe_bl)))))))))))))))))))),?_⟩
    refine ⟨_,rfl,a,cs,0,rfl,hS,by decide,_,_,rfl,rfl,(by show (0:Int) < 10; decide),_,_,rfl,rfl,?_⟩
    obtain ⟨n,hn,hn1,hn10⟩ : ∃ n:Nat,1 + cs.getD (0:Int).toNat 0 % 10=(n:Int)∧1≤n∧n≤10:=by
      have h1:=Int.emod_nonneg (cs.getD (0:Int).toNat 0) (show (10:Int)≠0 by decide)
      have h2:=Int.emod_lt_of_pos (cs.getD (0:Int).toNat 0) (show (0:Int) < 10 by decide)
      exact ⟨(1 + cs.getD (0:Int).toNat 0 % 10).toNat,by omega,by omega,by omega⟩
    show gName 1 (V.int (1 + cs.getD (0:Int).toNat 0 % 10)) _ _ _
    rw [hn]
    clear hn
    refine ⟨_,rfl,a,cs,1,rfl,hS,by decide,_,_,rfl,rfl,(by show (0:Int) < 3; decide),?_⟩
    obtain ⟨g,hge,hg⟩ : ∃ g:Nat,cs.getD (1:Int).toNat 0 % 3=(g:Int)∧g < 3:=by
      have h1:=Int.emod_nonneg (cs.getD (1:Int).toNat 0) (show (3:Int)≠0 by decide)
      have h2:=Int.emod_lt_of_pos (cs.getD (1:Int).toNat 0) (show (0:Int) < 3 by decide)
      exact ⟨(cs.getD (1:Int).toNat 0 % 3).toNat,by omega,by omega⟩
    show gName 2 (V.int (cs.getD (1:Int).toNat 0 % 3)) _ _ _
    rw [hge]
    clear hge
    refine ⟨_,rfl,_,rfl,a,cs,n,rfl,hS,hn1,hn10,fun a0 H1 ns s1 ha0 hA1 eln nd nn=>?_⟩
    subst eln
    refine ⟨_,rfl,_,rfl,_,rfl,a,cs,ns.length,g,rfl,s1.seq hS,hn1,hn10,hg,fun b0 H2 rs s2 hb0 hR2 l14 ok=>?_⟩
    have s12:=s1.trans s2
    refine ⟨_,rfl,_,rfl,_,rfl,a,cs,ns.length,g,rfl,s12.seq hS,hn1,hn10,hg,fun cb qs H3 cl s3 hcb0 hcb hcq hc1 hc20 hcok=>?_⟩
    have s13:=s12.trans s3
    have hA3:=(s2.trans s3) _ _ hA1
    obtain ⟨us,hB2,hus2⟩:=hR2
    have hB3:=s3 _ _ hB2
    have hus3:TsAt K H3 us (rs.map R5.vs):=hus2.mono fun b x=>s3.seqT
    have hS3:=s13.seq hS
    have tok:TownOk ns rs:=⟨nd,ok,hn1,hn10,by omega,nn⟩
    have hw4:∀ r∈rs,1≤r.d∧r.d≤4:=fun r hr'=>⟨(ok r hr').d1,(ok r hr').d4⟩
    have he7:∀ r∈rs,1≤r.e∧r.e≤7:=fun r hr'=>⟨(ok r hr').e1,(ok r hr').e7⟩
    clear s1 s2 s3 s12 s13 hA1 hB2 hus2 ha0 hb0 hcb0 hS
    refine ⟨_,rfl,a0,_,rfl,.inl (SqL.of hA3),fun l1 h1=>?_⟩
    have t1:=Same.new (o:=.lst (ns.map V.int)) h1
    refine ⟨_,rfl,b0,_,rfl,.inl (SqL.of (t1 _ _ hB3)),fun l2 h2=>?_⟩
    have t2:=t1.trans (Same.new (o:=.lst (us.map V.ref)) h2)
    have hl1:=Same.new (o:=.lst (us.map V.ref)) h2 _ _ (upd_same (H:=H3) (a:=l1) (o:=.lst (ns.map V.int)))
    have hl2:=upd_same (H:=upd H3 l1 (.lst (ns.map V.int))) (a:=l2) (o:=.lst (us.map V.ref))
    generalize upd (upd H3 l1 (.lst (ns.map V.int))) l2 (.lst (us.map V.ref))=H4 at t2 hl1 hl2
    refine ⟨_,rfl,cb,_,rfl,.inl (SqL.of (t2 _ _ hcb)),fun l3 h3=>?_⟩
    have t3:=Same.new (o:=.lst (qs.map V.ref)) h3
    have hl3:=upd_same (H:=H4) (a:=l3) (o:=.lst (qs.map V.ref))
    have hl1:=t3 _ _ hl1
    have hl2:=t3 _ _ hl2
    have t3:=t2.trans t3
    generalize upd H4 l3 (.lst (qs.map V.ref))=H5 at t3 hl1 hl2 hl3
    refine ⟨(by show 3≤sizeLine; decide),fun lh h5=>?_⟩
    have nlh:l1≠lh∧l2≠lh∧l3≠lh:=⟨ne_of_none hl1 h5,ne_of_none hl2 h5,ne_of_none hl3 h5⟩
    have t5:=Same.new (o:=.lst [V.ref l1,V.ref l2,V.ref l3]) h5
    have hlh:=upd_same (H:=H5) (a:=lh) (o:=.lst [V.ref l1,V.ref l2,V.ref l3])
    have hl1:=t5 _ _ hl1
    have hl2:=t5 _ _ hl2
    have hl3:=t5 _ _ hl3
    have s6:=t3.trans t5
    have f1:=h1
    have f2:H3 l2=none:=t1.free h2
    have f3:H3 l3=none:=t2.free h3
    generalize upd H5 lh (.lst [V.ref l1,V.ref l2,V.ref l3])=H6 at t5 hlh hl1 hl2 hl3 s6
    clear t1 t2 t3 t5 h1 h2 h3 h5
    refine ⟨_,rfl,lh,_,_,_,rfl,rfl,SqL.of hlh,rfl,_,rfl,lh,_,_,_,rfl,rfl,SqL.of hlh,rfl,fun tp dx np ndx nep=>?_⟩
    have t7:Same H6 (upd (upd H6 dx (.own tp)) tp (.ins t.a_Town dx [])):=(Same.new ndx).trans (Same.new (by rw [upd_ne (Ne.symm nep)]; exact np))
    refine ⟨tp,dx,l1,l2,ns,rs,rfl,upd_same,SqL.of (t7 _ _ hl1),⟨l2,_,rfl,SqL.of (t7 _ _ hl2),RopL.ropes (l:=l2) (hus3.mono fun b x=>(s6.trans t7).seqT)⟩,hn1,hn10,nn,nd,by omega,ok,fun ln lr H7 hln hlr hT kp=>⟨rfl,?_⟩⟩
    have ntp:tp≠l1∧tp≠l2∧tp≠l3:=⟨(ne_of_none hl1 np).symm,(ne_of_none hl2 np).symm,(ne_of_none hl3 np).symm⟩
    have s67:Same H6 H7:=fun b o e=>kp b o (t7 b o e) (ne_of_none e np)
    have hln6:H6 ln=none:=t7.free hln
    have hlr6:H6 lr=none:=t7.free hlr
    have nln:ln≠l1∧ln≠l2∧ln≠l3:=⟨(ne_of_none hl1 hln6).symm,(ne_of_none hl2 hln6).symm,(ne_of_none hl3 hln6).symm⟩
    have nlr:lr≠l1∧lr≠l2∧lr≠l3:=⟨(ne_of_none hl1 hlr6).symm,(ne_of_none hl2 hlr6).symm,(ne_of_none hl3 hlr6).symm⟩
    clear kp t7 hln hlr ndx nep np
    have hl1:=s67 _ _ hl1
    have hl2:=s67 _ _ hl2
    have hl3:=s67 _ _ hl3
    have hlh:=s67 _ _ hlh
    have s37:=s6.trans s67
    clear s6 s67 hln6 hlr6
    refine ⟨_,rfl,_,rfl,lh,_,_,_,rfl,rfl,SqL.of hlh,rfl,fun p1 dx1 np ndx nep=>?_⟩
    have t8:Same H7 (upd (upd H7 dx1 (.own p1)) p1 (.ins t.a_Net dx1 [])):=(Same.new ndx).trans (Same.new (by rw [upd_ne (Ne.symm nep)]; exact np))
    refine ⟨p1,dx1,tp,ln,lr,l3,ns,rs,qs,cl,rfl,upd_same,hT.mono t8,by omega,by omega,hw4,SqL.of (t8 _ _ hl3),hcq.mono fun b x=>(s37.trans t8).seqT,hc20,hcok,fun F1 H8 N1 kp fr=>⟨rfl,?_⟩⟩
    have o8:Same H7 (Off H8 F1):=off_made t8 np kp fr
    clear kp fr t8 np ndx nep
    have s38:=s37.trans o8
    have s38':=s38.trans off_same
    have hT8:=hT.mono o8
    have nf1:¬ F1 l1∧¬ F1 l2∧¬ F1 l3:=⟨(off_some (o8 _ _ hl1)).1,(off_some (o8 _ _ hl2)).1,(off_some (o8 _ _ hl3)).1⟩
    have hl1:=(o8.trans off_same) _ _ hl1
    have hl2:=(o8.trans off_same) _ _ hl2
    have hl3:=(o8.trans off_same) _ _ hl3
    have hlh:=(o8.trans off_same) _ _ hlh
    clear hT o8 s37
    refine ⟨_,rfl,_,rfl,_,rfl,_,rfl,(by show 3≤sizeLine; decide),fun l5 h5=>?_⟩
    have t9:=Same.new (o:=.lst [V.ref a0,V.ref b0,V.ref cb]) h5
    have s39:=s38'.trans t9
    refine ⟨hdD ns rs cl,hdD ns rs cl,hd_rep (t9 _ _ hlh) (t9 _ _ hl1) (t9 _ _ hl2) (hus3.mono fun b x=>s39.seqT) (t9 _ _ hl3) (hcq.mono fun b x=>s39.seqT),hd_rep upd_same (s39 _ _ hA3) (s39 _ _ hB3) (hus3.mono fun b x=>s39.seqT) (s39 _ _ hcb) (hcq.mono fun b x=>s39.seqT),hd_lay _ _ _,hd_lay _ _ _,Nat.lt_of_le_of_lt (Nat.add_le_add_left (Nat.le_trans (Nat.min_le_left _ _) (hd_deep _ _ _)) _) hr.units,_,rfl,?_⟩
    rw [SeqAt.eqv_refl _ (hd_lay ns rs cl)]
    refine iteF ?_
    have s9:Same H3 (Off (upd H8 l5 (.lst [V.ref a0,V.ref b0,V.ref cb])) F1):=s38.trans (off_mono t9)
    have hT9:=hT8.mono (off_mono t9)
    have N9:=N1.mono t9
    have hl1:=t9 _ _ hl1
    have hl2:=t9 _ _ hl2
    have hl3:=t9 _ _ hl3
    have hlh:=t9 _ _ hlh
    generalize upd H8 l5 (.lst [V.ref a0,V.ref b0,V.ref cb])=H9 at t9 s9 hT9 N9 hl1 hl2 hl3 hlh s39
    clear s38 s38' hT8 N1 t9 h5 s39
    obtain ⟨Fh,hFh⟩ : ∃ Fh:Addr→Prop,∀ b,Fh b↔b=l1∨b=l2∨b=l3:=⟨fun b=>b=l1∨b=l2∨b=l3,fun b=>Iff.rfl⟩
    have lst9:∀ b,Fh b→∃ ys,H9 b=some (.lst ys):=fun b z=>by
      rcases (hFh b).mp z with rfl | rfl | rfl
      · exact ⟨_,hl1⟩
      · exact ⟨_,hl2⟩
      · exact ⟨_,hl3⟩
    have nF1:∀ b,Fh b→¬ F1 b:=fun b z=>by
      rcases (hFh b).mp z with rfl | rfl | rfl
      · exact nf1.1
      · exact nf1.2.1
      · exact nf1.2.2
    refine ⟨_,rfl,lh,rfl,⟨_,SqL.of hlh⟩,for_list (K:=K) (a:=lh) (xs:=[V.ref l1,V.ref l2,V.ref l3]) (fun i σ H'=>Step H9 Fh H' Fh∧(∀ b,Fh b→∃ ys,H' b=some (.lst ys))∧H' lh=some (.lst [V.ref l1,V.ref l2,V.ref l3])∧∃ v9:Option V,σ = [some (.ref a),some (.int (ns.length:Nat)),some (.int (g:Nat)),some (.ref a0),some (.ref b0),some (.ref cb),some (.ref lh),some (.ref tp),some (.ref p1),v9,none,none,none,none,none,none,none,none,none]) ⟨Step.refl' (Same.refl _),lst9,hlh,_,rfl⟩ (fun i σ H' _ z=>SqL.of z.2.2.1) ?_ ?_⟩
    · rintro i y σ H' hi ⟨st,hls,hlh',v9,rfl⟩
      obtain ⟨l,rfl,hl⟩ : ∃ l,y=V.ref l∧Fh l:=by
        have h3:i < 3:=(List.getElem?_eq_some_iff.mp hi).1
        have:i=0∨i=1∨i=2:=by omega
        rcases this with rfl | rfl | rfl
        · exact ⟨l1,(Option.some.inj hi).symm,(hFh _).mpr (.inl rfl)⟩
        · exact ⟨l2,(Option.some.inj hi).symm,(hFh _).mpr (.inr (.inl rfl))⟩
        · exact ⟨l3,(Option.some.inj hi).symm,(hFh _).mpr (.inr (.inr rfl))⟩
      obtain ⟨ys,hys⟩:=hls l hl
      have nl:lh≠l:=fun z=>by
        subst z
        rcases (hFh _).mp hl with z | z | z
        · exact nlh.1 z.symm
        · exact nlh.2.1 z.symm
        · exact nlh.2.2 z.symm
      refine ⟨_,rfl,.inl ⟨rfl,_,SqL.of hys⟩,l,_,rfl,rfl,hys,?_⟩
      refine ⟨st.trans ⟨fun b o e z=>upd_keep b o e fun w=>z (w ▸ hl),fun b z=>.inl z⟩,fun b z=>?_,by rw [upd_ne nl]; exact hlh',_,rfl⟩
      by_cases e:b=l
      · subst e
        exact ⟨[],upd_same⟩
      · rw [upd_ne e]
        exact hls b z
    rintro σ H10 ⟨st,hls,_,v9,rfl⟩
    have nH:∀ b o,H3 b=some o→¬ Fh b:=fun b o e z=>by
      rcases (hFh b).mp z with rfl | rfl | rfl
      · rw [f1] at e; cases e
      · rw [f2] at e; cases e
      · rw [f3] at e; cases e
    have o10:Same (Off H9 fun b=>F1 b∨Fh b) (Off H10 F1):=(off_step (st.with' F1)).trans (off_sub fun b z=>.inl z)
    have S10:Same H3 (Off H10 F1):=Same.trans (fun b o e=>off_or (s9 b o e) (nH b o e)) o10
    have hT10:TownAt K t.a_Town (Off H10 F1) tp ln lr ns rs:=by
      refine (hT9.keep (H':=Off H9 fun b=>F1 b∨Fh b) (fun b o e z=>off_or e fun y=>?_) (fun b x=>off_orT lst9)).mono o10
      rcases z with rfl | rfl | rfl
      · rcases (hFh _).mp y with z | z | z
        · exact ntp.1 z
        · exact ntp.2.1 z
        · exact ntp.2.2 z
      · rcases (hFh _).mp y with z | z | z
        · exact nln.1 z
        · exact nln.2.1 z
        · exact nln.2.2 z
      · rcases (hFh _).mp y with z | z | z
        · exact nlr.1 z
        · exact nlr.2.1 z
        · exact nlr.2.2 z
    have N10:NetAt K (nc t) H10 F1 p1 tp ns.length (S0 ns rs cl):=N9.keep (fun b o e fb=>st.kp b o e fun z=>nF1 b z fb) (fun b x=>st.tupL lst9)
    have nF10:∀ b,H10 b=none→¬ F1 b:=fun b e z=>by
      obtain ⟨o,h⟩:=N10.there z
      rw [e] at h
      cases h
    clear st hls lst9 nF1 nH o10 s9 hT9 N9 hl1 hl2 hl3 hlh nlh ntp nln nlr f1 f2 f3 nf1 hFh Fh
    have s10:=S10.trans off_same
    have hB10:=s10 _ _ hB3
    have hus10:TsAt K H10 us (rs.map R5.vs):=hus3.mono fun b x=>s10.seqT
    have eus:us.length=rs.length:=by rw [hus3.len,List.length_map]
    refine ⟨_,rfl,b0,rfl,⟨_,SqL.of hB10⟩,fun ls hls=>?_⟩
    have hq7:=SqL.of (K:=K) hB10
    refine comp_by (n:=(us.map V.ref).length) (fun i ys H8=>∃ lis:List Addr,ys=lis.map V.ref∧lis.length=i∧lis.Nodup∧∀ (j:Nat) l r,lis[j]?=some l→rs[j]?=some r→H8 l=some (.lst ((List.replicate r.d.toNat true).map V.bl))∧l≠ls) hls (itl_go hq7) (itl_stop hq7) ⟨[],rfl,rfl,List.nodup_nil,fun j l r e=>by simp at e⟩ ?_ ?_
    · rintro i ys H8 hi s8 hy ⟨lis,rfl,el,hnd,hlis⟩ x H9 ⟨rfl,hx⟩
      have hx:=hx _ (s8.seq hq7)
      have hi':i < us.length:=by rw [List.length_map] at hi; exact hi
      have hir:rs[i]?=some rs[i]:=List.getElem?_eq_getElem (by omega)
      have hq:=hus10.at' i us[i] (rs[i]).vs (List.getElem?_eq_getElem hi') (by rw [List.getElem?_map,hir]; rfl)
      rw [List.getElem?_map,List.getElem?_eq_getElem hi'] at hx
      cases hx
      have w4:=hw4 _ (List.mem_of_getElem? hir)
      refine ⟨(by show 1≤sizeLine; decide),fun l1 h1=>?_⟩
      have s9:=Same.new (o:=.lst [.bl true]) h1
      refine ⟨_,rfl,us[i],_,_,_,rfl,rfl,(s8.trans s9).seqT hq,rfl,l1,rs[i].d,_,rfl,rfl,upd_same,by omega,by omega,(by show 1 * rs[i].d.toNat≤sizeLine; exact Nat.le_of_lt (small1000 (by omega))),fun l2 h2=>?_⟩
      rw [TW.rep_bl]
      have s10:=s9.trans (Same.new (o:=.lst ((List.replicate rs[i].d.toNat true).map V.bl)) h2)
      have hl10:=upd_same (H:=upd H9 l1 (.lst [.bl true])) (a:=l2) (o:=.lst ((List.replicate rs[i].d.toNat true).map V.bl))
      have hy10:=s10 _ _ hy
      have nl2:l2≠ls:=(ne_of_none (s9 _ _ hy) h2).symm
      have hn8:H9 l2=none:=s9.free h2
      generalize upd (upd H9 l1 (.lst [.bl true])) l2 (.lst ((List.replicate rs[i].d.toNat true).map V.bl))=H10 at s10 hl10 hy10
      refine comp_add hls hi (s8.trans s10) hy10 (by rw [List.length_map,el]; exact small1000 (by omega)) ⟨lis++[l2],by rw [List.map_append]; rfl,by rw [List.length_append,el]; rfl,?_,fun j l' r e1 e2=>?_⟩
      · rw [List.nodup_append]
        refine ⟨hnd,by simp,fun x hx y hy'=>?_⟩
        have:y=l2:=by simpa using hy'
        subst this
        obtain ⟨j,hj⟩:=List.getElem?_of_mem hx
        have hjl:=(List.getElem?_eq_some_iff.mp hj).1
        exact ne_of_none (hlis j x _ hj (List.getElem?_eq_getElem (by omega))).1 hn8
      · rcases snoc_at e1 with e1 | ⟨rfl,rfl⟩
        · obtain ⟨z1,z2⟩:=hlis j l' r e1 e2
          exact ⟨by rw [upd_ne z2]; exact s10 _ _ z1,z2⟩
        · rw [el,hir] at e2
          cases e2
          exact ⟨by rw [upd_ne nl2]; exact hl10,nl2⟩
    rintro ys H11 s11 hy ⟨lis,rfl,el,hnd,hlis⟩
    rw [List.length_map] at el
    have hX11:Sts H11 ls lis (rs.map fun r=>List.replicate r.d.toNat true):=by
      refine ⟨hy,by rw [List.length_map]; omega,hnd,fun i l b e1 e2=>?_⟩
      rw [List.getElem?_map] at e2
      cases e3:rs[i]? with
      | none=>rw [e3] at e2; cases e2
      | some r =>
        rw [e3] at e2
        cases e2
        exact (hlis i l r e1 e3).1
    clear hlis hy hnd el hls hq7
    refine ⟨_,rfl,by decide,by decide,fun lv hlv=>?_⟩
    refine comp_by (n:=3) (fun i ys H8=>∃ las:List Addr,ys=las.map V.ref∧las.length=i∧∀ (j:Nat) l,las[j]?=some l→H8 l=some (.lst (natsV (liveN rs (S0 ns rs cl).ws j)))∧H10 l=none∧l≠lv) hlv itr_go itr_stop ⟨[],rfl,rfl,fun j l e=>by simp at e⟩ ?_ ?_
    · rintro i ys H8 hi s8 hy ⟨las,rfl,el,hlas⟩ x H9 ⟨rfl,rfl⟩
      have s18:=s11.trans s8
      refine ⟨_,rfl,_,rfl,_,rfl,b0,ls,rs,lis,_,i,by rw [Int.zero_add]; rfl,⟨us,s18 _ _ hB10,hus10.mono fun b x=>s18.seqT⟩,hX11.mono s8,by rw [List.length_map],by omega,he7,hi,fun l H9 s9 hl h9=>?_⟩
      have h9:H9 l=some (.lst (natsV (liveN rs (S0 ns rs cl).ws i))):=by
        rw [h9]
        show _=some (HO.lst (natsV (liveTo rs (rs.map fun r=>List.range r.d.toNat) i rs.length)))
        rw [ws_full]
      have nl:l≠lv:=(ne_of_none hy hl).symm
      refine comp_add hlv hi (s8.trans s9) (s9 _ _ hy) (by rw [List.length_map,el]; exact small1000 (by omega)) ⟨las++[l],by rw [List.map_append]; rfl,by rw [List.length_append,el]; rfl,fun j l' e1=>?_⟩
      rcases snoc_at e1 with e1 | ⟨rfl,rfl⟩
      · obtain ⟨z1,z2,z3⟩:=hlas j l' e1
        exact ⟨by rw [upd_ne z3]; exact s9 _ _ z1,z2,z3⟩
      · rw [el]
        exact ⟨by rw [upd_ne nl]; exact h9,s18.free hl,nl⟩
    rintro ys H12 s12 hlv12 ⟨las,rfl,el,hlas⟩
    obtain ⟨x0,x1,x2,rfl⟩:=three_of el
    obtain ⟨lg,elg,hlg⟩ : ∃ lg:Nat→Addr,[x0,x1,x2].map V.ref=(List.range 3).map (fun g=>V.ref (lg g))∧∀ g,g < 3→H12 (lg g)=some (.lst (natsV (liveN rs (S0 ns rs cl).ws g)))∧H10 (lg g)=none:=by
      refine ⟨fun g=>[x0,x1,x2].getD g 0,rfl,fun g hg=>?_⟩
      rcases lt3 hg with rfl | rfl | rfl
      · exact ⟨(hlas 0 x0 rfl).1,(hlas 0 x0 rfl).2.1⟩
      · exact ⟨(hlas 1 x1 rfl).1,(hlas 1 x1 rfl).2.1⟩
      · exact ⟨(hlas 2 x2 rfl).1,(hlas 2 x2 rfl).2.1⟩
    rw [elg] at hlv12
    have s1012:=s11.trans s12
    have flv:H10 lv=none:=s11.free hlv
    clear hlas el hlv elg x0 x1 x2 s11 s12 hX11 lis
    have s312:=s10.trans s1012
    have hA12:=s312 _ _ hA3
    have hown:∀ {H:Hp} {q:Addr} {i:Nat} (hi:i < ns.length),H q=some (.tup [V.int ns[i],V.int 0,V.int 0,V.non])→SqT K H q (rowV (ownR ns i)):=fun {H q i} hi e=>by
      refine SqT.of ?_
      rw [e]
      show _=some (HO.tup [V.int (ns.getD i 0),V.int 0,V.int 0,V.non])
      rw [List.getD_eq_getElem?_getD,List.getElem?_eq_getElem hi]
      rfl
    refine ⟨_,rfl,a0,rfl,⟨_,SqL.of hA12⟩,fun t0 ht0=>?_⟩
    refine comp_by (n:=(ns.map V.int).length) (fun i ys H8=>∃ qt:List Addr,ys=qt.map V.ref∧qt.length=i∧∀ (j:Nat) q,qt[j]?=some q→SqT K H8 q (rowV (ownR ns j))) ht0 (itl_go (SqL.of hA12)) (itl_stop (SqL.of hA12)) ⟨[],rfl,rfl,fun j q e=>by simp at e⟩ ?_ ?_
    · rintro i ys H8 hi s8 hy ⟨qt,rfl,el,hqt⟩ x H9 ⟨rfl,hx⟩
      have hx:=hx _ (s8.seq (SqL.of hA12))
      have hi':i < ns.length:=by rw [List.length_map] at hi; exact hi
      rw [List.getElem?_map,List.getElem?_eq_getElem hi'] at hx
      cases hx
      refine ⟨_,rfl,(by show 4≤sizeLine; decide),fun q hq=>?_⟩
      have u9:=Same.new (o:=.tup [V.int ns[i],V.int 0,V.int 0,V.non]) hq
      refine comp_add ht0 hi (s8.trans u9) (u9 _ _ hy) (by rw [List.length_map,el]; exact small1000 (by omega)) ⟨qt++[q],by rw [List.map_append]; rfl,by rw [List.length_append,el]; rfl,fun j q' e=>?_⟩
      refine sqT_lst (u9 _ _ hy) ?_
      rcases snoc_at e with e | ⟨rfl,rfl⟩
      · exact u9.seqT (hqt j q' e)
      · rw [el]
        exact hown hi' upd_same
    rintro ys H13 s13 ht013 ⟨q0,rfl,eq0,hq0⟩
    rw [List.length_map] at eq0
    have hA13:=s13 _ _ hA12
    refine ⟨_,rfl,a0,rfl,⟨_,SqL.of hA13⟩,fun t1 ht1=>?_⟩
    refine comp_by (n:=(ns.map V.int).length) (fun i ys H8=>∃ qt:List Addr,ys=qt.map V.ref∧qt.length=i∧∀ (j:Nat) q,qt[j]?=some q→SqT K H8 q (rowV (ownR ns j))) ht1 (itl_go (SqL.of hA13)) (itl_stop (SqL.of hA13)) ⟨[],rfl,rfl,fun j q e=>by simp at e⟩ ?_ ?_
    · rintro i ys H8 hi s8 hy ⟨qt,rfl,el,hqt⟩ x H9 ⟨rfl,hx⟩
      have hx:=hx _ (s8.seq (SqL.of hA13))
      have hi':i < ns.length:=by rw [List.length_map] at hi; exact hi
      rw [List.getElem?_map,List.getElem?_eq_getElem hi'] at hx
      cases hx
      refine ⟨_,rfl,(by show 4≤sizeLine; decide),fun q hq=>?_⟩
      have u9:=Same.new (o:=.tup [V.int ns[i],V.int 0,V.int 0,V.non]) hq
      refine comp_add ht1 hi (s8.trans u9) (u9 _ _ hy) (by rw [List.length_map,el]; exact small1000 (by omega)) ⟨qt++[q],by rw [List.map_append]; rfl,by rw [List.length_append,el]; rfl,fun j q' e=>?_⟩
      refine sqT_lst (u9 _ _ hy) ?_
      rcases snoc_at e with e | ⟨rfl,rfl⟩
      · exact u9.seqT (hqt j q' e)
      · rw [el]
        exact hown hi' upd_same
    rintro ys H14 s14 ht114 ⟨q1,rfl,eq1,hq1⟩
    rw [List.length_map] at eq1
    have ht014:=s14 _ _ ht013
    refine ⟨(by show 2≤sizeLine; decide),fun lt hlt=>?_⟩
    have u15:=Same.new (o:=.lst [V.ref t0,V.ref t1]) hlt
    have hlt15:=upd_same (H:=H14) (a:=lt) (o:=.lst [V.ref t0,V.ref t1])
    generalize upd H14 lt (.lst [V.ref t0,V.ref t1])=H15 at u15 hlt15
    have ht015:=u15 _ _ ht014
    have ht115:=u15 _ _ ht114
    refine ⟨_,rfl,.inl ⟨rfl,_,SqL.of hlt15⟩,_,rfl,lt,_,_,_,rfl,rfl,SqL.of hlt15,rfl,t0,_,rfl,.inl (SqL.of ht015),fun t2 ht2=>?_⟩
    have u16:=Same.new (o:=.lst (q0.map V.ref)) ht2
    have ht216:=upd_same (H:=H15) (a:=t2) (o:=.lst (q0.map V.ref))
    have n2:t2≠lt∧t2≠t0∧t2≠t1:=⟨(ne_of_none hlt15 ht2).symm,(ne_of_none ht015 ht2).symm,(ne_of_none ht115 ht2).symm⟩
    generalize upd H15 t2 (.lst (q0.map V.ref))=H16 at u16 ht216
    have hlt16:=u16 _ _ hlt15
    refine ⟨lt,_,_,rfl,rfl,hlt16,(by show 2 < sizeLine; decide),?_⟩
    have n01:t0≠t1∧t0≠lt∧t1≠lt:=⟨ne_of_none ht013 ht1,ne_of_none ht014 hlt,ne_of_none ht114 hlt⟩
    have flt:H12 lt=none:=(s13.trans s14).free hlt
    have s17:Same H12 (upd H16 lt (.lst ([V.ref t0,V.ref t1]++[V.ref t2]))):=((s13.trans s14).trans (u15.trans u16)).out flt
    have k17:∀ {b o},H16 b=some o→b≠lt→(upd H16 lt (.lst ([V.ref t0,V.ref t1]++[V.ref t2]))) b=some o:=fun {b o} e z=>upd_keep b o e z
    have T17:∀ {b x},SqT K H16 b x→SqT K (upd H16 lt (.lst ([V.ref t0,V.ref t1]++[V.ref t2]))) b x:=fun {b x} e=>SqT.past hlt16 nt_lst upd_keep e
    have ht017:=k17 (u16 _ _ ht015) n01.2.1
    have ht117:=k17 (u16 _ _ ht115) n01.2.2
    have ht217:=k17 ht216 n2.1
    have hlt17:=upd_same (H:=H16) (a:=lt) (o:=.lst ([V.ref t0,V.ref t1]++[V.ref t2]))
    have hq017:TsAt K (upd H16 lt (.lst ([V.ref t0,V.ref t1]++[V.ref t2]))) q0 (rowsL ns.length (ownR ns)):=tsRows eq0 fun j q e=>T17 (u16.seqT (u15.seqT (s14.seqT (hq0 j q e))))
    have hq117:TsAt K (upd H16 lt (.lst ([V.ref t0,V.ref t1]++[V.ref t2]))) q1 (rowsL ns.length (ownR ns)):=tsRows eq1 fun j q e=>T17 (u16.seqT (u15.seqT (hq1 j q e)))
    have ft0:=ht0
    have ft1:H12 t1=none:=s13.free ht1
    have ft2:H12 t2=none:=((s13.trans s14).trans u15).free ht2
    generalize upd H16 lt (.lst ([V.ref t0,V.ref t1]++[V.ref t2]))=H17 at s17 ht017 ht117 ht217 hlt17 hq017 hq117
    clear k17 T17 hlt16 ht216 u16 u15 ht015 ht115 hlt15 ht114 ht014 ht013 hlt ht1 ht2 ht0 hq0 hq1 eq0 eq1 hA13
    obtain ⟨tg,etg,htg,ftg,itg,nlt⟩ : ∃ tg:Nat→Addr,[V.ref t0,V.ref t1]++[V.ref t2]=(List.range 3).map (fun g=>V.ref (tg g))∧(∀ g,g < 3→∃ qt:List Addr,H17 (tg g)=some (.lst (qt.map V.ref))∧TsAt K H17 qt (rowsL ns.length (ownR ns)))∧(∀ g,g < 3→H12 (tg g)=none)∧(∀ g k,g < 3→k < 3→tg g=tg k→g=k)∧∀ g,g < 3→tg g≠lt:=by
      refine ⟨fun g=>[t0,t1,t2].getD g 0,rfl,fun g hg=>?_,fun g hg=>?_,fun g k hg hk e=>?_,fun g hg=>?_⟩
      · rcases lt3 hg with rfl | rfl | rfl
        · exact ⟨_,ht017,hq017⟩
        · exact ⟨_,ht117,hq117⟩
        · exact ⟨_,ht217,hq017⟩
      · rcases lt3 hg with rfl | rfl | rfl
        · exact ft0
        · exact ft1
        · exact ft2
      · rcases lt3 hg with rfl | rfl | rfl <;> rcases lt3 hk with rfl | rfl | rfl <;> first | rfl | skip
        · exact absurd e n01.1
        · exact absurd e.symm n2.2.1
        · exact absurd e.symm n01.1
        · exact absurd e.symm n2.2.2
        · exact absurd e n2.2.1
        · exact absurd e n2.2.2
      · rcases lt3 hg with rfl | rfl | rfl
        · exact n01.2.1
        · exact n01.2.2
        · exact n2.1
    rw [etg] at hlt17
    clear etg ht017 ht117 ht217 hq017 hq117 ft0 ft1 ft2 n01 n2 q0 q1 t0 t1 t2 s13 s14 hown
    have s1017:=s1012.trans s17
    have s317:=s10.trans s1017
    have N17:=N10.mono s1017
    have hT17:=hT10.mono (off_mono s1017)
    have NW17:NW K (nc t) t.a_Town H17 F1 p1 tp ln lr ns rs (S0 ns rs cl):=hT17.nw N17 fun b=>id
    refine ⟨_,rfl,_,rfl,_,rfl,_,rfl,F1,p1,tp,ln,lr,cb,lt,lv,ns,rs,tok,cl,qs,lg,tg,rfl,NW17,S0ok tok,s317 _ _ hcb,hcq.mono fun b x=>s317.seqT,hc20,SqL.of hlt17,(fun g hg=>by
      obtain ⟨qt,h1,h2⟩:=htg g hg
      exact h2.rowsAt (SqL.of h1)),SqL.of (s17 _ _ hlv12),fun g hg=>SqL.of (s17 _ _ (hlg g hg).1),fun H18 s18=>⟨_,rfl,iteF ?_⟩⟩
    have s1018:=s1017.trans s18
    have s318:=s10.trans s1018
    have h18:Same (Off H10 F1) (Off H18 F1):=off_mono s1018
    have hT18:=hT10.mono h18
    have N18:=N17.mono s18
    have o18:∀ {b o},H17 b=some o→H10 b=none→Off H18 F1 b=some o:=fun {b o} e z=>off_of (nF10 b z) (s18 _ _ e)
    have hlv18:=o18 (s17 _ _ hlv12) flv
    have hlg18:∀ g,g < 3→Off H18 F1 (lg g)=some (.lst (natsV (liveN rs (S0 ns rs cl).ws g))):=fun g hg=>o18 (s17 _ _ (hlg g hg).1) (hlg g hg).2
    have hlt18:=o18 hlt17 (s1012.free flt)
    have htg18:∀ g,g < 3→∃ qt:List Addr,Off H18 F1 (tg g)=some (.lst (qt.map V.ref))∧TsAt K (Off H18 F1) qt (rowsL ns.length (ownR ns)):=fun g hg=>by
      obtain ⟨qt,h1,h2⟩:=htg g hg
      exact ⟨qt,o18 h1 (s1012.free (ftg g hg)),h2.mono fun b x z=>N18.offT (s18.seqT z)⟩
    have S18:=S10.trans h18
    have ntg:∀ g,g < 3→tg g≠tp∧tg g≠ln∧tg g≠lr∧tg g≠a0∧tg g≠b0∧tg g≠lv∧tg g≠lt∧∀ k,k < 3→tg g≠lg k:=fun g hg=>by
      obtain ⟨⟨dx,z1⟩,z2,vs,z3,z4⟩:=id hT10
      have f:=ftg g hg
      have f10:=s1012.free f
      have h:=fun {b o} (e:H10 b=some o)=>(ne_of_none e f10).symm
      exact ⟨h (off_some z1).2,h (off_some z2).2,h (off_some z3).2,h (s10 _ _ hA3),h hB10,(ne_of_none hlv12 f).symm,nlt g hg,fun k hk=>(ne_of_none (hlg k hk).1 f).symm⟩
    clear o18 s1018 h18 s17 s18 hlv12 hlg hlt17 htg ftg nlt flt flv N17 hT17 NW17 N10 hT10 nF10 s1012 s1017 s317 s312 hA12 S10 s10 hB10 hus10
    refine ⟨_,rfl,Nat.zero_le _,fun l0 h0=>?_⟩
    have u19:=Same.new (o:=.lst []) h0
    have hl0:=upd_same (H:=H18) (a:=l0) (o:=.lst [])
    generalize upd H18 l0 (.lst [])=H19 at u19 hl0
    have N19:=N18.mono u19
    have hT19:=hT18.mono (off_mono u19)
    refine fun p2 dx2 np ndx nep=>?_
    have t8:Same H19 (upd (upd H19 dx2 (.own p2)) p2 (.ins t.a_Net dx2 [])):=(Same.new ndx).trans (Same.new (by rw [upd_ne (Ne.symm nep)]; exact np))
    refine ⟨p2,dx2,tp,ln,lr,l0,ns,rs,[],[],rfl,upd_same,(hT19.mono off_same).mono t8,by omega,by omega,hw4,SqL.of (t8 _ _ hl0),⟨rfl,fun i q x e=>by cases e⟩,Nat.zero_le _,(fun c hc=>absurd hc (by simp)),fun F2 H20 N2 kp fr=>⟨rfl,?_⟩⟩
    have o20:Same H19 (Off H20 F2):=off_made t8 np kp fr
    clear kp fr t8 np ndx nep
    have s1920:=o20.trans off_same
    have NN:Nets K (nc t) H20 F1 F2 p1 p2 tp ns.length (S0 ns rs cl) (S0 ns rs []):=⟨N19.mono s1920,N2,fun b z w=>by
      obtain ⟨o,e⟩:=N19.there z
      exact (off_some (o20 _ _ e)).1 w⟩
    have oo:Same (Off H18 F1) (Off2 H20 F1 F2):=(off_mono u19).trans fun b o e=>off_of (fun y=>y.elim (off_some e).1 (off_some (o20 b o (off_some e).2)).1) (s1920 b o (off_some e).2)
    have S20:=S18.trans oo
    have hT20:=hT18.mono oo
    have hlv20:=oo _ _ hlv18
    have hlt20:=oo _ _ hlt18
    have hlg20:∀ g,g < 3→_:=fun g hg=>oo _ _ (hlg18 g hg)
    have htg20:∀ g,g < 3→∃ qt:List Addr,Off2 H20 F1 F2 (tg g)=some (.lst (qt.map V.ref))∧TsAt K (Off2 H20 F1 F2) qt (rowsL ns.length (ownR ns)):=fun g hg=>by
      obtain ⟨qt,h1,h2⟩:=htg18 g hg
      exact ⟨qt,oo _ _ h1,h2.mono fun b x=>oo.seqT⟩
    clear oo o20 s1920 N2 N19 hT19 u19 hl0 h0 N18 hT18 hlv18 hlg18 hlt18 htg18 S18
    dsimp only [gName]
    refine ifS_by (fun σ H21=>∃ (F2':Addr→Prop) (s2:NS),Nets K (nc t) H21 F1 F2' p1 p2 tp ns.length (S0 ns rs cl) s2∧NSok ns rs s2∧s2.ls = []∧Same (Off2 H20 F1 F2) (Off2 H21 F1 F2')∧σ = [some (.ref a),some (.int (ns.length:Nat)),some (.int (g:Nat)),some (.ref a0),some (.ref b0),some (.ref cb),some (.ref lh),some (.ref tp),some (.ref p1),v9,some (.ref ls),none,some (.ref lv),some (.ref lt),some (.ref p2),none,none,none,none]) ?_ fun nx=>?_
    case refine_2 =>
      refine ⟨_,rfl,Nat.zero_le _,fun l h=>?_⟩
      have u:=Same.new (o:=.lst []) h
      have hl:=upd_same (H:=H20) (a:=l) (o:=.lst [])
      generalize upd H20 l (.lst [])=H21 at u hl
      have S21:=(S20.trans off_same).trans u
      have ou:Same (Off2 H20 F1 F2) (Off2 H21 F1 F2):=off_mono u
      have NN:=NN.mono u
      refine ⟨.list (rs.map R5.D),.list [],⟨b0,_,rfl,SqL.of (S21 _ _ hB3),RopL.ropes (l:=b0) (hus3.mono fun b x=>S21.seqT)⟩,repNil hl,ropes_lay _,rfl,Nat.lt_of_le_of_lt (Nat.add_le_add_left (Nat.le_trans (Nat.min_le_right _ _) (by decide:(PyData.list []).depth≤64)) _) hr.units,_,rfl,?_⟩
      cases rs with
      | nil=>exact iteF (nx _ _ ⟨F2,_,NN,S0ok tok,rfl,ou,rfl⟩)
      | cons r rs =>
        refine iteT ?_
        have NWb:=NN.nw2 (hT20.mono ou)
        obtain ⟨loc,dx,q,hp,O,hF,hT⟩:=id NWb.net
        have hnet:=O.get .net _ rfl
        rw [hp] at hnet
        have h4:=hw4 r List.mem_cons_self
        refine ⟨_,rfl,p2,_,_,rfl,hnet,rfl,F2,p2,tp,ln,lr,ns,r :: rs,_,0,0,List.range r.d.toNat,rfl,NWb,S0ok tok,rfl,rfl,rfl,(by rw [List.mem_range]; omega),fun y ts F3 H3' N3 st3 _=>?_⟩
        exact nx _ _ ⟨F3,_,NN.step2 st3 N3.net,fallOk (S0ok tok) rfl,rfl,ou.trans (off_step (st3.with' F1)),rfl⟩
    rintro σ H21 ⟨F3,s2,NN,sok2,hls2,oo,rfl⟩
    have S21:=S20.trans oo
    have hT21:=hT20.mono oo
    have hlv21:=oo _ _ hlv20
    have hlt21:=oo _ _ hlt20
    have hlg21:∀ g,g < 3→_:=fun g hg=>oo _ _ (hlg20 g hg)
    have htg21:∀ g,g < 3→∃ qt:List Addr,Off2 H21 F1 F3 (tg g)=some (.lst (qt.map V.ref))∧TsAt K (Off2 H21 F1 F3) qt (rowsL ns.length (ownR ns)):=fun g hg=>by
      obtain ⟨qt,h1,h2⟩:=htg20 g hg
      exact ⟨qt,oo _ _ h1,h2.mono fun b x=>oo.seqT⟩
    clear oo S20 hT20 hlv20 hlt20 hlg20 htg20
    have s21:=S21.trans off_same
    refine ⟨_,rfl,_,rfl,_,rfl,a,_,rfl,s21.seq hS3,fun lq hlq=>?_⟩
    have u22:=Same.new (o:=.lst (cutV (cs.map V.int) (some 30) (some 63))) hlq
    have hlq22:=upd_same (H:=H21) (a:=lq) (o:=.lst (cutV (cs.map V.int) (some 30) (some 63)))
    obtain ⟨ys,eys,lys⟩ : ∃ ys:List Int,cutV (cs.map V.int) (some 30) (some 63)=ys.map V.int∧ys.length≤33:=cut_ints cs 30 63
    generalize upd H21 lq (.lst (cutV (cs.map V.int) (some 30) (some 63)))=H22 at u22 hlq22
    rw [eys] at hlq22
    have nlq:¬ (F1 lq∨F3 lq):=fun z=>z.elim (fun y=>by
      obtain ⟨o,e⟩:=NN.one.there y
      rw [hlq] at e
      cases e) (fun y=>by
      obtain ⟨o,e⟩:=NN.two.there y
      rw [hlq] at e
      cases e)
    have oo:Same (Off2 H21 F1 F3) (Off2 H22 F1 F3):=off_mono u22
    have L0:LW K t.a_Town (Off2 H22 F1 F3) tp ln lr a0 b0 lv lt lq lg tg ns rs (S0 ns rs cl).ws (S0 ns rs cl).R ys:=by
      refine ⟨hT21.mono oo,oo _ _ (S21 _ _ hA3),⟨us,oo _ _ (S21 _ _ hB3),hus3.mono fun b x=>(S21.trans oo).seqT⟩,oo _ _ hlv21,fun g hg=>oo _ _ (hlg21 g hg),oo _ _ hlt21,fun g hg=>?_,off_of nlq hlq22,fun g hg=>?_,itg⟩
      · obtain ⟨qt,h1,h2⟩:=htg21 g hg
        exact ⟨qt,oo _ _ h1,h2.mono fun b x=>oo.seqT⟩
      · obtain ⟨n1,n2,n3,n4,n5,n6,n7,n8⟩:=ntg g hg
        obtain ⟨qt,h1,h2⟩:=htg21 g hg
        exact ⟨n1,n2,n3,n4,n5,n6,n7,ne_of_none (off_some h1).2 hlq,n8⟩
    have NN:=NN.mono u22
    clear oo nlq u22 hT21 S21 hlv21 hlt21 hlg21 htg21 s21 hlq itg ntg hS3 hA3 hB3 hus3 hcb hcq hlq22
    have hcl:=SqL.of (K:=K) (off_some L0.cls).2
    refine ⟨lq,rfl,⟨_,hcl⟩,for_list (K:=K) (a:=lq) (xs:=ys.map V.int) (fun i σ H=>∃ (F1 F2:Addr→Prop) (s1 s2:NS) (v9 v11 v15 v16 v17 v18:Option V),Nets K (nc t) H F1 F2 p1 p2 tp ns.length s1 s2∧NSok ns rs s1∧NSok ns rs s2∧s1.ls = []∧s2.ls = []∧s1.ws=(S0 ns rs cl).ws∧LW K t.a_Town (Off2 H F1 F2) tp ln lr a0 b0 lv lt lq lg tg ns rs (S0 ns rs cl).ws s1.R ys ∧
      σ = [some (.ref a),some (.int (ns.length:Nat)),some (.int (g:Nat)),some (.ref a0),some (.ref b0),some (.ref cb),some (.ref lh),some (.ref tp),some (.ref p1),v9,some (.ref ls),v11,some (.ref lv),some (.ref lt),some (.ref p2),v15,v16,v17,v18]) ⟨F1,F3,_,s2,_,_,_,_,_,_,NN,S0ok tok,sok2,rfl,hls2,rfl,L0,rfl⟩ (fun i σ H _ z=>by
        obtain ⟨F1,F2,s1,s2,v9,v11,v15,v16,v17,v18,_,_,_,_,_,_,L,_⟩:=z
        exact SqL.of (off_some L.cls).2) ?_ ?_⟩
    case refine_2 =>
      rintro σ H23 _
      exact k _
    clear L0 hcl
    rintro i y σ H1 hi ⟨F1,F2,s1,s2,v9,v11,v15,v16,v17,v18,NN,sok1,sok2,hls1,hls2,hws,L,rfl⟩
    have hiy:i < ys.length:=by
      have:=(List.getElem?_eq_some_iff.mp hi).1
      rw [List.length_map] at this
      exact this
    rw [List.getElem?_map,List.getElem?_eq_getElem hiy] at hi
    cases hi
    show gName 15 (V.int ys[i]) _ _ _
    generalize ys[i]=c
    refine ⟨_,rfl,_,rfl,_,_,rfl,rfl,(by show (0:Int) < (ns.length:Nat); omega),?_⟩
    obtain ⟨x,ex,hx⟩ : ∃ x:Nat,c % ((ns.length:Nat):Int)=(x:Int)∧x < ns.length:=by
      have h1:=Int.emod_nonneg c (show ((ns.length:Nat):Int)≠0 by omega)
      have h2:=Int.emod_lt_of_pos c (show (0:Int) < (ns.length:Nat) by omega)
      exact ⟨(c % ((ns.length:Nat):Int)).toNat,by omega,by omega⟩
    show gName 16 (V.int (c % ((ns.length:Nat):Int))) _ _ _
    rw [ex]
    refine ⟨_,rfl,_,rfl,_,rfl,_,_,rfl,rfl,⟨by decide,by decide⟩,_,_,rfl,rfl,(by show (0:Int) < 3; decide),(by show 3≤sizeLine; decide),fun l1 h1=>?_⟩
    have u1:=Same.new (o:=.lst [V.int (g:Nat),V.int (g:Nat),V.int (c / 24 % 3)]) h1
    have hl1:=upd_same (H:=H1) (a:=l1) (o:=.lst [V.int (g:Nat),V.int (g:Nat),V.int (c / 24 % 3)])
    generalize upd H1 l1 (.lst [V.int (g:Nat),V.int (g:Nat),V.int (c / 24 % 3)])=H2 at u1 hl1
    have q1:=Int.emod_nonneg (c / 24) (show (3:Int)≠0 by decide)
    have q2:=Int.emod_lt_of_pos (c / 24) (show (0:Int) < 3 by decide)
    obtain ⟨one,hone,eone⟩:=at3r (x:=(g:Nat)) (y:=(g:Nat)) (z:=c / 24 % 3) (i:=c / 6 % 3) 0 2 (by omega) (by omega) (by omega) (Int.emod_nonneg _ (by decide)) (Int.emod_lt_of_pos _ (by decide))
    obtain ⟨j,rfl⟩ : ∃ j:Nat,one=(j:Int):=⟨one.toNat,by omega⟩
    have hj:j < 3:=by omega
    refine ⟨_,rfl,_,_,rfl,rfl,⟨by decide,by decide⟩,_,_,rfl,rfl,(by show (0:Int) < 3; decide),l1,_,_,_,rfl,rfl,SqL.of hl1,eone,?_⟩
    dsimp only [gName]
    have NN:=NN.mono u1
    have L:=L.mono (off_mono u1)
    clear u1 hl1 h1 q1 q2 hone eone
    have W2:=NN.nw2 L.town
    obtain ⟨loc2,dx2,qq2,hp2,O2,hF2,hT2⟩:=id W2.net
    have hnet2:=O2.get .net _ rfl
    rw [hp2] at hnet2
    refine ⟨_,rfl,p2,_,_,rfl,hnet2,rfl,_,rfl,_,rfl,F2,p2,tp,ln,lr,ns,rs,s2,tok,x,j,rfl,W2,sok2,hx,hj,hls2,fun d2 F2' H3 hd2 fd2 N2 st2=>?_⟩
    have NN:=NN.step2 st2 N2
    have L:=L.mono (off_step (st2.with' F1))
    have sok2:=callOk (g:=j) (x:=x) sok2 fd2
    have hls2:=(callW (g:=j) (x:=x) (d:=d2)).2.trans hls2
    generalize call0 s2 j x d2=s2' at NN sok2 hls2
    clear st2 N2 hnet2 O2 hF2 hT2 W2 fd2 hd2
    have LH:=L.mono off_same
    obtain ⟨qt,ht1,ht2⟩:=LH.tgs j hj
    refine ⟨_,rfl,_,rfl,_,rfl,_,rfl,lv,_,_,_,rfl,rfl,SqL.of LH.lvs,at_rng hj,_,rfl,_,rfl,lt,_,_,_,rfl,rfl,SqL.of LH.lts,at_rng hj,_,rfl,a0,b0,lg j,tg j,ns,rs,_,nd,ok,liveN_lt,s1.R j,x,rfl,SqL.of LH.nms,LH.rps,SqL.of (LH.lgs j hj),ht2.rowsAt (SqL.of ht1),hx,(sok1.fit j hj).sane,fun qd d H4 s4 hqd hdd=>?_⟩
    have NN:=NN.mono s4
    have L:=L.mono (off_mono s4)
    clear LH ht1 ht2 qt
    have fd:=due_fit (sok1.fit j hj) hx nn hdd
    have W1:=NN.nw1 L.town
    obtain ⟨loc1,dx1,qq1,hp1,O1,hF1,hT1⟩:=id W1.net
    have hnet1:=O1.get .net _ rfl
    rw [hp1] at hnet1
    have hqd0:=NN.offT hqd
    refine ⟨_,rfl,p1,_,_,rfl,hnet1,rfl,_,rfl,_,rfl,F1,p1,tp,ln,lr,ns,rs,s1,tok,x,j,rfl,W1,sok1,hx,hj,hls1,fun d' F1' H5 hd' _ N1 st1=>?_⟩
    have ed:d'=d:=by
      have h0:RM.IsDue (N:=gNet ns rs tok s1.ws j) ns.length (s1.R j) x d:=by
        rw [hws]
        exact hdd
      exact hd'.uniq h0
    subst ed
    have NN:=NN.step1 st1 N1
    have L:=L.mono (off_step (st1.with_ F2'))
    have hqd:=(off_step (st1.with_ F2')).seqT hqd0
    clear st1 N1 hnet1 O1 hF1 hT1 W1 hd' hdd hqd0
    dsimp only [gName]
    refine ⟨_,rfl,_,_,_,_,rfl,.bl _,rfl,_,rfl,iteF ?_⟩
    obtain ⟨qt,ht1,ht2⟩:=L.tgs j hj
    have LH:=L.mono off_same
    have hqt:qt.length=ns.length:=by rw [ht2.len]; simp [rowsL]
    have hxq:x < qt.length:=by omega
    have hrx:SqT K H5 qt[x] (rowV (s1.R j x)):=off_same.seqT (ht2.at' x _ _ (List.getElem?_eq_getElem hxq) (by unfold rowsL; rw [List.getElem?_map,List.getElem?_range hx]; rfl))
    refine ⟨_,rfl,_,rfl,_,rfl,_,rfl,lt,_,_,_,rfl,rfl,SqL.of LH.lts,at_rng hj,_,rfl,tg j,_,_,V.ref (qt[x]'hxq),rfl,rfl,SqL.of (off_some ht1).2,atI_nat (by rw [List.getElem?_map,List.getElem?_eq_getElem hxq]; rfl),RM.rowD d',RM.rowD (s1.R j x),RM.rowD_rep (off_same.seqT hqd),RM.rowD_rep hrx,RM.rowD_lay _,RM.rowD_lay _,Nat.lt_of_le_of_lt (Nat.add_le_add_left (Nat.le_trans (Nat.min_le_left _ _) (by rw [RM.rowD_deep]; decide:(RM.rowD d').depth≤64)) _) hr.units,?_⟩
    rw [RM.rowD_eqv fd.by1 (sok1.fit j hj x hx).by1]
    refine ⟨rfl,_,rfl,?_⟩
    rw [decide_eq_true rfl]
    refine iteF ?_
    refine ⟨_,rfl,_,rfl,_,rfl,lt,_,_,_,rfl,rfl,SqL.of LH.lts,at_rng hj,_,rfl,tg j,_,_,_,rfl,rfl,(off_some ht1).2,ixN_nat (by rw [List.length_map]; exact hxq),?_⟩
    have L':=L.put hj hx ht1 ht2 hqd
    rw [← off_upd (off_some ht1).1] at L'
    have NN':=NN.past (o:=.lst ((qt.map V.ref).set x (.ref qd))) ht1 nt_lst
    generalize upd H5 (tg j) (.lst ((qt.map V.ref).set x (.ref qd)))=H6 at L' NN'
    have sok1':=callOk (g:=j) (x:=x) sok1 fd
    have hws':=(callW (s:=s1) (g:=j) (x:=x) (d:=d')).1.trans hws
    have hls1':=(callW (g:=j) (x:=x) (d:=d')).2.trans hls1
    rw [← callR] at L'
    generalize call0 s1 j x d'=s1' at L' NN' sok1' hws' hls1'
    have W1:=NN'.nw1 L'.town
    have LH:=L'.mono off_same
    refine ⟨_,rfl,_,rfl,_,rfl,_,rfl,_,rfl,_,rfl,F1',p1,tp,ln,lr,a0,b0,lt,lv,ns,rs,tok,s1',lg,tg,j,rfl,W1,sok1',hj,SqL.of LH.nms,LH.rps,SqL.of LH.lts,(fun g hg=>by
      obtain ⟨qt,h1,h2⟩:=LH.tgs g hg
      exact h2.rowsAt (SqL.of h1)),SqL.of LH.lvs,(fun g hg=>by rw [hws']; exact SqL.of (LH.lgs g hg)),fun H7 s7=>⟨_,rfl,iteF ?_⟩⟩
    exact ⟨F1',F2',s1',s2',_,_,_,_,_,_,NN'.mono s7,sok1',sok2,hls1',hls2,hws',L'.mono (off_mono s7),rfl⟩
end
theorem walk {l:PySem.W.OpenLaw} {q:Program} {loose:List Str} {XP:(Str→Option Value)→Heap→Prop} {YP:World→Heap→Prop} {d:DefRec} {K:Params→PySem.W.Frag} (hn:l.most=some 63) (hdf:d.params.defaults = []) (hdn:d.name = "law")
    (hY:∀ (w:World) (h:Heap),YP w h→(K w.params).In h)
    (F:∀ (w:World) (mg:Str→Option Value) (h:Heap),(K w.params).In h→h.Ns mainGlobals mg→∃ t,Txt (K w.params) mg t) :
    PySem.W.WalkO q loose XP YP l.row.toRowW d [] (fun f vs=>PySem.call f vs) :=
  L2.walk_of (n:=63) (k:=8) (x:="_law_script") (CX:=fun _=>CX0) (sp:=fun w=>spLaw (K w.params)) hn (by decide) hdf ⟨rfl,by decide,by decide⟩ hY
    (fun w mg fa h KX G hmg=>by
      obtain ⟨t,T⟩:=F w mg h KX G
      rw [hdn] at hmg
      have e:=hmg.symm.trans T.g_law
      cases e
      refine ⟨t.d_law,fun s v=>?_,fun base _ _=>ok_law T⟩
      obtain ⟨_,_,_,_,_,_,_,_,_,e,_⟩:=T.F_law.ex
      rw [e]
      exact .of_eq rfl)
    (fun _ _ a ns hl _ hS=>⟨a,ns,rfl,hS,hl,fun _=>rfl⟩) fun _ _ _ _ _ z=>z
end K27
namespace PySem.W.Fast
def tw9418980401339375456 := ()
def tw17629627177012943776 := ()
def tw13605695806955025634 := ()
def tw3412217899507904162 := ()
def tw11263373792277088739 := ()
def tw17594698460729322661 := ()
def tw15515876476204810758 := ()
def tw18407853963255100201 := ()
def tw7449183542328985290 := ()
def tw8568185111538173930 := ()
def tw17111735919518171275 := ()
def tw8198033586596693869 := ()
def tw1669145308449508272 := ()
def tw3886171385401444369 := ()
def tw8011269340716495601 := ()
def tw1611074179657438227 := ()
def tw3840409205115382968 := ()
def tw15433630246016781784 := ()
def tw16360524009650017593 := ()
def tw267976953714282110 := ()
def tw9278364274445551215 := ()
def tw1716529196166408045 := ()
def tw964489626527914707 := ()
def tw2045767125881772035 := ()
def tw5377974278650346804 := ()
def tw10354720660868800706 := ()
def tw6387357159951512219 := ()
def tw3617458204424380405 := ()
def tw2921404013099311186 := ()
def tw4188794390031488142 := ()
def tw13687010399503007443 := ()
def tw8241630143047829671 := ()
def tw12258166223600913243 := ()
def tw15478024670626350645 := ()
def tw5555757465493067078 := ()
def tw3527262732503666035 := ()
def tw16628600782113372946 := ()
def tw3463747684589561609 := ()
def tw17813458068898287082 := ()
def tw7967587296672946333 := ()
def tw14017554626431755487 := ()
def tw824168909986858983 := ()
def tw12118964406701381902 := ()
def tw9499130214491640475 := ()
def tw15238780685595577203 := ()
def tw12625868022974340473 := ()
def tw14365309469141606001 := ()
def tw2910308280664208127 := ()
def tw14580766455793338378 := ()
def tw14406052369594653712 := ()
def tw8584034452124963551 := ()
def tw5817278612599762092 := ()
def tw5248392840790441257 := ()
def tw5067708064824628841 := ()
def tw10288923429053706965 := ()
def tw3245326456049720106 := ()
def tw17053814571242292875 := ()
def tw12419110695092848233 := ()
def tw18064286349067944691 := ()
def tw14232444908735518815 := ()
def tw15271261740954909827 := ()
def tw5141478846909578319 := ()
def tw6941672356202788304 := ()
def tw16997516099520977754 := ()
def tw10391300006581947668 := ()
def tw333458571454082451 := ()
def tw5153061293160741386 := ()
def tw13548287499899424622 := ()
def tw4872621855449326869 := ()
def tw2657608817831945649 := ()
def tw7313906958345218360 := ()
def tw18006243397779119324 := ()
def tw10136669406663954676 := ()
def tw3474091051839865305 := ()
def tw12577436498541908191 := ()
def tw2152067641526772687 := ()
end PySem.W.Fast
open PySem PySem.W PyProof.Rows
set_option maxRecDepth 100000 in
set_option maxHeartbeats 0 in
theorem PySem.Challenge.cw_knotless_k27_net_calls_holds : PySem.Challenge.rw_knotless_k27_net_calls.Holds := by
  w_on; o_law; k_head; (case hw=>w_witness2)
  k_fill
  refine K27.walk (l:=PySem.Challenge.rw_knotless_k27_net_calls) rfl rfl rfl (fun w h Y=>PySem.W.kIn_of Y) ?F
  case F =>
    intro w mg h KX G
    refine' K27.txt_mk KX G ?aC_Town ?aC_Strands ?aC_Book ?aC_Net ?a_Booku_initu ?i_Booku_initu ?l_Booku_initu ?c_Booku_initu ?k_Booku_initu ?a_Book_notes ?i_Book_notes ?l_Book_notes ?c_Book_notes ?k_Book_notes ?a_Book_forget ?i_Book_forget ?l_Book_forget ?c_Book_forget ?k_Book_forget ?a_own_row ?l_own_row ?c_own_row ?k_own_row ?a_offer ?l_offer ?c_offer ?k_offer ?a_due ?l_due ?c_due ?k_due ?a_resting ?l_resting ?c_resting ?k_resting ?a_ups ?l_ups ?c_ups ?k_ups ?a_opens ?l_opens ?c_opens ?k_opens ?a_up_of ?l_up_of ?c_up_of ?k_up_of ?a_Townu_initu ?i_Townu_initu ?l_Townu_initu ?c_Townu_initu ?k_Townu_initu ?a_Town_name ?i_Town_name ?l_Town_name ?c_Town_name ?k_Town_name ?a_Town_rope ?i_Town_rope ?l_Town_rope ?c_Town_rope ?k_Town_rope ?a_Town_ropes_at ?i_Town_ropes_at ?l_Town_ropes_at ?c_Town_ropes_at ?k_Town_ropes_at ?a_Town_far_end ?i_Town_far_end ?l_Town_far_end ?c_Town_far_end ?k_Town_far_end ?a_Town_lets ?i_Town_lets ?l_Town_lets ?c_Town_lets ?k_Town_lets ?a_check_names ?l_check_names ?c_check_names ?k_check_names ?a_check_ropes ?l_check_ropes ?c_check_ropes ?k_check_ropes ?a_check_rope ?l_check_rope ?c_check_rope ?k_check_rope ?a_joins_two ?l_joins_two ?c_joins_two ?k_joins_two ?a_Strandsu_initu ?i_Strandsu_initu ?l_Strandsu_initu ?c_Strandsu_initu ?k_Strandsu_initu ?a_Strands_fall ?i_Strands_fall ?l_Strands_fall ?c_Strands_fall ?k_Strands_fall ?a_Strands_standing ?i_Strands_standing ?l_Strands_standing ?c_Strands_standing ?k_Strands_standing ?a_Strands_live ?i_Strands_live ?l_Strands_live ?c_Strands_live ?k_Strands_live ?a_wires_of ?l_wires_of ?c_wires_of ?k_wires_of ?a_check_group ?l_check_group ?c_check_group ?k_check_group ?a_Netu_initu ?i_Netu_initu ?l_Netu_initu ?c_Netu_initu ?k_Netu_initu ?a_Net_rows ?i_Net_rows ?l_Net_rows ?c_Net_rows ?k_Net_rows ?a_Net_live ?i_Net_live ?l_Net_live ?c_Net_live ?k_Net_live ?a_Net_opens ?i_Net_opens ?l_Net_opens ?c_Net_opens ?k_Net_opens ?a_Net_notes ?i_Net_notes ?l_Net_notes ?c_Net_notes ?k_Net_notes ?a_Net_resting ?i_Net_resting ?l_Net_resting ?c_Net_resting ?k_Net_resting ?a_Net_row_at ?i_Net_row_at ?l_Net_row_at ?c_Net_row_at ?k_Net_row_at ?a_Net_call ?i_Net_call ?l_Net_call ?c_Net_call ?k_Net_call ?a_Net_fall ?i_Net_fall ?l_Net_fall ?c_Net_fall ?k_Net_fall ?a_Net_place ?i_Net_place ?l_Net_place ?c_Net_place ?k_Net_place ?a_Net_had ?i_Net_had ?l_Net_had ?c_Net_had ?k_Net_had ?a_Net_flying ?i_Net_flying ?l_Net_flying ?c_Net_flying ?k_Net_flying ?a_Net_lose_copies ?i_Net_lose_copies ?l_Net_lose_copies ?c_Net_lose_copies ?k_Net_lose_copies ?a_Net_take_news ?i_Net_take_news ?l_Net_take_news ?c_Net_take_news ?k_Net_take_news ?a_Net_take_news_of_rope ?i_Net_take_news_of_rope ?l_Net_take_news_of_rope ?c_Net_take_news_of_rope ?k_Net_take_news_of_rope ?a_Net_check_house ?i_Net_check_house ?l_Net_check_house ?c_Net_check_house ?k_Net_check_house ?a_Net_check_caller ?i_Net_check_caller ?l_Net_check_caller ?c_Net_check_caller ?k_Net_check_caller ?a_first_rows ?l_first_rows ?c_first_rows ?k_first_rows ?a_check_callers ?l_check_callers ?c_check_callers ?k_check_callers ?a_w_cell_at ?l_w_cell_at ?c_w_cell_at ?k_w_cell_at ?a_w_whole ?l_w_whole ?c_w_whole ?k_w_whole ?a_w_list ?l_w_list ?c_w_list ?k_w_list ?a_w_names ?l_w_names ?c_w_names ?k_w_names ?a_w_ropes ?l_w_ropes ?c_w_ropes ?k_w_ropes ?a_w_callers ?l_w_callers ?c_w_callers ?k_w_callers ?a_w_live ?l_w_live ?c_w_live ?k_w_live ?a_w_due ?l_w_due ?c_w_due ?k_w_due ?a_w_rows_same ?l_w_rows_same ?c_w_rows_same ?k_w_rows_same ?a_w_opens ?l_w_opens ?c_w_opens ?k_w_opens ?a_w_first ?l_w_first ?c_w_first ?k_w_first ?a_w_look ?l_w_look ?c_w_look ?k_w_look ?a_law ?l_law ?c_law ?k_law ?pg_Town ?hd_Town ?po_Town ?sa_Town ?mk_Town ?kc_Town ?nA_Town_house_names ?nA_Town_rope_tuples ?nA_Town_size ?nA_Town_many ?pg_Strands ?hd_Strands ?po_Strands ?sa_Strands ?mk_Strands ?kc_Strands ?nA_Strands_town ?nA_Strands_upright ?pg_Book ?hd_Book ?po_Book ?sa_Book ?mk_Book ?kc_Book ?nA_Book_kept ?pg_Net ?hd_Net ?po_Net ?sa_Net ?mk_Net ?kc_Net ?nA_Net_town ?nA_Net_strands ?nA_Net_rows_by_group ?nA_Net_books ?nA_Net_homes ?nA_Net_groups ?nA_Net_handed ?nA_Net_letters ?nA_Net_copies ?al_opens_opens ?al_resting_rows ?aX_NoWire ?xex_NoWire ?xga_NoWire ?xgb_NoWire ?xhd_NoWire ?xca_NoWire ?xcg_NoWire ?xct_NoWire ?xmo_NoWire ?xmb_NoWire ?aX_NoGroup ?xex_NoGroup ?xga_NoGroup ?xgb_NoGroup ?xhd_NoGroup ?xca_NoGroup ?xcg_NoGroup ?xct_NoGroup ?xmo_NoGroup ?xmb_NoGroup ?g_MOST_HOUSES ?g_MOST_ROPES ?g_MOST_WIRES ?g_ALL_GROUPS ?g_MOST_CALLERS ?g_GROUP_BITS ?o_GROUP_BITS ?z_len ?z_isinstance ?z_int ?z_bool ?z_list ?z_tuple ?z_range ?z_enumerate ?z_min ?z_set ?z_all ?z_sorted ?z_zip
    (case aC_Town=>k_is)
    (case aC_Strands=>k_is)
    (case aC_Book=>k_is)
    (case aC_Net=>k_is)
    (case a_Booku_initu=>k_is)
    (case i_Booku_initu=>k_is)
    (case l_Booku_initu=>k_is)
    (case c_Booku_initu=>k_is)
    (case k_Booku_initu=>k_is)
    (case a_Book_notes=>k_is)
    (case i_Book_notes=>k_is)
    (case l_Book_notes=>k_is)
    (case c_Book_notes=>k_is)
    (case k_Book_notes=>k_is)
    (case a_Book_forget=>k_is)
    (case i_Book_forget=>k_is)
    (case l_Book_forget=>k_is)
    (case c_Book_forget=>k_is)
    (case k_Book_forget=>k_is)
    (case a_own_row=>k_is)
    (case l_own_row=>k_is)
    (case c_own_row=>k_is)
    (case k_own_row=>k_is)
    (case a_offer=>k_is)
    (case l_offer=>k_is)
    (case c_offer=>k_is)
    (case k_offer=>k_is)
    (case a_due=>k_is)
    (case l_due=>k_is)
    (case c_due=>k_is)
    (case k_due=>k_is)
    (case a_resting=>k_is)
    (case l_resting=>k_is)
    (case c_resting=>k_is)
    (case k_resting=>k_is)
    (case a_ups=>k_is)
    (case l_ups=>k_is)
    (case c_ups=>k_is)
    (case k_ups=>k_is)
    (case a_opens=>k_is)
    (case l_opens=>k_is)
    (case c_opens=>k_is)
    (case k_opens=>k_is)
    (case a_up_of=>k_is)
    (case l_up_of=>k_is)
    (case c_up_of=>k_is)
    (case k_up_of=>k_is)
    (case a_Townu_initu=>k_is)
    (case i_Townu_initu=>k_is)
    (case l_Townu_initu=>k_is)
    (case c_Townu_initu=>k_is)
    (case k_Townu_initu=>k_is)
    (case a_Town_name=>k_is)
    (case i_Town_name=>k_is)
    (case l_Town_name=>k_is)
    (case c_Town_name=>k_is)
    (case k_Town_name=>k_is)
    (case a_Town_rope=>k_is)
    (case i_Town_rope=>k_is)
    (case l_Town_rope=>k_is)
    (case c_Town_rope=>k_is)
    (case k_Town_rope=>k_is)
    (case a_Town_ropes_at=>k_is)
    (case i_Town_ropes_at=>k_is)
    (case l_Town_ropes_at=>k_is)
    (case c_Town_ropes_at=>k_is)
    (case k_Town_ropes_at=>k_is)
    (case a_Town_far_end=>k_is)
    (case i_Town_far_end=>k_is)
    (case l_Town_far_end=>k_is)
    (case c_Town_far_end=>k_is)
    (case k_Town_far_end=>k_is)
    (case a_Town_lets=>k_is)
    (case i_Town_lets=>k_is)
    (case l_Town_lets=>k_is)
    (case c_Town_lets=>k_is)
    (case k_Town_lets=>k_is)
    (case a_check_names=>k_is)
    (case l_check_names=>k_is)
    (case c_check_names=>k_is)
    (case k_check_names=>k_is)
    (case a_check_ropes=>k_is)
    (case l_check_ropes=>k_is)
    (case c_check_ropes=>k_is)
    (case k_check_ropes=>k_is)
    (case a_check_rope=>k_is)
    (case l_check_rope=>k_is)
    (case c_check_rope=>k_is)
    (case k_check_rope=>k_is)
    (case a_joins_two=>k_is)
    (case l_joins_two=>k_is)
    (case c_joins_two=>k_is)
    (case k_joins_two=>k_is)
    (case a_Strandsu_initu=>k_is)
    (case i_Strandsu_initu=>k_is)
    (case l_Strandsu_initu=>k_is)
    (case c_Strandsu_initu=>k_is)
    (case k_Strandsu_initu=>k_is)
    (case a_Strands_fall=>k_is)
    (case i_Strands_fall=>k_is)
    (case l_Strands_fall=>k_is)
    (case c_Strands_fall=>k_is)
    (case k_Strands_fall=>k_is)
    (case a_Strands_standing=>k_is)
    (case i_Strands_standing=>k_is)
    (case l_Strands_standing=>k_is)
    (case c_Strands_standing=>k_is)
    (case k_Strands_standing=>k_is)
    (case a_Strands_live=>k_is)
    (case i_Strands_live=>k_is)
    (case l_Strands_live=>k_is)
    (case c_Strands_live=>k_is)
    (case k_Strands_live=>k_is)
    (case a_wires_of=>k_is)
    (case l_wires_of=>k_is)
    (case c_wires_of=>k_is)
    (case k_wires_of=>k_is)
    (case a_check_group=>k_is)
    (case l_check_group=>k_is)
    (case c_check_group=>k_is)
    (case k_check_group=>k_is)
    (case a_Netu_initu=>k_is)
    (case i_Netu_initu=>k_is)
    (case l_Netu_initu=>k_is)
    (case c_Netu_initu=>k_is)
    (case k_Netu_initu=>k_is)
    (case a_Net_rows=>k_is)
    (case i_Net_rows=>k_is)
    (case l_Net_rows=>k_is)
    (case c_Net_rows=>k_is)
    (case k_Net_rows=>k_is)
    (case a_Net_live=>k_is)
    (case i_Net_live=>k_is)
    (case l_Net_live=>k_is)
    (case c_Net_live=>k_is)
    (case k_Net_live=>k_is)
    (case a_Net_opens=>k_is)
    (case i_Net_opens=>k_is)
    (case l_Net_opens=>k_is)
    (case c_Net_opens=>k_is)
    (case k_Net_opens=>k_is)
    (case a_Net_notes=>k_is)
    (case i_Net_notes=>k_is)
    (case l_Net_notes=>k_is)
    (case c_Net_notes=>k_is)
    (case k_Net_notes=>k_is)
    (case a_Net_resting=>k_is)
    (case i_Net_resting=>k_is)
    (case l_Net_resting=>k_is)
    (case c_Net_resting=>k_is)
    (case k_Net_resting=>k_is)
    (case a_Net_row_at=>k_is)
    (case i_Net_row_at=>k_is)
    (case l_Net_row_at=>k_is)
    (case c_Net_row_at=>k_is)
    (case k_Net_row_at=>k_is)
    (case a_Net_call=>k_is)
    (case i_Net_call=>k_is)
    (case l_Net_call=>k_is)
    (case c_Net_call=>k_is)
    (case k_Net_call=>k_is)
    (case a_Net_fall=>k_is)
    (case i_Net_fall=>k_is)
    (case l_Net_fall=>k_is)
    (case c_Net_fall=>k_is)
    (case k_Net_fall=>k_is)
    (case a_Net_place=>k_is)
    (case i_Net_place=>k_is)
    (case l_Net_place=>k_is)
    (case c_Net_place=>k_is)
    (case k_Net_place=>k_is)
    (case a_Net_had=>k_is)
    (case i_Net_had=>k_is)
    (case l_Net_had=>k_is)
    (case c_Net_had=>k_is)
    (case k_Net_had=>k_is)
    (case a_Net_flying=>k_is)
    (case i_Net_flying=>k_is)
    (case l_Net_flying=>k_is)
    (case c_Net_flying=>k_is)
    (case k_Net_flying=>k_is)
    (case a_Net_lose_copies=>k_is)
    (case i_Net_lose_copies=>k_is)
    (case l_Net_lose_copies=>k_is)
    (case c_Net_lose_copies=>k_is)
    (case k_Net_lose_copies=>k_is)
    (case a_Net_take_news=>k_is)
    (case i_Net_take_news=>k_is)
    (case l_Net_take_news=>k_is)
    (case c_Net_take_news=>k_is)
    (case k_Net_take_news=>k_is)
    (case a_Net_take_news_of_rope=>k_is)
    (case i_Net_take_news_of_rope=>k_is)
    (case l_Net_take_news_of_rope=>k_is)
    (case c_Net_take_news_of_rope=>k_is)
    (case k_Net_take_news_of_rope=>k_is)
    (case a_Net_check_house=>k_is)
    (case i_Net_check_house=>k_is)
    (case l_Net_check_house=>k_is)
    (case c_Net_check_house=>k_is)
    (case k_Net_check_house=>k_is)
    (case a_Net_check_caller=>k_is)
    (case i_Net_check_caller=>k_is)
    (case l_Net_check_caller=>k_is)
    (case c_Net_check_caller=>k_is)
    (case k_Net_check_caller=>k_is)
    (case a_first_rows=>k_is)
    (case l_first_rows=>k_is)
    (case c_first_rows=>k_is)
    (case k_first_rows=>k_is)
    (case a_check_callers=>k_is)
    (case l_check_callers=>k_is)
    (case c_check_callers=>k_is)
    (case k_check_callers=>k_is)
    (case a_w_cell_at=>k_is)
    (case l_w_cell_at=>k_is)
    (case c_w_cell_at=>k_is)
    (case k_w_cell_at=>k_is)
    (case a_w_whole=>k_is)
    (case l_w_whole=>k_is)
    (case c_w_whole=>k_is)
    (case k_w_whole=>k_is)
    (case a_w_list=>k_is)
    (case l_w_list=>k_is)
    (case c_w_list=>k_is)
    (case k_w_list=>k_is)
    (case a_w_names=>k_is)
    (case l_w_names=>k_is)
    (case c_w_names=>k_is)
    (case k_w_names=>k_is)
    (case a_w_ropes=>k_is)
    (case l_w_ropes=>k_is)
    (case c_w_ropes=>k_is)
    (case k_w_ropes=>k_is)
    (case a_w_callers=>k_is)
    (case l_w_callers=>k_is)
    (case c_w_callers=>k_is)
    (case k_w_callers=>k_is)
    (case a_w_live=>k_is)
    (case l_w_live=>k_is)
    (case c_w_live=>k_is)
    (case k_w_live=>k_is)
    (case a_w_due=>k_is)
    (case l_w_due=>k_is)
    (case c_w_due=>k_is)
    (case k_w_due=>k_is)
    (case a_w_rows_same=>k_is)
    (case l_w_rows_same=>k_is)
    (case c_w_rows_same=>k_is)
    (case k_w_rows_same=>k_is)
    (case a_w_opens=>k_is)
    (case l_w_opens=>k_is)
    (case c_w_opens=>k_is)
    (case k_w_opens=>k_is)
    (case a_w_first=>k_is)
    (case l_w_first=>k_is)
    (case c_w_first=>k_is)
    (case k_w_first=>k_is)
    (case a_w_look=>k_is)
    (case l_w_look=>k_is)
    (case c_w_look=>k_is)
    (case k_w_look=>k_is)
    (case a_law=>k_is)
    (case l_law=>k_is)
    (case c_law=>k_is)
    (case k_law=>k_is)
    (case pg_Town=>k_is)
    (case hd_Town=>k_is)
    (case po_Town=>k_is)
    (case sa_Town=>k_is)
    (case mk_Town=>k_is)
    (case kc_Town=>k_is)
    (case nA_Town_house_names=>k_is)
    (case nA_Town_rope_tuples=>k_is)
    (case nA_Town_size=>k_is)
    (case nA_Town_many=>k_is)
    (case pg_Strands=>k_is)
    (case hd_Strands=>k_is)
    (case po_Strands=>k_is)
    (case sa_Strands=>k_is)
    (case mk_Strands=>k_is)
    (case kc_Strands=>k_is)
    (case nA_Strands_town=>k_is)
    (case nA_Strands_upright=>k_is)
    (case pg_Book=>k_is)
    (case hd_Book=>k_is)
    (case po_Book=>k_is)
    (case sa_Book=>k_is)
    (case mk_Book=>k_is)
    (case kc_Book=>k_is)
    (case nA_Book_kept=>k_is)
    (case pg_Net=>k_is)
    (case hd_Net=>k_is)
    (case po_Net=>k_is)
    (case sa_Net=>k_is)
    (case mk_Net=>k_is)
    (case kc_Net=>k_is)
    (case nA_Net_town=>k_is)
    (case nA_Net_strands=>k_is)
    (case nA_Net_rows_by_group=>k_is)
    (case nA_Net_books=>k_is)
    (case nA_Net_homes=>k_is)
    (case nA_Net_groups=>k_is)
    (case nA_Net_handed=>k_is)
    (case nA_Net_letters=>k_is)
    (case nA_Net_copies=>k_is)
    (case al_opens_opens=>k_is)
    (case al_resting_rows=>k_is)
    (case aX_NoWire=>k_is)
    (case xex_NoWire=>k_exc)
    (case xga_NoWire=>k_is)
    (case xgb_NoWire=>k_is)
    (case xhd_NoWire=>k_is)
    (case xca_NoWire=>k_is)
    (case xcg_NoWire=>k_is)
    (case xct_NoWire=>k_is)
    (case xmo_NoWire=>k_is)
    (case xmb_NoWire=>k_is)
    (case aX_NoGroup=>k_is)
    (case xex_NoGroup=>k_exc)
    (case xga_NoGroup=>k_is)
    (case xgb_NoGroup=>k_is)
    (case xhd_NoGroup=>k_is)
    (case xca_NoGroup=>k_is)
    (case xcg_NoGroup=>k_is)
    (case xct_NoGroup=>k_is)
    (case xmo_NoGroup=>k_is)
    (case xmb_NoGroup=>k_is)
    (case g_MOST_HOUSES=>k_is)
    (case g_MOST_ROPES=>k_is)
    (case g_MOST_WIRES=>k_is)
    (case g_ALL_GROUPS=>k_is)
    (case g_MOST_CALLERS=>k_is)
    (case g_GROUP_BITS=>k_is)
    (case o_GROUP_BITS=>k_is)
    (case z_len=>k_is)
    (case z_isinstance=>k_is)
    (case z_int=>k_is)
    (case z_bool=>k_is)
    (case z_list=>k_is)
    (case z_tuple=>k_is)
    (case z_range=>k_is)
    (case z_enumerate=>k_is)
    (case z_min=>k_is)
    (case z_set=>k_is)
    (case z_all=>k_is)
    (case z_sorted=>k_is)
    (case z_zip=>k_is)
#print axioms PySem.Challenge.cw_knotless_k27_net_calls_holds
